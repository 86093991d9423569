import PyProof.Rows.All
import Wide.All
import OpenK.KLine
import OpenK.KOwn
import Wide.FinOn
import Lean
import PyProof.EqAt
import PyProof.EqKinds
import PyProof.TupleCall
import KE.KMinKey
import KE.KSortTup
import KE.KRevSl
import KE.KStateDown
import PyProof.Rows.Range3
import KE.KDictOf
import PyProof.AttrMissSeq
import KE.KRevIter
import KE.KItemsList
import KE.KPairComp
import KE.KEqDict
import KE.KDictSum
import KE.RegKIsAll
import PySem.Challenge.RW_depot_k73_whole_walks_by_the_rule
set_option Elab.async false
set_option linter.all false
set_option maxRecDepth 100000
set_option maxHeartbeats 4000000
open Bool renaming and_eq_true->aj,not_eq_true'->bx,false_ne_true->jg,false_eq_true->pq,or_eq_true->yh
open PySem renaming wpAny_bind->ak,wpAny_pure->dh
open PySem.Heap renaming get?_push_of_some->ao,lt_size->cg,get?_push_size->cj,get?_update_other->iw,get?_update_self->nu,size_push->qj,SameBut->qy,ExtBut->wj,MadeExcOf->yt
open List renaming getElem?_eq_getElem->aq,getElem?_eq_some_iff->bh,size_toArray->bw,length_map->dg,mem_map->dw,all_eq_true->gj,length_append->gk,range->gq,mem_cons_of_mem->gw,mem_append_right->ig,map_append->iu,mem_cons->iy,mem_of_getElem?->iz,map_cons->jd,mem_singleton->je,getElem?_append_left->jf,append_assoc->ji,length_cons->jl,mem_append->jo,getElem?_set_ne->jq,append_nil->jr,drop_eq_getElem_cons->jt,getElem?_map->ju,nodup_cons->jz,lookup_cons->kh,getElem?_append_right->kj,map_map->lg,map_congr_left->mj,length_take->mz,replicate->oh,mem_append_left->qd,mem_range->qu,take_of_length_le->qx,all_cons->qz,getD_eq_getElem?_getD->rm,take_length->tu,any_cons->uc,mem_cons_self->uf,find?_cons->ug,nil_append->uh,map_nil->uq,dropLast_concat_getLast->ur,length_pos_iff->vd,mem_filter->vf,getLastD_eq_getLast?->vg,mem_filterMap->vh,getElem?_cons_zero->vq,reverse_cons->wg,getElem?_set_self->wu,drop_eq_nil_of_le->wz,filter_cons->xg,cons_append->xq,length_singleton->xr,length_nil->yd,filterMap_cons->yp,filter_eq_self->yq
open Nat renaming le_refl->au,lt_of_lt_of_le->fj,ne_of_lt->gb,lt_irrefl->jm,le_trans->nj,le_of_lt->qb,ne_of_gt->uo,zero_le->ux,le_of_eq->vm,min_eq_left->yg
open PySem.W renaming Frag->cu,nsIn->jc,mg_none_of->jh,excIn->jj,clsIn->jw,keepIn->jy,emptyDict->lq,kia_one->mq,findIn->ni,mg_of->nq,typeIn->ou,fnOf->qe,subIn->qg,kitOne->qw,instObj->ud,codeIn->vp,Hook->xu,hideAll->yc
open Option renaming some->dj,none->um,isSome_iff_exists->vo
open Int renaming toNat_natCast->su,natCast_add->yj
open Array renaming getElem?_eq_some_iff->uw
namespace Law
open PySem PySem.W PyProof.Rows
def wX (n:Nat):Stmt:=PySem.Challenge.pw_depot_k73_whole_walks_by_the_rule.main.body.getD n (.Pass ⟨0,0,0,0⟩)
def frQ:Program:={ PySem.Challenge.pw_depot_k73_whole_walks_by_the_rule with main:={ PySem.Challenge.pw_depot_k73_whole_walks_by_the_rule.main with body:=[wX 1,wX 2,wX 3,wX 5,wX 6,wX 7,wX 8,wX 10,wX 11,wX 12,wX 13,wX 15,wX 17,wX 18,wX 19,wX 20,wX 21,wX 22,wX 23,wX 24,wX 25,wX 26,wX 28,wX 29,wX 30,wX 31,wX 32,wX 33,wX 34,wX 35,wX 36,wX 37] } }
theorem frB {p q:Program} {loose:List Str} {Xt:Shared->Bool} {α:Type} {Yf:Shared->α} {Ya:World->α} {N:Nat} {g0:Bool}
    (e:opening p=plainProg p.main.scope.names) (hN:Nat.ble 600 N=true) (f:∀ s,fenceModules? p s=some s)
    (h:∀ (w:World) (os:OsState),(topFrom treeTable p w N ⟨boot_heap w.params,#[],boot_drawn,boot_toks,os⟩).map (fun s=>(openSeen q loose (importedModules p.main.body) Xt g0 s,Yf s))=some (openGood q loose,Ya w)) :
    LeftO p q loose Xt Yf Ya N g0:=fun w=>by
  obtain ⟨⟨h1,gs,d,k,os⟩,e1,e'⟩:=Option.map_eq_some_iff.mp (boot_open e hN f w);obtain ⟨rfl,rfl,rfl,rfl⟩:h1=boot_heap w.params/\gs=#[]/\d=boot_drawn/\k=boot_toks:=by simpa using e'
  unfold openEnds;rw [e1];exact h w os
abbrev frX:Shared->Bool:=fun s=>xlAt frQ [] s&&recOk (RowW.records (OpenRow.toRowW (OpenLaw.row PySem.Challenge.rw_depot_k73_whole_walks_by_the_rule))) s
end Law
local macro_rules
  | `(tactic| o_head $H)=>`(tactic| refine PySem.W.holds_open (q:=Law.frQ) (loose:=[]) (Xt:=Law.frX) (XP:=PySem.W.XL Law.frQ []) (Yf:=xu.obs $H) (Ya:=xu.val $H)
      (YP:=xu.says $H) (N:=3084) ?hl (xu.of $H) (xu.keeps $H) (fun s e=>PySem.W.xl_of s (Bool.and_eq_true_iff.mp e).1) PySem.W.XL.keeps (by rfl) (by rfl) (by rfl)
      (fun s e=>PySem.W.recFacts_of (Bool.and_eq_true_iff.mp e).2) (by rfl) (by first | assumption | decide +kernel) (by decide +kernel) ⟨rfl,rfl,rfl,rfl,rfl,by decide +kernel⟩ ?hw ?hc)
open PySem PySem.W in
theorem Law.frK (h0:∀ {α:Type} (Yf:Shared->α) (Ya:World->α),LeftO (OpenLaw.row PySem.Challenge.rw_depot_k73_whole_walks_by_the_rule).prog Law.frQ [] Law.frX Yf Ya 3084)
    (h1:∀ YP d,WalkO Law.frQ [] (XL Law.frQ []) YP (OpenRow.toRowW (OpenLaw.row PySem.Challenge.rw_depot_k73_whole_walks_by_the_rule)) d [] (fun f vs=>PySem.call f vs)):OpenLaw.Holds PySem.Challenge.rw_depot_k73_whole_walks_by_the_rule:=by
  w_on;o_law;k_head
  case hl=>exact h0 _ _
  case hw=>w_witness2
  exact h1 _ _
abbrev Law.frA:List Nat:=[2,3,15,22,23,24,25,28,35,36,37,40,47,48,49,52,54,55,57,58,59,61,62,64,65,66,68,69,71,72,73,75,76,78,79,80,82,83,85,86,87,89,90,92,93,94,95,98,99,100,102,103,105,106,107,109,110,112,113,114,116,117,119,120,121,123,124,126,127,128,130,131,133,134,135,137,138,140,141,142,144,145,147,148,149,151,152,154,155,156,158,159,161,162,163,165,166,168,169,170,172,173,175,176,177,179,180,182,183,184,186,187,189,190,191,193,194,196,197,198,200,201,203,204,205,207,208,210,211,212,215,216,217,220,221]
theorem Law.frE:∀ P,Law.frA=(Law.frK.heap_39 P).map (·.1):=fun _=>by kernel_rfl
open PySem PySem.W in
theorem Law.frL:LeftO (OpenLaw.row PySem.Challenge.rw_depot_k73_whole_walks_by_the_rule).prog Law.frQ [] Law.frX (Hook.obs (kHook Law.frK.heap_39 Law.frA Law.frE)) (Hook.val (kHook Law.frK.heap_39 Law.frA Law.frE)) 3084 :=
  Law.frB (by kernel_rfl) (by kernel_rfl) (fun s=>by kernel_rfl) (fun w os=>by kernel_rfl)
namespace L2
open PySem PySem.Spec PyProof.Rows
variable {h:Heap}{a b it l:Addr}{o:Obj}{vs:Array Value}{i:Nat}{Q:Unit->Shared->Prop}{us:List Value}{x:Str}
section
structure Tr (B:Heap) (x:Addr) (C fl:Value) (h:Heap):Prop where
  ex:∃ (o:Obj) (vs:Array Value) (T:Addr) (oT:Obj) (ts:Array Value),h.get? x=some o/\o.cls=C/\o.data = .fields vs/\vs[1]?=some (.ref T)/\vs[2]?=some .none/\B.get? T=none/\T≠x/\h.get? T=some oT/\oT.data = .fields ts/\ts[3]?=some fl
structure adH (B:Heap) (l:List Env) (x:Addr) (C fl:Value) (h:Heap):Prop where
  stays:B.StaysIn h
  new:B.get? x=none
  aDX:h.FunFrames B l
  tr:Tr B x C fl h
abbrev Fly (B:Heap) (l:List Env) (x:Addr) (C:Value) (h:Heap):Prop:=adH B l x C .none h
variable {v:Value}
section
variable {M:Model} {A:Around} {E:Value->Shared->Prop} {s:Shared} {B:Heap} {l:List Env} {env:Env} {outer:List Env} {L x:Addr} {C fl:Value}
theorem lB (e:h.get? a=some o) (d:o.data = .fields vs) :
    (h.update a (Obj.mapFields (·.setIfInBounds i v))).get? a=some (Obj.mapFields (·.setIfInBounds i v) o)/\(Obj.mapFields (·.setIfInBounds i v) o).data = .fields (vs.setIfInBounds i v)/\(Obj.mapFields (·.setIfInBounds i v) o).cls=o.cls /\
    (∀ b,b≠a->(h.update a (Obj.mapFields (·.setIfInBounds i v))).get? b=h.get? b):=by
  have d':=Obj.data_mapFields d (·.setIfInBounds i v);exact ⟨nu _ e (Obj.isFreed_of_fields d'),d',Obj.cls_mapFields _ _,fun b hb=>iw _ _ (Ne.symm hb)⟩
theorem wA {u:Obj} (e:h.get? a=some o) (d:o.data = .fields vs) (e2:h.get? b=some u) (n:∀ ws,u.data ≠ .fields ws):b≠a:=fun q=>by
  subst q;rw [e] at e2;cases e2;exact n vs d
theorem afI (f:adH B l x C fl s.heap) (h:∀ h',Fly B l x C h'->s.heap.UpToSlots h'->Q () { s with heap:=h' }):wpAny M A (setFlight (.ref x) none) Q E s:=by
  obtain ⟨st,nw,fu,⟨o,vs,T,oT,ts,e1,e2,e3,e4,e5,e6,e7,e8,e9,e10⟩⟩:=f;unfold setFlight;refine ak (wpAny_field e1 e3 e4 ?_);rw [if_pos (by simp)];have l3:3 < ts.size:=(uw.mp e10).1;obtain ⟨u1,u2,u3,u4⟩:=lB (i:=3) (v:=(none:Option Addr).elim Value.none fun f=>rawInt f) e8 e9;refine wpAny_setField e8 e9 l3 (h _ ⟨fun b u q=>?_,nw,fu.of_keeps fun b u q n=>⟨u,(u4 b (wA e8 e9 q n)).trans q,rfl⟩,⟨o,vs,T,_,_,(u4 x (Ne.symm e7)).trans e1,e2,e3,e4,e5,e6,e7,u1,u2,?_⟩⟩ fun b u q n=>⟨u.slots,(u4 b (wA e8 e9 q n)).trans q⟩)
  . exact (u4 b fun z=>by subst z;rw [e6] at q;cases q).trans (st b u q)
  . simp [l3]
theorem aaG {head:Value} {hadNext:Bool} (hfr:A.frames=some (env :: outer)) (hf:env.frame=some L) (st:B.StaysIn s.heap) (nw:B.get? x=none) (fu:s.heap.FunFrames B (env :: outer)) (e1:s.heap.get? x=some o) (e2:o.cls=C) (e3:o.data = .fields vs) (e4:1 < vs.size) (e5:vs[2]?=some .none)
    (h:∀ h',adH B (env :: outer) x C (rawInt L) h'->s.heap.UpToSlots h'->Q () { s with heap:=h' }) :
    wpAny M A (do let a ← frameOf env;let pl ← entryPlaceOf L hadNext;let b ← EntryCells.newEntry head a .none (rawInt L) .none pl;setField (.ref x) 1 b) Q E s:=by
  have nf:x ∉ (env :: outer).filterMap (·.frame):=fun m=>by
    obtain ⟨_,u,hu,hn⟩:=fu.mem m;rw [e1] at hu;cases hu;exact hn vs e3
  refine ak (wpAny_frameOf_fun hfr fu hf fun k so=>ak (wpAny_entryPlaceOf fun pl hpl=>?_));unfold EntryCells.newEntry newFields;refine ak (wpAny_newObj_type ?_ (hpl.sizeOk5 _ _ _ _ _));have k1:k.get? x=some o:=(so.2.1 x nf).trans e1;have tne:k.objs.size≠x:=fun z=>absurd (cg k1) (by rw [z];exact jm _);have kB:∀ b u,B.get? b=some u->k.get? b=some u:=fun b u q=>(so.2.1 b fun m=>by rw [(fu.mem m).1] at q;cases q).trans (st b u q);generalize hT:({ cls := .type "traceback",dict:=none,data := .fields ([head,.ref L,.none,rawInt L,.none]++(if pl.isEmpty then oh 6 Value.none else pl)).toArray }:Obj)=oT;have p1:(k.push oT).get? x=some o:=ao _ k1;obtain ⟨u1,u2,u3,u4⟩:=lB (i:=1) (v := .ref k.objs.size) p1 e3;have keep:∀ b u,b≠x->k.get? b=some u->((k.push oT).update x (Obj.mapFields (·.setIfInBounds 1 (.ref k.objs.size)))).get? b=some u:=fun b u n q=>(u4 b n).trans (ao _ q)
  have pT:(k.push oT).get? k.objs.size=some oT:=by
    subst hT;exact cj k rfl
  refine wpAny_setField p1 e3 e4 (h _ ⟨fun b u q=>keep b u (fun z=>by subst z;rw [nw] at q;cases q) (kB b u q),nw,fu.of_keeps fun b u q n=>?_,⟨_,_,k.objs.size,oT,_,u1,u3.trans e2,u2,?_,?_,?_,tne,(u4 _ tne).trans pT,by rw [← hT],?_⟩⟩ fun b u q n=>?_)
  . obtain ⟨sl,z⟩:=so.2.2 b u q;exact ⟨_,keep b _ (wA e1 e3 q n) z,rfl⟩
  . simp [e4]
  . rw [Array.getElem?_setIfInBounds_ne (by decide)];exact e5
  . cases q:B.get? k.objs.size with
    | none=>rfl
    | some u=>exact absurd (cg (kB _ u q)) (jm _)
  . first | (simp;done) | (rcases hpl with rfl | ⟨_,_,_,_,_,_,_,rfl⟩ <;> simp)
  . obtain ⟨sl,z⟩:=so.2.2 b u q;exact ⟨sl,keep b _ (wA e1 e3 q n) z⟩
theorem anV (hfr:A.frames=some (env :: outer)) (hf:env.frame=some L) (f:Fly B (env :: outer) x C s.heap) (h:∀ h',adH B (env :: outer) x C (rawInt L) h'->s.heap.UpToSlots h'->Q () { s with heap:=h' }):wpAny M A (noteFrame (.ref x) env) Q E s:=by
  obtain ⟨st,nw,fu,⟨o,vs,T,oT,ts,e1,e2,e3,e4,e5,e6,e7,e8,e9,e10⟩⟩:=f;unfold noteFrame;simp only [hf];refine ak (wpAny_field e1 e3 e4 ?_);rw [if_pos (by simp)];refine ak (wpAny_field e8 e9 e10 ?_);rw [if_neg (by simp [rawInt])];have l3:3 < ts.size:=(uw.mp e10).1;obtain ⟨u1,u2,u3,u4⟩:=lB (i:=3) (v := .none) e8 e9;refine ak (wpAny_setField e8 e9 l3 ?_);refine aaG hfr hf (fun b u q=>(u4 b fun z=>by subst z;rw [e6] at q;cases q).trans (st b u q)) nw (fu.of_keeps fun b u q n=>⟨u,(u4 b (wA e8 e9 q n)).trans q,rfl⟩) ((u4 x (Ne.symm e7)).trans e1) e2 e3 (uw.mp e4).1 e5 fun h' f' up=>h h' f' ?_;exact fun b u q n=>up b u ((u4 b (wA e8 e9 q n)).trans q) n
theorem adH.tail (f:adH B (env :: outer) x C fl h):adH B outer x C fl h:=by
  obtain ⟨st,nw,⟨_,_,fu⟩,tr⟩:=f;exact ⟨st,nw,fu,tr⟩
theorem aj9 (hfr:A.frames=some (env :: outer)) (hf:env.frame=some L) (f:Fly B (env :: outer) x C s.heap) (h:∀ h',Fly B outer x C h'->s.heap.UpToSlots h'->Q () { s with heap:=h' }):wpAny M A (leaving env (.ref x)) Q E s:=by
  unfold leaving;refine ak (anV hfr hf f fun h1 f1 up1=>afI f1 fun h2 f2 up2=>?_);exact h h2 f2.tail (up1.trans up2)
theorem adI {h0:Heap} (hfr:A.frames=some (env :: outer)) (hf:env.frame=some L) (st:B.StaysIn h0) (fu:h0.FunFrames B (env :: outer)) (hm:yt h0 s.heap x C us) (h:∀ h',Fly B outer x C h'->s.heap.UpToSlots h'->Q () { s with heap:=h' }):wpAny M A (leaving env (.ref x)) Q E s:=by
  obtain ⟨t,e1,_,_⟩:=hm.there;unfold leaving noteFrame;simp only [hf];refine ak (ak (wpAny_field (vs:=#[.ref t,.none,.none,.none,.bool false,.none]) (i:=1) e1 rfl rfl ?_));rw [if_neg (by simp)]
  have nw:B.get? x=none:=by
    cases q:B.get? x with
    | none=>rfl
    | some u=>have:=st x u q;rw [hm.new] at this;cases this
  refine aaG hfr hf (fun b u q=>hm.keeps b u (st b u q)) nw (fu.of_keeps fun b u q _=>⟨u,hm.keeps b u q,rfl⟩) e1 rfl rfl (by simp) rfl fun h1 f1 up1=>afI f1 fun h2 f2 up2=>?_;exact h h2 f2.tail (up1.trans up2)
end
def a5Y (A:Around) (h:Heap):Prop:=A.handled=none∨∃ x o vs,A.handled=some (.ref x)/\h.get? x=some o/\o.data = .fields vs/\vs[2]?=some .none
theorem a5Z:entryFor table "proto.unchain" = some Builtin.«proto.unchain» := entryFor_of_fast (by kernel_rfl)
variable {Q:Option Value->Shared->Prop}
section
variable {prog:Program} {w:World} {A:Around} {E:Value->Shared->Prop} {s:Shared}
theorem ahF {α:Type} {Q:α->Shared->Prop} {oa:Obj} {ws:Array Value} (hq:a5Y A s.heap) (ea:s.heap.get? a=some oa) (da:oa.data = .fields ws) (la:2 < ws.size) (na:∀ x,A.handled=some (.ref x)->x≠a)
    (h:∀ h',(∀ b,b≠a->h'.get? b=s.heap.get? b)->(∃ o,h'.get? a=some o/\o.cls=oa.cls)->E (.ref a) { s with heap:=h' }):wpAny (model prog w) A (raiseNew (.ref a):Sem α) Q E s:=by
  unfold raiseNew;refine ak (wpAny_handled ?_);rcases hq with hn | ⟨x,o,vs,hx,ex,dx,vx⟩
  . rw [hn];exact ak (dh (wpAny_throw (h s.heap (fun _ _=>rfl) ⟨oa,ea,rfl⟩)))
  . rw [hx];have ne:=na x hx;show wpAny (model prog w) _ (if ((Value.ref x) != (Value.ref a))=true then _ else _) _ _ _;rw [if_pos (by simpa using ne)];refine ak (wpAny_holding (wpAny_runValue (codeAny_builtin a5Z ?_)));show wpAny (model prog w) _ (field (.ref x) 2 >>= _) _ _ _;refine ak (wpAny_field ex dx vx ?_);show wpAny (model prog w) _ (if ((Value.none:Value) == Value.none)=true then _ else _) _ _ _;rw [if_pos (by decide)];refine ak (dh (dh ?_));obtain ⟨u1,u2,u3,u4⟩:=lB (i:=2) (v := .ref x) ea da;show wpAny (model prog w) _ (setField (.ref a) 2 (.ref x) >>= _) _ _ _;exact ak (wpAny_setField ea da la (wpAny_throw (h _ u4 ⟨_,u1,u3⟩)))
theorem lZ {α:Type} {Q:α->Shared->Prop} (hq:a5Y A s.heap) (h:∀ a h',(∀ b o,s.heap.get? b=some o->h'.get? b=some o)->(∃ o,h'.get? a=some o/\o.cls = .type "StopIteration")->E (.ref a) { s with heap:=h' }) :
    wpAny (model prog w) A (newExc (.type "StopIteration") [] >>= fun e=>(raiseNew e:Sem α)) Q E s:=by
  refine ak ?_;unfold newExc newTuple;refine ak (wpAny_newObj_type (ak (wpAny_of_eq (a:=Value.none) (by simp only [firstArgMember];rfl) (wpAny_newObj_type ?_ (by size_fits)))) (by size_fits));generalize hh:s.heap.push { cls := .type "tuple",data := .seq ([]:List Value).toArray }=h1;generalize ho:({ cls := .type "StopIteration",data := .fields (#[.ref s.heap.objs.size,.none,.none,.none,.bool false,.none]++ownMembersOf (.type "StopIteration") []) }:Obj)=o1;have k1:∀ b o,s.heap.get? b=some o->(h1.push o1).get? b=some o:=fun b o e=>ao _ (hh ▸ ao _ e)
  have ea:(h1.push o1).get? h1.objs.size=some o1:=by
    subst ho;exact cj h1 rfl
  have old:∀ b o,s.heap.get? b=some o->b≠h1.objs.size:=fun b o e z=>by
    have l1:b < h1.objs.size:=by
      rw [← hh,qj];exact Nat.lt_succ_of_lt (cg e)
    exact absurd l1 (by rw [z];exact jm _)
  refine ahF (ws:=#[.ref s.heap.objs.size,.none,.none,.none,.bool false,.none]++ownMembersOf (.type "StopIteration") []) ?_ ea (by rw [← ho]) (by simp [ownMembersOf]) (fun x hx=>?_) fun h' k c=>h h1.objs.size h' (fun b o e=>(k b (old b o e)).trans (k1 b o e)) ?_
  . rcases hq with z | ⟨x,o,vs,a1,a2,a3⟩
    . exact .inl z
    . exact .inr ⟨x,o,vs,a1,k1 _ _ a2,a3⟩
  . rcases hq with z | ⟨x',o,vs,a1,a2,a3⟩
    . rw [z] at hx;cases hx
    . rw [a1] at hx;cases hx;exact old _ _ a2
  . obtain ⟨o,e,c⟩:=c;exact ⟨o,e,by rw [c,← ho]⟩
theorem pP {T id:String} {b:Builtin} (slot:Slot T (Str.ofString "__next__") id) (entry:entryFor table id=some b) (hT:s.TypeIs (.ref it) T) (args:argsOk id ⟨[.ref it],[]⟩)
    (hb:wpAny (model prog w) A.in1 (b ⟨[.ref it],[]⟩) (fun _ _=>False) (fun e s'=>∃ a o,e = .ref a/\s'.heap.get? a=some o/\o.cls = .type "StopIteration" /\ Q none s') s):wpAny (model prog w) A (pyNext (.ref it)) Q E s:=by
  unfold pyNext;refine ak (wpAny_attempt (wpAny_callSpecial?_slot hT slot (wpAny_call_entry slot hT entry (wpAny_mono hb (fun _ _ z=>z.elim) fun e s' z=>?_) args)));obtain ⟨a,o,rfl,e1,e2,q⟩:=z;exact ak (wpAny_isInstance (T := "StopIteration") (b:=true) ⟨o,e1,e2⟩ isSubtype_stop (dh q))
theorem a2L (hq:a5Y A s.heap) (e:s.heap.get? it=some o) (d:o.data = .fields vs) (l:vs[2]?≠some .none):a5Y A (s.heap.update it (Obj.mapFields (·.setIfInBounds i v))):=by
  rcases hq with z | ⟨x,ox,ws,a1,a2,a3,a4⟩
  . exact .inl z
  . refine .inr ⟨x,ox,ws,a1,?_,a3,a4⟩
    have ne:x≠it:=fun z=>by
      subst z;rw [e] at a2;cases a2;rw [d] at a3;cases a3;exact l a4
    exact ((lB e d).2.2.2 x ne).trans a2
theorem ahG {items:Array Value} (hq:a5Y A s.heap) (hit:s.heap.IsListIter it l i) (hl:s.heap.IsList l items) (hx:items[i]?=none)
    (h:∀ h',wj it s.heap h'->Q none { s with heap:=h' }):wpAny (model prog w) A (pyNext (.ref it)) Q E s:=by
  obtain ⟨o,e1,c1,d1⟩:=id hit;obtain ⟨ol,e2,_,nl,d2⟩:=hl;refine pP slot_listiter_next entry_listiter_next hit.typeIs (args_listiter_next _) ?_;show wpAny (model prog w) _ (field (.ref it) 0 >>= _) _ _ s;refine ak (wpAny_field e1 d1 (x := .ref l) rfl ?_);show wpAny (model prog w) _ (field (.ref it) 1 >>= _) _ _ s;refine ak (wpAny_field e1 d1 (x := .int i 0) rfl ?_);show wpAny (model prog w) _ (seqItems? (.ref l) >>= _) _ _ s;refine ak (wpAny_seqItems e2 d2 ?_);simp only [hx,su];refine ak (wpAny_rule (ak (wpAny_setField e1 d1 (by simp) ?_)));refine lZ (A:=A.in1) (a2L hq e1 d1 (by simp)) fun a h' k c=>?_;obtain ⟨oa,ea,ca⟩:=c;exact ⟨a,oa,rfl,ea,ca,h h' fun b ob n e=>k b ob (((lB e1 d1).2.2.2 b n).trans e)⟩
theorem ajA {items:Array Value} (hq:a5Y A s.heap) (hit:s.heap.IsTupleIter it l i) (hl:s.heap.IsTuple l items) (hx:items[i]?=none)
    (h:∀ h',wj it s.heap h'->Q none { s with heap:=h' }):wpAny (model prog w) A (pyNext (.ref it)) Q E s:=by
  obtain ⟨o,e1,c1,d1⟩:=id hit;obtain ⟨ol,e2,_,nl,d2⟩:=hl;refine pP F.slot_tuple_iterator_next F.entry_tuple_iterator_next hit.typeIs (F.args_tuple_iterator_next_1 _) ?_;show wpAny (model prog w) _ (field (.ref it) 0 >>= _) _ _ s;refine ak (wpAny_field e1 d1 (x := .ref l) rfl ?_);show wpAny (model prog w) _ (field (.ref it) 1 >>= _) _ _ s;refine ak (wpAny_field e1 d1 (x := .int i 0) rfl ?_);show wpAny (model prog w) _ (seqItems? (.ref l) >>= _) _ _ s;refine ak (wpAny_seqItems e2 d2 ?_);simp only [hx,su];refine ak (wpAny_rule (ak (wpAny_setField e1 d1 (by simp) ?_)));refine lZ (A:=A.in1) (a2L hq e1 d1 (by simp)) fun a h' k c=>?_;obtain ⟨oa,ea,ca⟩:=c;exact ⟨a,oa,rfl,ea,ca,h h' fun b ob n e=>k b ob (((lB e1 d1).2.2.2 b n).trans e)⟩
theorem ajB {x left step:Int} (hq:a5Y A s.heap) (hit:IsRangeIter s.heap it x left step) (hleft:left<=0)
    (h:∀ h',wj it s.heap h'->Q none { s with heap:=h' }):wpAny (model prog w) A (pyNext (.ref it)) Q E s:=by
  refine pP F.slot_range_iterator_next F.entry_range_iterator_next ⟨_,hit,rfl⟩ (F.args_range_iterator_next_1 _) ?_;show wpAny (model prog w) _ (field (.ref it) 0 >>= _) _ _ s;refine ak (wpAny_field hit rfl (i:=0) rfl ?_);show wpAny (model prog w) _ (field (.ref it) 1 >>= _) _ _ s;refine ak (wpAny_field hit rfl (i:=1) rfl ?_);show wpAny (model prog w) _ (field (.ref it) 2 >>= _) _ _ s;refine ak (wpAny_field hit rfl (i:=2) rfl ?_);show wpAny (model prog w) _ (if left<=0 then _ else _) _ _ s;rw [if_pos hleft];refine ak (wpAny_rule (ak ?_));refine lZ (A:=A.in1) hq fun a h' k c=>?_;obtain ⟨oa,ea,ca⟩:=c;exact ⟨a,oa,rfl,ea,ca,h h' fun b ob n e=>k b ob e⟩
theorem ahH {t:Tok} (hq:a5Y A s.heap) (hit:s.heap.IsStrIter it "str_ascii_iterator" x t i) (hx:x.cps[i]?=none)
    (h:∀ h',wj it s.heap h'->Q none { s with heap:=h' }):wpAny (model prog w) A (pyNext (.ref it)) Q E s:=by
  obtain ⟨o,e1,c1,d1⟩:=id hit;refine pP F.slot_str_ascii_iterator_next F.entry_str_ascii_iterator_next hit.typeIs (F.args_str_ascii_iterator_next_1 _) ?_;show wpAny (model prog w) _ (field (.ref it) 0 >>= _) _ _ s;refine ak (wpAny_field e1 d1 (x := .str x t) rfl ?_);show wpAny (model prog w) _ (field (.ref it) 1 >>= _) _ _ s;refine ak (wpAny_field e1 d1 (x := .int i 0) rfl ?_);simp only [hx,su];refine ak (wpAny_rule (ak (wpAny_setField e1 d1 (by simp) (ak (wpAny_letGo ?_)))));refine lZ (A:=A.in1) (a2L hq e1 d1 (by simp)) fun a h' k c=>?_;obtain ⟨oa,ea,ca⟩:=c;exact ⟨a,oa,rfl,ea,ca,h h' fun b ob n e=>k b ob (((lB e1 d1).2.2.2 b n).trans e)⟩
theorem ahI {t:Tok} (hq:a5Y A s.heap) (hit:s.heap.IsStrIter it "str_iterator" x t i) (hx:x.cps[i]?=none)
    (h:∀ h',wj it s.heap h'->Q none { s with heap:=h' }):wpAny (model prog w) A (pyNext (.ref it)) Q E s:=by
  obtain ⟨o,e1,c1,d1⟩:=id hit;refine pP F.slot_str_iterator_next F.entry_str_iterator_next hit.typeIs (F.args_str_iterator_next_1 _) ?_;show wpAny (model prog w) _ (field (.ref it) 0 >>= _) _ _ s;refine ak (wpAny_field e1 d1 (x := .str x t) rfl ?_);show wpAny (model prog w) _ (field (.ref it) 1 >>= _) _ _ s;refine ak (wpAny_field e1 d1 (x := .int i 0) rfl ?_);simp only [hx,su];refine ak (wpAny_rule (ak (wpAny_setField e1 d1 (by simp) (ak (wpAny_letGo ?_)))));refine lZ (A:=A.in1) (a2L hq e1 d1 (by simp)) fun a h' k c=>?_;obtain ⟨oa,ea,ca⟩:=c;exact ⟨a,oa,rfl,ea,ca,h h' fun b ob n e=>k b ob (((lB e1 d1).2.2.2 b n).trans e)⟩
end
end
section
abbrev Key:=Sum Int Str
def a3E:Key->Value->Bool
  | .inl k,v=>Value.isInt k v
  | .inr x,v=>Value.isStrOf x v
def aDZ (w:World):Key->Int
  | .inl k=>hashInt k
  | .inr x=>hashStr w x
theorem cF:∀ {k:Key} {v:Value},a3E k v=true->(∃ i t,k=Sum.inl i/\v=Value.int i t)∨(∃ x t,k=Sum.inr x/\v=Value.str x t)
  | .inl i,v,h=>by
    obtain ⟨t,e⟩:=Value.isInt_shape (k:=i) (v:=v) h;exact .inl ⟨i,t,rfl,e⟩
  | .inr x,v,h=>by
    obtain ⟨t,e⟩:=Value.isStrOf_shape (x:=x) (v:=v) h;exact .inr ⟨x,t,rfl,e⟩
theorem ahJ (i:Int) (t:Tok):a3E (.inl i) (.int i t)=true:=by simp [a3E,Value.isInt]
theorem ahK (x:Str) (t:Tok):a3E (.inr x) (.str x t)=true:=by simp [a3E,Value.isStrOf]
theorem au6 (a b:Int):decide ((Sum.inl a:Key)=Sum.inl b)=(a == b):=by
  by_cases e:a=b
  . subst e;simp
  . have h:¬ (Sum.inl a:Key)=Sum.inl b:=fun q=>e (Sum.inl.inj q);rw [decide_eq_false h];exact (beq_eq_false_iff_ne.mpr e).symm
theorem au7 (a b:Str):decide ((Sum.inr a:Key)=Sum.inr b)=decide (a=b):=by
  by_cases e:a=b
  . subst e;simp
  . have h:¬ (Sum.inr a:Key)=Sum.inr b:=fun q=>e (Sum.inr.inj q);rw [decide_eq_false h,decide_eq_false e]
theorem au8 (a:Int) (b:Str):decide ((Sum.inl a:Key)=Sum.inr b)=false:=decide_eq_false (fun q=>nomatch q)
theorem au9 (a:Str) (b:Int):decide ((Sum.inr a:Key)=Sum.inl b)=false:=decide_eq_false (fun q=>nomatch q)
def bA (prog:Program) (w:World):PySem.KeyKind prog w Key where
  is:=a3E
  hash:=aDZ w
  inj:=fun v a b ha hb=>by
    rcases cF ha with ⟨i,t,rfl,rfl⟩ | ⟨x,t,rfl,rfl⟩
    . rcases cF hb with ⟨j,u,rfl,e⟩ | ⟨y,u,rfl,e⟩
      . injection e with e1 _;rw [e1]
      . exact nomatch e
    . rcases cF hb with ⟨j,u,rfl,e⟩ | ⟨y,u,rfl,e⟩
      . exact nomatch e
      . injection e with e1 _;rw [e1]
  byValue:=fun k v h=>by
    rcases cF h with ⟨i,t,rfl,rfl⟩ | ⟨x,t,rfl,rfl⟩ <;> rfl
  pyHash:=fun hv h=>by
    rcases cF hv with ⟨i,t,rfl,rfl⟩ | ⟨x,t,rfl,rfl⟩
    . exact wpAny_pyHash_int h
    . exact wpAny_pyHash_str h
  eqBool:=fun hu hv h=>by
    rcases cF hu with ⟨i,t,rfl,rfl⟩ | ⟨x,t,rfl,rfl⟩
    . rcases cF hv with ⟨j,u,rfl,rfl⟩ | ⟨y,u,rfl,rfl⟩
      . rw [au6] at h;exact wpAny_eqBool_int h
      . rw [au8] at h;exact SeqAt.EqAt.int_str i t y u _ _ _ _ h
    . rcases cF hv with ⟨j,u,rfl,rfl⟩ | ⟨y,u,rfl,rfl⟩
      . rw [au9] at h;exact SeqAt.EqAt.str_int x t j u _ _ _ _ h
      . rw [au7] at h;exact wpAny_eqBool_str h
  «strs» := fun k x t v h=>by
    rcases cF h with ⟨i,u,rfl,e⟩ | ⟨y,u,rfl,e⟩
    . exact nomatch e
    . injection e with e1 _;subst e1;cases v <;> rfl
theorem aaH (prog:Program) (w:World) (i:Int) (t:Tok):(bA prog w).is (.inl i) (.int i t)=true:=ahJ i t
theorem aaI (prog:Program) (w:World) (x:Str) (t:Tok):(bA prog w).is (.inr x) (.str x t)=true:=ahK x t
end
variable {P:Program}
section
inductive V where
  | non | bl (b:Bool) | int (i:Int) | str (x:Str) | byt (b:Array UInt8) | flt (b:UInt64) | ref (a:Addr) | ty (n:String)
  deriving DecidableEq
def RelV:V->Value->Prop
  | .non,u=>u=Value.none
  | .bl b,u=>u=Value.bool b
  | .int i,u=>∃ t,u=Value.int i t
  | .str x,u=>∃ t,u=Value.str x t
  | .byt b,u=>∃ t,u=Value.bytes b t
  | .flt b,u=>∃ t,u=Value.float b t
  | .ref a,u=>u=Value.ref a
  | .ty n,u=>u=Value.type n
abbrev Vals:List V->List Value->Prop:=Paired RelV
theorem Vals.length {xs:List V} {us:List Value} (r:Vals xs us):xs.length=us.length:=Paired.length r
theorem Vals.get:∀ {xs:List V} {us:List Value} {i:Nat} {x:V},Vals xs us->xs[i]?=some x->∃ u,us[i]?=some u/\RelV x u
  | _,_,_,_,.nil,e=>by simp at e
  | _,_,0,_,.cons r _,e=>by simp at e;subst e;exact ⟨_,rfl,r⟩
  | _,_,i+1,x,.cons _ t,e=>by
    obtain ⟨u,h1,h2⟩:=Vals.get (i:=i) (x:=x) t (by simpa using e);exact ⟨u,by simpa using h1,h2⟩
theorem Vals.set {x:V} {u:Value} (r:RelV x u):∀ {xs:List V} {us:List Value} (i:Nat),Vals xs us->Vals (xs.set i x) (us.set i u)
  | _,_,_,.nil => .nil
  | _,_,0,.cons _ t => .cons r t
  | _,_,i+1,.cons q t => .cons q (Vals.set r i t)
theorem Vals.append:∀ {xs ys:List V} {us ws:List Value},Vals xs us->Vals ys ws->Vals (xs++ys) (us++ws)
  | _,_,_,_,.nil,s=>s
  | _,_,_,_,.cons r t,s => .cons r (Vals.append t s)
theorem Vals.take:∀ {xs:List V} {us:List Value} (n:Nat),Vals xs us->Vals (xs.take n) (us.take n)
  | _,_,0,_ => .nil
  | _,_,_+1,.nil => .nil
  | _,_,n+1,.cons r t => .cons r (Vals.take n t)
theorem Vals.drop:∀ {xs:List V} {us:List Value} (n:Nat),Vals xs us->Vals (xs.drop n) (us.drop n)
  | _,_,0,r=>r
  | _,_,_+1,.nil => .nil
  | _,_,n+1,.cons _ t=>Vals.drop n t
def a1Y:Option V->Option Value->Prop
  | some v,some u=>RelV v u
  | none,none=>True
  | _,_=>False
def KV {κ:Type}:List (κ×V)->List (κ×Value)->Prop:=Paired fun (p:κ×V) (q:κ×Value)=>p.1=q.1/\RelV p.2 q.2
def kV:Key->V
  | .inl i => .int i
  | .inr x => .str x
inductive HO where
  | lst (xs:List V)
  | tup (xs:List V)
  | dK (kvs:List (Key×V)) | dT (kvs:List (List Key×V))
  | set (S:Int->Bool) (n:Nat)
  | ins (C dx:Addr) (fs:List (Str×V))
  | own (x:Addr)
  | xd (fs:List (Str×V))
  | met (f x:Addr)
  | rng (lo hi:Int)
  | lC (o:Obj) (u:HO)
  | tbl (ps:Array Value)
  | ext (φ:Heap->Prop)
abbrev Hp:=Addr->Option HO
def upd (H:Hp) (a:Addr) (o:HO):Hp:=fun b=>if b=a then some o else H b
variable {H:Hp}
theorem aN {o:HO}:upd H a o a=some o:=by unfold upd;rw [if_pos rfl]
theorem aW {o:HO} (h:b≠a):upd H a o b=H b:=by unfold upd;rw [if_neg h]
variable {u:HO}
theorem asA {o:HO} (h:H a=some o) (h':H b=some u) (d:o≠u):a≠b:=by
  intro e;subst e;rw [h] at h';exact d (dj.inj h')
theorem iZ {o:HO} (h:H a=some o) (h':H b=none):a≠b:=by
  intro e;subst e;rw [h] at h';cases h'
section
variable (P:Program) (w:World)
def cY (H:Hp) (h:Heap) (a:Addr):HO->Prop
  | .lst xs=>xs.length<=sizeLine/\∃ (its:List Value) (n:Nat),Vals xs its/\h.get? a=some { cls := .type "list",data := .seq its.toArray n }
  | .tup xs=>xs.length<=sizeLine/\∃ its:List Value,Vals xs its/\IsTup h a its.toArray
  | .dK kvs=>kvs.length<=sizeLine/\(a == sysModules)=false/\∃ vs,KV kvs vs/\h.DictOf (bA P w) a vs
  | .dT kvs=>kvs.length<=sizeLine/\(a == sysModules)=false/\∃ xs:List (List Key×Addr×Value),
      Paired (fun (p:List Key×V) (q:List Key×Addr×Value)=>p.1=q.1/\H q.2.1=some (.tup (p.1.map kV))/\RelV p.2 q.2.2) kvs xs /\
      ∃ o es ep,h.get? a=some o/\o.ExactDict/\o.data = .dict es ep/\es.toList=xs.map (entryOfKey (tupleKind (bA P w)))/\(xs.map (·.1)).Nodup
  | .set S n=>h.SetOf (intKind P w) a S n
  | .ins C dx fs=>H dx=some (.own a)/\fs.length<=1000/\dx≠a/\h.get? a=some (ud C dx) /\
      ∃ mA,h.Ns1 dx mA/\(∀ f,a1Y (fs.lookup f) (mA f))/\PySem.Within mA (fs.map (·.1))
  | .own _=>∃ o,h.get? a=some o
  | .xd fs=>∃ mA,h.Ns1 a mA/\∀ f,a1Y (fs.lookup f) (mA f)
  | .rng lo hi=>∃ t u v,h.get? a=some { cls := .type "range",data := .fields #[.int lo t,.int hi u,.int 1 v] }
  | .lC o u=>h.get? a=some o/\cY H h a u
  | .tbl ps=>h.get? a=some { cls := .none,data := .fields ps }
  | .met f x=>h.get? a=some (PySem.W.methodObj (.ref f) (.ref x))
  | .ext φ=>φ h/\(∃ o,h.get? a=some o)/\∀ h1 h2:Heap,φ h1->(∀ o,h1.get? a=some o->h2.get? a=some o)->φ h2
def wY (H:Hp) (h:Heap):Prop:=∀ a o,H a=some o->cY P w H h a o
end
section
variable {P:Program} {w:World} {H H':Hp} {h h':Heap} {a:Addr} {o:HO}
theorem cY.lt (x:cY P w H h a o):a < h.objs.size:=by
  cases o with
  | lst xs=>obtain ⟨_,_,_,_,e⟩:=x;exact cg e
  | tup xs=>obtain ⟨_,_,_,p⟩:=x;exact p.lt
  | dK kvs=>obtain ⟨_,_,_,_,o,_,_,e,_⟩:=x;exact cg e
  | dT kvs=>obtain ⟨_,_,_,_,o,_,_,e,_⟩:=x;exact cg e
  | set S n=>obtain ⟨o,_,_,_,e,_⟩:=x;exact cg e
  | ins C dx fs=>obtain ⟨_,_,_,e,_⟩:=x;exact cg e
  | own y=>obtain ⟨_,e⟩:=x;exact cg e
  | xd fs=>obtain ⟨_,⟨_,_,_,e,_⟩,_⟩:=x;exact cg e
  | rng lo hi=>obtain ⟨_,_,_,e⟩:=x;exact cg e
  | lC ob u=>obtain ⟨e,_⟩:=x;exact cg e
  | tbl ps=>exact cg (show h.get? a=some _ from x)
  | met f y=>exact cg (show h.get? a=some _ from x)
  | ext φ=>obtain ⟨_,⟨_,e⟩,_⟩:=x;exact cg e
theorem Paired.auA {α β:Type} {F G:α->β->Prop}:∀ {l₁:List α} {l₂:List β},Paired F l₁ l₂->(∀ a b,F a b->G a b)->Paired G l₁ l₂
  | _,_,.nil,_ => .nil
  | _,_,.cons r t,f => .cons (f _ _ r) (Paired.auA t f)
theorem cY.stay (x:cY P w H h a o) (k:∀ b u,(b=a∨H b=some (.own a))->h.get? b=some u->h'.get? b=some u)
    (ho:∀ b,H b=some (.own a)->H' b=some (.own a)) (ht:∀ b xs,H b=some (.tup xs)->H' b=some (.tup xs)):cY P w H' h' a o:=by
  induction o with
  | lst xs=>obtain ⟨z,its,n,r,e⟩:=x;exact ⟨z,its,n,r,k _ _ (.inl rfl) e⟩
  | tup xs=>obtain ⟨z,its,r,ob,e,c⟩:=x;exact ⟨z,its,r,ob,k _ _ (.inl rfl) e,c⟩
  | dK kvs=>obtain ⟨z,y,vs,r,ob,es,ep,e,c⟩:=x;exact ⟨z,y,vs,r,ob,es,ep,k _ _ (.inl rfl) e,c⟩
  | dT kvs =>
    obtain ⟨z,y,xs,r,ob,es,ep,e,c⟩:=x;exact ⟨z,y,xs,Paired.auA r fun p q z=>⟨z.1,ht _ _ z.2.1,z.2.2⟩,ob,es,ep,k _ _ (.inl rfl) e,c⟩
  | set S n=>obtain ⟨ob,es,ep,t,e,c⟩:=x;exact ⟨ob,es,ep,t,k _ _ (.inl rfl) e,c⟩
  | ins C dx fs =>
    obtain ⟨d,z,ne,e,mA,⟨od,es,ep,e2,c⟩,r⟩:=x;exact ⟨ho _ d,z,ne,k _ _ (.inl rfl) e,mA,⟨od,es,ep,k _ _ (.inr d) e2,c⟩,r⟩
  | own y=>obtain ⟨ob,e⟩:=x;exact ⟨ob,k _ _ (.inl rfl) e⟩
  | xd fs=>obtain ⟨mA,⟨od,es,ep,e,c⟩,r⟩:=x;exact ⟨mA,⟨od,es,ep,k _ _ (.inl rfl) e,c⟩,r⟩
  | rng lo hi=>obtain ⟨t,u,v,e⟩:=x;exact ⟨t,u,v,k _ _ (.inl rfl) e⟩
  | lC ob u ih=>obtain ⟨e,q⟩:=x;exact ⟨k _ _ (.inl rfl) e,ih q⟩
  | tbl ps =>
    have e:h.get? a=some { cls := .none,data := .fields ps }:=x;show h'.get? a=some { cls := .none,data := .fields ps };exact k a _ (.inl rfl) e
  | met f y =>
    have e:h.get? a=some (PySem.W.methodObj (.ref f) (.ref y)):=x;show h'.get? a=some (PySem.W.methodObj (.ref f) (.ref y));exact k a _ (.inl rfl) e
  | ext φ=>obtain ⟨p,⟨o,e⟩,st⟩:=x;exact ⟨st _ _ p fun o q=>k _ _ (.inl rfl) q,⟨o,k _ _ (.inl rfl) e⟩,st⟩
theorem wY.lt (x:wY P w H h) (e:H a=some o):a < h.objs.size:=(x a o e).lt
theorem wY.fresh (x:wY P w H h) (e:h.objs.size<=a):H a=none:=by
  cases q:H a with
  | none=>rfl
  | some u=>exact absurd (fj (x.lt q) e) (jm _)
theorem wY.kept (x:wY P w H h) (k:∀ b u,h.get? b=some u->h'.get? b=some u):wY P w H h':=fun a o e =>
  (x a o e).stay (fun b u _ q=>k b u q) (fun _ q=>q) fun _ _ q=>q
theorem wY.laid (x:wY P w H h) (k:∀ b u,h.get? b=some u->h'.get? b=some u) (hp:h.objs.size<=a) (new:cY P w (upd H a o) h' a o):wY P w (upd H a o) h':=fun b u e=>by
  have hn:=x.fresh hp;by_cases hb:b=a
  . subst hb;rw [aN] at e;cases e;exact new
  . rw [aW hb] at e;exact (x b u e).stay (fun c v _ q=>k c v q) (fun c q=>by rw [aW (iZ q hn)];exact q) fun c xs q=>by rw [aW (iZ q hn)];exact q
end
def Rd (H:Hp) (a:Addr) (u:HO):Prop:=H a=some u∨∃ o,H a=some (.lC o u)
theorem Rd.of (h:H a=some u):Rd H a u := .inl h
theorem Rd.ok {w:World} (r:Rd H a u) (x:wY P w H h):cY P w H h a u:=by
  rcases r with r | ⟨o,r⟩
  . exact x a u r
  . obtain ⟨_,q⟩:=x a _ r;exact q
def Mut:Option HO->Prop
  | some (.lst _)=>True
  | some (.dK _)=>True
  | some (.dT _)=>True
  | some (.set _ _)=>True
  | some (.ins _ _ _)=>True
  | some (.ext _)=>True
  | _=>False
section
variable {P:Program} {w:World} {H:Hp} {h h':Heap} {x e:Addr} {o':HO}
theorem wY.write (ok:wY P w H h) (mu:Mut (H x)) (he:e=x∨H e=some (.own x)) (k:∀ b u,b≠e->h.get? b=some u->h'.get? b=some u) (heo:∃ u,h'.get? e=some u)
    (new:cY P w (upd H x o') h' x o'):wY P w (upd H x o') h':=fun b u q=>by
  have az6:∀ c y,H c=some (.own y)->c≠x:=fun c y r z=>by subst z;rw [r] at mu;exact mu
  have aE0:∀ c xs,H c=some (.tup xs)->c≠x:=fun c xs r z=>by subst z;rw [r] at mu;exact mu
  by_cases hb:b=x
  . subst hb;rw [aN] at q;cases q;exact new
  . rw [aW hb] at q;by_cases hbe:b=e
    . have q':H b=some (.own x):=by
        rcases he with z | z
        . exact absurd (hbe.trans z) hb
        . rw [hbe];exact z
      rw [q] at q';cases q';obtain ⟨v,hv⟩:=heo;exact ⟨v,by rw [hbe];exact hv⟩
    . refine (ok b u q).stay (fun c v hc r=>k c v ?_ r) (fun c r=>by rw [aW (az6 c b r)];exact r) fun c xs r=>by rw [aW (aE0 c xs r)];exact r
      rcases hc with rfl | hc
      . exact hbe
      . rintro rfl;rcases he with z | z
        . exact az6 c b hc z
        . rw [hc] at z;cases z;exact hb rfl
end
structure Un (fs ex:List Addr) (H H':Hp) (h h':Heap):Prop where
  keep:∀ b o,h.get? b=some o->H b=none->b ∉ fs->b ∉ ex->h'.get? b=some o
  slot:∀ b o,h.get? b=some o->H b=none->b∈fs->b ∉ ex->∃ sl,h'.get? b=some { o with slots:=sl }
  free:∀ b o,h.get? b=some o->H b=none->b ∉ ex->H' b=none
  there:∀ b o,h.get? b=some o->b ∉ ex->∃ o',h'.get? b=some o'
  tups:∀ b xs,H b=some (.tup xs)->H' b=some (.tup xs)
  j4:∀ b o u,H b=some (.lC o u)->H' b=some (.lC o u)
  rC:∀ b ps,H b=some (.tbl ps)->∃ more,H' b=some (.tbl (ps++more))
section
variable {fs fs' ex ex':List Addr} {H H1 H2:Hp} {h h1 h2 h':Heap} {a x e:Addr} {o:HO}
theorem Un.any (u:Un fs ex H H1 h h1) {ob:Obj} (q:h.get? b=some ob) (n:H b=none) (hx:b ∉ ex):∃ sl,h1.get? b=some { ob with slots:=sl }:=by
  by_cases hb:b∈fs
  . exact u.slot b ob q n hb hx
  . exact ⟨ob.slots,u.keep b ob q n hb hx⟩
theorem Un.trans (a:Un fs ex H H1 h h1) (b:Un fs ex H1 H2 h1 h2):Un fs ex H H2 h h2 where
  keep:=fun c ob q n hc hx=>b.keep c ob (a.keep c ob q n hc hx) (a.free c ob q n hx) hc hx
  slot:=fun c ob q n hc hx=>by
    obtain ⟨sl,e1⟩:=a.slot c ob q n hc hx;obtain ⟨sl',e2⟩:=b.slot c _ e1 (a.free c ob q n hx) hc hx;exact ⟨sl',e2⟩
  free:=fun c ob q n hx=>by
    obtain ⟨o',e1⟩:=a.there c ob q hx;exact b.free c o' e1 (a.free c ob q n hx) hx
  there:=fun c ob q hx=>by
    obtain ⟨o',e1⟩:=a.there c ob q hx;exact b.there c o' e1 hx
  tups:=fun c xs q=>b.tups c xs (a.tups c xs q)
  j4:=fun c ob xs q=>b.j4 c ob xs (a.j4 c ob xs q)
  rC:=fun c ps q=>by
    obtain ⟨m1,e1⟩:=a.rC c ps q;obtain ⟨m2,e2⟩:=b.rC c _ e1;exact ⟨m1++m2,by rw [e2,Array.append_assoc]⟩
theorem Un.kept (k:∀ b u,h.get? b=some u->h'.get? b=some u):Un fs ex H H h h' :=
  ⟨fun b ob q _ _ _=>k b ob q,fun b ob q _ _ _=>⟨ob.slots,k b ob q⟩,fun _ _ _ n _=>n,fun b ob q _=>⟨ob,k b ob q⟩,fun _ _ q=>q,fun _ _ _ q=>q,fun _ ps q=>⟨#[],by rw [q];simp⟩⟩
theorem Un.refl:Un fs ex H H h h:=Un.kept fun _ _ q=>q
theorem Un.laid (k:∀ b u,h.get? b=some u->h'.get? b=some u) (hp:h.objs.size<=a) (hn:H a=none):Un fs ex H (upd H a o) h h' where
  keep:=fun b u q _ _ _=>k b u q
  slot:=fun b u q _ _ _=>⟨u.slots,k b u q⟩
  free:=fun b u q n _=>by rw [aW (gb (fj (cg q) hp))];exact n
  there:=fun b u q _=>⟨u,k b u q⟩
  tups:=fun b xs q=>by rw [aW (iZ q hn)];exact q
  j4:=fun b u xs q=>by rw [aW (iZ q hn)];exact q
  rC:=fun b ps q=>⟨#[],by rw [aW (iZ q hn),q];simp⟩
theorem Un.write (mu:Mut (H x)) (he:e=x∨H e=some (.own x)) (k:∀ b u,b≠e->h.get? b=some u->h'.get? b=some u) (heo:∃ u,h'.get? e=some u):Un fs ex H (upd H x o) h h':=by
  have hx:∀ b,H b=none->b≠x:=fun b n z=>by subst z;rw [n] at mu;exact mu
  have hb:∀ b,H b=none->b≠e:=fun b n z=>by
    subst z;rcases he with r | r
    . exact hx b n r
    . rw [n] at r;cases r
  have hm:∀ b u,H b=some u->¬ Mut (some u)->b≠x:=fun b u q nm z=>by subst z;rw [q] at mu;exact nm mu
  refine ⟨fun b u q n _ _=>k b u (hb b n) q,fun b u q n _ _=>⟨u.slots,k b u (hb b n) q⟩,fun b u q n _=>by rw [aW (hx b n)];exact n,fun b u q _=>?_,
    fun b xs q=>by rw [aW (hm b _ q fun z=>z)];exact q,fun b u xs q=>by rw [aW (hm b _ q fun z=>z)];exact q,fun b ps q=>⟨#[],by rw [aW (hm b _ q fun z=>z),q];simp⟩⟩
  by_cases hbe:b=e
  . subst hbe;exact heo
  . exact ⟨u,k b u hbe q⟩
theorem Un.mono (u:Un fs ex H H1 h h1) (hs:∀ b∈fs,b∈fs') (hx:∀ b∈ex,b∈ex'):Un fs' ex' H H1 h h1 :=
  ⟨fun b ob q n hb he=>u.keep b ob q n (fun z=>hb (hs b z)) fun z=>he (hx b z),fun _ _ q n _ he=>u.any q n fun z=>he (hx _ z),fun b ob q n he=>u.free b ob q n fun z=>he (hx b z),fun b ob q he=>u.there b ob q fun z=>he (hx b z),u.tups,u.j4,u.rC⟩
end
def trk (h:Heap) (H:Hp):List Addr:=(gq h.objs.size).filter fun a=>(H a).isSome
def a82 (h:Heap) (H:Hp):Heap:=yc h (trk h H)
theorem ahL (h:Heap) (H:Hp):(a82 h H).objs.size=h.objs.size:=PySem.W.hideAll_size _ _
theorem ajC (e:h.get? b=some o) (n:H b=none):(a82 h H).get? b=some o :=
  PySem.W.hideAll_get _ e fun hm=>by
    have q:(H b).isSome=true:=(vf.mp hm).2;rw [n] at q;simp at q
theorem anW (e:(a82 h H).get? b=some o):h.get? b=some o/\H b=none:=by
  have e':h.get? b=some o:=PySem.W.of_hideAll (trk h H) e;refine ⟨e',?_⟩;cases q:H b with
  | none=>rfl
  | some x =>
    have hm:b∈trk h H:=vf.mpr ⟨qu.mpr (cg e'),by simp [q]⟩;have z:(a82 h H).get? b=none:=PySem.W.hideAll_none (trk h H) hm;rw [z] at e;cases e
def anY (g h:Heap) (L:Addr):List (Addr×Obj):=(gq h.objs.size).filterMap fun a=>if a=L∨(g.get? a).isSome=true then none else (h.get? a).map fun o=>(a,o)
def rest (g h:Heap) (L d:Addr):List (Addr×Obj):=(anY g h L).filter fun p=>decide (p.1≠d)
end
variable {v:V}{u:Value}{H H':Hp}{A:Around}{g':Array GenState}{t' j:Nat}{d':Drawn}{ch:List Addr}{N:List Str}{M:Model}{E:Value->Shared->Prop}{e:Expr}{s:Shared}
section
structure Mod (K:cu) (mg:Str->Option Value) (base:Heap):Prop where
  kin:K.In base
  glob:base.Ns mainGlobals mg
  blt:∃ mb,base.Ns builtinsNs mb/\∀ x:Str,x ≠ "__name__" -> mb x=bootBuiltins x
  nolimit:base.NoLimit
structure Cx where
  prog:Program
  w:World
  K:cu
  mg:Str->Option Value
  base:Heap
  A:Around
  N:List Str
  s₀:Shared
  H₀:Hp
  env:Env
  outer:List Env
  stack:List Env
  ex:List Addr
  fn:Str->Bool
  calm:Bool
  pn:List (Addr×Obj)
  tp:List (Addr×List V)
  xe:Value->Shared->Prop
def frs (l:List Env):List Addr:=l.filterMap (·.frame)
abbrev Cx.fs (X:Cx):List Addr:=frs X.outer
def Vis (sc:Scope) (x:Str):Prop:=sc.names.lookup x=some .local∨sc.names.lookup x=some .cell∨sc.names.lookup x=some .free
def Loc (sc:Scope) (x:Str):Prop:=sc.names.lookup x=some .local∨sc.names.lookup x=some .cell
def Look (env:Env) (h:Heap) (m:Str->Option Value) (x:Str) (u:Value):Prop :=
  (env.kindOf x=some .local/\m x=some u)∨((env.kindOf x=some .cell∨env.kindOf x=some .free)/\∃ c,env.cells.lookup x=some c/\h.IsCell c (some u))
structure Cx.Ok (X:Cx):Prop where
  mod:Mod X.K X.mg X.base
  kind:X.env.scope.kind = .function
  glob:X.env.globals=mainGlobals
  blt:X.env.builtins=builtinsNs
  above:X.s₀.heap.objs.size<=X.env.locals
  inj:∀ x y c,X.env.cells.lookup x=some c->X.env.cells.lookup y=some c->x=y
  has:∀ x,(X.env.kindOf x=some .cell∨X.env.kindOf x=some .free)->∃ c,X.env.cells.lookup x=some c
  cab:∀ x c,X.fn x=true->X.env.cells.lookup x=some c->X.s₀.heap.objs.size<=c
  hd:X.calm=true->X.A.handled=none
  frames:X.A.frames=some X.stack
  stk:X.stack=X.outer∨(X.stack=X.env :: X.outer/\X.env.frame=some X.env.locals)
  exf:∀ b∈X.ex,b≠X.env.locals/\∀ x c,X.env.cells.lookup x=some c->c≠b
  bs:∀ b o,X.base.get? b=some o->X.s₀.heap.get? b=some o/\X.H₀ b=none
  bsz:X.base.objs.size<=X.s₀.heap.objs.size
  aaJ:∀ b o,X.base.get? b=some o->b ∉ X.ex
  adJ:∀ b∈X.ex,b ∉ X.fs
  u0:X.s₀.heap.FunFrames X.base X.outer
  frf:∀ b∈X.fs,X.H₀ b=none
def Hnd (A:Around) (H:Hp):Prop:=A.handled=none∨∃ x o u vs,A.handled=some (.ref x)/\H x=some (.lC o u)/\o.data = .fields vs/\vs[2]?=some .none
theorem Hnd.mono (h:Hnd A H) (f:∀ b o u,H b=some (.lC o u)->H' b=some (.lC o u)):Hnd A H':=by
  rcases h with z | ⟨x,o,u,vs,a,b,c⟩
  . exact .inl z
  . exact .inr ⟨x,o,u,vs,a,f _ _ _ b,c⟩
theorem Hnd.heap {w:World} (q:Hnd A H) (hok:wY P w H h):a5Y A h:=by
  rcases q with z | ⟨x,o,u,vs,a,b,c⟩
  . exact .inl z
  . exact .inr ⟨x,o,vs,a,(hok x _ b).1,c⟩
structure Inv (X:Cx) (pins:List (Addr×Obj)) (σ:List (Option V)) (H:Hp) (s:Shared):Prop where
  ok:X.Ok
  os:s.os=X.s₀.os
  bare:AllBare s.gens
  base:Un X.fs X.ex X.H₀ H X.s₀.heap s.heap
  loc:∃ m,s.heap.Ns X.env.locals m/\∀ (i:Nat) (x:Str) (v:V),X.N[i]?=some x->σ[i]?=some (some v)->Vis X.env.scope x->∃ u,RelV v u/\Look X.env s.heap m x u
  cell:∀ x c,X.env.cells.lookup x=some c->∃ v,s.heap.IsCell c v
  free:H X.env.locals=none
  m6:∀ x c,X.env.cells.lookup x=some c->H c=none
  pin:∀ p∈X.pn++pins,s.heap.get? p.1=some p.2/\H p.1=none/\p.1≠X.env.locals/\p.1 ∉ X.fs/\∀ v,p.2.data ≠ .cell v
  hok:wY X.prog X.w H s.heap
  len:σ.length=X.N.length
  hnd:Hnd X.A H
  tup:∀ p∈X.tp,H p.1=some (.tup p.2)
section
variable {X:Cx} {pins:List (Addr×Obj)} {σ:List (Option V)} {H H':Hp} {s:Shared} {h':Heap}
theorem Cx.Ok.aE1 (ok:X.Ok) (e:X.base.get? b=some o):b ∉ X.fs:=fun hb=>by
  have:=(ok.u0.mem hb).1;rw [e] at this;cases this
theorem Inv.bs (I:Inv X pins σ H s):∀ b o,X.base.get? b=some o->s.heap.get? b=some o/\H b=none:=fun b o e =>
  ⟨I.base.keep b o (I.ok.bs b o e).1 (I.ok.bs b o e).2 (I.ok.aE1 e) (I.ok.aaJ b o e),I.base.free b o (I.ok.bs b o e).1 (I.ok.bs b o e).2 (I.ok.aaJ b o e)⟩
theorem Inv.bk (I:Inv X pins σ H s):∀ b o,X.base.get? b=some o->s.heap.get? b=some o:=fun b o e=>(I.bs b o e).1
theorem Inv.mod (I:Inv X pins σ H s):Mod X.K X.mg X.base:=I.ok.mod
theorem Inv.kIn (I:Inv X pins σ H s):X.K.In s.heap:=I.ok.mod.kin.keeps I.bk
theorem Inv.nolimit (I:Inv X pins σ H s):s.heap.NoLimit:=I.ok.mod.nolimit.keeps I.bk
theorem Inv.fr (I:Inv X pins σ H s):∃ m,Fr X.base X.env.locals s.heap m :=
  let ⟨m,hn,_⟩:=I.loc
  ⟨m,hn,I.bk,nj I.ok.bsz I.ok.above⟩
theorem Inv.lt (I:Inv X pins σ H s):X.env.locals < s.heap.objs.size:=let ⟨_,hn,_⟩:=I.loc;hn.lt
theorem Inv.sz (I:Inv X pins σ H s):X.s₀.heap.objs.size<=s.heap.objs.size:=nj I.ok.above (qb I.lt)
theorem Inv.aE2 (I:Inv X pins σ H s) (h:s.heap.objs.size<=a):a ∉ X.fs:=fun hb=>by
  obtain ⟨_,o,ho,_⟩:=I.ok.u0.mem hb;exact absurd (fj (cg ho) (nj I.sz h)) (jm _)
theorem Inv.cne (I:Inv X pins σ H s):∀ x c,X.env.cells.lookup x=some c->c≠X.env.locals:=fun x c e z=>by
  obtain ⟨v,o,ho,hd⟩:=I.cell x c e;obtain ⟨m,⟨o',es,ep,ho',hd',_⟩,_⟩:=I.loc;rw [z,ho'] at ho;cases ho;rw [hd'] at hd;cases hd
theorem Inv.u0 (I:Inv X pins σ H s):s.heap.FunFrames X.base X.outer:=by
  have all:∀ (l:List Env),(∀ b∈frs l,b∈X.fs)->X.s₀.heap.FunFrames X.base l->s.heap.FunFrames X.base l:=by
    intro l
    induction l with
    | nil=>intro _ _;trivial
    | cons env r ih =>
      intro hs hl;obtain ⟨hk,⟨L,o,hf,hn,ho,hd⟩,hr⟩:=hl;have hL:L∈X.fs:=hs L (by unfold frs;rw [yp,hf];exact uf);obtain ⟨sl,e⟩:=I.base.slot L o ho (I.ok.frf L hL) hL fun z=>I.ok.adJ L z hL;exact ⟨hk,⟨L,_,hf,hn,e,hd⟩,ih (fun b hb=>hs b (by unfold frs;rw [yp,hf];exact gw _ hb)) hr⟩
  exact all X.outer (fun _ hb=>hb) I.ok.u0
theorem Inv.stack (I:Inv X pins σ H s):s.heap.FunFrames X.base X.stack:=by
  rcases I.ok.stk with e | ⟨e,hf⟩
  . rw [e];exact I.u0
  . rw [e];obtain ⟨m,hn,_⟩:=I.loc;refine .cons (by rw [I.ok.kind];decide) hf hn ?_ I.u0;exact Heap.get?_none_of_le (nj I.ok.bsz I.ok.above)
theorem Inv.adK (I:Inv X pins σ H s):∀ b∈frs X.stack,b∈X.env.locals :: X.fs:=fun b hb=>by
  rcases I.ok.stk with e | ⟨e,hf⟩
  . rw [e] at hb;exact gw _ hb
  . rw [e] at hb;unfold frs at hb;rw [yp,hf] at hb;exact hb
theorem Inv.a83 (I:Inv X pins σ H s):∀ b∈frs X.stack,H b=none:=fun b hb=>by
  rcases iy.mp (I.adK b hb) with e | hb
  . rw [e];exact I.free
  . obtain ⟨_,o,ho,_⟩:=I.ok.u0.mem hb;exact I.base.free b o ho (I.ok.frf b hb) fun z=>I.ok.adJ b z hb
theorem Inv.step (I:Inv X pins σ H s)
    (hch:∀ b∈ch,(b∈X.ex∨X.s₀.heap.objs.size<=b)/\b≠X.env.locals/\(∀ x c,X.env.cells.lookup x=some c->c≠b)/\∀ p∈X.pn++pins,p.1≠b)
    (keep:∀ b o,b≠X.env.locals->b ∉ X.fs->b ∉ ch->s.heap.get? b=some o->H b=none->h'.get? b=some o)
    (slot:∀ b o,b≠X.env.locals->b∈X.fs->b ∉ ch->s.heap.get? b=some o->H b=none->∃ sl,h'.get? b=some { o with slots:=sl }) (free:∀ b o,b ∉ ch->s.heap.get? b=some o->H b=none->H' b=none)
    (there:∀ b o,b ∉ ch->s.heap.get? b=some o->∃ o',h'.get? b=some o')
    (tups:∀ b xs,H b=some (.tup xs)->H' b=some (.tup xs)) (j4:∀ b o u,H b=some (.lC o u)->H' b=some (.lC o u)) (rC:∀ b ps,H b=some (.tbl ps)->∃ more,H' b=some (.tbl (ps++more)))
    (ns:∀ m,s.heap.Ns X.env.locals m->h'.Ns X.env.locals m) (hok:wY X.prog X.w H' h') (hg:AllBare g') :
    Inv X pins σ H' { s with heap:=h',gens:=g',drawn:=d',toks:=t' }:=by
  have neL:∀ b o,X.s₀.heap.get? b=some o->b≠X.env.locals:=fun b o e=>gb (fj (cg e) I.ok.above)
  have neC:∀ b o,X.s₀.heap.get? b=some o->b ∉ X.ex->b ∉ ch:=fun b o e hx hb=>by
    rcases (hch b hb).1 with z | z
    . exact hx z
    . exact absurd (fj (cg e) z) (jm _)
  have cellK:∀ x c,X.env.cells.lookup x=some c->∀ v,s.heap.IsCell c v->h'.IsCell c v:=fun x c e v ⟨o,ho,hd⟩=>by
    have nch:c ∉ ch:=fun z=>(hch c z).2.2.1 x c e rfl;by_cases hc:c∈X.fs
    . obtain ⟨sl,q⟩:=slot c o (I.cne x c e) hc nch ho (I.m6 x c e);exact ⟨_,q,hd⟩
    . exact ⟨o,keep c o (I.cne x c e) hc nch ho (I.m6 x c e),hd⟩
  refine ⟨I.ok,I.os,hg,⟨fun b o e n hb hx=>?_,fun b o e n hb hx=>?_,fun b o e n hx=>?_,fun b o e hx=>?_,fun b xs e=>tups b xs (I.base.tups b xs e),fun b o xs e=>j4 b o xs (I.base.j4 b o xs e),fun b ps e=>?_⟩,?_,fun x c e=>?_,?_,fun x c e=>?_,fun p hp=>?_,hok,I.len,I.hnd.mono j4,fun p hp=>tups _ _ (I.tup p hp)⟩
  . exact keep b o (neL b o e) hb (neC b o e hx) (I.base.keep b o e n hb hx) (I.base.free b o e n hx)
  . obtain ⟨sl,e1⟩:=I.base.slot b o e n hb hx;obtain ⟨sl',e2⟩:=slot b _ (neL b o e) hb (neC b o e hx) e1 (I.base.free b o e n hx);exact ⟨sl',e2⟩
  . obtain ⟨o',e1⟩:=I.base.there b o e hx;exact free b o' (neC b o e hx) e1 (I.base.free b o e n hx)
  . obtain ⟨o',e1⟩:=I.base.there b o e hx;exact there b o' (neC b o e hx) e1
  . obtain ⟨m1,e1⟩:=I.base.rC b ps e;obtain ⟨m2,e2⟩:=rC b _ e1;exact ⟨m1++m2,by rw [e2,Array.append_assoc]⟩
  . obtain ⟨m,hn,hl⟩:=I.loc;refine ⟨m,ns m hn,fun i x v e1 e2 e3=>?_⟩;obtain ⟨u,r,l⟩:=hl i x v e1 e2 e3;refine ⟨u,r,?_⟩;rcases l with l | ⟨k,c,e,z⟩
    . exact .inl l
    . exact .inr ⟨k,c,e,cellK x c e _ z⟩
  . obtain ⟨v,z⟩:=I.cell x c e;exact ⟨v,cellK x c e v z⟩
  . obtain ⟨m,⟨o,_,_,ho,_⟩,_⟩:=I.loc;exact free _ o (fun z=>(hch _ z).2.1 rfl) ho I.free
  . obtain ⟨v,o,ho,hd⟩:=I.cell x c e;exact free c o (fun z=>(hch c z).2.2.1 x c e rfl) ho (I.m6 x c e)
  . obtain ⟨e,n,ne,nf,d⟩:=I.pin p hp;have nch:p.1 ∉ ch:=fun z=>(hch p.1 z).2.2.2 p hp rfl;exact ⟨keep p.1 p.2 ne nf nch e n,free p.1 p.2 nch e n,ne,nf,d⟩
theorem Inv.un (I:Inv X pins σ H s) (u:Un X.fs [] H H' s.heap h') (hok:wY X.prog X.w H' h'):Inv X pins σ H' { s with heap:=h',toks:=t' }:=by
  obtain ⟨m,⟨o,es,ep,ho,r⟩,_⟩:=id I.loc;obtain ⟨sl,hL⟩:=u.any ho I.free (by simp)
  exact I.step (g':=s.gens) (d':=s.drawn) (ch:=[]) (fun _ z=>nomatch z) (fun b o _ hb _ e n=>u.keep b o e n hb (by simp)) (fun b o _ hb _ e n=>u.slot b o e n hb (by simp)) (fun b o _ e n=>u.free b o e n (by simp)) (fun b o _ e=>u.there b o e (by simp)) u.tups u.j4 u.rC (fun m' hm=>by
    obtain ⟨o',es',ep',ho',r'⟩:=hm;rw [ho] at ho';cases ho';exact ⟨_,es',ep',hL,r'⟩) hok I.bare
theorem Inv.call (I:Inv X pins σ H s) (u:Un (frs X.stack) ch H H' s.heap h') (hok:wY X.prog X.w H' h') (hg:AllBare g')
    (hch:∀ b∈ch,(b∈X.ex∨X.s₀.heap.objs.size<=b)/\b≠X.env.locals/\(∀ x c,X.env.cells.lookup x=some c->c≠b)/\∀ p∈X.pn++pins,p.1≠b) :
    Inv X pins σ H' { s with heap:=h',gens:=g',drawn:=d',toks:=t' }:=by
  obtain ⟨m,⟨o,es,ep,ho,r⟩,_⟩:=id I.loc;obtain ⟨sl,hL⟩:=u.any ho I.free fun z=>(hch _ z).2.1 rfl
  exact I.step (ch:=ch) hch (fun b o hL hb hc e n=>u.keep b o e n (fun z=>(iy.mp (I.adK b z)).elim hL hb) hc) (fun b o _ _ hc e n=>u.any e n hc) (fun b o hc e n=>u.free b o e n hc) (fun b o hc e=>u.there b o e hc) u.tups u.j4 u.rC (fun m' hm=>by
    obtain ⟨o',es',ep',ho',r'⟩:=hm;rw [ho] at ho';cases ho';exact ⟨_,es',ep',hL,r'⟩) hok hg
theorem Inv.turned (I:Inv X pins σ H s) (k:∀ b o,b≠it->s.heap.get? b=some o->h'.get? b=some o) (hn:H it=none) (hL:it≠X.env.locals)
    (h1:it∈X.ex∨X.s₀.heap.objs.size<=it) (h2:∀ x c,X.env.cells.lookup x=some c->c≠it) (h3:∀ p∈X.pn++pins,p.1≠it):Inv X pins σ H { s with heap:=h',toks:=t' }:=by
  have nit:∀ b u,H b=some u->b≠it:=fun b u e z=>by rw [z,hn] at e;cases e
  refine I.step (g':=s.gens) (d':=s.drawn) (ch:=[it]) (fun b hb=>?_) (fun b o _ _ hc e _=>k b o (fun z=>hc (by simp [z])) e) (fun b o _ _ hc e _=>⟨o.slots,k b o (fun z=>hc (by simp [z])) e⟩) (fun _ _ _ _ n=>n)
    (fun b o hc e=>⟨o,k b o (fun z=>hc (by simp [z])) e⟩) (fun _ _ e=>e) (fun _ _ _ e=>e) (fun b ps e=>⟨#[],by rw [e];simp⟩) (fun m hm=>?_) (fun b u e=>?_) I.bare
  . have e:b=it:=by simpa using hb
    subst e;exact ⟨h1,hL,h2,h3⟩
  . obtain ⟨o,es,ep,ho,r⟩:=hm;exact ⟨o,es,ep,k _ o (Ne.symm hL) ho,r⟩
  . refine (I.hok b u e).stay (fun c v hc q=>k c v ?_ q) (fun _ q=>q) fun _ _ q=>q;rcases hc with z | z
    . rw [z];exact nit b u e
    . exact nit c _ z
theorem Inv.tok (I:Inv X pins σ H s) (t:Nat):Inv X pins σ H { s with toks:=t }:=I.un (h':=s.heap) (t':=t) Un.refl I.hok
theorem Inv.kept {t':Nat} (I:Inv X pins σ H s) (k:∀ b u,s.heap.get? b=some u->h'.get? b=some u):Inv X pins σ H { s with heap:=h',toks:=t' }:=I.un (Un.kept k) (I.hok.kept k)
theorem Inv.laid {a:Addr} {o:HO} {t':Nat} (I:Inv X pins σ H s) (k:∀ b u,s.heap.get? b=some u->h'.get? b=some u) (hp:s.heap.objs.size<=a) (new:cY X.prog X.w (upd H a o) h' a o) :
    Inv X pins σ (upd H a o) { s with heap:=h',toks:=t' }:=I.un (Un.laid k hp (I.hok.fresh hp)) (I.hok.laid k hp new)
theorem Inv.write {x e:Addr} {o:HO} {t':Nat} (I:Inv X pins σ H s) (mu:Mut (H x)) (he:e=x∨H e=some (.own x)) (k:∀ b u,b≠e->s.heap.get? b=some u->h'.get? b=some u) (heo:∃ u,h'.get? e=some u)
    (new:cY X.prog X.w (upd H x o) h' x o):Inv X pins σ (upd H x o) { s with heap:=h',toks:=t' }:=I.un (Un.write mu he k heo) (I.hok.write mu he k heo new)
theorem Inv.weak {σ':List (Option V)} (I:Inv X pins σ H s) (hl:σ'.length=σ.length) (w:∀ (i:Nat) v,σ'[i]?=some (some v)->σ[i]?=some (some v)):Inv X pins σ' H s :=
  ⟨I.ok,I.os,I.bare,I.base,let ⟨m,hn,hl'⟩:=I.loc;⟨m,hn,fun i x v e1 e2 e3=>hl' i x v e1 (w i v e2) e3⟩,I.cell,I.free,I.m6,I.pin,I.hok,hl.trans I.len,I.hnd,I.tup⟩
theorem Inv.afK {a1G:List (Addr×Obj)} (I:Inv X pins σ H s) (h:∀ p∈a1G,s.heap.get? p.1=some p.2/\H p.1=none/\p.1≠X.env.locals/\p.1 ∉ X.fs/\∀ v,p.2.data ≠ .cell v):Inv X a1G σ H s :=
  ⟨I.ok,I.os,I.bare,I.base,I.loc,I.cell,I.free,I.m6,fun p hp=>(jo.mp hp).elim (fun z=>I.pin p (qd _ z)) (h p),I.hok,I.len,I.hnd,I.tup⟩
theorem aaK (hN:N.Nodup) (a:N[i]?=some x) (b:N[j]?=some x):i=j:=by
  obtain ⟨h1,e1⟩:=bh.mp a;obtain ⟨h2,e2⟩:=bh.mp b;exact (List.getElem_inj hN).mp (e1.trans e2.symm)
theorem a6W (I:Inv X pins σ H s) (hN:X.N.Nodup) (hi:X.N[i]?=some x) (hx:Loc X.env.scope x) (r:RelV v u)
    (h:∀ s',Inv X pins (σ.set i (some v)) H s'->(∃ a,qy a s.heap s'.heap/\(a=X.env.locals∨X.env.cells.lookup x=some a))->Q () s') (hf:X.fn x=true∨X.env.scope.names.lookup x=some .local:=by first | exact .inl rfl | exact .inr rfl | assumption):wpAny M A (storeName X.env x u) Q E s:=by
  obtain ⟨m,hn,hl⟩:=id I.loc;have hcls:(X.env.scope.kind == .class || (X.env.scope.kind == .module&&X.env.locals != X.env.globals))=false:=by rw [I.ok.kind];rfl
  have hiσ:i < σ.length:=by rw [I.len];exact (bh.mp hi).1
  have cne:=I.cne
  have tracked:∀ {a:Addr} {h':Heap},(∃ o,s.heap.get? a=some o/\H a=none)->qy a s.heap h'->wY X.prog X.w H h':=fun {a h'} ha hs b ob e=>by
    obtain ⟨_,_,hfree⟩:=ha;refine (I.hok b ob e).stay (fun c w' hc q=>(hs.2 c ?_).trans q) (fun _ q=>q) fun _ _ q=>q;rintro rfl;rcases hc with rfl | hc
    . rw [hfree] at e;cases e
    . rw [hfree] at hc;cases hc
  rcases hx with hk | hk
  . refine wpAny_storeName_local hk hn (fun h' hn' hs=>?_) hcls;obtain ⟨oL,_,_,hoL,_⟩:=id hn;refine h _ ⟨I.ok,I.os,I.bare,⟨fun b o e n hb hx=>?_,fun b o e n hb hx=>?_,I.base.free,fun b o e hx=>?_,I.base.tups,I.base.j4,I.base.rC⟩,⟨_,hn',fun j y v' e1 e2 e3=>?_⟩,fun y c e=>?_,I.free,I.m6,fun p hp=>?_,tracked ⟨oL,hoL,I.free⟩ hs,by simpa using I.len,I.hnd,I.tup⟩ ⟨_,hs,.inl rfl⟩
    . exact (hs.2 b (gb (fj (cg e) I.ok.above))).trans (I.base.keep b o e n hb hx)
    . obtain ⟨sl,e1⟩:=I.base.slot b o e n hb hx;exact ⟨sl,(hs.2 b (gb (fj (cg e) I.ok.above))).trans e1⟩
    . obtain ⟨o',e1⟩:=I.base.there b o e hx;exact ⟨o',(hs.2 b (gb (fj (cg e) I.ok.above))).trans e1⟩
    . by_cases hj:j=i
      . subst hj;rw [hi] at e1;cases e1;rw [wu hiσ] at e2;cases e2;exact ⟨u,r,.inl ⟨hk,by simp⟩⟩
      . rw [jq (Ne.symm hj)] at e2;obtain ⟨u',r',q⟩:=hl j y v' e1 e2 e3;refine ⟨u',r',?_⟩;rcases q with ⟨k,e⟩ | ⟨k,c,e,z⟩
        . refine .inl ⟨k,?_⟩;have:y≠x:=fun e=>hj (aaK hN e1 (e ▸ hi));simp [this,e]
        . exact .inr ⟨k,c,e,z.sameBut hs (cne y c e)⟩
    . obtain ⟨w',z⟩:=I.cell y c e;exact ⟨w',z.sameBut hs (cne y c e)⟩
    . obtain ⟨e,n,ne,nf,d⟩:=I.pin p hp;exact ⟨(hs.2 p.1 ne).trans e,n,ne,nf,d⟩
  . have hfn:X.fn x=true:=by
      rcases hf with z | z
      . exact z
      . rw [z] at hk;cases hk
    obtain ⟨c,hc⟩:=I.ok.has x (.inl hk);obtain ⟨w',z⟩:=I.cell x c hc;refine wpAny_storeName_cell I.ok.kind hk hc z (fun h' hc' hs=>?_);obtain ⟨oc,hoc,aE3⟩:=id z;refine h { s with heap:=h' } ⟨I.ok,I.os,I.bare,⟨fun b o e n hb hx=>?_,fun b o e n hb hx=>?_,I.base.free,fun b o e hx=>?_,I.base.tups,I.base.j4,I.base.rC⟩,⟨m,hn.sameBut hs (Ne.symm (cne x c hc)),fun j y v' e1 e2 e3=>?_⟩,fun y c' e=>?_,I.free,I.m6,fun p hp=>?_,tracked ⟨oc,hoc,I.m6 x c hc⟩ hs,by simpa using I.len,I.hnd,I.tup⟩ ⟨c,hs,.inr hc⟩
    . exact (hs.2 b (gb (fj (cg e) (I.ok.cab x c hfn hc)))).trans (I.base.keep b o e n hb hx)
    . obtain ⟨sl,e1⟩:=I.base.slot b o e n hb hx;exact ⟨sl,(hs.2 b (gb (fj (cg e) (I.ok.cab x c hfn hc)))).trans e1⟩
    . obtain ⟨o',e1⟩:=I.base.there b o e hx;exact ⟨o',(hs.2 b (gb (fj (cg e) (I.ok.cab x c hfn hc)))).trans e1⟩
    . by_cases hj:j=i
      . subst hj;rw [hi] at e1;cases e1;rw [wu hiσ] at e2;cases e2;exact ⟨u,r,.inr ⟨.inl hk,c,hc,hc'⟩⟩
      . rw [jq (Ne.symm hj)] at e2;obtain ⟨u',r',q⟩:=hl j y v' e1 e2 e3;refine ⟨u',r',?_⟩;rcases q with q | ⟨k,c',e,z'⟩
        . exact .inl q
        . refine .inr ⟨k,c',e,z'.sameBut hs ?_⟩;rintro rfl;exact hj (aaK hN e1 (I.ok.inj _ _ _ e hc ▸ hi))
    . by_cases hcc:c'=c
      . subst hcc;exact ⟨_,hc'⟩
      . obtain ⟨w2,z2⟩:=I.cell y c' e;exact ⟨w2,z2.sameBut hs hcc⟩
    . obtain ⟨e,n,ne,nf,d⟩:=I.pin p hp;refine ⟨(hs.2 p.1 ?_).trans e,n,ne,nf,d⟩;intro q;rw [q,hoc] at e;have q':oc=p.2:=dj.inj e;exact d w' (by rw [← q'];exact aE3)
theorem aaL (I:Inv X pins σ H s) (hN:X.N.Nodup) (hi:X.N[i]?=some x) (hx:Loc X.env.scope x) (r:RelV v u)
    (h:∀ s',Inv X pins (σ.set i (some v)) H s'->Q () s') (hf:X.fn x=true∨X.env.scope.names.lookup x=some .local:=by first | exact .inl rfl | exact .inr rfl | assumption):wpAny M A (storeName X.env x u) Q E s :=
  a6W I hN hi hx r (fun s' I' _=>h s' I') hf
theorem Inv.call' {s':Shared} (I:Inv X pins σ H s) (ho:s'.os=s.os) (u:Un (frs X.stack) ch H H' s.heap s'.heap) (hok:wY X.prog X.w H' s'.heap) (hg:AllBare s'.gens)
    (hch:∀ b∈ch,(b∈X.ex∨X.s₀.heap.objs.size<=b)/\b≠X.env.locals/\(∀ x c,X.env.cells.lookup x=some c->c≠b)/\∀ p∈X.pn++pins,p.1≠b):Inv X pins σ H' s':=by
  obtain ⟨h',g',d',t',o'⟩:=s';have e:o'=s.os:=ho;subst e;exact I.call (g':=g') (t':=t') (d':=d') u hok hg hch
end
abbrev XK:=Value->Option Addr->Hp->Prop
abbrev St:=List (Option V)
abbrev VK:=V->Hp->Prop
abbrev TE:=St->Hp->VK->Prop
abbrev TT:=St->Hp->(Bool->Hp->Prop)->Prop
abbrev TA:=St->Hp->(List V->Hp->Prop)->Prop
structure Ends where
  nx:St->Hp->Prop
  rt:VK
  bk:St->Hp->Prop:=fun _ _=>False
  ct:St->Hp->Prop:=fun _ _=>False
abbrev TS:=Ends->St->Hp->Prop
def EP (X:Cx) (pins:List (Addr×Obj)) (σ:St) (Q:VK) (u:Value) (s':Shared):Prop:=∃ v H',Inv X pins σ H' s'/\RelV v u/\Q v H'
def TP (X:Cx) (pins:List (Addr×Obj)) (σ:St) (Q:Bool->Hp->Prop) (b:Bool) (s':Shared):Prop:=∃ H',Inv X pins σ H' s'/\Q b H'
def AP (X:Cx) (pins:List (Addr×Obj)) (σ:St) (Q:List V->Hp->Prop) (us:List Value) (s':Shared):Prop:=∃ vs H',Inv X pins σ H' s'/\Vals vs us/\Q vs H'
def SP (X:Cx) (pins:List (Addr×Obj)) (D:Ends) (f:Flow) (s':Shared):Prop :=
  match f with
  | .next=>∃ σ' H',Inv X pins σ' H' s'/\D.nx σ' H'
  | .brk=>∃ σ' H',Inv X pins σ' H' s'/\D.bk σ' H'
  | .cont=>∃ σ' H',Inv X pins σ' H' s'/\D.ct σ' H'
  | .ret u=>∃ v σ' H',Inv X pins σ' H' s'/\RelV v u/\D.rt v H'
def PE (X:Cx) (e:Expr) (t:TE):Prop :=
  ∀ (pins:List (Addr×Obj)) (s:Shared) (σ:St) (H:Hp) (Q:VK),Inv X pins σ H s->t σ H Q->wpAny (model X.prog X.w) X.A (eval e X.env) (EP X pins σ Q) X.xe s
def PT (X:Cx) (e:Expr) (t:TT):Prop :=
  ∀ (pins:List (Addr×Obj)) (s:Shared) (σ:St) (H:Hp) (Q:Bool->Hp->Prop),Inv X pins σ H s->t σ H Q->wpAny (model X.prog X.w) X.A (isTrue e X.env (eval e X.env)) (TP X pins σ Q) X.xe s
def PW (X:Cx) (e:Expr) (t:TT):Prop :=
  ∀ (whole:Sem Value) (pins:List (Addr×Obj)) (s:Shared) (σ:St) (H:Hp) (Q:Bool->Hp->Prop),Inv X pins σ H s->t σ H Q->wpAny (model X.prog X.w) X.A (isTrue e X.env whole) (TP X pins σ Q) X.xe s
theorem PW.pt {X:Cx} {t:TT} (h:PW X e t):PT X e t:=h _
def PA (X:Cx) (es:List Expr) (t:TA):Prop :=
  ∀ (pos:Pos) (pins:List (Addr×Obj)) (s:Shared) (σ:St) (H:Hp) (Q:List V->Hp->Prop),Inv X pins σ H s->t σ H Q->wpAny (model X.prog X.w) X.A (spliced (backTo pos (starEach es X.env))) (AP X pins σ Q) X.xe s
def PS (X:Cx) (st:Stmt) (t:TS):Prop :=
  ∀ (pins:List (Addr×Obj)) (s:Shared) (σ:St) (H:Hp) (D:Ends),Inv X pins σ H s->t D σ H->wpAny (model X.prog X.w) X.A (exec st X.env) (SP X pins D) X.xe s
def PSs (X:Cx) (st:List Stmt) (t:TS):Prop :=
  ∀ (pins:List (Addr×Obj)) (s:Shared) (σ:St) (H:Hp) (D:Ends),Inv X pins σ H s->t D σ H->wpAny (model X.prog X.w) X.A (execs st X.env) (SP X pins D) X.xe s
theorem cH {α:Type} {t:Sem α} {Q Q':α->Shared->Prop} (h:wpAny M A t Q E s) (hQ:∀ a s,Q a s->Q' a s):wpAny M A t Q' E s:=wpAny_mono h hQ fun _ _ x=>x
end
variable {pins:List (Addr×Obj)}{R:V->V->Hp->Prop}{pos:Pos}{op:CmpOp}{c:Expr}
section
variable {Q:Value->Shared->Prop}
section
variable {X:Cx}
theorem bin {a b:Expr} {ta tb:TE} (ha:PE X a ta) (hb:PE X b tb) {σ:St} (I:Inv X pins σ H s) (h:ta σ H fun x H1=>tb σ H1 fun y H2=>R x y H2)
    {α:Type} {Q:α->Shared->Prop} {f:Value->Value->Sem α}
    (hf:∀ v u s2 x y H2,Inv X pins σ H2 s2->RelV x v->RelV y u->R x y H2->wpAny (model X.prog X.w) X.A (f v u) Q X.xe s2) :
    wpAny (model X.prog X.w) X.A (eval a X.env) (fun v s₁=>wpAny (model X.prog X.w) X.A (eval b X.env) (fun u s₂=>wpAny (model X.prog X.w) X.A (f v u) Q X.xe s₂) X.xe s₁) X.xe s:=by
  refine cH (ha pins s σ H _ I h) fun v s1 ⟨x,H1,I1,r1,q1⟩=>?_;refine cH (hb pins s1 σ H1 _ I1 q1) fun u s2 ⟨y,H2,I2,r2,q2⟩=>?_;exact hf v u s2 x y H2 I2 r1 r2 q2
def auE (i:Nat):TE:=fun σ H Q=>∃ v,σ[i]?=some (some v)/\Q v H
def tC (v:V):TE:=fun _ H Q=>Q v H
theorem ajF (hN:X.N[i]?=some x) (hv:Vis X.env.scope x) (hd:(x == ("__debug__" : Str))=false:=by decide) (hcd:(x == ("__classdict__" : Str))=false:=by decide):PE X (.Name x pos) (auE i):=by
  intro pins s σ H Q I h;obtain ⟨v,e,h⟩:=h;obtain ⟨m,hn,hl⟩:=I.loc;obtain ⟨u,r,l⟩:=hl i x v hN e hv;have fin:EP X pins σ Q u s:=⟨v,H,I,r,h⟩;rcases l with ⟨hk,hm⟩ | ⟨hk,c,hc,hcell⟩
  . exact wpAny_Name (wpAny_loadName_local I.ok.kind hk hn hm fin) hd
  . rcases hk with hk | hk
    . exact wpAny_Name (wpAny_loadName_cell I.ok.kind hk hc hcell fin) hd
    . exact wpAny_Name (wpAny_loadName_free I.ok.kind hk hc hcell fin hcd) hd
theorem auF {i j pos}:PE X (.Constant (.int i) j pos) (tC (.int i)):=fun _ _ _ H _ I h=>wpAny_Constant_int ⟨.int i,H,I.tok _,⟨_,rfl⟩,h⟩
theorem az9 {b j pos}:PE X (.Constant (.bool b) j pos) (tC (.bl b)):=fun _ _ _ H _ I h=>Constant_bool ⟨.bl b,H,I,rfl,h⟩
theorem auG {j pos}:PE X (.Constant .none j pos) (tC .non):=fun _ _ _ H _ I h=>Constant_none ⟨.non,H,I,rfl,h⟩
theorem auH {x j pos}:PE X (.Constant (.str x) j pos) (tC (.str x)):=fun _ _ _ H _ I h=>Calls.Constant_str ⟨.str x,H,I.tok _,⟨_,rfl⟩,h⟩
def Gl (X:Cx) (x:Str):Prop:=X.env.kindOf x=some .globalImplicit
theorem o7 {σ:St} (I:Inv X pins σ H s) (hg:Gl X x) (hm:X.mg x=some u) (h:Q u s)
    (hd:(x == ("__debug__" : Str))=false:=by decide):wpAny (model X.prog X.w) X.A (eval (.Name x pos) X.env) Q E s :=
  Calls.Name_function_global I.ok.kind hg (Calls.loadGlobal_global (by rw [I.ok.glob];exact I.mod.glob.keeps I.bk) hm h) hd
theorem a0F {σ:St} (I:Inv X pins σ H s) (hg:Gl X x) (hm:X.mg x=none) (hv:bootBuiltins x=some u) (h:Q u s)
    (hn:x ≠ "__name__" := by decide) (hd:(x == ("__debug__" : Str))=false:=by decide):wpAny (model X.prog X.w) X.A (eval (.Name x pos) X.env) Q E s:=by
  obtain ⟨mb,h1,h2⟩:=I.mod.blt;exact Calls.Name_function_global I.ok.kind hg (Calls.loadGlobal_builtin (by rw [I.ok.glob];exact I.mod.glob.keeps I.bk) hm (by rw [I.ok.blt];exact h1.keeps I.bk) ((h2 x hn).trans hv) h) hd
theorem ao0 (hg:Gl X x) (hm:X.mg x=some u) (r:RelV v u) (hd:(x == ("__debug__" : Str))=false:=by decide):PE X (.Name x pos) (tC v) :=
  fun _ _ _ H _ I h=>o7 I hg hm ⟨v,H,I,r,h⟩ hd
theorem ao1 (hg:Gl X x) (hm:X.mg x=none) (hv:bootBuiltins x=some u) (r:RelV v u) (hn:x ≠ "__name__" := by decide) (hd:(x == ("__debug__" : Str))=false:=by decide):PE X (.Name x pos) (tC v) :=
  fun _ _ _ H _ I h=>a0F I hg hm hv ⟨v,H,I,r,h⟩ hn hd
variable {a b:Expr} {ta tb:TE} {pos:Pos}
def PC (X:Cx) (op:CmpOp) (a b:Expr) (t:TE):Prop :=
  ∀ (pins:List (Addr×Obj)) (s:Shared) (σ:St) (H:Hp) (Q:VK),Inv X pins σ H s->t σ H Q ->
    wpAny (model X.prog X.w) X.A (eval a X.env) (fun v s₁=>wpAny (model X.prog X.w) X.A (eval b X.env) (fun u s₂=>wpAny (model X.prog X.w) X.A (compareOp op v u) (EP X pins σ Q) X.xe s₂) X.xe s₁) X.xe s
theorem ajG (b:Expr) (h:op ≠ .In) (h2:op ≠ .NotIn):behindInMarks op b=false:=by
  have e1:(op == CmpOp.In)=false:=by cases op <;> first | rfl | exact absurd rfl h
  have e2:(op == CmpOp.NotIn)=false:=by cases op <;> first | rfl | exact absurd rfl h2
  cases b <;> simp [behindInMarks,e1,e2]
def tB (t:TE):TT:=fun σ H Q=>t σ H fun x H1=>∃ c,x = .bl c/\Q c H1
theorem aE4 {t:TE} (h:PC X op a b t) (h1:behindInMarks op b=false:=by first | exact ajG _ (by decide) (by decide) | rfl):PT X (.Compare a [op] [b] pos) (tB t):=by
  intro pins s σ H Q I hw;refine wpAny_isTrue_Compare1 (cH (h pins s σ H _ I hw) fun v s1 h1=>cH h1 fun u s2 h2=>cH h2 fun c s3 ⟨x,H1,I1,r1,q1⟩=>?_) h1;obtain ⟨d,rfl,q⟩:=q1;cases r1;exact wpAny_truthy_bool ⟨H1,I1,q⟩
theorem auI {t:TE} (h:PE X e t) (he:∀ whole,isTrue e X.env whole=(do let v ← whole;standAt e.pos;holding [v] (truthy v)):=by intro _;rfl):PT X e (tB t):=by
  intro pins s σ H Q I hw;refine isTrue_plain (cH (h pins s σ H _ I hw) fun v s1 ⟨x,H1,I1,r1,q1⟩=>?_) (he _);obtain ⟨d,rfl,q⟩:=q1;cases r1;exact wpAny_truthy_bool ⟨H1,I1,q⟩
variable {tA tB':TT} {rest:List Expr}
def azA (t u:TT):TT:=fun σ H Q=>t σ H fun c H1=>if c=true then u σ H1 Q else Q false H1
def tOr (t u:TT):TT:=fun σ H Q=>t σ H fun c H1=>if c=true then Q true H1 else u σ H1 Q
def aE5 (t:TT):TT:=fun σ H Q=>t σ H fun c H1=>Q (!c) H1
theorem ao2 (ha:PT X a tA):PW X (.BoolOp .And [a] pos) tA:=by
  intro wh pins s σ H Q I h;refine isTrue_and (cH (ha pins s σ H Q I h) fun c s1 e=>?_);cases c with
  | true=>exact isTrue_and_nil e
  | false=>exact e
theorem auJ (ha:PT X a tA):PW X (.BoolOp .Or [a] pos) tA:=by
  intro wh pins s σ H Q I h;refine isTrue_or (cH (ha pins s σ H Q I h) fun c s1 e=>?_);cases c with
  | false=>exact isTrue_or_nil e
  | true=>exact e
theorem auK (ha:PT X a tA) (hb:PW X (.BoolOp .And (b :: rest) pos) tB'):PW X (.BoolOp .And (a :: b :: rest) pos) (azA tA tB'):=by
  intro wh pins s σ H Q I h;refine isTrue_and (cH (ha pins s σ H _ I h) fun c s1 ⟨H1,I1,q1⟩=>?_);cases c with
  | true=>exact hb wh pins s1 σ H1 Q I1 q1
  | false=>exact ⟨H1,I1,q1⟩
theorem azB (ha:PT X a tA) (hb:PW X (.BoolOp .Or (b :: rest) pos) tB'):PW X (.BoolOp .Or (a :: b :: rest) pos) (tOr tA tB'):=by
  intro wh pins s σ H Q I h;refine isTrue_or (cH (ha pins s σ H _ I h) fun c s1 ⟨H1,I1,q1⟩=>?_);cases c with
  | true=>exact ⟨H1,I1,q1⟩
  | false=>exact hb wh pins s1 σ H1 Q I1 q1
theorem auL (ha:PT X a tA):PT X (.UnaryOp .Not a pos) (aE5 tA):=by
  intro pins s σ H Q I h;exact isTrue_not (ha pins s σ H (fun c H1=>Q (!c) H1) I h)
def azC (ta tb:TE):TE:=fun σ H Q=>ta σ H fun x H1=>∃ c,x = .bl c/\if c=true then tb σ H1 Q else Q (.bl false) H1
def aE6 (ta tb:TE):TE:=fun σ H Q=>ta σ H fun x H1=>∃ c,x = .bl c/\if c=true then Q (.bl true) H1 else tb σ H1 Q
def azD (ta:TE):TE:=fun σ H Q=>ta σ H fun x H1=>∃ c,x = .bl c/\Q (.bl (!c)) H1
theorem auM {op} {t:TE} (h:PE X a t):PE X (.BoolOp op [a] pos) t:=fun pins s σ H Q I hw=>BoolOp_one (h pins s σ H Q I hw)
theorem auN (ha:PE X a ta) (hb:PE X (.BoolOp .And (b :: rest) pos) tb):PE X (.BoolOp .And (a :: b :: rest) pos) (azC ta tb):=by
  intro pins s σ H Q I h;refine BoolOp_and (cH (ha pins s σ H _ I h) fun v s1 ⟨x,H1,I1,r1,q1⟩=>?_);obtain ⟨c,rfl,q1⟩:=q1;cases r1;refine wpAny_truthy_bool ?_;cases c with
  | true=>exact hb pins s1 σ H1 Q I1 q1
  | false=>exact ⟨.bl false,H1,I1,rfl,q1⟩
theorem azE (ha:PE X a ta) (hb:PE X (.BoolOp .Or (b :: rest) pos) tb):PE X (.BoolOp .Or (a :: b :: rest) pos) (aE6 ta tb):=by
  intro pins s σ H Q I h;refine BoolOp_or (cH (ha pins s σ H _ I h) fun v s1 ⟨x,H1,I1,r1,q1⟩=>?_);obtain ⟨c,rfl,q1⟩:=q1;cases r1;refine wpAny_truthy_bool ?_;cases c with
  | false=>exact hb pins s1 σ H1 Q I1 q1
  | true=>exact ⟨.bl true,H1,I1,rfl,q1⟩
theorem auO (ha:PE X a ta):PE X (.UnaryOp .Not a pos) (azD ta):=by
  intro pins s σ H Q I h;refine UnaryOp_ (cH (ha pins s σ H _ I h) fun v s1 ⟨x,H1,I1,r1,q1⟩=>?_);obtain ⟨c,rfl,q1⟩:=q1;cases r1;exact not_of (wpAny_truthy_bool ⟨.bl (!c),H1,I1,rfl,q1⟩)
def tIf (t:TT) (ta tb:TE):TE:=fun σ H Q=>t σ H fun c H1=>if c=true then ta σ H1 Q else tb σ H1 Q
theorem ajH (hc:PT X c tA) (ha:PE X a ta) (hb:PE X b tb):PE X (.IfExp c a b pos) (tIf tA ta tb):=by
  intro pins s σ H Q I h;refine wpAny_IfExp (cH (hc pins s σ H _ I h) fun d s1 ⟨H1,I1,q1⟩=>?_);cases d with
  | true=>exact ha pins s1 σ H1 Q I1 q1
  | false=>exact hb pins s1 σ H1 Q I1 q1
end
end
variable {X:Cx}{tb:TS}{tc:TT}{es:List Expr}{n:Nat}{tg:Expr}{te:TE}{body:List Stmt}{cm:Bool}{tl:List (Addr×List V)}
section
def wU (K:cu) (H:Hp) (a:Addr) (xs:List V):Prop :=
  Rd H a (.lst xs) ∨
    ∃ (o:Obj) (its:Array Value) (n:Nat),K.lookup a=some o/\o.cls = .type "list" /\ o.dict=none/\o.data = .seq its n/\its.size<=sizeLine/\Vals xs its.toList
def rB (K:cu) (H:Hp) (a:Addr) (xs:List V):Prop :=
  Rd H a (.tup xs) ∨
    ∃ (o:Obj) (its:Array Value) (n:Nat),K.lookup a=some o/\o.cls = .type "tuple" /\ o.data = .seq its n/\its.size<=sizeLine/\Vals xs its.toList
def aE7:Value->Option V
  | .none=>some .non
  | .bool b=>some (.bl b)
  | .int i _=>some (.int i)
  | .str x _=>some (.str x)
  | .bytes b _=>some (.byt b)
  | .float b _=>some (.flt b)
  | .ref a=>some (.ref a)
  | .type n=>some (.ty n)
  | _=>none
theorem RelV.abs {x:V} (r:RelV x u):aE7 u=some x:=by
  cases x with
  | non=>cases r;rfl
  | bl _=>cases r;rfl
  | int _=>obtain ⟨t,rfl⟩:=r;rfl
  | str _=>obtain ⟨t,rfl⟩:=r;rfl
  | byt _=>obtain ⟨t,rfl⟩:=r;rfl
  | flt _=>obtain ⟨t,rfl⟩:=r;rfl
  | ref _=>cases r;rfl
  | ty _=>cases r;rfl
theorem RelV.inj {x y:V} {u:Value} (r:RelV x u) (q:RelV y u):x=y:=dj.inj (r.abs.symm.trans q.abs)
theorem Vals.inj:∀ {xs ys:List V} {us:List Value},Vals xs us->Vals ys us->xs=ys
  | _,_,_,.nil,.nil=>rfl
  | _,_,_,.cons r t,.cons r' t'=>by rw [r.inj r',Vals.inj t t']
section
variable {X:Cx} {pins:List (Addr×Obj)} {σ:St} {H:Hp} {s:Shared} {a:Addr} {xs ys:List V}
theorem wU.of {K:cu} (h:H a=some (.lst xs)):wU K H a xs := .inl (.inl h)
theorem rB.of {K:cu} (h:H a=some (.tup xs)):rB K H a xs := .inl (.inl h)
theorem Inv.list (I:Inv X pins σ H s) (h:wU X.K H a xs):∃ its:List Value,Vals xs its/\PlainL s.heap a its.toArray/\xs.length<=sizeLine:=by
  rcases h with h | ⟨o,its,n,hk,hc,hd,hs,hz,r⟩
  . obtain ⟨z,its,n,r,e⟩:=h.ok I.hok;exact ⟨its,r,⟨_,n,e,rfl,rfl,rfl⟩,z⟩
  . refine ⟨its.toList,r,⟨o,n,I.kIn a o hk,hc,hd,by simpa using hs⟩,?_⟩;have e:=r.length;simp only [Array.length_toList] at e;omega
theorem Inv.tuple (I:Inv X pins σ H s) (h:rB X.K H a xs):∃ its:List Value,Vals xs its/\IsTup s.heap a its.toArray/\xs.length<=sizeLine:=by
  rcases h with h | ⟨o,its,n,hk,hc,hs,hz,r⟩
  . obtain ⟨z,its,r,p⟩:=h.ok I.hok;exact ⟨its,r,p,z⟩
  . refine ⟨its.toList,r,⟨o,I.kIn a o hk,hc,n,by simpa using hs⟩,?_⟩;have e:=r.length;simp only [Array.length_toList] at e;omega
theorem Inv.ajI (I:Inv X pins σ H s) (h:wU X.K H a xs) (h':wU X.K H a ys):xs=ys:=by
  obtain ⟨its,r,⟨o,n,e,_,_,d⟩,_⟩:=I.list h;obtain ⟨its',r',⟨o',n',e',_,_,d'⟩,_⟩:=I.list h';rw [e] at e';cases e';rw [d] at d';injection d' with d1 _;have:its=its':=by simpa using congrArg Array.toList d1
  subst this;exact r.inj r'
theorem Inv.wB (I:Inv X pins σ H s) (h:rB X.K H a xs) (h':rB X.K H a ys):xs=ys:=by
  obtain ⟨its,r,⟨o,e,_,n,d⟩,_⟩:=I.tuple h;obtain ⟨its',r',⟨o',e',_,n',d'⟩,_⟩:=I.tuple h';rw [e] at e';cases e';rw [d] at d';injection d' with d1 _;have:its=its':=by simpa using congrArg Array.toList d1
  subst this;exact r.inj r'
end
abbrev Cx.wish (X:Cx) (E:Value->Shared->Prop):Cx:={ X with xe:=E }
abbrev Cx.nox (X:Cx):Cx:=X.wish fun _ _=>False
theorem Cx.Ok.wish (ok:X.Ok) (E:Value->Shared->Prop):(X.wish E).Ok :=
  ⟨ok.mod,ok.kind,ok.glob,ok.blt,ok.above,ok.inj,ok.has,ok.cab,ok.hd,ok.frames,ok.stk,ok.exf,ok.bs,ok.bsz,ok.aaJ,ok.adJ,ok.u0,ok.frf⟩
theorem Cx.Ok.pC (ok:(X.wish E).Ok):X.Ok :=
  ⟨ok.mod,ok.kind,ok.glob,ok.blt,ok.above,ok.inj,ok.has,ok.cab,ok.hd,ok.frames,ok.stk,ok.exf,ok.bs,ok.bsz,ok.aaJ,ok.adJ,ok.u0,ok.frf⟩
section
variable {X:Cx} {pins:List (Addr×Obj)} {σ:St} {H:Hp} {s:Shared} {E:Value->Shared->Prop}
theorem Inv.wish (I:Inv X pins σ H s) (E:Value->Shared->Prop):Inv (X.wish E) pins σ H s:=⟨I.ok.wish E,I.os,I.bare,I.base,I.loc,I.cell,I.free,I.m6,I.pin,I.hok,I.len,I.hnd,I.tup⟩
theorem Inv.pC (I:Inv (X.wish E) pins σ H s):Inv X pins σ H s:=⟨I.ok.pC,I.os,I.bare,I.base,I.loc,I.cell,I.free,I.m6,I.pin,I.hok,I.len,I.hnd,I.tup⟩
theorem SP.pC {D:Ends} {f:Flow} {s':Shared} (h:SP (X.wish E) pins D f s'):SP X pins D f s':=by
  cases f with
  | next=>obtain ⟨σ',H',I,q⟩:=h;exact ⟨σ',H',I.pC,q⟩
  | brk=>obtain ⟨σ',H',I,q⟩:=h;exact ⟨σ',H',I.pC,q⟩
  | cont=>obtain ⟨σ',H',I,q⟩:=h;exact ⟨σ',H',I.pC,q⟩
  | ret u=>obtain ⟨v,σ',H',I,r,q⟩:=h;exact ⟨v,σ',H',I.pC,r,q⟩
theorem PE.nox {t:TE} (h:PE X.nox e t):PE X e t:=fun pins s σ H Q I hw =>
  wpAny_mono (h pins s σ H Q (I.wish _) hw) (fun _ _ ⟨v,H',I',r,q⟩=>⟨v,H',I'.pC,r,q⟩) fun _ _ z=>False.elim z
theorem PT.nox {t:TT} (h:PT X.nox e t):PT X e t:=fun pins s σ H Q I hw =>
  wpAny_mono (h pins s σ H Q (I.wish _) hw) (fun _ _ ⟨H',I',q⟩=>⟨H',I'.pC,q⟩) fun _ _ z=>False.elim z
theorem PSs.nox {st:List Stmt} {t:TS} (h:PSs X.nox st t):PSs X st t:=fun pins s σ H D I hw =>
  wpAny_mono (h pins s σ H D (I.wish _) hw) (fun _ _ q=>q.pC) fun _ _ z=>False.elim z
end
section
variable {X:Cx} {st:Stmt} {rest:List Stmt} {t u:TS} {e:Expr} {te:TE} {pos:Pos}
def asC:TS:=fun D σ H=>D.nx σ H
def azF (t u:TS):TS:=fun D σ H=>t { D with nx:=u D } σ H
theorem ao3:PSs X [] asC:=fun _ _ σ H _ I h=>wpAny_execs_nil ⟨σ,H,I,h⟩
theorem ajJ (h1:PS X st t) (h2:PSs X rest u):PSs X (st :: rest) (azF t u):=by
  intro pins s σ H D I h;refine wpAny_execs_cons (cH (h1 pins s σ H { D with nx:=u D } I h) fun f s1 q=>?_);cases f with
  | next =>
    obtain ⟨σ',H',I',q⟩:=q;exact h2 pins s1 σ' H' D I' q
  | ret v=>exact q
  | brk=>exact q
  | cont=>exact q
theorem ao4 (h1:PS X st t):PSs X [st] t:=by
  intro pins s σ H D I h;refine wpAny_execs_cons (cH (h1 pins s σ H D I h) fun f s1 q=>?_);cases f with
  | next=>exact wpAny_execs_nil q
  | ret v=>exact q
  | brk=>exact q
  | cont=>exact q
theorem ao5:PS X (.Pass pos) asC:=fun _ _ σ H _ I h=>wpAny_Pass ⟨σ,H,I,h⟩
theorem Inv.quiet {σ:St} (I:Inv X pins σ H s):interactive X.env=false:=by simp [interactive,I.ok.kind]
def azG (te:TE):TS:=fun D σ H=>te σ H fun _ H1=>D.nx σ H1
theorem ao6 (he:PE X e te) (hs:swapsWith e none pos.line X.env=pure false:=by rfl):PS X (.Expr e pos) (azG te):=by
  intro pins s σ H D I h;exact wpAny_Expr_any (cH (he pins s σ H _ I h) fun v s1 ⟨x,H1,I1,r1,q1⟩=>⟨σ,H1,I1,q1⟩) I.quiet hs
def aE8 (te:TE):TS:=fun D σ H=>te σ H D.rt
theorem auP (he:PE X e te):PS X (.Return (some e) pos) (aE8 te):=by
  intro pins s σ H D I h;exact wpAny_Return_some (cH (he pins s σ H _ I h) fun v s1 ⟨x,H1,I1,r1,q1⟩=>⟨x,σ,H1,I1,r1,q1⟩)
def aE9 (c:TT) (t u:TS):TS:=fun D σ H=>c σ H fun b H1=>if b=true then t D σ H1 else u D σ H1
theorem azH {a b:List Stmt} (hc:PT X c tc) (ha:PSs X a t) (hb:PSs X b u):PS X (.If c a b pos) (aE9 tc t u):=by
  intro pins s σ H D I h;refine wpAny_If (cH (hc pins s σ H _ I h) fun d s1 ⟨H1,I1,q1⟩=>?_);cases d with
  | true=>exact ha pins s1 σ H1 D I1 q1
  | false=>exact hb pins s1 σ H1 D I1 q1
end
abbrev TG:=V->St->Hp->(St->Hp->Prop)->Prop
abbrev TGs:=List V->St->Hp->(St->Hp->Prop)->Prop
def PG (X:Cx) (target:Expr) (t:TG):Prop :=
  ∀ (pins:List (Addr×Obj)) (s:Shared) (σ:St) (H:Hp) (v:V) (u:Value) (Q:St->Hp->Prop),Inv X pins σ H s->RelV v u->t v σ H Q ->
    wpAny (model X.prog X.w) X.A (assign target X.env u) (fun _ s'=>∃ σ' H',Inv X pins σ' H' s'/\Q σ' H') X.xe s
def PGs (X:Cx) (ts:List Expr) (t:TGs):Prop :=
  ∀ (pins:List (Addr×Obj)) (s:Shared) (σ:St) (H:Hp) (vs:List V) (us:List Value) (Q:St->Hp->Prop),Inv X pins σ H s->Vals vs us->t vs σ H Q ->
    wpAny (model X.prog X.w) X.A (assignInOrder ((assignEach ts X.env).map (·.2)) us) (fun _ s'=>∃ σ' H',Inv X pins σ' H' s'/\Q σ' H') X.xe s
section
variable {X:Cx} {pos:Pos}
def afL (i:Nat):TG:=fun v σ H Q=>Q (σ.set i (some v)) H
theorem a85 (hN:X.N.Nodup) (hi:X.N[i]?=some x) (hx:Loc X.env.scope x) (hf:X.fn x=true∨X.env.scope.names.lookup x=some .local:=by first | exact .inl rfl | exact .inr rfl | assumption):PG X (.Name x pos) (afL i):=by
  intro pins s σ H v u Q I r h;exact wpAny_assign_Name (aaL I hN hi hx r (fun s' I'=>⟨_,H,I',h⟩) hf)
def azJ:TGs:=fun vs σ H Q=>vs=[]/\Q σ H
def asF (t:TG) (u:TGs):TGs:=fun vs σ H Q=>∃ v r,vs=v :: r/\t v σ H fun σ' H'=>u r σ' H' Q
theorem ao7:PGs X [] azJ:=by
  intro pins s σ H vs us Q I r h;obtain ⟨e,h⟩:=h;subst e;cases r;exact assignInOrder_nil ⟨σ,H,I,h⟩
theorem ajK {t:TG} {u:TGs} (h1:PG X e t) (h2:PGs X es u)
    (hs:(assignEach (e :: es) X.env).map (·.2)=assign e X.env :: (assignEach es X.env).map (·.2):=by rfl):PGs X (e :: es) (asF t u):=by
  intro pins s σ H vs us Q I r h;obtain ⟨v,vr,e1,h⟩:=h;subst e1;cases r with
  | cons r rr =>
    rw [hs];refine assignInOrder_cons (cH (h1 pins s σ H _ _ _ I r h) fun _ s1 ⟨σ1,H1,I1,q1⟩=>?_);exact h2 pins s1 σ1 H1 _ _ Q I1 rr q1
def aEA (K:cu) (n:Nat) (t:TGs):TG:=fun v σ H Q=>∃ a xs,v = .ref a/\rB K H a xs/\xs.length=n/\t xs σ H Q
theorem ajL {k:Nat} {t:TGs} (hc:X.calm=true) (h:PGs X es t)
    (hn:(assignEach es X.env).length=n:=by rfl) (hst:(assignEach es X.env).findIdx? (·.1)=none:=by rfl):PG X (.Tuple es k pos) (aEA X.K n t):=by
  intro pins s σ H v u Q I r hw;obtain ⟨a,xs,e1,hq,hl,hw⟩:=hw;subst e1;cases r;obtain ⟨its,rv,ht,hz⟩:=I.tuple hq;refine assign_Tuple_tuple (I.ok.hd hc) ht (by simp [hn,← hl,rv.length]) hst fun h' hx=>?_;have I1:Inv X pins σ H { s with heap:=h' }:=I.kept (t':=s.toks) fun b o e=>hx b o (gb (cg e)) e;exact h pins _ σ H xs _ Q I1 (by simpa using rv) hw
def azK (te:TE) (g:TG):TS:=fun D σ H=>te σ H fun x H1=>g x σ H1 D.nx
theorem auQ {g:TG} (he:PE X e te) (hg:PG X tg g) (hs:swapsWithSole [tg] e pos.line X.env=pure false:=by rfl) (hw:swappedStores [tg] e X.env=pure none:=by rfl)
    (h1:(assignEach [tg] X.env).map (·.2)=[assign tg X.env]:=by rfl):PS X (.Assign [tg] e pos) (azK te g):=by
  intro pins s σ H D I h;refine wpAny_Assign_stores (cH (he pins s σ H _ I h) fun v s1 ⟨x,H1,I1,r1,q1⟩=>?_) hs hw;rw [h1];exact cH (hg pins s1 σ H1 x v _ I1 r1 q1) fun _ s2 q=>q
theorem auR {pos':Pos} (hN:X.N.Nodup) (hi:X.N[i]?=some x) (hx:Loc X.env.scope x) (he:PE X e te) (hs:swapsWith e (some (.Name x pos')) pos.line X.env=pure false:=by rfl) (hf:X.fn x=true∨X.env.scope.names.lookup x=some .local:=by first | exact .inl rfl | exact .inr rfl | assumption) :
    PS X (.Assign [.Name x pos'] e pos) (azK te (afL i)):=by
  intro pins s σ H D I h;refine wpAny_Assign_Name (cH (he pins s σ H _ I h) fun v s1 ⟨y,H1,I1,r1,q1⟩=>?_) hs;exact aaL I1 hN hi hx r1 (fun s2 I2=>⟨_,H1,I2,q1⟩) hf
end
section
variable {X:Cx} {pos:Pos}
def auS (c:TT) (tb:TS):TS:=fun D σ H=>∃ W:Nat->St->Hp->Prop,(∃ m,W m σ H)/\∀ m σ H,W m σ H ->
  c σ H fun b H1=>if b=true then ∃ N:St->Hp->Prop,(∀ σ' H',N σ' H'->∃ m',m' < m/\W m' σ' H')/\tb { D with nx:=N,ct:=N,bk:=D.nx } σ H1 else D.nx σ H1
theorem ajM (hp:PassesOwn (model X.prog X.w) X.A X.env X.xe) (hc:PT X c tc) (hb:PSs X body tb):PS X (.While c body [] pos) (auS tc tb):=by
  intro pins s σ H D I h;obtain ⟨W,⟨m0,w0⟩,turn⟩:=h;refine wpAny_While (codeAny_whileLoop (fun n s'=>∃ σ' H',Inv X pins σ' H' s'/\W n σ' H') ?_ m0 ⟨σ,H,I,w0⟩);rintro n s1 ⟨σ1,H1,I1,w1⟩;refine wpAny_passesOwn hp (cH (hc pins s1 σ1 H1 _ I1 (turn n σ1 H1 w1)) fun b s2 ⟨H2,I2,q2⟩=>?_);cases b with
  | true =>
    obtain ⟨N,hN,q2⟩:=q2;rw [if_pos rfl];refine wpAny_passesOwn hp (cH (hb pins s2 σ1 H2 _ I2 q2) fun f s3 q3=>?_);cases f with
    | next =>
      obtain ⟨σ3,H3,I3,n3⟩:=q3;obtain ⟨m',hm,w3⟩:=hN σ3 H3 n3;exact ⟨m',hm,σ3,H3,I3,w3⟩
    | cont =>
      obtain ⟨σ3,H3,I3,n3⟩:=q3;obtain ⟨m',hm,w3⟩:=hN σ3 H3 n3;exact ⟨m',hm,σ3,H3,I3,w3⟩
    | brk=>exact q3
    | ret v=>exact q3
  | false =>
    rw [if_neg jg];exact wpAny_execs_nil ⟨σ1,H2,I2,q2⟩
end
structure It where
  go:Nat->Hp->Prop
  yld:Nat->Hp->V->Hp->Prop
  stop:Nat->Hp->Prop
def z7 (X:Cx) (pins:List (Addr×Obj)) (H:Hp) (b:Addr):Prop :=
  H b=none/\b≠X.env.locals/\b ∉ X.fs/\(b∈X.ex∨X.s₀.heap.objs.size<=b)/\(∀ x c,X.env.cells.lookup x=some c->c≠b)/\∀ p∈X.pn++pins,p.1≠b
theorem Inv.a1Z {σ:St} (I:Inv X pins σ H s) (hb:s.heap.objs.size<=b) (hn:H' b=none):z7 X pins H' b:=by
  refine ⟨hn,uo (fj I.lt hb),I.aE2 hb,.inr (nj I.sz hb),fun x c e z=>?_,fun p hp z=>?_⟩
  . obtain ⟨v,q⟩:=I.cell x c e;exact absurd (fj q.lt (by rw [z];exact hb)) (jm _)
  . exact absurd (fj (cg (I.pin p hp).1) (by rw [z];exact hb)) (jm _)
structure Turn (cm:Bool) (tl:List (Addr×List V)) (P:Program) (w:World) (K:cu) (tg:Expr) (J:It) (fp:List Addr) (it:Addr) (tn:Nat->Heap->Prop):Prop where
  mem:it∈fp
  obj:∀ i h,tn i h->∀ b∈fp,∃ o,h.get? b=some o/\∀ v,o.data ≠ .cell v
  keep:∀ i h h',tn i h->(∀ b∈fp,∀ o,h.get? b=some o->h'.get? b=some o)->tn i h'
  item:∀ (X:Cx),X.prog=P->X.w=w->X.K=K->(cm=true->X.calm=true)->(∀ p∈tl,p∈X.tp)->∀ (i:Nat) (pins:List (Addr×Obj)) (s:Shared) (σ:St) (H:Hp) (E:Value->Shared->Prop),Inv X pins σ H s->(∀ b∈fp,z7 X pins H b)->tn i s.heap->J.go i H ->
    wpAny (model P w) X.A (pyNext (.ref it)) (fun r s1=>∃ u,r=some u /\
      wpAny (model P w) X.A (letOwnedTupleGo tg (.ref it) u) (fun _ s2=>∃ x H',Inv X pins σ H' s2/\RelV x u/\J.yld i H x H'/\tn (i+1) s2.heap/\∀ b∈fp,H' b=none) E s1) E s
  done:∀ (X:Cx),X.prog=P->X.w=w->X.K=K->(cm=true->X.calm=true)->(∀ p∈tl,p∈X.tp)->∀ (i:Nat) (pins:List (Addr×Obj)) (s:Shared) (σ:St) (H:Hp) (E:Value->Shared->Prop),Inv X pins σ H s->(∀ b∈fp,z7 X pins H b)->tn i s.heap->J.stop i H ->
    wpAny (model P w) X.A (pyNext (.ref it)) (fun r s1=>r=none/\Inv X pins σ H s1) E s
  self:∀ (A:Around) (i:Nat) (s:Shared) (Q:Value->Shared->Prop) (E:Value->Shared->Prop),tn i s.heap->Q (.ref it) s->wpAny (model P w) A (pyIter (.ref it)) Q E s
abbrev TI:=St->Hp->(It->Hp->Prop)->Prop
def PIE (X:Cx) (pins:List (Addr×Obj)) (σ:St) (tg:Expr) (R:It->Hp->Prop) (itv:Value) (s2:Shared):Prop :=
  ∃ (it:Addr) (fp:List Addr) (tn:Nat->Heap->Prop) (J:It) (H':Hp),itv = .ref it/\Inv X pins σ H' s2/\Turn X.calm X.tp X.prog X.w X.K tg J fp it tn/\tn 0 s2.heap/\(∀ b∈fp,z7 X pins H' b)/\R J H'
def PI (X:Cx) (tg iter:Expr) (wi:TI):Prop :=
  ∀ (pins:List (Addr×Obj)) (s:Shared) (σ:St) (H:Hp) (R:It->Hp->Prop),Inv X pins σ H s->wi σ H R ->
    wpAny (model X.prog X.w) X.A (eval iter X.env) (fun v s1=>wpAny (model X.prog X.w) X.A (pyIter v) (PIE X pins σ tg R) X.xe s1) X.xe s
theorem aaM {n:String} (ho:s.heap.get? it=some o) (hc:o.cls = .type n) (hd:o.data = .fields vs)
    (hn:["enumerate", "zip", "dict_itemiterator", "dict_reverseitemiterator", "odict_iterator", "itertools.zip_longest", "itertools.pairwise"].contains n=false) (hQ:Q () s):wpAny M A (letOwnedTupleGo tg (.ref it) u) Q E s:=by
  unfold letOwnedTupleGo
  cases tg <;> first
    | exact dh hQ
    | (cases u <;> first
        | exact dh hQ
        | (refine ak (wpAny_load ho ?_)
           rw [hc,hd];show wpAny M A (if (["enumerate", "zip", "dict_itemiterator", "dict_reverseitemiterator", "odict_iterator", "itertools.zip_longest", "itertools.pairwise"].contains n&&vs[0]? == some (rawInt _))=true then _ else _) Q E s;rw [if_neg (by intro h;rw [hn,Bool.false_and] at h;cases h)];exact dh hQ))
def Itl (K:cu) (a:Addr):It :=
  ⟨fun i H=>∃ xs x,wU K H a xs/\xs[i]?=some x,fun i H x H'=>H'=H/\∀ xs,wU K H a xs->xs[i]?=some x,fun i H=>∃ xs,wU K H a xs/\xs.length<=i⟩
def Itt (K:cu) (a:Addr):It :=
  ⟨fun i H=>∃ xs x,rB K H a xs/\xs[i]?=some x,fun i H x H'=>H'=H/\∀ xs,rB K H a xs->xs[i]?=some x,fun i H=>∃ xs,rB K H a xs/\xs.length<=i⟩
def Itr (lo:Int) (n:Nat):It:=⟨fun i _=>i < n,fun i H x H'=>H'=H/\x = .int (lo+i),fun i _=>n<=i⟩
theorem a6X {w:World} {K:cu} (a it:Addr):Turn cm tl P w K tg (Itl K a) [it] it (fun i h=>h.IsListIter it a i) where
  mem:=by simp
  obj:=fun i h st b hb=>by
    have e:b=it:=by simpa using hb
    subst e;obtain ⟨o,e,c,d⟩:=st;exact ⟨o,e,fun v z=>by rw [d] at z;cases z⟩
  keep:=fun i h h' st k=>st.at fun o e=>k it (by simp) o e
  item:=by
    intro X hP hw hK hc ht i pins s σ H E I hf st hg;subst hP hw hK;obtain ⟨xs,x,hq,hx⟩:=hg;obtain ⟨its,rv,p,hz⟩:=I.list hq;obtain ⟨u,hu,ru⟩:=rv.get hx;obtain ⟨f0,f1,f2,f3,f4,f5⟩:=hf it (by simp);refine wpAny_pyNext_list_item st p.isList (x:=u) (by simpa using hu) fun h' st' sb=>?_;have I1:Inv X pins σ H { s with heap:=h' }:=I.turned (t':=s.toks) (fun b o hb e=>(sb.2 b hb).trans e) f0 f1 f3 f4 f5;obtain ⟨o,e,c,d⟩:=id st';exact ⟨u,rfl,aaM (s:={ s with heap:=h' }) e c d (by decide) ⟨x,H,I1,ru,⟨rfl,fun ys hy=>by rw [I.ajI hy hq];exact hx⟩,st',fun b hb=>(hf b hb).1⟩⟩
  done:=by
    intro X hP hw hK hc ht i pins s σ H E I hf st hg;subst hP hw hK;obtain ⟨xs,hq,hx⟩:=hg;obtain ⟨its,rv,p,hz⟩:=I.list hq;obtain ⟨f0,f1,f2,f3,f4,f5⟩:=hf it (by simp);have hl:=rv.length;exact ahG (I.hnd.heap I.hok) st p.isList (by simp;omega) fun h' eb=>⟨rfl,I.turned (t':=s.toks) (fun b o hb e=>eb b o hb e) f0 f1 f3 f4 f5⟩
  self:=fun _ _ _ _ _ st h=>wpAny_pyIter_listiter st h
theorem a3F {w:World} {K:cu} (a it:Addr):Turn cm tl P w K tg (Itt K a) [it] it (fun i h=>h.IsTupleIter it a i) where
  mem:=by simp
  obj:=fun i h st b hb=>by
    have e:b=it:=by simpa using hb
    subst e;obtain ⟨o,e,c,d⟩:=st;exact ⟨o,e,fun v z=>by rw [d] at z;cases z⟩
  keep:=fun i h h' st k=>st.at fun o e=>k it (by simp) o e
  item:=by
    intro X hP hw hK hc ht i pins s σ H E I hf st hg;subst hP hw hK;obtain ⟨xs,x,hq,hx⟩:=hg;obtain ⟨its,rv,p,hz⟩:=I.tuple hq;obtain ⟨u,hu,ru⟩:=rv.get hx;obtain ⟨f0,f1,f2,f3,f4,f5⟩:=hf it (by simp);refine wpAny_pyNext_tuple_item st (show s.heap.IsTuple a its.toArray from p) (x:=u) (by simpa using hu) fun h' st' sb=>?_;have I1:Inv X pins σ H { s with heap:=h' }:=I.turned (t':=s.toks) (fun b o hb e=>(sb.2 b hb).trans e) f0 f1 f3 f4 f5;obtain ⟨o,e,c,d⟩:=id st';exact ⟨u,rfl,aaM (s:={ s with heap:=h' }) e c d (by decide) ⟨x,H,I1,ru,⟨rfl,fun ys hy=>by rw [I.wB hy hq];exact hx⟩,st',fun b hb=>(hf b hb).1⟩⟩
  done:=by
    intro X hP hw hK hc ht i pins s σ H E I hf st hg;subst hP hw hK;obtain ⟨xs,hq,hx⟩:=hg;obtain ⟨its,rv,p,hz⟩:=I.tuple hq;obtain ⟨f0,f1,f2,f3,f4,f5⟩:=hf it (by simp);have hl:=rv.length;exact ajA (I.hnd.heap I.hok) st (show s.heap.IsTuple a its.toArray from p) (by simp;omega) fun h' eb=>⟨rfl,I.turned (t':=s.toks) (fun b o hb e=>eb b o hb e) f0 f1 f3 f4 f5⟩
  self:=fun _ _ _ _ _ st h=>wpAny_pyIter_tupleiter st h
theorem adL {w:World} {K:cu} (it:Addr) (lo:Int) (n:Nat):Turn cm tl P w K tg (Itr lo n) [it] it (fun i h=>IsRangeIter h it (lo+(i:Nat) * 1) ((n:Int) - (i:Nat)) 1) where
  mem:=by simp
  obj:=fun i h st b hb=>by
    have e:b=it:=by simpa using hb
    subst e
    exact ⟨_,st,fun v z=>by
      have z':Data.fields _=Data.cell v:=z;cases z'⟩
  keep:=fun i h h' st k=>k it (by simp) _ st
  item:=by
    intro X hP hw hK hc ht i pins s σ H E I hf st hg;subst hP hw hK;obtain ⟨f0,f1,f2,f3,f4,f5⟩:=hf it (by simp);have hi:i < n:=hg;refine wpAny_pyNext_range_item st (by omega) fun h' st' kk=>?_;have I1:Inv X pins σ H { s with heap:=h',toks:=s.toks+1 }:=I.turned (fun b o hb e=>(kk.2 b hb).trans e) f0 f1 f3 f4 f5
    have st2:IsRangeIter h' it (lo+((i+1:Nat):Int) * 1) ((n:Int) - ((i+1:Nat):Int)) 1:=by
      have e1:lo+((i:Nat):Int) * 1+1=lo+((i+1:Nat):Int) * 1:=by omega
      have e2:(n:Int) - ((i:Nat):Int) - 1=(n:Int) - ((i+1:Nat):Int):=by omega
      rw [← e1,← e2];exact st'
    refine ⟨_,rfl,aaM (s:={ s with heap:=h',toks:=s.toks+1 }) (n := "range_iterator") st2 rfl rfl (by decide) ⟨.int (lo+i),H,I1,⟨s.toks,?_⟩,⟨rfl,rfl⟩,st2,fun b hb=>(hf b hb).1⟩⟩;rw [Int.mul_one]
  done:=by
    intro X hP hw hK hc ht i pins s σ H E I hf st hg;subst hP hw hK;obtain ⟨f0,f1,f2,f3,f4,f5⟩:=hf it (by simp);exact ajB (I.hnd.heap I.hok) st (by have:n<=i:=hg;omega) fun h' eb=>⟨rfl,I.turned (t':=s.toks) (fun b o hb e=>eb b o hb e) f0 f1 f3 f4 f5⟩
  self:=fun _ _ _ _ _ st h=>wpAny_pyIter_rangeiter st h
end
variable {fp:List Addr}
section
section
variable {X:Cx} {tg:Expr}
theorem ajN {σ:St} {R:It->Hp->Prop} {lo hi:Int} {t u v:Tok} {tk:Nat} (I:Inv X pins σ H s) (h1:-(2 ^ 62)<=lo) (h2:lo < 2 ^ 62) (h3:-(2 ^ 62)<=hi) (h4:hi < 2 ^ 62)
    (q:R (Itr lo (hi - lo).toNat) H):wpAny (model X.prog X.w) X.A (pyIter (.ref s.heap.objs.size)) (PIE X pins σ tg R) E { s with heap:=s.heap.push { cls := .type "range",data := .fields #[.int lo t,.int hi u,.int 1 v] },toks:=tk }:=by
  refine wpAny_pyIter_range (IsRange.new ..) (small_one h1 h2 h3 h4) ?_;have I1:Inv X pins σ H { s with heap:=s.heap.push { cls := .type "range",data := .fields #[.int lo t,.int hi u,.int 1 v] },toks:=tk }:=I.kept fun b o e=>ao _ e
  refine ⟨(s.heap.push { cls := .type "range",data := .fields #[.int lo t,.int hi u,.int 1 v] }).objs.size,[(s.heap.push { cls := .type "range",data := .fields #[.int lo t,.int hi u,.int 1 v] }).objs.size],_,_,H,rfl,
    I1.kept (t':=tk) fun b o e=>ao _ e,adL _ lo (hi - lo).toNat,?_,fun b hb=>?_,q⟩
  . have e1:lo+((0:Nat):Int) * 1=lo:=by simp
    have e2:(((hi - lo).toNat:Nat):Int) - ((0:Nat):Int)=Builtin.Range.rangeSize lo hi 1:=by rw [rangeSize_one];split <;> omega
    show IsRangeIter _ _ (lo+((0:Nat):Int) * 1) ((((hi - lo).toNat:Nat):Int) - ((0:Nat):Int)) 1;rw [e1,e2];exact cj _ rfl
  . have e:b=(s.heap.push { cls := .type "range",data := .fields #[.int lo t,.int hi u,.int 1 v] }).objs.size:=by simpa using hb
    subst e;exact I1.a1Z (au _) (I1.hok.fresh (au _))
def azM (ta:TA):TI:=fun σ H R=>ta σ H fun vs H1=>∃ j:Int,vs=[.int j]/\-(2 ^ 62)<=j/\j < 2 ^ 62/\R (Itr 0 j.toNat) H1
theorem a6Y {a:Expr} {ta:TA} {p:Pos} (hg:Gl X "range") (hm:X.mg "range" = none) (ha:PA X [a] ta) (hs:starEach [a] X.env=[(false,eval a X.env)]:=by rfl):PI X tg (.Call (.Name "range" p) [a] [] pos) (azM ta):=by
  intro pins s σ H R I h;refine Call_ (a0F I hg hm boot_range (PyProof.Rows.callWith_type1 (cH (ha pos pins s σ H _ I h) fun us s1 ⟨vs,H1,I1,r1,q1⟩=>?_) hs rfl));obtain ⟨j,e,q1,q2,q⟩:=q1;subst e;cases r1 with
  | cons r rr =>
    cases rr;obtain ⟨t,rfl⟩:=r;exact call_range_1 (ajN I1 (by omega) (by omega) q1 q2 (by simpa using q))
def aED (wi:TI) (g:TG) (tb:TS):TS:=fun D σ H=>wi σ H fun J H1=>∃ W:Nat->Nat->St->Hp->Prop,(∃ m,W 0 m σ H1)/\∀ i m σ H,W i m σ H ->
  (J.stop i H/\D.nx σ H)∨(J.go i H/\∃ N:St->Hp->Prop,(∀ σ' H',N σ' H'->∃ m',m' < m/\W (i+1) m' σ' H')/\∀ x H',J.yld i H x H'->g x σ H' fun σ2 H2=>tb { D with nx:=N,ct:=N,bk:=D.nx } σ2 H2)
def a0G (fp:List Addr) (h:Heap):List (Addr×Obj):=fp.filterMap fun b=>(h.get? b).map fun o=>(b,o)
theorem rD (hb:b∈fp) (e:h.get? b=some o):(b,o)∈a0G fp h:=vh.mpr ⟨b,hb,by rw [e];rfl⟩
theorem ahM {p:Addr×Obj} (hp:p∈a0G fp h):p.1∈fp/\h.get? p.1=some p.2:=by
  obtain ⟨b,hb,e⟩:=vh.mp hp;cases q:h.get? b with
  | none=>rw [q] at e;cases e
  | some o =>
    rw [q] at e;have e':(b,o)=p:=dj.inj e;subst e';exact ⟨hb,q⟩
theorem Inv.pinned {σ:St} (I:Inv X pins σ H s) (hf:∀ b∈fp,z7 X pins H b) (ho:∀ b∈fp,∃ o,s.heap.get? b=some o/\∀ v,o.data ≠ .cell v):Inv X (pins++a0G fp s.heap) σ H s :=
  I.afK fun p hp=>(jo.mp hp).elim (fun z=>I.pin p (ig _ z)) fun z=>by
    obtain ⟨hb,e⟩:=ahM z;obtain ⟨f0,f1,f2,_⟩:=hf p.1 hb;obtain ⟨o,e',d⟩:=ho p.1 hb;rw [e] at e';cases e';exact ⟨e,f0,f1,f2,d⟩
theorem Inv.z8 {pl:List (Addr×Obj)} {σ:St} (I:Inv X (pins++pl) σ H s):Inv X pins σ H s:=I.afK fun p hp=>I.pin p (ig _ (qd _ hp))
theorem ajO {iter:Expr} {wi:TI} {g:TG} (hp:PassesOwn (model X.prog X.w) X.A X.env X.xe) (hi:PI X tg iter wi) (hg:PG X tg g) (hb:PSs X body tb)
    (hs:∀ x,foldedSetIterable iter X.env x=pure x:=by intro _;rfl):PS X (.For tg iter body [] pos) (aED wi g tb):=by
  intro pins s σ H D I h;refine wpAny_For (cH (hi pins s σ H _ I h) fun v s1 h1=>cH h1 fun itv s2 h2=>?_) hs;obtain ⟨it,fp,tn,J,H2,e,I2,T,st2,f2,W,⟨m0,w0⟩,turn⟩:=h2;subst e;have stat:∀ {H':Hp},(∀ b∈fp,H' b=none)->∀ b∈fp,z7 X pins H' b:=fun hn b hb=>⟨hn b hb,(f2 b hb).2⟩;refine codeAny_forLoop_any (fun n s'=>∃ i σ' H',Inv X pins σ' H' s'/\tn i s'.heap/\(∀ b∈fp,H' b=none)/\W i n σ' H') ?_ m0 ⟨0,σ,H2,I2,st2,fun b hb=>(f2 b hb).1,w0⟩;rintro n s3 ⟨i,σ3,H3,I3,st3,fr3,w3⟩;rcases turn i n σ3 H3 w3 with ⟨stop,qn⟩ | ⟨go,N,hN,step⟩
  . refine wpAny_passesOwn hp (cH (T.done X rfl rfl rfl (fun h=>h) (fun _ h=>h) i pins s3 σ3 H3 X.xe I3 (stat fr3) st3 stop) fun r s4 ⟨hr,I4⟩=>?_);subst hr;exact wpAny_execs_nil ⟨σ3,H3,I4,qn⟩
  . refine wpAny_passesOwn hp (cH (T.item X rfl rfl rfl (fun h=>h) (fun _ h=>h) i pins s3 σ3 H3 X.xe I3 (stat fr3) st3 go) fun r s4 ⟨u,hr,h4⟩=>?_);subst hr;refine wpAny_passesOwn hp (cH h4 fun _ s5 ⟨x,H5,I5,r5,y5,st5,fr5⟩=>?_);have I5':=I5.pinned (stat fr5) (T.obj _ _ st5);refine wpAny_passesOwn hp (cH (hg _ s5 σ3 H5 x u _ I5' r5 (step x H5 y5)) fun _ s6 ⟨σ6,H6,I6,q6⟩=>?_);refine wpAny_passesOwn hp (cH (hb _ s6 σ6 H6 _ I6 q6) fun f s7 q7=>?_)
    have again:∀ {σ7:St} {H7:Hp},Inv X (pins++a0G fp s5.heap) σ7 H7 s7->N σ7 H7->∃ m,m < n/\∃ i σ' H',Inv X pins σ' H' s7/\tn i s7.heap/\(∀ b∈fp,H' b=none)/\W i m σ' H':=fun {σ7 H7} I7 n7=>by
      obtain ⟨m',hm,w7⟩:=hN σ7 H7 n7;refine ⟨m',hm,i+1,σ7,H7,I7.z8,T.keep _ _ _ st5 fun b hb o e=>(I7.pin (b,o) (ig _ (ig _ (rD hb e)))).1,fun b hb=>?_,w7⟩;obtain ⟨o,e,d⟩:=T.obj _ _ st5 b hb;exact (I7.pin (b,o) (ig _ (ig _ (rD hb e)))).2.1
    cases f with
    | next=>obtain ⟨σ7,H7,I7,n7⟩:=q7;exact again I7 n7
    | cont=>obtain ⟨σ7,H7,I7,n7⟩:=q7;exact again I7 n7
    | brk=>obtain ⟨σ7,H7,I7,q7⟩:=q7;exact ⟨σ7,H7,I7.z8,q7⟩
    | ret v=>obtain ⟨x7,σ7,H7,I7,r7,q7⟩:=q7;exact ⟨x7,σ7,H7,I7.z8,r7,q7⟩
end
end
variable {g:Int->Int->Int}{f:Value->Value->Sem Value}{op':CmpOp}{y:V}
section
abbrev R2:=V->V->Hp->VK->Prop
def pO (X:Cx) (f:Value->Value->Sem Value) (r:R2):Prop :=
  ∀ (pins:List (Addr×Obj)) (s:Shared) (σ:St) (H:Hp) (x y:V) (v u:Value) (Q:VK),Inv X pins σ H s->RelV x v->RelV y u->r x y H Q ->
    wpAny (model X.prog X.w) X.A (f v u) (EP X pins σ Q) X.xe s
def UnR (X:Cx) (f:Value->Sem Value) (r:V->Hp->VK->Prop):Prop :=
  ∀ (pins:List (Addr×Obj)) (s:Shared) (σ:St) (H:Hp) (x:V) (v:Value) (Q:VK),Inv X pins σ H s->RelV x v->r x H Q ->
    wpAny (model X.prog X.w) X.A (f v) (EP X pins σ Q) X.xe s
def o8 (X:Cx) (f:Value) (r:List V->Hp->VK->Prop):Prop :=
  ∀ (pins:List (Addr×Obj)) (s:Shared) (σ:St) (H:Hp) (xs:List V) (us:List Value) (Q:VK),Inv X pins σ H s->Vals xs us->r xs H Q ->
    wpAny (model X.prog X.w) X.A (call f us) (EP X pins σ Q) X.xe s
def tOp (r:R2) (ta tb:TE):TE:=fun σ H Q=>ta σ H fun x H1=>tb σ H1 fun y H2=>r x y H2 Q
def tUn (r:V->Hp->VK->Prop) (ta:TE):TE:=fun σ H Q=>ta σ H fun x H1=>r x H1 Q
def rI (C:Int->Int->Prop) (g:Int->Int->V):R2:=fun x y H Q=>∃ i j,x = .int i/\y = .int j/\C i j/\Q (g i j) H
def rI0 (g:Int->Int->V):R2:=fun x y H Q=>∃ i j,x = .int i/\y = .int j/\Q (g i j) H
def rU (g:Int->V):V->Hp->VK->Prop:=fun x H Q=>∃ i,x = .int i/\Q (g i) H
variable {r:R2}
section
variable {X:Cx} {a b c:Expr} {ta tb tc:TE} {pos:Pos}
theorem auT (ha:PE X a ta) (hb:PE X b tb) {σ:St} (I:Inv X pins σ H s)
    (h:ta σ H fun x H1=>tb σ H1 fun y H2=>R x y H2) {Q:Value->Shared->Prop}
    (hf:∀ v u s2 x y H2,Inv X pins σ H2 s2->RelV x v->RelV y u->R x y H2->wpAny (model X.prog X.w) X.A (f v u) Q X.xe s2) :
    wpAny (model X.prog X.w) X.A (eval a X.env) (fun v s₁=>wpAny (model X.prog X.w) X.A (eval b X.env) (fun u s₂=>wpAny (model X.prog X.w) X.A (f v u) Q X.xe s₂) X.xe s₁) X.xe s:=by
  refine cH (ha pins s σ H _ I h) fun v s1 ⟨x,H1,I1,r1,q1⟩=>?_;refine cH (hb pins s1 σ H1 _ I1 q1) fun u s2 ⟨y,H2,I2,r2,q2⟩=>?_;exact hf v u s2 x y H2 I2 r1 r2 q2
theorem azN {op:Operator} (ho:pO X (binaryOp op) r) (ha:PE X a ta) (hb:PE X b tb):PE X (.BinOp a op b pos) (tOp r ta tb):=by
  intro pins s σ H Q I h;exact wpAny_BinOp (auT ha hb I h fun v u s2 x y H2 I2 rx ry q=>ho pins s2 σ H2 x y v u Q I2 rx ry q)
theorem azO {op:UnaryOp} {r:V->Hp->VK->Prop} (ho:UnR X (unaryOp op) r) (ha:PE X a ta):PE X (.UnaryOp op a pos) (tUn r ta):=by
  intro pins s σ H Q I h;exact UnaryOp_ (cH (ha pins s σ H _ I h) fun v s1 ⟨x,H1,I1,r1,q1⟩=>ho pins s1 σ H1 x v Q I1 r1 q1)
theorem opI {C:Int->Int->Prop}
    (rule:∀ (i j:Int) (t u:Tok) (s:Shared) (Q:Value->Shared->Prop) (E:Value->Shared->Prop),C i j->Q (.int (g i j) s.toks) { s with toks:=s.toks+1 }->wpAny (model X.prog X.w) X.A (f (.int i t) (.int j u)) Q E s) :
    pO X f (rI C fun i j => .int (g i j)):=by
  intro pins s σ H x y v u Q I rx ry h;obtain ⟨i,j,rfl,rfl,hc,q⟩:=h;obtain ⟨t,rfl⟩:=rx;obtain ⟨t',rfl⟩:=ry;exact rule i j t t' s _ _ hc ⟨.int (g i j),H,I.tok _,⟨_,rfl⟩,q⟩
theorem azP
    (rule:∀ (i j:Int) (t u:Tok) (s:Shared) (Q:Value->Shared->Prop) (E:Value->Shared->Prop),Q (.int (g i j) s.toks) { s with toks:=s.toks+1 }->wpAny (model X.prog X.w) X.A (f (.int i t) (.int j u)) Q E s) :
    pO X f (rI0 fun i j => .int (g i j)):=by
  intro pins s σ H x y v u Q I rx ry h;obtain ⟨i,j,rfl,rfl,q⟩:=h;obtain ⟨t,rfl⟩:=rx;obtain ⟨t',rfl⟩:=ry;exact rule i j t t' s _ _ ⟨.int (g i j),H,I.tok _,⟨_,rfl⟩,q⟩
theorem ao8 {g:Int->Int->Bool}
    (rule:∀ (i j:Int) (t u:Tok) (s:Shared) (Q:Value->Shared->Prop) (E:Value->Shared->Prop),Q (.bool (g i j)) s->wpAny (model X.prog X.w) X.A (f (.int i t) (.int j u)) Q E s) :
    pO X f (rI0 fun i j => .bl (g i j)):=by
  intro pins s σ H x y v u Q I rx ry h;obtain ⟨i,j,rfl,rfl,q⟩:=h;obtain ⟨t,rfl⟩:=rx;obtain ⟨t',rfl⟩:=ry;exact rule i j t t' s _ _ ⟨.bl (g i j),H,I,rfl,q⟩
def auU (i j:Int):Prop:=0 < j/\j < 1073741824
def azQ (i j:Int):Prop:=0<=j/\j<=1000000/\i.natAbs < 2 ^ 64
def ajP (i j:Int):Prop:=(-(2 ^ 64) < i/\i < 2 ^ 64)∨(-(2 ^ 64) < j/\j < 2 ^ 64)
theorem ajP.ok {i j:Int} (h:ajP i j):IntMulOk i j:=by
  rcases h with ⟨h1,h2⟩ | ⟨h1,h2⟩
  . exact .of_left (intBits_le_64 h1 h2)
  . exact .of_right (intBits_le_64 h1 h2)
theorem auV:pO X (binaryOp .Add) (rI0 fun i j => .int (i+j)):=azP fun _ _ _ _ _ _ _ q=>add_int q
theorem auW:pO X (binaryOp .Sub) (rI0 fun i j => .int (i - j)):=azP fun _ _ _ _ _ _ _ q=>sub_int q
theorem auX:pO X (binaryOp .Mult) (rI ajP fun i j => .int (i * j)):=opI fun _ _ _ _ _ _ _ hc q=>mul_int q hc.ok
theorem ao9:pO X (binaryOp .FloorDiv) (rI auU fun i j => .int (i / j)):=opI fun i j _ _ _ _ _ hc q=>by
  have h1:(0:Int) < j:=hc.1;have h2:j < 1073741824:=hc.2;exact floordiv_int (by omega) (by rw [Int.fdiv_eq_ediv_of_nonneg i (by omega)];exact q) (.inl (PyProof.noPylong_small (by omega)))
theorem auY:pO X (binaryOp .Mod) (rI (fun _ j=>0 < j) fun i j => .int (i % j)):=opI fun i j _ _ _ _ _ hc q=>by
  have h1:(0:Int) < j:=hc;exact mod_int' (by omega) (by rw [Int.fmod_eq_emod_of_nonneg i (by omega)];exact q)
theorem auZ:pO X (binaryOp .Pow) (rI azQ fun i j => .int (i ^ j.toNat)):=opI fun _ _ _ _ _ _ _ hc q=>pow_int_small hc.1 hc.2.1 hc.2.2 q
theorem unI {f:Value->Sem Value} {g:Int->Int}
    (rule:∀ (i:Int) (t:Tok) (s:Shared) (Q:Value->Shared->Prop) (E:Value->Shared->Prop),Q (.int (g i) s.toks) { s with toks:=s.toks+1 }->wpAny (model X.prog X.w) X.A (f (.int i t)) Q E s) :
    UnR X f (rU fun i => .int (g i)):=by
  intro pins s σ H x v Q I rx h;obtain ⟨i,rfl,q⟩:=h;obtain ⟨t,rfl⟩:=rx;exact rule i t s _ _ ⟨.int (g i),H,I.tok _,⟨_,rfl⟩,q⟩
theorem av0:UnR X (unaryOp .USub) (rU fun i => .int (-i)):=unI fun _ _ _ _ _ q=>neg_int q
end
variable {r':R2}{x:V}
section
variable {X:Cx} {a b c:Expr} {ta tb tc:TE} {pos:Pos}
theorem a86 {σ:St} {Q:VK} {k k':Bool} (I:Inv X pins σ H s) (q:Q (.bl k) H) (e:k=k'):EP X pins σ Q (.bool k') s:=by
  subst e;exact ⟨.bl k,H,I,rfl,q⟩
theorem azR:pO X (compareOp .Lt) (rI0 fun i j => .bl (decide (i < j))):=ao8 fun _ _ _ _ _ _ _ q=>lt_int q
theorem azS:pO X (compareOp .LtE) (rI0 fun i j => .bl (decide (i<=j))):=ao8 fun _ _ _ _ _ _ _ q=>le_int q
theorem azT:pO X (compareOp .Gt) (rI0 fun i j => .bl (decide (j < i))):=ao8 fun _ _ _ _ _ _ _ q=>gt_int q
theorem azU:pO X (compareOp .GtE) (rI0 fun i j => .bl (decide (j<=i))):=ao8 fun _ _ _ _ _ _ _ q=>ge_int q
theorem ahN:pO X (compareOp .In) (fun x y H Q=>∃ i j,x = .str i/\y = .str j/\Q (.bl (!(Builtin.Str.occurrences j i 0 j.length 1).isEmpty)) H):=by
  intro pins s σ H x y v u Q I rx ry h;obtain ⟨i,j,rfl,rfl,q⟩:=h;obtain ⟨t,rfl⟩:=rx;obtain ⟨t',rfl⟩:=ry;exact in_str (a86 I q rfl)
theorem av1:pO X (compareOp .Is) (fun x y H Q=>y = .non/\Q (.bl (decide (x = .non))) H):=by
  intro pins s σ H x y v u Q I rx ry h;obtain ⟨rfl,q⟩:=h;cases ry;refine is_none_gen (a86 I q ?_)
  cases x <;> first
    | (cases rx;rfl)
    | (obtain ⟨t,rfl⟩:=rx;rfl)
theorem aoA:pO X (compareOp .IsNot) (fun x y H Q=>y = .non/\Q (.bl (!decide (x = .non))) H):=by
  intro pins s σ H x y v u Q I rx ry h;obtain ⟨rfl,q⟩:=h;cases ry;refine isnot_none_gen (a86 I q ?_)
  cases x <;> first
    | (cases rx;rfl)
    | (obtain ⟨t,rfl⟩:=rx;rfl)
theorem a87:pO X (compareOp .NotIn) (fun x y H Q=>∃ i j,x = .str i/\y = .str j/\Q (.bl (!(!(Builtin.Str.occurrences j i 0 j.length 1).isEmpty))) H):=by
  intro pins s σ H x y v u Q I rx ry h;obtain ⟨i,j,rfl,rfl,q⟩:=h;obtain ⟨t,rfl⟩:=rx;obtain ⟨t',rfl⟩:=ry;exact notIn_str (a86 I q rfl)
theorem pO.or (h:pO X f r) (h':pO X f r'):pO X f (fun x y H Q=>r x y H Q∨r' x y H Q):=by
  intro pins s σ H x y v u Q I rx ry q;rcases q with q | q
  . exact h pins s σ H x y v u Q I rx ry q
  . exact h' pins s σ H x y v u Q I rx ry q
theorem aEG (b:Expr) (h:op ≠ .In:=by decide) (h2:op ≠ .NotIn:=by decide):behindInMarks op b=false:=by
  have e1:(op == CmpOp.In)=false:=by cases op <;> first | rfl | exact absurd rfl h
  have e2:(op == CmpOp.NotIn)=false:=by cases op <;> first | rfl | exact absurd rfl h2
  cases b <;> simp [behindInMarks,e1,e2]
theorem aoB (ho:pO X (compareOp op) r) (ha:PE X a ta) (hb:PE X b tb) (hm:behindInMarks op b=false):PE X (.Compare a [op] [b] pos) (tOp r ta tb):=by
  intro pins s σ H Q I h;exact wpAny_Compare1 (auT ha hb I h fun v u s2 x y H2 I2 rx ry q=>ho pins s2 σ H2 x y v u Q I2 rx ry q) hm
def ajQ (t:TE):TT:=fun σ H Q=>t σ H fun x H'=>∃ k,x = .bl k/\Q k H'
theorem aoC (ho:pO X (compareOp op) r) (ha:PE X a ta) (hb:PE X b tb) (hm:behindInMarks op b=false):PT X (.Compare a [op] [b] pos) (ajQ (tOp r ta tb)):=by
  intro pins s σ H Q I h
  refine wpAny_isTrue_Compare1 (cH (ha pins s σ H _ I h) fun v s1 ⟨x,H1,I1,r1,q1⟩=>cH (hb pins s1 σ H1 _ I1 q1) fun u s2 ⟨y,H2,I2,r2,q2⟩ =>
    cH (ho pins s2 σ H2 x y v u _ I2 r1 r2 q2) fun c s3 ⟨z,H3,I3,r3,k,e,q3⟩=>?_) hm
  subst e;cases r3;exact wpAny_truthy_bool ⟨H3,I3,q3⟩
def adM (r r':R2) (ta tb tc:TE):TE:=fun σ H Q=>ta σ H fun x H1=>tb σ H1 fun y H2=>r x y H2 fun z H3=>∃ k,z = .bl k /\
  (if k=true then tc σ H3 fun w' H4=>r' y w' H4 Q else Q (.bl false) H3)
theorem ajR (ho:pO X (compareOp op) r) (ho':pO X (compareOp op') r') (ha:PE X a ta) (hb:PE X b tb) (hc:PE X c tc)
    (hm:lastMarks [op,op'] [b,c]=false:=by with_unfolding_all rfl):PE X (.Compare a [op,op'] [b,c] pos) (adM r r' ta tb tc):=by
  intro pins s σ H Q I h
  refine Compare_chain (cH (ha pins s σ H _ I h) fun v s1 ⟨x,H1,I1,r1,q1⟩=>chain_link (cH (hb pins s1 σ H1 _ I1 q1) fun u s2 ⟨y,H2,I2,r2,q2⟩ =>
    cH (ho pins s2 σ H2 x y v u _ I2 r1 r2 q2) fun d s3 ⟨z,H3,I3,r3,k,e,q3⟩=>?_)) hm
  subst e;cases r3;refine wpAny_truthy_bool ?_;cases k with
  | false=>exact ite_ff ⟨.bl false,H3,I3,rfl,q3⟩
  | true=>exact ite_tt (chain_last (cH (hc pins s3 σ H3 _ I3 q3) fun w' s4 ⟨z',H4,I4,r4,q4⟩=>ho' pins s4 σ H4 y z' u w' Q I4 r2 r4 q4))
theorem ajS (ho:pO X (compareOp op) r) (ho':pO X (compareOp op') r') (ha:PE X a ta) (hb:PE X b tb) (hc:PE X c tc)
    (hm:lastMarks [op,op'] [b,c]=false:=by with_unfolding_all rfl):PT X (.Compare a [op,op'] [b,c] pos) (ajQ (adM r r' ta tb tc)):=by
  intro pins s σ H Q I h
  refine isTrue_chain (cH (ha pins s σ H _ I h) fun v s1 ⟨x,H1,I1,r1,q1⟩=>test_link (cH (hb pins s1 σ H1 _ I1 q1) fun u s2 ⟨y,H2,I2,r2,q2⟩ =>
    cH (ho pins s2 σ H2 x y v u _ I2 r1 r2 q2) fun d s3 ⟨z,H3,I3,r3,k,e,q3⟩=>?_)) hm
  subst e;cases r3;refine wpAny_truthy_bool ?_;cases k with
  | false =>
    obtain ⟨k',e',q'⟩:=q3;cases e';exact ite_ff ⟨H3,I3,q'⟩
  | true =>
    refine ite_tt (test_last (cH (hc pins s3 σ H3 _ I3 q3) fun w' s4 ⟨z',H4,I4,r4,q4⟩=>cH (ho' pins s4 σ H4 y z' u w' _ I4 r2 r4 q4) fun d' s5 ⟨z2,H5,I5,r5,k2,e2,q5⟩=>?_));subst e2;cases r5;exact wpAny_truthy_bool ⟨H5,I5,q5⟩
theorem a3G:(sizeLine:Nat) < 2 ^ 63:=by rw [sizeLine_eq];decide
theorem adN:pO X (binaryOp .Add) (fun x y H Q=>∃ i j,x = .str i/\y = .str j/\i.length+j.length<=sizeLine/\Q (.str (i++j)) H):=by
  intro pins s σ H x y v u Q I rx ry h;obtain ⟨i,j,rfl,rfl,hz,q⟩:=h;obtain ⟨t,rfl⟩:=rx;obtain ⟨t',rfl⟩:=ry;exact add_str (fun t' tk=>⟨.str (i++j),H,I.tok _,⟨_,rfl⟩,q⟩) hz
theorem vals1 (r:Vals [x] us):∃ u,us=[u]/\RelV x u:=by
  cases r with
  | cons r1 r2=>cases r2;exact ⟨_,rfl,r1⟩
theorem vals2 (r:Vals [x,y] us):∃ u w',us=[u,w']/\RelV x u/\RelV y w':=by
  cases r with
  | cons r1 r2 =>
    cases r2 with
    | cons r3 r4=>cases r4;exact ⟨_,_,rfl,r1,r3⟩
theorem ajT:o8 X (.builtin "abs") (fun xs H Q=>∃ i,xs=[.int i]/\Q (.int (if i < 0 then -i else i)) H):=by
  intro pins s σ H xs us Q I r h;obtain ⟨i,rfl,q⟩:=h;obtain ⟨u,rfl,t,rfl⟩:=vals1 r;exact call_abs_int fun u tk=>⟨.int (if i < 0 then -i else i),H,I.tok _,⟨_,rfl⟩,q⟩
theorem ahO (hc:X.calm=true):o8 X (.builtin "max") (fun xs H Q=>∃ i j,xs=[.int i,.int j]/\Q (.int (if j > i then j else i)) H):=by
  intro pins s σ H xs us Q I r h;obtain ⟨i,j,rfl,q⟩:=h;obtain ⟨u,w',rfl,⟨t,rfl⟩,⟨t',rfl⟩⟩:=vals2 r;refine max_two_ints (I.ok.hd hc) fun h' tk k=>⟨_,H,I.kept k,?_,q⟩;by_cases hj:j > i
  . rw [if_pos hj,if_pos hj];exact ⟨_,rfl⟩
  . rw [if_neg hj,if_neg hj];exact ⟨_,rfl⟩
theorem ahP (hc:X.calm=true):o8 X (.builtin "min") (fun xs H Q=>∃ i j,xs=[.int i,.int j]/\Q (.int (if j < i then j else i)) H):=by
  intro pins s σ H xs us Q I r h;obtain ⟨i,j,rfl,q⟩:=h;obtain ⟨u,w',rfl,⟨t,rfl⟩,⟨t',rfl⟩⟩:=vals2 r;refine min_two_ints (I.ok.hd hc) fun h' tk k=>⟨_,H,I.kept k,?_,q⟩;by_cases hj:j < i
  . rw [if_pos hj,if_pos hj];exact ⟨_,rfl⟩
  . rw [if_neg hj,if_neg hj];exact ⟨_,rfl⟩
theorem ahQ:o8 X (.type "int") (fun xs H Q=>(∃ i,xs=[.int i]/\Q (.int i) H)∨∃ k,xs=[.bl k]/\Q (.int (if k then 1 else 0)) H):=by
  intro pins s σ H xs us Q I r h;rcases h with ⟨i,rfl,q⟩ | ⟨k,rfl,q⟩
  . obtain ⟨u,rfl,t,rfl⟩:=vals1 r;exact call_int_int ⟨.int i,H,I,⟨_,rfl⟩,q⟩
  . obtain ⟨u,rfl,r1⟩:=vals1 r;cases r1;exact call_int_bool ⟨.int (if k then 1 else 0),H,I.tok _,⟨_,rfl⟩,q⟩
end
end
variable {C:Addr}{kw:List (Str×Value)}
section
section
variable {prog:Program} {w:World} {A:Around} {E:Value->Shared->Prop} {s:Shared} {K:cu} {x dx C f:Addr} {mA:Str->Option Value} {name:Str} {v:Value}
theorem ajU {R:Result->Shared->Prop} {vs:List Value} (X:K.In s.heap) (hm:PySem.W.makesIn K C=true)
    (hi:ni K (.ref C) "__init__" = some (some (.ref f))) (hf:ou K (.ref f)=some (.type "function"))
    (h:codeAny (model prog w) (A.under (.builtin "type.__call__" ⟨.ref C :: vs,kw⟩)) (.call (.ref f) ⟨.ref (s.heap.objs.size+1) :: vs,kw⟩) (PySem.W.InitBack (s.heap.objs.size+1) R)
      { s with heap:=(s.heap.push lq).push (ud C s.heap.objs.size) }) :
    codeAny (model prog w) A (.call (.ref C) ⟨vs,kw⟩) R s:=by
  obtain ⟨hh,g,d,t,os⟩:=s;exact PySem.W.make_core (PySem.W.makes_of X hm) (PySem.W.looks_findIn X hi) (fun self=>PySem.W.bind_fn X self hf) (.inl rfl) h
end
theorem a1Y.some_of {o:Option Value} (r:a1Y (some v) o):∃ u,o=some u/\RelV v u:=by
  cases o with
  | none=>exact (show False from r).elim
  | some u=>exact ⟨u,rfl,r⟩
section
variable {P:Program} {w:World} {H H':Hp} {h h':Heap} {a C dx:Addr} {fs fs':List (Str×V)}
end
structure Cls (K:cu) (C:Addr):Prop where
  pg:PySem.W.plainGet K C Str.empty=true
  hd:PySem.W.hasDictIn K C=true
  po:PySem.W.plainOver K C=true
  sa:ni K (.ref C) "__setattr__" = some (some (.builtin "object.__setattr__"))
theorem Cls.get {K:cu} (c:Cls K C) (f:Str):PySem.W.plainGet K C f=true:=c.pg
def ajV (K:cu) (C:Addr) (f:Str):Prop:=ni K (.ref C) f=some none
structure Meth (K:cu) (C:Addr) (m:Str) (f:Addr):Prop where
  at_:ni K (.ref C) m=some (some (.ref f))
  fn:PySem.W.isFn K (.ref f)=true
  kp:jy K (.ref f)=true
section
variable {X:Cx} {pins:List (Addr×Obj)} {σ:St} {H:Hp} {s:Shared} {a C dx:Addr} {fs:List (Str×V)} {f:Str} {v:V} {A:Around} {E:Value->Shared->Prop}
theorem Inv.made (I:Inv X pins σ H s):Inv X pins σ (upd (upd H s.heap.objs.size (.own (s.heap.objs.size+1))) (s.heap.objs.size+1) (.ins C s.heap.objs.size []))
    { s with heap:=(s.heap.push lq).push (ud C s.heap.objs.size) }:=by
  have e1:(s.heap.push lq).get? s.heap.objs.size=some lq:=cj s.heap rfl
  have e2:((s.heap.push lq).push (ud C s.heap.objs.size)).get? (s.heap.objs.size+1)=some (ud C s.heap.objs.size):=by
    have:=cj (s.heap.push lq) (o:=ud C s.heap.objs.size) rfl
    rwa [qj] at this
  have e3:(s.heap.push lq).Ns s.heap.objs.size (fun _=>none):=⟨lq,#[],_,e1,rfl,(fun e he=>absurd he (by simp)),fun _=>rfl⟩;have I1:=I.laid (a:=s.heap.objs.size) (o := .own (s.heap.objs.size+1)) (h':=s.heap.push lq) (t':=s.toks) (fun b u q=>ao _ q) (au _) ⟨_,e1⟩;refine I1.laid (a:=s.heap.objs.size+1) (o := .ins C s.heap.objs.size []) (t':=s.toks) (fun b u q=>ao _ q) (vm (qj _ _)) ?_;have ne:s.heap.objs.size≠s.heap.objs.size+1:=gb (Nat.lt_succ_self _);refine ⟨by rw [aW ne,aN],ux _,ne,e2,fun _=>none,(Heap.Ns1.of_empty e3).at fun o q=>ao _ q,fun _=>True.intro,fun y hy=>absurd rfl hy⟩
end
section
variable {X:Cx} {o e value:Expr} {f:Str} {pos pos' tpos:Pos} {ta tv:TE}
end
section
variable {X:Cx} {pins:List (Addr×Obj)} {σ:St} {H:Hp} {s:Shared} {A:Around} {E:Value->Shared->Prop} {Q:Value->Shared->Prop} {c:Value} {b:Bool}
end
end
variable {mg:Str->Option Value}{base:Heap}{fd:FuncData}{ps:List Str}{outer:List Env}{qual:Str}{scope:Scope}
section
structure f9 (qt:Bool) (k:Nat) (A:Around):Prop where
  hd:qt=false->A.handled=none
  dp:A.depth+3 * k+5 < recursionLimit
  un:A.units+16 * k+200 < cLine
theorem f9.mono {k:Nat} (r:f9 qt k A) (h:j<=k):f9 qt j A:=⟨r.hd,by have:=r.dp;omega,by have:=r.un;omega⟩
theorem f9.deeper {k:Nat} (r:f9 qt (k+1) A) (env:Env):f9 qt k (A.deeper env) :=
  ⟨r.hd,by have:=r.dp;show A.depth+1+3 * k+5 < _;omega,by have:=r.un;show A.units+3+16 * k+200 < _;omega⟩
theorem f9.in1 {k:Nat} (r:f9 qt (k+1) A):f9 qt k A.in1 :=
  ⟨r.hd,by have:=r.dp;show A.depth+3 * k+5 < _;omega,by have:=r.un;show A.units+1+16 * k+200 < _;omega⟩
theorem adO:(A.under (.builtin "type.__call__" ⟨.ref C :: us,kw⟩)).depth=A.depth+1:=by
  first | rfl | simp [Around.under,Code.weight,Code.isCreation,Code.isGuard,Code.isCaller,Code.frames,Code.isFrame,guardIds]
theorem adP:(A.under (.builtin "type.__call__" ⟨.ref C :: us,kw⟩)).units=A.units+1:=by
  first | rfl | simp [Around.under,Code.cUnits,Code.frames,Code.isFrame]
theorem f9.make {k:Nat} (r:f9 qt (k+1) A) (C:Addr) (us:List Value) (kw:List (Str×Value)):f9 qt k (A.under (.builtin "type.__call__" ⟨.ref C :: us,kw⟩)) :=
  ⟨r.hd,by have:=r.dp;rw [adO];omega,by have:=r.un;rw [adP];omega⟩
theorem f9.depth {k:Nat} (r:f9 qt k A):A.depth < recursionLimit:=by have:=r.dp;omega
theorem f9.units {k:Nat} (r:f9 qt k A):A.units+64 < cLine:=by have:=r.un;omega
def azV:TA:=fun _ H Q=>Q [] H
def asG (ta:TE) (tr:TA):TA:=fun σ H Q=>ta σ H fun x H1=>tr σ H1 fun xs H2=>Q (x :: xs) H2
section
variable {X:Cx} {e:Expr} {es:List Expr} {te:TE} {t:TA} {pos:Pos}
theorem av2:PA X [] azV:=fun _ _ _ _ H Q I h=>Calls.spliced_nil ⟨[],H,I,.nil,h⟩
theorem aoD (ha:PE X e te) (hr:PA X es t) (hs:starEach (e :: es) X.env=(false,eval e X.env) :: starEach es X.env:=by rfl):PA X (e :: es) (asG te t):=by
  intro pos pins s σ H Q I h;rw [hs];show wpAny _ _ (spliced ((false,eval e X.env) :: backTo pos (starEach es X.env))) _ _ s;refine Calls.spliced_cons (cH (ha pins s σ H _ I h) fun u s1 ⟨x,H1,I1,r1,q1⟩=>?_);exact cH (hr pos pins s1 σ H1 _ I1 q1) fun us s2 ⟨xs,H2,I2,r2,q2⟩=>⟨x :: xs,H2,I2,.cons r1 r2,q2⟩
def aEH (t:TA):TE:=fun σ H Q=>t σ H fun xs H1=>xs.length<=sizeLine/\∀ p,H1 p=none->Q (.ref p) (upd H1 p (.tup xs))
def aEI (t:TA):TE:=fun σ H Q=>t σ H fun xs H1=>xs.length<=sizeLine/\∀ p,H1 p=none->Q (.ref p) (upd H1 p (.lst xs))
theorem av3 {x1} (h:PA X es t):PE X (.Tuple es x1 pos) (aEH t):=by
  intro pins s σ H Q I hq;refine wpAny_Tuple_spliced (cH (h pos pins s σ H _ I hq) fun us s1 ⟨xs,H1,I1,r,z,q⟩=>⟨by rw [← r.length];exact z,?_⟩);have hf:H1 s1.heap.objs.size=none:=I1.hok.fresh (au _);refine ⟨.ref s1.heap.objs.size,upd H1 s1.heap.objs.size (.tup xs),I1.laid (t':=s1.toks) (fun b u e=>ao _ e) (au _) ?_,rfl,q _ hf⟩;exact ⟨z,us,r,⟨_,cj _ rfl,rfl,_,rfl⟩⟩
theorem av4 (h:PA X es t):PE X (.List es pos) (aEI t):=by
  intro pins s σ H Q I hq;refine wpAny_List_spliced (cH (h pos pins s σ H _ I hq) fun us s1 ⟨xs,H1,I1,r,z,q⟩=>⟨by rw [← r.length];exact z,?_⟩);have hf:H1 s1.heap.objs.size=none:=I1.hok.fresh (au _);refine ⟨.ref s1.heap.objs.size,upd H1 s1.heap.objs.size (.lst xs),I1.laid (t':=s1.toks) (fun b u e=>ao _ e) (au _) ?_,rfl,q _ hf⟩;exact ⟨z,us,0,r,cj _ rfl⟩
end
abbrev Sp:=List V->Hp->VK->XK->Prop
abbrev CXT:=List Env->Hp->Shared->XK->Value->Shared->Prop
structure a66 (P:Program) (w:World) (K:cu) (mg:Str->Option Value) (base:Heap) (A:Around) (outer:List Env) (s:Shared) (H:Hp):Prop where
  frames:A.frames=some outer
  mod:Mod K mg base
  bs:∀ b o,base.get? b=some o->s.heap.get? b=some o/\H b=none
  bsz:base.objs.size<=s.heap.objs.size
  u0:s.heap.FunFrames base outer
  frf:∀ b∈frs outer,H b=none
  hok:wY P w H s.heap
  bare:AllBare s.gens
  hnd:Hnd A H
def CE (outer:List Env) (P:Program) (w:World) (H:Hp) (s:Shared) (Q:VK) (u:Value) (s':Shared):Prop :=
  ∃ v H',s'.os=s.os/\AllBare s'.gens/\Un (frs outer) [] H H' s.heap s'.heap/\wY P w H' s'.heap/\RelV v u/\Q v H'
def CR (CX:CXT) (outer:List Env) (P:Program) (w:World) (H:Hp) (s:Shared) (Q:VK) (E:XK) (r:Result) (s':Shared):Prop :=
  match r with
  | .ok (.ret u)=>CE outer P w H s Q u s'
  | .ok _=>False
  | .error e=>CX outer H s E e s'
structure bW (qt:Bool) (P:Program) (w:World) (K:cu) (mg:Str->Option Value) (base:Heap) (CX:CXT) (k:Nat) (f:Addr) (fd:FuncData) (ps:List Str) (sp:Sp):Prop where
  len:∀ vs H Q E,sp vs H Q E->vs.length=ps.length
  run:∀ (A:Around) (outer:List Env) (s:Shared) (H:Hp) (args:Args) (us:List Value) (vs:List V) (Q:VK) (E:XK),f9 qt k A->a66 P w K mg base A outer s H->BindsTo s fd args (ps.zip us)->Vals vs us->sp vs H Q E ->
    codeAny (model P w) A (.call (.ref f) args) (CR CX outer P w H s Q E) s
theorem bW.mono {P:Program} {w:World} {K:cu} {mg:Str->Option Value} {base:Heap} {CX:CXT} {j k:Nat} {f:Addr} {fd:FuncData} {ps:List Str} {sp:Sp} (F:bW qt P w K mg base CX j f fd ps sp) (h:j<=k) :
    bW qt P w K mg base CX k f fd ps sp:=⟨F.len,fun A outer s H args us vs Q E hr=>F.run A outer s H args us vs Q E (hr.mono h)⟩
variable {CX:CXT}{f:Addr}{sp:Sp}
theorem bW.imp {w:World} {K:cu} {k:Nat} {sp':Sp} (F:bW qt P w K mg base CX k f fd ps sp)
    (h:∀ vs H Q E,sp' vs H Q E->sp vs H Q E):bW qt P w K mg base CX k f fd ps sp' :=
  ⟨fun vs H Q E q=>F.len vs H Q E (h _ _ _ _ q),fun A outer s H args us vs Q E hr he hb hv hs=>F.run A outer s H args us vs Q E hr he hb hv (h _ _ _ _ hs)⟩
theorem a66.make {w:World} {K:cu} (e:a66 P w K mg base A outer s H) (C:Addr) (us:List Value) (kw:List (Str×Value)) :
    a66 P w K mg base (A.under (.builtin "type.__call__" ⟨.ref C :: us,kw⟩)) outer s H:=⟨by first | exact e.frames | (simpa [Around.under,Code.envs,Code.isFrame,pushEnvs] using e.frames),e.mod,e.bs,e.bsz,e.u0,e.frf,e.hok,e.bare,e.hnd⟩
theorem a66.in1 {w:World} {K:cu} (e:a66 P w K mg base A outer s H) :
    a66 P w K mg base A.in1 outer s H:=⟨e.frames,e.mod,e.bs,e.bsz,e.u0,e.frf,e.hok,e.bare,e.hnd⟩
section
variable {X:Cx} {pins:List (Addr×Obj)} {σ:St} {H:Hp} {s s':Shared}
theorem Inv.env0 (I:Inv X pins σ H s):a66 X.prog X.w X.K X.mg X.base X.A X.stack s H :=
  ⟨I.ok.frames,I.ok.mod,I.bs,nj I.ok.bsz I.sz,I.stack,I.a83,I.hok,I.bare,I.hnd⟩
end
def Binds (K:cu) (fd:FuncData) (ps:List Str) (ds:List Value):Prop :=
  ∀ (s:Shared) (us:List Value),K.In s.heap->(us++ds).length=ps.length->BindsTo s fd ⟨us,[]⟩ (ps.zip (us++ds))
theorem Binds.all {K:cu} (h:∀ us:List Value,us.length=ps.length->bindArgs fd ⟨us,[]⟩=pure (ps.zip us)):Binds K fd ps []:=fun s us _ hl=>by
  rw [jr] at hl ⊢;exact .of_eq (h us hl)
section
variable {X:Cx} {CX:CXT} {k:Nat} {f C:Addr} {fd:FuncData} {ps:List Str} {sp:Sp} {dvs:List V} {ds:List Value} {E:XK} {x m:Str} {p pos apos:Pos} {e o:Expr} {es:List Expr} {ta:TE} {t:TA}
structure Mk (K:cu) (C f:Addr):Prop where
  makes:PySem.W.makesIn K C=true
  init:ni K (.ref C) "__init__" = some (some (.ref f))
  fn:PySem.W.isFn K (.ref f)=true
  kp:jy K (.ref C)=true
end
def PK (X:Cx) (kws:List Keyword) (t:TA):Prop :=
  ∀ (pos:Pos) (pins:List (Addr×Obj)) (s:Shared) (σ:St) (H:Hp) (Q:List V->Hp->Prop),Inv X pins σ H s->t σ H Q->wpAny (model X.prog X.w) X.A (evalAll ((backToKw pos (keywordEach kws X.env)).map (·.2))) (AP X pins σ Q) X.xe s
section
variable {X:Cx} {CX:CXT} {k:Nat} {f C:Addr} {fd:FuncData} {ps ks:List Str} {sp:Sp} {E:XK} {x m:Str} {p pos apos kpos:Pos} {e o:Expr} {es:List Expr} {kws:List Keyword} {te ta:TE} {t tk:TA} {nm:Option Str}
theorem av5:PK X [] azV:=fun _ _ _ _ H Q I h=>wpAny_evalAll_nil ⟨[],H,I,.nil,h⟩
theorem aoE (ha:PE X e te) (hr:PK X kws t):PK X (⟨nm,e,kpos⟩ :: kws) (asG te t):=by
  intro pos pins s σ H Q I h;show wpAny _ _ (evalAll ((do let v ← eval e X.env;standAt pos;pure v) :: (backToKw pos (keywordEach kws X.env)).map (·.2))) _ _ s;refine wpAny_evalAll_cons (ak (cH (ha pins s σ H _ I h) fun u s1 ⟨x,H1,I1,r1,q1⟩=>ak (wpAny_standAt (dh ?_))));exact cH (hr pos pins s1 σ H1 _ I1 q1) fun us s2 ⟨xs,H2,I2,r2,q2⟩=>⟨x :: xs,H2,I2,.cons r1 r2,q2⟩
variable {g:List Value->List Value->List Value} {gV:List V->List V->List V}
end
structure bC (N P:List Str) (sc:Scope):Prop where
  kind:sc.kind = .function
  co:sc.isCoroutine=false
  gen:sc.isGenerator=false
  nd:N.Nodup
  pre:N.take P.length=P
  par:∀ x∈P,sc.names.lookup x=some .local∨sc.names.lookup x=some .cell
  av6:∀ y∈sc.names,y.2 ≠ .free
theorem a6Z {kindOf:Str->Option NameKind} {x:Str}:∀ {binds:List (Str×Value)} {m:Str->Option Value},(∀ v,(x,v) ∉ binds)->bindL kindOf binds m x=m x
  | [],_,_=>rfl
  | (n,v) :: r,m,h=>by
    unfold bindL;rw [a6Z fun w hw=>h w (gw _ hw)];split
    . have:x≠n:=by rintro rfl;exact h v uf
      simp [this]
    . rfl
theorem a70 {kindOf:Str->Option NameKind} {x:Str}:∀ {binds:List (Str×Value)} {m:Str->Option Value},(∀ v,(x,v) ∉ binds)->bindC kindOf binds m x=m x
  | [],_,_=>rfl
  | (n,v) :: r,m,h=>by
    unfold bindC;rw [a70 fun w hw=>h w (gw _ hw)];split
    . rfl
    . have:x≠n:=by rintro rfl;exact h v uf
      simp [this]
theorem a71 {kindOf:Str->Option NameKind} {x:Str} {v:Value}:∀ {P:List Str} {vs:List Value} {i:Nat} {m:Str->Option Value},P.Nodup->P[i]?=some x->vs[i]?=some v->kindOf x=some .local ->
    bindL kindOf (P.zip vs) m x=some v
  | [],_,_,_,_,h,_,_=>by simp at h
  | _ :: _,[],_,_,_,_,h,_=>by simp at h
  | p :: P,w :: vs,0,m,nd,h1,h2,hk=>by
    simp at h1 h2;subst h1;subst h2;show bindL kindOf ((p,w) :: P.zip vs) m p=_;unfold bindL;rw [a6Z fun v hv=>(jz.mp nd).1 (List.of_mem_zip hv).1,if_pos hk];simp
  | p :: P,w :: vs,i+1,m,nd,h1,h2,hk=>by
    show bindL kindOf ((p,w) :: P.zip vs) m x=_;unfold bindL;exact a71 (i:=i) (jz.mp nd).2 (by simpa using h1) (by simpa using h2) hk
theorem a72 {kindOf:Str->Option NameKind} {x:Str} {v:Value}:∀ {P:List Str} {vs:List Value} {i:Nat} {m:Str->Option Value},P.Nodup->P[i]?=some x->vs[i]?=some v->kindOf x≠some .local ->
    bindC kindOf (P.zip vs) m x=some v
  | [],_,_,_,_,h,_,_=>by simp at h
  | _ :: _,[],_,_,_,_,h,_=>by simp at h
  | p :: P,w :: vs,0,m,nd,h1,h2,hk=>by
    simp at h1 h2;subst h1;subst h2;show bindC kindOf ((p,w) :: P.zip vs) m p=_;unfold bindC;rw [a70 fun v hv=>(jz.mp nd).1 (List.of_mem_zip hv).1,if_neg hk];simp
  | p :: P,w :: vs,i+1,m,nd,h1,h2,hk=>by
    show bindC kindOf ((p,w) :: P.zip vs) m x=_;unfold bindC;exact a72 (i:=i) (jz.mp nd).2 (by simpa using h1) (by simpa using h2) hk
def start (N:List Str) (vs:List V):St:=vs.map some++oh (N.length - vs.length) none
def nU (qt:Bool) (CX:CXT) (P:Program) (w:World) (K:cu) (mg:Str->Option Value) (base:Heap) (N:List Str) (qual:Str) (scope:Scope) (f:Addr) (cd:Value) (A:Around) (outer:List Env) (s:Shared) (H:Hp) (E:XK):Cx where
  prog:=P
  w:=w
  K:=K
  mg:=mg
  base:=base
  A:=A.deeper (envOfC qual scope s.heap.objs.size f cd)
  N:=N
  s₀:=s
  H₀:=H
  env:=envOfC qual scope s.heap.objs.size f cd
  outer:=outer
  stack:=envOfC qual scope s.heap.objs.size f cd :: outer
  ex:=[]
  calm:=!qt
  fn:=fun _=>true
  pn:=[]
  tp:=[]
  xe:=fun e s'=>wpAny (model P w) (A.deeper (envOfC qual scope s.heap.objs.size f cd)) (leaving (envOfC qual scope s.heap.objs.size f cd) e) (fun _ s''=>CX outer H s E e s'') (fun e' s''=>CX outer H s E e' s'') s'
theorem aaN {sc:Scope} (h:sc.names.lookup x=some .cell):∃ c,(cellsFrom n sc.names []).lookup x=some c:=by
  have q:=PySem.W.cellsFrom_some sc.names n [] (.inl h);exact vo.mp q
theorem ahR {w:World} {K:cu} {cd:Value} {s1:Shared} {E:XK} {vs:List V}
    (S:bC N ps scope) (hd:qt=false->A.handled=none) (e0:a66 P w K mg base A outer s H) (hl:vs.length=ps.length) (r:Vals vs us)
    (x:InCallC s s.heap.objs.size (bindL (envOfC qual scope s.heap.objs.size f cd).kindOf (ps.zip us) fun _=>none) (cellsFrom (s.heap.objs.size+1) scope.names []) (bindC (envOfC qual scope s.heap.objs.size f cd).kindOf (ps.zip us) fun _=>none) s1) :
    Inv (nU qt CX P w K mg base N qual scope f cd A outer s H E) [] (start N vs) H s1:=by
  have hpl:ps.length<=N.length:=by have:=congrArg List.length S.pre;rw [mz] at this;omega
  obtain ⟨h1,tk,rfl,hk⟩:=x.done;have noA:∀ b:Addr,b ∉ (nU qt CX P w K mg base N qual scope f cd A outer s H E).ex:=fun b z=>absurd (show b∈([]:List Addr) from z) (by simp)
  refine ⟨⟨e0.mod,S.kind,rfl,rfl,au _,fun y z c h1 h2=>?_,fun y hy=>?_,fun y c _ h=>?_,fun z=>hd (by cases qt with | false=>rfl | true=>cases z),Around.frames_deeper e0.frames,.inr ⟨rfl,rfl⟩,fun b z=>absurd z (noA b),e0.bs,e0.bsz,fun b _ _=>noA b,fun b z=>absurd z (noA b),e0.u0,e0.frf⟩,
    rfl,e0.bare,Un.kept hk,⟨_,x.toInCall.ns,fun i y v h1 h2 h3=>?_⟩,fun y c h=>⟨_,x.cell y c h⟩,e0.hok.fresh (au _),fun y c h=>?_,fun p hp=>absurd (show p∈([]:List (Addr×Obj)) from hp) (by simp),e0.hok.kept hk,?_,e0.hnd,fun p hp=>absurd (show p∈([]:List (Addr×List V)) from hp) (by simp)⟩
  . exact name_of_addr x.apart (PySem.mem_of_lookup h1) (PySem.mem_of_lookup h2)
  . have hy:scope.names.lookup y=some .cell∨scope.names.lookup y=some .free:=hy;rcases hy with hy | hy
    . exact aaN hy
    . exact absurd rfl (S.av6 _ (PySem.mem_of_lookup hy))
  . exact qb (x.above y c (PySem.mem_of_lookup h))
  . have hi:i < vs.length:=by
      unfold start at h2;by_cases hi:i < vs.length
      . exact hi
      . rw [kj (by simpa using hi)] at h2;rw [List.getElem?_replicate] at h2;split at h2 <;> cases h2
    have ha:vs[i]?=some v:=by
      unfold start at h2;rw [jf (by simpa using hi),ju] at h2;cases e:vs[i]? with
      | none=>rw [e] at h2;cases h2
      | some a=>rw [e] at h2;cases h2;rfl
    obtain ⟨u,hu,rv⟩:=r.get ha
    have hp:ps[i]?=some y:=by
      rw [← S.pre,List.getElem?_take_of_lt (by omega)];exact h1
    have ndP:ps.Nodup:=by rw [← S.pre];exact S.nd.sublist (List.take_sublist _ _)
    refine ⟨u,rv,?_⟩;rcases S.par y (iz hp) with k | k
    . exact .inl ⟨k,a71 ndP hp hu k⟩
    . obtain ⟨c,e⟩:=aaN (n:=s.heap.objs.size+1) k;refine .inr ⟨.inl k,c,e,?_⟩;have q:=x.cell y c e;rw [a72 ndP hp hu (by show scope.names.lookup y≠_;rw [k];decide)] at q;exact q
  . exact e0.hok.fresh (qb (x.above y c (PySem.mem_of_lookup h)))
  . unfold start;show _=N.length;rw [gk,dg,List.length_replicate];omega
theorem asH {w:World} {K:cu} {k:Nat} {name:Str} {params:Arguments} {dV kV doc pm cdv ct oc:Value} {an od:Option Addr}
    {osl:Array (Option Value)} (lk:K.lookup f=some ⟨oc,od,.func (qe name qual params body scope dV kV doc pm an cdv ct),osl⟩) (hcd:vp K cdv qual=true) (S:bC N ps scope)
    (len:∀ vs H Q E,sp vs H Q E->vs.length=ps.length)
    (hbody:∀ (A:Around) (outer:List Env) (s:Shared) (H:Hp) (vs:List V) (Q:VK) (E:XK),f9 qt k (A.deeper (envOfC qual scope s.heap.objs.size f cdv))->sp vs H Q E ->
      ∃ t,PSs (nU qt CX P w K mg base N qual scope f cdv A outer s H E) body t/\t { nx:=fun _ H'=>Q .non H',rt:=Q } (start N vs) H) :
    bW qt P w K mg base CX (k+1) f (qe name qual params body scope dV kV doc pm an cdv ct) ps sp:=by
  refine ⟨len,fun A outer s H args us vs Q E hr e0 hb r hsp=>?_⟩;have hl:=len _ _ _ _ hsp;have KX:K.In s.heap:=e0.mod.kin.keeps fun b o e=>(e0.bs b o e).1;have lim:s.heap.NoLimit:=e0.mod.nolimit.keeps fun b o e=>(e0.bs b o e).1
  have hkind:∀ y∈ps.zip us,scope.names.lookup y.1=some .local∨(scope.names.lookup y.1=some .cell/\((cellsFrom (s.heap.objs.size+1) scope.names []).lookup y.1).isSome=true):=fun ⟨n,v⟩ hy=>by
    rcases S.par n (List.of_mem_zip hy).1 with q | q
    . exact .inl q
    . exact .inr ⟨q,PySem.W.cellsFrom_some _ _ _ (.inl q)⟩
  refine codeAny_call_function hr.depth (KX _ _ lk) rfl S.co S.gen rfl (PySem.W.codeRec_of KX hcd) (hb _ _ _ _ ?_);refine wpAny_newFunctionEnv_cells S.kind hkind fun env he s1 x=>?_;subst he;refine ⟨lim.keeps x.toInCall.keep,codeAny_func ?_⟩;obtain ⟨t,ht,hq⟩:=hbody A outer s H vs Q E (hr.deeper _) hsp;have I:Inv (nU qt CX P w K mg base N qual scope f cdv A outer s H E) [] (start N vs) H s1:=ahR S hr.hd e0 hl r x;refine wpAny_mono (ht [] s1 (start N vs) H _ I hq) (fun fl s' hs=>?_) fun e s' hs=>hs
  have fin:∀ {σ':St} {H':Hp} {v:V} {u:Value},Inv (nU qt CX P w K mg base N qual scope f cdv A outer s H E) [] σ' H' s'->RelV v u->Q v H'->CE outer P w H s Q u s' :=
    fun {σ' H' v u} J rv q=>⟨v,H',J.os,J.bare,J.base,J.hok,rv,q⟩
  cases fl with
  | ret u =>
    obtain ⟨v,σ',H',J,rv,q⟩:=hs;exact fin J rv q
  | next =>
    obtain ⟨σ',H',J,q⟩:=hs;exact fin (v:=V.non) (u:=Value.none) J rfl q
  | brk =>
    obtain ⟨_,_,_,q⟩:=hs;exact False.elim q
  | cont =>
    obtain ⟨_,_,_,q⟩:=hs;exact False.elim q
end
section
section
variable {X:Cx} {x:Str} {p pos:Pos} {e:Expr} {es:List Expr} {t:TA} {id T:String} {r:List V->Hp->VK->Prop}
end
end
variable {kvs:List (List Key×V)}{xs:List (List Key×Addr×Value)}{h':Heap}
section
variable {o:Option V}
section
variable {κ:Type} [DecidableEq κ]
def xZ (kvs:List (κ×V)) (k:κ):Option V:=(kvs.find? fun kv=>decide (kv.1=k)).map (·.2)
def putK (kvs:List (κ×V)) (k:κ) (v:V):List (κ×V) :=
  if (kvs.any fun kv=>decide (kv.1=k))=true then kvs.map (fun kv=>if kv.1=k then (kv.1,v) else kv) else kvs++[(k,v)]
def afN (kvs:List (κ×V)) (k:κ):List (κ×V):=kvs.filter fun kv=>decide (kv.1≠k)
theorem z9 {p:κ×V} {r:List (κ×V)} {k:κ} (e:p.1=k):xZ (p :: r) k=some p.2:=by simp [xZ,ug,e]
theorem zA {p:κ×V} {r:List (κ×V)} {k:κ} (e:¬ p.1=k):xZ (p :: r) k=xZ r k:=by simp [xZ,ug,e]
theorem a3H (k:κ):∀ kvs:List (κ×V),(kvs.any fun kv=>decide (kv.1=k))=(xZ kvs k).isSome
  | []=>rfl
  | p :: r=>by
    rw [uc];by_cases e:p.1=k
    . simp only [z9 e,decide_eq_true e,Bool.true_or,Option.isSome_some]
    . rw [zA e,decide_eq_false e,Bool.false_or];exact a3H k r
theorem o9 (kvs:List (κ×V)) (k:κ) (v:V):(putK kvs k v).length<=kvs.length+1:=by
  unfold putK;split
  . rw [dg];omega
  . rw [gk,jl,yd];omega
theorem a1Y.pQ {u:Option Value} (r:a1Y o u):o.isSome=u.isSome:=by
  cases o with
  | none=>cases u with
    | none=>rfl
    | some _=>exact (show False from r).elim
  | some _=>cases u with
    | none=>exact (show False from r).elim
    | some _=>rfl
theorem a1Y.getD {u:Option Value} {d:V} {d':Value} (r:a1Y o u) (rd:RelV d d'):RelV (o.getD d) (u.getD d'):=by
  cases o with
  | none=>cases u with
    | none=>exact rd
    | some _=>exact (show False from r).elim
  | some _=>cases u with
    | none=>exact (show False from r).elim
    | some _=>exact r
theorem KV.val {kvs:List (κ×V)} {vs:List (κ×Value)} (r:KV kvs vs) (k:κ):a1Y (xZ kvs k) (valueAt vs k):=by
  unfold KV at r
  induction r with
  | nil=>exact True.intro
  | @cons p q ps qs h t ih =>
    obtain ⟨h1,h2⟩:=h;by_cases e:p.1=k
    . have e':q.1=k:=h1.symm.trans e;have b:valueAt (q :: qs) k=some q.2:=by simp [valueAt,ug,e']
      rw [z9 e,b];exact h2
    . have e':¬ q.1=k:=fun z=>e (h1.trans z);have b:valueAt (q :: qs) k=valueAt qs k:=by simp [valueAt,ug,e']
      rw [zA e,b];exact ih
theorem KV.any {kvs:List (κ×V)} {vs:List (κ×Value)} (r:KV kvs vs) (k:κ):(kvs.any fun kv=>decide (kv.1=k))=vs.any fun kv=>decide (kv.1=k):=by
  unfold KV at r
  induction r with
  | nil=>rfl
  | cons h t ih=>rw [uc,uc,ih,h.1]
theorem KV.repl {kvs:List (κ×V)} {vs:List (κ×Value)} (r:KV kvs vs) (k:κ) (ry:RelV y u) :
    KV (kvs.map fun kv=>if kv.1=k then (kv.1,y) else kv) (vs.map fun kv=>if kv.1=k then (kv.1,u) else kv):=by
  unfold KV at r ⊢
  induction r with
  | nil=>exact .nil
  | @cons p q ps qs h t ih =>
    rw [jd,jd];refine .cons ?_ ih;obtain ⟨h1,h2⟩:=h;by_cases e:p.1=k
    . rw [if_pos e,if_pos (h1.symm.trans e)];exact ⟨h1,ry⟩
    . rw [if_neg e,if_neg (fun z=>e (h1.trans z))];exact ⟨h1,h2⟩
theorem KV.put {kvs:List (κ×V)} {vs:List (κ×Value)} (r:KV kvs vs) (k:κ) (ry:RelV y u):KV (putK kvs k y) (stored vs k u):=by
  unfold putK stored;rw [r.any k];by_cases e:(vs.any fun kv=>decide (kv.1=k))=true
  . rw [if_pos e,if_pos e];exact r.repl k ry
  . rw [if_neg e,if_neg e];exact Paired.snoc r ⟨rfl,ry⟩
theorem KV.drop {kvs:List (κ×V)} {vs:List (κ×Value)} (r:KV kvs vs) (k:κ):KV (afN kvs k) (without vs k):=by
  unfold KV at r ⊢;unfold afN without
  induction r with
  | nil=>exact .nil
  | @cons p q ps qs h t ih =>
    obtain ⟨h1,h2⟩:=h;rw [xg,xg];by_cases e:p.1=k
    . have a:¬ decide (p.1≠k)=true:=by simp [e]
      have b:¬ decide (q.1≠k)=true:=by simp [h1.symm.trans e]
      rw [if_neg a,if_neg b];exact ih
    . have e':¬ q.1=k:=fun z=>e (h1.trans z);have a:decide (p.1≠k)=true:=by simp [e]
      have b:decide (q.1≠k)=true:=by simp [e']
      rw [if_pos a,if_pos b];exact .cons ⟨h1,h2⟩ ih
theorem KV.length {kvs:List (κ×V)} {vs:List (κ×Value)} (r:KV kvs vs):kvs.length=vs.length:=Paired.length r
end
theorem a3I {w:World} {k:Key} (r:RelV (kV k) u):(bA P w).is k u=true:=by
  cases k with
  | inl i=>obtain ⟨t,e⟩:=(show ∃ t,u=Value.int i t from r);subst e;exact aaH P w i t
  | inr x=>obtain ⟨t,e⟩:=(show ∃ t,u=Value.str x t from r);subst e;exact aaI P w x t
theorem a0H {P:Program} {w:World}:∀ {ks:List Key} {us:List Value},Vals (ks.map kV) us->ItemsAre (bA P w) ks us
  | [],_,r=>by rw [uq] at r;cases r;exact .nil
  | k :: ks,_,r=>by
    rw [jd] at r;cases r with
    | cons h t=>exact .cons (a3I h) (a0H t)
abbrev KT (H:Hp):List (List Key×V)->List (List Key×Addr×Value)->Prop:=Paired fun p q=>p.1=q.1/\H q.2.1=some (.tup (p.1.map kV))/\RelV p.2 q.2.2
theorem KT.val (r:KT H kvs xs) (k:List Key):a1Y (xZ kvs k) ((atKey xs k).map (·.2)):=by
  induction r with
  | nil=>exact True.intro
  | @cons p q ps qs h t ih =>
    obtain ⟨h1,_,h2⟩:=h;by_cases e:p.1=k
    . have e':q.1=k:=h1.symm.trans e;have b:atKey (q :: qs) k=some q.2:=by simp [atKey,ug,e']
      rw [z9 e,b];exact h2
    . have e':¬ q.1=k:=fun z=>e (h1.trans z);have b:atKey (q :: qs) k=atKey qs k:=by simp [atKey,ug,e']
      rw [zA e,b];exact ih
theorem KT.repl (r:KT H kvs xs) (k:List Key) (ry:RelV y u) :
    KT H (kvs.map fun kv=>if kv.1=k then (kv.1,y) else kv) (xs.map (putAt k u)):=by
  induction r with
  | nil=>exact .nil
  | @cons p q ps qs h t ih =>
    rw [jd,jd];refine .cons ?_ ih;obtain ⟨h1,h2,h3⟩:=h;unfold putAt;by_cases e:p.1=k
    . rw [if_pos e,if_pos (h1.symm.trans e)];exact ⟨h1,h2,ry⟩
    . rw [if_neg e,if_neg (fun z=>e (h1.trans z))];exact ⟨h1,h2,h3⟩
theorem KT.put (r:KT H kvs xs) (k:List Key) (hb:H b=some (.tup (k.map kV))) (ry:RelV y u) :
    KT H (putK kvs k y) (storedH xs k b u):=by
  have e:(kvs.any fun kv=>decide (kv.1=k))=(atKey xs k).isSome:=by
    rw [a3H,(r.val k).pQ,Option.isSome_map]
  unfold putK storedH;rw [e];by_cases q:(atKey xs k).isSome=true
  . rw [if_pos q,if_pos q];exact r.repl k ry
  . rw [if_neg q,if_neg q];exact Paired.snoc r ⟨rfl,hb,ry⟩
theorem KT.keeps (r:KT H kvs xs) (ht:∀ b ys,H b=some (.tup ys)->H' b=some (.tup ys)):KT H' kvs xs :=
  Paired.auA r fun _ _ z=>⟨z.1,ht _ _ z.2.1,z.2.2⟩
section
variable {P:Program} {w:World} {H:Hp} {h:Heap} {a:Addr}
theorem asI {u:HO} (ok:wY P w H h) (e:Rd H a u):cY P w H h a u:=e.ok ok
theorem wZ {kvs:List (Key×V)} (ok:wY P w H h) (e:Rd H a (.dK kvs)):kvs.length<=sizeLine/\(a == sysModules)=false/\∃ vs,KV kvs vs/\h.DictOf (bA P w) a vs :=
  show cY P w H h a (.dK kvs) from asI ok e
theorem asJ {kvs:List (Key×V)} (ok:wY P w H h) (e:H a=some (.dK kvs)):kvs.length<=sizeLine/\(a == sysModules)=false/\∃ vs,KV kvs vs/\h.DictOf (bA P w) a vs:=wZ ok (.inl e)
theorem yC {ks:List Key} (ok:wY P w H h) (e:H a=some (.tup (ks.map kV))):(tupleKind (bA P w)).is h ks a:=by
  obtain ⟨_,its,r,o,h1,h2,n,h3⟩:=(show cY P w H h a (.tup (ks.map kV)) from ok a _ e);exact ⟨o,its.toArray,n,h1,h2,h3,by simpa using a0H r⟩
theorem a1I (ok:wY P w H h) (e:Rd H a (.dT kvs)):kvs.length<=sizeLine/\(a == sysModules)=false /\
    ∃ xs,KT H kvs xs/\h.DictOfH (tupleKind (bA P w)) a xs:=by
  obtain ⟨z,y,xs,r,o,es,ep,h1,h2,h3,h4,h5⟩:=(show cY P w H h a (.dT kvs) from asI ok e);refine ⟨z,y,xs,r,o,es,ep,h1,h2,h3,h4,fun x hx=>?_,h5⟩
  have all:∀ {l:List (List Key×V)} {m:List (List Key×Addr×Value)},KT H l m->∀ x∈m,(tupleKind (bA P w)).is h x.1 x.2.1:=by
    intro l m q
    induction q with
    | nil=>intro x hx;exact nomatch hx
    | @cons p q ps qs hq t ih =>
      intro x hx;rcases iy.mp hx with e | hx
      . subst e;exact yC ok (by rw [← hq.1];exact hq.2.1)
      . exact ih x hx
  exact all r x hx
theorem asK (ok:wY P w H h) (e:H a=some (.dT kvs)):kvs.length<=sizeLine/\(a == sysModules)=false /\
    ∃ xs,KT H kvs xs/\h.DictOfH (tupleKind (bA P w)) a xs:=a1I ok (.inl e)
end
def yD (H:Hp) (a:Addr) (y:V) (r:Option V):Prop :=
  (∃ kvs k,Rd H a (.dK kvs)/\y=kV k/\r=xZ kvs k)∨∃ kvs k b,Rd H a (.dT kvs)/\y = .ref b/\H b=some (.tup (k.map kV))/\r=xZ kvs k
def aaO (H:Hp) (a:Addr) (y v:V) (H':Hp):Prop :=
  (∃ kvs k,H a=some (.dK kvs)/\y=kV k/\kvs.length < sizeLine/\H'=upd H a (.dK (putK kvs k v))) ∨
  ∃ kvs k b,H a=some (.dT kvs)/\y = .ref b/\H b=some (.tup (k.map kV))/\kvs.length < sizeLine/\H'=upd H a (.dT (putK kvs k v))
theorem yD.k {H:Hp} {a:Addr} {kvs:List (Key×V)} {k:Key} (e:H a=some (.dK kvs)):yD H a (kV k) (xZ kvs k) := .inl ⟨kvs,k,.inl e,rfl,rfl⟩
theorem yD.t {k:List Key} (e:H a=some (.dT kvs)) (eb:H b=some (.tup (k.map kV))):yD H a (.ref b) (xZ kvs k) := .inr ⟨kvs,k,b,.inl e,rfl,eb,rfl⟩
theorem aaO.k {H:Hp} {a:Addr} {kvs:List (Key×V)} {k:Key} {v:V} (e:H a=some (.dK kvs)) (hl:kvs.length < sizeLine):aaO H a (kV k) v (upd H a (.dK (putK kvs k v))) := .inl ⟨kvs,k,e,rfl,hl,rfl⟩
theorem aaO.t {k:List Key} (e:H a=some (.dT kvs)) (eb:H b=some (.tup (k.map kV))) (hl:kvs.length < sizeLine) :
    aaO H a (.ref b) v (upd H a (.dT (putK kvs k v))) := .inr ⟨kvs,k,b,e,rfl,eb,hl,rfl⟩
section
variable {X:Cx} {pins:List (Addr×Obj)} {σ:St} {H:Hp} {s:Shared} {a:Addr} {y v:V} {u r:Value} {o:Option V} {A:Around} {E:Value->Shared->Prop}
theorem Inv.big (I:Inv X pins σ H s):sysModules < s.heap.objs.size:=by
  have h:mainGlobals < s.heap.objs.size:=(I.mod.glob.keeps I.bk).lt;exact Nat.lt_trans (by decide) h
theorem ahS {Q:Value->Shared->Prop} (hu:A.units+1 < cLine) (I:Inv X pins σ H s) (g:yD H a y (some v)) (ry:RelV y u) (h:∀ w' s',Inv X pins σ H s'->RelV v w'->Q w' s') :
    wpAny (model X.prog X.w) A (getItem (.ref a) u) Q E s:=by
  rcases g with ⟨kvs,k,e,ey,l⟩ | ⟨kvs,k,b,e,ey,eb,l⟩
  . subst ey;obtain ⟨z,hd,vs,rel,dd⟩:=wZ I.hok e;obtain ⟨w',hw,rw'⟩:=a1Y.some_of (v:=v) (o:=valueAt vs k) (by rw [l];exact rel.val k);exact wpAny_getItem_of (a3I ry) dd.mapOf hw (h w' _ (I.tok _) rw')
  . subst ey;cases (show u=Value.ref b from ry);obtain ⟨z,hd,xs,rel,dd⟩:=a1I I.hok e;obtain ⟨w',hw,rw'⟩:=a1Y.some_of (v:=v) (o:=(atKey xs k).map (·.2)) (by rw [l];exact rel.val k);obtain ⟨p,hp,hp2⟩:=Option.map_eq_some_iff.mp hw;refine wpAny_getItem_heap (tupleKind_room_in1 hu) (yC I.hok eb) dd hp ?_;rw [hp2];exact h w' _ (I.tok _) rw'
theorem aEJ {Q:Value->Shared->Prop} (hu:A.units+1 < cLine) (I:Inv X pins σ H s) (g:yD H a y o) (ry:RelV y u) (h:∀ s',Inv X pins σ H s'->Q (.bool o.isSome) s') :
    wpAny (model X.prog X.w) A (compareOp .In u (.ref a)) Q E s:=by
  rcases g with ⟨kvs,k,e,ey,l⟩ | ⟨kvs,k,b,e,ey,eb,l⟩
  . subst ey;obtain ⟨z,hd,vs,rel,dd⟩:=wZ I.hok e;refine wpAny_in_of (a3I ry) hd dd.mapOf ?_;rw [← (rel.val k).pQ,← l];exact h _ (I.tok _)
  . subst ey;cases (show u=Value.ref b from ry);obtain ⟨z,hd,xs,rel,dd⟩:=a1I I.hok e;refine wpAny_in_heap (tupleKind_room_in1 hu) (yC I.hok eb) hd dd ?_;have q:=(rel.val k).pQ;rw [Option.isSome_map] at q;rw [← q,← l];exact h _ (I.tok _)
theorem aoF {Q:Value->Shared->Prop} (hu:A.units+1 < cLine) (I:Inv X pins σ H s) (g:yD H a y o) (ry:RelV y u) (h:∀ s',Inv X pins σ H s'->Q (.bool (!o.isSome)) s') :
    wpAny (model X.prog X.w) A (compareOp .NotIn u (.ref a)) Q E s:=by
  rcases g with ⟨kvs,k,e,ey,l⟩ | ⟨kvs,k,b,e,ey,eb,l⟩
  . subst ey;obtain ⟨z,hd,vs,rel,dd⟩:=wZ I.hok e;refine wpAny_notIn_of (a3I ry) hd dd.mapOf ?_;rw [← (rel.val k).pQ,← l];exact h _ (I.tok _)
  . subst ey;cases (show u=Value.ref b from ry);obtain ⟨z,hd,xs,rel,dd⟩:=a1I I.hok e;refine wpAny_notIn_heap (tupleKind_room_in1 hu) (yC I.hok eb) hd dd ?_;have q:=(rel.val k).pQ;rw [Option.isSome_map] at q;rw [← q,← l];exact h _ (I.tok _)
theorem a2M {ob:HO} (I:Inv X pins σ H s) (mu:Mut (H a)) (hs:qy a s.heap h') (he:∃ q,h'.get? a=some q) (new:cY X.prog X.w (upd H a ob) h' a ob) :
    Inv X pins σ (upd H a ob) { s with heap:=h',toks:=t' } :=
  I.write (x:=a) (e:=a) mu (.inl rfl) (fun b q hb z=>(hs.2 b hb).trans z) he new
theorem ajW {w:World} {kvs:List (Key×V)} {vs:List (Key×Value)} (z:kvs.length<=sizeLine) (hd:(a == sysModules)=false) (rel:KV kvs vs) (dd:h'.DictOf (bA P w) a vs) :
    cY P w H' h' a (.dK kvs):=⟨z,hd,vs,rel,dd⟩
theorem ahU (hu:A.units+1 < cLine) (I:Inv X pins σ H s) (g:aaO H a y v H') (ry:RelV y u) (rv:RelV v r) (h:∀ s',Inv X pins σ H' s'->Q () s') :
    wpAny (model X.prog X.w) A (setItem (.ref a) u r) Q E s:=by
  rcases g with ⟨kvs,k,e,ey,l,eH⟩ | ⟨kvs,k,b,e,ey,eb,l,eH⟩
  . subst ey eH;obtain ⟨z,hd,vs,rel,dd⟩:=asJ I.hok e;have hz:vs.length<=sizeLine:=by rw [← rel.length];exact z
    have hl:(putK kvs k v).length<=sizeLine:=by have:=o9 kvs k v;omega
    refine wpAny_setItem_pairs (hsz:=hz) (a3I ry) dd fun h' dd' hs=>h _ ?_;have he:∃ q,h'.get? a=some q:=let ⟨q,_,_,hq,_⟩:=dd';⟨q,hq⟩
    exact a2M I (by rw [e];exact True.intro) hs he (ajW hl hd (rel.put k rv) dd')
  . subst ey eH;cases (show u=Value.ref b from ry);obtain ⟨z,hd,xs,rel,dd⟩:=asK I.hok e;have hz:xs.length<=sizeLine:=by rw [← Paired.length rel];exact z
    have hl:(putK kvs k v).length<=sizeLine:=by have:=o9 kvs k v;omega
    refine wpAny_setItem_heap (hsz:=hz) (tupleKind_room_in1 hu) (yC I.hok eb) dd fun h' dd' hs=>h _ ?_;obtain ⟨q,es,ep,hq,h2,h3,h4,_,h5⟩:=dd';refine a2M I (by rw [e];exact True.intro) hs ⟨q,hq⟩ ⟨hl,hd,_,(rel.put k eb rv).keeps fun c ys ec=>?_,q,es,ep,hq,h2,h3,h4,h5⟩;rw [aW (asA ec e (fun z=>nomatch z))];exact ec
end
section
variable {X:Cx} {pins:List (Addr×Obj)} {σ:St} {H:Hp} {s:Shared} {a:Addr} {kvs:List (Key×V)} {k:Key} {u:Value} {A:Around} {E:Value->Shared->Prop}
end
def av7 (i:Expr):Prop:=∀ ov iv,subscripted i false ov iv=operate [ov,iv] (getItem ov iv)
theorem aoH {prog:Program} {w:World} {env:Env} {value slice:Expr} {T id:String} {Q:Value->Shared->Prop}
    (hl:typeLookup (.type T) "__getitem__" = pure (some (.builtin id))) (hs:av7 slice)
    (h:wpAny (model prog w) A (eval value env) (fun o s₁=>wpAny (model prog w) A (eval slice env) (fun i s₂=>s₂.TypeIs o T/\wpAny (model prog w) A (getItem o i) Q E s₂) E s₁) E s) :
    wpAny (model prog w) A (eval (.Subscript value slice pos) env) Q E s:=by
  refine Subscript_ (wpAny_mono h (fun o s₁ h₁=>wpAny_mono h₁ (fun i s₂ h₂=>?_) fun _ _ x=>x) fun _ _ x=>x);obtain ⟨hT,h₂⟩:=h₂;unfold subscriptTail;refine ak ?_;rw [getitemInPython_of_ne hT.not_modules];refine ak (wpAny_specialOf hT hl ?_)
  have fin:wpAny (model prog w) A (subscripted slice false o i) (fun r s₃=>wpAny (model prog w) A (letTemporaryGo value o r >>= fun _=>pure r) Q E s₃) E s₂:=by
    rw [hs o i];exact wpAny_operating (wpAny_mono h₂ (fun r s₃ h₃=>ak (wpAny_letTemporaryGo (dh h₃))) fun _ _ x=>x)
  first
    | exact dh (ak fin)
    | exact ak (dh (ak fin))
    | exact ak fin
theorem aaP {σ:St} (I:Inv X pins σ H s) (g:yD H a y o):s.TypeIs (.ref a) "dict" := by
  rcases g with ⟨kvs,k,e,_,_⟩ | ⟨kvs,k,b,e,_,_,_⟩
  . obtain ⟨_,_,vs,_,dd⟩:=wZ I.hok e;exact dd.typeIs
  . obtain ⟨_,_,xs,_,dd⟩:=a1I I.hok e;exact dd.typeIs
def azX (td ty:TE):TE:=fun σ H Q=>td σ H fun x H1=>ty σ H1 fun y H2=>∃ a v,x = .ref a/\yD H2 a y (some v)/\Q v H2
def azY (td ty tv:TE):TS:=fun D σ H=>tv σ H fun v H1=>td σ H1 fun x H2=>ty σ H2 fun y H3=>∃ a H4,x = .ref a/\aaO H3 a y v H4/\D.nx σ H4
section
variable {X:Cx} {o i e value:Expr} {pos pos' tpos:Pos} {td ty tv:TE}
theorem aoI (hu:X.A.units+1 < cLine) (ho:PE X o td) (hi:PE X i ty) (hs:av7 i):PE X (.Subscript o i pos) (azX td ty):=by
  intro pins s σ H Q I h;refine aoH PySem.F.slot_dict_getitem.lookup hs (cH (ho pins s σ H _ I h) fun u s1 ⟨x,H1,I1,rx,q1⟩=>cH (hi pins s1 σ H1 _ I1 q1) fun iv s2 ⟨y,H2,I2,ry,a,v,ex,g,q2⟩=>?_);subst ex;obtain rfl:u=Value.ref a:=rx;exact ⟨aaP I2 g,ahS hu I2 g ry fun w' s3 I3 rw'=>⟨v,H2,I3,rw',q2⟩⟩
theorem aoJ (hu:X.A.units+1 < cLine) (ho:PE X o td) (hi:PE X i ty) (hv:PE X value tv) (hs:swapsWith value (some (.Subscript o i pos')) pos.line X.env=pure false) :
    PS X (.Assign [.Subscript o i pos'] value pos) (azY td ty tv):=by
  intro pins s σ H D I h;refine wpAny_Assign_Subscript (cH (hv pins s σ H _ I h) fun r s1 ⟨v,H1,I1,rv,q1⟩=>cH (ho pins s1 σ H1 _ I1 q1) fun u s2 ⟨x,H2,I2,rx,q2⟩=>cH (hi pins s2 σ H2 _ I2 q2) fun iv s3 ⟨y,H3,I3,ry,a,H4,ex,g,q3⟩=>?_) hs;subst ex;obtain rfl:u=Value.ref a:=rx;exact ahU hu I3 g ry rv fun s4 I4=>⟨σ,H4,I4,q3⟩
end
theorem aaQ {w:World} (h:Heap) (hb:sysModules < h.objs.size):cY P w H (h.push { cls := .type "dict",data := .dict #[] }) h.objs.size (.dK []) :=
  ⟨ux _,beq_eq_false_iff_ne.mpr (Ne.symm (gb hb)),[],.nil,Heap.DictOf.new h⟩
theorem ajX {w:World} (h:Heap) (hb:sysModules < h.objs.size):cY P w H (h.push { cls := .type "dict",data := .dict #[] }) h.objs.size (.dT []) :=
  ⟨ux _,beq_eq_false_iff_ne.mpr (Ne.symm (gb hb)),[],.nil,_,#[],0,cj _ rfl,⟨rfl,rfl,rfl⟩,rfl,rfl,List.nodup_nil⟩
def av8:TE:=fun _ H Q=>∀ p,H p=none->Q (.ref p) (upd H p (.dK []))
section
variable {X:Cx} {pos:Pos}
theorem ajY:PE X (.Dict [] [] pos) av8:=fun pins s σ H Q I h =>
  wpAny_Dict_empty ⟨.ref s.heap.objs.size,_,I.laid (a:=s.heap.objs.size) (o := .dK []) (t':=s.toks) (fun _ _ q=>ao _ q) (au _) (aaQ s.heap I.big),rfl,h _ (I.hok.fresh (au _))⟩
end
structure M2 (X:Cx) (o:Expr) (m:Str) (apos:Pos) (e f:Expr) (cpos:Pos):Prop where
  base:attributeBase o m X.env (eval o X.env)=eval o X.env
  few:((backTo cpos (starEach [e,f] X.env)).all (fun x=>!x.1)&&(backToKw cpos (keywordEach [] X.env)).all (fun x=>x.1.isSome)
    && decide (([e,f]:List Expr).length+([]:List Keyword).length+(if ([]:List Keyword).isEmpty then 0 else 1) < 30))=true
  line:(apos.endLine == cpos.line)=true
  trees:backTo cpos (starEach [e,f] X.env)=[(false,eval e X.env),(false,eval f X.env)]
def IsD (H:Hp) (a:Addr):Prop:=(∃ kvs,Rd H a (.dK kvs))∨∃ kvs,Rd H a (.dT kvs)
theorem ajZ {σ:St} (I:Inv X pins σ H s) (d:IsD H a) :
    s.TypeIs (.ref a) "dict" /\ (∀ b,Value.ref a = .ref b->∃ ob,s.heap.get? b=some ob/\ob.dict=none)/\(a == sysModules)=false:=by
  rcases d with ⟨kvs,e⟩ | ⟨kvs,e⟩
  . obtain ⟨_,hd,vs,_,dd⟩:=wZ I.hok e;refine ⟨dd.typeIs,fun b q=>?_,hd⟩;cases q;obtain ⟨ob,_,_,h1,h2,_⟩:=dd;exact ⟨ob,h1,h2.2.1⟩
  . obtain ⟨_,hd,xs,_,dd⟩:=a1I I.hok e;refine ⟨dd.typeIs,fun b q=>?_,hd⟩;cases q;obtain ⟨ob,_,_,h1,h2,_⟩:=dd;exact ⟨ob,h1,h2.2.1⟩
section
variable {X:Cx} {pins:List (Addr×Obj)} {σ:St} {H:Hp} {s:Shared} {a:Addr} {y d:V} {u r:Value} {o:Option V} {A:Around} {E:Value->Shared->Prop}
theorem av9 {Q:Value->Shared->Prop} (hu:A.units+1 < cLine) (I:Inv X pins σ H s) (g:yD H a y o) (ry:RelV y u) (rd:RelV d r) (h:∀ w' s',Inv X pins σ H s'->RelV (o.getD d) w'->Q w' s') :
    wpAny (model X.prog X.w) A (call (.builtin "dict.get") [.ref a,u,r]) Q E s:=by
  rcases g with ⟨kvs,k,e,ey,l⟩ | ⟨kvs,k,b,e,ey,eb,l⟩
  . subst ey;obtain ⟨z,hd,vs,rel,dd⟩:=wZ I.hok e;refine call_meetsIn PySem.F.slot_dict_get dd.typeIs PySem.F.entry_dict_get (PySem.F.args_dict_get_3 _ _ _) (meets_dict_get_default (bA X.prog X.w) a (a3I ry) hd r) ⟨_,dd.mapOf,h _ _ (I.tok _) ?_⟩;rw [l];exact (rel.val k).getD rd
  . subst ey;cases (show u=Value.ref b from ry);obtain ⟨z,hd,xs,rel,dd⟩:=a1I I.hok e;refine call_meetsIn PySem.F.slot_dict_get dd.typeIs PySem.F.entry_dict_get (PySem.F.args_dict_get_3 _ _ _) (meetsH_dict_get_default (tupleKind (bA X.prog X.w)) a b hd r) ⟨tupleKind_room_in1 hu,k,xs,yC I.hok eb,dd,h _ _ (I.tok _) ?_⟩;rw [l];exact (rel.val k).getD rd
end
def avA (td ty tx:TE):TE:=fun σ H Q=>td σ H fun x H1=>∃ a,x = .ref a/\IsD H1 a/\ty σ H1 fun y H2=>tx σ H2 fun z H3=>∃ o,yD H3 a y o/\Q (o.getD z) H3
section
variable {X:Cx} {o e f:Expr} {apos cpos:Pos} {td ty tx:TE}
theorem ak0 (hu:X.A.units+1 < cLine) (ho:PE X o td) (he:PE X e ty) (hf:PE X f tx) (m:M2 X o "get" apos e f cpos):PE X (.Call (.Attribute o "get" apos) [e,f] [] cpos) (avA td ty tx):=by
  intro pins s σ H Q I h;refine wpAny_Call_method m.base m.few m.line PySem.F.plainAttrs_dict PySem.F.slot_dict_get PySem.F.type_dict_get (cH (ho pins s σ H _ I h) fun u s1 ⟨x,H1,I1,rx,a,ex,d,q1⟩=>?_);subst ex;obtain rfl:u=Value.ref a:=rx;obtain ⟨t1,t2,_⟩:=ajZ I1 d;refine ⟨t1,t2,?_⟩;rw [m.trees]
  refine Calls.callWith_builtin rfl (Calls.evalArgs_plain (Calls.spliced_cons (cH (he pins s1 σ H1 _ I1 q1) fun iv s2 ⟨y,H2,I2,ry,q2⟩ =>
    Calls.spliced_cons (cH (hf pins s2 σ H2 _ I2 q2) fun fv s3 ⟨z,H3,I3,rz,ov,g,q3⟩=>Calls.spliced_nil ?_))))
  exact av9 hu I3 g ry rz fun w' s4 I4 rw'=>⟨_,H3,I4,rw',q3⟩
end
section
variable {X:Cx} {pins:List (Addr×Obj)} {σ:St} {H:Hp} {s:Shared} {a:Addr} {kvs:List (Key×V)} {A:Around} {E:Value->Shared->Prop}
end
section
variable {X:Cx} {pins:List (Addr×Obj)} {σ:St} {H:Hp} {s:Shared} {a:Addr} {y:V} {u:Value} {A:Around} {E:Value->Shared->Prop}
end
end
end L2
namespace HT
open PySem PyProof.Rows
def lexLt:List Int->List Int->Bool
  | [],[]=>false
  | [],_ :: _=>true
  | _ :: _,[]=>false
  | x :: xs,y :: ys=>if x=y then lexLt xs ys else decide (x < y)
theorem adQ (x y:Int) (xs ys:List Int):lexLt (x :: xs) (y :: ys)=if x=y then lexLt xs ys else decide (x < y):=rfl
theorem a67:lexLt [] []=false:=rfl
theorem a3J (y:Int) (ys:List Int):lexLt [] (y :: ys)=true:=rfl
theorem a3K (x:Int) (xs:List Int):lexLt (x :: xs) []=false:=rfl
theorem ak1 (A:Around) (s:Shared) (a:Int) (t:Tok) (c:Int) (u:Tok):∃ e,SeqAt.EqAt A s (.int a t) (.int c u) e/\(e=true↔a=c) :=
  ⟨(a == c),SeqAt.EqAt.int_int a t c u,by simp⟩
theorem aaR (A:Around) (s:Shared) (a:Int) (t:Tok) (c:Int) (u:Tok) (prog:Program) (w:World) (E:Value->Shared->Prop) (Q:Value->Shared->Prop) (h:Q (.bool (decide (a < c))) s) :
    wpAny (model prog w) A (richCompare .Lt (.int a t) (.int c u)) Q E s :=
  (PyProof.Rows.lt_int h:wpAny (model prog w) A (compareOp .Lt (.int a t) (.int c u)) Q E s)
section
open PySem.SeqAt
open PySem.AutoSeq1 (wpAny_loadPart')
open PySem.MeetsSeq PySem.MeetsSeq2 PySem.MeetsSeq3
theorem a68 (l b:Addr) (items items2:Array Value) (n n2:Nat) (dd dd2:Option Addr) (sl sl2:Array (Option Value)) (ns ms:List Int) (hi:IntsAre items.toList ns) (hj:IntsAre items2.toList ms) :
    Meets (Builtin.«tuple.__lt__» ⟨[.ref l,.ref b],[]⟩)
      (fun _ R s=>s.heap.get? l=some { cls := .type "tuple",dict:=dd,data := .seq items n,slots:=sl }/\s.heap.get? b=some { cls := .type "tuple",dict:=dd2,data := .seq items2 n2,slots:=sl2 } /\
        R (.ok (.ret (.bool (lexLt ns ms)))) s) :=
  .of_wp fun prog w A R s h=>by
    obtain ⟨hp,g,d,tk,os⟩:=s;obtain ⟨hl,hb,h⟩:=h;have f2:=AutoSeq1.sub_tuple_tuple;have z1:items.size=ns.length:=by rw [← hi.length];simp
    have z2:items2.size=ms.length:=by rw [← hj.length];simp
    wp_walk using wpAny_loadPart' hl,wpAny_loadPart' hb,wpAny_forIn_list _ (fun rest b s'=>b.1=none/\s'=⟨hp,g,d,tk,os⟩/\∃ (vs ws:List Value) (ns' ms':List Int),rest=vs.zip ws /\
      IntsAre vs ns'/\IntsAre ws ms'/\ns'.length+items2.size=ms'.length+items.size/\R (.ok (.ret (.bool (lexLt ns' ms')))) ⟨hp,g,d,tk,os⟩) _
    case turn =>
      rintro ⟨y,x⟩ rest b s' ⟨hb',rfl,vs,ws,ns',ms',hz,hvi,hwi,hlen,hR⟩;cases hvi with
      | nil=>rw [List.zip_nil_left] at hz;cases hz
      | cons a t aEL =>
        cases hwi with
        | nil=>rw [List.zip_nil_right] at hz;cases hz
        | cons c u aEM =>
          rw [List.zip_cons_cons] at hz;injection hz with hyx hrest;injection hyx with hy hx;subst hy hx;rw [adQ] at hR;simp only [jl] at hlen;obtain ⟨e,he,hiff⟩:=ak1 A.in1 ⟨hp,g,d,tk,os⟩ a t c u;refine ak (he prog w _ _ ?_);cases e with
          | true =>
            rw [if_pos (hiff.mp rfl)] at hR
            wp_walk
            exact ⟨rfl,rfl,_,_,_,_,hrest,aEL,aEM,by omega,hR⟩
          | false =>
            rw [if_neg (fun q=>absurd (hiff.mpr q) jg)] at hR;have hri:=aaR A.in1 ⟨hp,g,d,tk,os⟩ a t c u prog w
            wp_walk using hri
            exact ⟨_,rfl,by simpa using hR⟩
    case fin =>
      rintro ⟨b1,b2⟩ s' ⟨hb',rfl,vs,ws,ns',ms',hz,hvi,hwi,hlen,hR⟩;simp only at hb';subst hb'
      have hv:lexLt ns' ms'=decide (items.size < items2.size):=by
        cases hvi with
        | nil =>
          cases hwi with
          | nil =>
            simp only [yd] at hlen;rw [a67];exact (decide_eq_false (by omega)).symm
          | cons c u hw =>
            simp only [yd,jl] at hlen;rw [a3J];exact (decide_eq_true (by omega)).symm
        | cons a t hv =>
          cases hwi with
          | nil =>
            simp only [yd,jl] at hlen;rw [a3K];exact (decide_eq_false (by omega)).symm
          | cons c u hw =>
            rw [List.zip_cons_cons] at hz;cases hz
      rw [hv] at hR
      wp_walk
      exact ⟨_,rfl,by simpa [Builtin.Tuple.tupleCompareSizes] using hR⟩
    case h =>
      exact ⟨rfl,rfl,items.toList,items2.toList,ns,ms,rfl,hi,hj,by omega,h⟩
end
variable {Q:Value->Shared->Prop}
section
variable {prog:Program} {w:World} {A:Around} {E:Value->Shared->Prop} {s:Shared}
theorem adR {l b:Addr} {items items2:Array Value} {ns ms:List Int} (hl:IsTup s.heap l items) (hb:IsTup s.heap b items2) (hi:IntsAre items.toList ns) (hj:IntsAre items2.toList ms)
    (hu:A.units < cLine) (h:Q (.bool (lexLt ns ms)) s):wpAny (model prog w) A (compareOp .Lt (.ref l) (.ref b)) Q E s:=by
  obtain ⟨⟨cls,dd,data,sl⟩,ho,hc,n,hd⟩:=id hl;obtain ⟨⟨cls2,dd2,data2,sl2⟩,ho2,hc2,n2,hd2⟩:=id hb;simp only at hc hd hc2 hd2;subst hc hd hc2 hd2
  exact richCompare_meets_room (op := .Lt) ⟨_,ho,rfl⟩ ⟨_,ho2,rfl⟩ PySem.F.slot_tuple_lt PySem.F.entry_tuple_lt (PySem.F.args_tuple_lt_2 _ _) (a68 l b items items2 n n2 dd dd2 sl sl2 ns ms hi hj)
    ⟨ho,ho2,show Value.bool (lexLt ns ms)≠Value.notImplemented/\Q (.bool (lexLt ns ms)) s from ⟨(fun x=>nomatch x),h⟩⟩ hu
theorem aoK {t b:Addr} {vs ws:List Value} (ht:IsTup s.heap t vs.toArray) (hb:IsTup s.heap b ws.toArray) (hv:vs≠[])
    (h1:ws=[]->Q (.ref t) s) (h2:ws≠[]->Q (.ref s.heap.objs.size) { s with heap:=s.heap.push { cls := .type "tuple",data := .seq (vs++ws).toArray } })
    (hsz:vs.length+ws.length<=sizeLine):wpAny (model prog w) A (binaryOp .Add (.ref t) (.ref b)) Q E s:=by
  obtain ⟨⟨cls,dd,data,sl⟩,ho,hc,n,hd⟩:=id ht;obtain ⟨⟨cls2,dd2,data2,sl2⟩,ho2,hc2,n2,hd2⟩:=id hb;simp only at hc hd hc2 hd2;subst hc hd hc2 hd2;have e:vs.toArray++ws.toArray=(vs++ws).toArray:=by simp
  by_cases hw:ws=[]
  . exact concat_meets ⟨_,ho,rfl⟩ ⟨_,ho2,rfl⟩ noFill_tuple_add seq_tuple_add PySem.F.slot_tuple_add PySem.F.entry_tuple_add (PySem.F.args_tuple_add_2 _ _)
      (tuple_addW1 t b vs.toArray ws.toArray n n2 dd dd2 sl sl2 (by simpa using hv) (by simp [hw])) ⟨ho,ho2,h1 hw⟩
  . refine concat_meets ⟨_,ho,rfl⟩ ⟨_,ho2,rfl⟩ noFill_tuple_add seq_tuple_add PySem.F.slot_tuple_add PySem.F.entry_tuple_add (PySem.F.args_tuple_add_2 _ _)
      (tuple_addW2 t b vs.toArray ws.toArray n n2 dd dd2 sl sl2 (by simpa using hv) (by simpa using hw) (by rw [bw,bw];exact hsz)) ⟨ho,ho2,?_⟩
    rw [e];exact h2 hw
def sIx (n d:Nat):Option Int->Nat
  | none=>d
  | some v=>if v < 0 then (v+(n:Int)).toNat else min v.toNat n
end
end HT
namespace L2
open PySem PySem.Spec PyProof.Rows
variable {xs:List V}{us:List Value}
section
abbrev TO:=St->Hp->(Option Int->Hp->Prop)->Prop
def PO (X:Cx) (e:Option Expr) (t:TO):Prop :=
  ∀ (pins:List (Addr×Obj)) (s:Shared) (σ:St) (H:Hp) (Q:Option Int->Hp->Prop),Inv X pins σ H s->t σ H Q ->
    wpAny (model X.prog X.w) X.A (evalPart e X.env) (fun u s'=>∃ o H',Inv X pins σ H' s'/\IsPart u o/\Q o H') X.xe s
def aoL:TO:=fun _ H Q=>Q none H
def azZ (t:TE):TO:=fun σ H Q=>t σ H fun x H1=>∃ i,x = .int i/\Q (some i) H1
theorem intsAre_of {ns:List Int}:∀ {us:List Value},Vals (ns.map V.int) us->IntsAre us ns:=by
  induction ns with
  | nil=>intro us r;rw [uq] at r;cases r;exact .nil
  | cons n ns ih =>
    intro us r;rw [jd] at r;cases r with
    | cons r1 r2 =>
      obtain ⟨t,e⟩:=r1;subst e;exact .cons n t (ih r2)
section
variable {X:Cx} {e:Expr} {te:TE} {lo hi:Option Expr} {tl th:TO} {pos p2:Pos}
theorem aoM:PO X none aoL:=by
  intro pins s σ H Q I h;rw [evalPart_none];exact dh ⟨none,H,I,.none,h⟩
theorem aoN (h:PE X e te):PO X (some e) (azZ te):=by
  intro pins s σ H Q I hw;rw [evalPart_some];refine cH (h pins s σ H _ I hw) fun u s1 ⟨x,H1,I1,r1,q1⟩=>?_;obtain ⟨i,rfl,q⟩:=q1;obtain ⟨t,rfl⟩:=r1;exact ⟨some i,H1,I1,.int i t,q⟩
def SlR (X:Cx) (r:V->Option Int->Option Int->Hp->VK->Prop):Prop :=
  ∀ (pins:List (Addr×Obj)) (s:Shared) (σ:St) (H:Hp) (x:V) (v vl vu:Value) (lo hi:Option Int) (sl:Addr) (Q:VK),Inv X pins σ H s->RelV x v->s.heap.IsSliceOf sl vl vu .none->IsPart vl lo->IsPart vu hi->r x lo hi H Q ->
    ∃ T id,typeLookup (.type T) "__getitem__" = pure (some (.builtin id))/\s.TypeIs v T/\wpAny (model X.prog X.w) X.A (getItem v (.ref sl)) (EP X pins σ Q) X.xe s
theorem SlR.or {r r':V->Option Int->Option Int->Hp->VK->Prop} (h:SlR X r) (h':SlR X r'):SlR X (fun x lo hi H Q=>r x lo hi H Q∨r' x lo hi H Q):=by
  intro pins s σ H x v vl vu lo hi sl Q I rx hs pl pu q;rcases q with q | q
  . exact h pins s σ H x v vl vu lo hi sl Q I rx hs pl pu q
  . exact h' pins s σ H x v vl vu lo hi sl Q I rx hs pl pu q
def aoO (xs:List V) (lo hi:Option Int):List V:=(xs.drop (HT.sIx xs.length 0 lo)).take (HT.sIx xs.length xs.length hi - HT.sIx xs.length 0 lo)
theorem aaS (xs:List V) (lo hi:Option Int):(aoO xs lo hi).length<=xs.length:=by
  unfold aoO;rw [mz,List.length_drop];omega
def aA1 (K:cu):R2:=fun x y H Q=>∃ a b xs ys,x = .ref a/\y = .ref b/\rB K H a xs/\rB K H b ys/\xs≠[]/\xs.length+ys.length<=sizeLine /\
  (ys=[]->Q (.ref a) H)/\(ys≠[]->∀ p,H p=none->Q (.ref p) (upd H p (.tup (xs++ys))))
theorem Vals.zB (r:Vals xs us):us=[]↔xs=[]:=by
  cases r with
  | nil=>simp
  | cons _ _=>simp
theorem aoP:pO X (binaryOp .Add) (aA1 X.K):=by
  intro pins s σ H x y v u Q I rx ry h;obtain ⟨a,b,xs,ys,rfl,rfl,ha,hb,hx,hz,q1,q2⟩:=h;cases rx;cases ry;obtain ⟨its,r1,p1,_⟩:=I.tuple ha;obtain ⟨its2,r2,p2,_⟩:=I.tuple hb;refine HT.aoK p1 p2 (fun z=>hx (r1.zB.mp z)) (fun z=>⟨.ref a,H,I,rfl,q1 (r2.zB.mp z)⟩) (fun z=>?_) (by rw [← r1.length,← r2.length];exact hz);refine ⟨.ref s.heap.objs.size,_,I.laid (t':=s.toks) (o := .tup (xs++ys)) (fun b ob q=>ao _ q) (au _) ?_,rfl,q2 (fun w=>z (r2.zB.mpr w)) _ (I.hok.fresh (au _))⟩;exact ⟨by rw [gk];exact hz,_,r1.append r2,IsTup.new _ _⟩
end
end
variable {r:R2}{n:Nat}{i:Int}{pins:List (Addr×Obj)}{H:Hp}{s:Shared}{x:V}{u v:Value}
section
def ixN (n:Nat) (i:Int):Option Nat:=if 0<=i then (if i < n then some i.toNat else none) else if -(n:Int)<=i then some (i+n).toNat else none
def atI {α:Type} (xs:List α) (i:Int):Option α:=(ixN xs.length i).bind fun j=>xs[j]?
theorem aoQ {j:Nat} (h:ixN n i=some j):seqIndex? i n=some j/\j < n/\-(n:Int)<=i/\i < n:=by
  unfold ixN at h;by_cases h0:0<=i
  . rw [if_pos h0] at h;by_cases h1:i < n
    . rw [if_pos h1] at h;have e:i.toNat=j:=dj.inj h;exact ⟨by rw [seqIndex_of h0 h1,e],by omega,by omega,h1⟩
    . rw [if_neg h1] at h;cases h
  . rw [if_neg h0] at h;by_cases h1:-(n:Int)<=i
    . rw [if_pos h1] at h;have e:(i+n).toNat=j:=dj.inj h;exact ⟨by rw [seqIndex_neg (by omega) h1,e],by omega,h1,by omega⟩
    . rw [if_neg h1] at h;cases h
theorem a88 {α:Type} {xs:List α} {v:α} (h:atI xs i=some v):∃ j,seqIndex? i xs.length=some j/\xs[j]?=some v/\j < xs.length/\-(xs.length:Int)<=i/\i < xs.length:=by
  unfold atI at h;cases e:ixN xs.length i with
  | none=>rw [e] at h;cases h
  | some j =>
    rw [e] at h;obtain ⟨h1,h2,h3,h4⟩:=aoQ e;exact ⟨j,h1,h,h2,h3,h4⟩
def a89 (b:Expr):Prop:=∀ o i,subscripted b false o i=operate [o,i] (getItem o i)
def IxR (X:Cx) (r:R2):Prop :=
  ∀ (value slice:Expr) (pins:List (Addr×Obj)) (s:Shared) (σ:St) (H:Hp) (x y:V) (v u:Value) (Q:VK),Inv X pins σ H s->RelV x v->RelV y u->r x y H Q ->
    subscripted slice false v u=operate [v,u] (getItem v u)->wpAny (model X.prog X.w) X.A (subscriptTail value slice v u) (EP X pins σ Q) X.xe s
def MtR (X:Cx) (id:String) (r:V->List V->Hp->VK->Prop):Prop :=
  ∀ (pins:List (Addr×Obj)) (s:Shared) (σ:St) (H:Hp) (x:V) (xs:List V) (v:Value) (us:List Value) (Q:VK),Inv X pins σ H s->RelV x v->Vals xs us->r x xs H Q ->
    wpAny (model X.prog X.w) X.A (call (.builtin id) (v :: us)) (EP X pins σ Q) X.xe s
variable {y:V}
section
variable {X:Cx} {a b:Expr} {ta tb:TE} {pos:Pos}
theorem IxR.or {r':R2} (h:IxR X r) (h':IxR X r'):IxR X (fun x y H Q=>r x y H Q∨r' x y H Q):=by
  intro value slice pins s σ H x y v u Q I rx ry q hs;rcases q with q | q
  . exact h value slice pins s σ H x y v u Q I rx ry q hs
  . exact h' value slice pins s σ H x y v u Q I rx ry q hs
theorem MtR.or {id:String} {r r':V->List V->Hp->VK->Prop} (h:MtR X id r) (h':MtR X id r'):MtR X id (fun x xs H Q=>r x xs H Q∨r' x xs H Q):=by
  intro pins s σ H x xs v us Q I rx rs q;rcases q with q | q
  . exact h pins s σ H x xs v us Q I rx rs q
  . exact h' pins s σ H x xs v us Q I rx rs q
theorem aA3 (hr:IxR X r) (ha:PE X a ta) (hb:PE X b tb) (hs:a89 b):PE X (.Subscript a b pos) (tOp r ta tb):=by
  intro pins s σ H Q I h;exact Subscript_ (auT ha hb I h fun v u s2 x y H2 I2 rx ry q=>hr a b pins s2 σ H2 x y v u Q I2 rx ry q (hs _ _))
def aA4 (K:cu):R2:=fun x y H Q=>∃ p xs i v,x = .ref p/\y = .int i/\wU K H p xs/\atI xs i=some v/\Q v H
def aA5 (K:cu):R2:=fun x y H Q=>∃ p xs i v,x = .ref p/\y = .int i/\rB K H p xs/\atI xs i=some v/\Q v H
def aA6:R2:=fun x y H Q=>∃ z i c,x = .str z/\y = .int i/\z.length<=sizeLine/\atI z.cps.toList i=some c/\Q (.str ⟨#[c]⟩) H
theorem aoS:IxR X (aA4 X.K):=by
  intro value slice pins s σ H x y v u Q I rx ry h hs;obtain ⟨p,xs,i,z,rfl,rfl,hq,he,q⟩:=h;cases rx;obtain ⟨t,rfl⟩:=ry;obtain ⟨its,r,pl,hz⟩:=I.list hq;obtain ⟨j,h1,h2,h3,h4,h5⟩:=a88 he;obtain ⟨w,ew,rw'⟩:=r.get h2;have hl:=r.length;have hn:=a3G;have fin:EP X pins σ Q w s:=⟨z,H,I,rw',q⟩;by_cases h0:0<=i
  . have hj:i.toNat=j:=by
      rw [seqIndex_of h0 h5] at h1;exact dj.inj h1
    exact item_listR pl.isList h0 (by omega) (by rw [hj];simpa using ew) fin hs
  . have hj:(i+(its.toArray.size:Int)).toNat=j:=by
      rw [seqIndex_neg (by omega) h4] at h1;rw [bw,← hl];exact dj.inj h1
    exact subscriptTail_builtinR (x:=w) pl.isList.typeIs slot_list_getitem.lookup
      (wpAny_getItem_list_neg (Q:=fun r s'=>r=w/\EP X pins σ Q r s') pl.isList (by omega) (by rw [bw] <;> omega) (by omega) (by rw [hj];simpa using ew) ⟨rfl,fin⟩) hs
theorem avB:IxR X (aA5 X.K):=by
  intro value slice pins s σ H x y v u Q I rx ry h hs;obtain ⟨p,xs,i,z,rfl,rfl,hq,he,q⟩:=h;cases rx;obtain ⟨t,rfl⟩:=ry;obtain ⟨its,r,pl,hz⟩:=I.tuple hq;obtain ⟨j,h1,h2,h3,h4,h5⟩:=a88 he;obtain ⟨w,ew,rw'⟩:=r.get h2;have hl:=r.length;have hn:=a3G;have fin:EP X pins σ Q w s:=⟨z,H,I,rw',q⟩
  exact subscriptTail_builtinR (x:=w) pl.typeIs slot_tuple_getitem.lookup
    (getItem_tuple (j:=j) (Q:=fun r s'=>r=w/\EP X pins σ Q r s') pl (by omega) (by omega) (by rw [bw,← hl];exact h1) (by simpa using ew) ⟨rfl,fin⟩) hs
theorem avC:IxR X aA6:=by
  intro value slice pins s σ H x y v u Q I rx ry h hs;obtain ⟨z,i,c,rfl,rfl,hz,he,q⟩:=h;obtain ⟨t,rfl⟩:=rx;obtain ⟨t',rfl⟩:=ry;obtain ⟨j,h1,h2,h3,h4,h5⟩:=a88 he;have hl:z.cps.toList.length=z.length:=by simp [Str.length]
  rw [hl] at h1 h4 h5;have hn:=a3G
  exact tail_any (typeIs_str s z t) slot_str_getitem.lookup (getItem_str (c:=c) (by
    have e1:decide (i < -(2 ^ 63:Int))=false:=decide_eq_false (by omega);have e2:decide (i≥2 ^ 63)=false:=decide_eq_false (by omega);rw [e1,e2,Bool.or_false]) (by rw [h1];simpa using h2) ⟨.str ⟨#[c]⟩,H,I.tok _,⟨_,rfl⟩,q⟩) hs
def rIx (K:cu):R2:=fun x y H Q=>aA4 K x y H Q∨aA5 K x y H Q∨aA6 x y H Q
theorem avD:IxR X (rIx X.K):=aoS.or (avB.or avC)
theorem Inv.lst {σ:St} {p:Addr} (I:Inv X pins σ H s) (h:H p=some (.lst xs)) :
    ∃ (its:List Value) (n:Nat),Vals xs its/\s.heap.get? p=some { cls := .type "list",data := .seq its.toArray n }/\xs.length<=sizeLine:=by
  obtain ⟨z,its,n,r,e⟩:=I.hok p _ h;exact ⟨its,n,r,e,z⟩
theorem a8A (lo hi:Option Int) (n:Nat):(sliceBounds lo hi none n).1=((HT.sIx n 0 lo:Nat):Int)/\(sliceBounds lo hi none n).2.1=((HT.sIx n n hi:Nat):Int)/\(sliceBounds lo hi none n).2.2=1:=by
  refine ⟨?_,?_,rfl⟩
  . cases lo with
    | none=>simp [sliceBounds,HT.sIx]
    | some i =>
      simp only [sliceBounds,HT.sIx,Option.getD_none,show (1:Int) > 0 by decide,if_true];by_cases h:i < 0
      . simp only [h,if_true] <;> omega
      . simp only [h,if_false] <;> omega
  . cases hi with
    | none=>simp [sliceBounds,HT.sIx]
    | some i =>
      simp only [sliceBounds,HT.sIx,Option.getD_none,show (1:Int) > 0 by decide,if_true];by_cases h:i < 0
      . simp only [h,if_true] <;> omega
      . simp only [h,if_false] <;> omega
theorem a69 (its:List Value) (lo hi:Option Int):slicePick its.toArray lo hi none=((its.drop (HT.sIx its.length 0 lo)).take (HT.sIx its.length its.length hi - HT.sIx its.length 0 lo)).toArray:=by
  obtain ⟨h1,h2,h3⟩:=a8A lo hi its.toArray.size;unfold slicePick;rw [h1,h2,h3];simp only [sliceRange_one,pick_run,bw] <;> rfl
def aEN (K:cu):V->Option Int->Option Int->Hp->VK->Prop:=fun x lo hi H Q=>∃ a xs,x = .ref a/\wU K H a xs/\∀ p,H p=none->Q (.ref p) (upd H p (.lst (aoO xs lo hi)))
theorem aD5:SlR X (aEN X.K):=by
  intro pins s σ H x v vl vu lo hi sl Q I rx hs pl pu h;obtain ⟨a,xs,rfl,hx,q⟩:=h;cases rx;obtain ⟨its,r,ht,hz⟩:=I.list hx;have hlen:=r.length;refine ⟨"list",_,slot_list_getitem.lookup,ht.isList.typeIs,?_⟩;refine wpAny_getItem_list_slice ht.isList hs pl pu .none (by simp) ?_ (by rw [bw] <;> omega);rw [a69,← hlen];refine ⟨.ref s.heap.objs.size,_,I.laid (t':=s.toks) (o := .lst (aoO xs lo hi)) (fun b ob q=>ao _ q) (au _) ?_,rfl,q _ (I.hok.fresh (au _))⟩;exact ⟨nj (aaS xs lo hi) hz,_,0,(r.drop (HT.sIx xs.length 0 lo)).take (HT.sIx xs.length xs.length hi - HT.sIx xs.length 0 lo),cj _ rfl⟩
def tD:V->Bool
  | .non=>true
  | .bl _=>true
  | .int _=>true
  | .str _=>true
  | _=>false
def eqV:V->V->Bool
  | .non,.non=>true
  | .bl a,.bl b=>a == b
  | .bl a,.int b=>(if a then 1 else 0) == b
  | .int a,.bl b=>a == (if b then 1 else 0)
  | .int a,.int b=>a == b
  | .str a,.str b=>a == b
  | _,_=>false
theorem a0J {A:Around} (ry:RelV y u) (rx:RelV x v) (fy:tD y=true) (fx:tD x=true):SeqAt.EqAt A s u v (eqV y x):=by
  cases y with
  | non =>
    cases ry;cases x with
    | non=>cases rx;exact SeqAt.EqAt.same _
    | bl b=>cases rx;exact SeqAt.EqAt.none_bool b
    | int b=>obtain ⟨t,rfl⟩:=rx;exact SeqAt.EqAt.none_int b t
    | str b=>obtain ⟨t,rfl⟩:=rx;exact SeqAt.EqAt.none_str b t
    | _=>exact absurd (show false=true from fx) jg
  | bl a =>
    cases ry;cases x with
    | non=>cases rx;exact SeqAt.EqAt.bool_none a
    | bl b=>cases rx;exact SeqAt.EqAt.bool_bool a b
    | int b=>obtain ⟨t,rfl⟩:=rx;exact SeqAt.EqAt.bool_int a b t
    | str b=>obtain ⟨t,rfl⟩:=rx;exact SeqAt.EqAt.bool_str a b t
    | _=>exact absurd (show false=true from fx) jg
  | int a =>
    obtain ⟨t',rfl⟩:=ry;cases x with
    | non=>cases rx;exact SeqAt.EqAt.int_none a t'
    | bl b=>cases rx;exact SeqAt.EqAt.int_bool a t' b
    | int b=>obtain ⟨t,rfl⟩:=rx;exact SeqAt.EqAt.int_int a t' b t
    | str b=>obtain ⟨t,rfl⟩:=rx;exact SeqAt.EqAt.int_str a t' b t
    | _=>exact absurd (show false=true from fx) jg
  | str a =>
    obtain ⟨t',rfl⟩:=ry;cases x with
    | non=>cases rx;exact SeqAt.EqAt.str_none a t'
    | bl b=>cases rx;exact SeqAt.EqAt.str_bool a t' b
    | int b=>obtain ⟨t,rfl⟩:=rx;exact SeqAt.EqAt.str_int a t' b t
    | str b=>obtain ⟨t,rfl⟩:=rx;exact SeqAt.EqAt.str_str a t' b t
    | _=>exact absurd (show false=true from fx) jg
  | _=>exact absurd (show false=true from fy) jg
def eqU (x:V) (u:Value):Bool:=match u with
  | .none=>eqV .non x
  | .bool b=>eqV (.bl b) x
  | .int i _=>eqV (.int i) x
  | .str z _=>eqV (.str z) x
  | _=>false
theorem ak2 (r:RelV y u) (f:tD y=true):eqU x u=eqV y x:=by
  cases y with
  | non=>cases r;rfl
  | bl b=>cases r;rfl
  | int i=>obtain ⟨t,rfl⟩:=r;rfl
  | str z=>obtain ⟨t,rfl⟩:=r;rfl
  | _=>exact absurd (show false=true from f) jg
theorem zE {x:V}:∀ {xs:List V} {us:List Value},Vals xs us->xs.all tD=true->us.any (eqU x)=xs.any fun y=>eqV y x
  | _,_,.nil,_=>rfl
  | y :: xs,u :: us,.cons r t,f=>by
    rw [qz,aj] at f;rw [uc,uc,ak2 r f.1,zE t f.2]
theorem u5 {A:Around} {s:Shared} {x:V} {v:Value} (rx:RelV x v) (fx:tD x=true):∀ {xs:List V} {us:List Value},Vals xs us->xs.all tD=true->∀ u∈us,SeqAt.EqAt A s u v (eqU x u)
  | _,_,.nil,_=>fun u hu=>by cases hu
  | y :: xs,u :: us,.cons r t,f=>fun u' hu=>by
    rw [qz,aj] at f;rcases iy.mp hu with rfl | hu
    . rw [ak2 r f.1];exact a0J r rx f.1 fx
    . exact u5 rx fx t f.2 u' hu
def inV (x:V) (xs:List V):Bool:=xs.any fun y=>eqV y x
def rIn (K:cu) (neg:Bool):R2:=fun x y H Q=>∃ p xs,y = .ref p/\(wU K H p xs∨rB K H p xs)/\tD x=true/\xs.all tD=true/\Q (.bl (if neg then !inV x xs else inV x xs)) H
theorem ahV:pO X (compareOp .In) (rIn X.K false):=by
  intro pins s σ H x y v u Q I rx ry h;obtain ⟨p,xs,rfl,hq,fx,fs,q⟩:=h;cases ry;rcases hq with hq | hq
  . obtain ⟨its,r,pl,hz⟩:=I.list hq;refine SeqAt.in_listAt (eqU x) pl.isList (fun w hw=>u5 rx fx r fs w (by simpa using hw)) ⟨.bl _,H,I,rfl,?_⟩;rw [show its.toArray.any (eqU x)=its.any (eqU x) by simp,zE r fs];exact q
  . obtain ⟨its,r,pl,hz⟩:=I.tuple hq;refine SeqAt.in_tupleAt (eqU x) pl (fun w hw=>u5 rx fx r fs w (by simpa using hw)) ⟨.bl _,H,I,rfl,?_⟩;rw [show its.toArray.any (eqU x)=its.any (eqU x) by simp,zE r fs];exact q
theorem a8B:pO X (compareOp .NotIn) (rIn X.K true):=by
  intro pins s σ H x y v u Q I rx ry h;obtain ⟨p,xs,rfl,hq,fx,fs,q⟩:=h;cases ry;rcases hq with hq | hq
  . obtain ⟨its,r,pl,hz⟩:=I.list hq;refine SeqAt.notIn_listAt (eqU x) pl.isList (fun w hw=>u5 rx fx r fs w (by simpa using hw)) ⟨.bl _,H,I,rfl,?_⟩;rw [show its.toArray.any (eqU x)=its.any (eqU x) by simp,zE r fs];exact q
  . obtain ⟨its,r,pl,hz⟩:=I.tuple hq;refine SeqAt.notIn_tupleAt (eqU x) pl (fun w hw=>u5 rx fx r fs w (by simpa using hw)) ⟨.bl _,H,I,rfl,?_⟩;rw [show its.toArray.any (eqU x)=its.any (eqU x) by simp,zE r fs];exact q
theorem a8C:o8 X (.builtin "len") (fun xs H Q=>∃ p ys,xs=[.ref p]/\(wU X.K H p ys∨rB X.K H p ys)/\Q (.int ys.length) H):=by
  intro pins s σ H xs us Q I r h;obtain ⟨p,ys,rfl,hq,q⟩:=h;obtain ⟨u,rfl,rx⟩:=vals1 r;cases rx;have hn:=a3G;rcases hq with hq | hq
  . obtain ⟨its,r',pl,hz⟩:=I.list hq;have hlen:=r'.length;exact Calls.call_len_list pl.isList (by simp only [bw] <;> omega) ⟨.int ys.length,H,I.tok _,⟨s.toks+1,by rw [bw,hlen]⟩,q⟩
  . obtain ⟨its,r',pl,hz⟩:=I.tuple hq;have hlen:=r'.length;exact len_tuple pl (by simp only [bw] <;> omega) ⟨.int ys.length,H,I.tok _,⟨s.toks+1,by rw [bw,hlen]⟩,q⟩
theorem a8D:o8 X (.builtin "len") (fun xs H Q=>∃ z,xs=[.str z]/\z.length<=sizeLine/\Q (.int z.length) H):=by
  intro pins s σ H xs us Q I r h;obtain ⟨z,rfl,hz,q⟩:=h;obtain ⟨u,rfl,t,rfl⟩:=vals1 r;have hn:=a3G;exact len_str (by omega) ⟨.int z.length,H,I.tok _,⟨_,rfl⟩,q⟩
theorem o8.or {f:Value} {r r':List V->Hp->VK->Prop} (h:o8 X f r) (h':o8 X f r'):o8 X f (fun xs H Q=>r xs H Q∨r' xs H Q):=by
  intro pins s σ H xs us Q I rs q;rcases q with q | q
  . exact h pins s σ H xs us Q I rs q
  . exact h' pins s σ H xs us Q I rs q
theorem a8E:o8 X (.type "list") (fun xs H Q=>∃ p ys,xs=[.ref p]/\(wU X.K H p ys∨rB X.K H p ys)/\∀ l,H l=none->Q (.ref l) (upd H l (.lst ys))):=by
  intro pins s σ H xs us Q I r h;obtain ⟨p,ys,rfl,hq,q⟩:=h;obtain ⟨u,rfl,rx⟩:=vals1 r;cases rx
  have fin:∀ (its:List Value),Vals ys its->ys.length<=sizeLine->∀ (h':Heap) (c':Nat),(∀ b o',s.heap.get? b=some o'->h'.get? b=some o') ->
      h'.get? s.heap.objs.size=some { cls := .type "list",dict:=none,data := .seq its.toArray c',slots:=#[] }->EP X pins σ Q (.ref s.heap.objs.size) { s with heap:=h' }:=fun its r' hz h' c' kp e =>
    ⟨.ref s.heap.objs.size,_,I.laid (t':=s.toks) kp (au _) (show cY X.prog X.w _ h' _ (.lst ys) from ⟨hz,its,c',r',e⟩),rfl,q _ (I.hok.fresh (au _))⟩
  rcases hq with hq | hq
  . obtain ⟨its,r',pl,hz⟩:=I.list hq;have hlen:=r'.length;obtain ⟨o,ho,hc,n,hd⟩:=pl.isList;exact call_list_seq p (.inl rfl) ho hc hd (fun h' c' kp e=>fin its r' hz h' c' kp e) (by simp only [bw] <;> omega)
  . obtain ⟨its,r',pl,hz⟩:=I.tuple hq;have hlen:=r'.length;obtain ⟨o,ho,hc,n,hd⟩:=pl;exact call_list_seq p (.inr rfl) ho hc hd (fun h' c' kp e=>fin its r' hz h' c' kp e) (by simp only [bw] <;> omega)
theorem a6A:o8 X (.type "tuple") (fun xs H Q=>∃ p ys,xs=[.ref p]/\((wU X.K H p ys/\∀ l,H l=none->Q (.ref l) (upd H l (.tup ys)))∨(rB X.K H p ys/\Q (.ref p) H))):=by
  intro pins s σ H xs us Q I r h;obtain ⟨p,ys,rfl,h⟩:=h;obtain ⟨u,rfl,rx⟩:=vals1 r;cases rx;rcases h with ⟨hq,q⟩ | ⟨hq,q⟩
  . obtain ⟨its,r',pl,hz⟩:=I.list hq;have hlen:=r'.length;refine call_tuple_list pl.isList (fun h' kp=>?_) (by simp only [bw] <;> omega);have I1:Inv X pins σ H { s with heap:=h' }:=I.kept (t':=s.toks) kp
    have I2:Inv X pins σ (upd H h'.objs.size (.tup ys)) { s with heap:=h'.push { cls := .type "tuple",data := .seq its.toArray } } :=
      I1.laid (t':=s.toks) (fun b o e=>ao _ e) (au _) (show cY X.prog X.w _ _ _ (.tup ys) from ⟨hz,its,r',IsTup.new _ _⟩)
    exact ⟨.ref h'.objs.size,_,I2,rfl,q _ (I1.hok.fresh (au _))⟩
  . obtain ⟨its,r',pl,hz⟩:=I.tuple hq;exact call_tuple_same pl ⟨.ref p,H,I,rfl,q⟩
def tyV (K:cu) (T:String) (x:V) (H:Hp):Prop:=match x with
  | .str _=>T = "str"
  | .int _=>T = "int"
  | .ref p=>(T = "list" /\ ∃ xs,wU K H p xs)∨(T = "tuple" /\ ∃ o,K.lookup p=some o/\o.cls = .type "tuple" /\ o.dict=none) ∨
      (T = "dict" /\ ((∃ kvs,H p=some (.dK kvs))∨∃ kvs,H p=some (.dT kvs)))∨(T = "set" /\ ∃ S n,H p=some (.set S n))
  | _=>False
theorem ak3 {σ:St} {T:String} (I:Inv X pins σ H s) (r:RelV x v) (ty:tyV X.K T x H) :
    s.TypeIs v T/\∀ a,v = .ref a->∃ ob,s.heap.get? a=some ob/\ob.dict=none:=by
  cases x with
  | str z =>
    obtain ⟨t,rfl⟩:=r;cases (show T = "str" from ty);exact ⟨typeIs_str s z t,fun _ e=>nomatch e⟩
  | int i =>
    obtain ⟨t,rfl⟩:=r;cases (show T = "int" from ty);exact ⟨typeIs_int s i t,fun _ e=>nomatch e⟩
  | ref p =>
    cases r;rcases ty with ⟨rfl,xs,hq⟩ | ⟨rfl,o,hk,hc,hd⟩ | ⟨rfl,hk⟩ | ⟨rfl,S,n,hk⟩
    . obtain ⟨its,_,pl,_⟩:=I.list hq;refine ⟨pl.isList.typeIs,fun a e=>?_⟩;cases e;obtain ⟨o,n,e,c,hd,_⟩:=pl;exact ⟨o,e,hd⟩
    . refine ⟨⟨o,I.kIn p o hk,hc⟩,fun a e=>?_⟩;cases e;exact ⟨o,I.kIn _ o hk,hd⟩
    . have z:∃ o,s.heap.get? p=some o/\o.ExactDict:=by
        rcases hk with ⟨kvs,hk⟩ | ⟨kvs,hk⟩
        . obtain ⟨_,_,_,_,o,_,_,e,ex,_⟩:=I.hok p _ hk;exact ⟨o,e,ex⟩
        . obtain ⟨_,_,_,_,o,_,_,e,ex,_⟩:=I.hok p _ hk;exact ⟨o,e,ex⟩
      obtain ⟨o,e,ex⟩:=z;refine ⟨⟨o,e,ex.1⟩,fun a e2=>?_⟩;cases e2;exact ⟨o,e,ex.2.1⟩
    . obtain ⟨o,_,_,_,e,ex,_⟩:=I.hok p _ hk;refine ⟨⟨o,e,ex.1⟩,fun a e2=>?_⟩;cases e2;exact ⟨o,e,ex.2.1⟩
  | _=>exact False.elim ty
variable {o e:Expr} {es:List Expr} {to:TE} {t:TA} {name:Str} {apos cpos:Pos} {T id:String} {r:V->List V->Hp->VK->Prop}
end
end
variable {its:List Value}{t':Nat}
section
def MtM (X:Cx) (id:String) (r:V->List V->Hp->VK->Prop):Prop :=
  ∀ (pins:List (Addr×Obj)) (s:Shared) (σ:St) (H:Hp) (x:V) (xs:List V) (v:Value) (us:List Value) (Q:VK),Inv X pins σ H s->RelV x v->Vals xs us->r x xs H Q ->
    wpAny (model X.prog X.w) X.A (call (.builtin id) (v :: us)) (EP X pins σ Q) X.xe s
theorem Vals.one:∀ {x:V} {us:List Value},Vals [x] us->∃ u,us=[u]/\RelV x u
  | _,_,.cons r .nil=>⟨_,rfl,r⟩
theorem Vals.two:∀ {x y:V} {us:List Value},Vals [x,y] us->∃ u v,us=[u,v]/\RelV x u/\RelV y v
  | _,_,_,.cons r (.cons q .nil)=>⟨_,_,rfl,r,q⟩
theorem Vals.zero:∀ {us:List Value},Vals [] us->us=[]
  | _,.nil=>rfl
theorem Vals.dropLast (h:Vals xs us):Vals xs.dropLast us.dropLast:=by
  induction h with
  | nil=>exact .nil
  | cons r t ih =>
    cases t with
    | nil=>exact .nil
    | cons q t'=>exact .cons r ih
theorem Vals.reverse (h:Vals xs us):Vals xs.reverse us.reverse:=by
  induction h with
  | nil=>exact .nil
  | cons r t ih=>rw [wg,wg];exact Vals.append ih (.cons r .nil)
section
variable {X:Cx} {pins:List (Addr×Obj)} {σ:St} {H:Hp} {s:Shared} {l b:Addr} {xs ys zs:List V}
theorem Inv.aA7 {its':List Value} {f:Array Value->Array Value} (I:Inv X pins σ H s) (hH:H l=some (.lst xs))
    (e:s.heap.get? l=some { cls := .type "list",data := .seq its.toArray n }) (hf:f its.toArray=its'.toArray) (hv:Vals ys its') (hz:ys.length<=sizeLine) :
    Inv X pins σ (upd H l (.lst ys)) { s with heap:=s.heap.update l (Obj.mapSeq f),toks:=t' }:=by
  have q:=PySem.IsL.update e f;rw [hf] at q;refine I.write (x:=l) (e:=l) (by rw [hH];exact trivial) (.inl rfl) (fun b' u hb hu=>(iw s.heap (Obj.mapSeq f) (Ne.symm hb)).trans hu) ⟨_,q⟩ ?_;exact ⟨hz,its',_,hv,q⟩
theorem Inv.aA8 (I:Inv X pins σ H s) (hv:Vals ys its) (hz:ys.length<=sizeLine) :
    Inv X pins σ (upd H s.heap.objs.size (.lst ys)) { s with heap:=s.heap.push { cls := .type "list",data := .seq its.toArray },toks:=t' } :=
  I.laid (fun _ _ q=>ao _ q) (au _) ⟨hz,its,0,hv,cj _ rfl⟩
theorem Inv.fresh (I:Inv X pins σ H s):H s.heap.objs.size=none:=I.hok.fresh (au _)
theorem Inv.ak4 (I:Inv X pins σ H s) (hH:H l=some (.lst xs)):xs.length<=sizeLine/\∃ (its:List Value) (n:Nat),Vals xs its/\xs.length=its.length/\s.heap.get? l=some { cls := .type "list",data := .seq its.toArray n }:=by
  obtain ⟨z,its,n,r,e⟩:=I.hok l _ hH;exact ⟨z,its,n,r,r.length,e⟩
theorem ak5 (h:n<=sizeLine):Builtin.List.listTooLong n=false:=by
  unfold Builtin.List.listTooLong;exact decide_eq_false (by omega)
end
section
variable {X:Cx}
def aoT:V->List V->Hp->VK->Prop:=fun x vs H Q=>∃ l xs y,x = .ref l/\vs=[y]/\H l=some (.lst xs)/\xs.length < sizeLine/\Q .non (upd H l (.lst (xs++[y])))
theorem a73:MtM X "list.append" aoT:=by
  intro pins s σ H x vs v us Q I rx rv h;obtain ⟨l,xs,y,rfl,rfl,hH,hz,q⟩:=h;cases rx;obtain ⟨u,rfl,ru⟩:=rv.one;obtain ⟨z,its,n,r,hl,e⟩:=I.ak4 hH;refine call_meets F.slot_list_append ⟨_,e,rfl⟩ F.entry_list_append (F.args_list_append_2 _ _) (PySem.list_append l its.toArray n u (by rw [bw];omega)) ⟨e,?_⟩;refine ⟨.non,_,I.aA7 (its':=its++[u]) hH e (by simp) (r.append (.cons ru .nil)) ?_,rfl,q⟩;rw [gk,xr];omega
def aoU:V->List V->Hp->VK->Prop:=fun x vs H Q=>∃ l b xs zs,x = .ref l/\vs=[.ref b]/\H l=some (.lst xs)/\H b=some (.lst zs)/\xs.length+zs.length<=sizeLine/\Q .non (upd H l (.lst (xs++zs)))
theorem ahW:MtM X "list.extend" aoU:=by
  intro pins s σ H x vs v us Q I rx rv h;obtain ⟨l,b,xs,zs,rfl,rfl,hH,hB,hz,q⟩:=h;cases rx;obtain ⟨u,rfl,ru⟩:=rv.one;cases ru;obtain ⟨z,its,n,r,hl,e⟩:=I.ak4 hH;obtain ⟨z2,its2,n2,r2,hl2,e2⟩:=I.ak4 hB;have hsz:its.toArray.size+its2.toArray.size<=sizeLine:=by rw [bw,bw];omega
  have aA9:¬ (!its.toArray.isEmpty&&Builtin.List.listTooLong (its.toArray.size+its2.toArray.size))=true:=by
    rw [ak5 hsz,Bool.and_false];exact jg
  refine call_meets F.slot_list_extend ⟨_,e,rfl⟩ F.entry_list_extend (F.args_list_extend_2 _ _)
    (AutoSeq1.list_extend_list_list_0 l its.toArray n b its2.toArray n2 aA9 (by rw [bw];omega) (by omega)) ⟨e,e2,?_⟩
  refine ⟨.non,_,I.aA7 (its':=its++its2) hH e (by simp) (r.append r2) ?_,rfl,q⟩;rw [gk];omega
def aEO:R2:=fun x y H Q=>∃ l b xs zs,x = .ref l/\y = .ref b/\H l=some (.lst xs)/\H b=some (.lst zs)/\xs.length+zs.length<=sizeLine/\∀ p,H p=none->Q (.ref p) (upd H p (.lst (xs++zs)))
theorem avE:pO X (binaryOp .Add) aEO:=by
  intro pins s σ H x y v u Q I rx ry h;obtain ⟨l,b,xs,zs,rfl,rfl,hH,hB,hz,q⟩:=h;cases rx;cases ry;obtain ⟨z,its,n,r,hl,e⟩:=I.ak4 hH;obtain ⟨z2,its2,n2,r2,hl2,e2⟩:=I.ak4 hB;refine PySem.P.add_list e e2 ?_ (by rw [bw,bw];omega);have ea:its.toArray++its2.toArray=(its++its2).toArray:=by simp
  rw [ea];exact ⟨.ref _,_,I.aA8 (t':=s.toks) (r.append r2) (by rw [gk];omega),rfl,q _ I.fresh⟩
end
section
variable {prog:Program} {w:World} {A:Around} {E:Value->Shared->Prop} {s:Shared}
end
section
variable {X:Cx}
end
end
end L2
namespace Att
open PySem PySem.W PySem.Calls PyProof.Rows
variable {P:Params}{h:Heap}
theorem a2A:∀ (ns:List Int) (vs:List Value),WellAll P h vs (ns.map WData.int)->IntsAre vs ns:=by
  intro ns
  induction ns with
  | nil =>
    intro vs w;rw [uq] at w;cases w;exact .nil
  | cons n ns ih =>
    intro vs w;rw [jd] at w;cases w with
    | cons a b =>
      cases a;exact .cons _ _ (ih _ b)
variable {l:OpenLaw}{n:Nat}
theorem ahX (hn:l.most=some n) {args:List WData} {vals:List Value}
    (hpre:l.row.toRowW.claim.pre args=true) (hwl:WellAll P h vals args) :
    ∃ a vs ns,vals=[Value.ref a]/\args=[WData.list (ns.map WData.int)]/\h.get? a=some { cls := .type "list",data := .seq vs.toArray }/\IntsAre vs ns/\ns.length<=n:=by
  have hsh:WShape.hasAll [] args [.list .int]=true:=(pre_splitW hpre).1;have hc:l.pre.holds [] { args:=args }=true:=(pre_splitW hpre).2;obtain ⟨d,r,rfl,h1,h2⟩:=hasAllW_cons hsh;obtain rfl:=hasAllW_nil h2;obtain ⟨xs,rfl,h3⟩:=hasW_list h1;obtain ⟨ns,rfl⟩:=items_int h3
  have hlen:ns.length<=n:=by
    unfold OpenLaw.pre at hc
    have h4:(WTm.not (.lt (.lit (.int (n:Int))) (.len (.arg 0)))).holds [] { args:=[.list (ns.map .int)] }=true:=by
      have h4:=(holds_andW hc).1;rw [hn] at h4;exact h4
    have h5:=condW_of h4 (w_not (w_lt w_lit (w_len_list (w_arg rfl))));rw [dg] at h5;refine Nat.le_of_not_lt fun q=>?_;have q':(n:Int) < ((ns.length:Nat):Int):=by omega
    first
      | (rw [decide_eq_true q'] at h5;exact absurd h5 (by decide))
      | (simp at h5;omega)
  cases hwl with
  | cons w1 w2 =>
    cases w2;cases w1 with
    | list ho hall=>exact ⟨_,_,ns,rfl,rfl,ho,a2A ns _ hall,hlen⟩
theorem ahY (l:OpenLaw) (args:List WData):l.row.toRowW.claim.post args (.bool true) args=true :=
  postW_of (r:=l.row.toRowW) (X:=(true == true))
    (show WShape.has [] (.bool true) .bool=true by first | rfl | decide | simp [WShape.has,WShape.arms,WShape.armsAll])
    (show (WTm.eq .res (.lit (.bool true))).value [] { args:=args,res:=some (.bool true),after:=args }=some (.bool (true == true)) from w_eq_bool (w_res rfl) w_lit) rfl
theorem aaT {q:Program} {loose:List Str} {XP:(Str->Option Value)->Heap->Prop} {YP:World->Heap->Prop} {d:DefRec}
    (hn:l.most=some n) (hdf:d.params.defaults=[])
    (call:∀ (w:World) (s₀ s₁:Shared) (mg mb:Str->Option Value) (fa:Addr) (o:Obj) (pm cd doc:Value) (a:Addr) (vs:List Value) (ns:List Int),
      Ground q loose [] XP w s₀ mg mb s₁.heap->YP w s₁.heap ->
      s₁.heap.get? fa=some o->o.data = .func (docDef d.name d.params d.body d.scope pm cd doc)->s₁.heap.CodeRec cd d.name->mg d.name=some (.ref fa) ->
      s₁.heap.get? a=some { cls := .type "list",data := .seq vs.toArray }->IntsAre vs ns->ns.length<=n->s₁.gens=#[] ->
      codeAny (model l.prog w) callerA (.call (.ref fa) ⟨[.ref a],[]⟩) (fun r s'=>r = .ok (.ret (.bool true))/\OldK s₁.heap s'.heap/\s'.os=s₁.os/\AllBare s'.gens) s₁) :
    WalkO q loose XP YP l.row.toRowW d [] (fun f vs=>PySem.call f vs):=by
  intro w s₀ s₁ mg mb G Y fa o pm cd doc dV kV ho hd hcd hD hmg hg args vals as hpre hlay hrd hwl hlo;obtain rfl:dV = .none:=Dflts.none hD hdf;obtain rfl:kV = .none:=Dflts.noKw hD;obtain ⟨a,vs,ns,rfl,rfl,hobj,hints,hlen⟩:=ahX hn hpre hwl;refine enter_call (codeAny_mono (call w s₀ s₁ mg mb fa o pm cd doc a vs ns G Y ho (fd_plain hd) hcd hmg hobj hints hlen hg) fun r s' hq=>?_);obtain ⟨rfl,h2,h3,h4⟩:=hq;exact ⟨.inl ⟨.bool true,.bool true,[],rfl,fun _=>rfl,.bool true,ahY l _,fun _=>⟨List.Pairwise.nil,fun _ hm=>(nomatch hm)⟩⟩,h2,h3,h4⟩
section
variable {prog:Program} {w:World} {A:Around} {E:Value->Shared->Prop} {s:Shared} {K:Frag}
def ledger (h:Heap) (L d:Addr):List (Addr×Obj):=(gq h.objs.size).filterMap fun a=>if a=L∨a=d then none else (h.get? a).map fun o=>(a,o)
end
end Att
namespace L2
open PySem PySem.Spec PyProof.Rows
variable {P:Program}{mg:Str->Option Value}{a:Addr}{fd:FuncData}{x:Str}{sp:Sp}
section
theorem a74:∀ {vs:List Value} {ns:List Int},IntsAre vs ns->Vals (ns.map V.int) vs
  | _,_,.nil => .nil
  | _,_,.cons n t h => .cons ⟨t,rfl⟩ (a74 h)
def Only (H:Hp):Prop:=∀ b,H b=none∨∃ o xs,H b=some (.lC o (.lst xs))
theorem ak6 {w:World} {K:cu} {mb:Str->Option Value} {CX:CXT} {k:Nat} {fa:Addr} {s₁:Shared} {vs:List Value} {ns:List Int}
    (KX:K.In s₁.heap) (hns:s₁.heap.Ns mainGlobals mg) (hb:s₁.heap.Ns builtinsNs mb) (hbb:∀ x:Str,x ≠ "__name__" -> mb x=bootBuiltins x) (hlim:s₁.heap.NoLimit) (hg:s₁.gens=#[])
    (ha:s₁.heap.get? a=some { cls := .type "list",data := .seq vs.toArray }) (hi:IntsAre vs ns) (hl:ns.length<=sizeLine) (hr:f9 qt k callerA)
    (F:∀ base:Heap,K.In base->base.Ns mainGlobals mg->bW qt P w K mg base CX k fa fd [x] sp) (hbind:∀ (s:Shared) (u:Value),BindsTo s fd ⟨[u],[]⟩ [(x,u)])
    (hsp:∀ H:Hp,Only H->wU K H a (ns.map V.int)->sp [.ref a] H (fun v _=>v = .bl true) fun _ _ _=>False)
    (hCX:∀ H e s',CX [] H s₁ (fun _ _ _=>False) e s'->False) :
    codeAny (model P w) callerA (.call (.ref fa) ⟨[.ref a],[]⟩) (fun r s'=>r = .ok (.ret (.bool true))/\OldK s₁.heap s'.heap/\s'.os=s₁.os/\AllBare s'.gens) s₁:=by
  have rv:=a74 hi;have lenV:=hi.length
  have core:∀ H:Hp,Only H->wU K H a (ns.map V.int)->wY P w H s₁.heap->(∀ b,H b≠none->b=a)->(H a≠none->K.lookup a=none) ->
      codeAny (model P w) callerA (.call (.ref fa) ⟨[.ref a],[]⟩) (fun r s'=>r = .ok (.ret (.bool true))/\OldK s₁.heap s'.heap/\s'.os=s₁.os/\AllBare s'.gens) s₁:=by
    intro H hO hS hok hA hK;have afO:∀ {b:Addr} {o:Obj},s₁.heap.get? b=some o->H b=none->(a82 s₁.heap H).get? b=some o:=fun e n=>ajC e n
    have noA:∀ {b:Addr} {o:Obj} {es:Array DictEntry} {ep:Nat},s₁.heap.get? b=some o->o.data = .dict es ep->H b=none:=fun {b o es ep} e d=>by
      cases q:H b with
      | none=>rfl
      | some u =>
        have e':b=a:=hA b (by rw [q];simp);subst e';rw [ha] at e;cases e;have d':Data.seq vs.toArray _=Data.dict es ep:=d;cases d'
    have nsK:∀ {b:Addr} {m:Str->Option Value},s₁.heap.Ns b m->(a82 s₁.heap H).Ns b m:=fun {b m} ⟨o,es,ep,e,d,r⟩=>⟨o,es,ep,afO e (noA e d),d,r⟩
    have hKb:K.In (a82 s₁.heap H):=fun b o e=>afO (KX b o e) (by
      cases q:H b with
      | none=>rfl
      | some u =>
        have e':b=a:=hA b (by rw [q];simp);subst e';rw [hK (by rw [q];simp)] at e;cases e)
    have hM:Mod K mg (a82 s₁.heap H):=⟨hKb,nsK hns,⟨mb,nsK hb,hbb⟩,let ⟨mc,h1,h2⟩:=hlim;⟨mc,nsK h1,h2⟩⟩;have e0:a66 P w K mg (a82 s₁.heap H) callerA [] s₁ H:=⟨rfl,hM,fun b o e=>anW e,vm (ahL _ _),trivial,fun b hb=>absurd (show b∈([]:List Addr) from hb) (by simp),hok,.of_eq hg,.inl rfl⟩;refine codeAny_mono ((F _ hKb (nsK hns)).run callerA [] s₁ H ⟨[.ref a],[]⟩ [.ref a] [.ref a] _ _ hr e0 (hbind s₁ (.ref a)) (.cons rfl .nil) (hsp H hO hS)) fun r s' h=>?_;cases r with
    | error e=>exact (hCX H e s' h).elim
    | ok fl =>
      cases fl with
      | next=>exact False.elim h
      | brk=>exact False.elim h
      | cont=>exact False.elim h
      | ret u =>
        obtain ⟨v,H',os,bare,un,hok',r',q⟩:=h;have q':v = .bl true:=q;subst q';obtain rfl:u=Value.bool true:=r';refine ⟨rfl,OldK.of_keep fun b o e=>?_,os,bare⟩;cases q:H b with
        | none=>exact un.keep b o e q (by intro z;exact absurd (show b∈([]:List Addr) from z) (by simp)) (by simp)
        | some u =>
          rcases hO b with z | ⟨ob,xs,z⟩
          . rw [q] at z;cases z
          . have z2:=un.j4 b ob _ z;obtain ⟨e1,_⟩:=hok b _ z;obtain ⟨e2,_⟩:=hok' b _ z2;rw [e] at e1;cases e1;exact e2
  cases hk:K.lookup a with
  | some o =>
    have e:=KX a o hk;rw [ha] at e;cases e;refine core (fun _=>none) (fun _ => .inl rfl) (.inr ⟨_,vs.toArray,_,hk,rfl,rfl,rfl,by rw [bw,lenV];exact hl,by simpa using rv⟩) (fun b u z=>by have z':(none:Option HO)=some u:=z;cases z') (fun b z=>absurd rfl z) fun z=>absurd rfl z
  | none =>
    refine core (fun b=>if b=a then some (.lC { cls := .type "list",data := .seq vs.toArray } (.lst (ns.map V.int))) else none) (fun b=>?_) (.inl (.inr ⟨{ cls := .type "list",data := .seq vs.toArray },if_pos rfl⟩)) (fun b u z=>?_) (fun b z=>?_) fun _=>hk
    . by_cases hb:b=a
      . exact .inr ⟨_,_,if_pos hb⟩
      . exact .inl (if_neg hb)
    . by_cases hb:b=a
      . have z':=(if_pos hb).symm.trans z;cases z';subst hb;exact ⟨ha,by rw [dg];exact hl,vs,_,rv,ha⟩
      . have z':=(if_neg hb).symm.trans z;cases z'
    . by_cases hb:b=a
      . exact hb
      . exact absurd (if_neg hb) z
end
variable {n:Nat}
section
theorem aoV {l:PySem.W.OpenLaw} {k:Nat} {q:Program} {loose:List Str} {XP:(Str->Option Value)->Heap->Prop} {YP:World->Heap->Prop} {d:DefRec} {K:Params->cu} {CX:World->CXT} {sp:World->Sp}
    (hn:l.most=some n) (hn2:n<=sizeLine) (hdf:d.params.defaults=[]) (hr:f9 qt k callerA)
    (hY:∀ (w:World) (h:Heap),YP w h->(K w.params).In h)
    (F:∀ (w:World) (mg:Str->Option Value) (fa:Addr) (h:Heap),(K w.params).In h->h.Ns mainGlobals mg->mg d.name=some (.ref fa) ->
      ∃ fd:FuncData,(∀ (s:Shared) (u:Value),BindsTo s fd ⟨[u],[]⟩ [(x,u)]) /\
        ∀ base:Heap,(K w.params).In base->base.Ns mainGlobals mg->bW qt l.prog w (K w.params) mg base (CX w) k fa fd [x] (sp w))
    (hsp:∀ (w:World) (H:Hp) (a:Addr) (ns:List Int),ns.length<=n->Only H->wU (K w.params) H a (ns.map V.int)->sp w [.ref a] H (fun v _=>v = .bl true) fun _ _ _=>False)
    (hCX:∀ (w:World) (H:Hp) (s:Shared) (e:Value) (s':Shared),CX w [] H s (fun _ _ _=>False) e s'->False) :
    PySem.W.WalkO q loose XP YP l.row.toRowW d [] (fun f vs=>PySem.call f vs):=by
  refine Att.aaT hn hdf fun w s₀ s₁ mg mb fa o pm cd doc a vs ns G Y ho hd hcd hmg hobj hints hlen hg=>?_;have KX:=hY w _ Y;obtain ⟨fd,hb,hF⟩:=F w mg fa _ KX G.T.g hmg;exact ak6 KX G.T.g G.T.b G.T.builtins G.T.nolimit hg hobj hints (nj hlen hn2) hr hF hb (fun H hO hS=>hsp w H a ns hlen hO hS) fun H e s'=>hCX w H s₁ e s'
end
variable {qual:Str}{st:Stmt}{pos:Pos}{H H':Hp}{xs:List V}
section
def oA (s:Stmt):Arguments:=match s with
  | .FunctionDef _ a _ _ _ _ _ _ _ _=>a
  | _=>{ posonlyargs:=[],args:=[],vararg:=none,kwonlyargs:=[],kw_defaults:=[],kwarg:=none,defaults:=[] }
def dI (s:Stmt):List Stmt:=match s with
  | .FunctionDef _ _ b _ _ _ _ _ _ _=>b
  | _=>[]
def bK (s:Stmt):Scope:=match s with
  | .FunctionDef _ _ _ _ _ _ sc _ _ _=>sc
  | _=>{ kind := .function,names:=[],isGenerator:=false,isCoroutine:=false }
abbrev CX0:CXT:=fun _ _ _ _ _ _=>False
structure u6 (K:cu) (x qual:Str) (st:Stmt) (f:Addr) (fd:FuncData):Prop where
  ex:∃ (oc:Value) (od:Option Addr) (dV kV doc pm:Value) (an:Option Addr) (cdv ct:Value) (osl:Array (Option Value)),
    fd=qe x qual (oA st) (dI st) (bK st) dV kV doc pm an cdv ct/\K.lookup f=some ⟨oc,od,.func fd,osl⟩/\vp K cdv qual=true
  kp:jy K (.ref f)=true
variable {f:Addr}
section
variable {P:Program} {w:World} {K:cu} {mg:Str->Option Value} {base:Heap}
theorem u6.ok {N ps:List Str} {k:Nat} (F:u6 K x qual st f fd) (S:bC N ps (bK st)) (len:∀ vs H Q E,sp vs H Q E->vs.length=ps.length)
    (hbody:∀ (cdv:Value) (A:Around) (outer:List Env) (s:Shared) (H:Hp) (vs:List V) (Q:VK) (E:XK),f9 qt k (A.deeper (envOfC qual (bK st) s.heap.objs.size f cdv))->sp vs H Q E ->
      ∃ t,PSs (nU qt CX0 P w K mg base N qual (bK st) f cdv A outer s H E).nox (dI st) t/\t { nx:=fun _ H'=>Q .non H',rt:=Q } (start N vs) H):bW qt P w K mg base CX0 (k+1) f fd ps sp:=by
  obtain ⟨oc,od,dV,kV,doc,pm,an,cdv,ct,osl,rfl,lk,hcd⟩:=F.ex;refine asH lk hcd S len fun A outer s H vs Q E hr hsp=>?_;obtain ⟨t,h,q⟩:=hbody cdv A outer s H vs Q E hr hsp;exact ⟨t,h.nox,q⟩
theorem ak7 {oc:Value} {od an:Option Addr} {osl:Array (Option Value)} {dV kV doc pm cdv ct:Value} (l:K.lookup f=some ⟨oc,od,.func (qe x qual (oA st) (dI st) (bK st) dV kV doc pm an cdv ct),osl⟩)
    (c:vp K cdv qual=true) (k:jy K (.ref f)=true):u6 K x qual st f (qe x qual (oA st) (dI st) (bK st) dV kV doc pm an cdv ct):=⟨⟨oc,od,dV,kV,doc,pm,an,cdv,ct,osl,rfl,l,c⟩,k⟩
end
section
variable {X:Cx}
theorem pv (i:Nat) (hN:X.N[i]?=some x:=by rfl) (hv:Vis X.env.scope x:=by first | exact Or.inl rfl | exact Or.inr (Or.inl rfl) | exact Or.inr (Or.inr rfl)) (hd:(x == ("__debug__" : Str))=false:=by decide)
    (hcd:(x == ("__classdict__" : Str))=false:=by decide):PE X (.Name x pos) (auE i):=ajF hN hv hd hcd
end
theorem ahZ {c A B:Prop} [Decidable c] (h1:c->A) (h2:¬ c->B):if c then A else B:=by
  by_cases h:c
  . rw [if_pos h];exact h1 h
  . rw [if_neg h];exact h2 h
def Same (H H':Hp):Prop:=∀ b o,H b=some o->H' b=some o
theorem Same.refl (H:Hp):Same H H:=fun _ _ h=>h
theorem Same.trans {H1 H2:Hp} (a:Same H H1) (b:Same H1 H2):Same H H2:=fun c o h=>b c o (a c o h)
theorem Same.free (e:Same H H') {l:Addr} (h:H' l=um):H l=um:=by
  cases q:H l with
  | none=>rfl
  | some o =>
    rw [e l o q] at h;cases h
theorem Same.seq {K:cu} (e:Same H H') (h:wU K H a xs):wU K H' a xs:=by
  rcases h with (h | ⟨o,h⟩) | h
  . exact .inl (.inl (e _ _ h))
  . exact .inl (.inr ⟨o,e _ _ h⟩)
  . exact .inr h
section
variable {X:Cx}
end
section
variable {κ:Type} [DecidableEq κ]
end
end
variable {vs:List V}{c e:Expr}{p b:Addr}{o:HO}{u:Value}{pins:List (Addr×Obj)}{s:Shared}{i:Nat}{Q:VK}{v:V}{r:R2}{op op':CmpOp}
section
inductive D where
  | non | bl (b:Bool) | int (i:Int) | str (x:Str) | tup (xs:List D) | ref (a:Addr) | ty (n:String)
abbrev Fg:=cu
abbrev aaU (H:Hp) (a:Addr) (xs:List V):Prop:=True
theorem ak8 (h:H a=some (.tup xs)):aaU H a xs:=trivial
mutual
inductive RD (K:Fg) (H:Hp):D->V->Prop where
  | non:RD K H .non .non
  | bl (b:Bool):RD K H (.bl b) (.bl b)
  | int (i:Int):RD K H (.int i) (.int i)
  | str (x:Str):RD K H (.str x) (.str x)
  | ty (n:String):RD K H (.ty n) (.ty n)
  | ref (a:Addr):RD K H (.ref a) (.ref a)
  | tup {a:Addr} {xs:List V} {ds:List D}:rB K H a xs->bV K H ds xs->aaU H a xs->RD K H (.tup ds) (.ref a)
inductive bV (K:Fg) (H:Hp):List D->List V->Prop where
  | nil:bV K H [] []
  | cons {d:D} {v:V} {ds:List D} {vs:List V}:RD K H d v->bV K H ds vs->bV K H (d :: ds) (v :: vs)
end
structure Ts (H H':Hp):Prop where
  tups:∀ a xs,H a=some (.tup xs)->H' a=some (.tup xs)
  j4:∀ a o u,H a=some (.lC o u)->H' a=some (.lC o u)
theorem Ts.refl (H:Hp):Ts H H:=⟨fun _ _ h=>h,fun _ _ _ h=>h⟩
theorem Ts.trans {H1 H2:Hp} (a:Ts H H1) (b:Ts H1 H2):Ts H H2:=⟨fun c xs h=>b.tups c xs (a.tups c xs h),fun c o u h=>b.j4 c o u (a.j4 c o u h)⟩
theorem Ts.same (s:Same H H'):Ts H H':=⟨fun a _ h=>s a _ h,fun a _ _ h=>s a _ h⟩
theorem Ts.rd (t:Ts H H') (h:Rd H a (.tup xs)):Rd H' a (.tup xs):=by
  rcases h with h | ⟨o,h⟩
  . exact .inl (t.tups _ _ h)
  . exact .inr ⟨o,t.j4 _ _ _ h⟩
theorem Ts.sqT {K:Fg} (t:Ts H H') (h:rB K H a xs):rB K H' a xs:=h.elim (fun q => .inl (t.rd q)) .inr
theorem aaU.mono (t:Ts H H') (h:aaU H a xs):aaU H' a xs:=trivial
theorem bJ (h:H p=none):Same H (upd H p o):=fun b u e=>by
  rw [aW (iZ e h)];exact e
mutual
theorem RD.mono {K:Fg} {H H':Hp} (t:Ts H H'):∀ {d:D} {v:V},RD K H d v->RD K H' d v
  | _,_,.non => .non
  | _,_,.bl b => .bl b
  | _,_,.int i => .int i
  | _,_,.str x => .str x
  | _,_,.ty n => .ty n
  | _,_,.ref a => .ref a
  | _,_,.tup h r e => .tup (t.sqT h) (bV.mono t r) (e.mono t)
theorem bV.mono {K:Fg} {H H':Hp} (t:Ts H H'):∀ {ds:List D} {vs:List V},bV K H ds vs->bV K H' ds vs
  | _,_,.nil => .nil
  | _,_,.cons h r => .cons (RD.mono t h) (bV.mono t r)
end
section
variable {K:Fg} {H:Hp}
theorem bV.length:∀ {ds:List D} {vs:List V},bV K H ds vs->ds.length=vs.length
  | _,_,.nil=>rfl
  | _,_,.cons _ r=>congrArg (·+1) (bV.length r)
theorem bV.append:∀ {ds:List D} {vs:List V} {es:List D} {ws:List V},bV K H ds vs->bV K H es ws->bV K H (ds++es) (vs++ws)
  | _,_,_,_,.nil,s=>s
  | _,_,_,_,.cons h r,s => .cons h (bV.append r s)
theorem bV.get:∀ {ds:List D} {vs:List V} {i:Nat} {d:D},bV K H ds vs->ds[i]?=some d->∃ v,vs[i]?=some v/\RD K H d v
  | _,_,_,_,.nil,e=>by simp at e
  | _,_,0,_,.cons r _,e=>by simp at e;subst e;exact ⟨_,rfl,r⟩
  | _,_,i+1,d,.cons _ t,e=>by
    obtain ⟨u,h1,h2⟩:=bV.get (i:=i) (d:=d) t (by simpa using e);exact ⟨u,by simpa using h1,h2⟩
theorem bV.ak9:∀ {ds:List D} {vs:List V} {i:Nat} {v:V},bV K H ds vs->vs[i]?=some v->∃ d,ds[i]?=some d/\RD K H d v
  | _,_,_,_,.nil,e=>by simp at e
  | _,_,0,_,.cons r _,e=>by simp at e;subst e;exact ⟨_,rfl,r⟩
  | _,_,i+1,d,.cons _ t,e=>by
    obtain ⟨u,h1,h2⟩:=bV.ak9 (i:=i) (v:=d) t (by simpa using e);exact ⟨u,by simpa using h1,h2⟩
theorem bV.set {d:D} {v:V} (r:RD K H d v):∀ {ds:List D} {vs:List V} (i:Nat),bV K H ds vs->bV K H (ds.set i d) (vs.set i v)
  | _,_,_,.nil => .nil
  | _,_,0,.cons _ t => .cons r t
  | _,_,i+1,.cons q t => .cons q (bV.set r i t)
theorem bV.drop:∀ {ds:List D} {vs:List V} (n:Nat),bV K H ds vs->bV K H (ds.drop n) (vs.drop n)
  | _,_,0,r=>r
  | _,_,_+1,.nil => .nil
  | _,_,n+1,.cons _ t=>bV.drop n t
theorem bV.take:∀ {ds:List D} {vs:List V} (n:Nat),bV K H ds vs->bV K H (ds.take n) (vs.take n)
  | _,_,0,_ => .nil
  | _,_,_+1,.nil => .nil
  | _,_,n+1,.cons r t => .cons r (bV.take n t)
theorem bV.ints (ns:List Int):bV K H (ns.map D.int) (ns.map V.int):=by
  induction ns with
  | nil=>exact .nil
  | cons n r ih=>exact .cons (.int n) ih
theorem bV.zB {ds:List D} (r:bV K H ds vs):vs=[]↔ds=[]:=by
  cases r <;> simp
end
abbrev DK:=Key ⊕ List Key
inductive GO where
  | lst (ds:List D) | rol (ds:List D) | jF (t:Bool) (kvs:List (DK×D)) | ins (C:Addr) (fs:List (Str×D)) | exn (C:Addr) | rdc (o:Obj) (t:Bool) (kvs:List (DK×D)) | tpl (ds:List D) | kst (ks:List (List Int))
abbrev Gp:=Addr->Option GO
def aM (G:Gp) (a:Addr) (o:GO):Gp:=fun b=>if b=a then some o else G b
variable {G:Gp}
theorem aG {o:GO}:aM G a o a=some o:=by unfold aM;rw [if_pos rfl]
theorem bB {o:GO} (h:b≠a):aM G a o b=G b:=by unfold aM;rw [if_neg h]
theorem bR {o u:GO} (h:G b=some u) (n:G a=none):aM G a o b=some u:=by
  rw [bB];exact h;intro e;subst e;rw [h] at n;cases n
def Le (G G':Gp):Prop:=∀ a o,G a=some o->G' a=some o
theorem Le.refl (G:Gp):Le G G:=fun _ _ h=>h
theorem Le.trans {G1 G2:Gp} (a:Le G G1) (b:Le G1 G2):Le G G2:=fun c o h=>b c o (a c o h)
theorem Le.new {o:GO} (n:G a=none):Le G (aM G a o):=fun _ _ h=>bR h n
variable {G':Gp}
theorem Le.free (l:Le G G') (h:G' a=none):G a=none:=by
  cases q:G a with
  | none=>rfl
  | some o=>have:=l a o q;rw [h] at this;cases this
def kD:Key->D
  | .inl i => .int i
  | .inr x => .str x
def dkD:DK->D
  | .inl k=>kD k
  | .inr ks => .tup (ks.map kD)
inductive Two {α β:Type} (P:α->β->Prop):List α->List β->Prop where
  | nil:Two P [] []
  | cons {a:α} {b:β} {as:List α} {bs:List β}:P a b->Two P as bs->Two P (a :: as) (b :: bs)
theorem Two.imp {α β:Type} {P Q:α->β->Prop} (f:∀ a b,P a b->Q a b):∀ {as:List α} {bs:List β},Two P as bs->Two Q as bs
  | _,_,.nil => .nil
  | _,_,.cons h r => .cons (f _ _ h) (Two.imp f r)
theorem Two.length {α β:Type} {P:α->β->Prop}:∀ {as:List α} {bs:List β},Two P as bs->as.length=bs.length
  | _,_,.nil=>rfl
  | _,_,.cons _ r=>congrArg (·+1) (Two.length r)
def aaV (C a:Addr) (h:Heap):Prop:=∃ o vs,h.get? a=some o/\o.cls = .ref C/\o.data = .fields vs
def toI (ks:List Key):List Int:=ks.map fun k=>match k with
  | .inl i=>i
  | .inr _=>0
theorem zF (ns:List Int):toI (ns.map Sum.inl)=ns:=by
  unfold toI;rw [lg];exact List.map_id _
def ai0 (P:Program) (w:World) (a:Addr) (xs:List (List Key×Addr×Value)) (h:Heap):Prop:=(a == sysModules)=false/\∃ o es ep,h.get? a=some o/\o.ExactDict/\o.data = .dict es ep/\es.toList=xs.map (entryOfKey (tupleKind (bA P w)))/\(xs.map (·.1)).Nodup
def OR (K:Fg) (H:Hp) (a:Addr):GO->Prop
  | .lst ds=>∃ xs,H a=some (.lst xs)/\bV K H ds xs
  | .rol ds=>∃ xs,wU K H a xs/\bV K H ds xs
  | .jF t kvs=>(t=false/\∃ xs:List (Key×V),H a=some (.dK xs)/\Two (fun p q=>p.1 = .inl q.1/\RD K H p.2 q.2) kvs xs) ∨
      (t=true/\∃ xs:List (List Key×V),H a=some (.dT xs)/\Two (fun p q=>p.1 = .inr q.1/\RD K H p.2 q.2) kvs xs)
  | .ins C fs=>∃ (dx:Addr) (vs:List (Str×V)),H a=some (.ins C dx vs)/\Two (fun p q=>p.1=q.1/\RD K H p.2 q.2) fs vs
  | .rdc o t kvs=>(t=false/\∃ xs:List (Key×V),H a=some (.lC o (.dK xs))/\Two (fun p q=>p.1 = .inl q.1/\RD K H p.2 q.2) kvs xs) ∨
      (t=true/\∃ xs:List (List Key×V),H a=some (.lC o (.dT xs))/\Two (fun p q=>p.1 = .inr q.1/\RD K H p.2 q.2) kvs xs)
  | .tpl ds=>∃ xs,rB K H a xs/\bV K H ds xs
  | .kst ks=>∃ (P:Program) (w:World) (xs:List (List Key×Addr×Value)),H a=some (.ext (ai0 P w a xs))/\(xs.map fun x=>toI x.1)=ks/\∀ x∈xs,x.1=(toI x.1).map Sum.inl/\rB K H x.2.1 (x.1.map kV)
  | .exn C=>∃ o vs,H a=some (.lC o (.ext (aaV C a)))/\o.data = .fields vs/\vs[2]?=some .none
def HR (K:Fg) (H:Hp) (G:Gp):Prop:=∀ a o,G a=some o->OR K H a o
theorem OR.keep {K:Fg} {o:GO} (t:Ts H H') (h:OR K H a o) (k:∀ u,H a=some u->H' a=some u):OR K H' a o:=by
  cases o with
  | lst ds=>obtain ⟨xs,e,r⟩:=h;exact ⟨xs,k _ e,r.mono t⟩
  | rol ds =>
    obtain ⟨xs,e,r⟩:=h;refine ⟨xs,?_,r.mono t⟩;rcases e with (e | ⟨o,e⟩) | e
    . exact .inl (.inl (k _ e))
    . exact .inl (.inr ⟨o,k _ e⟩)
    . exact .inr e
  | jF b kvs =>
    rcases h with ⟨z,xs,e,r⟩ | ⟨z,xs,e,r⟩
    . exact .inl ⟨z,xs,k _ e,r.imp fun _ _ q=>⟨q.1,q.2.mono t⟩⟩
    . exact .inr ⟨z,xs,k _ e,r.imp fun _ _ q=>⟨q.1,q.2.mono t⟩⟩
  | ins C fs=>obtain ⟨dx,vs,e,r⟩:=h;exact ⟨dx,vs,k _ e,r.imp fun _ _ q=>⟨q.1,q.2.mono t⟩⟩
  | rdc ob b kvs =>
    rcases h with ⟨z,xs,e,r⟩ | ⟨z,xs,e,r⟩
    . exact .inl ⟨z,xs,k _ e,r.imp fun _ _ q=>⟨q.1,q.2.mono t⟩⟩
    . exact .inr ⟨z,xs,k _ e,r.imp fun _ _ q=>⟨q.1,q.2.mono t⟩⟩
  | exn C=>obtain ⟨o,vs,e,r⟩:=h;exact ⟨o,vs,k _ e,r⟩
  | tpl ds=>obtain ⟨xs,e,r⟩:=h;exact ⟨xs,t.sqT e,r.mono t⟩
  | kst ks=>obtain ⟨P,w,xs,e,r,q⟩:=h;exact ⟨P,w,xs,k _ e,r,fun x hx=>⟨(q x hx).1,t.sqT (q x hx).2⟩⟩
theorem HR.same {K:Fg} {H H':Hp} {G:Gp} (h:HR K H G) (s:Same H H'):HR K H' G:=fun a o e=>(h a o e).keep (.same s) fun u q=>s a u q
theorem HR.le {K:Fg} (h:HR K H G') (l:Le G G'):HR K H G:=fun a o e=>h a o (l a o e)
theorem HR.put {K:Fg} {u:GO} (h:HR K H G) (n:H p=none) (new:OR K (upd H p o) p u):HR K (upd H p o) (aM G p u):=fun a v e=>by
  by_cases q:a=p
  . subst q;rw [aG] at e;cases e;exact new
  . rw [bB q] at e;exact (h a v e).keep (.same (bJ n)) fun w z=>bJ n a w z
theorem HR.turn {K:Fg} {u:GO} (h:HR K H G) (t:Ts H (upd H p o)) (new:OR K (upd H p o) p u):HR K (upd H p o) (aM G p u):=fun a v e=>by
  by_cases q:a=p
  . subst q;rw [aG] at e;cases e;exact new
  . rw [bB q] at e;exact (h a v e).keep t fun w z=>by rw [aW q];exact z
theorem Ts.turn {u:HO} (e:H p=some u) (h1:∀ xs,u ≠ .tup xs) (h2:∀ ob w,u ≠ .lC ob w):Ts H (upd H p o):=by
  refine ⟨fun a xs q=>?_,fun a ob w q=>?_⟩
  . rw [aW];exact q;intro z;subst z;rw [e] at q;exact h1 xs (dj.inj q)
  . rw [aW];exact q;intro z;subst z;rw [e] at q;exact h2 ob w (dj.inj q)
abbrev aK:=List (Option D)
abbrev fY:=D->Gp->Prop
abbrev cB:=aK->Gp->fY->Prop
abbrev u9:=aK->Gp->(Bool->Gp->Prop)->Prop
abbrev tZ:=aK->Gp->(List D->Gp->Prop)->Prop
def at3:aK->Nat->Option D
  | [],_=>none
  | x :: _,0=>x
  | _ :: r,n+1=>at3 r n
def a0K:aK->Nat->D->aK
  | [],_,_=>[]
  | _ :: r,0,d=>some d :: r
  | x :: r,n+1,d=>x :: a0K r n d
inductive SR (K:Fg) (H:Hp):aK->St->Prop where
  | nil:SR K H [] []
  | none {ρ:aK} {σ:St} {v:Option V}:SR K H ρ σ->SR K H (um :: ρ) (v :: σ)
  | some {ρ:aK} {σ:St} {d:D} {v:V}:RD K H d v->SR K H ρ σ->SR K H (dj d :: ρ) (dj v :: σ)
theorem SR.mono {K:Fg} {H H':Hp} (t:Ts H H'):∀ {ρ:aK} {σ:St},SR K H ρ σ->SR K H' ρ σ
  | _,_,.nil => .nil
  | _,_,.none r => .none (SR.mono t r)
  | _,_,.some h r => .some (h.mono t) (SR.mono t r)
theorem SR.get {K:Fg} {H:Hp}:∀ {ρ:aK} {σ:St} {i:Nat} {d:D},SR K H ρ σ->at3 ρ i=dj d->∃ v,σ[i]?=dj (dj v)/\RD K H d v
  | _,_,_,_,.nil,e=>by simp [at3] at e
  | _,_,0,_,.none _,e=>by simp [at3] at e
  | _,_,0,_,.some h _,e=>by simp [at3] at e;subst e;exact ⟨_,rfl,h⟩
  | _,_,i+1,_,.none r,e=>by
    obtain ⟨v,h1,h2⟩:=SR.get (i:=i) r (by simpa [at3] using e);exact ⟨v,by simpa using h1,h2⟩
  | _,_,i+1,_,.some _ r,e=>by
    obtain ⟨v,h1,h2⟩:=SR.get (i:=i) r (by simpa [at3] using e);exact ⟨v,by simpa using h1,h2⟩
theorem SR.set {K:Fg} {H:Hp} {d:D} {v:V} (q:RD K H d v):∀ {ρ:aK} {σ:St} (i:Nat),SR K H ρ σ->SR K H (a0K ρ i d) (σ.set i (dj v))
  | _,_,_,.nil => .nil
  | _,_,0,.none r => .some q r
  | _,_,0,.some _ r => .some q r
  | _,_,i+1,.none r => .none (SR.set q i r)
  | _,_,i+1,.some h r => .some h (SR.set q i r)
theorem SR.len {K:Fg} {H:Hp}:∀ {ρ:aK} {σ:St},SR K H ρ σ->ρ.length=σ.length
  | _,_,.nil=>rfl
  | _,_,.none r=>congrArg (·+1) (SR.len r)
  | _,_,.some _ r=>congrArg (·+1) (SR.len r)
def a8F (n:Nat) (ds:List D):aK:=ds.map dj++oh (n - ds.length) um
theorem SR.nones {K:Fg} {H:Hp}:∀ n:Nat,SR K H (oh n um) (oh n um)
  | 0 => .nil
  | n+1 => .none (SR.nones n)
theorem SR.entry {K:Fg} {H:Hp} {k:Nat}:∀ {ds:List D} {vs:List V},bV K H ds vs->SR K H (ds.map dj++oh k um) (vs.map dj++oh k um)
  | _,_,.nil=>SR.nones k
  | _,_,.cons h r => .some h (SR.entry r)
def upE (K:Fg) (t:cB):TE:=fun σ H Q=>∃ ρ G R,SR K H ρ σ/\HR K H G/\t ρ G R/\∀ v H' d G',Ts H H'->RD K H' d v->HR K H' G'->R d G'->Q v H'
def upT (K:Fg) (t:u9):TT:=fun σ H Q=>∃ ρ G R,SR K H ρ σ/\HR K H G/\t ρ G R/\∀ b H' G',Ts H H'->HR K H' G'->R b G'->Q b H'
def upA (K:Fg) (t:tZ):TA:=fun σ H Q=>∃ ρ G R,SR K H ρ σ/\HR K H G/\t ρ G R/\∀ vs H' ds G',Ts H H'->bV K H' ds vs->HR K H' G'->R ds G'->Q vs H'
abbrev cC (X:Cx) (e:Expr) (t:cB):Prop:=PE X e (upE X.K t)
abbrev PT3 (X:Cx) (e:Expr) (t:u9):Prop:=PT X e (upT X.K t)
abbrev PW3 (X:Cx) (e:Expr) (t:u9):Prop:=PW X e (upT X.K t)
abbrev PA3 (X:Cx) (es:List Expr) (t:tZ):Prop:=PA X es (upA X.K t)
structure cO where
  nx:aK->Gp->Prop
  rt:fY
  bk:aK->Gp->Prop:=fun _ _=>False
  ct:aK->Gp->Prop:=fun _ _=>False
abbrev bD:=cO->aK->Gp->Prop
structure UpD (K:Fg) (E:cO) (F:Ends):Prop where
  nx:∀ ρ G σ H',SR K H' ρ σ->HR K H' G->E.nx ρ G->F.nx σ H'
  rt:∀ d G v H',RD K H' d v->HR K H' G->E.rt d G->F.rt v H'
  bk:∀ ρ G σ H',SR K H' ρ σ->HR K H' G->E.bk ρ G->F.bk σ H'
  ct:∀ ρ G σ H',SR K H' ρ σ->HR K H' G->E.ct ρ G->F.ct σ H'
def upS (K:Fg) (t:bD):TS:=fun F σ H=>∃ ρ G E,SR K H ρ σ/\HR K H G/\t E ρ G/\UpD K E F
abbrev PS3 (X:Cx) (st:Stmt) (t:bD):Prop:=PS X st (upS X.K t)
abbrev a2B (X:Cx) (st:List Stmt) (t:bD):Prop:=PSs X st (upS X.K t)
section
variable {X:Cx}
theorem PE.imp {t t':TE} (h:PE X e t) (k:∀ σ H Q,t' σ H Q->t σ H Q):PE X e t':=fun pins s σ H Q I q=>h pins s σ H Q I (k _ _ _ q)
theorem PT.imp {t t':TT} (h:PT X e t) (k:∀ σ H Q,t' σ H Q->t σ H Q):PT X e t':=fun pins s σ H Q I q=>h pins s σ H Q I (k _ _ _ q)
theorem PW.imp {t t':TT} (h:PW X e t) (k:∀ σ H Q,t' σ H Q->t σ H Q):PW X e t':=fun wh pins s σ H Q I q=>h wh pins s σ H Q I (k _ _ _ q)
theorem PA.imp {e:List Expr} {t t':TA} (h:PA X e t) (k:∀ σ H Q,t' σ H Q->t σ H Q):PA X e t':=fun p pins s σ H Q I q=>h p pins s σ H Q I (k _ _ _ q)
theorem PS.imp {e:Stmt} {t t':TS} (h:PS X e t) (k:∀ F σ H,t' F σ H->t F σ H):PS X e t':=fun pins s σ H F I q=>h pins s σ H F I (k _ _ _ q)
def KF (K:Fg) (H:Hp):Prop:=∀ b o,K.lookup b=some o->H b=none
theorem tE {σ:St} (I:Inv X pins σ H s):KF X.K H:=fun b o e=>(I.bs b o (I.ok.mod.kin b o e)).2
theorem PE.kf {t:TE} (h:PE X e t):PE X e (fun σ H Q=>t σ H fun v H'=>KF X.K H'->Q v H'):=fun pins s σ H Q I q =>
  cH (h pins s σ H _ I q) fun _ _ ⟨v,H',I',r,q'⟩=>⟨v,H',I',r,q' (tE I')⟩
theorem PSs.imp {e:List Stmt} {t t':TS} (h:PSs X e t) (k:∀ F σ H,t' F σ H->t F σ H):PSs X e t':=fun pins s σ H F I q=>h pins s σ H F I (k _ _ _ q)
end
theorem jX {K:Fg} (g:HR K H G) (n:H p=none) (k:KF K (upd H p o)):G p=none:=by
  have kn:K.lookup p=none:=by
    cases q:K.lookup p with
    | none=>rfl
    | some u=>have:=k p u q;rw [aN] at this;cases this
  cases q:G p with
  | none=>rfl
  | some u =>
    have z:=g p u q;cases u with
    | lst ds=>obtain ⟨xs,e,_⟩:=z;rw [n] at e;cases e
    | rol ds =>
      obtain ⟨xs,e,_⟩:=z;rcases e with (e | ⟨o,e⟩) | ⟨o,_,_,e,_⟩
      . rw [n] at e;cases e
      . rw [n] at e;cases e
      . rw [kn] at e;cases e
    | jF tt kvs =>
      rcases z with ⟨_,xs,e,_⟩ | ⟨_,xs,e,_⟩
      . rw [n] at e;cases e
      . rw [n] at e;cases e
    | rdc ob tt kvs =>
      rcases z with ⟨_,xs,e,_⟩ | ⟨_,xs,e,_⟩
      . rw [n] at e;cases e
      . rw [n] at e;cases e
    | ins C fs=>obtain ⟨dx,vs,e,_⟩:=z;rw [n] at e;cases e
    | exn C=>obtain ⟨o,vs,e,_⟩:=z;rw [n] at e;cases e
    | kst ks=>obtain ⟨_,_,_,e,_⟩:=z;rw [n] at e;cases e
    | tpl ds =>
      obtain ⟨xs,e,_⟩:=z;rcases e with (e | ⟨o,e⟩) | ⟨o,_,_,e,_⟩
      . rw [n] at e;cases e
      . rw [n] at e;cases e
      . rw [kn] at e;cases e
variable {d:D}
section
variable {X:Cx} {a b c:Expr} {ta tb tc:cB} {pos:Pos}
def aB (i:Nat):cB:=fun ρ G R=>match at3 ρ i with
  | some d=>R d G
  | none=>False
def aX (d:D):cB:=fun _ G R=>R d G
theorem avF {K:Fg} {σ:St} (h:upE K (aB i) σ H Q):auE i σ H Q:=by
  obtain ⟨ρ,G,R,s,g,t,k⟩:=h;unfold aB at t;split at t
  . rename_i d e;obtain ⟨v,h1,h2⟩:=s.get e;exact ⟨v,h1,k v H d G (.refl H) h2 g t⟩
  . exact t.elim
theorem ai1 {K:Fg} (r:∀ H,RD K H d v) {σ:St} (h:upE K (aX d) σ H Q):tC v σ H Q:=by
  obtain ⟨ρ,G,R,s,g,t,k⟩:=h;exact k v H d G (.refl H) (r H) g t
theorem aAB (i:Nat) (hN:X.N[i]?=some x:=by rfl) (hv:Vis X.env.scope x:=by first | exact Or.inl rfl | exact Or.inr (Or.inl rfl) | exact Or.inr (Or.inr rfl)) (hd:(x == ("__debug__" : Str))=false:=by decide)
    (hcd:(x == ("__classdict__" : Str))=false:=by decide):cC X (.Name x pos) (aB i):=PE.imp (ajF hN hv hd hcd) fun _ _ _ h=>avF h
theorem aAC {i j pos}:cC X (.Constant (.int i) j pos) (aX (.int i)):=PE.imp auF fun _ _ _ h=>ai1 (fun _ => .int i) h
theorem aEQ {b j pos}:cC X (.Constant (.bool b) j pos) (aX (.bl b)):=PE.imp az9 fun _ _ _ h=>ai1 (fun _ => .bl b) h
theorem aAD {j pos}:cC X (.Constant .none j pos) (aX .non):=PE.imp auG fun _ _ _ h=>ai1 (fun _ => .non) h
theorem aAE {x j pos}:cC X (.Constant (.str x) j pos) (aX (.str x)):=PE.imp auH fun _ _ _ h=>ai1 (fun _ => .str x) h
theorem akC (hg:Gl X x) (hm:X.mg x=some u) (r:RelV v u) (rd:∀ H,RD X.K H d v) (hd:(x == ("__debug__" : Str))=false:=by decide):cC X (.Name x pos) (aX d) :=
  PE.imp (ao0 hg hm r hd) fun _ _ _ h=>ai1 rd h
theorem avG {n:String} (hg:Gl X x) (hm:X.mg x=none) (hv:bootBuiltins x=some (.type n)) (hn:x ≠ "__name__" := by decide) (hd:(x == ("__debug__" : Str))=false:=by decide):cC X (.Name x pos) (aX (.ty n)) :=
  PE.imp (ao1 hg hm hv (v := .ty n) rfl hn hd) fun _ _ _ h=>ai1 (fun _ => .ty n) h
abbrev R3:=D->D->Gp->fY->Prop
def OpI (K:Fg) (r:R2) (r3:R3):Prop:=∀ (H:Hp) (x y:D) (vx vy:V) (G:Gp) (R:fY) (Q:VK),RD K H x vx->RD K H y vy->HR K H G->r3 x y G R->(∀ v H' d G',Ts H H'->RD K H' d v->HR K H' G'->R d G'->Q v H')->r vx vy H fun v H'=>KF K H'->Q v H'
def a3L (X:Cx) (f:Value->Value->Sem Value) (r3:R3):Prop:=∃ r,pO X f r/\OpI X.K r r3
def OpC (K:Fg) (r:R2) (r3:R3):Prop:=∀ (H:Hp) (x y:D) (vx vy:V) (G:Gp) (R:fY) (Q:VK),RD K H x vx->RD K H y vy->HR K H G->r3 x y G R->(∀ v H' d G',Ts H H'->RD K H' d v->HR K H' G'->R d G'->Q v H')->r vx vy H Q
def nW (X:Cx) (f:Value->Value->Sem Value) (r3:R3):Prop:=∃ r,pO X f r/\OpC X.K r r3
def aD (r:R3) (ta tb:cB):cB:=fun ρ G R=>ta ρ G fun x G1=>tb ρ G1 fun y G2=>r x y G2 R
variable {r3:R3}
theorem aAF {K:Fg} (o:OpI K r r3) {σ:St} (h:upE K (aD r3 ta tb) σ H Q):tOp r (upE K ta) (upE K tb) σ H fun v H'=>KF K H'->Q v H':=by
  obtain ⟨ρ,G,R,s,g,t,k⟩:=h;refine ⟨ρ,G,_,s,g,t,fun vx H1 x G1 t1 rx g1 t'=>?_⟩;refine ⟨ρ,G1,_,s.mono t1,g1,t',fun vy H2 y G2 t2 ry g2 t''=>?_⟩;exact o H2 x y vx vy G2 R Q (rx.mono t2) ry g2 t'' fun v H' d G' t3=>k v H' d G' ((t1.trans t2).trans t3)
theorem adU {K:Fg} (o:OpC K r r3) {σ:St} (h:upE K (aD r3 ta tb) σ H Q):tOp r (upE K ta) (upE K tb) σ H Q:=by
  obtain ⟨ρ,G,R,s,g,t,k⟩:=h;refine ⟨ρ,G,_,s,g,t,fun vx H1 x G1 t1 rx g1 t'=>?_⟩;refine ⟨ρ,G1,_,s.mono t1,g1,t',fun vy H2 y G2 t2 ry g2 t''=>?_⟩;exact o H2 x y vx vy G2 R Q (rx.mono t2) ry g2 t'' fun v H' d G' t3=>k v H' d G' ((t1.trans t2).trans t3)
theorem aER {op:Operator} (o:a3L X (binaryOp op) r3) (ha:cC X a ta) (hb:cC X b tb):cC X (.BinOp a op b pos) (aD r3 ta tb):=by
  obtain ⟨r,o1,o2⟩:=o;exact PE.imp (PE.kf (azN o1 ha hb)) fun _ _ _ h=>aAF o2 h
theorem asO (o:nW X (compareOp op) r3) (ha:cC X a ta) (hb:cC X b tb) (hm:behindInMarks op b=false):cC X (.Compare a [op] [b] pos) (aD r3 ta tb):=by
  obtain ⟨r,o1,o2⟩:=o;exact PE.imp (aoB o1 ha hb hm) fun _ _ _ h=>adU o2 h
def aJ (t:cB):u9:=fun ρ G R=>t ρ G fun x G1=>match x with
  | .bl k=>R k G1
  | _=>False
theorem a8H {K:Fg} {t:TE} {t3:cB} (f:∀ σ H Q,upE K t3 σ H Q->t σ H Q) {σ:St} {Q:Bool->Hp->Prop} (h:upT K (aJ t3) σ H Q):ajQ t σ H Q:=by
  obtain ⟨ρ,G,R,s,g,u,k⟩:=h;refine f _ _ _ ⟨ρ,G,_,s,g,u,fun v H' d G' t1 r g1 q=>?_⟩;cases r with
  | bl b=>exact ⟨b,rfl,k b H' G' t1 g1 q⟩
  | _=>exact q.elim
theorem asQ (o:nW X (compareOp op) r3) (ha:cC X a ta) (hb:cC X b tb) (hm:behindInMarks op b=false):PT3 X (.Compare a [op] [b] pos) (aJ (aD r3 ta tb)):=by
  obtain ⟨r,o1,o2⟩:=o;exact PT.imp (aoC o1 ha hb hm) fun _ _ _ h=>a8H (fun _ _ _=>adU o2) h
theorem aAG {t:cB} (h:cC X e t) (he:∀ whole,isTrue e X.env whole=(do let v ← whole;standAt e.pos;holding [v] (truthy v)):=by intro _;rfl):PT3 X e (aJ t) :=
  PT.imp (auI h he) fun _ _ _ h=>a8H (fun _ _ _ q=>q) h
def oE (r r':R3) (ta tb tc:cB):cB:=fun ρ G R=>ta ρ G fun x G1=>tb ρ G1 fun y G2=>r x y G2 fun z G3=>match z with
  | .bl true=>tc ρ G3 fun w G4=>r' y w G4 R
  | .bl false=>R (.bl false) G3
  | _=>False
variable {r3':R3}
theorem aaW {K:Fg} {r':R2} (o:OpC K r r3) (o':OpC K r' r3') {σ:St} (h:upE K (oE r3 r3' ta tb tc) σ H Q):adM r r' (upE K ta) (upE K tb) (upE K tc) σ H Q:=by
  obtain ⟨ρ,G,R,s,g,t,k⟩:=h;refine ⟨ρ,G,_,s,g,t,fun vx H1 x G1 t1 rx g1 t'=>?_⟩;refine ⟨ρ,G1,_,s.mono t1,g1,t',fun vy H2 y G2 t2 ry g2 t''=>?_⟩;refine o H2 x y vx vy G2 _ _ (rx.mono t2) ry g2 t'' fun v H3 d G3 t3 rd g3 q=>?_;cases rd with
  | bl b =>
    refine ⟨b,rfl,?_⟩;cases b with
    | true =>
      rw [if_pos rfl];refine ⟨ρ,G3,_,s.mono ((t1.trans t2).trans t3),g3,q,fun vw H4 w G4 t4 rw' g4 q'=>?_⟩;exact o' H4 y w vy vw G4 R Q (ry.mono (t3.trans t4)) rw' g4 q' fun v H' d G' t5=>k v H' d G' (((t1.trans t2).trans t3).trans (t4.trans t5))
    | false =>
      rw [if_neg jg];exact k _ H3 _ G3 ((t1.trans t2).trans t3) (.bl false) g3 q
  | _=>exact q.elim
theorem aoX (o:nW X (compareOp op) r3) (o':nW X (compareOp op') r3') (ha:cC X a ta) (hb:cC X b tb) (hc:cC X c tc)
    (hm:lastMarks [op,op'] [b,c]=false:=by with_unfolding_all rfl):cC X (.Compare a [op,op'] [b,c] pos) (oE r3 r3' ta tb tc):=by
  obtain ⟨r,o1,o2⟩:=o;obtain ⟨r',o1',o2'⟩:=o';exact PE.imp (ajR o1 o1' ha hb hc hm) fun _ _ _ h=>aaW o2 o2' h
theorem aoY (o:nW X (compareOp op) r3) (o':nW X (compareOp op') r3') (ha:cC X a ta) (hb:cC X b tb) (hc:cC X c tc)
    (hm:lastMarks [op,op'] [b,c]=false:=by with_unfolding_all rfl):PT3 X (.Compare a [op,op'] [b,c] pos) (aJ (oE r3 r3' ta tb tc)):=by
  obtain ⟨r,o1,o2⟩:=o;obtain ⟨r',o1',o2'⟩:=o';exact PT.imp (ajS o1 o1' ha hb hc hm) fun _ _ _ h=>a8H (fun _ _ _=>aaW o2 o2') h
variable {sa sb:u9} {rest:List Expr}
def xA (t u:u9):u9:=fun ρ G R=>t ρ G fun c G1=>if c=true then u ρ G1 R else R false G1
def tY (t u:u9):u9:=fun ρ G R=>t ρ G fun c G1=>if c=true then R true G1 else u ρ G1 R
def oF (t:u9):u9:=fun ρ G R=>t ρ G fun c G1=>R (!c) G1
theorem avH {K:Fg} {σ:St} {Q:Bool->Hp->Prop} (h:upT K (xA sa sb) σ H Q):azA (upT K sa) (upT K sb) σ H Q:=by
  obtain ⟨ρ,G,R,s,g,t,k⟩:=h;refine ⟨ρ,G,_,s,g,t,fun c H1 G1 t1 g1 q=>?_⟩;cases c with
  | true=>exact ⟨ρ,G1,R,s.mono t1,g1,q,fun b H' G' t2=>k b H' G' (t1.trans t2)⟩
  | false=>exact k false H1 G1 t1 g1 q
theorem aAH {K:Fg} {σ:St} {Q:Bool->Hp->Prop} (h:upT K (tY sa sb) σ H Q):tOr (upT K sa) (upT K sb) σ H Q:=by
  obtain ⟨ρ,G,R,s,g,t,k⟩:=h;refine ⟨ρ,G,_,s,g,t,fun c H1 G1 t1 g1 q=>?_⟩;cases c with
  | false=>exact ⟨ρ,G1,R,s.mono t1,g1,q,fun b H' G' t2=>k b H' G' (t1.trans t2)⟩
  | true=>exact k true H1 G1 t1 g1 q
theorem avI (ha:PT3 X a sa):PW3 X (.BoolOp .And [a] pos) sa:=ao2 ha
theorem aAI (ha:PT3 X a sa):PW3 X (.BoolOp .Or [a] pos) sa:=auJ ha
theorem aAJ (ha:PT3 X a sa) (hb:PW3 X (.BoolOp .And (b :: rest) pos) sb):PW3 X (.BoolOp .And (a :: b :: rest) pos) (xA sa sb):=PW.imp (auK ha hb) fun _ _ _ h=>avH h
theorem aES (ha:PT3 X a sa) (hb:PW3 X (.BoolOp .Or (b :: rest) pos) sb):PW3 X (.BoolOp .Or (a :: b :: rest) pos) (tY sa sb):=PW.imp (azB ha hb) fun _ _ _ h=>aAH h
theorem aAK (ha:PT3 X a sa):PT3 X (.UnaryOp .Not a pos) (oF sa):=PT.imp (auL ha) fun σ H Q h=>by
  obtain ⟨ρ,G,R,s,g,t,k⟩:=h;exact ⟨ρ,G,_,s,g,t,fun c H1 G1 t1 g1 q=>k (!c) H1 G1 t1 g1 q⟩
def m7 (ta tb:cB):cB:=fun ρ G R=>ta ρ G fun x G1=>match x with
  | .bl true=>tb ρ G1 R
  | .bl false=>R (.bl false) G1
  | _=>False
def asR (ta tb:cB):cB:=fun ρ G R=>ta ρ G fun x G1=>match x with
  | .bl true=>R (.bl true) G1
  | .bl false=>tb ρ G1 R
  | _=>False
def a3M (ta:cB):cB:=fun ρ G R=>ta ρ G fun x G1=>match x with
  | .bl c=>R (.bl (!c)) G1
  | _=>False
theorem asS {op} (h:cC X a ta):cC X (.BoolOp op [a] pos) ta:=auM h
theorem aAL (ha:cC X a ta) (hb:cC X (.BoolOp .And (b :: rest) pos) tb):cC X (.BoolOp .And (a :: b :: rest) pos) (m7 ta tb):=PE.imp (auN ha hb) fun σ H Q h=>by
  obtain ⟨ρ,G,R,s,g,t,k⟩:=h;refine ⟨ρ,G,_,s,g,t,fun v H1 x G1 t1 r g1 q=>?_⟩;cases r with
  | bl c =>
    refine ⟨c,rfl,?_⟩;cases c with
    | true=>exact ⟨ρ,G1,R,s.mono t1,g1,q,fun b H' d G' t2=>k b H' d G' (t1.trans t2)⟩
    | false=>exact k _ H1 _ G1 t1 (.bl false) g1 q
  | _=>exact q.elim
theorem aET (ha:cC X a ta) (hb:cC X (.BoolOp .Or (b :: rest) pos) tb):cC X (.BoolOp .Or (a :: b :: rest) pos) (asR ta tb):=PE.imp (azE ha hb) fun σ H Q h=>by
  obtain ⟨ρ,G,R,s,g,t,k⟩:=h;refine ⟨ρ,G,_,s,g,t,fun v H1 x G1 t1 r g1 q=>?_⟩;cases r with
  | bl c =>
    refine ⟨c,rfl,?_⟩;cases c with
    | false=>exact ⟨ρ,G1,R,s.mono t1,g1,q,fun b H' d G' t2=>k b H' d G' (t1.trans t2)⟩
    | true=>exact k _ H1 _ G1 t1 (.bl true) g1 q
  | _=>exact q.elim
theorem aAM (ha:cC X a ta):cC X (.UnaryOp .Not a pos) (a3M ta):=PE.imp (auO ha) fun σ H Q h=>by
  obtain ⟨ρ,G,R,s,g,t,k⟩:=h;refine ⟨ρ,G,_,s,g,t,fun v H1 x G1 t1 r g1 q=>?_⟩;cases r with
  | bl c=>exact ⟨c,rfl,k _ H1 _ G1 t1 (.bl _) g1 q⟩
  | _=>exact q.elim
def aoZ (t:u9) (ta tb:cB):cB:=fun ρ G R=>t ρ G fun c G1=>if c=true then ta ρ G1 R else tb ρ G1 R
theorem ap0 (hc:PT3 X c sa) (ha:cC X a ta) (hb:cC X b tb):cC X (.IfExp c a b pos) (aoZ sa ta tb):=PE.imp (ajH hc ha hb) fun σ H Q h=>by
  obtain ⟨ρ,G,R,s,g,t,k⟩:=h;refine ⟨ρ,G,_,s,g,t,fun c H1 G1 t1 g1 q=>?_⟩;cases c with
  | true=>exact ⟨ρ,G1,R,s.mono t1,g1,q,fun b H' d G' t2=>k b H' d G' (t1.trans t2)⟩
  | false=>exact ⟨ρ,G1,R,s.mono t1,g1,q,fun b H' d G' t2=>k b H' d G' (t1.trans t2)⟩
end
section
variable {X:Cx} {e:Expr} {es:List Expr} {te:cB} {t:tZ} {pos:Pos}
def aC:tZ:=fun _ G R=>R [] G
def aA (ta:cB) (tr:tZ):tZ:=fun ρ G R=>ta ρ G fun x G1=>tr ρ G1 fun xs G2=>R (x :: xs) G2
theorem aaX:PA3 X [] aC:=PA.imp av2 fun σ H Q h=>by
  obtain ⟨ρ,G,R,s,g,t,k⟩:=h;exact k [] H [] G (.refl H) .nil g t
theorem yE (ha:cC X e te) (hr:PA3 X es t) (hs:starEach (e :: es) X.env=(false,eval e X.env) :: starEach es X.env:=by rfl):PA3 X (e :: es) (aA te t):=PA.imp (aoD ha hr hs) fun σ H Q h=>by
  obtain ⟨ρ,G,R,s,g,t,k⟩:=h;refine ⟨ρ,G,_,s,g,t,fun v H1 x G1 t1 r g1 q=>?_⟩;refine ⟨ρ,G1,_,s.mono t1,g1,q,fun vs H2 xs G2 t2 rs g2 q'=>?_⟩;exact k (v :: vs) H2 (x :: xs) G2 (t1.trans t2) (.cons (r.mono t2) rs) g2 q'
def cG (t:tZ):cB:=fun ρ G R=>t ρ G fun xs G1=>xs.length<=sizeLine/\R (.tup xs) G1
def cT (t:tZ):cB:=fun ρ G R=>t ρ G fun xs G1=>xs.length<=sizeLine/\∀ p,G1 p=none->R (.ref p) (aM G1 p (.lst xs))
theorem aAN {x1} (h:PA3 X es t):cC X (.Tuple es x1 pos) (cG t):=PE.imp (av3 h) fun σ H Q h=>by
  obtain ⟨ρ,G,R,s,g,t,k⟩:=h;refine ⟨ρ,G,_,s,g,t,fun vs H1 xs G1 t1 r g1 q=>?_⟩;refine ⟨by rw [← r.length];exact q.1,fun p hp=>?_⟩;have sn:Same H1 (upd H1 p (.tup vs)):=bJ hp;exact k (.ref p) _ (.tup xs) G1 (t1.trans (.same sn)) (.tup (rB.of aN) (r.mono (.same sn)) (ak8 aN)) (g1.same sn) q.2
theorem aAO (h:PA3 X es t):cC X (.List es pos) (cT t):=PE.imp (PE.kf (av4 h)) fun σ H Q h=>by
  obtain ⟨ρ,G,R,s,g,t,k⟩:=h;refine ⟨ρ,G,_,s,g,t,fun vs H1 xs G1 t1 r g1 q=>?_⟩;refine ⟨by rw [← r.length];exact q.1,fun p hp kf=>?_⟩;have sn:Same H1 (upd H1 p (.lst vs)):=bJ hp;exact k (.ref p) _ (.ref p) _ (t1.trans (.same sn)) (.ref p) (g1.put (u := .lst xs) hp ⟨vs,aN,r.mono (.same sn)⟩) (q.2 p (jX g1 hp kf))
end
end
variable {f:Value->Value->Sem Value}{ds:List D}{G:Gp}{g:Int->Int->Int}
section
section
variable {X:Cx} {a b c:Expr} {ta tb tc:cB} {pos:Pos}
def rI3 (C:Int->Int->Prop) (g:Int->Int->Int):R3:=fun x y G R=>match x,y with
  | .int i,.int j=>C i j/\R (.int (g i j)) G
  | _,_=>False
def aAQ (g:Int->Int->Int):R3:=fun x y G R=>match x,y with
  | .int i,.int j=>R (.int (g i j)) G
  | _,_=>False
def ap1 (g:Int->Int->Bool):R3:=fun x y G R=>match x,y with
  | .int i,.int j=>R (.bl (g i j)) G
  | _,_=>False
theorem afS {C:Int->Int->Prop} (h:pO X f (rI C fun i j => .int (g i j))):a3L X f (rI3 C g):=by
  refine ⟨_,h,fun H x y vx vy G R Q rx ry gh h k=>?_⟩;cases rx with
  | int i =>
    cases ry with
    | int j=>exact ⟨i,j,rfl,rfl,h.1,fun _=>k _ H _ G (.refl H) (.int _) gh h.2⟩
    | _=>exact False.elim h
  | _=>exact False.elim h
theorem avJ (h:pO X f (rI0 fun i j => .int (g i j))):a3L X f (aAQ g):=by
  refine ⟨_,h,fun H x y vx vy G R Q rx ry gh h k=>?_⟩;cases rx with
  | int i =>
    cases ry with
    | int j=>exact ⟨i,j,rfl,rfl,fun _=>k _ H _ G (.refl H) (.int _) gh h⟩
    | _=>exact False.elim h
  | _=>exact False.elim h
theorem adV {g:Int->Int->Bool} (h:pO X f (rI0 fun i j => .bl (g i j))):nW X f (ap1 g):=by
  refine ⟨_,h,fun H x y vx vy G R Q rx ry gh h k=>?_⟩;cases rx with
  | int i =>
    cases ry with
    | int j=>exact ⟨i,j,rfl,rfl,k _ H _ G (.refl H) (.bl _) gh h⟩
    | _=>exact False.elim h
  | _=>exact False.elim h
def uD:R3:=aAQ fun i j=>i - j
def xB:R3:=rI3 ajP fun i j=>i * j
def jY:R3:=rI3 auU fun i j=>i / j
def gF:R3:=rI3 (fun _ j=>0 < j) fun i j=>i % j
def asT:R3:=rI3 azQ fun i j=>i ^ j.toNat
theorem aAR:a3L X (binaryOp .Sub) uD:=avJ auW
theorem aAS:a3L X (binaryOp .Mult) xB:=afS auX
theorem avK:a3L X (binaryOp .FloorDiv) jY:=afS ao9
theorem aAT:a3L X (binaryOp .Mod) gF:=afS auY
theorem aAU:a3L X (binaryOp .Pow) asT:=afS auZ
def a6B:R3:=ap1 fun i j=>decide (i < j)
def adW:R3:=ap1 fun i j=>decide (j < i)
def ap2:R3:=ap1 fun i j=>decide (j<=i)
theorem aEU:nW X (compareOp .Lt) a6B:=adV azR
theorem aEV:nW X (compareOp .Gt) adW:=adV azT
theorem aEW:nW X (compareOp .GtE) ap2:=adV azU
def ai2:R3:=fun x y G R=>match x,y with
  | .int i,.int j=>R (.bl (decide (i<=j))) G
  | .str i,.str j=>R (.bl (!decide (j.cps.toList < i.cps.toList))) G
  | _,_=>False
theorem ai3:pO X (compareOp .LtE) (fun x y H Q=>∃ i j,x = .str i/\y = .str j/\Q (.bl (!decide (j.cps.toList < i.cps.toList))) H):=by
  intro pins s σ H x y v u Q I rx ry h;obtain ⟨i,j,rfl,rfl,q⟩:=h;obtain ⟨t,rfl⟩:=rx;obtain ⟨t',rfl⟩:=ry;exact PySem.P.le_str ⟨.bl _,H,I,rfl,q⟩
theorem aEX:nW X (compareOp .LtE) ai2:=by
  refine ⟨_,azS.or ai3,fun H x y vx vy G R Q rx ry gh h k=>?_⟩;cases rx with
  | int i =>
    cases ry with
    | int j=>exact .inl ⟨i,j,rfl,rfl,k _ H _ G (.refl H) (.bl _) gh h⟩
    | _=>exact False.elim h
  | str i =>
    cases ry with
    | str j=>exact .inr ⟨i,j,rfl,rfl,k _ H _ G (.refl H) (.bl _) gh h⟩
    | _=>exact False.elim h
  | _=>exact False.elim h
def bZ:R3:=fun x y G R=>match x,y with
  | .int i,.int j=>R (.int (i+j)) G
  | .str i,.str j=>i.length+j.length<=sizeLine/\R (.str (i++j)) G
  | .tup xs,.tup ys=>xs.length+ys.length<=sizeLine/\R (.tup (xs++ys)) G
  | .ref l,.ref m=>match G l,G m with
    | some (.lst xs),some (.lst ys)=>xs.length+ys.length<=sizeLine/\∀ p,G p=none->R (.ref p) (aM G p (.lst (xs++ys)))
    | _,_=>False
  | _,_=>False
theorem akD:pO X (binaryOp .Add) (fun x y H Q=>∃ a b ys,x = .ref a/\y = .ref b/\rB X.K H a []/\rB X.K H b ys/\Q (.ref b) H):=by
  intro pins s σ H x y v u Q I rx ry h;obtain ⟨a,b,ys,rfl,rfl,ha,hb,q⟩:=h;cases rx;cases ry;obtain ⟨its,r1,p1,_⟩:=I.tuple ha;obtain ⟨its2,r2,p2,_⟩:=I.tuple hb;cases r1;obtain ⟨⟨cls,dd,data,sl⟩,ho,hc,n,hd⟩:=id p1;obtain ⟨⟨cls2,dd2,data2,sl2⟩,ho2,hc2,n2,hd2⟩:=id p2;simp only at hc hd hc2 hd2;subst hc hd hc2 hd2
  exact concat_meets ⟨_,ho,rfl⟩ ⟨_,ho2,rfl⟩ noFill_tuple_add seq_tuple_add PySem.F.slot_tuple_add PySem.F.entry_tuple_add (PySem.F.args_tuple_add_2 _ _)
      (tuple_addW0 a b #[] its2.toArray n n2 dd dd2 sl sl2 (by simp)) ⟨ho,ho2,⟨.ref b,H,I,rfl,q⟩⟩
theorem aAV:a3L X (binaryOp .Add) bZ:=by
  refine ⟨_,auV.or (adN.or (aoP.or (akD.or avE))),fun H x y vx vy G R Q rx ry gh h k=>?_⟩;cases rx with
  | int i =>
    cases ry with
    | int j=>exact .inl ⟨i,j,rfl,rfl,fun _=>k _ H _ G (.refl H) (.int _) gh h⟩
    | _=>exact False.elim h
  | str i =>
    cases ry with
    | str j=>exact .inr (.inl ⟨i,j,rfl,rfl,h.1,fun _=>k _ H _ G (.refl H) (.str _) gh h.2⟩)
    | _=>exact False.elim h
  | @tup a xs ds ha ra ea =>
    cases ry with
    | @tup b ys es hb rb eb =>
      by_cases hn:ds=[]
      . subst hn;cases ra;exact .inr (.inr (.inr (.inl ⟨a,b,ys,rfl,rfl,ha,hb,fun _=>k _ H _ G (.refl H) (.tup hb rb eb) gh h.2⟩)))
      . refine .inr (.inr (.inl ⟨a,b,xs,ys,rfl,rfl,ha,hb,fun z=>hn (ra.zB.mp z),by rw [← ra.length,← rb.length];exact h.1,fun z _=>?_,fun _ p hp _=>?_⟩))
        . subst z;cases rb;have h2:=h.2;rw [jr] at h2;exact k _ H _ G (.refl H) (.tup ha ra ea) gh h2
        . have sn:Same H (upd H p (.tup (xs++ys))):=bJ hp;exact k _ _ _ G (.same sn) (.tup (rB.of aN) ((ra.append rb).mono (.same sn)) (ak8 aN)) (gh.same sn) h.2
    | _=>exact False.elim h
  | ref l =>
    cases ry with
    | ref m =>
      have h':(match G l,G m with
        | some (.lst xs),some (.lst ys)=>xs.length+ys.length<=sizeLine/\∀ p,G p=none->R (.ref p) (aM G p (.lst (xs++ys)))
        | _,_=>False):=h
      split at h'
      . rename_i xs ys e1 e2;obtain ⟨xv,f1,r1⟩:=gh l _ e1;obtain ⟨yv,f2,r2⟩:=gh m _ e2;refine .inr (.inr (.inr (.inr ⟨l,m,xv,yv,rfl,rfl,f1,f2,by rw [← r1.length,← r2.length];exact h'.1,fun p hp kf=>?_⟩)));have sn:Same H (upd H p (.lst (xv++yv))):=bJ hp;exact k _ _ _ _ (.same sn) (.ref p) (gh.put (u := .lst (xs++ys)) hp ⟨_,aN,(r1.append r2).mono (.same sn)⟩) (h'.2 p (jX gh hp kf))
      . exact h'.elim
    | _=>exact False.elim h
  | _=>exact False.elim h
def avL:R3:=fun x y G R=>match x,y with
  | .non,.non=>R (.bl true) G
  | _,.non=>R (.bl false) G
  | .bl i,.bl j=>R (.bl (i == j)) G
  | .int _,.bl _=>R (.bl false) G
  | .str _,.bl _=>R (.bl false) G
  | .non,.bl _=>R (.bl false) G
  | .tup _,.bl _=>R (.bl false) G
  | .ref _,.bl _=>R (.bl false) G
  | _,_=>False
def akE:R3:=fun x y G R=>avL x y G fun d G'=>match d with
  | .bl k=>R (.bl (!k)) G'
  | _=>False
theorem isV (x:V) (v:Value) (k:Bool) (r:RelV x v):(v == .bool k)=decide (x = .bl k):=by
  cases x with
  | non=>cases r;rfl
  | bl b =>
    cases r;cases b <;> cases k <;> rfl
  | int _=>obtain ⟨t,rfl⟩:=r;rfl
  | str _=>obtain ⟨t,rfl⟩:=r;rfl
  | byt _=>obtain ⟨t,rfl⟩:=r;rfl
  | flt _=>obtain ⟨t,rfl⟩:=r;rfl
  | ref _=>cases r;rfl
  | ty _=>cases r;rfl
theorem a77 (x:V) (v:Value) (k:Bool) (r:RelV x v):plainIs v (.bool k)=true:=by
  cases x with
  | non=>cases r;rfl
  | bl b=>cases r;rfl
  | int _=>obtain ⟨t,rfl⟩:=r;rfl
  | str _=>obtain ⟨t,rfl⟩:=r;rfl
  | byt _=>obtain ⟨t,rfl⟩:=r;rfl
  | flt _=>obtain ⟨t,rfl⟩:=r;rfl
  | ref _=>cases r;rfl
  | ty _=>cases r;rfl
theorem ap3:pO X (compareOp .Is) (fun x y H Q=>∃ k,y = .bl k/\Q (.bl (decide (x = .bl k))) H):=by
  intro pins s σ H x y v u Q I rx ry h;obtain ⟨k,rfl,q⟩:=h;cases ry;exact wpAny_is_plain (a77 x v k rx) ⟨.bl _,H,I,by rw [isV x v k rx];rfl,q⟩
theorem ai4:pO X (compareOp .IsNot) (fun x y H Q=>∃ k,y = .bl k/\Q (.bl (!decide (x = .bl k))) H):=by
  intro pins s σ H x y v u Q I rx ry h;obtain ⟨k,rfl,q⟩:=h;cases ry;exact wpAny_isNot_plain (a77 x v k rx) ⟨.bl _,H,I,by rw [isV x v k rx];rfl,q⟩
theorem aEY:nW X (compareOp .Is) avL:=by
  refine ⟨_,av1.or ap3,fun H x y vx vy G R Q rx ry gh h k=>?_⟩;cases ry with
  | non =>
    refine .inl ⟨rfl,?_⟩;cases rx with
    | non=>exact k _ H _ G (.refl H) (.bl _) gh h
    | _=>exact k _ H _ G (.refl H) (.bl _) gh h
  | bl j =>
    refine .inr ⟨j,rfl,?_⟩;cases rx with
    | bl i =>
      have e:decide (V.bl i=V.bl j)=(i == j):=by cases i <;> cases j <;> rfl
      rw [e];exact k _ H _ G (.refl H) (.bl _) gh h
    | ty n=>exact False.elim h
    | _=>exact k _ H _ G (.refl H) (.bl _) gh h
  | _=>cases rx <;> exact False.elim h
theorem avM:nW X (compareOp .IsNot) akE:=by
  refine ⟨_,aoA.or ai4,fun H x y vx vy G R Q rx ry gh h k=>?_⟩;cases ry with
  | non =>
    refine .inl ⟨rfl,?_⟩;cases rx with
    | non=>exact k _ H _ G (.refl H) (.bl _) gh h
    | _=>exact k _ H _ G (.refl H) (.bl _) gh h
  | bl j =>
    refine .inr ⟨j,rfl,?_⟩;cases rx with
    | bl i =>
      have e:decide (V.bl i=V.bl j)=(i == j):=by cases i <;> cases j <;> rfl
      rw [e];exact k _ H _ G (.refl H) (.bl _) gh h
    | ty n=>exact False.elim h
    | _=>exact k _ H _ G (.refl H) (.bl _) gh h
  | _=>cases rx <;> exact False.elim h
def aU (G:Gp) (a:Addr):Option (List D):=match G a with
  | some (.lst ds)=>some ds
  | some (.rol ds)=>some ds
  | _=>none
theorem c7 {K:Fg} (g:HR K H G) {a:Addr} (e:aU G a=some ds):∃ xs,wU K H a xs/\bV K H ds xs:=by
  unfold aU at e;split at e
  . rename_i ds' q;cases e;obtain ⟨xs,h1,h2⟩:=g a _ q;exact ⟨xs,wU.of h1,h2⟩
  . rename_i ds' q;cases e;exact g a _ q
  . cases e
def bL:R3:=fun x y G R=>match x,y with
  | .tup xs,.int i=>match atI xs i with
    | some d=>R d G
    | none=>False
  | .str z,.int i=>z.length<=sizeLine/\match atI z.cps.toList i with
    | some c=>R (.str ⟨#[c]⟩) G
    | none=>False
  | .ref p,.int i=>match aU G p with
    | some xs=>(match atI xs i with
      | some d=>R d G
      | none=>False)
    | none=>False
  | _,_=>False
theorem akF {K:Fg} (r:bV K H ds xs) {i:Int} {d:D} (e:atI ds i=some d):∃ v,atI xs i=some v/\RD K H d v:=by
  unfold atI at e ⊢;rw [← r.length];cases q:ixN ds.length i with
  | none=>rw [q] at e;cases e
  | some j =>
    rw [q] at e;exact r.get e
theorem aEZ (ha:cC X a ta) (hb:cC X b tb) (hs:a89 b):cC X (.Subscript a b pos) (aD bL ta tb):=by
  refine PE.imp (aA3 avD ha hb hs) fun _ _ _ h=>adU ?_ h;intro H x y vx vy G R Q rx ry gh h k;cases rx with
  | @tup p xs ds hp r =>
    cases ry with
    | int i =>
      have h':(match atI ds i with
        | some d=>R d G
        | none=>False):=h
      split at h'
      . rename_i d e;obtain ⟨v,e1,e2⟩:=akF r e;exact .inr (.inl ⟨p,xs,i,v,rfl,rfl,hp,e1,k v H d G (.refl H) e2 gh h'⟩)
      . exact h'.elim
    | _=>exact False.elim h
  | str z =>
    cases ry with
    | int i =>
      have h':z.length<=sizeLine/\(match atI z.cps.toList i with
        | some c=>R (.str ⟨#[c]⟩) G
        | none=>False):=h
      obtain ⟨hz,h'⟩:=h';split at h'
      . rename_i d e;exact .inr (.inr ⟨z,i,d,rfl,rfl,hz,e,k _ H _ G (.refl H) (.str _) gh h'⟩)
      . exact h'.elim
    | _=>exact False.elim h
  | ref p =>
    cases ry with
    | int i =>
      have h':(match aU G p with
        | some xs=>(match atI xs i with
          | some d=>R d G
          | none=>False)
        | none=>False):=h
      split at h'
      . rename_i ds e;obtain ⟨xs,hp,r⟩:=c7 gh e;split at h'
        . rename_i d e';obtain ⟨v,e1,e2⟩:=akF r e';exact .inl ⟨p,xs,i,v,rfl,rfl,hp,e1,k v H d G (.refl H) e2 gh h'⟩
        . exact h'.elim
      . exact h'.elim
    | _=>exact False.elim h
  | _=>exact False.elim h
abbrev TO3:=aK->Gp->(Option Int->Gp->Prop)->Prop
def upO (K:Fg) (t:TO3):TO:=fun σ H Q=>∃ ρ G R,SR K H ρ σ/\HR K H G/\t ρ G R/\∀ i H' G',Ts H H'->HR K H' G'->R i G'->Q i H'
abbrev PO3 (X:Cx) (e:Option Expr) (t:TO3):Prop:=PO X e (upO X.K t)
theorem PO.imp {e:Option Expr} {t t':TO} (h:PO X e t) (k:∀ σ H Q,t' σ H Q->t σ H Q):PO X e t':=fun pins s σ H Q I q=>h pins s σ H Q I (k _ _ _ q)
def aaY:TO3:=fun _ G R=>R none G
def a3N (t:cB):TO3:=fun ρ G R=>t ρ G fun x G1=>match x with
  | .int i=>R (some i) G1
  | _=>False
theorem avN:PO3 X none aaY:=PO.imp aoM fun σ H Q h=>by
  obtain ⟨ρ,G,R,s,g,t,k⟩:=h;exact k none H G (.refl H) g t
theorem akG {te:cB} (h:cC X e te):PO3 X (some e) (a3N te):=PO.imp (aoN h) fun σ H Q h=>by
  obtain ⟨ρ,G,R,s,g,t,k⟩:=h;refine ⟨ρ,G,_,s,g,t,fun v H1 x G1 t1 r g1 q=>?_⟩;cases r with
  | int i=>exact ⟨i,rfl,k _ H1 G1 t1 g1 q⟩
  | _=>exact False.elim q
end
end
variable {F:Ends}
section
section
variable {X:Cx} {st:Stmt} {rest:List Stmt} {t u:bD} {e:Expr} {te:cB} {pos:Pos}
def bM:bD:=fun F ρ G=>F.nx ρ G
def aL (t u:bD):bD:=fun F ρ G=>t { F with nx:=u F } ρ G
theorem aAW:a2B X [] bM:=PSs.imp ao3 fun F σ H h=>by
  obtain ⟨ρ,G,E,s,g,q,d⟩:=h;exact d.nx ρ G σ H s g q
theorem avO {K:Fg} {σ:St} (h:upS K (aL t u) F σ H):azF (upS K t) (upS K u) F σ H:=by
  obtain ⟨ρ,G,E,s,g,q,d⟩:=h;exact ⟨ρ,G,_,s,g,q,⟨fun ρ' G' σ' H' s1 g1 h=>⟨ρ',G',E,s1,g1,h,d⟩,d.rt,d.bk,d.ct⟩⟩
theorem avP (h1:PS3 X st t) (h2:a2B X rest u):a2B X (st :: rest) (aL t u):=PSs.imp (ajJ h1 h2) fun _ _ _ h=>avO h
theorem aAX (h1:PS3 X st t):a2B X [st] t:=ao4 h1
theorem avQ:PS3 X (.Pass pos) bM:=PS.imp ao5 fun F σ H h=>by
  obtain ⟨ρ,G,E,s,g,q,d⟩:=h;exact d.nx ρ G σ H s g q
def dF (te:cB):bD:=fun F ρ G=>te ρ G fun _ G1=>F.nx ρ G1
theorem avR (he:cC X e te) (hs:swapsWith e none pos.line X.env=pure false:=by rfl):PS3 X (.Expr e pos) (dF te):=PS.imp (ao6 he hs) fun F σ H h=>by
  obtain ⟨ρ,G,E,s,g,q,d⟩:=h;exact ⟨ρ,G,_,s,g,q,fun v H' x G' t1 r g1 h=>d.nx ρ G' σ H' (s.mono t1) g1 h⟩
def bN (te:cB):bD:=fun F ρ G=>te ρ G F.rt
theorem aAY (he:cC X e te):PS3 X (.Return (some e) pos) (bN te):=PS.imp (auP he) fun F σ H h=>by
  obtain ⟨ρ,G,E,s,g,q,d⟩:=h;exact ⟨ρ,G,_,s,g,q,fun v H' x G' t1 r g1 h=>d.rt x G' v H' r g1 h⟩
def cA (c:u9) (t u:bD):bD:=fun F ρ G=>c ρ G fun b G1=>if b=true then t F ρ G1 else u F ρ G1
theorem aF0 {a b:List Stmt} {tc:u9} (hc:PT3 X c tc) (ha:a2B X a t) (hb:a2B X b u):PS3 X (.If c a b pos) (cA tc t u):=PS.imp (azH hc ha hb) fun F σ H h=>by
  obtain ⟨ρ,G,E,s,g,q,d⟩:=h;refine ⟨ρ,G,_,s,g,q,fun b H' G' t1 g1 h=>?_⟩;cases b with
  | true=>exact ⟨ρ,G',E,s.mono t1,g1,h,d⟩
  | false=>exact ⟨ρ,G',E,s.mono t1,g1,h,d⟩
def bF (i:Nat) (te:cB):bD:=fun F ρ G=>te ρ G fun x G1=>F.nx (a0K ρ i x) G1
theorem asV {pos':Pos} (hN:X.N.Nodup) (hi:X.N[i]?=some x) (hx:Loc X.env.scope x) (he:cC X e te) (hs:swapsWith e (some (.Name x pos')) pos.line X.env=pure false:=by rfl) (hf:X.fn x=true∨X.env.scope.names.lookup x=some .local:=by first | exact .inl rfl | exact .inr rfl | assumption) :
    PS3 X (.Assign [.Name x pos'] e pos) (bF i te):=PS.imp (auR hN hi hx he hs hf) fun F σ H h=>by
  obtain ⟨ρ,G,E,s,g,q,d⟩:=h;exact ⟨ρ,G,_,s,g,q,fun v H' x G' t1 r g1 h=>d.nx _ G' _ H' ((s.mono t1).set r i) g1 h⟩
end
section
variable {X:Cx} {body:List Stmt} {tb:bD} {e:Expr} {te:cB} {pos:Pos}
theorem aaZ {K:Fg} {J:It} {g:TG} {tb:TS} {σ:St} (Pv:Nat->St->Hp->Prop) (h0:Pv 0 σ H)
    (stop:∀ σ H,Pv n σ H->J.stop n H) (go:∀ i σ H,i < n->Pv i σ H->J.go i H)
    (hs:∀ i x σ H H',i < n->Pv i σ H->J.yld i H x H'->g x σ H' fun σ2 H2=>tb { F with nx:=Pv (i+1),ct:=Pv (i+1),bk:=F.nx } σ2 H2) (hd:∀ σ H,Pv n σ H->F.nx σ H) :
    ∃ W:Nat->Nat->St->Hp->Prop,(∃ m,W 0 m σ H)/\∀ i m σ H,W i m σ H ->
      (J.stop i H/\F.nx σ H)∨(J.go i H/\∃ N:St->Hp->Prop,(∀ σ' H',N σ' H'->∃ m',m' < m/\W (i+1) m' σ' H')/\∀ x H',J.yld i H x H'->g x σ H' fun σ2 H2=>tb { F with nx:=N,ct:=N,bk:=F.nx } σ2 H2):=by
  refine ⟨fun i m σ H=>m=n - i/\i<=n/\Pv i σ H,⟨n,by simp,ux _,h0⟩,?_⟩;rintro i m σ H ⟨rfl,hi,p⟩;by_cases hlt:i < n
  . exact .inr ⟨go i σ H hlt p,Pv (i+1),fun σ' H' p'=>⟨n - (i+1),by omega,rfl,hlt,p'⟩,fun x H' y=>hs i x σ H H' hlt p y⟩
  . have e:i=n:=by omega
    subst e;exact .inl ⟨stop σ H p,hd σ H p⟩
end
abbrev aV:=Addr->Gp->Prop
abbrev tG:=List D->Gp->fY->aV->Prop
def UpX (K:Fg) (EX:aV) (E:XK):Prop:=∀ C H' G',HR K H' G'->EX C G'->E (.ref C) none H'
def cJ (K:Fg) (sp:tG):Sp:=fun vs H Q E=>∃ ds G R EX,bV K H ds vs/\HR K H G/\sp ds G R EX/\(∀ v H' d G',RD K H' d v->HR K H' G'->R d G'->Q v H')/\UpX K EX E
section
variable {X:Cx} {CX:CXT} {k:Nat} {f C:Addr} {fd:FuncData} {ps:List Str} {sp:tG} {E:XK} {EX:aV} {x:Str} {p pos:Pos} {e:Expr} {es:List Expr} {t:tZ}
def aF1 (n m:Nat) (tb:aV->bD):tG:=fun ds G R EX=>ds.length=m/\tb EX ⟨fun _ G'=>R .non G',R,fun _ _=>False,fun _ _=>False⟩ (a8F n ds) G
end
end
variable {l:List Env}{C:Addr}{us:List Value}
section
def lU (P:Program) (w:World):CXT:=fun outer H s E e s'=>∃ (x C:Addr) (H':Hp) (B:Heap),e = .ref x/\Fly B outer x (.ref C) s'.heap/\wY P w H' B /\
  (∀ b o,s.heap.get? b=some o->H b=none->b ∉ frs outer->B.get? b=some o)/\(∀ b o,s.heap.get? b=some o->b ∉ frs outer->∃ o',B.get? b=some o') /\
  Un (frs outer) [] H H' s.heap s'.heap/\s'.os=s.os/\AllBare s'.gens/\E (.ref C) none H'
theorem afT (h:b∈frs l):∃ env∈l,env.frame=some b:=vh.mp h
theorem a8I {env:Env} (h:env∈l) (e:env.frame=some b):b∈frs l:=vh.mpr ⟨env,h,e⟩
section
variable {qt:Bool} {P:Program} {w:World} {K:Fg} {mg:Str->Option Value} {base:Heap} {N:List Str} {qual:Str} {scope:Scope} {f:Addr} {cd:Value} {A:Around} {outer:List Env} {s₀:Shared} {H₀:Hp} {E:XK}
abbrev cx1 (qt:Bool) (P:Program) (w:World) (K:Fg) (mg:Str->Option Value) (base:Heap) (N:List Str) (qual:Str) (scope:Scope) (f:Addr) (cd:Value) (A:Around) (outer:List Env) (s₀:Shared) (H₀:Hp) (E:XK):Cx:=nU qt (lU P w) P w K mg base N qual scope f cd A outer s₀ H₀ E
theorem gG {X:Cx} {σ:St} (I:Inv X pins σ H s) (hst:X.stack=X.env :: X.outer) (hf:X.env.frame=some X.env.locals) {o:Obj} (e:X.s₀.heap.get? b=some o) (n:b ∉ frs X.outer):b ∉ frs X.stack:=fun hb=>by
  obtain ⟨env,he,hfr⟩:=afT hb;rw [hst] at he;rcases iy.mp he with rfl | he
  . have z:X.env.locals=b:=dj.inj (hf.symm.trans hfr);have h1:=I.ok.above;have h2:=cg e;rw [z] at h1;exact absurd (fj h2 h1) (jm _)
  . exact n (a8I he hfr)
theorem ap4 {σ:St} {e:Addr} {h':Heap} (I:Inv (cx1 qt P w K mg base N qual scope f cd A outer s₀ H₀ E) pins σ H s) (hm:yt s.heap h' e (.ref C) us) (q:E (.ref C) none H) :
    (cx1 qt P w K mg base N qual scope f cd A outer s₀ H₀ E).xe (.ref e) { s with heap:=h' }:=by
  have hst:(cx1 qt P w K mg base N qual scope f cd A outer s₀ H₀ E).stack=(cx1 qt P w K mg base N qual scope f cd A outer s₀ H₀ E).env :: outer:=rfl;have hin:∀ env∈(cx1 qt P w K mg base N qual scope f cd A outer s₀ H₀ E).stack,∀ b,env.frame=some b->b∈frs (cx1 qt P w K mg base N qual scope f cd A outer s₀ H₀ E).stack:=fun env he b hb=>a8I he hb;have hB:∀ b o,(yc s.heap (frs (cx1 qt P w K mg base N qual scope f cd A outer s₀ H₀ E).stack)).get? b=some o->s.heap.get? b=some o:=fun b o e=>PySem.W.of_hideAll _ e;have toB:∀ b o,s.heap.get? b=some o->b ∉ frs (cx1 qt P w K mg base N qual scope f cd A outer s₀ H₀ E).stack->(yc s.heap (frs (cx1 qt P w K mg base N qual scope f cd A outer s₀ H₀ E).stack)).get? b=some o:=fun b o e n=>PySem.W.hideAll_get _ e n;have fr:=PySem.W.funFrames_hide I.stack hin;refine adI (B:=yc s.heap (frs (cx1 qt P w K mg base N qual scope f cd A outer s₀ H₀ E).stack)) (h0:=s.heap) I.ok.frames rfl hB fr hm fun h2 k1 k4=>?_;have up:∀ b o,s.heap.get? b=some o->(∀ vs,o.data ≠ .fields vs)->∃ sl,h2.get? b=some { o with slots:=sl }:=fun b o e nd=>k4 b o (hm.keeps b o e) nd
  have hfd:∀ b∈frs outer,∀ o,s.heap.get? b=some o->∀ vs,o.data ≠ .fields vs:=fun b hb o e=>by
    obtain ⟨_,o',ho',hd⟩:=I.u0.mem hb;rw [e] at ho';cases ho';exact hd
  refine ⟨e,C,H,_,rfl,k1,?_,fun b o eb nb hb=>?_,fun b o eb hb=>?_,⟨fun b o eb nb hb _=>?_,fun b o eb nb hb _=>?_,fun b o eb nb hx=>I.base.free b o eb nb hx,fun b o eb hx=>?_,I.base.tups,I.base.j4,I.base.rC⟩,I.os,I.bare,q⟩
  . intro b o hb;refine (I.hok b o hb).stay (fun c u hc eu=>toB c u eu fun hz=>?_) (fun _ z=>z) fun _ _ z=>z;have n:=I.a83 c hz;rcases hc with rfl | hc
    . rw [hb] at n;cases n
    . rw [hc] at n;cases n
  . exact toB b o (I.base.keep b o eb nb hb (by simp [nU])) (gG I hst rfl eb hb)
  . obtain ⟨o',e'⟩:=I.base.there b o eb (by simp [nU]);exact ⟨o',toB b o' e' (gG I hst rfl eb hb)⟩
  . exact k1.stays b o (toB b o (I.base.keep b o eb nb hb (by simp [nU])) (gG I hst rfl eb hb))
  . obtain ⟨sl,e1⟩:=I.base.slot b o eb nb hb (by simp [nU]);obtain ⟨sl2,e2⟩:=up b _ e1 (hfd b hb _ e1);exact ⟨sl2,e2⟩
  . obtain ⟨o',e'⟩:=I.base.there b o eb (by simp [nU]);by_cases hb:b∈frs outer
    . obtain ⟨sl,e1⟩:=up b o' e' (hfd b hb o' e');exact ⟨_,e1⟩
    . exact ⟨o',k1.stays b o' (toB b o' e' (gG I hst rfl eb hb))⟩
theorem ap5 {E':XK} (hE:∀ C H',E' C none H'->E C none H') {σ:St} {s':Shared} {e:Value} (I:Inv (cx1 qt P w K mg base N qual scope f cd A outer s₀ H₀ E) pins σ H s)
    (c:lU P w (cx1 qt P w K mg base N qual scope f cd A outer s₀ H₀ E).stack H s E' e s'):(cx1 qt P w K mg base N qual scope f cd A outer s₀ H₀ E).xe e s':=by
  obtain ⟨x,C,H',B,rfl,fl,hok,cov,aAZ,un,os,bare,q⟩:=c;have hst:(cx1 qt P w K mg base N qual scope f cd A outer s₀ H₀ E).stack=(cx1 qt P w K mg base N qual scope f cd A outer s₀ H₀ E).env :: outer:=rfl;refine aj9 (B:=B) I.ok.frames rfl fl fun h2 k1 k4=>?_
  have hfs:∀ b∈frs outer,b∈frs (cx1 qt P w K mg base N qual scope f cd A outer s₀ H₀ E).stack:=fun b hb=>by
    obtain ⟨env,he,hf⟩:=afT hb;exact a8I (gw _ he) hf
  have hfd:∀ b∈frs outer,∀ o,s'.heap.get? b=some o->∀ vs,o.data ≠ .fields vs:=fun b hb o e=>by
    obtain ⟨_,o',ho',hd⟩:=fl.aDX.mem (hfs b hb);rw [e] at ho';cases ho';exact hd
  refine ⟨x,C,H',B,rfl,k1,hok,fun b o eb nb hb=>?_,fun b o eb hb=>?_,⟨fun b o eb nb hb _=>?_,fun b o eb nb hb _=>?_,fun b o eb nb hx=>?_,fun b o eb hx=>?_,fun b xs z=>un.tups b xs (I.base.tups b xs z),fun b o u z=>un.j4 b o u (I.base.j4 b o u z),fun b ps z=>?_⟩,os.trans I.os,bare,hE _ _ q⟩
  . exact cov b o (I.base.keep b o eb nb hb (by simp [nU])) (I.base.free b o eb nb (by simp [nU])) (gG I hst rfl eb hb)
  . obtain ⟨o',e'⟩:=I.base.there b o eb (by simp [nU]);exact aAZ b o' e' (gG I hst rfl eb hb)
  . exact k1.stays b o (cov b o (I.base.keep b o eb nb hb (by simp [nU])) (I.base.free b o eb nb (by simp [nU])) (gG I hst rfl eb hb))
  . obtain ⟨sl,e1⟩:=I.base.slot b o eb nb hb (by simp [nU]);obtain ⟨sl2,e2⟩:=un.slot b _ e1 (I.base.free b o eb nb (by simp [nU])) (hfs b hb) (by simp);obtain ⟨sl3,e3⟩:=k4 b _ e2 (hfd b hb _ e2);exact ⟨sl3,e3⟩
  . obtain ⟨o',e'⟩:=I.base.there b o eb (by simp [nU]);exact un.free b o' e' (I.base.free b o eb nb (by simp [nU])) (by simp)
  . obtain ⟨o',e'⟩:=I.base.there b o eb (by simp [nU]);by_cases hb:b∈frs outer
    . obtain ⟨o2,e2⟩:=un.there b o' e' (by simp);obtain ⟨sl,e3⟩:=k4 b o2 e2 (hfd b hb o2 e2);exact ⟨_,e3⟩
    . obtain ⟨o2,e2⟩:=aAZ b o' e' (gG I hst rfl eb hb);exact ⟨o2,k1.stays b o2 e2⟩
  . obtain ⟨m1,e1⟩:=I.base.rC b ps z;obtain ⟨m2,e2⟩:=un.rC b _ e1;exact ⟨m1++m2,by rw [e2,Array.append_assoc]⟩
end
def a3O (K:Fg) (EX:aV):XK:=fun C _ H'=>∃ c G',C = .ref c/\HR K H' G'/\EX c G'
structure Cat (X:Cx) (EX:aK->aV):Prop where
  afU:∀ pins σ H s ρ e s',Inv X pins σ H s->SR X.K H ρ σ->lU X.prog X.w X.stack H s (a3O X.K (EX ρ)) e s'->X.xe e s'
structure Thr (X:Cx) (EX:aK->aV):Prop where
  made:∀ pins σ H s ρ C e us h',Inv X pins σ H s->SR X.K H ρ σ->yt s.heap h' e (.ref C) us->a3O X.K (EX ρ) (.ref C) none H->X.xe (.ref e) { s with heap:=h' }
section
variable {qt:Bool} {P:Program} {w:World} {K:Fg} {mg:Str->Option Value} {base:Heap} {N:List Str} {qual:Str} {scope:Scope} {f:Addr} {cd:Value} {A:Around} {outer:List Env} {s₀:Shared} {H₀:Hp} {E:XK} {EX:aV}
theorem ab0 (h:UpX K EX E) {C:Value} (q:a3O K EX C none H'):E C none H':=by
  obtain ⟨c,G',rfl,g,q⟩:=q;exact h c H' G' g q
theorem aF2 (h:UpX K EX E):Cat (cx1 qt P w K mg base N qual scope f cd A outer s₀ H₀ E) (fun _=>EX) :=
  ⟨fun pins σ H s ρ e s' I _ c=>ap5 (E':=a3O K EX) (fun C H' q=>ab0 h q) I c⟩
theorem aF3 (h:UpX K EX E):Thr (cx1 qt P w K mg base N qual scope f cd A outer s₀ H₀ E) (fun _=>EX) :=
  ⟨fun pins σ H s ρ C e us h' I _ hm q=>ap4 I hm (ab0 h q)⟩
theorem own1:PassesOwn (model P w) (cx1 qt P w K mg base N qual scope f cd A outer s₀ H₀ E).A (cx1 qt P w K mg base N qual scope f cd A outer s₀ H₀ E).env (cx1 qt P w K mg base N qual scope f cd A outer s₀ H₀ E).xe:=PassesOwn.leaving
end
section
variable {X:Cx} {k:Nat} {f C:Addr} {fd:FuncData} {ps:List Str} {sp:tG} {EX:aK->aV} {x:Str} {p pos:Pos} {e:Expr} {es:List Expr} {t:tZ}
def aY (sp:tG) (EX:aK->aV) (t:tZ):cB:=fun ρ G R=>t ρ G fun ds G1=>sp ds G1 R (EX ρ)
theorem afV {σ:St} {Q':VK} {E:XK} (F:bW qt X.prog X.w X.K X.mg X.base (lU X.prog X.w) k f fd ps (cJ X.K sp)) (hr:f9 qt k X.A) (hb:Binds X.K fd ps [])
    (hx:∀ e s',lU X.prog X.w X.stack H s E e s'->X.xe e s')
    (I:Inv X pins σ H s) (r:Vals vs us) (h:cJ X.K sp vs H Q E) (hQ:∀ v H',Ts H H'->Q v H'->Q' v H'):wpAny (model X.prog X.w) X.A (call (.ref f) us) (EP X pins σ Q') X.xe s:=by
  have hl:(us++[]).length=ps.length:=by rw [jr,← r.length];exact F.len _ _ _ _ h
  refine wpAny_call (codeAny_mono (F.run X.A X.stack s H ⟨us,[]⟩ (us++[]) vs Q E hr I.env0 (hb s us I.kIn hl) (by rw [jr];exact r) h) fun r s' hq=>?_);cases r with
  | error e=>exact hx e s' hq
  | ok fl =>
    cases fl with
    | ret u =>
      obtain ⟨v,H',os,bare,un,hok,r,q⟩:=hq;exact ⟨v,H',I.call' (ch:=[]) os un hok bare (fun b z=>absurd z (by simp)),r,hQ v H' ⟨un.tups,un.j4⟩ q⟩
    | next=>exact False.elim hq
    | brk=>exact False.elim hq
    | cont=>exact False.elim hq
theorem ap6 (F:bW qt X.prog X.w X.K X.mg X.base (lU X.prog X.w) k f fd ps (cJ X.K sp)) (hr:f9 qt k X.A) (hg:Gl X x) (hm:X.mg x=some (.ref f)) (hk:jy X.K (.ref f)=true) (hb:Binds X.K fd ps []) (hx:Cat X EX)
    (ha:PA3 X (e :: es) t) (hdb:(x == ("__debug__" : Str))=false:=by decide) (he:starEach (e :: es) X.env=(false,eval e X.env) :: starEach es X.env:=by rfl) (hpl:(backTo pos (starEach es X.env)).any (·.1)=false:=by rfl) :
    cC X (.Call (.Name x p) (e :: es) [] pos) (aY sp EX t):=by
  intro pins s σ H Q I h;obtain ⟨ρ,G,R,sr,g,q,kk⟩:=h;refine wpAny_Call_Name_kw (o7 I hg hm ?_ hdb);refine PySem.W.callWith_K (h₀:=X.base) I.ok.mod.kin hk (cH (ha pos pins s σ H (fun vs H1=>Ts H H1/\∃ ds G1,bV X.K H1 ds vs/\HR X.K H1 G1/\sp ds G1 R (EX ρ)) I ⟨ρ,G,_,sr,g,q,fun vs H1 ds G1 t1 r1 g1 q1=>⟨t1,ds,G1,r1,g1,q1⟩⟩) fun us s1 ⟨vs,H1,I1,r,t1,ds,G1,r1,g1,q1⟩=>⟨I1.kIn,?_⟩) he hpl;refine afV (E:=a3O X.K (EX ρ)) F hr hb (fun e s' c=>hx.afU pins σ H1 s1 ρ e s' I1 (sr.mono t1) c) I1 r (Q:=fun v H'=>∃ d G',RD X.K H' d v/\HR X.K H' G'/\R d G') ⟨ds,G1,R,EX ρ,r1,g1,q1,fun v H' d G' r2 g2 q2=>⟨d,G',r2,g2,q2⟩,fun C H' G' g' q'=>⟨C,G',rfl,g',q'⟩⟩ fun v H' t2 ⟨d,G',r2,g2,q2⟩=>kk v H' d G' (t1.trans t2) r2 g2 q2
theorem avS {qt:Bool} {w:World} {K:Fg} {base:Heap} {f:Addr} {N ps:List Str} {k:Nat} {tb:aV->bD} (F:u6 K x qual st f fd) (S:bC N ps (bK st))
    (hbody:∀ (cdv:Value) (A:Around) (outer:List Env) (s:Shared) (H:Hp) (E:XK) (EX:aV),f9 qt k (A.deeper (envOfC qual (bK st) s.heap.objs.size f cdv))->UpX K EX E ->
      a2B (cx1 qt P w K mg base N qual (bK st) f cdv A outer s H E) (dI st) (tb EX)):bW qt P w K mg base (lU P w) (k+1) f fd ps (cJ K (aF1 N.length ps.length tb)):=by
  obtain ⟨oc,od,dV,kV,doc,pm,an,cdv,ct,osl,rfl,lk,hcd⟩:=F.ex;have hpl:ps.length<=N.length:=by have:=congrArg List.length S.pre;rw [mz] at this;omega
  refine asH lk hcd S (fun vs H Q E h=>?_) fun A outer s H vs Q E hr hsp=>?_
  . obtain ⟨ds,G,R,EX,r,g,⟨hl,q⟩,_⟩:=h;rw [← r.length,hl]
  . obtain ⟨ds,G,R,EX,r,g,⟨hl,q⟩,kk,hE⟩:=hsp;refine ⟨_,hbody cdv A outer s H E EX hr hE,a8F N.length ds,G,_,?_,g,q,⟨fun ρ G' σ' H' s1 g1 q1=>kk .non H' .non G' .non g1 q1,fun d G' v H' r1 g1 q1=>kk v H' d G' r1 g1 q1,fun _ _ _ _ _ _ z=>z.elim,fun _ _ _ _ _ _ z=>z.elim⟩⟩;unfold a8F start;rw [r.length];exact SR.entry r
end
section
variable {X:Cx} {C:Addr} {bmB bmN:List Value} {B Bn newId nid initId inN:String} {EX:aK->aV} {x:Str} {np cpos pos:Pos} {e:Expr} {es:List Expr} {t:tZ}
theorem a2O {K:Fg} {h:Heap} (XK:K.In h) (q:jj K C bmB newId=true):∃ bm N nm q bs hdct sn sub ab col dd k0 k1 k2 k3 k5 mN,h.get? C=some (excClassObj nm q C N bs bm hdct sn sub ab col dd k0 k1 k2 k3 k5 newId)/\h.Ns N mN/\mN "__init__" = none/\OwnTail h bmB bm:=by
  unfold jj at q;split at q
  . rename_i dd cd sl ho;split at q
    . rename_i C' bm k0 k1 k2 k3 n k5 hm hs;simp only [aj,beq_iff_eq,bx] at q;obtain ⟨⟨⟨⟨⟨rfl,rfl⟩,hdel⟩,ht⟩,hok⟩,hni⟩:=q;obtain ⟨nm,bs,mro,ns,qn,hd,sn,sub,ab,col,del⟩:=cd;dsimp only at hm hdel hok hni;subst hm hdel
      have hsl:sl=#[k0,k1,k2,k3,some (.builtin n),k5]:=by
        obtain ⟨l⟩:=sl;simp only at hs;rw [hs]
      subst hsl;exact ⟨bm,ns,nm,qn,bs,hd,sn,sub,ab,col,dd,k0,k1,k2,k3,k5,_,XK _ _ ho,.of_isNs (PySem.W.isNs_of_in XK hok),PySem.W.nsMap_none_of_in XK hok hni,PySem.W.tail_of_in XK ht⟩
    . cases q
  . cases q
def wC (EX:aK->aV) (C:Addr) (t:tZ):bD:=fun _ ρ G=>t ρ G fun ds G1=>ds.length<=sizeLine/\EX ρ C G1
theorem ap7 (hc:X.calm=true) (Fn:ExcBaseFacts Bn newId inN bmN) (hBn:bmB.contains (.type Bn)=true) (FB:ExcBaseFacts B nid initId bmB) (hg:Gl X x) (hm:X.mg x=some (.ref C)) (hq:jj X.K C bmB newId=true) (hT:Thr X EX)
    (ha:PA3 X (e :: es) t) (hd:(x == ("__debug__" : Str))=false:=by decide)
    (he:starEach (e :: es) X.env=(false,eval e X.env) :: starEach es X.env:=by rfl) (hplain:(backTo cpos (starEach es X.env)).any (·.1)=false:=by rfl) :
    PS3 X (.Raise (some (.Call (.Name x np) (e :: es) [] cpos)) none pos) (wC EX C t):=by
  intro pins s σ H F I h;obtain ⟨ρ,G,E3,sr,g,q,dd⟩:=h;obtain ⟨tl,N,nm,q',bs,hdct,sn,sub,ab,col,dd',k0,k1,k2,k3,k5,mN,hC,hN,hni,T⟩:=a2O I.mod.kin hq
  refine wpAny_Raise_call_subU (C:=C) (nm:=nm) (q:=q') (N:=N) (bs:=bs) (bm:=tl) (hdct:=hdct) (sn:=sn) (sub:=sub) (ab:=ab) (col:=col) (dd:=dd') (k0:=k0) (k1:=k1) (k2:=k2) (k3:=k3) (k5:=k5)
    Fn hBn FB (mN:=mN) (T.hasType FB.hasBase) (I.ok.hd hc) (by rw [he];show (false || (backTo cpos (starEach es X.env)).any (·.1))=false;rw [hplain];rfl) hni (o7 I hg hm ⟨rfl,?_⟩ hd)
  have hA:=ha cpos pins s σ H (fun vs H1=>Ts H H1/\∃ ds G1,bV X.K H1 ds vs/\HR X.K H1 G1/\ds.length<=sizeLine/\EX ρ C G1) I ⟨ρ,G,_,sr,g,q,fun vs H1 ds G1 t1 r1 g1 q1=>⟨t1,ds,G1,r1,g1,q1.1,q1.2⟩⟩;rw [he] at hA ⊢;refine Calls.evalArgs_plain (cH hA fun us s2 ⟨vs,H2,I2,r2,t1,ds,G1,r1,g1,hl,q1⟩=>?_);exact ⟨rfl,by rw [← r2.length,← r1.length];exact hl,I2.bk _ _ hC,hN.keeps I2.bk,T.keeps I2.bk,fun h' e' hm'=>hT.made pins σ H2 s2 ρ C e' us h' I2 (sr.mono t1) hm' ⟨C,G1,rfl,g1,q1⟩⟩
end
end
section
def rE:aK->Nat->aK
  | [],_=>[]
  | _ :: r,0=>none :: r
  | x :: r,n+1=>x :: rE r n
def yF:St->Nat->St
  | [],_=>[]
  | _ :: r,0=>none :: r
  | x :: r,n+1=>x :: yF r n
theorem SR.clr {K:Fg} {H:Hp}:∀ {ρ:aK} {σ:St} (i:Nat),SR K H ρ σ->SR K H (rE ρ i) (yF σ i)
  | _,_,_,.nil => .nil
  | _,_,0,.none r => .none r
  | _,_,0,.some _ r => .none r
  | _,_,i+1,.none r => .none (SR.clr i r)
  | _,_,i+1,.some h r => .some h (SR.clr i r)
theorem a3P:∀ (σ:St) (i:Nat),(yF σ i).length=σ.length
  | [],_=>rfl
  | _ :: _,0=>rfl
  | _ :: r,i+1=>congrArg (·+1) (a3P r i)
theorem a3Q:∀ (σ:St) (i j:Nat) (v:V),(yF σ i)[j]?=some (some v)->j≠i/\σ[j]?=some (some v)
  | [],_,_,_,h=>by simp [yF] at h
  | _ :: _,0,0,_,h=>by simp [yF] at h
  | _ :: _,0,j+1,_,h=>⟨by omega,by simpa [yF] using h⟩
  | _ :: _,i+1,0,_,h=>⟨by omega,by simpa [yF] using h⟩
  | _ :: r,i+1,j+1,v,h=>by
    obtain ⟨a,b⟩:=a3Q r i j v (by simpa [yF] using h);exact ⟨by omega,by simpa using b⟩
section
variable {X:Cx}
theorem akH {w:World} {B:Heap} {x:Addr} (hok:wY P w H B) (n:B.get? x=none):H x=none:=by
  cases e0:H x with
  | none=>rfl
  | some o =>
    have lt:=(hok x o e0)
    obtain ⟨o',ho'⟩:∃ o',B.get? x=some o':=by
      cases o with
      | lst xs=>obtain ⟨_,_,_,_,e⟩:=lt;exact ⟨_,e⟩
      | tup xs=>obtain ⟨_,_,_,o,e,_⟩:=lt;exact ⟨_,e⟩
      | dK kvs=>obtain ⟨_,_,_,_,o,_,_,e,_⟩:=lt;exact ⟨_,e⟩
      | dT kvs=>obtain ⟨_,_,_,_,o,_,_,e,_⟩:=lt;exact ⟨_,e⟩
      | set S n=>obtain ⟨o,_,_,_,e,_⟩:=lt;exact ⟨_,e⟩
      | ins C dx fs=>obtain ⟨_,_,_,e,_⟩:=lt;exact ⟨_,e⟩
      | own y=>obtain ⟨_,e⟩:=lt;exact ⟨_,e⟩
      | xd fs=>obtain ⟨_,⟨_,_,_,e,_⟩,_⟩:=lt;exact ⟨_,e⟩
      | rng lo hi=>obtain ⟨_,_,_,e⟩:=lt;exact ⟨_,e⟩
      | lC ob u=>obtain ⟨e,_⟩:=lt;exact ⟨_,e⟩
      | tbl ps=>exact ⟨_,(show B.get? x=some _ from lt)⟩
      | met f y=>exact ⟨_,(show B.get? x=some _ from lt)⟩
      | ext φ=>obtain ⟨_,⟨_,e⟩,_⟩:=lt;exact ⟨_,e⟩
    rw [n] at ho';cases ho'
end
end
variable {A:Around}{vx vy:V}
section
section
variable {X:Cx} {a b c:Expr} {ta tb tc:cB} {pos:Pos}
def a78 (t:cB):cB:=fun ρ G R=>t ρ G fun x G1=>match x with
  | .int i=>R (.int (-i)) G1
  | _=>False
theorem aB1 (ha:cC X a ta):cC X (.UnaryOp .USub a pos) (a78 ta):=PE.imp (azO av0 ha) fun σ H Q h=>by
  obtain ⟨ρ,G,R,s,g,t,k⟩:=h;refine ⟨ρ,G,_,s,g,t,fun v H1 x G1 t1 r g1 q=>?_⟩;cases r with
  | int i=>exact ⟨i,rfl,k _ H1 _ G1 t1 (.int _) g1 q⟩
  | _=>exact False.elim q
def aO:Nat->D->Bool
  | 0,.tup _=>false
  | n+1,.tup xs=>xs.all (aO n)
  | _,.ref _=>false
  | _,.ty _=>false
  | _,_=>true
mutual
def eqP:D->D->Bool
  | .non,.non=>true
  | .bl a,.bl b=>a == b
  | .bl a,.int b=>(if a then 1 else 0) == b
  | .int a,.bl b=>a == (if b then 1 else 0)
  | .int a,.int b=>a == b
  | .str a,.str b=>a == b
  | .tup xs,.tup ys=>eX xs ys
  | _,_=>false
def eX:List D->List D->Bool
  | [],[]=>true
  | x :: xs,y :: ys=>eqP x y&&eX xs ys
  | _,_=>false
end
def rF (xs ys:List D) (j:Nat):Bool:=match xs[j]?,ys[j]? with
  | some a,some b=>eqP a b
  | _,_=>false
theorem a3R (n:Nat) (e:Nat->Bool):(gq (n+1)).all e=(e 0&&(gq n).all fun j=>e (j+1)):=by
  rw [List.range_succ_eq_map,qz,List.all_map];rfl
theorem j5:∀ (xs ys:List D),eX xs ys=((gq (min xs.length ys.length)).all (rF xs ys)&&xs.length == ys.length)
  | [],[]=>rfl
  | [],y :: ys=>by simp [eX]
  | x :: xs,[]=>by simp [eX]
  | x :: xs,y :: ys=>by
    have ih:=j5 xs ys;have e:min (x :: xs).length (y :: ys).length=min xs.length ys.length+1:=by simp only [jl];omega
    rw [eX,ih,e,a3R];have e0:rF (x :: xs) (y :: ys) 0=eqP x y:=rfl
    have e1:(fun j=>rF (x :: xs) (y :: ys) (j+1))=rF xs ys:=by
      funext j;simp [rF]
    have e2:((x :: xs).length == (y :: ys).length)=(xs.length == ys.length):=by
      simp only [jl];by_cases h:xs.length=ys.length
      . simp [h]
      . have h':¬ (xs.length+1=ys.length+1):=by omega
        simp [h,h']
    rw [e0,e1,e2,Bool.and_assoc]
theorem ab1 {xs ys:List D} (h:(xs.length != ys.length)=true):eX xs ys=false:=by
  rw [j5];have:(xs.length == ys.length)=false:=by simpa using h
  rw [this,Bool.and_false]
theorem a79 {xs ys:List D} (h:xs.length=ys.length):eX xs ys=(gq xs.length).all (rF xs ys):=by
  rw [j5,h];simp
mutual
theorem RD.inj {pins:List (Addr×Obj)} {σ:St} {H:Hp} {s:Shared} (I:Inv X pins σ H s):∀ {n:Nat} {x y:D} {v:V},aO n x=true->aO n y=true->RD X.K H x v->RD X.K H y v->x=y
  | _,_,_,_,_,_,.non,.non=>rfl
  | _,_,_,_,_,_,.bl _,.bl _=>rfl
  | _,_,_,_,_,_,.int _,.int _=>rfl
  | _,_,_,_,_,_,.str _,.str _=>rfl
  | _,_,_,_,hx,_,.ty _,.ty _=>rfl
  | _,_,_,_,_,_,.ref _,.ref _=>rfl
  | n,_,_,_,hx,_,.ref _,.tup _ _ _=>by cases n <;> simp [aO] at hx
  | n,_,_,_,_,hy,.tup _ _ _,.ref _=>by cases n <;> simp [aO] at hy
  | 0,_,_,_,hx,_,.tup _ _ _,.tup _ _ _=>by simp [aO] at hx
  | n+1,_,_,_,hx,hy,.tup h1 r1 _,.tup h2 r2 _=>by
    have e:=I.wB h1 h2;subst e;rw [bV.inj I (n:=n) (by simpa [aO] using hx) (by simpa [aO] using hy) r1 r2]
theorem bV.inj {pins:List (Addr×Obj)} {σ:St} {H:Hp} {s:Shared} (I:Inv X pins σ H s):∀ {n:Nat} {xs ys:List D} {vs:List V},(∀ x∈xs,aO n x=true)->(∀ y∈ys,aO n y=true)->bV X.K H xs vs->bV X.K H ys vs->xs=ys
  | _,_,_,_,_,_,.nil,.nil=>rfl
  | n,_,_,_,hx,hy,.cons h1 r1,.cons h2 r2=>by
    rw [RD.inj I (hx _ (by simp)) (hy _ (by simp)) h1 h2,bV.inj I (fun x m=>hx x (by simp [m])) (fun y m=>hy y (by simp [m])) r1 r2]
end
mutual
theorem ab2:∀ {n:Nat} {x:D},aO n x=true->eqP x x=true
  | _,.non,_=>rfl
  | _,.bl b,_=>by simp [eqP]
  | _,.int b,_=>by simp [eqP]
  | _,.str b,_=>by simp [eqP]
  | n,.ref _,h=>by cases n <;> simp [aO] at h
  | n,.ty _,h=>by cases n <;> simp [aO] at h
  | 0,.tup _,h=>by simp [aO] at h
  | n+1,.tup xs,h=>by rw [eqP];exact a0L (n:=n) (by simpa [aO] using h)
theorem a0L:∀ {n:Nat} {xs:List D},(∀ x∈xs,aO n x=true)->eX xs xs=true
  | _,[],_=>rfl
  | n,x :: xs,h=>by rw [eX,ab2 (h x (by simp)),a0L fun y m=>h y (by simp [m])];rfl
end
theorem Vals.asZ {K:Fg} (r:bV K H ds xs) (v:Vals xs us) {j:Nat} (e:us[j]?=some u):∃ d x,ds[j]?=some d/\RD K H d x/\RelV x u:=by
  have hj:j < us.length:=(bh.mp e).1;have hj':j < xs.length:=by rw [v.length];exact hj
  have ex:xs[j]?=some xs[j]:=aq hj';obtain ⟨u',e1,r1⟩:=v.get ex;rw [e] at e1;cases e1;obtain ⟨d,e2,r2⟩:=r.ak9 ex;exact ⟨d,_,e2,r2,r1⟩
theorem uE {K:Fg} {n:Nat} {xs ys:List D} {vx vy:List V} {ws:List Value} (rx:bV K H xs vx) (ry:bV K H ys vy) (vx':Vals vx us) (vy':Vals vy ws)
    (ih:∀ x∈xs,∀ y∈ys,∀ (v w:V) (u t:Value),RD K H x v->RD K H y w->RelV v u->RelV w t->SeqAt.EqAt A s u t (eqP x y)) :
    ∀ j (h1:j < us.toArray.size) (h2:j < ws.toArray.size),SeqAt.EqAt A s us.toArray[j] ws.toArray[j] (rF xs ys j):=by
  intro j h1 h2;have e1:us[j]?=some us.toArray[j]:=by simp [aq (show j < us.length by simpa using h1)]
  have e2:ws[j]?=some ws.toArray[j]:=by simp [aq (show j < ws.length by simpa using h2)]
  obtain ⟨d,x,f1,f2,f3⟩:=Vals.asZ rx vx' e1;obtain ⟨d',y,g1,g2,g3⟩:=Vals.asZ ry vy' e2;have e:rF xs ys j=eqP d d':=by simp [rF,f1,g1]
  rw [e];exact ih d (iz f1) d' (iz g1) x y _ _ f2 g2 f3 g3
def scD:D->Bool
  | .non=>true
  | .bl _=>true
  | .int _=>true
  | .str _=>true
  | _=>false
theorem ap8 {K:Fg} {x y:D} {v:Value} (hx:scD x=true) (hy:scD y=true) (rx:RD K H x vx) (ry:RD K H y vy) (ru:RelV vx u) (rv:RelV vy v):SeqAt.EqAt A s u v (eqP x y):=by
  have fx:tD vx=true:=by cases rx <;> first | rfl | cases hx
  have fy:tD vy=true:=by cases ry <;> first | rfl | cases hy
  have e:eqV vx vy=eqP x y:=by cases rx <;> cases ry <;> first | (simp [eqV,eqP];done) | cases hx | cases hy
  rw [← e];exact a0J ru rv fx fy
theorem uF (h:A.units+(n+1) < cLine):A.in1.units+n < cLine:=by
  show A.units+1+n < cLine;omega
theorem a0M {σ:St} (I:Inv X pins σ H s):∀ (n:Nat) (A:Around) (x y:D) (vx vy:V) (u v:Value),A.units+n < cLine->aO n x=true->aO n y=true->RD X.K H x vx->RD X.K H y vy->RelV vx u->RelV vy v->SeqAt.EqAt A s u v (eqP x y):=by
  intro n
  induction n with
  | zero =>
    intro A x y vx vy u v hu hx hy rx ry ru rv;have sx:scD x=true:=by cases x <;> first | rfl | (simp [aO] at hx)
    have sy:scD y=true:=by cases y <;> first | rfl | (simp [aO] at hy)
    exact ap8 sx sy rx ry ru rv
  | succ n ih =>
    intro A x y vx vy u v hu hx hy rx ry ru rv;have hu0:A.units < cLine:=by omega
    cases rx with
    | @tup ax xs ds hax rax eax =>
      cases ru;obtain ⟨its,vv,px,_⟩:=I.tuple hax;cases ry with
      | @tup ay ys es hay ray eay =>
        cases rv;obtain ⟨jts,ww,py,_⟩:=I.tuple hay;by_cases hab:ax=ay
        . subst hab;have e:=RD.inj I (n:=n+1) hx hy (.tup hax rax eax) (.tup hay ray eay);rw [e,ab2 hy];exact SeqAt.EqAt.same _
        . refine SeqAt.EqAt.of_refs hab ?_
          have z:=SeqAt.RcAt.tuples (e:=rF ds es) (show s.heap.IsTuple ax its.toArray from px) (show s.heap.IsTuple ay jts.toArray from py) hu0 (uE (n:=n) rax ray vv ww fun x mx y my v w u t r1 r2 r3 r4 =>
            ih A.in1 x y v w u t (uF hu) (gj.mp (by simpa [aO] using hx) x mx) (gj.mp (by simpa [aO] using hy) y my) r1 r2 r3 r4)
          have e:((gq (min its.toArray.size jts.toArray.size)).all (rF ds es)&&its.toArray.size == jts.toArray.size)=eqP (.tup ds) (.tup es):=by
            rw [eqP,j5,bw,bw,← vv.length,← ww.length,← rax.length,← ray.length]
          rw [e] at z;exact z
      | non=>cases rv;exact SeqAt.EqAt.tuple_none (show s.heap.IsTuple ax its.toArray from px) hu0
      | bl b=>cases rv;exact SeqAt.EqAt.tuple_bool b (show s.heap.IsTuple ax its.toArray from px) hu0
      | int i=>obtain ⟨t,rfl⟩:=rv;exact SeqAt.EqAt.tuple_int i t (show s.heap.IsTuple ax its.toArray from px) hu0
      | str z=>obtain ⟨t,rfl⟩:=rv;exact SeqAt.EqAt.tuple_str z t (show s.heap.IsTuple ax its.toArray from px) hu0
      | ref _=>simp [aO] at hy
      | ty _=>simp [aO] at hy
    | ref _=>simp [aO] at hx
    | ty _=>simp [aO] at hx
    | non =>
      cases ry with
      | @tup ay ys es hay ray =>
        cases rv;cases ru;obtain ⟨jts,ww,py,_⟩:=I.tuple hay;exact SeqAt.EqAt.none_tuple (show s.heap.IsTuple ay jts.toArray from py) hu0
      | ref _=>simp [aO] at hy
      | ty _=>simp [aO] at hy
      | _=>exact a0J ru rv rfl rfl
    | bl b =>
      cases ry with
      | @tup ay ys es hay ray =>
        cases rv;cases ru;obtain ⟨jts,ww,py,_⟩:=I.tuple hay;exact SeqAt.EqAt.bool_tuple b (show s.heap.IsTuple ay jts.toArray from py) hu0
      | ref _=>simp [aO] at hy
      | ty _=>simp [aO] at hy
      | _=>exact a0J ru rv rfl rfl
    | int i =>
      cases ry with
      | @tup ay ys es hay ray =>
        cases rv;obtain ⟨t,rfl⟩:=ru;obtain ⟨jts,ww,py,_⟩:=I.tuple hay;exact SeqAt.EqAt.int_tuple i t (show s.heap.IsTuple ay jts.toArray from py) hu0
      | ref _=>simp [aO] at hy
      | ty _=>simp [aO] at hy
      | _=>exact a0J ru rv rfl rfl
    | str z =>
      cases ry with
      | @tup ay ys es hay ray =>
        cases rv;obtain ⟨t,rfl⟩:=ru;obtain ⟨jts,ww,py,_⟩:=I.tuple hay;exact SeqAt.EqAt.str_tuple z t (show s.heap.IsTuple ay jts.toArray from py) hu0
      | ref _=>simp [aO] at hy
      | ty _=>simp [aO] at hy
      | _=>exact a0J ru rv rfl rfl
end
end
variable {a1 a2:Addr}
section
section
variable {X:Cx}
theorem aF5 {σ:St} (I:Inv X pins σ H s) (n:Nat) (A:Around) (x y:D) (vx vy:V) (u v:Value) (hu:A.units+(n+1) < cLine) (hx:aO (n+1) x=true) (hy:aO (n+1) y=true) (rx:RD X.K H x vx) (ry:RD X.K H y vy) (ru:RelV vx u) (rv:RelV vy v):SeqAt.RcAt A s u v (eqP x y):=by
  have hu0:A.units < cLine:=by omega
  cases rx with
  | non =>
    cases ru;cases ry with
    | non =>
      cases rv
      first | exact SeqAt.RcAt.none_none | (simp only [eqP];exact SeqAt.RcAt.none_none)
    | bl b2 =>
      cases rv
      first | exact SeqAt.RcAt.none_bool b2 | (simp only [eqP];exact SeqAt.RcAt.none_bool b2)
    | int i2 =>
      obtain ⟨t2,rfl⟩:=rv
      first | exact SeqAt.RcAt.none_int i2 t2 | (simp only [eqP];exact SeqAt.RcAt.none_int i2 t2)
    | str z2 =>
      obtain ⟨t2,rfl⟩:=rv
      first | exact SeqAt.RcAt.none_str z2 t2 | (simp only [eqP];exact SeqAt.RcAt.none_str z2 t2)
    | @tup a2 xs2 pR h2 r2 =>
      cases rv;obtain ⟨its2,vv2,p2,_⟩:=I.tuple h2
      first | exact SeqAt.RcAt.none_tuple (show s.heap.IsTuple a2 its2.toArray from p2) hu0 | (simp only [eqP];exact SeqAt.RcAt.none_tuple (show s.heap.IsTuple a2 its2.toArray from p2) hu0)
    | ref _=>simp [aO] at hy
    | ty _=>simp [aO] at hy
  | bl b1 =>
    cases ru;cases ry with
    | non =>
      cases rv
      first | exact SeqAt.RcAt.bool_none b1 | (simp only [eqP];exact SeqAt.RcAt.bool_none b1)
    | bl b2 =>
      cases rv
      first | exact SeqAt.RcAt.bool_bool b1 b2 | (simp only [eqP];exact SeqAt.RcAt.bool_bool b1 b2)
    | int i2 =>
      obtain ⟨t2,rfl⟩:=rv
      first | exact SeqAt.RcAt.bool_int b1 i2 t2 | (simp only [eqP];exact SeqAt.RcAt.bool_int b1 i2 t2)
    | str z2 =>
      obtain ⟨t2,rfl⟩:=rv
      first | exact SeqAt.RcAt.bool_str b1 z2 t2 | (simp only [eqP];exact SeqAt.RcAt.bool_str b1 z2 t2)
    | @tup a2 xs2 pR h2 r2 =>
      cases rv;obtain ⟨its2,vv2,p2,_⟩:=I.tuple h2
      first | exact SeqAt.RcAt.bool_tuple b1 (show s.heap.IsTuple a2 its2.toArray from p2) hu0 | (simp only [eqP];exact SeqAt.RcAt.bool_tuple b1 (show s.heap.IsTuple a2 its2.toArray from p2) hu0)
    | ref _=>simp [aO] at hy
    | ty _=>simp [aO] at hy
  | int i1 =>
    obtain ⟨t1,rfl⟩:=ru;cases ry with
    | non =>
      cases rv
      first | exact SeqAt.RcAt.int_none i1 t1 | (simp only [eqP];exact SeqAt.RcAt.int_none i1 t1)
    | bl b2 =>
      cases rv
      first | exact SeqAt.RcAt.int_bool i1 t1 b2 | (simp only [eqP];exact SeqAt.RcAt.int_bool i1 t1 b2)
    | int i2 =>
      obtain ⟨t2,rfl⟩:=rv
      first | exact SeqAt.RcAt.int_int i1 t1 i2 t2 | (simp only [eqP];exact SeqAt.RcAt.int_int i1 t1 i2 t2)
    | str z2 =>
      obtain ⟨t2,rfl⟩:=rv
      first | exact SeqAt.RcAt.int_str i1 t1 z2 t2 | (simp only [eqP];exact SeqAt.RcAt.int_str i1 t1 z2 t2)
    | @tup a2 xs2 pR h2 r2 =>
      cases rv;obtain ⟨its2,vv2,p2,_⟩:=I.tuple h2
      first | exact SeqAt.RcAt.int_tuple i1 t1 (show s.heap.IsTuple a2 its2.toArray from p2) hu0 | (simp only [eqP];exact SeqAt.RcAt.int_tuple i1 t1 (show s.heap.IsTuple a2 its2.toArray from p2) hu0)
    | ref _=>simp [aO] at hy
    | ty _=>simp [aO] at hy
  | str z1 =>
    obtain ⟨t1,rfl⟩:=ru;cases ry with
    | non =>
      cases rv
      first | exact SeqAt.RcAt.str_none z1 t1 | (simp only [eqP];exact SeqAt.RcAt.str_none z1 t1)
    | bl b2 =>
      cases rv
      first | exact SeqAt.RcAt.str_bool z1 t1 b2 | (simp only [eqP];exact SeqAt.RcAt.str_bool z1 t1 b2)
    | int i2 =>
      obtain ⟨t2,rfl⟩:=rv
      first | exact SeqAt.RcAt.str_int z1 t1 i2 t2 | (simp only [eqP];exact SeqAt.RcAt.str_int z1 t1 i2 t2)
    | str z2 =>
      obtain ⟨t2,rfl⟩:=rv
      first | exact SeqAt.RcAt.str_str z1 t1 z2 t2 | (simp only [eqP];exact SeqAt.RcAt.str_str z1 t1 z2 t2)
    | @tup a2 xs2 pR h2 r2 =>
      cases rv;obtain ⟨its2,vv2,p2,_⟩:=I.tuple h2
      first | exact SeqAt.RcAt.str_tuple z1 t1 (show s.heap.IsTuple a2 its2.toArray from p2) hu0 | (simp only [eqP];exact SeqAt.RcAt.str_tuple z1 t1 (show s.heap.IsTuple a2 its2.toArray from p2) hu0)
    | ref _=>simp [aO] at hy
    | ty _=>simp [aO] at hy
  | @tup a1 xs1 ds1 h1 r1 =>
    cases ru;obtain ⟨cV,vv1,p1,_⟩:=I.tuple h1;cases ry with
    | non =>
      cases rv
      first | exact SeqAt.RcAt.tuple_none (show s.heap.IsTuple a1 cV.toArray from p1) hu0 | (simp only [eqP];exact SeqAt.RcAt.tuple_none (show s.heap.IsTuple a1 cV.toArray from p1) hu0)
    | bl b2 =>
      cases rv
      first | exact SeqAt.RcAt.tuple_bool b2 (show s.heap.IsTuple a1 cV.toArray from p1) hu0 | (simp only [eqP];exact SeqAt.RcAt.tuple_bool b2 (show s.heap.IsTuple a1 cV.toArray from p1) hu0)
    | int i2 =>
      obtain ⟨t2,rfl⟩:=rv
      first | exact SeqAt.RcAt.tuple_int i2 t2 (show s.heap.IsTuple a1 cV.toArray from p1) hu0 | (simp only [eqP];exact SeqAt.RcAt.tuple_int i2 t2 (show s.heap.IsTuple a1 cV.toArray from p1) hu0)
    | str z2 =>
      obtain ⟨t2,rfl⟩:=rv
      first | exact SeqAt.RcAt.tuple_str z2 t2 (show s.heap.IsTuple a1 cV.toArray from p1) hu0 | (simp only [eqP];exact SeqAt.RcAt.tuple_str z2 t2 (show s.heap.IsTuple a1 cV.toArray from p1) hu0)
    | @tup a2 xs2 pR h2 r2 =>
      cases rv;obtain ⟨its2,vv2,p2,_⟩:=I.tuple h2
      have z:=SeqAt.RcAt.tuples (e:=rF ds1 pR) (show s.heap.IsTuple a1 cV.toArray from p1) (show s.heap.IsTuple a2 its2.toArray from p2) hu0 (uE (n:=n) r1 r2 vv1 vv2 fun x mx y my v w u t q1 q2 q3 q4 =>
            a0M I n A.in1 x y v w u t (uF hu) (gj.mp (by simpa [aO] using hx) x mx) (gj.mp (by simpa [aO] using hy) y my) q1 q2 q3 q4)
      have e:((gq (min cV.toArray.size its2.toArray.size)).all (rF ds1 pR)&&cV.toArray.size == its2.toArray.size)=eqP (.tup ds1) (.tup pR):=by
        rw [eqP,j5,bw,bw,← vv1.length,← vv2.length,← r1.length,← r2.length]
      rw [e] at z;exact z
    | ref _=>simp [aO] at hy
    | ty _=>simp [aO] at hy
  | ref _=>simp [aO] at hx
  | ty _=>simp [aO] at hx
theorem aF6 {σ:St} (I:Inv X pins σ H s) (n:Nat) (A:Around) (hl:wU X.K H a1 xs) (y:D) (vy:V) (v:Value) (hu0:A.units < cLine) (hy:aO n y=true) (ry:RD X.K H y vy) (rv:RelV vy v):SeqAt.RcAt A s (.ref a1) v false:=by
  obtain ⟨cV,vv1,pl,_⟩:=I.list hl;have p1:=pl.isList;cases ry with
  | non =>
    cases rv;exact SeqAt.RcAt.list_none p1 hu0
  | bl b2 =>
    cases rv;exact SeqAt.RcAt.list_bool b2 p1 hu0
  | int i2 =>
    obtain ⟨t2,rfl⟩:=rv;exact SeqAt.RcAt.list_int i2 t2 p1 hu0
  | str z2 =>
    obtain ⟨t2,rfl⟩:=rv;exact SeqAt.RcAt.list_str z2 t2 p1 hu0
  | @tup a2 xs2 pR h2 r2 =>
    cases rv;obtain ⟨its2,vv2,p2,_⟩:=I.tuple h2;exact SeqAt.RcAt.list_tuple (show s.heap.IsList a1 cV.toArray from p1) (show s.heap.IsTuple a2 its2.toArray from p2) hu0
  | ref _=>cases n <;> simp [aO] at hy
  | ty _=>cases n <;> simp [aO] at hy
theorem aF7 {σ:St} (I:Inv X pins σ H s) (n:Nat) (A:Around) (hl:wU X.K H a2 xs) (y:D) (vy:V) (v:Value) (hu0:A.units < cLine) (hy:aO n y=true) (ry:RD X.K H y vy) (rv:RelV vy v):SeqAt.RcAt A s v (.ref a2) false:=by
  obtain ⟨its2,vv2,pl,_⟩:=I.list hl;have p2:=pl.isList;cases ry with
  | non =>
    cases rv;exact SeqAt.RcAt.none_list p2 hu0
  | bl b1 =>
    cases rv;exact SeqAt.RcAt.bool_list b1 p2 hu0
  | int i1 =>
    obtain ⟨t1,rfl⟩:=rv;exact SeqAt.RcAt.int_list i1 t1 p2 hu0
  | str z1 =>
    obtain ⟨t1,rfl⟩:=rv;exact SeqAt.RcAt.str_list z1 t1 p2 hu0
  | @tup a1 xs1 ds1 h1 r1 =>
    cases rv;obtain ⟨cV,vv1,p1,_⟩:=I.tuple h1;exact SeqAt.RcAt.tuple_list (show s.heap.IsTuple a1 cV.toArray from p1) (show s.heap.IsList a2 its2.toArray from p2) hu0
  | ref _=>cases n <;> simp [aO] at hy
  | ty _=>cases n <;> simp [aO] at hy
theorem aF8 {σ:St} (I:Inv X pins σ H s) (n:Nat) (A:Around) {xs1 xs2:List V} {ds1 pR:List D} (h1:wU X.K H a1 xs1) (h2:wU X.K H a2 xs2) (r1:bV X.K H ds1 xs1) (r2:bV X.K H pR xs2)
    (hu:A.units+(n+1) < cLine) (hx:ds1.all (aO n)=true) (hy:pR.all (aO n)=true):SeqAt.RcAt A s (.ref a1) (.ref a2) (eX ds1 pR):=by
  have hu0:A.units < cLine:=by omega
  obtain ⟨cV,vv1,q1,_⟩:=I.list h1;obtain ⟨its2,vv2,q2,_⟩:=I.list h2;have p1:=q1.isList;have p2:=q2.isList;by_cases hl:ds1.length=pR.length
  . have hsz:cV.toArray.size=its2.toArray.size:=by rw [bw,bw,← vv1.length,← vv2.length,← r1.length,← r2.length];exact hl
    have z:=SeqAt.RcAt.lists (e:=rF ds1 pR) p1 p2 hsz hu0 (uE (n:=n) r1 r2 vv1 vv2 fun x mx y my v w u t q1 q2 q3 q4 =>
            a0M I n A.in1 x y v w u t (uF hu) (gj.mp hx x mx) (gj.mp hy y my) q1 q2 q3 q4)
    have e:(gq cV.toArray.size).all (rF ds1 pR)=eX ds1 pR:=by rw [a79 hl,bw,← vv1.length,← r1.length]
    rw [e] at z;exact z
  . have hne:(cV.toArray.size != its2.toArray.size)=true:=by rw [bw,bw,← vv1.length,← vv2.length,← r1.length,← r2.length];simpa using hl
    have e:eX ds1 pR=false:=ab1 (by simpa using hl);rw [e];exact SeqAt.RcAt.lists_lengths p1 p2 hne hu0
theorem avU {σ:St} (I:Inv X pins σ H s) (n:Nat) (A:Around) (x y:D) (vx vy:V) (u v:Value) (hu:A.units+(n+1) < cLine) (hx:aO (n+1) x=true) (hy:aO (n+1) y=true) (rx:RD X.K H x vx) (ry:RD X.K H y vy) (ru:RelV vx u) (rv:RelV vy v):SeqAt.RcNeAt A s u v (!eqP x y):=by
  have hu0:A.units < cLine:=by omega
  cases rx with
  | non =>
    cases ru;cases ry with
    | non =>
      cases rv
      first | exact SeqAt.RcNeAt.none_none | (simp only [eqP];exact SeqAt.RcNeAt.none_none)
    | bl b2 =>
      cases rv
      first | exact SeqAt.RcNeAt.none_bool b2 | (simp only [eqP];exact SeqAt.RcNeAt.none_bool b2)
    | int i2 =>
      obtain ⟨t2,rfl⟩:=rv
      first | exact SeqAt.RcNeAt.none_int i2 t2 | (simp only [eqP];exact SeqAt.RcNeAt.none_int i2 t2)
    | str z2 =>
      obtain ⟨t2,rfl⟩:=rv
      first | exact SeqAt.RcNeAt.none_str z2 t2 | (simp only [eqP];exact SeqAt.RcNeAt.none_str z2 t2)
    | @tup a2 xs2 pR h2 r2 =>
      cases rv;obtain ⟨its2,vv2,p2,_⟩:=I.tuple h2
      first | exact SeqAt.RcNeAt.none_tuple (show s.heap.IsTuple a2 its2.toArray from p2) hu0 | (simp only [eqP];exact SeqAt.RcNeAt.none_tuple (show s.heap.IsTuple a2 its2.toArray from p2) hu0)
    | ref _=>simp [aO] at hy
    | ty _=>simp [aO] at hy
  | bl b1 =>
    cases ru;cases ry with
    | non =>
      cases rv
      first | exact SeqAt.RcNeAt.bool_none b1 | (simp only [eqP];exact SeqAt.RcNeAt.bool_none b1)
    | bl b2 =>
      cases rv
      first | exact SeqAt.RcNeAt.bool_bool b1 b2 | (simp only [eqP];exact SeqAt.RcNeAt.bool_bool b1 b2)
    | int i2 =>
      obtain ⟨t2,rfl⟩:=rv
      first | exact SeqAt.RcNeAt.bool_int b1 i2 t2 | (simp only [eqP];exact SeqAt.RcNeAt.bool_int b1 i2 t2)
    | str z2 =>
      obtain ⟨t2,rfl⟩:=rv
      first | exact SeqAt.RcNeAt.bool_str b1 z2 t2 | (simp only [eqP];exact SeqAt.RcNeAt.bool_str b1 z2 t2)
    | @tup a2 xs2 pR h2 r2 =>
      cases rv;obtain ⟨its2,vv2,p2,_⟩:=I.tuple h2
      first | exact SeqAt.RcNeAt.bool_tuple b1 (show s.heap.IsTuple a2 its2.toArray from p2) hu0 | (simp only [eqP];exact SeqAt.RcNeAt.bool_tuple b1 (show s.heap.IsTuple a2 its2.toArray from p2) hu0)
    | ref _=>simp [aO] at hy
    | ty _=>simp [aO] at hy
  | int i1 =>
    obtain ⟨t1,rfl⟩:=ru;cases ry with
    | non =>
      cases rv
      first | exact SeqAt.RcNeAt.int_none i1 t1 | (simp only [eqP];exact SeqAt.RcNeAt.int_none i1 t1)
    | bl b2 =>
      cases rv
      first | exact SeqAt.RcNeAt.int_bool i1 t1 b2 | (simp only [eqP];exact SeqAt.RcNeAt.int_bool i1 t1 b2)
    | int i2 =>
      obtain ⟨t2,rfl⟩:=rv
      first | exact SeqAt.RcNeAt.int_int i1 t1 i2 t2 | (simp only [eqP];exact SeqAt.RcNeAt.int_int i1 t1 i2 t2)
    | str z2 =>
      obtain ⟨t2,rfl⟩:=rv
      first | exact SeqAt.RcNeAt.int_str i1 t1 z2 t2 | (simp only [eqP];exact SeqAt.RcNeAt.int_str i1 t1 z2 t2)
    | @tup a2 xs2 pR h2 r2 =>
      cases rv;obtain ⟨its2,vv2,p2,_⟩:=I.tuple h2
      first | exact SeqAt.RcNeAt.int_tuple i1 t1 (show s.heap.IsTuple a2 its2.toArray from p2) hu0 | (simp only [eqP];exact SeqAt.RcNeAt.int_tuple i1 t1 (show s.heap.IsTuple a2 its2.toArray from p2) hu0)
    | ref _=>simp [aO] at hy
    | ty _=>simp [aO] at hy
  | str z1 =>
    obtain ⟨t1,rfl⟩:=ru;cases ry with
    | non =>
      cases rv
      first | exact SeqAt.RcNeAt.str_none z1 t1 | (simp only [eqP];exact SeqAt.RcNeAt.str_none z1 t1)
    | bl b2 =>
      cases rv
      first | exact SeqAt.RcNeAt.str_bool z1 t1 b2 | (simp only [eqP];exact SeqAt.RcNeAt.str_bool z1 t1 b2)
    | int i2 =>
      obtain ⟨t2,rfl⟩:=rv
      first | exact SeqAt.RcNeAt.str_int z1 t1 i2 t2 | (simp only [eqP];exact SeqAt.RcNeAt.str_int z1 t1 i2 t2)
    | str z2 =>
      obtain ⟨t2,rfl⟩:=rv
      first | exact SeqAt.RcNeAt.str_str z1 t1 z2 t2 | (simp only [eqP];exact SeqAt.RcNeAt.str_str z1 t1 z2 t2)
    | @tup a2 xs2 pR h2 r2 =>
      cases rv;obtain ⟨its2,vv2,p2,_⟩:=I.tuple h2
      first | exact SeqAt.RcNeAt.str_tuple z1 t1 (show s.heap.IsTuple a2 its2.toArray from p2) hu0 | (simp only [eqP];exact SeqAt.RcNeAt.str_tuple z1 t1 (show s.heap.IsTuple a2 its2.toArray from p2) hu0)
    | ref _=>simp [aO] at hy
    | ty _=>simp [aO] at hy
  | @tup a1 xs1 ds1 h1 r1 =>
    cases ru;obtain ⟨cV,vv1,p1,_⟩:=I.tuple h1;cases ry with
    | non =>
      cases rv
      first | exact SeqAt.RcNeAt.tuple_none (show s.heap.IsTuple a1 cV.toArray from p1) hu0 | (simp only [eqP];exact SeqAt.RcNeAt.tuple_none (show s.heap.IsTuple a1 cV.toArray from p1) hu0)
    | bl b2 =>
      cases rv
      first | exact SeqAt.RcNeAt.tuple_bool b2 (show s.heap.IsTuple a1 cV.toArray from p1) hu0 | (simp only [eqP];exact SeqAt.RcNeAt.tuple_bool b2 (show s.heap.IsTuple a1 cV.toArray from p1) hu0)
    | int i2 =>
      obtain ⟨t2,rfl⟩:=rv
      first | exact SeqAt.RcNeAt.tuple_int i2 t2 (show s.heap.IsTuple a1 cV.toArray from p1) hu0 | (simp only [eqP];exact SeqAt.RcNeAt.tuple_int i2 t2 (show s.heap.IsTuple a1 cV.toArray from p1) hu0)
    | str z2 =>
      obtain ⟨t2,rfl⟩:=rv
      first | exact SeqAt.RcNeAt.tuple_str z2 t2 (show s.heap.IsTuple a1 cV.toArray from p1) hu0 | (simp only [eqP];exact SeqAt.RcNeAt.tuple_str z2 t2 (show s.heap.IsTuple a1 cV.toArray from p1) hu0)
    | @tup a2 xs2 pR h2 r2 =>
      cases rv;obtain ⟨its2,vv2,p2,_⟩:=I.tuple h2
      have z:=SeqAt.RcNeAt.tuples (e:=rF ds1 pR) (show s.heap.IsTuple a1 cV.toArray from p1) (show s.heap.IsTuple a2 its2.toArray from p2) hu0 (uE (n:=n) r1 r2 vv1 vv2 fun x mx y my v w u t q1 q2 q3 q4 =>
            a0M I n A.in1 x y v w u t (uF hu) (gj.mp (by simpa [aO] using hx) x mx) (gj.mp (by simpa [aO] using hy) y my) q1 q2 q3 q4)
      have e:((gq (min cV.toArray.size its2.toArray.size)).all (rF ds1 pR)&&cV.toArray.size == its2.toArray.size)=eqP (.tup ds1) (.tup pR):=by
        rw [eqP,j5,bw,bw,← vv1.length,← vv2.length,← r1.length,← r2.length]
      rw [e] at z;exact z
    | ref _=>simp [aO] at hy
    | ty _=>simp [aO] at hy
  | ref _=>simp [aO] at hx
  | ty _=>simp [aO] at hx
theorem avV {σ:St} (I:Inv X pins σ H s) (n:Nat) (A:Around) (hl:wU X.K H a1 xs) (y:D) (vy:V) (v:Value) (hu0:A.units < cLine) (hy:aO n y=true) (ry:RD X.K H y vy) (rv:RelV vy v):SeqAt.RcNeAt A s (.ref a1) v true:=by
  obtain ⟨cV,vv1,pl,_⟩:=I.list hl;have p1:=pl.isList;cases ry with
  | non =>
    cases rv;exact SeqAt.RcNeAt.list_none p1 hu0
  | bl b2 =>
    cases rv;exact SeqAt.RcNeAt.list_bool b2 p1 hu0
  | int i2 =>
    obtain ⟨t2,rfl⟩:=rv;exact SeqAt.RcNeAt.list_int i2 t2 p1 hu0
  | str z2 =>
    obtain ⟨t2,rfl⟩:=rv;exact SeqAt.RcNeAt.list_str z2 t2 p1 hu0
  | @tup a2 xs2 pR h2 r2 =>
    cases rv;obtain ⟨its2,vv2,p2,_⟩:=I.tuple h2;exact SeqAt.RcNeAt.list_tuple (show s.heap.IsList a1 cV.toArray from p1) (show s.heap.IsTuple a2 its2.toArray from p2) hu0
  | ref _=>cases n <;> simp [aO] at hy
  | ty _=>cases n <;> simp [aO] at hy
theorem avW {σ:St} (I:Inv X pins σ H s) (n:Nat) (A:Around) (hl:wU X.K H a2 xs) (y:D) (vy:V) (v:Value) (hu0:A.units < cLine) (hy:aO n y=true) (ry:RD X.K H y vy) (rv:RelV vy v):SeqAt.RcNeAt A s v (.ref a2) true:=by
  obtain ⟨its2,vv2,pl,_⟩:=I.list hl;have p2:=pl.isList;cases ry with
  | non =>
    cases rv;exact SeqAt.RcNeAt.none_list p2 hu0
  | bl b1 =>
    cases rv;exact SeqAt.RcNeAt.bool_list b1 p2 hu0
  | int i1 =>
    obtain ⟨t1,rfl⟩:=rv;exact SeqAt.RcNeAt.int_list i1 t1 p2 hu0
  | str z1 =>
    obtain ⟨t1,rfl⟩:=rv;exact SeqAt.RcNeAt.str_list z1 t1 p2 hu0
  | @tup a1 xs1 ds1 h1 r1 =>
    cases rv;obtain ⟨cV,vv1,p1,_⟩:=I.tuple h1;exact SeqAt.RcNeAt.tuple_list (show s.heap.IsTuple a1 cV.toArray from p1) (show s.heap.IsList a2 its2.toArray from p2) hu0
  | ref _=>cases n <;> simp [aO] at hy
  | ty _=>cases n <;> simp [aO] at hy
theorem avX {σ:St} (I:Inv X pins σ H s) (n:Nat) (A:Around) {xs1 xs2:List V} {ds1 pR:List D} (h1:wU X.K H a1 xs1) (h2:wU X.K H a2 xs2) (r1:bV X.K H ds1 xs1) (r2:bV X.K H pR xs2)
    (hu:A.units+(n+1) < cLine) (hx:ds1.all (aO n)=true) (hy:pR.all (aO n)=true):SeqAt.RcNeAt A s (.ref a1) (.ref a2) (!eX ds1 pR):=by
  have hu0:A.units < cLine:=by omega
  obtain ⟨cV,vv1,q1,_⟩:=I.list h1;obtain ⟨its2,vv2,q2,_⟩:=I.list h2;have p1:=q1.isList;have p2:=q2.isList;by_cases hl:ds1.length=pR.length
  . have hsz:cV.toArray.size=its2.toArray.size:=by rw [bw,bw,← vv1.length,← vv2.length,← r1.length,← r2.length];exact hl
    have z:=SeqAt.RcNeAt.lists (e:=rF ds1 pR) p1 p2 hsz hu0 (uE (n:=n) r1 r2 vv1 vv2 fun x mx y my v w u t q1 q2 q3 q4 =>
            a0M I n A.in1 x y v w u t (uF hu) (gj.mp hx x mx) (gj.mp hy y my) q1 q2 q3 q4)
    have e:(gq cV.toArray.size).all (rF ds1 pR)=eX ds1 pR:=by rw [a79 hl,bw,← vv1.length,← r1.length]
    rw [e] at z;exact z
  . have hne:(cV.toArray.size != its2.toArray.size)=true:=by rw [bw,bw,← vv1.length,← vv2.length,← r1.length,← r2.length];simpa using hl
    have e:eX ds1 pR=false:=ab1 (by simpa using hl);rw [e];exact SeqAt.RcNeAt.lists_lengths p1 p2 hne hu0
def eqG (G:Gp) (x y:D) (k:Bool->Prop):Prop:=match x,y with
  | .ref a,.ref b=>(match aU G a,aU G b with
    | some xs,some ys=>xs.all (aO 20)=true/\ys.all (aO 20)=true/\k (eX xs ys)
    | _,_=>False)
  | .ref a,y=>(match aU G a with
    | some _=>aO 20 y=true/\k false
    | none=>False)
  | x,.ref b=>(match aU G b with
    | some _=>aO 20 x=true/\k false
    | none=>False)
  | x,y=>aO 20 x=true/\aO 20 y=true/\k (eqP x y)
def jG:R3:=fun x y G R=>eqG G x y fun b=>R (.bl b) G
def lD:R3:=fun x y G R=>eqG G x y fun b=>R (.bl (!b)) G
theorem a8K {r3:R3} (h:∀ (pins:List (Addr×Obj)) (s:Shared) (σ:St) (H:Hp) (x y:D) (vx vy:V) (u v:Value) (G:Gp) (R:fY) (Q:VK),Inv X pins σ H s->RD X.K H x vx->RD X.K H y vy->RelV vx u->RelV vy v->HR X.K H G->r3 x y G R ->
      (∀ w H' d G',Ts H H'->RD X.K H' d w->HR X.K H' G'->R d G'->Q w H')->wpAny (model X.prog X.w) X.A (f u v) (EP X pins σ Q) X.xe s):nW X f r3 :=
  ⟨fun vx vy H Q=>∃ x y G R,RD X.K H x vx/\RD X.K H y vy/\HR X.K H G/\r3 x y G R/\∀ w H' d G',Ts H H'->RD X.K H' d w->HR X.K H' G'->R d G'->Q w H',
    fun pins s σ H vx vy u v Q I ru rv ⟨x,y,G,R,rx,ry,g,q,k⟩=>h pins s σ H x y vx vy u v G R Q I rx ry ru rv g q k,fun H x y vx vy G R Q rx ry g q k=>⟨x,y,G,R,rx,ry,g,q,k⟩⟩
theorem afW (hu:X.A.units+64 < cLine) {neg:Bool} (hop:op=if neg then .NotEq else .Eq) {σ:St} {x y:D} {v:Value} {k:Bool->Prop} (I:Inv X pins σ H s) (rx:RD X.K H x vx) (ry:RD X.K H y vy) (ru:RelV vx u) (rv:RelV vy v) (g:HR X.K H G)
    (h:eqG G x y k) (hk:∀ b,k b->EP X pins σ Q (.bool (neg ^^ b)) s):wpAny (model X.prog X.w) X.A (compareOp op u v) (EP X pins σ Q) X.xe s:=by
  have fin:∀ {b:Bool},(if neg then SeqAt.RcNeAt X.A s u v (!b) else SeqAt.RcAt X.A s u v b)->k b->wpAny (model X.prog X.w) X.A (compareOp op u v) (EP X pins σ Q) X.xe s:=fun {b} z kb=>by
    have e:=hk b kb;cases neg with
    | true =>
      subst hop;rw [Bool.true_xor] at e;exact z X.prog X.w X.xe _ e
    | false =>
      subst hop;rw [Bool.false_xor] at e;exact z X.prog X.w X.xe _ e
  have hu1:X.A.units+(20+1) < cLine:=by omega
  have hu2:X.A.units+(19+1) < cLine:=by omega
  have hu0:X.A.units < cLine:=by omega
  have plain:aO 20 x=true->aO 20 y=true->k (eqP x y)->wpAny (model X.prog X.w) X.A (compareOp op u v) (EP X pins σ Q) X.xe s:=fun hx hy kk=>fin (b:=eqP x y) (by
    cases neg with
    | true=>exact avU I 19 X.A x y vx vy u v hu2 hx hy rx ry ru rv
    | false=>exact aF5 I 19 X.A x y vx vy u v hu2 hx hy rx ry ru rv) kk
  have left:∀ a xs,x = .ref a->aU G a=some xs->aO 20 y=true->k false->wpAny (model X.prog X.w) X.A (compareOp op u v) (EP X pins σ Q) X.xe s:=fun a xs e1 e2 hy kk=>by
    subst e1;cases rx;cases ru;obtain ⟨zs,hz,_⟩:=c7 g e2;refine fin (b:=false) ?_ kk;cases neg with
    | true=>exact avV I 20 X.A hz y vy v hu0 hy ry rv
    | false=>exact aF6 I 20 X.A hz y vy v hu0 hy ry rv
  have right:∀ a xs,y = .ref a->aU G a=some xs->aO 20 x=true->k false->wpAny (model X.prog X.w) X.A (compareOp op u v) (EP X pins σ Q) X.xe s:=fun a xs e1 e2 hy kk=>by
    subst e1;cases ry;cases rv;obtain ⟨zs,hz,_⟩:=c7 g e2;refine fin (b:=false) ?_ kk;cases neg with
    | true=>exact avW I 20 X.A hz x vx u hu0 hy rx ru
    | false=>exact aF7 I 20 X.A hz x vx u hu0 hy rx ru
  unfold eqG at h;split at h
  . rename_i a b;split at h
    . rename_i xs ys e1 e2;cases rx;cases ry;cases ru;cases rv;obtain ⟨zs1,hz1,q1⟩:=c7 g e1;obtain ⟨zs2,hz2,q2⟩:=c7 g e2;refine fin (b:=eX xs ys) ?_ h.2.2;cases neg with
      | true=>exact avX I 20 X.A hz1 hz2 q1 q2 hu1 h.1 h.2.1
      | false=>exact aF8 I 20 X.A hz1 hz2 q1 q2 hu1 h.1 h.2.1
    . exact h.elim
  . rename_i a _;split at h
    . rename_i xs e1;exact left a xs rfl e1 h.1 h.2
    . exact h.elim
  . rename_i b _;split at h
    . rename_i xs e1;exact right b xs rfl e1 h.1 h.2
    . exact h.elim
  . exact plain h.1 h.2.1 h.2.2
theorem aF9 (hu:X.A.units+64 < cLine):nW X (compareOp .Eq) jG:=a8K fun pins s σ H x y vx vy u v G R Q I rx ry ru rv g q k =>
  afW (neg:=false) hu rfl I rx ry ru rv g q fun b kb=>⟨.bl b,H,I,by rw [Bool.false_xor];rfl,k _ H (.bl b) G (.refl H) (.bl b) g kb⟩
theorem aFA (hu:X.A.units+64 < cLine):nW X (compareOp .NotEq) lD:=a8K fun pins s σ H x y vx vy u v G R Q I rx ry ru rv g q k =>
  afW (neg:=true) hu rfl I rx ry ru rv g q fun b kb=>⟨.bl (!b),H,I,by rw [Bool.true_xor];rfl,k _ H (.bl (!b)) G (.refl H) (.bl (!b)) g kb⟩
end
end
section
open PySem.W PySem.Calls
open PySem.Builtin PySem.Builtin.ObjectAttr PySem.Builtin.Getset_descriptor
section
variable {prog:Program} {w:World} {A:Around} {E:Value->Shared->Prop} {s:Shared} {K:Fg} {x C:Addr} {o:Obj}
theorem a6C {tp:Value} {R:Result->Shared->Prop} (X:K.In s.heap) (hx:s.heap.get? x=some o) (hc:o.cls = .ref C) (hm:mroIn K C (.type "object")=some true)
    (h:R (.ok (.ret (.ref C))) s):codeAny (model prog w) A (.call (.builtin "getset_descriptor.__get__") ⟨[.builtin "object.__class__",.ref x,tp],[]⟩) R s:=by
  obtain ⟨hh,g,dr,t,os⟩:=s;have L0:Looks (model prog w) hh (typeOf (.ref x)) (.ref C):=hc ▸ (Looks.ld hx).andThen .now;have L1:=looks_mroIn (M:=model prog w) X hm;refine codeAny_call_builtin KF.slot_gs.plain KF.entry_gs (KF.slot_gs.check _ _ _ _ _ _ _ _ KF.type_class (KF.args_gs _ _ _) ?_);unfold Builtin.«getset_descriptor.__get__» descrGet;rw [dga_obj];refine ak (dh ?_);unfold descrGetter descrCheckInstance descrNameAndClass isInstance;simp only [KF.owner_class]
  repeat lk
  refine ⟨Code.quiet_builtin _ (by decide +kernel),codeAny_builtin KF.entry_class ?_⟩;unfold Builtin.«object.__class__» shownTypeOf
  repeat lk
  exact h
theorem ai5 {Q:Option Value->Shared->Prop} (X:K.In s.heap) (hx:s.heap.get? x=some o) (hc:o.cls = .ref C)
    (hga:findIn K (.ref C) "__getattribute__" = some (some (.builtin "BaseException.__getattribute__"))) (hgn:findIn K (.ref C) "__getattr__" = some none) (ha:findIn K (.ref C) "__class__" = some (some (.builtin "object.__class__")))
    (hb:subIn K (.ref C) (.type "BaseException")=some true) (hm:mroIn K C (.type "object")=some true) (h:Q (some (.ref C)) { s with toks:=s.toks+1 }):wpAny (model prog w) A (getAttr? (.ref x) "__class__") Q E s:=by
  obtain ⟨hh,g,d,t,os⟩:=s;have L0:Looks (model prog w) hh (typeOf (.ref x)) (.ref C):=hc ▸ (Looks.ld hx).andThen .now;have L1:=looks_findIn (M:=model prog w) X hga;have L2':=looks_findIn (M:=model prog w) X hgn;have L3:=looks_findIn (M:=model prog w) X ha;have L4:=looks_subIn (M:=model prog w) X hb;unfold getAttr? getAttrBy? getAttrBy;refine ak (wpAny_mkText (ak (wpAny_attempt (wpAny_holding (ak (L0.at (ak (L1.at ?_))))))));have hx2:(Value.builtin "BaseException.__getattribute__" == Value.builtin "object.__getattribute__")=false:=by decide +kernel
  have f3:=PySem.F.attr_ValueError.ga.bind (.ref x);have hk:builtinKind "BaseException.__getattribute__" = some .slot:=by decide +kernel
  have hsplit:splitId "BaseException.__getattribute__" = some ("BaseException", "__getattribute__"):=by decide +kernel
  have ha2:=PySem.F.args_bexc_ga (.ref x) (.str "__class__" t)
  repeat (first | with_reducible refine L0.at ?_ | with_reducible refine L1.at ?_ | with_reducible refine L2'.at ?_ | with_reducible refine L3.at ?_ | with_reducible refine L4.at ?_ | wp_step)
  refine codeAny_call_builtin PySem.F.attr_ValueError.ga.plain PySem.F.entry_bexc_ga ?_;simp only [checkBuiltinCall,hk,hsplit];unfold isInstance;have f5:=PySem.F.typeOf_object_class;have f6:=PySem.F.slot_gs_get.lookup;have f7:=PySem.F.slot_gs_set.lookup
  repeat (any_goals (first | assumption | with_reducible refine L0.at ?_ | with_reducible refine L1.at ?_ | with_reducible refine L2'.at ?_ | with_reducible refine L3.at ?_ | with_reducible refine L4.at ?_ | wp_step))
  refine a6C X hx hc hm ?_
  repeat (any_goals (first | assumption | wp_step))
end
end
variable {R:fY}{T:String}
section
variable {n:String}
section
variable {X:Cx} {x:Str} {p pos:Pos} {e o:Expr} {es:List Expr} {t:tZ} {to:cB} {id T:String} {r3:List D->Gp->fY->Prop}
def bY (X:Cx) (f:Value) (r3:List D->Gp->fY->Prop):Prop :=
  ∀ (pins:List (Addr×Obj)) (s:Shared) (σ:St) (H:Hp) (xs:List D) (vs:List V) (us:List Value) (G:Gp) (R:fY) (Q:VK),Inv X pins σ H s->bV X.K H xs vs->Vals vs us->HR X.K H G->r3 xs G R ->
    (∀ v H' d G',Ts H H'->RD X.K H' d v->HR X.K H' G'->R d G'->Q v H')->wpAny (model X.prog X.w) X.A (call f us) (EP X pins σ Q) X.xe s
theorem bY.of {f:Value} {r:List V->Hp->VK->Prop} (h:o8 X f r) (i:∀ (H:Hp) (xs:List D) (vs:List V) (G:Gp) (R:fY) (Q:VK),bV X.K H xs vs->HR X.K H G->r3 xs G R ->
    (∀ v H' d G',Ts H H'->RD X.K H' d v->HR X.K H' G'->R d G'->Q v H')->r vs H fun v H'=>KF X.K H'->Q v H'):bY X f r3:=fun pins s σ H xs vs us G R Q I rx rv g q k =>
  cH (h pins s σ H vs us _ I rv (i H xs vs G R Q rx g q k)) fun _ _ ⟨v,H',I',r,q'⟩=>⟨v,H',I',r,q' (tE I')⟩
def cI (r3:List D->Gp->fY->Prop) (t:tZ):cB:=fun ρ G R=>t ρ G fun xs G1=>r3 xs G1 R
theorem wF (hc:bY X (.builtin id) r3) (hg:Gl X x) (hm:X.mg x=none) (hv:bootBuiltins x=some (.builtin id)) (ha:PA3 X (e :: es) t) (hn:x ≠ "__name__" := by decide) (hdb:(x == ("__debug__" : Str))=false:=by decide)
    (he:starEach (e :: es) X.env=(false,eval e X.env) :: starEach es X.env:=by rfl) (hpl:(backTo pos (starEach es X.env)).any (·.1)=false:=by rfl):cC X (.Call (.Name x p) (e :: es) [] pos) (cI r3 t):=by
  intro pins s σ H Q I h;obtain ⟨ρ,G,R,sr,g,q,kk⟩:=h;refine wpAny_Call_Name_kw (a0F I hg hm hv ?_ hn hdb)
  exact PyProof.Rows.callWith_builtin1 (cH (ha pos pins s σ H (fun vs H1=>Ts H H1/\∃ ds G1,bV X.K H1 ds vs/\HR X.K H1 G1/\r3 ds G1 R) I ⟨ρ,G,_,sr,g,q,fun vs H1 ds G1 t1 r1 g1 q1=>⟨t1,ds,G1,r1,g1,q1⟩⟩) fun us s1 ⟨vs,H1,I1,r,t1,ds,G1,r1,g1,q1⟩ =>
    hc pins s1 σ H1 ds vs us G1 R Q I1 r1 r g1 q1 fun v H' d G' t2=>kk v H' d G' (t1.trans t2)) he hpl
theorem ab3 (hc:bY X (.type T) r3) (hg:Gl X x) (hm:X.mg x=none) (hv:bootBuiltins x=some (.type T)) (ha:PA3 X (e :: es) t) (hn:x ≠ "__name__" := by decide) (hdb:(x == ("__debug__" : Str))=false:=by decide)
    (he:starEach (e :: es) X.env=(false,eval e X.env) :: starEach es X.env:=by rfl) (hpl:(backTo pos (starEach es X.env)).any (·.1)=false:=by rfl):cC X (.Call (.Name x p) (e :: es) [] pos) (cI r3 t):=by
  intro pins s σ H Q I h;obtain ⟨ρ,G,R,sr,g,q,kk⟩:=h;refine wpAny_Call_Name_kw (a0F I hg hm hv ?_ hn hdb)
  exact PyProof.Rows.callWith_type1 (cH (ha pos pins s σ H (fun vs H1=>Ts H H1/\∃ ds G1,bV X.K H1 ds vs/\HR X.K H1 G1/\r3 ds G1 R) I ⟨ρ,G,_,sr,g,q,fun vs H1 ds G1 t1 r1 g1 q1=>⟨t1,ds,G1,r1,g1,q1⟩⟩) fun us s1 ⟨vs,H1,I1,r,t1,ds,G1,r1,g1,q1⟩ =>
    hc pins s1 σ H1 ds vs us G1 R Q I1 r1 r g1 q1 fun v H' d G' t2=>kk v H' d G' (t1.trans t2)) he hpl
def dO:List D->Gp->fY->Prop:=fun xs G R=>match xs with
  | [.str z]=>z.length<=sizeLine/\R (.int z.length) G
  | [.tup ds]=>R (.int ds.length) G
  | [.ref q]=>(match aU G q with
    | some ds=>R (.int ds.length) G
    | none=>False)
  | _=>False
theorem aB2:bY X (.builtin "len") dO:=bY.of (a8C.or a8D) fun H xs vs G R Q rx g q k=>by
  cases rx with
  | nil=>exact False.elim q
  | cons r rr =>
    cases rr with
    | cons _ _=>cases r <;> exact False.elim q
    | nil =>
      cases r with
      | str z=>exact .inr ⟨z,rfl,q.1,fun _=>k _ H _ G (.refl H) (.int _) g q.2⟩
      | @tup a xs ds ha ra=>exact .inl ⟨a,xs,rfl,.inr ha,fun _=>by rw [← ra.length];exact k _ H _ G (.refl H) (.int _) g q⟩
      | ref a =>
        have q':(match aU G a with
          | some ds=>R (.int ds.length) G
          | none=>False):=q
        split at q'
        . rename_i ds e1;obtain ⟨xs,h1,r1⟩:=c7 g e1;exact .inl ⟨a,xs,rfl,.inl h1,fun _=>by rw [← r1.length];exact k _ H _ G (.refl H) (.int _) g q'⟩
        . exact q'.elim
      | _=>exact False.elim q
def afX:List D->Gp->fY->Prop:=fun xs G R=>match xs with
  | [.int i]=>R (.int (if i < 0 then -i else i)) G
  | _=>False
theorem aB3:bY X (.builtin "abs") afX:=bY.of ajT fun H xs vs G R Q rx g q k=>by
  cases rx with
  | nil=>exact False.elim q
  | cons r rr =>
    cases rr with
    | cons _ _=>cases r <;> exact False.elim q
    | nil =>
      cases r with
      | int i=>exact ⟨i,rfl,fun _=>k _ H _ G (.refl H) (.int _) g q⟩
      | _=>exact False.elim q
def a3T:List D->Gp->fY->Prop:=fun xs G R=>match xs with
  | [.int i]=>R (.int i) G
  | [.bl b]=>R (.int (if b then 1 else 0)) G
  | _=>False
theorem aB4:bY X (.type "int") a3T:=bY.of ahQ fun H xs vs G R Q rx g q k=>by
  cases rx with
  | nil=>exact False.elim q
  | cons r rr =>
    cases rr with
    | cons _ _=>cases r <;> exact False.elim q
    | nil =>
      cases r with
      | int i=>exact .inl ⟨i,rfl,fun _=>k _ H _ G (.refl H) (.int _) g q⟩
      | bl b=>exact .inr ⟨b,rfl,fun _=>k _ H _ G (.refl H) (.int _) g q⟩
      | _=>exact False.elim q
def a0O:List D->Gp->fY->Prop:=fun xs G R=>match xs with
  | [.tup ds]=>∀ l,G l=none->R (.ref l) (aM G l (.lst ds))
  | [.ref q]=>(match aU G q with
    | some ds=>∀ l,G l=none->R (.ref l) (aM G l (.lst ds))
    | none=>False)
  | _=>False
theorem avY:bY X (.type "list") a0O:=bY.of a8E fun H xs vs G R Q rx g q k=>by
  cases rx with
  | nil=>exact False.elim q
  | cons r rr =>
    cases rr with
    | cons _ _=>cases r <;> exact False.elim q
    | nil =>
      cases r with
      | @tup a xs ds ha ra =>
        refine ⟨a,xs,rfl,.inr ha,fun l hl kf=>?_⟩;have sn:Same H (upd H l (.lst xs)):=bJ hl;exact k _ _ _ _ (.same sn) (.ref l) (g.put (u := .lst ds) hl ⟨_,aN,ra.mono (.same sn)⟩) (q l (jX g hl kf))
      | ref a =>
        have q':(match aU G a with
          | some ds=>∀ l,G l=none->R (.ref l) (aM G l (.lst ds))
          | none=>False):=q
        split at q'
        . rename_i ds e1;obtain ⟨xs,h1,r1⟩:=c7 g e1;refine ⟨a,xs,rfl,.inl h1,fun l hl kf=>?_⟩;have sn:Same H (upd H l (.lst xs)):=bJ hl;exact k _ _ _ _ (.same sn) (.ref l) (g.put (u := .lst ds) hl ⟨_,aN,r1.mono (.same sn)⟩) (q' l (jX g hl kf))
        . exact q'.elim
      | _=>exact False.elim q
def tyD (G:Gp):D->Option String
  | .non=>some "NoneType"
  | .bl _=>some "bool"
  | .int _=>some "int"
  | .str _=>some "str"
  | .tup _=>some "tuple"
  | .ref q=>(match G q with
    | some (.lst _)=>some "list"
    | some (.rol _)=>some "list"
    | some (.jF _ _)=>some "dict"
    | _=>none)
  | .ty _=>none
def exD (G:Gp):D->Option Addr
  | .ref q=>(match G q with
    | some (.exn C)=>some C
    | _=>none)
  | _=>none
def subB (T n:String):Bool:=T == n || (T == "bool" && n == "int")
def aB5:List String:=["NoneType", "bool", "int", "str", "list", "tuple", "dict"]
def cZ:List String:=["int", "bool", "str", "list", "tuple", "dict", "ValueError"]
theorem avZ:∀ T∈aB5,∀ n∈cZ,qw [] (.type T) (.type n)=some (subB T n):=by decide +kernel
theorem lE (K:Fg) (h1:T∈aB5) (h2:n∈cZ):qw K (.type T) (.type n)=some (subB T n):=avZ T h1 n h2
structure ExC (K:Fg) (C:Addr):Prop where
  ga:ni K (.ref C) "__getattribute__" = some (some (.builtin "BaseException.__getattribute__"))
  gn:ni K (.ref C) "__getattr__" = some none
  cl:ni K (.ref C) "__class__" = some (some (.builtin "object.__class__"))
  be:qg K (.ref C) (.type "BaseException")=some true
  ob:PySem.W.mroIn K C (.type "object")=some true
  cs:(jw K C).isSome=true
theorem akI {K:Fg} (c:ExC K C):PySem.W.KitX K (.ref a) (.ref C) (aaV C a) where
  ty:=fun M h X ⟨o,vs,h1,h2,_⟩=>h2 ▸ (PySem.W.Looks.ld h1).andThen .now
  it:=fun M h X _=>by
    intro A' Q' E' s' k q;cases eK:jw K C with
    | none=>have:=c.cs;rw [eK] at this;cases this
    | some cd =>
      unfold jw at eK;split at eK
      . rename_i ho;unfold isType loadHead;exact ak (wpAny_loadPart (k _ _ (X _ _ ho)) (dh q))
      . cases eK
  ne:=fun h tp dd its n sl X htp=>by
    refine Bool.eq_false_iff.mpr fun q=>?_;have e:C=tp:=Value.ref.inj (beq_iff_eq.mp q);subst e;cases eK:jw K C with
    | none=>have:=c.cs;rw [eK] at this;cases this
    | some cd =>
      unfold jw at eK;split at eK
      . rename_i ho;have z:=(X _ _ ho).symm.trans htp;cases z
      . cases eK
  ca:=fun X ⟨o,vs,h1,h2,_⟩ k=>ai5 X h1 h2 c.ga c.gn c.cl c.be c.ob k
def aF (K:Fg):List D->Gp->fY->Prop:=fun xs G R=>match xs with
  | [x,.ty n]=>(match tyD G x with
    | some T=>n∈cZ/\R (.bl (subB T n)) G
    | none=>(match exD G x with
      | some C=>∃ b,ExC K C/\qw K (.ref C) (.type n)=some b/\R (.bl b) G
      | none=>False))
  | [x,.ref C']=>(match exD G x with
    | some C=>∃ b,ExC K C/\qw K (.ref C) (.ref C')=some b/\R (.bl b) G
    | none=>False)
  | _=>False
variable {x:D}
theorem akJ (h:exD G x=some C):∃ a,x = .ref a/\G a=some (.exn C):=by
  cases x with
  | ref q =>
    refine ⟨q,rfl,?_⟩
    have h':(match G q with
      | some (.exn C)=>some C
      | _=>none)=some C:=h
    split at h'
    . rename_i e1;cases h';exact e1
    . cases h'
  | _=>cases h
theorem a8L {σ:St} {c:Value} {b:Bool} (I:Inv X pins σ H s) (g:HR X.K H G) (e:G a=some (.exn C)) (hc:ExC X.K C) (hk:qw X.K (.ref C) c=some b) (q:R (.bl b) G)
    (k:∀ v H' d G',Ts H H'->RD X.K H' d v->HR X.K H' G'->R d G'->Q v H'):wpAny (model X.prog X.w) X.A (call (.builtin "isinstance") [.ref a,c]) (EP X pins σ Q) X.xe s:=by
  obtain ⟨o0,vs0,z,_⟩:=g a _ e;obtain ⟨_,z1,_,_⟩:=I.hok a _ z;exact mq (akI hc) I.kIn z1 hk (fun z=>nomatch z) fun tk=>⟨.bl b,H,I.tok tk,rfl,k _ H _ G (.refl H) (.bl b) g q⟩
theorem aw1 {σ:St} (I:Inv X pins σ H s) (rx:RD X.K H x vx) (ru:RelV vx u) (g:HR X.K H G) (e:tyD G x=some T) (hn:n∈cZ) (q:R (.bl (subB T n)) G)
    (k:∀ v H' d G',Ts H H'->RD X.K H' d v->HR X.K H' G'->R d G'->Q v H'):wpAny (model X.prog X.w) X.A (call (.builtin "isinstance") [u,.type n]) (EP X pins σ Q) X.xe s:=by
  have fin:∀ tk,EP X pins σ Q (.bool (subB T n)) { s with toks:=tk }:=fun tk=>⟨.bl _,H,I.tok tk,rfl,k _ H _ G (.refl H) (.bl _) g q⟩;cases rx with
  | non=>cases ru;cases e;exact mq PySem.W.kitx_none I.kIn True.intro (lE _ (by decide) hn) (fun z=>nomatch z) fin
  | bl b=>cases ru;cases e;exact mq PySem.W.kitx_bool I.kIn True.intro (lE _ (by decide) hn) (fun z=>nomatch z) fin
  | int i=>obtain ⟨t,rfl⟩:=ru;cases e;exact mq PySem.W.kitx_int I.kIn True.intro (lE _ (by decide) hn) (fun z=>nomatch z) fin
  | str i=>obtain ⟨t,rfl⟩:=ru;cases e;exact mq PySem.W.kitx_str I.kIn True.intro (lE _ (by decide) hn) (fun z=>nomatch z) fin
  | ty n=>cases e
  | @tup a xs ds ha ra =>
    cases ru;cases e;obtain ⟨its,_,p,_⟩:=I.tuple ha;obtain ⟨o,h1,h2,_⟩:=p;exact mq PySem.W.kitx_tuple I.kIn ⟨o,h1,h2⟩ (lE _ (by decide) hn) (fun z=>nomatch z) fin
  | ref a =>
    cases ru
    have e':(match G a with
      | some (.lst _)=>some "list"
      | some (.rol _)=>some "list"
      | some (.jF _ _)=>some "dict"
      | _=>none)=some T:=e
    split at e'
    . rename_i ds e1;cases e';obtain ⟨xs,h1,_⟩:=c7 g (show aU G a=some ds by unfold aU;rw [e1]);obtain ⟨its,_,p,_⟩:=I.list h1;obtain ⟨o,n',h1,h2,_⟩:=p;exact mq PySem.W.kitx_list I.kIn ⟨o,h1,h2⟩ (lE _ (by decide) hn) (fun z=>nomatch z) fin
    . rename_i ds e1;cases e';obtain ⟨xs,h1,_⟩:=c7 g (show aU G a=some ds by unfold aU;rw [e1]);obtain ⟨its,_,p,_⟩:=I.list h1;obtain ⟨o,n',h1,h2,_⟩:=p;exact mq PySem.W.kitx_list I.kIn ⟨o,h1,h2⟩ (lE _ (by decide) hn) (fun z=>nomatch z) fin
    . rename_i kvs e1;cases e';rcases g a _ e1 with ⟨_,xs,h1,_⟩ | ⟨_,xs,h1,_⟩
      . obtain ⟨_,_,vs,_,o,es,ep,h1,h2,_⟩:=I.hok a _ h1;exact mq PySem.W.kitx_dict I.kIn ⟨o,h1,h2.1⟩ (lE _ (by decide) hn) (fun z=>nomatch z) fin
      . obtain ⟨_,_,xs,_,o,es,ep,h1,h2,_⟩:=I.hok a _ h1;exact mq PySem.W.kitx_dict I.kIn ⟨o,h1,h2.1⟩ (lE _ (by decide) hn) (fun z=>nomatch z) fin
    . cases e'
theorem a8M:bY X (.builtin "isinstance") (aF X.K):=by
  intro pins s σ H xs vs us G R Q I rx rv g q k;cases rx with
  | nil=>exact False.elim q
  | @cons x v ds ws r1 rr =>
    cases rr with
    | nil=>cases r1 <;> exact False.elim q
    | @cons y v2 pR ws2 r2 rr2 =>
      cases rr2 with
      | cons _ _=>cases r2 <;> exact False.elim q
      | nil =>
        obtain ⟨u1,u2,rfl,ru1,ru2⟩:=vals2 rv;cases r2 with
        | ty n =>
          cases ru2
          have q':(match tyD G x with
            | some T=>n∈cZ/\R (.bl (subB T n)) G
            | none=>(match exD G x with
              | some C=>∃ b,ExC X.K C/\qw X.K (.ref C) (.type n)=some b/\R (.bl b) G
              | none=>False)):=q
          split at q'
          . rename_i T eT;exact aw1 I r1 ru1 g eT q'.1 q'.2 k
          . split at q'
            . rename_i C eC;obtain ⟨a,rfl,ea⟩:=akJ eC;obtain ⟨b,hc,hk,q'⟩:=q';cases r1;cases ru1;exact a8L I g ea hc hk q' k
            . exact q'.elim
        | ref C' =>
          cases ru2
          have q':(match exD G x with
            | some C=>∃ b,ExC X.K C/\qw X.K (.ref C) (.ref C')=some b/\R (.bl b) G
            | none=>False):=q
          split at q'
          . rename_i C eC;obtain ⟨a,rfl,ea⟩:=akJ eC;obtain ⟨b,hc,hk,q'⟩:=q';cases r1;cases ru1;exact a8L I g ea hc hk q' k
          . exact q'.elim
        | _=>exact False.elim q
end
end
variable {id:String}{to:cB}{name:Str}
section
theorem a3U {K:Fg} {H:Hp} {x:D} {vx:V} (hx:scD x=true) (rx:RD K H x vx):∀ {ys:List D} {vs:List V},bV K H ys vs->ys.all scD=true->vs.any (fun y=>eqV y vx)=ys.any (fun y=>eqP y x)
  | _,_,.nil,_=>rfl
  | _,_,.cons h r,hs=>by
    rw [qz,aj] at hs;rw [uc,uc,a3U hx rx r hs.2];congr 1;obtain ⟨h1,_⟩:=hs;cases rx <;> cases h <;> first | (simp [eqV,eqP];done) | cases hx | cases h1
variable {x:D}
theorem zG {K:Fg} (hx:scD x=true) (rx:RD K H x vx):tD vx=true:=by cases rx <;> first | rfl | cases hx
theorem uG {K:Fg} {H:Hp}:∀ {ys:List D} {vs:List V},bV K H ys vs->ys.all scD=true->vs.all tD=true
  | _,_,.nil,_=>rfl
  | _,_,.cons h r,hs=>by
    rw [qz,aj] at hs;rw [qz,zG hs.1 h,uG r hs.2];rfl
def inG (G:Gp) (x y:D) (k:Bool->Prop):Prop:=match x,y with
  | .str i,.str j=>k (!(Builtin.Str.occurrences j i 0 j.length 1).isEmpty)
  | x,.tup ys=>scD x=true/\ys.all scD=true/\k (ys.any fun y=>eqP y x)
  | x,.ref p=>(match aU G p with
    | some ys=>scD x=true/\ys.all scD=true/\k (ys.any fun y=>eqP y x)
    | none=>False)
  | _,_=>False
def aB6:R3:=fun x y G R=>inG G x y fun b=>R (.bl b) G
def afY:R3:=fun x y G R=>inG G x y fun b=>R (.bl (!b)) G
variable {o:Expr}
section
variable {X:Cx}
theorem aFC (hu:X.A.units+64 < cLine):nW X (compareOp .In) aB6:=by
  refine ⟨_,ahN.or ahV,fun H x y vx vy G R Q rx ry g h k=>?_⟩;have h':inG G x y fun b=>R (.bl b) G:=h;unfold inG at h';split at h'
  . cases rx;cases ry;exact .inl ⟨_,_,rfl,rfl,k _ H _ G (.refl H) (.bl _) g h'⟩
  . cases ry with
    | @tup a xs ds ha ra =>
      refine .inr ⟨a,xs,rfl,.inr ha,zG h'.1 rx,uG ra h'.2.1,?_⟩;have e:inV vx xs=_:=a3U h'.1 rx ra h'.2.1;simp only [pq,if_false];rw [e];exact k _ H _ G (.refl H) (.bl _) g h'.2.2
  . cases ry;split at h'
    . rename_i ys e1;obtain ⟨xs,hq,ra⟩:=c7 g e1;refine .inr ⟨_,xs,rfl,.inl hq,zG h'.1 rx,uG ra h'.2.1,?_⟩;have e:inV vx xs=_:=a3U h'.1 rx ra h'.2.1;simp only [pq,if_false];rw [e];exact k _ H _ G (.refl H) (.bl _) g h'.2.2
    . exact h'.elim
  . exact h'.elim
theorem ap9 (hu:X.A.units+64 < cLine):nW X (compareOp .NotIn) afY:=by
  refine ⟨_,a87.or a8B,fun H x y vx vy G R Q rx ry g h k=>?_⟩;have h':inG G x y fun b=>R (.bl (!b)) G:=h;unfold inG at h';split at h'
  . cases rx;cases ry;exact .inl ⟨_,_,rfl,rfl,k _ H _ G (.refl H) (.bl _) g h'⟩
  . cases ry with
    | @tup a xs ds ha ra =>
      refine .inr ⟨a,xs,rfl,.inr ha,zG h'.1 rx,uG ra h'.2.1,?_⟩;have e:inV vx xs=_:=a3U h'.1 rx ra h'.2.1;simp only [if_true];rw [e];exact k _ H _ G (.refl H) (.bl _) g h'.2.2
  . cases ry;split at h'
    . rename_i ys e1;obtain ⟨xs,hq,ra⟩:=c7 g e1;refine .inr ⟨_,xs,rfl,.inl hq,zG h'.1 rx,uG ra h'.2.1,?_⟩;have e:inV vx xs=_:=a3U h'.1 rx ra h'.2.1;simp only [if_true];rw [e];exact k _ H _ G (.refl H) (.bl _) g h'.2.2
    . exact h'.elim
  . exact h'.elim
def ab4 (T:String) (G:Gp):D->Prop
  | .str _=>T = "str"
  | .ref p=>T = "list" /\ (aU G p).isSome=true
  | _=>False
theorem akK {K:Fg} (g:HR K H G) (r:RD K H x v) (h:ab4 T G x):tyV K T v H:=by
  cases r with
  | str z=>exact h
  | ref p =>
    obtain ⟨rfl,h⟩:=h;obtain ⟨ds,e⟩:=vo.mp h;obtain ⟨xs,hq,_⟩:=c7 g e;exact .inl ⟨rfl,xs,hq⟩
  | _=>exact False.elim h
abbrev RM3:=D->List D->Gp->fY->Prop
def ab5 (X:Cx) (id:String) (r3:RM3):Prop :=
  ∀ (pins:List (Addr×Obj)) (s:Shared) (σ:St) (H:Hp) (x:D) (xs:List D) (vx:V) (vs:List V) (u:Value) (us:List Value) (G:Gp) (R:fY) (Q:VK),Inv X pins σ H s->RD X.K H x vx->bV X.K H xs vs->RelV vx u->Vals vs us->HR X.K H G->r3 x xs G R ->
    (∀ v H' d G',Ts H H'->RD X.K H' d v->HR X.K H' G'->R d G'->Q v H')->wpAny (model X.prog X.w) X.A (call (.builtin id) (u :: us)) (EP X pins σ Q) X.xe s
variable {r3:RM3}
theorem ab5.of {r:V->List V->Hp->VK->Prop} (h:MtR X id r) (i:∀ (H:Hp) (x:D) (xs:List D) (vx:V) (vs:List V) (G:Gp) (R:fY) (Q:VK),RD X.K H x vx->bV X.K H xs vs->HR X.K H G->r3 x xs G R ->
    (∀ v H' d G',Ts H H'->RD X.K H' d v->HR X.K H' G'->R d G'->Q v H')->r vx vs H fun v H'=>KF X.K H'->Q v H'):ab5 X id r3:=fun pins s σ H x xs vx vs u us G R Q I rx rs ru rv g q k =>
  cH (h pins s σ H vx vs u us _ I ru rv (i H x xs vx vs G R Q rx rs g q k)) fun _ _ ⟨v,H',I',r,q'⟩=>⟨v,H',I',r,q' (tE I')⟩
def tM3 (T:String) (r:RM3) (to:cB) (t:tZ):cB:=fun ρ G R=>to ρ G fun x G1=>ab4 T G1 x/\t ρ G1 fun xs G2=>r x xs G2 R
def aw3 (T:String) (r:RM3) (to:cB):cB:=fun ρ G R=>to ρ G fun x G1=>ab4 T G1 x/\r x [] G1 R
theorem aB7 {es:List Expr} {t:tZ} {apos cpos:Pos} (pa:PlainAttrs T) (slot:Slot T name id) (hty:typeOf (.builtin id)=pure (.type "method_descriptor")) (hm:ab5 X id r3) (ho:cC X o to) (ha:PA3 X (e :: es) t)
    (hbase:attributeBase o name X.env (eval o X.env)=eval o X.env:=by rfl)
    (hfew:((backTo cpos (starEach (e :: es) X.env)).all (fun x=>!x.1)&&(backToKw cpos (keywordEach [] X.env)).all (fun x=>x.1.isSome)
      && decide ((e :: es).length+([]:List Keyword).length+(if ([]:List Keyword).isEmpty then 0 else 1) < 30))=true:=by rfl)
    (hline:(apos.endLine == cpos.line)=true:=by rfl) (hs:starEach (e :: es) X.env=(false,eval e X.env) :: starEach es X.env:=by rfl) (hplain:(backTo cpos (starEach es X.env)).any (·.1)=false:=by rfl) :
    cC X (.Call (.Attribute o name apos) (e :: es) [] cpos) (tM3 T r3 to t):=by
  intro pins s σ H Q I h;obtain ⟨ρ,G,R,sr,g,q,kk⟩:=h;refine wpAny_Call_method_late hbase hfew hline rfl (cH (ho pins s σ H (fun vx H1=>Ts H H1/\∃ x G1,RD X.K H1 x vx/\HR X.K H1 G1/\ab4 T G1 x/\t ρ G1 fun xs G2=>r3 x xs G2 R) I ⟨ρ,G,_,sr,g,q,fun v H1 x G1 t1 r1 g1 q1=>⟨t1,x,G1,r1,g1,q1⟩⟩) fun v s1 ⟨vx,H1,I1,r1,t1,x,G1,rx,g1,ty,q1⟩=>?_);obtain ⟨h1,h2⟩:=ak3 I1 r1 (akK g1 rx ty);refine ⟨T,id,pa,slot,hty,h1,h2,?_⟩;have hA:=ha cpos pins s1 σ H1 (fun vs H2=>Ts H1 H2/\∃ xs G2,bV X.K H2 xs vs/\HR X.K H2 G2/\r3 x xs G2 R) I1 ⟨ρ,G1,_,sr.mono t1,g1,q1,fun vs H2 xs G2 t2 r2 g2 q2=>⟨t2,xs,G2,r2,g2,q2⟩⟩;rw [hs] at hA ⊢;refine Calls.callWith_builtin (by show (false || (backTo cpos (starEach es X.env)).any (·.1))=false;rw [hplain] <;> rfl) (Calls.evalArgs_plain ?_);exact cH hA fun us s2 ⟨vs,H2,I2,r2,t2,xs,G2,rs,g2,q2⟩=>hm pins s2 σ H2 x xs vx vs v us G2 R Q I2 (rx.mono t2) rs r1 r2 g2 q2 fun v H' d G' t3=>kk v H' d G' ((t1.trans t2).trans t3)
theorem at5 {apos cpos:Pos} (pa:PlainAttrs T) (slot:Slot T name id) (hty:typeOf (.builtin id)=pure (.type "method_descriptor")) (hm:ab5 X id r3) (ho:cC X o to)
    (hbase:attributeBase o name X.env (eval o X.env)=eval o X.env:=by rfl) (hline:(apos.endLine == cpos.line)=true:=by rfl):cC X (.Call (.Attribute o name apos) [] [] cpos) (aw3 T r3 to):=by
  intro pins s σ H Q I h;obtain ⟨ρ,G,R,sr,g,q,kk⟩:=h;refine wpAny_Call_method0_late hbase hline (cH (ho pins s σ H (fun vx H1=>Ts H H1/\∃ x G1,RD X.K H1 x vx/\HR X.K H1 G1/\ab4 T G1 x/\r3 x [] G1 R) I ⟨ρ,G,_,sr,g,q,fun v H1 x G1 t1 r1 g1 q1=>⟨t1,x,G1,r1,g1,q1⟩⟩) fun v s1 ⟨vx,H1,I1,r1,t1,x,G1,rx,g1,ty,q1⟩=>?_);obtain ⟨h1,h2⟩:=ak3 I1 r1 (akK g1 rx ty);exact ⟨T,id,pa,slot,hty,h1,h2,Calls.callWith_builtin rfl (PySem.evalArgs_none (hm pins s1 σ H1 x [] vx [] v [] G1 R Q I1 rx .nil r1 .nil g1 q1 fun v H' d G' t3=>kk v H' d G' (t1.trans t3)))⟩
def cP:RM3:=fun x xs G R=>match x,xs with
  | .ref p,[d]=>(match G p with
    | some (.lst ds)=>ds.length < sizeLine/\R .non (aM G p (.lst (ds++[d])))
    | _=>False)
  | _,_=>False
theorem ab6:ab5 X "list.append" cP:=ab5.of a73 fun H x xs vx vs G R Q rx rs g q k=>by
  cases rx with
  | ref p =>
    cases rs with
    | nil=>exact False.elim q
    | @cons d v ds ws r rr =>
      cases rr with
      | cons _ _=>exact False.elim q
      | nil =>
        have q':(match G p with
          | some (.lst ds)=>ds.length < sizeLine/\R .non (aM G p (.lst (ds++[d])))
          | _=>False):=q
        split at q'
        . rename_i ds e1;obtain ⟨ys,f1,r1⟩:=g p _ e1;refine ⟨p,ys,v,rfl,rfl,f1,by rw [← r1.length];exact q'.1,fun _=>?_⟩;have tt:Ts H (upd H p (.lst (ys++[v]))) := .turn f1 (fun _ z=>nomatch z) (fun _ _ z=>nomatch z);exact k _ _ _ _ tt .non (g.turn (u := .lst (ds++[d])) tt ⟨_,aN,(r1.append (.cons r .nil)).mono tt⟩) q'.2
        . exact q'.elim
  | _=>cases rs <;> exact False.elim q
def uH:RM3:=fun x xs G R=>match x,xs with
  | .ref p,[.ref b]=>(match G p,G b with
    | some (.lst ds),some (.lst es)=>ds.length+es.length<=sizeLine/\R .non (aM G p (.lst (ds++es)))
    | _,_=>False)
  | _,_=>False
theorem ab7:ab5 X "list.extend" uH:=ab5.of ahW fun H x xs vx vs G R Q rx rs g q k=>by
  cases rx with
  | ref p =>
    cases rs with
    | nil=>exact False.elim q
    | @cons d v ds ws r rr =>
      cases rr with
      | cons _ _=>cases r <;> exact False.elim q
      | nil =>
        cases r with
        | ref b =>
          have q':(match G p,G b with
            | some (.lst ds),some (.lst es)=>ds.length+es.length<=sizeLine/\R .non (aM G p (.lst (ds++es)))
            | _,_=>False):=q
          split at q'
          . rename_i ds es e1 e2;obtain ⟨ys,f1,r1⟩:=g p _ e1;obtain ⟨zs,f2,r2⟩:=g b _ e2;refine ⟨p,b,ys,zs,rfl,rfl,f1,f2,by rw [← r1.length,← r2.length];exact q'.1,fun _=>?_⟩;have tt:Ts H (upd H p (.lst (ys++zs))) := .turn f1 (fun _ z=>nomatch z) (fun _ _ z=>nomatch z);exact k _ _ _ _ tt .non (g.turn (u := .lst (ds++es)) tt ⟨_,aN,(r1.append r2).mono tt⟩) q'.2
          . exact q'.elim
        | _=>exact False.elim q
  | _ =>
    cases rs with
    | nil=>exact False.elim q
    | cons r rr=>cases rr <;> cases r <;> exact False.elim q
def a8N:cB:=fun _ G R=>∀ p,G p=none->R (.ref p) (aM G p (.jF false []))
theorem aw4:cC X (.Dict [] [] pos) a8N:=PE.imp (PE.kf ajY) fun σ H Q h=>by
  obtain ⟨ρ,G,R,s,g,q,k⟩:=h;intro p hp kf;have sn:Same H (upd H p (.dK [])):=bJ hp;exact k _ _ _ _ (.same sn) (.ref p) (g.put (u := .jF false []) hp (.inl ⟨rfl,[],aN,.nil⟩)) (q p (jX g hp kf))
end
end
end L2
namespace L2
open PySem
theorem fB:bootBuiltins "isinstance" = some (.builtin "isinstance"):=by decide +kernel
theorem pD:bootBuiltins "len" = some (.builtin "len"):=by decide +kernel
theorem aw5:bootBuiltins "abs" = some (.builtin "abs"):=by decide +kernel
theorem adY:bootBuiltins "min" = some (.builtin "min"):=by decide +kernel
theorem a8O:bootBuiltins "max" = some (.builtin "max"):=by decide +kernel
theorem adZ:bootBuiltins "int" = some (.type "int"):=by decide +kernel
theorem ag0:bootBuiltins "bool" = some (.type "bool"):=by decide +kernel
theorem a3V:bootBuiltins "tuple" = some (.type "tuple"):=by decide +kernel
theorem ag1:bootBuiltins "list" = some (.type "list"):=by decide +kernel
theorem apA:bootBuiltins "dict" = some (.type "dict"):=by decide +kernel
end L2
namespace L2
open PySem PySem.Spec PyProof.Rows
variable {cm:Bool}{tl:List (Addr×List V)}{P:Program}{tg e:Expr}{H1:Hp}{p a:Addr}{xs:List D}{vs:List V}{z:Str}{lo:Int}{n:Nat}{te:cB}{ta:tZ}{pos:Pos}
section
def Its (x:Str):It:=⟨fun i _=>i < x.cps.size,fun i H v H'=>H'=H/\∃ c,x.cps[i]?=some c/\v = .str ⟨#[c]⟩,fun i _=>x.cps.size<=i⟩
theorem a7A {w:World} {K:cu} (it:Addr) (x:Str) (t:Tok):Turn cm tl P w K tg (Its x) [it] it (fun i h=>h.IsStrIter it "str_ascii_iterator" x t (min i x.cps.size)) where
  mem:=by simp
  obj:=fun i h st b hb=>by
    have e:b=it:=by simpa using hb
    subst e;obtain ⟨o,e,c,d⟩:=st;exact ⟨o,e,fun v z=>by rw [d] at z;cases z⟩
  keep:=fun i h h' st k=>let ⟨o,e,r⟩:=st;⟨o,k it (by simp) o e,r⟩
  item:=by
    intro X hP hw hK hcm ht i pins s σ H E I hf st hg;subst hP hw hK;obtain ⟨f0,f1,f2,f3,f4,f5⟩:=hf it (by simp);have hi:i < x.cps.size:=hg;rw [yg (qb hi)] at st;refine wpAny_pyNext_ascii_item st (c:=x.cps[i]) (by simp [hi]) fun h' st' kk=>?_;have I1:Inv X pins σ H { s with heap:=h',toks:=s.toks+1 }:=I.turned (fun b o hb e=>(kk.2 b hb).trans e) f0 f1 f3 f4 f5;obtain ⟨o,e1,c1,d1⟩:=id st';refine ⟨_,rfl,aaM (s:={ s with heap:=h',toks:=s.toks+1 }) e1 c1 d1 (by decide) ⟨.str ⟨#[x.cps[i]]⟩,H,I1,⟨_,rfl⟩,⟨rfl,x.cps[i],by simp [hi],rfl⟩,?_,fun b hb=>(hf b hb).1⟩⟩;rw [yg hi];exact st'
  done:=by
    intro X hP hw hK hcm ht i pins s σ H E I hf st hg;subst hP hw hK;obtain ⟨f0,f1,f2,f3,f4,f5⟩:=hf it (by simp);have hi:x.cps.size<=i:=hg;rw [Nat.min_eq_right hi] at st;exact ahH (I.hnd.heap I.hok) st (by simp) fun h' eb=>⟨rfl,I.turned (t':=s.toks) (fun b o hb e=>eb b o hb e) f0 f1 f3 f4 f5⟩
  self:=fun _ _ _ _ _ st h=>wpAny_pyIter_striter_ascii st h
theorem a7B {w:World} {K:cu} (it:Addr) (x:Str) (t:Tok):Turn cm tl P w K tg (Its x) [it] it (fun i h=>h.IsStrIter it "str_iterator" x t (min i x.cps.size)) where
  mem:=by simp
  obj:=fun i h st b hb=>by
    have e:b=it:=by simpa using hb
    subst e;obtain ⟨o,e,c,d⟩:=st;exact ⟨o,e,fun v z=>by rw [d] at z;cases z⟩
  keep:=fun i h h' st k=>let ⟨o,e,r⟩:=st;⟨o,k it (by simp) o e,r⟩
  item:=by
    intro X hP hw hK hcm ht i pins s σ H E I hf st hg;subst hP hw hK;obtain ⟨f0,f1,f2,f3,f4,f5⟩:=hf it (by simp);have hi:i < x.cps.size:=hg;rw [yg (qb hi)] at st;refine wpAny_pyNext_wide_item st (c:=x.cps[i]) (by simp [hi]) fun h' st' kk=>?_;have I1:Inv X pins σ H { s with heap:=h',toks:=s.toks+1 }:=I.turned (fun b o hb e=>(kk.2 b hb).trans e) f0 f1 f3 f4 f5;obtain ⟨o,e1,c1,d1⟩:=id st';refine ⟨_,rfl,aaM (s:={ s with heap:=h',toks:=s.toks+1 }) e1 c1 d1 (by decide) ⟨.str ⟨#[x.cps[i]]⟩,H,I1,⟨_,rfl⟩,⟨rfl,x.cps[i],by simp [hi],rfl⟩,?_,fun b hb=>(hf b hb).1⟩⟩;rw [yg hi];exact st'
  done:=by
    intro X hP hw hK hcm ht i pins s σ H E I hf st hg;subst hP hw hK;obtain ⟨f0,f1,f2,f3,f4,f5⟩:=hf it (by simp);have hi:x.cps.size<=i:=hg;rw [Nat.min_eq_right hi] at st;exact ahI (I.hnd.heap I.hok) st (by simp) fun h' eb=>⟨rfl,I.turned (t':=s.toks) (fun b o hb e=>eb b o hb e) f0 f1 f3 f4 f5⟩
  self:=fun _ _ _ _ _ st h=>wpAny_pyIter_striter_wide st h
inductive Src where
  | lst (p:Addr) (xs:List D) | imm (xs:List D) | zip (p q:Addr) (xs ys:List D) | itm (p:Addr) (o:Obj) (kvs:List (DK×D)) | key (p:Addr) (o:Obj) (t:Bool) (kvs:List (DK×D)) | tpl (p:Addr) (xs:List D) | enu (p:Addr) (xs:List D)
def enm (xs:List D):List D:=xs.zipIdx.map fun z => .tup [.int z.2,z.1]
def prs (xs ys:List D):List D:=(xs.zip ys).map fun z => .tup [z.1,z.2]
def Src.items:Src->List D
  | .lst _ xs=>xs
  | .imm xs=>xs
  | .zip _ _ xs ys=>prs xs ys
  | .itm _ _ kvs=>kvs.map fun z => .tup [dkD z.1,z.2]
  | .key _ _ _ kvs=>kvs.map fun z=>dkD z.1
  | .tpl _ xs=>xs
  | .enu _ xs=>enm xs
def Src.ok (G:Gp):Src->Prop
  | .lst p xs=>aU G p=some xs
  | .imm _=>True
  | .zip p q xs ys=>aU G p=some xs/\aU G q=some ys
  | .itm p o kvs=>G p=some (.rdc o false kvs)
  | .key p o t kvs=>G p=some (.rdc o t kvs)
  | .tpl p xs=>G p=some (.tpl xs)
  | .enu p xs=>G p=some (.tpl xs)
def a6E (K:Fg) (H1:Hp) (src:Src) (J:It):Prop:=∀ H2 G2,Ts H1 H2->HR K H2 G2->src.ok G2 ->
  (∀ i,i < src.items.length->J.go i H2)/\(∀ i v H',i < src.items.length->J.yld i H2 v H'->Same H2 H'/\∃ d,src.items[i]?=some d/\RD K H' d v)/\J.stop src.items.length H2
abbrev TI3:=aK->Gp->(Src->Gp->Prop)->Prop
def upI (K:Fg) (t:TI3):TI:=fun σ H Q=>∃ ρ G R,SR K H ρ σ/\HR K H G/\t ρ G R/\∀ src J H' G',Ts H H'->HR K H' G'->a6E K H' src J->R src G'->Q J H'
abbrev PI3 (X:Cx) (tg iter:Expr) (t:TI3):Prop:=PI X tg iter (upI X.K t)
def signs (z:Str):List D:=z.cps.toList.map fun c => .str ⟨#[c]⟩
def rG (te:cB):TI3:=fun ρ G R=>te ρ G fun x G1=>match x with
  | .ref p=>(match aU G1 p with
    | some xs=>R (.lst p xs) G1
    | none=>False)
  | .tup xs=>R (.imm xs) G1
  | .str z=>R (.imm (signs z)) G1
  | _=>False
theorem a7C {K:Fg}:a6E K H1 (.lst p xs) (Itl K p):=fun H2 G2 t g ok=>by
  obtain ⟨vs,hq,rv⟩:=c7 g (show aU G2 p=some xs from ok);refine ⟨fun i hi=>?_,fun i v H' hi hy=>?_,⟨vs,hq,vm rv.length.symm⟩⟩
  . have hi':i < xs.length:=hi;obtain ⟨y,e1,_⟩:=rv.get (aq hi');exact ⟨vs,y,hq,e1⟩
  . obtain ⟨rfl,hy⟩:=hy;obtain ⟨d,e1,e2⟩:=rv.ak9 (hy vs hq);exact ⟨.refl _,d,e1,e2⟩
theorem ab8 {K:Fg} (hq:rB K H1 a vs) (rv:bV K H1 xs vs):a6E K H1 (.imm xs) (Itt K a):=fun H2 G2 t g ok=>by
  have hq2:=t.sqT hq;have rv2:=rv.mono t;refine ⟨fun i hi=>?_,fun i v H' hi hy=>?_,⟨vs,hq2,vm rv.length.symm⟩⟩
  . have hi':i < xs.length:=hi;obtain ⟨y,e1,_⟩:=rv2.get (aq hi');exact ⟨vs,y,hq2,e1⟩
  . obtain ⟨rfl,hy⟩:=hy;obtain ⟨d,e1,e2⟩:=rv2.ak9 (hy vs hq2);exact ⟨.refl _,d,e1,e2⟩
theorem a3W {K:Fg}:a6E K H1 (.imm (signs z)) (Its z):=fun H2 G2 t g ok=>by
  have hl:(signs z).length=z.cps.size:=by simp [signs]
  refine ⟨fun i hi=>?_,fun i v H' hi hy=>?_,?_⟩
  . have:i < (signs z).length:=hi;rw [hl] at this;exact this
  . obtain ⟨rfl,c,hc,rfl⟩:=hy;exact ⟨.refl _,.str ⟨#[c]⟩,by simp [Src.items,signs,hc],.str _⟩
  . show z.cps.size<=(signs z).length;rw [hl];exact au _
theorem ab9 {K:Fg}:a6E K H1 (.imm ((gq n).map fun (i:Nat) => .int (lo+(i:Int)))) (Itr lo n):=fun H2 G2 t g ok=>by
  refine ⟨fun i hi=>?_,fun i v H' hi hy=>?_,?_⟩
  . have hi':i < n:=by simpa [Src.items] using hi
    exact hi'
  . obtain ⟨rfl,rfl⟩:=hy;have hi':i < n:=by simpa [Src.items] using hi
    exact ⟨.refl _,.int (lo+i),by simp [Src.items,hi'],.int _⟩
  . show n<=_;simp [Src.items]
section
variable {X:Cx} {tg:Expr}
theorem PI.imp {t t':TI} (h:PI X tg e t) (k:∀ σ H Q,t' σ H Q->t σ H Q):PI X tg e t':=fun pins s σ H Q I q=>h pins s σ H Q I (k _ _ _ q)
theorem aB8 {l:Expr} (hl:cC X l te):PI3 X tg l (rG te):=by
  intro pins s σ H R I h;obtain ⟨ρ,G,R3,sr,g,q,k⟩:=h
  refine cH (hl pins s σ H (fun v H1=>Ts H H1/\∃ x G1,RD X.K H1 x v/\HR X.K H1 G1/\(match x with
    | .ref p=>(match aU G1 p with
      | some xs=>R3 (.lst p xs) G1
      | none=>False)
    | .tup xs=>R3 (.imm xs) G1
    | .str z=>R3 (.imm (signs z)) G1
    | _=>False)) I ⟨ρ,G,_,sr,g,q,fun v H1 x G1 t1 r g1 q1=>⟨t1,x,G1,r,g1,q1⟩⟩) fun v s1 ⟨x,H1,I1,r1,t1,d,G1,rd,g1,q1⟩=>?_
  cases rd with
  | ref a =>
    have q1':(match aU G1 a with
      | some xs=>R3 (.lst a xs) G1
      | none=>False):=q1
    split at q1'
    . rename_i xs e;cases r1;obtain ⟨vs,hq,rv⟩:=c7 g1 e;obtain ⟨its,rv',p,hz⟩:=I1.list hq;refine wpAny_pyIter_list p.isList ?_;refine ⟨s1.heap.objs.size,[s1.heap.objs.size],_,_,H1,rfl,I1.kept (t':=s1.toks) fun b o e=>ao _ e,a6X a _,⟨_,cj _ rfl,rfl,rfl⟩,fun b hb=>?_,k _ _ H1 G1 t1 g1 a7C q1'⟩;have e:b=s1.heap.objs.size:=by simpa using hb
      subst e;exact I1.a1Z (au _) (I1.hok.fresh (au _))
    . exact q1'.elim
  | @tup a vs xs hq rv =>
    cases r1;obtain ⟨its,rv',p,hz⟩:=I1.tuple hq;refine wpAny_pyIter_tuple (show s1.heap.IsTuple a its.toArray from p) ?_;refine ⟨s1.heap.objs.size,[s1.heap.objs.size],_,_,H1,rfl,I1.kept (t':=s1.toks) fun b o e=>ao _ e,a3F a _,⟨_,cj _ rfl,rfl,rfl⟩,fun b hb=>?_,k _ _ H1 G1 t1 g1 (ab8 hq rv) q1⟩;have e:b=s1.heap.objs.size:=by simpa using hb
    subst e;exact I1.a1Z (au _) (I1.hok.fresh (au _))
  | str z =>
    obtain ⟨t,rfl⟩:=r1;cases ha:z.cps.all (· < 128)
    . refine wpAny_pyIter_wide ha ?_;refine ⟨s1.heap.objs.size,[s1.heap.objs.size],_,_,H1,rfl,I1.kept (t':=s1.toks) fun b o e=>ao _ e,a7B _ z t,?_,fun b hb=>?_,k _ _ H1 G1 t1 g1 a3W q1⟩
      . rw [Nat.zero_min];exact ⟨_,cj _ rfl,rfl,rfl⟩
      . have e:b=s1.heap.objs.size:=by simpa using hb
        subst e;exact I1.a1Z (au _) (I1.hok.fresh (au _))
    . refine wpAny_pyIter_ascii ha ?_;refine ⟨s1.heap.objs.size,[s1.heap.objs.size],_,_,H1,rfl,I1.kept (t':=s1.toks) fun b o e=>ao _ e,a7A _ z t,?_,fun b hb=>?_,k _ _ H1 G1 t1 g1 a3W q1⟩
      . rw [Nat.zero_min];exact ⟨_,cj _ rfl,rfl,rfl⟩
      . have e:b=s1.heap.objs.size:=by simpa using hb
        subst e;exact I1.a1Z (au _) (I1.hok.fresh (au _))
  | _=>exact q1.elim
def zH (lo hi:Int):List D:=(gq (hi - lo).toNat).map fun (i:Nat) => .int (lo+(i:Int))
def m8 (ta:tZ):TI3:=fun ρ G R=>ta ρ G fun xs G1=>match xs with
  | [.int j]=>-(2 ^ 62)<=j/\j < 2 ^ 62/\R (.imm (zH 0 j)) G1
  | _=>False
theorem aw8 {a:Expr} {p:Pos} (hg:Gl X "range") (hm:X.mg "range" = none) (ha:PA3 X [a] ta) (hs:starEach [a] X.env=[(false,eval a X.env)]):PI3 X tg (.Call (.Name "range" p) [a] [] pos) (m8 ta) :=
  PI.imp (a6Y hg hm ha hs) fun σ H Q h=>by
  obtain ⟨ρ,G,R,s,g,q,k⟩:=h;refine ⟨ρ,G,_,s,g,q,fun vs H1 ds G1 t1 r g1 h1=>?_⟩;cases r with
  | nil=>exact h1.elim
  | cons r rr =>
    cases rr with
    | cons _ _=>cases r <;> exact False.elim h1
    | nil =>
      cases r with
      | int j =>
        obtain ⟨l1,l2,h1⟩:=h1;refine ⟨j,rfl,l1,l2,k _ _ H1 G1 t1 g1 ?_ h1⟩;unfold zH;rw [show (j - 0).toNat=j.toNat by omega];exact ab9
      | _=>exact False.elim h1
end
end
variable {scope:Scope}{env:Env}{i j:Nat}
section
def m9 (cells:List (Str×Addr)):List (Str×NameKind)->List (Str×Addr)->List (Str×Addr)
  | [],cs=>cs
  | (n,k) :: r,cs=>m9 cells r (if k = .free then (match cells.lookup n with
    | some a=>(n,a) :: cs
    | none=>cs) else cs)
theorem pU (h:∀ y∈scope.names,y.2 = .free->∃ c,env.cells.lookup y.1=some c):closureFor scope env=pure (m9 env.cells scope.names []):=by
  unfold closureFor
  have all:∀ (l:List (Str×NameKind)) (cs:List (Str×Addr)),(∀ y∈l,y.2 = .free->∃ c,env.cells.lookup y.1=some c) ->
      (forIn l cs fun (x:Str×NameKind) (r:List (Str×Addr))=>(if (x.2 == NameKind.free)=true then do
        let a ← cellOf env x.1
        pure (ForInStep.yield ((x.1,a) :: r)) else pure (ForInStep.yield r):Sem (ForInStep (List (Str×Addr)))))=(pure (m9 env.cells l cs):Sem (List (Str×Addr))):=by
    intro l
    induction l with
    | nil=>intro cs _;rfl
    | cons y r ih =>
      intro cs hl;obtain ⟨n,k⟩:=y;rw [List.forIn_cons];by_cases hk:k = .free
      . subst hk;obtain ⟨c,hc⟩:=hl (n,.free) (by simp) rfl;have e:cellOf env n=pure c:=by unfold cellOf;rw [hc]
        simp only [beq_self_eq_true,if_true,e];show (forIn r ((n,c) :: cs) _:Sem _)=_;rw [ih _ fun y hy=>hl y (by simp [hy])];simp only [m9,if_true,hc]
      . have hk':(k == NameKind.free)=false:=by simpa using hk
        simp only [hk',pq,if_false];show (forIn r cs _:Sem _)=_;rw [ih _ fun y hy=>hl y (by simp [hy])];simp only [m9,if_neg hk]
  have z:=all scope.names [] h;exact congrArg (fun m=>m >>= fun cs=>pure cs) z
theorem gH {cells:List (Str×Addr)}:∀ {l:List (Str×NameKind)} {cs:List (Str×Addr)} {y:Str} {c:Addr},(m9 cells l cs).lookup y=some c->(∀ c,cs.lookup y=some c->cells.lookup y=some c)->cells.lookup y=some c
  | [],cs,y,c,h,k=>k c h
  | (n,kd) :: r,cs,y,c,h,k=>by
    unfold m9 at h;refine gH h fun c' h'=>?_;by_cases hk:kd = .free
    . rw [if_pos hk] at h';split at h'
      . rename_i a ha;rw [kh] at h';split at h'
        . rename_i e;have e':y=n:=beq_iff_eq.mp e;subst e';rw [ha];exact h'
        . exact k c' h'
      . exact k c' h'
    . rw [if_neg hk] at h';exact k c' h'
theorem a3X {cells:List (Str×Addr)}:∀ {l:List (Str×NameKind)} {cs:List (Str×Addr)} {y:Str},(∃ c,cs.lookup y=some c)->∃ c,(m9 cells l cs).lookup y=some c
  | [],cs,y,h=>h
  | (n,kd) :: r,cs,y,h=>by
    unfold m9;refine a3X ?_;by_cases hk:kd = .free
    . rw [if_pos hk];split
      . rw [kh];split
        . exact ⟨_,rfl⟩
        . exact h
      . exact h
    . rw [if_neg hk];exact h
theorem a0P {cells:List (Str×Addr)} {y:Str} {c:Addr} (hc:cells.lookup y=some c):∀ {l:List (Str×NameKind)} {cs:List (Str×Addr)},(y,NameKind.free)∈l->∃ c,(m9 cells l cs).lookup y=some c
  | [],cs,h=>by simp at h
  | (n,kd) :: r,cs,h=>by
    unfold m9;rcases iy.mp h with e | h
    . cases e;refine a3X ?_;rw [if_pos rfl,hc];simp
    . exact a0P hc h
theorem mem_of_lookup {α:Type}:∀ {l:List (Str×α)} {y:Str} {k:α},l.lookup y=some k->(y,k)∈l
  | [],_,_,h=>by simp at h
  | (n,kd) :: r,y,k,h=>by
    rw [kh] at h;split at h
    . rename_i e;have e':y=n:=beq_iff_eq.mp e;cases h;subst e';simp
    . exact gw _ (mem_of_lookup h)
structure rH (X:Cx) (xs:List Str) (scope:Scope):Prop where
  kind:scope.kind = .function
  ae0:∀ y∈scope.names,y.2 ≠ .cell
  locs:∀ y∈scope.names,y.2 = .local->scope.names.lookup y.1=some .local
  var:∀ x∈xs,scope.names.lookup x=some .local
  frees:∀ y∈scope.names,y.2 = .free->X.env.kindOf y.1=some .cell∨X.env.kindOf y.1=some .free
  out:∀ x∈xs,x ∉ X.N
  nd:xs.Nodup
  only:∀ y∈X.N,scope.names.lookup y≠some .local
abbrev gM (X:Cx) (xs:List Str) (scope:Scope) (C:Addr) (s₃:Shared) (H₃:Hp) (fp:List Addr) (pins:List (Addr×Obj)):Cx :=
  { X with N:=xs++X.N,s₀:=s₃,H₀:=H₃,env:=compEnvC scope (m9 X.env.cells scope.names []) C X.env,outer:=X.stack,stack:=X.stack,ex:=fp,fn:=fun _=>false,pn:=X.pn++pins,xe:=fun _ _=>False }
def nn (xs:List Str) (σ:St):St:=xs.map (fun _=>none)++σ
theorem akM {xs:List Str} {σ:St} {v:V} (h:(nn xs σ)[i]?=some (some v)):∃ j,i=xs.length+j/\σ[j]?=some (some v):=by
  unfold nn at h;by_cases c:i < xs.length
  . rw [jf (by simpa using c)] at h;simp at h
  . rw [kj (by simpa using c)] at h;exact ⟨i - xs.length,by omega,by simpa using h⟩
theorem ag2 {α:Type} {xs ys:List α}:(xs++ys)[xs.length+j]?=ys[j]?:=by
  rw [kj (by omega)];congr 1;omega
theorem cQ {env:Env} {y:Str} {k:NameKind}:∀ {names:List (Str×NameKind)},(names.map fun (n,k)=>if (k == .free&&env.scope.kind == .function&&env.kindOf n == some .cell) then (n,.cell) else (n,k)).lookup y=some k ->
    ∃ k',names.lookup y=some k'/\(k=k'∨(k = .cell/\k' = .free))
  | [],h=>by simp at h
  | (n,kd) :: r,h=>by
    rw [jd] at h;by_cases hc:(kd == .free&&env.scope.kind == .function&&env.kindOf n == some .cell)=true
    . have h':List.lookup y ((n,NameKind.cell) :: (r.map fun (n,k)=>if (k == .free&&env.scope.kind == .function&&env.kindOf n == some .cell) then (n,.cell) else (n,k)))=some k:=by
        simp only [hc,if_true] at h;exact h
      rw [kh] at h' ⊢;cases hx:y == n with
      | true =>
        rw [hx] at h';cases h';refine ⟨kd,rfl,.inr ⟨rfl,?_⟩⟩;simp only [aj,beq_iff_eq] at hc;exact hc.1.1
      | false =>
        rw [hx] at h';exact cQ h'
    . have h':List.lookup y ((n,kd) :: (r.map fun (n,k)=>if (k == .free&&env.scope.kind == .function&&env.kindOf n == some .cell) then (n,.cell) else (n,k)))=some k:=by
        simp only [hc,if_false] at h;exact h
      rw [kh] at h' ⊢;cases hx:y == n with
      | true =>
        rw [hx] at h';cases h';exact ⟨_,rfl,.inl rfl⟩
      | false =>
        rw [hx] at h';exact cQ h'
end
variable {b:Addr}{tk:Nat}{H':Hp}{h':Heap}
section
section
variable {X:Cx} {xs:List Str} {scope:Scope} {C:Addr} {pins:List (Addr×Obj)} {σ:St} {H H₃:Hp} {s s₃:Shared} {fp:List Addr}
theorem a8P (I:Inv X pins σ H s) (hb:b∈frs X.stack):b=X.env.locals∨b∈X.fs:=iy.mp (I.adK b hb)
theorem aw9 (I:Inv X pins σ H s) (c:rH X xs scope) (hC:s.heap.objs.size<=C) (hf:∀ b∈fp,z7 X pins H b/\b < s.heap.objs.size):(gM X xs scope C s H fp pins).Ok where
  mod:=I.ok.mod
  kind:=c.kind
  glob:=I.ok.glob
  blt:=I.ok.blt
  above:=hC
  inj:=fun y z d h1 h2=>I.ok.inj y z d (gH h1 fun _ h=>by simp at h) (gH h2 fun _ h=>by simp at h)
  has:=fun y h=>by
    have hy:(y,NameKind.free)∈scope.names:=by
      rcases h with h | h
      . obtain ⟨k',e,z⟩:=cQ (env:=X.env) (names:=scope.names) h;rcases z with z | ⟨_,z⟩
        . subst z;exact absurd rfl (c.ae0 _ (mem_of_lookup e))
        . subst z;exact mem_of_lookup e
      . obtain ⟨k',e,z⟩:=cQ (env:=X.env) (names:=scope.names) h;rcases z with z | ⟨z,_⟩
        . subst z;exact mem_of_lookup e
        . cases z
    obtain ⟨d,hd⟩:=I.ok.has y (c.frees _ hy rfl);exact a0P hd hy
  cab:=fun _ _ h=>absurd h (by simp)
  hd:=I.ok.hd
  frames:=I.ok.frames
  stk := .inl rfl
  exf:=fun b hb=>by
    obtain ⟨⟨f0,f1,f2,f3,f4,f5⟩,lt⟩:=hf b hb;exact ⟨gb (fj lt hC),fun y d h=>f4 y d (gH h fun _ h=>by simp at h)⟩
  bs:=fun b o e=>I.bs b o e
  bsz:=nj I.ok.bsz I.sz
  aaJ:=fun b o e hb=>by
    obtain ⟨⟨f0,f1,f2,f3,f4,f5⟩,lt⟩:=hf b hb;rcases f3 with z | z
    . exact I.ok.aaJ b o e z
    . exact absurd (fj (cg e) (nj I.ok.bsz z)) (jm _)
  adJ:=fun b hb hs=>by
    obtain ⟨⟨f0,f1,f2,f3,f4,f5⟩,lt⟩:=hf b hb;rcases a8P I hs with z | z
    . exact f1 z
    . exact f2 z
  u0:=I.stack
  frf:=fun b hb=>I.a83 b hb
theorem awA (I:Inv X pins σ H s) (c:rH X xs scope) (hC:s.heap.objs.size=C) (hf:∀ b∈fp,z7 X pins H b/\b < s.heap.objs.size) {h₁:Heap} {m:Str->Option Value} (hn:h₁.Ns C m) (hk:∀ b o,s.heap.get? b=some o->h₁.get? b=some o) :
    Inv (gM X xs scope C s H fp pins) [] (nn xs σ) H { s with heap:=h₁,toks:=tk }:=by
  have lt:∀ b o,s.heap.get? b=some o->b≠C:=fun b o e=>by rw [← hC];exact gb (cg e)
  refine ⟨aw9 I c (vm hC) hf,rfl,I.bare,Un.kept hk,⟨m,hn,fun i y v e1 e2 e3=>?_⟩,fun y d e=>?_,I.hok.fresh (vm hC),fun y d e=>I.m6 y d (gH e fun _ h=>by simp at h),fun p hp=>?_,I.hok.kept hk,by simp [nn,I.len],I.hnd,I.tup⟩
  . obtain ⟨i,rfl,e2'⟩:=akM e2
    . have e1':X.N[i]?=some y:=ag2.symm.trans e1;have hy:y∈X.N:=iz e1'
      have free:(y,NameKind.free)∈scope.names:=by
        have e3':∃ k,(relabel scope X.env).names.lookup y=some k/\(k = .local∨k = .cell∨k = .free):=by
          rcases e3 with h | h | h
          . exact ⟨_,h,.inl rfl⟩
          . exact ⟨_,h,.inr (.inl rfl)⟩
          . exact ⟨_,h,.inr (.inr rfl)⟩
        obtain ⟨k,h,hk⟩:=e3';obtain ⟨k',e,z⟩:=cQ (env:=X.env) (names:=scope.names) h;rcases z with z | ⟨_,z⟩
        . subst z;rcases hk with rfl | rfl | rfl
          . exact absurd e (c.only y hy)
          . exact absurd rfl (c.ae0 _ (mem_of_lookup e))
          . exact mem_of_lookup e
        . subst z;exact mem_of_lookup e
      have hkd:=c.frees _ free rfl;obtain ⟨m',hn',hlo⟩:=I.loc;have vis:Vis X.env.scope y:=hkd.elim (fun z => .inr (.inl z)) fun z => .inr (.inr z);obtain ⟨u,r,l⟩:=hlo i y v e1' e2' vis;refine ⟨u,r,.inr ⟨?_,?_⟩⟩
      . rcases e3 with h | h | h
        . obtain ⟨k',e,z⟩:=cQ (env:=X.env) (names:=scope.names) h;rcases z with z | ⟨z,_⟩
          . subst z;exact absurd e (c.only y hy)
          . cases z
        . exact .inl h
        . exact .inr h
      . rcases l with ⟨hl,_⟩ | ⟨_,d,hd,hcell⟩
        . rcases hkd with z | z
          . rw [z] at hl;cases hl
          . rw [z] at hl;cases hl
        . obtain ⟨d',hd'⟩:=a0P (cells:=X.env.cells) (l:=scope.names) (cs:=[]) hd free;have:=gH hd' fun _ h=>by simp at h
          rw [hd] at this;cases this;refine ⟨d,hd',?_⟩;obtain ⟨o,ho,hod⟩:=hcell;exact ⟨o,hk _ _ ho,hod⟩
  . obtain ⟨w,o,ho,hod⟩:=I.cell y d (gH e fun _ h=>by simp at h);exact ⟨w,o,hk _ _ ho,hod⟩
  . have hp':p∈X.pn++pins:=by simpa using hp
    obtain ⟨e,n,ne,nf,d⟩:=I.pin p hp';refine ⟨hk _ _ e,n,lt _ _ e,fun z=>?_,d⟩;rcases a8P I z with z | z
    . exact ne z
    . exact nf z
theorem apB (I:Inv X pins σ H s) (hC:s.heap.objs.size=C) (hf:∀ b∈fp,z7 X pins H b/\b < s.heap.objs.size) {a1G:List (Addr×Obj)} {σ':St} {s':Shared} (J:Inv (gM X xs scope C s H fp pins) a1G σ' H' s') (hs:qy C s'.heap h') :
    Inv X pins σ H' { s' with heap:=h',toks:=tk }:=by
  have ne:∀ b o,s.heap.get? b=some o->b≠C:=fun b o e=>by rw [← hC];exact gb (cg e)
  have u:Un (frs X.stack) fp H H' s.heap s'.heap:=J.base;have hfree:H' C=none:=J.free;refine I.call' (ch:=fp) J.os ⟨fun b o e n hb hx=>?_,fun b o e n hb hx=>?_,u.free,fun b o e hx=>?_,u.tups,u.j4,u.rC⟩ (fun b o e=>?_) J.bare (fun b hb=>?_)
  . exact (hs.2 b (ne b o e)).trans (u.keep b o e n hb hx)
  . obtain ⟨sl,e1⟩:=u.slot b o e n hb hx;exact ⟨sl,(hs.2 b (ne b o e)).trans e1⟩
  . obtain ⟨o',e1⟩:=u.there b o e hx;exact ⟨o',(hs.2 b (ne b o e)).trans e1⟩
  . refine (J.hok b o e).stay (fun d w hd q=>(hs.2 d ?_).trans q) (fun _ q=>q) fun _ _ q=>q;rintro rfl;rcases hd with z | z
    . rw [z] at hfree;rw [e] at hfree;cases hfree
    . rw [hfree] at z;cases z
  . obtain ⟨⟨f0,f1,f2,f3,f4,f5⟩,lt⟩:=hf b hb;exact ⟨f3,f1,f4,f5⟩
end
end
variable {X:Cx}{c iter:Expr}{tc:u9}{pins:List (Addr×Obj)}{C it:Addr}{s:Shared}{A:Around}{R:Result->Shared->Prop}{H:Hp}{ρ:aK}{G1:Gp}{fp:List Addr}{d:D}{ds:List D}
section
def uI:u9:=fun _ G R=>R true G
def ai6 (X:Cx) (ifs:List Expr) (tc:u9):Prop :=
  ∀ (pins:List (Addr×Obj)) (s:Shared) (σ:St) (H:Hp) (Q:Bool->Hp->Prop),Inv X pins σ H s->upT X.K tc σ H Q ->
    wpAny (model X.prog X.w) X.A (forIn ifs true fun c r=>if r=true then do let ok ← isTrue c X.env (eval c X.env);pure (ForInStep.yield ok) else pure (ForInStep.yield r)) (TP X pins σ Q) X.xe s
theorem apC:ai6 X [] uI:=fun pins s σ H Q I h=>by
  obtain ⟨ρ,G,R,sr,g,q,k⟩:=h;exact dh ⟨H,I,k true H G (.refl H) g q⟩
theorem apD (hc:PT3 X c tc):ai6 X [c] tc:=fun pins s σ H Q I h=>by
  rw [List.forIn_cons];simp only [if_true];refine ak (ak (cH (hc pins s σ H Q I h) fun b s1 q=>?_));exact dh (dh q)
section
variable {X:Cx} {x:Str} {xs:List Str} {tgt:Expr} {dv:D->Option (List D)} {scope:Scope} {iter elt:Expr} {ifs:List Expr} {px pos:Pos} {ti:TI3} {tc:u9} {te:cB}
structure apE (X:Cx) (pins:List (Addr×Obj)) (H':Hp) (C:Addr) (h:Heap):Prop where
  ns:∃ m,h.Ns C m
  free:H' C=none
  loc:C≠X.env.locals
  young:X.s₀.heap.objs.size<=C
  cells:∀ y d,X.env.cells.lookup y=some d->d≠C
  pins:∀ p∈X.pn++pins,p.1≠C
theorem apE.turn {σ:St} (o:apE X pins H' C s.heap) (I:Inv X pins σ H' s) (hs:qy C s.heap h'):Inv X pins σ H' { s with heap:=h' } :=
  I.turned (t':=s.toks) (fun b ob hb e=>(hs.2 b hb).trans e) o.free o.loc (.inr o.young) o.cells o.pins
def akN (Y:Cx) (tgt:Expr) (xs:List Str) (dv:D->Option (List D)) (σ:St):Prop:=∀ (pins:List (Addr×Obj)) (s:Shared) (H:Hp) (v:V) (u:Value) (d:D) (ds:List D),Inv Y pins (nn xs σ) H s->RelV v u->RD Y.K H d v->dv d=some ds ->
  wpAny (model Y.prog Y.w) Y.A (assign tgt Y.env u) (fun _ s'=>∃ vs,bV Y.K H ds vs/\Inv Y pins (vs.map some++σ) H s') Y.xe s
theorem akO {K:Fg} {H:Hp} {ρ:aK} {σ:St} (s:SR K H ρ σ):∀ {ds:List D} {vs:List V},bV K H ds vs->SR K H (ds.map some++ρ) (vs.map some++σ)
  | _,_,.nil=>s
  | _,_,.cons h r => .some h (akO s r)
theorem akP {prog:Program} {w:World} {elt target:Expr} {ifs:List Expr} {it acc:Value} (J:Nat->Shared->Prop)
    (turn:∀ n s,J n s->wpAny (model prog w) A (pyNext it) (fun r s1=>match r with
      | none=>R (.ok .next) s1
      | some v=>wpAny (model prog w) A (letOwnedTupleGo target it v) (fun _ s1'=>wpAny (model prog w) A (assign target env v) (fun _ s2 =>
          wpAny (model prog w) A (forIn ifs true fun c r=>if r=true then do let ok ← isTrue c env (eval c env);pure (ForInStep.yield ok) else pure (ForInStep.yield r)) (fun ok s3 =>
            if ok=true then wpAny (model prog w) A (eval elt env) (fun x s4 =>
              wpAny (model prog w) A (call (.builtin "list.append") [acc,x]) (fun _ s5=>∃ m,m < n/\J m s5) (notedBy (model prog w) A env fun e s'=>R (.error e) s') s4) (notedBy (model prog w) A env fun e s'=>R (.error e) s') s3
            else ∃ m,m < n/\J m s3) (notedBy (model prog w) A env fun e s'=>R (.error e) s') s2) (notedBy (model prog w) A env fun e s'=>R (.error e) s') s1') (notedBy (model prog w) A env fun e s'=>R (.error e) s') s1) (notedBy (model prog w) A env fun e s'=>R (.error e) s') s)
    (n:Nat) (h:J n s):codeAny (model prog w) A (.compLoop (.ListComp elt [⟨target,iter,ifs,0⟩] scope pos) 0 it acc env) R s:=by
  refine codeAny_loop rfl J (fun n s hJ=>?_) n h;show wpAny _ A ((compTurn (.ListComp elt [⟨target,iter,ifs,0⟩] scope pos) 0 it acc env).onRaise (fun z=>do noteFrame z env;theTreesLotGoes z)) _ _ s;refine wpAny_noted ?_;rw [compTurn_list];refine ak (wpAny_standAt (ak (wpAny_mono (turn n s hJ) (fun r s1 h1=>?_) fun _ _ z=>z)));cases r with
  | none=>exact dh h1
  | some v =>
    refine ak (wpAny_mono h1 (fun _ s1' h1'=>?_) fun _ _ z=>z);refine ak (wpAny_mono h1' (fun _ s2 h2=>ak (wpAny_mono h2 (fun ok s3 h3=>?_) fun _ _ z=>z)) fun _ _ z=>z);cases ok with
    | false=>exact dh ⟨rfl,h3⟩
    | true=>exact ak (ak (wpAny_mono h3 (fun x s4 h4=>ak (wpAny_mono h4 (fun _ s5 h5=>dh (dh ⟨rfl,h5⟩)) fun _ _ z=>z)) fun _ _ z=>z))
theorem a7D (c:rH X xs scope) (hT:∀ C s H fp pins σ,akN (gM X xs scope C s H fp pins) tgt xs dv σ) (hdv:∀ d ds,dv d=some ds->ds.length=xs.length) (hc:∀ C s H fp pins,ai6 (gM X xs scope C s H fp pins) ifs tc) (he:∀ C s H fp pins,cC (gM X xs scope C s H fp pins) elt te) {s2:Shared} {σ:St} {H2:Hp} {R:fY} {tn:Nat->Heap->Prop} {J:It} {src:Src} {RR:Value->Addr->Result->Shared->Prop} (sr:SR X.K H ρ σ) (I2:Inv X pins σ H2 s2) (T:Turn X.calm X.tp X.prog X.w X.K tgt J fp it tn) (st2:tn 0 s2.heap) (f2:∀ b∈fp,z7 X pins H2 b) (t1:Ts H H2) (g1:HR X.K H2 G1) (sj:a6E X.K H2 src J)
    (hlen:src.items.length < sizeLine) (body:∀ p,G1 p=none->∃ P:Nat->List D->Gp->Prop,P 0 [] (aM G1 p (.lst [])) /\
      (∀ k ds G,k<=src.items.length->P k ds G->src.ok G/\G p=some (.lst ds)/\ds.length<=k) /\
      (∀ k d ds G,src.items[k]?=some d->P k ds G->∃ ys,dv d=some ys/\tc (ys.map some++ρ) G fun b G2=>if b=true then te (ys.map some++ρ) G2 fun y G3=>G3 p=some (.lst ds)/\P (k+1) (ds++[y]) (aM G3 p (.lst (ds++[y]))) else P (k+1) ds G2) /\
      ∀ ds G,P src.items.length ds G->∃ G0,Le G0 G/\R (.ref p) G0)
    (hRR:∀ Da C s5 H' G0,Inv X pins σ H' s5->apE X pins H' C s5.heap->Ts H H'->HR X.K H' G0->R (.ref Da) G0->RR (.ref Da) C (.ok .next) s5) :
    wpAny (model X.prog X.w) X.A (newList []) (fun acc s₃=>wpAny (model X.prog X.w) X.A (newFunctionEnv scope X.env.globals (m9 X.env.cells scope.names []) [] X.env.qual none .none (some X.env)) (fun cenv s₄ =>
      codeAny (model X.prog X.w) X.A (.compStart (.ListComp elt [⟨tgt,iter,ifs,0⟩] scope pos) 0 (.ref it) acc { cenv with scope:=relabel scope X.env }) (RR acc cenv.locals) s₄) X.xe s₃) X.xe s2:=by
  refine wpAny_newObj_type ?_;have I3:=I2.aA8 (its:=[]) (ys:=[]) (t':=s2.toks) .nil (by decide);have hD:H2 s2.heap.objs.size=none:=I2.fresh;have kf:=tE I3;have gD:G1 s2.heap.objs.size=none:=jX g1 hD kf;obtain ⟨P,p0,pok,pst,pend⟩:=body _ gD
  have ltD:∀ b∈fp,b < s2.heap.objs.size:=fun b hb=>by
    obtain ⟨o,e,_⟩:=T.obj 0 _ st2 b hb;exact cg e
  have hsz3:(s2.heap.push { cls := .type "list",data := .seq ([]:List Value).toArray }).objs.size=s2.heap.objs.size+1:=qj ..
  have hf3:∀ b∈fp,z7 X pins (upd H2 s2.heap.objs.size (.lst [])) b/\b < (s2.heap.push { cls := .type "list",data := .seq ([]:List Value).toArray }).objs.size:=fun b hb=>by
    obtain ⟨f0,fr⟩:=f2 b hb;exact ⟨⟨by rw [aW (gb (ltD b hb))];exact f0,fr⟩,by rw [hsz3];exact Nat.lt_succ_of_lt (ltD b hb)⟩
  refine wpAny_newFunctionEnv c.ae0 (by intro y hy;simp at hy) (fun h₁ hns₁ hsb₁=>?_) c.kind;dsimp only at hns₁ hsb₁ ⊢;generalize hH3:s2.heap.push { cls := .type "list",data := .seq ([]:List Value).toArray }=h3 at *;generalize hDe:s2.heap.objs.size=Da at *;have at6:∀ b o,h3.get? b=some o->h₁.get? b=some o:=fun b o e=>hsb₁.extBut b o (gb (cg e)) (ao _ e)
  show codeAny (model X.prog X.w) X.A (Code.compStart (elt.ListComp [{ target:=tgt,iter:=iter,ifs:=ifs,is_async:=0 }] scope pos) 0 (Value.ref it) (Value.ref Da) (compEnvC scope (m9 X.env.cells scope.names []) h3.objs.size X.env))
    (RR (.ref Da) h3.objs.size) { s2 with heap:=h₁,toks:=s2.toks+([]:List (Str×Value)).length }
  have J0:=awA (tk:=s2.toks+([]:List (Str×Value)).length) I3 c rfl hf3 hns₁ at6;have st1:tn 0 h₁:=T.keep _ _ _ st2 fun b hb o e=>at6 b o (by rw [← hH3];exact ao _ e);have g0:HR X.K (upd H2 Da (.lst [])) (aM G1 Da (.lst [])):=g1.put (u := .lst []) hD ⟨[],aN,.nil⟩;have ts0:Ts H2 (upd H2 Da (.lst [])) := .same (bJ hD)
  have loop:∀ s₄:Shared,Inv (gM X xs scope h3.objs.size { s2 with heap:=h3,toks:=s2.toks } (upd H2 Da (.lst [])) fp pins) [] (nn xs σ) (upd H2 Da (.lst [])) s₄->tn 0 s₄.heap ->
      codeAny (model X.prog X.w) X.A (.compLoop (.ListComp elt [⟨tgt,iter,ifs,0⟩] scope pos) 0 (.ref it) (.ref Da) (compEnvC scope (m9 X.env.cells scope.names []) h3.objs.size X.env)) (RR (.ref Da) h3.objs.size) s₄:=by
    intro s₄ J4 st4
    refine akP (fun n s'=>∃ i ds H' G',Inv (gM X xs scope h3.objs.size { s2 with heap:=h3,toks:=s2.toks } (upd H2 Da (.lst [])) fp pins) [] (nn xs σ) H' s'/\tn i s'.heap/\(∀ b∈fp,H' b=none)/\HR X.K H' G'/\P i ds G'/\i<=src.items.length/\n=src.items.length - i/\Ts H2 H') (fun n s' hI=>?_) src.items.length
      ⟨0,[],_,_,J4,st4,fun b hb=>(hf3 b hb).1.1,g0,p0,ux _,by simp,ts0⟩
    obtain ⟨i,ds,H',G',J,st,fr,g',p,hi',rfl,ts⟩:=hI;obtain ⟨ok,hDl,hdl⟩:=pok i ds G' hi' p;obtain ⟨sgo,aFD,aBA⟩:=sj H' G' ts g' ok
    have fpX:∀ {H':Hp},(∀ b∈fp,H' b=none)->∀ b∈fp,z7 (gM X xs scope h3.objs.size { s2 with heap:=h3,toks:=s2.toks } (upd H2 Da (.lst [])) fp pins) [] H' b:=fun hn b hb=>by
      obtain ⟨⟨f0,f1,f2',f3,f4,f5⟩,lt⟩:=hf3 b hb;refine ⟨hn b hb,gb lt,fun hs=>?_,.inl hb,fun y d e=>f4 y d (gH e fun _ h=>by simp at h),fun p' hp'=>f5 p' (by simpa using hp')⟩;rcases a8P I3 hs with z | z
      . exact f1 z
      . exact f2' z
    by_cases hlt:i < src.items.length
    . refine wpAny_mono (T.item (gM X xs scope h3.objs.size { s2 with heap:=h3,toks:=s2.toks } (upd H2 Da (.lst [])) fp pins) rfl rfl rfl (fun h=>h) (fun _ h=>h) i [] s' (nn xs σ) H' (fun _ _=>False) J (fpX fr) st (sgo i hlt)) (fun r s5 ⟨u,hr,h5⟩=>?_) fun _ _ z=>z.elim;subst hr
      obtain ⟨d0,ys,hd0,ey,aFF⟩:∃ d ys,src.items[i]?=some d/\dv d=some ys/\tc (ys.map some++ρ) G' fun b G2=>if b=true then te (ys.map some++ρ) G2 fun y G3=>G3 Da=some (.lst ds)/\P (i+1) (ds++[y]) (aM G3 Da (.lst (ds++[y]))) else P (i+1) ds G2:=by
        have hd:src.items[i]?=some src.items[i]:=aq hlt;obtain ⟨ys,e,z⟩:=pst i _ ds G' hd p;exact ⟨_,ys,hd,e,z⟩
      show wpAny _ _ (letOwnedTupleGo tgt (.ref it) u) _ _ s5;refine wpAny_mono h5 (fun _ s6 ⟨vx,H6,I6,r6,y6,st6,fr6⟩=>?_) fun _ _ z=>z.elim;obtain ⟨sm,d,hd,rd⟩:=aFD i vx H6 hlt y6;have g':=g'.same sm;have ts:=ts.trans (.same sm);obtain rfl:d0=d:=dj.inj (hd0.symm.trans hd);have I6':=I6.pinned (fpX fr6) (T.obj _ _ st6);refine wpAny_mono (hT _ _ _ _ _ _ _ s6 H6 vx u _ _ I6' r6 rd ey) (fun _ s7 ⟨vs,rvs,I7⟩=>?_) fun _ _ z=>z.elim;have lv:vs.length=xs.length:=by rw [← rvs.length];exact hdv _ _ ey
      have akQ:∀ {s'':Shared} {σ'':St} {H'':Hp},Inv (gM X xs scope h3.objs.size { s2 with heap:=h3,toks:=s2.toks } (upd H2 Da (.lst [])) fp pins) ([]++a0G fp s6.heap) σ'' H'' s''->tn (i+1) s''.heap/\∀ b∈fp,H'' b=none:=fun I''=>by
        refine ⟨T.keep _ _ _ st6 fun b hb o e=>(I''.pin (b,o) (ig _ (ig _ (rD hb e)))).1,fun b hb=>?_⟩;obtain ⟨o,e,_⟩:=T.obj _ _ st6 b hb;exact (I''.pin (b,o) (ig _ (ig _ (rD hb e)))).2.1
      have down:∀ {s'':Shared} {H'':Hp},Inv (gM X xs scope h3.objs.size { s2 with heap:=h3,toks:=s2.toks } (upd H2 Da (.lst [])) fp pins) ([]++a0G fp s6.heap) (vs.map some++σ) H'' s''->Inv (gM X xs scope h3.objs.size { s2 with heap:=h3,toks:=s2.toks } (upd H2 Da (.lst [])) fp pins) [] (nn xs σ) H'' s'':=fun I'' =>
        I''.z8.weak (by simp [nn,lv]) fun j v e=>by
          obtain ⟨j',rfl,e'⟩:=akM e;rw [← lv,show vs.length=(vs.map some).length by simp,ag2];exact e'
      have sr7:SR X.K H6 (ys.map some++ρ) (vs.map some++σ):=akO (sr.mono (t1.trans ts)) rvs
      refine wpAny_mono (hc _ _ _ _ _ _ s7 (vs.map some++σ) H6 (fun b H8=>Ts H6 H8/\∃ G8,HR X.K H8 G8/\(if b=true then te (ys.map some++ρ) G8 fun y G3=>G3 Da=some (.lst ds)/\P (i+1) (ds++[y]) (aM G3 Da (.lst (ds++[y]))) else P (i+1) ds G8)) I7
        ⟨ys.map some++ρ,G',_,sr7,g',aFF,fun b H8 G8 t8 g8 q8=>⟨t8,G8,g8,q8⟩⟩) (fun b s8 ⟨H8,I8,t8,G8,g8,q8⟩=>?_) fun _ _ z=>z.elim
      cases b with
      | false =>
        rw [if_neg (by decide)];have q8':P (i+1) ds G8:=by simpa using q8
        obtain ⟨a1,a2⟩:=akQ I8;exact ⟨src.items.length - (i+1),by omega,i+1,ds,H8,G8,down I8,a1,a2,g8,q8',hlt,rfl,ts.trans t8⟩
      | true =>
        rw [if_pos rfl];have q8':te (ys.map some++ρ) G8 fun y G3=>G3 Da=some (.lst ds)/\P (i+1) (ds++[y]) (aM G3 Da (.lst (ds++[y]))):=by simpa using q8
        refine wpAny_mono (he _ _ _ _ _ _ s8 (vs.map some++σ) H8 (fun vy H9=>Ts H8 H9/\∃ y G9,RD X.K H9 y vy/\HR X.K H9 G9/\G9 Da=some (.lst ds)/\P (i+1) (ds++[y]) (aM G9 Da (.lst (ds++[y])))) I8 ⟨ys.map some++ρ,G8,_,sr7.mono t8,g8,q8',fun vy H9 y G9 t9 r9 g9 q9=>⟨t9,y,G9,r9,g9,q9⟩⟩) (fun uy s9 ⟨vy,H9,I9,ry,t9,y,G9,ryd,g9,hG9,q9⟩=>?_) fun _ _ z=>z.elim;obtain ⟨ws,hH9,rws⟩:=g9 Da _ hG9;have aBC:ws.length < sizeLine:=by rw [← rws.length];omega
        refine wpAny_mono (a73 (X:=gM X xs scope h3.objs.size { s2 with heap:=h3,toks:=s2.toks } (upd H2 Da (.lst [])) fp pins) _ s9 (vs.map some++σ) H9 (.ref Da) [vy] (.ref Da) [uy] (fun _ H10=>H10=upd H9 Da (.lst (ws++[vy]))) I9 rfl (.cons ry .nil) ⟨Da,ws,vy,rfl,rfl,hH9,aBC,rfl⟩) (fun _ s10 ⟨_,H10,I10,_,e10⟩=>?_) fun _ _ z=>z.elim;subst e10;obtain ⟨a1,a2⟩:=akQ I10;have tt:Ts H9 (upd H9 Da (.lst (ws++[vy]))) := .turn hH9 (fun _ z=>nomatch z) (fun _ _ z=>nomatch z);exact ⟨src.items.length - (i+1),by omega,i+1,ds++[y],_,_,down I10,a1,a2,g9.turn (u := .lst (ds++[y])) tt ⟨_,aN,(rws.append (.cons ryd .nil)).mono tt⟩,q9,hlt,rfl,((ts.trans t8).trans t9).trans tt⟩
    . have ein:i=src.items.length:=by omega
      subst ein;refine wpAny_mono (T.done (gM X xs scope h3.objs.size { s2 with heap:=h3,toks:=s2.toks } (upd H2 Da (.lst [])) fp pins) rfl rfl rfl (fun h=>h) (fun _ h=>h) _ [] s' (nn xs σ) H' (fun _ _=>False) J (fpX fr) st aBA) (fun r s5 ⟨hr,J5⟩=>?_) fun _ _ z=>z.elim;subst hr;obtain ⟨m5,hn5,_⟩:=id J5.loc;obtain ⟨G0,l0,q0⟩:=pend ds G' p;have I5:Inv X pins σ H' s5:=apB (tk:=s5.toks) I3 rfl hf3 J5 (qy.refl _ _);refine hRR Da _ s5 H' G0 I5 ⟨⟨m5,hn5⟩,J5.free,uo I3.lt,I3.sz,fun y d e z=>?_,fun p hp z=>?_⟩ (t1.trans ts) (g'.le l0) q0
      . obtain ⟨w,o,ho,_⟩:=I3.cell y d e;rw [z] at ho;exact absurd (cg ho) (jm _)
      . have:=(I3.pin p hp).1;rw [z] at this;exact absurd (cg this) (jm _)
  exact codeAny_compStart_list (loop _ J0 st1) (T.self X.A 0 _ _ _ st1 (loop _ J0 st1))
def zJ (dv:D->Option (List D)) (ti:TI3) (tc:u9) (te:cB):cB:=fun ρ G R=>ti ρ G fun src G1=>src.items.length < sizeLine/\∀ p,G1 p=none->∃ P:Nat->List D->Gp->Prop,P 0 [] (aM G1 p (.lst [])) /\
  (∀ k ds G,k<=src.items.length->P k ds G->src.ok G/\G p=some (.lst ds)/\ds.length<=k) /\
  (∀ k d ds G,src.items[k]?=some d->P k ds G->∃ ys,dv d=some ys/\tc (ys.map some++ρ) G fun b G2=>if b=true then te (ys.map some++ρ) G2 fun y G3=>G3 p=some (.lst ds)/\P (k+1) (ds++[y]) (aM G3 p (.lst (ds++[y]))) else P (k+1) ds G2) /\
  ∀ ds G,P src.items.length ds G->∃ G0,Le G0 G/\R (.ref p) G0
def ae1 (d:D):Option (List D):=some [d]
abbrev a0Q (ti:TI3) (tc:u9) (te:cB):cB:=zJ ae1 ti tc te
def akR (n:Nat) (d:D):Option (List D):=match d with
  | .tup ds=>if ds.length=n then some ds else none
  | _=>none
abbrev zK (n:Nat) (ti:TI3) (tc:u9) (te:cB):cB:=zJ (akR n) ti tc te
theorem abA (d:D) (ds:List D) (h:ae1 d=some ds):ds.length=[x].length:=by
  unfold ae1 at h;cases h;rfl
theorem a8Q (h:akR n d=some ds):d = .tup ds/\ds.length=n:=by
  unfold akR at h;split at h
  . split at h
    . rename_i e;cases h;exact ⟨rfl,e⟩
    . cases h
  . cases h
theorem ae2 {N:List Str} (c:rH X xs scope) (hnd:X.N.Nodup):(xs++X.N).Nodup:=List.nodup_append.mpr ⟨c.nd,hnd,fun a ha b hb e=>c.out a ha (e ▸ hb)⟩
theorem akS (c:rH X [x] scope) (hnd:X.N.Nodup) {σ:St}:akN (gM X [x] scope C s H fp pins) (.Name x px) [x] ae1 σ:=by
  intro a1G s' H' v u d ds I r rd e;unfold ae1 at e;cases e;have pgn:PG (gM X [x] scope C s H fp pins) (.Name x px) (afL 0):=a85 (ae2 (N:=X.N) c hnd) rfl (.inl (lookup_relabel_local (c.var x (by simp)))) (.inr (lookup_relabel_local (c.var x (by simp))));refine wpAny_mono (pgn a1G s' (nn [x] σ) H' v u (fun σ' H2=>σ'=[v].map some++σ/\H2=H') I r ⟨rfl,rfl⟩) (fun _ s2 ⟨σ2,H2,I2,e2,e3⟩=>?_) fun _ _ z=>z;subst e2;subst e3;exact ⟨[v],.cons rd .nil,I2⟩
theorem a8R (c:rH X xs scope) (hT:∀ C s H fp pins σ,akN (gM X xs scope C s H fp pins) tgt xs dv σ) (hdv:∀ d ds,dv d=some ds->ds.length=xs.length) (hi:PI3 X tgt iter ti) (hc:∀ C s H fp pins,ai6 (gM X xs scope C s H fp pins) ifs tc) (he:∀ C s H fp pins,cC (gM X xs scope C s H fp pins) elt te)
    (hs:∀ y,foldedSetIterable iter X.env y=pure y):cC X (.ListComp elt [⟨tgt,iter,ifs,0⟩] scope pos) (zJ dv ti tc te):=by
  intro pins s σ H Q I h;obtain ⟨ρ,G,R,sr,g,q,kk⟩:=h;rw [eval_ListComp];refine wpAny_comprehension_free (use:=none) rfl hs (pU fun y hy hf=>I.ok.has y.1 (c.frees y hy hf)) c.kind c.locs ?_
  refine cH (hi pins s σ H (fun J H1=>Ts H H1/\∃ src G1,HR X.K H1 G1/\a6E X.K H1 src J/\(src.items.length < sizeLine/\∀ p,G1 p=none->∃ P:Nat->List D->Gp->Prop,P 0 [] (aM G1 p (.lst [])) /\
      (∀ k ds G,k<=src.items.length->P k ds G->src.ok G/\G p=some (.lst ds)/\ds.length<=k) /\
      (∀ k d ds G,src.items[k]?=some d->P k ds G->∃ ys,dv d=some ys/\tc (ys.map some++ρ) G fun b G2=>if b=true then te (ys.map some++ρ) G2 fun y G3=>G3 p=some (.lst ds)/\P (k+1) (ds++[y]) (aM G3 p (.lst (ds++[y]))) else P (k+1) ds G2) /\
      ∀ ds G,P src.items.length ds G->∃ G0,Le G0 G/\R (.ref p) G0)) I ⟨ρ,G,_,sr,g,q,fun src J H' G' t1 g1 sj q1=>⟨t1,src,G',g1,sj,q1⟩⟩) fun v s1 h1=>cH h1 fun itv s2 ⟨it,fp,tn,J,H2,e,I2,T,st2,f2,t1,src,G1,g1,sj,hlen,body⟩=>?_
  subst e
  exact a7D (RR:=fun acc C=>compPost (model X.prog X.w) X.A X.xe none (EP X pins σ Q) acc C) c hT hdv hc he sr I2 T st2 f2 t1 g1 sj hlen body fun Da C s5 H' G0 I5 o ts g0 q0=>by
    obtain ⟨m,hn⟩:=o.ns;exact ⟨m,hn,fun h' hs'=>⟨.ref Da,H',o.turn I5 hs',rfl,kk _ H' _ G0 ts (.ref Da) g0 q0⟩⟩
theorem ag3 {y:Str} {py spos:Pos} (c:rH X xs scope) (hT:∀ C s H fp pins σ,akN (gM X xs scope C s H fp pins) tgt xs dv σ) (hdv:∀ d ds,dv d=some ds->ds.length=xs.length) (hnd:X.N.Nodup) (hy:X.N[i]?=some y) (hl:Loc X.env.scope y) (hf:X.fn y=true) (hi:PI3 X tgt iter ti) (hc:∀ C s H fp pins,ai6 (gM X xs scope C s H fp pins) ifs tc) (he:∀ C s H fp pins,cC (gM X xs scope C s H fp pins) elt te)
    (hs:∀ y,foldedSetIterable iter X.env y=pure y):PS3 X (.Assign [.Name y py] (.ListComp elt [⟨tgt,iter,ifs,0⟩] scope pos) spos) (bF i (zJ dv ti tc te)):=by
  have hsw:∃ b,swapsWith (.ListComp elt [⟨tgt,iter,ifs,0⟩] scope pos) (some (.Name y py)) spos.line X.env=pure b:=⟨_,rfl⟩;obtain ⟨b,hsw⟩:=hsw;cases b with
  | false=>exact asV hnd hy hl (a8R c hT hdv hi hc he hs) hsw (.inl hf)
  | true =>
    intro pins s σ H F I h;obtain ⟨ρ,G,E,sr,g,q,d⟩:=h;rw [exec_Assign_Name_used _ _ _ _ hsw];refine ak (wpAny_standAt (ak ?_));show wpAny _ X.A (do let _ ← comprehension (.ListComp elt [⟨tgt,iter,ifs,0⟩] scope pos) scope X.env _ (newList []) false (eval iter X.env) (some (assign (.Name y py) X.env))) _ _ s;refine ak (wpAny_mono (wpAny_comprehension_free (use:=some (assign (.Name y py) X.env)) (Q:=fun _ s'=>SP X pins F .next s') rfl hs (pU fun y hy hf=>I.ok.has y.1 (c.frees y hy hf)) c.kind c.locs ?_) (fun _ s' hq=>dh (dh hq)) fun _ _ e=>e)
    refine cH (hi pins s σ H (fun J H1=>Ts H H1/\∃ src G1,HR X.K H1 G1/\a6E X.K H1 src J/\(src.items.length < sizeLine/\∀ p,G1 p=none->∃ P:Nat->List D->Gp->Prop,P 0 [] (aM G1 p (.lst [])) /\
        (∀ k ds G,k<=src.items.length->P k ds G->src.ok G/\G p=some (.lst ds)/\ds.length<=k) /\
        (∀ k d ds G,src.items[k]?=some d->P k ds G->∃ ys,dv d=some ys/\tc (ys.map some++ρ) G fun b G2=>if b=true then te (ys.map some++ρ) G2 fun y G3=>G3 p=some (.lst ds)/\P (k+1) (ds++[y]) (aM G3 p (.lst (ds++[y]))) else P (k+1) ds G2) /\
        ∀ ds G,P src.items.length ds G->∃ G0,Le G0 G/\E.nx (a0K ρ i (.ref p)) G0)) I ⟨ρ,G,_,sr,g,q,fun src J H' G' t1 g1 sj q1=>⟨t1,src,G',g1,sj,q1⟩⟩) fun v s1 h1=>cH h1 fun itv s2 ⟨it,fp,tn,J,H2,e,I2,T,st2,f2,t1,src,G1,g1,sj,hlen,body⟩=>?_
    subst e;refine a7D (R:=fun z G0=>E.nx (a0K ρ i z) G0) (RR:=fun acc C=>compPost (model X.prog X.w) X.A X.xe (some (assign (.Name y py) X.env)) (fun _ s'=>SP X pins F .next s') acc C) c hT hdv hc he sr I2 T st2 f2 t1 g1 sj hlen body fun Da C s5 H' G0 I5 o ts g0 q0=>?_;show wpAny _ X.A (assign (.Name y py) X.env (.ref Da)) _ _ s5;refine wpAny_assign_Name (a6W (v := .ref Da) I5 hnd hy hl rfl (fun s6 I6 ⟨a,hsb,ha⟩=>?_) (.inl hf));obtain ⟨m,hn⟩:=o.ns
    have hCa:C≠a:=by
      rcases ha with rfl | ha
      . exact o.loc
      . exact fun z=>o.cells y a ha z.symm
    have o6:apE X pins H' C s6.heap:=⟨⟨m,hn.sameBut hsb hCa⟩,o.free,o.loc,o.young,o.cells,o.pins⟩;refine ⟨m,hn.sameBut hsb hCa,fun h' hs'=>⟨_,H',o6.turn I6 hs',d.nx _ G0 _ H' ((sr.mono ts).set (.ref Da) i) g0 q0⟩⟩
end
end
variable {es:List Expr}{is:List Nat}{G:Gp}{tgt:Expr}{body:List Stmt}{ti:TI3}{tb:bD}
section
abbrev TG3:=D->aK->(aK->Prop)->Prop
def upG (K:Fg) (t:TG3):TG:=fun v σ H Q=>∃ ρ d R,SR K H ρ σ/\RD K H d v/\t d ρ R/\∀ ρ' σ',SR K H ρ' σ'->R ρ'->Q σ' H
abbrev PG3 (X:Cx) (tg:Expr) (t:TG3):Prop:=PG X tg (upG X.K t)
def gO (i:Nat):TG3:=fun d ρ Q=>Q (a0K ρ i d)
def a1K:aK->List Nat->List D->aK
  | ρ,i :: is,d :: ds=>a1K (a0K ρ i d) is ds
  | ρ,_,_=>ρ
def xC (is:List Nat):TG3:=fun d ρ Q=>match d with
  | .tup ds=>ds.length=is.length/\Q (a1K ρ is ds)
  | _=>False
def a7E:St->List Nat->List V->St
  | σ,i :: is,v :: vs=>a7E (σ.set i (some v)) is vs
  | σ,_,_=>σ
theorem SR.sets {K:Fg} {H:Hp}:∀ {is:List Nat} {ds:List D} {vs:List V} {ρ:aK} {σ:St},bV K H ds vs->SR K H ρ σ->SR K H (a1K ρ is ds) (a7E σ is vs)
  | [],_,_,_,_,_,s=>s
  | _ :: _,_,_,_,_,.nil,s=>s
  | i :: is,_,_,_,_,.cons h r,s=>SR.sets (is:=is) r (s.set h i)
section
variable {X:Cx}
theorem PG.imp {t t':TG} (h:PG X e t) (k:∀ v σ H Q,t' v σ H Q->t v σ H Q):PG X e t':=fun pins s σ H v u Q I r q=>h pins s σ H v u Q I r (k _ _ _ _ q)
theorem awB {x:Str} (hN:X.N.Nodup) (hi:X.N[i]?=some x) (hx:Loc X.env.scope x) (hf:X.fn x=true∨X.env.scope.names.lookup x=some .local):PG3 X (.Name x pos) (gO i) :=
  PG.imp (a85 hN hi hx hf) fun v σ H Q h=>by
  obtain ⟨ρ,d,R,s,r,q,k⟩:=h;exact k _ _ (s.set r i) q
structure apF (X:Cx) (e:Expr) (i:Nat):Prop where
  ex:∃ x pos,e = .Name x pos/\X.N[i]?=some x/\Loc X.env.scope x/\(X.fn x=true∨X.env.scope.names.lookup x=some .local)
def awC:List Nat->TGs
  | []=>azJ
  | i :: is=>asF (afL i) (awC is)
theorem a8S:∀ {is:List Nat} {vs:List V} {σ:St} {H:Hp} {Q:St->Hp->Prop},vs.length=is.length->Q (a7E σ is vs) H->awC is vs σ H Q
  | [],[],_,_,_,_,q=>⟨rfl,q⟩
  | [],_ :: _,_,_,_,h,_=>by simp at h
  | _ :: _,[],_,_,_,h,_=>by simp at h
  | i :: is,v :: vs,σ,H,Q,h,q=>⟨v,vs,rfl,a8S (is:=is) (by simpa using h) q⟩
theorem a0R (hN:X.N.Nodup):∀ {es:List Expr} {is:List Nat},Two (apF X) es is->PGs X es (awC is)/\(assignEach es X.env).length=is.length/\(assignEach es X.env).findIdx? (·.1)=none
  | _,_,.nil=>⟨ao7,rfl,rfl⟩
  | _,_,.cons (a:=e) (b:=i) h r=>by
    obtain ⟨x,pos,rfl,h1,h2,h3⟩:=h.ex;obtain ⟨a1,a2,a3⟩:=a0R hN r;refine ⟨ajK (a85 hN h1 h2 h3) a1 rfl,?_,?_⟩
    . show (assignEach _ X.env).length+1=_;rw [a2];rfl
    . show ((false,assign (.Name x pos) X.env) :: assignEach _ X.env).findIdx? (·.1)=none;rw [List.findIdx?_cons];simp [a3]
theorem at7 {k:Nat} (hN:X.N.Nodup) (hc:X.calm=true) (h:Two (apF X) es is):PG3 X (.Tuple es k pos) (xC is):=by
  obtain ⟨a1,a2,a3⟩:=a0R hN h;refine PG.imp (ajL hc a1 a2 a3) fun v σ H Q h=>?_;obtain ⟨ρ,d,R,s,r,q,k⟩:=h;cases r with
  | @tup a vs ds hq rv =>
    have q':ds.length=is.length/\R (a1K ρ is ds):=q;exact ⟨a,vs,rfl,hq,by rw [← rv.length];exact q'.1,a8S (by rw [← rv.length];exact q'.1) (k _ _ (SR.sets rv s) q'.2)⟩
  | _=>exact False.elim q
theorem a7F:∀ (xs:List Str) (vs done:List V) (σ:St),vs.length=xs.length->a7E (done.map some++nn xs σ) (List.range' done.length xs.length) vs=(done++vs).map some++σ
  | [],[],done,σ,_=>by simp [a7E,nn]
  | [],_ :: _,_,_,h=>by simp at h
  | _ :: _,[],_,_,h=>by simp at h
  | x :: xs,v :: vs,done,σ,h=>by
    have ih:=a7F xs vs (done++[v]) σ (by simpa using h)
    have e1:(done.map some++nn (x :: xs) σ).set done.length (some v)=(done++[v]).map some++nn xs σ:=by
      simp [nn,List.set_append]
    show a7E ((done.map some++nn (x :: xs) σ).set done.length (some v)) (List.range' (done.length+1) xs.length) vs=_;rw [e1];have e2:(done++[v]).length=done.length+1:=by simp
    rw [e2] at ih;rw [ih];simp
theorem akT {xs:List Str} {k:Nat} (c:rH X xs scope) (hnd:X.N.Nodup) (hc:X.calm=true) (hes:Two (fun e x=>∃ p,e=Expr.Name x p) es xs) {σ:St}:akN (gM X xs scope C s H fp pins) (.Tuple es k pos) xs (akR xs.length) σ:=by
  intro a1G s' H' v u d ds I r rd e;obtain ⟨rfl,hl⟩:=a8Q e
  have nms:∀ (es':List Expr) (ys done:List Str),Two (fun e x=>∃ p,e=Expr.Name x p) es' ys->xs=done++ys->Two (apF (gM X xs scope C s H fp pins)) es' (List.range' done.length ys.length):=by
    intro es' ys
    induction ys generalizing es' with
    | nil=>intro done t _;cases t;exact .nil
    | cons y ys ih =>
      intro done t e;cases t with
      | cons h t =>
        obtain ⟨p,rfl⟩:=h;have z:=ih _ (done++[y]) t (by simp [e]);have e2:(done++[y]).length=done.length+1:=by simp
        rw [e2] at z;refine .cons ⟨y,p,rfl,?_,.inl (lookup_relabel_local (c.var y (by simp [e]))),.inr (lookup_relabel_local (c.var y (by simp [e])))⟩ z;show (xs++X.N)[done.length]?=some y;rw [e];simp
  obtain ⟨a1,a2,a3⟩:=a0R (X:=gM X xs scope C s H fp pins) (ae2 (N:=X.N) c hnd) (nms es xs [] hes rfl);cases rd with
  | @tup a vs _ hq rv =>
    have lv:vs.length=xs.length:=by rw [← rv.length];exact hl
    have pgt:=ajL (X:=gM X xs scope C s H fp pins) (k:=k) (pos:=pos) (show (gM X xs scope C s H fp pins).calm=true from hc) a1 a2 a3;refine wpAny_mono (pgt a1G s' (nn xs σ) H' (.ref a) u (fun σ' H2=>σ'=vs.map some++σ/\H2=H') I r ⟨a,vs,rfl,hq,by simpa using lv,a8S (by simpa using lv) ⟨?_,rfl⟩⟩) (fun _ s2 ⟨σ2,H2,I2,e2,e3⟩=>?_) fun _ _ z=>z
    . have:=a7F xs vs [] σ lv;simpa using this
    . subst e2;subst e3;exact ⟨vs,rv,I2⟩
def a6F (K:Fg) (src:Src) (J:It):Prop:=∀ H2 G2,HR K H2 G2->src.ok G2 ->
  (∀ i,i < src.items.length->J.go i H2)/\(∀ i v H',i < src.items.length->J.yld i H2 v H'->Same H2 H'/\∃ d,src.items[i]?=some d/\RD K H' d v)/\J.stop src.items.length H2
def aFI (K:Fg) (t:TI3):TI:=fun σ H Q=>∃ ρ G R,SR K H ρ σ/\HR K H G/\t ρ G R/\∀ src J H' G',Ts H H'->HR K H' G'->a6F K src J->R src G'->Q J H'
abbrev PIS (X:Cx) (tg iter:Expr) (t:TI3):Prop:=PI X tg iter (aFI X.K t)
def a8T (te:cB):TI3:=fun ρ G R=>te ρ G fun x G1=>match x with
  | .ref p=>(match aU G1 p with
    | some xs=>R (.lst p xs) G1
    | none=>False)
  | .str z=>R (.imm (signs z)) G1
  | .tup xs=>xs.all scD=true/\∀ a,(G1 a=none∨G1 a=some (.tpl xs))->R (.tpl a xs) (aM G1 a (.tpl xs))
  | _=>False
theorem aBD {K:Fg} {d':D} {v:V} (h:scD d=true) (r:RD K H d v) (r':RD K H d' v):d'=d:=by
  cases r with
  | non=>cases r';rfl
  | bl b=>cases r';rfl
  | int i=>cases r';rfl
  | str x=>cases r';rfl
  | _=>exact Bool.noConfusion (show false=true from h)
theorem akU {K:Fg} {H:Hp}:∀ {ds ds':List D} {vs:List V},ds.all scD=true->bV K H ds vs->bV K H ds' vs->ds'=ds
  | _,_,_,_,.nil,.nil=>rfl
  | d :: ds,d' :: ds',_,h,.cons r rr,.cons r' rr'=>by
    rw [qz,aj] at h;rw [aBD h.1 r r',akU h.2 rr rr']
theorem akV {σ:St} {xs:List V} {o:GO} (I:Inv X pins σ H s) (g:HR X.K H G) (hq:rB X.K H a xs) (e:G a=some o):∃ ds,o = .tpl ds/\bV X.K H ds xs:=by
  have no:∀ u,H a=some u->(∀ ys,u ≠ .tup ys)->(∀ ob ys,u ≠ .lC ob (.tup ys))->False:=fun u hu h1 h2=>by
    rcases hq with (q | ⟨ob,q⟩) | ⟨ob,_,_,q,_⟩
    . rw [hu] at q;exact h1 _ (dj.inj q)
    . rw [hu] at q;exact h2 _ _ (dj.inj q)
    . have:=tE I a ob q;rw [hu] at this;cases this
  have z:=g a o e;cases o with
  | lst ds=>obtain ⟨_,q,_⟩:=z;exact (no _ q (fun _ w=>nomatch w) (fun _ _ w=>nomatch w)).elim
  | rol ds =>
    obtain ⟨_,q,_⟩:=z;obtain ⟨_,_,⟨o1,n1,e1,c1,_⟩,_⟩:=I.list q;obtain ⟨_,_,⟨o2,e2,c2,_⟩,_⟩:=I.tuple hq;rw [e1] at e2;cases e2;rw [c1] at c2;exact absurd c2 (by decide)
  | jF t kvs=>rcases z with ⟨_,_,q,_⟩ | ⟨_,_,q,_⟩ <;> exact (no _ q (fun _ w=>nomatch w) (fun _ _ w=>nomatch w)).elim
  | ins C fs=>obtain ⟨_,_,q,_⟩:=z;exact (no _ q (fun _ w=>nomatch w) (fun _ _ w=>nomatch w)).elim
  | exn C=>obtain ⟨_,_,q,_⟩:=z;exact (no _ q (fun _ w=>nomatch w) (fun _ _ w=>nomatch w)).elim
  | rdc ob t kvs=>rcases z with ⟨_,_,q,_⟩ | ⟨_,_,q,_⟩ <;> exact (no _ q (fun _ w=>nomatch w) (fun _ _ w=>nomatch w)).elim
  | tpl ds=>obtain ⟨ys,q,r⟩:=z;exact ⟨ds,rfl,by rw [← I.wB q hq];exact r⟩
  | kst ks=>obtain ⟨_,_,_,q,_⟩:=z;exact (no _ q (fun _ w=>nomatch w) (fun _ _ w=>nomatch w)).elim
theorem ag4 {σ:St} {xs:List V} (I:Inv X pins σ H s) (g:HR X.K H G) (hq:rB X.K H a xs) (rv:bV X.K H ds xs) (sc:ds.all scD=true) :
    (G a=none∨G a=some (.tpl ds))/\HR X.K H (aM G a (.tpl ds)):=by
  refine ⟨?_,fun b o e=>?_⟩
  . cases e:G a with
    | none=>exact .inl rfl
    | some o=>obtain ⟨ds',rfl,r⟩:=akV I g hq e;exact .inr (by rw [akU sc rv r])
  . by_cases hb:b=a
    . subst hb;rw [aG] at e;cases e;exact ⟨xs,hq,rv⟩
    . rw [bB hb] at e;exact g b o e
theorem akW {K:Fg}:a6F K (.tpl p xs) (Itt K p):=fun H2 G2 g ok=>by
  obtain ⟨vs,hq,rv⟩:=g p _ ok;exact ab8 hq rv H2 G2 (.refl _) g trivial
theorem ai7 {K:Fg}:a6F K (.lst p xs) (Itl K p):=fun H2 G2 g ok=>a7C (H1:=H2) H2 G2 (.refl _) g ok
theorem abB {K:Fg}:a6F K (.imm (signs z)) (Its z):=fun H2 G2 g ok=>a3W (H1:=H2) H2 G2 (.refl _) g ok
theorem akX {K:Fg}:a6F K (.imm ((gq n).map fun (i:Nat) => .int (lo+(i:Int)))) (Itr lo n):=fun H2 G2 g ok=>ab9 (H1:=H2) H2 G2 (.refl _) g ok
theorem awD {l:Expr} (hl:cC X l te):PIS X tg l (a8T te):=by
  intro pins s σ H R I h;obtain ⟨ρ,G,R3,sr,g,q,k⟩:=h
  refine cH (hl pins s σ H (fun v H1=>Ts H H1/\∃ x G1,RD X.K H1 x v/\HR X.K H1 G1/\(match x with
    | .ref p=>(match aU G1 p with
      | some xs=>R3 (.lst p xs) G1
      | none=>False)
    | .str z=>R3 (.imm (signs z)) G1
    | .tup xs=>xs.all scD=true/\∀ a,(G1 a=none∨G1 a=some (.tpl xs))->R3 (.tpl a xs) (aM G1 a (.tpl xs))
    | _=>False)) I ⟨ρ,G,_,sr,g,q,fun v H1 x G1 t1 r g1 q1=>⟨t1,x,G1,r,g1,q1⟩⟩) fun v s1 ⟨x,H1,I1,r1,t1,d,G1,rd,g1,q1⟩=>?_
  cases rd with
  | ref a =>
    have q1':(match aU G1 a with
      | some xs=>R3 (.lst a xs) G1
      | none=>False):=q1
    split at q1'
    . rename_i xs e;cases r1;obtain ⟨vs,hq,rv⟩:=c7 g1 e;obtain ⟨its,rv',p,hz⟩:=I1.list hq;refine wpAny_pyIter_list p.isList ?_;refine ⟨s1.heap.objs.size,[s1.heap.objs.size],_,_,H1,rfl,I1.kept (t':=s1.toks) fun b o e=>ao _ e,a6X a _,⟨_,cj _ rfl,rfl,rfl⟩,fun b hb=>?_,k _ _ H1 G1 t1 g1 ai7 q1'⟩;have e:b=s1.heap.objs.size:=by simpa using hb
      subst e;exact I1.a1Z (au _) (I1.hok.fresh (au _))
    . exact q1'.elim
  | str z =>
    obtain ⟨t,rfl⟩:=r1;cases ha:z.cps.all (· < 128)
    . refine wpAny_pyIter_wide ha ?_;refine ⟨s1.heap.objs.size,[s1.heap.objs.size],_,_,H1,rfl,I1.kept (t':=s1.toks) fun b o e=>ao _ e,a7B _ z t,?_,fun b hb=>?_,k _ _ H1 G1 t1 g1 abB q1⟩
      . rw [Nat.zero_min];exact ⟨_,cj _ rfl,rfl,rfl⟩
      . have e:b=s1.heap.objs.size:=by simpa using hb
        subst e;exact I1.a1Z (au _) (I1.hok.fresh (au _))
    . refine wpAny_pyIter_ascii ha ?_;refine ⟨s1.heap.objs.size,[s1.heap.objs.size],_,_,H1,rfl,I1.kept (t':=s1.toks) fun b o e=>ao _ e,a7A _ z t,?_,fun b hb=>?_,k _ _ H1 G1 t1 g1 abB q1⟩
      . rw [Nat.zero_min];exact ⟨_,cj _ rfl,rfl,rfl⟩
      . have e:b=s1.heap.objs.size:=by simpa using hb
        subst e;exact I1.a1Z (au _) (I1.hok.fresh (au _))
  | @tup a vs xs hq rv =>
    cases r1;obtain ⟨its,rv',p,hz⟩:=I1.tuple hq;obtain ⟨sc,q1⟩:=q1;obtain ⟨hG,g2⟩:=ag4 I1 g1 hq rv sc;refine wpAny_pyIter_tuple (show s1.heap.IsTuple a its.toArray from p) ?_;refine ⟨s1.heap.objs.size,[s1.heap.objs.size],_,_,H1,rfl,I1.kept (t':=s1.toks) fun b o e=>ao _ e,a3F a _,⟨_,cj _ rfl,rfl,rfl⟩,fun b hb=>?_,k _ _ H1 _ t1 g2 akW (q1 a hG)⟩;have e:b=s1.heap.objs.size:=by simpa using hb
    subst e;exact I1.a1Z (au _) (I1.hok.fresh (au _))
  | _=>exact q1.elim
theorem apG {a:Expr} {p:Pos} (hg:Gl X "range") (hm:X.mg "range" = none) (ha:PA3 X [a] ta) (hs:starEach [a] X.env=[(false,eval a X.env)]):PIS X tg (.Call (.Name "range" p) [a] [] pos) (m8 ta) :=
  PI.imp (a6Y hg hm ha hs) fun σ H Q h=>by
  obtain ⟨ρ,G,R,s,g,q,k⟩:=h;refine ⟨ρ,G,_,s,g,q,fun vs H1 ds G1 t1 r g1 h1=>?_⟩;cases r with
  | nil=>exact h1.elim
  | cons r rr =>
    cases rr with
    | cons _ _=>cases r <;> exact False.elim h1
    | nil =>
      cases r with
      | int j =>
        obtain ⟨l1,l2,h1⟩:=h1;refine ⟨j,rfl,l1,l2,k _ _ H1 G1 t1 g1 ?_ h1⟩;unfold zH;rw [show (j - 0).toNat=j.toNat by omega];exact akX
      | _=>exact False.elim h1
def fZ (ti:TI3) (tg:TG3) (tb:bD):bD:=fun F ρ G=>ti ρ G fun src G1=>∃ P:Nat->aK->Gp->Prop,P 0 ρ G1/\(∀ k ρ G,k<=src.items.length->P k ρ G->src.ok G) /\
  (∀ k d ρ G,src.items[k]?=some d->P k ρ G->tg d ρ fun ρ2=>tb { F with nx:=P (k+1),ct:=P (k+1),bk:=F.nx } ρ2 G)/\∀ ρ G,P src.items.length ρ G->F.nx ρ G
theorem awE {tg:TG3} (hp:PassesOwn (model X.prog X.w) X.A X.env X.xe) (hi:PIS X tgt iter ti) (hg:PG3 X tgt tg) (hb:a2B X body tb)
    (hs:∀ x,foldedSetIterable iter X.env x=pure x):PS3 X (.For tgt iter body [] pos) (fZ ti tg tb):=PS.imp (ajO hp hi hg hb hs) fun F σ H h=>by
  obtain ⟨ρ,G,E,s,g,q,d⟩:=h
  refine ⟨ρ,G,fun src G1=>∃ P:Nat->aK->Gp->Prop,P 0 ρ G1/\(∀ k ρ G,k<=src.items.length->P k ρ G->src.ok G) /\
    (∀ k d ρ G,src.items[k]?=some d->P k ρ G->tg d ρ fun ρ2=>tb { E with nx:=P (k+1),ct:=P (k+1),bk:=E.nx } ρ2 G)/\∀ ρ G,P src.items.length ρ G->E.nx ρ G,s,g,q,fun src J H1 G1 t1 g1 sj ⟨P,p0,pok,pst,pend⟩=>?_⟩
  refine aaZ (K:=X.K) (n:=src.items.length) (fun k σ2 H2=>∃ ρ' G',SR X.K H2 ρ' σ2/\HR X.K H2 G'/\P k ρ' G') ⟨ρ,G1,s.mono t1,g1,p0⟩ (fun σ2 H2 ⟨ρ',G',s2,g2,p⟩=>?_) (fun k σ2 H2 hk ⟨ρ',G',s2,g2,p⟩=>?_) (fun k y σ2 H2 H3 hk ⟨ρ',G',s2,g2,p⟩ hy=>?_)
    (fun σ2 H2 ⟨ρ',G',s2,g2,p⟩=>d.nx ρ' G' σ2 H2 s2 g2 (pend ρ' G' p))
  . exact (sj H2 G' g2 (pok _ ρ' G' (au _) p)).2.2
  . exact (sj H2 G' g2 (pok _ ρ' G' (qb hk) p)).1 k hk
  . obtain ⟨sm,dk,e1,e2⟩:=(sj H2 G' g2 (pok _ ρ' G' (qb hk) p)).2.1 k y H3 hk hy;refine ⟨ρ',dk,_,s2.mono (.same sm),e2,pst k dk ρ' G' e1 p,fun ρ2 σ3 s3 q3=>?_⟩;exact ⟨ρ2,G',_,s3,g2.same sm,q3,⟨fun ρ4 G4 σ4 H4 s4 g4 q4=>⟨ρ4,G4,s4,g4,q4⟩,d.rt,d.nx,fun ρ4 G4 σ4 H4 s4 g4 q4=>⟨ρ4,G4,s4,g4,q4⟩⟩⟩
end
end
section
def aFJ:D->Bool
  | .bl _=>true
  | _=>false
def aFK:D->Bool
  | .bl b=>b
  | _=>false
def aHF:List D->Gp->fY->Prop:=fun xs G R=>match xs with
  | [.ref q]=>(match aU G q with
    | some ds=>ds.all aFJ=true/\R (.bl (ds.all aFK)) G
    | none=>False)
  | _=>False
section
variable {X:Cx}
def on2 (xs:List D) (f:Int->Int->Prop):Prop:=match xs with
  | [.int i,.int j]=>f i j
  | _=>False
def at8:List D->Gp->fY->Prop:=fun xs G R=>on2 xs fun i j=>R (.int (if j < i then j else i)) G
def at9:List D->Gp->fY->Prop:=fun xs G R=>on2 xs fun i j=>R (.int (if i < j then j else i)) G
theorem abC {K:Fg} (r:bV K H xs vs) {f:Int->Int->Prop} (h:on2 xs f):∃ i j,xs=[.int i,.int j]/\vs=[.int i,.int j]/\f i j:=by
  match xs,vs,r,h with
  | [],_,_,h=>exact h.elim
  | [_],_,.cons r .nil,h=>cases r <;> exact False.elim h
  | [_,_],_,.cons r (.cons r' .nil),h =>
    cases r with
    | int i =>
      cases r' with
      | int j=>exact ⟨i,j,rfl,rfl,h⟩
      | _=>exact False.elim h
    | _=>cases r' <;> exact False.elim h
  | _ :: _ :: _ :: _,_,.cons r (.cons r' _),h=>cases r <;> cases r' <;> exact False.elim h
theorem aBE (hc:X.calm=true):bY X (.builtin "min") at8:=bY.of (ahP hc) fun H xs vs G R Q rx g q k=>by
  obtain ⟨i,j,rfl,rfl,q'⟩:=abC (f:=fun i j=>R (.int (if j < i then j else i)) G) rx q;exact ⟨i,j,rfl,fun _=>k _ H _ G (.refl H) (.int _) g q'⟩
theorem aBF (hc:X.calm=true):bY X (.builtin "max") at9:=bY.of (ahO hc) fun H xs vs G R Q rx g q k=>by
  obtain ⟨i,j,rfl,rfl,q'⟩:=abC (f:=fun i j=>R (.int (if i < j then j else i)) G) rx q;exact ⟨i,j,rfl,fun _=>k _ H _ G (.refl H) (.int _) g q'⟩
end
end
variable {us:List Value}{zs:List (Int×Tok)}{ns:List Int}
section
section
variable {X:Cx} {pos:Pos}
def a8U (is:List Nat) (te:cB):bD:=fun F ρ G=>te ρ G fun d G1=>xC is d ρ fun ρ2=>F.nx ρ2 G1
theorem awF {k:Nat} {tp:Pos} (hg:PG3 X (.Tuple es k tp) (xC is)) (he:cC X e te) (hs:swapsWithSole [.Tuple es k tp] e pos.line X.env=pure false) (hw:swappedStores [.Tuple es k tp] e X.env=pure none)
    (h1:(assignEach [.Tuple es k tp] X.env).map (·.2)=[assign (.Tuple es k tp) X.env]):PS3 X (.Assign [.Tuple es k tp] e pos) (a8U is te):=PS.imp (auQ he hg hs hw h1) fun F σ H h=>by
  obtain ⟨ρ,G,E,s,g,q,d⟩:=h;exact ⟨ρ,G,_,s,g,q,fun v H' x G' t1 r g1 h=>⟨ρ,x,_,s.mono t1,r,h,fun ρ' σ' s' q'=>d.nx ρ' G' σ' H' s' g1 q'⟩⟩
def a2Q (c:u9) (tb:bD):bD:=fun F ρ G=>∃ W:Nat->aK->Gp->Prop,(∃ m,W m ρ G)/\∀ m ρ G,W m ρ G->c ρ G fun b G1=>if b=true then tb { F with nx:=fun ρ' G'=>∃ m',m' < m/\W m' ρ' G',ct:=fun ρ' G'=>∃ m',m' < m/\W m' ρ' G',bk:=F.nx } ρ G1 else F.nx ρ G1
theorem apH (hp:PassesOwn (model X.prog X.w) X.A X.env X.xe) (hc:PT3 X c tc) (hb:a2B X body tb):PS3 X (.While c body [] pos) (a2Q tc tb):=PS.imp (ajM hp hc hb) fun F σ H h=>by
  obtain ⟨ρ,G,E,s,g,⟨W,⟨m0,w0⟩,turn⟩,d⟩:=h;refine ⟨fun m σ H=>∃ ρ G,SR X.K H ρ σ/\HR X.K H G/\W m ρ G,⟨m0,ρ,G,s,g,w0⟩,fun m σ1 H1 ⟨ρ1,G1,s1,g1,w1⟩=>⟨ρ1,G1,_,s1,g1,turn m ρ1 G1 w1,fun b H2 G2 t2 g2 q2=>?_⟩⟩;cases b with
  | true =>
    rw [if_pos rfl];rw [if_pos rfl] at q2;refine ⟨fun σ' H'=>∃ ρ' G',SR X.K H' ρ' σ'/\HR X.K H' G'/\∃ m',m' < m/\W m' ρ' G',fun σ' H' ⟨ρ',G',s',g',m',hm,w'⟩=>⟨m',hm,ρ',G',s',g',w'⟩,ρ1,G2,_,s1.mono t2,g2,q2,?_⟩;exact ⟨fun ρ' G' σ' H' s' g' q'=>⟨ρ',G',s',g',q'⟩,d.rt,d.nx,fun ρ' G' σ' H' s' g' q'=>⟨ρ',G',s',g',q'⟩⟩
  | false=>exact d.nx _ _ _ _ (s1.mono t2) g2 (by simpa using q2)
end
theorem ints_of {K:Fg} {H:Hp}:∀ {ns:List Int} {vs:List V} {us:List Value},bV K H (ns.map D.int) vs->Vals vs us->∃ ys:List (Int×Tok),us=ys.map (fun p=>Value.int p.1 p.2)/\ys.map (·.1)=ns
  | [],_,_,r,v=>by cases r;cases v;exact ⟨[],rfl,rfl⟩
  | n :: ns,_,_,r,v=>by
    cases r with
    | cons h r =>
      cases h with
      | int i =>
        cases v with
        | cons hu v =>
          obtain ⟨t,rfl⟩:=hu;obtain ⟨ys,e1,e2⟩:=ints_of r v;exact ⟨(n,t) :: ys,by rw [e1];rfl,by rw [jd,e2]⟩
def akY (xs:List D) (G:Gp) (P:List D->Prop) (O:Prop):Prop:=match xs with
  | [.ref q]=>(match aU G q with
    | some ds=>P ds
    | none=>False)
  | _=>O
section
variable {X:Cx}
theorem aBG {P:List D->Prop} {O:Prop} {σ:St} (I:Inv X pins σ H s) (rx:bV X.K H xs vs) (rv:Vals vs us) (g:HR X.K H G)
    (h:akY xs G P O):(∃ a ds ys its,us=[.ref a]/\bV X.K H ds ys/\Vals ys its/\s.heap.IsList a its.toArray/\P ds)∨O:=by
  cases rx with
  | nil=>exact .inr h
  | cons r1 rr =>
    cases rr with
    | cons _ _=>cases r1 <;> exact .inr h
    | nil =>
      cases r1 with
      | ref a =>
        obtain ⟨u,rfl,ru⟩:=vals1 rv;cases ru
        have q':(match aU G a with
          | some ds=>P ds
          | none=>False):=h
        split at q'
        . rename_i ds e1;obtain ⟨ys,hq,r1⟩:=c7 g e1;obtain ⟨its,rv',p,hz⟩:=I.list hq;exact .inl ⟨a,ds,ys,its,rfl,r1,rv',p.isList,q'⟩
        . exact q'.elim
      | _=>exact .inr h
theorem int_list (p:s.heap.IsList a (zs.map fun p=>Value.int p.1 p.2).toArray):s.heap.IsList a (intItems zs.toArray):=by
  have:intItems zs.toArray=(zs.map fun p=>Value.int p.1 p.2).toArray:=by simp [intItems]
  rw [this];exact p
def yG:List D->Gp->fY->Prop:=fun xs G R=>akY xs G (fun ds=>∃ ns:List Int,ds=ns.map D.int/\ns≠[]/\∀ M,M∈ns->(∀ a∈ns,a<=M)->R (.int M) G) (at9 xs G R)
def a0S:List D->Gp->fY->Prop:=fun xs G R=>akY xs G (fun ds=>∃ ns:List Int,ds=ns.map D.int/\ns≠[]/\∀ M,M∈ns->(∀ a∈ns,M<=a)->R (.int M) G) (at8 xs G R)
theorem ae3 (e2:zs.map (·.1)=ns) (h:j < zs.toArray.size):numAt zs.toArray j∈ns:=by
  rw [numAt_eq,← e2];exact getD_mem (by simpa using h)
theorem ae4 (e2:zs.map (·.1)=ns) {a:Int} (h:a∈ns):∃ j,j < zs.toArray.size/\numAt zs.toArray j=a:=by
  rw [← e2] at h;obtain ⟨j,hj,rfl⟩:=mem_getD h;exact ⟨j,by simpa using hj,by rw [numAt_eq]⟩
theorem awG (hc:X.calm=true):bY X (.builtin "max") yG:=by
  intro pins s σ H xs vs us G R Q I rx rv g q k;rcases aBG I rx rv g q with ⟨a,ds,ys,its,rfl,r1,rv',p,ns,rfl,hne,q'⟩ | z
  . obtain ⟨zs,rfl,e2⟩:=ints_of r1 rv'
    have hsz:0 < zs.toArray.size:=by
      cases zs with
      | nil=>exact absurd e2.symm hne
      | cons _ _=>simp
    refine max_intList (I.ok.hd hc) (int_list p) hsz fun v h' tk hv kk=>?_;obtain ⟨t,rfl⟩:=intItems_at hv;obtain ⟨h1,h2⟩:=argBest_gt (numAt zs.toArray) (zs.toArray.size - 1);refine ⟨.int _,H,I.kept kk,⟨t,rfl⟩,k _ H _ G (.refl H) (.int _) g (q' _ (ae3 e2 (by omega)) fun a ha=>?_)⟩;obtain ⟨j,hj,rfl⟩:=ae4 e2 ha;exact h2 j (by omega)
  . exact aBF hc pins s σ H _ vs us G R Q I rx rv g z k
theorem awH (hc:X.calm=true):bY X (.builtin "min") a0S:=by
  intro pins s σ H xs vs us G R Q I rx rv g q k;rcases aBG I rx rv g q with ⟨a,ds,ys,its,rfl,r1,rv',p,ns,rfl,hne,q'⟩ | z
  . obtain ⟨zs,rfl,e2⟩:=ints_of r1 rv'
    have hsz:0 < zs.toArray.size:=by
      cases zs with
      | nil=>exact absurd e2.symm hne
      | cons _ _=>simp
    refine min_intList (I.ok.hd hc) (int_list p) hsz fun v h' tk hv kk=>?_;obtain ⟨t,rfl⟩:=intItems_at hv;obtain ⟨h1,h2⟩:=argBest_lt (numAt zs.toArray) (zs.toArray.size - 1);refine ⟨.int _,H,I.kept kk,⟨t,rfl⟩,k _ H _ G (.refl H) (.int _) g (q' _ (ae3 e2 (by omega)) fun a ha=>?_)⟩;obtain ⟨j,hj,rfl⟩:=ae4 e2 ha;exact h2 j (by omega)
  . exact aBE hc pins s σ H _ vs us G R Q I rx rv g z k
end
end
section
def ok2 (G:Gp) (x y:D):Bool:=match x,y with
  | .ref p,.ref q=>(match aU G p,aU G q with
    | some xs,some ys=>xs.all (aO 17)&&ys.all (aO 17)
    | _,_=>false)
  | x,y=>aO 18 x&&aO 18 y
def eq2 (G:Gp) (x y:D):Bool:=match x,y with
  | .ref p,.ref q=>(match aU G p,aU G q with
    | some xs,some ys=>eX xs ys
    | _,_=>false)
  | x,y=>eqP x y
def awI (G:Gp):List D->List D->Bool
  | x :: xs,y :: ys=>ok2 G x y&&awI G xs ys
  | _,_=>true
def awJ (G:Gp):List D->List D->Bool
  | [],[]=>true
  | x :: xs,y :: ys=>eq2 G x y&&awJ G xs ys
  | _,_=>false
section
variable {X:Cx}
def aBH (G:Gp) (x y:D) (k:Bool->Prop):Prop:=match x,y with
  | .tup xs,.tup ys=>awI G xs ys=true/\k (awJ G xs ys)
  | .ref a,.ref b=>(match aU G a,aU G b with
    | some xs,some ys=>awI G xs ys=true/\k (awJ G xs ys)
    | _,_=>False)
  | _,_=>False
def aBI:R3:=fun x y G R=>aBH G x y fun b=>R (.bl b) G
def aBJ:R3:=fun x y G R=>aBH G x y fun b=>R (.bl (!b)) G
end
end
section
section
variable {X:Cx} {C:Addr} {bmB bmN:List Value} {B Bn newId nid initId inN:String} {x:Str} {np cpos:Pos} {e:Expr} {es:List Expr} {t:tZ}
def akZ (C:Addr) (t:tZ):cB:=fun ρ G R=>t ρ G fun ds G1=>ds.length<=sizeLine/\∀ x,G1 x=none->R (.ref x) (aM G1 x (.exn C))
theorem al0 {σ:St} {x:Addr} (I:Inv X pins σ H s) (hm:yt s.heap h' x (.ref C) us) :
    ∃ o vs,H x=none/\Inv X pins σ (upd H x (.lC o (.ext (aaV C x)))) { s with heap:=h' }/\o.data = .fields vs/\vs[2]?=some .none:=by
  obtain ⟨t,e1,_,_⟩:=hm.there;have nxH:H x=none:=akH I.hok hm.new;refine ⟨{ cls := .ref C,data := .fields #[.ref t,.none,.none,.none,.bool false,.none] },#[.ref t,.none,.none,.none,.bool false,.none],nxH,?_,rfl,rfl⟩;generalize ho:({ cls := .ref C,data := .fields #[.ref t,.none,.none,.none,.bool false,.none] }:Obj)=o at e1;have sn:Same H (upd H x (.lC o (.ext (aaV C x)))):=bJ nxH;have nst:∀ b u,s.heap.get? b=some u->b≠x:=fun b u e z=>by subst z;rw [hm.new] at e;cases e
  refine I.call' (ch:=[]) (s':={ s with heap:=h' }) rfl ⟨fun b u e n _ _=>hm.keeps b u e,fun b u e n _ _=>⟨u.slots,hm.keeps b u e⟩,fun b u e n _=>by rw [aW (nst b u e)];exact n,fun b u e _=>⟨u,hm.keeps b u e⟩,fun b xs z=>sn _ _ z,fun b u v z=>sn _ _ z,fun b ps z=>⟨#[],by rw [Array.append_empty];exact sn _ _ z⟩⟩ (fun b u e=>?_) I.bare fun b z=>absurd z (by simp);by_cases hb:b=x
  . subst hb;rw [aN] at e;cases e;exact ⟨e1,⟨o,_,e1,by rw [← ho],by rw [← ho]⟩,⟨o,e1⟩,fun h1 h2 ⟨o1,w1,e1,e2,e3⟩ k=>⟨o1,w1,k _ e1,e2,e3⟩⟩
  . rw [aW hb] at e;exact ((I.hok.kept hm.keeps) b u e).stay (fun _ _ _ z=>z) (fun c z=>sn _ _ z) fun c xs z=>sn _ _ z
theorem abD {σ:St} {R:fY} {Q:VK} (Fn:ExcBaseFacts Bn newId inN bmN) (hBn:bmB.contains (.type Bn)=true) (FB:ExcBaseFacts B nid initId bmB) (hq:jj X.K C bmB newId=true) (I:Inv X pins σ H s) (g:HR X.K H G) (hl:us.length<=sizeLine) (q:∀ x,G x=none->R (.ref x) (aM G x (.exn C)))
    (k:∀ v H' d G',Ts H H'->RD X.K H' d v->HR X.K H' G'->R d G'->Q v H'):wpAny (model X.prog X.w) X.A (call (.ref C) us) (EP X pins σ Q) X.xe s:=by
  obtain ⟨tl,N,nm,q',bs,hdct,sn,sub,ab,col,dd',k0,k1,k2,k3,k5,mN,hC,hN,hni,T⟩:=a2O I.mod.kin hq;obtain ⟨h,g0,d0,t0,os0⟩:=s;refine wpAny_call_exc_subU (hrest:=hl) Fn hBn FB (T.keeps I.bk) (I.bk _ _ hC) (hN.keeps I.bk) hni fun h' x hm=>?_;obtain ⟨o,vs,nx,J,d1,d2⟩:=al0 I hm;have sn:Same H (upd H x (.lC o (.ext (aaV C x)))):=bJ nx;exact ⟨.ref x,_,J,rfl,k _ _ _ _ (.same sn) (.ref x) (g.put (u := .exn C) nx ⟨o,vs,aN,d1,d2⟩) (q x (jX (K:=X.K) g nx (tE (X:=X) J)))⟩
theorem aBK (Fn:ExcBaseFacts Bn newId inN bmN) (hBn:bmB.contains (.type Bn)=true) (FB:ExcBaseFacts B nid initId bmB) (hg:Gl X x) (hm:X.mg x=some (.ref C)) (hq:jj X.K C bmB newId=true) (ha:PA3 X (e :: es) t) (hd:(x == ("__debug__" : Str))=false)
    (he:starEach (e :: es) X.env=(false,eval e X.env) :: starEach es X.env) (hpl:(backTo cpos (starEach es X.env)).any (·.1)=false):cC X (.Call (.Name x np) (e :: es) [] cpos) (akZ C t):=by
  intro pins s σ H Q I h;obtain ⟨ρ,G,R,sr,g,q,kk⟩:=h;obtain ⟨tl,N,nm,q',bs,hdct,sn,sub,ab,col,dd',k0,k1,k2,k3,k5,mN,hC,hN,hni,T⟩:=a2O I.mod.kin hq;refine wpAny_Call_ofName (o7 I hg hm ?_ hd);unfold callWith;have hA:=ha cpos pins s σ H (fun vs H1=>Ts H H1/\∃ ds G1,bV X.K H1 ds vs/\HR X.K H1 G1/\ds.length<=sizeLine/\∀ x,G1 x=none->R (.ref x) (aM G1 x (.exn C))) I ⟨ρ,G,_,sr,g,q,fun vs H1 ds G1 t1 r1 g1 q1=>⟨t1,ds,G1,r1,g1,q1.1,q1.2⟩⟩;have hp2:(backTo cpos (starEach (e :: es) X.env)).any (·.1)=false:=by rw [he];show (false || (backTo cpos (starEach es X.env)).any (·.1))=false;rw [hpl];rfl
  rw [he] at hA hp2 ⊢;refine ak (wpAny_holding (Calls.evalArgs_plain (cH hA fun us s2 ⟨vs,H2,I2,r2,t1,ds,G1,r1,g1,hl,q1⟩=>ak (wpAny_standAt ?_))));have hl2:us.length<=sizeLine:=by rw [← r2.length,← r1.length];exact hl
  simp only [hp2];obtain ⟨h0,g0,d0,t0,os0⟩:=s2;refine ak (wpAny_keeperOf_exc (I2.bk _ _ hC) ?_);refine ak (cH (abD Fn hBn FB hq I2 g1 hl2 q1 fun v H' d G' t3=>kk v H' d G' (t1.trans t3)) fun v s3 q3=>ak (wpAny_holding (wpAny_point (dh q3))))
theorem awK (Fn:ExcBaseFacts Bn newId inN bmN) (hBn:bmB.contains (.type Bn)=true) (FB:ExcBaseFacts B nid initId bmB) (hg:Gl X x) (hm:X.mg x=some (.ref C)) (hq:jj X.K C bmB newId=true) (hd:(x == ("__debug__" : Str))=false):cC X (.Call (.Name x np) [] [] cpos) (akZ C aC):=by
  intro pins s σ H Q I h;obtain ⟨ρ,G,R,sr,g,⟨hl,q⟩,kk⟩:=h;obtain ⟨tl,N,nm,q',bs,hdct,sn,sub,ab,col,dd',k0,k1,k2,k3,k5,mN,hC,hN,hni,T⟩:=a2O I.mod.kin hq;refine wpAny_Call_ofName (o7 I hg hm ?_ hd);unfold callWith;refine ak (wpAny_holding (PySem.evalArgs_none (ak (wpAny_standAt ?_))));obtain ⟨h0,g0,d0,t0,os0⟩:=s;refine ak (wpAny_keeperOf_exc (I.bk _ _ hC) ?_);refine ak (cH (abD (us:=[]) Fn hBn FB hq I g (ux _) q kk) fun v s3 q3=>ak (wpAny_holding (wpAny_point (dh q3))))
end
end
section
section
variable {X:Cx} {o e value:Expr} {f:Str} {C:Addr} {pos pos':Pos} {ta tv:cB}
end
section
variable {X:Cx} {qt:Bool} {k:Nat} {f C:Addr} {fd:FuncData} {ps:List Str} {sp:tG} {EX:aK->aV} {x m:Str} {p pos apos:Pos} {o e:Expr} {es:List Expr} {t:tZ} {ta:cB} {dd:List D} {dvs:List V} {ds:List Value}
def ae5 (C:Addr) (sp:tG) (dd:List D) (EX:aK->aV) (t:tZ):cB:=fun ρ G R=>t ρ G fun ds G1=>∀ x,G1 x=none->sp (.ref x :: (ds++dd)) (aM G1 x (.ins C [])) (fun v G2=>v = .non/\R (.ref x) G2) (EX ρ)
theorem a7G {σ:St} {R:fY} {Q:VK} {pR:List D} (M:Mk X.K C f) (F:bW qt X.prog X.w X.K X.mg X.base (lU X.prog X.w) k f fd ps (cJ X.K sp)) (hr:f9 qt (k+1) X.A) (hb:Binds X.K fd ps ds) (hd:Vals dvs ds) (hdd:∀ H,bV X.K H dd dvs) (hx:Cat X EX)
    (I:Inv X pins σ H s) (sr:SR X.K H ρ σ) (g:HR X.K H G) (r:Vals vs us) (r2:bV X.K H pR vs) (h:∀ x,G x=none->sp (.ref x :: (pR++dd)) (aM G x (.ins C [])) (fun v G2=>v = .non/\R (.ref x) G2) (EX ρ))
    (hQ:∀ v H' d G',Ts H H'->RD X.K H' d v->HR X.K H' G'->R d G'->Q v H'):wpAny (model X.prog X.w) X.A (call (.ref C) us) (EP X pins σ Q) X.xe s:=by
  have n1:H (s.heap.objs.size+1)=none:=I.hok.fresh (Nat.le_succ _);have n0:H s.heap.objs.size=none:=I.hok.fresh (au _);have ne:s.heap.objs.size+1≠s.heap.objs.size:=Nat.succ_ne_self _;have I2:=Inv.made (C:=C) I
  have kl:X.K.lookup (s.heap.objs.size+1)=none:=by
    cases q:X.K.lookup (s.heap.objs.size+1) with
    | none=>rfl
    | some u=>have:=tE I2 _ u q;rw [aN] at this;cases this
  have gn:G (s.heap.objs.size+1)=none:=jX (o := .ins C s.heap.objs.size []) g n1 fun b u e=>by
    by_cases c:b=s.heap.objs.size+1
    . subst c;rw [kl] at e;cases e
    . rw [aW c];exact tE I b u e
  have t1:Ts H (upd H s.heap.objs.size (.own (s.heap.objs.size+1))) := .same (bJ n0);have n1':upd H s.heap.objs.size (.own (s.heap.objs.size+1)) (s.heap.objs.size+1)=none:=by rw [aW ne];exact n1
  have t2:Ts (upd H s.heap.objs.size (.own (s.heap.objs.size+1))) (upd (upd H s.heap.objs.size (.own (s.heap.objs.size+1))) (s.heap.objs.size+1) (.ins C s.heap.objs.size [])) := .same (bJ n1');have g1:HR X.K (upd H s.heap.objs.size (.own (s.heap.objs.size+1))) G:=g.same (bJ n0);have g2:HR X.K (upd (upd H s.heap.objs.size (.own (s.heap.objs.size+1))) (s.heap.objs.size+1) (.ins C s.heap.objs.size [])) (aM G (s.heap.objs.size+1) (.ins C [])):=g1.put n1' ⟨s.heap.objs.size,[],aN,.nil⟩
  have hq:cJ X.K sp (V.ref (s.heap.objs.size+1) :: (vs++dvs)) (upd (upd H s.heap.objs.size (.own (s.heap.objs.size+1))) (s.heap.objs.size+1) (.ins C s.heap.objs.size [])) (fun v H'=>v = .non/\∃ G',HR X.K H' G'/\R (.ref (s.heap.objs.size+1)) G') (a3O X.K (EX ρ)) :=
    ⟨.ref (s.heap.objs.size+1) :: (pR++dd),_,_,EX ρ,.cons (.ref _) (((r2.mono t1).mono t2).append (hdd _)),g2,h _ gn,fun v H' d G' r3 g3 q3=>by
      obtain ⟨rfl,q3⟩:=q3;cases r3;exact ⟨rfl,G',g3,q3⟩,fun C H' G' g' q'=>⟨C,G',rfl,g',q'⟩⟩
  have rr:Vals (V.ref (s.heap.objs.size+1) :: (vs++dvs)) (Value.ref (s.heap.objs.size+1) :: (us++ds)) := .cons rfl (r.append hd)
  have hl:(Value.ref (s.heap.objs.size+1) :: us++ds).length=ps.length:=by
    have e:=rr.length;rw [F.len _ _ _ _ hq] at e;exact e.symm
  refine wpAny_call (ajU (f:=f) I.kIn M.makes M.init (beq_iff_eq.mp M.fn) (codeAny_mono (F.run _ X.stack _ _ ⟨Value.ref (s.heap.objs.size+1) :: us,[]⟩ (Value.ref (s.heap.objs.size+1) :: (us++ds)) _ _ _ (hr.make C us [])
    (I2.env0.make C us []) (hb _ (Value.ref (s.heap.objs.size+1) :: us) I2.kIn hl) rr hq) fun r s' hq'=>?_))
  cases r with
  | error e=>exact hx.afU pins σ _ _ ρ e s' I2 ((sr.mono t1).mono t2) hq'
  | ok fl =>
    cases fl with
    | ret u =>
      obtain ⟨v,H',os,bare,un,hok,rv,ev,G',g3,q3⟩:=hq';subst ev;exact ⟨rv,⟨V.ref (s.heap.objs.size+1),H',I2.call' (ch:=[]) os un hok bare (fun b z=>absurd z (by simp)),rfl,hQ _ H' (.ref _) G' ((t1.trans t2).trans ⟨un.tups,un.j4⟩) (.ref _) g3 q3⟩⟩
    | next=>exact False.elim hq'
    | brk=>exact False.elim hq'
    | cont=>exact False.elim hq'
theorem apI (M:Mk X.K C f) (F:bW qt X.prog X.w X.K X.mg X.base (lU X.prog X.w) k f fd ps (cJ X.K sp)) (hr:f9 qt (k+1) X.A) (hg:Gl X x) (hm:X.mg x=some (.ref C)) (hb:Binds X.K fd ps ds) (hd:Vals dvs ds) (hdd:∀ H,bV X.K H dd dvs) (hx:Cat X EX)
    (ha:PA3 X (e :: es) t) (hdb:(x == ("__debug__" : Str))=false) (he:starEach (e :: es) X.env=(false,eval e X.env) :: starEach es X.env) (hpl:(backTo pos (starEach es X.env)).any (·.1)=false) :
    cC X (.Call (.Name x p) (e :: es) [] pos) (ae5 C sp dd EX t):=by
  intro pins s σ H Q I h;obtain ⟨ρ,G,R,sr,g,q,kk⟩:=h;refine wpAny_Call_Name_kw (o7 I hg hm ?_ hdb);refine PySem.W.callWith_K (h₀:=X.base) I.ok.mod.kin M.kp (cH (ha pos pins s σ H (fun vs H1=>Ts H H1/\∃ ds G1,bV X.K H1 ds vs/\HR X.K H1 G1/\∀ x,G1 x=none->sp (.ref x :: (ds++dd)) (aM G1 x (.ins C [])) (fun v G2=>v = .non/\R (.ref x) G2) (EX ρ)) I ⟨ρ,G,_,sr,g,q,fun vs H1 ds G1 t1 r1 g1 q1=>⟨t1,ds,G1,r1,g1,q1⟩⟩) fun us s1 ⟨vs,H1,I1,r,t1,ds,G1,r1,g1,q1⟩=>⟨I1.kIn,?_⟩) he hpl;exact a7G M F hr hb hd hdd hx I1 (sr.mono t1) g1 r r1 q1 fun v H' d G' t2=>kk v H' d G' (t1.trans t2)
theorem al1 (M:Mk X.K C f) (F:bW qt X.prog X.w X.K X.mg X.base (lU X.prog X.w) k f fd ps (cJ X.K sp)) (hr:f9 qt (k+1) X.A) (hg:Gl X x) (hm:X.mg x=some (.ref C)) (hb:Binds X.K fd ps ds) (hd:Vals dvs ds) (hdd:∀ H,bV X.K H dd dvs) (hx:Cat X EX)
    (hdb:(x == ("__debug__" : Str))=false):cC X (.Call (.Name x p) [] [] pos) (ae5 C sp dd EX aC):=by
  intro pins s σ H Q I h;obtain ⟨ρ,G,R,sr,g,q,kk⟩:=h;refine wpAny_Call_Name_kw (o7 I hg hm ?_ hdb);exact PySem.W.callWith_K0 I.kIn M.kp (a7G (us:=[]) (vs:=[]) (pR:=[]) M F hr hb hd hdd hx I sr g .nil .nil q fun v H' d G' t2=>kk v H' d G' t2)
end
end
variable {t':Nat}{l:Addr}{Q E:Value->Shared->Prop}{ch:List Addr}
section
section
variable {X:Cx} {pins:List (Addr×Obj)} {σ:St} {H:Hp} {s:Shared} {h':Heap}
theorem Inv.apJ (I:Inv X pins σ H s) (k:∀ b u,b ∉ ch->s.heap.get? b=some u->h'.get? b=some u) (hc:∀ b∈ch,z7 X pins H b):Inv X pins σ H { s with heap:=h',toks:=t' }:=by
  have nit:∀ b u,H b=some u->b ∉ ch:=fun b u e z=>by rw [(hc b z).1] at e;cases e
  refine I.step (g':=s.gens) (d':=s.drawn) (ch:=ch) (fun b hb=>?_) (fun b o _ _ hn e _=>k b o hn e) (fun b o _ _ hn e _=>⟨o.slots,k b o hn e⟩) (fun _ _ _ _ n=>n) (fun b o hn e=>⟨o,k b o hn e⟩) (fun _ _ e=>e) (fun _ _ _ e=>e) (fun b ps e=>⟨#[],by rw [e];simp⟩) (fun m hm=>?_) (fun b u e=>?_) I.bare
  . obtain ⟨_,f1,_,f3,f4,f5⟩:=hc b hb;exact ⟨f3,f1,f4,f5⟩
  . obtain ⟨o,es,ep,ho,r⟩:=hm;exact ⟨o,es,ep,k _ o (fun z=>(hc _ z).2.1 rfl) ho,r⟩
  . refine (I.hok b u e).stay (fun c v hcc q=>k c v ?_ q) (fun _ q=>q) fun _ _ q=>q;rcases hcc with z | z
    . rw [z];exact nit b u e
    . exact nit c _ z
theorem Inv.a7H {o:HO} (I:Inv X pins σ H s) (k:∀ b u,b ∉ ch->s.heap.get? b=some u->h'.get? b=some u) (hc:∀ b∈ch,z7 X pins H b) (ha:s.heap.objs.size<=a) (new:cY X.prog X.w (upd H a o) h' a o):Inv X pins σ (upd H a o) { s with heap:=h',toks:=t' }:=by
  have nit:∀ b u,H b=some u->b ∉ ch:=fun b u e z=>by rw [(hc b z).1] at e;cases e
  have fr:H a=none:=I.hok.fresh ha;have sn:Same H (upd H a o):=bJ fr;have na:∀ b u,s.heap.get? b=some u->b≠a:=fun b u e z=>absurd (fj (cg e) (z ▸ ha)) (jm _);refine I.step (g':=s.gens) (d':=s.drawn) (ch:=ch) (fun b hb=>?_) (fun b o _ _ hn e _=>k b o hn e) (fun b o _ _ hn e _=>⟨o.slots,k b o hn e⟩) (fun b u _ e n=>by rw [aW (na b u e)];exact n) (fun b o hn e=>⟨o,k b o hn e⟩) (fun b xs e=>sn _ _ e) (fun b o u e=>sn _ _ e) (fun b ps e=>⟨#[],by rw [sn _ _ e];simp⟩) (fun m hm=>?_) (fun b u e=>?_) I.bare
  . obtain ⟨_,f1,_,f3,f4,f5⟩:=hc b hb;exact ⟨f3,f1,f4,f5⟩
  . obtain ⟨o,es,ep,ho,r⟩:=hm;exact ⟨o,es,ep,k _ o (fun z=>(hc _ z).2.1 rfl) ho,r⟩
  . by_cases hb:b=a
    . subst hb;rw [aN] at e;cases e;exact new
    . rw [aW hb] at e;refine (I.hok b u e).stay (fun c v hcc q=>k c v ?_ q) (fun _ q=>sn _ _ q) fun _ _ q=>sn _ _ q;rcases hcc with z | z
      . rw [z];exact nit b u e
      . exact nit c _ z
end
def aHI (ta:tZ):TI3:=fun ρ G R=>ta ρ G fun xs G1=>match xs with
  | [.ref p,.ref q]=>(match aU G1 p,aU G1 q with
    | some xs,some ys=>R (.zip p q xs ys) G1
    | _,_=>False)
  | _=>False
section
variable {X:Cx} {es:List Expr} {kt:Nat} {pt:Pos}
end
variable {d:Value}
section
variable {prog:Program} {w:World} {A:Around} {R:Result->Shared->Prop} {I:Addr} {fp wr:List Addr} {n:Nat} {P:Nat->Value->Prop} {St:Nat->Heap->Prop} {kw:List (Str×Value)}
theorem al2 (W:Walks prog w A.in1 I fp wr n P St) (bt:Nat->Nat->Bool) (hcmp:CmpOf prog w A.in1 .Gt P bt) (S:Addr) (hSf:S ∉ fp):∀ (k j:Nat) (s:Shared) (vb:Value) (c:Nat),n - (j+1)=k->j+1<=n->St (j+1) s.heap->P (argBest bt j) vb ->
      s.heap.get? S=some { cls := .type "list",dict:=none,data := .seq #[vb,vb] c,slots:=#[] }->(∀ v h' tk,P (argBest bt (n - 1)) v->(∀ b o,b ∉ wr->b≠S->s.heap.get? b=some o->h'.get? b=some o)->R (.ok (.ret v)) { s with heap:=h',toks:=tk }) ->
      codeAny (model prog w) A (.builtin "max.loop" ⟨[.ref I,.none,.ref S],kw⟩) R s:=by
  have nw:S ∉ wr:=fun h=>hSf (W.sub _ h);have nm:(toString "max" ++ toString ".loop" : String) = "max.loop" := by decide
  intro k;induction k with
  | zero =>
    intro j s vb c hk hj hst hb hS hR;have hn:j+1=n:=by omega
    refine codeAny_builtin F.entry_max_loop ?_;rw [Around.under_plainId F.plain_max_loop _];show wpAny _ A.in1 (seqItems? (.ref S) >>= _) _ _ s;refine ak (wpAny_seqItems hS rfl ?_);show wpAny _ A.in1 (tryCatch (pyNext (.ref I)) _ >>= _) _ _ s;refine ak (wpAny_tryCatch (W.done s _ _ (hn ▸ hst) fun h' tk hk'=>?_));have z:=hk' S _ nw hS;show wpAny _ A.in1 (updateSeq S (fun _=>#[]) >>= _) _ _ _;refine ak ?_;refine wpAny_updateSeq z rfl (ak (wpAny_letGo (dh (hR vb _ tk (by rw [← hn];exact hb) fun b o h1 h2 e=>?_))));exact (iw _ _ (Ne.symm h2)).trans (hk' b o h1 e)
  | succ k ih =>
    intro j s vb c hk hj hst hb hS hR;have hn:j+1 < n:=by omega
    refine codeAny_builtin F.entry_max_loop ?_;rw [Around.under_plainId F.plain_max_loop _];show wpAny _ A.in1 (seqItems? (.ref S) >>= _) _ _ s;refine ak (wpAny_seqItems hS rfl ?_);show wpAny _ A.in1 (tryCatch (pyNext (.ref I)) _ >>= _) _ _ s;refine ak (wpAny_tryCatch (W.item (j+1) s _ _ hn hst fun v h' tk hP hst' hk'=>?_));have z:=hk' S _ nw hS;show wpAny _ A.in1 (tryCatch (holding [v,v] (richCompare .Gt v vb >>= _)) _ >>= _) _ _ _;refine ak (wpAny_tryCatch (wpAny_holding (ak (hcmp (j+1) (argBest bt j) v vb _ _ _ hP hb ?_))));refine ak (wpAny_holding (wpAny_truthy_bool (ak (wpAny_letGo (dh ?_)))));cases e:bt (j+1) (argBest bt j) with
    | true =>
      simp only [if_true];refine ak ?_;refine wpAny_updateSeq z rfl (ak (wpAny_letGo ?_));rw [nm];refine dh ⟨plainId_quiet F.plain_max_loop _,ih (j+1) _ v _ (by omega) hn (W.frame _ _ _ hst' fun b hbf o e=>?_) (by simp only [argBest,e,if_true];exact hP) (nu _ z rfl) fun v' h2 tk2 hP' hk2=>hR v' h2 tk2 hP' fun b o h1 h3 e=>?_⟩
      . exact (iw _ _ (fun h:S=b=>hSf (by rw [h];exact hbf))).trans e
      . exact hk2 b o h1 h3 ((iw _ _ (Ne.symm h3)).trans (hk' b o h1 e))
    | false =>
      simp only [pq,if_false];refine ak (wpAny_letGo ?_);rw [nm];refine dh ⟨plainId_quiet F.plain_max_loop _,ih (j+1) _ vb c (by omega) hn hst' (by simp only [argBest,e,pq,if_false];exact hb) z fun v' h2 tk2 hP' hk2=>hR v' h2 tk2 hP' fun b o h1 h3 e=>hk2 b o h1 h3 (hk' b o h1 e)⟩
theorem ai8 (W:Walks prog w A.in1 I fp wr n P St) (bt:Nat->Nat->Bool) (hcmp:CmpOf prog w A.in1 .Gt P bt) (S:Addr) (hSf:S ∉ fp) {c:Nat} {kn:Str} {kr:List (Str×Value)} (hst:St 0 s.heap) (hS:s.heap.get? S=some { cls := .type "list",dict:=none,data := .seq #[] c,slots:=#[] })
    (h0:n=0->∀ h' tk,(∀ b o,b ∉ wr->b≠S->s.heap.get? b=some o->h'.get? b=some o)->R (.ok (.ret d)) { s with heap:=h',toks:=tk })
    (hR:0 < n->∀ v h' tk,P (argBest bt (n - 1)) v->(∀ b o,b ∉ wr->b≠S->s.heap.get? b=some o->h'.get? b=some o)->R (.ok (.ret v)) { s with heap:=h',toks:=tk }) :
    codeAny (model prog w) A (.builtin "max.loop" ⟨[.ref I,.none,.ref S],(kn,d) :: kr⟩) R s:=by
  have nw:S ∉ wr:=fun h=>hSf (W.sub _ h);have nm:(toString "max" ++ toString ".loop" : String) = "max.loop" := by decide
  refine codeAny_builtin F.entry_max_loop ?_;rw [Around.under_plainId F.plain_max_loop _];show wpAny _ A.in1 (seqItems? (.ref S) >>= _) _ _ s;refine ak (wpAny_seqItems hS rfl ?_);show wpAny _ A.in1 (tryCatch (pyNext (.ref I)) _ >>= _) _ _ s;by_cases hn:0 < n
  . refine ak (wpAny_tryCatch (W.item 0 s _ _ hn hst fun v h' tk hP hst' hk'=>?_));have z:=hk' S _ nw hS;show wpAny _ A.in1 (updateSeq S (fun _=>#[v,v]) >>= _) _ _ _;refine ak ?_;refine wpAny_updateSeq z rfl ?_;rw [nm];refine dh ⟨plainId_quiet F.plain_max_loop _,al2 W bt hcmp S hSf _ 0 _ v _ rfl hn (W.frame _ _ _ hst' fun b hbf o e=>?_) hP (nu _ z rfl) fun v' h2 tk2 hP' hk2=>hR hn v' h2 tk2 hP' fun b o h1 h3 e=>?_⟩
    . exact (iw _ _ (fun h:S=b=>hSf (by rw [h];exact hbf))).trans e
    . exact hk2 b o h1 h3 ((iw _ _ (Ne.symm h3)).trans (hk' b o h1 e))
  . have n0:n=0:=by omega
    refine ak (wpAny_tryCatch (W.done s _ _ (by rw [n0];exact hst) fun h' tk hk'=>?_));exact ak (wpAny_rule (dh (h0 n0 h' tk fun b o h1 _ e=>hk' b o h1 e)))
end
theorem al3 (a v:Value):argsOk "max" ⟨[a],[(Str.ofString "default",v)]⟩:=by unfold argsOk;kernel_rfl
theorem al4 {prog:Program} {w:World} {xs:Array (Int×Tok)} (hh:A.handled=none) (hl:s.heap.IsList l (intItems xs))
    (h0:xs.size=0->∀ h' tk,(∀ b o,s.heap.get? b=some o->h'.get? b=some o)->Q d { s with heap:=h',toks:=tk })
    (h:0 < xs.size->∀ v h' tk,(intItems xs)[argBest (fun i j=>decide (numAt xs i > numAt xs j)) (xs.size - 1)]?=some v->(∀ b o,s.heap.get? b=some o->h'.get? b=some o)->Q v { s with heap:=h',toks:=tk }) :
    wpAny (model prog w) A (call (.builtin "max") [.ref l] [(Str.ofString "default",d)]) Q E s:=by
  have nm:(toString "max" ++ toString ".loop" : String) = "max.loop" := by decide
  have sz:(intItems xs).size=xs.size:=by simp [intItems]
  refine kmk_tree F.kind_max F.plain_max F.entry_max (al3 _ _) ?_;show wpAny _ A.in1 (Builtin.Builtins.bindParams "max" ["key", "default"] 0 ⟨[],[(Str.ofString "default",d)]⟩ >>= _) _ _ s;refine ak (wpAny_of_eq (show Builtin.Builtins.bindParams "max" ["key", "default"] 0 ⟨[],[(Str.ofString "default",d)]⟩=pure [none,some d] from rfl) ?_);refine ak (dh (ak (iter_intList hl fun s₂ e st hfp hlI=>?_)));subst e;refine ak (wpAny_newObj_type ?_);rw [nm];have W:=Walks.list (prog:=prog) (w:=w) (A:=A.in1) hh s.heap.objs.size l hlI (intItems xs);refine dh ⟨plainId_quiet F.plain_max_loop _,ai8 W _ (CmpOf.ints_gt (numAt xs) (fun _ _=>intItems_at)) _ (fun hm=>jm _ (hfp _ hm)) (W.frame _ _ _ st fun b _ o e=>ao _ e) (cj _ rfl) (fun n0 h' tk hk=>?_) fun n0 v h' tk hP hk=>?_⟩
  . refine h0 (by rw [← sz];exact n0) h' tk (old_kept (l:=l) fun b o hbw e=>hk b o hbw (gb (cg e)) (ao _ e))
  . refine h (by rw [← sz];exact n0) v h' tk (by rw [sz] at hP;exact hP) (old_kept (l:=l) fun b o hbw e=>hk b o hbw (gb (cg e)) (ao _ e))
def uJ (x d:D) (G:Gp) (R:fY):Prop:=match x with
  | .ref p=>(match aU G p with
    | some ds=>∃ ns:List Int,ds=ns.map D.int/\(ns=[]->R d G)/\∀ M,M∈ns->(∀ a∈ns,a<=M)->R (.int M) G
    | none=>False)
  | _=>False
def ag5 (te td:cB):cB:=fun ρ G R=>te ρ G fun x G1=>td ρ G1 fun d G2=>uJ x d G2 R
section
variable {X:Cx} {x:Str} {p pos kp:Pos} {e d:Expr} {te td:cB}
theorem awL (hc:X.calm=true) (hg:Gl X x) (hm:X.mg x=none) (hv:bootBuiltins x=some (.builtin "max")) (he:cC X e te) (hd:cC X d td) (hn:x ≠ "__name__") (hdb:(x == ("__debug__" : Str))=false)
    (hs:starEach [e] X.env=[(false,eval e X.env)]):cC X (.Call (.Name x p) [e] [⟨some "default",d,kp⟩] pos) (ag5 te td):=by
  intro pins s σ H Q I h;obtain ⟨ρ,G,R,sr,g,q,kk⟩:=h;refine wpAny_Call_Name_kw (a0F I hg hm hv ?_ hn hdb)
  have hA:=(yE he aaX (by rw [hs];rfl)) pos pins s σ H (fun vs H1=>Ts H H1/\∃ ds G1,bV X.K H1 ds vs/\HR X.K H1 G1/\(match ds with
    | [y]=>td ρ G1 fun d G2=>uJ y d G2 R
    | _=>False)) I ⟨ρ,G,(fun ds G1=>match ds with
    | [y]=>td ρ G1 fun d G2=>uJ y d G2 R
    | _=>False),sr,g,q,fun vs H1 ds G1 t1 r1 g1 q1=>⟨t1,ds,G1,r1,g1,q1⟩⟩
  refine callWith_kw (cH hA fun us s1 ⟨vs,H1,I1,rr,t1,ds,G1,r1,g1,q1⟩=>?_) (by rw [hs];rfl) (by rw [hs];rfl) rfl rfl;split at q1
  . rename_i y;cases r1 with
    | @cons _ vy _ _ ry rn =>
      cases rn;cases rr with
      | @cons _ uy _ _ ru rn =>
        cases rn;refine cH (aoE (nm:=some "default") (kpos:=kp) hd av5 pos pins s1 σ H1 (fun zs H2=>Ts H H2/\Ts H1 H2/\∃ z G2 dz,zs=[z]/\RD X.K H2 dz z/\HR X.K H2 G2/\uJ y dz G2 R) I1 ⟨ρ,G1,_,sr.mono t1,g1,q1,fun v H2 dz G2 t2 r2 g2 q2=>⟨t1.trans t2,t2,v,G2,dz,rfl,r2,g2,q2⟩⟩) fun kvs s2 ⟨zs,H2,I2,rz,tt,t2,z,G2,dz,e,r2,g2,q2⟩=>?_;subst e;cases rz with
        | @cons _ kv _ _ rk rn =>
          cases rn;show wpAny _ _ (call (.builtin "max") [uy] [(Str.ofString "default",kv)]) _ _ s2;unfold uJ at q2;split at q2
          . rename_i l;split at q2
            . rename_i ds e1;obtain ⟨ns,rfl,h0,h1⟩:=q2;cases ry;cases ru;obtain ⟨ys,hq,r3⟩:=c7 g2 e1;obtain ⟨its,rv',pl,_⟩:=I2.list hq;obtain ⟨zs,rfl,e2⟩:=ints_of r3 rv';refine al4 (I2.ok.hd hc) (int_list pl.isList) (fun n0 h' tk kp=>?_) fun n0 v h' tk hv kp=>?_
              . have:ns=[]:=by
                  rw [← e2];cases zs with
                  | nil=>rfl
                  | cons _ _=>simp at n0
                exact ⟨z,H2,I2.kept kp,rk,kk _ H2 _ G2 tt r2 g2 (h0 this)⟩
              . obtain ⟨t,rfl⟩:=intItems_at hv;obtain ⟨_,h2⟩:=argBest_gt (numAt zs.toArray) (zs.toArray.size - 1);refine ⟨.int _,H2,I2.kept kp,⟨t,rfl⟩,kk _ H2 _ G2 tt (.int _) g2 (h1 _ (ae3 e2 (by omega)) fun a ha=>?_)⟩;obtain ⟨j,hj,rfl⟩:=ae4 e2 ha;exact h2 j (by omega)
            . exact q2.elim
          . exact q2.elim
  . exact q1.elim
end
end
variable {y:D}{x:List Key×Addr×Value}{kvs:List (DK×D)}{vy vx:V}{ks:List Key}
section
def atA:D->Option Key
  | .int i=>some (.inl i)
  | .str x=>some (.inr x)
  | _=>none
def a8V:List D->Option (List Key)
  | []=>some []
  | d :: r=>match atA d,a8V r with
    | some k,some ks=>some (k :: ks)
    | _,_=>none
def a6G:D->Option DK
  | .int i=>some (.inl (.inl i))
  | .str x=>some (.inl (.inr x))
  | _=>none
def xD:DK->Bool
  | .inl _=>false
  | .inr _=>true
section
variable {κ:Type} [DecidableEq κ] {α:Type}
def mD:List (κ×α)->κ->Option α
  | [],_=>none
  | p :: r,k=>if p.1=k then some p.2 else mD r k
def zL (kvs:List (κ×α)) (k:κ) (v:α):List (κ×α):=if (mD kvs k).isSome=true then kvs.map (fun kv=>if kv.1=k then (kv.1,v) else kv) else kvs++[(k,v)]
end
variable {v:V}
theorem apK {K:Fg} {k:Key} (r:RD K H d v) (e:atA d=some k):v=kV k:=by
  cases r <;> first
    | (cases e;rfl)
    | cases e
theorem abE {K:Fg} {H:Hp}:∀ {ds:List D} {vs:List V} {ks:List Key},bV K H ds vs->a8V ds=some ks->vs=ks.map kV
  | _,_,_,.nil,e=>by cases e;rfl
  | d :: ds,v :: vs,ks,.cons h r,e=>by
    unfold a8V at e;split at e
    . rename_i k ks' e1 e2;cases e;rw [apK h e1,abE r e2];rfl
    . cases e
abbrev wW {κ:Type} (K:Fg) (H:Hp) (f:κ->DK):List (DK×D)->List (κ×V)->Prop:=Two fun p q=>p.1=f q.1/\RD K H p.2 q.2
section
variable {κ:Type} [DecidableEq κ] {K:Fg} {H:Hp} {f:κ->DK}
theorem val_two (hf:∀ a b,f a=f b->a=b) {k:κ}:∀ {kvs:List (DK×D)} {xs:List (κ×V)},wW K H f kvs xs->(∀ d,mD kvs (f k)=some d->∃ v,xZ xs k=some v/\RD K H d v)/\(mD kvs (f k)=none->xZ xs k=none)
  | _,_,.nil=>⟨fun d e=>(nomatch e),fun _=>rfl⟩
  | p :: kvs,q :: xs,.cons h r=>by
    obtain ⟨h1,h2⟩:=h;by_cases c:q.1=k
    . have c2:p.1=f k:=by rw [h1,c]
      unfold mD;rw [if_pos c2,z9 c];exact ⟨fun d e=>by cases e;exact ⟨_,rfl,h2⟩,fun e=>(nomatch e)⟩
    . have c2:¬ p.1=f k:=fun z=>c (hf _ _ (h1.symm.trans z));unfold mD;rw [if_neg c2,zA c];exact val_two hf r
theorem al5 (hf:∀ a b,f a=f b->a=b) {k:κ} {xs:List (κ×V)} (t:wW K H f kvs xs):(mD kvs (f k)).isSome=(xZ xs k).isSome:=by
  have z:=val_two hf (k:=k) t;cases e:mD kvs (f k) with
  | none=>rw [z.2 e];rfl
  | some d=>obtain ⟨v,e2,_⟩:=z.1 d e;rw [e2];rfl
theorem ag6 {g:DK×D->DK×D} {h:κ×V->κ×V} (gh:∀ p q,p.1=f q.1/\RD K H p.2 q.2->(g p).1=f (h q).1/\RD K H (g p).2 (h q).2):∀ {kvs:List (DK×D)} {xs:List (κ×V)},wW K H f kvs xs->wW K H f (kvs.map g) (xs.map h)
  | _,_,.nil => .nil
  | _,_,.cons z r => .cons (gh _ _ z) (ag6 gh r)
theorem abF {p:DK×D} {q:κ×V} (z:p.1=f q.1/\RD K H p.2 q.2):∀ {kvs:List (DK×D)} {xs:List (κ×V)},wW K H f kvs xs->wW K H f (kvs++[p]) (xs++[q])
  | _,_,.nil => .cons z .nil
  | _,_,.cons y r => .cons y (abF z r)
theorem a2R (hf:∀ a b,f a=f b->a=b) {k:κ} (rd:RD K H d v) {xs:List (κ×V)} (t:wW K H f kvs xs):wW K H f (zL kvs (f k) d) (putK xs k v):=by
  unfold zL putK;rw [a3H,al5 hf t];split
  . refine ag6 (fun p q ⟨h1,h2⟩=>?_) t;by_cases c:q.1=k
    . rw [if_pos (show p.1=f k by rw [h1,c]),if_pos c];exact ⟨h1,rd⟩
    . rw [if_neg (show ¬ p.1=f k from fun z=>c (hf _ _ (h1.symm.trans z))),if_neg c];exact ⟨h1,h2⟩
  . exact abF (p:=(f k,d)) (q:=(k,v)) ⟨rfl,rd⟩ t
end
theorem a2S (a b:Key) (h:(Sum.inl a:DK) = .inl b):a=b:=by cases h;rfl
theorem a2T (a b:List Key) (h:(Sum.inr a:DK) = .inr b):a=b:=by cases h;rfl
def pW (x y:D) (G:Gp) (P:Addr->Bool->List (DK×D)->DK->Prop):Prop:=match x with
  | .ref a=>(match G a,a6G y with
    | some (.jF t kvs),some k=>xD k=t/\P a t kvs k
    | _,_=>False)
  | _=>False
def a3Y (K:Fg) (H:Hp) (a:Addr) (vy:V) (kvs:List (DK×D)) (k:DK):Prop :=
  (∃ k' xs,k = .inl k'/\H a=some (.dK xs)/\wW K H .inl kvs xs/\vy=kV k')∨∃ ks xs b,k = .inr ks/\H a=some (.dT xs)/\wW K H .inr kvs xs/\vy = .ref b/\H b=some (.tup (ks.map kV))
theorem a8W {K:Fg} {k:DK} (ry:RD K H y vy) (e:a6G y=some k):(∃ k',k = .inl k'/\vy=kV k')∨∃ ks b,k = .inr ks/\vy = .ref b/\H b=some (.tup (ks.map kV)):=by
  cases ry with
  | int i=>cases e;exact .inl ⟨_,rfl,rfl⟩
  | str x=>cases e;exact .inl ⟨_,rfl,rfl⟩
  | _=>cases e
theorem uK {K:Fg} {x:D} {P:Addr->Bool->List (DK×D)->DK->Prop} (rx:RD K H x vx) (ry:RD K H y vy) (g:HR K H G) (h:pW x y G P) :
    ∃ a kvs k,x = .ref a/\vx = .ref a/\G a=some (.jF (xD k) kvs)/\a6G y=some k/\P a (xD k) kvs k/\a3Y K H a vy kvs k:=by
  unfold pW at h;split at h
  . rename_i a;split at h
    . rename_i t kvs k e1 e2;obtain ⟨rfl,h⟩:=h;cases rx;refine ⟨a,kvs,k,rfl,rfl,e1,e2,h,?_⟩;rcases g a _ e1 with ⟨z,xs,e3,r⟩ | ⟨z,xs,e3,r⟩
      . rcases a8W ry e2 with ⟨k',rfl,rfl⟩ | ⟨ks,b,rfl,_⟩
        . exact .inl ⟨k',xs,rfl,e3,r,rfl⟩
        . cases z
      . rcases a8W ry e2 with ⟨k',rfl,rfl⟩ | ⟨ks,b,rfl,rfl,eb⟩
        . cases z
        . exact .inr ⟨ks,xs,b,rfl,e3,r,rfl,eb⟩
    . exact h.elim
  . exact h.elim
theorem a3Y.get {K:Fg} {k:DK} (h:a3Y K H a vy kvs k):(∀ d,mD kvs k=some d->∃ v,yD H a vy (some v)/\RD K H d v)/\(mD kvs k=none->yD H a vy none):=by
  rcases h with ⟨k',xs,rfl,e,r,rfl⟩ | ⟨ks,xs,b,rfl,e,r,rfl,eb⟩
  . have z:=val_two a2S (k:=k') r;exact ⟨fun d e2=>(z.1 d e2).elim fun v q=>⟨v,by rw [← q.1];exact .k e,q.2⟩,fun e2=>by rw [← z.2 e2];exact .k e⟩
  . have z:=val_two a2T (k:=ks) r;exact ⟨fun d e2=>(z.1 d e2).elim fun v q=>⟨v,by rw [← q.1];exact .t e eb,q.2⟩,fun e2=>by rw [← z.2 e2];exact .t e eb⟩
theorem a3Y.any {K:Fg} {k:DK} (h:a3Y K H a vy kvs k):∃ o,yD H a vy o/\o.isSome=(mD kvs k).isSome/\∀ d v,RD K H d v->RD K H ((mD kvs k).getD d) (o.getD v):=by
  have z:=h.get;cases e:mD kvs k with
  | none=>exact ⟨none,z.2 e,rfl,fun d v r=>r⟩
  | some d=>obtain ⟨v,g,r⟩:=z.1 d e;exact ⟨some v,g,rfl,fun _ _ _=>r⟩
theorem a3Y.put {K:Fg} {k:DK} (g:HR K H G) (h:a3Y K H a vy kvs k) (rv:RD K H d v) (hl:kvs.length < sizeLine):∃ H',aaO H a vy v H'/\Ts H H'/\HR K H' (aM G a (.jF (xD k) (zL kvs k d))):=by
  rcases h with ⟨k',xs,rfl,e,r,rfl⟩ | ⟨ks,xs,b,rfl,e,r,rfl,eb⟩
  . have tt:Ts H (upd H a (.dK (putK xs k' v))) := .turn e (fun _ z=>nomatch z) (fun _ _ z=>nomatch z);exact ⟨_,.k e (by rw [← r.length];exact hl),tt,g.turn (u := .jF false _) tt (.inl ⟨rfl,_,aN,(a2R a2S rv r).imp fun _ _ q=>⟨q.1,q.2.mono tt⟩⟩)⟩
  . have tt:Ts H (upd H a (.dT (putK xs ks v))) := .turn e (fun _ z=>nomatch z) (fun _ _ z=>nomatch z);exact ⟨_,.t e eb (by rw [← r.length];exact hl),tt,g.turn (u := .jF true _) tt (.inr ⟨rfl,_,aN,(a2R a2T rv r).imp fun _ _ q=>⟨q.1,q.2.mono tt⟩⟩)⟩
def a3Z (G:Gp) (a:Addr):Option (Bool×List (DK×D)):=match G a with
  | some (.jF t kvs)=>some (t,kvs)
  | some (.rdc _ t kvs)=>some (t,kvs)
  | _=>none
theorem al6 {K:Fg} {t:Bool} (g:HR K H G) (e:a3Z G a=some (t,kvs)) :
    (t=false/\∃ xs:List (Key×V),Rd H a (.dK xs)/\wW K H .inl kvs xs)∨(t=true/\∃ xs:List (List Key×V),Rd H a (.dT xs)/\wW K H .inr kvs xs):=by
  unfold a3Z at e;split at e
  . rename_i t' kvs' q;cases e;rcases g a _ q with ⟨z,xs,e2,tw⟩ | ⟨z,xs,e2,tw⟩
    . exact .inl ⟨z,xs,.inl e2,tw⟩
    . exact .inr ⟨z,xs,.inl e2,tw⟩
  . rename_i o t' kvs' q;cases e;rcases g a _ q with ⟨z,xs,e2,tw⟩ | ⟨z,xs,e2,tw⟩
    . exact .inl ⟨z,xs,.inr ⟨o,e2⟩,tw⟩
    . exact .inr ⟨z,xs,.inr ⟨o,e2⟩,tw⟩
  . cases e
def a4A (x y:D) (G:Gp) (P:List (DK×D)->DK->Prop):Prop:=match x with
  | .ref a=>(match a3Z G a,a6G y with
    | some (t,kvs),some k=>xD k=t/\P kvs k
    | _,_=>False)
  | _=>False
theorem ai9 {K:Fg} {x:D} {P:List (DK×D)->DK->Prop} (rx:RD K H x vx) (ry:RD K H y vy) (g:HR K H G) (h:a4A x y G P) :
    ∃ a kvs k,x = .ref a/\vx = .ref a/\P kvs k/\∀ d,mD kvs k=some d->∃ v,yD H a vy (some v)/\RD K H d v:=by
  unfold a4A at h;split at h
  . rename_i a;split at h
    . rename_i t kvs k e1 e2;obtain ⟨rfl,h⟩:=h;cases rx;refine ⟨a,kvs,k,rfl,rfl,h,fun d ed=>?_⟩;rcases al6 g e1 with ⟨z,xs,e3,r⟩ | ⟨z,xs,e3,r⟩
      . rcases a8W ry e2 with ⟨k',rfl,rfl⟩ | ⟨ks,b,rfl,_⟩
        . obtain ⟨v,e4,rv⟩:=(val_two a2S (k:=k') r).1 d ed;exact ⟨v,.inl ⟨xs,k',e3,rfl,e4.symm⟩,rv⟩
        . cases z
      . rcases a8W ry e2 with ⟨k',rfl,rfl⟩ | ⟨ks,b,rfl,rfl,eb⟩
        . cases z
        . obtain ⟨v,e4,rv⟩:=(val_two a2T (k:=ks) r).1 d ed;exact ⟨v,.inr ⟨xs,ks,b,e3,rfl,eb,e4.symm⟩,rv⟩
    . exact h.elim
  . exact h.elim
def a0T:R3:=fun x y G R=>a4A x y G fun kvs k=>match mD kvs k with
  | some d=>R d G
  | none=>False
def atB:R3:=fun x y G R=>pW y x G fun _ _ kvs k=>R (.bl (mD kvs k).isSome) G
def a0U:R3:=fun x y G R=>match x,y with
  | .tup ds,.ref a=>(match G a with
    | some (.kst ks)=>∃ n:List Int,ds=n.map D.int/\R (.bl (!decide (n∈ks))) G
    | _=>False)
  | _,_=>pW y x G fun _ _ kvs k=>R (.bl (!(mD kvs k).isSome)) G
theorem a4B {k:List Key}:∀ {xs:List (List Key×Addr×Value)},(atKey xs k).isSome=true↔k∈xs.map (·.1)
  | []=>by simp [atKey]
  | x :: r=>by
    have ih:=a4B (k:=k) (xs:=r);unfold atKey at ih ⊢;by_cases c:x.1=k
    . simp [c]
    . have c2:¬ k=x.1:=fun e=>c e.symm;rw [List.find?_cons_of_neg (by simp [c]),ih,jd,iy];exact ⟨.inr,fun z=>z.elim (fun z=>absurd z c2) id⟩
theorem ae6 {σ:St} (I:Inv X pins σ H s) (h:rB X.K H b (ks.map kV)):(tupleKind (bA X.prog X.w)).is s.heap ks b:=by
  obtain ⟨its,r,⟨o,h1,h2,n,h3⟩,_⟩:=I.tuple h;exact ⟨o,its.toArray,n,h1,h2,h3,by simpa using a0H r⟩
theorem apL {P':Program} {w w':World} (h:x.1=(toI x.1).map Sum.inl):entryOfKey (tupleKind (bA P w)) x=entryOfKey (tupleKind (bA P' w')) x:=by
  have e:x.1.map (bA P w).hash=x.1.map (bA P' w').hash:=by
    rw [h,lg,lg];rfl
  show (⟨reduceHash (Builtin.Tuple.tupleHashOf (x.1.map (bA P w).hash)),_,_⟩:DictEntry)=⟨reduceHash (Builtin.Tuple.tupleHashOf (x.1.map (bA P' w').hash)),_,_⟩;rw [e]
theorem kst_in {n:List Int} {ys:List (List Key×Addr×Value)} (h:∀ x∈ys,x.1=(toI x.1).map Sum.inl):(atKey ys (n.map Sum.inl)).isSome=decide (n∈ys.map fun x=>toI x.1):=by
  rw [Bool.eq_iff_iff,a4B,decide_eq_true_eq,dw,dw];refine ⟨fun ⟨x,hx,e⟩=>⟨x,hx,by rw [e,zF]⟩,fun ⟨x,hx,e⟩=>⟨x,hx,?_⟩⟩;rw [h x hx,e]
theorem ag7 {K:Fg} {H:Hp}:∀ {n:List Int} {vs:List V},bV K H (n.map D.int) vs->vs=(n.map (Sum.inl:Int->Key)).map kV
  | [],_,.nil=>rfl
  | i :: r,_,.cons h t=>by
    cases h;rw [ag7 t];rfl
section
variable {X:Cx} {o i value e f:Expr} {to ti tv te tf:cB} {pos pos' apos cpos:Pos}
theorem aBL (hu:X.A.units+64 < cLine) (ho:cC X o to) (hi:cC X i ti) (hs:av7 i):cC X (.Subscript o i pos) (aD a0T to ti):=by
  refine PE.imp (aoI (by omega) ho hi hs) fun σ H Q h=>?_;obtain ⟨ρ,G,R,s,g,t,k⟩:=h;refine ⟨ρ,G,_,s,g,t,fun vx H1 x G1 t1 rx g1 t'=>?_⟩;refine ⟨ρ,G1,_,s.mono t1,g1,t',fun vy H2 y G2 t2 ry g2 t''=>?_⟩;obtain ⟨a,kvs,kk,rfl,rfl,q,dd⟩:=ai9 (rx.mono t2) ry g2 t'';split at q
  . rename_i d e2;obtain ⟨v,gg,rv⟩:=dd d e2;exact ⟨a,v,rfl,gg,k v H2 d G2 (t1.trans t2) rv g2 q⟩
  . exact q.elim
theorem aBM (hu:X.A.units+64 < cLine):nW X (compareOp .In) atB:=a8K fun pins s σ H x y vx vy u v G R Q I rx ry ru rv g q k=>by
  obtain ⟨a,kvs,kk,rfl,rfl,e1,_,q,dd⟩:=uK ry rx g q;obtain ⟨o,gg,eo,_⟩:=dd.any;obtain rfl:v=Value.ref a:=rv;exact aEJ (by omega) I gg ru fun s' I'=>⟨.bl o.isSome,H,I',rfl,k _ H (.bl _) G (.refl H) (.bl _) g (by rw [eo];exact q)⟩
theorem awM (hu:X.A.units+64 < cLine):nW X (compareOp .NotIn) a0U:=a8K fun pins s σ H x y vx vy u v G R Q I rx ry ru rv g q k=>by
  unfold a0U at q;split at q
  . rename_i ds a;split at q
    . rename_i ks e1;obtain ⟨n,rfl,q⟩:=q;cases ry;obtain rfl:v=Value.ref a:=rv;cases rx with
      | @tup b xs _ sq rb _ =>
      obtain rfl:u=Value.ref b:=ru;have:=ag7 rb;subst this;obtain ⟨P,w,ys,e3,e4,e5⟩:=g a _ e1;obtain ⟨⟨hd,o,es,ep,h1,h2,h3,h4,h5⟩,_⟩:=(show cY X.prog X.w H s.heap a (.ext _) from I.hok a _ e3);have dd:s.heap.DictOfH (tupleKind (bA X.prog X.w)) a ys:=⟨o,es,ep,h1,h2,h3,by rw [h4];exact mj fun x hx=>apL (e5 x hx).1,fun x hx=>ae6 I (e5 x hx).2,h5⟩;refine wpAny_notIn_heap (tupleKind_room_in1 (by omega)) (ae6 I sq) hd dd ?_;rw [kst_in fun x hx=>(e5 x hx).1,e4];exact ⟨.bl (!decide (n∈ks)),H,I.tok _,rfl,k _ H (.bl _) G (.refl H) (.bl _) g q⟩
    . exact q.elim
  . obtain ⟨a,kvs,kk,rfl,rfl,e1,_,q,dd⟩:=uK ry rx g q;obtain ⟨o,gg,eo,_⟩:=dd.any;obtain rfl:v=Value.ref a:=rv;exact aoF (by omega) I gg ru fun s' I'=>⟨.bl (!o.isSome),H,I',rfl,k _ H (.bl _) G (.refl H) (.bl _) g (by rw [eo];exact q)⟩
def abG (x y v:D) (F:cO) (ρ:aK) (G:Gp):Prop:=pW x y G fun a t kvs k=>kvs.length < sizeLine/\F.nx ρ (aM G a (.jF t (zL kvs k v)))
def a8X (to ti tv:cB):bD:=fun F ρ G=>tv ρ G fun v G1=>to ρ G1 fun x G2=>ti ρ G2 fun y G3=>abG x y v F ρ G3
theorem awN (hu:X.A.units+64 < cLine) (ho:cC X o to) (hi:cC X i ti) (hv:cC X value tv) (hs:swapsWith value (some (.Subscript o i pos')) pos.line X.env=pure false):PS3 X (.Assign [.Subscript o i pos'] value pos) (a8X to ti tv):=by
  refine PS.imp (aoJ (by omega) ho hi hv hs) fun F σ H h=>?_;obtain ⟨ρ,G,E,s,g,t,u⟩:=h;refine ⟨ρ,G,_,s,g,t,fun v H1 d G1 t1 rv g1 t'=>?_⟩;refine ⟨ρ,G1,_,s.mono t1,g1,t',fun vx H2 x G2 t2 rx g2 t''=>?_⟩;refine ⟨ρ,G2,_,s.mono (t1.trans t2),g2,t'',fun vy H3 y G3 t3 ry g3 t4=>?_⟩;obtain ⟨a,kvs,kk,rfl,rfl,e1,_,⟨hl,q⟩,dd⟩:=uK (rx.mono t3) ry g3 t4;obtain ⟨H4,pp,tt,g4⟩:=dd.put g3 (rv.mono (t2.trans t3)) hl;exact ⟨a,H4,rfl,pp,u.nx ρ _ σ _ (s.mono (((t1.trans t2).trans t3).trans tt)) g4 q⟩
def a0V (x:D) (G:Gp):Prop:=match x with
  | .ref a=>(match G a with
    | some (.jF _ _)=>True
    | _=>False)
  | _=>False
theorem aiA {K:Fg} {x:D} (rx:RD K H x vx) (g:HR K H G) (h:a0V x G):∃ a,x = .ref a/\vx = .ref a/\IsD H a:=by
  unfold a0V at h;split at h
  . rename_i a;split at h
    . rename_i t kvs e;cases rx;rcases g a _ e with ⟨_,xs,e2,_⟩ | ⟨_,xs,e2,_⟩
      . exact ⟨a,rfl,rfl,.inl ⟨xs,.inl e2⟩⟩
      . exact ⟨a,rfl,rfl,.inr ⟨xs,.inl e2⟩⟩
    . exact h.elim
  . exact h.elim
def a2U (to te tf:cB):cB:=fun ρ G R=>to ρ G fun x G1=>a0V x G1/\te ρ G1 fun y G2=>tf ρ G2 fun z G3=>pW x y G3 fun _ _ kvs k=>R ((mD kvs k).getD z) G3
theorem apM (hu:X.A.units+64 < cLine) (ho:cC X o to) (he:cC X e te) (hf:cC X f tf) (m:M2 X o "get" apos e f cpos):cC X (.Call (.Attribute o "get" apos) [e,f] [] cpos) (a2U to te tf):=by
  refine PE.imp (ak0 (by omega) ho he hf m) fun σ H Q h=>?_;obtain ⟨ρ,G,R,s,g,t,k⟩:=h;refine ⟨ρ,G,_,s,g,t,fun vx H1 x G1 t1 rx g1 t'=>?_⟩;obtain ⟨isd,t'⟩:=t';obtain ⟨a,rfl,rfl,ia⟩:=aiA rx g1 isd;refine ⟨a,rfl,ia,?_⟩;refine ⟨ρ,G1,_,s.mono t1,g1,t',fun vy H2 y G2 t2 ry g2 t''=>?_⟩;refine ⟨ρ,G2,_,s.mono (t1.trans t2),g2,t'',fun vz H3 z G3 t3 rz g3 t4=>?_⟩;obtain ⟨a',kvs,kk,e,_,e1,_,q,dd⟩:=uK (rx.mono (t2.trans t3)) (ry.mono t3) g3 t4;cases e;obtain ⟨o,gg,eo,hd⟩:=dd.any;exact ⟨o,gg,k _ H3 _ G3 ((t1.trans t2).trans t3) (hd z vz rz) g3 q⟩
end
end
section
section
variable {prog:Program} {w:World} {K:Type} [DecidableEq K] {knd:HeapKind prog w K} {A:Around} {E:Value->Shared->Prop} {s:Shared} {d a:Addr} {k:K} {xs:List (K×Addr×Value)}
def abH (xs:List (K×Addr×Value)) (k:K):List (K×Addr×Value):=xs.filter fun x=>decide (x.1≠k)
end
theorem KT.drop {kvs:List (List Key×V)} {xs:List (List Key×Addr×Value)} (r:KT H kvs xs) (k:List Key):KT H (afN kvs k) (abH xs k):=by
  unfold afN abH
  induction r with
  | nil=>exact .nil
  | @cons p q ps qs h t ih =>
    rw [xg,xg];by_cases e:p.1=k
    . rw [if_neg (by simp [e]),if_neg (by simp [h.1.symm.trans e])];exact ih
    . rw [if_pos (by simp [e]),if_pos (by simp;exact fun z=>e (h.1.trans z))];exact .cons h ih
section
variable {X:Cx}
end
end
section
open PySem.W
variable {p:Array Nat}
section
variable {cmp:Nat->Nat->(Bool->Shared->Prop)->Shared->Prop} {I:Shared->Prop} {kf:Nat->Int}
structure Pm (n:Nat) (p:Array Nat):Prop where
  size:p.size=n
  perm:p.toList.Perm (gq n)
theorem Pm.lt (h:Pm n p) (hi:i < n):p.getD i 0 < n:=by
  have hs:i < p.size:=by rw [h.size];exact hi
  have e:p.getD i 0=p[i]:=by simp [Array.getD,hs]
  rw [e];exact qu.mp (h.perm.mem_iff.mp (by simp))
theorem Pm.inj (h:Pm n p) (hi:i < n) (hj:j < n) (e:p.getD i 0=p.getD j 0):i=j:=by
  have hs:i < p.size:=by rw [h.size];exact hi
  have ht:j < p.size:=by rw [h.size];exact hj
  have nd:p.toList.Nodup:=(h.perm.nodup_iff).mpr List.nodup_range;have e1:p.getD i 0=p[i]:=by simp [Array.getD,hs]
  have e2:p.getD j 0=p[j]:=by simp [Array.getD,ht]
  rw [e1,e2] at e;have key:=List.pairwise_iff_getElem.mp nd;have hs':i < p.toList.length:=by simpa using hs
  have ht':j < p.toList.length:=by simpa using ht
  rcases Nat.lt_trichotomy i j with c | c | c
  . exact absurd (by simpa using e) (key i j hs' ht' c)
  . exact c
  . exact absurd (by simpa using e.symm) (key j i ht' hs' c)
theorem Pm.rev {m:Nat} (h:Pm n p):Pm n (kas_rev p 0 m):=⟨by rw [kas_rev_size];exact h.size,((mirror_perm p 0 m _).toList).trans h.perm⟩
end
section
variable {prog:Program} {w:World} {A:Around} {E:Value->Shared->Prop} {s:Shared}
end
def aBO (a b:Int×Int):Prop:=a.1 < b.1∨(a.1=b.1/\a.2 < b.2)
instance (a b:Int×Int):Decidable (aBO a b):=by unfold aBO;infer_instance
section
variable {prog:Program} {w:World} {A:Around} {E:Value->Shared->Prop} {s:Shared}
end
end
section
open PySem.W
section
variable {X:Cx}
end
end
variable {h:Heap}
section
open PySem.W
def a4C (h:Heap) (d:Addr) (es:Array DictEntry) (ep:Nat):Prop:=∃ o,h.get? d=some o/\o.ExactDict/\o.data = .dict es ep
section
variable {prog:Program} {w:World} {A:Around} {E:Value->Shared->Prop} {s:Shared} {d it:Addr} {es:Array DictEntry} {ep i:Nat}
theorem a4C.typeIs (hm:a4C s.heap d es ep):s.TypeIs (.ref d) "dict" := let ⟨o,ho,hc,_⟩:=hm;⟨o,ho,hc.1⟩
theorem a4C.lt (hm:a4C h d es ep):d < h.objs.size:=let ⟨_,ho,_⟩:=hm;cg ho
theorem a4C.at (hm:a4C h d es ep) (k:∀ o,h.get? d=some o->h'.get? d=some o):a4C h' d es ep:=let ⟨o,ho,r⟩:=hm;⟨o,k o ho,r⟩
end
end
section
open PySem.W
section
variable {X:Cx} {tg:Expr}
end
theorem ag8 {K:Fg} {H:Hp}:∀ {ds:List D} {vs:List V},bV K H ds vs->bV K H ds.reverse vs.reverse
  | _,_,.nil => .nil
  | d :: ds,v :: vs,.cons h r=>by rw [wg,wg];exact bV.append (ag8 r) (.cons h .nil)
section
variable {X:Cx} {tg:Expr}
theorem abI {σ:St} {sl:Addr} {xs:List V} {vk:Value} {Q:VK} (I:Inv X pins σ H s) (hx:wU X.K H a xs) (hs:s.heap.IsSliceOf sl .none .none vk) (pk:IsPart vk (some (-1))) (q:∀ p,H p=none->KF X.K (upd H p (.lst xs.reverse))->Q (.ref p) (upd H p (.lst xs.reverse))) :
    s.TypeIs (.ref a) "list" /\ wpAny (model X.prog X.w) X.A (getItem (.ref a) (.ref sl)) (EP X pins σ Q) X.xe s:=by
  obtain ⟨its,r,ht,hz⟩:=I.list hx;have hlen:=r.length;refine ⟨ht.isList.typeIs,?_⟩;refine wpAny_getItem_list_slice ht.isList hs .none .none pk (by decide) ?_ (by rw [bw] <;> omega);rw [krv_pick];have J:=I.laid (t':=s.toks) (o := .lst xs.reverse) (h':=s.heap.push { cls := .type "list",data := .seq its.reverse.toArray }) (fun b ob q=>ao _ q) (au _) ⟨by rw [List.length_reverse];exact hz,_,0,r.reverse,cj _ rfl⟩;exact ⟨.ref s.heap.objs.size,_,J,rfl,q _ (I.hok.fresh (au _)) (tE J)⟩
def a7I (x:D) (G:Gp) (R:fY):Prop:=match x with
  | .ref a=>(match aU G a with
    | some ds=>∀ q,G q=none->R (.ref q) (aM G q (.lst ds.reverse))
    | none=>False)
  | _=>False
def ag9 (te:cB) (tk:TO3):cB:=fun ρ G R=>te ρ G fun x G1=>tk ρ G1 fun o G2=>o=some (-1)/\a7I x G2 R
theorem aBP {k:Expr} {tk:TO3} {p2:Pos} (he:cC X e te) (hk:PO3 X (some k) tk):cC X (.Subscript e (.Slice none none (some k) p2) pos) (ag9 te tk):=by
  intro pins s σ H Q I h;obtain ⟨ρ,G,R,sr,g,q,kk⟩:=h;refine Subscript_ (cH (he pins s σ H (fun vx H1=>Ts H H1/\∃ x G1,RD X.K H1 x vx/\HR X.K H1 G1/\tk ρ G1 fun o G2=>o=some (-1)/\a7I x G2 R) I ⟨ρ,G,_,sr,g,q,fun v H1 x G1 t1 r1 g1 q1=>⟨t1,x,G1,r1,g1,q1⟩⟩) fun v s1 ⟨vx,H1,I1,r1,t1,x,G1,rx,g1,q1⟩=>?_);refine wpAny_Slice ?_;rw [evalPart_none];refine dh ?_;refine dh ?_;refine cH (hk pins s1 σ H1 (fun o H2=>Ts H1 H2/\∃ G2,HR X.K H2 G2/\o=some (-1)/\a7I x G2 R) I1 ⟨ρ,G1,_,sr.mono t1,g1,q1,fun o H2 G2 t2 g2 q2=>⟨t2,G2,g2,q2⟩⟩) fun vk s3 ⟨o,H3,I3,pk,t3,G3,g3,eo,q3⟩=>?_;subst eo;have I4:Inv X pins σ H3 { s3 with heap:=s3.heap.push { cls := .type "slice",data := .fields #[.none,.none,vk] } }:=I3.kept (t':=s3.toks) fun b ob q=>ao _ q;cases rx with
  | ref a =>
    have q3':(match aU G3 a with
      | some ds=>∀ q,G3 q=none->R (.ref q) (aM G3 q (.lst ds.reverse))
      | none=>False):=q3
    split at q3'
    . rename_i ds e1;obtain ⟨xs,hq,ra⟩:=c7 g3 e1;cases r1
      obtain ⟨ht,hg⟩:=abI (s:={ s3 with heap:=s3.heap.push { cls := .type "slice",data := .fields #[.none,.none,vk] } }) (Q:=Q) I4 hq (Heap.IsSliceOf.new ..) pk fun p hp kf=>by
        have sn:Same H3 (upd H3 p (.lst xs.reverse)):=bJ hp;have rr:bV X.K H3 ds.reverse xs.reverse:=ag8 ra;exact kk _ _ _ _ ((t1.trans t3).trans (.same sn)) (.ref p) (g3.put (u := .lst ds.reverse) hp ⟨_,aN,rr.mono (.same sn)⟩) (q3' p (jX g3 hp kf))
      show wpAny (model X.prog X.w) X.A (subscriptTail e (.Slice none none (some k) p2) (.ref a) (.ref s3.heap.objs.size)) (EP X pins σ Q) X.xe { s3 with heap:=s3.heap.push { cls := .type "slice",data := .fields #[.none,.none,vk] } };exact tail_any (ops:=[.ref a,.ref s3.heap.objs.size]) ht slot_list_getitem.lookup hg (by with_unfolding_all rfl)
    . exact q3'.elim
  | _=>exact False.elim q3
end
end
variable {v:Value}{I:Addr}{its:Array Value}{ps:List (List Key×Addr×Value)}
section
open PySem.W
theorem apO:typeLookup (.type "list") "keys" = pure none:=by rw [typeLookup_type,builtinLookup_eq_fast];kernel_rfl
variable {o:Obj}{xs:List (List Key×Addr×Value)}{d:Addr}
section
variable {prog:Program} {w:World} {A:Around} {E:Value->Shared->Prop} {s:Shared}
theorem apP {xs:Array Value} {k:Nat} {Q:Option Value->Shared->Prop}
    (hx:s.heap.get? a=some o) (hc:o.cls = .type "list") (hdat:o.data = .seq xs k) (hd:o.dict=none) (hA:A.handled=none)
    (h:∀ h' tk,(∀ b o,s.heap.get? b=some o->h'.get? b=some o)->Q none { s with heap:=h',toks:=tk }) :
    wpAny (model prog w) A (getAttr? (.ref a) "keys") Q E s:=by
  obtain ⟨c,dct,dat,sl⟩:=o;simp only at hc hdat hd;subst hc hdat hd;obtain ⟨hp,g,d,tk,os⟩:=s;have hT:∀ tk',(⟨hp,g,d,tk',os⟩:Shared).TypeIs (.ref a) "list" := fun _=>⟨_,hx,rfl⟩;have f1:=sub_AttributeError;have f3:=F.slot_list_getattribute.lookup;have f4:=F.slot_list_getattribute.bind (.ref a);have f5:=am_list_getattr_none;unfold getAttr? getAttrBy? getAttrBy
  repeat (any_goals (first | assumption | exact hT _ | ((with_reducible show wpAny _ _ (call (Value.builtin "list.__getattribute__") _ _) _ _ _);refine call_meets F.slot_list_getattribute (hT _) am_entry_list_getattribute (F.args_list_getattribute_2 _ _) (meets_getattribute_miss_list a xs k sl "keys" _ apO (by decide) (by decide)) ⟨hx,hA,fun h' tk' e hx'=>?_⟩) | wp_step))
  obtain ⟨t',u',he⟩:=hx'.there;show wpAny _ _ (getattributeRaised _ _ _ _ _ _ _) _ _ _;unfold getattributeRaised
  repeat (any_goals (first | assumption | wp_step))
  exact h _ _ hx'.keeps
theorem abJ:entryFor table "dict.update.loop" = some Builtin.«dict.update.loop» := entryFor_of_fast (by kernel_rfl)
theorem zM:plainId "dict.update.loop" = true:=by decide +kernel
abbrev TK (prog:Program) (w:World):=tupleKind (bA prog w)
def apQ (prog:Program) (w:World) (h:Heap) (v:Value) (x:List Key×Addr×Value):Prop:=∃ p o n,v = .ref p/\h.get? p=some o/\o.cls = .type "tuple" /\ o.data = .seq #[.ref x.2.1,x.2.2] n/\(TK prog w).is h x.1 x.2.1
def kY (xs ps:List (List Key×Addr×Value)):List (List Key×Addr×Value):=ps.foldl (fun acc x=>storedH acc x.1 x.2.1 x.2.2) xs
theorem a8Y (x:(TK prog w).is h ks a) (k:∀ o,h.get? a=some o->h'.get? a=some o):(TK prog w).is h' ks a:=by
  obtain ⟨o,its,n,h1,r⟩:=x;exact ⟨o,its,n,k _ h1,r⟩
theorem abK (xs:List (List Key×Addr×Value)) (k:List Key) (a:Addr) (v:Value):(storedH xs k a v).length<=xs.length+1:=by
  unfold storedH;split <;> simp
theorem abL {k:List Key} {y:List Key×Addr×Value} (h:y∈storedH xs k a v):y.2.1=a∨∃ x∈xs,y.2.1=x.2.1:=by
  unfold storedH at h;split at h
  . obtain ⟨x,hx,e⟩:=dw.mp h;refine .inr ⟨x,hx,?_⟩;subst e;unfold putAt;split <;> rfl
  . rcases jo.mp h with h | h
    . exact .inr ⟨y,h,rfl⟩
    . rw [je] at h;subst h;exact .inl rfl
theorem a8Z (hm:h.DictOfH (TK prog w) d xs) (kd:∀ o,h.get? d=some o->h'.get? d=some o) (kx:∀ x∈xs,∀ o,h.get? x.2.1=some o->h'.get? x.2.1=some o):h'.DictOfH (TK prog w) d xs:=by
  obtain ⟨o,es,ep,h1,h2,h3,h4,h5,h6⟩:=hm;exact ⟨o,es,ep,kd _ h1,h2,h3,h4,fun x hx=>a8Y (h5 x hx) (kx x hx),h6⟩
def ae7 (prog:Program) (w:World) (I d:Addr) (h:Heap) (v:Value) (x:List Key×Addr×Value):Prop:=∃ p o n,v = .ref p/\h.get? p=some o/\o.cls = .type "tuple" /\ o.data = .seq #[.ref x.2.1,x.2.2] n/\(TK prog w).is h x.1 x.2.1/\p≠I/\p≠d/\x.2.1≠I/\x.2.1≠d
theorem ae7.keep (q:ae7 prog w I d h v x) (k:∀ b o,b≠d->b≠I->h.get? b=some o->h'.get? b=some o):ae7 prog w I d h' v x:=by
  obtain ⟨p,o,n,e,h1,h2,h3,h4,h5,h6,h7,h8⟩:=q;exact ⟨p,o,n,e,k _ _ h6 h5 h1,h2,h3,a8Y h4 fun o e=>k _ _ h8 h7 e,h5,h6,h7,h8⟩
theorem apR {Q:List Value->Shared->Prop} (q:ae7 prog w I d s.heap v x) (h:Q [.ref x.2.1,x.2.2] s):wpAny (model prog w) A (Builtin.Dict.pairItems v) Q E s:=by
  obtain ⟨p,o,n,rfl,h1,h2,h3,h4,_⟩:=q;unfold Builtin.Dict.pairItems;refine ak (wpAny_typeOf (T := "tuple") ⟨o,h1,h2⟩ ?_);rw [if_pos (by decide)];refine ak (wpAny_seqItems h1 h3 ?_);exact dh h
theorem apS (hh:A.handled=none) (hu:A.units+1 < cLine) (hdI:d≠I) (hlI:l≠I) (hld:l≠d) (hlen:its.size=ps.length) :
    ∀ (k i:Nat) (s:Shared) (xs:List (List Key×Addr×Value)) (j:Int) (t:Tok),ps.length - i=k->i<=ps.length->s.heap.IsListIter I l i->s.heap.IsList l its->s.heap.DictOfH (TK prog w) d xs->xs.length+(ps.length - i)<=sizeLine ->
      (∀ x∈xs,x.2.1≠I)->(∀ (i:Nat) (v:Value) (x:List Key×Addr×Value),its[i]?=some v->ps[i]?=some x->ae7 prog w I d s.heap v x) ->
      (∀ h' tk,h'.DictOfH (TK prog w) d (kY xs (ps.drop i))->(∀ b o,b≠d->b≠I->s.heap.get? b=some o->h'.get? b=some o)->R (.ok (.ret .none)) { s with heap:=h',toks:=tk }) ->
      codeAny (model prog w) A (.builtin "dict.update.loop" ⟨[.ref d,.ref I,.int j t,.none],[]⟩) R s:=by
  intro k
  induction k with
  | zero =>
    intro i s xs j t hk hi hst hl hd hz hx hp hR;have hin:i=ps.length:=by omega
    refine codeAny_builtin abJ ?_;rw [Around.under_plainId zM _];show wpAny _ A.in1 (pyNext (.ref I) >>= _) _ _ s;have W:=Walks.list (prog:=prog) (w:=w) (A:=A.in1) hh I l hlI its;refine ak (W.done s _ _ (by rw [hlen,← hin];exact ⟨hst,hl⟩) fun h' tk kk=>?_);have hd':h'.DictOfH (TK prog w) d xs:=a8Z hd (fun o e=>kk _ _ (by simpa using hdI) e) fun x m o e=>kk _ _ (by simpa using hx x m) e;show wpAny _ A.in1 (Builtin.Dict.addKeywords d [] >>= _) _ _ _;refine ak (dh (dh ?_));refine hR h' tk (by rw [hin,List.drop_length];exact hd') fun b o h1 h2 e=>kk b o (by simpa using h2) e
  | succ k ih =>
    intro i s xs j t hk hi hst hl hd hz hx hp hR;have hlt:i < ps.length:=by omega
    refine codeAny_builtin abJ ?_;rw [Around.under_plainId zM _];show wpAny _ A.in1 (pyNext (.ref I) >>= _) _ _ s;have W:=Walks.list (prog:=prog) (w:=w) (A:=A.in1) hh I l hlI its;refine ak (W.item i s _ _ (by omega) ⟨hst,hl⟩ fun v h' tk hP hst' kk=>?_);obtain ⟨x,hxi⟩:∃ x,ps[i]?=some x:=⟨_,aq hlt⟩;have k1:∀ b o,b≠d->b≠I->s.heap.get? b=some o->h'.get? b=some o:=fun b o _ h2 e=>kk b o (by simpa using h2) e;have hp1:∀ (i:Nat) (v:Value) (x:List Key×Addr×Value),its[i]?=some v->ps[i]?=some x->ae7 prog w I d h' v x:=fun i v x e1 e2=>(hp i v x e1 e2).keep k1;have hd':h'.DictOfH (TK prog w) d xs:=a8Z hd (fun o e=>kk _ _ (by simpa using hdI) e) fun x m o e=>kk _ _ (by simpa using hx x m) e;have pv:=hp1 i v x hP hxi;obtain ⟨p,o,n,_,_,_,_,hkey,_,_,h7,h8⟩:=id pv;refine ak (wpAny_holding (ak (wpAny_tryCatch (apR (s:={ s with heap:=h',toks:=tk }) pv ?_))));show wpAny _ A.in1 (holding [Value.ref x.2.1,x.2.2] (dictSet d (.ref x.2.1) x.2.2)) _ _ _;refine wpAny_holding (wpAny_dictSet_heap (s:={ s with heap:=h',toks:=tk }) (tupleKind_room_in1 hu) hkey hd' (fun h2 hd2 hs2=>?_) (by omega));have k2:∀ b o,b≠d->b≠I->s.heap.get? b=some o->h2.get? b=some o:=fun b o h1 hI e=>(hs2.2 b h1).trans (k1 b o h1 hI e);refine dh ⟨plainId_quiet zM _,ih (i+1) _ (storedH xs x.1 x.2.1 x.2.2) _ _ (by omega) hlt (hst'.1.at fun o e=>(hs2.2 I (Ne.symm hdI)).trans e) (hst'.2.at fun o e=>(hs2.2 l hld).trans e) hd2 (by have:=abK xs x.1 x.2.1 x.2.2;omega) (fun y hy=>?_) (fun i v x e1 e2=>(hp i v x e1 e2).keep k2) fun h3 tk3 hd3 k3=>?_⟩
    . rcases abL hy with e | ⟨z,hz',e⟩
      . rw [e];exact h7
      . rw [e];exact hx z hz'
    . refine hR h3 tk3 ?_ fun b o h1 hI e=>k3 b o h1 hI (k2 b o h1 hI e)
      have:ps.drop i=x :: ps.drop (i+1):=by
        rw [jt hlt];rw [aq hlt] at hxi;cases hxi;rfl
      rw [this];exact hd3
theorem apQ.ok (q:apQ prog w h v x) (hI:h.objs.size<=I) (hd:h.objs.size<=d) (k:∀ b o,h.get? b=some o->h'.get? b=some o):ae7 prog w I d h' v x:=by
  obtain ⟨p,o,n,e,h1,h2,h3,h4⟩:=q;have l1:=cg h1
  have l2:x.2.1 < h.objs.size:=by
    obtain ⟨o2,its,n2,z,_⟩:=id h4;exact cg z
  exact ⟨p,o,n,e,k _ _ h1,h2,h3,a8Y h4 fun o e=>k _ _ e,gb (fj l1 hI),gb (fj l1 hd),gb (fj l2 hI),gb (fj l2 hd)⟩
theorem apT (hh:A.handled=none) (hu:A.units+4 < cLine) (hl:s.heap.get? l=some o) (hc:o.cls = .type "list") (hdat:o.data = .seq its n) (hdn:o.dict=none) (hlen:its.size=ps.length) (hz:ps.length<=sizeLine)
    (hp:∀ (i:Nat) (v:Value) (x:List Key×Addr×Value),its[i]?=some v->ps[i]?=some x->apQ prog w s.heap v x)
    (h:∀ h' tk,h'.DictOfH (TK prog w) s.heap.objs.size (kY [] ps)->(∀ b o,s.heap.get? b=some o->h'.get? b=some o)->Q (.ref s.heap.objs.size) { s with heap:=h',toks:=tk }) :
    wpAny (model prog w) A (call (.type "dict") [.ref l]) Q E s:=by
  refine callType_codes (Q₁:=fun obj s₁=>obj = .ref s.heap.objs.size/\s₁={ s with heap:=s.heap.push { cls := .type "dict",data := .dict #[] } }) F.kt_called_dict (F.kt_typeCall_dict_1 _) F.entry_dict_init (kt_code_dict_new _ ⟨rfl,rfl⟩) ?_;rintro obj s₁ ⟨rfl,rfl⟩;have kp:∀ b o,s.heap.get? b=some o->(s.heap.push { cls := .type "dict",data := .dict #[] }).get? b=some o:=fun b o e=>ao _ e;have hnew:(s.heap.push { cls := .type "dict",data := .dict #[] }).DictOfH (TK prog w) s.heap.objs.size []:=Heap.DictOfH.new s.heap;have hdl:l≠s.heap.objs.size:=gb (cg hl);refine ⟨hnew.typeIs,F.args_dict_init_2 _ _,?_⟩;unfold Builtin.«dict.__init__»;refine ak ?_;unfold Builtin.Dict.selfAndRest;refine ak (wpAny_notOrdered_dict hnew.typeIs ?_);show wpAny _ _ (pure (s.heap.objs.size,[Value.ref l])) _ _ _;refine dh ?_;show wpAny _ _ (Builtin.Dict.updateFrom "dict.__init__" s.heap.objs.size (.ref l) [] .none) _ _ _;unfold Builtin.Dict.updateFrom;refine ak (wpAny_typeOf (T := "list") ⟨o,kp _ _ hl,hc⟩ ?_);rw [if_pos (by decide)];refine ak (apP (kp _ _ hl) hc hdat hdn hh fun h' tk k1=>?_);rw [if_pos (by rfl)];refine ak (wpAny_rule ?_);have hl1:h'.IsList l its:=⟨o,k1 _ _ (kp _ _ hl),hc,n,hdat⟩;refine ak (wpAny_pyIter_list (s:={ s with heap:=h',toks:=tk }) hl1 ?_);have k2:∀ b o,s.heap.get? b=some o->(h'.push { cls := .type "list_iterator",data := .fields #[.ref l,rawInt 0] }).get? b=some o:=fun b o e=>ao _ (k1 _ _ (kp _ _ e));have sz1:s.heap.objs.size < h'.objs.size:=cg (k1 s.heap.objs.size _ (cj _ rfl));refine dh ⟨plainId_quiet zM _,apS (A:=A.in1) (its:=its) (ps:=ps) hh (by show A.units+1+1 < cLine;omega) (gb sz1) (gb (cg hl1.choose_spec.1)) hdl hlen ps.length 0 _ [] _ _ rfl (ux _) ⟨_,cj _ rfl,rfl,rfl⟩ (hl1.at fun o e=>ao _ e) (a8Z hnew (fun o e=>ao _ (k1 _ _ e)) fun x hx=>by simp at hx) (by simp;omega) (fun x hx=>by simp at hx) (fun i v x e1 e2=>(hp i v x e1 e2).ok (qb sz1) (au _) k2) fun h3 tk3 hd3 k3=>?_⟩;exact ⟨rfl,h h3 tk3 hd3 fun b o e=>k3 b o (gb (cg e)) (gb (Nat.lt_trans (cg e) sz1)) (k2 b o e)⟩
end
end
section
open PySem.W
def pairD:D->Option (List Key×D)
  | .tup [.tup ds,z]=>(match a8V ds with
    | some ks=>some (ks,z)
    | none=>none)
  | _=>none
def a0W:List D->Option (List (List Key×D))
  | []=>some []
  | d :: r=>match pairD d,a0W r with
    | some p,some ps=>some (p :: ps)
    | _,_=>none
def aBQ (kvs:List (DK×D)) (ps:List (List Key×D)):List (DK×D):=ps.foldl (fun acc p=>zL acc (.inr p.1) p.2) kvs
inductive Prs (K:Fg) (H:Hp):List (List Key×D)->List (List Key×Addr×Value)->Prop where
  | nil:Prs K H [] []
  | cons {ks:List Key} {b:Addr} {vz:V} {u:Value} {d:D} {kvs:List (List Key×D)} {ps:List (List Key×Addr×Value)}:H b=some (.tup (ks.map kV))->RD K H d vz->RelV vz u->Prs K H kvs ps->Prs K H ((ks,d) :: kvs) ((ks,b,u) :: ps)
variable {kvs:List (List Key×D)}
theorem Prs.len {K:Fg} (h:Prs K H kvs ps):kvs.length=ps.length:=by
  induction h with
  | nil=>rfl
  | cons _ _ _ _ ih=>simp [ih]
theorem Prs.fold {K:Fg} (h:Prs K H kvs ps):∀ {k0:List (DK×D)} {y0:List (List Key×V)} {p0:List (List Key×Addr×Value)},KT H y0 p0->wW K H .inr k0 y0->∃ ys,KT H ys (kY p0 ps)/\wW K H .inr (aBQ k0 kvs) ys:=by
  induction h with
  | nil=>intro k0 y0 p0 a b;exact ⟨y0,a,b⟩
  | @cons ks b vz u d kvs ps e rd rv _ ih =>
    intro k0 y0 p0 a c;exact ih (KT.put a ks e rv) (a2R a2T rd c)
theorem a4D {k:List Key}:∀ (ps xs:List (List Key×Addr×Value)),k∈(kY xs ps).map (·.1)↔k∈xs.map (·.1)∨k∈ps.map (·.1)
  | [],xs=>by simp [kY]
  | p :: r,xs=>by
    have ih:=a4D (k:=k) r (storedH xs p.1 p.2.1 p.2.2)
    have st:k∈(storedH xs p.1 p.2.1 p.2.2).map (·.1)↔k∈xs.map (·.1)∨k=p.1:=by
      unfold storedH;split
      . rename_i h
        have e:(xs.map (putAt p.1 p.2.2)).map (·.1)=xs.map (·.1):=by
          rw [lg];refine mj fun x _=>?_;simp only [Function.comp,putAt];split <;> rfl
        rw [e];rw [a4B] at h;exact ⟨.inl,fun z=>z.elim id fun z=>z ▸ h⟩
      . rw [iu,jo];simp
    show k∈(kY (storedH xs p.1 p.2.1 p.2.2) r).map (·.1)↔_;rw [ih,st,jd,iy,or_assoc]
theorem a7J {P:List Key->Addr->Prop}:∀ (ps xs:List (List Key×Addr×Value)),(∀ x∈xs,P x.1 x.2.1)->(∀ x∈ps,P x.1 x.2.1)->∀ x∈kY xs ps,P x.1 x.2.1
  | [],_,h,_=>h
  | p :: r,xs,h,h2=>by
    refine a7J r (storedH xs p.1 p.2.1 p.2.2) (fun x hx=>?_) fun x hx=>h2 x (gw _ hx);unfold storedH at hx;split at hx
    . obtain ⟨y,hy,rfl⟩:=dw.mp hx;have:=h y hy;unfold putAt;split <;> exact this
    . rcases jo.mp hx with hx | hx
      . exact h x hx
      . rw [je] at hx;subst hx;exact h2 p (uf ..)
section
variable {X:Cx}
theorem al7 {pins:List (Addr×Obj)} {σ:St} {H:Hp} {s:Shared} (I:Inv X pins σ H s):∀ {ds:List D} {zs:List V} {its:List Value} {kvs:List (List Key×D)},bV X.K H ds zs->Vals zs its->a0W ds=some kvs ->
    ∃ ps:List (List Key×Addr×Value),ps.map (·.1)=kvs.map (·.1)/\(∀ x∈ps,rB X.K H x.2.1 (x.1.map kV))/\its.length=ps.length/\∀ (i:Nat) (v:Value) (x:List Key×Addr×Value),its[i]?=some v->ps[i]?=some x->apQ X.prog X.w s.heap v x
  | _,_,_,_,.nil,.nil,e=>by cases e;exact ⟨[],rfl,(fun x hx=>nomatch hx),rfl,fun i v x e=>by simp at e⟩
  | d :: ds,z :: zs,u :: its,kvs,.cons r rs,.cons v vs,e=>by
    unfold a0W at e;split at e
    . rename_i p ps' e1 e2;cases e;obtain ⟨ps,hp,hs,hl,hq⟩:=al7 I rs vs e2;unfold pairD at e1;split at e1
      . rename_i ds' z';split at e1
        . rename_i ks e3;cases e1;cases r with
          | @tup a xs _ sq rr _ =>
          obtain rfl:u=Value.ref a:=v;cases rr with
          | cons r1 rr =>
          cases rr with
          | @cons _ vz _ _ r2 rr =>
          cases rr;cases r1 with
          | @tup b ys _ sb rb eb =>
          have:=abE rb e3;subst this;obtain ⟨i2,vi,⟨o,h1,h2,n,h3⟩,_⟩:=I.tuple sq;cases vi with
          | cons va vi =>
          cases vi with
          | @cons _ uz _ _ vb vi =>
          cases vi;cases va;refine ⟨(ks,b,uz) :: ps,by rw [jd,jd,hp],fun x hx=>?_,by simp [hl],fun i v x e1 e2=>?_⟩
          . rcases iy.mp hx with e | hx
            . subst e;exact sb
            . exact hs x hx
          cases i with
          | zero =>
            simp at e1 e2;subst e1 e2;exact ⟨a,o,n,rfl,h1,h2,by simpa using h3,ae6 I sb⟩
          | succ i=>exact hq i v x (by simpa using e1) (by simpa using e2)
        . cases e1
      . cases e1
    . cases e
def wG:List D->Gp->fY->Prop:=fun xs G R=>match xs with
  | [.ref a]=>(match aU G a with
    | some ds=>(match a0W ds with
      | some kvs=>∃ nss:List (List Int),(kvs.map (·.1))=nss.map (fun ns=>ns.map Sum.inl)/\∀ r ks,G r=none->(∀ k,k∈ks↔k∈nss)->R (.ref r) (aM G r (.kst ks))
      | none=>False)
    | none=>False)
  | _=>False
theorem apU (hc:X.calm=true) (hu:X.A.units+64 < cLine):bY X (.type "dict") wG:=by
  intro pins s σ H xs vs us G R Q I rx rv g q k;unfold wG at q;split at q
  . rename_i a;split at q
    . rename_i ds e1;split at q
      . rename_i kvs e2;obtain ⟨nss,en,q⟩:=q;cases rx with
        | cons r1 rr =>
        cases rr;cases r1;cases rv with
        | cons rv rr =>
        cases rr;cases rv;obtain ⟨zs,hq,r⟩:=c7 g e1;obtain ⟨its,vi,⟨o,n,h1,h2,h3,h4⟩,hz⟩:=I.list hq;obtain ⟨ps,hp,hs,hl,hat⟩:=al7 I r vi e2;have hpz:ps.length<=sizeLine:=by rw [← hl,← vi.length];exact hz
        refine apT (I.ok.hd hc) (by omega) h1 h2 h4 h3 (by simpa using hl) hpz (fun i v x e1 e2=>hat i v x (by simpa using e1) e2) fun h' tk hd kk=>?_;have fr:H s.heap.objs.size=none:=I.hok.fresh (au _);have sn:Same H (upd H s.heap.objs.size (.ext (ai0 X.prog X.w s.heap.objs.size (kY [] ps)))):=bJ fr;obtain ⟨q0,es,ep,g1,g2,g3,g4,_,g5⟩:=hd
        have J:Inv X pins σ (upd H s.heap.objs.size (.ext (ai0 X.prog X.w s.heap.objs.size (kY [] ps)))) { s with heap:=h',toks:=tk }:=I.laid (t':=tk) (o := .ext (ai0 X.prog X.w s.heap.objs.size (kY [] ps))) kk (au _) ⟨⟨(by have:=I.big;simp;exact uo this),q0,es,ep,g1,g2,g3,g4,g5⟩,⟨q0,g1⟩,fun h1 h2 z kp=>by
          obtain ⟨z0,o1,es1,ep1,z1,z2⟩:=z;exact ⟨z0,o1,es1,ep1,kp _ z1,z2⟩⟩
        have pin:∀ x∈ps,x.1=(toI x.1).map Sum.inl:=fun x hx=>by
          have:x.1∈kvs.map (·.1):=by rw [← hp];exact dw.mpr ⟨x,hx,rfl⟩
          rw [en] at this;obtain ⟨ns,_,e⟩:=dw.mp this;rw [← e,zF]
        have all:∀ x∈kY [] ps,x.1=(toI x.1).map Sum.inl/\rB X.K (upd H s.heap.objs.size (.ext (ai0 X.prog X.w s.heap.objs.size (kY [] ps)))) x.2.1 (x.1.map kV):=a7J (P:=fun ks b=>ks=(toI ks).map Sum.inl/\rB X.K (upd H s.heap.objs.size (.ext (ai0 X.prog X.w s.heap.objs.size (kY [] ps)))) b (ks.map kV)) ps [] (fun x hx=>nomatch hx) fun x hx=>⟨pin x hx,(Ts.same sn).sqT (hs x hx)⟩;refine ⟨.ref s.heap.objs.size,_,J,rfl,k _ _ (.ref _) _ (.same sn) (.ref _) (g.put (u := .kst ((kY [] ps).map fun x=>toI x.1)) fr ⟨X.prog,X.w,kY [] ps,aN,rfl,all⟩) (q _ _ (jX g fr (tE J)) fun y=>?_)⟩;have mk:(y.map (Sum.inl:Int->Key))∈(kY [] ps).map (·.1)↔y.map (Sum.inl:Int->Key)∈kvs.map (·.1):=by rw [a4D,hp];simp
        have inj:∀ ns:List Int,ns.map (Sum.inl:Int->Key)=y.map Sum.inl->ns=y:=fun ns e=>by rw [← zF ns,e,zF]
        constructor
        . intro h;obtain ⟨x,hx,e⟩:=dw.mp h;have:y.map (Sum.inl:Int->Key)∈kvs.map (·.1):=mk.mp (dw.mpr ⟨x,hx,by rw [(all x hx).1,e]⟩);rw [en] at this;obtain ⟨ns,hn,e⟩:=dw.mp this;exact inj ns e ▸ hn
        . intro h;have:y.map (Sum.inl:Int->Key)∈kvs.map (·.1):=by rw [en];exact dw.mpr ⟨y,h,rfl⟩
          obtain ⟨x,hx,e⟩:=dw.mp (mk.mpr this);exact dw.mpr ⟨x,hx,by rw [e,zF]⟩
      . exact q.elim
    . exact q.elim
  . exact q.elim
end
end
variable {EX:aK->aV}
section
abbrev a90 (X:Cx) (i:Nat) (nm:Str):Cx:={ X with N:=X.N.set i nm }
section
variable {X:Cx} {pins:List (Addr×Obj)} {σ:St} {H:Hp} {s:Shared} {i:Nat} {nm:Str}
theorem awP (ok:X.Ok):(a90 X i nm).Ok:=⟨ok.mod,ok.kind,ok.glob,ok.blt,ok.above,ok.inj,ok.has,ok.cab,ok.hd,ok.frames,ok.stk,ok.exf,ok.bs,ok.bsz,ok.aaJ,ok.adJ,ok.u0,ok.frf⟩
theorem awQ (ok:(a90 X i nm).Ok):X.Ok:=⟨ok.mod,ok.kind,ok.glob,ok.blt,ok.above,ok.inj,ok.has,ok.cab,ok.hd,ok.frames,ok.stk,ok.exf,ok.bs,ok.bsz,ok.aaJ,ok.adJ,ok.u0,ok.frf⟩
theorem al8 (I:Inv X pins σ H s):Inv (a90 X i nm) pins (yF σ i) H s :=
  ⟨awP I.ok,I.os,I.bare,I.base,let ⟨m,hn,hl⟩:=I.loc;⟨m,hn,fun j x v e1 e2 e3=>by
    obtain ⟨n,e4⟩:=a3Q σ i j v e2;have e1':(X.N.set i nm)[j]?=some x:=e1;rw [jq (Ne.symm n)] at e1';exact hl j x v e1' e4 e3⟩,I.cell,I.free,I.m6,I.pin,I.hok,by rw [a3P,I.len];simp,I.hnd,I.tup⟩
theorem pX (I:Inv (a90 X i nm) pins σ H s):Inv X pins (yF σ i) H s :=
  ⟨awQ I.ok,I.os,I.bare,I.base,let ⟨m,hn,hl⟩:=I.loc;⟨m,hn,fun j x v e1 e2 e3=>by
    obtain ⟨n,e4⟩:=a3Q σ i j v e2;exact hl j x v (by show (X.N.set i nm)[j]?=some x;rw [jq (Ne.symm n)];exact e1) e4 e3⟩,I.cell,I.free,I.m6,I.pin,I.hok,by rw [a3P,I.len];simp,I.hnd,I.tup⟩
end
def aBR (F:cO) (i:Nat):cO:={ nx:=fun ρ G=>F.nx (rE ρ i) G,rt:=F.rt,bk:=fun ρ G=>F.bk (rE ρ i) G,ct:=fun ρ G=>F.ct (rE ρ i) G }
def a7K (i:Nat) (t:bD):bD:=fun F ρ G=>t (aBR F i) (rE ρ i) G
theorem awR {nm:Str} {st:Stmt} {t:bD} (h:PS3 (a90 X i nm) st t):PS3 X st (a7K i t):=by
  intro pins s σ H F I q;obtain ⟨ρ,G,E,sr,g,q,u⟩:=q;refine cH (h pins s (yF σ i) H { nx:=fun σ H=>F.nx (yF σ i) H,rt:=F.rt,bk:=fun σ H=>F.bk (yF σ i) H,ct:=fun σ H=>F.ct (yF σ i) H } (al8 I) ⟨rE ρ i,G,aBR E i,sr.clr i,g,q,⟨fun ρ G σ H' a b c=>u.nx _ _ _ _ (a.clr i) b c,u.rt,fun ρ G σ H' a b c=>u.bk _ _ _ _ (a.clr i) b c,fun ρ G σ H' a b c=>u.ct _ _ _ _ (a.clr i) b c⟩⟩) fun f s' z=>?_;cases f with
  | next=>obtain ⟨σ',H',I',z⟩:=z;exact ⟨_,H',pX I',z⟩
  | brk=>obtain ⟨σ',H',I',z⟩:=z;exact ⟨_,H',pX I',z⟩
  | cont=>obtain ⟨σ',H',I',z⟩:=z;exact ⟨_,H',pX I',z⟩
  | ret v=>obtain ⟨v,σ',H',I',r,z⟩:=z;exact ⟨v,_,H',pX I',r,z⟩
theorem al9 {nm:Str} (c:Cat X EX):Cat (a90 X i nm) (fun ρ=>EX (rE ρ i)):=⟨fun pins σ H s ρ e s' I sr q=>c.afU pins _ H s _ e s' (pX I) (sr.clr i) q⟩
theorem alA {nm:Str} (c:Thr X EX):Thr (a90 X i nm) (fun ρ=>EX (rE ρ i)):=⟨fun pins σ H s ρ C e us h' I sr m q=>c.made pins _ H s _ C e us h' (pX I) (sr.clr i) m q⟩
theorem a4E {nm:Str}:∀ {N:List Str} {i:Nat},N.Nodup->nm ∉ N->(N.set i nm).Nodup
  | [],_,h,_=>h
  | x :: r,0,h,n=>by
    rw [jz] at h;show (nm :: r).Nodup;rw [jz];exact ⟨fun z=>n (.tail _ z),h.2⟩
  | x :: r,i+1,h,n=>by
    rw [jz] at h;show (x :: r.set i nm).Nodup;rw [jz];refine ⟨fun z=>?_,a4E h.2 fun z=>n (.tail _ z)⟩;rcases List.mem_or_eq_of_mem_set z with z | z
    . exact h.1 z
    . exact n (z ▸ .head _)
end
section
open PySem.W
section
variable {prog:Program} {w:World} {A:Around} {E:Value->Shared->Prop} {s:Shared}
end
section
variable {X:Cx}
end
end
section
open Builtin.Str
section
variable {prog:Program} {w:World} {A:Around} {E:Value->Shared->Prop} {s:Shared}
end
section
variable {X:Cx}
def aDC:RM3:=fun x xs G R=>match x,xs with
  | .str a,[.str b]=>(b.length == 0)=false/\a.length+2<=sizeLine/\(Txt.split a b).length<=sizeLine/\∀ q,G q=none->R (.ref q) (aM G q (.lst ((Txt.split a b).map D.str)))
  | _,_=>False
def atD:List D->Gp->fY->Prop:=fun xs G R=>match xs with
  | [.int i]=>i.natAbs.log2 < 1920/\R (.str (toString i)) G
  | [.str z]=>R (.str z) G
  | _=>False
theorem a91:o8 X (.type "str") (fun xs H Q=>(∃ i,xs=[.int i]/\i.natAbs.log2 < 1920/\Q (.str (toString i)) H)∨∃ z,xs=[.str z]/\Q (.str z) H):=by
  intro pins s σ H xs us Q I r h;rcases h with ⟨i,rfl,hz,q⟩ | ⟨z,rfl,q⟩
  . obtain ⟨u,rfl,t,rfl⟩:=vals1 r;exact PySem.P.str_of_int hz ⟨.str _,H,I.tok _,⟨_,rfl⟩,q⟩
  . obtain ⟨u,rfl,t,rfl⟩:=vals1 r;exact PySem.P.str_of_str ⟨.str _,H,I,⟨_,rfl⟩,q⟩
theorem aBS:bY X (.type "str") atD:=bY.of a91 fun H xs vs G R Q rx g q k=>by
  cases rx with
  | nil=>exact False.elim q
  | cons r rr =>
    cases rr with
    | cons _ _=>cases r <;> exact False.elim q
    | nil =>
      cases r with
      | int i=>exact .inl ⟨i,rfl,q.1,fun _=>k _ H _ G (.refl H) (.str _) g q.2⟩
      | str z=>exact .inr ⟨z,rfl,fun _=>k _ H _ G (.refl H) (.str _) g q⟩
      | _=>exact False.elim q
def agA:List D->Gp->fY->Prop:=fun xs G R=>match xs with
  | [.ref q]=>(match aU G q with
    | some ds=>R (.tup ds) G
    | none=>False)
  | _=>False
theorem apV:bY X (.type "tuple") agA:=bY.of a6A fun H xs vs G R Q rx g q k=>by
  cases rx with
  | nil=>exact False.elim q
  | cons r rr =>
    cases rr with
    | cons _ _=>cases r <;> exact False.elim q
    | nil =>
      cases r with
      | ref a =>
        have q':(match aU G a with
          | some ds=>R (.tup ds) G
          | none=>False):=q
        split at q'
        . rename_i ds e1;obtain ⟨xs,h1,r1⟩:=c7 g e1;refine ⟨a,xs,rfl,.inl ⟨h1,fun l hl kf=>?_⟩⟩;have sn:Same H (upd H l (.tup xs)):=bJ hl;exact k _ _ _ _ (.same sn) (.tup (rB.of aN) (r1.mono (.same sn)) (ak8 aN)) (g.same sn) q'
        . exact q'.elim
      | _=>exact False.elim q
end
end
section
section
variable {X:Cx} {pins:List (Addr×Obj)} {σ:St} {H:Hp} {s:Shared} {tl:List (Addr×List V)}
end
end
section
open PySem.W
variable {d:Addr}{x:Key×Value}
section
variable {prog:Program} {w:World} {A:Around} {E:Value->Shared->Prop} {s:Shared}
def aBT (xs ps:List (Key×Value)):List (Key×Value):=ps.foldl (fun acc x=>stored acc x.1 x.2) xs
def apW (prog:Program) (w:World) (I d:Addr) (h:Heap) (v:Value) (x:Key×Value):Prop:=∃ p o n key,v = .ref p/\h.get? p=some o/\o.cls = .type "tuple" /\ o.data = .seq #[key,x.2] n/\(bA prog w).is x.1 key=true/\p≠I/\p≠d
theorem apW.keep (q:apW prog w I d h v x) (k:∀ b o,b≠d->b≠I->h.get? b=some o->h'.get? b=some o):apW prog w I d h' v x:=by
  obtain ⟨p,o,n,key,e,h1,h2,h3,h4,h5,h6⟩:=q;exact ⟨p,o,n,key,e,k _ _ h6 h5 h1,h2,h3,h4,h5,h6⟩
def aBU (prog:Program) (w:World) (h:Heap) (v:Value) (x:Key×Value):Prop:=∃ p o n key,v = .ref p/\h.get? p=some o/\o.cls = .type "tuple" /\ o.data = .seq #[key,x.2] n/\(bA prog w).is x.1 key=true
theorem aBU.ok (q:aBU prog w h v x) (hI:h.objs.size<=I) (hd:h.objs.size<=d) (k:∀ b o,h.get? b=some o->h'.get? b=some o):apW prog w I d h' v x:=by
  obtain ⟨p,o,n,key,e,h1,h2,h3,h4⟩:=q;have l1:=cg h1;exact ⟨p,o,n,key,e,k _ _ h1,h2,h3,h4,gb (fj l1 hI),gb (fj l1 hd)⟩
end
def awS (kvs:List (DK×D)) (ps:List (Key×D)):List (DK×D):=ps.foldl (fun acc p=>zL acc (.inl p.1) p.2) kvs
inductive alB (K:Fg) (H:Hp):List (Key×D)->List (Key×Value)->Prop where
  | nil:alB K H [] []
  | cons {k:Key} {vz:V} {u:Value} {d:D} {kvs:List (Key×D)} {ps:List (Key×Value)}:RD K H d vz->RelV vz u->alB K H kvs ps->alB K H ((k,d) :: kvs) ((k,u) :: ps)
theorem alB.fold {K:Fg} {kvs:List (Key×D)} {ps:List (Key×Value)} (h:alB K H kvs ps):∀ {k0:List (DK×D)} {y0:List (Key×V)} {p0:List (Key×Value)},KV y0 p0->wW K H .inl k0 y0->∃ ys,KV ys (aBT p0 ps)/\wW K H .inl (awS k0 kvs) ys:=by
  induction h with
  | nil=>intro k0 y0 p0 a b;exact ⟨y0,a,b⟩
  | @cons k vz u d kvs ps rd rv _ ih =>
    intro k0 y0 p0 a c;exact ih (KV.put a k rv) (a2R a2S rd c)
section
variable {X:Cx}
end
end
section
open PySem.W
section
variable {prog:Program} {w:World} {A:Around} {E:Value->Shared->Prop} {s:Shared}
end
section
variable {X:Cx}
end
end
section
open PySem.W
section
variable {prog:Program} {w:World} {A:Around} {E:Value->Shared->Prop} {s:Shared}
end
section
variable {X:Cx}
end
end
section
open PySem.W
section
variable {prog:Program} {w:World} {A:Around} {E:Value->Shared->Prop} {s:Shared}
section
variable {κ:Type} [DecidableEq κ] {knd:HeapKind prog w κ}
end
end
section
variable {X:Cx}
end
end
section
open PySem.W
section
variable {X:Cx} {A:Around} {E:Value->Shared->Prop}
theorem aiB {σ:St} {y v:V} {u r:Value} {Q:Unit->Shared->Prop} (hu:A.units < cLine) (I:Inv X pins σ H s) (g:aaO H a y v H') (ry:RelV y u) (rv:RelV v r) (h:∀ s',Inv X pins σ H' s'->Q () s'):wpAny (model X.prog X.w) A (dictSet a u r) Q E s:=by
  rcases g with ⟨kvs,k,e,ey,l,eH⟩ | ⟨kvs,k,b,e,ey,eb,l,eH⟩
  . subst ey eH;obtain ⟨z,hd,vs,rel,dd⟩:=asJ I.hok e;have lp:=o9 kvs k v;refine wpAny_dictSet_pairs (hsz:=by rw [← rel.length];exact z) (a3I ry) dd fun h' d2 hs=>h _ (a2M I (by rw [e];exact True.intro) hs (let ⟨q,_,_,hq,_⟩:=d2;⟨q,hq⟩) (ajW (by omega) hd (rel.put k rv) d2))
  . subst ey eH;cases (show u=Value.ref b from ry);obtain ⟨z,hd,xs,rel,dd⟩:=asK I.hok e;have lp:=o9 kvs k v;refine wpAny_dictSet_heap (hsz:=by rw [← Paired.length rel];exact z) (show A.units < cLine from hu) (yC I.hok eb) dd fun h' d2 hs=>h _ ?_;obtain ⟨q,es,ep,hq,h2,h3,h4,_,h5⟩:=d2;refine a2M I (by rw [e];exact True.intro) hs ⟨q,hq⟩ ⟨by omega,hd,_,(rel.put k eb rv).keeps fun c ys ec=>?_,q,es,ep,hq,h2,h3,h4,h5⟩;rw [aW (asA ec e (fun z=>nomatch z))];exact ec
def a92 (t:Bool) (tk tv:cB):cB:=fun ρ G R=>∀ p,G p=none->tk ρ (aM G p (.jF t [])) fun y G1=>tv ρ G1 fun v G2=>pW (.ref p) y G2 fun a t' kvs k=>kvs.length < sizeLine/\R (.ref p) (aM G2 a (.jF t' (zL kvs k v)))
theorem apY {k v:Expr} {tk tv:cB} {t:Bool} (hu:X.A.units+64 < cLine) (hk:cC X k tk) (hv:cC X v tv):cC X (.Dict [some k] [v] pos) (a92 t tk tv):=by
  intro pins s σ H Q I h;obtain ⟨ρ,G,R,sr,g,q,kk⟩:=h;refine wpAny_Dict_any rfl rfl (by simp) (by simp) ?_
  let p:=s.heap.objs.size
  have fr:H p=none:=I.hok.fresh (au _)
  obtain ⟨H0,I0,sn,g0,fG⟩:∃ H0,Inv X pins σ H0 { s with heap:=s.heap.push { cls := .type "dict",data := .dict #[] },toks:=s.toks }/\Same H H0/\HR X.K H0 (aM G p (.jF t []))/\G p=none:=by
    cases t with
    | false =>
      have sn:Same H (upd H p (.dK [])):=bJ fr;have J:=I.laid (a:=p) (o := .dK []) (t':=s.toks) (fun _ _ q=>ao _ q) (au _) (aaQ s.heap I.big);exact ⟨upd H p (.dK []),J,sn,g.put (u := .jF false []) fr (.inl ⟨rfl,[],aN,.nil⟩),jX g fr (tE J)⟩
    | true =>
      have sn:Same H (upd H p (.dT [])):=bJ fr;have J:=I.laid (a:=p) (o := .dT []) (t':=s.toks) (fun _ _ q=>ao _ q) (au _) (ajX s.heap I.big);exact ⟨upd H p (.dT []),J,sn,g.put (u := .jF true []) fr (.inr ⟨rfl,[],aN,.nil⟩),jX g fr (tE J)⟩
  have t0:Ts H H0 := .same sn;refine pairTrees_cons_walk (cH (hk pins _ σ H0 (fun vy H1=>Ts H0 H1/\∃ y G1,RD X.K H1 y vy/\HR X.K H1 G1/\tv ρ G1 fun v G2=>pW (.ref p) y G2 fun a t' kvs k=>kvs.length < sizeLine/\R (.ref p) (aM G2 a (.jF t' (zL kvs k v)))) I0 ⟨ρ,_,_,sr.mono t0,g0,q p fG,fun vy H1 y G1 t1 r1 g1 q1=>⟨t1,y,G1,r1,g1,q1⟩⟩) fun uy s1 ⟨vy,H1,I1,ry,t1,y,G1,rdy,g1,q1⟩=>?_);refine cH (hv pins s1 σ H1 (fun vv H2=>Ts H1 H2/\∃ d G2,RD X.K H2 d vv/\HR X.K H2 G2/\pW (.ref p) y G2 fun a t' kvs k=>kvs.length < sizeLine/\R (.ref p) (aM G2 a (.jF t' (zL kvs k d)))) I1 ⟨ρ,G1,_,sr.mono (t0.trans t1),g1,q1,fun vv H2 d G2 t2 r2 g2 q2=>⟨t2,d,G2,r2,g2,q2⟩⟩) fun uv s2 ⟨vv,H2,I2,rv,t2,d,G2,rdv,g2,q2⟩=>?_;refine pairTrees_nil_walk ?_;obtain ⟨a,kvs,kd,ea,_,e1,_,⟨hl,q3⟩,dd⟩:=uK (.ref p) (rdy.mono t2) g2 q2;cases ea;obtain ⟨H4,pp,tt,g4⟩:=dd.put g2 rdv hl;unfold storeAll;rw [List.forIn_cons];refine ak (ak (aiB (by omega) I2 pp ry rv fun s3 I3=>dh ?_));dsimp only;rw [List.forIn_nil];exact dh ⟨.ref p,H4,I3,rfl,kk _ H4 _ _ (((t0.trans t1).trans t2).trans tt) (.ref p) g4 q3⟩
end
end
variable {o:Expr}{ys:List (Key×V)}{u:HO}{od:Obj}{ep kt:Nat}{al:Bool}{to:cB}{apos cpos:Pos}
section
open PySem.W
structure Fz (X:Cx) (p:Addr):Prop where
  free:∀ ob,X.s₀.heap.get? p=some ob->X.H₀ p=none->p∈X.ex
  tup:∀ xs,X.H₀ p≠some (.tup xs)
  lC:∀ o w,X.H₀ p≠some (.lC o w)
  tbl:∀ ps,X.H₀ p≠some (.tbl ps)
section
variable {X:Cx} {pins:List (Addr×Obj)} {σ:St} {H:Hp} {s:Shared}
theorem Fz.of (I:Inv X pins σ H s) (hu:H p=some u) (h1:∀ xs,u ≠ .tup xs) (h2:∀ ob w,u ≠ .lC ob w) (h3:∀ ps,u ≠ .tbl ps):Fz X p:=by
  refine ⟨fun ob q n=>?_,fun xs q=>?_,fun o w q=>?_,fun ps q=>?_⟩
  . apply Classical.byContradiction;intro hx;have:=I.base.free p ob q n hx;rw [hu] at this;cases this
  . have:=I.base.tups p xs q;rw [hu] at this;exact h1 xs (dj.inj this)
  . have:=I.base.j4 p o w q;rw [hu] at this;exact h2 o w (dj.inj this)
  . obtain ⟨more,this⟩:=I.base.rC p ps q;rw [hu] at this;exact h3 _ (dj.inj this)
end
section
variable {X:Cx} {pins:List (Addr×Obj)} {σ:St} {H:Hp} {s:Shared}
theorem Inv.freeze (I:Inv X pins σ H s) {o:Obj} (hu:H a=some u) (h1:∀ xs,u ≠ .tup xs) (h2:∀ ob w,u ≠ .lC ob w) (h3:∀ ps,u ≠ .tbl ps) (h4:∀ x,u ≠ .own x) (ho:s.heap.get? a=some o):Inv X pins σ (upd H a (.lC o u)) s:=by
  have ne:∀ {b:Addr} {v:HO},H b=some v->v≠u->b≠a:=fun e n z=>by subst z;rw [hu] at e;exact n (dj.inj e).symm
  have no:∀ {b:Addr},H b=none->upd H a (.lC o u) b=none:=fun {b} e=>by
    rw [aW];exact e;intro z;subst z;rw [hu] at e;cases e
  have kt:∀ b xs,H b=some (.tup xs)->upd H a (.lC o u) b=some (.tup xs):=fun b xs q=>by rw [aW (ne q fun z=>h1 xs z.symm)];exact q
  have kf:∀ b ob w,H b=some (.lC ob w)->upd H a (.lC o u) b=some (.lC ob w):=fun b ob w q=>by rw [aW (ne q fun z=>h2 ob w z.symm)];exact q
  have ko:∀ b x,H b=some (.own x)->upd H a (.lC o u) b=some (.own x):=fun b x q=>by rw [aW (ne q fun z=>h4 x z.symm)];exact q
  refine ⟨I.ok,I.os,I.bare,⟨I.base.keep,I.base.slot,fun b ob q n hx=>no (I.base.free b ob q n hx),I.base.there,fun b xs q=>kt b xs (I.base.tups b xs q),fun b ob w q=>kf b ob w (I.base.j4 b ob w q),fun b ps q=>?_⟩,I.loc,I.cell,no I.free,fun x c e=>no (I.m6 x c e),fun p hp=>?_,fun b v e=>?_,I.len,I.hnd.mono kf,fun p hp=>kt _ _ (I.tup p hp)⟩
  . obtain ⟨more,e⟩:=I.base.rC b ps q;exact ⟨more,by rw [aW (ne e fun z=>h3 _ z.symm)];exact e⟩
  . obtain ⟨z1,z2,z3⟩:=I.pin p hp;exact ⟨z1,no z2,z3⟩
  . by_cases hb:b=a
    . subst hb;rw [aN] at e;obtain rfl:=dj.inj e;exact ⟨ho,(I.hok b u hu).stay (fun _ _ _ q=>q) (fun c q=>ko c _ q) fun c xs q=>kt c xs q⟩
    . rw [aW hb] at e;exact (I.hok b v e).stay (fun _ _ _ q=>q) (fun c q=>ko c _ q) fun c xs q=>kt c xs q
theorem awT {vs:List (Key×Value)} (r:KV ys vs):∀ {i:Nat} {k:Key} {y:V},ys[i]?=some (k,y)->∃ u,vs[i]?=some (k,u)/\RelV y u:=by
  induction r with
  | nil=>intro i k y e;simp at e
  | @cons p q _ _ h _ ih =>
    intro i k y e;cases i with
    | zero =>
      simp only [vq,dj.injEq] at e;subst e;obtain ⟨q1,q2⟩:=q;obtain ⟨h1,h2⟩:=h;exact ⟨q2,by simp only [vq];rw [show q1=k from h1.symm],h2⟩
    | succ i=>simpa using ih (by simpa using e)
theorem apZ {k:Key} {key:Value} (h:a3E k key=true):RelV (kV k) key:=by
  rcases cF h with ⟨i,t,e1,e2⟩ | ⟨i,t,e1,e2⟩
  . subst e1;exact ⟨t,e2⟩
  . subst e1;exact ⟨t,e2⟩
theorem abM {es:Array DictEntry} (I:Inv X pins σ H s) (hd:od.data = .dict es ep) (hq:H a=some (.lC od (.dK ys))) :
    ∃ vs,KV ys vs/\s.heap.DictAt (bA X.prog X.w) a vs ep/\vs.length=es.size/\(a == sysModules)=false:=by
  obtain ⟨hod,_⟩:=(show s.heap.get? a=some od/\_ from I.hok a _ hq);obtain ⟨_,hsm,vs,kv,o1,es1,ep1,g1,g2,g3,g4,g5,g6⟩:=wZ I.hok (.inr ⟨od,hq⟩);rw [hod] at g1;obtain rfl:=dj.inj g1;rw [hd] at g3;injection g3 with e1 e2;subst e1 e2;exact ⟨vs,kv,⟨od,es,hod,g2,hd,g4,g5,g6⟩,by rw [← g5.length];simp,hsm⟩
end
def Iti (a:Addr) (od:Obj):It :=
  ⟨fun i H=>∃ ys:List (Key×V),H a=some (.lC od (.dK ys))/\i < ys.length,
   fun i H v H'=>∃ (p:Addr) (k:Key) (y:V),H p=none/\v = .ref p/\H'=upd H p (.tup [kV k,y])/\∀ ys,H a=some (.lC od (.dK ys))->ys[i]?=some (k,y),
   fun i H=>∃ ys:List (Key×V),H a=some (.lC od (.dK ys))/\ys.length<=i⟩
theorem a4F {w:World} {K:Fg} {pt:Pos} {en:Array DictEntry} (hd:od.data = .dict en ep) :
    Turn true tl P w K (.Tuple es kt pt) (Iti a od) [it] it (fun i h=>∃ ok ov,IsItemIter h it a i en.size ep ok ov) where
  mem:=by simp
  obj:=fun i h st b hb=>by
    have e:b=it:=by simpa using hb
    subst e;obtain ⟨ok,ov,e⟩:=st;exact ⟨_,e,fun v z=>nomatch z⟩
  keep:=fun i h h' st k=>by
    obtain ⟨ok,ov,e⟩:=st;exact ⟨ok,ov,k it (by simp) _ e⟩
  item:=by
    intro X hP hw hK hcm ht i pins s σ H E I hf st hg;subst hP hw hK;obtain ⟨ok,ov,hit⟩:=st;obtain ⟨ys,hq,hi⟩:=hg;obtain ⟨vs,kv,hm,hn,_⟩:=abM I hd hq;have hx:ys[i]?=some (ys[i].1,ys[i].2):=aq hi;obtain ⟨u,hu,ru⟩:=awT kv hx;have fr:=I.hok.fresh (au s.heap.objs.size);have nit:s.heap.objs.size≠it:=uo (cg hit);refine wpAny_pyNext_items_item (knd:=bA X.prog X.w) (kvs:=vs) (by rw [hn];exact hit) hm hu fun key h' hkey hout htu hsz kk=>?_;refine ⟨_,rfl,wpAny_letOwnedTupleGo_items (s:={ s with heap:=h' }) hout fun h2 hin sb=>?_⟩;have k2:∀ b o,b ∉ [it]->s.heap.get? b=some o->h2.get? b=some o:=fun b o hb e=>sb.extBut _ _ (fun q=>hb (by simp [q])) (kk b o (fun q=>hb (by simp [q])) e)
    refine ⟨.ref s.heap.objs.size,upd H s.heap.objs.size (.tup [kV ys[i].1,ys[i].2]),I.a7H (t':=s.toks) (ch:=[it]) k2 hf (au _) ⟨show 2<=sizeLine by decide,[key,u],.cons (apZ hkey) (.cons ru .nil),⟨_,sb.extBut _ _ nit htu,rfl,_,rfl⟩⟩,rfl,
      ⟨_,ys[i].1,ys[i].2,fr,rfl,rfl,fun zs z=>by rw [hq] at z;cases z;exact hx⟩,⟨_,_,by rw [hn] at hin;exact hin⟩,fun b hb=>?_⟩
    have e:b=it:=by simpa using hb
    subst e;rw [aW (Ne.symm nit)];exact (hf _ hb).1
  done:=by
    intro X hP hw hK hcm ht i pins s σ H E I hf st hg;subst hP hw hK;obtain ⟨ok,ov,hit⟩:=st;obtain ⟨ys,hq,hi⟩:=hg;obtain ⟨vs,kv,hm,hn,_⟩:=abM I hd hq;obtain ⟨f0,f1,f2,f3,f4,f5⟩:=hf it (by simp);have hl:ys.length=vs.length:=Paired.length kv;exact wpAny_pyNext_items_end (knd:=bA X.prog X.w) (kvs:=vs) (I.ok.hd (hcm rfl)) (by rw [hn];exact hit) hm (List.getElem?_eq_none (by omega)) fun h' eb=>⟨rfl,I.turned (t':=s.toks) (fun b o hb e=>eb b o hb e) f0 f1 f3 f4 f5⟩
  self:=fun _ _ _ _ _ st h=>by
    obtain ⟨ok,ov,hit⟩:=st;exact kcp_self hit h
theorem awU {K:Fg}:∀ k:Key,RD K H (kD k) (kV k)
  | .inl i => .int i
  | .inr x => .str x
theorem aq0 {α β:Type} {P:α->β->Prop} {as:List α} {bs:List β} (t:Two P as bs):∀ {i:Nat} {b:β},bs[i]?=some b->∃ a,as[i]?=some a/\P a b:=by
  induction t with
  | nil=>intro i b e;simp at e
  | @cons a b _ _ h _ ih =>
    intro i c e;cases i with
    | zero=>simp only [vq,dj.injEq] at e;subst e;exact ⟨a,rfl,h⟩
    | succ i=>simpa using ih (by simpa using e)
theorem abN {K:Fg}:a6E K H1 (.itm p od kvs) (Iti p od):=fun H2 G2 t g ok=>by
  have ok':G2 p=some (.rdc od false kvs):=ok;rcases g p _ ok' with ⟨_,ys,e,tw⟩ | ⟨z,_⟩
  . have hl:(Src.itm p od kvs).items.length=ys.length:=by simp [Src.items,tw.length]
    refine ⟨fun i hi=>⟨ys,e,by rw [hl] at hi;exact hi⟩,fun i v H' hi hy=>?_,⟨ys,e,by rw [hl];exact au _⟩⟩;obtain ⟨q,k,y,fr,rfl,rfl,hy⟩:=hy;obtain ⟨⟨dk,d⟩,e2,r1,r2⟩:=aq0 tw (hy ys e);have r1:dk = .inl k:=r1;subst r1;have sn:Same H2 (upd H2 q (.tup [kV k,y])):=bJ fr;exact ⟨sn,.tup [kD k,d],by simp [Src.items,e2,dkD],.tup (rB.of aN) (.cons (awU k) (.cons (r2.mono (.same sn)) .nil)) (ak8 aN)⟩
  . cases z
theorem abO {K:Fg}:a6F K (.itm p od kvs) (Iti p od):=fun H2 G2 g ok=>abN (H1:=H2) H2 G2 (.refl _) g ok
def a4G (al:Bool) (x:D) (G1:Gp) (R:Src->Gp->Prop):Prop:=match x with
  | .ref p=>(match G1 p with
    | some (.jF false kvs)=>∀ od,R (.itm p od kvs) (aM G1 p (.rdc od false kvs))
    | some (.rdc od false kvs)=>al=true/\R (.itm p od kvs) G1
    | _=>False)
  | _=>False
def lF (al:Bool) (to:cB):TI3:=fun ρ G R=>to ρ G fun x G1=>a4G al x G1 R
theorem alC {x:D} {R:Src->Gp->Prop} (h:a4G al x G1 R):∃ p kvs,x = .ref p/\((G1 p=some (.jF false kvs)/\∀ od,R (.itm p od kvs) (aM G1 p (.rdc od false kvs)))∨∃ od,G1 p=some (.rdc od false kvs)/\al=true/\R (.itm p od kvs) G1):=by
  unfold a4G at h;split at h
  . rename_i p;split at h
    . rename_i kvs e;exact ⟨p,kvs,rfl,.inl ⟨e,h⟩⟩
    . rename_i od kvs e;exact ⟨p,kvs,rfl,.inr ⟨od,e,h⟩⟩
    . exact h.elim
  . exact h.elim
section
variable {X:Cx}
theorem a4H {SJ:Hp->Src->It->Prop} {pt:Pos} (hc:X.calm=true) (ho:cC X o to)
    (hbase:attributeBase o "items" X.env (eval o X.env)=eval o X.env) (hline:(apos.endLine == cpos.line)=true) (hSJ:∀ H p od kvs,(al=false->Fz X p)->SJ H (.itm p od kvs) (Iti p od)) :
    PI X (.Tuple es kt pt) (.Call (.Attribute o "items" apos) [] [] cpos) (fun σ H Q=>∃ ρ G R,SR X.K H ρ σ/\HR X.K H G/\lF al to ρ G R/\∀ src J H' G',Ts H H'->HR X.K H' G'->SJ H' src J->R src G'->Q J H'):=by
  intro pins s σ H Q I h;obtain ⟨ρ,G,R,sr,g,q,kk⟩:=h;refine wpAny_Call_method0_late hbase hline (cH (ho pins s σ H (fun vx H1=>Ts H H1/\∃ x G1,RD X.K H1 x vx/\HR X.K H1 G1/\a4G al x G1 R) I ⟨ρ,G,_,sr,g,q,fun v H1 x G1 t1 r1 g1 q1=>⟨t1,x,G1,r1,g1,q1⟩⟩) fun v s1 ⟨vx,H1,I1,r1,t1,x1,G1,rx,g1,q1⟩=>?_);obtain ⟨a,kvs,rfl,q2⟩:=alC q1;cases rx;obtain rfl:v=Value.ref a:=r1
  obtain ⟨ys,ed⟩:∃ ys:List (Key×V),Rd H1 a (.dK ys):=by
    rcases q2 with ⟨e1,_⟩ | ⟨od,e1,_⟩
    . rcases g1 a _ e1 with ⟨_,ys,e2,_⟩ | ⟨z,_⟩
      . exact ⟨ys,.inl e2⟩
      . cases z
    . rcases g1 a _ e1 with ⟨_,ys,e2,_⟩ | ⟨z,_⟩
      . exact ⟨ys,.inr ⟨od,e2⟩⟩
      . cases z
  obtain ⟨h1,h2,h3⟩:=ajZ I1 (.inl ⟨ys,ed⟩);refine ⟨"dict", "dict.items",PySem.F.plainAttrs_dict,PySem.F.slot_dict_items,PySem.F.type_dict_items,h1,h2,Calls.callWith_builtin rfl (PySem.evalArgs_none ?_)⟩;obtain ⟨_,hsm,vs,kv,hd⟩:=wZ I1.hok ed;refine call_meetsIn PySem.F.slot_dict_items h1 PySem.F.entry_dict_items (PySem.F.args_dict_items_1 _) (meets_dict_items (bA X.prog X.w) a hsm) ⟨⟨vs,hd⟩,?_⟩;obtain ⟨od,en,ep,o1,o2,o3,o4,o5,o6⟩:=hd;have I2:Inv X pins σ H1 { s1 with heap:=s1.heap.push { cls := .type "dict_items",data := .fields #[.ref a] },toks:=s1.toks }:=I1.kept fun b o e=>ao _ e;have od2:(s1.heap.push { cls := .type "dict_items",data := .fields #[.ref a] }).get? a=some od:=ao _ o1;have hm:(s1.heap.push { cls := .type "dict_items",data := .fields #[.ref a] }).DictAt (bA X.prog X.w) a vs ep:=⟨od,en,od2,o2,o3,o4,o5,o6⟩;have hln:vs.length=en.size:=by rw [← o5.length];simp
  show wpAny (model X.prog X.w) X.A (pyIter (.ref s1.heap.objs.size)) (PIE X pins σ (.Tuple es kt pt) Q) X.xe { s1 with heap:=s1.heap.push { cls := .type "dict_items",data := .fields #[.ref a] } };generalize hh:s1.heap.push { cls := .type "dict_items",data := .fields #[.ref a] }=hp at *;have hv:hp.IsItemsView s1.heap.objs.size a:=⟨_,by rw [← hh];exact cj _ rfl,rfl,rfl⟩;refine wpAny_pyIter_items (s:={ s1 with heap:=hp }) (knd:=bA X.prog X.w) hv hm ?_;have I3:Inv X pins σ H1 { s1 with heap:=hp.push { cls := .type "dict_itemiterator",data := .fields #[.none,.bool false,.ref a,.int 0 0,.int vs.length 0,.int ep 0,.none,.none] },toks:=s1.toks }:=I2.kept fun b o e=>ao _ e;have od3:(hp.push { cls := .type "dict_itemiterator",data := .fields #[.none,.bool false,.ref a,.int 0 0,.int vs.length 0,.int ep 0,.none,.none] }).get? a=some od:=ao _ od2
  have hit:IsItemIter (hp.push { cls := .type "dict_itemiterator",data := .fields #[.none,.bool false,.ref a,.int 0 0,.int vs.length 0,.int ep 0,.none,.none] }) hp.objs.size a 0 en.size ep .none .none:=by
    rw [← hln];exact cj _ rfl
  have fr1:H1 hp.objs.size=none:=I2.hok.fresh (au _);rcases q2 with ⟨e1,q3⟩ | ⟨od',e1,ha,q3⟩
  . rcases g1 a _ e1 with ⟨_,zs,e2,tw⟩ | ⟨z,_⟩
    . have tt:Ts H1 (upd H1 a (.lC od (.dK zs))):=Ts.turn e2 (fun xs z=>nomatch z) (fun ob w z=>nomatch z);have I4:=I3.freeze e2 (fun xs z=>nomatch z) (fun ob w z=>nomatch z) (fun ps z=>nomatch z) (fun x z=>nomatch z) od3;have g4:HR X.K (upd H1 a (.lC od (.dK zs))) (aM G1 a (.rdc od false kvs)):=g1.turn tt (.inl ⟨rfl,zs,aN,tw.imp fun _ _ q=>⟨q.1,q.2.mono tt⟩⟩);have na:hp.objs.size≠a:=uo (cg od2);refine ⟨hp.objs.size,[hp.objs.size],_,Iti a od,_,rfl,I4,(show Turn X.calm X.tp X.prog X.w X.K (.Tuple es kt pt) _ _ _ _ from hc ▸ a4F o3),⟨_,_,hit⟩,fun b hb=>?_,kk _ _ _ _ (t1.trans tt) g4 (hSJ _ a od kvs fun _=>Fz.of I1 e2 (fun xs z=>nomatch z) (fun ob w z=>nomatch z) (fun ps z=>nomatch z)) (q3 od)⟩;have e:b=hp.objs.size:=by simpa using hb
      subst e;exact I2.a1Z (au _) (by rw [aW na];exact fr1)
    . cases z
  . rcases g1 a _ e1 with ⟨_,zs,e2,tw⟩ | ⟨z,_⟩
    . obtain ⟨od4,_⟩:=(show s1.heap.get? a=some od'/\_ from I1.hok a _ e2);rw [o1] at od4;obtain rfl:=dj.inj od4;refine ⟨hp.objs.size,[hp.objs.size],_,Iti a od,_,rfl,I3,(show Turn X.calm X.tp X.prog X.w X.K (.Tuple es kt pt) _ _ _ _ from hc ▸ a4F o3),⟨_,_,hit⟩,fun b hb=>?_,kk _ _ _ _ t1 g1 (hSJ _ a od kvs fun z=>by rw [ha] at z;cases z) q3⟩;have e:b=hp.objs.size:=by simpa using hb
      subst e;exact I2.a1Z (au _) fr1
    . cases z
theorem aq1 {pt:Pos} (hc:X.calm=true) (ho:cC X o to) (hbase:attributeBase o "items" X.env (eval o X.env)=eval o X.env) (hline:(apos.endLine == cpos.line)=true) :
    PI3 X (.Tuple es kt pt) (.Call (.Attribute o "items" apos) [] [] cpos) (lF true to):=a4H (SJ:=a6E X.K) hc ho hbase hline fun _ _ _ _ _=>abN
theorem alD {pt:Pos} (hc:X.calm=true) (ho:cC X o to) (hbase:attributeBase o "items" X.env (eval o X.env)=eval o X.env) (hline:(apos.endLine == cpos.line)=true) :
    PIS X (.Tuple es kt pt) (.Call (.Attribute o "items" apos) [] [] cpos) (lF true to):=a4H (SJ:=fun _=>a6F X.K) hc ho hbase hline fun _ _ _ _ _=>abO
end
section
variable {X:Cx} {pins:List (Addr×Obj)} {σ:St} {H:Hp} {s:Shared}
end
section
variable {X:Cx} {pins:List (Addr×Obj)} {σ:St} {H:Hp} {s:Shared}
theorem alE (I:Inv X pins σ H s) (d:IsD H a):∃ od en ep,s.heap.get? a=some od/\od.ExactDict/\od.data = .dict en ep/\(a == sysModules)=false:=by
  rcases d with ⟨kvs,e⟩ | ⟨kvs,e⟩
  . obtain ⟨_,hd,vs,_,od,en,ep,h1,h2,h3,_⟩:=wZ I.hok e;exact ⟨od,en,ep,h1,h2,h3,hd⟩
  . obtain ⟨_,hd,vs,_,od,en,ep,h1,h2,h3,_⟩:=a1I I.hok e;exact ⟨od,en,ep,h1,h2,h3,hd⟩
end
end
section
open PySem.W
structure Tt (H H':Hp):Prop where
  tups:∀ a xs,H a=some (.tup xs)->H' a=some (.tup xs)
  aFQ:∀ a o xs,H a=some (.lC o (.tup xs))->H' a=some (.lC o (.tup xs))
variable {xs:List V}
theorem Tt.sqT {K:Fg} (t:Tt H H') (h:rB K H a xs):rB K H' a xs:=by
  rcases h with (h | ⟨o,h⟩) | h
  . exact .inl (.inl (t.tups _ _ h))
  . exact .inl (.inr ⟨o,t.aFQ _ _ _ h⟩)
  . exact .inr h
theorem aaU.fC (t:Tt H H') (h:aaU H a xs):aaU H' a xs:=trivial
mutual
theorem RD.fC {K:Fg} {H H':Hp} (t:Tt H H'):∀ {d:D} {v:V},RD K H d v->RD K H' d v
  | _,_,.non => .non
  | _,_,.bl b => .bl b
  | _,_,.int i => .int i
  | _,_,.str x => .str x
  | _,_,.ty n => .ty n
  | _,_,.ref a => .ref a
  | _,_,.tup h r e => .tup (t.sqT h) (bV.fC t r) (e.fC t)
theorem bV.fC {K:Fg} {H H':Hp} (t:Tt H H'):∀ {ds:List D} {vs:List V},bV K H ds vs->bV K H' ds vs
  | _,_,.nil => .nil
  | _,_,.cons h r => .cons (RD.fC t h) (bV.fC t r)
end
theorem SR.fC {K:Fg} {H H':Hp} (t:Tt H H'):∀ {ρ:aK} {σ:St},SR K H ρ σ->SR K H' ρ σ
  | _,_,.nil => .nil
  | _,_,.none r => .none (SR.fC t r)
  | _,_,.some h r => .some (h.fC t) (SR.fC t r)
theorem OR.aBV {K:Fg} {o:GO} (t:Tt H H') (h:OR K H a o) (k:∀ u,H a=some u->H' a=some u):OR K H' a o:=by
  cases o with
  | lst ds=>obtain ⟨xs,e,r⟩:=h;exact ⟨xs,k _ e,r.fC t⟩
  | rol ds =>
    obtain ⟨xs,e,r⟩:=h;refine ⟨xs,?_,r.fC t⟩;rcases e with (e | ⟨o,e⟩) | e
    . exact .inl (.inl (k _ e))
    . exact .inl (.inr ⟨o,k _ e⟩)
    . exact .inr e
  | jF b kvs =>
    rcases h with ⟨z,xs,e,r⟩ | ⟨z,xs,e,r⟩
    . exact .inl ⟨z,xs,k _ e,r.imp fun _ _ q=>⟨q.1,q.2.fC t⟩⟩
    . exact .inr ⟨z,xs,k _ e,r.imp fun _ _ q=>⟨q.1,q.2.fC t⟩⟩
  | ins C fs=>obtain ⟨dx,vs,e,r⟩:=h;exact ⟨dx,vs,k _ e,r.imp fun _ _ q=>⟨q.1,q.2.fC t⟩⟩
  | rdc ob b kvs =>
    rcases h with ⟨z,xs,e,r⟩ | ⟨z,xs,e,r⟩
    . exact .inl ⟨z,xs,k _ e,r.imp fun _ _ q=>⟨q.1,q.2.fC t⟩⟩
    . exact .inr ⟨z,xs,k _ e,r.imp fun _ _ q=>⟨q.1,q.2.fC t⟩⟩
  | exn C=>obtain ⟨o,vs,e,r⟩:=h;exact ⟨o,vs,k _ e,r⟩
  | tpl ds=>obtain ⟨xs,e,r⟩:=h;exact ⟨xs,t.sqT e,r.fC t⟩
  | kst ks=>obtain ⟨P,w,xs,e,r,q⟩:=h;exact ⟨P,w,xs,k _ e,r,fun x hx=>⟨(q x hx).1,t.sqT (q x hx).2⟩⟩
theorem alF {K:Fg} {t:Bool} (g:HR K H G) (e:G p=some (.rdc od t kvs)) :
    ∃ u,H p=some (.lC od u)/\(∀ xs,u ≠ .tup xs)/\(∀ ob w,u ≠ .lC ob w)/\IsD H p/\Tt H (upd H p u)/\HR K (upd H p u) (aM G p (.jF t kvs)):=by
  have key:∀ u,H p=some (.lC od u)->(∀ xs,u ≠ .tup xs)->Tt H (upd H p u):=fun u hu h1=>by
    refine ⟨fun a xs q=>?_,fun a o xs q=>?_⟩
    . rw [aW];exact q;intro z;subst z;rw [hu] at q;cases q
    . rw [aW];exact q;intro z;subst z;rw [hu] at q;cases q;exact h1 xs rfl
  have rest:∀ u,Tt H (upd H p u)->OR K (upd H p u) p (.jF t kvs)->HR K (upd H p u) (aM G p (.jF t kvs)):=fun u tt new a v q=>by
    by_cases z:a=p
    . subst z;rw [aG] at q;obtain rfl:=dj.inj q;exact new
    . rw [bB z] at q;exact (g a v q).aBV tt fun w y=>by rw [aW z];exact y
  rcases g p _ e with ⟨z,xs,e2,tw⟩ | ⟨z,xs,e2,tw⟩
  . have tt:=key _ e2 (fun xs z=>nomatch z);exact ⟨_,e2,(fun xs z=>nomatch z),(fun ob w z=>nomatch z),.inl ⟨xs,.inr ⟨od,e2⟩⟩,tt,rest _ tt (.inl ⟨z,xs,aN,tw.imp fun _ _ q=>⟨q.1,q.2.fC tt⟩⟩)⟩
  . have tt:=key _ e2 (fun xs z=>nomatch z);exact ⟨_,e2,(fun xs z=>nomatch z),(fun ob w z=>nomatch z),.inr ⟨xs,.inr ⟨od,e2⟩⟩,tt,rest _ tt (.inr ⟨z,xs,aN,tw.imp fun _ _ q=>⟨q.1,q.2.fC tt⟩⟩)⟩
section
variable {X:Cx} {pins:List (Addr×Obj)} {σ:St} {H:Hp} {s:Shared}
theorem Inv.ae8 (I:Inv X pins σ H s) (fz:Fz X p) (hu:H p=some (.lC od u)) (h1:∀ xs,u ≠ .tup xs) (isd:IsD H p):Inv X pins σ (upd H p u) s:=by
  have ne:∀ {b:Addr} {v:HO},H b=some v->v ≠ .lC od u->b≠p:=fun e n z=>by subst z;rw [hu] at e;exact n (dj.inj e).symm
  have no:∀ {b:Addr},H b=none->upd H p u b=none:=fun {b} e=>by
    rw [aW];exact e;intro z;subst z;rw [hu] at e;cases e
  have kt:∀ b xs,H b=some (.tup xs)->upd H p u b=some (.tup xs):=fun b xs q=>by rw [aW (ne q fun z=>nomatch z)];exact q
  have ko:∀ b x,H b=some (.own x)->upd H p u b=some (.own x):=fun b x q=>by rw [aW (ne q fun z=>nomatch z)];exact q
  obtain ⟨ho,hok⟩:=(show s.heap.get? p=some od/\cY X.prog X.w H s.heap p u from I.hok p _ hu);refine ⟨I.ok,I.os,I.bare,⟨I.base.keep,I.base.slot,fun b ob q n hx=>?_,I.base.there,fun b xs q=>kt b xs (I.base.tups b xs q),fun b ob w q=>?_,fun b ps q=>?_⟩,I.loc,I.cell,no I.free,fun x c e=>no (I.m6 x c e),fun q hq=>?_,fun b v e=>?_,I.len,?_,fun q hq=>kt _ _ (I.tup q hq)⟩
  . exact no (I.base.free b ob q n hx)
  . have:=I.base.j4 b ob w q;rw [aW];exact this;intro z;subst z;exact fz.lC ob w q
  . obtain ⟨more,e⟩:=I.base.rC b ps q;exact ⟨more,by rw [aW (ne e fun z=>nomatch z)];exact e⟩
  . obtain ⟨z1,z2,z3⟩:=I.pin q hq;exact ⟨z1,no z2,z3⟩
  . by_cases hb:b=p
    . subst hb;rw [aN] at e;obtain rfl:=dj.inj e;exact hok.stay (fun _ _ _ q=>q) (fun c q=>ko c _ q) fun c xs q=>kt c xs q
    . rw [aW hb] at e;exact (I.hok b v e).stay (fun _ _ _ q=>q) (fun c q=>ko c _ q) fun c xs q=>kt c xs q
  . rcases I.hnd with z | ⟨x,o,w,vs,a,b,c,d⟩
    . exact .inl z
    . refine .inr ⟨x,o,w,vs,a,?_,c,d⟩;rw [aW];exact b;intro z;subst z;rw [hu] at b;cases b;obtain ⟨od',en,ep,o1,_,o3,_⟩:=alE I isd;rw [ho] at o1;cases o1;rw [o3] at c;cases c
end
def Src.ae8 (G:Gp):Src->Gp
  | .itm p _ kvs=>aM G p (.jF false kvs)
  | .key p _ t kvs=>aM G p (.jF t kvs)
  | _=>G
def FzS (X:Cx):Src->Prop
  | .itm p _ _=>Fz X p
  | .key p _ _ _=>Fz X p
  | _=>True
def aFS (X:Cx) (t:TI3):TI:=fun σ H Q=>∃ ρ G R,SR X.K H ρ σ/\HR X.K H G/\t ρ G R/\∀ src J H' G',Ts H H'->HR X.K H' G'->(a6F X.K src J/\FzS X src)->R src G'->Q J H'
abbrev PIF (X:Cx) (tg iter:Expr) (t:TI3):Prop:=PI X tg iter (aFS X t)
section
variable {X:Cx}
theorem alG {pt:Pos} (hc:X.calm=true) (ho:cC X o to) (hbase:attributeBase o "items" X.env (eval o X.env)=eval o X.env) (hline:(apos.endLine == cpos.line)=true) :
    PIF X (.Tuple es kt pt) (.Call (.Attribute o "items" apos) [] [] cpos) (lF false to):=a4H (SJ:=fun _ src J=>a6F X.K src J/\FzS X src) hc ho hbase hline fun _ _ _ _ z=>⟨abO,z rfl⟩
end
def a2V (ti:TI3) (tg:TG3) (tb:bD):bD:=fun F ρ G=>ti ρ G fun src G1=>∃ P:Nat->aK->Gp->Prop,P 0 ρ G1/\(∀ k ρ G,k<=src.items.length->P k ρ G->src.ok G) /\
  (∀ k d ρ G,src.items[k]?=some d->P k ρ G->tg d ρ fun ρ2=>tb { F with nx:=P (k+1),ct:=P (k+1),bk:=fun ρ G=>src.ok G/\F.nx ρ (src.ae8 G) } ρ2 G)/\∀ ρ G,P src.items.length ρ G->F.nx ρ (src.ae8 G)
def ThN (X:Cx) (E:cO) (σ:St) (H:Hp):Prop:=∃ src ρ G,FzS X src/\SR X.K H ρ σ/\HR X.K H G/\src.ok G/\E.nx ρ (src.ae8 G)
theorem alH {σ:St} {E:cO} {F:Ends} (u:UpD X.K E F) (I:Inv X pins σ H s) (h:ThN X E σ H):∃ H',Inv X pins σ H' s/\F.nx σ H':=by
  obtain ⟨src,ρ,G,fz,sr,g,ok,q⟩:=h
  have one:∀ {p:Addr} {od:Obj} {t:Bool} {kvs:List (DK×D)},Fz X p->G p=some (.rdc od t kvs)->E.nx ρ (aM G p (.jF t kvs))->∃ H',Inv X pins σ H' s/\F.nx σ H':=fun fz e q=>by
    obtain ⟨w,hw,w1,w2,isd,tt,g'⟩:=alF g e;exact ⟨_,I.ae8 fz hw w1 isd,u.nx _ _ _ _ (sr.fC tt) g' q⟩
  cases src with
  | itm p o kvs=>exact one fz ok q
  | key p o t kvs=>exact one fz ok q
  | lst p xs=>exact ⟨H,I,u.nx _ _ _ _ sr g q⟩
  | imm xs=>exact ⟨H,I,u.nx _ _ _ _ sr g q⟩
  | zip p r xs ys=>exact ⟨H,I,u.nx _ _ _ _ sr g q⟩
  | tpl p xs=>exact ⟨H,I,u.nx _ _ _ _ sr g q⟩
  | enu p xs=>exact ⟨H,I,u.nx _ _ _ _ sr g q⟩
section
variable {X:Cx}
theorem aq2 {tg:TG3} (hp:PassesOwn (model X.prog X.w) X.A X.env X.xe) (hi:PIF X tgt iter ti) (hg:PG3 X tgt tg) (hb:a2B X body tb)
    (hs:∀ x,foldedSetIterable iter X.env x=pure x):PS3 X (.For tgt iter body [] pos) (a2V ti tg tb):=by
  intro pins s σ H F I h;obtain ⟨ρ,G,E,sr,g,q,d⟩:=h;have key:=ajO (pos:=pos) hp hi hg hb hs pins s σ H { F with nx:=ThN X E } I ⟨ρ,G,_,sr,g,q,fun src J H1 G1 t1 g1 ⟨sj,fz⟩ ⟨P,p0,pok,pst,pend⟩=>?_⟩
  . refine cH key fun f s' z=>?_;cases f with
    | next=>obtain ⟨σ',H',J,z⟩:=z;obtain ⟨H2,J2,z2⟩:=alH d J z;exact ⟨σ',H2,J2,z2⟩
    | brk=>obtain ⟨σ',H',J,z⟩:=z;exact ⟨σ',H',J,z⟩
    | cont=>obtain ⟨σ',H',J,z⟩:=z;exact ⟨σ',H',J,z⟩
    | ret w=>obtain ⟨w,σ',H',J,r,z⟩:=z;exact ⟨w,σ',H',J,r,z⟩
  . refine aaZ (K:=X.K) (n:=src.items.length) (fun k σ2 H2=>∃ ρ' G',SR X.K H2 ρ' σ2/\HR X.K H2 G'/\P k ρ' G') ⟨ρ,G1,sr.mono t1,g1,p0⟩ (fun σ2 H2 ⟨ρ',G',s2,g2,p⟩=>?_) (fun k σ2 H2 hk ⟨ρ',G',s2,g2,p⟩=>?_) (fun k y σ2 H2 H3 hk ⟨ρ',G',s2,g2,p⟩ hy=>?_)
      (fun σ2 H2 ⟨ρ',G',s2,g2,p⟩=>⟨src,ρ',G',fz,s2,g2,pok _ ρ' G' (au _) p,pend ρ' G' p⟩)
    . exact (sj H2 G' g2 (pok _ ρ' G' (au _) p)).2.2
    . exact (sj H2 G' g2 (pok _ ρ' G' (qb hk) p)).1 k hk
    . obtain ⟨sm,dk,e1,e2⟩:=(sj H2 G' g2 (pok _ ρ' G' (qb hk) p)).2.1 k y H3 hk hy;refine ⟨ρ',dk,_,s2.mono (.same sm),e2,pst k dk ρ' G' e1 p,fun ρ2 σ3 s3 q3=>?_⟩;exact ⟨ρ2,G',_,s3,g2.same sm,q3,⟨fun ρ4 G4 σ4 H4 s4 g4 q4=>⟨ρ4,G4,s4,g4,q4⟩,d.rt,fun ρ4 G4 σ4 H4 s4 g4 q4=>⟨src,ρ4,G4,fz,s4,g4,q4.1,q4.2⟩,fun ρ4 G4 σ4 H4 s4 g4 q4=>⟨ρ4,G4,s4,g4,q4⟩⟩⟩
end
end
section
open PySem.W
section
variable {X:Cx}
end
end
section
section
open AutoSeq1 (wpAny_loadPart')
theorem a4I (l:Addr) (items:Array Value) (n:Nat) (dct:Option Addr) (sl:Array (Option Value)) :
    Meets (Builtin.«enumerate.__new__» ⟨[.type "enumerate",.ref l],[]⟩) (fun _ R s=>s.heap.get? l=some { cls := .type "tuple",dict:=dct,data := .seq items n,slots:=sl } /\
      R (.ok (.ret (.ref (s.heap.push { cls := .type "tuple_iterator",data := .fields #[.ref l,.int 0 0] }).objs.size)))
        { s with heap:=(s.heap.push { cls := .type "tuple_iterator",data := .fields #[.ref l,.int 0 0] }).push { cls := .type "enumerate",data := .fields #[.none,.bool false,.ref s.heap.objs.size,rawInt 0,.none,.none] } }) :=
  .of_wp fun prog w A R s h=>by
    obtain ⟨hp,g,d,tk,os⟩:=s;obtain ⟨hl,h⟩:=h;have hsub:=sub_enumerate;have hL:Heap.IsTuple (Shared.heap ⟨hp,g,d,tk,os⟩) l items:=⟨_,hl,rfl,n,rfl⟩
    wp_walk using wpAny_loadPart' hl
    refine wpAny_stack_any fun st=>dh ?_;split
    . rename_i c _ _ _ _ _;cases (c == Value.type "enumerate")
      . wp_walk using wpAny_loadPart' hl,wpAny_pyIter_tuple hL
        exact ⟨_,rfl,h⟩
      . wp_walk using wpAny_loadPart' hl,wpAny_pyIter_tuple hL
        exact ⟨_,rfl,h⟩
    . wp_walk using wpAny_loadPart' hl,wpAny_pyIter_tuple hL
      exact ⟨_,rfl,h⟩
end
section
variable {prog:Program} {w:World} {A:Around} {E:Value->Shared->Prop} {s:Shared}
theorem a6H {items:Array Value} (hL:s.heap.IsTuple l items)
    (h:∀ h',IsEnum h' (s.heap.objs.size+1) s.heap.objs.size 0 .none->h'.IsTupleIter s.heap.objs.size l 0->h'.objs.size=s.heap.objs.size+2 ->
      (∀ b o,s.heap.get? b=some o->h'.get? b=some o)->Q (.ref (s.heap.objs.size+1)) { s with heap:=h' }) :
    wpAny (model prog w) A (call (.type "enumerate") [.ref l]) Q E s:=by
  obtain ⟨⟨c,dct,dt,sl⟩,hl,hc,n,hd⟩:=hL;replace hc:c = .type "tuple" := hc;replace hd:dt = .seq items n:=hd;subst hc hd
  refine callType_new F.called_enumerate (by decide) (F.typeCall_enumerate_1 _) (F.newCall_enumerate_1 _) (fun obj=>F.args_object_init_2 obj _) F.entry_enumerate_new
    (a4I l items n dct sl) ⟨hl,?_⟩
  have hz:(s.heap.push { cls := .type "tuple_iterator",data := .fields #[.ref l,.int 0 0] }).objs.size=s.heap.objs.size+1:=qj ..;show _/\_;rw [hz]
  have he:IsEnum ((s.heap.push { cls := .type "tuple_iterator",data := .fields #[.ref l,.int 0 0] }).push
      { cls := .type "enumerate",data := .fields #[.none,.bool false,.ref s.heap.objs.size,rawInt 0,.none,.none] }) (s.heap.objs.size+1) s.heap.objs.size 0 .none:=by
    have:=cj (s.heap.push { cls := .type "tuple_iterator",data := .fields #[.ref l,.int 0 0] })
      (o:={ cls := .type "enumerate",data := .fields #[.none,.bool false,.ref s.heap.objs.size,rawInt 0,.none,.none] }) rfl
    rw [hz] at this;exact this
  refine ⟨⟨_,he,rfl⟩,h _ he ⟨_,ao _ (cj _ rfl),rfl,rfl⟩ (by rw [qj,hz]) fun b o x=>ao _ (ao _ x)⟩
theorem a2D {items:Array Value} {x:Value} (hit:s.heap.IsTupleIter it l i) (hl:s.heap.IsTuple l items) (hx:items[i]?=some x)
    (hQ:∀ h',h'.IsTupleIter it l (i+1)->qy it s.heap h'->Q x { s with heap:=h' }):wpAny (model prog w) A (Builtin.SmallTypes.nextOf (.ref it)) Q E s:=by
  obtain ⟨o,ho,hc,hd⟩:=id hit;obtain ⟨ol,hol,_,nl,hdl⟩:=hl;unfold Builtin.SmallTypes.nextOf
  refine ak (wpAny_callSpecial?_slot (name:=Str.ofString "__next__") hit.typeIs F.slot_tuple_iterator_next
    (wpAny_call_entry F.slot_tuple_iterator_next hit.typeIs F.entry_tuple_iterator_next ?_ (F.args_tuple_iterator_next_1 _)))
  show wpAny _ _ (field (.ref it) 0 >>= _) _ _ s;refine ak (wpAny_field ho hd (x := .ref l) rfl ?_);show wpAny _ _ (if (Value.ref l == Value.none)=true then _ else _) _ _ s;rw [if_neg (show ¬ ((Value.ref l == Value.none)=true) from jg)];show wpAny _ _ (field (.ref it) 1 >>= _) _ _ s;refine ak (wpAny_field ho hd (x := .int i 0) rfl ?_);show wpAny _ _ (seqItems? (.ref l) >>= _) _ _ s;refine ak (wpAny_seqItems hol hdl ?_);simp only [su,hx];refine ak (wpAny_setField ho hd (by simp) (dh ⟨x,rfl,dh (hQ _ ?_ (qy.update ..))⟩))
  exact ⟨_,nu _ ho (Obj.isFreed_of_fields (Obj.data_mapFields hd _)),(Obj.cls_mapFields ..).trans hc,by
    rw [Obj.data_mapFields hd];simp [rawInt]⟩
theorem a4J {items:Array Value} (hh:A.handled=none) (hit:s.heap.IsTupleIter it l i) (hl:s.heap.IsTuple l items) (hx:items[i]?=none)
    (hE:∀ h' e,wj it s.heap h'->(∃ o,h'.get? e=some o/\o.cls = .type "StopIteration")->E (.ref e) { s with heap:=h' }):wpAny (model prog w) A (Builtin.SmallTypes.nextOf (.ref it)) Q E s:=by
  obtain ⟨o,ho,hc,hd⟩:=id hit;obtain ⟨ol,hol,_,nl,hdl⟩:=hl;unfold Builtin.SmallTypes.nextOf
  refine ak (wpAny_callSpecial?_slot (name:=Str.ofString "__next__") hit.typeIs F.slot_tuple_iterator_next
    (wpAny_call_entry F.slot_tuple_iterator_next hit.typeIs F.entry_tuple_iterator_next ?_ (F.args_tuple_iterator_next_1 _)))
  show wpAny _ _ (field (.ref it) 0 >>= _) _ _ s;refine ak (wpAny_field ho hd (x := .ref l) rfl ?_);show wpAny _ _ (if (Value.ref l == Value.none)=true then _ else _) _ _ s;rw [if_neg (show ¬ ((Value.ref l == Value.none)=true) from jg)];show wpAny _ _ (field (.ref it) 1 >>= _) _ _ s;refine ak (wpAny_field ho hd (x := .int i 0) rfl ?_);show wpAny _ _ (seqItems? (.ref l) >>= _) _ _ s;refine ak (wpAny_seqItems hol hdl ?_);simp only [su,hx];refine ak (wpAny_rule (ak (wpAny_setField ho hd (by simp) ?_)));show wpAny _ _ (newExc (.type "StopIteration") [] >>= _) _ _ _;refine ak ?_;simp only [newExc,newTuple];refine ak (wpAny_newObj_type ?_ (by size_fits));refine ak (m:=firstArgMember _ _) (wpAny_of_eq (a:=Value.none) (by first | rfl | (simp only [firstArgMember];rfl)) ?_);refine wpAny_newObj_type ?_ (by size_fits);simp only [raiseNew];refine ak (wpAny_handled ?_)
  first | rw [show A.in1.handled=none from hh] | rw [hh]
  refine ak (dh (wpAny_throw ?_));exact hE _ _ (((qy.update ..).extBut.push _).push _) ⟨_,cj _ rfl,rfl⟩
end
theorem a7L {prog:Program} {w:World} (hh:A.handled=none) (it l:Addr) (hne:l≠it) (items:Array Value) :
    Draws prog w A it [it,l] items.size (fun i v=>items[i]?=some v) (fun i h=>h.IsTupleIter it l i/\h.IsTuple l items) where
  live:=fun _ _ st=>let ⟨o,ho,_⟩:=st.1;⟨o,ho⟩
  frame:=fun _ _ _ st hk=>⟨st.1.at fun o e=>hk it (by simp) o e,st.2.at fun o e=>hk l (by simp) o e⟩
  item:=fun i s Q E hi st hQ=>by
    refine a2D st.1 st.2 (x:=items[i]) (by simp [hi]) fun h' hit' hs'=>?_;exact hQ _ h' s.toks (by simp [hi]) ⟨hit',st.2.extBut hs'.extBut hne⟩ hs'
  done:=fun s Q E st hE=>a4J hh st.1 st.2 (by simp) hE
section
variable {prog:Program} {w:World} {A:Around} {R:Result->Shared->Prop} {I:Addr} {fp wr:List Addr} {P:Nat->Value->Prop} {St:Nat->Heap->Prop}
theorem aiC (W:Walks prog w A.in1 I fp wr 2 P St) (S:Addr) (hSf:S ∉ fp) {h0:Heap} {a b:Value} {k:Bool}
    (hP:∀ i v,P i v->(i=0->v=a)/\(i=1->v=b))
    (hwr:∀ c o,h0.get? c=some o->c ∉ wr/\c≠S) {c:Nat}
    (hcmp:∀ (h2:Heap) (tk:Nat) (Q:Value->Shared->Prop) (E:Value->Shared->Prop),(∀ c o,h0.get? c=some o->h2.get? c=some o)->Q (.bool k) { s with heap:=h2,toks:=tk }->wpAny (model prog w) A.in1 (richCompare .Lt b a) Q E { s with heap:=h2,toks:=tk }) (hst:St 0 s.heap) (hk0:∀ c o,h0.get? c=some o->s.heap.get? c=some o)
    (hS:s.heap.get? S=some { cls := .type "list",dict:=none,data := .seq #[] c,slots:=#[] })
    (hR:∀ h' tk,(∀ c o,h0.get? c=some o->h'.get? c=some o)->R (.ok (.ret (if k then b else a))) { s with heap:=h',toks:=tk }) :
    codeAny (model prog w) A (.builtin "min.loop" ⟨[.ref I,.none,.ref S],[]⟩) R s:=by
  have hSw:S ∉ wr:=fun h=>hSf (W.sub _ h);have hname:(toString "min" ++ toString ".loop" : String) = "min.loop" := by decide
  have fin:∀ (s2:Shared) (v:Value) (c2:Nat) (hg:s2.gens=s.gens/\s2.drawn=s.drawn/\s2.os=s.os),St 2 s2.heap->(∀ c o,h0.get? c=some o->s2.heap.get? c=some o)->v=(if k then b else a) ->
      s2.heap.get? S=some { cls := .type "list",dict:=none,data := .seq #[v,v] c2,slots:=#[] }->codeAny (model prog w) A (.builtin "min.loop" ⟨[.ref I,.none,.ref S],[]⟩) R s2:=by
    rintro ⟨hp2,g2,d2,t2,o2⟩ v c2 ⟨e1,e2,e3⟩ hst2 hk2 hv hS2;cases e1;cases e2;cases e3;refine codeAny_builtin F.entry_min_loop ?_;rw [Around.under_plainId F.plain_min_loop _];show wpAny _ A.in1 (seqItems? (.ref S) >>= _) _ _ _;refine ak (wpAny_seqItems hS2 rfl ?_);show wpAny _ A.in1 (tryCatch (pyNext (.ref I)) _ >>= _) _ _ _;refine ak (wpAny_tryCatch (W.done _ _ _ hst2 fun h' tk hk'=>?_));have hS':=hk' S _ hSw hS2;show wpAny _ A.in1 (updateSeq S (fun _=>#[]) >>= _) _ _ _;refine ak ?_;refine wpAny_updateSeq hS' rfl (ak (wpAny_letGo (dh ?_)));subst hv;exact hR _ tk fun c o e=>(iw _ _ (Ne.symm (hwr c o e).2)).trans (hk' c o (hwr c o e).1 (hk2 c o e))
  refine codeAny_builtin F.entry_min_loop ?_;rw [Around.under_plainId F.plain_min_loop _];show wpAny _ A.in1 (seqItems? (.ref S) >>= _) _ _ s;refine ak (wpAny_seqItems hS rfl ?_);show wpAny _ A.in1 (tryCatch (pyNext (.ref I)) _ >>= _) _ _ s;refine ak (wpAny_tryCatch (W.item 0 s _ _ (by decide) hst fun v h' tk hPv hst' hk'=>?_));obtain rfl:=(hP 0 v hPv).1 rfl;have hS':=hk' S _ hSw hS;show wpAny _ A.in1 (updateSeq S (fun _=>#[v,v]) >>= _) _ _ _;refine ak ?_;refine wpAny_updateSeq hS' rfl ?_;rw [hname];refine dh ⟨plainId_quiet F.plain_min_loop _,?_⟩;have hk1:∀ c o,h0.get? c=some o->(h'.update S (Obj.mapSeq fun _=>#[v,v])).get? c=some o:=fun c o e=>(iw _ _ (Ne.symm (hwr c o e).2)).trans (hk' c o (hwr c o e).1 (hk0 c o e));have aFT:St 1 (h'.update S (Obj.mapSeq fun _=>#[v,v])):=W.frame _ _ _ hst' fun b hbf o e=>(iw _ _ (fun h:S=b=>hSf (by rw [h];exact hbf))).trans e;refine codeAny_builtin F.entry_min_loop ?_;rw [Around.under_plainId F.plain_min_loop _];show wpAny _ A.in1 (seqItems? (.ref S) >>= _) _ _ _;have hS1:(h'.update S (Obj.mapSeq fun _=>#[v,v])).get? S=_:=nu _ hS' rfl;refine ak (wpAny_seqItems hS1 rfl ?_);show wpAny _ A.in1 (tryCatch (pyNext (.ref I)) _ >>= _) _ _ _;refine ak (wpAny_tryCatch (W.item 1 _ _ _ (by decide) aFT fun u h2 tk2 hPu hst2 hk2=>?_));obtain rfl:=(hP 1 u hPu).2 rfl;have hS2:=hk2 S _ hSw hS1;have kk:∀ c o,h0.get? c=some o->h2.get? c=some o:=fun c o e=>hk2 c o (hwr c o e).1 (hk1 c o e);show wpAny _ A.in1 (tryCatch (holding [u,u] (richCompare .Lt u v >>= _)) _ >>= _) _ _ _;refine ak (wpAny_tryCatch (wpAny_holding (ak (hcmp _ _ _ _ kk ?_))));refine ak (wpAny_holding (wpAny_truthy_bool ?_));refine ak (wpAny_letGo (dh ?_));cases k with
  | true =>
    simp only [if_true];refine ak ?_;refine wpAny_updateSeq hS2 rfl (ak (wpAny_letGo ?_));rw [hname];refine dh ⟨plainId_quiet F.plain_min_loop _,fin _ u _ ⟨rfl,rfl,rfl⟩ (W.frame _ _ _ hst2 fun b hbf o e=>?_) (fun c o e=>?_) (by simp) (nu _ hS2 rfl)⟩
    . exact (iw _ _ (fun h:S=b=>hSf (by rw [h];exact hbf))).trans e
    . exact (iw _ _ (Ne.symm (hwr c o e).2)).trans (kk c o e)
  | false =>
    simp only [pq,if_false];refine ak (wpAny_letGo ?_);rw [hname];exact dh ⟨plainId_quiet F.plain_min_loop _,fin _ v _ ⟨rfl,rfl,rfl⟩ hst2 kk (by simp) hS2⟩
end
theorem abP {prog:Program} {w:World} {a b:Value} {k:Bool} (hh:A.handled=none)
    (hcmp:∀ (h2:Heap) (tk:Nat) (Q:Value->Shared->Prop) (E:Value->Shared->Prop),(∀ c o,s.heap.get? c=some o->h2.get? c=some o)->Q (.bool k) { s with heap:=h2,toks:=tk }->wpAny (model prog w) A.in1 (richCompare .Lt b a) Q E { s with heap:=h2,toks:=tk })
    (h:∀ h' tk,(∀ c o,s.heap.get? c=some o->h'.get? c=some o)->Q (if k then b else a) { s with heap:=h',toks:=tk }) :
    wpAny (model prog w) A (call (.builtin "min") [a,b]) Q E s:=by
  have hname:(toString "min" ++ toString ".loop" : String) = "min.loop" := by decide
  have hT:(s.heap.push { cls := .type "tuple",data := .seq #[a,b] }).IsTuple s.heap.objs.size #[a,b]:=⟨_,cj _ rfl,rfl,0,rfl⟩;have hsz:(s.heap.push { cls := .type "tuple",data := .seq #[a,b] }).objs.size=s.heap.objs.size+1:=qj ..;refine call_function_tree F.kind_min F.plain_min F.entry_min (F.args_min2 _ _) ?_;show wpAny _ A.in1 (Builtin.Builtins.bindParams "min" ["key", "default"] 0 ⟨[],[]⟩ >>= _) _ _ s;refine ak (wpAny_of_eq (show Builtin.Builtins.bindParams "min" ["key", "default"] 0 ⟨[],[]⟩=pure [none,none] from rfl) ?_);show wpAny _ A.in1 (newTuple [a,b] >>= _) _ _ s;refine ak (wpAny_newObj_type ?_);refine ak (wpAny_pyIter_tuple hT ?_);refine ak (wpAny_newObj_type ?_);rw [hname];have W:=Walks.tuple (prog:=prog) (w:=w) (A:=A.in1) hh (s.heap.push { cls := .type "tuple",data := .seq #[a,b] }).objs.size s.heap.objs.size (by rw [hsz];exact gb (Nat.lt_succ_self _)) #[a,b];have hsz2:((s.heap.push { cls := .type "tuple",data := .seq #[a,b] }).push { cls := .type "tuple_iterator",data := .fields #[.ref s.heap.objs.size,.int 0 0] }).objs.size=s.heap.objs.size+2:=by rw [qj,hsz]
  refine dh ⟨plainId_quiet F.plain_min_loop _,aiC (h0:=s.heap) (a:=a) (b:=b) (k:=k) W _ (fun hm=>?_) (fun i v hv=>⟨fun e=>?_,fun e=>?_⟩) (fun c o e=>⟨fun hm=>?_,fun hm=>?_⟩) hcmp (W.frame _ _ _ ⟨⟨_,cj _ rfl,rfl,rfl⟩,hT.push _⟩ fun b _ o e=>ao _ e) (fun c o e=>ao _ (ao _ (ao _ e))) (cj _ rfl) h⟩
  . have hm':((s.heap.push { cls := .type "tuple",data := .seq #[a,b] }).push { cls := .type "tuple_iterator",data := .fields #[.ref s.heap.objs.size,.int 0 0] }).objs.size∈[(s.heap.push { cls := .type "tuple",data := .seq #[a,b] }).objs.size,s.heap.objs.size]:=hm;rw [hsz2,hsz] at hm';simp at hm'
  . subst e;simpa using hv.symm
  . subst e;simpa using hv.symm
  . have hm':c∈[(s.heap.push { cls := .type "tuple",data := .seq #[a,b] }).objs.size]:=hm;rw [hsz] at hm';have t:c < s.heap.objs.size:=cg e;rw [je.mp hm'] at t;exact absurd t (Nat.not_lt.mpr (Nat.le_add_right _ _))
  . have hm':c=((s.heap.push { cls := .type "tuple",data := .seq #[a,b] }).push { cls := .type "tuple_iterator",data := .fields #[.ref s.heap.objs.size,.int 0 0] }).objs.size:=hm;rw [hsz2] at hm';have t:c < s.heap.objs.size:=cg e;rw [hm'] at t;exact absurd t (Nat.not_lt.mpr (Nat.le_add_right _ _))
section
open PySem.SeqAt
open PySem.AutoSeq1 (wpAny_loadPart')
open PySem.MeetsSeq PySem.MeetsSeq2 PySem.MeetsSeq3
theorem a93 (l b:Addr) (x1 x2 y1 y2:Value) (n n2:Nat) (dd dd2:Option Addr) (sl sl2:Array (Option Value)) (e1 e2 k1 k2:Bool) :
    Meets (Builtin.«tuple.__lt__» ⟨[.ref l,.ref b],[]⟩)
      (fun A R s=>s.heap.get? l=some { cls := .type "tuple",dict:=dd,data := .seq #[x1,x2] n,slots:=sl }/\s.heap.get? b=some { cls := .type "tuple",dict:=dd2,data := .seq #[y1,y2] n2,slots:=sl2 } /\
        EqAt A.in1 s x1 y1 e1/\EqAt A.in1 s x2 y2 e2 /\
        (e1=false->∀ (prog:Program) (w:World) (E:Value->Shared->Prop) (Q:Value->Shared->Prop),Q (.bool k1) s->wpAny (model prog w) A.in1 (richCompare .Lt x1 y1) Q E s) /\
        (e1=true->e2=false->∀ (prog:Program) (w:World) (E:Value->Shared->Prop) (Q:Value->Shared->Prop),Q (.bool k2) s->wpAny (model prog w) A.in1 (richCompare .Lt x2 y2) Q E s) /\
        R (.ok (.ret (.bool (if e1 then (if e2 then false else k2) else k1)))) s) :=
  .of_wp fun prog w A R s h=>by
    obtain ⟨hp,g,d,tk,os⟩:=s;obtain ⟨hl,hb,he1,he2,hc1,hc2,h⟩:=h;have f2:=AutoSeq1.sub_tuple_tuple
    wp_walk using wpAny_loadPart' hl,wpAny_loadPart' hb,wpAny_forIn_list _ (fun rest b s'=>b.1=none/\s'=⟨hp,g,d,tk,os⟩/\((rest=[(x1,y1),(x2,y2)])∨(rest=[(x2,y2)]/\e1=true)∨(rest=[]/\e1=true/\e2=true))) _
    case turn =>
      rintro ⟨y,x⟩ rest b s' ⟨hb',rfl,hz⟩;rcases hz with hz | ⟨hz,t1⟩ | ⟨hz,_⟩
      . injection hz with hyx hrest;injection hyx with hy hx;subst hy hx hrest;refine ak (he1 prog w _ _ ?_);cases e1 with
        | true =>
          wp_walk
          exact ⟨rfl,rfl,.inr (.inl ⟨rfl,rfl⟩)⟩
        | false =>
          have hri:=hc1 rfl prog w
          wp_walk using hri
          exact ⟨_,rfl,by simpa using h⟩
      . injection hz with hyx hrest;injection hyx with hy hx;subst hy hx hrest t1;refine ak (he2 prog w _ _ ?_);cases e2 with
        | true =>
          wp_walk
          exact ⟨rfl,rfl,.inr (.inr ⟨rfl,rfl,rfl⟩)⟩
        | false =>
          have hri:=hc2 rfl rfl prog w
          wp_walk using hri
          exact ⟨_,rfl,by simpa using h⟩
      . cases hz
    case fin =>
      rintro ⟨b1,b2⟩ s' ⟨hb',rfl,hz⟩;rcases hz with hz | ⟨hz,_⟩ | ⟨_,t1,t2⟩
      . cases hz
      . cases hz
      . simp only at hb';subst hb' t1 t2
        wp_walk
        exact ⟨_,rfl,by simpa [Builtin.Tuple.tupleCompareSizes] using h⟩
    case h =>
      exact ⟨rfl,rfl,.inl rfl⟩
end
end
section
def Ite (K:Fg) (a:Addr):It :=
  ⟨fun i H=>∃ xs x,rB K H a xs/\xs[i]?=some x,
   fun i H v H'=>∃ p x,H p=none/\v = .ref p/\H'=upd H p (.tup [.int i,x])/\∀ xs,rB K H a xs->xs[i]?=some x,
   fun i H=>∃ xs,rB K H a xs/\xs.length=i⟩
def aFU (e it l:Addr) (i:Nat) (h:Heap):Prop:=(∃ old,IsEnum h e it i old)/\h.IsTupleIter it l i
theorem aiD {w:World} {K:Fg} {pt:Pos} {e:Addr} (hei:e≠it) (hl:l≠it) (hle:e≠l):Turn true tl P w K (.Tuple es kt pt) (Ite K l) [e,it] e (aFU e it l) where
  mem:=by simp
  obj:=fun i h st b hb=>by
    obtain ⟨⟨old,he⟩,⟨o,e1,_,d1⟩⟩:=st;simp only [iy,List.not_mem_nil,or_false] at hb;rcases hb with rfl | rfl
    . exact ⟨_,he,fun v z=>nomatch z⟩
    . exact ⟨o,e1,fun v z=>by rw [d1] at z;cases z⟩
  keep:=fun i h h' st k=>by
    obtain ⟨⟨old,he⟩,s1⟩:=st;exact ⟨⟨old,k e (by simp) _ he⟩,s1.at fun o x=>k it (by simp) o x⟩
  item:=by
    intro X hP hw hK hcm ht i pins s σ H E I hf st hg;subst hP hw hK;obtain ⟨⟨old,he⟩,hit⟩:=st;obtain ⟨xs,x,q,ex⟩:=hg;obtain ⟨us,r,p,_⟩:=I.tuple q;obtain ⟨u,hu,ru⟩:=r.get ex;have hlt:i < us.toArray.size:=by simpa using (bh.mp hu).1
    have fr:=I.hok.fresh (au s.heap.objs.size);have lt:∀ {c o},s.heap.get? c=some o->s.heap.objs.size≠c:=fun e=>uo (cg e);have n1:s.heap.objs.size≠it:=by obtain ⟨_,e,_⟩:=hit;exact lt e
    have D:=a7L (prog:=X.prog) (w:=X.w) (A:=X.A.in1) (I.ok.hd (hcm rfl)) it l hl us.toArray;refine wpAny_pyNext_enum_itemD D he ⟨hit,p⟩ hlt hei (by simp [hei,hle]) fun x' h' tk hx' ho st' hT hsz hk=>?_;have ex':x'=u:=by simpa [hu] using hx'.symm
    subst ex';refine ⟨_,rfl,wpAny_letOwnedTupleGo_enum (s:={ s with heap:=h',toks:=tk+1 }) ho fun h2 he2 sb=>?_⟩
    have k2:∀ b o,b ∉ [e,it]->s.heap.get? b=some o->h2.get? b=some o:=fun b o hb q =>
      sb.extBut _ _ (fun z=>hb (by simp [z])) (hk b o (fun z=>hb (by simp [z])) (fun z=>hb (by simp [z])) q)
    refine ⟨.ref s.heap.objs.size,upd H s.heap.objs.size (.tup [.int i,x]),I.a7H (t':=tk+1) (ch:=[e,it]) k2 hf (au _) ⟨show 2<=sizeLine by decide,[.int i tk,x'],.cons ⟨tk,rfl⟩ (.cons ru .nil),⟨_,sb.extBut _ _ (lt he) hT,rfl,_,rfl⟩⟩,rfl,
      ⟨_,x,fr,rfl,rfl,fun xs' q'=>by rw [I.wB q' q];exact ex⟩,⟨⟨x',by simpa using he2⟩,st'.1.extBut sb.extBut (Ne.symm hei)⟩,fun b hb=>?_⟩
    have hb2:=hb;simp only [iy,List.not_mem_nil,or_false] at hb2;rw [aW]
    . exact (hf b hb).1
    . intro q;rcases hb2 with e | e
      . exact lt he (q.symm.trans e)
      . exact n1 (q.symm.trans e)
  done:=by
    intro X hP hw hK hcm ht i pins s σ H E I hf st hg;subst hP hw hK;obtain ⟨⟨old,he⟩,hit⟩:=st;obtain ⟨xs,q,hl2⟩:=hg;obtain ⟨us,r,p,_⟩:=I.tuple q;have hn:us.toArray.size=i:=by rw [bw,← r.length];exact hl2
    have D:=a7L (prog:=X.prog) (w:=X.w) (A:=X.A.in1) (I.ok.hd (hcm rfl)) it l hl us.toArray;exact wpAny_pyNext_enum_endD D he ⟨hn ▸ hit,p⟩ fun h' hx=>⟨rfl,I.apJ (t':=s.toks) (ch:=[e,it]) (fun b o hb q=>hx b o (fun z=>hb (by simp [z])) q) hf⟩
  self:=fun _ _ _ _ _ st h=>wpAny_pyIter_enum st.1.choose_spec h
theorem a94:(enm xs).length=xs.length:=by simp [enm]
theorem agB {x:D} (h:xs[i]?=some x):(enm xs)[i]?=some (.tup [.int i,x]):=by
  unfold enm;rw [ju,List.getElem?_zipIdx,h];simp
theorem alI {K:Fg}:a6F K (.enu p xs) (Ite K p):=fun H2 G2 g ok=>by
  obtain ⟨vs,hq,rv⟩:=g p _ ok;have hl:(Src.enu p xs).items.length=xs.length:=a94;refine ⟨fun i hi=>?_,fun i v H' hi hy=>?_,⟨vs,hq,by rw [hl];exact rv.length.symm⟩⟩
  . rw [hl] at hi;obtain ⟨y,e1,_⟩:=rv.get (aq hi);exact ⟨vs,y,hq,e1⟩
  . obtain ⟨a,x,fr,rfl,rfl,h1⟩:=hy;obtain ⟨d,e1,e2⟩:=rv.ak9 (h1 vs hq);have sn:Same H2 (upd H2 a (.tup [.int i,x])):=bJ fr;exact ⟨sn,.tup [.int i,d],agB e1,.tup (rB.of aN) (.cons (.int i) (.cons (e2.mono (.same sn)) .nil)) (ak8 aN)⟩
def a95 (ta:tZ):TI3:=fun ρ G R=>ta ρ G fun xs G1=>match xs with
  | [.tup ds]=>ds.all scD=true/\∀ a,(G1 a=none∨G1 a=some (.tpl ds))->R (.enu a ds) (aM G1 a (.tpl ds))
  | _=>False
section
variable {X:Cx} {es:List Expr} {kt:Nat} {pt:Pos}
theorem aq3 {a:Expr} {p:Pos} (hc:X.calm=true) (hg:Gl X "enumerate") (hm:X.mg "enumerate" = none) (hv:bootBuiltins "enumerate" = some (.type "enumerate")) (ha:PA3 X [a] ta) (hs:starEach [a] X.env=[(false,eval a X.env)]):PIS X (.Tuple es kt pt) (.Call (.Name "enumerate" p) [a] [] pos) (a95 ta):=by
  intro pins s σ H R I h;obtain ⟨ρ,G,R3,sr,g,q,k⟩:=h
  refine Call_ (a0F I hg hm hv (PyProof.Rows.callWith_type1 (cH (ha pos pins s σ H (fun vs H1=>Ts H H1/\∃ ds G1,bV X.K H1 ds vs/\HR X.K H1 G1/\(match ds with
    | [.tup ds]=>ds.all scD=true/\∀ a,(G1 a=none∨G1 a=some (.tpl ds))->R3 (.enu a ds) (aM G1 a (.tpl ds))
    | _=>False)) I ⟨ρ,G,_,sr,g,q,fun vs H1 ds G1 t1 r1 g1 q1=>⟨t1,ds,G1,r1,g1,q1⟩⟩) fun us s1 ⟨vs,H1,I1,rr,t1,ds,G1,r1,g1,q1⟩=>?_) hs rfl))
  split at q1
  . rename_i ds;obtain ⟨sc,q1⟩:=q1;cases r1 with
    | cons ra rb =>
      cases rb;cases ra with
      | @tup l xs _ hq rv =>
        cases rr with
        | cons ru rn =>
          cases rn;cases ru;obtain ⟨its,rv',pp,hz⟩:=I1.tuple hq;obtain ⟨hG,g2⟩:=ag4 I1 g1 hq rv sc;have al:l < s1.heap.objs.size:=pp.lt;refine a6H (show s1.heap.IsTuple l its.toArray from pp) fun h' he hi hsz kk=>wpAny_pyIter_enum (s:={ s1 with heap:=h' }) he ?_;refine ⟨_,_,_,_,H1,rfl,I1.kept (t':=s1.toks) kk,(show Turn X.calm X.tp X.prog X.w X.K (.Tuple es kt pt) _ _ _ _ from hc ▸ aiD (e:=s1.heap.objs.size+1) (it:=s1.heap.objs.size) (l:=l) (Nat.succ_ne_self _) (gb al) (uo (Nat.lt_succ_of_lt al))),⟨⟨_,he⟩,hi⟩,fun b hb=>?_,k _ _ H1 _ t1 g2 alI (q1 l hG)⟩
          have hb':s1.heap.objs.size<=b:=by
            simp only [iy,List.not_mem_nil,or_false] at hb;rcases hb with e | e <;> rw [e]
            . exact Nat.le_add_right _ _
            . exact au _
          exact I1.a1Z hb' (I1.hok.fresh hb')
  . exact q1.elim
def ltP (a:Int) (ns:List Int) (b:Int) (ms:List Int):Bool:=if a=b then (if ns=ms then false else HT.lexLt ns ms) else decide (a < b)
def a4K:List D->Gp->fY->Prop:=fun xs G R=>match xs with
  | [.tup [.int a,.tup as],.tup [.int b,.tup bs]]=>∃ ns ms:List Int,as=ns.map D.int/\bs=ms.map D.int/\R (if ltP b ms a ns then .tup [.int b,.tup bs] else .tup [.int a,.tup as]) G
  | _=>False
theorem a0X {K:Fg} {H:Hp}:∀ {ns:List Int} {vs:List V},bV K H (ns.map D.int) vs->vs=ns.map V.int
  | [],_,.nil=>rfl
  | n :: ns,_,.cons r rr=>by cases r;rw [a0X rr];rfl
theorem a7M:∀ (ns ms:List Int),eX (ns.map D.int) (ms.map D.int)=decide (ns=ms)
  | [],[]=>rfl
  | [],_ :: _=>rfl
  | _ :: _,[]=>rfl
  | n :: ns,m :: ms=>by
    show (eqP (.int n) (.int m)&&eX (ns.map D.int) (ms.map D.int))=_;rw [a7M ns ms];have:eqP (.int n) (.int m)=decide (n=m):=by rw [eqP];exact Bool.eq_iff_iff.mpr (by simp)
    rw [this];simp [Bool.decide_and]
theorem a7N (n:Nat) (ns:List Int):aO (n+1) (.tup (ns.map D.int))=true:=by
  simp only [aO,gj,dw];rintro x ⟨i,_,rfl⟩;cases n <;> rfl
theorem awV (hc:X.calm=true) (hu:X.A.units+64 < cLine):bY X (.builtin "min") a4K:=by
  intro pins s σ H xs vs us G R Q I rx rv g q k;unfold a4K at q;split at q
  . rename_i a as b bs;obtain ⟨ns,ms,rfl,rfl,q⟩:=q;cases rx with
    | cons r1 rx =>
    cases rx with
    | cons r2 rx =>
    cases rx;have R1:=r1;have R2:=r2;cases r1 with
    | @tup l1 xs1 _ sq1 rr1 ct1 =>
    cases r2 with
    | @tup l2 xs2 _ sq2 rr2 ct2 =>
    cases rr1 with
    | cons i1 rr1 =>
    cases rr1 with
    | cons t1 rr1 =>
    cases rr1;cases rr2 with
    | cons i2 rr2 =>
    cases rr2 with
    | cons t2 rr2 =>
    cases rr2;have T1:=t1;have T2:=t2;cases i1;cases i2;cases t1 with
    | @tup m1 ys1 _ sm1 rs1 =>
    cases t2 with
    | @tup m2 ys2 _ sm2 rs2 =>
    cases rv with
    | cons v1 rv =>
    cases rv with
    | cons v2 rv =>
    cases rv;cases v1;cases v2;obtain rfl:=a0X rs1;obtain rfl:=a0X rs2;refine abP (k:=ltP b ms a ns) (I.ok.hd hc) (fun h2 tk Q2 E2 kk hQ=>?_) fun h' tk kk=>?_
    . have I2:Inv X pins σ H { s with heap:=h2,toks:=tk }:=I.kept kk;obtain ⟨j1,w1,p1,_⟩:=I2.tuple sq1;obtain ⟨j2,w2,p2,_⟩:=I2.tuple sq2;obtain ⟨z1,y1,q1,_⟩:=I2.tuple sm1;obtain ⟨z2,y2,q2,_⟩:=I2.tuple sm2;cases w1 with
      | cons a1 w1 =>
      cases w1 with
      | cons a2 w1 =>
      cases w1;cases w2 with
      | cons b1 w2 =>
      cases w2 with
      | cons b2 w2 =>
      cases w2;obtain ⟨tA,rfl⟩:=a1;obtain ⟨tB,rfl⟩:=b1;cases a2;cases b2;obtain ⟨⟨c1,dd1,data1,sl1⟩,ho1,hc1,n1,hd1⟩:=id p1;obtain ⟨⟨c2,dd2,data2,sl2⟩,ho2,hc2,n2,hd2⟩:=id p2;simp only at hc1 hd1 hc2 hd2;subst hc1 hd1 hc2 hd2
      have e1:∀ (A:Around),A.units+8 < cLine->SeqAt.EqAt A { s with heap:=h2,toks:=tk } (.int b tB) (.int a tA) (decide (b=a)):=fun A hA=>by
        have:=a0M I2 8 A (.int b) (.int a) (.int b) (.int a) (.int b tB) (.int a tA) hA rfl rfl (.int b) (.int a) ⟨tB,rfl⟩ ⟨tA,rfl⟩;have e:eqP (.int b) (.int a)=decide (b=a):=by rw [eqP];exact Bool.eq_iff_iff.mpr (by simp)
        rw [e] at this;exact this
      have e2:∀ (A:Around),A.units+8 < cLine->SeqAt.EqAt A { s with heap:=h2,toks:=tk } (.ref m2) (.ref m1) (decide (ms=ns)):=fun A hA=>by
        have:=a0M I2 8 A _ _ _ _ (.ref m2) (.ref m1) hA (a7N 7 ms) (a7N 7 ns) T2 T1 rfl rfl;rw [eqP,a7M] at this;exact this
      refine richCompare_meets_room (op := .Lt) ⟨_,ho2,rfl⟩ ⟨_,ho1,rfl⟩ PySem.F.slot_tuple_lt PySem.F.entry_tuple_lt (PySem.F.args_tuple_lt_2 _ _) (a93 l2 l1 (.int b tB) (.ref m2) (.int a tA) (.ref m1) n2 n1 dd2 dd1 sl2 sl1 (decide (b=a)) (decide (ms=ns)) (decide (b < a)) (HT.lexLt ms ns))
        ⟨ho2,ho1,e1 _ ?_,e2 _ ?_,fun _ prog w E Q h=>HT.aaR _ _ b tB a tA prog w E Q h,fun _ _ prog w E Q h=>HT.adR q2 q1 (intsAre_of y2) (intsAre_of y1) ?_ h,(fun x=>nomatch x),?_⟩ ?_
      . show X.A.units+1+1+8 < cLine;omega
      . show X.A.units+1+1+8 < cLine;omega
      . show X.A.units+1+1 < cLine;omega
      . have e:(if decide (b=a)=true then (if decide (ms=ns)=true then false else HT.lexLt ms ns) else decide (b < a))=ltP b ms a ns:=by
          unfold ltP;simp only [decide_eq_true_eq]
        rw [e];exact hQ
      . show X.A.units+1 < cLine;omega
    . cases e:ltP b ms a ns with
      | true =>
        rw [e] at q;exact ⟨.ref l2,H,I.kept kk,rfl,k _ H _ G (.refl H) R2 g (by simpa using q)⟩
      | false =>
        rw [e] at q;exact ⟨.ref l1,H,I.kept kk,rfl,k _ H _ G (.refl H) R1 g (by simpa using q)⟩
  . exact q.elim
end
end
section
section
variable {X:Cx}
open Classical in
end
end
end L2
namespace L4
open PySem PySem.Spec PyProof.Rows L2
inductive BF where
  | len | abs | isi | min | max | abQ | aq5
  deriving DecidableEq
inductive MK where
  | append | extend
  deriving DecidableEq
inductive GT where
  | con (d:D) | cls (a:Addr) | fn (sp:tG) (n:Nat) (qt:Bool) | bf (b:BF) | bt (n:String) | kl (C:Addr) (sp:tG) (dd:List D) | me (C:Addr) (m:Str) (sp:tG) (dd:List D) | fl (C:Addr) (f:Str)
structure SI where
  N:List Str
  fl:List Bool
  lc:List Bool
  ce:List Bool
  gl:List (Str×GT)
  gv:List Bool
  calm:Bool
mutual
inductive CE where
  | var (i:Nat) | con (d:D) | glo (k:Nat) | neg (a:CE) | alJ (a:CE) | bin (o:Operator) (a b:CE) | cmp (o:CmpOp) (a b:CE) | chain (o o':CmpOp) (a b c:CE)
  | a96 (es:CEs) | ifx (c:CT) (a b:CE) | tup (es:CEs) | lst (es:CEs) | dct | ix (a b:CE) | call (k:Nat) (es:CEs) | meth (m:MK) (o:CE) (es:CEs)
  | comp (fl gv:List Bool) (ci:CI) (cc:CC) (e:CE) | abS (n:Nat) (fl gv:List Bool) (ci:CI) (cc:CC) (e:CE) | maxD (k:Nat) (e d:CE) | dix (a b:CE) | din (neg:Bool) (a b:CE) | dgt (o e f:CE) | rev (a k:CE) | aq6 (t:Bool) (a b:CE)
inductive CEs where
  | nil | cons (e:CE) (r:CEs)
inductive CT where
  | cmp (o:CmpOp) (a b:CE) | chain (o o':CmpOp) (a b c:CE) | not (t:CT) | and (ts:CTs) | or (ts:CTs) | val (e:CE) | din (neg:Bool) (a b:CE)
inductive CTs where
  | nil | cons (t:CT) (r:CTs)
inductive CO where
  | none | some (e:CE)
inductive CI where
  | any (e:CE) | a2E (e:CE) | items (e:CE) | enu (e:CE)
inductive CC where
  | none | some (t:CT)
end
abbrev SI.cmp (S:SI) (xs:List Str) (fl gv:List Bool):SI:=⟨xs++S.N,xs.map (fun _=>true)++fl,xs.map (fun _=>true)++S.N.map (fun _=>false),xs.map (fun _=>false)++fl,S.gl,gv,S.calm⟩
def alK:cB:=fun _ _ _=>False
def atG:u9:=fun _ _ _=>False
def NoX:aK->aV:=fun _ _ _=>False
def atJ:Operator->R3
  | .Add=>bZ
  | .Sub=>uD
  | .Mult=>xB
  | .FloorDiv=>jY
  | .Mod=>gF
  | .Pow=>asT
  | _=>fun _ _ _ _=>False
def a4L:CmpOp->R3
  | .Eq=>jG
  | .NotEq=>lD
  | .Lt=>a6B
  | .LtE=>ai2
  | .Gt=>adW
  | .GtE=>ap2
  | .Is=>avL
  | .IsNot=>akE
  | .In=>aB6
  | .NotIn=>afY
def aHO:Bool->R3
  | true=>aBJ
  | false=>aBI
def aBX (K:Fg):BF->List D->Gp->fY->Prop
  | .len=>dO
  | .abs=>afX
  | .isi=>aF K
  | .min=>a0S
  | .max=>yG
  | .abQ=>wG
  | .aq5=>a4K
def awW (n:String):List D->Gp->fY->Prop:=if n = "int" then a3T else if n = "list" then a0O else if n = "str" then atD else if n = "tuple" then agA else fun _ _ _=>False
def mkT:MK->String
  | .append => "list"
  | .extend => "list"
def mkR:MK->RM3
  | .append=>cP
  | .extend=>uH
def mkN:MK->Str
  | .append => "append"
  | .extend => "extend"
def awX (T:List (Str×GT)) (k:Nat):cB:=match T[k]? with
  | some (_,.con d)=>aX d
  | some (_,.cls a)=>aX (.ref a)
  | some (_,.bt n)=>aX (.ty n)
  | _=>alK
def awY (T:List (Str×GT)) (K:Fg) (ex:aK->aV) (k:Nat) (t:tZ):cB:=match T[k]? with
  | some (_,.fn sp _ _)=>aY sp ex t
  | some (_,.cls a)=>akZ a t
  | some (_,.bf b)=>cI (aBX K b) t
  | some (_,.bt n)=>cI (awW n) t
  | some (_,.kl C sp dd)=>ae5 C sp dd ex t
  | _=>alK
def awZ:Bool->R3
  | true=>a0U
  | false=>atB
mutual
def mE (T:List (Str×GT)) (K:Fg) (ex:aK->aV):CE->cB
  | .var i=>aB i
  | .con d=>aX d
  | .glo k=>awX T k
  | .neg a=>a78 (mE T K ex a)
  | .alJ a=>a3M (mE T K ex a)
  | .bin o a b=>aD (atJ o) (mE T K ex a) (mE T K ex b)
  | .cmp o a b=>aD (a4L o) (mE T K ex a) (mE T K ex b)
  | .chain o o' a b c=>oE (a4L o) (a4L o') (mE T K ex a) (mE T K ex b) (mE T K ex c)
  | .a96 es=>ax0 T K ex es
  | .ifx c a b=>aoZ (mT T K ex c) (mE T K ex a) (mE T K ex b)
  | .tup es=>cG (mA T K ex es)
  | .lst es=>cT (mA T K ex es)
  | .dct=>a8N
  | .ix a b=>aD bL (mE T K ex a) (mE T K ex b)
  | .call k es=>awY T K ex k (mA T K ex es)
  | .meth m o .nil=>aw3 (mkT m) (mkR m) (mE T K ex o)
  | .meth m o (.cons e r)=>tM3 (mkT m) (mkR m) (mE T K ex o) (aA (mE T K ex e) (mA T K ex r))
  | .comp _ _ ci cc e=>a0Q (mI T K ex ci) (mC T K cc) (mE T K NoX e)
  | .abS n _ _ ci cc e=>zK n (mI T K ex ci) (mC T K cc) (mE T K NoX e)
  | .maxD _ e d=>ag5 (mE T K ex e) (mE T K ex d)
  | .dix a b=>aD a0T (mE T K ex a) (mE T K ex b)
  | .din neg a b=>aD (awZ neg) (mE T K ex a) (mE T K ex b)
  | .dgt o e f=>a2U (mE T K ex o) (mE T K ex e) (mE T K ex f)
  | .rev a k=>ag9 (mE T K ex a) (a3N (mE T K ex k))
  | .aq6 t a b=>a92 t (mE T K ex a) (mE T K ex b)
def mA (T:List (Str×GT)) (K:Fg) (ex:aK->aV):CEs->tZ
  | .nil=>aC
  | .cons e r=>aA (mE T K ex e) (mA T K ex r)
def ax0 (T:List (Str×GT)) (K:Fg) (ex:aK->aV):CEs->cB
  | .nil=>alK
  | .cons e .nil=>mE T K ex e
  | .cons e (.cons e' r)=>m7 (mE T K ex e) (ax0 T K ex (.cons e' r))
def mOr (T:List (Str×GT)) (K:Fg) (ex:aK->aV):CEs->cB
  | .nil=>alK
  | .cons e .nil=>mE T K ex e
  | .cons e (.cons e' r)=>asR (mE T K ex e) (mOr T K ex (.cons e' r))
def mT (T:List (Str×GT)) (K:Fg) (ex:aK->aV):CT->u9
  | .cmp o a b=>aJ (aD (a4L o) (mE T K ex a) (mE T K ex b))
  | .chain o o' a b c=>aJ (oE (a4L o) (a4L o') (mE T K ex a) (mE T K ex b) (mE T K ex c))
  | .not t=>oF (mT T K ex t)
  | .and ts=>alL T K ex ts
  | .or ts=>ax1 T K ex ts
  | .val e=>aJ (mE T K ex e)
  | .din neg a b=>aJ (aD (awZ neg) (mE T K ex a) (mE T K ex b))
def alL (T:List (Str×GT)) (K:Fg) (ex:aK->aV):CTs->u9
  | .nil=>atG
  | .cons e .nil=>mT T K ex e
  | .cons e (.cons e' r)=>xA (mT T K ex e) (alL T K ex (.cons e' r))
def ax1 (T:List (Str×GT)) (K:Fg) (ex:aK->aV):CTs->u9
  | .nil=>atG
  | .cons e .nil=>mT T K ex e
  | .cons e (.cons e' r)=>tY (mT T K ex e) (ax1 T K ex (.cons e' r))
def mO (T:List (Str×GT)) (K:Fg) (ex:aK->aV):CO->TO3
  | .none=>aaY
  | .some e=>a3N (mE T K ex e)
def mI (T:List (Str×GT)) (K:Fg) (ex:aK->aV):CI->TI3
  | .any e=>rG (mE T K ex e)
  | .a2E e=>m8 (aA (mE T K ex e) aC)
  | .items e=>lF true (mE T K ex e)
  | .enu _=>fun _ _ _=>False
def mC (T:List (Str×GT)) (K:Fg):CC->u9
  | .none=>uI
  | .some t=>mT T K NoX t
end
def isStar:Expr->Bool
  | .Starred ..=>true
  | _=>false
def isSlice:Expr->Bool
  | .Slice ..=>true
  | _=>false
def d7:Expr->Bool
  | .Call (.Name id _) [] [] _=>id != ("super" : Str)
  | _=>true
def isSet:Expr->Bool
  | .Set ..=>true
  | _=>false
def ax2:BF->String
  | .len => "len"
  | .abs => "abs"
  | .isi => "isinstance"
  | .min => "min"
  | .max => "max"
  | .abQ => "dict"
  | .aq5 => "min"
def alM:BF->Value
  | .abQ => .type "dict"
  | b => .builtin (ax2 b)
def ae9:BF->Bool
  | .len=>true
  | .abs=>true
  | .isi=>true
  | _=>false
def zN (S:SI):Bool:=(gq S.gl.length).any fun k=>S.gv[k]? == some true&&match S.gl[k]? with
  | some (y,.bt n)=>y == ("range" : Str)&&n == "range"
  | _=>false
def a98 (S:SI):Bool:=(gq S.gl.length).any fun k=>S.gv[k]? == some true&&match S.gl[k]? with
  | some (y,.bt n)=>y == ("enumerate" : Str)&&n == "enumerate"
  | _=>false
def agC (S:SI) (k:Nat) (x:Str):Bool:=match S.gl[k]? with
  | some (y,.bf b)=>y == x&&alM b == .builtin "max"
  | _=>false
def ax3 (S:SI) (y:Str):Bool:=(gq S.N.length).any fun i=>S.N[i]? == some y&&S.ce[i]? == some true
def a99:List Str->Bool
  | []=>true
  | x :: r=>!r.contains x&&a99 r
def uL:List Expr->Option (List Str)
  | []=>some []
  | .Name x _ :: r=>(uL r).map (x :: ·)
  | _=>none
def tH (S:SI) (xs:List Str) (scope:Scope) (fl gv:List Bool):Bool :=
  scope.kind == .function&&scope.names.all (fun y=>y.2 != .cell&&(y.2 != .local || scope.names.lookup y.1 == some .local)&&(y.2 != .free || ax3 S y.1)) &&
  xs.all (fun x=>scope.names.lookup x == some .local&&!S.N.contains x&&x != ("__debug__" : Str)&&x != ("__classdict__" : Str))&&a99 xs &&
  S.N.all (fun y=>scope.names.lookup y != some .local) &&
  (gq S.N.length).all (fun i=>fl[i]? != some true || (S.fl[i]? == some true&&match S.N[i]? with
    | some y=>scope.names.lookup y == some .free
    | none=>false)) &&
  (gq S.gl.length).all (fun k=>gv[k]? != some true || match S.gl[k]? with
    | some (y,_)=>scope.names.lookup y == some .globalImplicit
    | none=>false)
def atL:D->Const->Bool
  | .int i,.int j=>i == j
  | .str s,.str t=>s == t
  | .bl b,.bool c=>b == c
  | .non,.none=>true
  | _,_=>false
def plainT:Expr->Bool
  | .UnaryOp .Not _ _=>false
  | .BoolOp ..=>false
  | .IfExp ..=>false
  | .Compare ..=>false
  | _=>true
def alN (S:SI) (k:Nat) (x:Str):Bool:=match S.gl[k]? with
  | some (y,.con _)=>y == x
  | some (y,.cls _)=>y == x
  | some (y,.bt _)=>y == x
  | _=>false
def agD (S:SI) (k:Nat) (x:Str) (e:Bool):Bool:=match S.gl[k]? with
  | some (y,.fn _ _ qt)=>y == x&&(qt || S.calm)
  | some (y,.cls _)=>y == x
  | some (y,.bf b)=>y == x&&e&&(S.calm || ae9 b)
  | some (y,.bt _)=>y == x&&e
  | some (y,.kl _ _ _)=>y == x&&S.calm
  | _=>false
def zO:Expr->Option (Expr×Str×Bool)
  | .Call (.Attribute y n ap) [] [] cp=>some (y,n,ap.endLine == cp.line)
  | _=>none
def zP:Expr->Option (Str×Expr)
  | .Call (.Name x _) [z] [] _=>some (x,z)
  | _=>none
mutual
def kE (S:SI):CE->Expr->Bool
  | .var i,.Name x _=>S.N[i]? == some x&&S.fl[i]? == some true
  | .con d,.Constant c _ _=>atL d c
  | .glo k,.Name x _=>S.gv[k]? == some true&&alN S k x
  | .neg a,.UnaryOp .USub e _=>kE S a e
  | .alJ a,.UnaryOp .Not e _=>kE S a e
  | .bin o a b,.BinOp x o' y _=>o == o'&&kE S a x&&kE S b y
  | .cmp o a b,.Compare x [o'] [y] _=>o == o'&&!behindInMarks o' y&&kE S a x&&kE S b y
  | .chain o o' a b c,.Compare x [p,p'] [y,z] _=>o == p&&o' == p'&&!lastMarks [p,p'] [y,z]&&kE S a x&&kE S b y&&kE S c z
  | .a96 es,.BoolOp .And xs _=>xE S es xs
  | .ifx c a b,.IfExp t x y _=>kT S c t&&kE S a x&&kE S b y
  | .tup es,.Tuple xs _ _=>xE S es xs
  | .lst es,.List xs _=>xE S es xs
  | .dct,.Dict [] [] _=>true
  | .ix a b,.Subscript x y _=>!isSlice y&&kE S a x&&kE S b y
  | .call k es,.Call (.Name x _) xs [] _=>xE S es xs&&S.gv[k]? == some true&&agD S k x (!xs.isEmpty)
  | .meth m o es,.Call (.Attribute y n ap) xs [] cp=>n == mkN m&&d7 y&&ap.endLine == cp.line&&decide (xs.length < 30)&&kE S o y&&xE S es xs
  | .comp fl gv ci cc e,.ListComp elt [⟨.Name x _,iter,ifs,a⟩] scope _=>a == 0&&tH S [x] scope fl gv&&!isSet iter&&kI S false ci iter&&kC (S.cmp [x] fl gv) cc ifs&&kE (S.cmp [x] fl gv) e elt
  | .abS n fl gv ci cc e,.ListComp elt [⟨.Tuple es _ _,iter,ifs,a⟩] scope _=>S.calm&&a == 0&&(match uL es with
    | some xs=>xs.length == n&&tH S xs scope fl gv&&!isSet iter&&kI S true ci iter&&kC (S.cmp xs fl gv) cc ifs&&kE (S.cmp xs fl gv) e elt
    | none=>false)
  | .maxD k e d,.Call (.Name x _) [y] [⟨some n,z,_⟩] _=>n == ("default" : Str)&&S.calm&&S.gv[k]? == some true&&agC S k x&&!isStar y&&kE S e y&&kE S d z
  | .dix a b,.Subscript x y _=>!isSlice y&&kE S a x&&kE S b y
  | .din neg a b,.Compare x [o'] [y] _=>o' == (if neg then CmpOp.NotIn else CmpOp.In)&&!behindInMarks o' y&&kE S a x&&kE S b y
  | .dgt o e f,.Call (.Attribute y n ap) [x,z] [] cp=>n == ("get" : Str)&&d7 y&&ap.endLine == cp.line&&!isStar x&&!isStar z&&kE S o y&&kE S e x&&kE S f z
  | .rev a k,.Subscript x (.Slice none none (some y) _) _=>kE S a x&&kE S k y
  | .aq6 _ a b,.Dict [some x] [y] _=>kE S a x&&kE S b y
  | _,_=>false
def xE (S:SI):CEs->List Expr->Bool
  | .nil,[]=>true
  | .cons e r,x :: xs=>!isStar x&&kE S e x&&xE S r xs
  | _,_=>false
def kT (S:SI):CT->Expr->Bool
  | .cmp o a b,.Compare x [o'] [y] _=>o == o'&&!behindInMarks o' y&&kE S a x&&kE S b y
  | .chain o o' a b c,.Compare x [p,p'] [y,z] _=>o == p&&o' == p'&&!lastMarks [p,p'] [y,z]&&kE S a x&&kE S b y&&kE S c z
  | .not t,.UnaryOp .Not e _=>kT S t e
  | .and ts,.BoolOp .And xs _=>kTs S ts xs
  | .or ts,.BoolOp .Or xs _=>kTs S ts xs
  | .din neg a b,.Compare x [o'] [y] _=>o' == (if neg then CmpOp.NotIn else CmpOp.In)&&!behindInMarks o' y&&kE S a x&&kE S b y
  | .val e,x=>plainT x&&kE S e x
  | _,_=>false
def kTs (S:SI):CTs->List Expr->Bool
  | .nil,[]=>true
  | .cons e r,x :: xs=>kT S e x&&kTs S r xs
  | _,_=>false
def kO (S:SI):CO->Option Expr->Bool
  | .none,none=>true
  | .some e,some x=>kE S e x
  | _,_=>false
def kI (S:SI) (tt:Bool):CI->Expr->Bool
  | .any e,x=>kE S e x
  | .a2E e,.Call (.Name r _) [y] [] _=>r == ("range" : Str)&&zN S&&!isStar y&&kE S e y
  | .items e,x=>tt&&(match zO x with
    | some (y,n,l)=>l&&n == ("items" : Str)&&d7 y&&kE S e y
    | none=>false)
  | .enu e,x=>tt&&(match zP x with
    | some (r,y)=>r == ("enumerate" : Str)&&a98 S&&!isStar y&&kE S e y
    | none=>false)
  | _,_=>false
def kC (S:SI):CC->List Expr->Bool
  | .none,[]=>true
  | .some t,[x]=>kT S t x
  | _,_=>false
end
end L4
namespace L4
open PySem PySem.Spec PyProof.Rows L2
variable {e:Expr}{env:Env}
theorem bI {es:List Expr} (h:isStar e=false):starEach (e :: es) env=(false,eval e env) :: starEach es env:=by
  cases e <;> first | rfl | (exact absurd (show true=false from h) (by decide))
theorem uM {S:SI} {env:Env} {pos:Pos}:∀ {cs:CEs} {xs:List Expr},xE S cs xs=true->(backTo pos (starEach xs env)).any (·.1)=false
  | .nil,[],_=>rfl
  | .nil,_ :: _,h=>absurd (show false=true from h) (by decide)
  | .cons _ _,[],h=>absurd (show false=true from h) (by decide)
  | .cons e r,x :: xs,h=>by
    have h':(!isStar x&&kE S e x&&xE S r xs)=true:=h;simp only [aj,bx] at h';rw [bI h'.1.1];show (false || (backTo pos (starEach xs env)).any (·.1))=false;rw [uM h'.2];rfl
theorem oG {o:Expr} {n:Str} (h:d7 o=true):attributeBase o n env (eval o env)=eval o env:=by
  cases o with
  | Call f args kws pos =>
    cases f with
    | Name id p =>
      cases args with
      | nil =>
        cases kws with
        | nil =>
          have h':(id != ("super" : Str))=true:=h;unfold attributeBase;simp only [h',Bool.true_or,if_true]
        | cons _ _=>rfl
      | cons _ _=>cases kws <;> rfl
    | _=>rfl
  | _=>rfl
abbrev BMv:List Value:=[.type "ValueError",.type "Exception",.type "BaseException",.type "object"]
def aBZ (X:Cx) (cm:Bool) (x:Str):GT->Prop
  | .con d=>∃ u v,X.mg x=some u/\RelV v u/\∀ H,RD X.K H d v
  | .cls a=>X.mg x=some (.ref a)/\jj X.K a BMv "ValueError.__new__" = true
  | .fn sp n qt=>(qt=true∨cm=true)->∃ k f fd ps,bW qt X.prog X.w X.K X.mg X.base (lU X.prog X.w) k f fd ps (cJ X.K sp)/\f9 qt k X.A/\X.mg x=some (.ref f)/\jy X.K (.ref f)=true/\Binds X.K fd ps []
  | .bf b=>X.mg x=none/\bootBuiltins x=some (alM b)
  | .bt n=>X.mg x=none/\bootBuiltins x=some (.type n)
  | .kl C sp dd=>cm=true->∃ k f fd ps ds dvs,Mk X.K C f/\bW false X.prog X.w X.K X.mg X.base (lU X.prog X.w) k f fd ps (cJ X.K sp)/\f9 false (k+1) X.A/\X.mg x=some (.ref C)/\Binds X.K fd ps ds/\Vals dvs ds/\∀ H,bV X.K H dd dvs
  | .me C m sp dd=>cm=true->∃ k f fd ps ds dvs,Cls X.K C/\Meth X.K C m f/\bW false X.prog X.w X.K X.mg X.base (lU X.prog X.w) k f fd ps (cJ X.K sp)/\f9 false k X.A/\Binds X.K fd ps ds/\Vals dvs ds/\∀ H,bV X.K H dd dvs
  | .fl C f=>Cls X.K C/\ajV X.K C f
structure j6 (X:Cx) (S:SI) (ex:aK->aV):Prop where
  N:X.N=S.N
  nd:X.N.Nodup
  vis:∀ (i:Nat) (x:Str),S.N[i]?=some x->S.fl[i]?=some true->Vis X.env.scope x/\(x == ("__debug__" : Str))=false/\(x == ("__classdict__" : Str))=false
  ce:∀ (i:Nat) (x:Str),S.N[i]?=some x->S.ce[i]?=some true->X.env.kindOf x=some .cell∨X.env.kindOf x=some .free
  gm:∀ (k:Nat) (x:Str) (g:GT),S.gl[k]?=some (x,g)->(S.gv[k]?=some true->Gl X x)/\(x == ("__debug__" : Str))=false/\x ≠ "__name__" /\ aBZ X S.calm x g
  hu:X.A.units+64 < cLine
  cm:S.calm=true->X.calm=true
  cat:Cat X ex
theorem j6.gl {X:Cx} {S:SI} {ex:aK->aV} (Q:j6 X S ex) (k:Nat) (x:Str) (g:GT) (h:S.gl[k]?=some (x,g)) (hv:S.gv[k]?=some true):Gl X x/\(x == ("__debug__" : Str))=false/\x ≠ "__name__" /\ aBZ X S.calm x g :=
  ⟨(Q.gm k x g h).1 hv,(Q.gm k x g h).2⟩
section
variable {X:Cx} {S:SI} {ex:aK->aV}
theorem alO:cC X e alK:=fun _ _ _ _ _ _ ⟨_,_,_,_,_,z,_⟩=>z.elim
theorem aq7 {o:Operator}:a3L X (binaryOp o) (atJ o):=by
  have no:∀ {f:Value->Value->Sem Value},a3L X f (fun _ _ _ _=>False):=fun {f}=>⟨fun _ _ _ _=>False,fun _ _ _ _ _ _ _ _ _ _ _ _ h=>h.elim,fun _ _ _ _ _ _ _ _ _ _ _ h _=>h.elim⟩;exact match o with
  | .Add=>aAV
  | .Sub=>aAR
  | .Mult=>aAS
  | .FloorDiv=>avK
  | .Mod=>aAT
  | .Pow=>aAU
  | .MatMult=>no
  | .Div=>no
  | .LShift=>no
  | .RShift=>no
  | .BitOr=>no
  | .BitXor=>no
  | .BitAnd=>no
theorem wH {o:CmpOp} (hu:X.A.units+64 < cLine):nW X (compareOp o) (a4L o):=by
  exact match o with
  | .Eq=>aF9 hu
  | .NotEq=>aFA hu
  | .Lt=>aEU
  | .LtE=>aEX
  | .Gt=>aEV
  | .GtE=>aEW
  | .Is=>aEY
  | .IsNot=>avM
  | .In=>aFC hu
  | .NotIn=>ap9 hu
theorem aC0 {n:String}:bY X (.type n) (awW n):=by
  unfold awW;split
  . rename_i h;subst h;exact aB4
  . split
    . rename_i h;subst h;exact avY
    . split
      . rename_i h;subst h;exact aBS
      . split
        . rename_i h;subst h;exact apV
        . exact fun _ _ _ _ _ _ _ _ _ _ _ _ _ _ h _=>h.elim
theorem alP {qt:Bool} {k:Nat} {f:Addr} {fd:FuncData} {ps:List Str} {sp:tG} {x:Str} {p pos:Pos} (F:bW qt X.prog X.w X.K X.mg X.base (lU X.prog X.w) k f fd ps (cJ X.K sp)) (hr:f9 qt k X.A) (hg:Gl X x) (hm:X.mg x=some (.ref f)) (hk:jy X.K (.ref f)=true) (hb:Binds X.K fd ps []) (hx:Cat X ex)
    (hdb:(x == ("__debug__" : Str))=false):cC X (.Call (.Name x p) [] [] pos) (aY sp ex aC):=by
  intro pins s σ H Q I h;obtain ⟨ρ,G,R,sr,g,q,kk⟩:=h;refine wpAny_Call_Name_kw (o7 I hg hm ?_ hdb);refine PySem.W.callWith_K0 I.kIn hk ?_;exact afV (E:=a3O X.K (ex ρ)) F hr hb (fun e s' c=>hx.afU pins σ H s ρ e s' I sr c) I .nil (Q:=fun v H'=>∃ d G',RD X.K H' d v/\HR X.K H' G'/\R d G') ⟨[],G,R,ex ρ,.nil,g,q,fun v H' d G' r2 g2 q2=>⟨d,G',r2,g2,q2⟩,fun C H' G' g' q'=>⟨C,G',rfl,g',q'⟩⟩ fun v H' t2 ⟨d,G',r2,g2,q2⟩=>kk v H' d G' t2 r2 g2 q2
theorem aeA {xs:List Expr} {cs:CEs} {cp:Pos} (h:xE S cs xs=true) (hl:xs.length < 30):((backTo cp (starEach xs X.env)).all (fun x=>!x.1)&&(backToKw cp (keywordEach [] X.env)).all (fun x=>x.1.isSome)
      && decide (xs.length+([]:List Keyword).length+(if ([]:List Keyword).isEmpty then 0 else 1) < 30))=true:=by
  have h1:(backTo cp (starEach xs X.env)).all (fun x=>!x.1)=true:=by
    rw [gj];intro y hy;have:=uM (env:=X.env) (pos:=cp) h;rw [List.any_eq_false] at this;have:=this y hy;simpa using this
  have h2:(decide (xs.length+([]:List Keyword).length+(if ([]:List Keyword).isEmpty then 0 else 1) < 30))=true:=decide_eq_true (by simpa using hl);rw [h1,h2];rfl
end
end L4
namespace L4
open PySem PySem.Spec PyProof.Rows L2
variable {j:Nat}{pos p:Pos}{e o:Expr}{x:Str}{es:List Expr}{m:MK}{to:cB}{xs:List Str}{env:Env}{scope:Scope}
section
variable {X:Cx} {S:SI} {ex:aK->aV}
theorem ax4 {d:D} {c:Const} (h:atL d c=true):cC X (.Constant c j pos) (aX d):=by
  cases d <;> cases c <;> first | exact absurd (show false=true from h) (by decide) | skip
  . exact aAD
  . have:=beq_iff_eq.mp h;subst this;exact aEQ
  . have:=beq_iff_eq.mp h;subst this;exact aAC
  . have:=beq_iff_eq.mp h;subst this;exact aAE
theorem ax5 (h:plainT e=true):∀ whole,isTrue e X.env whole=(do let v ← whole;standAt e.pos;holding [v] (truthy v)):=by
  cases e with
  | UnaryOp op x p=>cases op <;> first | exact absurd (show false=true from h) (by decide) | (intro _;rfl)
  | BoolOp _ _ _=>exact absurd (show false=true from h) (by decide)
  | IfExp _ _ _ _=>exact absurd (show false=true from h) (by decide)
  | Compare _ _ _ _=>exact absurd (show false=true from h) (by decide)
  | _=>intro _;rfl
theorem atM (h:isSlice e=false):a89 e:=by
  cases e with
  | Slice _ _ _ _=>exact absurd (show true=false from h) (by decide)
  | _=>intro _ _;rfl
theorem aC1 (Q:j6 X S ex) {k:Nat} {b:BF} (hk:S.gl[k]?=some (x,.bf b)) (hv:S.gv[k]?=some true) (hc:(S.calm || ae9 b)=true) {t:tZ} (ha:PA3 X (e :: es) t) (he:isStar e=false) (hp:(backTo pos (starEach es X.env)).any (·.1)=false):cC X (.Call (.Name x p) (e :: es) [] pos) (cI (aBX X.K b) t):=by
  obtain ⟨h1,h2,h3,h4⟩:=Q.gl _ _ _ hk hv
  have cm:ae9 b=false->X.calm=true:=fun z=>by
    rw [z,Bool.or_false] at hc;exact Q.cm hc
  cases b with
  | len=>exact wF aB2 h1 h4.1 h4.2 ha h3 h2 (bI he) hp
  | abs=>exact wF aB3 h1 h4.1 h4.2 ha h3 h2 (bI he) hp
  | isi=>exact wF a8M h1 h4.1 h4.2 ha h3 h2 (bI he) hp
  | min=>exact wF (awH (cm rfl)) h1 h4.1 h4.2 ha h3 h2 (bI he) hp
  | max=>exact wF (awG (cm rfl)) h1 h4.1 h4.2 ha h3 h2 (bI he) hp
  | abQ=>exact ab3 (apU (cm rfl) Q.hu) h1 h4.1 h4.2 ha h3 h2 (bI he) hp
  | aq5=>exact wF (awV (cm rfl) Q.hu) h1 h4.1 h4.2 ha h3 h2 (bI he) hp
theorem aq8 {ap cp:Pos} (ho:cC X o to) (hb:d7 o=true) (hl:(ap.endLine == cp.line)=true):cC X (.Call (.Attribute o (mkN m) ap) [] [] cp) (aw3 (mkT m) (mkR m) to):=by
  cases m with
  | append=>exact at5 PySem.F.plainAttrs_list PySem.F.slot_list_append PySem.F.type_list_append ab6 ho (oG hb) hl
  | extend=>exact at5 PySem.F.plainAttrs_list PySem.F.slot_list_extend PySem.F.type_list_extend ab7 ho (oG hb) hl
theorem alQ {t:tZ} {cs:CEs} {ap cp:Pos} (ho:cC X o to) (ha:PA3 X (e :: es) t) (hb:d7 o=true) (hl:(ap.endLine == cp.line)=true) (hk:xE S cs (e :: es)=true) (hn:(e :: es).length < 30) :
    cC X (.Call (.Attribute o (mkN m) ap) (e :: es) [] cp) (tM3 (mkT m) (mkR m) to t):=by
  have he:isStar e=false:=by
    cases cs with
    | nil=>exact absurd (show false=true from hk) (by decide)
    | cons c r =>
      have h':(!isStar e&&kE S c e&&xE S r es)=true:=hk;simp only [aj,bx] at h';exact h'.1.1
  have hp:(backTo cp (starEach es X.env)).any (·.1)=false:=by
    have:=uM (env:=X.env) (pos:=cp) hk;rw [bI he] at this;have z:(false || (backTo cp (starEach es X.env)).any (·.1))=false:=this;simpa using z
  cases m with
  | append=>exact aB7 PySem.F.plainAttrs_list PySem.F.slot_list_append PySem.F.type_list_append ab6 ho ha (oG hb) (aeA hk hn) hl (bI he) hp
  | extend=>exact aB7 PySem.F.plainAttrs_list PySem.F.slot_list_extend PySem.F.type_list_extend ab7 ho ha (oG hb) (aeA hk hn) hl (bI he) hp
local macro_rules | `(tactic| walk_at "off")=>`(tactic| exact absurd (show false=true from by assumption) (by decide))
theorem ax6 (Q:j6 X S ex) {k:Nat} (h:kE S (.glo k) (.Name x p)=true):cC X (.Name x p) (awX S.gl k):=by
  have h':(S.gv[k]? == some true&&alN S k x)=true:=h;rw [aj] at h';obtain ⟨hv,h⟩:=h';have hv:=beq_iff_eq.mp hv;unfold alN at h;unfold awX;split at h
  . rename_i y d hk;have:=beq_iff_eq.mp h;subst this;obtain ⟨h1,h2,h3,u,v,h4,h5,h6⟩:=Q.gl _ _ _ hk hv;exact akC h1 h4 h5 h6 h2
  . rename_i y d hk;have:=beq_iff_eq.mp h;subst this;obtain ⟨h1,h2,h3,h4⟩:=Q.gl _ _ _ hk hv;exact akC h1 h4.1 (v := .ref d) rfl (fun _ => .ref _) h2
  . rename_i y d hk;have:=beq_iff_eq.mp h;subst this;obtain ⟨h1,h2,h3,h4⟩:=Q.gl _ _ _ hk hv;exact avG h1 h4.1 h4.2 h3 h2
  . exact absurd h (by decide)
theorem aq9 (Q:j6 X S ex) {k:Nat} {es:CEs} {xs:List Expr} (ha:PA3 X xs (mA S.gl X.K ex es)) (hk:xE S es xs=true) (hv:S.gv[k]?=some true) (h:agD S k x (!xs.isEmpty)=true):cC X (.Call (.Name x p) xs [] pos) (awY S.gl X.K ex k (mA S.gl X.K ex es)):=by
  unfold agD at h;unfold awY
  have one:∀ {e:Expr} {r:List Expr},xs=e :: r->isStar e=false/\(backTo pos (starEach r X.env)).any (·.1)=false:=fun {e r} z=>by
    subst z;cases es with
    | nil=>exact absurd (show false=true from hk) (by decide)
    | cons c cr =>
      have h':(!isStar e&&kE S c e&&xE S cr r)=true:=hk;simp only [aj,bx] at h';exact ⟨h'.1.1,uM h'.2⟩
  split at h
  . rename_i y sp n qt hg;rw [aj] at h;obtain ⟨h,hc⟩:=h;have:=beq_iff_eq.mp h;subst this;obtain ⟨h1,h2,h3,h4⟩:=Q.gl _ _ _ hg hv;obtain ⟨j,f,fd,ps,F,hr,hm,hkp,hb⟩:=h4 (yh _ _ |>.mp hc);cases xs with
    | nil =>
      cases es with
      | nil=>exact alP F hr h1 hm hkp hb Q.cat h2
      | cons _ _=>exact absurd (show false=true from hk) (by decide)
    | cons e r=>exact ap6 F hr h1 hm hkp hb Q.cat ha h2 (bI (one rfl).1) (one rfl).2
  . rename_i y a hg;have:=beq_iff_eq.mp h;subst this;obtain ⟨h1,h2,h3,h4,h5⟩:=Q.gl _ _ _ hg hv;cases xs with
    | nil =>
      cases es with
      | nil=>exact awK PySem.F.excBase_ValueError (by decide) PySem.F.excBase_ValueError h1 h4 h5 h2
      | cons _ _=>exact absurd (show false=true from hk) (by decide)
    | cons e r=>exact aBK PySem.F.excBase_ValueError (by decide) PySem.F.excBase_ValueError h1 h4 h5 ha h2 (bI (one rfl).1) (one rfl).2
  . rename_i y b hg;rw [aj,aj] at h;obtain ⟨⟨h,hc⟩,hcm⟩:=h;have:=beq_iff_eq.mp h;subst this;cases xs with
    | nil=>exact absurd (show false=true from hc) (by decide)
    | cons e r=>exact aC1 Q hg hv hcm ha (one rfl).1 (one rfl).2
  . rename_i y n hg;rw [aj] at h;obtain ⟨h,hc⟩:=h;have:=beq_iff_eq.mp h;subst this;obtain ⟨h1,h2,h3,h4⟩:=Q.gl _ _ _ hg hv;cases xs with
    | nil=>exact absurd (show false=true from hc) (by decide)
    | cons e r=>exact ab3 aC0 h1 h4.1 h4.2 ha h3 h2 (bI (one rfl).1) (one rfl).2
  . rename_i y C sp dd hg;rw [aj] at h;obtain ⟨h,hc⟩:=h;have:=beq_iff_eq.mp h;subst this;obtain ⟨h1,h2,h3,h4⟩:=Q.gl _ _ _ hg hv;obtain ⟨kk,f,fd,ps,ds,dvs,q1,q2,q3,q4,q5,q6,q7⟩:=h4 hc;cases xs with
    | nil =>
      cases es with
      | nil=>exact al1 q1 q2 q3 h1 q4 q5 q6 q7 Q.cat h2
      | cons _ _=>exact absurd (show false=true from hk) (by decide)
    | cons e r=>exact apI q1 q2 q3 h1 q4 q5 q6 q7 Q.cat ha h2 (bI (one rfl).1) (one rfl).2
  . exact absurd h (by decide)
theorem mF {names:List (Str×NameKind)} {y:Str} {k:NameKind} (h:names.lookup y=some k) :
    (names.map fun (n,k)=>if (k == .free&&env.scope.kind == .function&&env.kindOf n == some .cell) then (n,.cell) else (n,k)).lookup y=some k ∨
    (k = .free/\(names.map fun (n,k)=>if (k == .free&&env.scope.kind == .function&&env.kindOf n == some .cell) then (n,.cell) else (n,k)).lookup y=some .cell):=by
  induction names with
  | nil=>simp at h
  | cons p r ih =>
    obtain ⟨n,kd⟩:=p;rw [kh] at h;show List.lookup y ((if (kd == .free&&env.scope.kind == .function&&env.kindOf n == some .cell)=true then (n,NameKind.cell) else (n,kd)) :: _)=some k∨(k = .free/\List.lookup y ((if (kd == .free&&env.scope.kind == .function&&env.kindOf n == some .cell)=true then (n,NameKind.cell) else (n,kd)) :: _)=some .cell);cases hx:y == n with
    | true =>
      rw [hx] at h;have hkd:kd=k:=by simpa using h
      subst hkd;by_cases hc:(kd == .free&&env.scope.kind == .function&&env.kindOf n == some .cell)=true
      . rw [if_pos hc,kh,hx];refine .inr ⟨?_,rfl⟩;simp only [aj,beq_iff_eq] at hc;exact hc.1.1
      . rw [if_neg hc,kh,hx];exact .inl rfl
    | false =>
      rw [hx] at h;have z:=ih h;by_cases hc:(kd == .free&&env.scope.kind == .function&&env.kindOf n == some .cell)=true
      . rw [if_pos hc,kh,hx];exact z
      . rw [if_neg hc,kh,hx];exact z
theorem a7O:∀ {xs:List Str},a99 xs=true->xs.Nodup
  | [],_=>List.nodup_nil
  | x :: r,h=>by
    have h':(!r.contains x&&a99 r)=true:=h;rw [aj] at h';exact jz.mpr ⟨by simpa using h'.1,a7O h'.2⟩
theorem a1L {fl gv:List Bool} (h:tH S xs scope fl gv=true) :
    scope.kind = .function/\(∀ y∈scope.names,y.2 ≠ .cell/\(y.2 = .local->scope.names.lookup y.1=some .local)/\(y.2 = .free->ax3 S y.1=true)) /\
    (∀ x∈xs,scope.names.lookup x=some .local/\x ∉ S.N/\(x == ("__debug__" : Str))=false/\(x == ("__classdict__" : Str))=false)/\xs.Nodup/\(∀ y∈S.N,scope.names.lookup y≠some .local) /\
    (∀ (i:Nat) (y:Str),S.N[i]?=some y->fl[i]?=some true->S.fl[i]?=some true/\scope.names.lookup y=some .free) /\
    ∀ (k:Nat) (y:Str) (g:GT),S.gl[k]?=some (y,g)->gv[k]?=some true->scope.names.lookup y=some .globalImplicit:=by
  unfold tH at h;simp only [aj] at h;obtain ⟨⟨⟨⟨⟨⟨h1,h2⟩,h3⟩,h4⟩,h5⟩,h8⟩,h9⟩:=h;refine ⟨beq_iff_eq.mp h1,fun y hy=>?_,fun x hx=>?_,a7O h4,fun y hy=>?_,fun i y e1 e2=>?_,fun k y g e1 e2=>?_⟩
  . have z:=gj.mp h2 y hy;simp only [aj,bne_iff_ne,ne_eq,yh,beq_iff_eq] at z;obtain ⟨⟨z1,z2⟩,z3⟩:=z;exact ⟨z1,fun e=>z2.resolve_left fun n=>n e,fun e=>z3.resolve_left fun n=>n e⟩
  . have z:=gj.mp h3 x hx;simp only [aj] at z;obtain ⟨⟨⟨z1,z2⟩,z3⟩,z4⟩:=z;exact ⟨beq_iff_eq.mp z1,by simpa using z2,by simpa using z3,by simpa using z4⟩
  . have z:=gj.mp h5 y hy;simpa using z
  . have z:=gj.mp h8 i (qu.mpr (bh.mp e1).1);rw [e2,e1] at z;simpa using z
  . have z:=gj.mp h9 k (qu.mpr (bh.mp e1).1);rw [e2,e1] at z;simpa using z
theorem eO (Q:j6 X S ex) {fl gv:List Bool} (h:tH S xs scope fl gv=true):rH X xs scope:=by
  obtain ⟨h1,h2,h3,h4,h5,h8,h9⟩:=a1L h;refine ⟨h1,fun y hy=>(h2 y hy).1,fun y hy=>(h2 y hy).2.1,fun x hx=>(h3 x hx).1,fun y hy e=>?_,fun x hx=>by rw [Q.N];exact (h3 x hx).2.1,h4,by rw [Q.N];exact h5⟩;have z:=(h2 y hy).2.2 e;unfold ax3 at z;obtain ⟨i,_,z⟩:=List.any_eq_true.mp z;rw [aj] at z;exact Q.ce i y.1 (beq_iff_eq.mp z.1) (beq_iff_eq.mp z.2)
theorem ax7 {X:Cx}:Cat X NoX:=⟨fun _ _ _ _ _ _ _ _ _ ⟨_,_,_,_,_,_,_,_,_,_,_,_,z⟩=>by obtain ⟨_,_,_,_,z⟩:=z;exact z.elim⟩
theorem a7P {α:Type} {xs ys:List α} {i:Nat} {y:α} (h:(xs++ys)[i]?=some y):(i < xs.length/\y∈xs)∨∃ j,i=xs.length+j/\ys[j]?=some y:=by
  by_cases c:i < xs.length
  . rw [jf c] at h;exact .inl ⟨c,iz h⟩
  . rw [kj (by omega)] at h;exact .inr ⟨i - xs.length,by omega,h⟩
theorem agE {α β:Type} {xs:List α} {f:α->β} {ys:List β}:(xs.map f++ys)[xs.length+j]?=ys[j]?:=by
  rw [kj (by simp)];congr 1;simp
theorem j6.cmp (Q:j6 X S ex) {fl gv:List Bool} (h:tH S xs scope fl gv=true) (C:Addr) (s:Shared) (H:Hp) (fp:List Addr) (pins:List (Addr×Obj)):j6 (gM X xs scope C s H fp pins) (S.cmp xs fl gv) NoX:=by
  obtain ⟨h1,h2,h3,h4,h5,h8,h9⟩:=a1L h;refine ⟨by show xs++X.N=xs++S.N;rw [Q.N],ae2 (N:=X.N) (eO Q h) Q.nd,fun i y e1 e2=>?_,fun i y e1 e2=>?_,fun k y g e1=>?_,Q.hu,Q.cm,ax7⟩
  . rcases a7P e1 with ⟨_,m⟩ | ⟨j,rfl,e1'⟩
    . obtain ⟨a1,a2,a3,a4⟩:=h3 y m;exact ⟨.inl (lookup_relabel_local a1),a3,a4⟩
    . have e2':fl[j]?=some true:=agE.symm.trans e2;obtain ⟨a1,a2⟩:=h8 j y e1' e2';obtain ⟨_,b2,b3⟩:=Q.vis j y e1' a1;refine ⟨?_,b2,b3⟩;rcases mF (env:=X.env) a2 with z | ⟨_,z⟩
      . exact .inr (.inr z)
      . exact .inr (.inl z)
  . rcases a7P e1 with ⟨c,m⟩ | ⟨j,rfl,e1'⟩
    . have e2':(xs.map (fun _=>false)++fl)[i]?=some true:=e2;rw [jf (by simpa using c)] at e2';simp at e2'
    . have e2':fl[j]?=some true:=agE.symm.trans e2;obtain ⟨a1,a2⟩:=h8 j y e1' e2';rcases mF (env:=X.env) a2 with z | ⟨_,z⟩
      . exact .inr z
      . exact .inl z
  . obtain ⟨b1,b2,b3,b4⟩:=Q.gm k y g e1;refine ⟨fun e2=>?_,b2,b3,?_⟩
    . rcases mF (env:=X.env) (h9 k y g e1 e2) with z | ⟨z,_⟩
      . exact z
      . cases z
    . cases g <;> exact b4
theorem a4M:∀ {es:List Expr} {xs:List Str},uL es=some xs->Two (fun e x=>∃ p,e=Expr.Name x p) es xs
  | [],xs,h=>by
    have:xs=[]:=by simpa [uL] using h.symm
    subst this;exact .nil
  | e :: es,xs,h=>by
    cases e with
    | Name x p =>
      have h':(uL es).map (x :: ·)=some xs:=h;cases q:uL es with
      | none=>rw [q] at h';cases h'
      | some r =>
        rw [q] at h';have:xs=x :: r:=by simpa using h'.symm
        subst this;exact .cons ⟨p,rfl⟩ (a4M q)
    | _=>exact absurd (show (none:Option (List Str))=some xs from h) (fun z=>nomatch z)
theorem abT (Q:j6 X S ex) (h:zN S=true):Gl X "range" /\ X.mg "range" = none:=by
  unfold zN at h;obtain ⟨k,_,h⟩:=List.any_eq_true.mp h;rw [aj] at h;obtain ⟨hv,h⟩:=h;split at h
  . rename_i y n e;rw [aj] at h;have:=beq_iff_eq.mp h.1;subst this;obtain ⟨g1,g2,g3,g4⟩:=Q.gl _ _ _ e (beq_iff_eq.mp hv);exact ⟨g1,g4.1⟩
  . exact absurd h (by decide)
theorem alR {neg:Bool} {o:CmpOp} (hu:X.A.units+64 < cLine) (h:(o == (if neg then CmpOp.NotIn else CmpOp.In))=true):nW X (compareOp o) (awZ neg):=by
  have:=beq_iff_eq.mp h;subst this;cases neg with
  | true=>exact awM hu
  | false=>exact aBM hu
theorem aqA (Q:j6 X S ex) (h:a98 S=true):Gl X "enumerate" /\ X.mg "enumerate" = none/\bootBuiltins "enumerate" = some (.type "enumerate"):=by
  unfold a98 at h;obtain ⟨k,_,h⟩:=List.any_eq_true.mp h;rw [aj] at h;obtain ⟨hv,h⟩:=h;split at h
  . rename_i y n e;rw [aj] at h;have e1:=beq_iff_eq.mp h.1;have e2:=beq_iff_eq.mp h.2;subst e1;subst e2;obtain ⟨g1,g2,g3,g4⟩:=Q.gl _ _ _ e (beq_iff_eq.mp hv);exact ⟨g1,g4.1,g4.2⟩
  . exact absurd h (by decide)
theorem alS (Q:j6 X S ex) {k:Nat} (h:agC S k x=true) (hv:S.gv[k]?=some true):Gl X x/\X.mg x=none/\bootBuiltins x=some (.builtin "max")/\x ≠ "__name__" /\ (x == ("__debug__" : Str))=false:=by
  unfold agC at h;split at h
  . rename_i y b e;rw [aj] at h;have e1:=beq_iff_eq.mp h.1;have e2:=beq_iff_eq.mp h.2;subst e1;obtain ⟨g1,g2,g3,g4⟩:=Q.gl _ _ _ e hv;exact ⟨g1,g4.1,by rw [← e2];exact g4.2,g3,g2⟩
  . exact absurd h (by decide)
theorem a4N {w y:Expr} {n:Str} {l:Bool} (h:zO w=some (y,n,l)):∃ ap cp,w = .Call (.Attribute y n ap) [] [] cp/\l=(ap.endLine == cp.line):=by
  unfold zO at h;split at h
  . cases h;exact ⟨_,_,rfl,rfl⟩
  . cases h
theorem aeB {w:Expr} {z:Expr} (h:zP w=some (x,z)):∃ p q,w = .Call (.Name x p) [z] [] q:=by
  unfold zP at h;split at h
  . cases h;exact ⟨_,_,rfl⟩
  . cases h
theorem a7Q (h:isSet e=false):∀ x,foldedSetIterable e env x=pure x:=by
  cases e <;> first | (intro _;rfl) | exact absurd (show true=false from h) (by decide)
end
end L4
namespace L4
open PySem PySem.Spec PyProof.Rows L2
theorem aR {P:Prop} (h:false=true):P:=absurd h (by decide)
mutual
theorem gA {X:Cx} {S:SI} {ex:aK->aV} (Q:j6 X S ex):∀ (c:CE) (e:Expr),kE S c e=true->cC X e (mE S.gl X.K ex c)
  | .var i,e,h=>by
    cases e with
    | Name x p =>
      have h':(S.N[i]? == some x&&S.fl[i]? == some true)=true:=h;rw [aj] at h';have e1:=beq_iff_eq.mp h'.1;obtain ⟨v1,v2,v3⟩:=Q.vis i x e1 (beq_iff_eq.mp h'.2);exact aAB i (by rw [Q.N];exact e1) v1 v2 v3
    | _=>exact aR h
  | .con d,e,h=>by
    cases e with
    | Constant c j p=>exact ax4 h
    | _=>exact aR h
  | .glo k,e,h=>by
    cases e with
    | Name x p=>exact ax6 Q h
    | _=>exact aR h
  | .neg a,e,h=>by
    cases e with
    | UnaryOp op x p =>
      cases op with
      | USub=>exact aB1 (gA Q a x h)
      | _=>exact aR h
    | _=>exact aR h
  | .alJ a,e,h=>by
    cases e with
    | UnaryOp op x p =>
      cases op with
      | Not=>exact aAM (gA Q a x h)
      | _=>exact aR h
    | _=>exact aR h
  | .bin o a b,e,h=>by
    cases e with
    | BinOp x o' y p =>
      have h':(o == o'&&kE S a x&&kE S b y)=true:=h;simp only [aj] at h';have:=beq_iff_eq.mp h'.1.1;subst this;exact aER aq7 (gA Q a x h'.1.2) (gA Q b y h'.2)
    | _=>exact aR h
  | .cmp o a b,e,h=>by
    cases e with
    | Compare x ops ys p =>
      match ops,ys,h with
      | [o'],[y],h =>
        have h':(o == o'&&!behindInMarks o' y&&kE S a x&&kE S b y)=true:=h;simp only [aj,bx] at h';have:=beq_iff_eq.mp h'.1.1.1;subst this;exact asO (wH Q.hu) (gA Q a x h'.1.2) (gA Q b y h'.2) h'.1.1.2
      | [],_,h=>exact aR h
      | _ :: _ :: _,_,h=>exact aR h
      | [_],[],h=>exact aR h
      | [_],_ :: _ :: _,h=>exact aR h
    | _=>exact aR h
  | .chain o o' a b c,e,h=>by
    cases e with
    | Compare x ops ys p =>
      match ops,ys,h with
      | [p1,p2],[y,z],h =>
        have h':(o == p1&&o' == p2&&!lastMarks [p1,p2] [y,z]&&kE S a x&&kE S b y&&kE S c z)=true:=h;simp only [aj,bx] at h';have e1:=beq_iff_eq.mp h'.1.1.1.1.1;have e2:=beq_iff_eq.mp h'.1.1.1.1.2;subst e1;subst e2;exact aoX (wH Q.hu) (wH Q.hu) (gA Q a x h'.1.1.2) (gA Q b y h'.1.2) (gA Q c z h'.2) h'.1.1.1.2
      | [],_,h=>exact aR h
      | [_],_,h=>exact aR h
      | _ :: _ :: _ :: _,_,h=>exact aR h
      | [_,_],[],h=>exact aR h
      | [_,_],[_],h=>exact aR h
      | [_,_],_ :: _ :: _ :: _,h=>exact aR h
    | _=>exact aR h
  | .a96 es,e,h=>by
    cases e with
    | BoolOp op xs p =>
      cases op with
      | And=>exact atN Q es xs p h
      | Or=>exact aR h
    | _=>exact aR h
  | .ifx c a b,e,h=>by
    cases e with
    | IfExp t x y p =>
      have h':(kT S c t&&kE S a x&&kE S b y)=true:=h;simp only [aj] at h';exact ap0 (okT Q c t h'.1.1) (gA Q a x h'.1.2) (gA Q b y h'.2)
    | _=>exact aR h
  | .tup es,e,h=>by
    cases e with
    | Tuple xs j p=>exact aAN (okA Q es xs h)
    | _=>exact aR h
  | .lst es,e,h=>by
    cases e with
    | List xs p=>exact aAO (okA Q es xs h)
    | _=>exact aR h
  | .dct,e,h=>by
    cases e with
    | Dict ks vs p =>
      match ks,vs,h with
      | [],[],_=>exact aw4
      | _ :: _,_,h=>exact aR h
      | [],_ :: _,h=>exact aR h
    | _=>exact aR h
  | .ix a b,e,h=>by
    cases e with
    | Subscript x y p =>
      have h':(!isSlice y&&kE S a x&&kE S b y)=true:=h;simp only [aj,bx] at h';exact aEZ (gA Q a x h'.1.2) (gA Q b y h'.2) (atM h'.1.1)
    | _=>exact aR h
  | .call k es,e,h=>by
    cases e with
    | Call f xs kws p =>
      cases f with
      | Name x q =>
        cases kws with
        | nil =>
          have h':(xE S es xs&&S.gv[k]? == some true&&agD S k x (!xs.isEmpty))=true:=h;simp only [aj] at h';exact aq9 Q (okA Q es xs h'.1.1) h'.1.1 (beq_iff_eq.mp h'.1.2) h'.2
        | cons _ _=>exact aR h
      | _=>exact aR h
    | _=>exact aR h
  | .meth m o .nil,e,h=>by
    cases e with
    | Call f xs kws p =>
      cases f with
      | Attribute y n ap =>
        cases kws with
        | nil =>
          have h':(n == mkN m&&d7 y&&ap.endLine == p.line&&decide (xs.length < 30)&&kE S o y&&xE S .nil xs)=true:=h;simp only [aj] at h';obtain ⟨⟨⟨⟨⟨h1,h2⟩,h3⟩,h4⟩,h5⟩,h6⟩:=h';have:=beq_iff_eq.mp h1;subst this;cases xs with
          | nil=>exact aq8 (gA Q o y h5) h2 h3
          | cons _ _=>exact aR h6
        | cons _ _=>exact aR h
      | _=>exact aR h
    | _=>exact aR h
  | .meth m o (.cons c r),e,h=>by
    cases e with
    | Call f xs kws p =>
      cases f with
      | Attribute y n ap =>
        cases kws with
        | nil =>
          have h':(n == mkN m&&d7 y&&ap.endLine == p.line&&decide (xs.length < 30)&&kE S o y&&xE S (.cons c r) xs)=true:=h;simp only [aj] at h';obtain ⟨⟨⟨⟨⟨h1,h2⟩,h3⟩,h4⟩,h5⟩,h6⟩:=h';have:=beq_iff_eq.mp h1;subst this;cases xs with
          | nil=>exact aR h6
          | cons x xs =>
            have h7:(!isStar x&&kE S c x&&xE S r xs)=true:=h6;simp only [aj,bx] at h7;exact alQ (gA Q o y h5) (yE (gA Q c x h7.1.2) (okA Q r xs h7.2) (bI h7.1.1)) h2 h3 h6 (of_decide_eq_true h4)
        | cons _ _=>exact aR h
      | _=>exact aR h
    | _=>exact aR h
  | .comp fl gv ci cc c,e,h=>by
    cases e with
    | ListComp elt gens scope p =>
      cases gens with
      | nil=>exact aR h
      | cons g gr =>
        cases gr with
        | cons _ _=>obtain ⟨tg,it,ifs,a⟩:=g;cases tg <;> exact aR h
        | nil =>
          obtain ⟨tg,it,ifs,a⟩:=g;cases tg with
          | Name x px =>
            have h':(a == 0&&tH S [x] scope fl gv&&!isSet it&&kI S false ci it&&kC (S.cmp [x] fl gv) cc ifs&&kE (S.cmp [x] fl gv) c elt)=true:=h;simp only [aj,bx] at h';obtain ⟨⟨⟨⟨⟨h2,h3⟩,h4⟩,h5⟩,h6⟩,h7⟩:=h';have:=beq_iff_eq.mp h2;subst this;exact a8R (eO Q h3) (fun C s H fp pins σ=>akS (eO Q h3) Q.nd) abA (okI (tt:=false) Q (fun z=>nomatch z) ci it h5) (fun C s H fp pins=>okC (Q.cmp h3 C s H fp pins) cc ifs h6) (fun C s H fp pins=>gA (Q.cmp h3 C s H fp pins) c elt h7) (a7Q h4)
          | _=>exact aR h
    | _=>exact aR h
  | .abS n fl gv ci cc c,e,h=>by
    cases e with
    | ListComp elt gens scope p =>
      cases gens with
      | nil=>exact aR h
      | cons g gr =>
        cases gr with
        | cons _ _=>obtain ⟨tg,it,ifs,a⟩:=g;cases tg <;> exact aR h
        | nil =>
          obtain ⟨tg,it,ifs,a⟩:=g;cases tg with
          | Tuple es k tp =>
            have h':(S.calm&&a == 0&&(match uL es with
              | some xs=>xs.length == n&&tH S xs scope fl gv&&!isSet it&&kI S true ci it&&kC (S.cmp xs fl gv) cc ifs&&kE (S.cmp xs fl gv) c elt
              | none=>false))=true:=h
            rw [aj,aj] at h';obtain ⟨⟨h1,h2⟩,h'⟩:=h';have:=beq_iff_eq.mp h2;subst this;cases q:uL es with
            | none=>rw [q] at h';exact aR h'
            | some xs =>
              rw [q] at h';simp only [aj,bx] at h';obtain ⟨⟨⟨⟨⟨h0,h3⟩,h4⟩,h5⟩,h6⟩,h7⟩:=h';have:=beq_iff_eq.mp h0;subst this;exact a8R (eO Q h3) (fun C s H fp pins σ=>akT (eO Q h3) Q.nd (Q.cm h1) (a4M q)) (fun d ds e=>(a8Q e).2) (okI (tt:=true) Q (fun _=>⟨Q.cm h1,_,_,_,rfl⟩) ci it h5) (fun C s H fp pins=>okC (Q.cmp h3 C s H fp pins) cc ifs h6) (fun C s H fp pins=>gA (Q.cmp h3 C s H fp pins) c elt h7) (a7Q h4)
          | _=>exact aR h
    | _=>exact aR h
  | .dix a b,e,h=>by
    cases e with
    | Subscript x y p =>
      have h':(!isSlice y&&kE S a x&&kE S b y)=true:=h;simp only [aj,bx] at h';exact aBL Q.hu (gA Q a x h'.1.2) (gA Q b y h'.2) (atM h'.1.1)
    | _=>exact aR h
  | .din neg a b,e,h=>by
    cases e with
    | Compare x ops ys p =>
      match ops,ys,h with
      | [o'],[y],h =>
        have h':(o' == (if neg then CmpOp.NotIn else CmpOp.In)&&!behindInMarks o' y&&kE S a x&&kE S b y)=true:=h;simp only [aj,bx] at h';exact asO (alR Q.hu h'.1.1.1) (gA Q a x h'.1.2) (gA Q b y h'.2) h'.1.1.2
      | [],_,h=>exact aR h
      | _ :: _ :: _,_,h=>exact aR h
      | [_],[],h=>exact aR h
      | [_],_ :: _ :: _,h=>exact aR h
    | _=>exact aR h
  | .dgt c d f,e,h=>by
    cases e with
    | Call g as ks p =>
      cases g with
      | Attribute y n ap =>
        match as,ks,h with
        | [],_,h=>exact aR h
        | [_],_,h=>exact aR h
        | _ :: _ :: _ :: _,_,h=>exact aR h
        | [_,_],_ :: _,h=>exact aR h
        | [x,z],[],h =>
          have h':(n == ("get" : Str)&&d7 y&&ap.endLine == p.line&&!isStar x&&!isStar z&&kE S c y&&kE S d x&&kE S f z)=true:=h;simp only [aj,bx] at h';obtain ⟨⟨⟨⟨⟨⟨⟨h0,h1⟩,h2⟩,h3⟩,h4⟩,h5⟩,h6⟩,h7⟩:=h';have:=beq_iff_eq.mp h0;subst this
          have k2:xE S (.cons d (.cons f .nil)) [x,z]=true:=by
            show (!isStar x&&kE S d x&&(!isStar z&&kE S f z&&true))=true;rw [h3,h4,h6,h7];rfl
          exact apM Q.hu (gA Q c y h5) (gA Q d x h6) (gA Q f z h7) ⟨oG h1,aeA (X:=X) (cp:=p) k2 (show 2 < 30 by decide),h2,by rw [bI h3,bI h4];rfl⟩
      | _=>exact aR h
    | _=>exact aR h
  | .rev a k,e,h=>by
    cases e with
    | Subscript x y p =>
      cases y with
      | Slice l u st q =>
        match l,u,st,h with
        | none,none,some z,h =>
          have h':(kE S a x&&kE S k z)=true:=h;simp only [aj] at h';exact aBP (gA Q a x h'.1) (akG (gA Q k z h'.2))
        | some _,_,_,h=>exact aR h
        | none,some _,_,h=>exact aR h
        | none,none,none,h=>exact aR h
      | _=>exact aR h
    | _=>exact aR h
  | .aq6 t a b,e,h=>by
    cases e with
    | Dict ks vs p =>
      match ks,vs,h with
      | [some x],[y],h =>
        have h':(kE S a x&&kE S b y)=true:=h;rw [aj] at h';exact apY Q.hu (gA Q a x h'.1) (gA Q b y h'.2)
      | [],_,h=>exact aR h
      | [none],_,h=>exact aR h
      | some _ :: _ :: _,_,h=>exact aR h
      | none :: _ :: _,_,h=>exact aR h
      | [some _],[],h=>exact aR h
      | [some _],_ :: _ :: _,h=>exact aR h
    | _=>exact aR h
  | .maxD k c d,e,h=>by
    cases e with
    | Call f as ks p =>
      cases f with
      | Name x q =>
        match as,ks,h with
        | [],_,h=>exact aR h
        | _ :: _ :: _,_,h=>exact aR h
        | [_],[],h=>exact aR h
        | [_],⟨none,_,_⟩ :: _,h=>exact aR h
        | [_],⟨some _,_,_⟩ :: _ :: _,h=>exact aR h
        | [y],[⟨some n,z,kp⟩],h =>
          have h':(n == ("default" : Str)&&S.calm&&S.gv[k]? == some true&&agC S k x&&!isStar y&&kE S c y&&kE S d z)=true:=h;simp only [aj,bx] at h';obtain ⟨⟨⟨⟨⟨⟨h0,h1⟩,h2⟩,h3⟩,h4⟩,h5⟩,h6⟩:=h';have:=beq_iff_eq.mp h0;subst this;obtain ⟨g1,g2,g3,g4,g5⟩:=alS Q h3 (beq_iff_eq.mp h2);exact awL (Q.cm h1) g1 g2 g3 (gA Q c y h5) (gA Q d z h6) g4 g5 (bI h4)
      | _=>exact aR h
    | _=>exact aR h
theorem okA {X:Cx} {S:SI} {ex:aK->aV} (Q:j6 X S ex):∀ (c:CEs) (es:List Expr),xE S c es=true->PA3 X es (mA S.gl X.K ex c)
  | .nil,es,h=>by
    cases es with
    | nil=>exact aaX
    | cons _ _=>exact aR h
  | .cons c r,es,h=>by
    cases es with
    | nil=>exact aR h
    | cons x xs =>
      have h7:(!isStar x&&kE S c x&&xE S r xs)=true:=h;simp only [aj,bx] at h7;exact yE (gA Q c x h7.1.2) (okA Q r xs h7.2) (bI h7.1.1)
theorem atN {X:Cx} {S:SI} {ex:aK->aV} (Q:j6 X S ex):∀ (c:CEs) (es:List Expr) (p:Pos),xE S c es=true->cC X (.BoolOp .And es p) (ax0 S.gl X.K ex c)
  | .nil,es,p,h=>alO
  | .cons c .nil,es,p,h=>by
    match es,h with
    | [],h=>exact aR h
    | [x],h =>
      have h7:(!isStar x&&kE S c x&&xE S .nil [])=true:=h;simp only [aj,bx] at h7;exact asS (gA Q c x h7.1.2)
    | x :: y :: ys,h =>
      have h7:(!isStar x&&kE S c x&&xE S .nil (y :: ys))=true:=h;simp only [aj,bx] at h7;exact aR h7.2
  | .cons c (.cons c' r),es,p,h=>by
    match es,h with
    | [],h=>exact aR h
    | [x],h =>
      have h7:(!isStar x&&kE S c x&&xE S (.cons c' r) [])=true:=h;simp only [aj,bx] at h7;exact aR h7.2
    | x :: y :: ys,h =>
      have h7:(!isStar x&&kE S c x&&xE S (.cons c' r) (y :: ys))=true:=h;simp only [aj,bx] at h7;exact aAL (gA Q c x h7.1.2) (atN Q (.cons c' r) (y :: ys) p h7.2)
theorem aFV {X:Cx} {S:SI} {ex:aK->aV} (Q:j6 X S ex):∀ (c:CEs) (es:List Expr) (p:Pos),xE S c es=true->cC X (.BoolOp .Or es p) (mOr S.gl X.K ex c)
  | .nil,es,p,h=>alO
  | .cons c .nil,es,p,h=>by
    match es,h with
    | [],h=>exact aR h
    | [x],h =>
      have h7:(!isStar x&&kE S c x&&xE S .nil [])=true:=h;simp only [aj,bx] at h7;exact asS (gA Q c x h7.1.2)
    | x :: y :: ys,h =>
      have h7:(!isStar x&&kE S c x&&xE S .nil (y :: ys))=true:=h;simp only [aj,bx] at h7;exact aR h7.2
  | .cons c (.cons c' r),es,p,h=>by
    match es,h with
    | [],h=>exact aR h
    | [x],h =>
      have h7:(!isStar x&&kE S c x&&xE S (.cons c' r) [])=true:=h;simp only [aj,bx] at h7;exact aR h7.2
    | x :: y :: ys,h =>
      have h7:(!isStar x&&kE S c x&&xE S (.cons c' r) (y :: ys))=true:=h;simp only [aj,bx] at h7;exact aET (gA Q c x h7.1.2) (aFV Q (.cons c' r) (y :: ys) p h7.2)
theorem okT {X:Cx} {S:SI} {ex:aK->aV} (Q:j6 X S ex):∀ (c:CT) (e:Expr),kT S c e=true->PT3 X e (mT S.gl X.K ex c)
  | .cmp o a b,e,h=>by
    cases e with
    | Compare x ops ys p =>
      match ops,ys,h with
      | [o'],[y],h =>
        have h':(o == o'&&!behindInMarks o' y&&kE S a x&&kE S b y)=true:=h;simp only [aj,bx] at h';have:=beq_iff_eq.mp h'.1.1.1;subst this;exact asQ (wH Q.hu) (gA Q a x h'.1.2) (gA Q b y h'.2) h'.1.1.2
      | [],_,h=>exact aR h
      | _ :: _ :: _,_,h=>exact aR h
      | [_],[],h=>exact aR h
      | [_],_ :: _ :: _,h=>exact aR h
    | _=>exact aR h
  | .chain o o' a b c,e,h=>by
    cases e with
    | Compare x ops ys p =>
      match ops,ys,h with
      | [p1,p2],[y,z],h =>
        have h':(o == p1&&o' == p2&&!lastMarks [p1,p2] [y,z]&&kE S a x&&kE S b y&&kE S c z)=true:=h;simp only [aj,bx] at h';have e1:=beq_iff_eq.mp h'.1.1.1.1.1;have e2:=beq_iff_eq.mp h'.1.1.1.1.2;subst e1;subst e2;exact aoY (wH Q.hu) (wH Q.hu) (gA Q a x h'.1.1.2) (gA Q b y h'.1.2) (gA Q c z h'.2) h'.1.1.1.2
      | [],_,h=>exact aR h
      | [_],_,h=>exact aR h
      | _ :: _ :: _ :: _,_,h=>exact aR h
      | [_,_],[],h=>exact aR h
      | [_,_],[_],h=>exact aR h
      | [_,_],_ :: _ :: _ :: _,h=>exact aR h
    | _=>exact aR h
  | .not t,e,h=>by
    cases e with
    | UnaryOp op x p =>
      cases op with
      | Not=>exact aAK (okT Q t x h)
      | _=>exact aR h
    | _=>exact aR h
  | .and ts,e,h=>by
    cases e with
    | BoolOp op xs p =>
      cases op with
      | And=>exact PW.pt (alT Q ts xs p h)
      | Or=>exact aR h
    | _=>exact aR h
  | .or ts,e,h=>by
    cases e with
    | BoolOp op xs p =>
      cases op with
      | Or=>exact PW.pt (atO Q ts xs p h)
      | And=>exact aR h
    | _=>exact aR h
  | .din neg a b,e,h=>by
    cases e with
    | Compare x ops ys p =>
      match ops,ys,h with
      | [o'],[y],h =>
        have h':(o' == (if neg then CmpOp.NotIn else CmpOp.In)&&!behindInMarks o' y&&kE S a x&&kE S b y)=true:=h;simp only [aj,bx] at h';exact asQ (alR Q.hu h'.1.1.1) (gA Q a x h'.1.2) (gA Q b y h'.2) h'.1.1.2
      | [],_,h=>exact aR h
      | _ :: _ :: _,_,h=>exact aR h
      | [_],[],h=>exact aR h
      | [_],_ :: _ :: _,h=>exact aR h
    | _=>exact aR h
  | .val c,e,h=>by
    have h':(plainT e&&kE S c e)=true:=h;rw [aj] at h';exact aAG (gA Q c e h'.2) (ax5 h'.1)
theorem alT {X:Cx} {S:SI} {ex:aK->aV} (Q:j6 X S ex):∀ (c:CTs) (es:List Expr) (p:Pos),kTs S c es=true->PW3 X (.BoolOp .And es p) (alL S.gl X.K ex c)
  | .nil,es,p,h=>fun _ _ _ _ _ _ _ ⟨_,_,_,_,_,z,_⟩=>z.elim
  | .cons c .nil,es,p,h=>by
    match es,h with
    | [],h=>exact aR h
    | [x],h =>
      have h7:(kT S c x&&kTs S .nil [])=true:=h;simp only [aj] at h7;exact avI (okT Q c x h7.1)
    | x :: y :: ys,h =>
      have h7:(kT S c x&&kTs S .nil (y :: ys))=true:=h;simp only [aj] at h7;exact aR h7.2
  | .cons c (.cons c' r),es,p,h=>by
    match es,h with
    | [],h=>exact aR h
    | [x],h =>
      have h7:(kT S c x&&kTs S (.cons c' r) [])=true:=h;simp only [aj] at h7;exact aR h7.2
    | x :: y :: ys,h =>
      have h7:(kT S c x&&kTs S (.cons c' r) (y :: ys))=true:=h;simp only [aj] at h7;exact aAJ (okT Q c x h7.1) (alT Q (.cons c' r) (y :: ys) p h7.2)
theorem atO {X:Cx} {S:SI} {ex:aK->aV} (Q:j6 X S ex):∀ (c:CTs) (es:List Expr) (p:Pos),kTs S c es=true->PW3 X (.BoolOp .Or es p) (ax1 S.gl X.K ex c)
  | .nil,es,p,h=>fun _ _ _ _ _ _ _ ⟨_,_,_,_,_,z,_⟩=>z.elim
  | .cons c .nil,es,p,h=>by
    match es,h with
    | [],h=>exact aR h
    | [x],h =>
      have h7:(kT S c x&&kTs S .nil [])=true:=h;simp only [aj] at h7;exact aAI (okT Q c x h7.1)
    | x :: y :: ys,h =>
      have h7:(kT S c x&&kTs S .nil (y :: ys))=true:=h;simp only [aj] at h7;exact aR h7.2
  | .cons c (.cons c' r),es,p,h=>by
    match es,h with
    | [],h=>exact aR h
    | [x],h =>
      have h7:(kT S c x&&kTs S (.cons c' r) [])=true:=h;simp only [aj] at h7;exact aR h7.2
    | x :: y :: ys,h =>
      have h7:(kT S c x&&kTs S (.cons c' r) (y :: ys))=true:=h;simp only [aj] at h7;exact aES (okT Q c x h7.1) (atO Q (.cons c' r) (y :: ys) p h7.2)
theorem okO {X:Cx} {S:SI} {ex:aK->aV} (Q:j6 X S ex):∀ (c:CO) (e:Option Expr),kO S c e=true->PO3 X e (mO S.gl X.K ex c)
  | .none,e,h=>by
    cases e with
    | none=>exact avN
    | some _=>exact aR h
  | .some c,e,h=>by
    cases e with
    | none=>exact aR h
    | some x=>exact akG (gA Q c x h)
theorem okI {X:Cx} {S:SI} {ex:aK->aV} (Q:j6 X S ex) {tg:Expr} {tt:Bool} (htt:tt=true->X.calm=true/\∃ es kt pt,tg = .Tuple es kt pt):∀ (c:CI) (e:Expr),kI S tt c e=true->PI3 X tg e (mI S.gl X.K ex c)
  | .any c,e,h=>aB8 (gA Q c e h)
  | .a2E c,e,h=>by
    cases e with
    | Call f as ks p =>
      cases f with
      | Name r q =>
        cases as with
        | nil=>exact aR h
        | cons y yr =>
          cases yr with
          | cons _ _=>exact aR h
          | nil =>
            cases ks with
            | cons _ _=>exact aR h
            | nil =>
              have h':(r == ("range" : Str)&&zN S&&!isStar y&&kE S c y)=true:=h;simp only [aj,bx] at h';obtain ⟨⟨⟨h1,h2⟩,h3⟩,h4⟩:=h';have:=beq_iff_eq.mp h1;subst this;obtain ⟨g1,g2⟩:=abT Q h2;exact aw8 g1 g2 (yE (gA Q c y h4) aaX (bI h3)) (bI h3)
      | _=>exact aR h
    | _=>exact aR h
  | .items c,e,h=>by
    have h':(tt&&(match zO e with
      | some (y,n,l)=>l&&n == ("items" : Str)&&d7 y&&kE S c y
      | none=>false))=true:=h
    rw [aj] at h';obtain ⟨h0,h4⟩:=h';cases q2:zO e with
    | none=>rw [q2] at h4;exact aR h4
    | some z =>
      obtain ⟨y,n,l⟩:=z;rw [q2] at h4;simp only [aj] at h4;obtain ⟨⟨⟨h5,h6⟩,h7⟩,h8⟩:=h4;have e6:=beq_iff_eq.mp h6;subst e6;obtain ⟨ap,cp,rfl,rfl⟩:=a4N q2;obtain ⟨hc,es,kt,pt,rfl⟩:=htt h0;exact aq1 hc (gA Q c y h8) (oG h7) h5
  | .enu c,e,h=>fun _ _ _ _ _ _ ⟨_,_,_,_,_,z,_⟩=>z.elim
theorem okC {X:Cx} {S:SI} (Q:j6 X S NoX):∀ (c:CC) (es:List Expr),kC S c es=true->ai6 X es (mC S.gl X.K c)
  | .none,es,h=>by
    cases es with
    | nil=>exact apC
    | cons _ _=>exact aR h
  | .some t,es,h=>by
    match es,h with
    | [],h=>exact aR h
    | [x],h=>exact apD (okT Q t x h)
    | _ :: _ :: _,h=>exact aR h
end
end L4
namespace L4
open PySem PySem.Spec PyProof.Rows L2
inductive CTg where
  | nm (i:Nat) | tup (is:List Nat)
mutual
inductive CS where
  | ret (e:CE) | expr (e:CE) | ifs (t:CT) (a b:CB) | set (i:Nat) (e:CE)
  | raise (k:Nat) (e:CE) (es:CEs) | pass
  | setC (i:Nat) (fl gv:List Bool) (ci:CI) (cc:CC) (e:CE) | yH (ci:CI) (tg:CTg) (b:CB) | aqD (ci:CI) (tg:CTg) (b:CB)
  | agF (i n:Nat) (fl gv:List Bool) (ci:CI) (cc:CC) (e:CE) | aqE (is:List Nat) (e:CE) | aqF (t:CT) (b:CB) | aqG (o i e:CE) | hid (i:Nat) (nm:Str) (s:CS)
inductive CB where
  | nil | cons (s:CS) (r:CB)
end
def aC2:bD:=fun _ _ _=>False
abbrev SI.hid (S:SI) (i:Nat) (nm:Str):SI:={ S with N:=S.N.set i nm,fl:=S.fl.set i false,lc:=S.lc.set i false,ce:=S.ce.set i false }
def mIS (T:List (Str×GT)) (K:Fg) (ex:aK->aV):CI->TI3
  | .any e=>a8T (mE T K ex e)
  | .a2E e=>m8 (aA (mE T K ex e) aC)
  | .items e=>lF true (mE T K ex e)
  | .enu e=>a95 (aA (mE T K ex e) aC)
def mIF (T:List (Str×GT)) (K:Fg) (ex:aK->aV):CI->TI3
  | .items e=>lF false (mE T K ex e)
  | _=>fun _ _ _=>False
def mG:CTg->TG3
  | .nm i=>gO i
  | .tup is=>xC is
def aqH (T:List (Str×GT)) (ex:aK->aV) (k:Nat) (t:tZ):bD:=match T[k]? with
  | some (_,.cls a)=>wC ex a t
  | _=>aC2
def agG (S:SI) (k:Nat) (x:Str):Bool:=match S.gl[k]? with
  | some (z,.cls _)=>z == x
  | _=>false
mutual
def mS (T:List (Str×GT)) (K:Fg) (ex:aK->aV):CS->bD
  | .ret e=>bN (mE T K ex e)
  | .expr e=>dF (mE T K ex e)
  | .ifs t a b=>cA (mT T K ex t) (mB T K ex a) (mB T K ex b)
  | .set i e=>bF i (mE T K ex e)
  | .raise k e es=>aqH T ex k (aA (mE T K ex e) (mA T K ex es))
  | .setC i _ _ ci cc e=>bF i (a0Q (mI T K ex ci) (mC T K cc) (mE T K NoX e))
  | .yH ci tg b=>fZ (mIS T K ex ci) (mG tg) (mB T K ex b)
  | .aqD ci tg b=>a2V (mIF T K ex ci) (mG tg) (mB T K ex b)
  | .agF i n _ _ ci cc e=>bF i (zK n (mI T K ex ci) (mC T K cc) (mE T K NoX e))
  | .aqE is e=>a8U is (mE T K ex e)
  | .aqF t b=>a2Q (mT T K ex t) (mB T K ex b)
  | .aqG o i e=>a8X (mE T K ex o) (mE T K ex i) (mE T K ex e)
  | .hid i _ s=>a7K i (mS T K (fun ρ=>ex (rE ρ i)) s)
  | .pass=>bM
def mB (T:List (Str×GT)) (K:Fg) (ex:aK->aV):CB->bD
  | .nil=>bM
  | .cons s .nil=>mS T K ex s
  | .cons s (.cons s' r)=>aL (mS T K ex s) (mB T K ex (.cons s' r))
end
def isTup:Expr->Bool
  | .Tuple ..=>true
  | _=>false
def rJ:Expr->Bool
  | .ListComp ..=>true
  | .SetComp ..=>true
  | .DictComp ..=>true
  | _=>false
def kTg (S:SI):CTg->Expr->Bool
  | .nm i,.Name x _=>S.N[i]? == some x&&S.fl[i]? == some true
  | .tup is,.Tuple es _ _=>kNs S is es
  | _,_=>false
where
  kNs (S:SI):List Nat->List Expr->Bool
  | [],[]=>true
  | i :: is,.Name x _ :: es=>S.N[i]? == some x&&S.fl[i]? == some true&&kNs S is es
  | _,_=>false
def alU (S:SI):CTg->Bool
  | .nm _=>true
  | .tup _=>S.calm
mutual
def kS (S:SI) (lv:Nat):CS->Stmt->Bool
  | .ret e,.Return (some x) _=>kE S e x
  | .expr e,.Expr x _=>!rJ x&&kE S e x
  | .ifs t a b,.If x y z _=>kT S t x&&kB S lv a y&&kB S lv b z
  | .set i e,.Assign [.Name x _] y _=>S.N[i]? == some x&&S.fl[i]? == some true&&!rJ y&&kE S e y
  | .raise k e es,.Raise (some (.Call (.Name x _) (y :: ys) [] _)) none _=>lv == 0&&S.calm&&!isStar y&&kE S e y&&xE S es ys&&S.gv[k]? == some true&&agG S k x
  | .setC i fl gv ci cc e,.Assign [.Name y _] (.ListComp elt [⟨.Name x _,iter,ifs,a⟩] scope _) _=>S.N[i]? == some y&&S.fl[i]? == some true&&a == 0&&tH S [x] scope fl gv&&!isSet iter&&kI S false ci iter&&kC (S.cmp [x] fl gv) cc ifs&&kE (S.cmp [x] fl gv) e elt
  | .agF i n fl gv ci cc e,.Assign [.Name y _] (.ListComp elt [⟨.Tuple es _ _,iter,ifs,a⟩] scope _) _=>S.calm&&S.N[i]? == some y&&S.fl[i]? == some true&&a == 0&&(match uL es with
    | some xs=>xs.length == n&&tH S xs scope fl gv&&!isSet iter&&kI S true ci iter&&kC (S.cmp xs fl gv) cc ifs&&kE (S.cmp xs fl gv) e elt
    | none=>false)
  | .aqE is e,.Assign [.Tuple es _ _] y _=>S.calm&&!isTup y&&!rJ y&&kTg.kNs S is es&&kE S e y
  | .aqG o i e,.Assign [.Subscript x y _] z _=>!isSlice y&&!rJ z&&kE S o x&&kE S i y&&kE S e z
  | .hid i nm s,st=>!S.N.contains nm&&kS (S.hid i nm) lv s st
  | .aqF t b,.While x y [] _=>lv != 1&&kT S t x&&kB S lv b y
  | .yH ci tg b,.For tgt iter body [] _=>lv != 1&&alU S tg&&!isSet iter&&kTg S tg tgt&&kI S (isTup tgt&&S.calm) ci iter&&kB S lv b body
  | .aqD ci tg b,.For tgt iter body [] _=>lv != 1&&alU S tg&&!isSet iter&&kTg S tg tgt&&kI S (isTup tgt&&S.calm) ci iter&&kB S lv b body
  | .pass,.Pass _=>true
  | _,_=>false
def kB (S:SI) (lv:Nat):CB->List Stmt->Bool
  | .nil,[]=>true
  | .cons s r,x :: xs=>kS S lv s x&&kB S lv r xs
  | _,_=>false
end
structure aeC (X:Cx) (S:SI) (ex:aK->aV) (lv:Nat):Prop where
  si:j6 X S ex
  loc:∀ (i:Nat) (x:Str),S.N[i]?=some x->S.fl[i]?=some true->Loc X.env.scope x
  lcl:∀ (i:Nat) (x:Str),S.N[i]?=some x->S.lc[i]?=some true->X.env.kindOf x=some .local
  fn:∀ x,X.fn x=true
  cls:∀ (k:Nat) (x:Str) (a:Addr),S.gl[k]?=some (x,.cls a)->S.gv[k]?=some true->jj X.K a BMv "ValueError.__new__" = true/\(jw X.K a).isSome=true/\ou X.K (.ref a)=some (.type "type")/\qg X.K (.ref a) (.type "BaseException")=some true
  l0:lv≠1->PassesOwn (model X.prog X.w) X.A X.env X.xe
  rz:lv=0->S.calm=true->Thr X ex
  stk:X.stack=X.env :: X.outer
  frm:X.env.frame=some X.env.locals
variable {e:Expr}{env:Env}
theorem agH {t:Option Expr} {n:Nat} (h:rJ e=false):swapsWith e t n env=pure false:=by
  cases e <;> first | rfl | exact absurd (show true=false from h) (by decide)
theorem ax8 {es:List Expr} {k:Nat} {tp:Pos} (h:isTup e=false):swappedStores [.Tuple es k tp] e env=pure none:=by
  cases e <;> first | rfl | exact absurd (show true=false from h) (by decide)
variable {S:SI}{x:Str}
theorem alV {k:Nat} (h:agG S k x=true):∃ a,S.gl[k]?=some (x,.cls a):=by
  unfold agG at h;split at h
  . rename_i z a hg;have:=beq_iff_eq.mp h;subst this;exact ⟨a,hg⟩
  . exact aR h
variable {ex:aK->aV}
theorem aqJ {T:List (Str×GT)} {k:Nat} {a:Addr} {t:tZ} (h:T[k]?=some (x,.cls a)):aqH T ex k t=wC ex a t:=by unfold aqH;rw [h]
variable {X:Cx}{lv:Nat}
theorem alW (Q:aeC X S ex lv) {k:Nat} {e:CE} {es:CEs} {y:Expr} {ys:List Expr} {np cp pos:Pos} (h:kS S lv (.raise k e es) (.Raise (some (.Call (.Name x np) (y :: ys) [] cp)) none pos)=true) :
    PS3 X (.Raise (some (.Call (.Name x np) (y :: ys) [] cp)) none pos) (aqH S.gl ex k (aA (mE S.gl X.K ex e) (mA S.gl X.K ex es))):=by
  have h':(lv == 0&&S.calm&&!isStar y&&kE S e y&&xE S es ys&&S.gv[k]? == some true&&agG S k x)=true:=h;simp only [aj,bx] at h';obtain ⟨⟨⟨⟨⟨⟨h0,hcm⟩,h1⟩,h2⟩,h3⟩,hv⟩,h⟩:=h';have hv:=beq_iff_eq.mp hv;obtain ⟨a,hg⟩:=alV h;rw [aqJ hg];have l1:=Q.si.cm hcm;have l2:=Q.rz (beq_iff_eq.mp h0) hcm;obtain ⟨g1,g2,g3,g4,g5⟩:=Q.si.gl _ _ _ hg hv;exact ap7 l1 PySem.F.excBase_ValueError (by decide) PySem.F.excBase_ValueError g1 g4 (Q.cls _ _ _ hg hv).1 l2 (yE (gA Q.si e y h2) (okA Q.si es ys h3) (bI h1)) g2 (bI h1) (uM h3)
theorem aeD {X:Cx} {S:SI} {ex:aK->aV} {lv:Nat} (Q:aeC X S ex lv):∀ {is:List Nat} {es:List Expr},kTg.kNs S is es=true->Two (apF X) es is
  | [],[],_ => .nil
  | [],_ :: _,h=>by exact aR h
  | _ :: _,[],h=>by exact aR h
  | i :: is,e :: es,h=>by
    cases e with
    | Name x p =>
      have h':(S.N[i]? == some x&&S.fl[i]? == some true&&kTg.kNs S is es)=true:=h;simp only [aj] at h';have e1:=beq_iff_eq.mp h'.1.1;exact .cons ⟨x,p,rfl,by rw [Q.si.N];exact e1,Q.loc i x e1 (beq_iff_eq.mp h'.1.2),.inl (Q.fn x)⟩ (aeD Q h'.2)
    | _=>exact aR h
theorem atP (Q:aeC X S ex lv):∀ {c:CTg} {e:Expr},alU S c=true->kTg S c e=true->PG3 X e (mG c)
  | .nm i,e,_,h=>by
    cases e with
    | Name x p =>
      have h':(S.N[i]? == some x&&S.fl[i]? == some true)=true:=h;simp only [aj] at h';have e1:=beq_iff_eq.mp h'.1;exact awB Q.si.nd (by rw [Q.si.N];exact e1) (Q.loc i x e1 (beq_iff_eq.mp h'.2)) (.inl (Q.fn x))
    | _=>exact aR h
  | .tup is,e,hc,h=>by
    cases e with
    | Tuple es k p=>exact at7 Q.si.nd (Q.si.cm hc) (aeD Q h)
    | _=>exact aR h
variable {tg:Expr}{tt:Bool}
theorem aFW (Q:j6 X S ex) (htt:tt=true->X.calm=true/\∃ es kt pt,tg = .Tuple es kt pt):∀ (c:CI) (e:Expr),kI S tt c e=true->PIS X tg e (mIS S.gl X.K ex c)
  | .any c,e,h=>awD (gA Q c e h)
  | .a2E c,e,h=>by
    cases e with
    | Call f as ks p =>
      cases f with
      | Name r q =>
        cases as with
        | nil=>exact aR h
        | cons y yr =>
          cases yr with
          | cons _ _=>exact aR h
          | nil =>
            cases ks with
            | cons _ _=>exact aR h
            | nil =>
              have h':(r == ("range" : Str)&&zN S&&!isStar y&&kE S c y)=true:=h;simp only [aj,bx] at h';obtain ⟨⟨⟨h1,h2⟩,h3⟩,h4⟩:=h';have:=beq_iff_eq.mp h1;subst this;obtain ⟨g1,g2⟩:=abT Q h2;exact apG g1 g2 (yE (gA Q c y h4) aaX (bI h3)) (bI h3)
      | _=>exact aR h
    | _=>exact aR h
  | .items c,e,h=>by
    have h':(tt&&(match zO e with
      | some (y,n,l)=>l&&n == ("items" : Str)&&d7 y&&kE S c y
      | none=>false))=true:=h
    rw [aj] at h';obtain ⟨h0,h4⟩:=h';cases q2:zO e with
    | none=>rw [q2] at h4;exact aR h4
    | some z =>
      obtain ⟨y,n,l⟩:=z;rw [q2] at h4;simp only [aj] at h4;obtain ⟨⟨⟨h5,h6⟩,h7⟩,h8⟩:=h4;have e6:=beq_iff_eq.mp h6;subst e6;obtain ⟨ap,cp,rfl,rfl⟩:=a4N q2;obtain ⟨hc,es,kt,pt,rfl⟩:=htt h0;exact alD hc (gA Q c y h8) (oG h7) h5
  | .enu c,e,h=>by
    have h':(tt&&(match zP e with
      | some (r,y)=>r == ("enumerate" : Str)&&a98 S&&!isStar y&&kE S c y
      | none=>false))=true:=h
    rw [aj] at h';obtain ⟨h0,h4⟩:=h';cases q2:zP e with
    | none=>rw [q2] at h4;exact aR h4
    | some z =>
      obtain ⟨r,y⟩:=z;rw [q2] at h4;simp only [aj,bx] at h4;obtain ⟨⟨⟨h5,h6⟩,h7⟩,h8⟩:=h4;have e5:=beq_iff_eq.mp h5;subst e5;obtain ⟨p,pos,rfl⟩:=aeB q2;obtain ⟨g1,g2,g3⟩:=aqA Q h6;obtain ⟨hc,es,kt,pt,rfl⟩:=htt h0;exact aq3 hc g1 g2 g3 (yE (gA Q c y h8) aaX (bI h7)) (bI h7)
theorem aeE:PIF X tg e (fun _ _ _=>False):=fun _ _ _ _ _ _ ⟨_,_,_,_,_,z,_⟩=>z.elim
theorem aFX (Q:j6 X S ex) (htt:tt=true->X.calm=true/\∃ es kt pt,tg = .Tuple es kt pt):∀ (c:CI) (e:Expr),kI S tt c e=true->PIF X tg e (mIF S.gl X.K ex c)
  | .any c,e,h=>aeE
  | .a2E c,e,h=>aeE
  | .enu a,e,h=>aeE
  | .items c,e,h=>by
    have h':(tt&&(match zO e with
      | some (y,n,l)=>l&&n == ("items" : Str)&&d7 y&&kE S c y
      | none=>false))=true:=h
    rw [aj] at h';obtain ⟨h0,h4⟩:=h';cases q2:zO e with
    | none=>rw [q2] at h4;exact aR h4
    | some z =>
      obtain ⟨y,n,l⟩:=z;rw [q2] at h4;simp only [aj] at h4;obtain ⟨⟨⟨h5,h6⟩,h7⟩,h8⟩:=h4;have e6:=beq_iff_eq.mp h6;subst e6;obtain ⟨ap,cp,rfl,rfl⟩:=a4N q2;obtain ⟨hc,es,kt,pt,rfl⟩:=htt h0;exact alG hc (gA Q c y h8) (oG h7) h5
variable {i:Nat}
theorem a9A {j:Nat} {l:List Bool} (h:(l.set i false)[j]?=some true):i≠j/\l[j]?=some true:=by
  by_cases c:i=j
  . subst c;by_cases k:i < l.length
    . rw [wu k] at h;cases h
    . rw [List.getElem?_eq_none (by rw [List.length_set];omega)] at h;cases h
  . rw [jq c] at h;exact ⟨c,h⟩
theorem ax9 {nm:Str} (Q:j6 X S ex) (n:nm ∉ S.N):j6 (a90 X i nm) (S.hid i nm) (fun ρ=>ex (rE ρ i)) where
  N:=by show X.N.set i _=S.N.set i _;rw [Q.N]
  nd:=a4E Q.nd (by rw [Q.N];exact n)
  vis:=fun j x e1 e2=>by
    obtain ⟨c,e2⟩:=a9A e2;have e1:(S.N.set i nm)[j]?=some x:=e1;rw [jq c] at e1;exact Q.vis j x e1 e2
  ce:=fun j x e1 e2=>by
    obtain ⟨c,e2⟩:=a9A e2;have e1:(S.N.set i nm)[j]?=some x:=e1;rw [jq c] at e1;exact Q.ce j x e1 e2
  gm:=fun k x g e=>by
    obtain ⟨a,b,c,d⟩:=Q.gm k x g e;refine ⟨a,b,c,?_⟩;cases g <;> exact d
  hu:=Q.hu
  cm:=Q.cm
  cat:=al9 Q.cat
theorem axA {nm:Str} (Q:aeC X S ex lv) (n:nm ∉ S.N):aeC (a90 X i nm) (S.hid i nm) (fun ρ=>ex (rE ρ i)) lv where
  si:=ax9 Q.si n
  loc:=fun j x e1 e2=>by
    obtain ⟨c,e2⟩:=a9A e2;have e1:(S.N.set i nm)[j]?=some x:=e1;rw [jq c] at e1;exact Q.loc j x e1 e2
  lcl:=fun j x e1 e2=>by
    obtain ⟨c,e2⟩:=a9A e2;have e1:(S.N.set i nm)[j]?=some x:=e1;rw [jq c] at e1;exact Q.lcl j x e1 e2
  fn:=Q.fn
  cls:=Q.cls
  l0:=Q.l0
  rz:=fun a b=>alA (Q.rz a b)
  stk:=Q.stk
  frm:=Q.frm
theorem abU (h:isTup e=true):∃ es kt pt,e = .Tuple es kt pt:=by
  cases e <;> first | exact ⟨_,_,_,rfl⟩ | exact aR h
mutual
theorem okS:∀ (c:CS) {X:Cx} {S:SI} {ex:aK->aV} {lv:Nat},aeC X S ex lv->∀ (st:Stmt),kS S lv c st=true->PS3 X st (mS S.gl X.K ex c)
  | .hid i nm c,X,S,ex,lv,Q,st,h=>by
    have h':(!S.N.contains nm&&kS (S.hid i nm) lv c st)=true:=by
      cases st <;> exact h
    rw [aj,bx] at h'
    exact awR (okS c (axA Q (by
      intro z;rw [List.contains_iff_mem.mpr z] at h';cases h'.1)) st h'.2)
  | .ret e,X,S,ex,lv,Q,st,h=>by
    cases st with
    | Return v p =>
      cases v with
      | some x=>exact aAY (gA Q.si e x h)
      | none=>exact aR h
    | _=>exact aR h
  | .expr e,X,S,ex,lv,Q,st,h=>by
    cases st with
    | Expr x p =>
      have h':(!rJ x&&kE S e x)=true:=h;simp only [aj,bx] at h';exact avR (gA Q.si e x h'.2) (agH h'.1)
    | _=>exact aR h
  | .ifs t a b,X,S,ex,lv,Q,st,h=>by
    cases st with
    | If x y z p =>
      have h':(kT S t x&&kB S lv a y&&kB S lv b z)=true:=h;simp only [aj] at h';exact aF0 (okT Q.si t x h'.1.1) (okB a Q y h'.1.2) (okB b Q z h'.2)
    | _=>exact aR h
  | .set i e,X,S,ex,lv,Q,st,h=>by
    cases st with
    | Assign ts y p =>
      cases ts with
      | nil=>exact aR h
      | cons t r =>
        cases r with
        | cons _ _=>cases t <;> exact aR h
        | nil =>
          cases t with
          | Name x q =>
            have h':(S.N[i]? == some x&&S.fl[i]? == some true&&!rJ y&&kE S e y)=true:=h;simp only [aj,bx] at h';have e1:=beq_iff_eq.mp h'.1.1.1;exact asV (i:=i) Q.si.nd (by rw [Q.si.N];exact e1) (Q.loc i x e1 (beq_iff_eq.mp h'.1.1.2)) (gA Q.si e y h'.2) (agH h'.1.2) (.inl (Q.fn x))
          | _=>exact aR h
    | _=>exact aR h
  | .aqG o i e,X,S,ex,lv,Q,st,h=>by
    cases st with
    | Assign ts z p =>
      cases ts with
      | nil=>exact aR h
      | cons t r =>
        cases r with
        | cons _ _=>cases t <;> exact aR h
        | nil =>
          cases t with
          | Subscript x y q =>
            have h':(!isSlice y&&!rJ z&&kE S o x&&kE S i y&&kE S e z)=true:=h;simp only [aj,bx] at h';exact awN Q.si.hu (gA Q.si o x h'.1.1.2) (gA Q.si i y h'.1.2) (gA Q.si e z h'.2) (agH h'.1.1.1.2)
          | _=>exact aR h
    | _=>exact aR h
  | .raise k e es,X,S,ex,lv,Q,st,h=>by
    cases st with
    | Raise a b p =>
      cases a with
      | none=>exact aR h
      | some a =>
        cases a with
        | Call f as ks q =>
          cases f with
          | Name x np =>
            cases as with
            | nil=>exact aR h
            | cons y ys =>
              cases ks with
              | cons _ _=>exact aR h
              | nil =>
                cases b with
                | some _=>exact aR h
                | none=>exact alW Q h
          | _=>exact aR h
        | _=>exact aR h
    | _=>exact aR h
  | .setC i fl gv ci cc c,X,S,ex,lv,Q,st,h=>by
    cases st with
    | Assign ts z p =>
      cases ts with
      | nil=>exact aR h
      | cons t r =>
        cases r with
        | cons _ _=>cases t <;> exact aR h
        | nil =>
          cases t with
          | Name y q =>
            cases z with
            | ListComp elt gens scope pp =>
              cases gens with
              | nil=>exact aR h
              | cons g gr =>
                cases gr with
                | cons _ _=>obtain ⟨tg,it,ifs,a⟩:=g;cases tg <;> exact aR h
                | nil =>
                  obtain ⟨tg,it,ifs,a⟩:=g;cases tg with
                  | Name x px =>
                    have h':(S.N[i]? == some y&&S.fl[i]? == some true&&a == 0&&tH S [x] scope fl gv&&!isSet it&&kI S false ci it&&kC (S.cmp [x] fl gv) cc ifs&&kE (S.cmp [x] fl gv) c elt)=true:=h;simp only [aj,bx] at h';obtain ⟨⟨⟨⟨⟨⟨⟨hy,hy2⟩,h2⟩,h3⟩,h4⟩,h5⟩,h6⟩,h7⟩:=h';have:=beq_iff_eq.mp h2;subst this;have e1:=beq_iff_eq.mp hy;exact ag3 (i:=i) (eO Q.si h3) (fun C s H fp pins σ=>akS (eO Q.si h3) Q.si.nd) abA Q.si.nd (by rw [Q.si.N];exact e1) (Q.loc i y e1 (beq_iff_eq.mp hy2)) (Q.fn y) (okI (tt:=false) Q.si (fun z=>nomatch z) ci it h5) (fun C s H fp pins=>okC (Q.si.cmp h3 C s H fp pins) cc ifs h6) (fun C s H fp pins=>gA (Q.si.cmp h3 C s H fp pins) c elt h7) (a7Q h4)
                  | _=>exact aR h
            | _=>exact aR h
          | _=>exact aR h
    | _=>exact aR h
  | .agF i n fl gv ci cc c,X,S,ex,lv,Q,st,h=>by
    cases st with
    | Assign ts z p =>
      cases ts with
      | nil=>exact aR h
      | cons t r =>
        cases r with
        | cons _ _=>cases t <;> exact aR h
        | nil =>
          cases t with
          | Name y q =>
            cases z with
            | ListComp elt gens scope pp =>
              cases gens with
              | nil=>exact aR h
              | cons g gr =>
                cases gr with
                | cons _ _=>obtain ⟨tg,it,ifs,a⟩:=g;cases tg <;> exact aR h
                | nil =>
                  obtain ⟨tg,it,ifs,a⟩:=g;cases tg with
                  | Tuple es k tp =>
                    have h':(S.calm&&S.N[i]? == some y&&S.fl[i]? == some true&&a == 0&&(match uL es with
                      | some xs=>xs.length == n&&tH S xs scope fl gv&&!isSet it&&kI S true ci it&&kC (S.cmp xs fl gv) cc ifs&&kE (S.cmp xs fl gv) c elt
                      | none=>false))=true:=h
                    rw [aj,aj,aj,aj] at h';obtain ⟨⟨⟨⟨h1,hy⟩,hy2⟩,h2⟩,h'⟩:=h';have:=beq_iff_eq.mp h2;subst this;have e1:=beq_iff_eq.mp hy;cases qn:uL es with
                    | none=>rw [qn] at h';exact aR h'
                    | some xs =>
                      rw [qn] at h';simp only [aj,bx] at h';obtain ⟨⟨⟨⟨⟨h0,h3⟩,h4⟩,h5⟩,h6⟩,h7⟩:=h';have:=beq_iff_eq.mp h0;subst this;exact ag3 (i:=i) (eO Q.si h3) (fun C s H fp pins σ=>akT (eO Q.si h3) Q.si.nd (Q.si.cm h1) (a4M qn)) (fun d ds e=>(a8Q e).2) Q.si.nd (by rw [Q.si.N];exact e1) (Q.loc i y e1 (beq_iff_eq.mp hy2)) (Q.fn y) (okI (tt:=true) Q.si (fun _=>⟨Q.si.cm h1,_,_,_,rfl⟩) ci it h5) (fun C s H fp pins=>okC (Q.si.cmp h3 C s H fp pins) cc ifs h6) (fun C s H fp pins=>gA (Q.si.cmp h3 C s H fp pins) c elt h7) (a7Q h4)
                  | _=>exact aR h
            | _=>exact aR h
          | _=>exact aR h
    | _=>exact aR h
  | .aqE is e,X,S,ex,lv,Q,st,h=>by
    cases st with
    | Assign ts y p =>
      cases ts with
      | nil=>exact aR h
      | cons t r =>
        cases r with
        | cons _ _=>cases t <;> exact aR h
        | nil =>
          cases t with
          | Tuple es k tp =>
            have h':(S.calm&&!isTup y&&!rJ y&&kTg.kNs S is es&&kE S e y)=true:=h;simp only [aj,bx] at h';obtain ⟨⟨⟨⟨h1,h2⟩,h3⟩,h4⟩,h5⟩:=h';exact awF (at7 Q.si.nd (Q.si.cm h1) (aeD Q h4)) (gA Q.si e y h5) (show swapsWith y (some (.Tuple es k tp)) p.line X.env=pure false from agH h3) (ax8 h2) rfl
          | _=>exact aR h
    | _=>exact aR h
  | .aqF t b,X,S,ex,lv,Q,st,h=>by
    cases st with
    | While x y el p =>
      cases el with
      | cons _ _=>exact aR h
      | nil =>
        have h':(lv != 1&&kT S t x&&kB S lv b y)=true:=h;simp only [aj] at h';exact apH (Q.l0 (bne_iff_ne.mp h'.1.1)) (okT Q.si t x h'.1.2) (okB b Q y h'.2)
    | _=>exact aR h
  | .yH ci tg b,X,S,ex,lv,Q,st,h=>by
    cases st with
    | For tgt it body el p =>
      cases el with
      | cons _ _=>exact aR h
      | nil =>
        have h':(lv != 1&&alU S tg&&!isSet it&&kTg S tg tgt&&kI S (isTup tgt&&S.calm) ci it&&kB S lv b body)=true:=h;simp only [aj,bx] at h';obtain ⟨⟨⟨⟨⟨h1,hg⟩,h2⟩,h3⟩,h4⟩,h5⟩:=h';exact awE (Q.l0 (bne_iff_ne.mp h1)) (aFW Q.si (fun z=>by rw [aj] at z;exact ⟨Q.si.cm z.2,abU z.1⟩) ci it h4) (atP Q hg h3) (okB b Q body h5) (a7Q h2)
    | _=>exact aR h
  | .aqD ci tg b,X,S,ex,lv,Q,st,h=>by
    cases st with
    | For tgt it body el p =>
      cases el with
      | cons _ _=>exact aR h
      | nil =>
        have h':(lv != 1&&alU S tg&&!isSet it&&kTg S tg tgt&&kI S (isTup tgt&&S.calm) ci it&&kB S lv b body)=true:=h;simp only [aj,bx] at h';obtain ⟨⟨⟨⟨⟨h1,hg⟩,h2⟩,h3⟩,h4⟩,h5⟩:=h';exact aq2 (Q.l0 (bne_iff_ne.mp h1)) (aFX Q.si (fun z=>by rw [aj] at z;exact ⟨Q.si.cm z.2,abU z.1⟩) ci it h4) (atP Q hg h3) (okB b Q body h5) (a7Q h2)
    | _=>exact aR h
  | .pass,X,S,ex,lv,Q,st,h=>by
    cases st with
    | Pass _=>exact avQ
    | _=>exact aR h
theorem okB:∀ (c:CB) {X:Cx} {S:SI} {ex:aK->aV} {lv:Nat},aeC X S ex lv->∀ (st:List Stmt),kB S lv c st=true->a2B X st (mB S.gl X.K ex c)
  | .nil,X,S,ex,lv,Q,st,h=>by
    cases st with
    | nil=>exact aAW
    | cons _ _=>exact aR h
  | .cons s .nil,X,S,ex,lv,Q,st,h=>by
    match st,h with
    | [],h=>exact aR h
    | [x],h =>
      have h':(kS S lv s x&&kB S lv .nil [])=true:=h;rw [aj] at h';exact aAX (okS s Q x h'.1)
    | x :: y :: ys,h =>
      have h':(kS S lv s x&&kB S lv .nil (y :: ys))=true:=h;rw [aj] at h';exact aR h'.2
  | .cons s (.cons s' r),X,S,ex,lv,Q,st,h=>by
    match st,h with
    | [],h=>exact aR h
    | x :: ys,h =>
      have h':(kS S lv s x&&kB S lv (.cons s' r) ys)=true:=h;rw [aj] at h';exact avP (okS s Q x h'.1) (okB (.cons s' r) Q ys h'.2)
end
end L4
namespace L4
open PySem PySem.Spec PyProof.Rows L2
def bH (R:fY):fY:=fun d G'=>∃ G0,Le G0 G'/\R d G0
def uN (EX:aV):aV:=fun C G'=>∃ G0,Le G0 G'/\EX C G0
def spD (n m:Nat) (tb:aV->bD):tG:=fun ds G R EX=>ds.length=m/\tb (uN EX) ⟨fun _ G'=>bH R .non G',bH R,fun _ _=>False,fun _ _=>False⟩ (a8F n ds) G
variable {G:Gp}
theorem bH.here {R:fY} {d:D} (h:R d G):bH R d G:=⟨G,.refl G,h⟩
theorem uN.here {R:aV} {d:Addr} (h:R d G):uN R d G:=⟨G,.refl G,h⟩
theorem alX {K:Fg} {EX:aV} {E:XK} (h:UpX K EX E):UpX K (uN EX) E:=fun C H' G' g ⟨G0,l,q⟩=>h C H' G0 (g.le l) q
variable {qt:Bool}{P:Program}{mg:Str->Option Value}{base:Heap}{x qual:Str}{st:Stmt}{f:Addr}{fd:FuncData}{ps:List Str}
theorem aqK {w:World} {K:Fg} {N:List Str} {k:Nat} {tb:aV->bD} (F:u6 K x qual st f fd) (S:bC N ps (bK st))
    (hbody:∀ (cdv:Value) (A:Around) (outer:List Env) (s:Shared) (H:Hp) (E:XK) (EX:aV),f9 qt k (A.deeper (envOfC qual (bK st) s.heap.objs.size f cdv))->UpX K EX E ->
      a2B (cx1 qt P w K mg base N qual (bK st) f cdv A outer s H E) (dI st) (tb EX)):bW qt P w K mg base (lU P w) (k+1) f fd ps (cJ K (spD N.length ps.length tb)):=by
  refine (avS F S hbody).imp fun vs H Q E ⟨ds,G,R,EX,r,g,⟨hl,q⟩,kk,hE⟩=>?_;exact ⟨ds,G,bH R,uN EX,r,g,⟨hl,q⟩,fun v H' d G' r1 g1 ⟨G0,l,q⟩=>kk v H' d G0 r1 (g1.le l) q,alX hE⟩
def GTs (P:Program) (w:World) (K:Fg) (mg:Str->Option Value) (base:Heap) (k:Nat) (x:Str):GT->Prop
  | .con d=>∃ u v,mg x=some u/\RelV v u/\∀ H,RD K H d v
  | .cls a=>mg x=some (.ref a)/\jj K a BMv "ValueError.__new__" = true/\(jw K a).isSome=true/\ou K (.ref a)=some (.type "type")/\qg K (.ref a) (.type "BaseException")=some true
  | .fn sp n qt=>∃ f fd ps,bW qt P w K mg base (lU P w) k f fd ps (cJ K sp)/\mg x=some (.ref f)/\jy K (.ref f)=true/\Binds K fd ps []
  | .bf b=>mg x=none/\bootBuiltins x=some (alM b)
  | .bt n=>mg x=none/\bootBuiltins x=some (.type n)
  | .kl C sp dd=>∃ j f fd ps ds dvs,j+1=k/\Mk K C f/\bW false P w K mg base (lU P w) j f fd ps (cJ K sp)/\mg x=some (.ref C)/\Binds K fd ps ds/\Vals dvs ds/\∀ H,bV K H dd dvs
  | .me C m sp dd=>∃ f fd ps ds dvs,Cls K C/\Meth K C m f/\bW false P w K mg base (lU P w) k f fd ps (cJ K sp)/\Binds K fd ps ds/\Vals dvs ds/\∀ H,bV K H dd dvs
  | .fl C f=>Cls K C/\ajV K C f
def axC (sc:Scope) (x:Str):Bool:=match sc.names.lookup x with
  | some .local=>true
  | some .cell=>true
  | _=>false
def axD (sc:Scope) (x:Str):Bool:=match sc.names.lookup x with
  | some .local=>true
  | _=>false
def axE (sc:Scope) (x:Str):Bool:=match sc.names.lookup x with
  | some .globalImplicit=>true
  | _=>false
def axF (sc:Scope) (x:Str):Bool:=match sc.names.lookup x with
  | some .cell=>true
  | _=>false
variable {sc:Scope}
theorem aqL (h:axF sc x=true):sc.names.lookup x=some .cell:=by
  unfold axF at h;split at h
  . rename_i e;exact e
  . exact aR h
def a7R (S:SI) (sc:Scope):Bool:=(gq S.N.length).all (fun i=>match S.N[i]? with
    | none=>false
    | some x=>x != ("__debug__" : Str)&&x != ("__classdict__" : Str)&&(S.fl[i]? != some true || axC sc x)&&(S.lc[i]? != some true || axD sc x)&&(S.ce[i]? != some true || axF sc x)) &&
  (gq S.gl.length).all (fun k=>match S.gl[k]? with
    | none=>false
    | some (y,_)=>(S.gv[k]? != some true || axE sc y)&&y != ("__debug__" : Str)&&y != ("__name__" : Str))
theorem aqM (h:axC sc x=true):Loc sc x:=by
  unfold axC at h;split at h
  . rename_i e;exact .inl e
  . rename_i e;exact .inr e
  . exact aR h
theorem aqN (h:Loc sc x):Vis sc x:=h.elim .inl fun z => .inr (.inl z)
theorem aqO (h:axD sc x=true):sc.names.lookup x=some .local:=by
  unfold axD at h;split at h
  . rename_i e;exact e
  . exact aR h
theorem aqP (h:axE sc x=true):sc.names.lookup x=some .globalImplicit:=by
  unfold axE at h;split at h
  . rename_i e;exact e
  . exact aR h
variable {S:SI}
theorem a2W (h:a7R S sc=true) {i:Nat} (e:S.N[i]?=some x) :
    (x == ("__debug__" : Str))=false/\(x == ("__classdict__" : Str))=false/\(S.fl[i]?=some true->Loc sc x)/\(S.lc[i]?=some true->sc.names.lookup x=some .local)/\(S.ce[i]?=some true->sc.names.lookup x=some .cell):=by
  unfold a7R at h;rw [aj] at h;have hi:i < S.N.length:=(bh.mp e).1;have q:=gj.mp h.1 i (qu.mpr hi);rw [e] at q;simp only [aj,bne_iff_ne,ne_eq,yh] at q;obtain ⟨⟨⟨⟨q1,q2⟩,q3⟩,q4⟩,q5⟩:=q;refine ⟨beq_eq_false_iff_ne.mpr q1,beq_eq_false_iff_ne.mpr q2,fun z=>?_,fun z=>?_,fun z=>?_⟩
  . rcases q3 with q | q
    . exact absurd z q
    . exact aqM q
  . rcases q4 with q | q
    . exact absurd z q
    . exact aqO q
  . rcases q5 with q | q
    . exact absurd z q
    . exact aqL q
theorem aqQ (h:a7R S sc=true) {k:Nat} {g:GT} (e:S.gl[k]?=some (x,g)):(S.gv[k]?=some true->sc.names.lookup x=some .globalImplicit)/\(x == ("__debug__" : Str))=false/\x ≠ "__name__" := by
  unfold a7R at h;rw [aj] at h;have q:=gj.mp h.2 k (qu.mpr (bh.mp e).1);rw [e] at q;simp only [aj,bne_iff_ne,ne_eq,yh] at q;exact ⟨fun z=>aqP (q.1.1.resolve_left fun n=>n z),beq_eq_false_iff_ne.mpr q.1.2,q.2⟩
theorem alY {w:World} {K:Fg} {k:Nat} {c:CB} (F:u6 K x qual st f fd) (hS:bC S.N ps (bK st))
    (hc:S.calm=!qt) (hv:a7R S (bK st)=true) (hk:kB S 0 c (dI st)=true) (hg:∀ (j:Nat) (y:Str) (g:GT),S.gl[j]?=some (y,g)->GTs P w K mg base k y g) :
    bW qt P w K mg base (lU P w) (k+1) f fd ps (cJ K (spD S.N.length ps.length fun EX=>mB S.gl K (fun _=>EX) c)):=by
  refine aqK F hS fun cdv A outer s H E EX hr hE=>?_;refine okB c (X:=cx1 qt P w K mg base S.N qual (bK st) f cdv A outer s H E) (S:=S) (ex:=fun _=>EX) (lv:=0) ?_ (dI st) hk;refine ⟨⟨rfl,hS.nd,fun i y e1 e2=>?_,fun i y e1 e2 => .inl ((a2W hv e1).2.2.2.2 e2),fun j y g e=>?_,hr.units,fun z=>hc.symm.trans z,aF2 hE⟩,fun i y e1 e2=>?_,fun i y e1 e2=>?_,fun _=>rfl,fun j y a e _=>?_,fun _=>own1,fun _ _=>aF3 hE,rfl,rfl⟩
  . obtain ⟨a1,a2,a3,a4⟩:=a2W hv e1;exact ⟨aqN (a3 e2),a1,a2⟩
  . obtain ⟨a1,a2,a3⟩:=aqQ hv e;have z:=hg j y g e;refine ⟨a1,a2,a3,?_⟩;cases g with
    | con d=>exact z
    | cls a=>exact ⟨z.1,z.2.1⟩
    | fn sp n q2 =>
      intro hz;obtain ⟨f',fd',ps',F',m',k',b'⟩:=z;refine ⟨k,f',fd',ps',F',⟨fun e=>hr.hd ?_,hr.dp,hr.un⟩,m',k',b'⟩;have hs:S.calm=true:=hz.resolve_left (by rw [e];decide);rw [hc] at hs;simpa using hs
    | bf b=>exact z
    | bt n=>exact z
    | kl C sp dd =>
      intro hs;obtain ⟨j',f',fd',ps',ds,dvs,rfl,q1,q2,q3,q4,q5,q6⟩:=z;rw [hc] at hs;exact ⟨j',f',fd',ps',ds,dvs,q1,q2,⟨fun _=>hr.hd (by simpa using hs),hr.dp,hr.un⟩,q3,q4,q5,q6⟩
    | me C m sp dd =>
      intro hs;obtain ⟨f',fd',ps',ds,dvs,q1,q2,q3,q4,q5,q6⟩:=z;rw [hc] at hs;exact ⟨k,f',fd',ps',ds,dvs,q1,q2,q3,⟨fun _=>hr.hd (by simpa using hs),hr.dp,hr.un⟩,q4,q5,q6⟩
    | fl C f=>exact z
  . exact (a2W hv e1).2.2.1 e2
  . exact (a2W hv e1).2.2.2.1 e2
  . have z:=hg j y _ e;exact z.2
end L4
namespace L4
open PySem PySem.Spec PyProof.Rows L2
variable {P:Str->GT->Prop}
theorem gln:∀ (j:Nat) (y:Str) (g:GT),([]:List (Str×GT))[j]?=some (y,g)->P y g:=fun j y g h=>by simp at h
theorem dG {x:Str} {g:GT} {l:List (Str×GT)} (h:P x g) (r:∀ (j:Nat) (y:Str) (g:GT),l[j]?=some (y,g)->P y g):∀ (j:Nat) (y:Str) (g':GT),((x,g) :: l)[j]?=some (y,g')->P y g'
  | 0,y,g',e=>by simp at e;obtain ⟨e1,e2⟩:=e;subst e1;subst e2;exact h
  | j+1,y,g',e=>r j y g' (by simpa using e)
variable {ds:List D}
section
variable {P:Program} {w:World} {K:Fg} {mg:Str->Option Value} {base:Heap} {k:Nat} {x:Str}
theorem gcI {z:Int} (h:∃ t,mg x=some (.int z t)):GTs P w K mg base k x (.con (.int z)):=by
  obtain ⟨t,h⟩:=h;exact ⟨_,.int z,h,⟨t,rfl⟩,fun _ => .int z⟩
theorem gcT (h:∃ a,mg x=some (.ref a)/\∀ H,RD K H (.tup ds) (.ref a)):GTs P w K mg base k x (.con (.tup ds)):=by
  obtain ⟨a,h,r⟩:=h;exact ⟨_,.ref a,h,rfl,r⟩
end
theorem axG {K:Fg} {a:Addr} {od:Option Addr} {its:Array Value} {n:Nat} {sl:Array (Option Value)} {xs:List V} (h:K.lookup a=some ⟨.type "tuple",od,.seq its n,sl⟩) (hz:its.size<=sizeLine) (v:Vals xs its.toList) (r:∀ H,bV K H ds xs) (H:Hp):RD K H (.tup ds) (.ref a) :=
  .tup (.inr ⟨_,its,n,h,rfl,rfl,hz,v⟩) (r H) trivial
theorem a9B:bootBuiltins "enumerate" = some (.type "enumerate"):=by decide +kernel
theorem pY:bootBuiltins "range" = some (.type "range"):=by decide +kernel
end L4
namespace L4
open PySem PySem.Spec PyProof.Rows L2
theorem agI {K:Fg} {fd:FuncData} {ps:List Str} (h:∀ us:List Value,us.length=ps.length->bindArgs fd ⟨us,[]⟩=pure (ps.zip us)):Binds K fd ps []:=Binds.all h
end L4
namespace L5
open PySem PySem.Spec PyProof.Rows L2 L4
def onB (x:D) (f:Bool->Prop):Prop:=match x with
  | .bl k=>f k
  | _=>False
def onI (x:D) (f:Int->Prop):Prop:=match x with
  | .int k=>f k
  | _=>False
theorem axH {k:Bool} {f:Bool->Prop}:onB (.bl k) f=f k:=rfl
theorem aqR {k:Int} {f:Int->Prop}:onI (.int k) f=f k:=rfl
def a4O (xs:List D):Prop:=xs.length<=sizeLine
theorem axI:a4O []=True:=eq_true (show 0<=sizeLine by decide)
variable {a0:D}
theorem axJ:a4O [a0]=True:=eq_true (show 1<=sizeLine by decide)
variable {a1:D}
theorem axK:a4O [a0,a1]=True:=eq_true (show 2<=sizeLine by decide)
theorem axL {a2:D}:a4O [a0,a1,a2]=True:=eq_true (show 3<=sizeLine by decide)
variable {i j:Int}{C p q:Addr}{d:D}{o:Option D}{n:Nat}{r:R3}{Q:Bool->Gp->Prop}{T:String}{xs ys ds:List D}{z:Str}{b:Bool}
section
variable {t u:bD} {F:cO} {ρ:aK} {G:Gp} {R:fY} {te ta tb tc:cB} {tt tt':u9} {tA:tZ} {K:Fg}
theorem atQ:aL t u F ρ G=t { F with nx:=u F } ρ G:=rfl
theorem axM:bM F ρ G=F.nx ρ G:=rfl
theorem axN:dF te F ρ G=te ρ G fun _ G1=>F.nx ρ G1:=rfl
theorem aC4:bN te F ρ G=te ρ G F.rt:=rfl
theorem aC5:cA tt t u F ρ G=tt ρ G fun b G1=>if b=true then t F ρ G1 else u F ρ G1:=rfl
theorem aC6 {i:Nat}:bF i te F ρ G=te ρ G fun x G1=>F.nx (a0K ρ i x) G1:=rfl
theorem x_raise {EX:aK->aV}:wC EX C tA F ρ G=tA ρ G fun ds G1=>a4O ds/\EX ρ C G1:=rfl
theorem x_c:aX d ρ G R=R d G:=rfl
theorem axO:aB 0 (some d :: ρ) G R=R d G:=rfl
theorem axP:aB (n+1) (o :: ρ) G R=aB n ρ G R:=rfl
theorem alZ:a0K (o :: ρ) 0 d=some d :: ρ:=rfl
theorem am0:a0K (o :: ρ) (n+1) d=o :: a0K ρ n d:=rfl
theorem am1:rE (o :: ρ) 0=none :: ρ:=rfl
theorem am2:rE (o :: ρ) (n+1)=o :: rE ρ n:=rfl
theorem aG1:aD r ta tb ρ G R=ta ρ G fun x G1=>tb ρ G1 fun y G2=>r x y G2 R:=rfl
theorem axQ:aJ te ρ G Q=te ρ G fun x G1=>onB x fun k=>Q k G1:=rfl
theorem aqS {r':R3}:oE r r' ta tb tc ρ G R=ta ρ G fun x G1=>tb ρ G1 fun y G2=>r x y G2 fun z G3=>onB z fun k=>if k=true then tc ρ G3 fun w G4=>r' y w G4 R else R (.bl false) G3:=by
  unfold oE;congr 1;funext x G1;congr 1;funext y G2;congr 1;funext z G3;cases z with
  | bl k=>cases k <;> rfl
  | _=>rfl
theorem aC7:xA tt tt' ρ G Q=tt ρ G fun c G1=>if c=true then tt' ρ G1 Q else Q false G1:=rfl
theorem aG2:tY tt tt' ρ G Q=tt ρ G fun c G1=>if c=true then Q true G1 else tt' ρ G1 Q:=rfl
theorem aC8:oF tt ρ G Q=tt ρ G fun c G1=>Q (!c) G1:=rfl
theorem axR:m7 ta tb ρ G R=ta ρ G fun x G1=>onB x fun k=>if k=true then tb ρ G1 R else R (.bl false) G1:=by
  unfold m7;congr 1;funext x G1;cases x with
  | bl k=>cases k <;> rfl
  | _=>rfl
theorem axS:a3M ta ρ G R=ta ρ G fun x G1=>onB x fun k=>R (.bl (!k)) G1:=rfl
theorem aC9:a78 ta ρ G R=ta ρ G fun x G1=>onI x fun k=>R (.int (-k)) G1:=rfl
theorem aCA:aoZ tt ta tb ρ G R=tt ρ G fun c G1=>if c=true then ta ρ G1 R else tb ρ G1 R:=rfl
variable {Q:List D->Gp->Prop}
theorem aCB:aC ρ G Q=Q [] G:=rfl
theorem axT:aA te tA ρ G Q=te ρ G fun x G1=>tA ρ G1 fun xs G2=>Q (x :: xs) G2:=rfl
theorem aCC:cG tA ρ G R=tA ρ G fun xs G1=>a4O xs/\R (.tup xs) G1:=rfl
theorem aCD:cT tA ρ G R=tA ρ G fun xs G1=>a4O xs/\∀ p,G1 p=none->R (.ref p) (aM G1 p (.lst xs)):=rfl
theorem aCE:a8N ρ G R=∀ p,G p=none->R (.ref p) (aM G p (.jF false [])):=rfl
theorem x_call {sp:tG} {ex:aK->aV}:aY sp ex tA ρ G R=tA ρ G fun ds G1=>sp ds G1 R (ex ρ):=rfl
theorem aG3 {r:List D->Gp->fY->Prop}:cI r tA ρ G R=tA ρ G fun xs G1=>r xs G1 R:=rfl
theorem x_m {r:RM3}:tM3 T r te tA ρ G R=te ρ G fun x G1=>ab4 T G1 x/\tA ρ G1 fun xs G2=>r x xs G2 R:=rfl
theorem jB:ab4 "list" G (.ref p)=((aU G p).isSome=true):=by unfold ab4;simp
theorem axU {Q:Option Int->Gp->Prop}:a3N te ρ G Q=te ρ G fun x G1=>onI x fun k=>Q (some k) G1:=rfl
theorem am3:bZ (.int i) (.int j) G R=R (.int (i+j)) G:=rfl
theorem am4:bZ (.tup xs) (.tup ys) G R=(xs.length+ys.length<=sizeLine/\R (.tup (xs++ys)) G):=rfl
theorem aCF:uD (.int i) (.int j) G R=R (.int (i - j)) G:=rfl
theorem atR:xB (.int i) (.int j) G R=(ajP i j/\R (.int (i * j)) G):=rfl
theorem axV:jY (.int i) (.int j) G R=(auU i j/\R (.int (i / j)) G):=rfl
theorem aCG:gF (.int i) (.int j) G R=(0 < j/\R (.int (i % j)) G):=rfl
theorem x_lt:a6B (.int i) (.int j) G R=R (.bl (decide (i < j))) G:=rfl
theorem aG4:adW (.int i) (.int j) G R=R (.bl (decide (j < i))) G:=rfl
theorem x_ge:ap2 (.int i) (.int j) G R=R (.bl (decide (j<=i))) G:=rfl
theorem aG5:ai2 (.int i) (.int j) G R=R (.bl (decide (i<=j))) G:=rfl
theorem aqT:jG (.int i) (.int j) G R=R (.bl (i == j)) G:=by
  show (aO 20 (.int i)=true/\aO 20 (.int j)=true/\_)=_;simp [aO,eqP]
theorem aqU:lD (.int i) (.int j) G R=R (.bl (!(i == j))) G:=by
  show (aO 20 (.int i)=true/\aO 20 (.int j)=true/\_)=_;simp [aO,eqP]
theorem aqV:jG (.tup xs) (.tup ys) G R=(aO 20 (.tup xs)=true/\aO 20 (.tup ys)=true/\R (.bl (eqP (.tup xs) (.tup ys))) G):=rfl
theorem aqW:lD (.tup xs) (.tup ys) G R=(aO 20 (.tup xs)=true/\aO 20 (.tup ys)=true/\R (.bl (!eqP (.tup xs) (.tup ys))) G):=rfl
theorem aqX:dO [.str z] G R=(z.length<=sizeLine/\R (.int z.length) G):=rfl
theorem aqY:dO [.tup ds] G R=R (.int ds.length) G:=rfl
theorem dJ (h:aU G q=some ds):dO [.ref q] G R=R (.int ds.length) G:=by unfold dO;simp only [h]
theorem aCH:afX [.int i] G R=R (.int (if i < 0 then -i else i)) G:=rfl
theorem aqZ:a3T [.bl b] G R=R (.int (if b then 1 else 0)) G:=rfl
theorem aeF (h:atI xs i=some d):bL (.tup xs) (.int i) G R=R d G:=by unfold bL;simp only [h]
theorem yI (e:aU G p=some xs) (h:atI xs i=some d):bL (.ref p) (.int i) G R=R d G:=by unfold bL;simp only [e,h]
theorem abV:aF K [.non,.ty "int"] G R=R (.bl false) G:=by
  show ("int" ∈ cZ/\R (.bl (L2.subB "NoneType" "int")) G)=_;rw [show L2.subB "NoneType" "int" = false from by decide];simp [cZ]
theorem a9C:aF K [.non,.ty "bool"] G R=R (.bl false) G:=by
  show ("bool" ∈ cZ/\R (.bl (L2.subB "NoneType" "bool")) G)=_;rw [show L2.subB "NoneType" "bool" = false from by decide];simp [cZ]
theorem a6I:aF K [.non,.ty "tuple"] G R=R (.bl false) G:=by
  show ("tuple" ∈ cZ/\R (.bl (L2.subB "NoneType" "tuple")) G)=_;rw [show L2.subB "NoneType" "tuple" = false from by decide];simp [cZ]
theorem aeG:aF K [(.bl b),.ty "int"] G R=R (.bl true) G:=by
  show ("int" ∈ cZ/\R (.bl (L2.subB "bool" "int")) G)=_;rw [show L2.subB "bool" "int" = true from by decide];simp [cZ]
theorem abW:aF K [(.bl b),.ty "bool"] G R=R (.bl true) G:=by
  show ("bool" ∈ cZ/\R (.bl (L2.subB "bool" "bool")) G)=_;rw [show L2.subB "bool" "bool" = true from by decide];simp [cZ]
theorem a9D:aF K [(.bl b),.ty "tuple"] G R=R (.bl false) G:=by
  show ("tuple" ∈ cZ/\R (.bl (L2.subB "bool" "tuple")) G)=_;rw [show L2.subB "bool" "tuple" = false from by decide];simp [cZ]
theorem abX:aF K [(.int i),.ty "int"] G R=R (.bl true) G:=by
  show ("int" ∈ cZ/\R (.bl (L2.subB "int" "int")) G)=_;rw [show L2.subB "int" "int" = true from by decide];simp [cZ]
theorem a9E:aF K [(.int i),.ty "bool"] G R=R (.bl false) G:=by
  show ("bool" ∈ cZ/\R (.bl (L2.subB "int" "bool")) G)=_;rw [show L2.subB "int" "bool" = false from by decide];simp [cZ]
theorem a6J:aF K [(.int i),.ty "tuple"] G R=R (.bl false) G:=by
  show ("tuple" ∈ cZ/\R (.bl (L2.subB "int" "tuple")) G)=_;rw [show L2.subB "int" "tuple" = false from by decide];simp [cZ]
theorem abY:aF K [(.str z),.ty "int"] G R=R (.bl false) G:=by
  show ("int" ∈ cZ/\R (.bl (L2.subB "str" "int")) G)=_;rw [show L2.subB "str" "int" = false from by decide];simp [cZ]
theorem a9F:aF K [(.str z),.ty "bool"] G R=R (.bl false) G:=by
  show ("bool" ∈ cZ/\R (.bl (L2.subB "str" "bool")) G)=_;rw [show L2.subB "str" "bool" = false from by decide];simp [cZ]
theorem a6K:aF K [(.str z),.ty "tuple"] G R=R (.bl false) G:=by
  show ("tuple" ∈ cZ/\R (.bl (L2.subB "str" "tuple")) G)=_;rw [show L2.subB "str" "tuple" = false from by decide];simp [cZ]
theorem abZ:aF K [(.tup xs),.ty "int"] G R=R (.bl false) G:=by
  show ("int" ∈ cZ/\R (.bl (L2.subB "tuple" "int")) G)=_;rw [show L2.subB "tuple" "int" = false from by decide];simp [cZ]
theorem a9G:aF K [(.tup xs),.ty "bool"] G R=R (.bl false) G:=by
  show ("bool" ∈ cZ/\R (.bl (L2.subB "tuple" "bool")) G)=_;rw [show L2.subB "tuple" "bool" = false from by decide];simp [cZ]
theorem a6L:aF K [(.tup xs),.ty "tuple"] G R=R (.bl true) G:=by
  show ("tuple" ∈ cZ/\R (.bl (L2.subB "tuple" "tuple")) G)=_;rw [show L2.subB "tuple" "tuple" = true from by decide];simp [cZ]
theorem a6M (h:G q=some (.lst xs)):aF K [.ref q,.ty "list"] G R=R (.bl true) G:=by
  have e:tyD G (.ref q)=some "list" := by unfold tyD;simp only [h]
  unfold aF;simp only [e];rw [show L2.subB "list" "list" = true from by decide];simp [cZ]
theorem a8L {C':Addr} (h:G q=some (.exn C)) (e:ExC K C) (k:qw K (.ref C) (.ref C')=some b) (z:R (.bl b) G):aF K [.ref q,.ref C'] G R:=by
  unfold aF;simp only [exD,h];exact ⟨b,e,k,z⟩
end
variable {G:Gp}
theorem aH (h:G p=some (.lst xs)):aU G p=some xs:=by unfold aU;rw [h]
theorem uO (h:G p=some (.rol xs)):aU G p=some xs:=by unfold aU;rw [h]
theorem bQ:aU (aM G p (.lst xs)) p=some xs:=aH aG
theorem gP {P Q:Prop} (h1:b=true->P) (h2:b=false->Q):if b=true then P else Q:=by
  cases b
  . exact h2 rfl
  . exact h1 rfl
def kn (G:Gp) (d:D):Prop:=(tyD G d).isSome=true
theorem am5 (h:kn G (.ref q)):tyD G (.ref q)=some "list" ∨ tyD G (.ref q)=some "dict" := by
  unfold kn at h
  have e:tyD G (.ref q)=(match G q with
    | some (.lst _)=>some "list"
    | some (.rol _)=>some "list"
    | some (.jF _ _)=>some "dict"
    | _=>none):=rfl
  rw [e] at h ⊢;split at h
  . exact .inl rfl
  . exact .inl rfl
  . exact .inr rfl
  . simp at h
theorem am6 {b:List D}:kn G (.tup b):=rfl
variable {a:D}
section
variable {G:Gp} {R:fY} {K:Fg} {q:Addr}
theorem am7 {x:D} {n:String} (e:tyD G x=some T) (hn:n∈cZ):aF K [x,.ty n] G R=R (.bl (L2.subB T n)) G:=by
  show (match tyD G x with
    | some T=>n∈cZ/\R (.bl (L2.subB T n)) G
    | none=>_)=_
  rw [e];exact propext ⟨fun h=>h.2,fun h=>⟨hn,h⟩⟩
theorem aeH (h:kn G (.ref q)):aF K [.ref q,.ty "int"] G R=R (.bl false) G:=by
  rcases am5 h with e | e <;> rw [am7 e (by decide)] <;> rfl
theorem zQ (h:kn G (.ref q)):aF K [.ref q,.ty "tuple"] G R=R (.bl false) G:=by
  rcases am5 h with e | e <;> rw [am7 e (by decide)] <;> rfl
theorem at0 {α:Type} {a:α} {xs:List α}:atI (a :: xs) 0=some a:=by
  unfold atI ixN;simp
theorem atS {α:Type} {a:α} {xs:List α}:atI (a :: xs) ((n+1:Nat):Int)=atI xs (n:Int):=by
  unfold atI ixN;have h0:(0:Int)<=((n+1:Nat):Int):=by omega
  have h1:(0:Int)<=(n:Int):=by omega
  rw [if_pos h0,if_pos h1];by_cases h:n < xs.length
  . have a1:((n+1:Nat):Int) < ((a :: xs).length:Int):=by simp;omega
    have a2:(n:Int) < (xs.length:Int):=by omega
    rw [if_pos a1,if_pos a2];simp
  . have a1:¬ ((n+1:Nat):Int) < ((a :: xs).length:Int):=by simp;omega
    have a2:¬ (n:Int) < (xs.length:Int):=by omega
    rw [if_neg a1,if_neg a2];rfl
theorem uP {α:Type} {xs:List α}:atI xs (n:Int)=xs[n]?:=by
  unfold atI ixN;rw [if_pos (by omega)];by_cases h:n < xs.length
  . rw [if_pos (by omega)];simp
  . rw [if_neg (by omega)];simp at h;simp [h]
theorem ar0:bL (.tup (a :: xs)) (.int 0) G R=R a G:=aeF at0
variable {b:D}
theorem ar3:bL (.tup (a :: b :: xs)) (.int 1) G R=R b G:=aeF (i:=((1:Nat):Int)) (by rw [atS,uP];rfl)
theorem ar4 {c:D}:bL (.tup (a :: b :: c :: xs)) (.int 2) G R=R c G:=aeF (i:=((2:Nat):Int)) (by rw [atS,uP];rfl)
end
section
variable {G:Gp} {R:fY} {K:Fg} {q:Addr}
end
section
variable {G:Gp} {R:fY} {K:Fg}
theorem mH {a b:Addr} (h1:aU G a=some xs) (h2:aU G b=some ys) (s1:xs.all (aO 20)=true) (s2:ys.all (aO 20)=true):jG (.ref a) (.ref b) G R=R (.bl (eX xs ys)) G:=by
  show eqG G (.ref a) (.ref b) (fun b=>R (.bl b) G)=_;unfold eqG;simp only [h1,h2,s1,s2,true_and]
theorem gB {a b:Addr} (h1:aU G a=some xs) (h2:aU G b=some ys) (s1:xs.all (aO 20)=true) (s2:ys.all (aO 20)=true):lD (.ref a) (.ref b) G R=R (.bl (!eX xs ys)) G:=by
  show eqG G (.ref a) (.ref b) (fun b=>R (.bl (!b)) G)=_;unfold eqG;simp only [h1,h2,s1,s2,true_and]
end
section
variable {G:Gp} {R:fY} {K:Fg} {i j:Int}
theorem axW (h:-18446744073709551616 < i/\i < 18446744073709551616):xB (.int i) (.int j) G R=R (.int (i * j)) G:=by
  rw [atR];exact propext ⟨fun z=>z.2,fun z=>⟨.inl ⟨by have:=h.1;omega,by have:=h.2;omega⟩,z⟩⟩
theorem axX (h:-18446744073709551616 < j/\j < 18446744073709551616):xB (.int i) (.int j) G R=R (.int (i * j)) G:=by
  rw [atR];exact propext ⟨fun z=>z.2,fun z=>⟨.inr ⟨by have:=h.1;omega,by have:=h.2;omega⟩,z⟩⟩
theorem ar5 (h:0 < j/\j < 1073741824):jY (.int i) (.int j) G R=R (.int (i / j)) G:=by
  rw [axV];exact propext ⟨fun z=>z.2,fun z=>⟨h,z⟩⟩
theorem axY (h:0 < j):gF (.int i) (.int j) G R=R (.int (i % j)) G:=by
  rw [aCG];exact propext ⟨fun z=>z.2,fun z=>⟨h,z⟩⟩
end
section
variable {G:Gp} {R:fY} {K:Fg} {i j:Int}
end
section
variable {P Q:Prop} {b c:Bool} {α:Type} {a:α} {l:List α}
theorem aeI:(True/\P)=P:=true_and P
theorem aeJ:(!true)=false:=rfl
theorem ac0:(!false)=true:=rfl
theorem am8:((!b)=true)=(b=false):=by cases b <;> simp
theorem aiG:(if True then P else Q)=P:=if_true ..
theorem aeK:(if False then P else Q)=Q:=if_false ..
theorem aCI:(false=true)=False:=by simp
theorem aCJ:(true=false)=False:=by simp
theorem aeL:(a :: l).length=l.length+1:=jl
theorem aiH:([]:List α).length=0:=rfl
theorem aiI {β:Type} {f:α->β}:(l.map f).length=l.length:=dg ..
end
end L5
namespace L6
open PySem PySem.Spec PyProof.Rows L2 L4 L5
def axZ (x:D) (G:Gp) (Q:Src->Gp->Prop):Prop:=match x with
  | .ref p=>(match aU G p with
    | some xs=>Q (.lst p xs) G
    | none=>False)
  | .tup xs=>Q (.imm xs) G
  | .str z=>Q (.imm (signs z)) G
  | _=>False
def agJ (x:D) (G:Gp) (Q:Src->Gp->Prop):Prop:=match x with
  | .ref p=>(match aU G p with
    | some xs=>Q (.lst p xs) G
    | none=>False)
  | .str z=>Q (.imm (signs z)) G
  | .tup xs=>xs.all scD=true/\∀ a,(G a=none∨G a=some (.tpl xs))->Q (.tpl a xs) (aM G a (.tpl xs))
  | _=>False
def atU (xs:List D) (G:Gp) (Q:Src->Gp->Prop):Prop:=match xs with
  | [.int j]=>-(2 ^ 62)<=j/\j < 2 ^ 62/\Q (.imm (zH 0 j)) G
  | _=>False
variable {te:cB}{ρ:aK}{G:Gp}{R:fY}
theorem ay0 {td:cB}:ag5 te td ρ G R=te ρ G fun x G1=>td ρ G1 fun d G2=>uJ x d G2 R:=rfl
variable {p:Addr}{d:D}
theorem ay1 {ns:List Int} (hp:aU G p=some (ns.map D.int)) (h0:ns=[]->R d G) (h:∀ M,M∈ns->(∀ a∈ns,a<=M)->R (.int M) G):uJ (.ref p) d G R:=by
  unfold uJ;simp only [hp];exact ⟨ns,rfl,h0,h⟩
section
variable {te:cB} {ta:tZ} {ρ:aK} {G:Gp} {Q:Src->Gp->Prop} {p:Addr} {xs:List D} {z:Str} {i j:Int}
theorem ar6:rG te ρ G Q=te ρ G fun x G1=>axZ x G1 Q:=rfl
theorem aCK:a8T te ρ G Q=te ρ G fun x G1=>agJ x G1 Q:=rfl
theorem ay2:m8 ta ρ G Q=ta ρ G fun xs G1=>atU xs G1 Q:=rfl
theorem pZ (h:aU G p=some xs):axZ (.ref p) G Q=Q (.lst p xs) G:=by unfold axZ;simp only [h]
theorem qC (h:aU G p=some xs):agJ (.ref p) G Q=Q (.lst p xs) G:=by unfold agJ;simp only [h]
theorem ar7 (h:-4611686018427387904<=j/\j < 4611686018427387904):atU [.int j] G Q=Q (.imm (zH 0 j)) G:=by
  show (_/\_/\_)=_;exact propext ⟨fun z=>z.2.2,fun z=>⟨by omega,by omega,z⟩⟩
end
def ac1 (dv:D->Option (List D)) (src:Src) (tc:u9) (te:cB) (ρ:aK) (G1:Gp) (R:fY):Prop:=src.items.length < sizeLine/\∀ p,G1 p=none->∃ P:Nat->List D->Gp->Prop,P 0 [] (aM G1 p (.lst [])) /\
  (∀ k ds G,k<=src.items.length->P k ds G->src.ok G/\G p=some (.lst ds)/\ds.length<=k) /\
  (∀ k d ds G,src.items[k]?=some d->P k ds G->∃ ys,dv d=some ys/\tc (ys.map some++ρ) G fun b G2=>if b=true then te (ys.map some++ρ) G2 fun y G3=>G3 p=some (.lst ds)/\P (k+1) (ds++[y]) (aM G3 p (.lst (ds++[y]))) else P (k+1) ds G2) /\
  ∀ ds G,P src.items.length ds G->∃ G0,Le G0 G/\R (.ref p) G0
variable {dv:D->Option (List D)}{ti:TI3}{tc:u9}
theorem ay3:zJ dv ti tc te ρ G R=ti ρ G fun src G1=>ac1 dv src tc te ρ G1 R:=rfl
variable {G':Gp}{xs:List D}
theorem bG (l:Le G G') (h:aU G p=some xs):aU G' p=some xs:=by
  unfold aU at h ⊢;split at h
  . rename_i e;rw [l _ _ e];exact h
  . rename_i e;rw [l _ _ e];exact h
  . cases h
variable {src:Src}
theorem aCL (l:Le G G') (h:src.ok G):src.ok G':=by
  cases src with
  | lst p xs=>exact bG l h
  | imm xs=>trivial
  | zip p q xs ys=>exact ⟨bG l h.1,bG l h.2⟩
  | itm p o kvs=>exact l _ _ h
  | key p o t kvs=>exact l _ _ h
  | tpl p xs=>exact l _ _ h
  | enu p xs=>exact l _ _ h
variable {o:GO}
theorem ay4 {o':GO} (l:Le (aM G p o) G'):Le (aM G p o') (aM G' p o'):=fun a u e=>by
  by_cases h:a=p
  . subst h;rw [aG] at e ⊢;exact e
  . rw [bB h] at e ⊢;exact l a u (by rw [bB h];exact e)
theorem ac2 (v:D->List D) (c:D->Bool) (f:D->D) (hl:src.items.length < sizeLine) (hok:src.ok G) (hv:∀ d∈src.items,dv d=some (v d))
    (hc:∀ d∈src.items,∀ G',Le G G'->∀ Q:Bool->Gp->Prop,(∀ G'',Le G' G''->Q (c d) G'')->tc ((v d).map some++ρ) G' Q)
    (he:∀ d∈src.items,c d=true->∀ G',Le G G'->∀ Q:D->Gp->Prop,(∀ G'',Le G' G''->Q (f d) G'')->te ((v d).map some++ρ) G' Q)
    (h:∀ p,G p=none->R (.ref p) (aM G p (.lst ((src.items.filter c).map f)))):ac1 dv src tc te ρ G R:=by
  refine ⟨hl,fun p hp=>⟨fun k ds G'=>ds=((src.items.take k).filter c).map f/\Le (aM G p (.lst ds)) G',⟨rfl,.refl _⟩,fun k ds G' hk ⟨e,l⟩=>?_,fun k d ds G' hd ⟨e,l⟩=>?_,fun ds G' ⟨e,l⟩=>?_⟩⟩
  . refine ⟨aCL ((Le.new hp).trans l) hok,l p _ aG,?_⟩;rw [e,dg];exact nj (List.length_filter_le _ _) (by rw [mz];omega)
  . have hm:d∈src.items:=iz hd
    have ht:src.items.take (k+1)=src.items.take k++[d]:=by
      rw [List.take_succ,hd];rfl
    refine ⟨v d,hv d hm,hc d hm G' ((Le.new hp).trans l) _ fun G2 l2=>?_⟩;cases hcd:c d with
    | true =>
      rw [if_pos rfl];refine he d hm hcd G2 (((Le.new hp).trans l).trans l2) _ fun G3 l3=>?_;have l4:=(l.trans l2).trans l3;refine ⟨l4 p _ aG,?_,ay4 l4⟩;rw [ht,List.filter_append,iu,← e];simp [hcd]
    | false =>
      rw [if_neg (by decide)];refine ⟨?_,l.trans l2⟩;rw [ht,List.filter_append,iu,← e];simp [hcd]
  . rw [tu] at e;subst e;exact ⟨_,l,h p hp⟩
theorem a9H (c:D->Bool) (f:D->D) (hl:src.items.length < sizeLine) (hok:src.ok G)
    (hc:∀ d∈src.items,∀ G',Le G G'->∀ Q:Bool->Gp->Prop,(∀ G'',Le G' G''->Q (c d) G'')->tc (some d :: ρ) G' Q)
    (he:∀ d∈src.items,c d=true->∀ G',Le G G'->∀ Q:D->Gp->Prop,(∀ G'',Le G' G''->Q (f d) G'')->te (some d :: ρ) G' Q)
    (h:∀ p,G p=none->R (.ref p) (aM G p (.lst ((src.items.filter c).map f)))):ac1 ae1 src tc te ρ G R:=ac2 (fun d=>[d]) c f hl hok (fun _ _=>rfl) hc he h
theorem comp_map (f:D->D) (hl:src.items.length < sizeLine) (hok:src.ok G)
    (he:∀ d∈src.items,∀ G',Le G G'->∀ Q:D->Gp->Prop,(∀ G'',Le G' G''->Q (f d) G'')->te (some d :: ρ) G' Q)
    (h:∀ p,G p=none->R (.ref p) (aM G p (.lst (src.items.map f)))):ac1 ae1 src uI te ρ G R :=
  a9H (fun _=>true) f hl hok (fun d _ G' _ Q h=>h G' (.refl _)) (fun d hd _=>he d hd) fun p hp=>by
    have:src.items.filter (fun _=>true)=src.items:=yq.mpr fun _ _=>rfl;rw [this];exact h p hp
def a7S (src:Src) (tg:TG3) (tb:bD) (F:cO) (ρ:aK) (G1:Gp):Prop:=∃ P:Nat->aK->Gp->Prop,P 0 ρ G1/\(∀ k ρ G,k<=src.items.length->P k ρ G->src.ok G) /\
  (∀ k d ρ G,src.items[k]?=some d->P k ρ G->tg d ρ fun ρ2=>tb { F with nx:=P (k+1),ct:=P (k+1),bk:=F.nx } ρ2 G)/\∀ ρ G,P src.items.length ρ G->F.nx ρ G
variable {tg:TG3}{tb:bD}{F:cO}
theorem ay5:fZ ti tg tb F ρ G=ti ρ G fun src G1=>a7S src tg tb F ρ G1:=rfl
variable {i:Nat}{Q:aK->Prop}
theorem ar8:gO i d ρ Q=Q (a0K ρ i d):=rfl
variable {is:List Nat}{ds:List D}
theorem a4P (h:ds.length=is.length):xC is (.tup ds) ρ Q=Q (a1K ρ is ds):=propext ⟨fun z=>z.2,fun z=>⟨h,z⟩⟩
theorem ar9:a1K ρ is []=ρ:=by cases is <;> rfl
theorem agK:a1K ρ (i :: is) (d :: ds)=a1K (a0K ρ i d) is ds:=rfl
variable {j:Int}
theorem uQ (P:Nat->aK->Gp->Prop) (h0:P 0 ρ G)
    (hb:∀ (k:Nat) ρ G,(k:Int) < j->P k ρ G->tg (.int k) ρ fun ρ2=>tb { F with nx:=P (k+1),ct:=P (k+1),bk:=F.nx } ρ2 G) (he:∀ ρ G,P j.toNat ρ G->F.nx ρ G):a7S (.imm (zH 0 j)) tg tb F ρ G:=by
  have hlen:(Src.imm (zH 0 j)).items.length=j.toNat:=by simp [Src.items,zH]
  refine ⟨P,h0,fun _ _ _ _ _=>trivial,fun k d ρ G hd p=>?_,fun ρ G p=>he ρ G (hlen ▸ p)⟩;have hk:k < j.toNat:=by rw [← hlen];exact (bh.mp hd).1
  have e:d = .int k:=by
    have:(zH 0 j)[k]?=some d:=hd;unfold zH at this;rw [ju,List.getElem?_range (by omega)] at this;simp at this;exact this.symm
  subst e;exact hb k ρ G (by omega) p
variable {q:Addr}
theorem uR (P:Nat->aK->Gp->Prop) (h0:P 0 ρ G) (hs:∀ k ρ G,P k ρ G->aU G q=some xs)
    (hb:∀ k d ρ G,xs[k]?=some d->P k ρ G->tg d ρ fun ρ2=>tb { F with nx:=P (k+1),ct:=P (k+1),bk:=F.nx } ρ2 G) (he:∀ ρ G,P xs.length ρ G->F.nx ρ G):a7S (.lst q xs) tg tb F ρ G :=
  ⟨P,h0,fun k ρ G _ p=>hs k ρ G p,hb,he⟩
variable {b:Addr}{es:List D}
section
variable {G:Gp} {R:fY}
theorem gQ (h:G p=some (.lst ds)) (hl:ds.length < sizeLine):cP (.ref p) [d] G R=R .non (aM G p (.lst (ds++[d]))):=by
  unfold cP;simp only [h,hl,true_and]
theorem am9 (h:G p=some (.lst ds)) (h2:G b=some (.lst es)) (hl:ds.length+es.length<=sizeLine):uH (.ref p) [.ref b] G R=R .non (aM G p (.lst (ds++es))):=by
  unfold uH;simp only [h,h2,hl,true_and]
theorem agL (h:G p=some (.lst ds)) (h2:G b=some (.lst es)) (hl:ds.length+es.length<=sizeLine):bZ (.ref p) (.ref b) G R=∀ q,G q=none->R (.ref q) (aM G q (.lst (ds++es))):=by
  unfold bZ;simp only [h,h2,hl,true_and]
theorem ac3 (h:aU G q=some ds):a0O [.ref q] G R=∀ l,G l=none->R (.ref l) (aM G l (.lst ds)):=by
  unfold a0O;simp only [h]
end
theorem yJ {a:Addr} (h:G a=some o) (n:G p=none):a≠p:=fun e=>by subst e;rw [h] at n;cases n
theorem atV (l:Le G G') (h:kn G d):kn G' d:=by
  cases d with
  | ref q =>
    unfold kn tyD at h ⊢;dsimp only at h ⊢;split at h
    . rename_i e;rw [l _ _ e];rfl
    . rename_i e;rw [l _ _ e];rfl
    . rename_i e;rw [l _ _ e];rfl
    . cases h
  | _=>exact h
theorem arA {i:Int}:(zH i j).length=(j - i).toNat:=by simp [zH]
section
variable {G:Gp} {R:fY} {F:cO} {ρ:aK}
theorem ay6:a8U is te F ρ G=te ρ G fun d G1=>xC is d ρ fun ρ2=>F.nx ρ2 G1:=rfl
theorem arB {c:u9}:a2Q c tb F ρ G=∃ W:Nat->aK->Gp->Prop,(∃ m,W m ρ G)/\∀ m ρ G,W m ρ G->c ρ G fun b G1=>if b=true then tb { F with nx:=fun ρ' G'=>∃ m',m' < m/\W m' ρ' G',ct:=fun ρ' G'=>∃ m',m' < m/\W m' ρ' G',bk:=F.nx } ρ G1 else F.nx ρ G1:=rfl
end
end L6
namespace L7
open PySem PySem.Spec PyProof.Rows L2 L4 L5 L6
section
variable {ρ:aK} {G:Gp} {R:fY} {F:cO} {p:Addr}
theorem aCM {te:cB} {tk:TO3}:ag9 te tk ρ G R=te ρ G fun x G1=>tk ρ G1 fun o G2=>o=some (-1)/\a7I x G2 R:=rfl
theorem aCN {ds:List D} (h:aU G p=some ds):a7I (.ref p) G R=∀ q,G q=none->R (.ref q) (aM G q (.lst ds.reverse)):=by
  unfold L2.a7I;simp only [h]
theorem aCO {i:Nat} {t:bD}:a7K i t F ρ G=t { nx:=fun ρ G=>F.nx (rE ρ i) G,rt:=F.rt,bk:=fun ρ G=>F.bk (rE ρ i) G,ct:=fun ρ G=>F.ct (rE ρ i) G } (rE ρ i) G:=rfl
theorem ay7 {to ti tv:cB}:a8X to ti tv F ρ G=tv ρ G fun v G1=>to ρ G1 fun x G2=>ti ρ G2 fun y G3=>abG x y v F ρ G3:=rfl
end
end L7
namespace L8
open PySem PySem.Spec PyProof.Rows L2 L4 L5 L6 L7
variable {kvs:List (DK×D)}{y d:D}
section
variable {ρ:aK} {G:Gp} {R:fY} {F:cO} {p C:Addr} {f m:Str} {fs:List (Str×D)}
theorem arC {to te tf:cB}:a2U to te tf ρ G R=to ρ G fun x G1=>a0V x G1/\te ρ G1 fun y G2=>tf ρ G2 fun z G3=>pW x y G3 fun _ _ kvs k=>R ((mD kvs k).getD z) G3:=rfl
theorem amA {t:Bool} (h:G p=some (.jF t kvs)):a0V (.ref p) G=True:=by
  unfold L2.a0V;simp only [h]
theorem a4Q {t:Bool} {k:DK} {P:Addr->Bool->List (DK×D)->DK->Prop} (h:G p=some (.jF t kvs)) (hk:a6G y=some k) (ht:xD k=t):pW (.ref p) y G P=P p t kvs k:=by
  unfold L2.pW;simp only [h,hk];exact propext ⟨fun z=>z.2,fun z=>⟨ht,z⟩⟩
theorem aiJ {t:Bool} {k:DK} {P:List (DK×D)->DK->Prop} (h:a3Z G p=some (t,kvs)) (hk:a6G y=some k) (ht:xD k=t):a4A (.ref p) y G P=P kvs k:=by
  unfold L2.a4A;simp only [h,hk,ht,true_and]
theorem aiK {t:Bool} (h:G p=some (.jF t kvs)):a3Z G p=some (t,kvs):=by unfold L2.a3Z;rw [h]
theorem amB {t:Bool} {k:DK} (h:a3Z G p=some (t,kvs)) (hk:a6G y=some k) (ht:xD k=t) (e:mD kvs k=some d):a0T (.ref p) y G R=R d G:=by
  unfold L2.a0T;rw [aiJ h hk ht];simp only [e]
theorem arD {t:Bool} {k:DK} (h:G p=some (.jF t kvs)) (hk:a6G y=some k) (ht:xD k=t) (e:mD kvs k=some d):a0T (.ref p) y G R=R d G:=amB (aiK h) hk ht e
end
end L8
namespace L9
open PySem PySem.Spec PyProof.Rows L2 L4 L5 L6 L7 L8
section
variable {ρ:aK} {G:Gp} {R:fY} {F:cO} {p:Addr}
theorem ay8 {t:Bool} {tk tv:cB}:a92 t tk tv ρ G R=∀ p,G p=none->tk ρ (aM G p (.jF t [])) fun y G1=>tv ρ G1 fun v G2=>pW (.ref p) y G2 fun a t' kvs k=>kvs.length < sizeLine/\R (.ref p) (aM G2 a (.jF t' (zL kvs k v))):=rfl
theorem zR {i:Int}:a6G (.int i)=some (.inl (.inl i)):=rfl
theorem arE {t:Bool} {y v:D} {k:DK} {kvs:List (DK×D)} (h:G p=some (.jF t kvs)) (hk:a6G y=some k) (ht:xD k=t) (hl:kvs.length < sizeLine):abG (.ref p) y v F ρ G=F.nx ρ (aM G p (.jF t (zL kvs k v))):=by
  unfold L2.abG;rw [a4Q h hk ht];exact propext ⟨fun w=>w.2,fun w=>⟨hl,w⟩⟩
end
end L9
namespace L10
open PySem PySem.Spec PyProof.Rows L2 L4 L5 L6
section
variable {ρ:aK} {G:Gp} {F:cO} {p:Addr} {al t:Bool} {od:Obj} {kvs:List (DK×D)} {Q:Src->Gp->Prop} {tg:TG3} {tb:bD}
theorem aiL {to:cB}:lF al to ρ G Q=to ρ G fun x G1=>a4G al x G1 Q:=rfl
theorem arF (h:G p=some (.jF false kvs)):a4G al (.ref p) G Q=∀ od,Q (.itm p od kvs) (aM G p (.rdc od false kvs)):=by
  unfold L2.a4G;simp only [h]
def atX (src:Src) (tg:TG3) (tb:bD) (F:cO) (ρ:aK) (G1:Gp):Prop:=∃ P:Nat->aK->Gp->Prop,P 0 ρ G1/\(∀ k ρ G,k<=src.items.length->P k ρ G->src.ok G) /\
  (∀ k d ρ G,src.items[k]?=some d->P k ρ G->tg d ρ fun ρ2=>tb { F with nx:=P (k+1),ct:=P (k+1),bk:=fun ρ G=>src.ok G/\F.nx ρ (src.ae8 G) } ρ2 G)/\∀ ρ G,P src.items.length ρ G->F.nx ρ (src.ae8 G)
theorem ay9 {ti:TI3}:a2V ti tg tb F ρ G=ti ρ G fun src G1=>atX src tg tb F ρ G1:=rfl
theorem a4R {α β:Type} {f:α->β} {l:List α} {k:Nat} {d:β} (h:(l.map f)[k]?=some d):∃ q,l[k]?=some q/\f q=d:=by
  rw [ju] at h;cases e:l[k]? with
  | none=>rw [e] at h;cases h
  | some q=>rw [e] at h;exact ⟨q,rfl,dj.inj h⟩
theorem amC (P:Nat->aK->Gp->Prop) (h0:P 0 ρ G) (hs:∀ k ρ G,P k ρ G->G p=some (.rdc od false kvs))
    (hb:∀ k q ρ G,kvs[k]?=some q->P k ρ G->tg (.tup [dkD q.1,q.2]) ρ fun ρ2=>tb { F with nx:=P (k+1),ct:=P (k+1),bk:=fun ρ G=>G p=some (.rdc od false kvs)/\F.nx ρ (aM G p (.jF false kvs)) } ρ2 G)
    (he:∀ ρ G,P kvs.length ρ G->F.nx ρ (aM G p (.jF false kvs))):atX (.itm p od kvs) tg tb F ρ G :=
  ⟨P,h0,fun k ρ G _ q=>hs k ρ G q,fun k d ρ G e q=>by obtain ⟨z,e1,rfl⟩:=a4R e;exact hb k z ρ G e1 q,fun ρ G q=>he ρ G (by simpa [Src.items] using q)⟩
end
end L10
namespace L11
open PySem PySem.Spec PyProof.Rows L2 L4 L5 L6
def atY (xs:List D) (G1:Gp) (R:Src->Gp->Prop):Prop:=match xs with
  | [.tup ds]=>ds.all scD=true/\∀ a,(G1 a=none∨G1 a=some (.tpl ds))->R (.enu a ds) (aM G1 a (.tpl ds))
  | _=>False
variable {ns ms:List Int}
section
variable {ρ:aK} {G:Gp} {F:cO} {p:Addr} {xs:List D} {Q:Src->Gp->Prop} {tg:TG3} {tb:bD} {R:fY}
theorem amD {ta:tZ}:a95 ta ρ G Q=ta ρ G fun xs G1=>atY xs G1 Q:=rfl
theorem arG (ns:List Int):(ns.map D.int).all scD=true:=by
  rw [gj];rintro d hd;obtain ⟨n,_,rfl⟩:=dw.mp hd;rfl
theorem amE {a:Addr} (h:G a=none∨G a=some (.tpl xs)):Le G (aM G a (.tpl xs)):=fun b u e=>by
  by_cases c:b=a
  . subst c;rcases h with h | h
    . rw [h] at e;cases e
    . rw [aG];rw [h] at e;exact e
  . rw [bB c];exact e
theorem amF (h:∀ a,(G a=none∨G a=some (.tpl (ns.map D.int)))->Q (.enu a (ns.map D.int)) (aM G a (.tpl (ns.map D.int)))):atY [.tup (ns.map D.int)] G Q:=⟨arG ns,h⟩
theorem aiM (hs:xs.all scD=true) (h:∀ a,(G a=none∨G a=some (.tpl xs))->Q (.tpl a xs) (aM G a (.tpl xs))):agJ (.tup xs) G Q:=⟨hs,h⟩
theorem amG (P:Nat->aK->Gp->Prop) (h0:P 0 ρ G) (hs:∀ k ρ G,P k ρ G->G p=some (.tpl xs))
    (hb:∀ k d ρ G,xs[k]?=some d->P k ρ G->tg d ρ fun ρ2=>tb { F with nx:=P (k+1),ct:=P (k+1),bk:=F.nx } ρ2 G) (he:∀ ρ G,P xs.length ρ G->F.nx ρ G):a7S (.tpl p xs) tg tb F ρ G :=
  ⟨P,h0,fun k ρ G _ q=>hs k ρ G q,fun k d ρ G e q=>hb k d ρ G e q,fun ρ G q=>he ρ G q⟩
theorem amH (P:Nat->aK->Gp->Prop) (h0:P 0 ρ G) (hs:∀ k ρ G,P k ρ G->G p=some (.tpl xs))
    (hb:∀ k d ρ G,xs[k]?=some d->P k ρ G->tg (.tup [.int k,d]) ρ fun ρ2=>tb { F with nx:=P (k+1),ct:=P (k+1),bk:=F.nx } ρ2 G) (he:∀ ρ G,P xs.length ρ G->F.nx ρ G):a7S (.enu p xs) tg tb F ρ G:=by
  refine ⟨P,h0,fun k ρ G _ q=>hs k ρ G q,fun k d ρ G e q=>?_,fun ρ G q=>he ρ G (by rw [← a94];exact q)⟩
  have hk:k < xs.length:=by
    have:=(bh.mp e).1;rw [show (Src.enu p xs).items=enm xs from rfl,a94] at this;exact this
  have e2:=agB (aq hk);rw [show (Src.enu p xs).items=enm xs from rfl,e2] at e;cases e;exact hb k _ ρ G (aq hk) q
theorem agM {a b:Int} (h1:ltP b ms a ns=true->R (.tup [.int b,.tup (ms.map D.int)]) G) (h2:ltP b ms a ns=false->R (.tup [.int a,.tup (ns.map D.int)]) G):a4K [.tup [.int a,.tup (ns.map D.int)],.tup [.int b,.tup (ms.map D.int)]] G R:=by
  refine ⟨ns,ms,rfl,rfl,?_⟩;cases e:ltP b ms a ns with
  | true=>exact h1 e
  | false=>exact h2 e
theorem aCP {a b:Int} (h:ltP b ms a ns=true):b<=a:=by
  unfold L2.ltP at h;split at h
  . omega
  . have:=of_decide_eq_true h;omega
theorem aCQ {a b:Int} (h:ltP b ms a ns=false):a<=b:=by
  unfold L2.ltP at h;split at h
  . omega
  . have:=of_decide_eq_false h;omega
end
end L11
namespace Law
open PySem PySem.Spec PyProof.Rows L2 L4
def top (i:Nat):Stmt:=PySem.Challenge.pw_depot_k73_whole_walks_by_the_rule.main.body.getD i (.Pass ⟨0,0,0,0⟩)
abbrev a4S:Stmt:=top 7
abbrev a7T:Stmt:=top 8
abbrev a7U:Stmt:=top 11
abbrev a1M:Stmt:=top 12
abbrev ac4:Stmt:=top 13
abbrev a4T:Stmt:=top 15
abbrev oH:Stmt:=top 18
abbrev a4U:Stmt:=top 19
abbrev uT:Stmt:=top 20
abbrev xF:Stmt:=top 21
abbrev tK:Stmt:=top 22
abbrev uU:Stmt:=top 23
abbrev agN:Stmt:=top 25
abbrev a4V:Stmt:=top 24
abbrev amI:Stmt:=top 26
abbrev uV:Stmt:=top 28
abbrev zT:Stmt:=top 29
abbrev a1N:Stmt:=top 30
abbrev a1O:Stmt:=top 31
abbrev zU:Stmt:=top 32
abbrev a1P:Stmt:=top 33
abbrev zV:Stmt:=top 34
abbrev a1Q:Stmt:=top 35
abbrev a4W:Stmt:=top 36
abbrev ac5:Stmt:=top 37
set_option genInjectivity false in
structure aZ where
  yK:Addr
  mJ:FuncData
  a0Y:Addr
  qD:FuncData
  a0Z:Addr
  qF:FuncData
  uW:Addr
  jH:FuncData
  a4X:Addr
  uX:FuncData
  yL:Addr
  mK:FuncData
  gR:Addr
  cL:FuncData
  yM:Addr
  mL:FuncData
  mQ:Addr
  dR:FuncData
  pF:Addr
  fD:FuncData
  jZ:Addr
  d8:FuncData
  mR:Addr
  dU:FuncData
  a9I:Addr
  zW:FuncData
  yN:Addr
  mU:FuncData
  aeM:Addr
  a4Y:FuncData
  mV:Addr
  dW:FuncData
  rK:Addr
  gU:FuncData
  uY:Addr
  jJ:FuncData
  uZ:Addr
  jK:FuncData
  rM:Addr
  gW:FuncData
  v7:Addr
  jL:FuncData
  rN:Addr
  gY:FuncData
  v8:Addr
  jM:FuncData
  yO:Addr
  mW:FuncData
  a1R:Addr
  amJ:FuncData
  gZ:Addr
  jN:Addr
  rO:Addr
def rP (K:Fg) (A:aZ) (ex:aK->aV):bD :=
    (bN (m7 (cI (aF K) (aA (aB 0) (aA (aX (.ty "int")) aC))) (m7 (a3M (cI (aF K) (aA (aB 0) (aA (aX (.ty "bool")) aC)))) (oE ai2 ai2 (aB 1) (aB 0) (aB 2)))))
def cM (K:Fg) (A:aZ):tG:=spD 3 3 fun EX=>rP K A (fun _=>EX)
def aeN:CB:=(.cons (.ret (.a96 (.cons (.call 1 (.cons (.var 0) (.cons (.glo 0) .nil))) (.cons (.alJ (.call 1 (.cons (.var 0) (.cons (.glo 2) .nil)))) (.cons (.chain .LtE .LtE (.var 1) (.var 0) (.var 2)) .nil))))) .nil)
def aeO (K:Fg) (A:aZ):SI:=⟨["thing", "least", "most"],[true,true,true],[true,true,true],[false,false,false],[("int",.bt "int"),("isinstance",.bf .isi),("bool",.bt "bool")],[true,true,true],true⟩
def a1S (K:Fg) (A:aZ) (ex:aK->aV):bD :=
    (bN (m7 (aY (cM K A) ex (aA (aD bL (aB 0) (aX (.int 0))) (aA (aX (.int 0)) (aA (aD uD (aB 1) (aX (.int 1))) aC)))) (aY (cM K A) ex (aA (aD bL (aB 0) (aX (.int 1))) (aA (aB 2) (aA (aB 3) aC))))))
def qG (K:Fg) (A:aZ) (ex:aK->aV):bD :=
    aL (cA (tY (oF (aJ (cI (aF K) (aA (aB 0) (aA (aX (.ty "tuple")) aC))))) (aJ (aD lD (cI dO (aA (aB 0) aC)) (aX (.int 2))))) (bN (aX (.bl false))) bM) (a1S K A ex)
def rQ (K:Fg) (A:aZ):tG:=spD 4 4 fun EX=>qG K A (fun _=>EX)
def aiN:CB:=(.cons (.ifs (.or (.cons (.not (.val (.call 1 (.cons (.var 0) (.cons (.glo 0) .nil))))) (.cons (.cmp .NotEq (.call 2 (.cons (.var 0) .nil)) (.con (.int 2))) .nil))) (.cons (.ret (.con (.bl false))) .nil) .nil) (.cons (.ret (.a96 (.cons (.call 3 (.cons (.ix (.var 0) (.con (.int 0))) (.cons (.con (.int 0)) (.cons (.bin .Sub (.var 1) (.con (.int 1))) .nil)))) (.cons (.call 3 (.cons (.ix (.var 0) (.con (.int 1))) (.cons (.var 2) (.cons (.var 3) .nil)))) .nil)))) .nil))
def aiO (K:Fg) (A:aZ):SI:=⟨["thing", "aisles", "first", "last"],[true,true,true,true],[true,true,true,true],[false,false,false,false],[("tuple",.bt "tuple"),("isinstance",.bf .isi),("len",.bf .len),("is_whole",.fn (cM K A) 3 false)],[true,true,true,true],true⟩
def a1T (K:Fg) (A:aZ) (ex:aK->aV):bD :=
    (bN (aY (cM K A) ex (aA (aD bL (aB 0) (aX (.int 2))) (aA (aX (.int 1)) (aA (aX (.int 20)) aC)))))
def a1U (K:Fg) (A:aZ) (ex:aK->aV):bD :=
    aL (cA (tY (oF (aJ (aY (cM K A) ex (aA (aD bL (aB 0) (aX (.int 0))) (aA (aX (.int 1)) (aA (aX (.int 26)) aC)))))) (oF (aJ (aY (cM K A) ex (aA (aD bL (aB 0) (aX (.int 1))) (aA (aX (.int 1)) (aA (aX (.int 99)) aC))))))) (bN (aX (.bl false))) bM) (a1T K A ex)
def qH (K:Fg) (A:aZ) (ex:aK->aV):bD :=
    aL (cA (tY (oF (aJ (cI (aF K) (aA (aB 0) (aA (aX (.ty "tuple")) aC))))) (aJ (aD lD (cI dO (aA (aB 0) aC)) (aX (.int 3))))) (bN (aX (.bl false))) bM) (a1U K A ex)
def rR (K:Fg) (A:aZ):tG:=spD 1 1 fun EX=>qH K A (fun _=>EX)
def aiP:CB:=(.cons (.ifs (.or (.cons (.not (.val (.call 1 (.cons (.var 0) (.cons (.glo 0) .nil))))) (.cons (.cmp .NotEq (.call 2 (.cons (.var 0) .nil)) (.con (.int 3))) .nil))) (.cons (.ret (.con (.bl false))) .nil) .nil) (.cons (.ifs (.or (.cons (.not (.val (.call 4 (.cons (.ix (.var 0) (.con (.int 0))) (.cons (.con (.int 1)) (.cons (.glo 3) .nil)))))) (.cons (.not (.val (.call 4 (.cons (.ix (.var 0) (.con (.int 1))) (.cons (.con (.int 1)) (.cons (.glo 5) .nil)))))) .nil))) (.cons (.ret (.con (.bl false))) .nil) .nil) (.cons (.ret (.call 4 (.cons (.ix (.var 0) (.con (.int 2))) (.cons (.con (.int 1)) (.cons (.glo 6) .nil))))) .nil)))
def aiQ (K:Fg) (A:aZ):SI:=⟨["thing"],[true],[true],[false],[("tuple",.bt "tuple"),("isinstance",.bf .isi),("len",.bf .len),("MOST_AISLES",.con (.int 26)),("is_whole",.fn (cM K A) 3 false),("MOST_PLACES",.con (.int 99)),("MOST_GAP",.con (.int 20))],[true,true,true,true,true,true,true],true⟩
def v9 (K:Fg) (A:aZ) (ex:aK->aV):bD :=
    (cA (oF (aJ (aY (rR K A) ex (aA (aB 0) aC)))) (wC ex A.jN (aA (aX (.str "a tuple of 1 to 26 aisles, 1 to 99 places and a gap from 1 to 20 is wanted")) aC)) bM)
def cW (K:Fg) (A:aZ):tG:=spD 1 1 fun EX=>v9 K A (fun _=>EX)
def ac6:CB:=(.cons (.ifs (.not (.val (.call 0 (.cons (.var 0) .nil)))) (.cons (.raise 1 (.con (.str "a tuple of 1 to 26 aisles, 1 to 99 places and a gap from 1 to 20 is wanted")) .nil) .nil) .nil) .nil)
def ac7 (K:Fg) (A:aZ):SI:=⟨["plan"],[true],[true],[false],[("is_plan",.fn (rR K A) 1 false),("NoPlan",.cls A.jN)],[true,true],true⟩
def a4Z (K:Fg) (A:aZ) (ex:aK->aV):bD :=
    (bN (aY (rQ K A) ex (aA (aB 1) (aA (aD bL (aB 0) (aX (.int 0))) (aA (aX (.int 1)) (aA (aD bL (aB 0) (aX (.int 1))) aC))))))
def a5A (K:Fg) (A:aZ) (ex:aK->aV):bD :=
    aL (dF (aY (cW K A) ex (aA (aB 0) aC))) (a4Z K A ex)
def wI (K:Fg) (A:aZ):tG:=spD 2 2 fun EX=>a5A K A (fun _=>EX)
def amK:CB:=(.cons (.expr (.call 0 (.cons (.var 0) .nil))) (.cons (.ret (.call 1 (.cons (.var 1) (.cons (.ix (.var 0) (.con (.int 0))) (.cons (.con (.int 1)) (.cons (.ix (.var 0) (.con (.int 1))) .nil)))))) .nil))
def amL (K:Fg) (A:aZ):SI:=⟨["plan", "thing"],[true,true],[true,true],[false,false],[("need_plan",.fn (cW K A) 1 false),("is_pair",.fn (rQ K A) 4 false)],[true,true],true⟩
def yP (K:Fg) (A:aZ) (ex:aK->aV):bD :=
    (cA (oF (aJ (aY (wI K A) ex (aA (aB 0) (aA (aB 1) aC))))) (wC ex A.rO (aA (aX (.str "a bin of the plan is wanted")) aC)) bM)
def oJ (K:Fg) (A:aZ):tG:=spD 2 2 fun EX=>yP K A (fun _=>EX)
def aeP:CB:=(.cons (.ifs (.not (.val (.call 0 (.cons (.var 0) (.cons (.var 1) .nil))))) (.cons (.raise 1 (.con (.str "a bin of the plan is wanted")) .nil) .nil) .nil) .nil)
def aeQ (K:Fg) (A:aZ):SI:=⟨["plan", "thing"],[true,true],[true,true],[false,false],[("is_bin",.fn (wI K A) 2 false),("NoBin",.cls A.rO)],[true,true],true⟩
def jO (K:Fg) (A:aZ) (ex:aK->aV):bD :=
    (dF (tM3 "list" cP (aD bL (aB 2) (aB 3)) (aA (aB 4) aC)))
def kZ (K:Fg) (A:aZ) (ex:aK->aV):bD :=
    (bN (aB 2))
def eY (K:Fg) (A:aZ) (ex:aK->aV):bD :=
    aL (fZ (a8T (aB 0)) (xC [3,4]) (jO K A ex)) (kZ K A ex)
def eZ (K:Fg) (A:aZ) (ex:aK->aV):bD :=
    aL (a7K 3 (bF 2 (a0Q (m8 (aA (aD bZ (aB 1) (aX (.int 1))) aC)) uI (cT aC)))) (eY K A ex)
def iB (K:Fg) (A:aZ) (ex:aK->aV):bD :=
    aL (a7K 3 (a7K 4 (bF 1 (ag5 (zK 2 (rG (aB 0)) uI (aB 0)) (a78 (aX (.int 1))))))) (eZ K A ex)
def cX (K:Fg) (A:aZ):tG:=spD 5 1 fun EX=>iB K A (fun _=>EX)
def zX:CB:=(.cons (.hid 3 "-" (.hid 4 "--" (.set 1 (.maxD 0 (.abS 2 [false,false,false,false,false] [false,false] (.any (.var 0)) .none (.var 0)) (.neg (.con (.int 1))))))) (.cons (.hid 3 "-" (.setC 2 [false,false,false,false,false] [false,false] (.a2E (.bin .Add (.var 1) (.con (.int 1)))) .none (.lst .nil))) (.cons (.yH (.any (.var 0)) (.tup [3,4]) (.cons (.expr (.meth .append (.ix (.var 2) (.var 3)) (.cons (.var 4) .nil))) .nil)) (.cons (.ret (.var 2)) .nil))))
def zY (K:Fg) (A:aZ):SI:=⟨["bins", "last", "aisles", "aisle", "place"],[true,true,true,true,true],[true,true,true,true,true],[false,false,false,false,false],[("max",.bf .max),("range",.bt "range")],[true,true],true⟩
def yQ (K:Fg) (A:aZ) (ex:aK->aV):bD :=
    (bN (aoZ (aJ (aD jG (aB 1) (aX (.int 0)))) (cI yG (aA (aB 0) aC)) (cI a0S (aA (aB 0) aC))))
def gJ (K:Fg) (A:aZ):tG:=spD 2 2 fun EX=>yQ K A (fun _=>EX)
def aeR:CB:=(.cons (.ret (.ifx (.cmp .Eq (.var 1) (.con (.int 0))) (.call 0 (.cons (.var 0) .nil)) (.call 1 (.cons (.var 0) .nil)))) .nil)
def aeS (K:Fg) (A:aZ):SI:=⟨["places", "end"],[true,true],[true,true],[false,false],[("max",.bf .max),("min",.bf .min)],[true,true],true⟩
def qI (K:Fg) (A:aZ) (ex:aK->aV):bD :=
    (bN (aD xB (aX (.int 2)) (cI afX (aA (aD uD (aY (gJ K A) ex (aA (aB 1) (aA (aB 2) aC))) (aB 2)) aC))))
def qJ (K:Fg) (A:aZ) (ex:aK->aV):bD :=
    aL (cA (aJ (aD jG (cI dO (aA (aB 1) aC)) (aX (.int 0)))) (bN (aX (.int 0))) bM) (qI K A ex)
def mX (K:Fg) (A:aZ) (ex:aK->aV):bD :=
    aL (cA (aJ (aD lD (aB 3) (aB 2))) (bN (aD bZ (aD bL (aB 0) (aX (.int 1))) (aX (.int 1)))) bM) (qJ K A ex)
def fQ (K:Fg) (A:aZ):tG:=spD 4 4 fun EX=>mX K A (fun _=>EX)
def a5B:CB:=(.cons (.ifs (.cmp .NotEq (.var 3) (.var 2)) (.cons (.ret (.bin .Add (.ix (.var 0) (.con (.int 1))) (.con (.int 1)))) .nil) .nil) (.cons (.ifs (.cmp .Eq (.call 0 (.cons (.var 1) .nil)) (.con (.int 0))) (.cons (.ret (.con (.int 0))) .nil) .nil) (.cons (.ret (.bin .Mult (.con (.int 2)) (.call 2 (.cons (.bin .Sub (.call 1 (.cons (.var 1) (.cons (.var 2) .nil))) (.var 2)) .nil)))) .nil)))
def a5C (K:Fg) (A:aZ):SI:=⟨["plan", "places", "end", "goal"],[true,true,true,true],[true,true,true,true],[false,false,false,false],[("len",.bf .len),("farthest",.fn (gJ K A) 2 false),("abs",.bf .abs)],[true,true,true],true⟩
def lA (K:Fg) (A:aZ) (ex:aK->aV):bD :=
    (a8X (aB 3) (aB 6) (cI a4K (aA (a2U (aB 3) (aB 6) (aB 7)) (aA (aB 7) aC))))
def iC (K:Fg) (A:aZ) (ex:aK->aV):bD :=
    aL (bF 7 (cG (aA (aD bZ (aD bL (aB 5) (aX (.int 0))) (aY (fQ K A) ex (aA (aB 0) (aA (aB 1) (aA (aB 4) (aA (aB 6) aC)))))) (aA (aD bZ (aD bL (aB 5) (aX (.int 1))) (cG (aA (aB 6) aC))) aC)))) (lA K A ex)
def qK (K:Fg) (A:aZ) (ex:aK->aV):bD :=
    (fZ (a8T (cG (aA (aX (.int 0)) (aA (aD bZ (aD bL (aB 0) (aX (.int 1))) (aX (.int 1))) aC)))) (gO 6) (iC K A ex))
def tL (K:Fg) (A:aZ) (ex:aK->aV):bD :=
    (bN (aB 3))
def tM (K:Fg) (A:aZ) (ex:aK->aV):bD :=
    aL (a2V (lF false (aB 2)) (xC [4,5]) (qK K A ex)) (tL K A ex)
def pG (K:Fg) (A:aZ) (ex:aK->aV):bD :=
    aL (bF 3 a8N) (tM K A ex)
def iD (K:Fg) (A:aZ):tG:=spD 8 3 fun EX=>pG K A (fun _=>EX)
def a6N:CB:=(.cons (.set 3 .dct) (.cons (.aqD (.items (.var 2)) (.tup [4,5]) (.cons (.yH (.any (.tup (.cons (.con (.int 0)) (.cons (.bin .Add (.ix (.var 0) (.con (.int 1))) (.con (.int 1))) .nil)))) (.nm 6) (.cons (.set 7 (.tup (.cons (.bin .Add (.ix (.var 5) (.con (.int 0))) (.call 0 (.cons (.var 0) (.cons (.var 1) (.cons (.var 4) (.cons (.var 6) .nil)))))) (.cons (.bin .Add (.ix (.var 5) (.con (.int 1))) (.tup (.cons (.var 6) .nil))) .nil)))) (.cons (.aqG (.var 3) (.var 6) (.call 1 (.cons (.dgt (.var 3) (.var 6) (.var 7)) (.cons (.var 7) .nil)))) .nil))) .nil)) (.cons (.ret (.var 3)) .nil)))
def a6O (K:Fg) (A:aZ):SI:=⟨["plan", "places", "ways", "found", "end", "way", "goal", "one"],[true,true,true,true,true,true,true,true],[true,true,true,true,true,true,true,true],[false,false,false,false,false,false,false,false],[("steps_within",.fn (fQ K A) 4 false),("min",.bf .aq5)],[true,true],true⟩
def mY (K:Fg) (A:aZ) (ex:aK->aV):bD :=
    (bF 2 (aY (iD K A) ex (aA (aB 0) (aA (aB 3) (aA (aB 2) aC)))))
def oK (K:Fg) (A:aZ) (ex:aK->aV):bD :=
    (bN (aD bL (aD a0T (aB 2) (aX (.int 0))) (aX (.int 1))))
def oM (K:Fg) (A:aZ) (ex:aK->aV):bD :=
    aL (fZ (a8T (aB 1)) (gO 3) (mY K A ex)) (oK K A ex)
def kJ (K:Fg) (A:aZ) (ex:aK->aV):bD :=
    aL (bF 2 (a92 false (aX (.int 0)) (cG (aA (aX (.int 0)) (aA (cG aC) aC))))) (oM K A ex)
def eU (K:Fg) (A:aZ):tG:=spD 4 2 fun EX=>kJ K A (fun _=>EX)
def a2G:CB:=(.cons (.set 2 (.aq6 false (.con (.int 0)) (.tup (.cons (.con (.int 0)) (.cons (.tup .nil) .nil))))) (.cons (.yH (.any (.var 1)) (.nm 3) (.cons (.set 2 (.call 0 (.cons (.var 0) (.cons (.var 3) (.cons (.var 2) .nil))))) .nil)) (.cons (.ret (.ix (.dix (.var 2) (.con (.int 0))) (.con (.int 1)))) .nil)))
def a2H (K:Fg) (A:aZ):SI:=⟨["plan", "aisles", "ways", "places"],[true,true,true,true],[true,true,true,true],[false,false,false,false],[("ways_behind",.fn (iD K A) 3 false)],[true],true⟩
def qL (K:Fg) (A:aZ) (ex:aK->aV):bD :=
    (bN (cT (aA (cG (aA (aB 0) (aA (aB 2) aC))) (aA (cG (aA (aB 0) (aA (aY (gJ K A) ex (aA (aB 1) (aA (aB 2) aC))) aC))) (aA (cG (aA (aB 0) (aA (aB 2) aC))) aC)))))
def qM (K:Fg) (A:aZ) (ex:aK->aV):bD :=
    aL (cA (aJ (aD jG (cI dO (aA (aB 1) aC)) (aX (.int 0)))) (bN (cT aC)) bM) (qL K A ex)
def mZ (K:Fg) (A:aZ) (ex:aK->aV):bD :=
    aL (cA (aJ (aD lD (aB 3) (aB 2))) (bN (cT (aA (cG (aA (aB 0) (aA (aB 2) aC))) (aA (cG (aA (aB 0) (aA (aB 3) aC))) aC)))) bM) (qM K A ex)
def fU (K:Fg) (A:aZ):tG:=spD 4 4 fun EX=>mZ K A (fun _=>EX)
def a5D:CB:=(.cons (.ifs (.cmp .NotEq (.var 3) (.var 2)) (.cons (.ret (.lst (.cons (.tup (.cons (.var 0) (.cons (.var 2) .nil))) (.cons (.tup (.cons (.var 0) (.cons (.var 3) .nil))) .nil)))) .nil) .nil) (.cons (.ifs (.cmp .Eq (.call 0 (.cons (.var 1) .nil)) (.con (.int 0))) (.cons (.ret (.lst .nil)) .nil) .nil) (.cons (.ret (.lst (.cons (.tup (.cons (.var 0) (.cons (.var 2) .nil))) (.cons (.tup (.cons (.var 0) (.cons (.call 1 (.cons (.var 1) (.cons (.var 2) .nil))) .nil))) (.cons (.tup (.cons (.var 0) (.cons (.var 2) .nil))) .nil))))) .nil)))
def a5E (K:Fg) (A:aZ):SI:=⟨["aisle", "places", "end", "goal"],[true,true,true,true],[true,true,true,true],[false,false,false,false],[("len",.bf .len),("farthest",.fn (gJ K A) 2 false)],[true,true],true⟩
def a9J (K:Fg) (A:aZ) (ex:aK->aV):bD :=
    (cA (aJ (aD lD (aD bL (aB 0) (a78 (aX (.int 1)))) (aB 1))) (dF (tM3 "list" cP (aB 0) (aA (aB 1) aC))) bM)
def vA (K:Fg) (A:aZ):tG:=spD 2 2 fun EX=>a9J K A (fun _=>EX)
def arH:CB:=(.cons (.ifs (.cmp .NotEq (.ix (.var 0) (.neg (.con (.int 1)))) (.var 1)) (.cons (.expr (.meth .append (.var 0) (.cons (.var 1) .nil))) .nil) .nil) .nil)
def arI (K:Fg) (A:aZ):SI:=⟨["spots", "spot"],[true,true],[true,true],[false,false],[],[],true⟩
def n6 (K:Fg) (A:aZ) (ex:aK->aV):bD :=
    (dF (aY (vA K A) ex (aA (aB 2) (aA (aB 6) aC))))
def tO (K:Fg) (A:aZ) (ex:aK->aV):bD :=
    (bF 3 (aB 5))
def xG (K:Fg) (A:aZ) (ex:aK->aV):bD :=
    aL (fZ (a8T (aY (fU K A) ex (aA (aB 4) (aA (aD bL (aB 0) (aB 4)) (aA (aB 3) (aA (aB 5) aC)))))) (gO 6) (n6 K A ex)) (tO K A ex)
def zZ (K:Fg) (A:aZ) (ex:aK->aV):bD :=
    (bN (aB 2))
def a00 (K:Fg) (A:aZ) (ex:aK->aV):bD :=
    aL (dF (aY (vA K A) ex (aA (aB 2) (aA (aX (.tup [.int 0,.int 0])) aC)))) (zZ K A ex)
def a01 (K:Fg) (A:aZ) (ex:aK->aV):bD :=
    aL (fZ (a95 (aA (aB 1) aC)) (xC [4,5]) (xG K A ex)) (a00 K A ex)
def a02 (K:Fg) (A:aZ) (ex:aK->aV):bD :=
    aL (bF 3 (aX (.int 0))) (a01 K A ex)
def yR (K:Fg) (A:aZ) (ex:aK->aV):bD :=
    aL (bF 2 (cT (aA (aX (.tup [.int 0,.int 0])) aC))) (a02 K A ex)
def oN (K:Fg) (A:aZ):tG:=spD 7 2 fun EX=>yR K A (fun _=>EX)
def aeT:CB:=(.cons (.set 2 (.lst (.cons (.glo 0) .nil))) (.cons (.set 3 (.con (.int 0))) (.cons (.yH (.enu (.var 1)) (.tup [4,5]) (.cons (.yH (.any (.call 2 (.cons (.var 4) (.cons (.ix (.var 0) (.var 4)) (.cons (.var 3) (.cons (.var 5) .nil)))))) (.nm 6) (.cons (.expr (.call 3 (.cons (.var 2) (.cons (.var 6) .nil)))) .nil)) (.cons (.set 3 (.var 5)) .nil))) (.cons (.expr (.call 3 (.cons (.var 2) (.cons (.glo 0) .nil)))) (.cons (.ret (.var 2)) .nil)))))
def aeU (K:Fg) (A:aZ):SI:=⟨["aisles", "ends", "spots", "end", "aisle", "goal", "spot"],[true,true,true,true,true,true,true],[true,true,true,true,true,true,true],[false,false,false,false,false,false,false],[("DOOR",.con (.tup [.int 0,.int 0])),("enumerate",.bt "enumerate"),("spots_within",.fn (fU K A) 4 false),("go_to",.fn (vA K A) 2 false)],[true,true,true,true],true⟩
def a7V (K:Fg) (A:aZ) (ex:aK->aV):bD :=
    (dF (aY (oJ K A) ex (aA (aB 0) (aA (aB 2) aC))))
def ac8 (K:Fg) (A:aZ) (ex:aK->aV):bD :=
    (bN (aY (oN K A) ex (aA (aB 3) (aA (aY (eU K A) ex (aA (aB 0) (aA (aB 3) aC))) aC))))
def ac9 (K:Fg) (A:aZ) (ex:aK->aV):bD :=
    aL (bF 3 (aY (cX K A) ex (aA (aB 1) aC))) (ac8 K A ex)
def acA (K:Fg) (A:aZ) (ex:aK->aV):bD :=
    aL (fZ (a8T (aB 1)) (gO 2) (a7V K A ex)) (ac9 K A ex)
def aeV (K:Fg) (A:aZ) (ex:aK->aV):bD :=
    aL (dF (aY (cW K A) ex (aA (aB 0) aC))) (acA K A ex)
def rT (K:Fg) (A:aZ):tG:=spD 4 2 fun EX=>aeV K A (fun _=>EX)
def ayA:CB:=(.cons (.expr (.call 0 (.cons (.var 0) .nil))) (.cons (.yH (.any (.var 1)) (.nm 2) (.cons (.expr (.call 1 (.cons (.var 0) (.cons (.var 2) .nil)))) .nil)) (.cons (.set 3 (.call 2 (.cons (.var 1) .nil))) (.cons (.ret (.call 4 (.cons (.var 3) (.cons (.call 3 (.cons (.var 0) (.cons (.var 3) .nil))) .nil)))) .nil))))
def ayB (K:Fg) (A:aZ):SI:=⟨["plan", "bins", "spot", "aisles"],[true,true,true,true],[true,true,true,true],[false,false,false,false],[("need_plan",.fn (cW K A) 1 false),("need_bin",.fn (oJ K A) 2 false),("places_by_aisle",.fn (cX K A) 1 false),("shortest_ends",.fn (eU K A) 2 false),("spots_by",.fn (oN K A) 2 false)],[true,true,true,true,true],true⟩
def qN (K:Fg) (A:aZ) (ex:aK->aV):bD :=
    (bN (aD gF (aD bZ (aD xB (aB 2) (aB 2)) (aD xB (aX (.int 48271)) (aB 1))) (aX (.int 2147483629))))
def qO (K:Fg) (A:aZ) (ex:aK->aV):bD :=
    aL (bF 2 (aD gF (aD bZ (aD xB (aD bL (aB 0) (aD gF (aB 1) (cI dO (aA (aB 0) aC)))) (aX (.int 48271))) (aD xB (aB 1) (aX (.int 104729)))) (aX (.int 2147483647)))) (qN K A ex)
def qP (K:Fg) (A:aZ) (ex:aK->aV):bD :=
    aL (cA (aJ (aD jG (cI dO (aA (aB 0) aC)) (aX (.int 0)))) (bN (aX (.int 0))) bM) (qO K A ex)
def n8 (K:Fg) (A:aZ) (ex:aK->aV):bD :=
    aL (cA (aJ (aD a6B (aB 1) (cI dO (aA (aB 0) aC)))) (bN (aD bL (aB 0) (aB 1))) bM) (qP K A ex)
def bO (K:Fg) (A:aZ):tG:=spD 3 2 fun EX=>n8 K A (fun _=>EX)
def a5F:CB:=(.cons (.ifs (.cmp .Lt (.var 1) (.call 0 (.cons (.var 0) .nil))) (.cons (.ret (.ix (.var 0) (.var 1))) .nil) .nil) (.cons (.ifs (.cmp .Eq (.call 0 (.cons (.var 0) .nil)) (.con (.int 0))) (.cons (.ret (.con (.int 0))) .nil) .nil) (.cons (.set 2 (.bin .Mod (.bin .Add (.bin .Mult (.ix (.var 0) (.bin .Mod (.var 1) (.call 0 (.cons (.var 0) .nil)))) (.con (.int 48271))) (.bin .Mult (.var 1) (.con (.int 104729)))) (.con (.int 2147483647)))) (.cons (.ret (.bin .Mod (.bin .Add (.bin .Mult (.var 2) (.var 2)) (.bin .Mult (.con (.int 48271)) (.var 1))) (.con (.int 2147483629)))) .nil))))
def a5G (K:Fg) (A:aZ):SI:=⟨["_law_script", "_law_k", "_law_mixed"],[true,true,true],[true,true,true],[false,false,false],[("len",.bf .len)],[true],true⟩
def rW (K:Fg) (A:aZ) (ex:aK->aV):bD :=
    (bN (m7 (cI (aF K) (aA (aB 0) (aA (aX (.ty "int")) aC))) (a3M (cI (aF K) (aA (aB 0) (aA (aX (.ty "bool")) aC))))))
def fH (K:Fg) (A:aZ):tG:=spD 1 1 fun EX=>rW K A (fun _=>EX)
def a9K:CB:=(.cons (.ret (.a96 (.cons (.call 1 (.cons (.var 0) (.cons (.glo 0) .nil))) (.cons (.alJ (.call 1 (.cons (.var 0) (.cons (.glo 2) .nil)))) .nil)))) .nil)
def a9L (K:Fg) (A:aZ):SI:=⟨["_law_found"],[true],[true],[false],[("int",.bt "int"),("isinstance",.bf .isi),("bool",.bt "bool")],[true,true,true],true⟩
def pH (K:Fg) (A:aZ) (ex:aK->aV):bD :=
    (bN (cG (aA (aB 2) (aA (aB 3) (aA (aD bZ (aX (.int 1)) (aD gF (aY (bO K A) ex (aA (aB 0) (aA (aX (.int 2)) aC))) (aX (.int 20)))) aC)))))
def xH (K:Fg) (A:aZ) (ex:aK->aV):bD :=
    aL (cA (aJ (aD jG (aD gF (aD jY (aB 1) (aX (.int 9))) (aX (.int 4))) (aX (.int 1)))) (bF 3 (aD bZ (aX (.int 1)) (aD gF (aD jY (aB 1) (aX (.int 36))) (aX (.int 99))))) bM) (pH K A ex)
def xJ (K:Fg) (A:aZ) (ex:aK->aV):bD :=
    aL (bF 3 (aD bZ (aX (.int 1)) (aD gF (aB 1) (aX (.int 9))))) (xH K A ex)
def pI (K:Fg) (A:aZ) (ex:aK->aV):bD :=
    aL (bF 1 (aY (bO K A) ex (aA (aB 0) (aA (aX (.int 1)) aC)))) (xJ K A ex)
def xK (K:Fg) (A:aZ) (ex:aK->aV):bD :=
    aL (cA (aJ (aD jG (aD gF (aD jY (aB 1) (aX (.int 6))) (aX (.int 6))) (aX (.int 1)))) (bF 2 (aD bZ (aX (.int 1)) (aD gF (aD jY (aB 1) (aX (.int 36))) (aX (.int 26))))) bM) (pI K A ex)
def xM (K:Fg) (A:aZ) (ex:aK->aV):bD :=
    aL (bF 2 (aD bZ (aX (.int 1)) (aD gF (aB 1) (aX (.int 6))))) (xK K A ex)
def vB (K:Fg) (A:aZ) (ex:aK->aV):bD :=
    aL (bF 1 (aY (bO K A) ex (aA (aB 0) (aA (aX (.int 0)) aC)))) (xM K A ex)
def lG (K:Fg) (A:aZ):tG:=spD 4 1 fun EX=>vB K A (fun _=>EX)
def acB:CB:=(.cons (.set 1 (.call 0 (.cons (.var 0) (.cons (.con (.int 0)) .nil)))) (.cons (.set 2 (.bin .Add (.con (.int 1)) (.bin .Mod (.var 1) (.con (.int 6))))) (.cons (.ifs (.cmp .Eq (.bin .Mod (.bin .FloorDiv (.var 1) (.con (.int 6))) (.con (.int 6))) (.con (.int 1))) (.cons (.set 2 (.bin .Add (.con (.int 1)) (.bin .Mod (.bin .FloorDiv (.var 1) (.con (.int 36))) (.con (.int 26))))) .nil) .nil) (.cons (.set 1 (.call 0 (.cons (.var 0) (.cons (.con (.int 1)) .nil)))) (.cons (.set 3 (.bin .Add (.con (.int 1)) (.bin .Mod (.var 1) (.con (.int 9))))) (.cons (.ifs (.cmp .Eq (.bin .Mod (.bin .FloorDiv (.var 1) (.con (.int 9))) (.con (.int 4))) (.con (.int 1))) (.cons (.set 3 (.bin .Add (.con (.int 1)) (.bin .Mod (.bin .FloorDiv (.var 1) (.con (.int 36))) (.con (.int 99))))) .nil) .nil) (.cons (.ret (.tup (.cons (.var 2) (.cons (.var 3) (.cons (.bin .Add (.con (.int 1)) (.bin .Mod (.call 0 (.cons (.var 0) (.cons (.con (.int 2)) .nil))) (.con (.int 20)))) .nil))))) .nil)))))))
def acC (K:Fg) (A:aZ):SI:=⟨["_law_script", "_law_cell", "_law_aisles", "_law_places"],[true,true,true,true],[true,true,true,true],[false,false,false,false],[("_law_cell_at",.fn (bO K A) 2 false)],[true],true⟩
def qQ (K:Fg) (A:aZ) (ex:aK->aV):bD :=
    (dF (tM3 "list" cP (aB 4) (aA (cG (aA (aD gF (aB 2) (aD bL (aB 1) (aX (.int 0)))) (aA (aD bZ (aX (.int 1)) (aD gF (aD jY (aB 2) (aD bL (aB 1) (aX (.int 0)))) (aD bL (aB 1) (aX (.int 1))))) aC))) aC)))
def vC (K:Fg) (A:aZ) (ex:aK->aV):bD :=
    aL (bF 2 (aY (bO K A) ex (aA (aB 0) (aA (aD bZ (aX (.int 8)) (aB 5)) aC)))) (qQ K A ex)
def xO (K:Fg) (A:aZ) (ex:aK->aV):bD :=
    (bN (aB 4))
def xP (K:Fg) (A:aZ) (ex:aK->aV):bD :=
    aL (fZ (m8 (aA (aB 3) aC)) (gO 5) (vC K A ex)) (xO K A ex)
def pJ (K:Fg) (A:aZ) (ex:aK->aV):bD :=
    aL (bF 4 (cT aC)) (xP K A ex)
def pK (K:Fg) (A:aZ) (ex:aK->aV):bD :=
    aL (cA (aJ (aD jG (aD gF (aD jY (aB 2) (aX (.int 9))) (aX (.int 64))) (aX (.int 2)))) (bF 3 (aX (.int 200))) bM) (pJ K A ex)
def xQ (K:Fg) (A:aZ) (ex:aK->aV):bD :=
    aL (cA (aJ (aD jG (aD gF (aD jY (aB 2) (aX (.int 9))) (aX (.int 8))) (aX (.int 1)))) (bF 3 (aD gF (aD jY (aB 2) (aX (.int 72))) (aX (.int 61)))) bM) (pK K A ex)
def xR (K:Fg) (A:aZ) (ex:aK->aV):bD :=
    aL (bF 3 (aD gF (aB 2) (aX (.int 9)))) (xQ K A ex)
def vD (K:Fg) (A:aZ) (ex:aK->aV):bD :=
    aL (bF 2 (aY (bO K A) ex (aA (aB 0) (aA (aX (.int 3)) aC)))) (xR K A ex)
def lH (K:Fg) (A:aZ):tG:=spD 6 2 fun EX=>vD K A (fun _=>EX)
def acD:CB:=(.cons (.set 2 (.call 0 (.cons (.var 0) (.cons (.con (.int 3)) .nil)))) (.cons (.set 3 (.bin .Mod (.var 2) (.con (.int 9)))) (.cons (.ifs (.cmp .Eq (.bin .Mod (.bin .FloorDiv (.var 2) (.con (.int 9))) (.con (.int 8))) (.con (.int 1))) (.cons (.set 3 (.bin .Mod (.bin .FloorDiv (.var 2) (.con (.int 72))) (.con (.int 61)))) .nil) .nil) (.cons (.ifs (.cmp .Eq (.bin .Mod (.bin .FloorDiv (.var 2) (.con (.int 9))) (.con (.int 64))) (.con (.int 2))) (.cons (.set 3 (.con (.int 200))) .nil) .nil) (.cons (.set 4 (.lst .nil)) (.cons (.yH (.a2E (.var 3)) (.nm 5) (.cons (.set 2 (.call 0 (.cons (.var 0) (.cons (.bin .Add (.con (.int 8)) (.var 5)) .nil)))) (.cons (.expr (.meth .append (.var 4) (.cons (.tup (.cons (.bin .Mod (.var 2) (.ix (.var 1) (.con (.int 0)))) (.cons (.bin .Add (.con (.int 1)) (.bin .Mod (.bin .FloorDiv (.var 2) (.ix (.var 1) (.con (.int 0)))) (.ix (.var 1) (.con (.int 1))))) .nil))) .nil))) .nil))) (.cons (.ret (.var 4)) .nil)))))))
def acE (K:Fg) (A:aZ):SI:=⟨["_law_script", "_law_plan_here", "_law_cell", "_law_many", "_law_found", "_law_k"],[true,true,true,true,true,true],[true,true,true,true,true,true],[false,false,false,false,false,false],[("_law_cell_at",.fn (bO K A) 2 false),("range",.bt "range")],[true,true],true⟩
def iG (K:Fg) (A:aZ) (ex:aK->aV):bD :=
    (dF (tM3 "list" cP (aB 2) (aA (cG (aA (aB 3) (aA (aB 4) aC))) aC)))
def tQ (K:Fg) (A:aZ) (ex:aK->aV):bD :=
    aL (cA (aJ (aD jG (aB 3) (aD bL (aB 1) (aX (.int 0))))) (bF 4 (aD uD (aD bZ (aB 4) (cI a3T (aA (aD adW (aD bL (aB 1) (aX (.int 1))) (aB 4)) aC))) (cI a3T (aA (aD a6B (aD bL (aB 1) (aX (.int 1))) (aB 4)) aC)))) (bF 3 (aD uD (aD bZ (aB 3) (cI a3T (aA (aD adW (aD bL (aB 1) (aX (.int 0))) (aB 3)) aC))) (cI a3T (aA (aD a6B (aD bL (aB 1) (aX (.int 0))) (aB 3)) aC))))) (iG K A ex)
def nA (K:Fg) (A:aZ) (ex:aK->aV):bD :=
    (bN (aB 2))
def vG (K:Fg) (A:aZ) (ex:aK->aV):bD :=
    aL (a2Q (aJ (aD lD (cG (aA (aB 3) (aA (aB 4) aC))) (aB 1))) (tQ K A ex)) (nA K A ex)
def vH (K:Fg) (A:aZ) (ex:aK->aV):bD :=
    aL (a8U [3,4] (aB 0)) (vG K A ex)
def rY (K:Fg) (A:aZ) (ex:aK->aV):bD :=
    aL (bF 2 (cT aC)) (vH K A ex)
def jC (K:Fg) (A:aZ):tG:=spD 5 2 fun EX=>rY K A (fun _=>EX)
def a9M:CB:=(.cons (.set 2 (.lst .nil)) (.cons (.aqE [3,4] (.var 0)) (.cons (.aqF (.cmp .NotEq (.tup (.cons (.var 3) (.cons (.var 4) .nil))) (.var 1)) (.cons (.ifs (.cmp .Eq (.var 3) (.ix (.var 1) (.con (.int 0)))) (.cons (.set 4 (.bin .Sub (.bin .Add (.var 4) (.call 0 (.cons (.cmp .Gt (.ix (.var 1) (.con (.int 1))) (.var 4)) .nil))) (.call 0 (.cons (.cmp .Lt (.ix (.var 1) (.con (.int 1))) (.var 4)) .nil)))) .nil) (.cons (.set 3 (.bin .Sub (.bin .Add (.var 3) (.call 0 (.cons (.cmp .Gt (.ix (.var 1) (.con (.int 0))) (.var 3)) .nil))) (.call 0 (.cons (.cmp .Lt (.ix (.var 1) (.con (.int 0))) (.var 3)) .nil)))) .nil)) (.cons (.expr (.meth .append (.var 2) (.cons (.tup (.cons (.var 3) (.cons (.var 4) .nil))) .nil))) .nil))) (.cons (.ret (.var 2)) .nil))))
def a9N (K:Fg) (A:aZ):SI:=⟨["_law_one", "_law_other", "_law_found", "_law_aisle", "_law_place"],[true,true,true,true,true],[true,true,true,true,true],[false,false,false,false,false],[("int",.bt "int")],[true],true⟩
def vI (K:Fg) (A:aZ) (ex:aK->aV):bD :=
    (dF (tM3 "list" uH (aB 1) (aA (aY (jC K A) ex (aA (aD bL (aB 0) (aB 2)) (aA (aD bL (aB 0) (aD bZ (aB 2) (aX (.int 1)))) aC))) aC)))
def xT (K:Fg) (A:aZ) (ex:aK->aV):bD :=
    (bN (aB 1))
def xU (K:Fg) (A:aZ) (ex:aK->aV):bD :=
    aL (fZ (m8 (aA (aD uD (cI dO (aA (aB 0) aC)) (aX (.int 1))) aC)) (gO 2) (vI K A ex)) (xT K A ex)
def vJ (K:Fg) (A:aZ) (ex:aK->aV):bD :=
    aL (bF 1 (cT (aA (aD bL (aB 0) (aX (.int 0))) aC))) (xU K A ex)
def iH (K:Fg) (A:aZ):tG:=spD 3 1 fun EX=>vJ K A (fun _=>EX)
def acF:CB:=(.cons (.set 1 (.lst (.cons (.ix (.var 0) (.con (.int 0))) .nil))) (.cons (.yH (.a2E (.bin .Sub (.call 1 (.cons (.var 0) .nil)) (.con (.int 1)))) (.nm 2) (.cons (.expr (.meth .extend (.var 1) (.cons (.call 2 (.cons (.ix (.var 0) (.var 2)) (.cons (.ix (.var 0) (.bin .Add (.var 2) (.con (.int 1)))) .nil))) .nil))) .nil)) (.cons (.ret (.var 1)) .nil)))
def acG (K:Fg) (A:aZ):SI:=⟨["_law_spots_here", "_law_found", "_law_k"],[true,true,true],[true,true,true],[false,false,false],[("range",.bt "range"),("len",.bf .len),("_law_steps",.fn (jC K A) 2 false)],[true,true,true],true⟩
def oO (K:Fg) (A:aZ) (ex:aK->aV):bD :=
    (cA (tY (aJ (aD a6B (aD bL (aB 2) (aX (.int 0))) (aX (.int 0)))) (tY (aJ (aD ap2 (aD bL (aB 2) (aX (.int 0))) (aD bL (aB 1) (aX (.int 0))))) (tY (aJ (aD a6B (aD bL (aB 2) (aX (.int 1))) (aX (.int 0)))) (aJ (aD adW (aD bL (aB 2) (aX (.int 1))) (aD bZ (aD bL (aB 1) (aX (.int 1))) (aX (.int 1)))))))) (bN (aX (.bl false))) bM)
def tR (K:Fg) (A:aZ) (ex:aK->aV):bD :=
    aL (cA (tY (oF (aJ (cI (aF K) (aA (aB 2) (aA (aX (.ty "tuple")) aC))))) (tY (aJ (aD lD (cI dO (aA (aB 2) aC)) (aX (.int 2)))) (tY (oF (aJ (aY (fH K A) ex (aA (aD bL (aB 2) (aX (.int 0))) aC)))) (oF (aJ (aY (fH K A) ex (aA (aD bL (aB 2) (aX (.int 1))) aC))))))) (bN (aX (.bl false))) bM) (oO K A ex)
def oR (K:Fg) (A:aZ) (ex:aK->aV):bD :=
    (cA (tY (aJ (aD jG (aB 4) (aB 5))) (xA (aJ (aD lD (aD bL (aB 4) (aX (.int 0))) (aD bL (aB 5) (aX (.int 0))))) (tY (aJ (aD lD (aD bL (aB 4) (aX (.int 1))) (aD bL (aB 5) (aX (.int 1))))) (xA (aJ (aD a6B (aX (.int 0)) (aD bL (aB 4) (aX (.int 1))))) (aJ (aD ai2 (aD bL (aB 4) (aX (.int 1))) (aD bL (aB 1) (aX (.int 1))))))))) (bN (aX (.bl false))) bM)
def oU (K:Fg) (A:aZ) (ex:aK->aV):bD :=
    aL (bF 5 (aD bL (aB 0) (aD bZ (aB 3) (aX (.int 1))))) (oR K A ex)
def tU (K:Fg) (A:aZ) (ex:aK->aV):bD :=
    aL (bF 4 (aD bL (aB 0) (aB 3))) (oU K A ex)
def vK (K:Fg) (A:aZ) (ex:aK->aV):bD :=
    (bN (m7 (aD jG (aD bL (aB 0) (aX (.int 0))) (cG (aA (aX (.int 0)) (aA (aX (.int 0)) aC)))) (aD jG (aD bL (aB 0) (aD uD (cI dO (aA (aB 0) aC)) (aX (.int 1)))) (cG (aA (aX (.int 0)) (aA (aX (.int 0)) aC))))))
def vL (K:Fg) (A:aZ) (ex:aK->aV):bD :=
    aL (fZ (m8 (aA (aD uD (cI dO (aA (aB 0) aC)) (aX (.int 1))) aC)) (gO 3) (tU K A ex)) (vK K A ex)
def vM (K:Fg) (A:aZ) (ex:aK->aV):bD :=
    aL (fZ (a8T (aB 0)) (gO 2) (tR K A ex)) (vL K A ex)
def rZ (K:Fg) (A:aZ) (ex:aK->aV):bD :=
    aL (cA (tY (oF (aJ (cI (aF K) (aA (aB 0) (aA (aX (.ty "list")) aC))))) (aJ (aD jG (aB 0) (cT aC)))) (bN (aX (.bl false))) bM) (vM K A ex)
def fJ (K:Fg) (A:aZ):tG:=spD 6 2 fun EX=>rZ K A (fun _=>EX)
def a9O:CB:=(.cons (.ifs (.or (.cons (.not (.val (.call 1 (.cons (.var 0) (.cons (.glo 0) .nil))))) (.cons (.cmp .Eq (.var 0) (.lst .nil)) .nil))) (.cons (.ret (.con (.bl false))) .nil) .nil) (.cons (.yH (.any (.var 0)) (.nm 2) (.cons (.ifs (.or (.cons (.not (.val (.call 1 (.cons (.var 2) (.cons (.glo 2) .nil))))) (.cons (.cmp .NotEq (.call 3 (.cons (.var 2) .nil)) (.con (.int 2))) (.cons (.not (.val (.call 4 (.cons (.ix (.var 2) (.con (.int 0))) .nil)))) (.cons (.not (.val (.call 4 (.cons (.ix (.var 2) (.con (.int 1))) .nil)))) .nil))))) (.cons (.ret (.con (.bl false))) .nil) .nil) (.cons (.ifs (.or (.cons (.cmp .Lt (.ix (.var 2) (.con (.int 0))) (.con (.int 0))) (.cons (.cmp .GtE (.ix (.var 2) (.con (.int 0))) (.ix (.var 1) (.con (.int 0)))) (.cons (.cmp .Lt (.ix (.var 2) (.con (.int 1))) (.con (.int 0))) (.cons (.cmp .Gt (.ix (.var 2) (.con (.int 1))) (.bin .Add (.ix (.var 1) (.con (.int 1))) (.con (.int 1)))) .nil))))) (.cons (.ret (.con (.bl false))) .nil) .nil) .nil))) (.cons (.yH (.a2E (.bin .Sub (.call 3 (.cons (.var 0) .nil)) (.con (.int 1)))) (.nm 3) (.cons (.set 4 (.ix (.var 0) (.var 3))) (.cons (.set 5 (.ix (.var 0) (.bin .Add (.var 3) (.con (.int 1))))) (.cons (.ifs (.or (.cons (.cmp .Eq (.var 4) (.var 5)) (.cons (.and (.cons (.cmp .NotEq (.ix (.var 4) (.con (.int 0))) (.ix (.var 5) (.con (.int 0)))) (.cons (.or (.cons (.cmp .NotEq (.ix (.var 4) (.con (.int 1))) (.ix (.var 5) (.con (.int 1)))) (.cons (.and (.cons (.cmp .Lt (.con (.int 0)) (.ix (.var 4) (.con (.int 1)))) (.cons (.cmp .LtE (.ix (.var 4) (.con (.int 1))) (.ix (.var 1) (.con (.int 1)))) .nil))) .nil))) .nil))) .nil))) (.cons (.ret (.con (.bl false))) .nil) .nil) .nil)))) (.cons (.ret (.a96 (.cons (.cmp .Eq (.ix (.var 0) (.con (.int 0))) (.tup (.cons (.con (.int 0)) (.cons (.con (.int 0)) .nil)))) (.cons (.cmp .Eq (.ix (.var 0) (.bin .Sub (.call 3 (.cons (.var 0) .nil)) (.con (.int 1)))) (.tup (.cons (.con (.int 0)) (.cons (.con (.int 0)) .nil)))) .nil)))) .nil))))
def a9P (K:Fg) (A:aZ):SI:=⟨["_law_spots_here", "_law_plan_here", "_law_spot", "_law_k", "_law_one", "_law_other"],[true,true,true,true,true,true],[true,true,true,true,true,true],[false,false,false,false,false,false],[("list",.bt "list"),("isinstance",.bf .isi),("tuple",.bt "tuple"),("len",.bf .len),("_law_whole",.fn (fH K A) 1 false),("range",.bt "range")],[true,true,true,true,true,true],true⟩
def vN (K:Fg) (A:aZ) (ex:aK->aV):bD :=
    (cA (xA (aJ (aD jG (aD bL (aD bL (aB 0) (aB 3)) (aX (.int 0))) (cI dO (aA (aB 2) aC)))) (xA (aJ (aD jG (aD bL (aD bL (aB 0) (aD bZ (aB 3) (aX (.int 1)))) (aX (.int 0))) (aD bZ (cI dO (aA (aB 2) aC)) (aX (.int 1))))) (aJ (aD a6B (cI dO (aA (aB 2) aC)) (aB 1))))) (dF (tM3 "list" cP (aB 2) (aA (aD bL (aD bL (aB 0) (aB 3)) (aX (.int 1))) aC))) bM)
def xV (K:Fg) (A:aZ) (ex:aK->aV):bD :=
    (bN (aD bZ (aB 2) (cT (aA (aX (.int 0)) aC))))
def xW (K:Fg) (A:aZ) (ex:aK->aV):bD :=
    aL (fZ (m8 (aA (aD uD (cI dO (aA (aB 0) aC)) (aX (.int 1))) aC)) (gO 3) (vN K A ex)) (xV K A ex)
def vO (K:Fg) (A:aZ) (ex:aK->aV):bD :=
    aL (bF 2 (cT aC)) (xW K A ex)
def lJ (K:Fg) (A:aZ):tG:=spD 4 2 fun EX=>vO K A (fun _=>EX)
def acH:CB:=(.cons (.set 2 (.lst .nil)) (.cons (.yH (.a2E (.bin .Sub (.call 1 (.cons (.var 0) .nil)) (.con (.int 1)))) (.nm 3) (.cons (.ifs (.and (.cons (.cmp .Eq (.ix (.ix (.var 0) (.var 3)) (.con (.int 0))) (.call 1 (.cons (.var 2) .nil))) (.cons (.cmp .Eq (.ix (.ix (.var 0) (.bin .Add (.var 3) (.con (.int 1)))) (.con (.int 0))) (.bin .Add (.call 1 (.cons (.var 2) .nil)) (.con (.int 1)))) (.cons (.cmp .Lt (.call 1 (.cons (.var 2) .nil)) (.var 1)) .nil)))) (.cons (.expr (.meth .append (.var 2) (.cons (.ix (.ix (.var 0) (.var 3)) (.con (.int 1))) .nil))) .nil) .nil) .nil)) (.cons (.ret (.bin .Add (.var 2) (.lst (.cons (.con (.int 0)) .nil)))) .nil)))
def acI (K:Fg) (A:aZ):SI:=⟨["_law_path_here", "_law_last", "_law_found", "_law_k"],[true,true,true,true],[true,true,true,true],[false,false,false,false],[("range",.bt "range"),("len",.bf .len)],[true,true],true⟩
def nC (K:Fg) (A:aZ) (ex:aK->aV):bD :=
    (dF (tM3 "list" cP (aB 3) (aA (cG (aA (aB 5) (aA (aB 4) aC))) aC)))
def fV (K:Fg) (A:aZ) (ex:aK->aV):bD :=
    (cA (aJ (aD lD (aD bL (aB 1) (aB 5)) (aB 4))) (aL (bF 4 (aD bL (aB 1) (aB 5))) (nC K A ex)) (cA (xA (aJ (aD lD (aB 6) (cT aC))) (aJ (aD jG (aB 4) (aX (.int 0))))) (bF 3 (aD bZ (aB 3) (cT (aA (cG (aA (aB 5) (aA (cI yG (aA (aB 6) aC)) aC))) (aA (cG (aA (aB 5) (aA (aB 4) aC))) aC))))) (cA (aJ (aD lD (aB 6) (cT aC))) (bF 3 (aD bZ (aB 3) (cT (aA (cG (aA (aB 5) (aA (cI a0S (aA (aB 6) aC)) aC))) (aA (cG (aA (aB 5) (aA (aB 4) aC))) aC))))) bM)))
def tV (K:Fg) (A:aZ) (ex:aK->aV):bD :=
    aL (cA (aJ (aD adW (aB 5) (aX (.int 0)))) (dF (tM3 "list" cP (aB 3) (aA (cG (aA (aB 5) (aA (aB 4) aC))) aC))) bM) (fV K A ex)
def xX (K:Fg) (A:aZ) (ex:aK->aV):bD :=
    aL (bF 6 (zK 2 (rG (aB 0)) (aJ (aD jG (aB 0) (aB 7))) (aB 1))) (tV K A ex)
def sE (K:Fg) (A:aZ) (ex:aK->aV):bD :=
    (bN (aD bZ (aB 3) (cT (aA (cG (aA (aX (.int 0)) (aA (aX (.int 0)) aC))) aC))))
def a03 (K:Fg) (A:aZ) (ex:aK->aV):bD :=
    aL (fZ (m8 (aA (cI dO (aA (aB 1) aC)) aC)) (gO 5) (xX K A ex)) (sE K A ex)
def a04 (K:Fg) (A:aZ) (ex:aK->aV):bD :=
    aL (bF 4 (aX (.int 0))) (a03 K A ex)
def yS (K:Fg) (A:aZ) (ex:aK->aV):bD :=
    aL (bF 3 (cT (aA (cG (aA (aX (.int 0)) (aA (aX (.int 0)) aC))) aC))) (a04 K A ex)
def oV (K:Fg) (A:aZ):tG:=spD 7 3 fun EX=>yS K A (fun _=>EX)
def aeW:CB:=(.cons (.set 3 (.lst (.cons (.tup (.cons (.con (.int 0)) (.cons (.con (.int 0)) .nil))) .nil))) (.cons (.set 4 (.con (.int 0))) (.cons (.yH (.a2E (.call 1 (.cons (.var 1) .nil))) (.nm 5) (.cons (.agF 6 2 [false,false,false,false,false,true,false] [false,false,false,false] (.any (.var 0)) (.some (.cmp .Eq (.var 0) (.var 7))) (.var 1)) (.cons (.ifs (.cmp .Gt (.var 5) (.con (.int 0))) (.cons (.expr (.meth .append (.var 3) (.cons (.tup (.cons (.var 5) (.cons (.var 4) .nil))) .nil))) .nil) .nil) (.cons (.ifs (.cmp .NotEq (.ix (.var 1) (.var 5)) (.var 4)) (.cons (.set 4 (.ix (.var 1) (.var 5))) (.cons (.expr (.meth .append (.var 3) (.cons (.tup (.cons (.var 5) (.cons (.var 4) .nil))) .nil))) .nil)) (.cons (.ifs (.and (.cons (.cmp .NotEq (.var 6) (.lst .nil)) (.cons (.cmp .Eq (.var 4) (.con (.int 0))) .nil))) (.cons (.set 3 (.bin .Add (.var 3) (.lst (.cons (.tup (.cons (.var 5) (.cons (.call 2 (.cons (.var 6) .nil)) .nil))) (.cons (.tup (.cons (.var 5) (.cons (.var 4) .nil))) .nil))))) .nil) (.cons (.ifs (.cmp .NotEq (.var 6) (.lst .nil)) (.cons (.set 3 (.bin .Add (.var 3) (.lst (.cons (.tup (.cons (.var 5) (.cons (.call 3 (.cons (.var 6) .nil)) .nil))) (.cons (.tup (.cons (.var 5) (.cons (.var 4) .nil))) .nil))))) .nil) .nil) .nil)) .nil)) .nil)))) (.cons (.ret (.bin .Add (.var 3) (.lst (.cons (.tup (.cons (.con (.int 0)) (.cons (.con (.int 0)) .nil))) .nil)))) .nil))))
def aeX (K:Fg) (A:aZ):SI:=⟨["_law_bins_here", "_law_ends_here", "_law_whole_here", "_law_spots_here", "_law_end", "_law_aisle", "_law_here"],[true,true,true,true,true,true,true],[true,true,true,true,true,false,true],[false,false,false,false,false,true,false],[("range",.bt "range"),("len",.bf .len),("max",.bf .max),("min",.bf .min)],[true,true,true,true],true⟩
def a5H (K:Fg) (A:aZ) (ex:aK->aV):bD :=
    (bN (m7 (aB 5) (aD jG (aY (rT K A) ex (aA (aB 1) (aA (cT aC) aC))) (cT (aA (cG (aA (aX (.int 0)) (aA (aX (.int 0)) aC))) aC)))))
def a5I (K:Fg) (A:aZ) (ex:aK->aV):bD :=
    aL (dF (tM3 "list" cP (aB 4) (aA (cG (aA (aX (.int 0)) (aA (aX (.int 1)) aC))) aC))) (a5H K A ex)
def acJ (K:Fg) (A:aZ) (ex:aK->aV):bD :=
    (bN (m7 (aY (fJ K A) ex (aA (aB 11) (aA (aB 1) aC))) (aD jG (aY (rT K A) ex (aA (aB 1) (aA (aB 3) aC))) (aB 9))))
def acK (K:Fg) (A:aZ) (ex:aK->aV):bD :=
    aL (bF 11 (aY (rT K A) ex (aA (aB 1) (aA (ag9 (aB 3) (a3N (a78 (aX (.int 1))))) aC)))) (acJ K A ex)
def a5J (K:Fg) (A:aZ) (ex:aK->aV):bD :=
    aL (dF (tM3 "list" cP (aB 4) (aA (cG (aA (aX (.int 0)) (aA (aX (.int 1)) aC))) aC))) (acK K A ex)
def acL (K:Fg) (A:aZ) (ex:aK->aV):bD :=
    aL (cA (aJ (aD lD (a0Q (rG (aB 2)) (aJ (aD a0U (aB 0) (aB 11))) (aB 0)) (cT aC))) (bN (aX (.bl false))) bM) (a5J K A ex)
def acM (K:Fg) (A:aZ) (ex:aK->aV):bD :=
    aL (bF 10 (cI wG (aA (a0Q (rG (aB 6)) uI (cG (aA (aB 0) (aA (aX (.bl true)) aC)))) aC))) (acL K A ex)
def acN (K:Fg) (A:aZ) (ex:aK->aV):bD :=
    aL (bF 9 (cI a0O (aA (aB 4) aC))) (acM K A ex)
def acO (K:Fg) (A:aZ) (ex:aK->aV):bD :=
    aL (cA (aJ (aD lD (aB 6) (aY (iH K A) ex (aA (aY (oV K A) ex (aA (aB 2) (aA (aB 8) (aA (aD bZ (aD bL (aB 1) (aX (.int 1))) (aX (.int 1))) aC)))) aC)))) (bN (aX (.bl false))) bM) (acN K A ex)
def acP (K:Fg) (A:aZ) (ex:aK->aV):bD :=
    aL (cA (tY (aJ (aD lD (cI dO (aA (aB 8) aC)) (aD bZ (aB 7) (aX (.int 1))))) (aJ (aD lD (a0Q (rG (aB 8)) (xA (aJ (aD lD (aB 0) (aX (.int 0)))) (aJ (aD lD (aB 0) (aD bZ (aD bL (aB 2) (aX (.int 1))) (aX (.int 1)))))) (aB 0)) (cT aC)))) (bN (aX (.bl false))) bM) (acO K A ex)
def agO (K:Fg) (A:aZ) (ex:aK->aV):bD :=
    aL (bF 8 (aY (lJ K A) ex (aA (aB 6) (aA (aB 7) aC)))) (acP K A ex)
def agP (K:Fg) (A:aZ) (ex:aK->aV):bD :=
    aL (bF 7 (cI yG (aA (zK 2 (rG (aB 2)) uI (aB 0)) aC))) (agO K A ex)
def agQ (K:Fg) (A:aZ) (ex:aK->aV):bD :=
    aL (bF 6 (aY (iH K A) ex (aA (aB 4) aC))) (agP K A ex)
def agR (K:Fg) (A:aZ) (ex:aK->aV):bD :=
    aL (cA (aJ (aD jG (aB 2) (cT aC))) (aL (bF 5 (aD jG (aB 4) (cT (aA (cG (aA (aX (.int 0)) (aA (aX (.int 0)) aC))) aC)))) (a5I K A ex)) bM) (agQ K A ex)
def agS (K:Fg) (A:aZ) (ex:aK->aV):bD :=
    aL (cA (tY (aJ (aD lD (aB 3) (aB 2))) (oF (aJ (aY (fJ K A) ex (aA (aB 4) (aA (aB 1) aC)))))) (bN (aX (.bl false))) bM) (agR K A ex)
def agT (K:Fg) (A:aZ) (ex:aK->aV):bD :=
    aL (bF 4 (aY (rT K A) ex (aA (aB 1) (aA (aB 3) aC)))) (agS K A ex)
def agU (K:Fg) (A:aZ) (ex:aK->aV):bD :=
    aL (bF 3 (cI a0O (aA (aB 2) aC))) (agT K A ex)
def agV (K:Fg) (A:aZ) (ex:aK->aV):bD :=
    aL (bF 2 (aY (lH K A) ex (aA (aB 0) (aA (aB 1) aC)))) (agU K A ex)
def amM (K:Fg) (A:aZ) (ex:aK->aV):bD :=
    aL (bF 1 (aY (lG K A) ex (aA (aB 0) aC))) (agV K A ex)
def a9Q (K:Fg) (A:aZ):tG:=spD 12 1 fun EX=>amM K A (fun _=>EX)
def acQ:CB:=(.cons (.set 1 (.call 0 (.cons (.var 0) .nil))) (.cons (.set 2 (.call 1 (.cons (.var 0) (.cons (.var 1) .nil)))) (.cons (.set 3 (.call 2 (.cons (.var 2) .nil))) (.cons (.set 4 (.call 3 (.cons (.var 1) (.cons (.var 3) .nil)))) (.cons (.ifs (.or (.cons (.cmp .NotEq (.var 3) (.var 2)) (.cons (.not (.val (.call 4 (.cons (.var 4) (.cons (.var 1) .nil))))) .nil))) (.cons (.ret (.con (.bl false))) .nil) .nil) (.cons (.ifs (.cmp .Eq (.var 2) (.lst .nil)) (.cons (.set 5 (.cmp .Eq (.var 4) (.lst (.cons (.tup (.cons (.con (.int 0)) (.cons (.con (.int 0)) .nil))) .nil)))) (.cons (.expr (.meth .append (.var 4) (.cons (.tup (.cons (.con (.int 0)) (.cons (.con (.int 1)) .nil))) .nil))) (.cons (.ret (.a96 (.cons (.var 5) (.cons (.cmp .Eq (.call 3 (.cons (.var 1) (.cons (.lst .nil) .nil))) (.lst (.cons (.tup (.cons (.con (.int 0)) (.cons (.con (.int 0)) .nil))) .nil))) .nil)))) .nil))) .nil) (.cons (.set 6 (.call 5 (.cons (.var 4) .nil))) (.cons (.set 7 (.call 6 (.cons (.abS 2 [false,false,false,false,false,false,false,false,false,false,false,false] [false,false,false,false,false,false,false,false,false,false,false] (.any (.var 2)) .none (.var 0)) .nil))) (.cons (.set 8 (.call 7 (.cons (.var 6) (.cons (.var 7) .nil)))) (.cons (.ifs (.or (.cons (.cmp .NotEq (.call 8 (.cons (.var 8) .nil)) (.bin .Add (.var 7) (.con (.int 1)))) (.cons (.cmp .NotEq (.comp [false,true,false,false,false,false,false,false,false,false,false,false] [false,false,false,false,false,false,false,false,false,false,false] (.any (.var 8)) (.some (.and (.cons (.cmp .NotEq (.var 0) (.con (.int 0))) (.cons (.cmp .NotEq (.var 0) (.bin .Add (.ix (.var 2) (.con (.int 1))) (.con (.int 1)))) .nil)))) (.var 0)) (.lst .nil)) .nil))) (.cons (.ret (.con (.bl false))) .nil) .nil) (.cons (.ifs (.cmp .NotEq (.var 6) (.call 5 (.cons (.call 9 (.cons (.var 2) (.cons (.var 8) (.cons (.bin .Add (.ix (.var 1) (.con (.int 1))) (.con (.int 1))) .nil)))) .nil))) (.cons (.ret (.con (.bl false))) .nil) .nil) (.cons (.set 9 (.call 2 (.cons (.var 4) .nil))) (.cons (.set 10 (.call 10 (.cons (.comp [false,false,false,false,false,false,false,false,false,false,false,false] [false,false,false,false,false,false,false,false,false,false,false] (.any (.var 6)) .none (.tup (.cons (.var 0) (.cons (.con (.bl true)) .nil)))) .nil))) (.cons (.ifs (.cmp .NotEq (.comp [false,false,false,false,false,false,false,false,false,false,true,false] [false,false,false,false,false,false,false,false,false,false,false] (.any (.var 2)) (.some (.din true (.var 0) (.var 11))) (.var 0)) (.lst .nil)) (.cons (.ret (.con (.bl false))) .nil) .nil) (.cons (.expr (.meth .append (.var 4) (.cons (.tup (.cons (.con (.int 0)) (.cons (.con (.int 1)) .nil))) .nil))) (.cons (.set 11 (.call 3 (.cons (.var 1) (.cons (.rev (.var 3) (.neg (.con (.int 1)))) .nil)))) (.cons (.ret (.a96 (.cons (.call 4 (.cons (.var 11) (.cons (.var 1) .nil))) (.cons (.cmp .Eq (.call 3 (.cons (.var 1) (.cons (.var 3) .nil))) (.var 9)) .nil)))) .nil)))))))))))))))))
def aCR (K:Fg) (A:aZ):SI:=⟨["_law_script", "_law_plan_here", "_law_bins_here", "_law_handed", "_law_spots_here", "_law_good", "_law_path_here", "_law_last", "_law_ends_here", "_law_kept", "_law_known", "_law_again"],[true,true,true,true,true,true,true,true,true,true,true,true],[true,false,true,true,true,true,true,true,true,true,false,true],[false,true,false,false,false,false,false,false,false,false,true,false],[("_law_plan",.fn (lG K A) 1 false),("_law_bins",.fn (lH K A) 2 false),("list",.bt "list"),("walk",.fn (rT K A) 2 false),("_law_spots",.fn (fJ K A) 2 false),("_law_path",.fn (iH K A) 1 false),("max",.bf .max),("_law_ends",.fn (lJ K A) 2 false),("len",.bf .len),("_law_due",.fn (oV K A) 3 false),("dict",.bf .abQ)],[true,true,true,true,true,true,true,true,true,true,true],true⟩
structure Txt (K:Fg) (mg:Str->Option Value) (A:aZ):Prop where
  j7:u6 K "is_whole" "is_whole" a4S A.yK A.mJ
  nD:Binds K A.mJ ["thing", "least", "most"] []
  nF:mg "is_whole" = some (.ref A.yK)
  qR:u6 K "is_pair" "is_pair" a7T A.a0Y A.qD
  wJ:Binds K A.qD ["thing", "aisles", "first", "last"] []
  wK:mg "is_pair" = some (.ref A.a0Y)
  qT:u6 K "is_plan" "is_plan" a7U A.a0Z A.qF
  wL:Binds K A.qF ["thing"] []
  wM:mg "is_plan" = some (.ref A.a0Z)
  gK:u6 K "need_plan" "need_plan" a1M A.uW A.jH
  jP:Binds K A.jH ["plan"] []
  jQ:mg "need_plan" = some (.ref A.uW)
  vP:u6 K "is_bin" "is_bin" ac4 A.a4X A.uX
  a05:Binds K A.uX ["plan", "thing"] []
  a06:mg "is_bin" = some (.ref A.a4X)
  nG:u6 K "need_bin" "need_bin" a4T A.yL A.mK
  sG:Binds K A.mK ["plan", "thing"] []
  sH:mg "need_bin" = some (.ref A.yL)
  cN:u6 K "places_by_aisle" "places_by_aisle" oH A.gR A.cL
  dM:Binds K A.cL ["bins"] []
  dN:mg "places_by_aisle" = some (.ref A.gR)
  j8:u6 K "farthest" "farthest" a4U A.yM A.mL
  nH:Binds K A.mL ["places", "end"] []
  nJ:mg "farthest" = some (.ref A.yM)
  dX:u6 K "steps_within" "steps_within" uT A.mQ A.dR
  iI:Binds K A.dR ["plan", "places", "end", "goal"] []
  iJ:mg "steps_within" = some (.ref A.mQ)
  fK:u6 K "ways_behind" "ways_behind" xF A.pF A.fD
  jD:Binds K A.fD ["plan", "places", "ways"] []
  jE:mg "ways_behind" = some (.ref A.pF)
  d9:u6 K "shortest_ends" "shortest_ends" tK A.jZ A.d8
  fW:Binds K A.d8 ["plan", "aisles"] []
  fX:mg "shortest_ends" = some (.ref A.jZ)
  dY:u6 K "spots_within" "spots_within" uU A.mR A.dU
  iK:Binds K A.dU ["aisle", "places", "end", "goal"] []
  iM:mg "spots_within" = some (.ref A.mR)
  a07:u6 K "go_to" "go_to" agN A.a9I A.zW
  a2X:Binds K A.zW ["spots", "spot"] []
  a2Y:mg "go_to" = some (.ref A.a9I)
  nM:u6 K "spots_by" "spots_by" a4V A.yN A.mU
  sI:Binds K A.mU ["aisles", "ends"] []
  sJ:mg "spots_by" = some (.ref A.yN)
  a5K:u6 K "walk" "walk" amI A.aeM A.a4Y
  a9R:Binds K A.a4Y ["plan", "bins"] []
  a9S:mg "walk" = some (.ref A.aeM)
  cR:u6 K "_law_cell_at" "_law_cell_at" uV A.mV A.dW
  dZ:Binds K A.dW ["_law_script", "_law_k"] []
  eF:mg "_law_cell_at" = some (.ref A.mV)
  iQ:u6 K "_law_whole" "_law_whole" zT A.rK A.gU
  lK:Binds K A.gU ["_law_found"] []
  lM:mg "_law_whole" = some (.ref A.rK)
  jR:u6 K "_law_plan" "_law_plan" a1N A.uY A.jJ
  oW:Binds K A.jJ ["_law_script"] []
  oX:mg "_law_plan" = some (.ref A.uY)
  jT:u6 K "_law_bins" "_law_bins" a1O A.uZ A.jK
  oY:Binds K A.jK ["_law_script", "_law_plan_here"] []
  oZ:mg "_law_bins" = some (.ref A.uZ)
  iR:u6 K "_law_steps" "_law_steps" zU A.rM A.gW
  lN:Binds K A.gW ["_law_one", "_law_other"] []
  lO:mg "_law_steps" = some (.ref A.rM)
  jU:u6 K "_law_path" "_law_path" a1P A.v7 A.jL
  p7:Binds K A.jL ["_law_spots_here"] []
  p8:mg "_law_path" = some (.ref A.v7)
  iT:u6 K "_law_spots" "_law_spots" zV A.rN A.gY
  lQ:Binds K A.gY ["_law_spots_here", "_law_plan_here"] []
  lR:mg "_law_spots" = some (.ref A.rN)
  jV:u6 K "_law_ends" "_law_ends" a1Q A.v8 A.jM
  pA:Binds K A.jM ["_law_path_here", "_law_last"] []
  pB:mg "_law_ends" = some (.ref A.v8)
  nO:u6 K "_law_due" "_law_due" a4W A.yO A.mW
  sO:Binds K A.mW ["_law_bins_here", "_law_ends_here", "_law_whole_here"] []
  sS:mg "_law_due" = some (.ref A.yO)
  atZ:u6 K "law" "law" ac5 A.a1R A.amJ
  aCS:Binds K A.amJ ["_law_script"] []
  aCT:mg "law" = some (.ref A.a1R)
  a9T:mg "DepotError" = some (.ref A.gZ)
  iU:jj K A.gZ BMv "ValueError.__new__" = true
  fL:(jw K A.gZ).isSome=true
  fM:ou K (.ref A.gZ)=some (.type "type")
  fO:qg K (.ref A.gZ) (.type "BaseException")=some true
  acR:mg "NoPlan" = some (.ref A.jN)
  qU:jj K A.jN BMv "ValueError.__new__" = true
  lV:(jw K A.jN).isSome=true
  lW:ou K (.ref A.jN)=some (.type "type")
  lX:qg K (.ref A.jN) (.type "BaseException")=some true
  agW:mg "NoBin" = some (.ref A.rO)
  wN:jj K A.rO BMv "ValueError.__new__" = true
  qW:(jw K A.rO).isSome=true
  qX:ou K (.ref A.rO)=some (.type "type")
  qY:qg K (.ref A.rO) (.type "BaseException")=some true
  dB:∃ t,mg "MOST_AISLES" = some (.int 26 t)
  dD:∃ t,mg "MOST_PLACES" = some (.int 99 t)
  j9:∃ t,mg "MOST_GAP" = some (.int 20 t)
  a1A:∃ a,mg "DOOR" = some (.ref a)/\∀ H,RD K H (.tup [.int 0,.int 0]) (.ref a)
  au0:mg "abs" = none
  aeY:mg "bool" = none
  amN:mg "dict" = none
  a1V:mg "enumerate" = none
  agX:mg "int" = none
  eV:mg "isinstance" = none
  vQ:mg "len" = none
  aeZ:mg "list" = none
  acS:mg "max" = none
  agY:mg "min" = none
  sU:mg "range" = none
  a2Z:mg "tuple" = none
end Law
namespace Law
open PySem PySem.Spec PyProof.Rows L2 L4 L5 L6
local macro_rules | `(tactic| walk_at "wp")=>`(tactic| first | (simp (maxSteps:=2000000) (implicitDefEqProofs:=false) (disch:=first | rfl | decide | assumption | omega) only [L5.atQ,L5.axM,L5.axN,L5.aC4,L5.aC5,L5.aC6,L5.x_raise,L5.x_c,L5.axO,L5.axP,L5.aG1,L5.axQ,L5.aqS,L5.aC7,L5.aG2,L5.aC8,L5.axR,L5.axS,L5.aC9,L5.aCA,L5.aCB,L5.axT,L5.aCC,L5.aCD,L5.aCE,L5.x_call,L5.aG3,L5.x_m,L5.axU,L5.axH,L5.aqR,L5.am3,L5.am4,L5.aCF,L5.axW,L5.axX,L5.ar5,L5.axY,L5.x_lt,L5.aG4,L5.x_ge,L5.aG5,L5.aqT,L5.aqU,L5.aqV,L5.aqW,L5.aqX,L5.aqY,L5.aCH,L5.aqZ,L5.bQ,L5.ar0,L5.ar3,L5.ar4,L5.axI,L5.axJ,L5.axK,L5.axL,L5.abV,L5.a9C,L5.a6I,L5.aeG,L5.abW,L5.a9D,L5.abX,L5.a9E,L5.a6J,L5.abY,L5.a9F,L5.a6K,L5.abZ,L5.a9G,L5.a6L,L5.aeI,L5.aeJ,L5.ac0,L5.am8,L5.aiG,L5.aeK,L5.aCI,L5.aCJ,L5.aeL,L5.aiH,L5.aiI,L6.ar6,L6.aCK,L6.ay2,L6.ar7,L6.ay3,L6.ay5,L6.ar8,L6.a4P,L6.ar9,L6.ay6,L6.ay0,L8.arC,L9.ay8,L11.amD,L10.aiL,L10.ay9,L7.aCM,L7.ay7,L7.aCO,reduceIte,reduceCtorEq];try dsimp only [L5.alZ,L5.am0,L5.am1,L5.am2,L6.agK]) | dsimp only [L5.alZ,L5.am0,L5.am1,L5.am2,L6.agK])
local macro_rules | `(tactic| exists $ls,*)=>`(tactic| (simp (implicitDefEqProofs:=false) only [$[$ls:term],*];repeat (first | (walk_at "wp") | (simp (implicitDefEqProofs:=false) only [$[$ls:term],*]))))
local macro_rules | `(tactic| walk_at "wr")=>`(tactic| repeat (walk_at "wp"))
variable {d:D}{a b p al ea:Addr}{ns es ps f:List Int}{n i j M e m:Int}{x y g:Nat}{G' G2 G1:Gp}{xs ys:List D}{q r c:Int×Int}{F:cO}{ex:aK->aV}{r1 r3 r7 r4 r2 r6 r5:Option D}{qs l C:List (Int×Int)}{aP:List (List Int)}{od:Obj}
section
variable {K:Fg} {A:aZ} {G:Gp} {R:fY} {EX:aV} {mg:Str->Option Value}
open L7 L8 L9 L10 L11
def isW (d:D) (a b:Int):Bool:=match d with
  | .int i=>decide (a<=i)&&decide (i<=b)
  | _=>false
theorem nP {a b:Int} (hd:kn G d) (h:R (.bl (isW d a b)) G):cM K A [d,.int a,.int b] G R EX:=by
  refine ⟨rfl,?_⟩;replace h:=bH.here h;show rP K A _ _ [some d,some (.int a),some (.int b)] G;cases d
  case ref q=>exists rP,aeH hd;exact h
  case ty n=>simp [kn,tyD] at hd
  all_goals exists rP
  case int i =>
    by_cases c:a<=i
    . simp only [c,decide_true,if_true];simpa [isW,c] using h
    . simp only [c,decide_false,pq,if_false];simpa [isW,c] using h
  all_goals exact h
def cellAt (ns:List Int) (k:Nat):Int:=if k < ns.length then ns.getD k 0 else if ns=[] then 0 else
  let m:=(ns.getD (k % ns.length) 0 * 48271+k * 104729) % 2147483647
  (m * m+48271 * k) % 2147483629
theorem a5L (hG:G a=some (.rol (ns.map D.int))) {k:Nat} (hk:k < 1000) (h:R (.int (cellAt ns k)) G):bO K A [.ref a,.int (k:Int)] G R EX:=by
  refine ⟨rfl,?_⟩;replace h:=bH.here h;show n8 K A _ _ [some (.ref a),some (.int k),none] G;exists n8,dJ (uO hG);by_cases c:k < ns.length
  . rw [if_pos (decide_eq_true (by omega))];have e:atI (ns.map D.int) (k:Int)=some (.int (ns.getD k 0)):=by rw [uP];simp [c,List.getD]
    rw [yI (uO hG) e];rw [show cellAt ns k=ns.getD k 0 by unfold cellAt;rw [if_pos c]] at h;exact h
  . rw [if_neg (by simp;omega)];exists qP,dJ (uO hG);by_cases hn:ns=[]
    . subst hn;rw [show cellAt [] k=0 by unfold cellAt;simp] at h;exact h
    . have h0:0 < (ns.length:Int):=by cases ns with
        | nil=>exact absurd rfl hn
        | cons n r=>simp
      have e0:((ns.length:Int) == 0)=false:=by simp;exact hn
      rw [e0];exists qO,dJ (uO hG);have hm:k % ns.length < ns.length:=Nat.mod_lt _ (by omega)
      have e2:atI (ns.map D.int) ((k:Int) % (ns.length:Int))=some (.int (ns.getD (k % ns.length) 0)):=by
        rw [← Int.natCast_emod,uP];simp [hm,List.getD]
      rw [yI (uO hG) e2];exists qN
      have ec:cellAt ns k=((ns.getD (k % ns.length) 0 * 48271+(k:Int) * 104729) % 2147483647 * ((ns.getD (k % ns.length) 0 * 48271+(k:Int) * 104729) % 2147483647)+48271 * (k:Int)) % 2147483629:=by
        unfold cellAt;rw [if_neg c,if_neg hn]
      rw [← ec];exact h
def isP (d:D) (n a b:Int):Bool:=match d with
  | .tup [x,y]=>isW x 0 (n - 1)&&isW y a b
  | _=>false
theorem aiR {a b:Int} (hd:kn G d) (hc:∀ x y,d = .tup [x,y]->kn G x/\kn G y) (h:R (.bl (isP d n a b)) G):rQ K A [d,.int n,.int a,.int b] G R EX:=by
  refine ⟨rfl,?_⟩;replace h:=bH.here h;show qG K A _ _ [some d,some (.int n),some (.int a),some (.int b)] G;cases d
  case ref q=>exists qG,zQ hd;exact h
  case ty n=>simp [kn,tyD] at hd
  case tup xs =>
    exists qG
    match xs,h,hc with
    | [],h,_=>exact h
    | [x],h,_=>exact h
    | x :: y :: z :: r,h,_ =>
      have e:((((x :: y :: z :: r).length:Nat):Int) == 2)=false:=by simp;omega
      simp only [e];exact h
    | [x,y],h,hc =>
      obtain ⟨h1,h2⟩:=hc x y rfl;exists a1S;refine nP h1 ?_;walk_at "wr";refine gP (fun e=>nP h2 ?_) fun e=>?_
      . simpa [isP,e] using h
      . simpa [isP,e] using h
  all_goals exists qG
  all_goals exact h
theorem ayC {a b:Int}:isP (.tup [.int i,.int j]) n a b=(decide (0<=i)&&decide (i<=n - 1)&&(decide (a<=j)&&decide (j<=b))):=rfl
def acT (d:D):Bool:=match d with
  | .tup [x,y,z]=>isW x 1 26&&(isW y 1 99&&isW z 1 20)
  | _=>false
theorem aiS (hd:kn G d) (hc:∀ x y z,d = .tup [x,y,z]->kn G x/\kn G y/\kn G z) (h:R (.bl (acT d)) G):rR K A [d] G R EX:=by
  refine ⟨rfl,?_⟩;replace h:=bH.here h;show qH K A _ _ [some d] G;cases d
  case ref q=>exists qH,zQ hd;exact h
  case ty n=>simp [kn,tyD] at hd
  case tup xs =>
    exists qH
    match xs,h,hc with
    | [],h,_=>exact h
    | [x],h,_=>exact h
    | [x,y],h,_=>exact h
    | x :: y :: z :: w :: r,h,_ =>
      have e:((((x :: y :: z :: w :: r).length:Nat):Int) == 3)=false:=by simp;omega
      simp only [e];exact h
    | [x,y,z],h,hc =>
      obtain ⟨h1,h2,h3⟩:=hc x y z rfl;exists a1U;refine nP h1 ?_;walk_at "wr";refine ahZ (fun e=>?_) fun e=>?_
      . simpa [acT,e] using h
      . have e:isW x 1 26=true:=by simpa using e
        refine nP h2 ?_;walk_at "wr";refine ahZ (fun e2=>?_) fun e2=>?_
        . simpa [acT,e2] using h
        . have e2:isW y 1 99=true:=by simpa using e2
          exists a1T;refine nP h3 ?_;simpa [acT,e,e2] using h
  all_goals exists qH
  all_goals exact h
theorem acU (hd:kn G d) (hc:∀ x y z,d = .tup [x,y,z]->kn G x/\kn G y/\kn G z) (h0:acT d=false->EX A.jN G) (h1:acT d=true->R .non G):cW K A [d] G R EX:=by
  refine ⟨rfl,?_⟩;show v9 K A _ _ [some d] G;exists v9;refine aiS hd hc ?_;walk_at "wr";exact ahZ (fun e=>uN.here (h0 e)) fun e=>bH.here (h1 (by simpa using e))
def nY (x y g:Nat):D := .tup [.int x,.int y,.int g]
structure OkP (x y g:Nat):Prop where
  x0:1<=x
  x1:x<=26
  y0:1<=y
  y1:y<=99
  g0:1<=g
  g1:g<=20
theorem arJ (o:OkP x y g):acT (nY x y g)=true:=by
  obtain ⟨_,_,_,_,_,_⟩:=o;simp [acT,nY,isW];omega
theorem a7W (o:OkP x y g) (h:R .non G):cW K A [nY x y g] G R EX :=
  acU am6 (fun a b c e=>by cases e;exact ⟨rfl,rfl,rfl⟩) (fun e=>by rw [arJ o] at e;cases e) fun _=>h
def kp (G:Gp) (d:D):Prop:=kn G d/\∀ xs,d = .tup xs->∀ x∈xs,kn G x
theorem kp.le (l:Le G G') (h:kp G d):kp G' d:=⟨atV l h.1,fun xs e x m=>atV l (h.2 xs e x m)⟩
def HS (G:Gp) (p:Addr) (xs:List D) (G':Gp):Prop:=G' p=some (.lst xs)/\∀ q u,q≠p->G q=some u->G' q=some u
theorem HS.le (h:HS G p xs G'):Le (aM G p (.lst xs)) G':=fun q u e=>by
  by_cases c:q=p
  . subst c;rw [aG] at e;exact e ▸ h.1
  . rw [bB c] at e;exact h.2 q u c e
theorem HS.new {q:Addr} {o:GO} (h:HS G p xs G') (hq:G' q=none):HS G p xs (aM G' q o):=⟨bR h.1 hq,fun r u n e=>bR (h.2 r u n e) hq⟩
theorem HS.trans (h:HS G p xs G') (h2:HS G' p ys G2):HS G p ys G2:=⟨h2.1,fun r u n e=>h2.2 r u n (h.2 r u n e)⟩
theorem HS.put (h:G p=some (.lst xs)):HS G p ys (aM G p (.lst ys)):=⟨aG,fun r u n e=>by rw [bB n];exact e⟩
theorem HS.more (h:HS G p xs G') (l:Le G' G2):HS G p xs G2:=⟨l _ _ h.1,fun r u n e=>l _ _ (h.2 r u n e)⟩
theorem HS.leG (h:HS G p xs G') (hp:G p=none):Le G G':=fun r u e=>h.2 r u (fun z=>by subst z;rw [hp] at e;cases e) e
theorem HS.mk0:HS G p xs (aM G p (.lst xs)):=⟨aG,fun r u n e=>by rw [bB n];exact e⟩
theorem HS.snd (h:HS G p xs G'):HS G p ys (aM G' p (.lst ys)):=h.trans (.put h.1)
theorem agZ (h:R (.bl true) G):fH K A [.int i] G R EX:=by
  refine ⟨rfl,?_⟩;show rW K A _ _ [some (.int i)] G;exists rW;exact bH.here h
abbrev cD (q:Int×Int):D := .tup [.int q.1,.int q.2]
theorem ah0 {x y:Int} (hG:G a=some (.rol (ns.map D.int))) (hx:1<=x/\x<=26) (hy:1<=y/\y<=99) (h:∀ x y g:Nat,OkP x y g->F.rt (nY x y g) G):pH K A ex F [some (.ref a),r1,some (.int x),some (.int y)] G:=by
  exists pH;refine a5L (k:=2) hG (by omega) ?_;walk_at "wr";have z:=h x.toNat y.toNat (1+cellAt ns 2 % 20).toNat ⟨by omega,by omega,by omega,by omega,by omega,by omega⟩;unfold nY at z;rw [Int.toNat_of_nonneg (by omega),Int.toNat_of_nonneg (by omega),Int.toNat_of_nonneg (by omega)] at z;exact z
theorem ah1 {x:Int} (hG:G a=some (.rol (ns.map D.int))) (hx:1<=x/\x<=26) (h:∀ x y g:Nat,OkP x y g->F.rt (nY x y g) G):pI K A ex F [some (.ref a),r1,some (.int x),r3] G:=by
  exists pI;refine a5L (k:=1) hG (by omega) ?_;exists xJ,xH;exact gP (fun _=>ah0 hG hx (by omega) h) fun _=>ah0 hG hx (by omega) h
theorem arK (hG:G a=some (.rol (ns.map D.int))) (h:∀ x y g:Nat,OkP x y g->R (nY x y g) G):lG K A [.ref a] G R EX:=by
  refine ⟨rfl,?_⟩;have h':∀ x y g:Nat,OkP x y g->bH R (nY x y g) G:=fun x y g o=>bH.here (h x y g o);show vB K A _ _ [some (.ref a),none,none,none] G;exists vB;refine a5L (k:=0) hG (by omega) ?_;exists xM,xK;exact gP (fun _=>ah1 hG (by omega) h') fun _=>ah1 hG (by omega) h'
def Wk (y:Nat) (q r:Int×Int):Prop:=q.1=r.1∨(q.2=r.2/\(q.2=0∨q.2=(y:Int)+1))
def InP (x y:Nat) (q:Int×Int):Prop:=0<=q.1/\q.1 < x/\0<=q.2/\q.2<=(y:Int)+1
structure Walk (x y:Nat) (qs:List (Int×Int)):Prop where
  inn:∀ q∈qs,InP x y q
  step:∀ (k:Nat) q r,qs[k]?=some q->qs[k+1]?=some r->Wk y q r
theorem Walk.snoc {l:Int×Int} (h:Walk x y qs) (hl:qs[qs.length - 1]?=some l) (hr:InP x y r) (hw:Wk y l r):Walk x y (qs++[r]):=by
  have n0:qs.length - 1 < qs.length:=(bh.mp hl).1;refine ⟨fun q hq=>?_,fun k a b ha hb=>?_⟩
  . rcases jo.mp hq with hq | hq
    . exact h.inn q hq
    . rw [je] at hq;exact hq ▸ hr
  . have kb:=(bh.mp hb).1;rw [gk,xr] at kb;rw [jf (by omega)] at ha;by_cases c:k+1 < qs.length
    . rw [jf c] at hb;exact h.step k a b ha hb
    . have e:k+1=qs.length:=by omega
      rw [e,List.getElem?_concat_length] at hb;cases hb;rw [show k=qs.length - 1 by omega,hl] at ha;cases ha;exact hw
theorem aiT:(qs++[r])[(qs++[r]).length - 1]?=some r:=by
  simp
def iV (g:Nat) (q r:Int×Int):Int:=(if q.2 - r.2 < 0 then -(q.2 - r.2) else q.2 - r.2)+(g:Int) * (if q.1 - r.1 < 0 then -(q.1 - r.1) else q.1 - r.1)
def a1B (g:Nat):List (Int×Int)->Int
  | q :: r :: z=>iV g q r+a1B g (r :: z)
  | _=>0
theorem a7X {g:Nat} {q r:Int×Int}:∀ xs:List (Int×Int),a1B g (xs++[q,r])=a1B g (xs++[q])+iV g q r
  | []=>by simp [a1B]
  | [a]=>by simp [a1B]
  | a :: b :: z=>by
    have:=a7X (g:=g) (q:=q) (r:=r) (b :: z);simp only [xq,a1B] at *;omega
theorem xY {k:Nat} (hp:aU G p=some (qs.map cD)) (hq:qs[k]?=some q) (h:R (.tup [.int q.1,.int q.2]) G):bL (.ref p) (.int (k:Int)) G R:=by
  rw [yI hp (d:=cD q) (by rw [uP,ju,hq];rfl)];exact h
theorem eG:∀ (xs:List (Int×Int)) {n:Nat},2<=n->(xs.map cD).all (aO n)=true
  | [],_,_=>rfl
  | q :: r,n,h=>by
    rw [jd,qz,eG r h];obtain ⟨m,rfl⟩:∃ m,n=m+2:=⟨n - 2,by omega⟩;rfl
variable {xs:List (Int×Int)}
theorem a5M:eX (xs.map cD) (xs.map cD)=true:=a0L (n:=2) fun x hx=>gj.mp (eG xs (by omega)) x hx
def mxL:List Int->Int
  | []=>0
  | [a]=>a
  | a :: b :: r=>if mxL (b :: r) < a then a else mxL (b :: r)
def mnL:List Int->Int
  | []=>0
  | [a]=>a
  | a :: b :: r=>if a < mnL (b :: r) then a else mnL (b :: r)
theorem pL:∀ {l:List Int},l≠[]->mxL l∈l/\∀ a∈l,a<=mxL l
  | [],h=>absurd rfl h
  | [a],_=>⟨by simp [mxL],fun b hb=>by simp at hb;simp [mxL,hb]⟩
  | a :: b :: r,_=>by
    obtain ⟨h1,h2⟩:=pL (l:=b :: r) (by simp);unfold mxL;split
    . rename_i c;refine ⟨by simp,fun d hd=>?_⟩;rcases iy.mp hd with e | hd
      . omega
      . have:=h2 d hd;omega
    . rename_i c;refine ⟨gw _ h1,fun d hd=>?_⟩;rcases iy.mp hd with e | hd
      . omega
      . exact h2 d hd
theorem a1C:∀ {l:List Int},l≠[]->mnL l∈l/\∀ a∈l,mnL l<=a
  | [],h=>absurd rfl h
  | [a],_=>⟨by simp [mnL],fun b hb=>by simp at hb;simp [mnL,hb]⟩
  | a :: b :: r,_=>by
    obtain ⟨h1,h2⟩:=a1C (l:=b :: r) (by simp);unfold mnL;split
    . rename_i c;refine ⟨by simp,fun d hd=>?_⟩;rcases iy.mp hd with e | hd
      . omega
      . have:=h2 d hd;omega
    . rename_i c;refine ⟨gw _ h1,fun d hd=>?_⟩;rcases iy.mp hd with e | hd
      . omega
      . exact h2 d hd
theorem a9U {l:List Int} (h1:M∈l) (h2:∀ a∈l,a<=M):M=mxL l:=by
  have n:l≠[]:=fun e=>by subst e;cases h1
  have:=(pL n).2 M h1;have:=h2 _ (pL n).1;omega
theorem amO {l:List Int} (h1:M∈l) (h2:∀ a∈l,M<=a):M=mnL l:=by
  have n:l≠[]:=fun e=>by subst e;cases h1
  have:=(a1C n).2 M h1;have:=h2 _ (a1C n).1;omega
def vR (n:Int) (ps:List Int) (e g:Int):Int:=if g=e then (if ps=[] then 0 else if e=0 then 2 * mxL ps else 2 * (n - mnL ps)) else n
def cost (n:Int):List (List Int)->Int->List Int->Int
  | ps :: r,e,g :: es=>vR n ps e g+cost n r g es
  | _,_,_=>0
def aQ (e:Int) (es:List Int):Int:=es.getLastD e
theorem eN {g:Int}:aQ e (es++[g])=g:=by simp [aQ]
theorem af0 {g:Int}:aQ e (g :: es)=aQ g es:=by
  unfold aQ;cases es with
  | nil=>rfl
  | cons a r=>simp [List.getLastD]
theorem wO {n:Int} {ps:List Int} {g:Int}:∀ {aP:List (List Int)} {e:Int} {es:List Int},es.length=aP.length->cost n (aP++[ps]) e (es++[g])=cost n aP e es+vR n ps (aQ e es) g
  | [],e,[],_=>by simp [cost,aQ]
  | [],_,_ :: _,h=>by simp at h
  | _ :: _,_,[],h=>by simp at h
  | q :: r,e,f :: es,h=>by
    have ih:=wO (n:=n) (ps:=ps) (g:=g) (aP:=r) (e:=f) (es:=es) (by simpa using h);show vR n q e f+cost n (r++[ps]) f (es++[g])=vR n q e f+cost n r f es+vR n ps (aQ e (f :: es)) g;rw [ih,af0];omega
structure Ens (n:Int) (k:Nat) (es:List Int):Prop where
  len:es.length=k
  inn:∀ g∈es,g=0∨g=n
theorem Ens.snoc {k:Nat} {g:Int} (h:Ens n k es) (hg:g=0∨g=n):Ens n (k+1) (es++[g]) :=
  ⟨by simp [h.len],fun f hf=>(jo.mp hf).elim (h.inn f) fun z=>by rw [je.mp z];exact hg⟩
theorem Ens.split {k:Nat} (h:Ens n (k+1) es):∃ es0 g,es=es0++[g]/\Ens n k es0/\(g=0∨g=n):=by
  have ne:es≠[]:=fun e=>by have:=h.len;rw [e] at this;simp at this
  refine ⟨es.dropLast,es.getLast ne,(ur ne).symm,⟨by rw [List.length_dropLast,h.len];rfl,fun g hg=>h.inn g (List.dropLast_subset _ hg)⟩,h.inn _ (List.getLast_mem ne)⟩
theorem Ens.last {k:Nat} (h:Ens n k es):aQ 0 es=0∨aQ 0 es=n:=by
  unfold aQ;cases es with
  | nil=>exact .inl rfl
  | cons a r=>simp only [List.getLastD];exact h.inn _ (List.getLast_mem _)
abbrev Way:=Int×Int×List Int
def Ent (n:Int) (aP:List (List Int)) (z:Way):Prop:=Ens n aP.length z.2.2/\aQ 0 z.2.2=z.1/\z.2.1=cost n aP 0 z.2.2
structure a08 (n:Int) (aP:List (List Int)) (kvs:List Way):Prop where
  ent:∀ z∈kvs,Ent n aP z
  all:∀ es,Ens n aP.length es->∃ z∈kvs,z.1=aQ 0 es/\z.2.1<=cost n aP 0 es
  nd:(kvs.map (·.1)).Nodup
theorem a08.nil:a08 n [] [(0,0,[])]:=by
  refine ⟨fun z hz=>?_,fun es h=>?_,by simp⟩
  . rw [je.mp hz];exact ⟨⟨rfl,fun g hg=>by cases hg⟩,rfl,rfl⟩
  . have:es=[]:=List.length_eq_zero_iff.mp h.len;subst this;exact ⟨_,List.mem_singleton_self _,rfl,Int.le_refl _⟩
variable {kvs:List Way}
theorem a08.key (h:a08 n aP kvs):∀ z∈kvs,z.1=0∨z.1=n:=fun z hz=>by
  obtain ⟨h1,h2,_⟩:=h.ent z hz;rw [← h2];exact h1.last
theorem ah2:∀ {l:List Int},l.Nodup->(∀ z∈l,z=0∨z=n)->l.length<=2
  | [],_,_=>by simp
  | [_],_,_=>by simp
  | [_,_],_,_=>by simp
  | a :: b :: c :: r,nd,h=>by
    simp only [jz,iy,not_or] at nd;have h1:=h a (by simp);have h2:=h b (by simp);have h3:=h c (by simp);omega
theorem a08.two (h:a08 n aP kvs):kvs.length<=2:=by
  have:=ah2 h.nd (fun z hz=>by obtain ⟨w,hw,rfl⟩:=dw.mp hz;exact h.key w hw);simpa using this
structure Fnd (n:Int) (aP:List (List Int)) (C:List (Int×Int)) (fk:List Way):Prop where
  ent:∀ z∈fk,Ent n aP z
  bd:∀ c∈C,∃ z∈fk,z.1=c.1/\z.2.1<=c.2
  nd:(fk.map (·.1)).Nodup
theorem Fnd.nil:Fnd n aP [] []:=⟨(fun z hz=>by cases hz),(fun c hc=>by cases hc),(by simp)⟩
variable {fk:List Way}
theorem Fnd.two (h:Fnd n aP C fk):fk.length<=2:=by
  have:=ah2 h.nd (fun z hz=>by
    obtain ⟨w,hw,rfl⟩:=dw.mp hz;obtain ⟨h1,h2,_⟩:=h.ent w hw;rw [← h2];exact h1.last)
  simpa using this
def nZ (fk:List Way) (g:Int):Option (Int×List Int):=match fk with
  | []=>none
  | z :: r=>if z.1=g then some z.2 else nZ r g
def acV (fk:List Way) (g:Int) (w:Int×List Int):List Way:=if (nZ fk g).isSome then fk.map (fun z=>if z.1=g then (z.1,w) else z) else fk++[(g,w)]
theorem a5N:∀ {fk:List Way} {g:Int} {w:Int×List Int},nZ fk g=some w->(g,w)∈fk
  | [],_,_,h=>by cases h
  | z :: r,g,w,h=>by
    unfold nZ at h;split at h
    . rename_i c;cases h;rw [← c];exact .head _
    . exact gw _ (a5N h)
theorem a3A:∀ {fk:List Way} {z:Way},(fk.map (·.1)).Nodup->z∈fk->nZ fk z.1=some z.2
  | [],_,_,h=>by cases h
  | y :: r,z,nd,h=>by
    rw [jd,jz] at nd;unfold nZ;rcases iy.mp h with e | h
    . rw [if_pos (by rw [e]),e]
    . rw [if_neg (fun c=>nd.1 (by rw [c];exact dw.mpr ⟨z,h,rfl⟩))];exact a3A nd.2 h
theorem a7Y:∀ {fk:List Way} {g:Int},nZ fk g=none->∀ z∈fk,z.1≠g
  | [],_,_,_,h=>by cases h
  | y :: r,g,h,z,hz=>by
    unfold nZ at h;split at h
    . cases h
    . rename_i c;rcases iy.mp hz with e | hz
      . rw [e];exact c
      . exact a7Y h z hz
theorem Fnd.put {g:Int} {one w:Int×List Int} (h:Fnd n aP C fk) (ho:Ent n aP (g,one)) (hw:(w=one/\(∀ v,nZ fk g=some v->one.1<=v.1))∨(nZ fk g=some w/\w.1<=one.1)) :
    Fnd n aP (C++[(g,one.1)]) (acV fk g w):=by
  have ew:Ent n aP (g,w):=by
    rcases hw with ⟨e,_⟩ | ⟨e,_⟩
    . rw [e];exact ho
    . exact h.ent _ (a5N e)
  have lo:w.1<=one.1:=by
    rcases hw with ⟨e,_⟩ | ⟨_,e⟩
    . rw [e];exact Int.le_refl _
    . exact e
  have lv:∀ v,nZ fk g=some v->w.1<=v.1:=fun v hv=>by
    rcases hw with ⟨e,q⟩ | ⟨e,_⟩
    . rw [e];exact q v hv
    . rw [e] at hv;cases hv;exact Int.le_refl _
  unfold acV;split
  . rename_i hs;obtain ⟨v,hv⟩:=vo.mp hs;have here:(g,w)∈fk.map (fun z=>if z.1=g then (z.1,w) else z):=dw.mpr ⟨(g,v),a5N hv,by simp⟩;refine ⟨fun z hz=>?_,fun c hc=>?_,?_⟩
    . obtain ⟨y,hy,rfl⟩:=dw.mp hz;split
      . rename_i e;rw [e];exact ew
      . exact h.ent y hy
    . rcases jo.mp hc with hc | hc
      . obtain ⟨z,hz,h1,h2⟩:=h.bd c hc;by_cases e:z.1=g
        . have:=a3A h.nd hz;rw [e] at this;exact ⟨_,here,by rw [← h1,e],Int.le_trans (lv _ this) h2⟩
        . exact ⟨z,dw.mpr ⟨z,hz,if_neg e⟩,h1,h2⟩
      . rw [je.mp hc];exact ⟨_,here,rfl,lo⟩
    . have:(fk.map (fun z=>if z.1=g then (z.1,w) else z)).map (·.1)=fk.map (·.1):=by
        rw [lg];refine mj fun z _=>?_;simp only [Function.comp];split <;> rfl
      rw [this];exact h.nd
  . rename_i hs
    have hn:nZ fk g=none:=by cases q:nZ fk g with
      | none=>rfl
      | some v=>rw [q] at hs;exact absurd rfl hs
    refine ⟨fun z hz=>?_,fun c hc=>?_,?_⟩
    . rcases jo.mp hz with hz | hz
      . exact h.ent z hz
      . rw [je.mp hz];exact ew
    . rcases jo.mp hc with hc | hc
      . obtain ⟨z,hz,h1,h2⟩:=h.bd c hc;exact ⟨z,qd _ hz,h1,h2⟩
      . rw [je.mp hc];exact ⟨_,ig _ (List.mem_singleton_self _),rfl,lo⟩
    . rw [iu,List.nodup_append];refine ⟨h.nd,by simp,fun a ha b hb e=>?_⟩;obtain ⟨z,hz,rfl⟩:=dw.mp ha;simp at hb;exact a7Y hn z hz (e.trans hb)
variable {z:Way}
theorem Ent.next {g:Int} (h:Ent n aP z) (hg:g=0∨g=n):Ent n (aP++[ps]) (g,z.2.1+vR n ps z.1 g,z.2.2++[g]):=by
  obtain ⟨h1,h2,h3⟩:=h;refine ⟨by rw [gk];exact h1.snoc hg,eN,?_⟩;show z.2.1+vR n ps z.1 g=cost n (aP++[ps]) 0 (z.2.2++[g]);rw [wO h1.len,h2,h3]
def cands (n:Int) (ps:List Int) (kvs:List Way):List (Int×Int):=kvs.flatMap fun z=>[(0,z.2.1+vR n ps z.1 0),(n,z.2.1+vR n ps z.1 n)]
theorem a08.next (h:a08 n aP kvs) (f:Fnd n (aP++[ps]) (cands n ps kvs) fk):a08 n (aP++[ps]) fk:=by
  refine ⟨f.ent,fun es he=>?_,f.nd⟩;rw [gk] at he;obtain ⟨es0,g,rfl,h0,hg⟩:=he.split;obtain ⟨z,hz,z1,z2⟩:=h.all es0 h0
  have:(g,z.2.1+vR n ps z.1 g)∈cands n ps kvs:=by
    refine List.mem_flatMap.mpr ⟨z,hz,?_⟩;rcases hg with rfl | rfl <;> simp
  obtain ⟨y,hy,y1,y2⟩:=f.bd _ this;refine ⟨y,hy,by rw [eN];exact y1,?_⟩;rw [wO h0.len,← z1];simp only at y2;omega
theorem a08.zero {n:Int} {aP:List (List Int)} {kvs:List Way} (h:a08 n aP kvs):∃ w,nZ kvs 0=some w/\Ens n aP.length w.2/\aQ 0 w.2=0/\w.1=cost n aP 0 w.2/\∀ es,Ens n aP.length es->aQ 0 es=0->w.1<=cost n aP 0 es:=by
  have rep:Ens n aP.length (oh aP.length 0):=⟨by simp,fun g hg => .inl (List.eq_of_mem_replicate hg)⟩
  have rl:∀ k,aQ 0 (oh k 0)=0:=fun k=>by
    unfold aQ;cases k with
    | zero=>rfl
    | succ k =>
      rw [List.replicate_succ'];exact eN
  obtain ⟨z,hz,z1,z2⟩:=h.all _ rep;rw [rl] at z1;obtain ⟨e1,e2,e3⟩:=h.ent z hz;have gz:=a3A h.nd hz;rw [z1] at gz;refine ⟨z.2,gz,e1,by rw [e2,z1],e3,fun es he hl=>?_⟩;obtain ⟨y,hy,y1,y2⟩:=h.all es he;have gy:=a3A h.nd hy;rw [y1,hl,gz] at gy;rw [dj.inj gy];exact y2
def bU (qs:List (Int×Int)) (q:Int×Int):List (Int×Int):=if qs[qs.length - 1]?=some q then qs else qs++[q]
theorem amP {l:Int×Int} (hl:qs[qs.length - 1]?=some l):a1B g (qs++[r])=a1B g qs+iV g l r:=by
  have ne:qs≠[]:=fun e=>by subst e;cases hl
  have e:qs=qs.dropLast++[l]:=by
    have h:=ur ne;rw [List.getLast_eq_getElem] at h;rw [aq (by have:=vd.mpr ne;omega)] at hl;rw [dj.inj hl] at h;exact h.symm
  have:=a7X (g:=g) (q:=l) (r:=r) qs.dropLast;rw [← e] at this;rw [← this];congr 1;rw [show qs.dropLast++[l,r]=(qs.dropLast++[l])++[r] by simp,← e]
theorem a9W:iV g q q=0:=by simp [iV]
theorem bT:(bU qs q)[(bU qs q).length - 1]?=some q:=by
  unfold bU;split
  . assumption
  . exact aiT
theorem vU {l:Int×Int} (hl:qs[qs.length - 1]?=some l):a1B g (bU qs q)=a1B g qs+iV g l q:=by
  unfold bU;split
  . rename_i h;rw [hl] at h;rw [dj.inj h,a9W];omega
  . exact amP hl
theorem qZ {l:Int×Int} (w:Walk x y qs) (hl:qs[qs.length - 1]?=some l) (hq:InP x y q) (hw:Wk y l q):Walk x y (bU qs q):=by
  unfold bU;split
  . exact w
  . exact w.snoc hl hq hw
theorem wQ:(bU qs q).length<=qs.length+1:=by
  unfold bU;split
  . omega
  . simp
def dH (ps:List Int) (e:Int):Int:=if e=0 then mxL ps else mnL ps
def spW (i:Int) (ps:List Int) (e g:Int):List (Int×Int):=if g=e then (if ps=[] then [] else [(i,e),(i,dH ps e),(i,e)]) else [(i,e),(i,g)]
def OkA (y:Nat) (aP:List (List Int)):Prop:=∀ ps∈aP,∀ p∈ps,1<=p/\p<=(y:Int)
theorem ah3 (h:∀ p∈ps,1<=p/\p<=(y:Int)) (n:ps≠[]):1<=dH ps e/\dH ps e<=y:=by
  unfold dH;split
  . exact h _ (pL n).1
  . exact h _ (a1C n).1
theorem along {j k:Nat} (h:j<=k):iV g ((j:Int),e) ((k:Int),e)=(g:Int) * k - g * j:=by
  unfold iV;simp only [Int.sub_self];rw [← Int.mul_sub];have:(if (j:Int) - k < 0 then -((j:Int) - k) else (j:Int) - k)=(k:Int) - j:=by split <;> omega
  rw [this];simp
theorem within {f:Int}:iV g (i,e) (i,f)=if e - f < 0 then -(e - f) else e - f:=by
  unfold iV;simp
structure SpI (x y g:Nat) (aP:List (List Int)) (es:List Int) (k:Nat) (qs:List (Int×Int)):Prop where
  w:Walk x y qs
  ex:∃ j:Nat,qs[qs.length - 1]?=some ((j:Int),aQ 0 (es.take k))/\a1B g qs=cost ((y:Int)+1) (aP.take k) 0 (es.take k)+(g:Int) * j/\j<=k/\j < x/\∀ m,k=m+1->aP[m]?≠some []->j=m
  len:qs.length<=1+3 * k
theorem take_snoc {α:Type} {l:List α} {k:Nat} {a:α} (h:l[k]?=some a):l.take (k+1)=l.take k++[a]:=by rw [List.take_succ,h];rfl
theorem SpI.start (hx:1<=x):SpI x y g aP es 0 [(0,0)]:=by
  refine ⟨⟨fun q hq=>?_,fun k q r _ hr=>?_⟩,⟨0,rfl,by simp [a1B,cost],au _,by omega,fun m e=>by cases e⟩,by simp⟩
  . rw [je] at hq;subst hq;exact ⟨by decide,by simp only;omega,by decide,by simp only;omega⟩
  . exact absurd (bh.mp hr).1 (by simp)
theorem SpI.next {k:Nat} {gl:Int} (h:SpI x y g aP es k qs) (hp:aP[k]?=some ps) (he:es[k]?=some gl) (hE:Ens ((y:Int)+1) aP.length es) (hk:k < x) (ok:OkA y aP) :
    SpI x y g aP es (k+1) ((spW k ps (aQ 0 (es.take k)) gl).foldl bU qs):=by
  obtain ⟨w,⟨j,hl,hlen,jk,jx,_⟩,ql⟩:=h;have ps1:=ok ps (iz hp);have eE:Ens ((y:Int)+1) k (es.take k):=⟨by rw [mz,hE.len];have:=(bh.mp hp).1;omega,fun f hf=>hE.inn f (List.mem_of_mem_take hf)⟩;have el:=eE.last;have gi:=hE.inn gl (iz he)
  have ec:cost ((y:Int)+1) (aP.take (k+1)) 0 (es.take (k+1))=cost ((y:Int)+1) (aP.take k) 0 (es.take k)+vR ((y:Int)+1) ps (aQ 0 (es.take k)) gl:=by
    rw [take_snoc hp,take_snoc he];exact wO (by rw [eE.len,mz];have:=(bh.mp hp).1;omega)
  have ee:aQ 0 (es.take (k+1))=gl:=by rw [take_snoc he];exact eN
  generalize aQ 0 (es.take k)=e at *;have i1:InP x y ((k:Int),e):=⟨by simp only;omega,by simp only;omega,by simp only;omega,by simp only;omega⟩;have q1:=qZ w hl i1 (.inr ⟨rfl,el⟩);have l1:=vU (g:=g) (q:=((k:Int),e)) hl;rw [along jk] at l1;have s1:=wQ (qs:=qs) (q:=((k:Int),e));unfold spW;by_cases c:gl=e
  . rw [if_pos c];by_cases n:ps=[]
    . rw [if_pos n];refine ⟨w,⟨j,by rw [ee,c];exact hl,?_,by omega,jx,fun m e hn=>?_⟩,by simp only [List.foldl_nil];omega⟩
      . rw [ec,List.foldl_nil,hlen];unfold vR;rw [if_pos c,if_pos n];simp
      . cases e;exact absurd (by rw [hp,n]) hn
    . rw [if_neg n];have ⟨f1,f2⟩:=ah3 (e:=e) ps1 n;have i2:InP x y ((k:Int),dH ps e):=⟨by simp only;omega,by simp only;omega,by simp only;omega,by simp only;omega⟩;have q2:=qZ q1 bT i2 (.inl rfl);have l2:=vU (g:=g) (q:=((k:Int),dH ps e)) (bT (qs:=qs) (q:=((k:Int),e)));have s2:=wQ (qs:=bU qs ((k:Int),e)) (q:=((k:Int),dH ps e));have q3:=qZ q2 bT i1 (.inl rfl);have l3:=vU (g:=g) (q:=((k:Int),e)) (bT (qs:=bU qs ((k:Int),e)) (q:=((k:Int),dH ps e)));have s3:=wQ (qs:=bU (bU qs ((k:Int),e)) ((k:Int),dH ps e)) (q:=((k:Int),e));rw [within] at l2 l3;show SpI x y g aP es (k+1) (bU (bU (bU qs ((k:Int),e)) ((k:Int),dH ps e)) ((k:Int),e));refine ⟨q3,⟨k,by rw [bT,ee,c],?_,by omega,hk,fun m e hn=>by omega⟩,by omega⟩
      have hs:vR ((y:Int)+1) ps e gl=2 * (if e - dH ps e < 0 then -(e - dH ps e) else e - dH ps e):=by
        unfold vR;rw [if_pos c,if_neg n];rcases el with z | z
        . rw [if_pos z];have:dH ps e=mxL ps:=by unfold dH;rw [if_pos z]
          rw [← this];split <;> omega
        . have z0:¬ e=0:=by omega
          rw [if_neg z0];have:dH ps e=mnL ps:=by unfold dH;rw [if_neg z0]
          rw [← this];split <;> omega
      rw [ec,hs,l3,l2,l1,hlen];split <;> split <;> omega
  . rw [if_neg c];have i2:InP x y ((k:Int),gl):=⟨by simp only;omega,by simp only;omega,by simp only;omega,by simp only;omega⟩;have q2:=qZ q1 bT i2 (.inl rfl);have l2:=vU (g:=g) (q:=((k:Int),gl)) (bT (qs:=qs) (q:=((k:Int),e)));have s2:=wQ (qs:=bU qs ((k:Int),e)) (q:=((k:Int),gl));rw [within] at l2;show SpI x y g aP es (k+1) (bU (bU qs ((k:Int),e)) ((k:Int),gl));refine ⟨q2,⟨k,by rw [bT,ee],?_,by omega,hk,fun m e hn=>by omega⟩,by omega⟩
    have hs:vR ((y:Int)+1) ps e gl=(y:Int)+1:=by
      unfold vR;rw [if_neg c]
    rw [ec,hs,l2,l1,hlen];split <;> omega
theorem SpI.home (h:SpI x y g aP es aP.length qs) (hx:1<=x) (hE:Ens ((y:Int)+1) aP.length es) (h0:aQ 0 es=0) (hn:∀ m,aP.length=m+1->aP[m]?≠some []) :
    Walk x y (bU qs (0,0))/\bU qs (0,0)≠[]/\(bU qs (0,0)).length<=2+3 * aP.length/\a1B g (bU qs (0,0))=cost ((y:Int)+1) aP 0 es+2 * (g:Int) * ((aP.length - 1:Nat):Int):=by
  obtain ⟨w,⟨j,hl,hlen,jk,jx,hj⟩,ql⟩:=h;rw [qx (by rw [hE.len];exact au _),h0] at hl;rw [qx (au _),qx (by rw [hE.len];exact au _)] at hlen
  have j1:j=aP.length - 1:=by
    cases q:aP.length with
    | zero=>omega
    | succ m=>rw [hj m q (hn m q)];rfl
  have l1:=vU (g:=g) (q:=((0:Int),(0:Int))) hl;have s1:=wQ (qs:=qs) (q:=((0:Int),(0:Int)));refine ⟨qZ w hl ⟨by decide,by simp only;omega,by decide,by simp only;omega⟩ (.inr ⟨rfl,.inl rfl⟩),fun e=>?_,by omega,?_⟩
  . have:=bT (qs:=qs) (q:=((0:Int),(0:Int)));rw [e] at this;cases this
  . rw [l1,hlen,← j1];unfold iV;simp only [Int.sub_self,Int.sub_zero];have:(if (j:Int) < 0 then -(j:Int) else (j:Int))=(j:Int):=if_neg (by omega);rw [this];have:(2:Int) * (g:Int) * (j:Int)=(g:Int) * j+(g:Int) * j:=by rw [Int.mul_assoc];omega
    rw [this];simp;omega
def a9X (a b p:Int):List (Int×Int):=if a<=b then (gq (b - a).toNat).map (fun i:Nat=>(a+1+(i:Int),p)) else (gq (a - b).toNat).map (fun i:Nat=>(a - 1 - (i:Int),p))
def a6P (a p q:Int):List (Int×Int):=if p<=q then (gq (q - p).toNat).map (fun i:Nat=>(a,p+1+(i:Int))) else (gq (p - q).toNat).map (fun i:Nat=>(a,p - 1 - (i:Int)))
def stp (c d:Int×Int):List (Int×Int):=a9X c.1 d.1 c.2++a6P d.1 c.2 d.2
def sgn (a b:Int):Int:=if a < b then 1 else if b < a then -1 else 0
theorem a9Y {α:Type} {n:Nat} {f:Nat->α} (h:0 < n):(gq n).map f=f 0 :: (gq (n - 1)).map (fun i=>f (i+1)):=by
  obtain ⟨m,rfl⟩:∃ m,n=m+1:=⟨n - 1,by omega⟩;rw [List.range_succ_eq_map,jd,lg];rfl
theorem aiW {a b p:Int} (h:a≠b):a9X a b p=(a+sgn a b,p) :: a9X (a+sgn a b) b p:=by
  unfold a9X sgn;by_cases c:a < b
  . rw [if_pos (by omega),if_pos c,if_pos (by omega),a9Y (by omega)];refine congr (congrArg _ (by simp)) ?_;rw [show (b - (a+1)).toNat=(b - a).toNat - 1 by omega];refine mj fun i _=>?_;simp only [yj,Prod.mk.injEq,and_true];omega
  . rw [if_neg (by omega),if_neg c,if_pos (by omega),a9Y (by omega)];refine congr (congrArg _ (by simp;omega)) ?_;by_cases d:a+-1<=b
    . rw [if_pos d,show (b - (a+-1)).toNat=0 by omega,show (a - b).toNat - 1=0 by omega];rfl
    . rw [if_neg d,show (a+-1 - b).toNat=(a - b).toNat - 1 by omega];refine mj fun i _=>?_;simp only [yj,Prod.mk.injEq,and_true];omega
theorem aiX {a p q:Int} (h:p≠q):a6P a p q=(a,p+sgn p q) :: a6P a (p+sgn p q) q:=by
  unfold a6P sgn;by_cases c:p < q
  . rw [if_pos (by omega),if_pos c,if_pos (by omega),a9Y (by omega)];refine congr (congrArg _ (by simp)) ?_;rw [show (q - (p+1)).toNat=(q - p).toNat - 1 by omega];refine mj fun i _=>?_;simp only [yj,Prod.mk.injEq,true_and];omega
  . rw [if_neg (by omega),if_neg c,if_pos (by omega),a9Y (by omega)];refine congr (congrArg _ (by simp;omega)) ?_;by_cases d:p+-1<=q
    . rw [if_pos d,show (q - (p+-1)).toNat=0 by omega,show (p - q).toNat - 1=0 by omega];rfl
    . rw [if_neg d,show (p+-1 - q).toNat=(p - q).toNat - 1 by omega];refine mj fun i _=>?_;simp only [yj,Prod.mk.injEq,true_and];omega
theorem a7Z {a p:Int}:a9X a a p=[]:=by simp [a9X]
theorem a80 {a p:Int}:a6P a p p=[]:=by simp [a6P]
theorem jW:stp c c=[]:=by simp [stp,a7Z,a80]
def nxt (c d:Int×Int):Int×Int:=if c.1=d.1 then (c.1,c.2+sgn c.2 d.2) else (c.1+sgn c.1 d.1,c.2)
theorem a09 {d:Int×Int} (h:c≠d):stp c d=nxt c d :: stp (nxt c d) d:=by
  obtain ⟨a,p⟩:=c;obtain ⟨b,q⟩:=d;unfold nxt;simp only;by_cases e:a=b
  . subst e;have n:p≠q:=fun z=>h (by rw [z]);rw [if_pos rfl];simp only [stp,a7Z,uh];exact aiX n
  . rw [if_neg e];simp only [stp];rw [aiW e,xq]
theorem amQ {a b p:Int}:(a9X a b p).length=(if a<=b then b - a else a - b).toNat:=by
  unfold a9X;split <;> simp
theorem amR {a p q:Int}:(a6P a p q).length=(if p<=q then q - p else p - q).toNat:=by
  unfold a6P;split <;> simp
theorem a3B {d:Int×Int}:(stp c d).length=(if c.1<=d.1 then d.1 - c.1 else c.1 - d.1).toNat+(if c.2<=d.2 then d.2 - c.2 else c.2 - d.2).toNat:=by
  unfold stp;rw [gk,amQ,amR]
theorem ah4 {j k:Nat} (h:j<=k):stp ((j:Int),e) (((k+1:Nat):Int),e)=stp ((j:Int),e) ((k:Int),e)++[(((k+1:Nat):Int),e)]:=by
  unfold stp a9X;simp only [a80,jr];rw [if_pos (by omega),if_pos (by omega),show (((k+1:Nat):Int) - j).toNat=((k:Int) - j).toNat+1 by omega,List.range_succ,iu];congr 1;simp only [jd,uq,List.cons.injEq,Prod.mk.injEq,and_true];omega
def pth (c:Int×Int):List (Int×Int)->List (Int×Int)
  | []=>[]
  | q :: r=>stp c q++pth q r
def cU:List (Int×Int)->List (Int×Int)
  | []=>[]
  | q :: r=>q :: pth q r
theorem acX {q:Int×Int}:∀ {l:List (Int×Int)} {c:Int×Int},pth c (l++[q])=pth c l++stp (l.getLastD c) q
  | [],c=>by simp [pth]
  | a :: r,c=>by
    show stp c a++pth a (r++[q])=(stp c a++pth a r)++stp ((a :: r).getLastD c) q;rw [acX,ji];cases r with
    | nil=>simp
    | cons b t=>simp only [vg,List.getLast?_cons_cons];rw [List.getLast?_cons];rfl
theorem gC (h:l[l.length - 1]?=some c):cU (l++[q])=cU l++stp c q:=by
  cases l with
  | nil=>cases h
  | cons a r =>
    show a :: pth a (r++[q])=a :: pth a r++stp c q;rw [acX]
    have:r.getLastD a=c:=by
      cases r with
      | nil=>simpa using h
      | cons b t =>
        rw [vg,List.getLast?_eq_getElem?]
        have h':(b :: t)[(b :: t).length - 1]?=some c:=by
          have e:(a :: b :: t).length - 1=((b :: t).length - 1)+1:=by simp
          rw [e,List.getElem?_cons_succ] at h;exact h
        rw [h'];rfl
    rw [this];rfl
def inn (i:Int) (ps:List Int) (e g:Int):List (Int×Int):=if g=e then (if ps=[] then [] else stp (i,e) (i,dH ps e)++stp (i,dH ps e) (i,e)) else stp (i,e) (i,g)
def rem (i:Nat) (e:Int):List (List Int)->List Int->List (Int×Int)
  | ps :: r,g :: es=>(if i=0 then [] else [((i:Int),e)])++(inn i ps e g++rem (i+1) g r es)
  | _,_=>[]
def tot (aP:List (List Int)) (es:List Int):List (Int×Int):=(0,0) :: (rem 0 0 aP es++stp (((aP.length - 1:Nat):Int),0) (0,0))
theorem acY {k:Nat} {g:Int} (hp:aP[k]?=some ps) (he:es[k]?=some g):rem k e (aP.drop k) (es.drop k)=(if k=0 then [] else [((k:Int),e)])++(inn k ps e g++rem (k+1) g (aP.drop (k+1)) (es.drop (k+1))):=by
  have h1:=bh.mp hp;have h2:=bh.mp he;rw [jt h1.1,jt h2.1,h1.2,h2.2];rfl
structure SpP (aP:List (List Int)) (es:List Int) (k:Nat) (qs:List (Int×Int)):Prop where
  ex:∃ j:Nat,qs[qs.length - 1]?=some ((j:Int),aQ 0 (es.take k))/\j<=k - 1/\(∀ m,k=m+1->aP[m]?≠some []->j=m)/\cU qs++stp ((j:Int),aQ 0 (es.take k)) (((k - 1:Nat):Int),aQ 0 (es.take k))++rem k (aQ 0 (es.take k)) (aP.drop k) (es.drop k)=(0,0) :: rem 0 0 aP es
theorem SpP.start:SpP aP es 0 [(0,0)]:=⟨⟨0,rfl,au _,(fun m e=>by cases e),by simp [cU,pth,jW,aQ]⟩⟩
theorem lY {l:Int×Int} (hl:qs[qs.length - 1]?=some l):cU (bU qs q)=cU qs++stp l q:=by
  unfold bU;split
  . rename_i h;rw [hl] at h;rw [dj.inj h,jW,jr]
  . exact gC hl
theorem ayD {j k:Nat} (h:j<=k - 1):stp ((j:Int),e) ((k:Int),e)=stp ((j:Int),e) (((k - 1:Nat):Int),e)++(if k=0 then [] else [((k:Int),e)]):=by
  cases k with
  | zero=>simp
  | succ m=>rw [if_neg (by omega)];exact ah4 (by omega)
theorem SpP.next {k:Nat} {gl:Int} (h:SpP aP es k qs) (hp:aP[k]?=some ps) (he:es[k]?=some gl):SpP aP es (k+1) ((spW k ps (aQ 0 (es.take k)) gl).foldl bU qs):=by
  obtain ⟨j,hl,jk,_,ht⟩:=h;have ee:aQ 0 (es.take (k+1))=gl:=by rw [take_snoc he];exact eN
  rw [acY hp he] at ht;generalize aQ 0 (es.take k)=e at *;have s1:=ayD (e:=e) jk;rw [← ji,ji (cU qs),← s1] at ht;unfold spW;unfold inn at ht;by_cases c:gl=e
  . rw [if_pos c];rw [if_pos c] at ht;by_cases n:ps=[]
    . rw [if_pos n];rw [if_pos n,uh] at ht;refine ⟨j,by rw [ee,c];exact hl,by omega,fun m e hn=>?_,?_⟩
      . cases e;exact absurd (by rw [hp,n]) hn
      . rw [ee];subst c;exact ht
    . rw [if_neg n];rw [if_neg n] at ht;show SpP aP es (k+1) (bU (bU (bU qs ((k:Int),e)) ((k:Int),dH ps e)) ((k:Int),e));refine ⟨k,by rw [bT,ee,c],by omega,fun m e hn=>by omega,?_⟩;rw [lY bT,lY bT,lY hl,ee];subst c;rw [show k+1 - 1=k by omega,jW,jr,← ht];simp only [ji]
  . rw [if_neg c];rw [if_neg c] at ht;show SpP aP es (k+1) (bU (bU qs ((k:Int),e)) ((k:Int),gl));refine ⟨k,by rw [bT,ee],by omega,fun m e hn=>by omega,?_⟩;rw [lY bT,lY hl,ee,show k+1 - 1=k by omega,jW,jr,← ht];simp only [ji]
theorem SpP.home (h:SpP aP es aP.length qs) (hl:es.length=aP.length) (h0:aQ 0 es=0) (hn:∀ m,aP.length=m+1->aP[m]?≠some []):cU (bU qs (0,0))=tot aP es:=by
  obtain ⟨j,h1,jk,hj,ht⟩:=h
  have j1:j=aP.length - 1:=by
    cases q:aP.length with
    | zero=>omega
    | succ m=>rw [hj m q (hn m q)];rfl
  rw [qx (by rw [hl];exact au _),h0] at h1 ht;rw [lY h1,j1];rw [j1,jW,jr,wz (au _),show rem aP.length 0 [] (es.drop aP.length)=[] from rfl,jr] at ht;unfold tot;rw [ht];rfl
structure DuP (aP:List (List Int)) (es:List Int) (k:Nat) (qs:List (Int×Int)):Prop where
  last:qs[qs.length - 1]?=some (((k - 1:Nat):Int),aQ 0 (es.take k))
  path:cU qs++rem k (aQ 0 (es.take k)) (aP.drop k) (es.drop k)=(0,0) :: rem 0 0 aP es
theorem DuP.start:DuP aP es 0 [(0,0)]:=⟨rfl,by simp [cU,pth,aQ]⟩
def du1 (k:Nat) (e:Int) (qs:List (Int×Int)):List (Int×Int):=if k=0 then qs else qs++[((k:Int),e)]
def du2 (k:Nat) (ps:List Int) (e g:Int) (qs:List (Int×Int)):List (Int×Int):=if g=e then (if ps=[] then qs else qs++[((k:Int),dH ps e),((k:Int),e)]) else qs++[((k:Int),g)]
theorem a0A {a:Int×Int}:(qs++[a])[(qs++[a]).length - 1]?=some a:=by simp
theorem ayE {k:Nat} (h:DuP aP es k qs):(du1 k (aQ 0 (es.take k)) qs)[(du1 k (aQ 0 (es.take k)) qs).length - 1]?=some ((k:Int),aQ 0 (es.take k))/\cU (du1 k (aQ 0 (es.take k)) qs)=cU qs++(if k=0 then [] else [((k:Int),aQ 0 (es.take k))]):=by
  unfold du1;cases k with
  | zero=>simp only [if_pos];exact ⟨h.last,by simp⟩
  | succ m =>
    rw [if_neg (by omega),if_neg (by omega)];refine ⟨a0A,?_⟩;rw [gC h.last,show m+1 - 1=m by omega,ah4 (au _),jW];rfl
theorem DuP.next {k:Nat} {gl:Int} (h:DuP aP es k qs) (hp:aP[k]?=some ps) (he:es[k]?=some gl):DuP aP es (k+1) (du2 k ps (aQ 0 (es.take k)) gl (du1 k (aQ 0 (es.take k)) qs)):=by
  have ⟨h1,h2⟩:=ayE h;have ht:=h.path;have ee:aQ 0 (es.take (k+1))=gl:=by rw [take_snoc he];exact eN
  rw [acY hp he] at ht;generalize aQ 0 (es.take k)=e at *;rw [← ji,← h2] at ht;generalize du1 k e qs=q1 at *;unfold du2;unfold inn at ht;by_cases c:gl=e
  . rw [if_pos c];rw [if_pos c] at ht;subst c;by_cases n:ps=[]
    . rw [if_pos n];rw [if_pos n,uh] at ht;exact ⟨by rw [ee];exact h1,by rw [ee];exact ht⟩
    . rw [if_neg n];rw [if_neg n] at ht;rw [show q1++[((k:Int),dH ps gl),((k:Int),gl)]=(q1++[((k:Int),dH ps gl)])++[((k:Int),gl)] by simp];refine ⟨by rw [ee];exact a0A,?_⟩;rw [ee,gC a0A,gC h1,← ht];simp only [ji]
  . rw [if_neg c];rw [if_neg c] at ht;refine ⟨by rw [ee];exact a0A,?_⟩;rw [ee,gC h1,← ht];simp only [ji]
theorem DuP.home (h:DuP aP es aP.length qs) (hl:es.length=aP.length) (h0:aQ 0 es=0):cU (qs++[(0,0)])=tot aP es:=by
  have h1:=h.last;have ht:=h.path;rw [qx (by rw [hl];exact au _),h0] at h1 ht;rw [gC h1];rw [wz (au _),show rem aP.length 0 [] (es.drop aP.length)=[] from rfl,jr] at ht;unfold tot;rw [ht];rfl
def scan (last:Nat) (f:List Int):List (Int×Int)->List Int
  | a :: b :: r=>scan last (if a.1=(f.length:Int)/\b.1=(f.length:Int)+1/\f.length < last then f++[a.2] else f) (b :: r)
  | _=>f
theorem a81 {last:Nat} {f:List Int} (h:f.length=last):∀ {l:List (Int×Int)},scan last f l=f
  | []=>rfl
  | [_]=>rfl
  | a :: b :: r=>by
    unfold scan;rw [if_neg (by omega)];exact a81 h
theorem arM {last:Nat} {d:Int×Int} (h2:d.1=(f.length:Int)):scan last f (c :: d :: l)=scan last f (d :: l):=by
  rw [scan,if_neg (by omega)]
theorem a5O {last:Nat} {d:Int×Int} (h2:d.1=(f.length:Int)):∀ (n:Nat) {c:Int×Int},(stp c d).length=n->c.1=(f.length:Int)->scan last f (c :: (stp c d++l))=scan last f (d :: l):=by
  intro n
  induction n with
  | zero =>
    intro c hn hc;have e:stp c d=[]:=List.length_eq_zero_iff.mp hn;by_cases q:c=d
    . rw [e,q];rfl
    . rw [a09 q] at e;cases e
  | succ n ih =>
    intro c hn hc;by_cases q:c=d
    . rw [q,jW] at hn;cases hn
    . have n1:(nxt c d).1=(f.length:Int):=by unfold nxt;rw [if_pos (by rw [hc,h2])];exact hc
      rw [a09 q,xq,arM n1];rw [a09 q] at hn;exact ih (by simpa using hn) n1
theorem acZ {last:Nat} {i:Nat} {g:Int} (h:f.length=i):scan last f (((i:Int),e) :: (inn i ps e g++l))=scan last f (((i:Int),g) :: l):=by
  subst h;unfold inn;split
  . rename_i c;subst c;split
    . rfl
    . rw [ji,a5O rfl _ rfl rfl,a5O rfl _ rfl rfl]
  . rw [a5O rfl _ rfl rfl]
theorem ad0 {last:Nat} {H:List (Int×Int)}:∀ {aP:List (List Int)} {es:List Int} {i:Nat} {e:Int} {f:List Int},es.length=aP.length->f.length=i->i+aP.length=last->scan last f (((i:Int),e) :: (rem (i+1) e aP es++H))=f++(e :: es).take aP.length
  | [],es,i,e,f,_,h2,h3=>by
    rw [a81 (by simp at h3;omega)];simp
  | ps :: r,[],_,_,_,h,_,_=>by simp at h
  | ps :: r,g :: es,i,e,f,h1,h2,h3=>by
    rw [rem,if_neg (by omega)];simp only [xq,uh,ji];rw [scan,if_pos ⟨by simp only [h2],by simp only [h2];omega,by simp at h3;omega⟩,acZ (by simp [h2])];rw [ad0 (by simpa using h1) (by simp [h2]) (by simp at h3;omega)];simp
theorem arN {k:Nat} (h:es.length=k+1) (h0:aQ 0 es=0):es.take k++[0]=es:=by
  have ne:es≠[]:=fun e=>by rw [e] at h;cases h
  have h1:=ur ne
  have h2:es.getLast ne=0:=by
    unfold aQ at h0;rw [vg,List.getLast?_eq_some_getLast ne] at h0;exact h0
  rw [List.dropLast_eq_take,h2,h] at h1;exact h1
theorem amS {r:List (List Int)} (h:es.length=r.length+1) (h0:aQ 0 es=0):scan r.length [] (tot (ps :: r) es)++[0]=es:=by
  obtain ⟨g,es',rfl⟩:∃ g es',es=g :: es':=by cases es with
    | nil=>cases h
    | cons g es'=>exact ⟨g,es',rfl⟩
  have e:tot (ps :: r) (g :: es')=(((0:Nat):Int),(0:Int)) :: (inn ((0:Nat):Int) ps 0 g++(rem 1 g r es'++stp (((r.length+1 - 1:Nat):Int),0) (0,0))):=by
    unfold tot;rw [rem,if_pos rfl];simp only [uh,ji];rfl
  rw [e,acZ (i:=0) rfl,ad0 (i:=0) (by simpa using h) rfl (by simp),uh];exact arN h h0
theorem amT {a p q r:Int} (h:(p < r/\r<=q)∨(q<=r/\r < p)):(a,r)∈a6P a p q:=by
  unfold a6P;split
  . exact dw.mpr ⟨(r - p - 1).toNat,qu.mpr (by omega),by simp only [Prod.mk.injEq,true_and];omega⟩
  . exact dw.mpr ⟨(p - r - 1).toNat,qu.mpr (by omega),by simp only [Prod.mk.injEq,true_and];omega⟩
theorem ah6 {a p q r:Int} (h:(p < r/\r<=q)∨(q<=r/\r < p)):(a,r)∈stp (a,p) (a,q):=ig _ (amT h)
theorem arO {p g:Int} (hp:p∈ps) (h:∀ p∈ps,1<=p/\p<=(y:Int)) (he:e=0∨e=(y:Int)+1) (hg:g=0∨g=(y:Int)+1):(i,p)∈inn i ps e g:=by
  have hb:=h p hp;have ne:ps≠[]:=fun e=>by subst e;cases hp
  unfold inn;rw [if_neg ne];split
  . refine qd _ (ah6 ?_);unfold dH;rcases he with rfl | rfl
    . rw [if_pos rfl];have:=(pL ne).2 p hp;omega
    . rw [if_neg (by omega)];have:=(a1C ne).2 p hp;omega
  . exact ah6 (by omega)
theorem ah7 {y:Nat} {p:Int} {ps:List Int}:∀ {aP:List (List Int)} {es:List Int} {i k:Nat} {e:Int},es.length=aP.length->(∀ ps∈aP,∀ p∈ps,1<=p/\p<=(y:Int))->(∀ g∈es,g=0∨g=(y:Int)+1)->(e=0∨e=(y:Int)+1)->aP[k]?=some ps->p∈ps->(((i+k:Nat):Int),p)∈rem i e aP es
  | [],_,_,_,_,_,_,_,_,h,_=>by simp at h
  | _ :: _,[],_,_,_,h,_,_,_,_,_=>by simp at h
  | ps0 :: r,g :: es,i,k,e,h1,h2,h3,he,hk,hp=>by
    rw [rem];refine ig _ ?_;have hg:=h3 g (by simp);cases k with
    | zero =>
      simp at hk;subst hk;exact qd _ (arO hp (h2 _ (by simp)) he hg)
    | succ k =>
      refine ig _ ?_;have:=ah7 (i:=i+1) (k:=k) (e:=g) (by simpa using h1) (fun q hq=>h2 q (gw _ hq)) (fun q hq=>h3 q (gw _ hq)) hg (by simpa using hk) hp;rw [show i+(k+1)=i+1+k by omega];exact this
theorem arP {p:Int} {k:Nat} (h1:es.length=aP.length) (h2:∀ ps∈aP,∀ p∈ps,1<=p/\p<=(y:Int)) (h3:∀ g∈es,g=0∨g=(y:Int)+1) (hk:aP[k]?=some ps) (hp:p∈ps):((k:Int),p)∈tot aP es:=by
  refine gw _ (qd _ ?_);have:=ah7 (i:=0) (k:=k) (e:=0) h1 h2 h3 (.inl rfl) hk hp
  rwa [Nat.zero_add] at this
theorem arQ {g:Int} (h:∀ p∈ps,1<=p/\p<=(y:Int)) (he:e=0∨e=(y:Int)+1) (hg:g=0∨g=(y:Int)+1):(inn i ps e g).length<=2 * (y+1):=by
  unfold inn;split
  . split
    . simp
    . rename_i ne
      have:1<=dH ps e/\dH ps e<=y:=by
        unfold dH;split
        . exact h _ (pL ne).1
        . exact h _ (a1C ne).1
      rw [gk,a3B,a3B];simp only
      (repeat' split) <;> omega
  . rw [a3B];simp only
    (repeat' split) <;> omega
theorem ah8 {y:Nat}:∀ {aP:List (List Int)} {es:List Int} {i:Nat} {e:Int},(∀ ps∈aP,∀ p∈ps,1<=p/\p<=(y:Int))->(∀ g∈es,g=0∨g=(y:Int)+1)->(e=0∨e=(y:Int)+1)->(rem i e aP es).length<=aP.length * (2 * (y+1)+1)
  | [],_,_,_,_,_,_=>by simp [rem]
  | _ :: _,[],_,_,_,_,_=>by simp [rem]
  | ps :: r,g :: es,i,e,h2,h3,he=>by
    have hg:=h3 g (by simp);have a1:=arQ (i:=i) (h2 ps (by simp)) he hg;have a2:=ah8 (i:=i+1) (e:=g) (aP:=r) (fun q hq=>h2 q (gw _ hq)) (fun q hq=>h3 q (gw _ hq)) hg;rw [rem,gk,gk,jl,Nat.add_mul];have:(if i=0 then [] else [((i:Int),e)]).length<=1:=by split <;> simp
    omega
theorem arR (h1:aP.length<=x) (hx:x<=26) (hy:y<=99) (h2:∀ ps∈aP,∀ p∈ps,1<=p/\p<=(y:Int)) (h3:∀ g∈es,g=0∨g=(y:Int)+1):(tot aP es).length<=6000:=by
  unfold tot;have a:=ah8 (i:=0) (e:=0) (aP:=aP) (es:=es) h2 h3 (.inl rfl);rw [jl,gk,a3B];simp only;have:aP.length * (2 * (y+1)+1)<=26 * (2 * (99+1)+1):=Nat.mul_le_mul (by omega) (by omega)
  (repeat' split) <;> omega
theorem amU {k:Nat}:(cU (qs.take k)).length<=(cU qs).length:=by
  have pl:∀ (l:List (Int×Int)) (c:Int×Int) (n:Nat),(pth c (l.take n)).length<=(pth c l).length:=by
    intro l
    induction l with
    | nil=>intro c n;simp [pth]
    | cons a r ih =>
      intro c n;cases n with
      | zero=>simp [pth]
      | succ n =>
        rw [List.take_succ_cons,pth,pth,gk,gk];have:=ih a n;omega
  cases qs with
  | nil=>simp
  | cons a r =>
    cases k with
    | zero=>simp [cU]
    | succ k =>
      rw [List.take_succ_cons,cU,cU,jl,jl];have:=pl r a k;omega
theorem amV (hp:aU G p=some (ns.map D.int)) (hn:ns≠[]) (h:∀ M,M∈ns->(∀ a∈ns,a<=M)->R (.int M) G):yG [.ref p] G R:=by
  unfold yG akY;simp only [hp];exact ⟨ns,rfl,hn,h⟩
theorem au2 (hp:aU G p=some (ns.map D.int)) (hn:ns≠[]) (h:∀ M,M∈ns->(∀ a∈ns,M<=a)->R (.int M) G):a0S [.ref p] G R:=by
  unfold a0S akY;simp only [hp];exact ⟨ns,rfl,hn,h⟩
theorem a5P (hp:aU G p=some (ps.map D.int)) (n:ps≠[]) (h:R (.int (dH ps e)) G):gJ K A [.ref p,.int e] G R EX:=by
  refine ⟨rfl,?_⟩;show yQ K A _ _ [some (.ref p),some (.int e)] G;exists yQ;unfold dH at h;refine gP (fun c=>amV hp n fun M h1 h2=>?_) fun c=>au2 hp n fun M h1 h2=>?_
  . rw [if_pos (by simpa using c),← a9U h1 h2] at h;exact bH.here h
  . rw [if_neg (by simpa using c),← amO h1 h2] at h;exact bH.here h
theorem arS {gl:Int} (o:OkP x y g) (hp:aU G p=some (ps.map D.int)) (hb:∀ q∈ps,1<=q/\q<=(y:Int)) (he:e=0∨e=(y:Int)+1) (h:R (.int (vR ((y:Int)+1) ps e gl)) G):fQ K A [nY x y g,.ref p,.int e,.int gl] G R EX:=by
  refine ⟨rfl,?_⟩;replace h:=bH.here h;show mX K A _ _ [some (nY x y g),some (.ref p),some (.int e),some (.int gl)] G;have oy:=o.y1;unfold vR at h;exists mX;refine ahZ (fun c=>?_) fun c=>?_
  . unfold nY;walk_at "wr";rw [if_neg (by simpa using c)] at h;exact h
  . rw [if_pos (by simpa using c)] at h;exists qJ,dJ hp;by_cases n:ps=[]
    . subst n;rw [if_pos rfl] at h;exact h
    . rw [if_neg n] at h;have e0:((ps.length:Int) == 0)=false:=by simpa using n
      rw [e0];exists qI;refine a5P hp n ?_;have ⟨f1,f2⟩:=ah3 (e:=e) hb n;walk_at "wr"
      have z:(2:Int) * (if dH ps e - e < 0 then -(dH ps e - e) else dH ps e - e)=if e=0 then 2 * mxL ps else 2 * ((y:Int)+1 - mnL ps):=by
        unfold dH at f1 f2 ⊢;by_cases c0:e=0
        . simp only [if_pos c0] at f1 f2 ⊢;split <;> omega
        . simp only [if_neg c0] at f1 f2 ⊢;split <;> omega
      rw [z];exact h
def wV (w:Int×List Int):D := .tup [.int w.1,.tup (w.2.map D.int)]
def wD (z:Way):DK×D:=(.inl (.inl z.1),wV z.2)
theorem ah9 {g:Int}:∀ {fk:List Way},mD (fk.map wD) (.inl (.inl g))=(nZ fk g).map wV
  | []=>rfl
  | z :: r=>by
    rw [jd];unfold mD nZ;by_cases c:z.1=g
    . rw [if_pos (show (wD z).1 = .inl (.inl g) from by rw [← c];rfl),if_pos c];rfl
    . rw [if_neg (show ¬ (wD z).1 = .inl (.inl g) from fun q=>c (by
        have q:(Sum.inl (Sum.inl z.1):DK) = .inl (.inl g):=q;simpa using q)),if_neg c]
      exact ah9
theorem aCW {g:Int} {w:Int×List Int}:zL (fk.map wD) (.inl (.inl g)) (wV w)=(acV fk g w).map wD:=by
  unfold zL acV;rw [ah9];have e:((nZ fk g).map wV).isSome=(nZ fk g).isSome:=by cases nZ fk g <;> rfl
  rw [e];split
  . rw [lg,lg];refine mj fun z _=>?_;simp only [Function.comp];by_cases c:z.1=g
    . rw [if_pos (show (wD z).1 = .inl (.inl g) from by rw [← c];rfl),if_pos c];rfl
    . rw [if_neg (show ¬ (wD z).1 = .inl (.inl g) from fun q=>c (by
        have q:(Sum.inl (Sum.inl z.1):DK) = .inl (.inl g):=q;simpa using q)),if_neg c]
  . rw [iu];rfl
structure DW (G:Gp) (w:Addr) (od:Obj) (kvs:List Way) (f:Addr) (fk:List Way) (G':Gp):Prop where
  hw:G' w=some (.rdc od false (kvs.map wD))
  hf:G' f=some (.jF false (fk.map wD))
  old:∀ q u,q≠w->G q=some u->G' q=some u
theorem DW.put {w f:Addr} {fk':List Way} (h:DW G w od kvs f fk G') (hf:G f=none):DW G w od kvs f fk' (aM G' f (.jF false (fk'.map wD))):=by
  refine ⟨?_,aG,fun q u n e=>?_⟩
  . rw [bB (fun z=>by have:=h.hw;rw [z,h.hf] at this;cases this)];exact h.hw
  . rw [bB (fun z=>by subst z;rw [hf] at e;cases e)];exact h.old q u n e
theorem DW.le {w f:Addr} (h:DW G w od kvs f fk G') (l:Le G' G2):DW G w od kvs f fk G2:=⟨l _ _ h.hw,l _ _ h.hf,fun q u n e=>l _ _ (h.old q u n e)⟩
def mnW (a b:Int×List Int):Int×List Int:=if L2.ltP b.1 b.2 a.1 a.2=true then b else a
def upW (fk:List Way) (g:Int) (o:Int×List Int):List Way:=acV fk g (mnW ((nZ fk g).getD o) o)
def ad1 (n:Int) (ps:List Int) (z:Way) (g:Int):Int×List Int:=(z.2.1+vR n ps z.1 g,z.2.2++[g])
def upZ (n:Int) (ps:List Int) (fk:List Way) (z:Way):List Way:=[0,n].foldl (fun f g=>upW f g (ad1 n ps z g)) fk
def nxW (n:Int) (ps:List Int) (kvs:List Way):List Way:=kvs.foldl (upZ n ps) []
def wyF (n:Int) (aP:List (List Int)):List Way:=aP.foldl (fun k ps=>nxW n ps k) [(0,0,[])]
def enF (n:Int) (aP:List (List Int)):List Int:=((nZ (wyF n aP) 0).getD (0,[])).2
theorem jA {α β:Type} {f:β->α->β} {b:β} {l:List α} {k:Nat} {a:α} (h:l[k]?=some a):(l.take (k+1)).foldl f b=f ((l.take k).foldl f b) a:=by
  rw [take_snoc h,List.foldl_append];rfl
theorem amW {w f:Addr} {gl:Int} (o:OkP x y g) (s:DW G w od kvs f fk G') (hf:G f=none) (hp:aU G' p=some (ps.map D.int)) (hb:∀ q∈ps,1<=q/\q<=(y:Int)) (hz:Ent ((y:Int)+1) aP z) (hl:aP.length < 1000) (hg:gl=0∨gl=(y:Int)+1) (hF:Fnd ((y:Int)+1) (aP++[ps]) C fk)
    (h:∀ r7 fk',fk'=upW fk gl (ad1 ((y:Int)+1) ps z gl)->Fnd ((y:Int)+1) (aP++[ps]) (C++[(gl,z.2.1+vR ((y:Int)+1) ps z.1 gl)]) fk'->F.nx [some (nY x y g),some (.ref p),some (.ref w),some (.ref f),some (.int z.1),some (wV z.2),some (.int gl),r7] (aM G' f (.jF false (fk'.map wD)))) :
    iC K A ex F [some (nY x y g),some (.ref p),some (.ref w),some (.ref f),some (.int z.1),some (wV z.2),some (.int gl),r7] G':=by
  have big:10000 < sizeLine:=by decide
  have zl:z.2.2.length=aP.length:=hz.1.len;have z1:z.1=0∨z.1=(y:Int)+1:=by rw [← hz.2.1];exact hz.1.last
  have key:∀ w':Int×List Int,acV fk gl w'=upW fk gl (ad1 ((y:Int)+1) ps z gl)->Fnd ((y:Int)+1) (aP++[ps]) (C++[(gl,z.2.1+vR ((y:Int)+1) ps z.1 gl)]) (acV fk gl w')->abG (.ref f) (.int gl) (wV w') F [some (nY x y g),some (.ref p),some (.ref w),some (.ref f),some (.int z.1),some (wV z.2),some (.int gl),some (wV (z.2.1+vR ((y:Int)+1) ps z.1 gl,z.2.2++[gl]))] G':=fun w' ew hw'=>by
    rw [arE s.hf zR rfl (by rw [dg];have:=hF.two;omega),aCW];exact h _ _ ew hw'
  have nx:=Ent.next (ps:=ps) hz hg;unfold wV at key ⊢;exists iC;refine arS o hp hb z1 ?_;walk_at "wr";refine ⟨by omega,?_⟩;exists lA,amA s.hf;rw [a4Q s.hf zR rfl,ah9];have e1:z.2.2.map D.int++[.int gl]=(z.2.2++[gl]).map D.int:=by simp
  rw [e1];cases q:nZ fk gl with
  | none =>
    have ew:acV fk gl (z.2.1+vR ((y:Int)+1) ps z.1 gl,z.2.2++[gl])=upW fk gl (ad1 ((y:Int)+1) ps z gl):=by
      unfold upW mnW ad1;rw [q];simp
    refine agM (fun _=>?_) fun _=>?_
    . walk_at "wr";exact key (z.2.1+vR ((y:Int)+1) ps z.1 gl,z.2.2++[gl]) ew (hF.put nx (.inl ⟨rfl,fun v hv=>by rw [q] at hv;cases hv⟩))
    . walk_at "wr";exact key (z.2.1+vR ((y:Int)+1) ps z.1 gl,z.2.2++[gl]) ew (hF.put nx (.inl ⟨rfl,fun v hv=>by rw [q] at hv;cases hv⟩))
  | some v =>
    refine agM (fun c=>?_) fun c=>?_
    . walk_at "wr";exact key (z.2.1+vR ((y:Int)+1) ps z.1 gl,z.2.2++[gl]) (by unfold upW mnW ad1;rw [q];simp only [Option.getD_some];rw [if_pos c]) (hF.put nx (.inl ⟨rfl,fun v' hv=>by rw [q] at hv;cases hv;exact aCP c⟩))
    . walk_at "wr";exact key v (by unfold upW mnW ad1;rw [q];simp only [Option.getD_some];rw [if_neg (by rw [c];decide)]) (hF.put nx (.inr ⟨q,aCQ c⟩))
theorem af2 {k:Nat} (h:kvs[k]?=some z):cands n ps (kvs.take (k+1))=cands n ps (kvs.take k)++[(0,z.2.1+vR n ps z.1 0),(n,z.2.1+vR n ps z.1 n)]:=by
  unfold cands;rw [take_snoc h,List.flatMap_append];simp
theorem ayF {w:Addr} (o:OkP x y g) (hp:aU G p=some (ps.map D.int)) (hb:∀ q∈ps,1<=q/\q<=(y:Int)) (hw:G w=some (.jF false (kvs.map wD))) (hW:a08 ((y:Int)+1) aP kvs) (hl:aP.length < 1000)
    (h:∀ f G' fk,fk=nxW ((y:Int)+1) ps kvs->Le G G'->G f=none->G' f=some (.jF false (fk.map wD))->a08 ((y:Int)+1) (aP++[ps]) fk->R (.ref f) G'):iD K A [nY x y g,.ref p,.ref w] G R EX:=by
  have big:10000 < sizeLine:=by decide
  refine ⟨rfl,?_⟩;show pG K A _ _ [some (nY x y g),some (.ref p),some (.ref w),none,none,none,none,none] G;exists pG;intro f hf;exists tM;rw [arF (bR hw hf)];intro od;have wf:w≠f:=yJ hw hf
  have pw:∀ {G':Gp} {fk:List Way},DW G w od kvs f fk G'->aU G' p=some (ps.map D.int):=fun {G' fk} s=>by
    unfold L2.aU at hp ⊢;split at hp
    . rename_i e;rw [s.old p _ (fun z=>by rw [z,hw] at e;cases e) e];exact hp
    . rename_i e;rw [s.old p _ (fun z=>by rw [z,hw] at e;cases e) e];exact hp
    . cases hp
  refine amC (fun k ρ G'=>∃ r4 r5 r6 r7 fk,ρ=[some (nY x y g),some (.ref p),some (.ref w),some (.ref f),r4,r5,r6,r7]/\DW G w od kvs f fk G'/\fk=(kvs.take k).foldl (upZ ((y:Int)+1) ps) []/\Fnd ((y:Int)+1) (aP++[ps]) (cands ((y:Int)+1) ps (kvs.take k)) fk) ⟨_,_,_,_,[],rfl,⟨aG,?_,fun q u n e=>?_⟩,rfl,.nil⟩ (fun k ρ G' h=>?_) (fun k q ρ G' hk h=>?_) fun ρ G' h=>?_
  . rw [bB (Ne.symm wf)];exact aG
  . rw [bB n];exact bR e hf
  . obtain ⟨_,_,_,_,fk,rfl,s,_,hF⟩:=h;exact s.hw
  . obtain ⟨_,_,_,_,fk,rfl,s,efk,hF⟩:=h;obtain ⟨z,hz,rfl⟩:=a4R hk;have ez:=hW.ent z (iz hz);show xC [4,5] (.tup [.int z.1,wV z.2]) _ _;rw [a4P rfl];walk_at "wr";unfold nY;exists qK;refine aiM rfl fun a ha=>?_;have la:=amE ha;have af:a≠f:=fun e=>by subst e;rcases ha with ha | ha <;> (rw [s.hf] at ha;cases ha)
    refine amG (fun m ρ G2=>∃ r6 r7 fk2,ρ=[some (nY x y g),some (.ref p),some (.ref w),some (.ref f),some (.int z.1),some (wV z.2),r6,r7]/\DW G w od kvs f fk2 G2/\G2 a=some (.tpl [.int 0,.int ((y:Int)+1)])/\fk2=([0,(y:Int)+1].take m).foldl (fun f g=>upW f g (ad1 ((y:Int)+1) ps z g)) fk/\Fnd ((y:Int)+1) (aP++[ps]) (cands ((y:Int)+1) ps (kvs.take k)++[(0,z.2.1+vR ((y:Int)+1) ps z.1 0),((y:Int)+1,z.2.1+vR ((y:Int)+1) ps z.1 ((y:Int)+1))].take m) fk2) ⟨_,_,fk,rfl,s.le la,aG,rfl,by simpa using hF⟩ (fun m ρ G2 h=>?_) (fun m d ρ G2 hd h=>?_) fun ρ G2 h=>?_
    . obtain ⟨_,_,_,_,_,ht,_⟩:=h;exact ht
    . obtain ⟨_,_,fk2,rfl,s2,ht,ef2,hF2⟩:=h
      obtain ⟨gl,hg,eg,rfl,et⟩:∃ gl:Int,(gl=0∨gl=(y:Int)+1)/\[0,(y:Int)+1][m]?=some gl/\d = .int gl/\[(0,z.2.1+vR ((y:Int)+1) ps z.1 0),((y:Int)+1,z.2.1+vR ((y:Int)+1) ps z.1 ((y:Int)+1))].take (m+1)=[(0,z.2.1+vR ((y:Int)+1) ps z.1 0),((y:Int)+1,z.2.1+vR ((y:Int)+1) ps z.1 ((y:Int)+1))].take m++[(gl,z.2.1+vR ((y:Int)+1) ps z.1 gl)]:=by
        match m,hd with
        | 0,hd=>exact ⟨0,.inl rfl,rfl,(dj.inj hd).symm,rfl⟩
        | 1,hd=>exact ⟨(y:Int)+1,.inr rfl,rfl,(dj.inj hd).symm,rfl⟩
        | m+2,hd=>exact absurd (bh.mp hd).1 (by simp)
      walk_at "wr";refine amW o s2 hf (pw s2) hb ez hl hg hF2 fun r7 fk' ef' hF'=>?_;refine ⟨_,_,fk',rfl,s2.put hf,by rw [bB af];exact ht,by rw [ef',ef2,jA eg],?_⟩;rw [et,← ji];exact hF'
    . obtain ⟨_,_,fk2,rfl,s2,ht,ef2,hF2⟩:=h;refine ⟨_,_,_,_,fk2,rfl,s2,by rw [ef2,jA hz,← efk];rfl,?_⟩;rw [af2 hz];simpa using hF2
  . obtain ⟨_,_,_,_,fk,rfl,s,efk,hF⟩:=h;rw [dg,tu] at hF efk;exists tL;refine bH.here (h f _ fk efk (fun q u e=>?_) hf (by rw [bB (Ne.symm wf)];exact s.hf) (hW.next hF));by_cases c:q=w
    . subst c;rw [aG];rw [hw] at e;exact e
    . rw [bB c];exact s.old q u c e
def Ais (G:Gp) (al:Addr) (aP:List (List Int)):Prop:=∃ rs:List Addr,G al=some (.lst (rs.map D.ref))/\rs.length=aP.length/\∀ (k:Nat) r ps,rs[k]?=some r->aP[k]?=some ps->G r=some (.lst (ps.map D.int))
theorem Ais.le (l:Le G G') (h:Ais G al aP):Ais G' al aP:=by
  obtain ⟨rs,h1,h2,h3⟩:=h;exact ⟨rs,l _ _ h1,h2,fun k r ps a b=>l _ _ (h3 k r ps a b)⟩
theorem ayG (o:OkP x y g) (ha:Ais G al aP) (ok:OkA y aP) (hl:aP.length < 1000)
    (h:∀ es G',es=enF ((y:Int)+1) aP->Le G G'->Ens ((y:Int)+1) aP.length es->aQ 0 es=0->R (.tup (es.map D.int)) G'):eU K A [nY x y g,.ref al] G R EX:=by
  refine ⟨rfl,?_⟩;show kJ K A _ _ [some (nY x y g),some (.ref al),none,none] G;exists kJ;intro w hw;walk_at "wr";rw [a4Q (t:=false) aG zR rfl];refine ⟨by decide,?_⟩
  have lw:Le G (aM (aM G w (.jF false [])) w (.jF false (zL [] (.inl (.inl 0)) (.tup [.int 0,.tup []])))):=fun a u e=>by
    have:a≠w:=yJ e hw;rw [bB this,bB this];exact e
  obtain ⟨rs,h1,h2,h3⟩:=ha;exists oM;rw [qC (aH (lw _ _ h1))];refine uR (fun k ρ G'=>∃ r3 w kvs,ρ=[some (nY x y g),some (.ref al),some (.ref w),r3]/\Le G G'/\G' w=some (.jF false (kvs.map wD))/\kvs=wyF ((y:Int)+1) (aP.take k)/\a08 ((y:Int)+1) (aP.take k) kvs) ⟨_,w,[(0,0,[])],rfl,lw,aG,rfl,.nil⟩ (fun k ρ G' h=>?_) (fun k d ρ G' hd h=>?_) fun ρ G' h=>?_
  . obtain ⟨_,_,_,_,l,_⟩:=h;exact aH (l _ _ h1)
  . obtain ⟨_,w,kvs,rfl,l,hk,ek,hW⟩:=h;obtain ⟨r,hr,rfl⟩:=a4R hd;have kl:k < aP.length:=by rw [← h2];exact (bh.mp hr).1
    have hp:=h3 k r _ hr (aq kl);exists mY;refine ayF o (aH (l _ _ hp)) (ok _ (List.getElem_mem kl)) hk hW (by rw [mz];omega) fun f G2 fk ef l2 _ hf hW2=>?_;walk_at "wr";exact ⟨_,f,fk,rfl,l.trans l2,hf,by rw [ef,ek];unfold wyF;rw [jA (aq kl)],by rw [take_snoc (aq kl)];exact hW2⟩
  . obtain ⟨_,w,kvs,rfl,l,hk,ek,hW⟩:=h;rw [dg,h2,tu] at hW ek;obtain ⟨v,v1,v2,v3,v4,v5⟩:=hW.zero;exists oK;rw [arD hk zR rfl (d:=wV v) (by rw [ah9,v1];rfl)];unfold wV;walk_at "wr";exact bH.here (h v.2 G' (by unfold enF;rw [← ek,v1];rfl) l v2 v3)
theorem a9Z {q:Addr} {tc:u9} {te:cB} {ρ:aK} (c:Int->Int->Bool) (f:Int->Int->Int) (hq:aU G q=some (qs.map cD)) (hl:qs.length < 1000)
    (hc:∀ u v G',Le G G'->∀ Q:Bool->Gp->Prop,(∀ G'',Le G' G''->Q (c u v) G'')->tc (some (.int u) :: some (.int v) :: ρ) G' Q)
    (he:∀ u v G',Le G G'->∀ Q:D->Gp->Prop,(∀ G'',Le G' G''->Q (.int (f u v)) G'')->te (some (.int u) :: some (.int v) :: ρ) G' Q)
    (h:∀ p,G p=none->R (.ref p) (aM G p (.lst (((qs.filter fun q=>c q.1 q.2).map fun q=>f q.1 q.2).map D.int)))):ac1 (akR 2) (.lst q (qs.map cD)) tc te ρ G R:=by
  have big:10000 < sizeLine:=by decide
  let g1:D->Int:=fun d=>match d with | .tup [.int u,_]=>u | _=>0
  let g2:D->Int:=fun d=>match d with | .tup [_,.int v]=>v | _=>0
  refine ac2 (fun d=>match d with | .tup xs=>xs | _=>[]) (fun d=>c (g1 d) (g2 d)) (fun d => .int (f (g1 d) (g2 d))) (by show (qs.map cD).length < _;rw [dg];omega) hq (fun d hd=>?_) (fun d hd G' l Q h=>?_) (fun d hd _ G' l Q h=>?_) fun p hp=>?_
  . obtain ⟨q,_,rfl⟩:=dw.mp hd;rfl
  . obtain ⟨q,_,rfl⟩:=dw.mp hd;exact hc _ _ G' l Q h
  . obtain ⟨q,_,rfl⟩:=dw.mp hd;exact he _ _ G' l Q h
  . have e:((qs.map cD).filter fun d=>c (g1 d) (g2 d)).map (fun d=>D.int (f (g1 d) (g2 d)))=((qs.filter fun q=>c q.1 q.2).map fun q=>f q.1 q.2).map D.int:=by
      rw [List.filter_map,lg,lg];rfl
    show R _ (aM G p (.lst (((qs.map cD).filter _).map _)));rw [e];exact h p hp
def rA (bs:List (Int×Int)) (i:Int):List Int:=(bs.filter fun q=>decide (q.1=i)).map (·.2)
def fP (bs:List (Int×Int)):Int:=if bs=[] then -1 else mxL (bs.map (·.1))
def tW (bs:List (Int×Int)):List (List Int):=(gq (fP bs+1).toNat).map fun (i:Nat)=>rA bs i
def InB (x y:Nat) (q:Int×Int):Prop:=0<=q.1/\q.1 < x/\1<=q.2/\q.2<=(y:Int)
theorem aiY {bs:List (Int×Int)} {k:Nat} (h:bs[k]?=some q):rA (bs.take (k+1)) i=if q.1=i then rA (bs.take k) i++[q.2] else rA (bs.take k) i:=by
  unfold rA;rw [take_snoc h,List.filter_append,iu];by_cases c:q.1=i <;> simp [c]
theorem ad2 {bs:List (Int×Int)} (hx:1<=x) (h:∀ q∈bs,InB x y q):-1<=fP bs/\fP bs < x:=by
  unfold fP;split
  . omega
  . rename_i n;obtain ⟨q,hq,e⟩:=dw.mp (pL (show bs.map (·.1)≠[] by simpa using n)).1;have ⟨h1,h2,_⟩:=h q hq;rw [← e];omega
theorem a5Q {bs:List (Int×Int)} (h:q∈bs):q.1<=fP bs:=by
  unfold fP;have n:bs≠[]:=fun e=>by subst e;cases h
  rw [if_neg n];exact (pL (show bs.map (·.1)≠[] by simpa using n)).2 _ (dw.mpr ⟨q,h,rfl⟩)
theorem wR {bs:List (Int×Int)}:(tW bs).length=(fP bs+1).toNat:=by simp [tW]
theorem aa0 {bs:List (Int×Int)} {k:Nat} (h:k < (fP bs+1).toNat):(tW bs)[k]?=some (rA bs k):=by
  unfold tW;rw [ju,List.getElem?_range h];rfl
theorem af3 {bs:List (Int×Int)} (h:∀ q∈bs,InB x y q):OkA y (tW bs):=fun ps hps p hp=>by
  obtain ⟨i,_,rfl⟩:=dw.mp hps;obtain ⟨q,hq,rfl⟩:=dw.mp hp;have ⟨_,_,a,b⟩:=h q (vf.mp hq).1;exact ⟨a,b⟩
theorem arU {bs:List (Int×Int)} {m:Nat} (h0:-1<=fP bs) (e:(tW bs).length=m+1):(tW bs)[m]?≠some []:=fun h=>by
  rw [wR] at e;rw [aa0 (by omega)] at h;have h:=dj.inj h;have n:bs≠[]:=fun z=>by subst z;simp [fP] at e
  have em:fP bs=(m:Int):=by omega
  unfold fP at em;rw [if_neg n] at em;obtain ⟨q,hq,eq⟩:=dw.mp (pL (show bs.map (·.1)≠[] by simpa using n)).1;have:q.2∈rA bs m:=dw.mpr ⟨q,vf.mpr ⟨hq,by simp [eq,em]⟩,rfl⟩;rw [h] at this;cases this
theorem ahA {k:Nat} (h:(xs.map cD)[k]?=some d):∃ q,xs[k]?=some q/\d=cD q:=by
  obtain ⟨q,e,rfl⟩:=a4R h;exact ⟨q,e,rfl⟩
theorem amY {bs:List (Int×Int)} {rs:List Addr} (hb:aU G b=some (bs.map cD)) (h0:∀ q∈bs,0<=q.1) (bl:bs.length < 1000) (hr:rs.length=(fP bs+1).toNat) (nd:rs.Nodup) (fr:∀ r∈rs,G r=none/\r≠al) (fal:G al=none) (l:Le G G1) (h1:G1 al=some (.lst (rs.map D.ref))) (h2:∀ r∈rs,G1 r=some (.lst []))
    (h:∀ G',Le G G'->Ais G' al (tW bs)->F.rt (.ref al) G'):eY K A ex F [some (.ref b),r1,some (.ref al),r3,r4] G1:=by
  have big:10000 < sizeLine:=by decide
  exists eY;rw [qC (bG l hb)];refine uR (fun k ρ G'=>∃ r3 r4,ρ=[some (.ref b),r1,some (.ref al),r3,r4]/\Le G G'/\G' al=some (.lst (rs.map D.ref))/\∀ (i:Nat) r,rs[i]?=some r->G' r=some (.lst ((rA (bs.take k) i).map D.int))) ⟨_,_,rfl,l,h1,fun i r e=>h2 r (iz e)⟩ (fun k ρ G' h=>?_) (fun k d ρ G' hd h=>?_) fun ρ G' h=>?_
  . obtain ⟨_,_,_,l,_⟩:=h;exact bG l hb
  . obtain ⟨_,_,rfl,l,ha,hrs⟩:=h;obtain ⟨⟨i,j⟩,hq,rfl⟩:=ahA hd;have qm:=iz hq;have i0:=h0 _ qm;have il:=a5Q qm;simp only at i0 il;obtain ⟨n,rfl⟩:∃ n:Nat,i=(n:Int):=⟨i.toNat,by omega⟩;have ir:n < rs.length:=by rw [hr];omega
    have hri:=hrs n _ (aq ir);have ⟨f1,f2⟩:=fr _ (List.getElem_mem ir);unfold cD;rw [a4P rfl];exists jO;rw [yI (aH ha) (d := .ref rs[n]) (by rw [uP,ju];simp [ir])];walk_at "wr";rw [jB,aH hri];refine ⟨rfl,?_⟩;walk_at "wr"
    rw [gQ hri (by
      rw [dg];have:(rA (bs.take k) n).length<=(bs.take k).length:=by unfold rA;rw [dg];exact List.length_filter_le _ _
      rw [mz] at this;omega)]
    refine ⟨_,_,rfl,fun a u e=>?_,?_,fun m r em=>?_⟩
    . rw [bB (yJ e f1)];exact l a u e
    . rw [bB (Ne.symm f2)];exact ha
    . rw [aiY hq];by_cases c:m=n
      . subst c;rw [aq ir] at em;cases em;rw [aG,if_pos rfl,iu];rfl
      . have rn:r≠rs[n]:=fun e=>c (by
          have hm:=(bh.mp em);obtain ⟨hm1,hm2⟩:=hm;exact (List.getElem_inj nd).mp (hm2.trans e))
        rw [bB rn,if_neg (show ¬ (n:Int)=(m:Int) by omega)];exact hrs m r em
  . obtain ⟨_,_,rfl,l,ha,hrs⟩:=h;rw [dg,tu] at hrs;exists kZ;refine h G' l ⟨rs,ha,by rw [wR];exact hr,fun k r ps hk hp=>?_⟩;rw [aa0 (by rw [← hr];exact (bh.mp hk).1)] at hp;cases hp;exact hrs k r hk
theorem arV {bs:List (Int×Int)} (h:∀ q∈bs,0<=q.1/\q.1 < 100):-1<=fP bs/\fP bs < 100:=by
  unfold fP;split
  . omega
  . rename_i n;obtain ⟨q,hq,e⟩:=dw.mp (pL (show bs.map (·.1)≠[] by simpa using n)).1;have:=h q hq;rw [← e];omega
theorem ad3 {bs:List (Int×Int)} (hb:aU G b=some (bs.map cD)) (h0:∀ q∈bs,0<=q.1/\q.1 < 100) (bl:bs.length < 1000) (em:m=fP bs) (l:Le G G1) (h:∀ al G',Le G G'->Ais G' al (tW bs)->F.rt (.ref al) G'):eZ K A ex F [some (.ref b),some (.int m),r2,r3,r4] G1:=by
  have big:10000 < sizeLine:=by decide
  have mb:=arV h0;rw [← em] at mb;exists eZ;have il:(Src.imm (zH 0 (m+1))).items.length=(m+1).toNat:=by show (zH 0 (m+1)).length=_;rw [arA,Int.sub_zero]
  refine ⟨by rw [il];omega,fun p hp=>⟨fun k ds G'=>∃ rs:List Addr,ds=rs.map D.ref/\rs.length=k/\rs.Nodup/\(∀ r∈rs,G' r=some (.lst [])/\G1 r=none/\r≠p)/\G' p=some (.lst ds)/\Le G1 G',⟨[],rfl,rfl,List.nodup_nil,(fun r hr=>by cases hr),aG,.new hp⟩,fun k ds G' hk h=>?_,fun k d ds G' hd h=>?_,fun ds G' h=>?_⟩⟩
  . obtain ⟨rs,rfl,rl,_,_,hp',_⟩:=h;exact ⟨trivial,hp',by rw [dg];omega⟩
  . obtain ⟨rs,rfl,rl,nd,fr,hp',l1⟩:=h;refine ⟨[d],rfl,?_⟩;dsimp only [L2.uI];rw [if_pos rfl];walk_at "wr";intro q hq;have qp:q≠p:=fun e=>by subst e;rw [hp'] at hq;cases hq
    refine ⟨by rw [bB (Ne.symm qp)];exact hp',rs++[q],by simp,by simp [rl],?_,fun r hr=>?_,aG,fun a u e=>?_⟩
    . rw [List.nodup_append];refine ⟨nd,by simp,fun a ha c hc e=>?_⟩;rw [je] at hc;subst hc e;rw [(fr a ha).1] at hq;cases hq
    . rcases jo.mp hr with hr | hr
      . have ⟨f1,f2,f3⟩:=fr r hr;refine ⟨?_,f2,f3⟩;rw [bB f3,bB (fun e=>by subst e;rw [f1] at hq;cases hq)];exact f1
      . rw [je] at hr;subst hr;exact ⟨by rw [bB qp];exact aG,l1.free hq,qp⟩
    . have ap:a≠p:=yJ e hp;rw [bB ap];exact bR (l1 a u e) hq
  . obtain ⟨rs,rfl,rl,nd,fr,hp',l1⟩:=h;rw [il] at rl;refine ⟨G',.refl _,?_⟩;walk_at "wr";refine amY hb (fun q hq=>(h0 q hq).1) bl (by rw [← em];exact rl) nd (fun r hr=>⟨l.free (fr r hr).2.1,(fr r hr).2.2⟩) (l.free hp) (l.trans l1) hp' (fun r hr=>(fr r hr).1) fun G2 l2 ha=>h p G2 l2 ha
theorem amZ {bs:List (Int×Int)} (hb:aU G b=some (bs.map cD)) (h0:∀ q∈bs,0<=q.1/\q.1 < 100) (bl:bs.length < 1000) (h:∀ al G',Le G G'->Ais G' al (tW bs)->R (.ref al) G'):cX K A [.ref b] G R EX:=by
  have big:10000 < sizeLine:=by decide
  refine ⟨rfl,?_⟩;have h':∀ al G',Le G G'->Ais G' al (tW bs)->bH R (.ref al) G':=fun al G' a b=>bH.here (h al G' a b);show iB K A _ _ [some (.ref b),none,none,none,none] G;exists iB;rw [pZ hb];refine a9Z (fun _ _=>true) (fun u _=>u) hb bl (fun u v G' l Q h=>h G' (.refl _)) (fun u v G' l Q h=>h G' (.refl _)) fun p hp=>?_;have e:(bs.filter fun _=>true)=bs:=yq.mpr fun _ _=>rfl;rw [e];walk_at "wr";refine ay1 bQ (fun z=>?_) fun M h1 h2=>?_
  . walk_at "wr";exact ad3 hb h0 bl (by unfold fP;rw [if_pos (by simpa using z)]) (.new hp) h'
  . walk_at "wr";refine ad3 hb h0 bl ?_ (.new hp) h';have n:bs≠[]:=fun z=>by subst z;cases h1
    unfold fP;rw [if_neg n];exact a9U h1 h2
theorem an0 (o:OkP x y g) (hq:InB x y q) (h:R (.bl true) G):wI K A [nY x y g,cD q] G R EX:=by
  refine ⟨rfl,?_⟩;show a5A K A _ _ [some (nY x y g),some (cD q)] G;exists a5A;refine a7W o ?_;unfold nY;exists a4Z;refine aiR am6 (fun a b e=>by cases e;exact ⟨rfl,rfl⟩) ?_;have ⟨h1,h2,h3,h4⟩:=hq
  have e:isP (cD q) x 1 y=true:=by
    rw [ayC];simp;omega
  rw [e];exact bH.here h
theorem af4 (o:OkP x y g) (hq:InB x y q) (h:R .non G):oJ K A [nY x y g,cD q] G R EX:=by
  refine ⟨rfl,?_⟩;show yP K A _ _ [some (nY x y g),some (cD q)] G;exists yP;refine an0 o hq ?_;walk_at "wr";exact bH.here h
theorem arW {gl:Int} (hp:aU G p=some (ps.map D.int)) (h:∀ r G',Le G G'->G r=none->G' r=some (.lst ((spW i ps e gl).map cD))->R (.ref r) G'):fU K A [.int i,.ref p,.int e,.int gl] G R EX:=by
  refine ⟨rfl,?_⟩;have h':∀ r G',Le G G'->G r=none->G' r=some (.lst ((spW i ps e gl).map cD))->bH R (.ref r) G':=fun r G' a b c=>bH.here (h r G' a b c);clear h;unfold spW at h';show mZ K A _ _ [some (.int i),some (.ref p),some (.int e),some (.int gl)] G;exists mZ;refine ahZ (fun c=>?_) fun c=>?_
  . rw [if_neg (by simpa using c)] at h';intro r hr;exact h' r _ (.new hr) hr aG
  . rw [if_pos (by simpa using c)] at h';exists qM,dJ hp;by_cases n:ps=[]
    . subst n;rw [if_pos rfl] at h';walk_at "wr";intro r hr;exact h' r _ (.new hr) hr aG
    . rw [if_neg n] at h';have e0:((ps.length:Int) == 0)=false:=by simpa using n
      rw [e0];exists qL;refine a5P hp n ?_;walk_at "wr";intro r hr;exact h' r _ (.new hr) hr aG
theorem arX {α:Type} {xs:List α} {l:α} (h:xs[xs.length - 1]?=some l):atI xs (-1)=some l:=by
  have n0:xs.length - 1 < xs.length:=(bh.mp h).1
  have e:L2.ixN xs.length (-1)=some (xs.length - 1):=by
    unfold L2.ixN;rw [if_neg (by decide)];have:-(xs.length:Int)<=-1:=by omega
    simp only [this,if_true];congr 1;omega
  unfold L2.atI;rw [e];exact h
theorem an1 {l:Int×Int} (hp:G p=some (.lst (qs.map cD))) (hl:qs[qs.length - 1]?=some l) (ql:qs.length < 1000) (h:∀ G',HS G p ((bU qs q).map cD) G'->R .non G'):vA K A [.ref p,cD q] G R EX:=by
  have big:10000 < sizeLine:=by decide
  refine ⟨rfl,?_⟩;have h':∀ G',HS G p ((bU qs q).map cD) G'->bH R .non G':=fun G' a=>bH.here (h G' a);clear h;unfold bU at h';show a9J K A _ _ [some (.ref p),some (cD q)] G;exists a9J;rw [yI (aH hp) (d:=cD l) (arX (by rw [dg,ju,hl];rfl))];unfold cD at *;walk_at "wr";refine ⟨rfl,rfl,?_⟩
  have ee:eqP (.tup [.int l.1,.int l.2]) (.tup [.int q.1,.int q.2])=decide (l=q):=by
    show (eqP (.int l.1) (.int q.1)&&(eqP (.int l.2) (.int q.2)&&true))=_;rw [show eqP (.int l.1) (.int q.1)=(l.1 == q.1) from rfl,show eqP (.int l.2) (.int q.2)=(l.2 == q.2) from rfl,Bool.and_true];rcases l with ⟨a,b⟩;rcases q with ⟨c,d⟩;simp [Prod.ext_iff,Bool.decide_and];rfl
  rw [ee];walk_at "wr";by_cases c:l=q
  . rw [if_pos (by rw [hl,c])] at h';rw [if_neg (by simpa using c)];exact h' G ⟨hp,fun r u _ e=>e⟩
  . rw [if_neg (by rw [hl];simpa using c)] at h';rw [if_pos (by simpa using c),jB,aH hp];refine ⟨rfl,?_⟩;rw [gQ hp (by rw [dg];omega)];rw [iu] at h';exact h' _ (.put hp)
variable {s:Addr}
theorem an2 {r:Addr} {gl:Int} {k:Nat} {ws:List (Int×Int)} {l:Int×Int} (hs:G s=none) (h1:HS G s (qs.map cD) G1) (ha:G1 a=some (.tpl (es.map D.int))) (hr:G1 r=some (.lst (ws.map cD))) (rs:r≠s) (hl:qs[qs.length - 1]?=some l) (ql:qs.length+ws.length < 900)
    (h:∀ r6 G',HS G s ((ws.foldl bU qs).map cD) G'->G' a=some (.tpl (es.map D.int))->F.nx [some (.ref al),some (.tup (es.map D.int)),some (.ref s),some (.int e),some (.int k),some (.int gl),r6] G') :
    a7S (.lst r (ws.map cD)) (gO 6) (n6 K A ex) F [some (.ref al),some (.tup (es.map D.int)),some (.ref s),some (.int e),some (.int k),some (.int gl),r6] G1:=by
  refine uR (fun m ρ G'=>∃ r6 l,ρ=[some (.ref al),some (.tup (es.map D.int)),some (.ref s),some (.int e),some (.int k),some (.int gl),r6]/\HS G s (((ws.take m).foldl bU qs).map cD) G'/\G' a=some (.tpl (es.map D.int))/\G' r=some (.lst (ws.map cD))/\((ws.take m).foldl bU qs)[((ws.take m).foldl bU qs).length - 1]?=some l/\((ws.take m).foldl bU qs).length<=qs.length+m) ⟨_,l,rfl,h1,ha,hr,hl,by simp⟩ (fun m ρ G' h=>?_) (fun m d ρ G' hd h=>?_) fun ρ G' h=>?_
  . obtain ⟨_,_,_,_,_,hr,_⟩:=h;exact aH hr
  . obtain ⟨_,l2,rfl,s2,ha2,hr2,hl2,ql2⟩:=h;obtain ⟨q,hq,rfl⟩:=ahA hd;have mw:m < ws.length:=(bh.mp hq).1;exists n6;refine an1 s2.1 hl2 (by omega) fun G3 s3=>?_;have sa:a≠s:=fun e=>by subst e;rw [s2.1] at ha2;cases ha2
    refine ⟨_,q,rfl,by rw [jA hq];exact s2.trans s3,s3.2 a _ sa ha2,s3.2 r _ rs hr2,by rw [jA hq];exact bT,?_⟩;rw [jA hq];have:=wQ (qs:=(ws.take m).foldl bU qs) (q:=q);omega
  . obtain ⟨_,l2,rfl,s2,ha2,hr2,hl2,ql2⟩:=h;rw [dg,tu] at s2;exact h _ G' s2 ha2
def qsF (aP:List (List Int)) (es:List Int):Nat->List (Int×Int)
  | 0=>[(0,0)]
  | k+1=>(spW k (aP.getD k []) (aQ 0 (es.take k)) (es.getD k 0)).foldl bU (qsF aP es k)
theorem a5R {k:Nat} {gl:Int} (hp:aP[k]?=some ps) (he:es[k]?=some gl):qsF aP es (k+1)=(spW k ps (aQ 0 (es.take k)) gl).foldl bU (qsF aP es k):=by
  show (spW k (aP.getD k []) _ (es.getD k 0)).foldl bU _=_;rw [rm,rm,hp,he];rfl
theorem ad4 {aP:List (List Int)} {es:List Int} (h:es.length=aP.length):∀ {k:Nat},k<=aP.length->SpP aP es k (qsF aP es k)
  | 0,_ => .start
  | k+1,hk=>by
    have hp:=aq (show k < aP.length by omega);have he:=aq (show k < es.length by omega);rw [a5R hp he];exact (ad4 h (by omega)).next hp he
structure Nd (qs:List (Int×Int)):Prop where
  nd:∀ (k:Nat) q r,qs[k]?=some q->qs[k+1]?=some r->q≠r
  hd:qs[0]?=some (0,0)
theorem Nd.bU {qs:List (Int×Int)} {q:Int×Int} (h:Nd qs):Nd (bU qs q):=by
  unfold Law.bU;split
  . exact h
  . rename_i n;have l0:0 < qs.length:=(bh.mp h.hd).1;refine ⟨fun k a b ha hb=>?_,by rw [jf l0];exact h.hd⟩;have kb:=(bh.mp hb).1;rw [gk,xr] at kb;rw [jf (by omega)] at ha;by_cases c:k+1 < qs.length
    . rw [jf c] at hb;exact h.nd k a b ha hb
    . have e:k+1=qs.length:=by omega
      rw [e,kj (au _),Nat.sub_self] at hb;cases hb;intro z;exact n (by rw [show qs.length - 1=k by omega,ha,z])
theorem Nd.fold:∀ {ws qs:List (Int×Int)},Nd qs->Nd (ws.foldl Law.bU qs)
  | [],_,h=>h
  | a :: r,qs,h=>Nd.fold (ws:=r) (qs:=Law.bU qs a) h.bU
theorem an3 {aP:List (List Int)} {es:List Int}:∀ {k:Nat},Nd (qsF aP es k)
  | 0=>⟨fun k q r _ h=>by simp [qsF] at h,rfl⟩
  | _+1=>Nd.fold an3
def wkE (y:Nat) (bs:List (Int×Int)):List Int:=enF ((y:Int)+1) (tW bs)
def wkF (y:Nat) (bs:List (Int×Int)):List (Int×Int):=bU (qsF (tW bs) (wkE y bs) (tW bs).length) (0,0)
structure aGB (x y:Nat) (bs:List (Int×Int)):Prop where
  w:Walk x y (wkF y bs)
  nd:Nd (wkF y bs)
  len:(wkF y bs).length<=1000
  last:(wkF y bs)[(wkF y bs).length - 1]?=some (0,0)
  path:cU (wkF y bs)=tot (tW bs) (wkE y bs)
  ens:Ens ((y:Int)+1) (tW bs).length (wkE y bs)
  l0:aQ 0 (wkE y bs)=0
theorem af5 (o:OkP x y g) (ha:Ais G al aP) (hE:Ens ((y:Int)+1) aP.length es) (h0:aQ 0 es=0) (hn:∀ m,aP.length=m+1->aP[m]?≠some []) (px:aP.length<=x) (ok:OkA y aP)
    (h:∀ s G',Le G G'->G s=none->G' s=some (.lst ((bU (qsF aP es aP.length) (0,0)).map cD))->Walk x y (bU (qsF aP es aP.length) (0,0))->(bU (qsF aP es aP.length) (0,0)).length<=1000->R (.ref s) G'):oN K A [.ref al,.tup (es.map D.int)] G R EX:=by
  have ox:=o.x1;refine ⟨rfl,?_⟩;show yR K A _ _ [some (.ref al),some (.tup (es.map D.int)),none,none,none,none,none] G;exists yR;intro s hs;exists a02,a01;refine amF fun a ht=>?_;have sa:s≠a:=fun e=>by subst e;rw [aG] at ht;rcases ht with ht | ht <;> cases ht
  obtain ⟨rs,a1,a2,a3⟩:=ha;refine amH (fun k ρ G'=>∃ r4 r5 r6,ρ=[some (.ref al),some (.tup (es.map D.int)),some (.ref s),some (.int (aQ 0 (es.take k))),r4,r5,r6]/\HS G s ((qsF aP es k).map cD) G'/\G' a=some (.tpl (es.map D.int))/\SpI x y g aP es k (qsF aP es k)) ⟨_,_,_,rfl,HS.mk0.more (amE ht),aG,.start o.x0⟩ (fun k ρ G' h=>?_) (fun k d ρ G' hd h=>?_) fun ρ G' h=>?_
  . obtain ⟨_,_,_,_,_,ht,_⟩:=h;exact ht
  . obtain ⟨_,_,_,rfl,s2,ht2,hi⟩:=h;obtain ⟨gl,hg,rfl⟩:=a4R hd;have kl:k < aP.length:=by rw [← hE.len];exact (bh.mp hg).1
    have kr:k < rs.length:=by rw [a2];exact kl
    have hp:=a3 k _ _ (aq kr) (aq kl);have l2:=s2.leG hs;obtain ⟨j,hl,_⟩:=hi.ex;have aGC:=hi.len;rw [a4P rfl];exists xG;rw [yI (aH (l2 _ _ a1)) (d := .ref rs[k]) (by rw [uP,ju];simp [kr])];walk_at "wr";refine arW (aH (l2 _ _ hp)) fun r G3 l3 hr3 hr=>?_;walk_at "wr";rw [qC (aH hr)];have wl:(spW k aP[k] (aQ 0 (es.take k)) gl).length<=3:=by unfold spW;split <;> (try split) <;> simp
    refine an2 hs (s2.more l3) (l3 _ _ ht2) hr (fun e=>by subst e;rw [s2.1] at hr3;cases hr3) hl (by omega) fun r6 G4 s4 ht4=>?_;exists tO;rw [← a5R (aq kl) hg] at s4;refine ⟨_,_,_,by rw [take_snoc hg,eN],s4,ht4,?_⟩;rw [a5R (aq kl) hg];exact hi.next (aq kl) hg hE (by omega) ok
  . obtain ⟨_,_,_,rfl,s2,ht2,hi⟩:=h;rw [dg,hE.len] at hi s2;obtain ⟨j,hl,_⟩:=hi.ex;have aGC:=hi.len;have ⟨f1,f2,f3,f4⟩:=hi.home o.x0 hE h0 hn;exists a00;refine an1 (q:=(0,0)) s2.1 hl (by omega) fun G3 s3=>?_;exists zZ;have s4:=s2.trans s3;exact bH.here (h s G3 (s4.leG hs) hs s4.1 f1 (by omega))
theorem w_walk {bs:List (Int×Int)} (o:OkP x y g) (hb:aU G b=some (bs.map cD)) (hB:∀ q∈bs,InB x y q) (bl:bs.length < 1000)
    (h:∀ s G',Le G G'->G s=none->G' s=some (.lst ((wkF y bs).map cD))->aGB x y bs->R (.ref s) G'):rT K A [nY x y g,.ref b] G R EX:=by
  have ox:=o.x1;refine ⟨rfl,?_⟩;show aeV K A _ _ [some (nY x y g),some (.ref b),none,none] G;exists aeV;refine a7W o ?_;exists acA;rw [qC hb];refine uR (fun k ρ G'=>∃ r2,ρ=[some (nY x y g),some (.ref b),r2,none]/\Le G G') ⟨_,rfl,.refl _⟩ (fun k ρ G' h=>?_) (fun k d ρ G' hd h=>?_) fun ρ G' h=>?_
  . obtain ⟨_,_,l⟩:=h;exact bG l hb
  . obtain ⟨_,rfl,l⟩:=h;obtain ⟨q,hq,rfl⟩:=ahA hd;exists a7V;refine af4 o (hB q (iz hq)) ?_;walk_at "wr";exact ⟨_,rfl,l⟩
  . obtain ⟨_,rfl,l⟩:=h;have la:=ad2 o.x0 hB;have pl:(tW bs).length<=x:=by rw [wR];omega
    exists ac9;refine amZ (bG l hb) (fun q hq=>⟨(hB q hq).1,by have:=(hB q hq).2.1;omega⟩) bl fun al G2 l2 ha=>?_;exists ac8;refine ayG o ha (af3 hB) (by omega) fun es G3 ee l3 e1 e2=>?_;walk_at "wr";subst ee;have hn:∀ m,(tW bs).length=m+1->(tW bs)[m]?≠some []:=fun m hm=>arU la.1 hm;refine af5 o (ha.le l3) e1 e2 hn pl (af3 hB) fun s G4 l4 fs hs w ql=>?_;exact bH.here (h s G4 (l.trans (l2.trans (l3.trans l4))) ((l.trans (l2.trans l3)).free fs) hs ⟨w,an3.bU,ql,bT,(ad4 e1.len (au _)).home e1.len e2 hn,e1,e2⟩)
theorem ahB (hG:G a=some (.rol (ns.map D.int))) (o:OkP x y g) (hm:0<=m/\m<=200) (h:∀ (p:Addr) (bs:List (Int×Int)) (G':Gp),Le G G'->G' p=some (.lst (bs.map cD))->(∀ q∈bs,InB x y q)->bs.length<=200->F.rt (.ref p) G') :
    pJ K A ex F [some (.ref a),some (nY x y g),r2,some (.int m),none,r5] G:=by
  have big:10000 < sizeLine:=by decide
  have ⟨x0,x1,y0,y1,g0,g1⟩:=o;have hx:0 < (x:Int)/\(x:Int) < 1073741824:=by omega
  have hy:0 < (y:Int):=by omega
  exists pJ;intro p hp;exists xP;refine uQ (fun k ρ G'=>∃ r2 r5 bs,ρ=[some (.ref a),some (nY x y g),r2,some (.int m),some (.ref p),r5]/\HS G p (bs.map cD) G'/\(∀ q∈bs,InB x y q)/\bs.length=k) ⟨_,_,[],rfl,.mk0,(fun q hq=>by cases hq),rfl⟩ (fun k ρ G' hk h=>?_) fun ρ G' h=>?_
  . obtain ⟨_,_,bs,rfl,s,hB,bl⟩:=h;exists vC;rw [show (8:Int)+(k:Int)=((8+k:Nat):Int) by omega];refine a5L (k:=8+k) (s.leG hp _ _ hG) (by omega) ?_;generalize cellAt ns (8+k)=c;unfold nY;exists qQ;rw [jB,aH s.1];refine ⟨rfl,?_⟩;walk_at "wr";rw [gQ s.1 (by rw [dg];omega)];refine ⟨_,_,bs++[(c % (x:Int),1+c / (x:Int) % (y:Int))],rfl,?_,fun q hq=>?_,by simp [bl]⟩
    . rw [iu];exact s.snd
    . rcases jo.mp hq with hq | hq
      . exact hB q hq
      . rw [je] at hq;subst hq;have m1:=Int.emod_nonneg c (show (x:Int)≠0 by omega);have m2:=Int.emod_lt_of_pos c hx.1;have m3:=Int.emod_nonneg (c / (x:Int)) (show (y:Int)≠0 by omega);have m4:=Int.emod_lt_of_pos (c / (x:Int)) hy;exact ⟨m1,m2,by simp only;omega,by simp only;omega⟩
  . obtain ⟨_,_,bs,rfl,s,hB,bl⟩:=h;exists xO;exact h p bs G' (s.leG hp) s.1 hB (by omega)
theorem arY (hG:G a=some (.rol (ns.map D.int))) (o:OkP x y g) (h:∀ (p:Addr) (bs:List (Int×Int)) (G':Gp),Le G G'->G' p=some (.lst (bs.map cD))->(∀ q∈bs,InB x y q)->bs.length<=200->R (.ref p) G'):lH K A [.ref a,nY x y g] G R EX:=by
  refine ⟨rfl,?_⟩;have h':∀ (p:Addr) (bs:List (Int×Int)) (G':Gp),Le G G'->G' p=some (.lst (bs.map cD))->(∀ q∈bs,InB x y q)->bs.length<=200->bH R (.ref p) G':=fun p bs G' a b c d=>bH.here (h p bs G' a b c d);show vD K A _ _ [some (.ref a),some (nY x y g),none,none,none,none] G;exists vD;refine a5L (k:=3) hG (by omega) ?_;generalize cellAt ns 3=c
  have four:∀ (m:Int),0<=m/\m<=200->pK K A (fun _=>uN EX) { nx:=fun _ G'=>bH R .non G',rt:=bH R } [some (.ref a),some (nY x y g),some (.int c),some (.int m),none,none] G:=fun m hm=>by
    exists pK;exact gP (fun _=>ahB hG o (by omega) h') fun _=>ahB hG o hm h'
  exists xR,xQ;exact gP (fun _=>four _ (by omega)) fun _=>four _ (by omega)
theorem an4:eqP (.tup [.int q.1,.int q.2]) (.tup [.int r.1,.int r.2])=decide (q=r):=by
  show (eqP (.int q.1) (.int r.1)&&(eqP (.int q.2) (.int r.2)&&true))=_;rw [show eqP (.int q.1) (.int r.1)=(q.1 == r.1) from rfl,show eqP (.int q.2) (.int r.2)=(q.2 == r.2) from rfl,Bool.and_true];rcases q with ⟨a,b⟩;rcases r with ⟨c,d⟩;simp [Prod.ext_iff,Bool.decide_and];rfl
theorem an5 {a b:Int}:((if decide (b > a) then 1 else 0:Int) - (if decide (b < a) then 1 else 0))=sgn a b:=by
  unfold sgn;by_cases c:a < b
  . have:¬ b < a:=by omega
    simp [c,this]
  . by_cases d:b < a
    . simp [c,d]
    . simp [c,d]
theorem an6 {d:Int×Int} (hl:(stp c d).length < 9000) (h:∀ p G',Le G G'->G p=none->G' p=some (.lst ((stp c d).map cD))->R (.ref p) G'):jC K A [cD c,cD d] G R EX:=by
  have big:10000 < sizeLine:=by decide
  refine ⟨rfl,?_⟩;have h':∀ p G',Le G G'->G p=none->G' p=some (.lst ((stp c d).map cD))->bH R (.ref p) G':=fun p G' a b e=>bH.here (h p G' a b e);clear h;show rY K A _ _ [some (cD c),some (cD d),none,none,none] G;exists rY;intro p hp;exists vH;unfold cD;rw [a4P rfl];simp only [vG,atQ,arB];refine ⟨fun mm ρ G'=>∃ e ws,ρ=[some (cD c),some (cD d),some (.ref p),some (.int e.1),some (.int e.2)]/\HS G p (ws.map cD) G'/\ws++stp e d=stp c d/\(stp e d).length=mm,⟨_,c,[],rfl,.mk0,rfl,rfl⟩,fun mm ρ G' hw=>?_⟩;obtain ⟨e,ws,rfl,s,hs,hm⟩:=hw;have wl:ws.length < 9000:=by rw [← hs,gk] at hl;omega
  unfold cD;walk_at "wr";refine ⟨rfl,rfl,?_⟩;rw [an4];by_cases q:e=d
  . rw [if_neg (by simp [q])];rw [q,jW,jr] at hs;exists nA;rw [hs] at s;exact h' p G' (s.leG hp) hp s.1
  . rw [if_pos (by simp [q])]
    have fin:∀ f:Int×Int,f=nxt e d->iG K A (fun _=>uN EX) { nx:=fun ρ' G''=>∃ m',m' < mm/\∃ e ws,ρ'=[some (cD c),some (cD d),some (.ref p),some (.int e.1),some (.int e.2)]/\HS G p (ws.map cD) G''/\ws++stp e d=stp c d/\(stp e d).length=m',rt:=bH R,ct:=fun ρ' G''=>∃ m',m' < mm/\∃ e ws,ρ'=[some (cD c),some (cD d),some (.ref p),some (.int e.1),some (.int e.2)]/\HS G p (ws.map cD) G''/\ws++stp e d=stp c d/\(stp e d).length=m',bk:=nA K A (fun _=>uN EX) { nx:=fun _ G'=>bH R .non G',rt:=bH R } } [some (cD c),some (cD d),some (.ref p),some (.int f.1),some (.int f.2)] G':=fun f hf=>by
      exists iG;refine ⟨by rw [jB,aH s.1];rfl,?_⟩;rw [gQ s.1 (by rw [dg];omega)];have st:=a09 q;rw [← hf] at st;refine ⟨(stp f d).length,by rw [← hm,st];simp,f,ws++[f],rfl,by rw [iu];exact s.snd,by rw [← hs,st];simp,rfl⟩
    exists tQ;by_cases b:e.1=d.1
    . rw [if_pos (by simp [b])];walk_at "wr";have:e.2+(if decide (d.2 > e.2) then 1 else 0) - (if decide (d.2 < e.2) then 1 else 0)=e.2+sgn e.2 d.2:=by rw [← an5];omega
      rw [this];exact fin (e.1,e.2+sgn e.2 d.2) (by unfold nxt;rw [if_pos b])
    . rw [if_neg (by simp [b])];walk_at "wr";have:e.1+(if decide (d.1 > e.1) then 1 else 0) - (if decide (d.1 < e.1) then 1 else 0)=e.1+sgn e.1 d.1:=by rw [← an5];omega
      rw [this];exact fin (e.1+sgn e.1 d.1,e.2) (by unfold nxt;rw [if_neg b])
theorem ahC (hb:aU G b=some (qs.map cD)) (n:qs≠[]) (qn:qs.length<=1000) (ql:(cU qs).length < 9000) (h:∀ p G',Le G G'->G p=none->G' p=some (.lst ((cU qs).map cD))->R (.ref p) G'):iH K A [.ref b] G R EX:=by
  have big:10000 < sizeLine:=by decide
  have n0:0 < qs.length:=vd.mpr n;refine ⟨rfl,?_⟩;have h':∀ p G',Le G G'->G p=none->G' p=some (.lst ((cU qs).map cD))->bH R (.ref p) G':=fun p G' a b e=>bH.here (h p G' a b e);clear h;show vJ K A _ _ [some (.ref b),none,none] G;exists vJ;refine xY (k:=0) hb (aq n0) ?_;walk_at "wr";intro p hp;have pb:∀ {G':Gp} {xs:List D},HS G p xs G'->aU G' b=some (qs.map cD):=fun {G' xs} s=>bG (s.leG hp) hb;exists xU,dJ (bG (Le.new hp) hb);refine uQ (fun k ρ G'=>∃ r2,ρ=[some (.ref b),some (.ref p),r2]/\HS G p ((cU (qs.take (k+1))).map cD) G') ⟨_,rfl,?_⟩ (fun k ρ G' hk h=>?_) fun ρ G' h=>?_
  . cases qs with
    | nil=>exact absurd rfl n
    | cons q r=>exact .mk0
  . obtain ⟨_,rfl,s⟩:=h;have k1:k+1 < qs.length:=by omega
    have kl:=amU (qs:=qs) (k:=k+1+1);have e2:qs.take (k+1+1)=qs.take (k+1)++[qs[k+1]]:=take_snoc (aq k1)
    have e3:cU (qs.take (k+1+1))=cU (qs.take (k+1))++stp qs[k] qs[k+1]:=by
      rw [e2];exact gC (by rw [mz,show min (k+1) qs.length - 1=k by omega,List.getElem?_take_of_lt (by omega)];exact aq (by omega))
    rw [e3,gk] at kl;exists vI;rw [jB,aH s.1];refine ⟨rfl,?_⟩;walk_at "wr";refine xY (pb s) (aq (by omega)) ?_;walk_at "wr";rw [show (k:Int)+1=((k+1:Nat):Int) by omega];refine xY (pb s) (aq k1) ?_;walk_at "wr";refine an6 (by omega) fun p2 G2 l2 hp2 hg2=>?_;have s2:=s.more l2;walk_at "wr";rw [am9 s2.1 hg2 (by rw [dg,dg];omega)];walk_at "wr";exact ⟨_,rfl,by rw [e3,iu];exact s2.snd⟩
  . obtain ⟨_,rfl,s⟩:=h;rw [show ((qs.length:Int) - 1).toNat+1=qs.length by omega,tu] at s;exists xT;exact h' p G' (s.leG hp) hp s.1
theorem arZ {ps:List (Int×Int)} {last:Nat} (hb:aU G b=some (ps.map cD)) (n:ps≠[]) (pl:ps.length < 9000) (h:∀ p G',Le G G'->G p=none->G' p=some (.lst ((scan last [] ps++[0]).map D.int))->R (.ref p) G'):lJ K A [.ref b,.int last] G R EX:=by
  have big:10000 < sizeLine:=by decide
  have n0:0 < ps.length:=vd.mpr n;refine ⟨rfl,?_⟩;have h':∀ p G',Le G G'->G p=none->G' p=some (.lst ((scan last [] ps++[0]).map D.int))->bH R (.ref p) G':=fun p G' a b e=>bH.here (h p G' a b e);clear h;show vO K A _ _ [some (.ref b),some (.int last),none,none] G;exists vO;intro p hp;have pb:∀ {G':Gp} {xs:List D},HS G p xs G'->aU G' b=some (ps.map cD):=fun {G' xs} s=>bG (s.leG hp) hb;exists xW,dJ (bG (Le.new (o := .lst []) hp) hb);refine uQ (fun k ρ G'=>∃ r3 f,ρ=[some (.ref b),some (.int last),some (.ref p),r3]/\HS G p (f.map D.int) G'/\scan last f (ps.drop k)=scan last [] ps/\f.length<=k) ⟨_,[],rfl,.mk0,rfl,au _⟩ (fun k ρ G' hk h=>?_) fun ρ G' h=>?_
  . obtain ⟨_,f,rfl,s,hs,fl⟩:=h;have k1:k+1 < ps.length:=by omega
    have e1:ps.drop k=ps[k] :: ps[k+1] :: ps.drop (k+2):=by rw [jt (by omega),jt k1]
    have e2:ps.drop (k+1)=ps[k+1] :: ps.drop (k+2):=jt k1;rw [e1,scan,← e2] at hs;have l2:aU G' p=some (f.map D.int):=aH s.1;have keep:(if ps[k].1=(f.length:Int)/\ps[k+1].1=(f.length:Int)+1/\f.length < last then f++[ps[k].2] else f)=f->∃ r3 f,([some (.ref b),some (.int last),some (.ref p),some (.int (k:Int))]:aK)=[some (.ref b),some (.int last),some (.ref p),r3]/\HS G p (f.map D.int) G'/\scan last f (ps.drop (k+1))=scan last [] ps/\f.length<=k+1:=fun e=>⟨_,f,rfl,s,by rw [e] at hs;exact hs,by omega⟩;exists vN;refine xY (pb s) (aq (by omega)) ?_;walk_at "wr";rw [dJ l2,dg];walk_at "wr";refine gP (fun c1=>?_) fun c1=>?_
    . rw [show (k:Int)+1=((k+1:Nat):Int) by omega];refine xY (pb s) (aq k1) ?_;walk_at "wr";rw [dJ l2,dg];walk_at "wr";refine gP (fun c2=>?_) fun c2=>?_;rw [dJ l2,dg];walk_at "wr";refine gP (fun c3=>?_) fun c3=>?_
      . rw [if_pos ⟨by simpa using c1,by simpa using c2,by simpa using c3⟩] at hs;rw [jB,l2];refine ⟨rfl,?_⟩;walk_at "wr";refine xY (pb s) (aq (by omega)) ?_;walk_at "wr";rw [gQ s.1 (by rw [dg];omega)];exact ⟨_,f++[ps[k].2],rfl,by rw [iu];exact s.snd,hs,by simp;omega⟩
      . exact keep (if_neg fun z=>by simp [z.2.2] at c3)
      . exact keep (if_neg fun z=>by simp [z.2.1] at c2)
    . exact keep (if_neg fun z=>by simp [z.1] at c1)
  . obtain ⟨_,f,rfl,s,hs,fl⟩:=h;have ek:((ps.length:Int) - 1).toNat=ps.length - 1:=by omega
    rw [ek] at hs fl;rw [jt (by omega),wz (by omega)] at hs;have ef:f=scan last [] ps:=hs;exists xV;intro q hq;rw [agL (bR s.1 hq) aG (by rw [dg];simp;omega)];intro r hr;have hr0:G r=none:=(s.leG hp).free ((Le.new hq).free hr);refine h' r _ ((s.leG hp).trans ((Le.new hq).trans (.new hr))) hr0 ?_;rw [aG,ef,iu];rfl
def duF (bs:List (Int×Int)) (es:List Int):Nat->List (Int×Int)
  | 0=>[(0,0)]
  | k+1=>du2 k (rA bs k) (aQ 0 (es.take k)) (es.getD k 0) (du1 k (aQ 0 (es.take k)) (duF bs es k))
theorem ahD {k:Nat}:(du1 k e qs).length<=qs.length+1:=by
  unfold du1;split <;> simp
theorem as3 {k:Nat} {g:Int}:(du2 k ps e g qs).length<=qs.length+2:=by
  unfold du2;split
  . split <;> simp
  . simp
theorem a3D {bs:List (Int×Int)} {es:List Int}:∀ {k:Nat},(duF bs es k).length<=1+3 * k
  | 0=>by simp [duF]
  | k+1=>by
    have:=a3D (bs:=bs) (es:=es) (k:=k);have:=ahD (k:=k) (e:=aQ 0 (es.take k)) (qs:=duF bs es k);have:=as3 (k:=k) (ps:=rA bs k) (e:=aQ 0 (es.take k)) (g:=es.getD k 0) (qs:=du1 k (aQ 0 (es.take k)) (duF bs es k));rw [duF];omega
theorem ad5 {bs:List (Int×Int)} {es:List Int} (h:es.length=(tW bs).length):∀ {k:Nat},k<=(tW bs).length->DuP (tW bs) es k (duF bs es k)
  | 0,_ => .start
  | k+1,hk=>by
    have hp:(tW bs)[k]?=some (rA bs k):=aa0 (by rw [wR] at hk;omega);have he:=aq (show k < es.length by omega);rw [duF,rm,he];exact (ad5 h (by omega)).next hp he
theorem aCX {k:Nat} {gl:Int} (fs:G s=none) (hs:G1 s=some (.lst (qs.map cD))) (l:Le G G1) (he:aU G ea=some (es.map D.int)) (hg:es[k]?=some gl) (hp:aU G1 p=some (ps.map D.int)) (ql:qs.length < 9000)
    (h:∀ s' G',G s'=none->G' s'=some (.lst ((du2 k ps e gl qs).map cD))->Le G G'->F.nx [some (.ref b),some (.ref ea),r2,some (.ref s'),some (.int gl),some (.int k),some (.ref p)] G') :
    fV K A ex F [some (.ref b),some (.ref ea),r2,some (.ref s),some (.int e),some (.int k),some (.ref p)] G1:=by
  have big:10000 < sizeLine:=by decide
  have ix:∀ {R:fY} {G2:Gp},Le G G2->R (.int gl) G2->bL (.ref ea) (.int (k:Int)) G2 R:=fun {R G2} l2 z=>by
    rw [yI (bG l2 he) (d := .int gl) (by rw [uP,ju,hg];rfl)];exact z
  have lu:∀ {G2:Gp} {o:GO},Le G G2->Le G (aM G2 s o):=fun {G2 o} l2 a u z=>by rw [bB (yJ z fs)];exact l2 a u z
  unfold du2 at h;exists fV;refine ix l ?_;walk_at "wr";refine ahZ (fun c=>?_) fun c=>?_
  . rw [if_neg (by simpa using c)] at h;refine ix l ?_;exists nC;rw [jB,aH hs];refine ⟨rfl,?_⟩;walk_at "wr";rw [gQ hs (by rw [dg];omega)];rw [iu] at h;exact h s _ fs aG (lu l)
  . have c:gl=e:=by simpa using c
    subst c;rw [if_pos rfl] at h;intro q hq;have hp2:=bG (Le.new (o := .lst []) hq) hp;rw [gB hp2 bQ (by rw [gj];rintro d hd;obtain ⟨i,_,rfl⟩:=dw.mp hd;rfl) rfl];by_cases n:ps=[]
    . subst n;rw [if_pos rfl] at h;simp only [uq,eX];walk_at "wr";intro q2 hq2;rw [gB (bG (.new hq2) hp2) bQ rfl rfl];simp only [uq,eX];walk_at "wr";exact h s _ fs (bR (bR hs hq) hq2) (l.trans ((Le.new hq).trans (.new hq2)))
    . rw [if_neg n] at h
      have ee:eX (ps.map D.int) []=false:=by cases ps with
        | nil=>exact absurd rfl n
        | cons a r=>rfl
      rw [ee];walk_at "wr";refine gP (fun c0=>?_) fun c0=>?_
      . have c0:gl=0:=by simpa using c0
        refine amV hp2 n fun M h1 h2=>?_;walk_at "wr";intro q2 hq2;rw [agL (bR (bR hs hq) hq2) aG (by rw [dg];simp;omega)];intro r hr;have eM:M=dH ps gl:=by unfold dH;rw [if_pos c0,a9U h1 h2]
        have l3:Le G (aM (aM G1 q (.lst [])) q2 (.lst [.tup [.int (k:Int),.int M],.tup [.int (k:Int),.int gl]])):=l.trans ((Le.new hq).trans (.new hq2));refine h r _ (l3.free hr) ?_ (l3.trans (.new hr));rw [aG,iu,← eM];rfl
      . have c0:¬ gl=0:=by simpa using c0
        intro q2 hq2;have hp3:=bG (Le.new (o := .lst []) hq2) hp2;rw [gB hp3 bQ (by rw [gj];rintro d hd;obtain ⟨i,_,rfl⟩:=dw.mp hd;rfl) rfl,ee];walk_at "wr";refine au2 hp3 n fun M h1 h2=>?_;walk_at "wr";intro q3 hq3;rw [agL (bR (bR (bR hs hq) hq2) hq3) aG (by rw [dg];simp;omega)];intro r hr;have eM:M=dH ps gl:=by unfold dH;rw [if_neg c0,amO h1 h2]
        have l3:Le G (aM (aM (aM G1 q (.lst [])) q2 (.lst [])) q3 (.lst [.tup [.int (k:Int),.int M],.tup [.int (k:Int),.int gl]])):=l.trans ((Le.new hq).trans ((Le.new hq2).trans (.new hq3)));refine h r _ (l3.free hr) ?_ (l3.trans (.new hr));rw [aG,iu,← eM];rfl
theorem ayH {bs:List (Int×Int)} {wh:D} (hb:aU G b=some (bs.map cD)) (bl:bs.length < 1000) (he:aU G ea=some (es.map D.int)) (el:es.length < 100)
    (h:∀ p G',Le G G'->G' p=some (.lst ((duF bs es es.length++[(0,0)]).map cD))->R (.ref p) G'):oV K A [.ref b,.ref ea,wh] G R EX:=by
  have big:10000 < sizeLine:=by decide
  refine ⟨rfl,?_⟩;have h':∀ p G',Le G G'->G' p=some (.lst ((duF bs es es.length++[(0,0)]).map cD))->bH R (.ref p) G':=fun p G' a e=>bH.here (h p G' a e);clear h;show yS K A _ _ [some (.ref b),some (.ref ea),some wh,none,none,none,none] G;exists yS;intro s hs;exists a04,a03,dJ (bG (Le.new (o := .lst [.tup [.int 0,.int 0]]) hs) he);refine uQ (fun k ρ G'=>∃ r5 r6 s,ρ=[some (.ref b),some (.ref ea),some wh,some (.ref s),some (.int (aQ 0 (es.take k))),r5,r6]/\G s=none/\G' s=some (.lst ((duF bs es k).map cD))/\Le G G') ⟨_,_,s,rfl,hs,aG,.new hs⟩ (fun k ρ G' hk h=>?_) fun ρ G' h=>?_
  . obtain ⟨_,_,s,rfl,fs,hs,l⟩:=h;have kl:k < es.length:=by omega
    have hg:=aq kl;have dl:=a3D (bs:=bs) (es:=es) (k:=k);exists xX;rw [pZ (bG l hb)];refine a9Z (fun u _=>u == (k:Int)) (fun _ v=>v) (bG l hb) bl (fun u v G2 l2 Q h=>?_) (fun u v G2 l2 Q h=>h G2 (.refl _)) fun p hp=>?_
    . walk_at "wr";exact h G2 (.refl _)
    . have ef:((bs.filter fun q=>q.1 == (k:Int)).map fun q=>q.2)=rA bs k:=by
        unfold rA;congr 1
      rw [ef];have sp:s≠p:=yJ hs hp;have l1:Le G (aM G' p (.lst ((rA bs k).map D.int))):=l.trans (.new hp);have hs1:=bR (o := .lst ((rA bs k).map D.int)) hs hp;have el2:aQ 0 (es.take (k+1))=es[k]:=by rw [take_snoc hg];exact eN
      have en:duF bs es (k+1)=du2 k (rA bs k) (aQ 0 (es.take k)) es[k] (du1 k (aQ 0 (es.take k)) (duF bs es k)):=by rw [duF,rm,hg];rfl
      have d1:=ahD (k:=k) (e:=aQ 0 (es.take k)) (qs:=duF bs es k)
      have fin:∀ G2,G2 s=some (.lst ((du1 k (aQ 0 (es.take k)) (duF bs es k)).map cD))->Le G G2->aU G2 p=some ((rA bs k).map D.int)->fV K A (fun _=>uN EX) { nx:=fun ρ G'=>∃ r5 r6 s,ρ=[some (.ref b),some (.ref ea),some wh,some (.ref s),some (.int (aQ 0 (es.take (k+1)))),r5,r6]/\G s=none/\G' s=some (.lst ((duF bs es (k+1)).map cD))/\Le G G',rt:=bH R,ct:=fun ρ G'=>∃ r5 r6 s,ρ=[some (.ref b),some (.ref ea),some wh,some (.ref s),some (.int (aQ 0 (es.take (k+1)))),r5,r6]/\G s=none/\G' s=some (.lst ((duF bs es (k+1)).map cD))/\Le G G',bk:=sE K A (fun _=>uN EX) { nx:=fun _ G'=>bH R .non G',rt:=bH R } } [some (.ref b),some (.ref ea),some wh,some (.ref s),some (.int (aQ 0 (es.take k))),some (.int k),some (.ref p)] G2:=fun G2 h2 l2 hp2=>by
        refine aCX fs h2 l2 he hg hp2 (by omega) fun s' G3 f3 h3 l3=>?_;exact ⟨_,_,s',by rw [el2],f3,by rw [en];exact h3,l3⟩
      exists tV;refine gP (fun c=>?_) fun c=>?_
      . have c:0 < k:=by simpa using c
        rw [jB,aH hs1];refine ⟨rfl,?_⟩;walk_at "wr";rw [gQ hs1 (by rw [dg];omega)];refine fin _ ?_ (fun a u z=>by rw [bB (yJ z fs)];exact l1 a u z) (aH (by rw [bB (Ne.symm sp)];exact aG));rw [aG];unfold du1;rw [if_neg (by omega),iu];rfl
      . have c:k=0:=by simpa using c
        refine fin _ ?_ l1 bQ;unfold du1;rw [if_pos c];exact hs1
  . obtain ⟨_,_,s,rfl,fs,hs,l⟩:=h;have dl:=a3D (bs:=bs) (es:=es) (k:=es.length);rw [show ((es.length:Int)).toNat=es.length by omega] at hs;exists sE;intro q hq;rw [agL (bR hs hq) aG (by rw [dg];simp;omega)];intro r hr;refine h' r _ (l.trans ((Le.new hq).trans (.new hr))) ?_;rw [aG,iu];rfl
theorem ad6 (o:OkP x y g) (hb:G b=some (.lst (qs.map cD))) (w:Walk x y qs) (nd:Nd qs) (la:qs[qs.length - 1]?=some (0,0)) (ql:qs.length<=1000) (h:∀ G',Le G G'->R (.bl true) G'):fJ K A [.ref b,nY x y g] G R EX:=by
  have big:10000 < sizeLine:=by decide
  have n0:0 < qs.length:=(bh.mp nd.hd).1;have n:qs≠[]:=vd.mp n0;have ls:=aH hb;refine ⟨rfl,?_⟩;have h':∀ G',Le G G'->bH R (.bl true) G':=fun G' l=>bH.here (h G' l);clear h;show rZ K A _ _ [some (.ref b),some (nY x y g),none,none,none,none] G;exists rZ,a6M hb;intro q hq;have l1:Le G (aM G q (.lst [])) := .new hq;rw [mH (bG l1 ls) bQ (eG qs (by omega)) rfl]
  have ee:eX (qs.map cD) []=false:=by cases qs with
    | nil=>exact absurd rfl n
    | cons a r=>rfl
  rw [ee];exists vM;rw [qC (bG l1 ls)];refine uR (fun k ρ G'=>∃ r2,ρ=[some (.ref b),some (nY x y g),r2,none,none,none]/\Le G G') ⟨_,rfl,l1⟩ (fun k ρ G' h=>?_) (fun k d ρ G' hd h=>?_) fun ρ G' h=>?_
  . obtain ⟨_,_,l⟩:=h;exact bG l ls
  . obtain ⟨_,rfl,l⟩:=h;obtain ⟨⟨i,j⟩,hq,rfl⟩:=ahA hd;have ⟨i1,i2,i3,i4⟩:=w.inn _ (iz hq);simp only at i1 i2 i3 i4;unfold cD;exists tR;refine agZ ?_;walk_at "wr";refine agZ ?_;unfold nY;exists oO;rw [if_neg (by simp;omega)];walk_at "wr";rw [if_neg (by simp;omega)];walk_at "wr";rw [if_neg (by simp;omega)];walk_at "wr";rw [if_neg (by simp;omega)];exact ⟨_,rfl,l⟩
  . obtain ⟨_,rfl,l⟩:=h;exists vL,dJ (bG l ls);refine uQ (fun k ρ G'=>∃ r2 r3 r4 r5,ρ=[some (.ref b),some (nY x y g),r2,r3,r4,r5]/\Le G G') ⟨_,_,_,_,rfl,l⟩ (fun k ρ G' hk h=>?_) fun ρ G' h=>?_
    . obtain ⟨_,_,_,_,rfl,l⟩:=h;have k1:k+1 < qs.length:=by omega
      have a1:qs[k]?=some qs[k]:=aq (by omega);have a2:qs[k+1]?=some qs[k+1]:=aq k1;have ne:=nd.nd k _ _ a1 a2;have wk:=w.step k _ _ a1 a2;generalize qs[k]=q1 at *;generalize qs[k+1]=q2 at *;exists tU;refine xY (bG l ls) a1 ?_;exists oU;rw [show (k:Int)+1=((k+1:Nat):Int) by omega];refine xY (bG l ls) a2 ?_;exists oR;refine ⟨rfl,rfl,?_⟩;rw [an4,decide_eq_false ne];walk_at "wr";unfold nY;unfold Wk at wk;by_cases c:q1.1=q2.1
      . rw [if_neg (by simp [c])];exact ⟨_,_,_,_,rfl,l⟩
      . rcases wk with wk | ⟨w1,w2⟩
        . exact absurd wk c
        . rw [if_pos (by simp [c])];walk_at "wr";rw [if_neg (by simp [w1])];walk_at "wr";rcases w2 with w2 | w2
          . rw [if_neg (by simp [w2])];exact ⟨_,_,_,_,rfl,l⟩
          . rw [if_pos (by simp;omega)];walk_at "wr";rw [if_neg (by simp;omega)];exact ⟨_,_,_,_,rfl,l⟩
    . obtain ⟨_,_,_,_,rfl,l⟩:=h;exists vK;refine xY (k:=0) (bG l ls) nd.hd ?_;walk_at "wr";refine ⟨rfl,rfl,?_⟩;rw [show eqP (.tup [.int (0,0).1,.int (0,0).2]) (.tup [.int 0,.int 0])=true from rfl];exists dJ (bG l ls);rw [show (qs.length:Int) - 1=((qs.length - 1:Nat):Int) by omega];refine xY (bG l ls) la ?_;walk_at "wr";refine ⟨rfl,rfl,?_⟩;exact h' G' l
theorem an7:∀ (M:List (Int×Int)),L2.a0W (M.map fun q => .tup [.tup [.int q.1,.int q.2],.bl true])=some (M.map fun q=>([Sum.inl q.1,Sum.inl q.2],.bl true))
  | []=>rfl
  | q :: r=>by
    rw [jd,L2.a0W,an7 r];rfl
theorem aiZ {M:List (Int×Int)} (h:aU G p=some (M.map fun q => .tup [.tup [.int q.1,.int q.2],.bl true])) (k:∀ r ks,G r=none->(∀ i j:Int,[i,j]∈ks↔(i,j)∈M)->R (.ref r) (aM G r (.kst ks))):wG [.ref p] G R:=by
  unfold L2.wG;simp only [h,an7];refine ⟨M.map fun q=>[q.1,q.2],by rw [lg,lg];rfl,fun r ks hr hk=>k r ks hr fun i j=>?_⟩;rw [hk,dw];constructor
  . rintro ⟨⟨a,b⟩,hm,e⟩;simp at e;rw [← e.1,← e.2];exact hm
  . intro hm;exact ⟨(i,j),hm,rfl⟩
theorem an8 {ks:List (List Int)} (h:G p=some (.kst ks)) (z:R (.bl (!decide ([i,j]∈ks))) G):a0U (.tup [.int i,.int j]) (.ref p) G R:=by
  unfold L2.a0U;simp only [h];exact ⟨[i,j],rfl,z⟩
theorem an9:wkF y []=[(0,0)]:=by
  show bU [(0,0)] (0,0)=_;simp [bU]
theorem anA {bs:List (Int×Int)} (n:bs≠[]) (hB:∀ q∈bs,InB x y q):∃ (m:Nat) (ps:List Int) (r:List (List Int)),fP bs=(m:Int)/\tW bs=ps :: r/\r.length=m:=by
  obtain ⟨q,t,rfl⟩:∃ q t,bs=q :: t:=by cases bs with
    | nil=>exact absurd rfl n
    | cons q t=>exact ⟨q,t,rfl⟩
  have h1:=a5Q (uf (a:=q) (l:=t));have h2:=(hB q (by simp)).1;have hl:=wR (bs:=q :: t);cases e:tW (q :: t) with
  | nil=>rw [e] at hl;simp at hl;omega
  | cons ps r =>
    rw [e,jl] at hl;exact ⟨r.length,ps,r,by omega,rfl,rfl⟩
theorem anB {bs:List (Int×Int)} (h:(i,j)∈bs):j∈rA bs i:=dw.mpr ⟨(i,j),vf.mpr ⟨h,by simp⟩,rfl⟩
theorem as4 {b2 kp:Addr} {bs:List (Int×Int)} {r0 r8 r10 r11:Option D} (o:OkP x y g) (hB:∀ q∈bs,InB x y q) (bl:bs.length < 900) (hb2:G b2=some (.lst (bs.map cD))) (hs:G s=some (.lst (qs.map cD))) (ql:qs.length<=1000) (hk:aU G kp=some ((wkF y bs).map cD)) (sb:b2≠s) (sk:kp≠s) (h:∀ G',F.rt (.bl true) G') :
    a5J K A ex F [r0,some (nY x y g),some (.ref b),some (.ref b2),some (.ref s),r5,r6,r7,r8,some (.ref kp),r10,r11] G:=by
  have big:10000 < sizeLine:=by decide
  exists a5J;rw [jB,aH hs];refine ⟨rfl,?_⟩;walk_at "wr";rw [gQ hs (by rw [dg];omega)];generalize e1:aM G s (.lst (qs.map cD++[.tup [.int 0,.int 1]]))=G1;have hb3:G1 b2=some (.lst (bs.map cD)):=by rw [← e1,bB sb];exact hb2
  have hk3:aU G1 kp=some ((wkF y bs).map cD):=by rw [← e1];unfold L2.aU;rw [bB sk];exact hk
  exists acK;rw [aCN (aH hb3)];intro b4 hb4;walk_at "wr";have lr:aU (aM G1 b4 (.lst (bs.map cD).reverse)) b4=some (bs.reverse.map cD):=by rw [List.map_reverse];exact bQ
  refine w_walk o lr (fun q hq=>hB q (List.mem_reverse.mp hq)) (by rw [List.length_reverse];omega) fun s2 G2 l2 _ hs2 wo2=>?_;have l12:Le G1 G2:=(Le.new hb4).trans l2;exists acJ;refine ad6 o hs2 wo2.w wo2.nd wo2.last wo2.len fun G3 l3=>?_;have l13:Le G1 G3:=l12.trans l3;walk_at "wr";refine w_walk o (aH (l13 _ _ hb3)) hB (by omega) fun s3 G4 l4 _ hs4 wo4=>?_;walk_at "wr";rw [mH (aH hs4) (bG (l13.trans l4) hk3) (eG _ (by omega)) (eG _ (by omega)),a5M];exact h _
theorem aCY (hG:G a=some (.rol (ns.map D.int))) (h:∀ G',R (.bl true) G'):a9Q K A [.ref a] G R EX:=by
  have big:10000 < sizeLine:=by decide
  refine ⟨rfl,?_⟩;have h':∀ G',bH R (.bl true) G':=fun G'=>bH.here (h G');show amM K A _ _ [some (.ref a),none,none,none,none,none,none,none,none,none,none,none] G;exists amM;refine arK hG fun x y g o=>?_;have ⟨x0,x1,y0,y1,g0,g1⟩:=o;exists agV;refine arY hG o fun b bs G0 l0 hb hB bl=>?_;exists agU,ac3 (aH hb);intro b2 hb2;exists agT;refine w_walk o bQ hB (by omega) fun s G1 l1 fs hs wo=>?_;have hb1:G1 b=some (.lst (bs.map cD)):=l1 _ _ (bR hb hb2);have hh1:G1 b2=some (.lst (bs.map cD)):=l1 _ _ aG;exists agS;rw [gB (aH hh1) (aH hb1) (eG _ (by omega)) (eG _ (by omega)),a5M];walk_at "wr";refine ad6 o hs wo.w wo.nd wo.last wo.len fun G2 l2=>?_;exists agR;intro q hq;have l12:Le G1 (aM G2 q (.lst [])):=l2.trans (.new hq);rw [mH (aH (l12 _ _ hb1)) bQ (eG _ (by omega)) rfl];generalize aM G2 q (.lst [])=G3 at l12;by_cases c:bs=[]
  . subst c;rw [an9] at hs;simp only [uq,eX];walk_at "wr";intro q2 hq2;have l3:Le G1 (aM G3 q2 (.lst [.tup [.int 0,.int 0]])):=l12.trans (.new hq2);rw [mH (aH (l3 _ _ hs)) bQ (by rfl) (by rfl)];rw [show eX ([(0,0)].map cD) [.tup [.int 0,.int 0]]=true from by rfl];exists a5I;rw [jB,aH (l3 _ _ hs)];refine ⟨rfl,?_⟩;walk_at "wr";rw [gQ (l3 _ _ hs) (by show 1 < sizeLine;omega)];exists a5H;intro q3 hq3;walk_at "wr";refine w_walk (bs:=[]) o bQ (fun q hq=>by cases hq) (by simp) fun s3 G4 l4 _ hs4 wo4=>?_;walk_at "wr";intro q4 hq4;rw [mH (aH (bR hs4 hq4)) bQ (eG _ (by omega)) (by rfl),an9];exact h' _
  . have ee:eX (bs.map cD) []=false:=by cases bs with
      | nil=>exact absurd rfl c
      | cons q r=>rfl
    rw [ee];obtain ⟨m,ps,rr,em,ep,er⟩:=anA c hB;have la:=ad2 x0 hB;have pl:(tW bs).length<=x:=by rw [wR];omega
    have okA:=af3 hB;have el:(wkE y bs).length=rr.length+1:=by rw [wo.ens.len,ep];rfl
    have elp:(wkE y bs).length=(tW bs).length:=wo.ens.len;have tl:(tot (tW bs) (wkE y bs)).length<=6000:=arR pl (by omega) (by omega) okA wo.ens.inn;have wn:wkF y bs≠[]:=fun e=>by have:=wo.nd.hd;rw [e] at this;cases this
    have sn:scan m [] (tot (tW bs) (wkE y bs))++[0]=wkE y bs:=by
      have:=amS (ps:=ps) el wo.l0;rw [er,← ep] at this;exact this
    exists agQ;refine ahC (aH (l12 _ _ hs)) wn wo.len (by rw [wo.path];omega) fun p G4 l4 fp hp=>?_;rw [wo.path] at hp;have l14:Le G1 G4:=l12.trans l4;exists agP;rw [pZ (aH (l14 _ _ hb1))];refine a9Z (fun _ _=>true) (fun u _=>u) (aH (l14 _ _ hb1)) (by omega) (fun u v G' l Q h=>h G' (.refl _)) (fun u v G' l Q h=>h G' (.refl _)) fun p2 hp2=>?_;have ef:(bs.filter fun _=>true)=bs:=yq.mpr fun _ _=>rfl;rw [ef];walk_at "wr";refine amV bQ (by simpa using c) fun M h1 h2=>?_
    have eM:M=(m:Int):=by
      rw [← em];unfold fP;rw [if_neg c];exact a9U h1 h2
    subst eM;have l15:Le G1 (aM G4 p2 (.lst ((bs.map fun q=>q.1).map D.int))):=l14.trans (.new hp2);have hp5:(aM G4 p2 (.lst ((bs.map fun q=>q.1).map D.int))) p=some (.lst ((tot (tW bs) (wkE y bs)).map cD)):=bR hp hp2;generalize aM G4 p2 (.lst ((bs.map fun q=>q.1).map D.int))=G5 at l15 hp5;exists agO;refine arZ (last:=m) (aH hp5) (by unfold tot;simp) (by omega) fun e G6 l6 fe he=>?_;rw [sn] at he;have l16:Le G1 G6:=l15.trans l6;exists acP,dJ (aH he);rw [el,er,if_neg (by simp)];walk_at "wr";rw [pZ (aH he)];refine a9H (fun _=>false) (fun d=>d) (by show ((wkE y bs).map D.int).length < _;rw [dg,el];omega) (aH he) (fun d hd G' l Q z=>?_) (fun d hd cc=>by cases cc) fun p3 hp3=>?_
    . obtain ⟨ev,hev,rfl⟩:=dw.mp hd;have:=wo.ens.inn ev hev;unfold nY;walk_at "wr";by_cases c0:ev=0
      . rw [if_neg (by simp [c0])];exact z _ (.refl _)
      . rw [if_pos (by simp [c0])];walk_at "wr";rw [show (ev == (y:Int)+1)=true from by simp;omega];exact z _ (.refl _)
    . rw [show ((Src.lst e ((wkE y bs).map D.int)).items.filter fun _=>false).map (fun d=>d)=[] by simp];walk_at "wr";intro p4 hp4;rw [gB (bG (.new hp4) bQ) bQ rfl rfl];simp only [eX];have l17:Le G6 (aM (aM G6 p3 (.lst [])) p4 (.lst [])):=(Le.new hp3).trans (.new hp4);generalize aM (aM G6 p3 (.lst [])) p4 (.lst [])=G7 at l17;have l18:Le G1 G7:=l16.trans l17;unfold nY;exists acO;refine ayH (aH (l18 _ _ hb1)) (by omega) (aH (l17 _ _ he)) (by omega) fun d G8 l8 hd=>?_;walk_at "wr"
      have dp:cU (duF bs (wkE y bs) (wkE y bs).length++[(0,0)])=tot (tW bs) (wkE y bs):=by
        rw [elp];exact (ad5 elp (au _)).home elp wo.l0
      have dl:=a3D (bs:=bs) (es:=wkE y bs) (k:=(wkE y bs).length);refine ahC (aH hd) (by simp) (by simp;omega) (by rw [dp];omega) fun dpa G9 l9 _ hdp=>?_;rw [dp] at hdp;have l69:Le G6 G9:=l17.trans (l8.trans l9);have hp9:G9 p=some (.lst ((tot (tW bs) (wkE y bs)).map cD)):=l69 _ _ (l6 _ _ hp5);walk_at "wr";rw [gB (aH hp9) (aH hdp) (eG _ (by omega)) (eG _ (by omega)),a5M];have l19:Le G1 G9:=l16.trans l69;exists acN,ac3 (aH (l19 _ _ hs));intro kp hkp;have sk:kp≠s:=fun z=>by subst z;rw [l19 _ _ hs] at hkp;cases hkp
      have lk:=Le.new (o := .lst ((wkF y bs).map cD)) hkp;exists acM;rw [pZ (aH (lk _ _ hp9))];refine comp_map (fun d=>D.tup [d,.bl true]) (by show ((tot (tW bs) (wkE y bs)).map cD).length < _;rw [dg];omega) (aH (lk _ _ hp9)) (fun d hd G' l Q z=>?_) fun cc hcc=>?_
      . walk_at "wr";exact z G' (.refl _)
      rw [show ((Src.lst p ((tot (tW bs) (wkE y bs)).map cD)).items.map fun d=>D.tup [d,.bl true])=(tot (tW bs) (wkE y bs)).map fun q=>D.tup [.tup [.int q.1,.int q.2],.bl true] by show (((tot (tW bs) (wkE y bs)).map cD).map _)=_;rw [lg];rfl];walk_at "wr";refine aiZ bQ fun kn ks hkn hks=>?_;have lc:=Le.new (o := .lst ((tot (tW bs) (wkE y bs)).map fun q=>D.tup [.tup [.int q.1,.int q.2],.bl true])) hcc;have ln:=Le.new (o := .kst ks) hkn;have l9n:=lk.trans (lc.trans ln);exists acL;rw [pZ (aH (l9n _ _ (l19 _ _ hb1)))];refine a9H (fun _=>false) (fun d=>d) (by show (bs.map cD).length < _;rw [dg];omega) (aH (l9n _ _ (l19 _ _ hb1))) (fun d hd G' l Q z=>?_) (fun d hd cc=>by cases cc) fun p5 hp5=>?_
      . obtain ⟨⟨i,j⟩,hij,rfl⟩:=dw.mp hd;have ⟨i0,i1,_⟩:=hB _ hij;simp only at i0 i1;obtain ⟨ii,rfl⟩:∃ ii:Nat,i=(ii:Int):=⟨i.toNat,by omega⟩;have il:=a5Q hij;simp only at il;have mem:((ii:Int),j)∈tot (tW bs) (wkE y bs):=arP elp okA wo.ens.inn (aa0 (by omega)) (anB hij);walk_at "wr";refine an8 (l _ _ aG) ?_;rw [decide_eq_true ((hks _ _).mpr mem)];exact z _ (.refl _)
      . rw [show ((Src.lst b (bs.map cD)).items.filter fun _=>false).map (fun d=>d)=[] by simp];walk_at "wr";intro p6 hp6;rw [gB (bG (.new hp6) bQ) bQ rfl rfl];simp only [eX];walk_at "wr";have l6n:=l9n.trans ((Le.new (o := .lst []) hp5).trans (Le.new (o := .lst []) hp6));refine as4 o hB (by omega) (l6n _ _ (l19 _ _ hh1)) (l6n _ _ (l19 _ _ hs)) wo.len (bG (lc.trans (ln.trans ((Le.new hp5).trans (.new hp6)))) bQ) ?_ sk h';intro z;subst z;rw [aG] at fs;cases fs
theorem main (T:Txt K mg A) (a:Addr) (ns:List Int) (hl:ns.length<=63) (G:Gp) (hG:G a=some (.rol (ns.map D.int))):a9Q K A [.ref a] G (fun d _=>d = .bl true) (fun _ _=>False):=aCY hG fun _=>rfl
end
end Law
namespace Law
open PySem PySem.Spec PyProof.Rows L2 L4
variable {st:Stmt}{f:Addr}
section
variable {P:Program} {w:World} {K:Fg} {mg:Str->Option Value} {base:Heap} {A:aZ}
local macro_rules | `(tactic| walk_at "sc")=>`(tactic| exact ⟨rfl,rfl,rfl,by decide +kernel,rfl,by decide +kernel,by decide +kernel⟩)
theorem dc {qt:Bool} {x qual:Str} {fd:FuncData} {ps:List Str} {k:Nat} {S:SI} {c:CB} {tb:aV->bD} (F:u6 K x qual st f fd) (hS:bC S.N ps (bK st)) (hc:S.calm=!qt) (hv:a7R S (bK st)=true) (hk:kB S 0 c (dI st)=true) (he:(fun EX=>mB S.gl K (fun _=>EX) c)=tb) (hg:∀ (j:Nat) (y:Str) (g:GT),S.gl[j]?=some (y,g)->GTs P w K mg base k y g):bW qt P w K mg base (lU P w) (k+1) f fd ps (cJ K (spD S.N.length ps.length tb)):=by
  rw [← he];exact alY F hS hc hv hk hg
theorem a1W (T:Txt K mg A):bW false P w K mg base (lU P w) 1 A.yK A.mJ ["thing", "least", "most"] (cJ K (cM K A)) :=
  dc (S:=aeO K A) (c:=aeN) T.j7 (show bC ["thing", "least", "most"] ["thing", "least", "most"] _ from by walk_at "sc") rfl (by kernel_rfl) (by kernel_rfl) (by kernel_rfl) (dG ⟨T.agX,adZ⟩ (dG ⟨T.eV,fB⟩ (dG ⟨T.aeY,ag0⟩ gln)))
theorem af6 (T:Txt K mg A):bW false P w K mg base (lU P w) 2 A.a0Y A.qD ["thing", "aisles", "first", "last"] (cJ K (rQ K A)) :=
  dc (S:=aiO K A) (c:=aiN) T.qR (show bC ["thing", "aisles", "first", "last"] ["thing", "aisles", "first", "last"] _ from by walk_at "sc") rfl (by kernel_rfl) (by kernel_rfl) (by kernel_rfl) (dG ⟨T.a2Z,a3V⟩ (dG ⟨T.eV,fB⟩ (dG ⟨T.vQ,pD⟩ (dG ⟨_,_,_,(a1W T).mono (by decide),T.nF,T.j7.kp,T.nD⟩ gln))))
theorem af7 (T:Txt K mg A):bW false P w K mg base (lU P w) 2 A.a0Z A.qF ["thing"] (cJ K (rR K A)) :=
  dc (S:=aiQ K A) (c:=aiP) T.qT (show bC ["thing"] ["thing"] _ from by walk_at "sc") rfl (by kernel_rfl) (by kernel_rfl) (by kernel_rfl) (dG ⟨T.a2Z,a3V⟩ (dG ⟨T.eV,fB⟩ (dG ⟨T.vQ,pD⟩ (dG (gcI T.dB) (dG ⟨_,_,_,(a1W T).mono (by decide),T.nF,T.j7.kp,T.nD⟩ (dG (gcI T.dD) (dG (gcI T.j9) gln)))))))
theorem a0B (T:Txt K mg A):bW false P w K mg base (lU P w) 3 A.uW A.jH ["plan"] (cJ K (cW K A)) :=
  dc (S:=ac7 K A) (c:=ac6) T.gK (show bC ["plan"] ["plan"] _ from by walk_at "sc") rfl (by kernel_rfl) (by kernel_rfl) (by kernel_rfl) (dG ⟨_,_,_,(af7 T).mono (by decide),T.wM,T.qT.kp,T.wL⟩ (dG ⟨T.acR,T.qU,T.lV,T.lW,T.lX⟩ gln))
theorem aj0 (T:Txt K mg A):bW false P w K mg base (lU P w) 4 A.a4X A.uX ["plan", "thing"] (cJ K (wI K A)) :=
  dc (S:=amL K A) (c:=amK) T.vP (show bC ["plan", "thing"] ["plan", "thing"] _ from by walk_at "sc") rfl (by kernel_rfl) (by kernel_rfl) (by kernel_rfl) (dG ⟨_,_,_,(a0B T).mono (by decide),T.jQ,T.gK.kp,T.jP⟩ (dG ⟨_,_,_,(af6 T).mono (by decide),T.wK,T.qR.kp,T.wJ⟩ gln))
theorem ad7 (T:Txt K mg A):bW false P w K mg base (lU P w) 5 A.yL A.mK ["plan", "thing"] (cJ K (oJ K A)) :=
  dc (S:=aeQ K A) (c:=aeP) T.nG (show bC ["plan", "thing"] ["plan", "thing"] _ from by walk_at "sc") rfl (by kernel_rfl) (by kernel_rfl) (by kernel_rfl) (dG ⟨_,_,_,(aj0 T).mono (by decide),T.a06,T.vP.kp,T.a05⟩ (dG ⟨T.agW,T.wN,T.qW,T.qX,T.qY⟩ gln))
theorem yU (T:Txt K mg A):bW false P w K mg base (lU P w) 1 A.gR A.cL ["bins"] (cJ K (cX K A)) :=
  dc (S:=zY K A) (c:=zX) T.cN (show bC ["bins", "last", "aisles", "aisle", "place"] ["bins"] _ from by walk_at "sc") rfl (by kernel_rfl) (by kernel_rfl) (by kernel_rfl) (dG ⟨T.acS,a8O⟩ (dG ⟨T.sU,pY⟩ gln))
theorem a1X (T:Txt K mg A):bW false P w K mg base (lU P w) 1 A.yM A.mL ["places", "end"] (cJ K (gJ K A)) :=
  dc (S:=aeS K A) (c:=aeR) T.j8 (show bC ["places", "end"] ["places", "end"] _ from by walk_at "sc") rfl (by kernel_rfl) (by kernel_rfl) (by kernel_rfl) (dG ⟨T.acS,a8O⟩ (dG ⟨T.agY,adY⟩ gln))
theorem a2I (T:Txt K mg A):bW false P w K mg base (lU P w) 2 A.mQ A.dR ["plan", "places", "end", "goal"] (cJ K (fQ K A)) :=
  dc (S:=a5C K A) (c:=a5B) T.dX (show bC ["plan", "places", "end", "goal"] ["plan", "places", "end", "goal"] _ from by walk_at "sc") rfl (by kernel_rfl) (by kernel_rfl) (by kernel_rfl) (dG ⟨T.vQ,pD⟩ (dG ⟨_,_,_,(a1X T).mono (by decide),T.nJ,T.j8.kp,T.nH⟩ (dG ⟨T.au0,aw5⟩ gln)))
theorem a5S (T:Txt K mg A):bW false P w K mg base (lU P w) 3 A.pF A.fD ["plan", "places", "ways"] (cJ K (iD K A)) :=
  dc (S:=a6O K A) (c:=a6N) T.fK (show bC ["plan", "places", "ways", "found", "end", "way", "goal", "one"] ["plan", "places", "ways"] _ from by walk_at "sc") rfl (by kernel_rfl) (by kernel_rfl) (by kernel_rfl) (dG ⟨_,_,_,(a2I T).mono (by decide),T.iJ,T.dX.kp,T.iI⟩ (dG ⟨T.agY,adY⟩ gln))
theorem a1D (T:Txt K mg A):bW false P w K mg base (lU P w) 4 A.jZ A.d8 ["plan", "aisles"] (cJ K (eU K A)) :=
  dc (S:=a2H K A) (c:=a2G) T.d9 (show bC ["plan", "aisles", "ways", "places"] ["plan", "aisles"] _ from by walk_at "sc") rfl (by kernel_rfl) (by kernel_rfl) (by kernel_rfl) (dG ⟨_,_,_,(a5S T).mono (by decide),T.jE,T.fK.kp,T.jD⟩ gln)
theorem a2J (T:Txt K mg A):bW false P w K mg base (lU P w) 2 A.mR A.dU ["aisle", "places", "end", "goal"] (cJ K (fU K A)) :=
  dc (S:=a5E K A) (c:=a5D) T.dY (show bC ["aisle", "places", "end", "goal"] ["aisle", "places", "end", "goal"] _ from by walk_at "sc") rfl (by kernel_rfl) (by kernel_rfl) (by kernel_rfl) (dG ⟨T.vQ,pD⟩ (dG ⟨_,_,_,(a1X T).mono (by decide),T.nJ,T.j8.kp,T.nH⟩ gln))
theorem anC (T:Txt K mg A):bW false P w K mg base (lU P w) 1 A.a9I A.zW ["spots", "spot"] (cJ K (vA K A)) :=
  dc (S:=arI K A) (c:=arH) T.a07 (show bC ["spots", "spot"] ["spots", "spot"] _ from by walk_at "sc") rfl (by kernel_rfl) (by kernel_rfl) (by kernel_rfl) gln
theorem ad8 (T:Txt K mg A):bW false P w K mg base (lU P w) 3 A.yN A.mU ["aisles", "ends"] (cJ K (oN K A)) :=
  dc (S:=aeU K A) (c:=aeT) T.nM (show bC ["aisles", "ends", "spots", "end", "aisle", "goal", "spot"] ["aisles", "ends"] _ from by walk_at "sc") rfl (by kernel_rfl) (by kernel_rfl) (by kernel_rfl) (dG (gcT T.a1A) (dG ⟨T.a1V,a9B⟩ (dG ⟨_,_,_,(a2J T).mono (by decide),T.iM,T.dY.kp,T.iK⟩ (dG ⟨_,_,_,(anC T).mono (by decide),T.a2Y,T.a07.kp,T.a2X⟩ gln))))
theorem as5 (T:Txt K mg A):bW false P w K mg base (lU P w) 6 A.aeM A.a4Y ["plan", "bins"] (cJ K (rT K A)) :=
  dc (S:=ayB K A) (c:=ayA) T.a5K (show bC ["plan", "bins", "spot", "aisles"] ["plan", "bins"] _ from by walk_at "sc") rfl (by kernel_rfl) (by kernel_rfl) (by kernel_rfl) (dG ⟨_,_,_,(a0B T).mono (by decide),T.jQ,T.gK.kp,T.jP⟩ (dG ⟨_,_,_,(ad7 T).mono (by decide),T.sH,T.nG.kp,T.sG⟩ (dG ⟨_,_,_,(yU T).mono (by decide),T.dN,T.cN.kp,T.dM⟩ (dG ⟨_,_,_,(a1D T).mono (by decide),T.fX,T.d9.kp,T.fW⟩ (dG ⟨_,_,_,(ad8 T).mono (by decide),T.sJ,T.nM.kp,T.sI⟩ gln)))))
theorem tX (T:Txt K mg A):bW false P w K mg base (lU P w) 1 A.mV A.dW ["_law_script", "_law_k"] (cJ K (bO K A)) :=
  dc (S:=a5G K A) (c:=a5F) T.cR (show bC ["_law_script", "_law_k", "_law_mixed"] ["_law_script", "_law_k"] _ from by walk_at "sc") rfl (by kernel_rfl) (by kernel_rfl) (by kernel_rfl) (dG ⟨T.vQ,pD⟩ gln)
theorem a6Q (T:Txt K mg A):bW false P w K mg base (lU P w) 1 A.rK A.gU ["_law_found"] (cJ K (fH K A)) :=
  dc (S:=a9L K A) (c:=a9K) T.iQ (show bC ["_law_found"] ["_law_found"] _ from by walk_at "sc") rfl (by kernel_rfl) (by kernel_rfl) (by kernel_rfl) (dG ⟨T.agX,adZ⟩ (dG ⟨T.eV,fB⟩ (dG ⟨T.aeY,ag0⟩ gln)))
theorem aa2 (T:Txt K mg A):bW false P w K mg base (lU P w) 2 A.uY A.jJ ["_law_script"] (cJ K (lG K A)) :=
  dc (S:=acC K A) (c:=acB) T.jR (show bC ["_law_script", "_law_cell", "_law_aisles", "_law_places"] ["_law_script"] _ from by walk_at "sc") rfl (by kernel_rfl) (by kernel_rfl) (by kernel_rfl) (dG ⟨_,_,_,(tX T).mono (by decide),T.eF,T.cR.kp,T.dZ⟩ gln)
theorem aa3 (T:Txt K mg A):bW false P w K mg base (lU P w) 2 A.uZ A.jK ["_law_script", "_law_plan_here"] (cJ K (lH K A)) :=
  dc (S:=acE K A) (c:=acD) T.jT (show bC ["_law_script", "_law_plan_here", "_law_cell", "_law_many", "_law_found", "_law_k"] ["_law_script", "_law_plan_here"] _ from by walk_at "sc") rfl (by kernel_rfl) (by kernel_rfl) (by kernel_rfl) (dG ⟨_,_,_,(tX T).mono (by decide),T.eF,T.cR.kp,T.dZ⟩ (dG ⟨T.sU,pY⟩ gln))
theorem a6R (T:Txt K mg A):bW false P w K mg base (lU P w) 1 A.rM A.gW ["_law_one", "_law_other"] (cJ K (jC K A)) :=
  dc (S:=a9N K A) (c:=a9M) T.iR (show bC ["_law_one", "_law_other", "_law_found", "_law_aisle", "_law_place"] ["_law_one", "_law_other"] _ from by walk_at "sc") rfl (by kernel_rfl) (by kernel_rfl) (by kernel_rfl) (dG ⟨T.agX,adZ⟩ gln)
theorem aa4 (T:Txt K mg A):bW false P w K mg base (lU P w) 2 A.v7 A.jL ["_law_spots_here"] (cJ K (iH K A)) :=
  dc (S:=acG K A) (c:=acF) T.jU (show bC ["_law_spots_here", "_law_found", "_law_k"] ["_law_spots_here"] _ from by walk_at "sc") rfl (by kernel_rfl) (by kernel_rfl) (by kernel_rfl) (dG ⟨T.sU,pY⟩ (dG ⟨T.vQ,pD⟩ (dG ⟨_,_,_,(a6R T).mono (by decide),T.lO,T.iR.kp,T.lN⟩ gln)))
theorem a6S (T:Txt K mg A):bW false P w K mg base (lU P w) 2 A.rN A.gY ["_law_spots_here", "_law_plan_here"] (cJ K (fJ K A)) :=
  dc (S:=a9P K A) (c:=a9O) T.iT (show bC ["_law_spots_here", "_law_plan_here", "_law_spot", "_law_k", "_law_one", "_law_other"] ["_law_spots_here", "_law_plan_here"] _ from by walk_at "sc") rfl (by kernel_rfl) (by kernel_rfl) (by kernel_rfl) (dG ⟨T.aeZ,ag1⟩ (dG ⟨T.eV,fB⟩ (dG ⟨T.a2Z,a3V⟩ (dG ⟨T.vQ,pD⟩ (dG ⟨_,_,_,(a6Q T).mono (by decide),T.lM,T.iQ.kp,T.lK⟩ (dG ⟨T.sU,pY⟩ gln))))))
theorem aa5 (T:Txt K mg A):bW false P w K mg base (lU P w) 1 A.v8 A.jM ["_law_path_here", "_law_last"] (cJ K (lJ K A)) :=
  dc (S:=acI K A) (c:=acH) T.jV (show bC ["_law_path_here", "_law_last", "_law_found", "_law_k"] ["_law_path_here", "_law_last"] _ from by walk_at "sc") rfl (by kernel_rfl) (by kernel_rfl) (by kernel_rfl) (dG ⟨T.sU,pY⟩ (dG ⟨T.vQ,pD⟩ gln))
theorem ad9 (T:Txt K mg A):bW false P w K mg base (lU P w) 1 A.yO A.mW ["_law_bins_here", "_law_ends_here", "_law_whole_here"] (cJ K (oV K A)) :=
  dc (S:=aeX K A) (c:=aeW) T.nO (show bC ["_law_bins_here", "_law_ends_here", "_law_whole_here", "_law_spots_here", "_law_end", "_law_aisle", "_law_here"] ["_law_bins_here", "_law_ends_here", "_law_whole_here"] _ from by walk_at "sc") rfl (by kernel_rfl) (by kernel_rfl) (by kernel_rfl) (dG ⟨T.sU,pY⟩ (dG ⟨T.vQ,pD⟩ (dG ⟨T.acS,a8O⟩ (dG ⟨T.agY,adY⟩ gln))))
theorem ayJ (T:Txt K mg A):bW false P w K mg base (lU P w) 7 A.a1R A.amJ ["_law_script"] (cJ K (a9Q K A)) :=
  dc (S:=aCR K A) (c:=acQ) T.atZ (show bC ["_law_script", "_law_plan_here", "_law_bins_here", "_law_handed", "_law_spots_here", "_law_good", "_law_path_here", "_law_last", "_law_ends_here", "_law_kept", "_law_known", "_law_again"] ["_law_script"] _ from by walk_at "sc") rfl (by kernel_rfl) (by kernel_rfl) (by kernel_rfl) (dG ⟨_,_,_,(aa2 T).mono (by decide),T.oX,T.jR.kp,T.oW⟩ (dG ⟨_,_,_,(aa3 T).mono (by decide),T.oZ,T.jT.kp,T.oY⟩ (dG ⟨T.aeZ,ag1⟩ (dG ⟨_,_,_,(as5 T).mono (by decide),T.a9S,T.a5K.kp,T.a9R⟩ (dG ⟨_,_,_,(a6S T).mono (by decide),T.lR,T.iT.kp,T.lQ⟩ (dG ⟨_,_,_,(aa4 T).mono (by decide),T.p8,T.jU.kp,T.p7⟩ (dG ⟨T.acS,a8O⟩ (dG ⟨_,_,_,(aa5 T).mono (by decide),T.pB,T.jV.kp,T.pA⟩ (dG ⟨T.vQ,pD⟩ (dG ⟨_,_,_,(ad9 T).mono (by decide),T.sS,T.nO.kp,T.sO⟩ (dG ⟨T.amN,apA⟩ gln)))))))))))
end
def ahE (K:Fg):Sp:=fun vs H Q _=>∃ (a:Addr) (ns:List Int),vs=[.ref a]/\wU K H a (ns.map V.int)/\ns.length<=63/\∀ H',Q (.bl true) H'
variable {mg:Str->Option Value}
theorem as6 {K:Fg} {A:aZ} (T:Txt K mg A):∀ vs H Q E,ahE K vs H Q E->cJ K (a9Q K A) vs H Q E:=by
  rintro vs H Q E ⟨a,ns,rfl,hS,hl,k⟩;refine ⟨[.ref a],fun b=>if b=a then some (.rol (ns.map D.int)) else none,fun d _=>d = .bl true,fun _ _=>False,.cons (.ref a) .nil,fun b o e=>?_,main T a ns hl _ (if_pos rfl),fun v H' d G' r g e=>?_,fun C H' G' g z=>z.elim⟩
  . have e2:(if b=a then some (GO.rol (ns.map D.int)) else none)=some o:=e;by_cases hb:b=a
    . subst hb;rw [if_pos rfl] at e2;cases e2;exact ⟨_,hS,bV.ints ns⟩
    . rw [if_neg hb] at e2;cases e2
  . subst e;cases r;exact k H'
def Cb (K:Fg) (x q:Str) (st:Stmt) (f:Addr):Prop:=∃ oc kV dc pm cd ct od an sl,K.lookup f=some ⟨oc,od,.func (qe x q (oA st) (dI st) (bK st) .none kV dc pm an cd ct),sl⟩/\vp K cd q=true/\jy K (.ref f)=true
theorem Cb.get {K:Fg} {x q:Str} (b:Cb K x q st f) (ps:List Str) (h:∀ kV dc pm an cd ct,∀ us:List Value,us.length=ps.length->bindArgs (qe x q (oA st) (dI st) (bK st) .none kV dc pm an cd ct) ⟨us,[]⟩=pure (ps.zip us)):∃ d,u6 K x q st f d/\Binds K d ps []/\jy K (.ref f)=true:=by
  obtain ⟨oc,kV,dc,pm,cd,ct,od,an,sl,l,c,k⟩:=b;exact ⟨_,ak7 (st:=st) l c k,agI (h _ _ _ _ _ _),k⟩
def Fb (K:Fg) (x:Str) (st:Stmt) (f:Addr):Prop:=jc K mainGlobals x=some (some (.ref f))/\Cb K x x st f
theorem Fb.get {K:Fg} {q:Str} {st:Stmt} {f:Addr} {h:Heap} {mg:Str->Option Value} (b:Fb K q st f) (XK:K.In h) (GG:h.Ns mainGlobals mg) (ps:List Str) (h:∀ kV dc pm an cd ct,∀ us:List Value,us.length=ps.length->bindArgs (qe q q (oA st) (dI st) (bK st) .none kV dc pm an cd ct) ⟨us,[]⟩=pure (ps.zip us)):∃ d,u6 K q q st f d/\Binds K d ps []/\mg q=some (.ref f):=by
  obtain ⟨d,F,B,_⟩:=b.2.get ps h;exact ⟨d,F,B,nq XK GG b.1⟩
def Mb (K:Fg) (c:Addr) (x q:Str) (st:Stmt) (f:Addr):Prop:=ni K (.ref c) x=some (some (.ref f))/\PySem.W.isFn K (.ref f)=true/\Cb K x q st f
theorem Mb.get {K:Fg} {c:Addr} {x q:Str} {st:Stmt} {f:Addr} (b:Mb K c x q st f) (ps:List Str) (h:∀ kV dc pm an cd ct,∀ us:List Value,us.length=ps.length->bindArgs (qe x q (oA st) (dI st) (bK st) .none kV dc pm an cd ct) ⟨us,[]⟩=pure (ps.zip us)):∃ d,u6 K x q st f d/\Binds K d ps []/\ni K (.ref c) x=some (some (.ref f))/\PySem.W.isFn K (.ref f)=true/\jy K (.ref f)=true:=by
  obtain ⟨d,F,B,k⟩:=b.2.2.get ps h;exact ⟨d,F,B,b.1,b.2.1,k⟩
variable {l:PySem.W.OpenLaw}
theorem all_mk {w:World} {K:Fg} {h:Heap} {fa:Addr} (XK:K.In h) (GG:h.Ns mainGlobals mg) (hfa:mg "law" = some (.ref fa))
    (yV:Fb K "is_whole" a4S af8)
    (a1E:Fb K "is_pair" a7T aj1)
    (a1F:Fb K "is_plan" a7U aj2)
    (vV:Fb K "need_plan" a1M adA)
    (a5T:Fb K "is_bin" ac4 anD)
    (yW:Fb K "need_bin" a4T af9)
    (iW:Fb K "places_by_aisle" oH a0C)
    (yX:Fb K "farthest" a4U afA)
    (nQ:Fb K "steps_within" uT a5U)
    (pN:Fb K "ways_behind" xF a6T)
    (kW:Fb K "shortest_ends" tK a2K)
    (nR:Fb K "spots_within" uU a5V)
    (aa6:Fb K "go_to" agN as7)
    (yZ:Fb K "spots_by" a4V afB)
    (afC:Fb K "walk" amI ayK)
    (nT:Fb K "_law_cell_at" uV a5W)
    (sV:Fb K "_law_whole" zT aa7)
    (vW:Fb K "_law_plan" a1N adB)
    (vX:Fb K "_law_bins" a1O adC)
    (sW:Fb K "_law_steps" zU aa8)
    (vY:Fb K "_law_path" a1P adD)
    (sX:Fb K "_law_spots" zV aa9)
    (vZ:Fb K "_law_ends" a1Q adE)
    (z6:Fb K "_law_due" a4W afD)
    (a1R:jc K mainGlobals "law" = some (some (.ref anE)))
    (anF:K.lookup anE=some ⟨aGI,aGJ,.func (qe "law" "law" (oA ac5) (dI ac5) (bK ac5) .none aGK aGL aGM aGN ayL aGO),aGP⟩)
    (acQ:vp K ayL "law" = true)
    (anG:jy K (.ref anE)=true)
    (sY:jc K mainGlobals "DepotError" = some (some (.ref iY)))
    (iU:jj K iY [.type "ValueError",.type "Exception",.type "BaseException",.type "object"] "ValueError.__new__" = true)
    (fL:(jw K iY).isSome=true)
    (fM:ou K (.ref iY)=some (.type "type"))
    (fO:qg K (.ref iY) (.type "BaseException")=some true)
    (a5X:jc K mainGlobals "NoPlan" = some (some (.ref w5)))
    (qU:jj K w5 [.type "ValueError",.type "Exception",.type "BaseException",.type "object"] "ValueError.__new__" = true)
    (lV:(jw K w5).isSome=true)
    (lW:ou K (.ref w5)=some (.type "type"))
    (lX:qg K (.ref w5) (.type "BaseException")=some true)
    (aaA:jc K mainGlobals "NoBin" = some (some (.ref a0D)))
    (wN:jj K a0D [.type "ValueError",.type "Exception",.type "BaseException",.type "object"] "ValueError.__new__" = true)
    (qW:(jw K a0D).isSome=true)
    (qX:ou K (.ref a0D)=some (.type "type"))
    (qY:qg K (.ref a0D) (.type "BaseException")=some true)
    (dB:jc K mainGlobals "MOST_AISLES" = some (some (.int 26 a6U)))
    (dD:jc K mainGlobals "MOST_PLACES" = some (some (.int 99 a6V)))
    (j9:jc K mainGlobals "MOST_GAP" = some (some (.int 20 afE)))
    (a1A:jc K mainGlobals "DOOR" = some (some (.ref anH)))
    (aaB:K.lookup anH=some ⟨.type "tuple",aDT,.seq #[(.int 0 as8),(.int 0 as9)] aDU,aDV⟩)
    (anI:jc K mainGlobals "abs" = some none)
    (afF:jc K mainGlobals "bool" = some none)
    (afG:jc K mainGlobals "dict" = some none)
    (w6:jc K mainGlobals "enumerate" = some none)
    (anJ:jc K mainGlobals "int" = some none)
    (sZ:jc K mainGlobals "isinstance" = some none)
    (anK:jc K mainGlobals "len" = some none)
    (afH:jc K mainGlobals "list" = some none)
    (anL:jc K mainGlobals "max" = some none)
    (anM:jc K mainGlobals "min" = some none)
    (aaC:jc K mainGlobals "range" = some none)
    (aaD:jc K mainGlobals "tuple" = some none) :
    ∃ fd:FuncData,(∀ (s:Shared) (v:Value),BindsTo s fd ⟨[v],[]⟩ [("_law_script",v)])/\∀ base:Heap,K.In base->base.Ns mainGlobals mg->bW false l.prog w K mg base (lU l.prog w) 7 fa fd ["_law_script"] (ahE K):=by
  have e:=hfa.symm.trans (nq XK GG a1R);cases e;obtain ⟨mJ,j7,nD,nF⟩:=yV.get XK GG ["thing", "least", "most"] fun _ _ _ _ _ _ us hl=>match us,hl with | [_,_,_],_=>rfl
  obtain ⟨qD,qR,wJ,wK⟩:=a1E.get XK GG ["thing", "aisles", "first", "last"] fun _ _ _ _ _ _ us hl=>match us,hl with | [_,_,_,_],_=>rfl
  obtain ⟨qF,qT,wL,wM⟩:=a1F.get XK GG ["thing"] fun _ _ _ _ _ _ us hl=>match us,hl with | [_],_=>rfl
  obtain ⟨jH,gK,jP,jQ⟩:=vV.get XK GG ["plan"] fun _ _ _ _ _ _ us hl=>match us,hl with | [_],_=>rfl
  obtain ⟨uX,vP,a05,a06⟩:=a5T.get XK GG ["plan", "thing"] fun _ _ _ _ _ _ us hl=>match us,hl with | [_,_],_=>rfl
  obtain ⟨mK,nG,sG,sH⟩:=yW.get XK GG ["plan", "thing"] fun _ _ _ _ _ _ us hl=>match us,hl with | [_,_],_=>rfl
  obtain ⟨cL,cN,dM,dN⟩:=iW.get XK GG ["bins"] fun _ _ _ _ _ _ us hl=>match us,hl with | [_],_=>rfl
  obtain ⟨mL,j8,nH,nJ⟩:=yX.get XK GG ["places", "end"] fun _ _ _ _ _ _ us hl=>match us,hl with | [_,_],_=>rfl
  obtain ⟨dR,dX,iI,iJ⟩:=nQ.get XK GG ["plan", "places", "end", "goal"] fun _ _ _ _ _ _ us hl=>match us,hl with | [_,_,_,_],_=>rfl
  obtain ⟨fD,fK,jD,jE⟩:=pN.get XK GG ["plan", "places", "ways"] fun _ _ _ _ _ _ us hl=>match us,hl with | [_,_,_],_=>rfl
  obtain ⟨d8,d9,fW,fX⟩:=kW.get XK GG ["plan", "aisles"] fun _ _ _ _ _ _ us hl=>match us,hl with | [_,_],_=>rfl
  obtain ⟨dU,dY,iK,iM⟩:=nR.get XK GG ["aisle", "places", "end", "goal"] fun _ _ _ _ _ _ us hl=>match us,hl with | [_,_,_,_],_=>rfl
  obtain ⟨zW,a07,a2X,a2Y⟩:=aa6.get XK GG ["spots", "spot"] fun _ _ _ _ _ _ us hl=>match us,hl with | [_,_],_=>rfl
  obtain ⟨mU,nM,sI,sJ⟩:=yZ.get XK GG ["aisles", "ends"] fun _ _ _ _ _ _ us hl=>match us,hl with | [_,_],_=>rfl
  obtain ⟨a4Y,a5K,a9R,a9S⟩:=afC.get XK GG ["plan", "bins"] fun _ _ _ _ _ _ us hl=>match us,hl with | [_,_],_=>rfl
  obtain ⟨dW,cR,dZ,eF⟩:=nT.get XK GG ["_law_script", "_law_k"] fun _ _ _ _ _ _ us hl=>match us,hl with | [_,_],_=>rfl
  obtain ⟨gU,iQ,lK,lM⟩:=sV.get XK GG ["_law_found"] fun _ _ _ _ _ _ us hl=>match us,hl with | [_],_=>rfl
  obtain ⟨jJ,jR,oW,oX⟩:=vW.get XK GG ["_law_script"] fun _ _ _ _ _ _ us hl=>match us,hl with | [_],_=>rfl
  obtain ⟨jK,jT,oY,oZ⟩:=vX.get XK GG ["_law_script", "_law_plan_here"] fun _ _ _ _ _ _ us hl=>match us,hl with | [_,_],_=>rfl
  obtain ⟨gW,iR,lN,lO⟩:=sW.get XK GG ["_law_one", "_law_other"] fun _ _ _ _ _ _ us hl=>match us,hl with | [_,_],_=>rfl
  obtain ⟨jL,jU,p7,p8⟩:=vY.get XK GG ["_law_spots_here"] fun _ _ _ _ _ _ us hl=>match us,hl with | [_],_=>rfl
  obtain ⟨gY,iT,lQ,lR⟩:=sX.get XK GG ["_law_spots_here", "_law_plan_here"] fun _ _ _ _ _ _ us hl=>match us,hl with | [_,_],_=>rfl
  obtain ⟨jM,jV,pA,pB⟩:=vZ.get XK GG ["_law_path_here", "_law_last"] fun _ _ _ _ _ _ us hl=>match us,hl with | [_,_],_=>rfl
  obtain ⟨mW,nO,sO,sS⟩:=z6.get XK GG ["_law_bins_here", "_law_ends_here", "_law_whole_here"] fun _ _ _ _ _ _ us hl=>match us,hl with | [_,_,_],_=>rfl
  have T:Txt K mg ⟨af8,mJ,
    aj1,qD,
    aj2,qF,
    adA,jH,
    anD,uX,
    af9,mK,
    a0C,cL,
    afA,mL,
    a5U,dR,
    a6T,fD,
    a2K,d8,
    a5V,dU,
    as7,zW,
    afB,mU,
    ayK,a4Y,
    a5W,dW,
    aa7,gU,
    adB,jJ,
    adC,jK,
    aa8,gW,
    adD,jL,
    aa9,gY,
    adE,jM,
    afD,mW,
    anE,_,
    iY,
    w5,
    a0D⟩:={
    j7:=j7,
    nD:=nD,
    nF:=nF,
    qR:=qR,
    wJ:=wJ,
    wK:=wK,
    qT:=qT,
    wL:=wL,
    wM:=wM,
    gK:=gK,
    jP:=jP,
    jQ:=jQ,
    vP:=vP,
    a05:=a05,
    a06:=a06,
    nG:=nG,
    sG:=sG,
    sH:=sH,
    cN:=cN,
    dM:=dM,
    dN:=dN,
    j8:=j8,
    nH:=nH,
    nJ:=nJ,
    dX:=dX,
    iI:=iI,
    iJ:=iJ,
    fK:=fK,
    jD:=jD,
    jE:=jE,
    d9:=d9,
    fW:=fW,
    fX:=fX,
    dY:=dY,
    iK:=iK,
    iM:=iM,
    a07:=a07,
    a2X:=a2X,
    a2Y:=a2Y,
    nM:=nM,
    sI:=sI,
    sJ:=sJ,
    a5K:=a5K,
    a9R:=a9R,
    a9S:=a9S,
    cR:=cR,
    dZ:=dZ,
    eF:=eF,
    iQ:=iQ,
    lK:=lK,
    lM:=lM,
    jR:=jR,
    oW:=oW,
    oX:=oX,
    jT:=jT,
    oY:=oY,
    oZ:=oZ,
    iR:=iR,
    lN:=lN,
    lO:=lO,
    jU:=jU,
    p7:=p7,
    p8:=p8,
    iT:=iT,
    lQ:=lQ,
    lR:=lR,
    jV:=jV,
    pA:=pA,
    pB:=pB,
    nO:=nO,
    sO:=sO,
    sS:=sS,
    atZ:=ak7 (st:=ac5) anF acQ anG,
    aCS:=agI (ps:=["_law_script"]) (fun us hl=>match us,hl with | [_],_=>rfl),
    aCT:=nq XK GG a1R,
    a9T:=nq XK GG sY,
    iU:=iU,
    fL:=fL,
    fM:=fM,
    fO:=fO,
    acR:=nq XK GG a5X,
    qU:=qU,
    lV:=lV,
    lW:=lW,
    lX:=lX,
    agW:=nq XK GG aaA,
    wN:=wN,
    qW:=qW,
    qX:=qX,
    qY:=qY,
    dB:=⟨a6U,nq XK GG dB⟩,
    dD:=⟨a6V,nq XK GG dD⟩,
    j9:=⟨afE,nq XK GG j9⟩,
    a1A:=⟨anH,nq XK GG a1A,axG (xs:=[.int 0,.int 0]) aaB (show 2<=sizeLine by decide) (.cons ⟨as8,rfl⟩ (.cons ⟨as9,rfl⟩ .nil)) fun _=>(.cons (.int _) (.cons (.int _) .nil))⟩,
    au0:=jh XK GG anI,
    aeY:=jh XK GG afF,
    amN:=jh XK GG afG,
    a1V:=jh XK GG w6,
    agX:=jh XK GG anJ,
    eV:=jh XK GG sZ,
    vQ:=jh XK GG anK,
    aeZ:=jh XK GG afH,
    acS:=jh XK GG anL,
    agY:=jh XK GG anM,
    sU:=jh XK GG aaC,
    a2Z:=jh XK GG aaD }
  exact ⟨_,fun s v => .of_eq rfl,fun base _ _=>(ayJ T).imp (as6 T)⟩
theorem walk {q:Program} {loose:List Str} {XP:(Str->Option Value)->Heap->Prop} {YP:World->Heap->Prop} {d:DefRec} {K:Params->cu} (hn:l.most=some 63) (hdf:d.params.defaults=[])
    (hY:∀ (w:World) (h:Heap),YP w h->(K w.params).In h)
    (F:∀ (w:World) (mg:Str->Option Value) (fa:Addr) (h:Heap),(K w.params).In h->h.Ns mainGlobals mg->mg d.name=some (.ref fa) ->
      ∃ fd:FuncData,(∀ (s:Shared) (u:Value),BindsTo s fd ⟨[u],[]⟩ [("_law_script",u)])/\∀ base:Heap,(K w.params).In base->base.Ns mainGlobals mg->bW false l.prog w (K w.params) mg base (lU l.prog w) 7 fa fd ["_law_script"] (ahE (K w.params))) :
    PySem.W.WalkO q loose XP YP l.row.toRowW d [] (fun f vs=>PySem.call f vs) :=
  L2.aoV (n:=63) (k:=7) (x := "_law_script") (CX:=fun w=>lU l.prog w) (sp:=fun w=>ahE (K w.params)) hn (by decide) hdf ⟨fun _=>rfl,by decide,by decide⟩ hY F (fun _ _ a ns hl _ hS=>⟨a,ns,rfl,hS,hl,fun _=>rfl⟩) fun _ _ _ _ _ ⟨_,_,_,_,_,_,_,_,_,_,_,_,z⟩=>z
end Law
open PySem PySem.W PyProof.Rows
theorem PySem.Challenge.cw_depot_k73_whole_walks_by_the_rule_holds : PySem.Challenge.rw_depot_k73_whole_walks_by_the_rule.Holds := by
  w_on;o_law;o_head (PySem.W.kHook Law.frK.heap_39 Law.frA Law.frE)
  case hl=>exact Law.frL
  case hw=>w_witness2
  k_fill
  refine Law.walk (l:=PySem.Challenge.rw_depot_k73_whole_walks_by_the_rule) rfl rfl (fun w h Y=>PySem.W.kIn_of Y) ?F
  case F =>
    intro w mg fa h KX G hmg;refine' Law.all_mk KX G hmg ?yV ?a1E ?a1F ?vV ?a5T ?yW ?iW ?yX ?nQ ?pN ?kW ?nR ?aa6 ?yZ ?afC ?nT ?sV ?vW ?vX ?sW ?vY ?sX ?vZ ?z6 ?a1R ?anF ?acQ ?anG ?sY ?iU ?fL ?fM ?fO ?a5X ?qU ?lV ?lW ?lX ?aaA ?wN ?qW ?qX ?qY ?dB ?dD ?j9 ?a1A ?aaB ?anI ?afF ?afG ?w6 ?anJ ?sZ ?anK ?afH ?anL ?anM ?aaC ?aaD
    case yV | a1E | a1F | vV | a5T | yW | iW | yX | nQ | pN | kW | nR | aa6 | yZ | afC | nT | sV | vW | vX | sW | vY | sX | vZ | z6=>exact ⟨by k_is,_,_,_,_,_,_,_,_,_,by k_is,by k_is,by k_is⟩
    case a1R | anF | acQ | anG | sY=>k_is
    case iU=>k_exc
    case fL=>kernel_rfl
    case fM | fO | a5X=>k_is
    case qU=>k_exc
    case lV=>kernel_rfl
    case lW | lX | aaA=>k_is
    case wN=>k_exc
    case qW=>kernel_rfl
    case qX | qY | dB | dD | j9 | a1A | aaB | anI | afF | afG | w6 | anJ | sZ | anK | afH | anL | anM | aaC | aaD=>k_is
