import PyProof.Rows.All
import Wide.All
import OpenK.KLine
import OpenK.KOwn
import Wide.FinOn
import Lean
import PyProof.EqAt
import PyProof.EqKinds
import PyProof.TupleCall
import KE.KMinKey
import KE.KSortTup
import KE.KRevSl
import KE.KStateDown
import PyProof.Rows.Range3
import KE.KDictOf
import PyProof.AttrMissSeq
import KE.KRevIter
import KE.KItemsList
import KE.KPairComp
import KE.KEqDict
import KE.KDictSum
import KE.RegKIsAll
import KE.KNest
import KE.KClos
import PyProof.Draws
import PyProof.EnumMake
import PyProof.StrBlock2
import PyProof.DictWalks
import PyProof.DictRoadsH
import PySem.Challenge.RW_depot_k33_many_lots_and_days
set_option Elab.async false
set_option linter.all false
set_option maxRecDepth 100000
set_option maxHeartbeats 4000000
set_option compiler.extract_closed false
def oP_ : Nat → Lean.Syntax → Lean.MacroM (Lean.TSyntax `rcasesPat)
  | 0, _ => Lean.Macro.throwUnsupported
  | n + 1, s => if s.isOfKind ``Lean.Parser.Term.anonymousCtor then do
      let xs ← s[1].getSepArgs.mapM (oP_ n)
      `(rcasesPat| ⟨$[$xs],*⟩)
    else if s.isIdent then `(rcasesPat| $(⟨s⟩):ident)
    else if s.isOfKind ``Lean.Parser.Term.hole then `(rcasesPat| _)
    else Lean.Macro.throwUnsupported
local macro_rules|`(⋯)=>`(by omega)
local macro_rules|`(∅)=>`(by kernel_rfl)
local macro_rules|`(tactic|let $p:term:=$e)=>do
  let q ← oP_ 9 p
  `(tactic|obtain $q:rcasesPat:=$e)
local macro_rules|`(command|abbrev $i:declId $s:optDeclSig $v:declVal)=>`(command|noncomputable def $i:declId $s:optDeclSig $v:declVal)
local macro_rules|`(command|@[simp]def $i:declId $s:optDeclSig $v:declVal)=>`(command|noncomputable abbrev $i:declId $s:optDeclSig $v:declVal)
local macro_rules|`(command|def $i:declId $s:optDeclSig $v:declVal)=>`(command|theorem $i:declId $(⟨Lean.mkNode ``Lean.Parser.Command.declSig #[s.raw[0],s.raw[1][0]]⟩):declSig $v:declVal)
local macro_rules|`(command|private theorem $i:declId $s:declSig $v:declVal)=>`(command|set_option tactic.hygienic true in theorem $i:declId $s:declSig $v:declVal)
local macro_rules|`(tactic|nofun)=>`(tactic|kernel_rfl)
open Option renaming some->aj,none->au,some->jk,map_eq_some_iff->Ma,none->Ba
open Bool renaming true->ak,false->ao,and_eq_true->bx,not_eq_true'->iu,false_eq_true->kj,false_ne_true->oh,not_true->qi,false_or->CQ,or_eq_true->Gh,not_false->Gd
open PySem renaming wpAny_bind->aq,Value->bh,Addr->bw,wpAny_pure->cj,Shared->dg,wpAny->dh,sizeLine->dj,model->dz,Expr->gV,starEach->iz,Around->jd,World->je,mainGlobals->jg,FuncData->jm,Stmt->jq,Program->jr,Heap->jw,bootBuiltins->mz,compareOp->ou,wpAny_newObj_type->qj,wpAny_mono->ql,backTo->qz,attributeBase->su,wpAny_field->tu,cLine->uc,bindArgs->uf,wpAny_holding->uh,sysModules->um,wpAny_call_entry->uw,NameKind->ux,wpAny_setField->vm,binaryOp->vq,wpAny_truthy_bool->xg,wpAny_dictEntries->xu,wpAny_rule->yc,wpAny_Call_Name_kw->yq,wpAny_callSpecial?_slot->zc,Scope->di,pyNext->eS,wpAny_typeNameOfWhole_keyiter->GQ,rawInt->fg,keywordEach->oj,DictEntry->kQ,wpAny_passesOwn->x6,Keyword->hX,ExcBaseFacts->tj,wpAny_typeNameOf_keyiter->GN,wpAny_getItem_str_slice->GL,wpAny_Call_method0_late->GK,wpAny_attempt->xS,assignEach->qh,tupleKind_room_in1->C5,foldedSetIterable->C4,codeAny->kP,tupleKind->qf,swapsWith->qc,PassesOwn->sQ,behindInMarks->Bi,sliceBounds->xy,wpAny_execs_nil->CY,letOwnedTupleGo->CW,firstArgMember->Mc,wpAny_seqItems->CU,wpAny_pyIter_list->Go
open PySem.Heap renaming get?_push_of_some->cu,get?_push_size->gw,lt_size->ig,SameBut->lu,get?_update_self->Dh,ExtBut->xI,MadeExcOf->Gg,size_push->Gf
open Nat renaming le_refl->dw,lt_of_lt_of_le->jf,ne_of_lt->ju,le_trans->lq,zero_le->qm,zero_add->qu,lt_irrefl->rm,le_of_lt->ud,min_eq_left->yg,lt_of_le_of_ne->yt,add_sub_cancel'->Df,eq_zero_of_not_pos->GJ,one_pos->sR,lt_trichotomy->C2,le_succ_of_le->C1,le_of_eq->xN,sub_lt->sP,ne_of_gt->Bb,pos_of_ne_zero->Gs,lt_of_le_of_lt->Gr,le_of_lt_succ->Gn,sub_pos_of_lt->Gm,le_of_add_right_le->LY
open List renaming length_map->fj,size_toArray->gk,map_cons->ji,getElem?_eq_getElem->jj,getElem?_eq_some_iff->jl,mem_map->jo,all_eq_true->kh,range->lg,map_append->mq,mem_cons_of_mem->nj,mem_cons->nu,mem_singleton->qb,mem_of_getElem?->qg,mem_append->qx,length_cons->qy,mem_append_right->ug,pairwise_iff_getElem->vf,map_map->vo,nodup_cons->vp,lookup_cons->wg,pairwise_append->wj,getElem?_map->xr,mem_cons_self->yj,length_append->yp,lookup->yu,mem_range->yx,nodup_append->zj,append_assoc->zp,mem_filter->zq,getD->zu,map_congr_left->zx,getElem?_append_right->Dj,filter_cons->tN,getElem?_cons_zero->Di,take_append_drop->Dg,getElem?_append_left->GP,replicate->x5,take_length->Bl,append_nil->Bk,find?_cons->Bj,mem_append_left->GH,length_take->C0,mem_iff_getElem->GF,filter_sublist->Gv,mem_filterMap->Gu,take_of_length_le->LZ,getElem_mem->Gk,mem_reverse->Gj,length_filter_le->LX,pairwise_reverse->LW,filterMap_cons->LV,filter_eq_self->LR,take_succ->Gb
open PySem.W renaming Frag->iw,subIn->jc,findIn->jt,nsIn->ni,fnOf->qe,keepIn->qp,Looks->uo,clsIn->vg,mg_of->vh,emptyDict->xq,kia_one->yd,excIn->yw,instObj->tJ,codeIn->tI,kitOne->tF,typeIn->x4,plainGet->Bm,isFn->tm,hasDictIn->C3,plainOver->Gq,Hook->CP,hideAll->Gi,makesIn->GD,plainGet_of->LU,callWith_K0->LS,lookIn->Ge,callWith_K->LQ
open Array renaming toList_append->qd,length_toList->ur,size_map->wz,getD->yh,getElem?_eq_some_iff->zy,getElem?_toList->GI,getElem?_eq_getElem->Me,eraseIdxIfInBounds->Md,toList_reverse->Mf
open Int renaming le_trans->qw,le_of_lt->wk,le_refl->wu,toNat_natCast->zf
open PyProof.Rows renaming seqObj->uq
namespace Law
open PySem PySem.W PyProof.Rows
abbrev yR(n:Nat):jq:=PySem.Challenge.pw_depot_k33_many_lots_and_days.main.body.getD n (.Pass ⟨0,0,0,0⟩)
abbrev wa:jr:={PySem.Challenge.pw_depot_k33_many_lots_and_days with main:={PySem.Challenge.pw_depot_k33_many_lots_and_days.main with body:=[yR 0,yR 2,yR 3,yR 4,yR 5,yR 6,yR 7,yR 8,yR 9,yR 10,yR 12,yR 13,yR 14,yR 15,yR 16,yR 17,yR 18,yR 19,yR 20,yR 21,yR 23,yR 24,yR 25,yR 26,yR 28,yR 29,yR 30,yR 31,yR 32,yR 34,yR 35,yR 36,yR 37,yR 39,yR 41,yR 42,yR 43,yR 44,yR 45,yR 46]}}
abbrev FV(tb:String->Option Builtin)(p:jr)(w:je)(l6:Nat)(ann:Option bh):Nat->SharedT->Thread->Option SharedT
 |0,_,_=>au
 |n+1,s,t=>match through t with
  |true=>aj s
  |false=>match stepOk l6 ann t with
   |false=>au
   |true=>match stepT (denote tb) p w s t with
    |some (s',t')=>FV tb p w l6 ann n s' t'
    |none=>au
def P9{w:je}{l6:Nat}:∀(n:Nat)(s r:SharedT)(t:Thread),FV tb p w l6 ann n s t=aj r->topRun tb p w l6 ann n s.abs t=aj r.abs
 |0,_,_,_,h=>by cases h
 |n+1,s,r,t,h=>by
  unfold FV at h;unfold topRun;split at h
  .rename_i e;rw[e];cases h;rfl
  .rename_i e;rw[e];split at h
   .cases h
   .rename_i e2;rw[e2];split at h
    .rename_i s' t' e3;dsimp only;rw[stepT_spec e3];exact P9 n _ _ _ h
    .cases h
abbrev WJ(P:Params):BT:=((boot_heap P).objs.toList.foldl (λ(z:BT×Nat) o=>(z.1.ins z.2 o,z.2+1)) (BT.nil,0)).1
abbrev frs(w:je)(os:OsState):SharedT:=⟨WJ w.params,11,(boot_heap w.params).life,#[],boot_drawn,boot_toks,os⟩
def WK(w:je)(os:OsState):(frs w os).abs=⟨boot_heap w.params,#[],boot_drawn,boot_toks,os⟩:=by nofun
abbrev La(p:jr)(h₀:jw)(ah:dg):Bool:=staticsOk (importedModules p.main.body) h₀ ah.heap&&namesBound p ah.heap&&gensDone ah&&laidKept h₀ ah.heap
def WM{p:jr}{α:Type}{Yf:dg->α}{Ya:je->α}{N:Nat}{g0:Bool} 
  (e:opening p=plainProg p.main.scope.names)(hN:Nat.ble 600 N=ak)(f:∀s,fenceModules? p s=aj s)
  (ha:∀P,(boot_heap P).nsMap jg "__annotations__"=ann)(hi:∀P,(boot_heap P).isNs jg=ak)
  (h:∀(w:je)(os:OsState),(FV treeTable p w 11 ann N (frs w os) (topStub p)).map (λs=>(La p (boot_heap w.params) s.abs,openSeen q loose (importedModules p.main.body) Xt g0 s.abs,Yf s.abs))=aj (ak,openGood q loose,Ya w)) :
  LeftO p q loose Xt Yf Ya N g0:=λw=>by
 let⟨⟨h1,gs,d,k,os⟩,e1,e'⟩:=Ma.mp (boot_open e hN f w);obtain⟨rfl,rfl,rfl,rfl⟩:h1=boot_heap w.params/\gs=#[]/\d=boot_drawn/\k=boot_toks:=by simpa using e'
 unfold openEnds;rw[e1];let⟨r,e2,e3⟩:=Ma.mp (h w os);have e4:=P9 _ _ _ _ e2;rw[WK]at e4;obtain⟨a1,a2,a3⟩:La p (boot_heap w.params) r.abs=ak/\openSeen q loose (importedModules p.main.body) Xt g0 r.abs=openGood q loose/\Yf r.abs=Ya w:=by simpa using e3
 show(topFrom treeTable p w N ⟨boot_heap w.params,#[],boot_drawn,boot_toks,os⟩).map _=_;unfold topFrom;have c:(dg.mk (boot_heap w.params) #[] boot_drawn boot_toks os).heap.isNs jg=ak:=hi w.params;have s0:((dg.mk (boot_heap w.params) #[] boot_drawn boot_toks os).gens.size==0)=ak:=rfl;rw[c,s0];show((topRun treeTable p w 11 ((boot_heap w.params).nsMap jg "__annotations__") N ⟨boot_heap w.params,#[],boot_drawn,boot_toks,os⟩ (topStub p)).bind _).map _=_;rw[ha,e4];unfold La at a1
 show Option.map _ (match staticsOk (importedModules p.main.body) (boot_heap w.params) r.abs.heap&&namesBound p r.abs.heap&&gensDone r.abs&&laidKept (boot_heap w.params) r.abs.heap with
   |true=>aj r.abs
   |false=>au)=_
 rw[a1];show aj (_,_)=aj (_,_);rw[a2,a3]
@[simp]def Ik:dg->Bool:=λs=>xlAt wa [] s&&recOk (RowW.records (OpenRow.toRowW (OpenLaw.row PySem.Challenge.rw_depot_k33_many_lots_and_days))) s
end Law
local macro_rules
 | `(tactic| o_head $H)=>`(tactic| refine PySem.W.holds_open (q:=Law.wa) (loose:=[]) (Xt:=Law.Ik) (XP:=PySem.W.XL Law.wa []) (Yf:=CP.obs $H) (Ya:=CP.val $H)
     (YP:=CP.says $H) (N:=8018) ?hl (CP.of $H) (CP.keeps $H) (λs e=>PySem.W.xl_of s (Bool.and_eq_true_iff.mp e).1) PySem.W.XL.keeps (by rfl) (by rfl) (by rfl)
     (λs e=>PySem.W.recFacts_of (Bool.and_eq_true_iff.mp e).2) (by rfl) (by first|assumption|decide+kernel) (by decide+kernel) ⟨rfl,rfl,rfl,rfl,rfl,by decide+kernel⟩ ?hw ?hc)
open PySem PySem.W in
def Law.NZ:OpenLaw.wellSaid PySem.Challenge.rw_depot_k33_many_lots_and_days=ak:=by nofun
open PySem PySem.W in
def Law.Ew(h0:∀{α:Type}(Yf:dg->α)(Ya:je->α),LeftO (OpenLaw.row PySem.Challenge.rw_depot_k33_many_lots_and_days).prog Law.wa [] Law.Ik Yf Ya 8018)
  (h1:∀YP d,WalkO Law.wa [] (XL Law.wa []) YP (OpenRow.toRowW (OpenLaw.row PySem.Challenge.rw_depot_k33_many_lots_and_days)) d [] (λf vs=>PySem.call f vs)):OpenLaw.Holds PySem.Challenge.rw_depot_k33_many_lots_and_days:=by
 w_on;refine PySem.W.holds_law Law.NZ λMA=>?_;k_head
 case hl=>exact h0 _ _
 case hw=>w_witness2
 exact h1 _ _
@[simp]def Law.Ex:List Nat:=[2,3,15,17,18,20,21,22,29,30,31,32,35,42,43,44,47,54,55,56,59,66,67,68,71,78,79,80,83,90,91,92,95,102,103,104,107,114,115,116,119,126,127,128,131,133,134,136,137,138,140,141,143,144,145,148,149,150,152,153,155,156,157,159,160,162,163,164,166,167,169,170,171,173,174,176,177,178,180,181,183,184,185,187,188,190,191,192,194,195,197,198,199,201,202,204,205,206,208,209,211,212,213,215,216,218,219,220,222,223,225,226,227,229,230,232,233,241,242,244,245,247,248,249,251,252,254,255,256,258,259,261,262,263,265,266,268,269,270,272,273,275,276,277,279,280,282,283,284,286,287,289,290,291,294,295,296,298,299,301,302,303,305,306,308,309,310,312,313,315,316,317,318,319,320,321,331,332,334,335,337,338,339,341,342,344,345,346,348,349,351,352,353,355,356,358,359,360,362,363,365,366,367,369,370,372,373,374,376,377,379,380,381,383,384,386,387,388,390,391,393,394,395,397,398,400,401,402,404,405,407,408,409,411,412,414,415,416,418,419,421,422,423,425,426,428,429,430,431,434,435,436,438,439,441,442,443,444,445,446,447,450,452,453,455,456,457,459,460,462,463,464,466,467,469,470,471,473,474,476,477,478,480,481,483,484,485,488,489]
def Law.Il:∀P,Law.Ex=(Law.Ew.heap_1 P).map (·.1):=λ_=>by nofun
open PySem PySem.W in
def Law.WL:LeftO (OpenLaw.row PySem.Challenge.rw_depot_k33_many_lots_and_days).prog Law.wa [] Law.Ik (Hook.obs (kHook Law.Ew.heap_1 Law.Ex Law.Il)) (Hook.val (kHook Law.Ew.heap_1 Law.Ex Law.Il)) 8018 :=
 Law.WM (by nofun) (by nofun) (λs=>by nofun) (ann:=some (.ref 6)) (λP=>by nofun) (λP=>by nofun) (λw os=>by nofun)
local macro_rules|`(tactic|omega)=>`(tactic|first|lia|omega (config := {}))
set_option tactic.hygienic false
namespace L2
open PySem PySem.Spec PyProof.Rows
variable{h:jw}{l:bw}
section
structure Tr(B:jw)(x:bw)(C fl:bh)(h:jw):Prop where
 ex:∃(o:Obj)(vs:Array bh)(T:bw)(oT:Obj)(ts:Array bh),h.get? x=aj o/\o.cls=C/\o.data=.fields vs/\vs[1]?=aj (.ref T)/\vs[2]?=aj .none/\B.get? T=au/\T≠x/\h.get? T=aj oT/\oT.data=.fields ts/\ts[3]?=aj fl
structure pV(B:jw)(l:List Env)(x:bw)(C fl:bh)(h:jw):Prop where
 stays:B.StaysIn h
 new:B.get? x=au
 K9:h.FunFrames B l
 tr:Tr B x C fl h
@[simp]def qo(B:jw)(l:List Env)(x:bw)(C:bh)(h:jw):Prop:=pV B l x C .none h
variable{v:bh}
section
variable{M:Model}{A:jd}{s:dg}{B:jw}{l:List Env}{env:Env}{outer:List Env}{x:bw}{fl:bh}
def pV.fld(f:pV B l x C fl h):∃o vs,h.get? x=aj o/\o.cls=C/\o.data=.fields vs/\vs[2]?=aj .none:=by
 let⟨o,vs,_,_,_,h1,h2,h3,_,h5,_⟩:=f.tr.ex;exact⟨o,vs,h1,h2,h3,h5⟩
def rW{a:bw}{o:Obj}{vs:Array bh}{i:Nat}(e:h.get? a=aj o)(d:o.data=.fields vs) :
  (h.update a (Obj.mapFields (·.setIfInBounds i v))).get? a=aj (Obj.mapFields (·.setIfInBounds i v) o)/\(Obj.mapFields (·.setIfInBounds i v) o).data=.fields (vs.setIfInBounds i v)/\(Obj.mapFields (·.setIfInBounds i v) o).cls=o.cls /\
  (∀b,b≠a->(h.update a (Obj.mapFields (·.setIfInBounds i v))).get? b=h.get? b):=by
 have d':=Obj.data_mapFields d (·.setIfInBounds i v);exact⟨Dh _ e (Obj.isFreed_of_fields d'),d',Obj.cls_mapFields _ _,λb hb=>Heap.get?_update_other _ _ (Ne.symm hb)⟩
def Bh{a b:bw}{o u:Obj}(e:h.get? a=aj o)(d:o.data=.fields vs)(e2:h.get? b=aj u)(n:∀ws,u.data≠.fields ws):b≠a:=λq=>by
 subst q;rw[e]at e2;cases e2;exact n vs d
def Fx(f:pV B l x C fl s.heap)(h:∀h',qo B l x C h'->s.heap.UpToSlots h'->Q () {s with heap:=h' }):dh M A (setFlight (.ref x) au) Q E s:=by
 let⟨st,nw,fu,⟨o,vs,T,oT,ts,e1,e2,e3,e4,e5,e6,e7,e8,e9,Ai⟩⟩:=f;unfold setFlight;refine aq (tu e1 e3 e4 ?_);rw[if_pos (by simp)];have l3:3<ts.size:=(zy.mp Ai).1;let⟨u1,u2,u3,u4⟩:=rW (i:=3) (v:=(au:Option bw).elim bh.none λf=>fg f) e8 e9;refine vm e8 e9 l3 (h _ ⟨λb u q=>?_,nw,fu.of_keeps λb u q n=>⟨u,(u4 b (Bh e8 e9 q n)).trans q,rfl⟩,⟨o,vs,T,_,_,(u4 x (Ne.symm e7)).trans e1,e2,e3,e4,e5,e6,e7,u1,u2,?_⟩⟩ λb u q n=>⟨u.slots,(u4 b (Bh e8 e9 q n)).trans q⟩)
 .exact(u4 b λz=>by subst z;rw[e6]at q;cases q).trans (st b u q)
 .simp[l3]
def Ra{qB:Bool}{o:Obj}{vs:Array bh}(kA:A.frames=aj (env::outer))(hf:env.frame=aj L)(st:B.StaysIn s.heap)(nw:B.get? x=au)(fu:s.heap.FunFrames B (env::outer))(e1:s.heap.get? x=aj o)(e2:o.cls=C)(e3:o.data=.fields vs)(e4:1<vs.size)(e5:vs[2]?=aj .none)
  (h:∀h',pV B (env::outer) x C (fg L) h'->s.heap.UpToSlots h'->Q () {s with heap:=h' }) :
  dh M A (do let a ←frameOf env;let pl ←entryPlaceOf L qB;let b ←EntryCells.newEntry head a .none (fg L) .none pl;setField (.ref x) 1 b) Q E s:=by
 have nf:x∉(env::outer).filterMap (·.frame):=λm=>by
  let⟨_,u,hu,hn⟩:=fu.mem m;rw[e1]at hu;cases hu;exact hn vs e3
 refine aq (wpAny_frameOf_fun kA fu hf λk so=>aq (wpAny_entryPlaceOf λpl gE=>?_));unfold EntryCells.newEntry newFields;refine aq (qj ?_ (gE.sizeOk5 _ _ _ _ _));have k1:k.get? x=aj o:=(so.2.1 x nf).trans e1;have MR:k.objs.size≠x:=λz=>absurd (ig k1) (by rw[z];exact rm _);have kB:∀b u,B.get? b=aj u->k.get? b=aj u:=λb u q=>(so.2.1 b λm=>by rw[(fu.mem m).1]at q;cases q).trans (st b u q);generalize hT:({cls:=.type "traceback",dict:=none,data:=.fields ([head,.ref L,.none,fg L,.none]++(if pl.isEmpty then x5 6 bh.none else pl)).toArray}:Obj)=oT;have p1:(k.push oT).get? x=aj o:=cu _ k1;let⟨u1,u2,u3,u4⟩:=rW (i:=1) (v:=.ref k.objs.size) p1 e3;have keep:∀b u,b≠x->k.get? b=aj u->((k.push oT).update x (Obj.mapFields (·.setIfInBounds 1 (.ref k.objs.size)))).get? b=aj u:=λb u n q=>(u4 b n).trans (cu _ q)
 have pT:(k.push oT).get? k.objs.size=aj oT:=by
  subst hT;exact gw k rfl
 refine vm p1 e3 e4 (h _ ⟨λb u q=>keep b u (λz=>by subst z;rw[nw]at q;cases q) (kB b u q),nw,fu.of_keeps λb u q n=>?_,⟨_,_,k.objs.size,oT,_,u1,u3.trans e2,u2,?_,?_,?_,MR,(u4 _ MR).trans pT,by rw[←hT],?_⟩⟩ λb u q n=>?_)
 .obtain⟨sl,z⟩:=so.2.2 b u q;exact⟨_,keep b _ (Bh e1 e3 q n) z,rfl⟩
 .simp[e4]
 .rw[Array.getElem?_setIfInBounds_ne (by decide)];exact e5
 .cases q:B.get? k.objs.size with
  |none=>rfl
  |some u=>exact absurd (ig (kB _ u q)) (rm _)
 .first|(simp;done)|(rcases gE with rfl|⟨_,_,_,_,_,_,_,rfl⟩<;>simp)
 .obtain⟨sl,z⟩:=so.2.2 b u q;exact⟨sl,keep b _ (Bh e1 e3 q n) z⟩
def P8(kA:A.frames=aj (env::outer))(hf:env.frame=aj L)(f:qo B (env::outer) x C s.heap)(h:∀h',pV B (env::outer) x C (fg L) h'->s.heap.UpToSlots h'->Q () {s with heap:=h' }):dh M A (noteFrame (.ref x) env) Q E s:=by
 let⟨st,nw,fu,⟨o,vs,T,oT,ts,e1,e2,e3,e4,e5,e6,e7,e8,e9,Ai⟩⟩:=f;unfold noteFrame;simp only[hf];refine aq (tu e1 e3 e4 ?_);rw[if_pos (by simp)];refine aq (tu e8 e9 Ai ?_);rw[if_neg (by simp[fg])];have l3:3<ts.size:=(zy.mp Ai).1;let⟨u1,u2,u3,u4⟩:=rW (i:=3) (v:=.none) e8 e9;refine aq (vm e8 e9 l3 ?_);refine Ra kA hf (λb u q=>(u4 b λz=>by subst z;rw[e6]at q;cases q).trans (st b u q)) nw (fu.of_keeps λb u q n=>⟨u,(u4 b (Bh e8 e9 q n)).trans q,rfl⟩) ((u4 x (Ne.symm e7)).trans e1) e2 e3 (zy.mp e4).1 e5 λh' f' up=>h h' f' ?_;exact λb u q n=>up b u ((u4 b (Bh e8 e9 q n)).trans q) n
def pV.tail(f:pV B (env::outer) x C fl h):pV B outer x C fl h:=by
 let⟨st,nw,⟨_,_,fu⟩,tr⟩:=f;exact⟨st,nw,fu,tr⟩
def Yo(kA:A.frames=aj (env::outer))(hf:env.frame=aj L)(f:qo B (env::outer) x C s.heap)(h:∀h',qo B outer x C h'->s.heap.UpToSlots h'->Q () {s with heap:=h' }):dh M A (leaving env (.ref x)) Q E s:=by
 unfold leaving;refine aq (P8 kA hf f λh1 f1 up1=>Fx f1 λh2 f2 Hd=>?_);exact h h2 f2.tail (up1.trans Hd)
def π{h0:jw}(kA:A.frames=aj (env::outer))(hf:env.frame=aj L)(st:B.StaysIn h0)(fu:h0.FunFrames B (env::outer))(hm:Gg h0 s.heap x C us)(h:∀h',qo B outer x C h'->s.heap.UpToSlots h'->Q () {s with heap:=h' }):dh M A (leaving env (.ref x)) Q E s:=by
 let⟨t,e1,_,_⟩:=hm.there;unfold leaving noteFrame;simp only[hf];refine aq (aq (tu (vs:=#[.ref t,.none,.none,.none,.bool ao,.none]) (i:=1) e1 rfl rfl ?_));rw[if_neg (by simp)]
 have nw:B.get? x=au:=by
  cases q:B.get? x with
  |none=>rfl
  |some u=>have:=st x u q;rw[hm.new]at this;cases this
 refine Ra kA hf (λb u q=>hm.keeps b u (st b u q)) nw (fu.of_keeps λb u q _=>⟨u,hm.keeps b u q,rfl⟩) e1 rfl rfl (by simp) rfl λh1 f1 up1=>Fx f1 λh2 f2 Hd=>?_;exact h h2 f2.tail (up1.trans Hd)
end
abbrev nK(A:jd)(h:jw):Prop:=A.handled=au∨∃x o vs,A.handled=aj (.ref x)/\h.get? x=aj o/\o.data=.fields vs/\vs[2]?=aj .none
def adP:entryFor table "proto.unchain"=aj Builtin.«proto.unchain» :=entryFor_of_fast (by nofun)
section
variable{prog:jr}{w:je}{A:jd}{E:bh->dg->Prop}{s:dg}
def Zs{α:Type}{Q:α->dg->Prop}{a:bw}{oa:Obj}{ws:Array bh}(hq:nK A s.heap)(ea:s.heap.get? a=aj oa)(da:oa.data=.fields ws)(la:2<ws.size)(na:∀x,A.handled=aj (.ref x)->x≠a)
  (h:∀h',(∀b,b≠a->h'.get? b=s.heap.get? b)->(∃o,h'.get? a=aj o/\o.cls=oa.cls)->E (.ref a) {s with heap:=h' }):dh (dz prog w) A (raiseNew (.ref a):Sem α) Q E s:=by
 unfold raiseNew;refine aq (wpAny_handled ?_);rcases hq with hn|⟨x,o,vs,hx,ex,dx,vx⟩
 .rw[hn];exact aq (cj (wpAny_throw (h s.heap (λ_ _=>rfl) ⟨oa,ea,rfl⟩)))
 .rw[hx];have ne:=na x hx;show dh (dz prog w) _ (if((bh.ref x)!=(bh.ref a))=ak then _ else _) _ _ _;rw[if_pos (by simpa using ne)];refine aq (uh (wpAny_runValue (codeAny_builtin adP ?_)));show dh (dz prog w) _ (field (.ref x) 2 >>= _) _ _ _;refine aq (tu ex dx vx ?_);show dh (dz prog w) _ (if((bh.none:bh)==bh.none)=ak then _ else _) _ _ _;rw[if_pos (by decide)];refine aq (cj (cj ?_));let⟨u1,u2,u3,u4⟩:=rW (i:=2) (v:=.ref x) ea da;show dh (dz prog w) _ (setField (.ref a) 2 (.ref x) >>= _) _ _ _;exact aq (vm ea da la (wpAny_throw (h _ u4 ⟨_,u1,u3⟩)))
def tK{α:Type}{Q:α->dg->Prop}(hq:nK A s.heap)(h:∀a h',(∀b o,s.heap.get? b=aj o->h'.get? b=aj o)->(∃o,h'.get? a=aj o/\o.cls=.type "StopIteration")->E (.ref a) {s with heap:=h' }) :
  dh (dz prog w) A (newExc (.type "StopIteration") [] >>= λe=>(raiseNew e:Sem α)) Q E s:=by
 refine aq ?_;unfold newExc newTuple;refine aq (qj (aq (wpAny_of_eq (a:=Value.none) (by simp only[Mc];rfl) (qj ?_ (by size_fits)))) (by size_fits));generalize hh:s.heap.push {cls:=.type "tuple",data:=.seq ([]:List bh).toArray}=h1;generalize ho:({cls:=.type "StopIteration",data:=.fields (#[.ref s.heap.objs.size,.none,.none,.none,.bool ao,.none]++ownMembersOf (.type "StopIteration") [])}:Obj)=o1;have k1:∀b o,s.heap.get? b=aj o->(h1.push o1).get? b=aj o:=λb o e=>cu _ (hh ▸ cu _ e)
 have ea:(h1.push o1).get? h1.objs.size=aj o1:=by
  subst ho;exact gw h1 rfl
 have old:∀b o,s.heap.get? b=aj o->b≠h1.objs.size:=λb o e z=>by
  have l1:b<h1.objs.size:=by
   rw[←hh,Gf];exact Nat.lt_succ_of_lt (ig e)
  exact absurd l1 (by rw[z];exact rm _)
 refine Zs (ws:=#[.ref s.heap.objs.size,.none,.none,.none,.bool ao,.none]++ownMembersOf (.type "StopIteration") []) ?_ ea (by rw[←ho]) (by simp[ownMembersOf]) (λx hx=>?_) λh' k c=>h h1.objs.size h' (λb o e=>(k b (old b o e)).trans (k1 b o e)) ?_
 .rcases hq with z|⟨x,o,vs,a1,a2,a3⟩
  .exact .inl z
  .exact .inr ⟨x,o,vs,a1,k1 _ _ a2,a3⟩
 .rcases hq with z|⟨x',o,vs,a1,a2,a3⟩
  .rw[z]at hx;cases hx
  .rw[a1]at hx;cases hx;exact old _ _ a2
 .obtain⟨o,e,c⟩:=c;exact⟨o,e,by rw[c,←ho]⟩
def xJ{T id:String}{b:Builtin}(slot:Slot T (Str.ofString "__next__") id)(entry:entryFor table id=aj b)(hT:s.TypeIs (.ref it) T)(args:argsOk id ⟨[.ref it],[]⟩)
  (hb:dh (dz prog w) A.in1 (b ⟨[.ref it],[]⟩) (λ_ _=>False) (λe s'=>∃a o,e=.ref a/\s'.heap.get? a=aj o/\o.cls=.type "StopIteration"/\Q au s') s):dh (dz prog w) A (eS (.ref it)) Q E s:=by
 unfold eS;refine aq (xS (zc hT slot (uw slot hT entry (ql hb (λ_ _ z=>z.elim) λe s' z=>?_) args)));let⟨a,o,rfl,e1,e2,q⟩:=z;exact aq (wpAny_isInstance (T:="StopIteration") (b:=true) ⟨o,e1,e2⟩ isSubtype_stop (cj q))
def Fw{o:Obj}{i:Nat}(hq:nK A s.heap)(e:s.heap.get? it=aj o)(d:o.data=.fields vs)(l:vs[2]?≠aj .none):nK A (s.heap.update it (Obj.mapFields (·.setIfInBounds i v))):=by
 rcases hq with z|⟨x,ox,ws,a1,a2,a3,a4⟩
 .exact .inl z
 .refine .inr ⟨x,ox,ws,a1,?_,a3,a4⟩
  have ne:x≠it:=λz=>by
   subst z;rw[e]at a2;cases a2;rw[d]at a3;cases a3;exact l a4
  exact((rW e d).2.2.2 x ne).trans a2
def Zr{i:Nat}{items:Array bh}(hq:nK A s.heap)(hit:s.heap.IsListIter it l i)(hl:s.heap.IsList l items)(hx:items[i]?=au)
  (h:∀h',xI it s.heap h'->Q au {s with heap:=h' }):dh (dz prog w) A (eS (.ref it)) Q E s:=by
 let⟨o,e1,c1,d1⟩:=id hit;let⟨ol,e2,_,nl,d2⟩:=hl;refine xJ slot_listiter_next entry_listiter_next hit.typeIs (args_listiter_next _) ?_;show dh (dz prog w) _ (field (.ref it) 0 >>= _) _ _ s;refine aq (tu e1 d1 (x:=.ref l) rfl ?_);show dh (dz prog w) _ (field (.ref it) 1 >>= _) _ _ s;refine aq (tu e1 d1 (x:=.int i 0) rfl ?_);show dh (dz prog w) _ (seqItems? (.ref l) >>= _) _ _ s;refine aq (CU e2 d2 ?_);simp only[hx,zf];refine aq (yc (aq (vm e1 d1 (by simp) ?_)));refine tK (A:=A.in1) (Fw hq e1 d1 (by simp)) λa h' k c=>?_;let⟨oa,ea,ca⟩:=c;exact⟨a,oa,rfl,ea,ca,h h' λb ob n e=>k b ob (((rW e1 d1).2.2.2 b n).trans e)⟩
def Yn{i:Nat}{items:Array bh}(hq:nK A s.heap)(hit:s.heap.IsTupleIter it l i)(hl:s.heap.IsTuple l items)(hx:items[i]?=au)
  (h:∀h',xI it s.heap h'->Q au {s with heap:=h' }):dh (dz prog w) A (eS (.ref it)) Q E s:=by
 let⟨o,e1,c1,d1⟩:=id hit;let⟨ol,e2,_,nl,d2⟩:=hl;refine xJ F.slot_tuple_iterator_next F.entry_tuple_iterator_next hit.typeIs (F.args_tuple_iterator_next_1 _) ?_;show dh (dz prog w) _ (field (.ref it) 0 >>= _) _ _ s;refine aq (tu e1 d1 (x:=.ref l) rfl ?_);show dh (dz prog w) _ (field (.ref it) 1 >>= _) _ _ s;refine aq (tu e1 d1 (x:=.int i 0) rfl ?_);show dh (dz prog w) _ (seqItems? (.ref l) >>= _) _ _ s;refine aq (CU e2 d2 ?_);simp only[hx,zf];refine aq (yc (aq (vm e1 d1 (by simp) ?_)));refine tK (A:=A.in1) (Fw hq e1 d1 (by simp)) λa h' k c=>?_;let⟨oa,ea,ca⟩:=c;exact⟨a,oa,rfl,ea,ca,h h' λb ob n e=>k b ob (((rW e1 d1).2.2.2 b n).trans e)⟩
def Ym{x left step:Int}(hq:nK A s.heap)(hit:IsRangeIter s.heap it x left step)(DO:left<=0)
  (h:∀h',xI it s.heap h'->Q au {s with heap:=h' }):dh (dz prog w) A (eS (.ref it)) Q E s:=by
 refine xJ F.slot_range_iterator_next F.entry_range_iterator_next ⟨_,hit,rfl⟩ (F.args_range_iterator_next_1 _) ?_;show dh (dz prog w) _ (field (.ref it) 0 >>= _) _ _ s;refine aq (tu hit rfl (i:=0) rfl ?_);show dh (dz prog w) _ (field (.ref it) 1 >>= _) _ _ s;refine aq (tu hit rfl (i:=1) rfl ?_);show dh (dz prog w) _ (field (.ref it) 2 >>= _) _ _ s;refine aq (tu hit rfl (i:=2) rfl ?_);show dh (dz prog w) _ (if left<=0 then _ else _) _ _ s;rw[if_pos DO];refine aq (yc (aq ?_));refine tK (A:=A.in1) hq λa h' k c=>?_;let⟨oa,ea,ca⟩:=c;exact⟨a,oa,rfl,ea,ca,h h' λb ob n e=>k b ob e⟩
def Zq{x:Str}{t:Tok}{i:Nat}(hq:nK A s.heap)(hit:s.heap.IsStrIter it "str_ascii_iterator" x t i)(hx:x.cps[i]?=au)
  (h:∀h',xI it s.heap h'->Q au {s with heap:=h' }):dh (dz prog w) A (eS (.ref it)) Q E s:=by
 let⟨o,e1,c1,d1⟩:=id hit;refine xJ F.slot_str_ascii_iterator_next F.entry_str_ascii_iterator_next hit.typeIs (F.args_str_ascii_iterator_next_1 _) ?_;show dh (dz prog w) _ (field (.ref it) 0 >>= _) _ _ s;refine aq (tu e1 d1 (x:=.str x t) rfl ?_);show dh (dz prog w) _ (field (.ref it) 1 >>= _) _ _ s;refine aq (tu e1 d1 (x:=.int i 0) rfl ?_);simp only[hx,zf];refine aq (yc (aq (vm e1 d1 (by simp) (aq (wpAny_letGo ?_)))));refine tK (A:=A.in1) (Fw hq e1 d1 (by simp)) λa h' k c=>?_;let⟨oa,ea,ca⟩:=c;exact⟨a,oa,rfl,ea,ca,h h' λb ob n e=>k b ob (((rW e1 d1).2.2.2 b n).trans e)⟩
def Zp{x:Str}{t:Tok}{i:Nat}(hq:nK A s.heap)(hit:s.heap.IsStrIter it "str_iterator" x t i)(hx:x.cps[i]?=au)
  (h:∀h',xI it s.heap h'->Q au {s with heap:=h' }):dh (dz prog w) A (eS (.ref it)) Q E s:=by
 let⟨o,e1,c1,d1⟩:=id hit;refine xJ F.slot_str_iterator_next F.entry_str_iterator_next hit.typeIs (F.args_str_iterator_next_1 _) ?_;show dh (dz prog w) _ (field (.ref it) 0 >>= _) _ _ s;refine aq (tu e1 d1 (x:=.str x t) rfl ?_);show dh (dz prog w) _ (field (.ref it) 1 >>= _) _ _ s;refine aq (tu e1 d1 (x:=.int i 0) rfl ?_);simp only[hx,zf];refine aq (yc (aq (vm e1 d1 (by simp) (aq (wpAny_letGo ?_)))));refine tK (A:=A.in1) (Fw hq e1 d1 (by simp)) λa h' k c=>?_;let⟨oa,ea,ca⟩:=c;exact⟨a,oa,rfl,ea,ca,h h' λb ob n e=>k b ob (((rW e1 d1).2.2.2 b n).trans e)⟩
end
end
section
@[simp]def Key:=Sum Int Str
abbrev sM:Key->bh->Bool
 |.inl k,v=>bh.isInt k v
 |.inr x,v=>bh.isStrOf x v
abbrev aSZ(w:je):Key->Int
 |.inl k=>hashInt k
 |.inr x=>hashStr w x
def cZ:∀{k:Key}{v:bh},sM k v=ak->(∃i t,k=Sum.inl i/\v=bh.int i t)∨(∃x t,k=Sum.inr x/\v=bh.str x t)
 |.inl i,v,h=>by
  let⟨t,e⟩:=Value.isInt_shape (k:=i) (v:=v) h;exact .inl ⟨i,t,rfl,e⟩
 |.inr x,v,h=>by
  let⟨t,e⟩:=Value.isStrOf_shape (x:=x) (v:=v) h;exact .inr ⟨x,t,rfl,e⟩
def Zo(i:Int)(t:Tok):sM (.inl i) (.int i t)=ak:=by simp[sM,bh.isInt]
def Zn(x:Str)(t:Tok):sM (.inr x) (.str x t)=ak:=by simp[sM,bh.isStrOf]
def aH7(a b:Int):decide ((Sum.inl a:Key)=Sum.inl b)=(a==b):=by
 by_cases e:a=b
 .subst e;simp
 .have h:¬ (Sum.inl a:Key)=Sum.inl b:=λq=>e (Sum.inl.inj q);rw[decide_eq_false h];exact(beq_eq_false_iff_ne.mpr e).symm
def aH8(a b:Str):decide ((Sum.inr a:Key)=Sum.inr b)=decide (a=b):=by
 by_cases e:a=b
 .subst e;simp
 .have h:¬ (Sum.inr a:Key)=Sum.inr b:=λq=>e (Sum.inr.inj q);rw[decide_eq_false h,decide_eq_false e]
def aH9(a:Int)(b:Str):decide ((Sum.inl a:Key)=Sum.inr b)=ao:=decide_eq_false (λq=>nomatch q)
def aHA(a:Str)(b:Int):decide ((Sum.inr a:Key)=Sum.inl b)=ao:=decide_eq_false (λq=>nomatch q)
abbrev aG(prog:jr)(w:je):PySem.KeyKind prog w Key where
 is:=sM
 hash:=aSZ w
 inj:=λv a b ha hb=>by
  rcases cZ ha with⟨i,t,rfl,rfl⟩|⟨x,t,rfl,rfl⟩
  .rcases cZ hb with⟨j,u,rfl,e⟩|⟨y,u,rfl,e⟩
   .injection e with e1 _;rw[e1]
   .exact nomatch e
  .rcases cZ hb with⟨j,u,rfl,e⟩|⟨y,u,rfl,e⟩
   .exact nomatch e
   .injection e with e1 _;rw[e1]
 byValue:=λk v h=>by
  rcases cZ h with⟨i,t,rfl,rfl⟩|⟨x,t,rfl,rfl⟩<;>rfl
 pyHash:=λhv h=>by
  rcases cZ hv with⟨i,t,rfl,rfl⟩|⟨x,t,rfl,rfl⟩
  .exact wpAny_pyHash_int h
  .exact wpAny_pyHash_str h
 eqBool:=λhu hv h=>by
  rcases cZ hu with⟨i,t,rfl,rfl⟩|⟨x,t,rfl,rfl⟩
  .rcases cZ hv with⟨j,u,rfl,rfl⟩|⟨y,u,rfl,rfl⟩
   .rw[aH7]at h;exact wpAny_eqBool_int h
   .rw[aH9]at h;exact SeqAt.EqAt.int_str i t y u _ _ _ _ h
  .rcases cZ hv with⟨j,u,rfl,rfl⟩|⟨y,u,rfl,rfl⟩
   .rw[aHA]at h;exact SeqAt.EqAt.str_int x t j u _ _ _ _ h
   .rw[aH8]at h;exact wpAny_eqBool_str h
 «strs» :=λk x t v h=>by
  rcases cZ h with⟨i,u,rfl,e⟩|⟨y,u,rfl,e⟩
  .exact nomatch e
  .injection e with e1 _;subst e1;cases v<;>rfl
def T8(prog:jr)(w:je)(i:Int)(t:Tok):(aG prog w).is (.inl i) (.int i t)=ak:=Zo i t
def aj7(prog:jr)(w:je)(x:Str)(t:Tok):(aG prog w).is (.inr x) (.str x t)=ak:=Zn x t
end
section
inductive V where
 |ag|bl (b:Bool)|int (i:Int)|str (x:Str)|Am (b:Array UInt8)|Ae (b:UInt64)|ref (a:bw)|ty (n:String)
 deriving DecidableEq
abbrev RelV:V->bh->Prop
 |.ag,u=>u=bh.none
 |.bl b,u=>u=bh.bool b
 |.int i,u=>∃t,u=bh.int i t
 |.str x,u=>∃t,u=bh.str x t
 |.Am b,u=>∃t,u=bh.bytes b t
 |.Ae b,u=>∃t,u=bh.float b t
 |.ref a,u=>u=bh.ref a
 |.ty n,u=>u=bh.type n
@[simp]def Vals:List V->List bh->Prop:=Paired RelV
def Vals.length{xs:List V}{us:List bh}(r:Vals xs us):xs.length=us.length:=Paired.length r
def Vals.get:∀{xs:List V}{us:List bh}{i:Nat}{x:V},Vals xs us->xs[i]?=aj x->∃u,us[i]?=aj u/\RelV x u
 |_,_,_,_,.nil,e=>by simp at e
 |_,_,0,_,.cons r _,e=>by simp at e;subst e;exact⟨_,rfl,r⟩
 |_,_,i+1,x,.cons _ t,e=>by
  let⟨u,h1,h2⟩:=Vals.get (i:=i) (x:=x) t (by simpa using e);exact⟨u,by simpa using h1,h2⟩
def Vals.append:∀{xs ys:List V}{us ws:List bh},Vals xs us->Vals ys ws->Vals (xs++ys) (us++ws)
 |_,_,_,_,.nil,s=>s
 |_,_,_,_,.cons r t,s=>.cons r (Vals.append t s)
def Vals.take:∀{xs:List V}{us:List bh}(n:Nat),Vals xs us->Vals (xs.take n) (us.take n)
 |_,_,0,_=>.nil
 |_,_,_+1,.nil=>.nil
 |_,_,n+1,.cons r t=>.cons r (Vals.take n t)
def Vals.drop:∀{xs:List V}{us:List bh}(n:Nat),Vals xs us->Vals (xs.drop n) (us.drop n)
 |_,_,0,r=>r
 |_,_,_+1,.nil=>.nil
 |_,_,n+1,.cons _ t=>Vals.drop n t
abbrev yU:Option V->Option bh->Prop
 |some v,aj u=>RelV v u
 |none,au=>True
 |_,_=>False
abbrev KV{κ:Type}:List (κ×V)->List (κ×bh)->Prop:=Paired λ(p:κ×V)(q:κ×bh)=>p.1=q.1/\RelV p.2 q.2
abbrev kV:Key->V
 |.inl i=>.int i
 |.inr x=>.str x
inductive HO where
 |lst (xs:List V)
 |tup (xs:List V)
 |dK (kvs:List (Key×V))|dT (kvs:List (List Key×V))
 |set (S:Int->Bool) (n:Nat)
 |ins (C dx:bw) (fs:List (Str×V))
 |own (x:bw)
 |xd (fs:List (Str×V))
 |met (f x:bw)
 |DX (lo hi:Int)
 |jX (o:Obj) (u:HO)
 |ij (ps:Array bh)
 |ext (φ:jw->Prop)
@[simp]def Hp:=Addr->Option HO
abbrev upd(H:Hp)(a:bw)(o:HO):Hp:=λb=>if b=a then aj o else H b
def aL{a:bw}{o:HO}:upd H a o a=aj o:=by unfold upd;rw[if_pos rfl]
def aY{a b:bw}{o:HO}(h:b≠a):upd H a o b=H b:=by unfold upd;rw[if_neg h]
def IW{H:Hp}{a b:bw}{o u:HO}(h:H a=aj o)(h':H b=aj u)(d:o≠u):a≠b:=by
 intro e;subst e;rw[h]at h';exact d (jk.inj h')
def pA{H:Hp}{a b:bw}{o:HO}(h:H a=aj o)(h':H b=au):a≠b:=by
 intro e;subst e;rw[h]at h';cases h'
section
variable(P:jr)(w:je)
abbrev j8(H:Hp)(h:jw)(a:bw):HO->Prop
 |.lst xs=>xs.length<=dj/\∃(its:List bh)(n:Nat),Vals xs its/\h.get? a=aj {cls:=.type "list",data:=.seq its.toArray n}
 |.tup xs=>xs.length<=dj/\∃its:List bh,Vals xs its/\IsTup h a its.toArray
 |.dK kvs=>kvs.length<=dj/\(a==um)=ao/\∃vs,KV kvs vs/\h.DictOf (aG P w) a vs
 |.dT kvs=>kvs.length<=dj/\(a==um)=ao/\∃xs:List (List Key×bw×bh),
   Paired (λ(p:List Key×V)(q:List Key×bw×bh)=>p.1=q.1/\H q.2.1=aj (.tup (p.1.map kV))/\RelV p.2 q.2.2) kvs xs /\
   ∃o es ep,h.get? a=aj o/\o.ExactDict/\o.data=.dict es ep/\es.toList=xs.map (entryOfKey (qf (aG P w)))/\(xs.map (·.1)).Nodup
 |.set S n=>h.SetOf (intKind P w) a S n
 |.ins C dx fs=>H dx=aj (.own a)/\fs.length<=1000/\dx≠a/\h.get? a=aj (tJ C dx) /\
   ∃mA,h.Ns1 dx mA/\(∀f,yU (fs.lookup f) (mA f))/\PySem.Within mA (fs.map (·.1))
 |.own _=>∃o,h.get? a=aj o
 |.xd fs=>∃mA,h.Ns1 a mA/\∀f,yU (fs.lookup f) (mA f)
 |.DX lo hi=>∃t u v,h.get? a=aj {cls:=.type "range",data:=.fields #[.int lo t,.int hi u,.int 1 v]}
 |.jX o u=>h.get? a=aj o/\j8 H h a u
 |.ij ps=>h.get? a=aj {cls:=.none,data:=.fields ps}
 |.met f x=>h.get? a=aj (PySem.W.methodObj (.ref f) (.ref x))
 |.ext φ=>φ h/\(∃o,h.get? a=aj o)/\∀h1 h2:jw,φ h1->(∀o,h1.get? a=aj o->h2.get? a=aj o)->φ h2
abbrev bq(H:Hp)(h:jw):Prop:=∀a o,H a=aj o->j8 P w H h a o
end
section
variable{w:je}{h h':jw}{a:bw}{o:HO}
def j8.lt(x:j8 P w H h a o):a<h.objs.size:=by
 cases o with
 |lst xs=>let⟨_,_,_,_,e⟩:=x;exact ig e
 |tup xs=>let⟨_,_,_,p⟩:=x;exact p.lt
 |dK kvs=>let⟨_,_,_,_,o,_,_,e,_⟩:=x;exact ig e
 |dT kvs=>let⟨_,_,_,_,o,_,_,e,_⟩:=x;exact ig e
 |set S n=>let⟨o,_,_,_,e,_⟩:=x;exact ig e
 |ins C dx fs=>let⟨_,_,_,e,_⟩:=x;exact ig e
 |own y=>let⟨_,e⟩:=x;exact ig e
 |xd fs=>let⟨_,⟨_,_,_,e,_⟩,_⟩:=x;exact ig e
 |DX lo hi=>let⟨_,_,_,e⟩:=x;exact ig e
 |jX ob u=>let⟨e,_⟩:=x;exact ig e
 |ij ps=>exact ig (show h.get? a=aj _ from x)
 |met f y=>exact ig (show h.get? a=aj _ from x)
 |ext φ=>let⟨_,⟨_,e⟩,_⟩:=x;exact ig e
def Paired.FU{α β:Type}{F G:α->β->Prop}:∀{DA:List α}{Dz:List β},Paired F DA Dz->(∀a b,F a b->G a b)->Paired G DA Dz
 |_,_,.nil,_=>.nil
 |_,_,.cons r t,f=>.cons (f _ _ r) (Paired.FU t f)
def j8.cf(x:j8 P w H h a o)(k:∀b u,(b=a∨H b=aj (.own a))->h.get? b=aj u->h'.get? b=aj u)
  (ho:∀b,H b=aj (.own a)->H' b=aj (.own a))(ht:∀b xs,H b=aj (.tup xs)->H' b=aj (.tup xs)):j8 P w H' h' a o:=by
 induction o with
 |lst xs=>let⟨z,its,n,r,e⟩:=x;exact⟨z,its,n,r,k _ _ (.inl rfl) e⟩
 |tup xs=>let⟨z,its,r,ob,e,c⟩:=x;exact⟨z,its,r,ob,k _ _ (.inl rfl) e,c⟩
 |dK kvs=>let⟨z,y,vs,r,ob,es,ep,e,c⟩:=x;exact⟨z,y,vs,r,ob,es,ep,k _ _ (.inl rfl) e,c⟩
 |dT kvs =>
  let⟨z,y,xs,r,ob,es,ep,e,c⟩:=x;exact⟨z,y,xs,Paired.FU r λp q z=>⟨z.1,ht _ _ z.2.1,z.2.2⟩,ob,es,ep,k _ _ (.inl rfl) e,c⟩
 |set S n=>let⟨ob,es,ep,t,e,c⟩:=x;exact⟨ob,es,ep,t,k _ _ (.inl rfl) e,c⟩
 |ins C dx fs =>
  let⟨d,z,ne,e,mA,⟨od,es,ep,e2,c⟩,r⟩:=x;exact⟨ho _ d,z,ne,k _ _ (.inl rfl) e,mA,⟨od,es,ep,k _ _ (.inr d) e2,c⟩,r⟩
 |own y=>let⟨ob,e⟩:=x;exact⟨ob,k _ _ (.inl rfl) e⟩
 |xd fs=>let⟨mA,⟨od,es,ep,e,c⟩,r⟩:=x;exact⟨mA,⟨od,es,ep,k _ _ (.inl rfl) e,c⟩,r⟩
 |DX lo hi=>let⟨t,u,v,e⟩:=x;exact⟨t,u,v,k _ _ (.inl rfl) e⟩
 |jX ob u ih=>let⟨e,q⟩:=x;exact⟨k _ _ (.inl rfl) e,ih q⟩
 |ij ps =>
  have e:h.get? a=aj {cls:=.none,data:=.fields ps}:=x;show h'.get? a=aj {cls:=.none,data:=.fields ps};exact k a _ (.inl rfl) e
 |met f y =>
  have e:h.get? a=aj (PySem.W.methodObj (.ref f) (.ref y)):=x;show h'.get? a=aj (PySem.W.methodObj (.ref f) (.ref y));exact k a _ (.inl rfl) e
 |ext φ=>let⟨p,⟨o,e⟩,st⟩:=x;exact⟨st _ _ p λo q=>k _ _ (.inl rfl) q,⟨o,k _ _ (.inl rfl) e⟩,st⟩
def bq.lt(x:bq P w H h)(e:H a=aj o):a<h.objs.size:=(x a o e).lt
def bq.fresh(x:bq P w H h)(e:h.objs.size<=a):H a=au:=by
 cases q:H a with
 |none=>rfl
 |some u=>exact absurd (jf (x.lt q) e) (rm _)
def bq.kept(x:bq P w H h)(k:∀b u,h.get? b=aj u->h'.get? b=aj u):bq P w H h':=λa o e =>
 (x a o e).cf (λb u _ q=>k b u q) (λ_ q=>q) λ_ _ q=>q
def bq.laid(x:bq P w H h)(k:∀b u,h.get? b=aj u->h'.get? b=aj u)(hp:h.objs.size<=a)(new:j8 P w (upd H a o) h' a o):bq P w (upd H a o) h':=λb u e=>by
 have hn:=x.fresh hp;by_cases hb:b=a
 .subst hb;rw[aL]at e;cases e;exact new
 .rw[aY hb]at e;exact(x b u e).cf (λc v _ q=>k c v q) (λc q=>by rw[aY (pA q hn)];exact q) λc xs q=>by rw[aY (pA q hn)];exact q
end
abbrev Rd(H:Hp)(a:bw)(u:HO):Prop:=H a=aj u∨∃o,H a=aj (.jX o u)
def Rd.of{a:bw}(h:H a=aj u):Rd H a u:=.inl h
def Rd.ok{w:je}{a:bw}(r:Rd H a u)(x:bq P w H h):j8 P w H h a u:=by
 rcases r with r|⟨o,r⟩
 .exact x a u r
 .obtain⟨_,q⟩:=x a _ r;exact q
abbrev Dt:Option HO->Prop
 |some (.lst _)=>True
 |some (.dK _)=>True
 |some (.dT _)=>True
 |some (.set _ _)=>True
 |some (.ins _ _ _)=>True
 |some (.ext _)=>True
 |_=>False
section
variable{w:je}{h h':jw}{x:bw}
def bq.write(ok:bq P w H h)(mu:Dt (H x))(he:e=x∨H e=aj (.own x))(k:∀b u,b≠e->h.get? b=aj u->h'.get? b=aj u)(Ab:∃u,h'.get? e=aj u)
  (new:j8 P w (upd H x o') h' x o'):bq P w (upd H x o') h':=λb u q=>by
 have SV:∀c y,H c=aj (.own y)->c≠x:=λc y r z=>by subst z;rw[r]at mu;exact mu
 have aT0:∀c xs,H c=aj (.tup xs)->c≠x:=λc xs r z=>by subst z;rw[r]at mu;exact mu
 by_cases hb:b=x
 .subst hb;rw[aL]at q;cases q;exact new
 .rw[aY hb]at q;by_cases vT:b=e
  .have q':H b=aj (.own x):=by
    rcases he with z|z
    .exact absurd (vT.trans z) hb
    .rw[vT];exact z
   rw[q]at q';cases q';let⟨v,hv⟩:=Ab;exact⟨v,by rw[vT];exact hv⟩
  .refine(ok b u q).cf (λc v hc r=>k c v ?_ r) (λc r=>by rw[aY (SV c b r)];exact r) λc xs r=>by rw[aY (aT0 c xs r)];exact r
   rcases hc with rfl|hc
   .exact vT
   .rintro rfl;rcases he with z|z
    .exact SV c b hc z
    .rw[hc]at z;cases z;exact hb rfl
end
structure Un(fs ex:List bw)(H H':Hp)(h h':jw):Prop where
 keep:∀b o,h.get? b=aj o->H b=au->b∉fs->b∉ex->h'.get? b=aj o
 slot:∀b o,h.get? b=aj o->H b=au->b∈fs->b∉ex->∃sl,h'.get? b=aj {o with slots:=sl}
 free:∀b o,h.get? b=aj o->H b=au->b∉ex->H' b=au
 there:∀b o,h.get? b=aj o->b∉ex->∃o',h'.get? b=aj o'
 aI:∀b xs,H b=aj (.tup xs)->H' b=aj (.tup xs)
 pB:∀b o u,H b=aj (.jX o u)->H' b=aj (.jX o u)
 fT:∀b ps,H b=aj (.ij ps)->∃more,H' b=aj (.ij (ps++more))
section
variable{fs ex:List bw}{h h1 h':jw}{a x:bw}{o:HO}
def Un.any(u:Un fs ex H H1 h h1){b:bw}{ob:Obj}(q:h.get? b=aj ob)(n:H b=au)(hx:b∉ex):∃sl,h1.get? b=aj {ob with slots:=sl}:=by
 by_cases hb:b∈fs
 .exact u.slot b ob q n hb hx
 .exact⟨ob.slots,u.keep b ob q n hb hx⟩
def Un.kept(k:∀b u,h.get? b=aj u->h'.get? b=aj u):Un fs ex H H h h' :=
 ⟨λb ob q _ _ _=>k b ob q,λb ob q _ _ _=>⟨ob.slots,k b ob q⟩,λ_ _ _ n _=>n,λb ob q _=>⟨ob,k b ob q⟩,λ_ _ q=>q,λ_ _ _ q=>q,λ_ ps q=>⟨#[],by rw[q];simp⟩⟩
def Un.refl:Un fs ex H H h h:=Un.kept λ_ _ q=>q
def Un.laid(k:∀b u,h.get? b=aj u->h'.get? b=aj u)(hp:h.objs.size<=a)(hn:H a=au):Un fs ex H (upd H a o) h h' where
 keep:=λb u q _ _ _=>k b u q
 slot:=λb u q _ _ _=>⟨u.slots,k b u q⟩
 free:=λb u q n _=>by rw[aY (ju (jf (ig q) hp))];exact n
 there:=λb u q _=>⟨u,k b u q⟩
 aI:=λb xs q=>by rw[aY (pA q hn)];exact q
 pB:=λb u xs q=>by rw[aY (pA q hn)];exact q
 fT:=λb ps q=>⟨#[],by rw[aY (pA q hn),q];simp⟩
def Un.write(mu:Dt (H x))(he:e=x∨H e=aj (.own x))(k:∀b u,b≠e->h.get? b=aj u->h'.get? b=aj u)(Ab:∃u,h'.get? e=aj u):Un fs ex H (upd H x o) h h':=by
 have hx:∀b,H b=au->b≠x:=λb n z=>by subst z;rw[n]at mu;exact mu
 have hb:∀b,H b=au->b≠e:=λb n z=>by
  subst z;rcases he with r|r
  .exact hx b n r
  .rw[n]at r;cases r
 have hm:∀b u,H b=aj u->¬ Dt (aj u)->b≠x:=λb u q nm z=>by subst z;rw[q]at mu;exact nm mu
 refine⟨λb u q n _ _=>k b u (hb b n) q,λb u q n _ _=>⟨u.slots,k b u (hb b n) q⟩,λb u q n _=>by rw[aY (hx b n)];exact n,λb u q _=>?_,
  λb xs q=>by rw[aY (hm b _ q λz=>z)];exact q,λb u xs q=>by rw[aY (hm b _ q λz=>z)];exact q,λb ps q=>⟨#[],by rw[aY (hm b _ q λz=>z),q];simp⟩⟩
 by_cases vT:b=e
 .subst vT;exact Ab
 .exact⟨u,k b u vT q⟩
end
abbrev DU(h:jw)(H:Hp):List bw:=(lg h.objs.size).filter λa=>(H a).isSome
abbrev pS(h:jw)(H:Hp):jw:=Gi h (DU h H)
def Zm(h:jw)(H:Hp):(pS h H).objs.size=h.objs.size:=PySem.W.hideAll_size _ _
def Yl{b:bw}{o:Obj}(e:h.get? b=aj o)(n:H b=au):(pS h H).get? b=aj o :=
 PySem.W.hideAll_get _ e λhm=>by
  have q:(H b).isSome=ak:=(zq.mp hm).2;rw[n]at q;simp at q
def aBD{b:bw}{o:Obj}(e:(pS h H).get? b=aj o):h.get? b=aj o/\H b=au:=by
 have e':h.get? b=aj o:=PySem.W.of_hideAll (DU h H) e;refine⟨e',?_⟩;cases q:H b with
 |none=>rfl
 |some x =>
  have hm:b∈DU h H:=zq.mpr ⟨yx.mpr (ig e'),by simp[q]⟩;have z:(pS h H).get? b=au:=PySem.W.hideAll_none (DU h H) hm;rw[z]at e;cases e
abbrev aBE(g h:jw)(L:bw):List (bw×Obj):=(lg h.objs.size).filterMap λa=>if a=L∨(g.get? a).isSome=ak then au else(h.get? a).map λo=>(a,o)
abbrev rest(g h:jw)(L d:bw):List (bw×Obj):=(aBE g h L).filter λp=>decide (p.1≠d)
end
variable{v:V}{t':Nat}
section
structure Mod(K:iw)(mg:Str->Option bh)(base:jw):Prop where
 m4:K.In base
 glob:base.Ns jg mg
 blt:∃mb,base.Ns builtinsNs mb/\∀x:Str,x≠"__name__"->mb x=mz x
 nolimit:base.NoLimit
structure Cx where
 prog:jr
 w:je
 K:iw
 mg:Str->Option bh
 base:jw
 A:jd
 N:List Str
 av:dg
 az:Hp
 env:Env
 outer:List Env
 stack:List Env
 ex:List bw
 fn:Str->Bool
 calm:Bool
 pn:List (bw×Obj)
 tp:List (bw×List V)
 xe:bh->dg->Prop
abbrev frs(l:List Env):List bw:=l.filterMap (·.frame)
@[simp]def Cx.fs(X:Cx):List bw:=frs X.outer
abbrev yi(sc:di)(x:Str):Prop:=sc.names.lookup x=aj .local∨sc.names.lookup x=aj .cell∨sc.names.lookup x=aj .free
abbrev Loc(sc:di)(x:Str):Prop:=sc.names.lookup x=aj .local∨sc.names.lookup x=aj .cell
abbrev Look(env:Env)(h:jw)(m:Str->Option bh)(x:Str)(u:bh):Prop :=
 (env.kindOf x=aj .local/\m x=aj u)∨((env.kindOf x=aj .cell∨env.kindOf x=aj .free)/\∃c,env.cells.lookup x=aj c/\h.IsCell c (aj u))
structure Cx.Ok(X:Cx):Prop where
 mod:Mod X.K X.mg X.base
 kind:X.env.scope.kind=.function
 glob:X.env.globals=jg
 blt:X.env.builtins=builtinsNs
 above:X.av.heap.objs.size<=X.env.locals
 inj:∀x y c,X.env.cells.lookup x=aj c->X.env.cells.lookup y=aj c->x=y
 has:∀x,(X.env.kindOf x=aj .cell∨X.env.kindOf x=aj .free)->∃c,X.env.cells.lookup x=aj c
 rV:∀x c,X.fn x=ak->X.env.cells.lookup x=aj c->X.av.heap.objs.size<=c
 hd:X.calm=ak->X.A.handled=au
 frames:X.A.frames=aj X.stack
 i7:X.stack=X.outer∨(X.stack=X.env::X.outer/\X.env.frame=aj X.env.locals)
 BX:∀b∈X.ex,b≠X.env.locals/\∀x c,X.env.cells.lookup x=aj c->c≠b
 bs:∀b o,X.base.get? b=aj o->X.av.heap.get? b=aj o/\X.az b=au
 kG:X.base.objs.size<=X.av.heap.objs.size
 sv:∀b o,X.base.get? b=aj o->b∉X.ex
 xh:∀b∈X.ex,b∉X.fs
 gS:X.av.heap.FunFrames X.base X.outer
 nh:∀b∈X.fs,X.az b=au
abbrev uA(A:jd)(H:Hp):Prop:=A.handled=au∨∃x o u vs,A.handled=aj (.ref x)/\H x=aj (.jX o u)/\o.data=.fields vs/\vs[2]?=aj .none
def uA.mono{A:jd}(h:uA A H)(f:∀b o u,H b=aj (.jX o u)->H' b=aj (.jX o u)):uA A H':=by
 rcases h with z|⟨x,o,u,vs,a,b,c⟩
 .exact .inl z
 .exact .inr ⟨x,o,u,vs,a,f _ _ _ b,c⟩
def uA.heap{w:je}{A:jd}(q:uA A H)(af:bq P w H h):nK A h:=by
 rcases q with z|⟨x,o,u,vs,a,b,c⟩
 .exact .inl z
 .exact .inr ⟨x,o,vs,a,(af x _ b).1,c⟩
structure Inv(X:Cx)(ψ:List (bw×Obj))(σ:List (Option V))(H:Hp)(s:dg):Prop where
 ok:X.Ok
 os:s.os=X.av.os
 bare:AllBare s.gens
 base:Un X.fs X.ex X.az H X.av.heap s.heap
 loc:∃m,s.heap.Ns X.env.locals m/\∀(i:Nat)(x:Str)(v:V),X.N[i]?=aj x->σ[i]?=aj (aj v)->yi X.env.scope x->∃u,RelV v u/\Look X.env s.heap m x u
 cell:∀x c,X.env.cells.lookup x=aj c->∃v,s.heap.IsCell c v
 free:H X.env.locals=au
 rR:∀x c,X.env.cells.lookup x=aj c->H c=au
 pin:∀p∈X.pn++ψ,s.heap.get? p.1=aj p.2/\H p.1=au/\p.1≠X.env.locals/\p.1∉X.fs/\∀v,p.2.data≠.cell v
 af:bq X.prog X.w H s.heap
 len:σ.length=X.N.length
 dC:uA X.A H
 tup:∀p∈X.tp,H p.1=aj (.tup p.2)
section
variable{X:Cx}{ψ:List (bw×Obj)}{σ:List (Option V)}{H H':Hp}{s:dg}{h':jw}
def Cx.Ok.aT1(ok:X.Ok){b:bw}{o:Obj}(e:X.base.get? b=aj o):b∉X.fs:=λhb=>by
 have:=(ok.gS.mem hb).1;rw[e]at this;cases this
def Inv.bs(I:Inv X ψ σ H s):∀b o,X.base.get? b=aj o->s.heap.get? b=aj o/\H b=au:=λb o e =>
 ⟨I.base.keep b o (I.ok.bs b o e).1 (I.ok.bs b o e).2 (I.ok.aT1 e) (I.ok.sv b o e),I.base.free b o (I.ok.bs b o e).1 (I.ok.bs b o e).2 (I.ok.sv b o e)⟩
def Inv.bk(I:Inv X ψ σ H s):∀b o,X.base.get? b=aj o->s.heap.get? b=aj o:=λb o e=>(I.bs b o e).1
def Inv.mod(I:Inv X ψ σ H s):Mod X.K X.mg X.base:=I.ok.mod
def Inv.b7(I:Inv X ψ σ H s):X.K.In s.heap:=I.ok.mod.m4.keeps I.bk
def Inv.lt(I:Inv X ψ σ H s):X.env.locals<s.heap.objs.size:=let⟨_,hn,_⟩:=I.loc;hn.lt
def Inv.sz(I:Inv X ψ σ H s):X.av.heap.objs.size<=s.heap.objs.size:=lq I.ok.above (ud I.lt)
def Inv.aT2(I:Inv X ψ σ H s){a:bw}(h:s.heap.objs.size<=a):a∉X.fs:=λhb=>by
 let⟨_,o,ho,_⟩:=I.ok.gS.mem hb;exact absurd (jf (ig ho) (lq I.sz h)) (rm _)
def Inv.wc(I:Inv X ψ σ H s):∀x c,X.env.cells.lookup x=aj c->c≠X.env.locals:=λx c e z=>by
 let⟨v,o,ho,hd⟩:=I.cell x c e;let⟨m,⟨o',es,ep,b8,iq,_⟩,_⟩:=I.loc;rw[z,b8]at ho;cases ho;rw[iq]at hd;cases hd
def Inv.gS(I:Inv X ψ σ H s):s.heap.FunFrames X.base X.outer:=by
 have all:∀(l:List Env),(∀b∈frs l,b∈X.fs)->X.av.heap.FunFrames X.base l->s.heap.FunFrames X.base l:=by
  intro l
  induction l with
  |nil=>intro _ _;trivial
  |cons env r ih =>
   intro hs hl;let⟨hk,⟨L,o,hf,hn,ho,hd⟩,hr⟩:=hl;have hL:L∈X.fs:=hs L (by unfold frs;rw[LV,hf];exact yj);let⟨sl,e⟩:=I.base.slot L o ho (I.ok.nh L hL) hL λz=>I.ok.xh L z hL;exact⟨hk,⟨L,_,hf,hn,e,hd⟩,ih (λb hb=>hs b (by unfold frs;rw[LV,hf];exact nj _ hb)) hr⟩
 exact all X.outer (λ_ hb=>hb) I.ok.gS
def Inv.stack(I:Inv X ψ σ H s):s.heap.FunFrames X.base X.stack:=by
 rcases I.ok.i7 with e|⟨e,hf⟩
 .rw[e];exact I.gS
 .rw[e];let⟨m,hn,_⟩:=I.loc;refine .cons (by rw[I.ok.kind];decide) hf hn ?_ I.gS;exact Heap.get?_none_of_le (lq I.ok.kG I.ok.above)
def Inv.Ju(I:Inv X ψ σ H s):∀b∈frs X.stack,b∈X.env.locals::X.fs:=λb hb=>by
 rcases I.ok.i7 with e|⟨e,hf⟩
 .rw[e]at hb;exact nj _ hb
 .rw[e]at hb;unfold frs at hb;rw[LV,hf]at hb;exact hb
def Inv.JT(I:Inv X ψ σ H s):∀b∈frs X.stack,H b=au:=λb hb=>by
 rcases nu.mp (I.Ju b hb)with e|hb
 .rw[e];exact I.free
 .obtain⟨_,o,ho,_⟩:=I.ok.gS.mem hb;exact I.base.free b o ho (I.ok.nh b hb) λz=>I.ok.xh b z hb
def Inv.step{g':Array GenState}{d':Drawn}{ch:List bw}(I:Inv X ψ σ H s)
  (ng:∀b∈ch,(b∈X.ex∨X.av.heap.objs.size<=b)/\b≠X.env.locals/\(∀x c,X.env.cells.lookup x=aj c->c≠b)/\∀p∈X.pn++ψ,p.1≠b)
  (keep:∀b o,b≠X.env.locals->b∉X.fs->b∉ch->s.heap.get? b=aj o->H b=au->h'.get? b=aj o)
  (slot:∀b o,b≠X.env.locals->b∈X.fs->b∉ch->s.heap.get? b=aj o->H b=au->∃sl,h'.get? b=aj {o with slots:=sl})(free:∀b o,b∉ch->s.heap.get? b=aj o->H b=au->H' b=au)
  (there:∀b o,b∉ch->s.heap.get? b=aj o->∃o',h'.get? b=aj o')
  (aI:∀b xs,H b=aj (.tup xs)->H' b=aj (.tup xs))(pB:∀b o u,H b=aj (.jX o u)->H' b=aj (.jX o u))(fT:∀b ps,H b=aj (.ij ps)->∃more,H' b=aj (.ij (ps++more)))
  (ns:∀m,s.heap.Ns X.env.locals m->h'.Ns X.env.locals m)(af:bq X.prog X.w H' h')(hg:AllBare g') :
  Inv X ψ σ H' {s with heap:=h',gens:=g',drawn:=d',toks:=t' }:=by
 have Ng:∀b o,X.av.heap.get? b=aj o->b≠X.env.locals:=λb o e=>ju (jf (ig e) I.ok.above)
 have D3:∀b o,X.av.heap.get? b=aj o->b∉X.ex->b∉ch:=λb o e hx hb=>by
  rcases(ng b hb).1 with z|z
  .exact hx z
  .exact absurd (jf (ig e) z) (rm _)
 have cellK:∀x c,X.env.cells.lookup x=aj c->∀v,s.heap.IsCell c v->h'.IsCell c v:=λx c e v ⟨o,ho,hd⟩=>by
  have BG:c∉ch:=λz=>(ng c z).2.2.1 x c e rfl;by_cases hc:c∈X.fs
  .obtain⟨sl,q⟩:=slot c o (I.wc x c e) hc BG ho (I.rR x c e);exact⟨_,q,hd⟩
  .exact⟨o,keep c o (I.wc x c e) hc BG ho (I.rR x c e),hd⟩
 refine⟨I.ok,I.os,hg,⟨λb o e n hb hx=>?_,λb o e n hb hx=>?_,λb o e n hx=>?_,λb o e hx=>?_,λb xs e=>aI b xs (I.base.aI b xs e),λb o xs e=>pB b o xs (I.base.pB b o xs e),λb ps e=>?_⟩,?_,λx c e=>?_,?_,λx c e=>?_,λp hp=>?_,af,I.len,I.dC.mono pB,λp hp=>aI _ _ (I.tup p hp)⟩
 .exact keep b o (Ng b o e) hb (D3 b o e hx) (I.base.keep b o e n hb hx) (I.base.free b o e n hx)
 .obtain⟨sl,e1⟩:=I.base.slot b o e n hb hx;let⟨VH,e2⟩:=slot b _ (Ng b o e) hb (D3 b o e hx) e1 (I.base.free b o e n hx);exact⟨VH,e2⟩
 .obtain⟨o',e1⟩:=I.base.there b o e hx;exact free b o' (D3 b o e hx) e1 (I.base.free b o e n hx)
 .obtain⟨o',e1⟩:=I.base.there b o e hx;exact there b o' (D3 b o e hx) e1
 .obtain⟨m1,e1⟩:=I.base.fT b ps e;let⟨m2,e2⟩:=fT b _ e1;exact⟨m1++m2,by rw[e2,Array.append_assoc]⟩
 .obtain⟨m,hn,hl⟩:=I.loc;refine⟨m,ns m hn,λi x v e1 e2 e3=>?_⟩;let⟨u,r,l⟩:=hl i x v e1 e2 e3;refine⟨u,r,?_⟩;rcases l with l|⟨k,c,e,z⟩
  .exact .inl l
  .exact .inr ⟨k,c,e,cellK x c e _ z⟩
 .obtain⟨v,z⟩:=I.cell x c e;exact⟨v,cellK x c e v z⟩
 .obtain⟨m,⟨o,_,_,ho,_⟩,_⟩:=I.loc;exact free _ o (λz=>(ng _ z).2.1 rfl) ho I.free
 .obtain⟨v,o,ho,hd⟩:=I.cell x c e;exact free c o (λz=>(ng c z).2.2.1 x c e rfl) ho (I.rR x c e)
 .obtain⟨e,n,ne,nf,d⟩:=I.pin p hp;have BG:p.1∉ch:=λz=>(ng p.1 z).2.2.2 p hp rfl;exact⟨keep p.1 p.2 ne nf BG e n,free p.1 p.2 BG e n,ne,nf,d⟩
def Inv.un(I:Inv X ψ σ H s)(u:Un X.fs [] H H' s.heap h')(af:bq X.prog X.w H' h'):Inv X ψ σ H' {s with heap:=h',toks:=t' }:=by
 let⟨m,⟨o,es,ep,ho,r⟩,_⟩:=id I.loc;let⟨sl,hL⟩:=u.any ho I.free (by simp)
 exact I.step (g':=s.gens) (d':=s.drawn) (ch:=[]) (λ_ z=>nomatch z) (λb o _ hb _ e n=>u.keep b o e n hb (by simp)) (λb o _ hb _ e n=>u.slot b o e n hb (by simp)) (λb o _ e n=>u.free b o e n (by simp)) (λb o _ e=>u.there b o e (by simp)) u.aI u.pB u.fT (λm' hm=>by
  let⟨o',Ez,Iq,b8,r'⟩:=hm;rw[ho]at b8;cases b8;exact⟨_,Ez,Iq,hL,r'⟩) af I.bare
def Inv.call(I:Inv X ψ σ H s)(u:Un (frs X.stack) ch H H' s.heap h')(af:bq X.prog X.w H' h')(hg:AllBare g')
  (ng:∀b∈ch,(b∈X.ex∨X.av.heap.objs.size<=b)/\b≠X.env.locals/\(∀x c,X.env.cells.lookup x=aj c->c≠b)/\∀p∈X.pn++ψ,p.1≠b) :
  Inv X ψ σ H' {s with heap:=h',gens:=g',drawn:=d',toks:=t' }:=by
 let⟨m,⟨o,es,ep,ho,r⟩,_⟩:=id I.loc;let⟨sl,hL⟩:=u.any ho I.free λz=>(ng _ z).2.1 rfl
 exact I.step (ch:=ch) ng (λb o hL hb hc e n=>u.keep b o e n (λz=>(nu.mp (I.Ju b z)).elim hL hb) hc) (λb o _ _ hc e n=>u.any e n hc) (λb o hc e n=>u.free b o e n hc) (λb o hc e=>u.there b o e hc) u.aI u.pB u.fT (λm' hm=>by
  let⟨o',Ez,Iq,b8,r'⟩:=hm;rw[ho]at b8;cases b8;exact⟨_,Ez,Iq,hL,r'⟩) af hg
def Inv.turned(I:Inv X ψ σ H s)(k:∀b o,b≠it->s.heap.get? b=aj o->h'.get? b=aj o)(hn:H it=au)(hL:it≠X.env.locals)
  (h1:it∈X.ex∨X.av.heap.objs.size<=it)(h2:∀x c,X.env.cells.lookup x=aj c->c≠it)(h3:∀p∈X.pn++ψ,p.1≠it):Inv X ψ σ H {s with heap:=h',toks:=t' }:=by
 have Nf:∀b u,H b=aj u->b≠it:=λb u e z=>by rw[z,hn]at e;cases e
 refine I.step (g':=s.gens) (d':=s.drawn) (ch:=[it]) (λb hb=>?_) (λb o _ _ hc e _=>k b o (λz=>hc (by simp[z])) e) (λb o _ _ hc e _=>⟨o.slots,k b o (λz=>hc (by simp[z])) e⟩) (λ_ _ _ _ n=>n)
  (λb o hc e=>⟨o,k b o (λz=>hc (by simp[z])) e⟩) (λ_ _ e=>e) (λ_ _ _ e=>e) (λb ps e=>⟨#[],by rw[e];simp⟩) (λm hm=>?_) (λb u e=>?_) I.bare
 .have e:b=it:=by simpa using hb
  subst e;exact⟨h1,hL,h2,h3⟩
 .obtain⟨o,es,ep,ho,r⟩:=hm;exact⟨o,es,ep,k _ o (Ne.symm hL) ho,r⟩
 .refine(I.af b u e).cf (λc v hc q=>k c v ?_ q) (λ_ q=>q) λ_ _ q=>q;rcases hc with z|z
  .rw[z];exact Nf b u e
  .exact Nf c _ z
def Inv.tok(I:Inv X ψ σ H s)(t:Nat):Inv X ψ σ H {s with toks:=t}:=I.un (h':=s.heap) (t':=t) Un.refl I.af
def Inv.kept{t':Nat}(I:Inv X ψ σ H s)(k:∀b u,s.heap.get? b=aj u->h'.get? b=aj u):Inv X ψ σ H {s with heap:=h',toks:=t' }:=I.un (Un.kept k) (I.af.kept k)
def Inv.laid{a:bw}{o:HO}{t':Nat}(I:Inv X ψ σ H s)(k:∀b u,s.heap.get? b=aj u->h'.get? b=aj u)(hp:s.heap.objs.size<=a)(new:j8 X.prog X.w (upd H a o) h' a o) :
  Inv X ψ σ (upd H a o) {s with heap:=h',toks:=t' }:=I.un (Un.laid k hp (I.af.fresh hp)) (I.af.laid k hp new)
def Inv.write{x:bw}{o:HO}{t':Nat}(I:Inv X ψ σ H s)(mu:Dt (H x))(he:e=x∨H e=aj (.own x))(k:∀b u,b≠e->s.heap.get? b=aj u->h'.get? b=aj u)(Ab:∃u,h'.get? e=aj u)
  (new:j8 X.prog X.w (upd H x o) h' x o):Inv X ψ σ (upd H x o) {s with heap:=h',toks:=t' }:=I.un (Un.write mu he k Ab) (I.af.write mu he k Ab new)
def Inv.weak{aw:List (Option V)}(I:Inv X ψ σ H s)(hl:aw.length=σ.length)(w:∀(i:Nat) v,aw[i]?=aj (aj v)->σ[i]?=aj (aj v)):Inv X ψ aw H s :=
 ⟨I.ok,I.os,I.bare,I.base,let⟨m,hn,NM⟩:=I.loc;⟨m,hn,λi x v e1 e2 e3=>NM i x v e1 (w i v e2) e3⟩,I.cell,I.free,I.rR,I.pin,I.af,hl.trans I.len,I.dC,I.tup⟩
def Inv.P7(I:Inv X ψ σ H s)(h:∀p∈A9,s.heap.get? p.1=aj p.2/\H p.1=au/\p.1≠X.env.locals/\p.1∉X.fs/\∀v,p.2.data≠.cell v):Inv X A9 σ H s :=
 ⟨I.ok,I.os,I.bare,I.base,I.loc,I.cell,I.free,I.rR,λp hp=>(qx.mp hp).elim (λz=>I.pin p (GH _ z)) (h p),I.af,I.len,I.dC,I.tup⟩
def Q9{N:List Str}(hN:N.Nodup){i j:Nat}{x:Str}(a:N[i]?=aj x)(b:N[j]?=aj x):i=j:=by
 let⟨h1,e1⟩:=jl.mp a;let⟨h2,e2⟩:=jl.mp b;exact(List.getElem_inj hN).mp (e1.trans e2.symm)
def Zl{M:Model}{A:jd}{i:Nat}{x:Str}(I:Inv X ψ σ H s)(hN:X.N.Nodup)(hi:X.N[i]?=aj x)(hx:Loc X.env.scope x)(r:RelV v u)
  (h:∀s',Inv X ψ (σ.set i (aj v)) H s'->(∃a,lu a s.heap s'.heap/\(a=X.env.locals∨X.env.cells.lookup x=aj a))->Q () s')(hf:X.fn x=ak∨X.env.scope.names.lookup x=aj .local:=by first|exact .inl rfl|exact .inr rfl|assumption):dh M A (storeName X.env x u) Q E s:=by
 let⟨m,hn,hl⟩:=id I.loc;have y4:(X.env.scope.kind==.class||(X.env.scope.kind==.module&&X.env.locals !=X.env.globals))=ao:=by rw[I.ok.kind];rfl
 have DD:i<σ.length:=by rw[I.len];exact(jl.mp hi).1
 have wc:=I.wc
 have tracked:∀{a:bw}{h':jw},(∃o,s.heap.get? a=aj o/\H a=au)->lu a s.heap h'->bq X.prog X.w H h':=λ{a h'} ha hs b ob e=>by
  let⟨_,_,d5⟩:=ha;refine(I.af b ob e).cf (λc w' hc q=>(hs.2 c ?_).trans q) (λ_ q=>q) λ_ _ q=>q;rintro rfl;rcases hc with rfl|hc
  .rw[d5]at e;cases e
  .rw[d5]at hc;cases hc
 rcases hx with hk|hk
 .refine wpAny_storeName_local hk hn (λh' NJ hs=>?_) y4;let⟨oL,_,_,Wf,_⟩:=id hn;refine h _ ⟨I.ok,I.os,I.bare,⟨λb o e n hb hx=>?_,λb o e n hb hx=>?_,I.base.free,λb o e hx=>?_,I.base.aI,I.base.pB,I.base.fT⟩,⟨_,NJ,λj y v' e1 e2 e3=>?_⟩,λy c e=>?_,I.free,I.rR,λp hp=>?_,tracked ⟨oL,Wf,I.free⟩ hs,by simpa using I.len,I.dC,I.tup⟩ ⟨_,hs,.inl rfl⟩
  .exact(hs.2 b (ju (jf (ig e) I.ok.above))).trans (I.base.keep b o e n hb hx)
  .obtain⟨sl,e1⟩:=I.base.slot b o e n hb hx;exact⟨sl,(hs.2 b (ju (jf (ig e) I.ok.above))).trans e1⟩
  .obtain⟨o',e1⟩:=I.base.there b o e hx;exact⟨o',(hs.2 b (ju (jf (ig e) I.ok.above))).trans e1⟩
  .by_cases hj:j=i
   .subst hj;rw[hi]at e1;cases e1;rw[List.getElem?_set_self DD]at e2;cases e2;exact⟨u,r,.inl ⟨hk,by simp⟩⟩
   .rw[List.getElem?_set_ne (Ne.symm hj)]at e2;let⟨u',r',q⟩:=hl j y v' e1 e2 e3;refine⟨u',r',?_⟩;rcases q with⟨k,e⟩|⟨k,c,e,z⟩
    .refine .inl ⟨k,?_⟩;have:y≠x:=λe=>hj (Q9 hN e1 (e ▸ hi));simp[this,e]
    .exact .inr ⟨k,c,e,z.sameBut hs (wc y c e)⟩
  .obtain⟨w',z⟩:=I.cell y c e;exact⟨w',z.sameBut hs (wc y c e)⟩
  .obtain⟨e,n,ne,nf,d⟩:=I.pin p hp;exact⟨(hs.2 p.1 ne).trans e,n,ne,nf,d⟩
 .have BO:X.fn x=ak:=by
   rcases hf with z|z
   .exact z
   .rw[z]at hk;cases hk
  let⟨c,hc⟩:=I.ok.has x (.inl hk);let⟨w',z⟩:=I.cell x c hc;refine wpAny_storeName_cell I.ok.kind hk hc z (λh' NU hs=>?_);let⟨oc,NG,aT3⟩:=id z;refine h {s with heap:=h' } ⟨I.ok,I.os,I.bare,⟨λb o e n hb hx=>?_,λb o e n hb hx=>?_,I.base.free,λb o e hx=>?_,I.base.aI,I.base.pB,I.base.fT⟩,⟨m,hn.sameBut hs (Ne.symm (wc x c hc)),λj y v' e1 e2 e3=>?_⟩,λy c' e=>?_,I.free,I.rR,λp hp=>?_,tracked ⟨oc,NG,I.rR x c hc⟩ hs,by simpa using I.len,I.dC,I.tup⟩ ⟨c,hs,.inr hc⟩
  .exact(hs.2 b (ju (jf (ig e) (I.ok.rV x c BO hc)))).trans (I.base.keep b o e n hb hx)
  .obtain⟨sl,e1⟩:=I.base.slot b o e n hb hx;exact⟨sl,(hs.2 b (ju (jf (ig e) (I.ok.rV x c BO hc)))).trans e1⟩
  .obtain⟨o',e1⟩:=I.base.there b o e hx;exact⟨o',(hs.2 b (ju (jf (ig e) (I.ok.rV x c BO hc)))).trans e1⟩
  .by_cases hj:j=i
   .subst hj;rw[hi]at e1;cases e1;rw[List.getElem?_set_self DD]at e2;cases e2;exact⟨u,r,.inr ⟨.inl hk,c,hc,NU⟩⟩
   .rw[List.getElem?_set_ne (Ne.symm hj)]at e2;let⟨u',r',q⟩:=hl j y v' e1 e2 e3;refine⟨u',r',?_⟩;rcases q with q|⟨k,c',e,z'⟩
    .exact .inl q
    .refine .inr ⟨k,c',e,z'.sameBut hs ?_⟩;rintro rfl;exact hj (Q9 hN e1 (I.ok.inj _ _ _ e hc ▸ hi))
  .by_cases NT:c'=c
   .subst NT;exact⟨_,NU⟩
   .obtain⟨w2,z2⟩:=I.cell y c' e;exact⟨w2,z2.sameBut hs NT⟩
  .obtain⟨e,n,ne,nf,d⟩:=I.pin p hp;refine⟨(hs.2 p.1 ?_).trans e,n,ne,nf,d⟩;intro q;rw[q,NG]at e;have q':oc=p.2:=jk.inj e;exact d w' (by rw[←q'];exact aT3)
def Kq{M:Model}{A:jd}{i:Nat}{x:Str}(I:Inv X ψ σ H s)(hN:X.N.Nodup)(hi:X.N[i]?=aj x)(hx:Loc X.env.scope x)(r:RelV v u)
  (h:∀s',Inv X ψ (σ.set i (aj v)) H s'->Q () s')(hf:X.fn x=ak∨X.env.scope.names.lookup x=aj .local:=by first|exact .inl rfl|exact .inr rfl|assumption):dh M A (storeName X.env x u) Q E s :=
 Zl I hN hi hx r (λs' I' _=>h s' I') hf
def Inv.fe{s':dg}(I:Inv X ψ σ H s)(ho:s'.os=s.os)(u:Un (frs X.stack) ch H H' s.heap s'.heap)(af:bq X.prog X.w H' s'.heap)(hg:AllBare s'.gens)
  (ng:∀b∈ch,(b∈X.ex∨X.av.heap.objs.size<=b)/\b≠X.env.locals/\(∀x c,X.env.cells.lookup x=aj c->c≠b)/\∀p∈X.pn++ψ,p.1≠b):Inv X ψ σ H' s':=by
 let⟨h',g',d',t',o'⟩:=s';have e:o'=s.os:=ho;subst e;exact I.call (g':=g') (t':=t') (d':=d') u af hg ng
end
@[simp]def XK:=Value->Option bw->Hp->Prop
@[simp]def St:=List (Option V)
@[simp]def VK:=V->Hp->Prop
@[simp]def TE:=St->Hp->VK->Prop
@[simp]def TT:=St->Hp->(Bool->Hp->Prop)->Prop
@[simp]def TA:=St->Hp->(List V->Hp->Prop)->Prop
structure Ends where
 nx:St->Hp->Prop
 rt:VK
 bk:St->Hp->Prop:=λ_ _=>False
 ct:St->Hp->Prop:=λ_ _=>False
@[simp]def TS:=Ends->St->Hp->Prop
abbrev EP(X:Cx)(ψ:List (bw×Obj))(σ:St)(Q:VK)(u:bh)(s':dg):Prop:=∃v H',Inv X ψ σ H' s'/\RelV v u/\Q v H'
abbrev TP(X:Cx)(ψ:List (bw×Obj))(σ:St)(Q:Bool->Hp->Prop)(b:Bool)(s':dg):Prop:=∃H',Inv X ψ σ H' s'/\Q b H'
abbrev AP(X:Cx)(ψ:List (bw×Obj))(σ:St)(Q:List V->Hp->Prop)(us:List bh)(s':dg):Prop:=∃vs H',Inv X ψ σ H' s'/\Vals vs us/\Q vs H'
set_option tactic.hygienic true in
abbrev SP(X:Cx)(ψ:List (bw×Obj))(D:Ends)(f:Flow)(s':dg):Prop :=
 match f with
 |.next=>∃aw H',Inv X ψ aw H' s'/\D.nx aw H'
 |.brk=>∃aw H',Inv X ψ aw H' s'/\D.bk aw H'
 |.cont=>∃aw H',Inv X ψ aw H' s'/\D.ct aw H'
 |.ret u=>∃v aw H',Inv X ψ aw H' s'/\RelV v u/\D.rt v H'
abbrev PE(X:Cx)(e:gV)(t:TE):Prop :=
 ∀(ψ:List (bw×Obj))(s:dg)(σ:St)(H:Hp)(Q:VK),Inv X ψ σ H s->t σ H Q->dh (dz X.prog X.w) X.A (eval e X.env) (EP X ψ σ Q) X.xe s
abbrev PT(X:Cx)(e:gV)(t:TT):Prop :=
 ∀(ψ:List (bw×Obj))(s:dg)(σ:St)(H:Hp)(Q:Bool->Hp->Prop),Inv X ψ σ H s->t σ H Q->dh (dz X.prog X.w) X.A (isTrue e X.env (eval e X.env)) (TP X ψ σ Q) X.xe s
abbrev PW(X:Cx)(e:gV)(t:TT):Prop :=
 ∀(whole:Sem bh)(ψ:List (bw×Obj))(s:dg)(σ:St)(H:Hp)(Q:Bool->Hp->Prop),Inv X ψ σ H s->t σ H Q->dh (dz X.prog X.w) X.A (isTrue e X.env whole) (TP X ψ σ Q) X.xe s
def PW.pt{t:TT}(h:PW X e t):PT X e t:=h _
abbrev PA(X:Cx)(es:List gV)(t:TA):Prop :=
 ∀(pos:Pos)(ψ:List (bw×Obj))(s:dg)(σ:St)(H:Hp)(Q:List V->Hp->Prop),Inv X ψ σ H s->t σ H Q->dh (dz X.prog X.w) X.A (spliced (qz pos (iz es X.env))) (AP X ψ σ Q) X.xe s
abbrev PS(X:Cx)(st:jq)(t:TS):Prop :=
 ∀(ψ:List (bw×Obj))(s:dg)(σ:St)(H:Hp)(D:Ends),Inv X ψ σ H s->t D σ H->dh (dz X.prog X.w) X.A (exec st X.env) (SP X ψ D) X.xe s
abbrev ic(X:Cx)(st:List jq)(t:TS):Prop :=
 ∀(ψ:List (bw×Obj))(s:dg)(σ:St)(H:Hp)(D:Ends),Inv X ψ σ H s->t D σ H->dh (dz X.prog X.w) X.A (execs st X.env) (SP X ψ D) X.xe s
def dZ{α:Type}{t:Sem α}{Q Q':α->dg->Prop}{M:Model}{A:jd}{E:bh->dg->Prop}{s:dg}(h:dh M A t Q E s)(hQ:∀a s,Q a s->Q' a s):dh M A t Q' E s:=wpAny_mono h hQ λ_ _ x=>x
end
variable{ψ:List (bw×Obj)}
section
section
variable{X:Cx}
def bin{a b:gV}{ta tb:TE}(ha:PE X a ta)(hb:PE X b tb){s:dg}{σ:St}{H:Hp}{R:V->V->Hp->Prop}(I:Inv X ψ σ H s)(h:ta σ H λx H1=>tb σ H1 λy H2=>R x y H2)
  {α:Type}{Q:α->dg->Prop}{f:bh->bh->Sem α}
  (hf:∀v u s2 x y H2,Inv X ψ σ H2 s2->RelV x v->RelV y u->R x y H2->dh (dz X.prog X.w) X.A (f v u) Q X.xe s2) :
  dh (dz X.prog X.w) X.A (eval a X.env) (λv ah=>dh (dz X.prog X.w) X.A (eval b X.env) (λu eJ=>dh (dz X.prog X.w) X.A (f v u) Q X.xe eJ) X.xe ah) X.xe s:=by
 refine dZ (ha ψ s σ H _ I h) ?_;rintro v s1 ⟨x,H1,I1,r1,q1⟩;refine dZ (hb ψ s1 σ H1 _ I1 q1) ?_;rintro u s2 ⟨y,H2,I2,r2,q2⟩;exact hf v u s2 x y H2 I2 r1 r2 q2
abbrev SU(i:Nat):TE:=λσ H Q=>∃v,σ[i]?=aj (aj v)/\Q v H
abbrev tC(v:V):TE:=λ_ H Q=>Q v H
def aHD{i:Nat}{x:Str}{pos:Pos}(hN:X.N[i]?=aj x)(hv:yi X.env.scope x)(hd:(x==("__debug__":Str))=ao:=by decide)(fq:(x==("__classdict__":Str))=ao:=by decide):PE X (.Name x pos) (SU i):=by
 intro ψ s σ H Q I h;let⟨v,e,h⟩:=h;let⟨m,hn,hl⟩:=I.loc;let⟨u,r,l⟩:=hl i x v hN e hv;have fin:EP X ψ σ Q u s:=⟨v,H,I,r,h⟩;rcases l with⟨hk,hm⟩|⟨hk,c,hc,fc⟩
 .exact wpAny_Name (wpAny_loadName_local I.ok.kind hk hn hm fin) hd
 .rcases hk with hk|hk
  .exact wpAny_Name (wpAny_loadName_cell I.ok.kind hk hc fc fin) hd
  .exact wpAny_Name (wpAny_loadName_free I.ok.kind hk hc fc fin fq) hd
def aHE{i j pos}:PE X (.Constant (.int i) j pos) (tC (.int i)):=λ_ _ _ H _ I h=>wpAny_Constant_int ⟨.int i,H,I.tok _,⟨_,rfl⟩,h⟩
def aNO{b j pos}:PE X (.Constant (.bool b) j pos) (tC (.bl b)):=λ_ _ _ H _ I h=>Constant_bool ⟨.bl b,H,I,rfl,h⟩
def aHF{j pos}:PE X (.Constant .none j pos) (tC .ag):=λ_ _ _ H _ I h=>Constant_none ⟨.ag,H,I,rfl,h⟩
def aHG{x j pos}:PE X (.Constant (.str x) j pos) (tC (.str x)):=λ_ _ _ H _ I h=>Calls.Constant_str ⟨.str x,H,I.tok _,⟨_,rfl⟩,h⟩
abbrev Gl(X:Cx)(x:Str):Prop:=X.env.kindOf x=aj .globalImplicit
def rY{x:Str}{pos:Pos}(I:Inv X ψ σ H s)(hg:Gl X x)(hm:X.mg x=aj u)(h:Q u s)
  (hd:(x==("__debug__":Str))=ao:=by decide):dh (dz X.prog X.w) X.A (eval (.Name x pos) X.env) Q E s :=
 Calls.Name_function_global I.ok.kind hg (Calls.loadGlobal_global (by rw[I.ok.glob];exact I.mod.glob.keeps I.bk) hm h) hd
def xw{x:Str}{pos:Pos}(I:Inv X ψ σ H s)(hg:Gl X x)(hm:X.mg x=au)(hv:mz x=aj u)(h:Q u s)
  (hn:x≠"__name__":=by decide)(hd:(x==("__debug__":Str))=ao:=by decide):dh (dz X.prog X.w) X.A (eval (.Name x pos) X.env) Q E s:=by
 let⟨mb,h1,h2⟩:=I.mod.blt;exact Calls.Name_function_global I.ok.kind hg (Calls.loadGlobal_builtin (by rw[I.ok.glob];exact I.mod.glob.keeps I.bk) hm (by rw[I.ok.blt];exact h1.keeps I.bk) ((h2 x hn).trans hv) h) hd
def aBF{x:Str}{pos:Pos}(hg:Gl X x)(hm:X.mg x=aj u)(r:RelV v u)(hd:(x==("__debug__":Str))=ao:=by decide):PE X (.Name x pos) (tC v) :=
 λ_ _ _ H _ I h=>rY I hg hm ⟨v,H,I,r,h⟩ hd
def aBG{x:Str}{pos:Pos}(hg:Gl X x)(hm:X.mg x=au)(hv:mz x=aj u)(r:RelV v u)(hn:x≠"__name__":=by decide)(hd:(x==("__debug__":Str))=ao:=by decide):PE X (.Name x pos) (tC v) :=
 λ_ _ _ H _ I h=>xw I hg hm hv ⟨v,H,I,r,h⟩ hn hd
variable{a b:gV}{ta tb:TE}{pos:Pos}
abbrev tB(t:TE):TT:=λσ H Q=>t σ H λx H1=>∃c,x=.bl c/\Q c H1
def aHH{e:gV}{t:TE}(h:PE X e t)(he:∀whole,isTrue e X.env whole=(do let v ←whole;standAt e.pos;holding [v] (truthy v)):=by intro _;rfl):PT X e (tB t):=by
 intro ψ s σ H Q I hw;refine isTrue_plain (dZ (h ψ s σ H _ I hw) ?_) (he _);rintro v s1 ⟨x,H1,I1,r1,q1⟩;let⟨d,rfl,q⟩:=q1;cases r1;exact xg ⟨H1,I1,q⟩
variable{rest:List gV}
abbrev SS(t u:TT):TT:=λσ H Q=>t σ H λc H1=>if c=ak then u σ H1 Q else Q ao H1
abbrev MT(t u:TT):TT:=λσ H Q=>t σ H λc H1=>if c=ak then Q ak H1 else u σ H1 Q
abbrev aT4(t:TT):TT:=λσ H Q=>t σ H λc H1=>Q (!c) H1
def aBH(ha:PT X a tA):PW X (.BoolOp .And [a] pos) tA:=by
 intro wh ψ s σ H Q I h;refine isTrue_and (dZ (ha ψ s σ H Q I h) λc s1 e=>?_);cases c with
 |true=>exact isTrue_and_nil e
 |false=>exact e
def aHI(ha:PT X a tA):PW X (.BoolOp .Or [a] pos) tA:=by
 intro wh ψ s σ H Q I h;refine isTrue_or (dZ (ha ψ s σ H Q I h) λc s1 e=>?_);cases c with
 |false=>exact isTrue_or_nil e
 |true=>exact e
def aHJ(ha:PT X a tA)(hb:PW X (.BoolOp .And (b::rest) pos) Hj):PW X (.BoolOp .And (a::b::rest) pos) (SS tA Hj):=by
 intro wh ψ s σ H Q I h;refine isTrue_and (dZ (ha ψ s σ H _ I h) ?_);rintro c s1 ⟨H1,I1,q1⟩;cases c with
 |true=>exact hb wh ψ s1 σ H1 Q I1 q1
 |false=>exact⟨H1,I1,q1⟩
def aNQ(ha:PT X a tA)(hb:PW X (.BoolOp .Or (b::rest) pos) Hj):PW X (.BoolOp .Or (a::b::rest) pos) (MT tA Hj):=by
 intro wh ψ s σ H Q I h;refine isTrue_or (dZ (ha ψ s σ H _ I h) ?_);rintro c s1 ⟨H1,I1,q1⟩;cases c with
 |true=>exact⟨H1,I1,q1⟩
 |false=>exact hb wh ψ s1 σ H1 Q I1 q1
def aHK(ha:PT X a tA):PT X (.UnaryOp .Not a pos) (aT4 tA):=by
 intro ψ s σ H Q I h;exact isTrue_not (ha ψ s σ H (λc H1=>Q (!c) H1) I h)
abbrev aNR(ta tb:TE):TE:=λσ H Q=>ta σ H λx H1=>∃c,x=.bl c/\if c=ak then tb σ H1 Q else Q (.bl ao) H1
abbrev aT5(ta tb:TE):TE:=λσ H Q=>ta σ H λx H1=>∃c,x=.bl c/\if c=ak then Q (.bl ak) H1 else tb σ H1 Q
abbrev aNS(ta:TE):TE:=λσ H Q=>ta σ H λx H1=>∃c,x=.bl c/\Q (.bl (!c)) H1
def aHL{op}{t:TE}(h:PE X a t):PE X (.BoolOp op [a] pos) t:=λψ s σ H Q I hw=>BoolOp_one (h ψ s σ H Q I hw)
def aHM(ha:PE X a ta)(hb:PE X (.BoolOp .And (b::rest) pos) tb):PE X (.BoolOp .And (a::b::rest) pos) (aNR ta tb):=by
 intro ψ s σ H Q I h;refine BoolOp_and (dZ (ha ψ s σ H _ I h) ?_);rintro v s1 ⟨x,H1,I1,r1,q1⟩;let⟨c,rfl,q1⟩:=q1;cases r1;refine xg ?_;cases c with
 |true=>exact hb ψ s1 σ H1 Q I1 q1
 |false=>exact⟨.bl ao,H1,I1,rfl,q1⟩
def aNT(ha:PE X a ta)(hb:PE X (.BoolOp .Or (b::rest) pos) tb):PE X (.BoolOp .Or (a::b::rest) pos) (aT5 ta tb):=by
 intro ψ s σ H Q I h;refine BoolOp_or (dZ (ha ψ s σ H _ I h) ?_);rintro v s1 ⟨x,H1,I1,r1,q1⟩;let⟨c,rfl,q1⟩:=q1;cases r1;refine xg ?_;cases c with
 |false=>exact hb ψ s1 σ H1 Q I1 q1
 |true=>exact⟨.bl ak,H1,I1,rfl,q1⟩
def aHN(ha:PE X a ta):PE X (.UnaryOp .Not a pos) (aNS ta):=by
 intro ψ s σ H Q I h;refine UnaryOp_ (dZ (ha ψ s σ H _ I h) ?_);rintro v s1 ⟨x,H1,I1,r1,q1⟩;let⟨c,rfl,q1⟩:=q1;cases r1;exact not_of (xg ⟨.bl (!c),H1,I1,rfl,q1⟩)
end
end
variable{cm:Bool}
section
abbrev cE(K:iw)(H:Hp)(a:bw)(xs:List V):Prop :=
 Rd H a (.lst xs) ∨
  ∃(o:Obj)(its:Array bh)(n:Nat),K.lookup a=aj o/\o.cls=.type "list"/\o.dict=au/\o.data=.seq its n/\its.size<=dj/\Vals xs its.toList
abbrev bz(K:iw)(H:Hp)(a:bw)(xs:List V):Prop :=
 Rd H a (.tup xs) ∨
  ∃(o:Obj)(its:Array bh)(n:Nat),K.lookup a=aj o/\o.cls=.type "tuple"/\o.data=.seq its n/\its.size<=dj/\Vals xs its.toList
abbrev aT6:bh->Option V
 |.none=>aj .ag
 |.bool b=>aj (.bl b)
 |.int i _=>aj (.int i)
 |.str x _=>aj (.str x)
 |.bytes b _=>aj (.Am b)
 |.float b _=>aj (.Ae b)
 |.ref a=>aj (.ref a)
 |.type n=>aj (.ty n)
 |_=>au
def RelV.abs{x:V}(r:RelV x u):aT6 u=aj x:=by
 cases x with
 |ag=>cases r;rfl
 |bl _=>cases r;rfl
 |int _=>let⟨t,rfl⟩:=r;rfl
 |str _=>let⟨t,rfl⟩:=r;rfl
 |Am _=>let⟨t,rfl⟩:=r;rfl
 |Ae _=>let⟨t,rfl⟩:=r;rfl
 |ref _=>cases r;rfl
 |ty _=>cases r;rfl
def RelV.inj{x:V}(r:RelV x u)(q:RelV y u):x=y:=jk.inj (r.abs.symm.trans q.abs)
def Vals.inj:∀{xs ys:List V}{us:List bh},Vals xs us->Vals ys us->xs=ys
 |_,_,_,.nil,.nil=>rfl
 |_,_,_,.cons r t,.cons r' t'=>by rw[r.inj r',Vals.inj t t']
section
variable{X:Cx}{ψ:List (bw×Obj)}{s:dg}{a:bw}{xs:List V}
def cE.of{K:iw}(h:H a=aj (.lst xs)):cE K H a xs:=.inl (.inl h)
def bz.of{K:iw}(h:H a=aj (.tup xs)):bz K H a xs:=.inl (.inl h)
def Inv.list(I:Inv X ψ σ H s)(h:cE X.K H a xs):∃its:List bh,Vals xs its/\PlainL s.heap a its.toArray/\xs.length<=dj:=by
 rcases h with h|⟨o,its,n,hk,hc,hd,hs,hz,r⟩
 .obtain⟨z,its,n,r,e⟩:=h.ok I.af;exact⟨its,r,⟨_,n,e,rfl,rfl,rfl⟩,z⟩
 .refine⟨its.toList,r,⟨o,n,I.b7 a o hk,hc,hd,by simpa using hs⟩,?_⟩;have e:=r.length;simp only[ur]at e;omega
def Inv.tuple(I:Inv X ψ σ H s)(h:bz X.K H a xs):∃its:List bh,Vals xs its/\IsTup s.heap a its.toArray/\xs.length<=dj:=by
 rcases h with h|⟨o,its,n,hk,hc,hs,hz,r⟩
 .obtain⟨z,its,r,p⟩:=h.ok I.af;exact⟨its,r,p,z⟩
 .refine⟨its.toList,r,⟨o,I.b7 a o hk,hc,n,by simpa using hs⟩,?_⟩;have e:=r.length;simp only[ur]at e;omega
def Inv.Yk(I:Inv X ψ σ H s)(h:cE X.K H a xs)(h':cE X.K H a ys):xs=ys:=by
 let⟨its,r,⟨o,n,e,_,_,d⟩,_⟩:=I.list h;let⟨its',r',⟨o',n',e',_,_,d'⟩,_⟩:=I.list h';rw[e]at e';cases e';rw[d]at d';injection d' with d1 _;have:its=its':=by simpa using congrArg Array.toList d1
 subst this;exact r.inj r'
def Inv.Ls(I:Inv X ψ σ H s)(h:bz X.K H a xs)(h':bz X.K H a ys):xs=ys:=by
 let⟨its,r,⟨o,e,_,n,d⟩,_⟩:=I.tuple h;let⟨its',r',⟨o',e',_,n',d'⟩,_⟩:=I.tuple h';rw[e]at e';cases e';rw[d]at d';injection d' with d1 _;have:its=its':=by simpa using congrArg Array.toList d1
 subst this;exact r.inj r'
end
section
end
section
variable{X:Cx}{st:jq}{rest:List jq}{t u:TS}{te:TE}{pos:Pos}
abbrev Tx:TS:=λD σ H=>D.nx σ H
abbrev SQ(t u:TS):TS:=λD σ H=>t {D with nx:=u D} σ H
def aBI:ic X [] Tx:=λ_ _ σ H _ I h=>CY ⟨σ,H,I,h⟩
private theorem Yj(h1:PS X st t)(h2:ic X rest u):ic X (st::rest) (SQ t u):=by
 intro ψ s σ H D I h;refine wpAny_execs_cons (dZ (h1 ψ s σ H {D with nx:=u D} I h) λf s1 q=>?_);cases f with
 |next =>
  let⟨aw,H',I',q⟩:=q;exact h2 ψ s1 aw H' D I' q
 |ret v=>exact q
 |brk=>exact q
 |cont=>exact q
private theorem aBJ(h1:PS X st t):ic X [st] t:=by
 intro ψ s σ H D I h;refine wpAny_execs_cons (dZ (h1 ψ s σ H D I h) λf s1 q=>?_);cases f with
 |next=>exact CY q
 |ret v=>exact q
 |brk=>exact q
 |cont=>exact q
def aBK:PS X (.Pass pos) Tx:=λ_ _ σ H _ I h=>wpAny_Pass ⟨σ,H,I,h⟩
def Inv.quiet(I:Inv X ψ σ H s):interactive X.env=ao:=by simp[interactive,I.ok.kind]
abbrev aNV(te:TE):TS:=λD σ H=>te σ H λ_ H1=>D.nx σ H1
def aBL(he:PE X e te)(hs:qc e au pos.line X.env=pure ao:=by rfl):PS X (.Expr e pos) (aNV te):=by
 intro ψ s σ H D I h;exact wpAny_Expr_any (dZ (he ψ s σ H _ I h) (by rintro v s1 ⟨x,H1,I1,r1,q1⟩;exact⟨σ,H1,I1,q1⟩)) I.quiet hs
abbrev aT7(te:TE):TS:=λD σ H=>te σ H D.rt
def aHO(he:PE X e te):PS X (.Return (aj e) pos) (aT7 te):=by
 intro ψ s σ H D I h;exact wpAny_Return_some (dZ (he ψ s σ H _ I h) (by rintro v s1 ⟨x,H1,I1,r1,q1⟩;exact⟨x,σ,H1,I1,r1,q1⟩))
abbrev aT8(c:TT)(t u:TS):TS:=λD σ H=>c σ H λb H1=>if b=ak then t D σ H1 else u D σ H1
def aNW{c:gV}{a b:List jq}(hc:PT X c tc)(ha:ic X a t)(hb:ic X b u):PS X (.If c a b pos) (aT8 tc t u):=by
 intro ψ s σ H D I h;refine wpAny_If (dZ (hc ψ s σ H _ I h) ?_);rintro d s1 ⟨H1,I1,q1⟩;cases d with
 |true=>exact ha ψ s1 σ H1 D I1 q1
 |false=>exact hb ψ s1 σ H1 D I1 q1
end
@[simp]def TG:=V->St->Hp->(St->Hp->Prop)->Prop
@[simp]def yk:=List V->St->Hp->(St->Hp->Prop)->Prop
abbrev PG(X:Cx)(target:gV)(t:TG):Prop :=
 ∀(ψ:List (bw×Obj))(s:dg)(σ:St)(H:Hp)(v:V)(u:bh)(Q:St->Hp->Prop),Inv X ψ σ H s->RelV v u->t v σ H Q ->
  dh (dz X.prog X.w) X.A (assign target X.env u) (λ_ s'=>∃aw H',Inv X ψ aw H' s'/\Q aw H') X.xe s
abbrev Dr(X:Cx)(ts:List gV)(t:yk):Prop :=
 ∀(ψ:List (bw×Obj))(s:dg)(σ:St)(H:Hp)(vs:List V)(us:List bh)(Q:St->Hp->Prop),Inv X ψ σ H s->Vals vs us->t vs σ H Q ->
  dh (dz X.prog X.w) X.A (assignInOrder ((qh ts X.env).map (·.2)) us) (λ_ s'=>∃aw H',Inv X ψ aw H' s'/\Q aw H') X.xe s
@[simp]def Mv:=V->V->Hp->VK->Prop
abbrev PIp(X:Cx)(op:Operator)(t:Mv):Prop :=
 ∀(ψ:List (bw×Obj))(s:dg)(σ:St)(H:Hp)(x y:V)(v u:bh)(Q:VK),Inv X ψ σ H s->RelV x v->RelV y u->t x y H Q ->
  dh (dz X.prog X.w) X.A (inplaceOp op v u) (EP X ψ σ Q) X.xe s
section
variable{X:Cx}{pos:Pos}
abbrev E0(i:Nat):TG:=λv σ H Q=>Q (σ.set i (aj v)) H
def JS{i:Nat}{x:Str}(hN:X.N.Nodup)(hi:X.N[i]?=aj x)(hx:Loc X.env.scope x)(hf:X.fn x=ak∨X.env.scope.names.lookup x=aj .local:=by first|exact .inl rfl|exact .inr rfl|assumption):PG X (.Name x pos) (E0 i):=by
 intro ψ s σ H v u Q I r h;exact wpAny_assign_Name (Kq I hN hi hx r (λs' I'=>⟨_,H,I',h⟩) hf)
abbrev SO:yk:=λvs σ H Q=>vs=[]/\Q σ H
abbrev Tw(t:TG)(u:yk):yk:=λvs σ H Q=>∃v r,vs=v::r/\t v σ H λaw H'=>u r aw H' Q
def aBM:Dr X [] SO:=by
 intro ψ s σ H vs us Q I r h;let⟨e,h⟩:=h;subst e;cases r;exact assignInOrder_nil ⟨σ,H,I,h⟩
def Yi{t:TG}(h1:PG X e t)(h2:Dr X es u)
  (hs:(qh (e::es) X.env).map (·.2)=assign e X.env::(qh es X.env).map (·.2):=by rfl):Dr X (e::es) (Tw t u):=by
 intro ψ s σ H vs us Q I r h;let⟨v,vr,e1,h⟩:=h;subst e1;cases r with
 |cons r rr =>
  rw[hs];refine assignInOrder_cons (dZ (h1 ψ s σ H _ _ _ I r h) ?_);rintro _ s1 ⟨ml,H1,I1,q1⟩;exact h2 ψ s1 ml H1 _ _ Q I1 rr q1
abbrev aTA(K:iw)(n:Nat)(t:yk):TG:=λv σ H Q=>∃a xs,v=.ref a/\bz K H a xs/\xs.length=n/\t xs σ H Q
def aHP{k:Nat}{t:yk}{n:Nat}(hc:X.calm=ak)(h:Dr X es t)
  (hn:(qh es X.env).length=n:=by rfl)(bP:(qh es X.env).findIdx? (·.1)=au:=by rfl):PG X (.Tuple es k pos) (aTA X.K n t):=by
 intro ψ s σ H v u Q I r hw;let⟨a,xs,e1,hq,hl,hw⟩:=hw;subst e1;cases r;let⟨its,rv,ht,hz⟩:=I.tuple hq;refine assign_Tuple_tuple (I.ok.hd hc) ht (by simp[hn,←hl,rv.length]) bP λh' hx=>?_;have I1:Inv X ψ σ H {s with heap:=h' }:=I.kept (t':=s.toks) λb o e=>hx b o (ju (ig e)) e;exact h ψ _ σ H xs _ Q I1 (by simpa using rv) hw
abbrev aTB(te:TE)(g:TG):TS:=λD σ H=>te σ H λx H1=>g x σ H1 D.nx
def aHQ{i:Nat}{x:Str}(hN:X.N.Nodup)(hi:X.N[i]?=aj x)(hx:Loc X.env.scope x)(he:PE X e te)(hs:qc e (aj (.Name x pos')) pos.line X.env=pure ao:=by rfl)(hf:X.fn x=ak∨X.env.scope.names.lookup x=aj .local:=by first|exact .inl rfl|exact .inr rfl|assumption) :
  PS X (.Assign [.Name x pos'] e pos) (aTB te (E0 i)):=by
 intro ψ s σ H D I h;refine wpAny_Assign_Name (dZ (he ψ s σ H _ I h) ?_) hs;rintro v s1 ⟨y,H1,I1,r1,q1⟩;exact Kq I1 hN hi hx r1 (λs2 I2=>⟨_,H1,I2,q1⟩) hf
abbrev aTC(i:Nat)(te:TE)(ti:Mv):TS:=λD σ H=>∃x,σ[i]?=aj (aj x)/\te σ H λy H1=>ti x y H1 λz H2=>D.nx (σ.set i (aj z)) H2
private theorem aHR{i:Nat}{x:Str}{ti:Mv}(hN:X.N.Nodup)(hi:X.N[i]?=aj x)(hx:Loc X.env.scope x)(he:PE X e te)(ho:PIp X op ti)(hf:X.fn x=ak∨X.env.scope.names.lookup x=aj .local:=by first|exact .inl rfl|exact .inr rfl|assumption) :
  PS X (.AugAssign (.Name x pos') op e pos) (aTC i te ti):=by
 intro ψ s σ H D I h;let⟨v,e1,h⟩:=h;let⟨m,hn,hl⟩:=I.loc;have qE:yi X.env.scope x:=by rcases hx with k|k;exact .inl k;exact .inr (.inl k)
 let⟨u,r,l⟩:=hl i x v hi e1 qE;refine wpAny_AugAssign_Name ?_
 have go:dh (dz X.prog X.w) X.A (eval e X.env) (λw eJ=>dh (dz X.prog X.w) X.A (inplaceOp op u w) (λr gf=>dh (dz X.prog X.w) X.A (storeName X.env x r) (λ_=>SP X ψ D .next) X.xe gf) X.xe eJ) X.xe s:=by
  refine dZ (he ψ s σ H _ I h) ?_;rintro w s1 ⟨y,H1,I1,r1,q1⟩;refine dZ (ho ψ s1 σ H1 v y u w _ I1 r r1 q1) ?_;rintro z s2 ⟨zv,H2,I2,r2,q2⟩;exact Kq I2 hN hi hx r2 (λs3 I3=>⟨_,H2,I3,q2⟩) hf
 rcases l with⟨hk,hm⟩|⟨hk,c,hc,fc⟩
 .exact wpAny_loadName_local I.ok.kind hk hn hm go
 .rcases hk with hk|hk
  .exact wpAny_loadName_cell I.ok.kind hk hc fc go
  .rcases hx with k|k
   .have:X.env.scope.names.lookup x=aj .free:=hk;rw[k]at this;cases this
   .have:X.env.scope.names.lookup x=aj .free:=hk;rw[k]at this;cases this
end
section
variable{X:Cx}{pos:Pos}
abbrev aHS(c:TT)(tb:TS):TS:=λD σ H=>∃W:Nat->St->Hp->Prop,(∃m,W m σ H)/\∀m σ H,W m σ H ->
 c σ H λb H1=>if b=ak then ∃N:St->Hp->Prop,(∀aw H',N aw H'->∃m',m'<m/\W m' aw H')/\tb {D with nx:=N,ct:=N,bk:=D.nx} σ H1 else D.nx σ H1
private theorem Yh{c:gV}(hp:sQ (dz X.prog X.w) X.A X.env X.xe)(hc:PT X c tc)(hb:ic X body tb):PS X (.While c body [] pos) (aHS tc tb):=by
 intro ψ s σ H D I h;let⟨W,⟨m0,w0⟩,turn⟩:=h;refine wpAny_While (codeAny_whileLoop (λn s'=>∃aw H',Inv X ψ aw H' s'/\W n aw H') ?_ m0 ⟨σ,H,I,w0⟩);rintro n s1 ⟨ml,H1,I1,w1⟩;refine x6 hp (dZ (hc ψ s1 ml H1 _ I1 (turn n ml H1 w1)) ?_);rintro b s2 ⟨H2,I2,q2⟩;cases b with
 |true =>
  let⟨N,hN,q2⟩:=q2;rw[if_pos rfl];refine x6 hp (dZ (hb ψ s2 ml H2 _ I2 q2) λf s3 q3=>?_);cases f with
  |next =>
   let⟨i5,H3,I3,n3⟩:=q3;let⟨m',hm,w3⟩:=hN i5 H3 n3;exact⟨m',hm,i5,H3,I3,w3⟩
  |cont =>
   let⟨i5,H3,I3,n3⟩:=q3;let⟨m',hm,w3⟩:=hN i5 H3 n3;exact⟨m',hm,i5,H3,I3,w3⟩
  |brk=>exact q3
  |ret v=>exact q3
 |false =>
  rw[if_neg oh];exact CY ⟨ml,H2,I2,q2⟩
end
structure It where
 go:Nat->Hp->Prop
 zd:Nat->Hp->V->Hp->Prop
 stop:Nat->Hp->Prop
abbrev kN(X:Cx)(ψ:List (bw×Obj))(H:Hp)(b:bw):Prop :=
 H b=au/\b≠X.env.locals/\b∉X.fs/\(b∈X.ex∨X.av.heap.objs.size<=b)/\(∀x c,X.env.cells.lookup x=aj c->c≠b)/\∀p∈X.pn++ψ,p.1≠b
def Inv.kM{s:dg}{b:bw}(I:Inv X ψ σ H s)(hb:s.heap.objs.size<=b)(hn:H' b=au):kN X ψ H' b:=by
 refine⟨hn,Bb (jf I.lt hb),I.aT2 hb,.inr (lq I.sz hb),λx c e z=>?_,λp hp z=>?_⟩
 .obtain⟨v,q⟩:=I.cell x c e;exact absurd (jf q.lt (by rw[z];exact hb)) (rm _)
 .exact absurd (jf (ig (I.pin p hp).1) (by rw[z];exact hb)) (rm _)
structure Turn(cm:Bool)(tl:List (bw×List V))(P:jr)(w:je)(K:iw)(tg:gV)(J:It)(fp:List bw)(it:bw)(tn:Nat->jw->Prop):Prop where
 mem:it∈fp
 obj:∀i h,tn i h->∀b∈fp,∃o,h.get? b=aj o/\∀v,o.data≠.cell v
 keep:∀i h h',tn i h->(∀b∈fp,∀o,h.get? b=aj o->h'.get? b=aj o)->tn i h'
 item:∀(X:Cx),X.prog=P->X.w=w->X.K=K->(cm=ak->X.calm=ak)->(∀p∈tl,p∈X.tp)->∀(i:Nat)(ψ:List (bw×Obj))(s:dg)(σ:St)(H:Hp)(E:bh->dg->Prop),Inv X ψ σ H s->(∀b∈fp,kN X ψ H b)->tn i s.heap->J.go i H ->
  dh (dz P w) X.A (eS (.ref it)) (λr s1=>∃u,r=aj u /\
   dh (dz P w) X.A (CW tg (.ref it) u) (λ_ s2=>∃x H',Inv X ψ σ H' s2/\RelV x u/\J.zd i H x H'/\tn (i+1) s2.heap/\∀b∈fp,H' b=au) E s1) E s
 done:∀(X:Cx),X.prog=P->X.w=w->X.K=K->(cm=ak->X.calm=ak)->(∀p∈tl,p∈X.tp)->∀(i:Nat)(ψ:List (bw×Obj))(s:dg)(σ:St)(H:Hp)(E:bh->dg->Prop),Inv X ψ σ H s->(∀b∈fp,kN X ψ H b)->tn i s.heap->J.stop i H ->
  dh (dz P w) X.A (eS (.ref it)) (λr s1=>r=au/\Inv X ψ σ H s1) E s
 self:∀(A:jd)(i:Nat)(s:dg)(Q:bh->dg->Prop)(E:bh->dg->Prop),tn i s.heap->Q (.ref it) s->dh (dz P w) A (pyIter (.ref it)) Q E s
@[simp]def TI:=St->Hp->(It->Hp->Prop)->Prop
abbrev Mw(X:Cx)(ψ:List (bw×Obj))(σ:St)(tg:gV)(R:It->Hp->Prop)(HP:bh)(s2:dg):Prop :=
 ∃(it:bw)(fp:List bw)(tn:Nat->jw->Prop)(J:It)(H':Hp),HP=.ref it/\Inv X ψ σ H' s2/\Turn X.calm X.tp X.prog X.w X.K tg J fp it tn/\tn 0 s2.heap/\(∀b∈fp,kN X ψ H' b)/\R J H'
abbrev PI(X:Cx)(tg iter:gV)(wi:TI):Prop :=
 ∀(ψ:List (bw×Obj))(s:dg)(σ:St)(H:Hp)(R:It->Hp->Prop),Inv X ψ σ H s->wi σ H R ->
  dh (dz X.prog X.w) X.A (eval iter X.env) (λv s1=>dh (dz X.prog X.w) X.A (pyIter v) (Mw X ψ σ tg R) X.xe s1) X.xe s
def sL{M:Model}{A:jd}{s:dg}{o:Obj}{n:String}(ho:s.heap.get? it=aj o)(hc:o.cls=.type n)(hd:o.data=.fields vs)
  (hn:["enumerate","zip","dict_itemiterator","dict_reverseitemiterator","odict_iterator","itertools.zip_longest","itertools.pairwise"].contains n=ao)(hQ:Q () s):dh M A (CW tg (.ref it) u) Q E s:=by
 unfold CW
 cases tg<;>first
  |exact cj hQ
  |(cases u<;>first
    |exact cj hQ
    |(refine aq (wpAny_load ho ?_)
      rw[hc,hd];show dh M A (if(["enumerate","zip","dict_itemiterator","dict_reverseitemiterator","odict_iterator","itertools.zip_longest","itertools.pairwise"].contains n&&vs[0]?==aj (fg _))=ak then _ else _) Q E s;rw[if_neg (by intro h;rw[hn,Bool.false_and]at h;cases h)];exact cj hQ))
abbrev My(K:iw)(a:bw):It :=
 ⟨λi H=>∃xs x,cE K H a xs/\xs[i]?=aj x,λi H x H'=>H'=H/\∀xs,cE K H a xs->xs[i]?=aj x,λi H=>∃xs,cE K H a xs/\xs.length<=i⟩
abbrev Mx(K:iw)(a:bw):It :=
 ⟨λi H=>∃xs x,bz K H a xs/\xs[i]?=aj x,λi H x H'=>H'=H/\∀xs,bz K H a xs->xs[i]?=aj x,λi H=>∃xs,bz K H a xs/\xs.length<=i⟩
abbrev Bp(lo:Int)(n:Nat):It:=⟨λi _=>i<n,λi H x H'=>H'=H/\x=.int (lo+i),λi _=>n<=i⟩
def RV{w:je}{K:iw}(a it:bw):Turn cm tl P w K tg (My K a) [it] it (λi h=>h.IsListIter it a i) where
 mem:=by simp
 obj:=λi h st b hb=>by
  have e:b=it:=by simpa using hb
  subst e;let⟨o,e,c,d⟩:=st;exact⟨o,e,λv z=>by rw[d]at z;cases z⟩
 keep:=λi h h' st k=>st.at λo e=>k it (by simp) o e
 item:=by
  intro X hP hw hK hc ht i ψ s σ H E I hf st hg;subst hP hw hK;let⟨xs,x,hq,hx⟩:=hg;let⟨its,rv,p,hz⟩:=I.list hq;let⟨u,hu,ru⟩:=rv.get hx;let⟨f0,f1,f2,f3,f4,f5⟩:=hf it (by simp);refine wpAny_pyNext_list_item st p.isList (x:=u) (by simpa using hu) λh' ae sb=>?_;have I1:Inv X ψ σ H {s with heap:=h' }:=I.turned (t':=s.toks) (λb o hb e=>(sb.2 b hb).trans e) f0 f1 f3 f4 f5;let⟨o,e,c,d⟩:=id ae;exact⟨u,rfl,sL (s:={s with heap:=h' }) e c d (by decide) ⟨x,H,I1,ru,⟨rfl,λys hy=>by rw[I.Yk hy hq];exact hx⟩,ae,λb hb=>(hf b hb).1⟩⟩
 done:=by
  intro X hP hw hK hc ht i ψ s σ H E I hf st hg;subst hP hw hK;let⟨xs,hq,hx⟩:=hg;let⟨its,rv,p,hz⟩:=I.list hq;let⟨f0,f1,f2,f3,f4,f5⟩:=hf it (by simp);have hl:=rv.length;exact Zr (I.dC.heap I.af) st p.isList (by simp;omega) λh' eb=>⟨rfl,I.turned (t':=s.toks) (λb o hb e=>eb b o hb e) f0 f1 f3 f4 f5⟩
 self:=λ_ _ _ _ _ st h=>wpAny_pyIter_listiter st h
def Sq{w:je}{K:iw}(a it:bw):Turn cm tl P w K tg (Mx K a) [it] it (λi h=>h.IsTupleIter it a i) where
 mem:=by simp
 obj:=λi h st b hb=>by
  have e:b=it:=by simpa using hb
  subst e;let⟨o,e,c,d⟩:=st;exact⟨o,e,λv z=>by rw[d]at z;cases z⟩
 keep:=λi h h' st k=>st.at λo e=>k it (by simp) o e
 item:=by
  intro X hP hw hK hc ht i ψ s σ H E I hf st hg;subst hP hw hK;let⟨xs,x,hq,hx⟩:=hg;let⟨its,rv,p,hz⟩:=I.tuple hq;let⟨u,hu,ru⟩:=rv.get hx;let⟨f0,f1,f2,f3,f4,f5⟩:=hf it (by simp);refine wpAny_pyNext_tuple_item st (show s.heap.IsTuple a its.toArray from p) (x:=u) (by simpa using hu) λh' ae sb=>?_;have I1:Inv X ψ σ H {s with heap:=h' }:=I.turned (t':=s.toks) (λb o hb e=>(sb.2 b hb).trans e) f0 f1 f3 f4 f5;let⟨o,e,c,d⟩:=id ae;exact⟨u,rfl,sL (s:={s with heap:=h' }) e c d (by decide) ⟨x,H,I1,ru,⟨rfl,λys hy=>by rw[I.Ls hy hq];exact hx⟩,ae,λb hb=>(hf b hb).1⟩⟩
 done:=by
  intro X hP hw hK hc ht i ψ s σ H E I hf st hg;subst hP hw hK;let⟨xs,hq,hx⟩:=hg;let⟨its,rv,p,hz⟩:=I.tuple hq;let⟨f0,f1,f2,f3,f4,f5⟩:=hf it (by simp);have hl:=rv.length;exact Yn (I.dC.heap I.af) st (show s.heap.IsTuple a its.toArray from p) (by simp;omega) λh' eb=>⟨rfl,I.turned (t':=s.toks) (λb o hb e=>eb b o hb e) f0 f1 f3 f4 f5⟩
 self:=λ_ _ _ _ _ st h=>wpAny_pyIter_tupleiter st h
def Z'{w:je}{K:iw}(it:bw)(lo:Int)(n:Nat):Turn cm tl P w K tg (Bp lo n) [it] it (λi h=>IsRangeIter h it (lo+(i:Nat)*1) ((n:Int) - (i:Nat)) 1) where
 mem:=by simp
 obj:=λi h st b hb=>by
  have e:b=it:=by simpa using hb
  subst e
  exact⟨_,st,λv z=>by
   have z':Data.fields _=Data.cell v:=z;cases z'⟩
 keep:=λi h h' st k=>k it (by simp) _ st
 item:=by
  intro X hP hw hK hc ht i ψ s σ H E I hf st hg;subst hP hw hK;let⟨f0,f1,f2,f3,f4,f5⟩:=hf it (by simp);have hi:i<n:=hg;refine wpAny_pyNext_range_item st ⋯ λh' ae kk=>?_;have I1:Inv X ψ σ H {s with heap:=h',toks:=s.toks+1}:=I.turned (λb o hb e=>(kk.2 b hb).trans e) f0 f1 f3 f4 f5
  have br:IsRangeIter h' it (lo+((i+1:Nat):Int)*1) ((n:Int) - ((i+1:Nat):Int)) 1:=by
   have e1:lo+((i:Nat):Int)*1+1=lo+((i+1:Nat):Int)*1:=by omega
   have e2:(n:Int) - ((i:Nat):Int) - 1=(n:Int) - ((i+1:Nat):Int):=by omega
   rw[←e1,←e2];exact ae
  refine⟨_,rfl,sL (s:={s with heap:=h',toks:=s.toks+1}) (n:="range_iterator") br rfl rfl (by decide) ⟨.int (lo+i),H,I1,⟨s.toks,?_⟩,⟨rfl,rfl⟩,br,λb hb=>(hf b hb).1⟩⟩;rw[Int.mul_one]
 done:=by
  intro X hP hw hK hc ht i ψ s σ H E I hf st hg;subst hP hw hK;let⟨f0,f1,f2,f3,f4,f5⟩:=hf it (by simp);exact Ym (I.dC.heap I.af) st (by have:n<=i:=hg;omega) λh' eb=>⟨rfl,I.turned (t':=s.toks) (λb o hb e=>eb b o hb e) f0 f1 f3 f4 f5⟩
 self:=λ_ _ _ _ _ st h=>wpAny_pyIter_rangeiter st h
end
section
section
variable{X:Cx}
def Q8{s:dg}{lo hi:Int}{t v:Tok}{tk:Nat}(I:Inv X ψ σ H s)(h1:-(2^62)<=lo)(h2:lo<2^62)(h3:-(2^62)<=hi)(h4:hi<2^62)
  (q:R (Bp lo (hi - lo).toNat) H):dh (dz X.prog X.w) X.A (pyIter (.ref s.heap.objs.size)) (Mw X ψ σ tg R) E {s with heap:=s.heap.push {cls:=.type "range",data:=.fields #[.int lo t,.int hi u,.int 1 v]},toks:=tk}:=by
 refine wpAny_pyIter_range (IsRange.new ..) (small_one h1 h2 h3 h4) ?_;have I1:Inv X ψ σ H {s with heap:=s.heap.push {cls:=.type "range",data:=.fields #[.int lo t,.int hi u,.int 1 v]},toks:=tk}:=I.kept λb o e=>cu _ e
 refine⟨(s.heap.push {cls:=.type "range",data:=.fields #[.int lo t,.int hi u,.int 1 v]}).objs.size,[(s.heap.push {cls:=.type "range",data:=.fields #[.int lo t,.int hi u,.int 1 v]}).objs.size],_,_,H,rfl,
  I1.kept (t':=tk) λb o e=>cu _ e,Z' _ lo (hi - lo).toNat,?_,λb hb=>?_,q⟩
 .have e1:lo+((0:Nat):Int)*1=lo:=by simp
  have e2:(((hi - lo).toNat:Nat):Int) - ((0:Nat):Int)=Builtin.Range.rangeSize lo hi 1:=by rw[rangeSize_one];split<;>omega
  show IsRangeIter _ _ (lo+((0:Nat):Int)*1) ((((hi - lo).toNat:Nat):Int) - ((0:Nat):Int)) 1;rw[e1,e2];exact gw _ rfl
 .have e:b=(s.heap.push {cls:=.type "range",data:=.fields #[.int lo t,.int hi u,.int 1 v]}).objs.size:=by simpa using hb
  subst e;exact I1.kM (dw _) (I1.af.fresh (dw _))
abbrev aNZ(ta:TA):TI:=λσ H R=>ta σ H λvs H1=>∃j:Int,vs=[.int j]/\-(2^62)<=j/\j<2^62/\R (Bp 0 j.toNat) H1
abbrev aO0(ta:TA):TI:=λσ H R=>ta σ H λvs H1=>∃i j:Int,vs=[.int i,.int j]/\(-(2^62)<=i/\i<2^62/\-(2^62)<=j/\j<2^62)/\R (Bp i (j - i).toNat) H1
def RU{a:gV}{pos:Pos}(hg:Gl X "range")(hm:X.mg "range"=au)(ha:PA X [a] ta)(hs:iz [a] X.env=[(ao,eval a X.env)]:=by rfl):PI X tg (.Call (.Name "range" p) [a] [] pos) (aNZ ta):=by
 intro ψ s σ H R I h;refine Call_ (xw I hg hm boot_range (PyProof.Rows.callWith_type1 (dZ (ha pos ψ s σ H _ I h) ?_) hs rfl));rintro us s1 ⟨vs,H1,I1,r1,q1⟩;let⟨j,e,q1,q2,q⟩:=q1;subst e;cases r1 with
 |cons r rr =>
  cases rr;let⟨t,rfl⟩:=r;exact call_range_1 (Q8 I1 ⋯ ⋯ q1 q2 (by simpa using q))
def RQ{a b:gV}{pos:Pos}(hg:Gl X "range")(hm:X.mg "range"=au)(ha:PA X [a,b] ta)(hs:iz [a,b] X.env=[(ao,eval a X.env),(ao,eval b X.env)]:=by rfl)(ja:iz [b] X.env=[(ao,eval b X.env)]:=by rfl) :
  PI X tg (.Call (.Name "range" p) [a,b] [] pos) (aO0 ta):=by
 intro ψ s σ H R I h;refine Call_ (xw I hg hm boot_range (PyProof.Rows.callWith_type1 (dZ (ha pos ψ s σ H _ I h) λus s1 ⟨vs,H1,I1,r1,q1⟩=>?_) (by rw[hs,ja]) (by rw[ja];rfl)));let⟨i,j,e,⟨q1,q2,q3,q4⟩,q⟩:=q1;subst e;cases r1 with
 |cons r rr =>
  cases rr with
  |cons r' rr =>
   cases rr;let⟨t,rfl⟩:=r;let⟨t',rfl⟩:=r';exact call_range_2 (Q8 I1 q1 q2 q3 q4 q)
abbrev aTF(wi:TI)(g:TG)(tb:TS):TS:=λD σ H=>wi σ H λJ H1=>∃W:Nat->Nat->St->Hp->Prop,(∃m,W 0 m σ H1)/\∀i m σ H,W i m σ H ->
 (J.stop i H/\D.nx σ H)∨(J.go i H/\∃N:St->Hp->Prop,(∀aw H',N aw H'->∃m',m'<m/\W (i+1) m' aw H')/\∀x H',J.zd i H x H'->g x σ H' λc5 H2=>tb {D with nx:=N,ct:=N,bk:=D.nx} c5 H2)
abbrev A8(fp:List bw)(h:jw):List (bw×Obj):=fp.filterMap λb=>(h.get? b).map λo=>(b,o)
def yV{b:bw}{o:Obj}(hb:b∈fp)(e:h.get? b=aj o):(b,o)∈A8 fp h:=Gu.mpr ⟨b,hb,by rw[e];rfl⟩
def Zk{p:bw×Obj}(hp:p∈A8 fp h):p.1∈fp/\h.get? p.1=aj p.2:=by
 let⟨b,hb,e⟩:=Gu.mp hp;cases q:h.get? b with
 |none=>rw[q]at e;cases e
 |some o =>
  rw[q]at e;have e':(b,o)=p:=jk.inj e;subst e';exact⟨hb,q⟩
def Inv.pinned{s:dg}(I:Inv X ψ σ H s)(hf:∀b∈fp,kN X ψ H b)(ho:∀b∈fp,∃o,s.heap.get? b=aj o/\∀v,o.data≠.cell v):Inv X (ψ++A8 fp s.heap) σ H s :=
 I.P7 λp hp=>(qx.mp hp).elim (λz=>I.pin p (ug _ z)) λz=>by
  let⟨hb,e⟩:=Zk z;let⟨f0,f1,f2,_⟩:=hf p.1 hb;let⟨o,e',d⟩:=ho p.1 hb;rw[e]at e';cases e';exact⟨e,f0,f1,f2,d⟩
def Inv.Ga(I:Inv X (ψ++pl) σ H s):Inv X ψ σ H s:=I.P7 λp hp=>I.pin p (ug _ (GH _ hp))
private theorem OU{g:TG}{pos:Pos}(hp:sQ (dz X.prog X.w) X.A X.env X.xe)(hi:PI X tg iter wi)(hg:PG X tg g)(hb:ic X body tb)
  (hs:∀x,C4 iter X.env x=pure x:=by intro _;rfl):PS X (.For tg iter body [] pos) (aTF wi g tb):=by
 intro ψ s σ H D I h;refine wpAny_For (dZ (hi ψ s σ H _ I h) λv s1 h1=>dZ h1 λHP s2 h2=>?_) hs;let⟨it,fp,tn,J,H2,e,I2,T,br,f2,W,⟨m0,w0⟩,turn⟩:=h2;subst e;have yy:∀{H':Hp},(∀b∈fp,H' b=au)->∀b∈fp,kN X ψ H' b:=λhn b hb=>⟨hn b hb,(f2 b hb).2⟩;refine codeAny_forLoop_any (λn s'=>∃i aw H',Inv X ψ aw H' s'/\tn i s'.heap/\(∀b∈fp,H' b=au)/\W i n aw H') ?_ m0 ⟨0,σ,H2,I2,br,λb hb=>(f2 b hb).1,w0⟩;rintro n s3 ⟨i,i5,H3,I3,dA,N0,w3⟩;rcases turn i n i5 H3 w3 with⟨stop,qn⟩|⟨go,N,hN,step⟩
 .refine x6 hp (dZ (T.done X rfl rfl rfl (λh=>h) (λ_ h=>h) i ψ s3 i5 H3 X.xe I3 (yy N0) dA stop) ?_);rintro r s4 ⟨hr,I4⟩;subst hr;exact CY ⟨i5,H3,I4,qn⟩
 .refine x6 hp (dZ (T.item X rfl rfl rfl (λh=>h) (λ_ h=>h) i ψ s3 i5 H3 X.xe I3 (yy N0) dA go) ?_);rintro r s4 ⟨u,hr,h4⟩;subst hr;refine x6 hp (dZ h4 λ_ s5 ⟨x,H5,I5,r5,y5,Hn,WO⟩=>?_);have I5':=I5.pinned (yy WO) (T.obj _ _ Hn);refine x6 hp (dZ (hg _ s5 i5 H5 x u _ I5' r5 (step x H5 y5)) λ_ s6 ⟨Vp,H6,I6,q6⟩=>?_);refine x6 hp (dZ (hb _ s6 Vp H6 _ I6 q6) λf s7 q7=>?_)
  have again:∀{k6:St}{H7:Hp},Inv X (ψ++A8 fp s5.heap) k6 H7 s7->N k6 H7->∃m,m<n/\∃i aw H',Inv X ψ aw H' s7/\tn i s7.heap/\(∀b∈fp,H' b=au)/\W i m aw H':=λ{k6 H7} I7 n7=>by
   let⟨m',hm,w7⟩:=hN k6 H7 n7;refine⟨m',hm,i+1,k6,H7,I7.Ga,T.keep _ _ _ Hn λb hb o e=>(I7.pin (b,o) (ug _ (ug _ (yV hb e)))).1,λb hb=>?_,w7⟩;let⟨o,e,d⟩:=T.obj _ _ Hn b hb;exact(I7.pin (b,o) (ug _ (ug _ (yV hb e)))).2.1
  cases f with
  |next=>let⟨k6,H7,I7,n7⟩:=q7;exact again I7 n7
  |cont=>let⟨k6,H7,I7,n7⟩:=q7;exact again I7 n7
  |brk=>let⟨k6,H7,I7,q7⟩:=q7;exact⟨k6,H7,I7.Ga,q7⟩
  |ret v=>let⟨x7,k6,H7,I7,r7,q7⟩:=q7;exact⟨x7,k6,H7,I7.Ga,r7,q7⟩
end
end
section
@[simp]def R2:=V->V->Hp->VK->Prop
abbrev yW(X:Cx)(f:bh->bh->Sem bh)(r:R2):Prop :=
 ∀(ψ:List (bw×Obj))(s:dg)(σ:St)(H:Hp)(x y:V)(v u:bh)(Q:VK),Inv X ψ σ H s->RelV x v->RelV y u->r x y H Q ->
  dh (dz X.prog X.w) X.A (f v u) (EP X ψ σ Q) X.xe s
abbrev Mt(X:Cx)(f:bh->Sem bh)(r:V->Hp->VK->Prop):Prop :=
 ∀(ψ:List (bw×Obj))(s:dg)(σ:St)(H:Hp)(x:V)(v:bh)(Q:VK),Inv X ψ σ H s->RelV x v->r x H Q ->
  dh (dz X.prog X.w) X.A (f v) (EP X ψ σ Q) X.xe s
abbrev p9(X:Cx)(f:bh)(r:List V->Hp->VK->Prop):Prop :=
 ∀(ψ:List (bw×Obj))(s:dg)(σ:St)(H:Hp)(xs:List V)(us:List bh)(Q:VK),Inv X ψ σ H s->Vals xs us->r xs H Q ->
  dh (dz X.prog X.w) X.A (call f us) (EP X ψ σ Q) X.xe s
abbrev zh(r:R2)(ta tb:TE):TE:=λσ H Q=>ta σ H λx H1=>tb σ H1 λy H2=>r x y H2 Q
abbrev VB(r:V->Hp->VK->Prop)(ta:TE):TE:=λσ H Q=>ta σ H λx H1=>r x H1 Q
abbrev rI(C:Int->Int->Prop)(g:Int->Int->V):R2:=λx y H Q=>∃i j,x=.int i/\y=.int j/\C i j/\Q (g i j) H
abbrev il(g:Int->Int->V):R2:=λx y H Q=>∃i j,x=.int i/\y=.int j/\Q (g i j) H
abbrev rU(g:Int->V):V->Hp->VK->Prop:=λx H Q=>∃i,x=.int i/\Q (g i) H
variable{r:R2}
section
variable{X:Cx}{a b:gV}{ta tb:TE}{pos:Pos}
def K8(ha:PE X a ta)(hb:PE X b tb){s:dg}{σ:St}{H:Hp}{R:V->V->Hp->Prop}(I:Inv X ψ σ H s)
  (h:ta σ H λx H1=>tb σ H1 λy H2=>R x y H2){Q:bh->dg->Prop}{f:bh->bh->Sem bh}
  (hf:∀v u s2 x y H2,Inv X ψ σ H2 s2->RelV x v->RelV y u->R x y H2->dh (dz X.prog X.w) X.A (f v u) Q X.xe s2) :
  dh (dz X.prog X.w) X.A (eval a X.env) (λv ah=>dh (dz X.prog X.w) X.A (eval b X.env) (λu eJ=>dh (dz X.prog X.w) X.A (f v u) Q X.xe eJ) X.xe ah) X.xe s:=by
 refine dZ (ha ψ s σ H _ I h) ?_;rintro v s1 ⟨x,H1,I1,r1,q1⟩;refine dZ (hb ψ s1 σ H1 _ I1 q1) ?_;rintro u s2 ⟨y,H2,I2,r2,q2⟩;exact hf v u s2 x y H2 I2 r1 r2 q2
def aO1(ho:yW X (vq op) r)(ha:PE X a ta)(hb:PE X b tb):PE X (.BinOp a op b pos) (zh r ta tb):=by
 intro ψ s σ H Q I h;exact wpAny_BinOp (K8 ha hb I h λv u s2 x y H2 I2 rx ry q=>ho ψ s2 σ H2 x y v u Q I2 rx ry q)
def aO2{r:V->Hp->VK->Prop}(ho:Mt X (unaryOp op) r)(ha:PE X a ta):PE X (.UnaryOp op a pos) (VB r ta):=by
 intro ψ s σ H Q I h;exact UnaryOp_ (dZ (ha ψ s σ H _ I h) (by rintro v s1 ⟨x,H1,I1,r1,q1⟩;exact ho ψ s1 σ H1 x v Q I1 r1 q1))
def DY{g:Int->Int->Int}
  (rule:∀(i j:Int)(t u:Tok)(s:dg)(Q:bh->dg->Prop)(E:bh->dg->Prop),C i j->Q (.int (g i j) s.toks) {s with toks:=s.toks+1}->dh (dz X.prog X.w) X.A (f (.int i t) (.int j u)) Q E s) :
  yW X f (rI C λi j=>.int (g i j)):=by
 intro ψ s σ H x y v u Q I rx ry h;let⟨i,j,rfl,rfl,hc,q⟩:=h;let⟨t,rfl⟩:=rx;let⟨t',rfl⟩:=ry;exact rule i j t t' s _ _ hc ⟨.int (g i j),H,I.tok _,⟨_,rfl⟩,q⟩
def FT{g:Int->Int->Int}
  (rule:∀(i j:Int)(t u:Tok)(s:dg)(Q:bh->dg->Prop)(E:bh->dg->Prop),Q (.int (g i j) s.toks) {s with toks:=s.toks+1}->dh (dz X.prog X.w) X.A (f (.int i t) (.int j u)) Q E s) :
  yW X f (il λi j=>.int (g i j)):=by
 intro ψ s σ H x y v u Q I rx ry h;let⟨i,j,rfl,rfl,q⟩:=h;let⟨t,rfl⟩:=rx;let⟨t',rfl⟩:=ry;exact rule i j t t' s _ _ ⟨.int (g i j),H,I.tok _,⟨_,rfl⟩,q⟩
def FR{g:Int->Int->Bool}
  (rule:∀(i j:Int)(t u:Tok)(s:dg)(Q:bh->dg->Prop)(E:bh->dg->Prop),Q (.bool (g i j)) s->dh (dz X.prog X.w) X.A (f (.int i t) (.int j u)) Q E s) :
  yW X f (il λi j=>.bl (g i j)):=by
 intro ψ s σ H x y v u Q I rx ry h;let⟨i,j,rfl,rfl,q⟩:=h;let⟨t,rfl⟩:=rx;let⟨t',rfl⟩:=ry;exact rule i j t t' s _ _ ⟨.bl (g i j),H,I,rfl,q⟩
abbrev K7(i j:Int):Prop:=0<j/\j<1073741824
abbrev K6(i j:Int):Prop:=0<=j/\j<=1000000/\i.natAbs<2^64
abbrev B7(i j:Int):Prop:=(-(2^64)<i/\i<2^64)∨(-(2^64)<j/\j<2^64)
def B7.ok{i j:Int}(h:B7 i j):IntMulOk i j:=by
 rcases h with⟨h1,h2⟩|⟨h1,h2⟩
 .exact .of_left (intBits_le_64 h1 h2)
 .exact .of_right (intBits_le_64 h1 h2)
def aHW:yW X (vq .Add) (il λi j=>.int (i+j)):=FT λ_ _ _ _ _ _ _ q=>add_int q
def aHX:yW X (vq .Sub) (il λi j=>.int (i - j)):=FT λ_ _ _ _ _ _ _ q=>sub_int q
def aHY:yW X (vq .Mult) (rI B7 λi j=>.int (i*j)):=DY λ_ _ _ _ _ _ _ hc q=>mul_int q hc.ok
def aBP:yW X (vq .FloorDiv) (rI K7 λi j=>.int (i / j)):=DY λi j _ _ _ _ _ hc q=>by
 have h1:(0:Int)<j:=hc.1;have h2:j<1073741824:=hc.2;exact floordiv_int ⋯ (by rw[Int.fdiv_eq_ediv_of_nonneg i ⋯];exact q) (.inl (PyProof.noPylong_small ⋯))
def aHZ:yW X (vq .Mod) (rI (λ_ j=>0<j) λi j=>.int (i%j)):=DY λi j _ _ _ _ _ hc q=>by
 have h1:(0:Int)<j:=hc;exact mod_int' ⋯ (by rw[Int.fmod_eq_emod_of_nonneg i ⋯];exact q)
def aI0:yW X (vq .Pow) (rI K6 λi j=>.int (i^j.toNat)):=DY λ_ _ _ _ _ _ _ hc q=>pow_int_small hc.1 hc.2.1 hc.2.2 q
def aBQ:yW X (inplaceOp .Add) (il λi j=>.int (i+j)):=FT λ_ _ _ _ _ _ _ q=>iadd_int q
def aBR:yW X (inplaceOp .Sub) (il λi j=>.int (i - j)):=FT λ_ _ _ _ _ _ _ q=>isub_int q
def Vz{g:Int->Int}
  (rule:∀(i:Int)(t:Tok)(s:dg)(Q:bh->dg->Prop)(E:bh->dg->Prop),Q (.int (g i) s.toks) {s with toks:=s.toks+1}->dh (dz X.prog X.w) X.A (f (.int i t)) Q E s) :
  Mt X f (rU λi=>.int (g i)):=by
 intro ψ s σ H x v Q I rx h;let⟨i,rfl,q⟩:=h;let⟨t,rfl⟩:=rx;exact rule i t s _ _ ⟨.int (g i),H,I.tok _,⟨_,rfl⟩,q⟩
def aI1:Mt X (unaryOp .USub) (rU λi=>.int (-i)):=Vz λ_ _ _ _ _ q=>neg_int q
end
section
variable{X:Cx}{a b c:gV}{ta tb tc:TE}{pos:Pos}
def aI2{Q:VK}{k k':Bool}(I:Inv X ψ σ H s)(q:Q (.bl k) H)(e:k=k'):EP X ψ σ Q (.bool k') s:=by
 subst e;exact⟨.bl k,H,I,rfl,q⟩
def aO3:yW X (ou .Lt) (il λi j=>.bl (decide (i<j))):=FR λ_ _ _ _ _ _ _ q=>lt_int q
def aO4:yW X (ou .LtE) (il λi j=>.bl (decide (i<=j))):=FR λ_ _ _ _ _ _ _ q=>le_int q
def aO5:yW X (ou .Gt) (il λi j=>.bl (decide (j<i))):=FR λ_ _ _ _ _ _ _ q=>gt_int q
def aO6:yW X (ou .GtE) (il λi j=>.bl (decide (j<=i))):=FR λ_ _ _ _ _ _ _ q=>ge_int q
def aI3:yW X (ou .Is) (λx y H Q=>y=.ag/\Q (.bl (decide (x=.ag))) H):=by
 intro ψ s σ H x y v u Q I rx ry h;let⟨rfl,q⟩:=h;cases ry;refine is_none_gen (aI2 I q ?_)
 cases x<;>first
  |(cases rx;rfl)
  |(let⟨t,rfl⟩:=rx;rfl)
def yW.or(h:yW X f r)(h':yW X f r'):yW X f (λx y H Q=>r x y H Q∨r' x y H Q):=by
 intro ψ s σ H x y v u Q I rx ry q;rcases q with q|q
 .exact h ψ s σ H x y v u Q I rx ry q
 .exact h' ψ s σ H x y v u Q I rx ry q
def aTI(b:gV)(h:op≠.In:=by decide)(h2:op≠.NotIn:=by decide):Bi op b=ao:=by
 have e1:(op==CmpOp.In)=ao:=by cases op<;>first|rfl|exact absurd rfl h
 have e2:(op==CmpOp.NotIn)=ao:=by cases op<;>first|rfl|exact absurd rfl h2
 cases b<;>simp[Bi,e1,e2]
def aBS(ho:yW X (ou op) r)(ha:PE X a ta)(hb:PE X b tb)(hm:Bi op b=ao):PE X (.Compare a [op] [b] pos) (zh r ta tb):=by
 intro ψ s σ H Q I h;exact wpAny_Compare1 (K8 ha hb I h λv u s2 x y H2 I2 rx ry q=>ho ψ s2 σ H2 x y v u Q I2 rx ry q) hm
abbrev IV(t:TE):TT:=λσ H Q=>t σ H λx H'=>∃k,x=.bl k/\Q k H'
def aBT(ho:yW X (ou op) r)(ha:PE X a ta)(hb:PE X b tb)(hm:Bi op b=ao):PT X (.Compare a [op] [b] pos) (IV (zh r ta tb)):=by
 intro ψ s σ H Q I h
 refine wpAny_isTrue_Compare1 (dZ (ha ψ s σ H _ I h) λv s1 ⟨x,H1,I1,r1,q1⟩=>dZ (hb ψ s1 σ H1 _ I1 q1) λu s2 ⟨y,H2,I2,r2,q2⟩ =>
  dZ (ho ψ s2 σ H2 x y v u _ I2 r1 r2 q2) λc s3 ⟨z,H3,I3,r3,k,e,q3⟩=>?_) hm
 subst e;cases r3;exact xg ⟨H3,I3,q3⟩
abbrev Jt(r r':R2)(ta tb tc:TE):TE:=λσ H Q=>ta σ H λx H1=>tb σ H1 λy H2=>r x y H2 λz H3=>∃k,z=.bl k /\
 (if k=ak then tc σ H3 λw' H4=>r' y w' H4 Q else Q (.bl ao) H3)
def Yg(ho:yW X (ou op) r)(b8:yW X (ou k9) r')(ha:PE X a ta)(hb:PE X b tb)(hc:PE X c tc)
  (hm:lastMarks [op,k9] [b,c]=ao:=by with_unfolding_all rfl):PE X (.Compare a [op,k9] [b,c] pos) (Jt r r' ta tb tc):=by
 intro ψ s σ H Q I h
 refine Compare_chain (dZ (ha ψ s σ H _ I h) λv s1 ⟨x,H1,I1,r1,q1⟩=>chain_link (dZ (hb ψ s1 σ H1 _ I1 q1) λu s2 ⟨y,H2,I2,r2,q2⟩ =>
  dZ (ho ψ s2 σ H2 x y v u _ I2 r1 r2 q2) λd s3 ⟨z,H3,I3,r3,k,e,q3⟩=>?_)) hm
 subst e;cases r3;refine xg ?_;cases k with
 |false=>exact ite_ff ⟨.bl ao,H3,I3,rfl,q3⟩
 |true=>exact ite_tt (chain_last (dZ (hc ψ s3 σ H3 _ I3 q3) λw' s4 ⟨z',H4,I4,r4,q4⟩=>b8 ψ s4 σ H4 y z' u w' Q I4 r2 r4 q4))
def Ye(ho:yW X (ou op) r)(b8:yW X (ou k9) r')(ha:PE X a ta)(hb:PE X b tb)(hc:PE X c tc)
  (hm:lastMarks [op,k9] [b,c]=ao:=by with_unfolding_all rfl):PT X (.Compare a [op,k9] [b,c] pos) (IV (Jt r r' ta tb tc)):=by
 intro ψ s σ H Q I h
 refine isTrue_chain (dZ (ha ψ s σ H _ I h) λv s1 ⟨x,H1,I1,r1,q1⟩=>test_link (dZ (hb ψ s1 σ H1 _ I1 q1) λu s2 ⟨y,H2,I2,r2,q2⟩ =>
  dZ (ho ψ s2 σ H2 x y v u _ I2 r1 r2 q2) λd s3 ⟨z,H3,I3,r3,k,e,q3⟩=>?_)) hm
 subst e;cases r3;refine xg ?_;cases k with
 |false =>
  let⟨k',e',q'⟩:=q3;cases e';exact ite_ff ⟨H3,I3,q'⟩
 |true =>
  refine ite_tt (test_last (dZ (hc ψ s3 σ H3 _ I3 q3) λw' s4 ⟨z',H4,I4,r4,q4⟩=>dZ (b8 ψ s4 σ H4 y z' u w' _ I4 r2 r4 q4) ?_));rintro d' s5 ⟨z2,H5,I5,r5,k2,e2,q5⟩;subst e2;cases r5;exact xg ⟨H5,I5,q5⟩
def CF:(dj:Nat)<2^63:=by rw[sizeLine_eq];decide
def Y':yW X (vq .Add) (λx y H Q=>∃i j,x=.str i/\y=.str j/\i.length+j.length<=dj/\Q (.str (i++j)) H):=by
 intro ψ s σ H x y v u Q I rx ry h;let⟨i,j,rfl,rfl,hz,q⟩:=h;let⟨t,rfl⟩:=rx;let⟨t',rfl⟩:=ry;exact add_str (λt' tk=>⟨.str (i++j),H,I.tok _,⟨_,rfl⟩,q⟩) hz
def vals1{x:V}(r:Vals [x] us):∃u,us=[u]/\RelV x u:=by
 cases r with
 |cons r1 r2=>cases r2;exact⟨_,rfl,r1⟩
def vals2{x:V}(r:Vals [x,y] us):∃u w',us=[u,w']/\RelV x u/\RelV y w':=by
 cases r with
 |cons r1 r2 =>
  cases r2 with
  |cons r3 r4=>cases r4;exact⟨_,_,rfl,r1,r3⟩
def Zi(hc:X.calm=ak):p9 X (.builtin "min") (λxs H Q=>∃i j,xs=[.int i,.int j]/\Q (.int (if j<i then j else i)) H):=by
 intro ψ s σ H xs us Q I r h;let⟨i,j,rfl,q⟩:=h;let⟨u,w',rfl,⟨t,rfl⟩,⟨t',rfl⟩⟩:=vals2 r;refine min_two_ints (I.ok.hd hc) λh' tk k=>⟨_,H,I.kept k,?_,q⟩;by_cases hj:j<i
 .rw[if_pos hj,if_pos hj];exact⟨_,rfl⟩
 .rw[if_neg hj,if_neg hj];exact⟨_,rfl⟩
end
end
variable{env:Env}
section
structure xf(h:jw)(x dx C:bw)(mA:Str->Option bh):Prop where
 obj:h.get? x=aj (tJ C dx)
 ns:h.Ns1 dx mA
 ne:dx≠x
private theorem Zh{mA:Str->Option bh}(n:h.Ns1 dx mA):∃od,h.get? dx=aj od/\∀name,Ge name od=aj (mA name):=by
 let⟨o,es,ep,ho,hd,hk,_,hm⟩:=n;refine⟨o,ho,λname=>?_⟩;have e:=hm name;unfold nsFind findBy at e;rw[←Array.find?_toList]at e;unfold Ge;rw[hd];dsimp only;split
 ·rename_i y q;rw[q]at e;exact congrArg aj e
 .rename_i q;rw[q]at e
  have a:es.toList.any (·.refKey)=ao:=by
   rw[List.any_eq_false];intro y hy;let⟨z,t,bg⟩:=hk y (Array.mem_toList_iff.mp hy);simp[kQ.refKey,bg]
  have a':¬ es.toList.any (·.refKey)=ak:=by rw[a];exact oh
  rw[if_neg a'];exact congrArg aj e
def xf.look{x:bw}{mA:Str->Option bh}(I:xf h x dx C mA):∃od,PySem.W.InstAt h x (tJ C dx) C (aj od)/\∀name,Ge name od=aj (mA name) :=
 let⟨od,ho,hl⟩:=Zh I.ns
 ⟨od,⟨I.obj,rfl,rfl,ho⟩,hl⟩
section
variable{prog:jr}{w:je}{A:jd}{s:dg}{K:iw}{x:bw}{mA:Str->Option bh}{v:bh}
def get_map{expr:Bool}(X:K.In s.heap)(I:xf s.heap x dx C mA)(hg:Bm K C name=ak)(hh:C3 K C=ak)
  (ha:jt K (.ref C) name=aj au)(hv:mA name=aj v)(HU:PySem.W.handedIn v=ak)(h:Q v {s with toks:=s.toks+1}) :
  dh (dz prog w) A (getAttr (.ref x) name expr) Q E s:=by
 let⟨od,J,hl⟩:=I.look;exact PySem.W.get_value X J (LU hg).1 (PySem.W.findObj_own hh ha rfl (by rw[hl,hv])) HU h
def Yd(X:K.In s.heap)(I:xf s.heap x dx C mA)(hg:Bm K C name=ak)
  (hf:jt K (.ref C) name=aj (aj (.ref f)))(ht:tm K (.ref f)=ak)(hv:mA name=au)(h:Q (.ref f,[.ref x]) s) :
  dh (dz prog w) A (getMethod (.ref x) name pl) Q E s:=by
 let⟨od,J,hl⟩:=I.look;exact PySem.W.method_fn X J (LU hg).1 (LU hg).2 hf (beq_iff_eq.mp ht) (by show(Ge name od).map (·.isSome)=aj ao;rw[hl,hv];rfl) h
def aBU{ns:List Str}(X:K.In s.heap)(I:xf s.heap x dx C mA)
  (hs:jt K (.ref C) "__setattr__"=aj (aj (.builtin "object.__setattr__")))(hp:Gq K C=ak)(ht:PySem.W.takerIn K C name=aj au)(hh:C3 K C=ak)
  (hw:PySem.Within mA ns)(hsz:ns.length<=dj)
  (h:∀h',xf h' x dx C (λy=>if y=name then aj v else mA y)->lu dx s.heap h'->Q () {s with heap:=h',toks:=s.toks+2}) :
  dh (dz prog w) A (setAttr (.ref x) name v) Q E s:=by
 let⟨od,J,hl⟩:=I.look;refine PySem.W.set_plain X J hs (PySem.W.osa_open (s:={s with toks:=s.toks+1}) (r:=none) X J hp ht λb=>?_);let⟨cd,hc,iq⟩:=PySem.W.any_some hh;have hx:s.heap.get? x=aj ⟨.ref C,aj dx,.plain,#[]⟩:=I.obj;refine aq (cj (aq (aq (wpAny_loadPart hx (aq (uo.here (s:={s with toks:=s.toks+1}) (PySem.W.looks_clsIn X hc) ?_))))));rw[iq];refine cj (a:=some dx) (aq (cj (aq ?_)));refine wpAny_nsSet1 (s:={s with toks:=s.toks+1}) I.ns λh' Ei ja=>?_;let⟨oD,esD,epD,Wg,Ws,Ww⟩:=Ei.count (PySem.Within.cons name v hw);refine aq (wpAny_lookBehind Wg (by rw[Ws];exact pastItsLine_dict (lq Ww (by rw[qy];omega))) ?_);exact cj (h _ ⟨(ja.2 _ (Ne.symm I.ne)).trans I.obj,Ei,I.ne⟩ ja)
def Yc(X:K.In s.heap)(hm:GD K C=ak)
  (hi:jt K (.ref C) "__init__"=aj (aj (.ref f)))(hf:x4 K (.ref f)=aj (.type "function"))
  (h:kP (dz prog w) (A.under (.builtin "type.__call__" ⟨.ref C::vs,kw⟩)) (.call (.ref f) ⟨.ref (s.heap.objs.size+1)::vs,kw⟩) (PySem.W.InitBack (s.heap.objs.size+1) R)
   {s with heap:=(s.heap.push xq).push (tJ C s.heap.objs.size)}) :
  kP (dz prog w) A (.call (.ref C) ⟨vs,kw⟩) R s:=by
 let⟨hh,g,d,t,os⟩:=s;exact PySem.W.make_core (PySem.W.makes_of X hm) (PySem.W.looks_findIn X hi) (λself=>PySem.W.bind_fn X self hf) (.inl rfl) h
end
abbrev yX(f:Str)(v:V):List (Str×V)->List (Str×V)
 |[]=>[(f,v)]
 |(g,x)::r=>if g=f then(g,v)::r else(g,x)::yX f v r
def T7(f g:Str)(v:V):∀fs:List (Str×V),(yX f v fs).lookup g=if g=f then aj v else fs.lookup g
 |[]=>by
  show yu g [(f,v)]=_;by_cases h:g=f
  .have hb:(g==f)=ak:=beq_iff_eq.mpr h;simp only[yu,hb,if_pos h]
  .have hb:(g==f)=ao:=beq_eq_false_iff_ne.mpr h;simp only[yu,hb,if_neg h]
 |(k,x)::r=>by
  have ih:=T7 f g v r;rw[show yX f v ((k,x)::r)=(if k=f then(k,v)::r else(k,x)::yX f v r)from rfl];by_cases hk:k=f
  .rw[if_pos hk];by_cases h:g=k
   .have hb:(g==k)=ak:=beq_iff_eq.mpr h;simp only[yu,hb,if_pos (h.trans hk)]
   .have hb:(g==k)=ao:=beq_eq_false_iff_ne.mpr h;simp only[yu,hb,if_neg (λe:g=f=>h (e.trans hk.symm))]
  .rw[if_neg hk];by_cases h:g=k
   .have hb:(g==k)=ak:=beq_iff_eq.mpr h;simp only[yu,hb,if_neg (λe:g=f=>hk (h.symm.trans e))]
   .have hb:(g==k)=ao:=beq_eq_false_iff_ne.mpr h;simp only[yu,hb];exact ih
def Lr(f:Str)(v:V):∀fs:List (Str×V),f∈(yX f v fs).map (·.1)/\∀g,g∈fs.map (·.1)->g∈(yX f v fs).map (·.1)
 |[]=>⟨by simp[yX],λg h=>by simp at h⟩
 |(k,x)::r=>by
  let⟨i1,i2⟩:=Lr f v r;rw[show yX f v ((k,x)::r)=(if k=f then(k,v)::r else(k,x)::yX f v r)from rfl];by_cases hk:k=f
  .rw[if_pos hk];subst hk;exact⟨by simp,λg h=>by simpa using h⟩
  .rw[if_neg hk];refine⟨?_,λg h=>?_⟩
   .rw[ji];exact nj _ i1
   .rw[ji]at h ⊢;rcases nu.mp h with e|e
    .exact nu.mpr (.inl e)
    .exact nj _ (i2 g e)
def T6(f:Str)(v:V):∀fs:List (Str×V),(yX f v fs).length<=fs.length+1
 |[]=>by simp[yX]
 |(k,x)::r=>by
  have ih:=T6 f v r;rw[show yX f v ((k,x)::r)=(if k=f then(k,v)::r else(k,x)::yX f v r)from rfl];by_cases hk:k=f
  .rw[if_pos hk,qy,qy];omega
  .rw[if_neg hk,qy,qy];omega
def yU.some_of{o:Option bh}(r:yU (aj v) o):∃u,o=aj u/\RelV v u:=by
 cases o with
 |none=>exact(show False from r).elim
 |some u=>exact⟨u,rfl,r⟩
def yU.none_of{o:Option bh}(r:yU au o):o=au:=by
 cases o with
 |none=>rfl
 |some u=>exact(show False from r).elim
def Zg(r:RelV v u):PySem.W.handedIn u=ak:=by
 cases v with
 |ag=>cases(show u=bh.none from r);rfl
 |bl b=>cases(show u=bh.bool b from r);rfl
 |int i=>let⟨t,e⟩:=(show ∃t,u=bh.int i t from r);cases e;rfl
 |str x=>let⟨t,e⟩:=(show ∃t,u=bh.str x t from r);cases e;rfl
 |Am b=>let⟨t,e⟩:=(show ∃t,u=bh.bytes b t from r);cases e;rfl
 |Ae b=>let⟨t,e⟩:=(show ∃t,u=bh.float b t from r);cases e;rfl
 |ref a=>cases(show u=bh.ref a from r);rfl
 |ty n=>cases(show u=bh.type n from r);rfl
section
variable{w:je}{h:jw}{a:bw}{fs:List (Str×V)}
def JR(af:bq P w H h)(e:H a=aj (.ins C dx fs)):∃mA,xf h a dx C mA/\(∀f,yU (fs.lookup f) (mA f))/\PySem.Within mA (fs.map (·.1))/\fs.length<=1000/\H dx=aj (.own a):=by
 let⟨d,z,ne,ob,mA,n,r,q⟩:=(show j8 P w H h a (.ins C dx fs)from af a _ e);exact⟨mA,⟨ob,n,ne⟩,r,q,z,d⟩
end
structure gc(K:iw)(C:bw):Prop where
 pg:Bm K C Str.empty=ak
 hd:C3 K C=ak
 po:Gq K C=ak
 sa:jt K (.ref C) "__setattr__"=aj (aj (.builtin "object.__setattr__"))
def gc.get{K:iw}(c:gc K C)(f:Str):Bm K C f=ak:=c.pg
abbrev j6(K:iw)(C:bw)(f:Str):Prop:=jt K (.ref C) f=aj au
def j6.DH{K:iw}(n:j6 K C f):PySem.W.takerIn K C f=aj au:=by
 unfold PySem.W.takerIn;rw[show jt K (.ref C) f=aj au from n];rfl
structure Meth(K:iw)(C:bw)(m:Str)(f:bw):Prop where
 at_:jt K (.ref C) m=aj (aj (.ref f))
 fn:tm K (.ref f)=ak
 kp:qp K (.ref f)=ak
section
variable{X:Cx}{ψ:List (bw×Obj)}{s:dg}{a:bw}{fs:List (Str×V)}{v:V}{A:jd}
def X'{b:Bool}(I:Inv X ψ σ H s)(e:H a=aj (.ins C dx fs))(c:gc X.K C)(n:j6 X.K C f)(l:fs.lookup f=aj v)
  (h:∀u s',Inv X ψ σ H s'->RelV v u->Q u s'):dh (dz X.prog X.w) A (getAttr (.ref a) f b) Q E s:=by
 let⟨mA,O,r,_,_,_⟩:=JR I.af e;let⟨u,hu,ru⟩:=yU.some_of (v:=v) (o:=mA f) (by rw[←l];exact r f);exact get_map I.b7 O (c.get f) c.hd n hu (Zg ru) (h u _ (I.tok _) ru)
def So{m:Str}{g:bw}(I:Inv X ψ σ H s)(e:H a=aj (.ins C dx fs))(c:gc X.K C)(k:Meth X.K C m g)(l:fs.lookup m=au)
  (h:Q (.ref g,[.ref a]) s):dh (dz X.prog X.w) A (getMethod (.ref a) m pl) Q E s:=by
 let⟨mA,O,r,_,_,_⟩:=JR I.af e;have hn:mA m=au:=yU.none_of (by rw[←l];exact r m);exact Yd I.b7 O (c.get m) k.at_ k.fn hn h
def W'(I:Inv X ψ σ H s)(e:H a=aj (.ins C dx fs))(c:gc X.K C)(n:j6 X.K C f)(hl:fs.length<1000)(ry:RelV y u)
  (h:∀s',Inv X ψ σ (upd H a (.ins C dx (yX f y fs))) s'->Q () s'):dh (dz X.prog X.w) A (setAttr (.ref a) f u) Q E s:=by
 let⟨mA,O,r,wi,_,ho⟩:=JR I.af e;have hz:(fs.map (·.1)).length<=dj:=by rw[fj,sizeLine_eq];omega
 refine aBU I.b7 O c.sa c.po n.DH c.hd wi hz λh' O' sb=>h _ ?_;have hd:∃o,h'.get? dx=aj o:=let⟨o,_,_,e',_⟩:=O'.ns;⟨o,e'⟩
 refine I.write (x:=a) (e:=dx) (by rw[e];exact True.intro) (.inr ho) (λb q hb z=>(sb.2 b hb).trans z) hd ?_;refine⟨by rw[aY O.ne];exact ho,?_,O.ne,O'.obj,_,O'.ns,λg=>?_,λg hg=>?_⟩
 .have:=T6 f y fs;omega
 .show yU ((yX f y fs).lookup g) (if g=f then aj u else mA g);rw[T7];by_cases q:g=f
  .rw[if_pos q,if_pos q];exact ry
  .rw[if_neg q,if_neg q];exact r g
 .by_cases q:g=f
  .rw[q];exact(Lr f y fs).1
  .refine(Lr f y fs).2 g (wi g λz=>hg ?_);show(if g=f then aj u else mA g)=au;rw[if_neg q];exact z
def Inv.made(I:Inv X ψ σ H s):Inv X ψ σ (upd (upd H s.heap.objs.size (.own (s.heap.objs.size+1))) (s.heap.objs.size+1) (.ins C s.heap.objs.size []))
  {s with heap:=(s.heap.push xq).push (tJ C s.heap.objs.size)}:=by
 have e1:(s.heap.push xq).get? s.heap.objs.size=aj xq:=gw s.heap rfl
 have e2:((s.heap.push xq).push (tJ C s.heap.objs.size)).get? (s.heap.objs.size+1)=aj (tJ C s.heap.objs.size):=by
  have:=gw (s.heap.push xq) (o:=tJ C s.heap.objs.size) rfl
  rwa [Gf]at this
 have e3:(s.heap.push xq).Ns s.heap.objs.size (λ_=>au):=⟨xq,#[],_,e1,rfl,(λe he=>absurd he (by simp)),λ_=>rfl⟩;have I1:=I.laid (a:=s.heap.objs.size) (o:=.own (s.heap.objs.size+1)) (h':=s.heap.push xq) (t':=s.toks) (λb u q=>cu _ q) (dw _) ⟨_,e1⟩;refine I1.laid (a:=s.heap.objs.size+1) (o:=.ins C s.heap.objs.size []) (t':=s.toks) (λb u q=>cu _ q) (xN (Gf _ _)) ?_;have ne:s.heap.objs.size≠s.heap.objs.size+1:=ju (Nat.lt_succ_self _);refine⟨by rw[aY ne,aL],qm _,ne,e2,λ_=>au,(Heap.Ns1.of_empty e3).at λo q=>cu _ q,λ_=>True.intro,λy hy=>absurd rfl hy⟩
def aBV{prog:jr}{w:je}{f:Str}{pos:Pos}{s:dg}(hb:su e f env (eval e env)=eval e env)
  (h:dh (dz prog w) A (eval e env) (λo ah=>dh (dz prog w) A (getAttr o f ak) Q E ah) E s):dh (dz prog w) A (eval (.Attribute e f pos) env) Q E s :=
 Attribute_any_ h (by rw[arm_eval_Attribute,hb])
end
abbrev aTJ(K:iw)(ta:TE)(f:Str):TE:=λσ H Q=>ta σ H λx H1=>∃a C dx fs v,x=.ref a/\H1 a=aj (.ins C dx fs)/\gc K C/\j6 K C f/\fs.lookup f=aj v/\Q v H1
abbrev aTK(K:iw)(ta tv:TE)(f:Str):TS:=λD σ H=>tv σ H λy H1=>ta σ H1 λx H2=>∃a C dx fs,x=.ref a/\H2 a=aj (.ins C dx fs)/\gc K C/\j6 K C f/\fs.length<1000 /\
 D.nx σ (upd H2 a (.ins C dx (yX f y fs)))
section
variable{X:Cx}{o:gV}{pos:Pos}
def aI4(he:PE X e ta)(hb:su e f X.env (eval e X.env)=eval e X.env):PE X (.Attribute e f pos) (aTJ X.K ta f):=by
 intro ψ s σ H Q I h;refine aBV hb (dZ (he ψ s σ H _ I h) ?_);rintro u s1 ⟨x,H1,I1,rx,a,C,dx,fs,v,ex,ea,c,n,l,q⟩;subst ex;obtain rfl:u=bh.ref a:=rx;exact X' I1 ea c n l λu' s2 I2 ru=>⟨v,H1,I2,ru,q⟩
def aI5(ha:PE X o ta)(hv:PE X value tv)(hs:qc value (aj (.Attribute o f pos')) pos.line X.env=pure ao):PS X (.Assign [.Attribute o f pos'] value pos) (aTK X.K ta tv f):=by
 intro ψ s σ H D I h;refine plainObj_wpAny_Assign_Attribute (dZ (hv ψ s σ H _ I h) λu s1 ⟨y,H1,I1,ry,q⟩=>dZ (ha ψ s1 σ H1 _ I1 q) ?_) hs;rintro ov s2 ⟨x,H2,I2,rx,a,C,dx,fs,ex,ea,c,n,l,q2⟩;subst ex;obtain rfl:ov=bh.ref a:=rx;exact W' I2 ea c n l ry λs3 I3=>⟨σ,_,I3,q2⟩
end
section
end
end
variable{mg:Str->Option bh}{base:jw}{outer:List Env}
section
structure mZ(qt:Bool)(k:Nat)(A:jd):Prop where
 hd:qt=ao->A.handled=au
 dp:A.depth+3*k+5<recursionLimit
 un:A.units+16*k+200<uc
def mZ.mono{j k:Nat}{A:jd}(r:mZ qt k A)(h:j<=k):mZ qt j A:=⟨r.hd,by have:=r.dp;omega,by have:=r.un;omega⟩
def mZ.deeper{k:Nat}{A:jd}(r:mZ qt (k+1) A)(env:Env):mZ qt k (A.deeper env) :=
 ⟨r.hd,by have:=r.dp;show A.depth+1+3*k+5<_;omega,by have:=r.un;show A.units+3+16*k+200<_;omega⟩
def V'{A:jd}:(A.under (.builtin "type.__call__" ⟨.ref C::us,kw⟩)).depth=A.depth+1:=by
 first|rfl|simp[jd.under,Code.weight,Code.isCreation,Code.isGuard,Code.isCaller,Code.frames,Code.isFrame,guardIds]
def U'{A:jd}:(A.under (.builtin "type.__call__" ⟨.ref C::us,kw⟩)).units=A.units+1:=by
 first|rfl|simp[jd.under,Code.cUnits,Code.frames,Code.isFrame]
def mZ.make{k:Nat}{A:jd}(r:mZ qt (k+1) A)(C:bw)(us:List bh)(kw:List (Str×bh)):mZ qt k (A.under (.builtin "type.__call__" ⟨.ref C::us,kw⟩)) :=
 ⟨r.hd,by have:=r.dp;rw[V'];omega,by have:=r.un;rw[U'];omega⟩
def mZ.depth{k:Nat}{A:jd}(r:mZ qt k A):A.depth<recursionLimit:=by have:=r.dp;omega
def mZ.units{k:Nat}{A:jd}(r:mZ qt k A):A.units+64<uc:=by have:=r.un;omega
abbrev aTL:TA:=λ_ H Q=>Q [] H
abbrev aO7(ta:TE)(tr:TA):TA:=λσ H Q=>ta σ H λx H1=>tr σ H1 λxs H2=>Q (x::xs) H2
section
variable{X:Cx}{t:TA}{pos:Pos}
def aI6:PA X [] aTL:=λ_ _ _ _ H Q I h=>Calls.spliced_nil ⟨[],H,I,.nil,h⟩
def aBW(ha:PE X e te)(hr:PA X es t)(hs:iz (e::es) X.env=(ao,eval e X.env)::iz es X.env:=by rfl):PA X (e::es) (aO7 te t):=by
 intro pos ψ s σ H Q I h;rw[hs];show dh _ _ (spliced ((ao,eval e X.env)::qz pos (iz es X.env))) _ _ s;refine Calls.spliced_cons (dZ (ha ψ s σ H _ I h) ?_);rintro u s1 ⟨x,H1,I1,r1,q1⟩;exact dZ (hr pos ψ s1 σ H1 _ I1 q1) (by rintro us s2 ⟨xs,H2,I2,r2,q2⟩;exact⟨x::xs,H2,I2,.cons r1 r2,q2⟩)
abbrev aTM(t:TA):TE:=λσ H Q=>t σ H λxs H1=>xs.length<=dj/\∀p,H1 p=au->Q (.ref p) (upd H1 p (.tup xs))
abbrev aTN(t:TA):TE:=λσ H Q=>t σ H λxs H1=>xs.length<=dj/\∀p,H1 p=au->Q (.ref p) (upd H1 p (.lst xs))
def aI7{x1}(h:PA X es t):PE X (.Tuple es x1 pos) (aTM t):=by
 intro ψ s σ H Q I hq;refine wpAny_Tuple_spliced (dZ (h pos ψ s σ H _ I hq) λus s1 ⟨xs,H1,I1,r,z,q⟩=>⟨by rw[←r.length];exact z,?_⟩);have hf:H1 s1.heap.objs.size=au:=I1.af.fresh (dw _);refine⟨.ref s1.heap.objs.size,upd H1 s1.heap.objs.size (.tup xs),I1.laid (t':=s1.toks) (λb u e=>cu _ e) (dw _) ?_,rfl,q _ hf⟩;exact⟨z,us,r,⟨_,gw _ rfl,rfl,_,rfl⟩⟩
def aI8(h:PA X es t):PE X (.List es pos) (aTN t):=by
 intro ψ s σ H Q I hq;refine wpAny_List_spliced (dZ (h pos ψ s σ H _ I hq) λus s1 ⟨xs,H1,I1,r,z,q⟩=>⟨by rw[←r.length];exact z,?_⟩);have hf:H1 s1.heap.objs.size=au:=I1.af.fresh (dw _);refine⟨.ref s1.heap.objs.size,upd H1 s1.heap.objs.size (.lst xs),I1.laid (t':=s1.toks) (λb u e=>cu _ e) (dw _) ?_,rfl,q _ hf⟩;exact⟨z,us,0,r,gw _ rfl⟩
end
@[simp]def Sp:=List V->Hp->VK->XK->Prop
@[simp]def Dy:=List Env->Hp->dg->XK->bh->dg->Prop
structure xc(P:jr)(w:je)(K:iw)(mg:Str->Option bh)(base:jw)(A:jd)(outer:List Env)(s:dg)(H:Hp):Prop where
 frames:A.frames=aj outer
 mod:Mod K mg base
 bs:∀b o,base.get? b=aj o->s.heap.get? b=aj o/\H b=au
 kG:base.objs.size<=s.heap.objs.size
 gS:s.heap.FunFrames base outer
 nh:∀b∈frs outer,H b=au
 af:bq P w H s.heap
 bare:AllBare s.gens
 dC:uA A H
abbrev CE(outer:List Env)(P:jr)(w:je)(H:Hp)(s:dg)(Q:VK)(u:bh)(s':dg):Prop :=
 ∃v H',s'.os=s.os/\AllBare s'.gens/\Un (frs outer) [] H H' s.heap s'.heap/\bq P w H' s'.heap/\RelV v u/\Q v H'
abbrev CR(CX:Dy)(outer:List Env)(P:jr)(w:je)(H:Hp)(s:dg)(Q:VK)(E:XK)(r:Result)(s':dg):Prop :=
 match r with
 |.ok (.ret u)=>CE outer P w H s Q u s'
 |.ok _=>False
 |.error e=>CX outer H s E e s'
structure bM(qt:Bool)(P:jr)(w:je)(K:iw)(mg:Str->Option bh)(base:jw)(CX:Dy)(k:Nat)(f:bw)(fd:jm)(ps:List Str)(sp:Sp):Prop where
 len:∀vs H Q E,sp vs H Q E->vs.length=ps.length
 run:∀(A:jd)(outer:List Env)(s:dg)(H:Hp)(args:Args)(us:List bh)(vs:List V)(Q:VK)(E:XK),mZ qt k A->xc P w K mg base A outer s H->BindsTo s fd args (ps.zip us)->Vals vs us->sp vs H Q E ->
  kP (dz P w) A (.call (.ref f) args) (CR CX outer P w H s Q E) s
def bM.mono{w:je}{K:iw}{mg:Str->Option bh}{base:jw}{j k:Nat}(F:bM qt P w K mg base CX j f fd ps sp)(h:j<=k) :
  bM qt P w K mg base CX k f fd ps sp:=⟨F.len,λA outer s H args us vs Q E hr=>F.run A outer s H args us vs Q E (hr.mono h)⟩
def bM.imp{w:je}{K:iw}{k:Nat}(F:bM qt P w K mg base CX k f fd ps sp)
  (h:∀vs H Q E,VE vs H Q E->sp vs H Q E):bM qt P w K mg base CX k f fd ps VE :=
 ⟨λvs H Q E q=>F.len vs H Q E (h _ _ _ _ q),λA outer s H args us vs Q E hr he hb hv hs=>F.run A outer s H args us vs Q E hr he hb hv (h _ _ _ _ hs)⟩
def xc.make{w:je}{K:iw}{A:jd}(e:xc P w K mg base A outer s H)(C:bw)(us:List bh)(kw:List (Str×bh)) :
  xc P w K mg base (A.under (.builtin "type.__call__" ⟨.ref C::us,kw⟩)) outer s H:=⟨by first|exact e.frames|(simpa[jd.under,Code.envs,Code.isFrame,pushEnvs]using e.frames),e.mod,e.bs,e.kG,e.gS,e.nh,e.af,e.bare,e.dC⟩
section
variable{X:Cx}{ψ:List (bw×Obj)}
def Inv.y7(I:Inv X ψ σ H s):xc X.prog X.w X.K X.mg X.base X.A X.stack s H :=
 ⟨I.ok.frames,I.ok.mod,I.bs,lq I.ok.kG I.sz,I.stack,I.JT,I.af,I.bare,I.dC⟩
end
abbrev Binds(K:iw)(fd:jm)(ps:List Str)(ds:List bh):Prop :=
 ∀(s:dg)(us:List bh),K.In s.heap->(us++ds).length=ps.length->BindsTo s fd ⟨us,[]⟩ (ps.zip (us++ds))
variable{ps:List Str}
def Binds.all{K:iw}(h:∀us:List bh,us.length=ps.length->uf fd ⟨us,[]⟩=pure (ps.zip us)):Binds K fd ps []:=λs us _ hl=>by
 rw[Bk]at hl ⊢;exact .of_eq (h us hl)
section
variable{f C:bw}
structure Mk(K:iw)(C f:bw):Prop where
 makes:GD K C=ak
 init:jt K (.ref C) "__init__"=aj (aj (.ref f))
 fn:tm K (.ref f)=ak
 kp:qp K (.ref C)=ak
end
section
end
structure aN(N P:List Str)(sc:di):Prop where
 kind:sc.kind=.function
 co:sc.isCoroutine=ao
 gen:sc.isGenerator=ao
 nd:N.Nodup
 pre:N.take P.length=P
 par:∀x∈P,sc.names.lookup x=aj .local∨sc.names.lookup x=aj .cell
 aI9:∀y∈sc.names,y.2≠.free
def RP{kindOf:Str->Option ux}{x:Str}:∀{binds:List (Str×bh)}{m:Str->Option bh},(∀v,(x,v)∉binds)->bindL kindOf binds m x=m x
 |[],_,_=>rfl
 |(n,v)::r,m,h=>by
  unfold bindL;rw[RP λw hw=>h w (nj _ hw)];split
  ·have:x≠n:=by rintro rfl;exact h v yj
   simp[this]
  .rfl
def RO{kindOf:Str->Option ux}{x:Str}:∀{binds:List (Str×bh)}{m:Str->Option bh},(∀v,(x,v)∉binds)->bindC kindOf binds m x=m x
 |[],_,_=>rfl
 |(n,v)::r,m,h=>by
  unfold bindC;rw[RO λw hw=>h w (nj _ hw)];split
  ·rfl
  .have:x≠n:=by rintro rfl;exact h v yj
   simp[this]
def RN{kindOf:Str->Option ux}{x:Str}{v:bh}:∀{P:List Str}{vs:List bh}{i:Nat}{m:Str->Option bh},P.Nodup->P[i]?=aj x->vs[i]?=aj v->kindOf x=aj .local ->
  bindL kindOf (P.zip vs) m x=aj v
 |[],_,_,_,_,h,_,_=>by simp at h
 |_::_,[],_,_,_,_,h,_=>by simp at h
 |p::P,w::vs,0,m,nd,h1,h2,hk=>by
  simp at h1 h2;subst h1;subst h2;show bindL kindOf ((p,w)::P.zip vs) m p=_;unfold bindL;rw[RP λv hv=>(vp.mp nd).1 (List.of_mem_zip hv).1,if_pos hk];simp
 |p::P,w::vs,i+1,m,nd,h1,h2,hk=>by
  show bindL kindOf ((p,w)::P.zip vs) m x=_;unfold bindL;exact RN (i:=i) (vp.mp nd).2 (by simpa using h1) (by simpa using h2) hk
def RM{kindOf:Str->Option ux}{x:Str}{v:bh}:∀{P:List Str}{vs:List bh}{i:Nat}{m:Str->Option bh},P.Nodup->P[i]?=aj x->vs[i]?=aj v->kindOf x≠aj .local ->
  bindC kindOf (P.zip vs) m x=aj v
 |[],_,_,_,_,h,_,_=>by simp at h
 |_::_,[],_,_,_,_,h,_=>by simp at h
 |p::P,w::vs,0,m,nd,h1,h2,hk=>by
  simp at h1 h2;subst h1;subst h2;show bindC kindOf ((p,w)::P.zip vs) m p=_;unfold bindC;rw[RO λv hv=>(vp.mp nd).1 (List.of_mem_zip hv).1,if_neg hk];simp
 |p::P,w::vs,i+1,m,nd,h1,h2,hk=>by
  show bindC kindOf ((p,w)::P.zip vs) m x=_;unfold bindC;exact RM (i:=i) (vp.mp nd).2 (by simpa using h1) (by simpa using h2) hk
abbrev start(N:List Str)(vs:List V):St:=vs.map aj++x5 (N.length - vs.length) au
abbrev wC(qt:Bool)(CX:Dy)(P:jr)(w:je)(K:iw)(mg:Str->Option bh)(base:jw)(N:List Str)(qual:Str)(scope:di)(f:bw)(cd:bh)(A:jd)(outer:List Env)(s:dg)(H:Hp)(E:XK):Cx where
 prog:=P
 w:=w
 K:=K
 mg:=mg
 base:=base
 A:=A.deeper (envOfC qual scope s.heap.objs.size f cd)
 N:=N
 av:=s
 az:=H
 env:=envOfC qual scope s.heap.objs.size f cd
 outer:=outer
 stack:=envOfC qual scope s.heap.objs.size f cd::outer
 ex:=[]
 calm:=!qt
 fn:=λ_=>ak
 pn:=[]
 tp:=[]
 xe:=λe s'=>dh (dz P w) (A.deeper (envOfC qual scope s.heap.objs.size f cd)) (leaving (envOfC qual scope s.heap.objs.size f cd) e) (λ_ ot=>CX outer H s E e ot) (λe' ot=>CX outer H s E e' ot) s'
def Q7{sc:di}{n:Nat}{x:Str}(h:sc.names.lookup x=aj .cell):∃c,(cellsFrom n sc.names []).lookup x=aj c:=by
 have q:=PySem.W.cellsFrom_some sc.names n [] (.inl h);exact Option.isSome_iff_exists.mp q
def Zf{w:je}{K:iw}{N:List Str}{scope:di}{A:jd}{s s1:dg}{vs:List V}
  (S:aN N ps scope)(hd:qt=ao->A.handled=au)(e0:xc P w K mg base A outer s H)(hl:vs.length=ps.length)(r:Vals vs us)
  (x:InCallC s s.heap.objs.size (bindL (envOfC qual scope s.heap.objs.size f cd).kindOf (ps.zip us) λ_=>au) (cellsFrom (s.heap.objs.size+1) scope.names []) (bindC (envOfC qual scope s.heap.objs.size f cd).kindOf (ps.zip us) λ_=>au) s1) :
  Inv (wC qt CX P w K mg base N qual scope f cd A outer s H E) [] (start N vs) H s1:=by
 have gE:ps.length<=N.length:=by have:=congrArg List.length S.pre;rw[C0]at this;omega
 let⟨h1,tk,rfl,hk⟩:=x.done;have BC:∀b:bw,b∉(wC qt CX P w K mg base N qual scope f cd A outer s H E).ex:=λb z=>absurd (show b∈([]:List bw)from z) (by simp)
 refine⟨⟨e0.mod,S.kind,rfl,rfl,dw _,λy z c h1 h2=>?_,λy hy=>?_,λy c _ h=>?_,λz=>hd (by cases qt with|false=>rfl|true=>cases z),jd.frames_deeper e0.frames,.inr ⟨rfl,rfl⟩,λb z=>absurd z (BC b),e0.bs,e0.kG,λb _ _=>BC b,λb z=>absurd z (BC b),e0.gS,e0.nh⟩,
  rfl,e0.bare,Un.kept hk,⟨_,x.toInCall.ns,λi y v h1 h2 h3=>?_⟩,λy c h=>⟨_,x.cell y c h⟩,e0.af.fresh (dw _),λy c h=>?_,λp hp=>absurd (show p∈([]:List (bw×Obj))from hp) (by simp),e0.af.kept hk,?_,e0.dC,λp hp=>absurd (show p∈([]:List (bw×List V))from hp) (by simp)⟩
 .exact name_of_addr x.apart (PySem.mem_of_lookup h1) (PySem.mem_of_lookup h2)
 .have hy:scope.names.lookup y=aj .cell∨scope.names.lookup y=aj .free:=hy;rcases hy with hy|hy
  .exact Q7 hy
  .exact absurd rfl (S.aI9 _ (PySem.mem_of_lookup hy))
 .exact ud (x.above y c (PySem.mem_of_lookup h))
 .have hi:i<vs.length:=by
   unfold start at h2;by_cases hi:i<vs.length
   .exact hi
   .rw[Dj (by simpa using hi)]at h2;rw[List.getElem?_replicate]at h2;split at h2<;>cases h2
  have ha:vs[i]?=aj v:=by
   unfold start at h2;rw[GP (by simpa using hi),xr]at h2;cases e:vs[i]? with
   |none=>rw[e]at h2;cases h2
   |some a=>rw[e]at h2;cases h2;rfl
  let⟨u,hu,rv⟩:=r.get ha
  have hp:ps[i]?=aj y:=by
   rw[←S.pre,List.getElem?_take_of_lt ⋯];exact h1
  have Ni:ps.Nodup:=by rw[←S.pre];exact S.nd.sublist (List.take_sublist _ _)
  refine⟨u,rv,?_⟩;rcases S.par y (qg hp)with k|k
  .exact .inl ⟨k,RN Ni hp hu k⟩
  .obtain⟨c,e⟩:=Q7 (n:=s.heap.objs.size+1) k;refine .inr ⟨.inl k,c,e,?_⟩;have q:=x.cell y c e;rw[RM Ni hp hu (by show scope.names.lookup y≠_;rw[k];decide)]at q;exact q
 .exact e0.af.fresh (ud (x.above y c (PySem.mem_of_lookup h)))
 .unfold start;show _=N.length;rw[yp,fj,List.length_replicate];omega
private theorem aO9{w:je}{K:iw}{k:Nat}{kV ct:bh}{an:Option bw}
  {N:List Str}(lk:K.lookup f=aj ⟨oc,od,.func (qe name qual params body scope dV kV doc pm an dP ct),zw⟩)(fq:tI K dP qual=ak)(S:aN N ps scope)
  (len:∀vs H Q E,sp vs H Q E->vs.length=ps.length)
  (gx:∀(A:jd)(outer:List Env)(s:dg)(H:Hp)(vs:List V)(Q:VK)(E:XK),mZ qt k (A.deeper (envOfC qual scope s.heap.objs.size f dP))->sp vs H Q E ->
   ∃t,ic (wC qt CX P w K mg base N qual scope f dP A outer s H E) body t/\t {nx:=λ_ H'=>Q .ag H',rt:=Q} (start N vs) H) :
  bM qt P w K mg base CX (k+1) f (qe name qual params body scope dV kV doc pm an dP ct) ps sp:=by
 refine⟨len,λA outer s H args us vs Q E hr e0 hb r rj=>?_⟩;have hl:=len _ _ _ _ rj;have KX:K.In s.heap:=e0.mod.m4.keeps λb o e=>(e0.bs b o e).1;have lim:s.heap.NoLimit:=e0.mod.nolimit.keeps λb o e=>(e0.bs b o e).1
 have DP:∀y∈ps.zip us,scope.names.lookup y.1=aj .local∨(scope.names.lookup y.1=aj .cell/\((cellsFrom (s.heap.objs.size+1) scope.names []).lookup y.1).isSome=ak):=λ⟨n,v⟩ hy=>by
  rcases S.par n (List.of_mem_zip hy).1 with q|q
  .exact .inl q
  .exact .inr ⟨q,PySem.W.cellsFrom_some _ _ _ (.inl q)⟩
 refine codeAny_call_function hr.depth (KX _ _ lk) rfl S.co S.gen rfl (PySem.W.codeRec_of KX fq) (hb _ _ _ _ ?_);refine wpAny_newFunctionEnv_cells S.kind DP λenv he s1 x=>?_;subst he;refine⟨lim.keeps x.toInCall.keep,codeAny_func ?_⟩;let⟨t,ht,hq⟩:=gx A outer s H vs Q E (hr.deeper _) rj;have I:Inv (wC qt CX P w K mg base N qual scope f dP A outer s H E) [] (start N vs) H s1:=Zf S hr.hd e0 hl r x;refine ql (ht [] s1 (start N vs) H _ I hq) (λfl s' hs=>?_) λe s' hs=>hs
 have fin:∀{aw:St}{H':Hp}{v:V}{u:bh},Inv (wC qt CX P w K mg base N qual scope f dP A outer s H E) [] aw H' s'->RelV v u->Q v H'->CE outer P w H s Q u s' :=
  λ{aw H' v u} J rv q=>⟨v,H',J.os,J.bare,J.base,J.af,rv,q⟩
 cases fl with
 |ret u =>
  let⟨v,aw,H',J,rv,q⟩:=hs;exact fin J rv q
 |next =>
  let⟨aw,H',J,q⟩:=hs;exact fin (v:=V.ag) (u:=Value.none) J rfl q
 |brk =>
  let⟨_,_,_,q⟩:=hs;exact False.elim q
 |cont =>
  let⟨_,_,_,q⟩:=hs;exact False.elim q
end
section
section
end
end
variable{h':jw}
section
section
variable{κ:Type}[DecidableEq κ]
abbrev gN(kvs:List (κ×V))(k:κ):Option V:=(kvs.find? λkv=>decide (kv.1=k)).map (·.2)
abbrev putK(kvs:List (κ×V))(k:κ)(v:V):List (κ×V) :=
 if(kvs.any λkv=>decide (kv.1=k))=ak then kvs.map (λkv=>if kv.1=k then(kv.1,v)else kv)else kvs++[(k,v)]
abbrev lP(kvs:List (κ×V))(k:κ):List (κ×V):=kvs.filter λkv=>decide (kv.1≠k)
def F9{p:κ×V}{r:List (κ×V)}{k:κ}(e:p.1=k):gN (p::r) k=aj p.2:=by simp[gN,Bj,e]
def F8{p:κ×V}{r:List (κ×V)}{k:κ}(e:¬ p.1=k):gN (p::r) k=gN r k:=by simp[gN,Bj,e]
def Ko(k:κ):∀kvs:List (κ×V),(kvs.any λkv=>decide (kv.1=k))=(gN kvs k).isSome
 |[]=>rfl
 |p::r=>by
  rw[List.any_cons];by_cases e:p.1=k
  .simp only[F9 e,decide_eq_true e,Bool.true_or,Option.isSome_some]
  .rw[F8 e,decide_eq_false e,CQ];exact Ko k r
def Mm(kvs:List (κ×V))(k:κ)(v:V):(putK kvs k v).length<=kvs.length+1:=by
 unfold putK;split
 ·rw[fj];omega
 .rw[yp,qy,List.length_nil];omega
def yU.Ze{o:Option V}{u:Option bh}(r:yU o u):o.isSome=u.isSome:=by
 cases o with
 |none=>cases u with
  |none=>rfl
  |some _=>exact(show False from r).elim
 |some _=>cases u with
  |none=>exact(show False from r).elim
  |some _=>rfl
def yU.getD{o:Option V}{u:Option bh}{d:V}(r:yU o u)(rd:RelV d d'):RelV (o.getD d) (u.getD d'):=by
 cases o with
 |none=>cases u with
  |none=>exact rd
  |some _=>exact(show False from r).elim
 |some _=>cases u with
  |none=>exact(show False from r).elim
  |some _=>exact r
def KV.val(r:KV kvs vs)(k:κ):yU (gN kvs k) (valueAt vs k):=by
 unfold KV at r
 induction r with
 |nil=>exact True.intro
 |@cons p q ps qs h t ih =>
  let⟨h1,h2⟩:=h;by_cases e:p.1=k
  .have e':q.1=k:=h1.symm.trans e;have b:valueAt (q::qs) k=aj q.2:=by simp[valueAt,Bj,e']
   rw[F9 e,b];exact h2
  .have e':¬ q.1=k:=λz=>e (h1.trans z);have b:valueAt (q::qs) k=valueAt qs k:=by simp[valueAt,Bj,e']
   rw[F8 e,b];exact ih
def KV.any{kvs:List (κ×V)}{vs:List (κ×bh)}(r:KV kvs vs)(k:κ):(kvs.any λkv=>decide (kv.1=k))=vs.any λkv=>decide (kv.1=k):=by
 unfold KV at r
 induction r with
 |nil=>rfl
 |cons h t ih=>rw[List.any_cons,List.any_cons,ih,h.1]
def KV.yz{kvs:List (κ×V)}{vs:List (κ×bh)}(r:KV kvs vs)(k:κ)(ry:RelV y u) :
  KV (kvs.map λkv=>if kv.1=k then(kv.1,y)else kv) (vs.map λkv=>if kv.1=k then(kv.1,u)else kv):=by
 unfold KV at r ⊢
 induction r with
 |nil=>exact .nil
 |@cons p q ps qs h t ih =>
  rw[ji,ji];refine .cons ?_ ih;let⟨h1,h2⟩:=h;by_cases e:p.1=k
  .rw[if_pos e,if_pos (h1.symm.trans e)];exact⟨h1,ry⟩
  .rw[if_neg e,if_neg (λz=>e (h1.trans z))];exact⟨h1,h2⟩
def KV.put(r:KV kvs vs)(k:κ)(ry:RelV y u):KV (putK kvs k y) (stored vs k u):=by
 unfold putK stored;rw[r.any k];by_cases e:(vs.any λkv=>decide (kv.1=k))=ak
 .rw[if_pos e,if_pos e];exact r.yz k ry
 .rw[if_neg e,if_neg e];exact Paired.snoc r ⟨rfl,ry⟩
def KV.drop(r:KV kvs vs)(k:κ):KV (lP kvs k) (without vs k):=by
 unfold KV at r ⊢;unfold lP without
 induction r with
 |nil=>exact .nil
 |@cons p q ps qs h t ih =>
  let⟨h1,h2⟩:=h;rw[tN,tN];by_cases e:p.1=k
  .have a:¬ decide (p.1≠k)=ak:=by simp[e]
   have b:¬ decide (q.1≠k)=ak:=by simp[h1.symm.trans e]
   rw[if_neg a,if_neg b];exact ih
  .have e':¬ q.1=k:=λz=>e (h1.trans z);have a:decide (p.1≠k)=ak:=by simp[e]
   have b:decide (q.1≠k)=ak:=by simp[e']
   rw[if_pos a,if_pos b];exact .cons ⟨h1,h2⟩ ih
def KV.length{kvs:List (κ×V)}{vs:List (κ×bh)}(r:KV kvs vs):kvs.length=vs.length:=Paired.length r
def Q6(kvs:List (κ×V))(k:κ):(lP kvs k).length<=kvs.length:=LX _ _
end
def AU{w:je}{k:Key}(r:RelV (kV k) u):(aG P w).is k u=ak:=by
 cases k with
 |inl i=>let⟨t,e⟩:=(show ∃t,u=bh.int i t from r);subst e;exact T8 P w i t
 |inr x=>let⟨t,e⟩:=(show ∃t,u=bh.str x t from r);subst e;exact aj7 P w x t
def RL{w:je}:∀{ks:List Key}{us:List bh},Vals (ks.map kV) us->ItemsAre (aG P w) ks us
 |[],_,r=>by rw[List.map_nil]at r;cases r;exact .nil
 |k::ks,_,r=>by
  rw[ji]at r;cases r with
  |cons h t=>exact .cons (AU h) (RL t)
@[simp]def KT(H:Hp):List (List Key×V)->List (List Key×bw×bh)->Prop:=Paired λp q=>p.1=q.1/\H q.2.1=aj (.tup (p.1.map kV))/\RelV p.2 q.2.2
def KT.val(r:KT H kvs xs)(k:List Key):yU (gN kvs k) ((atKey xs k).map (·.2)):=by
 induction r with
 |nil=>exact True.intro
 |@cons p q ps qs h t ih =>
  let⟨h1,_,h2⟩:=h;by_cases e:p.1=k
  .have e':q.1=k:=h1.symm.trans e;have b:atKey (q::qs) k=aj q.2:=by simp[atKey,Bj,e']
   rw[F9 e,b];exact h2
  .have e':¬ q.1=k:=λz=>e (h1.trans z);have b:atKey (q::qs) k=atKey qs k:=by simp[atKey,Bj,e']
   rw[F8 e,b];exact ih
def KT.yz{kvs:List (List Key×V)}{xs:List (List Key×bw×bh)}(r:KT H kvs xs)(k:List Key)(ry:RelV y u) :
  KT H (kvs.map λkv=>if kv.1=k then(kv.1,y)else kv) (xs.map (putAt k u)):=by
 induction r with
 |nil=>exact .nil
 |@cons p q ps qs h t ih =>
  rw[ji,ji];refine .cons ?_ ih;let⟨h1,h2,h3⟩:=h;unfold putAt;by_cases e:p.1=k
  .rw[if_pos e,if_pos (h1.symm.trans e)];exact⟨h1,h2,ry⟩
  .rw[if_neg e,if_neg (λz=>e (h1.trans z))];exact⟨h1,h2,h3⟩
def KT.put(r:KT H kvs xs)(k:List Key){b:bw}(hb:H b=aj (.tup (k.map kV)))(ry:RelV y u) :
  KT H (putK kvs k y) (storedH xs k b u):=by
 have e:(kvs.any λkv=>decide (kv.1=k))=(atKey xs k).isSome:=by
  rw[Ko,(r.val k).Ze,Option.isSome_map]
 unfold putK storedH;rw[e];by_cases q:(atKey xs k).isSome=ak
 .rw[if_pos q,if_pos q];exact r.yz k ry
 .rw[if_neg q,if_neg q];exact Paired.snoc r ⟨rfl,hb,ry⟩
def KT.keeps(r:KT H kvs xs)(ht:∀b ys,H b=aj (.tup ys)->H' b=aj (.tup ys)):KT H' kvs xs :=
 Paired.FU r λ_ _ z=>⟨z.1,ht _ _ z.2.1,z.2.2⟩
section
variable{w:je}{h:jw}{a:bw}
def Tv(ok:bq P w H h)(e:Rd H a u):j8 P w H h a u:=e.ok ok
def sF{kvs:List (Key×V)}(ok:bq P w H h)(e:Rd H a (.dK kvs)):kvs.length<=dj/\(a==um)=ao/\∃vs,KV kvs vs/\h.DictOf (aG P w) a vs :=
 show j8 P w H h a (.dK kvs)from Tv ok e
def Cm{kvs:List (Key×V)}(ok:bq P w H h)(e:H a=aj (.dK kvs)):kvs.length<=dj/\(a==um)=ao/\∃vs,KV kvs vs/\h.DictOf (aG P w) a vs:=sF ok (.inl e)
def A7{ks:List Key}(ok:bq P w H h)(e:H a=aj (.tup (ks.map kV))):(qf (aG P w)).is h ks a:=by
 let⟨_,its,r,o,h1,h2,n,h3⟩:=(show j8 P w H h a (.tup (ks.map kV))from ok a _ e);exact⟨o,its.toArray,n,h1,h2,h3,by simpa using RL r⟩
variable{kvs:List (List Key×V)}
def sD(ok:bq P w H h)(e:Rd H a (.dT kvs)):kvs.length<=dj/\(a==um)=ao /\
  ∃xs,KT H kvs xs/\h.DictOfH (qf (aG P w)) a xs:=by
 let⟨z,y,xs,r,o,es,ep,h1,h2,h3,h4,h5⟩:=(show j8 P w H h a (.dT kvs)from Tv ok e);refine⟨z,y,xs,r,o,es,ep,h1,h2,h3,h4,λx hx=>?_,h5⟩
 have all:∀{l:List (List Key×V)}{m:List (List Key×bw×bh)},KT H l m->∀x∈m,(qf (aG P w)).is h x.1 x.2.1:=by
  intro l m q
  induction q with
  |nil=>intro x hx;exact nomatch hx
  |@cons p q ps qs hq t ih =>
   intro x hx;rcases nu.mp hx with e|hx
   .subst e;exact A7 ok (by rw[←hq.1];exact hq.2.1)
   .exact ih x hx
 exact all r x hx
def EZ(ok:bq P w H h)(e:H a=aj (.dT kvs)):kvs.length<=dj/\(a==um)=ao /\
  ∃xs,KT H kvs xs/\h.DictOfH (qf (aG P w)) a xs:=sD ok (.inl e)
end
abbrev jv(H:Hp)(a:bw)(y:V)(r:Option V):Prop :=
 (∃kvs k,Rd H a (.dK kvs)/\y=kV k/\r=gN kvs k)∨∃kvs k b,Rd H a (.dT kvs)/\y=.ref b/\H b=aj (.tup (k.map kV))/\r=gN kvs k
abbrev xb(H:Hp)(a:bw)(y v:V)(H':Hp):Prop :=
 (∃kvs k,H a=aj (.dK kvs)/\y=kV k/\kvs.length<dj/\H'=upd H a (.dK (putK kvs k v))) ∨
 ∃kvs k b,H a=aj (.dT kvs)/\y=.ref b/\H b=aj (.tup (k.map kV))/\kvs.length<dj/\H'=upd H a (.dT (putK kvs k v))
def jv.k{a:bw}{k:Key}(e:H a=aj (.dK kvs)):jv H a (kV k) (gN kvs k):=.inl ⟨kvs,k,.inl e,rfl,rfl⟩
def jv.t{a b:bw}{k:List Key}(e:H a=aj (.dT kvs))(eb:H b=aj (.tup (k.map kV))):jv H a (.ref b) (gN kvs k):=.inr ⟨kvs,k,b,.inl e,rfl,eb,rfl⟩
def xb.k{a:bw}{kvs:List (Key×V)}{k:Key}{v:V}(e:H a=aj (.dK kvs))(hl:kvs.length<dj):xb H a (kV k) v (upd H a (.dK (putK kvs k v))):=.inl ⟨kvs,k,e,rfl,hl,rfl⟩
def xb.t{a b:bw}{kvs:List (List Key×V)}{k:List Key}(e:H a=aj (.dT kvs))(eb:H b=aj (.tup (k.map kV)))(hl:kvs.length<dj) :
  xb H a (.ref b) v (upd H a (.dT (putK kvs k v))):=.inr ⟨kvs,k,b,e,rfl,eb,hl,rfl⟩
section
variable{X:Cx}{ψ:List (bw×Obj)}{s:dg}{a:bw}{v:V}{r:bh}{A:jd}
def Inv.big(I:Inv X ψ σ H s):um<s.heap.objs.size:=by
 have h:jg<s.heap.objs.size:=(I.mod.glob.keeps I.bk).lt;exact Nat.lt_trans (by decide) h
def Zd(hu:A.units+1<uc)(I:Inv X ψ σ H s)(g:jv H a y (aj v))(ry:RelV y u)(h:∀w' s',Inv X ψ σ H s'->RelV v w'->Q w' s') :
  dh (dz X.prog X.w) A (getItem (.ref a) u) Q E s:=by
 rcases g with⟨kvs,k,e,ey,l⟩|⟨kvs,k,b,e,ey,eb,l⟩
 .subst ey;let⟨z,hd,vs,rel,dd⟩:=sF I.af e;let⟨w',hw,fI⟩:=yU.some_of (v:=v) (o:=valueAt vs k) (by rw[l];exact rel.val k);exact wpAny_getItem_of (AU ry) dd.mapOf hw (h w' _ (I.tok _) fI)
 .subst ey;cases(show u=bh.ref b from ry);let⟨z,hd,xs,rel,dd⟩:=sD I.af e;let⟨w',hw,fI⟩:=yU.some_of (v:=v) (o:=(atKey xs k).map (·.2)) (by rw[l];exact rel.val k);let⟨p,hp,g7⟩:=Ma.mp hw;refine wpAny_getItem_heap (C5 hu) (A7 I.af eb) dd hp ?_;rw[g7];exact h w' _ (I.tok _) fI
def CN{ob:HO}(I:Inv X ψ σ H s)(mu:Dt (H a))(hs:lu a s.heap h')(he:∃q,h'.get? a=aj q)(new:j8 X.prog X.w (upd H a ob) h' a ob) :
  Inv X ψ σ (upd H a ob) {s with heap:=h',toks:=t' } :=
 I.write (x:=a) (e:=a) mu (.inl rfl) (λb q hb z=>(hs.2 b hb).trans z) he new
def OT{w:je}{kvs:List (Key×V)}(z:kvs.length<=dj)(hd:(a==um)=ao)(rel:KV kvs vs)(dd:h'.DictOf (aG P w) a vs) :
  j8 P w H' h' a (.dK kvs):=⟨z,hd,vs,rel,dd⟩
def Zc(hu:A.units+1<uc)(I:Inv X ψ σ H s)(g:xb H a y v H')(ry:RelV y u)(rv:RelV v r)(h:∀s',Inv X ψ σ H' s'->Q () s') :
  dh (dz X.prog X.w) A (setItem (.ref a) u r) Q E s:=by
 rcases g with⟨kvs,k,e,ey,l,eH⟩|⟨kvs,k,b,e,ey,eb,l,eH⟩
 .subst ey eH;let⟨z,hd,vs,rel,dd⟩:=Cm I.af e;have hz:vs.length<=dj:=by rw[←rel.length];exact z
  have hl:(putK kvs k v).length<=dj:=by have:=Mm kvs k v;omega
  refine wpAny_setItem_pairs (hsz:=hz) (AU ry) dd λh' kF hs=>h _ ?_;have he:∃q,h'.get? a=aj q:=let⟨q,_,_,hq,_⟩:=kF;⟨q,hq⟩
  exact CN I (by rw[e];exact True.intro) hs he (OT hl hd (rel.put k rv) kF)
 .subst ey eH;cases(show u=bh.ref b from ry);let⟨z,hd,xs,rel,dd⟩:=EZ I.af e;have hz:xs.length<=dj:=by rw[←Paired.length rel];exact z
  have hl:(putK kvs k v).length<=dj:=by have:=Mm kvs k v;omega
  refine wpAny_setItem_heap (hsz:=hz) (C5 hu) (A7 I.af eb) dd λh' kF hs=>h _ ?_;let⟨q,es,ep,hq,h2,h3,h4,_,h5⟩:=kF;refine CN I (by rw[e];exact True.intro) hs ⟨q,hq⟩ ⟨hl,hd,_,(rel.put k eb rv).keeps λc ys ec=>?_,q,es,ep,hq,h2,h3,h4,h5⟩;rw[aY (IW ec e (λz=>nomatch z))];exact ec
end
section
variable{X:Cx}{ψ:List (bw×Obj)}{a:bw}{kvs:List (Key×V)}{k:Key}{A:jd}
def aOA{more:List bh}(I:Inv X ψ σ H s)(e:H a=aj (.dK kvs))(ry:RelV (kV k) u)(l:gN kvs k=aj v)(hm:more=[]∨∃x,more=[x])
  (h:∀w' s',Inv X ψ σ (upd H a (.dK (lP kvs k))) s'->RelV v w'->Q w' s'):dh (dz X.prog X.w) A (call (.builtin "dict.pop") (.ref a::u::more)) Q E s:=by
 let⟨z,hd,vs,rel,dd⟩:=Cm I.af e;let⟨w',hw,fI⟩:=yU.some_of (v:=v) (o:=valueAt vs k) (by rw[←l];exact rel.val k)
 have hp:(keyPart u).isSome=ak:=by
  cases k with
  |inl i=>let⟨t,q⟩:=(show ∃t,u=bh.int i t from ry);subst q;rfl
  |inr x=>let⟨t,q⟩:=(show ∃t,u=bh.str x t from ry);subst q;rfl
 have ha:argsOk "dict.pop" ⟨.ref a::u::more,[]⟩:=by
  rcases hm with q|⟨x,q⟩
  .subst q;exact PySem.F.args_dict_pop_2 _ _
  .subst q;exact PySem.F.args_dict_pop_3 _ _ _
 refine call_meetsIn PySem.F.slot_dict_pop dd.typeIs PySem.F.entry_dict_pop ha (meets_dict_pop_there (aG X.prog X.w) a (AU ry) more hm hp)
  ⟨vs,w',dd,by rw[←rel.length];exact z,hw,λh' kF hs=>h w' _ ?_ fI⟩
 have he:∃q,h'.get? a=aj q:=let⟨q,_,_,hq,_⟩:=kF;⟨q,hq⟩
 exact CN I (by rw[e];exact True.intro) hs he (OT (lq (Q6 kvs k) z) hd (rel.drop k) kF)
def aOB(I:Inv X ψ σ H s)(e:Rd H a (.dK kvs))(h:∀t s',Inv X ψ σ H s'->Q (.int kvs.length t) s'):dh (dz X.prog X.w) A (call (.builtin "len") [.ref a]) Q E s:=by
 let⟨z,hd,vs,rel,dd⟩:=sF I.af e;refine call_len_dict hd dd (by rw[←rel.length];rw[sizeLine_eq]at z;omega) ?_;rw[←rel.length];exact h _ _ (I.tok _)
end
abbrev K5(i:gV):Prop:=∀ov iv,subscripted i ao ov iv=operate [ov,iv] (getItem ov iv)
def aBX{prog:jr}{w:je}{A:jd}{pos:Pos}{T id:String} 
  (hl:typeLookup (.type T) "__getitem__"=pure (aj (.builtin id)))(hs:K5 slice)
  (h:dh (dz prog w) A (eval value env) (λo ah=>dh (dz prog w) A (eval slice env) (λi eJ=>eJ.TypeIs o T/\dh (dz prog w) A (getItem o i) Q E eJ) E ah) E s) :
  dh (dz prog w) A (eval (.Subscript value slice pos) env) Q E s:=by
 refine Subscript_ (ql h (λo ah fm=>ql fm (λi eJ yA=>?_) λ_ _ x=>x) λ_ _ x=>x);let⟨hT,yA⟩:=yA;unfold subscriptTail;refine aq ?_;rw[getitemInPython_of_ne hT.not_modules];refine aq (wpAny_specialOf hT hl ?_)
 have fin:dh (dz prog w) A (subscripted slice ao o i) (λr gf=>dh (dz prog w) A (letTemporaryGo value o r >>= λ_=>pure r) Q E gf) E eJ:=by
  rw[hs o i];exact wpAny_operating (ql yA (λr gf MF=>aq (wpAny_letTemporaryGo (cj MF))) λ_ _ x=>x)
 first
  |exact cj (aq fin)
  |exact aq (cj (aq fin))
  |exact aq fin
def ajF{s:dg}{a:bw}{o:Option V}(I:Inv X ψ σ H s)(g:jv H a y o):s.TypeIs (.ref a) "dict":=by
 rcases g with⟨kvs,k,e,_,_⟩|⟨kvs,k,b,e,_,_,_⟩
 .obtain⟨_,_,vs,_,dd⟩:=sF I.af e;exact dd.typeIs
 .obtain⟨_,_,xs,_,dd⟩:=sD I.af e;exact dd.typeIs
abbrev aOC(td ty:TE):TE:=λσ H Q=>td σ H λx H1=>ty σ H1 λy H2=>∃a v,x=.ref a/\jv H2 a y (aj v)/\Q v H2
abbrev aOD(td ty tv:TE):TS:=λD σ H=>tv σ H λv H1=>td σ H1 λx H2=>ty σ H2 λy H3=>∃a H4,x=.ref a/\xb H3 a y v H4/\D.nx σ H4
section
variable{X:Cx}{o:gV}{pos:Pos}{ty:TE}
def aBY(hu:X.A.units+1<uc)(ho:PE X o td)(hi:PE X i ty)(hs:K5 i):PE X (.Subscript o i pos) (aOC td ty):=by
 intro ψ s σ H Q I h;refine aBX PySem.F.slot_dict_getitem.lookup hs (dZ (ho ψ s σ H _ I h) λu s1 ⟨x,H1,I1,rx,q1⟩=>dZ (hi ψ s1 σ H1 _ I1 q1) ?_);rintro iv s2 ⟨y,H2,I2,ry,a,v,ex,g,q2⟩;subst ex;obtain rfl:u=bh.ref a:=rx;exact⟨ajF I2 g,Zd hu I2 g ry λw' s3 I3 fI=>⟨v,H2,I3,fI,q2⟩⟩
def aBZ(hu:X.A.units+1<uc)(ho:PE X o td)(hi:PE X i ty)(hv:PE X value tv)(hs:qc value (aj (.Subscript o i pos')) pos.line X.env=pure ao) :
  PS X (.Assign [.Subscript o i pos'] value pos) (aOD td ty tv):=by
 intro ψ s σ H D I h;refine wpAny_Assign_Subscript (dZ (hv ψ s σ H _ I h) λr s1 ⟨v,H1,I1,rv,q1⟩=>dZ (ho ψ s1 σ H1 _ I1 q1) λu s2 ⟨x,H2,I2,rx,q2⟩=>dZ (hi ψ s2 σ H2 _ I2 q2) ?_) hs;rintro iv s3 ⟨y,H3,I3,ry,a,H4,ex,g,q3⟩;subst ex;obtain rfl:u=bh.ref a:=rx;exact Zc hu I3 g ry rv λs4 I4=>⟨σ,H4,I4,q3⟩
end
def Yb{w:je}(h:jw)(hb:um<h.objs.size):j8 P w H (h.push {cls:=.type "dict",data:=.dict #[]}) h.objs.size (.dK []) :=
 ⟨qm _,beq_eq_false_iff_ne.mpr (Ne.symm (ju hb)),[],.nil,Heap.DictOf.new h⟩
def X9{w:je}(h:jw)(hb:um<h.objs.size):j8 P w H (h.push {cls:=.type "dict",data:=.dict #[]}) h.objs.size (.dT []) :=
 ⟨qm _,beq_eq_false_iff_ne.mpr (Ne.symm (ju hb)),[],.nil,_,#[],0,gw _ rfl,⟨rfl,rfl,rfl⟩,rfl,rfl,List.nodup_nil⟩
abbrev aIB:TE:=λ_ H Q=>∀p,H p=au->Q (.ref p) (upd H p (.dK []))
abbrev aIC:TE:=λ_ H Q=>∀p,H p=au->Q (.ref p) (upd H p (.dT []))
section
variable{pos:Pos}
def X8:PE X (.Dict [] [] pos) aIB:=λψ s σ H Q I h =>
 wpAny_Dict_empty ⟨.ref s.heap.objs.size,_,I.laid (a:=s.heap.objs.size) (o:=.dK []) (t':=s.toks) (λ_ _ q=>cu _ q) (dw _) (Yb s.heap I.big),rfl,h _ (I.af.fresh (dw _))⟩
def X7:PE X (.Dict [] [] pos) aIC:=λψ s σ H Q I h =>
 wpAny_Dict_empty ⟨.ref s.heap.objs.size,_,I.laid (a:=s.heap.objs.size) (o:=.dT []) (t':=s.toks) (λ_ _ q=>cu _ q) (dw _) (X9 s.heap I.big),rfl,h _ (I.af.fresh (dw _))⟩
end
structure M1(X:Cx)(o:gV)(m:Str)(apos:Pos)(e:gV)(ai:Pos):Prop where
 base:su o m X.env (eval o X.env)=eval o X.env
 N1:((qz ai (iz [e] X.env)).all (λx=>!x.1)&&(backToKw ai (oj [] X.env)).all (λx=>x.1.isSome)
  &&decide (([e]:List gV).length+([]:List hX).length+(if([]:List hX).isEmpty then 0 else 1)<30))=ak
 line:(apos.endLine==ai.line)=ak
 trees:qz ai (iz [e] X.env)=[(ao,eval e X.env)]
structure M2(X:Cx)(o:gV)(m:Str)(apos:Pos)(e f:gV)(ai:Pos):Prop where
 base:su o m X.env (eval o X.env)=eval o X.env
 N1:((qz ai (iz [e,f] X.env)).all (λx=>!x.1)&&(backToKw ai (oj [] X.env)).all (λx=>x.1.isSome)
  &&decide (([e,f]:List gV).length+([]:List hX).length+(if([]:List hX).isEmpty then 0 else 1)<30))=ak
 line:(apos.endLine==ai.line)=ak
 trees:qz ai (iz [e,f] X.env)=[(ao,eval e X.env),(ao,eval f X.env)]
abbrev lS(H:Hp)(a:bw):Prop:=(∃kvs,Rd H a (.dK kvs))∨∃kvs,Rd H a (.dT kvs)
def CD{s:dg}{a:bw}(I:Inv X ψ σ H s)(d:lS H a) :
  s.TypeIs (.ref a) "dict"/\(∀b,bh.ref a=.ref b->∃ob,s.heap.get? b=aj ob/\ob.dict=au)/\(a==um)=ao:=by
 rcases d with⟨kvs,e⟩|⟨kvs,e⟩
 .obtain⟨_,hd,vs,_,dd⟩:=sF I.af e;refine⟨dd.typeIs,λb q=>?_,hd⟩;cases q;let⟨ob,_,_,h1,h2,_⟩:=dd;exact⟨ob,h1,h2.2.1⟩
 .obtain⟨_,hd,xs,_,dd⟩:=sD I.af e;refine⟨dd.typeIs,λb q=>?_,hd⟩;cases q;let⟨ob,_,_,h1,h2,_⟩:=dd;exact⟨ob,h1,h2.2.1⟩
section
variable{X:Cx}{ψ:List (bw×Obj)}{a:bw}{d:V}{r:bh}{o:Option V}{A:jd}
def aID(hu:A.units+1<uc)(I:Inv X ψ σ H s)(g:jv H a y o)(ry:RelV y u)(rd:RelV d r)(h:∀w' s',Inv X ψ σ H s'->RelV (o.getD d) w'->Q w' s') :
  dh (dz X.prog X.w) A (call (.builtin "dict.get") [.ref a,u,r]) Q E s:=by
 rcases g with⟨kvs,k,e,ey,l⟩|⟨kvs,k,b,e,ey,eb,l⟩
 .subst ey;let⟨z,hd,vs,rel,dd⟩:=sF I.af e;refine call_meetsIn PySem.F.slot_dict_get dd.typeIs PySem.F.entry_dict_get (PySem.F.args_dict_get_3 _ _ _) (meets_dict_get_default (aG X.prog X.w) a (AU ry) hd r) ⟨_,dd.mapOf,h _ _ (I.tok _) ?_⟩;rw[l];exact(rel.val k).getD rd
 .subst ey;cases(show u=bh.ref b from ry);let⟨z,hd,xs,rel,dd⟩:=sD I.af e;refine call_meetsIn PySem.F.slot_dict_get dd.typeIs PySem.F.entry_dict_get (PySem.F.args_dict_get_3 _ _ _) (meetsH_dict_get_default (qf (aG X.prog X.w)) a b hd r) ⟨C5 hu,k,xs,A7 I.af eb,dd,h _ _ (I.tok _) ?_⟩;rw[l];exact(rel.val k).getD rd
end
abbrev aIE(td ty tx:TE):TE:=λσ H Q=>td σ H λx H1=>∃a,x=.ref a/\lS H1 a/\ty σ H1 λy H2=>tx σ H2 λz H3=>∃o,jv H3 a y o/\Q (o.getD z) H3
section
variable{X:Cx}{o:gV}{ty:TE}
def X6(hu:X.A.units+1<uc)(ho:PE X o td)(he:PE X e ty)(hf:PE X f tx)(m:M2 X o "get" apos e f ai):PE X (.Call (.Attribute o "get" apos) [e,f] [] ai) (aIE td ty tx):=by
 intro ψ s σ H Q I h;refine wpAny_Call_method m.base m.N1 m.line PySem.F.plainAttrs_dict PySem.F.slot_dict_get PySem.F.type_dict_get (dZ (ho ψ s σ H _ I h) ?_);rintro u s1 ⟨x,H1,I1,rx,a,ex,d,q1⟩;subst ex;obtain rfl:u=bh.ref a:=rx;let⟨t1,t2,_⟩:=CD I1 d;refine⟨t1,t2,?_⟩;rw[m.trees]
 refine Calls.callWith_builtin rfl (Calls.evalArgs_plain (Calls.spliced_cons (dZ (he ψ s1 σ H1 _ I1 q1) λiv s2 ⟨y,H2,I2,ry,q2⟩ =>
  Calls.spliced_cons (dZ (hf ψ s2 σ H2 _ I2 q2) λfv s3 ⟨z,H3,I3,rz,ov,g,q3⟩=>Calls.spliced_nil ?_))))
 exact aID hu I3 g ry rz λw' s4 I4 fI=>⟨_,H3,I4,fI,q3⟩
end
section
end
section
end
end
end L2
namespace HT
open PySem PyProof.Rows
section
open PySem.SeqAt
open PySem.AutoSeq1 (wpAny_loadPart')
open PySem.MeetsSeq PySem.MeetsSeq2 PySem.MeetsSeq3
end
variable{sl:bw}
section
variable{prog:jr}{w:je}{A:jd}{E:bh->dg->Prop}{s:dg}
def aC0{t b:bw}{vs ws:List bh}(ht:IsTup s.heap t vs.toArray)(hb:IsTup s.heap b ws.toArray)(hv:vs≠[])
  (h1:ws=[]->Q (.ref t) s)(h2:ws≠[]->Q (.ref s.heap.objs.size) {s with heap:=s.heap.push {cls:=.type "tuple",data:=.seq (vs++ws).toArray}})
  (hsz:vs.length+ws.length<=dj):dh (dz prog w) A (vq .Add (.ref t) (.ref b)) Q E s:=by
 let⟨⟨cls,dd,data,sl⟩,ho,hc,n,hd⟩:=id ht;let⟨⟨MM,EC,data2,oq⟩,vE,BR,n2,vS⟩:=id hb;simp only at hc hd BR vS;subst hc hd BR vS;have e:vs.toArray++ws.toArray=(vs++ws).toArray:=by simp
 by_cases hw:ws=[]
 .exact concat_meets ⟨_,ho,rfl⟩ ⟨_,vE,rfl⟩ noFill_tuple_add seq_tuple_add PySem.F.slot_tuple_add PySem.F.entry_tuple_add (PySem.F.args_tuple_add_2 _ _)
   (tuple_addW1 t b vs.toArray ws.toArray n n2 dd EC sl oq (by simpa using hv) (by simp[hw])) ⟨ho,vE,h1 hw⟩
 .refine concat_meets ⟨_,ho,rfl⟩ ⟨_,vE,rfl⟩ noFill_tuple_add seq_tuple_add PySem.F.slot_tuple_add PySem.F.entry_tuple_add (PySem.F.args_tuple_add_2 _ _)
   (tuple_addW2 t b vs.toArray ws.toArray n n2 dd EC sl oq (by simpa using hv) (by simpa using hw) (by rw[gk,gk];exact hsz)) ⟨ho,vE,?_⟩
  rw[e];exact h2 hw
abbrev oY(n d:Nat):Option Int->Nat
 |none=>d
 |some v=>if v<0 then(v+(n:Int)).toNat else min v.toNat n
def aIF(n d:Nat)(hd:d<=n)(o:Option Int):oY n d o<=n:=by
 cases o with
 |none=>exact hd
 |some v =>
  show(if v<0 then(v+(n:Int)).toNat else min v.toNat n)<=n;by_cases hv:v<0
  .rw[if_pos hv];omega
  .rw[if_neg hv];exact Nat.min_le_right _ _
def P6(v:Int)(n d:Nat):(if v<0 then max (v+(n:Int)) 0 else min v (n:Int))=((oY n d (aj v):Nat):Int):=by
 show(if v<0 then max (v+(n:Int)) 0 else min v (n:Int))=(((if v<0 then(v+(n:Int)).toNat else min v.toNat n):Nat):Int);by_cases hv:v<0
 .simp only[if_pos hv];omega
 .simp only[if_neg hv];omega
def P'(lo hi:Option Int)(n:Nat):Builtin.Slice.sliceAdjust lo hi 1 (n:Int)=(((oY n 0 lo:Nat):Int),((oY n n hi:Nat):Int)):=by
 have h1:¬ ((1:Int)<0):=by omega
 unfold Builtin.Slice.sliceAdjust;simp only[h1,if_false];refine Prod.ext ?_ ?_
 .cases lo with
  |none=>rfl
  |some v=>exact P6 v n 0
 .cases hi with
  |none=>rfl
  |some v=>exact P6 v n n
def N'(i j:Nat):Builtin.Slice.slicePlaces (i:Int) (j:Int) 1=j - i:=by
 unfold Builtin.Slice.slicePlaces;have h1:(1:Int)>0:=by omega
 simp only[h1,if_true,Int.ediv_one];split<;>omega
def Sn{v:bh}{o:Option Int}(p:IsPart v o)(h:Q o s):dh (dz prog w) A (Builtin.Slice.slicePartIndex v) Q E s:=by
 cases p with
 |none=>exact slicePart_none h
 |int i t=>exact slicePart_int h
def a7E{vl vu:bh}{lo hi:Option Int}{n:Nat}{Q:Int×Int×Nat->dg->Prop}(hs:s.heap.IsSliceOf sl vl vu .none)(pl:IsPart vl lo)(pu:IsPart vu hi)
  (h:Q (((oY n 0 lo:Nat):Int),1,oY n n hi - oY n 0 lo) s):dh (dz prog w) A (Builtin.Slice.sliceApplied (.ref sl) (pure (n:Int))) Q E s:=by
 let⟨os,BL,Ac,Er⟩:=id hs;unfold Builtin.Slice.sliceApplied Builtin.Slice.sliceFields;refine aq (aq (tu BL Er (x:=vl) rfl (aq (tu BL Er (x:=vu) rfl (aq (tu BL Er (x:=.none) rfl (cj ?_)))))));refine aq (slicePart_none ?_);show dh _ _ (if((1:Int)==0)=ak then _ else _) _ _ s;rw[if_neg (by decide)];refine aq (Sn pl (aq (Sn pu (aq (cj ?_)))));show dh _ _ (match Builtin.Slice.sliceAdjust lo hi 1 (n:Int)with|(lo,hi)=>pure (lo,(1:Int),Builtin.Slice.slicePlaces lo hi 1)) _ _ s;rw[P' lo hi n];show dh _ _ (pure (((oY n 0 lo:Nat):Int),(1:Int),Builtin.Slice.slicePlaces ((oY n 0 lo:Nat):Int) ((oY n n hi:Nat):Int) 1)) _ _ s;rw[N'];exact cj h
def X5(xs:Array bh)(i k:Nat):((lg k).filterMap λ(m:Nat)=>xs[((i:Int)+(m:Int)*1).toNat]?).toArray=((xs.toList.drop i).take k).toArray:=by
 have e:(λ(m:Nat)=>xs[((i:Int)+(m:Int)*1).toNat]?)=λm=>xs[i+m]?:=by
  funext m;have:((i:Int)+(m:Int)*1).toNat=i+m:=by omega
  rw[this]
 rw[e];have:=pick_run xs i k;rw[List.filterMap_map]at this;have e2:((λx=>xs[x]?)∘λx=>i+x)=λm=>xs[i+m]?:=rfl;rw[e2]at this;rw[this]
def a5R{t:bw}{items:Array bh}{vl vu:bh}{lo hi:Option Int}{Q:bh->dg->Prop}(ht:IsTup s.heap t items)(hs:s.heap.IsSliceOf sl vl vu .none)(pl:IsPart vl lo)(pu:IsPart vu hi)
  (hw:¬ (oY items.size 0 lo=0/\oY items.size items.size hi=items.size))
  (h:Q (.ref s.heap.objs.size) {s with heap:=s.heap.push {cls:=.type "tuple",data:=.seq ((items.toList.drop (oY items.size 0 lo)).take (oY items.size items.size hi - oY items.size 0 lo)).toArray}})
  (hsz:items.size<=dj):dh (dz prog w) A (getItem (.ref t) (.ref sl)) Q E s:=by
 have EY:sizeOk (.seq ((items.toList.drop (oY items.size 0 lo)).take (oY items.size items.size hi - oY items.size 0 lo)).toArray):=by
  show((items.toList.drop (oY items.size 0 lo)).take (oY items.size items.size hi - oY items.size 0 lo)).toArray.size<=dj;rw[gk,C0,List.length_drop,ur];omega
 have hj:oY items.size items.size hi<=items.size:=aIF _ _ (dw _) hi;let⟨os,BL,Ac,Er⟩:=id hs;have WB:s.TypeIs (.ref sl) "slice":=⟨os,BL,Ac⟩;unfold getItem
 try with_reducible refine uh ?_
 first|refine aq (cj ?_)|skip
 refine aq (wpAny_sequenceKey ht.typeIs (by decide) ?_)
 refine aq (zc (name:=Str.ofString "__getitem__") ht.typeIs PyProof.Rows.slot_tuple_getitem
  (uw PyProof.Rows.slot_tuple_getitem ht.typeIs entry_tuple_getitem ?_ (args_tuple_getitem _ _)))
 show dh _ _ (Builtin.Tuple.tupleItemsOf (.ref t) >>= _) _ _ s;refine aq (tupleItemsOf_ ht ?_);refine aq (wpAny_typeOf WB ?_);rw[if_pos (by decide)];refine aq (a7E hs pl pu ?_)
 have oQ:¬ ((((oY items.size 0 lo:Nat):Int)==0&&(1:Int)==1&&(oY items.size items.size hi - oY items.size 0 lo)==items.size)=ak):=by
  intro q;rw[bx,bx]at q;have q1:((oY items.size 0 lo:Nat):Int)=0:=eq_of_beq q.1.1;have q2:oY items.size items.size hi - oY items.size 0 lo=items.size:=eq_of_beq q.2;exact hw ⟨⋯,⋯⟩
 show dh _ _ (if(((oY items.size 0 lo:Nat):Int)==0&&(1:Int)==1&&(oY items.size items.size hi - oY items.size 0 lo)==items.size)=ak then _ else _) _ _ s;rw[if_neg oQ,X5]
 first
  |exact aq (m:=Builtin.Tuple.tupleExact _) (qj (cj ⟨_,rfl,cj h⟩) EY)
  |exact aq (m:=Builtin.Tuple.tupleExact _) (qj (aq (cj (cj ⟨_,rfl,cj h⟩))) EY)
  |exact aq (aq (m:=Builtin.Tuple.tupleExact _) (qj (cj (cj ⟨_,rfl,cj h⟩)) EY))
  |exact aq (aq (m:=Builtin.Tuple.tupleExact _) (qj (cj ⟨_,rfl,cj h⟩) EY))
end
end HT
namespace L2
open PySem PySem.Spec PyProof.Rows
variable{r:V->Option Int->Option Int->Hp->VK->Prop}
section
@[simp]def TO:=St->Hp->(Option Int->Hp->Prop)->Prop
abbrev PO(X:Cx)(e:Option gV)(t:TO):Prop :=
 ∀(ψ:List (bw×Obj))(s:dg)(σ:St)(H:Hp)(Q:Option Int->Hp->Prop),Inv X ψ σ H s->t σ H Q ->
  dh (dz X.prog X.w) X.A (evalPart e X.env) (λu s'=>∃o H',Inv X ψ σ H' s'/\IsPart u o/\Q o H') X.xe s
abbrev aC1:TO:=λ_ H Q=>Q au H
abbrev aOE(t:TE):TO:=λσ H Q=>t σ H λx H1=>∃i,x=.int i/\Q (aj i) H1
section
variable{X:Cx}{te:TE}{lo hi:Option gV}{tl th:TO}{pos:Pos}
def aC2:PO X au aC1:=by
 intro ψ s σ H Q I h;rw[evalPart_none];exact cj ⟨au,H,I,.none,h⟩
def aC3(h:PE X e te):PO X (aj e) (aOE te):=by
 intro ψ s σ H Q I hw;rw[evalPart_some];refine dZ (h ψ s σ H _ I hw) ?_;rintro u s1 ⟨x,H1,I1,r1,q1⟩;let⟨i,rfl,q⟩:=q1;let⟨t,rfl⟩:=r1;exact⟨aj i,H1,I1,.int i t,q⟩
abbrev tT(X:Cx)(r:V->Option Int->Option Int->Hp->VK->Prop):Prop :=
 ∀(ψ:List (bw×Obj))(s:dg)(σ:St)(H:Hp)(x:V)(v vl vu:bh)(lo hi:Option Int)(sl:bw)(Q:VK),Inv X ψ σ H s->RelV x v->s.heap.IsSliceOf sl vl vu .none->IsPart vl lo->IsPart vu hi->r x lo hi H Q ->
  ∃T id,typeLookup (.type T) "__getitem__"=pure (aj (.builtin id))/\s.TypeIs v T/\dh (dz X.prog X.w) X.A (getItem v (.ref sl)) (EP X ψ σ Q) X.xe s
def tT.or(h:tT X r)(h':tT X r'):tT X (λx lo hi H Q=>r x lo hi H Q∨r' x lo hi H Q):=by
 intro ψ s σ H x v vl vu lo hi sl Q I rx hs pl pu q;rcases q with q|q
 .exact h ψ s σ H x v vl vu lo hi sl Q I rx hs pl pu q
 .exact h' ψ s σ H x v vl vu lo hi sl Q I rx hs pl pu q
abbrev VC(r:V->Option Int->Option Int->Hp->VK->Prop)(te:TE)(tl th:TO):TE:=λσ H Q=>te σ H λx H1=>tl σ H1 λl H2=>th σ H2 λu H3=>r x l u H3 Q
def X4(hr:tT X r)(he:PE X e te)(hl:PO X lo tl)(hu:PO X hi th):PE X (.Subscript e (.Slice lo hi au p2) pos) (VC r te tl th):=by
 intro ψ s σ H Q I h;refine Subscript_ (dZ (he ψ s σ H _ I h) ?_);rintro v s1 ⟨x,H1,I1,r1,q1⟩;refine wpAny_Slice (dZ (hl ψ s1 σ H1 _ I1 q1) λvl s2 ⟨l,H2,I2,pl,q2⟩=>dZ (hu ψ s2 σ H2 _ I2 q2) ?_);rintro vu s3 ⟨u,H3,I3,pu,q3⟩;rw[evalPart_none];refine cj ?_;have I4:Inv X ψ σ H3 {s3 with heap:=s3.heap.push {cls:=.type "slice",data:=.fields #[vl,vu,.none]}}:=I3.kept (t':=s3.toks) λb ob q=>cu _ q;let⟨T,id,hT,ht,hg⟩:=hr ψ {s3 with heap:=s3.heap.push {cls:=.type "slice",data:=.fields #[vl,vu,.none]}} σ H3 x v vl vu l u s3.heap.objs.size Q I4 r1 (Heap.IsSliceOf.new ..) pl pu q3;show dh (dz X.prog X.w) X.A (subscriptTail e (.Slice lo hi au p2) v (.ref s3.heap.objs.size)) (EP X ψ σ Q) X.xe {s3 with heap:=s3.heap.push {cls:=.type "slice",data:=.fields #[vl,vu,.none]}};exact tail_any (ops:=[.ref s3.heap.objs.size,v]) ht hT hg (by with_unfolding_all rfl)
abbrev nI(xs:List V)(lo hi:Option Int):List V:=(xs.drop (HT.oY xs.length 0 lo)).take (HT.oY xs.length xs.length hi - HT.oY xs.length 0 lo)
def T5(xs:List V)(lo hi:Option Int):(nI xs lo hi).length<=xs.length:=by
 unfold nI;rw[C0,List.length_drop];omega
abbrev aTO(K:iw):V->Option Int->Option Int->Hp->VK->Prop:=λx lo hi H Q=>∃a xs,x=.ref a/\bz K H a xs /\
 ¬ (HT.oY xs.length 0 lo=0/\HT.oY xs.length xs.length hi=xs.length)/\∀p,H p=au->Q (.ref p) (upd H p (.tup (nI xs lo hi)))
def aIG:tT X (aTO X.K):=by
 intro ψ s σ H x v vl vu lo hi sl Q I rx hs pl pu h;let⟨a,xs,rfl,hx,hw,q⟩:=h;cases rx;let⟨its,r,ht,hz⟩:=I.tuple hx;have hlen:its.toArray.size=xs.length:=by rw[gk];exact r.length.symm
 refine⟨"tuple",_,PyProof.Rows.slot_tuple_getitem.lookup,ht.typeIs,?_⟩;refine HT.a5R ht hs pl pu (by rw[hlen];exact hw) ?_ (by rw[hlen];exact hz);rw[hlen];refine⟨.ref s.heap.objs.size,_,I.laid (t':=s.toks) (o:=.tup (nI xs lo hi)) (λb ob q=>cu _ q) (dw _) ?_,rfl,q _ (I.af.fresh (dw _))⟩;exact⟨lq (T5 xs lo hi) hz,_,(r.drop (HT.oY xs.length 0 lo)).take (HT.oY xs.length xs.length hi - HT.oY xs.length 0 lo),IsTup.new _ _⟩
abbrev aOF(K:iw):R2:=λx y H Q=>∃a b xs ys,x=.ref a/\y=.ref b/\bz K H a xs/\bz K H b ys/\xs≠[]/\xs.length+ys.length<=dj /\
 (ys=[]->Q (.ref a) H)/\(ys≠[]->∀p,H p=au->Q (.ref p) (upd H p (.tup (xs++ys))))
def Vals.CM(r:Vals xs us):us=[]↔xs=[]:=by
 cases r with
 |nil=>simp
 |cons _ _=>simp
def aC4:yW X (vq .Add) (aOF X.K):=by
 intro ψ s σ H x y v u Q I rx ry h;let⟨a,b,xs,ys,rfl,rfl,ha,hb,hx,hz,q1,q2⟩:=h;cases rx;cases ry;let⟨its,r1,p1,_⟩:=I.tuple ha;let⟨bp,r2,p2,_⟩:=I.tuple hb;refine HT.aC0 p1 p2 (λz=>hx (r1.CM.mp z)) (λz=>⟨.ref a,H,I,rfl,q1 (r2.CM.mp z)⟩) (λz=>?_) (by rw[←r1.length,←r2.length];exact hz);refine⟨.ref s.heap.objs.size,_,I.laid (t':=s.toks) (o:=.tup (xs++ys)) (λb ob q=>cu _ q) (dw _) ?_,rfl,q2 (λw=>z (r2.CM.mpr w)) _ (I.af.fresh (dw _))⟩;exact⟨by rw[yp];exact hz,_,r1.append r2,IsTup.new _ _⟩
end
end
variable{v:bh}
section
abbrev rh(n:Nat)(i:Int):Option Nat:=if 0<=i then(if i<n then aj i.toNat else au)else if -(n:Int)<=i then aj (i+n).toNat else au
abbrev df{α:Type}(xs:List α)(i:Int):Option α:=(rh xs.length i).bind λj=>xs[j]?
def aC5{n:Nat}{i:Int}{j:Nat}(h:rh n i=aj j):seqIndex? i n=aj j/\j<n/\-(n:Int)<=i/\i<n:=by
 unfold rh at h;by_cases h0:0<=i
 .rw[if_pos h0]at h;by_cases h1:i<n
  .rw[if_pos h1]at h;have e:i.toNat=j:=jk.inj h;exact⟨by rw[seqIndex_of h0 h1,e],⋯,⋯,h1⟩
  .rw[if_neg h1]at h;cases h
 .rw[if_neg h0]at h;by_cases h1:-(n:Int)<=i
  .rw[if_pos h1]at h;have e:(i+n).toNat=j:=jk.inj h;exact⟨by rw[seqIndex_neg ⋯ h1,e],⋯,h1,⋯⟩
  .rw[if_neg h1]at h;cases h
def JQ{α:Type}{xs:List α}{i:Int}{v:α}(h:df xs i=aj v):∃j,seqIndex? i xs.length=aj j/\xs[j]?=aj v/\j<xs.length/\-(xs.length:Int)<=i/\i<xs.length:=by
 unfold df at h;cases e:rh xs.length i with
 |none=>rw[e]at h;cases h
 |some j =>
  rw[e]at h;let⟨h1,h2,h3,h4⟩:=aC5 e;exact⟨j,h1,h,h2,h3,h4⟩
abbrev JP(b:gV):Prop:=∀o i,subscripted b ao o i=operate [o,i] (getItem o i)
abbrev qk(X:Cx)(r:R2):Prop :=
 ∀(value slice:gV)(ψ:List (bw×Obj))(s:dg)(σ:St)(H:Hp)(x y:V)(v u:bh)(Q:VK),Inv X ψ σ H s->RelV x v->RelV y u->r x y H Q ->
  subscripted slice ao v u=operate [v,u] (getItem v u)->dh (dz X.prog X.w) X.A (subscriptTail value slice v u) (EP X ψ σ Q) X.xe s
abbrev MtR(X:Cx)(id:String)(r:V->List V->Hp->VK->Prop):Prop :=
 ∀(ψ:List (bw×Obj))(s:dg)(σ:St)(H:Hp)(x:V)(xs:List V)(v:bh)(us:List bh)(Q:VK),Inv X ψ σ H s->RelV x v->Vals xs us->r x xs H Q ->
  dh (dz X.prog X.w) X.A (call (.builtin id) (v::us)) (EP X ψ σ Q) X.xe s
variable{r:R2}
section
variable{X:Cx}{a b:gV}{pos:Pos}
def qk.or(h:qk X r)(h':qk X r'):qk X (λx y H Q=>r x y H Q∨r' x y H Q):=by
 intro value slice ψ s σ H x y v u Q I rx ry q hs;rcases q with q|q
 .exact h value slice ψ s σ H x y v u Q I rx ry q hs
 .exact h' value slice ψ s σ H x y v u Q I rx ry q hs
def aOG(hr:qk X r)(ha:PE X a ta)(hb:PE X b tb)(hs:JP b):PE X (.Subscript a b pos) (zh r ta tb):=by
 intro ψ s σ H Q I h;exact Subscript_ (K8 ha hb I h λv u s2 x y H2 I2 rx ry q=>hr a b ψ s2 σ H2 x y v u Q I2 rx ry q (hs _ _))
abbrev SN(K:iw):R2:=λx y H Q=>∃p xs i v,x=.ref p/\y=.int i/\cE K H p xs/\df xs i=aj v/\Q v H
abbrev SM(K:iw):R2:=λx y H Q=>∃p xs i v,x=.ref p/\y=.int i/\bz K H p xs/\df xs i=aj v/\Q v H
abbrev SK:R2:=λx y H Q=>∃z i c,x=.str z/\y=.int i/\z.length<=dj/\df z.cps.toList i=aj c/\Q (.str ⟨#[c]⟩) H
def aC7:qk X (SN X.K):=by
 intro value slice ψ s σ H x y v u Q I rx ry h hs;let⟨p,xs,i,z,rfl,rfl,hq,he,q⟩:=h;cases rx;let⟨t,rfl⟩:=ry;let⟨its,r,pl,hz⟩:=I.list hq;let⟨j,h1,h2,h3,h4,h5⟩:=JQ he;let⟨w,ew,fI⟩:=r.get h2;have hl:=r.length;have hn:=CF;have fin:EP X ψ σ Q w s:=⟨z,H,I,fI,q⟩;by_cases h0:0<=i
 .have hj:i.toNat=j:=by
   rw[seqIndex_of h0 h5]at h1;exact jk.inj h1
  exact item_listR pl.isList h0 ⋯ (by rw[hj];simpa using ew) fin hs
 .have hj:(i+(its.toArray.size:Int)).toNat=j:=by
   rw[seqIndex_neg ⋯ h4]at h1;rw[gk,←hl];exact jk.inj h1
  exact subscriptTail_builtinR (x:=w) pl.isList.typeIs slot_list_getitem.lookup
   (wpAny_getItem_list_neg (Q:=λr s'=>r=w/\EP X ψ σ Q r s') pl.isList ⋯ (by rw[gk]<;>omega) ⋯ (by rw[hj];simpa using ew) ⟨rfl,fin⟩) hs
def aIH:qk X (SM X.K):=by
 intro value slice ψ s σ H x y v u Q I rx ry h hs;let⟨p,xs,i,z,rfl,rfl,hq,he,q⟩:=h;cases rx;let⟨t,rfl⟩:=ry;let⟨its,r,pl,hz⟩:=I.tuple hq;let⟨j,h1,h2,h3,h4,h5⟩:=JQ he;let⟨w,ew,fI⟩:=r.get h2;have hl:=r.length;have hn:=CF;have fin:EP X ψ σ Q w s:=⟨z,H,I,fI,q⟩
 exact subscriptTail_builtinR (x:=w) pl.typeIs slot_tuple_getitem.lookup
  (getItem_tuple (j:=j) (Q:=λr s'=>r=w/\EP X ψ σ Q r s') pl ⋯ ⋯ (by rw[gk,←hl];exact h1) (by simpa using ew) ⟨rfl,fin⟩) hs
def aII:qk X SK:=by
 intro value slice ψ s σ H x y v u Q I rx ry h hs;let⟨z,i,c,rfl,rfl,hz,he,q⟩:=h;let⟨t,rfl⟩:=rx;let⟨t',rfl⟩:=ry;let⟨j,h1,h2,h3,h4,h5⟩:=JQ he;have hl:z.cps.toList.length=z.length:=by simp[Str.length]
 rw[hl]at h1 h4 h5;have hn:=CF
 exact tail_any (typeIs_str s z t) slot_str_getitem.lookup (getItem_str (c:=c) (by
  have e1:decide (i< -(2^63:Int))=ao:=decide_eq_false ⋯;have e2:decide (i≥2^63)=ao:=decide_eq_false ⋯;rw[e1,e2,Bool.or_false]) (by rw[h1];simpa using h2) ⟨.str ⟨#[c]⟩,H,I.tok _,⟨_,rfl⟩,q⟩) hs
abbrev VP(K:iw):R2:=λx y H Q=>SN K x y H Q∨SM K x y H Q∨SK x y H Q
def aIJ:qk X (VP X.K):=aC7.or (aIH.or aII)
def agR(lo hi:Option Int)(n:Nat):(xy lo hi au n).1=((HT.oY n 0 lo:Nat):Int)/\(xy lo hi au n).2.1=((HT.oY n n hi:Nat):Int)/\(xy lo hi au n).2.2=1:=by
 refine⟨?_,?_,rfl⟩
 .cases lo with
  |none=>simp[xy,HT.oY]
  |some i =>
   simp only[xy,HT.oY,Option.getD_none,show(1:Int)>0 by decide,if_true];by_cases h:i<0
   .simp only[h,if_true]<;>omega
   .simp only[h,if_false]<;>omega
 .cases hi with
  |none=>simp[xy,HT.oY]
  |some i =>
   simp only[xy,HT.oY,Option.getD_none,show(1:Int)>0 by decide,if_true];by_cases h:i<0
   .simp only[h,if_true]<;>omega
   .simp only[h,if_false]<;>omega
def adR(its:List bh)(lo hi:Option Int):slicePick its.toArray lo hi au=((its.drop (HT.oY its.length 0 lo)).take (HT.oY its.length its.length hi - HT.oY its.length 0 lo)).toArray:=by
 let⟨h1,h2,h3⟩:=agR lo hi its.toArray.size;unfold slicePick;rw[h1,h2,h3];simp only[sliceRange_one,pick_run,gk]<;>rfl
abbrev aTP(K:iw):V->Option Int->Option Int->Hp->VK->Prop:=λx lo hi H Q=>∃a xs,x=.ref a/\cE K H a xs/\∀p,H p=au->Q (.ref p) (upd H p (.lst (nI xs lo hi)))
def aC8:tT X (aTP X.K):=by
 intro ψ s σ H x v vl vu lo hi sl Q I rx hs pl pu h;let⟨a,xs,rfl,hx,q⟩:=h;cases rx;let⟨its,r,ht,hz⟩:=I.list hx;have hlen:=r.length;refine⟨"list",_,slot_list_getitem.lookup,ht.isList.typeIs,?_⟩;refine wpAny_getItem_list_slice ht.isList hs pl pu .none (by simp) ?_ (by rw[gk]<;>omega);rw[adR,←hlen];refine⟨.ref s.heap.objs.size,_,I.laid (t':=s.toks) (o:=.lst (nI xs lo hi)) (λb ob q=>cu _ q) (dw _) ?_,rfl,q _ (I.af.fresh (dw _))⟩;exact⟨lq (T5 xs lo hi) hz,_,0,(r.drop (HT.oY xs.length 0 lo)).take (HT.oY xs.length xs.length hi - HT.oY xs.length 0 lo),gw _ rfl⟩
abbrev EW:V->Bool
 |.ag=>ak
 |.bl _=>ak
 |.int _=>ak
 |.str _=>ak
 |_=>ao
abbrev Ip:V->V->Bool
 |.ag,.ag=>ak
 |.bl a,.bl b=>a==b
 |.bl a,.int b=>(if a then 1 else 0)==b
 |.int a,.bl b=>a==(if b then 1 else 0)
 |.int a,.int b=>a==b
 |.str a,.str b=>a==b
 |_,_=>ao
def aIK{A:jd}{x:V}(ry:RelV y u)(rx:RelV x v)(fy:EW y=ak)(fx:EW x=ak):SeqAt.EqAt A s u v (Ip y x):=by
 cases y with
 |ag =>
  cases ry;cases x with
  |ag=>cases rx;exact SeqAt.EqAt.same _
  |bl b=>cases rx;exact SeqAt.EqAt.none_bool b
  |int b=>let⟨t,rfl⟩:=rx;exact SeqAt.EqAt.none_int b t
  |str b=>let⟨t,rfl⟩:=rx;exact SeqAt.EqAt.none_str b t
  |_=>exact absurd (show ao=ak from fx) oh
 |bl a =>
  cases ry;cases x with
  |ag=>cases rx;exact SeqAt.EqAt.bool_none a
  |bl b=>cases rx;exact SeqAt.EqAt.bool_bool a b
  |int b=>let⟨t,rfl⟩:=rx;exact SeqAt.EqAt.bool_int a b t
  |str b=>let⟨t,rfl⟩:=rx;exact SeqAt.EqAt.bool_str a b t
  |_=>exact absurd (show ao=ak from fx) oh
 |int a =>
  let⟨t',rfl⟩:=ry;cases x with
  |ag=>cases rx;exact SeqAt.EqAt.int_none a t'
  |bl b=>cases rx;exact SeqAt.EqAt.int_bool a t' b
  |int b=>let⟨t,rfl⟩:=rx;exact SeqAt.EqAt.int_int a t' b t
  |str b=>let⟨t,rfl⟩:=rx;exact SeqAt.EqAt.int_str a t' b t
  |_=>exact absurd (show ao=ak from fx) oh
 |str a =>
  let⟨t',rfl⟩:=ry;cases x with
  |ag=>cases rx;exact SeqAt.EqAt.str_none a t'
  |bl b=>cases rx;exact SeqAt.EqAt.str_bool a t' b
  |int b=>let⟨t,rfl⟩:=rx;exact SeqAt.EqAt.str_int a t' b t
  |str b=>let⟨t,rfl⟩:=rx;exact SeqAt.EqAt.str_str a t' b t
  |_=>exact absurd (show ao=ak from fx) oh
 |_=>exact absurd (show ao=ak from fy) oh
def agS:p9 X (.builtin "len") (λxs H Q=>∃p ys,xs=[.ref p]/\(cE X.K H p ys∨bz X.K H p ys)/\Q (.int ys.length) H):=by
 intro ψ s σ H xs us Q I r h;let⟨p,ys,rfl,hq,q⟩:=h;let⟨u,rfl,rx⟩:=vals1 r;cases rx;have hn:=CF;rcases hq with hq|hq
 .obtain⟨its,r',pl,hz⟩:=I.list hq;have hlen:=r'.length;exact Calls.call_len_list pl.isList (by simp only[gk]<;>omega) ⟨.int ys.length,H,I.tok _,⟨s.toks+1,by rw[gk,hlen]⟩,q⟩
 .obtain⟨its,r',pl,hz⟩:=I.tuple hq;have hlen:=r'.length;exact len_tuple pl (by simp only[gk]<;>omega) ⟨.int ys.length,H,I.tok _,⟨s.toks+1,by rw[gk,hlen]⟩,q⟩
def agT:p9 X (.builtin "len") (λxs H Q=>∃z,xs=[.str z]/\z.length<=dj/\Q (.int z.length) H):=by
 intro ψ s σ H xs us Q I r h;let⟨z,rfl,hz,q⟩:=h;let⟨u,rfl,t,rfl⟩:=vals1 r;have hn:=CF;exact len_str ⋯ ⟨.int z.length,H,I.tok _,⟨_,rfl⟩,q⟩
def p9.or{r:List V->Hp->VK->Prop}(h:p9 X f r)(h':p9 X f r'):p9 X f (λxs H Q=>r xs H Q∨r' xs H Q):=by
 intro ψ s σ H xs us Q I rs q;rcases q with q|q
 .exact h ψ s σ H xs us Q I rs q
 .exact h' ψ s σ H xs us Q I rs q
def agU:p9 X (.type "list") (λxs H Q=>∃p ys,xs=[.ref p]/\(cE X.K H p ys∨bz X.K H p ys)/\∀l,H l=au->Q (.ref l) (upd H l (.lst ys))):=by
 intro ψ s σ H xs us Q I r h;let⟨p,ys,rfl,hq,q⟩:=h;let⟨u,rfl,rx⟩:=vals1 r;cases rx
 have fin:∀(its:List bh),Vals ys its->ys.length<=dj->∀(h':jw)(c':Nat),(∀b o',s.heap.get? b=aj o'->h'.get? b=aj o') ->
   h'.get? s.heap.objs.size=aj {cls:=.type "list",dict:=none,data:=.seq its.toArray c',slots:=#[]}->EP X ψ σ Q (.ref s.heap.objs.size) {s with heap:=h' }:=λits r' hz h' c' kp e =>
  ⟨.ref s.heap.objs.size,_,I.laid (t':=s.toks) kp (dw _) (show j8 X.prog X.w _ h' _ (.lst ys)from⟨hz,its,c',r',e⟩),rfl,q _ (I.af.fresh (dw _))⟩
 rcases hq with hq|hq
 .obtain⟨its,r',pl,hz⟩:=I.list hq;have hlen:=r'.length;let⟨o,ho,hc,n,hd⟩:=pl.isList;exact call_list_seq p (.inl rfl) ho hc hd (λh' c' kp e=>fin its r' hz h' c' kp e) (by simp only[gk]<;>omega)
 .obtain⟨its,r',pl,hz⟩:=I.tuple hq;have hlen:=r'.length;let⟨o,ho,hc,n,hd⟩:=pl;exact call_list_seq p (.inr rfl) ho hc hd (λh' c' kp e=>fin its r' hz h' c' kp e) (by simp only[gk]<;>omega)
abbrev MQ(K:iw)(T:String)(x:V)(H:Hp):Prop:=match x with
 |.str _=>T="str"
 |.int _=>T="int"
 |.ref p=>(T="list"/\∃xs,cE K H p xs)∨(T="tuple"/\∃o,K.lookup p=aj o/\o.cls=.type "tuple"/\o.dict=au) ∨
   (T="dict"/\((∃kvs,H p=aj (.dK kvs))∨∃kvs,H p=aj (.dT kvs)))∨(T="set"/\∃S n,H p=aj (.set S n))
 |_=>False
def OS{ψ:List (bw×Obj)}{s:dg}{T:String}{x:V}(I:Inv X ψ σ H s)(r:RelV x v)(ty:MQ X.K T x H) :
  s.TypeIs v T/\∀a,v=.ref a->∃ob,s.heap.get? a=aj ob/\ob.dict=au:=by
 cases x with
 |str z =>
  let⟨t,rfl⟩:=r;cases(show T="str" from ty);exact⟨typeIs_str s z t,λ_ e=>nomatch e⟩
 |int i =>
  let⟨t,rfl⟩:=r;cases(show T="int" from ty);exact⟨typeIs_int s i t,λ_ e=>nomatch e⟩
 |ref p =>
  cases r;rcases ty with⟨rfl,xs,hq⟩|⟨rfl,o,hk,hc,hd⟩|⟨rfl,hk⟩|⟨rfl,S,n,hk⟩
  .obtain⟨its,_,pl,_⟩:=I.list hq;refine⟨pl.isList.typeIs,λa e=>?_⟩;cases e;let⟨o,n,e,c,hd,_⟩:=pl;exact⟨o,e,hd⟩
  .refine⟨⟨o,I.b7 p o hk,hc⟩,λa e=>?_⟩;cases e;exact⟨o,I.b7 _ o hk,hd⟩
  .have z:∃o,s.heap.get? p=aj o/\o.ExactDict:=by
    rcases hk with⟨kvs,hk⟩|⟨kvs,hk⟩
    .obtain⟨_,_,_,_,o,_,_,e,ex,_⟩:=I.af p _ hk;exact⟨o,e,ex⟩
    .obtain⟨_,_,_,_,o,_,_,e,ex,_⟩:=I.af p _ hk;exact⟨o,e,ex⟩
   let⟨o,e,ex⟩:=z;refine⟨⟨o,e,ex.1⟩,λa e2=>?_⟩;cases e2;exact⟨o,e,ex.2.1⟩
  .obtain⟨o,_,_,_,e,ex,_⟩:=I.af p _ hk;refine⟨⟨o,e,ex.1⟩,λa e2=>?_⟩;cases e2;exact⟨o,e,ex.2.1⟩
 |_=>exact False.elim ty
end
end
variable{its:List bh}{t':Nat}
section
abbrev MtM(X:Cx)(id:String)(r:V->List V->Hp->VK->Prop):Prop :=
 ∀(ψ:List (bw×Obj))(s:dg)(σ:St)(H:Hp)(x:V)(xs:List V)(v:bh)(us:List bh)(Q:VK),Inv X ψ σ H s->RelV x v->Vals xs us->r x xs H Q ->
  dh (dz X.prog X.w) X.A (call (.builtin id) (v::us)) (EP X ψ σ Q) X.xe s
def Vals.one{x:V}(h:Vals [x] us):∃u,us=[u]/\RelV x u:=by
 cases h with
 |cons r h=>cases h;exact⟨_,rfl,r⟩
section
variable{ψ:List (bw×Obj)}{s:dg}{l:bw}{xs ys:List V}
def Inv.aTR{its':List bh}{n:Nat}(I:Inv X ψ σ H s)(hH:H l=aj (.lst xs))
  (e:s.heap.get? l=aj {cls:=.type "list",data:=.seq its.toArray n})(hf:f its.toArray=its'.toArray)(hv:Vals ys its')(hz:ys.length<=dj) :
  Inv X ψ σ (upd H l (.lst ys)) {s with heap:=s.heap.update l (Obj.mapSeq f),toks:=t' }:=by
 have q:=PySem.IsL.update e f;rw[hf]at q;refine I.write (x:=l) (e:=l) (by rw[hH];exact trivial) (.inl rfl) (λb' u hb hu=>(Heap.get?_update_other s.heap (Obj.mapSeq f) (Ne.symm hb)).trans hu) ⟨_,q⟩ ?_;exact⟨hz,its',_,hv,q⟩
def Inv.SG(I:Inv X ψ σ H s)(hv:Vals ys its)(hz:ys.length<=dj) :
  Inv X ψ σ (upd H s.heap.objs.size (.lst ys)) {s with heap:=s.heap.push {cls:=.type "list",data:=.seq its.toArray},toks:=t' } :=
 I.laid (λ_ _ q=>cu _ q) (dw _) ⟨hz,its,0,hv,gw _ rfl⟩
def Inv.fresh(I:Inv X ψ σ H s):H s.heap.objs.size=au:=I.af.fresh (dw _)
def Inv.K4(I:Inv X ψ σ H s)(hH:H l=aj (.lst xs)):xs.length<=dj/\∃(its:List bh)(n:Nat),Vals xs its/\xs.length=its.length/\s.heap.get? l=aj {cls:=.type "list",data:=.seq its.toArray n}:=by
 let⟨z,its,n,r,e⟩:=I.af l _ hH;exact⟨z,its,n,r,r.length,e⟩
end
section
abbrev aC9:V->List V->Hp->VK->Prop:=λx vs H Q=>∃l xs y,x=.ref l/\vs=[y]/\H l=aj (.lst xs)/\xs.length<dj/\Q .ag (upd H l (.lst (xs++[y])))
def RK:MtM X "list.append" aC9:=by
 intro ψ s σ H x vs v us Q I rx rv h;let⟨l,xs,y,rfl,rfl,hH,hz,q⟩:=h;cases rx;let⟨u,rfl,ru⟩:=rv.one;let⟨z,its,n,r,hl,e⟩:=I.K4 hH;refine call_meets F.slot_list_append ⟨_,e,rfl⟩ F.entry_list_append (F.args_list_append_2 _ _) (PySem.list_append l its.toArray n u (by rw[gk];omega)) ⟨e,?_⟩;refine⟨.ag,_,I.aTR (its':=its++[u]) hH e (by simp) (r.append (.cons ru .nil)) ?_,rfl,q⟩;rw[yp,List.length_singleton];omega
abbrev aTS:R2:=λx y H Q=>∃l b xs zs,x=.ref l/\y=.ref b/\H l=aj (.lst xs)/\H b=aj (.lst zs)/\xs.length+zs.length<=dj/\∀p,H p=au->Q (.ref p) (upd H p (.lst (xs++zs)))
def aIM:yW X (vq .Add) aTS:=by
 intro ψ s σ H x y v u Q I rx ry h;let⟨l,b,xs,zs,rfl,rfl,hH,hB,hz,q⟩:=h;cases rx;cases ry;let⟨z,its,n,r,hl,e⟩:=I.K4 hH;let⟨z2,bp,n2,r2,El,e2⟩:=I.K4 hB;refine PySem.P.add_list e e2 ?_ (by rw[gk,gk];omega);have ea:its.toArray++bp.toArray=(its++bp).toArray:=by simp
 rw[ea];exact⟨.ref _,_,I.SG (t':=s.toks) (r.append r2) (by rw[yp];omega),rfl,q _ I.fresh⟩
end
section
end
section
end
end
end L2
namespace Vo
open PySem PySem.W PySem.Calls PyProof.Rows
variable{h:jw}
def a9J:∀(ns:List Int)(vs:List bh),WellAll P h vs (ns.map WData.int)->IntsAre vs ns:=by
 intro ns
 induction ns with
 |nil =>
  intro vs w;rw[List.map_nil]at w;cases w;exact .nil
 |cons n ns ih =>
  intro vs w;rw[ji]at w;cases w with
  |cons a b =>
   cases a;exact .cons _ _ (ih _ b)
variable{l:OpenLaw}
def Zb{n:Nat}(hn:l.most=aj n) 
  (qv:l.row.toRowW.claim.pre args=ak)(HS:WellAll P h vals args) :
  ∃a vs ns,vals=[bh.ref a]/\args=[WData.list (ns.map WData.int)]/\h.get? a=aj {cls:=.type "list",data:=.seq vs.toArray}/\IntsAre vs ns/\ns.length<=n:=by
 have Ee:WShape.hasAll [] args [.list .int]=ak:=(pre_splitW qv).1;have hc:l.pre.holds [] {args:=args}=ak:=(pre_splitW qv).2;let⟨d,r,rfl,h1,h2⟩:=hasAllW_cons Ee;obtain rfl:=hasAllW_nil h2;let⟨xs,rfl,h3⟩:=hasW_list h1;let⟨ns,rfl⟩:=items_int h3
 have hlen:ns.length<=n:=by
  unfold OpenLaw.pre at hc
  have h4:(WTm.not (.lt (.lit (.int (n:Int))) (.len (.arg 0)))).holds [] {args:=[.list (ns.map .int)]}=ak:=by
   have h4:=(holds_andW hc).1;rw[hn]at h4;exact h4
  have h5:=condW_of h4 (w_not (w_lt w_lit (w_len_list (w_arg rfl))));rw[fj]at h5;refine Nat.le_of_not_lt λq=>?_;have q':(n:Int)<((ns.length:Nat):Int):=by omega
  first
   |(rw[decide_eq_true q']at h5;exact absurd h5 (by decide))
   |(simp at h5;omega)
 cases HS with
 |cons w1 w2 =>
  cases w2;cases w1 with
  |list ho eL=>exact⟨_,_,ns,rfl,rfl,ho,a9J ns _ eL,hlen⟩
def Za(l:OpenLaw)(args:List WData):l.row.toRowW.claim.post args (.bool ak) args=ak :=
 postW_of (r:=l.row.toRowW) (X:=(ak==ak))
  (show WShape.has [] (.bool ak) .bool=ak by first|rfl|decide|simp[WShape.has,WShape.arms,WShape.armsAll])
  (show(WTm.eq .res (.lit (.bool ak))).value [] {args:=args,res:=some (.bool ak),after:=args}=aj (.bool (ak==ak))from w_eq_bool (w_res rfl) w_lit) rfl
def ajG{n:Nat}{d:DefRec}
  (hn:l.most=aj n)(BQ:d.params.defaults=[])
  (call:∀(w:je)(av ah:dg)(mg mb:Str->Option bh)(fa:bw)(o:Obj)(pm cd doc:bh)(a:bw)(vs:List bh)(ns:List Int),
   Ground q loose [] XP w av mg mb ah.heap->YP w ah.heap ->
   ah.heap.get? fa=aj o->o.data=.func (docDef d.name d.params d.body d.scope pm cd doc)->ah.heap.CodeRec cd d.name->mg d.name=aj (.ref fa) ->
   ah.heap.get? a=aj {cls:=.type "list",data:=.seq vs.toArray}->IntsAre vs ns->ns.length<=n->ah.gens=#[] ->
   kP (dz l.prog w) callerA (.call (.ref fa) ⟨[.ref a],[]⟩) (λr s'=>r=.ok (.ret (.bool ak))/\OldK ah.heap s'.heap/\s'.os=ah.os/\AllBare s'.gens) ah) :
  WalkO q loose XP YP l.row.toRowW d [] (λf vs=>PySem.call f vs):=by
 intro w av ah mg mb G Y fa o pm cd doc dV kV ho hd fq hD BM hg args vals as qv hlay hrd HS Ek;obtain rfl:dV=.none:=Dflts.none hD BQ;obtain rfl:kV=.none:=Dflts.noKw hD;let⟨a,vs,ns,rfl,rfl,yY,hints,hlen⟩:=Zb hn qv HS;refine enter_call (codeAny_mono (call w av ah mg mb fa o pm cd doc a vs ns G Y ho (fd_plain hd) fq BM yY hints hlen hg) λr s' hq=>?_);let⟨rfl,h2,h3,h4⟩:=hq;exact⟨.inl ⟨.bool ak,.bool ak,[],rfl,λ_=>rfl,.bool ak,Za l _,λ_=>⟨List.Pairwise.nil,λ_ hm=>(nomatch hm)⟩⟩,h2,h3,h4⟩
section
abbrev ledger(h:jw)(L d:bw):List (bw×Obj):=(lg h.objs.size).filterMap λa=>if a=L∨a=d then au else(h.get? a).map λo=>(a,o)
end
end Vo
namespace L2
open PySem PySem.Spec PyProof.Rows
variable{mg:Str->Option bh}
section
def RJ:∀{vs:List bh}{ns:List Int},IntsAre vs ns->Vals (ns.map V.int) vs
 |_,_,.nil=>.nil
 |_,_,.cons n t h=>.cons ⟨t,rfl⟩ (RJ h)
abbrev y8(H:Hp):Prop:=∀b,H b=au∨∃o xs,H b=aj (.jX o (.lst xs))
private theorem X3{w:je}{K:iw}{k:Nat}{a:bw}{x:Str}{ah:dg}{vs:List bh}{ns:List Int}
  (KX:K.In ah.heap)(NI:ah.heap.Ns jg mg)(hb:ah.heap.Ns builtinsNs mb)(Wx:∀x:Str,x≠"__name__"->mb x=mz x)(MJ:ah.heap.NoLimit)(hg:ah.gens=#[])
  (ha:ah.heap.get? a=aj {cls:=.type "list",data:=.seq vs.toArray})(hi:IntsAre vs ns)(hl:ns.length<=dj)(hr:mZ qt k callerA)
  (F:∀base:jw,K.In base->base.Ns jg mg->bM qt P w K mg base CX k fa fd [x] sp)(DR:∀(s:dg)(u:bh),BindsTo s fd ⟨[u],[]⟩ [(x,u)])
  (rj:∀H:Hp,y8 H->cE K H a (ns.map V.int)->sp [.ref a] H (λv _=>v=.bl ak) λ_ _ _=>False)
  (Ij:∀H e s',CX [] H ah (λ_ _ _=>False) e s'->False) :
  kP (dz P w) callerA (.call (.ref fa) ⟨[.ref a],[]⟩) (λr s'=>r=.ok (.ret (.bool ak))/\OldK ah.heap s'.heap/\s'.os=ah.os/\AllBare s'.gens) ah:=by
 have rv:=RJ hi;have MC:=hi.length
 have core:∀H:Hp,y8 H->cE K H a (ns.map V.int)->bq P w H ah.heap->(∀b,H b≠au->b=a)->(H a≠au->K.lookup a=au) ->
   kP (dz P w) callerA (.call (.ref fa) ⟨[.ref a],[]⟩) (λr s'=>r=.ok (.ret (.bool ak))/\OldK ah.heap s'.heap/\s'.os=ah.os/\AllBare s'.gens) ah:=by
  intro H hO hS af hA hK;have P5:∀{b:bw}{o:Obj},ah.heap.get? b=aj o->H b=au->(pS ah.heap H).get? b=aj o:=λe n=>Yl e n
  have BC:∀{b:bw}{o:Obj}{es:Array kQ}{ep:Nat},ah.heap.get? b=aj o->o.data=.dict es ep->H b=au:=λ{b o es ep} e d=>by
   cases q:H b with
   |none=>rfl
   |some u =>
    have e':b=a:=hA b (by rw[q];simp);subst e';rw[ha]at e;cases e;have d':Data.seq vs.toArray _=Data.dict es ep:=d;cases d'
  have DZ:∀{b:bw}{m:Str->Option bh},ah.heap.Ns b m->(pS ah.heap H).Ns b m:=λ{b m} ⟨o,es,ep,e,d,r⟩=>⟨o,es,ep,P5 e (BC e d),d,r⟩
  have NW:K.In (pS ah.heap H):=λb o e=>P5 (KX b o e) (by
   cases q:H b with
   |none=>rfl
   |some u =>
    have e':b=a:=hA b (by rw[q];simp);subst e';rw[hK (by rw[q];simp)]at e;cases e)
  have hM:Mod K mg (pS ah.heap H):=⟨NW,DZ NI,⟨mb,DZ hb,Wx⟩,let⟨mc,h1,h2⟩:=MJ;⟨mc,DZ h1,h2⟩⟩;have e0:xc P w K mg (pS ah.heap H) callerA [] ah H:=⟨rfl,hM,λb o e=>aBD e,xN (Zm _ _),trivial,λb hb=>absurd (show b∈([]:List bw)from hb) (by simp),af,.of_eq hg,.inl rfl⟩;refine codeAny_mono ((F _ NW (DZ NI)).run callerA [] ah H ⟨[.ref a],[]⟩ [.ref a] [.ref a] _ _ hr e0 (DR ah (.ref a)) (.cons rfl .nil) (rj H hO hS)) λr s' h=>?_;cases r with
  |error e=>exact(Ij H e s' h).elim
  |ok fl =>
   cases fl with
   |next=>exact False.elim h
   |brk=>exact False.elim h
   |cont=>exact False.elim h
   |ret u =>
    let⟨v,H',os,bare,un,MH,r',q⟩:=h;have q':v=.bl ak:=q;subst q';obtain rfl:u=bh.bool ak:=r';refine⟨rfl,OldK.of_keep λb o e=>?_,os,bare⟩;cases q:H b with
    |none=>exact un.keep b o e q (by intro z;exact absurd (show b∈([]:List bw)from z) (by simp)) (by simp)
    |some u =>
     rcases hO b with z|⟨ob,xs,z⟩
     .rw[q]at z;cases z
     .have z2:=un.pB b ob _ z;let⟨e1,_⟩:=af b _ z;let⟨e2,_⟩:=MH b _ z2;rw[e]at e1;cases e1;exact e2
 cases hk:K.lookup a with
 |some o =>
  have e:=KX a o hk;rw[ha]at e;cases e;refine core (λ_=>au) (λ_=>.inl rfl) (.inr ⟨_,vs.toArray,_,hk,rfl,rfl,rfl,by rw[gk,MC];exact hl,by simpa using rv⟩) (λb u z=>by have z':(au:Option HO)=aj u:=z;cases z') (λb z=>absurd rfl z) λz=>absurd rfl z
 |none =>
  refine core (λb=>if b=a then aj (.jX {cls:=.type "list",data:=.seq vs.toArray} (.lst (ns.map V.int)))else au) (λb=>?_) (.inl (.inr ⟨{cls:=.type "list",data:=.seq vs.toArray},if_pos rfl⟩)) (λb u z=>?_) (λb z=>?_) λ_=>hk
  .by_cases hb:b=a
   .exact .inr ⟨_,_,if_pos hb⟩
   .exact .inl (if_neg hb)
  .by_cases hb:b=a
   .have z':=(if_pos hb).symm.trans z;cases z';subst hb;exact⟨ha,by rw[fj];exact hl,vs,_,rv,ha⟩
   .have z':=(if_neg hb).symm.trans z;cases z'
  .by_cases hb:b=a
   .exact hb
   .exact absurd (if_neg hb) z
end
section
def aCA{l:PySem.W.OpenLaw}{n k:Nat}{q:jr}{loose:List Str}{XP:(Str->Option bh)->jw->Prop}{YP:je->jw->Prop}{d:DefRec}{K:Params->iw}{CX:je->Dy}{sp:je->Sp}{x:Str}
  (hn:l.most=aj n)(Ei:n<=dj)(BQ:d.params.defaults=[])(hr:mZ qt k callerA)
  (hY:∀(w:je)(h:jw),YP w h->(K w.params).In h)
  (F:∀(w:je)(mg:Str->Option bh)(fa:bw)(h:jw),(K w.params).In h->h.Ns jg mg->mg d.name=aj (.ref fa) ->
   ∃fd:jm,(∀(s:dg)(u:bh),BindsTo s fd ⟨[u],[]⟩ [(x,u)]) /\
    ∀base:jw,(K w.params).In base->base.Ns jg mg->bM qt l.prog w (K w.params) mg base (CX w) k fa fd [x] (sp w))
  (rj:∀(w:je)(H:Hp)(a:bw)(ns:List Int),ns.length<=n->y8 H->cE (K w.params) H a (ns.map V.int)->sp w [.ref a] H (λv _=>v=.bl ak) λ_ _ _=>False)
  (Ij:∀(w:je)(H:Hp)(s:dg)(e:bh)(s':dg),CX w [] H s (λ_ _ _=>False) e s'->False) :
  PySem.W.WalkO q loose XP YP l.row.toRowW d [] (λf vs=>PySem.call f vs):=by
 refine Vo.ajG hn BQ λw av ah mg mb fa o pm cd doc a vs ns G Y ho hd fq BM yY hints hlen hg=>?_;have KX:=hY w _ Y;let⟨fd,hb,hF⟩:=F w mg fa _ KX G.T.g BM;exact X3 KX G.T.g G.T.b G.T.builtins G.T.nolimit hg yY hints (lq hlen Ei) hr hF hb (λH hO hS=>rj w H a ns hlen hO hS) λH e s'=>Ij w H ah e s'
end
section
abbrev inClass(s:jq)(j:Nat):jq:=match s with
 |.ClassDef _ _ _ body _ _ _ _ _ _ _=>body.getD j (.Pass ⟨0,0,0,0⟩)
 |_=>.Pass ⟨0,0,0,0⟩
abbrev cW(s:jq):Arguments:=match s with
 |.FunctionDef _ a _ _ _ _ _ _ _ _=>a
 |_=>{posonlyargs:=[],args:=[],vararg:=none,kwonlyargs:=[],kw_defaults:=[],kwarg:=none,defaults:=[]}
abbrev cB(s:jq):List jq:=match s with
 |.FunctionDef _ _ b _ _ _ _ _ _ _=>b
 |_=>[]
abbrev aX(s:jq):di:=match s with
 |.FunctionDef _ _ _ _ _ _ sc _ _ _=>sc
 |_=>{kind:=.function,names:=[],isGenerator:=false,isCoroutine:=false}
structure cK(K:iw)(x qual:Str)(st:jq)(f:bw)(fd:jm):Prop where
 ex:∃(oc:bh)(od:Option bw)(dV kV doc pm:bh)(an:Option bw)(dP ct:bh)(zw:Array (Option bh)),
  fd=qe x qual (cW st) (cB st) (aX st) dV kV doc pm an dP ct/\K.lookup f=aj ⟨oc,od,.func fd,zw⟩/\tI K dP qual=ak
 kp:qp K (.ref f)=ak
section
variable{K:iw}
def CA{x qual:Str}{st:jq}{f:bw}{oc:bh}{od an:Option bw}{zw:Array (Option bh)}{dV kV doc pm dP ct:bh}(l:K.lookup f=aj ⟨oc,od,.func (qe x qual (cW st) (cB st) (aX st) dV kV doc pm an dP ct),zw⟩)
  (c:tI K dP qual=ak)(k:qp K (.ref f)=ak):cK K x qual st f (qe x qual (cW st) (cB st) (aX st) dV kV doc pm an dP ct):=⟨⟨oc,od,dV,kV,doc,pm,an,dP,ct,zw,rfl,l,c⟩,k⟩
end
section
end
def pM{c A B:Prop}[Decidable c](h1:c->A)(h2:¬ c->B):if c then A else B:=by
 by_cases h:c
 .rw[if_pos h];exact h1 h
 .rw[if_neg h];exact h2 h
abbrev a9(H H':Hp):Prop:=∀b o,H b=aj o->H' b=aj o
def a9.refl(H:Hp):a9 H H:=λ_ _ h=>h
section
end
section
variable{κ:Type}[DecidableEq κ]
end
end
variable{h:jw}
section
@[simp]def NK:=List Int×Int
abbrev nE(h:jw)(k:NK)(a:bw):Prop:=∃o b t n,h.get? a=aj o/\o.cls=.type "tuple"/\o.data=.seq #[.ref b,.int k.2 t] n/\∀(P:jr)(w:je),IsTupleKey (aG P w) h (k.1.map Sum.inl) b
def P4{x y:List Int}(h:x.map (Sum.inl:Int->Key)=y.map Sum.inl):x=y:=by
 induction x generalizing y with
 |nil=>cases y with
  |nil=>rfl
  |cons _ _=>cases h
 |cons a r ih=>cases y with
  |nil=>cases h
  |cons b q =>
   rw[ji,ji]at h;injection h with h1 h2;injection h1 with h1;rw[h1,ih h2]
def OQ{P:jr}{w:je}{a:bw}{x:NK}(hx:nE h x a)(hy:nE h y a):x=y:=by
 let⟨o,b,t,n,e1,e2,e3,e4⟩:=hx;let⟨o',b',t',n',g1,g2,g3,g4⟩:=hy;rw[e1]at g1;cases g1;rw[e3]at g3;simp only[Data.seq.injEq,Array.mk.injEq,List.cons.injEq,bh.ref.injEq,bh.int.injEq,and_true]at g3;let⟨⟨rfl,h2,_⟩,_⟩:=g3;have:=P4 ((e4 P w).inj (g4 P w));exact Prod.ext this h2
def X2{P:jr}{w:je}{k:NK}{a d:bw}{o:Obj}{es ep}(x:nE h k a)(ho:h.get? d=aj o)(hd:o.data=.dict es ep)(hs:lu d h h'):nE h' k a:=by
 let⟨o',b,t,n,e1,e2,e3,e4⟩:=x
 have lh:a≠d:=by
  rintro rfl;rw[e1]at ho;cases ho;rw[hd]at e3;exact nomatch e3
 exact⟨o',b,t,n,(hs.2 a lh).trans e1,e2,e3,λP w=>(e4 P w).keeps ho hd hs⟩
section
variable{prog:jr}{w:je}{A:jd}{s:dg}
abbrev Js(prog:jr)(w:je)(k:NK):Int:=reduceHash (Builtin.Tuple.tupleHashOf [tupleKeyHash (aG prog w) (k.1.map Sum.inl),(aG prog w).hash (.inl k.2)])
def P1{k:NK}{a:bw}(x:nE s.heap k a):s.TypeIs (.ref a) "tuple":=let⟨o,_,_,_,ho,hc,_⟩:=x;⟨o,ho,hc⟩
def Y9{k:NK}{a:bw}(hu:A.units+8<uc)(hk:nE s.heap k a)(h:Q (Js prog w k) {s with toks:=s.toks+(k.1.length+1+1+1)}) :
  dh (dz prog w) A (pyHash (.ref a)) Q E s:=by
 have hT:=P1 hk;let⟨o,b,t,n,ho,hc,hd,hi⟩:=hk;unfold pyHash
 first|unfold pyHashByItsType|skip
 first|refine aq (wpAny_cRoomFor_or (.inr ⋯) ?_)|skip
 refine aq (wpAny_specialOf hT PySem.F.slot_tuple_hash.lookup ?_);show dh _ _ (if(aj (bh.builtin "tuple.__hash__")==aj bh.none)=ak then _ else _) Q E s;rw[if_neg (by rw[beq_builtin_none];exact oh)];refine aq (wpAny_specialOf hT PySem.F.slot_tuple_hash.lookup ?_);show dh _ _ (callSpecialIfBoundUnlessNone? (.ref a) "__hash__" _ >>= _) Q E s;refine aq (wpAny_callSpecialIfBoundUnlessNone?_slot hT PySem.F.slot_tuple_hash (uw PySem.F.slot_tuple_hash hT PySem.F.entry_tuple_hash ?_ (PySem.F.args_tuple_hash_1 _)));show dh _ _ (Builtin.Tuple.tupleItemsOf (.ref a) >>= _) _ _ s;refine aq (wpAny_tupleItemsOf ho hd ?_);refine aq ?_;rw[←Array.forIn_toList];have hl:(k.1.map (Sum.inl:Int->Key)).length=k.1.length:=fj ..
 refine wpAny_forIn_list _
  (λrest (acc:Array Int) s'=>(rest=[bh.ref b,.int k.2 t]/\acc=#[]/\s'=s)∨(rest=[bh.int k.2 t]/\acc=#[tupleKeyHash (aG prog w) (k.1.map Sum.inl)]/\s'={s with toks:=s.toks+(k.1.length+1)})∨(rest=[]/\acc=#[tupleKeyHash (aG prog w) (k.1.map Sum.inl),(aG prog w).hash (.inl k.2)]/\s'={s with toks:=s.toks+(k.1.length+1+1)}))
  _ ?_ ?_ _ _ (.inl ⟨rfl,rfl,rfl⟩)
 .rintro x rest acc s' (⟨hr,rfl,rfl⟩|⟨hr,rfl,rfl⟩|⟨hr,_⟩)
  .injection hr with h1 h2;subst h1 h2;refine aq (wpAny_pyHash_tuple (knd:=aG prog w) (by show A.units+1<uc;omega) (hi prog w) ?_);rw[hl]
   first
    |exact cj (.inr (.inl ⟨rfl,rfl,rfl⟩))
    |exact aq (cj (cj (.inr (.inl ⟨rfl,rfl,rfl⟩))))
  .injection hr with h1 h2;subst h1 h2;refine aq ((aG prog w).pyHash (T8 prog w k.2 t) ?_)
   first
    |exact cj (.inr (.inr ⟨rfl,rfl,rfl⟩))
    |exact aq (cj (cj (.inr (.inr ⟨rfl,rfl,rfl⟩))))
  .cases hr
 .rintro acc s' (⟨hr,_⟩|⟨hr,_⟩|⟨_,rfl,rfl⟩)
  .cases hr
  .cases hr
  .show dh _ _ (retInt (Builtin.Tuple.tupleHashOf [tupleKeyHash (aG prog w) (k.1.map Sum.inl),(aG prog w).hash (.inl k.2)])) _ _ _;refine wpAny_ret_mkInt ?_;show dh _ _ (if(decide (-(2:Int)^63<=Builtin.Tuple.tupleHashOf [tupleKeyHash (aG prog w) (k.1.map Sum.inl),(aG prog w).hash (.inl k.2)])&&decide (Builtin.Tuple.tupleHashOf [tupleKeyHash (aG prog w) (k.1.map Sum.inl),(aG prog w).hash (.inl k.2)]<2^63))=ak then _ else _) Q E _;unfold Js reduceHash at h;by_cases hr:(decide (-(2:Int)^63<=Builtin.Tuple.tupleHashOf [tupleKeyHash (aG prog w) (k.1.map Sum.inl),(aG prog w).hash (.inl k.2)])&&decide (Builtin.Tuple.tupleHashOf [tupleKeyHash (aG prog w) (k.1.map Sum.inl),(aG prog w).hash (.inl k.2)]<2^63))=ak
   .rw[if_pos hr];rw[if_pos hr]at h;exact cj (by simpa[Nat.add_assoc]using h)
   .rw[if_neg hr];rw[if_neg hr]at h;exact aq (yc (cj (by simpa[Nat.add_assoc]using h)))
def aCB(P:jr)(w0:je){x:NK}{a b:bw}(hu:A.units+8<uc)(hx:nE s.heap x a)(hy:nE s.heap y b):SeqAt.EqAt A s (.ref a) (.ref b) (decide (x=y)):=by
 by_cases BS:a=b
 .subst BS;have e:x=y:=OQ (P:=P) (w:=w0) hx hy;subst e;rw[decide_eq_true rfl];exact SeqAt.EqAt.same _
 .obtain⟨o,b1,t,n,e1,e2,e3,e4⟩:=hx;let⟨o',b2,t',n',g1,g2,g3,g4⟩:=hy;refine SeqAt.EqAt.of_refs BS ?_
  have z:=SeqAt.RcAt.tuples (A:=A) (s:=s) (e:=λj=>if j=0 then decide (x.1=y.1)else decide (x.2=y.2)) (show s.heap.IsTuple a #[.ref b1,.int x.2 t]from⟨o,e1,e2,n,e3⟩) (show s.heap.IsTuple b #[.ref b2,.int y.2 t']from⟨o',g1,g2,n',g3⟩) ⋯ (λj h1 h2=>by
   match j,h1,h2 with
   |0,_,_ =>
    rw[if_pos rfl];intro i0 w' E' Q' hq
    have e:decide (x.1.map (Sum.inl:Int->Key)=y.1.map Sum.inl)=decide (x.1=y.1):=by
     rw[decide_eq_decide];exact⟨P4,λz=>by rw[z]⟩
    exact wpAny_eqBool_tuple (knd:=aG i0 w') (by show A.units+1<uc;omega) (e4 i0 w') (g4 i0 w') (by rw[e];exact hq)
   |1,_,_ =>
    rw[if_neg (by decide)];intro i0 w' E' Q' hq
    exact wpAny_eqBool_int (by
     have e:(x.2==y.2)=decide (x.2=y.2):=rfl
     first
      |exact hq
      |(rw[e];exact hq))
   |j+2,h1,_=>exact absurd h1 (by simp))
  have e:((lg (min (#[bh.ref b1,.int x.2 t]:Array bh).size (#[bh.ref b2,.int y.2 t']:Array bh).size)).all (λj=>if j=0 then decide (x.1=y.1)else decide (x.2=y.2))&&(#[bh.ref b1,.int x.2 t]:Array bh).size==(#[bh.ref b2,.int y.2 t']:Array bh).size)=decide (x=y):=by
   show((lg 2).all _&&ak)=_;rw[show lg 2=[0,1]from rfl];simp only[List.all_cons,List.all_nil,Bool.and_true,if_true,Nat.one_ne_zero,if_false];rw[Bool.eq_iff_iff,bx,decide_eq_true_eq,decide_eq_true_eq,decide_eq_true_eq];exact⟨λz=>Prod.ext z.1 z.2,λz=>by rw[z];exact⟨rfl,rfl⟩⟩
  rw[e]at z;exact z
def L'{m:Nat}{ks:List Key}{a:bw}(hk:IsTupleKey (aG prog w) s.heap ks a)(h:Q ak s):dh (dz prog w) A (eqIsQuiet (m+1) (.ref a)) Q E s:=by
 have hT:=hk.typeIs;let⟨o,items,n,ho,_,hd,hi⟩:=hk;unfold eqIsQuiet;refine aq (wpAny_specialOf hT PySem.F.slot_tuple_eq.lookup ?_);show dh _ _ (isInstance (.ref a) (.type "tuple") >>= _) _ _ s;refine aq (wpAny_isInstance hT isSubtype_tuple_tuple ?_);simp only[qi,kj,if_false];refine aq (CU ho hd ?_);refine aq ?_;show dh _ _ (forIn items _ _) _ _ s;rw[←Array.forIn_toList];refine wpAny_forIn_list _ (λrest r s'=>r.1=au/\s'=s/\∀v∈rest,carriedByValue v=ak) _ ?_ ?_ _ _ ⟨rfl,rfl,hi.byValue⟩
 .rintro v rest r s' ⟨hr,rfl,eL⟩;rw[eqIsQuiet_byValue _ (eL v yj)];refine aq (cj ?_);simp only[qi,kj,if_false];exact cj ⟨rfl,rfl,λu oC=>eL u (nj _ oC)⟩
 .rintro⟨r1,r2⟩ s' ⟨hr,rfl,_⟩;simp only at hr;subst hr;exact cj h
def X1{k:NK}{a:bw}(hk:nE s.heap k a)(h:Q ak s):dh (dz prog w) A (eqIsQuiet 8 (.ref a)) Q E s:=by
 have hT:=P1 hk;let⟨o,b,t,n,ho,_,hd,hi⟩:=hk;unfold eqIsQuiet;refine aq (wpAny_specialOf hT PySem.F.slot_tuple_eq.lookup ?_);show dh _ _ (isInstance (.ref a) (.type "tuple") >>= _) _ _ s;refine aq (wpAny_isInstance hT isSubtype_tuple_tuple ?_);simp only[qi,kj,if_false];refine aq (CU ho hd ?_);refine aq ?_;rw[←Array.forIn_toList];refine wpAny_forIn_list _ (λrest r s'=>r.1=au/\s'=s/\∀v∈rest,v=.ref b∨v=.int k.2 t) _ ?_ ?_ _ _ ⟨rfl,rfl,λv hv=>by simpa using hv⟩
 .rintro v rest r s' ⟨hr,rfl,eL⟩;rcases eL v yj with rfl|rfl
  .refine aq (L' (m:=6) (hi prog w) ?_);simp only[qi,kj,if_false];exact cj ⟨rfl,rfl,λu oC=>eL u (nj _ oC)⟩
  .rw[eqIsQuiet_byValue _ rfl];refine aq (cj ?_);simp only[qi,kj,if_false];exact cj ⟨rfl,rfl,λu oC=>eL u (nj _ oC)⟩
 .rintro⟨r1,r2⟩ s' ⟨hr,rfl,_⟩;simp only at hr;subst hr;exact cj h
end
abbrev aIN(prog:jr)(w:je):HeapKind prog w NK where
 is:=nE
 hash:=Js prog w
 draws:=λk=>k.1.length+1+1+1
 room:=λA=>A.units+8<uc
 inj:=λhx hy=>OQ (P:=prog) (w:=w) hx hy
 keeps:=λx ho hd hs=>X2 (P:=prog) (w:=w) x ho hd hs
 pyHash:=λhu hk h=>Y9 hu hk h
 eqBool:=λhu hx hy h=>aCB prog w hu hx hy prog w _ _ h
 quiet:=λhk h=>X1 hk h
end
variable{ψ:List (bw×Obj)}{v:V}{r:R2}
section
inductive D where
 |ag|bl (b:Bool)|int (i:Int)|str (x:Str)|tup (xs:List D)|ref (a:bw)|ty (n:String)
@[simp]def Fg:=iw
@[simp]def pE(H:Hp)(a:bw)(xs:List V):Prop:=H a=aj (.tup xs)
def AB{a:bw}(h:H a=aj (.tup xs)):pE H a xs:=h
mutual
inductive RD(K:Fg)(H:Hp):D->V->Prop where
 |ag:RD K H .ag .ag
 |bl (b:Bool):RD K H (.bl b) (.bl b)
 |int (i:Int):RD K H (.int i) (.int i)
 |str (x:Str):RD K H (.str x) (.str x)
 |ty (n:String):RD K H (.ty n) (.ty n)
 |ref (a:bw):RD K H (.ref a) (.ref a)
 |tup {a:bw} {xs:List V} {ds:List D}:bz K H a xs->cV K H ds xs->pE H a xs->RD K H (.tup ds) (.ref a)
inductive cV(K:Fg)(H:Hp):List D->List V->Prop where
 |nil:cV K H [] []
 |cons {d:D} {v:V} {ds:List D} {vs:List V}:RD K H d v->cV K H ds vs->cV K H (d::ds) (v::vs)
end
structure Ts(H H':Hp):Prop where
 aI:∀a xs,H a=aj (.tup xs)->H' a=aj (.tup xs)
 pB:∀a o u,H a=aj (.jX o u)->H' a=aj (.jX o u)
def Ts.refl(H:Hp):Ts H H:=⟨λ_ _ h=>h,λ_ _ _ h=>h⟩
def Ts.trans(a:Ts H H1)(b:Ts H1 H2):Ts H H2:=⟨λc xs h=>b.aI c xs (a.aI c xs h),λc o u h=>b.pB c o u (a.pB c o u h)⟩
def Ts.same(s:a9 H H'):Ts H H':=⟨λa _ h=>s a _ h,λa _ _ h=>s a _ h⟩
def Ts.rd(t:Ts H H'){a:bw}(h:Rd H a (.tup xs)):Rd H' a (.tup xs):=by
 rcases h with h|⟨o,h⟩
 .exact .inl (t.aI _ _ h)
 .exact .inr ⟨o,t.pB _ _ _ h⟩
def Ts.zk{K:Fg}(t:Ts H H'){a:bw}(h:bz K H a xs):bz K H' a xs:=h.elim (λq=>.inl (t.rd q)) .inr
def pE.mono(t:Ts H H'){a:bw}(h:pE H a xs):pE H' a xs:=t.aI _ _ h
def c7{o:HO}(h:H p=au):a9 H (upd H p o):=λb u e=>by
 rw[aY (pA e h)];exact e
mutual
theorem RD.mono{K:Fg}{H H':Hp}(t:Ts H H'):∀{d:D}{v:V},RD K H d v->RD K H' d v
 |_,_,.ag=>.ag
 |_,_,.bl b=>.bl b
 |_,_,.int i=>.int i
 |_,_,.str x=>.str x
 |_,_,.ty n=>.ty n
 |_,_,.ref a=>.ref a
 |_,_,.tup h r e=>.tup (t.zk h) (cV.mono t r) (e.mono t)
theorem cV.mono{K:Fg}{H H':Hp}(t:Ts H H'):∀{ds:List D}{vs:List V},cV K H ds vs->cV K H' ds vs
 |_,_,.nil=>.nil
 |_,_,.cons h r=>.cons (RD.mono t h) (cV.mono t r)
end
section
variable{K:Fg}
def cV.length:∀{ds:List D}{vs:List V},cV K H ds vs->ds.length=vs.length
 |_,_,.nil=>rfl
 |_,_,.cons _ r=>congrArg (·+1) (cV.length r)
def cV.append:∀{ds:List D}{vs:List V}{es:List D}{ws:List V},cV K H ds vs->cV K H es ws->cV K H (ds++es) (vs++ws)
 |_,_,_,_,.nil,s=>s
 |_,_,_,_,.cons h r,s=>.cons h (cV.append r s)
def cV.get:∀{ds:List D}{vs:List V}{i:Nat}{d:D},cV K H ds vs->ds[i]?=aj d->∃v,vs[i]?=aj v/\RD K H d v
 |_,_,_,_,.nil,e=>by simp at e
 |_,_,0,_,.cons r _,e=>by simp at e;subst e;exact⟨_,rfl,r⟩
 |_,_,i+1,d,.cons _ t,e=>by
  let⟨u,h1,h2⟩:=cV.get (i:=i) (d:=d) t (by simpa using e);exact⟨u,by simpa using h1,h2⟩
def cV.FQ:∀{ds:List D}{vs:List V}{i:Nat}{v:V},cV K H ds vs->vs[i]?=aj v->∃d,ds[i]?=aj d/\RD K H d v
 |_,_,_,_,.nil,e=>by simp at e
 |_,_,0,_,.cons r _,e=>by simp at e;subst e;exact⟨_,rfl,r⟩
 |_,_,i+1,d,.cons _ t,e=>by
  let⟨u,h1,h2⟩:=cV.FQ (i:=i) (v:=d) t (by simpa using e);exact⟨u,by simpa using h1,h2⟩
def cV.drop:∀{ds:List D}{vs:List V}(n:Nat),cV K H ds vs->cV K H (ds.drop n) (vs.drop n)
 |_,_,0,r=>r
 |_,_,_+1,.nil=>.nil
 |_,_,n+1,.cons _ t=>cV.drop n t
def cV.take:∀{ds:List D}{vs:List V}(n:Nat),cV K H ds vs->cV K H (ds.take n) (vs.take n)
 |_,_,0,_=>.nil
 |_,_,_+1,.nil=>.nil
 |_,_,n+1,.cons r t=>.cons r (cV.take n t)
def cV.ints(ns:List Int):cV K H (ns.map D.int) (ns.map V.int):=by
 induction ns with
 |nil=>exact .nil
 |cons n r ih=>exact .cons (.int n) ih
def cV.CM(r:cV K H ds vs):vs=[]↔ds=[]:=by
 cases r<;>simp
end
@[simp]def DK:=Key ⊕ List Key
inductive GO where
 |lst (ds:List D)|fo (ds:List D)|cR (t:Bool) (kvs:List (DK×D))|ins (C:bw) (fs:List (Str×D))|ir (C:bw)|bX (o:Obj) (t:Bool) (kvs:List (DK×D))|du (ds:List D)|BD (kvs:List (NK×Int))|zl (o:Obj) (kvs:List (NK×Int))
@[simp]def Gp:=Addr->Option GO
abbrev aF(G:Gp)(a:bw)(o:GO):Gp:=λb=>if b=a then aj o else G b
def aC{a:bw}{o:GO}:aF G a o a=aj o:=by unfold aF;rw[if_pos rfl]
def aH{a b:bw}{o:GO}(h:b≠a):aF G a o b=G b:=by unfold aF;rw[if_neg h]
def eG{a b:bw}{o:GO}(h:G b=aj u)(n:G a=au):aF G a o b=aj u:=by
 rw[aH];exact h;intro e;subst e;rw[h]at n;cases n
abbrev Le(G G':Gp):Prop:=∀a o,G a=aj o->G' a=aj o
def Le.refl(G:Gp):Le G G:=λ_ _ h=>h
def Le.trans(a:Le G G1)(b:Le G1 G2):Le G G2:=λc o h=>b c o (a c o h)
def Le.new{a:bw}{o:GO}(n:G a=au):Le G (aF G a o):=λ_ _ h=>eG h n
abbrev kD:Key->D
 |.inl i=>.int i
 |.inr x=>.str x
abbrev nv:DK->D
 |.inl k=>kD k
 |.inr ks=>.tup (ks.map kD)
inductive b9{α β:Type}(P:α->β->Prop):List α->List β->Prop where
 |nil:b9 P [] []
 |cons {a:α} {b:β} {as:List α} {bs:List β}:P a b->b9 P as bs->b9 P (a::as) (b::bs)
def b9.imp{α β:Type}{P Q:α->β->Prop}(f:∀a b,P a b->Q a b):∀{as:List α}{bs:List β},b9 P as bs->b9 Q as bs
 |_,_,.nil=>.nil
 |_,_,.cons h r=>.cons (f _ _ h) (b9.imp f r)
def b9.length{α β:Type}{P:α->β->Prop}:∀{as:List α}{bs:List β},b9 P as bs->as.length=bs.length
 |_,_,.nil=>rfl
 |_,_,.cons _ r=>congrArg (·+1) (b9.length r)
abbrev oi(C a:bw)(h:jw):Prop:=∃o vs,h.get? a=aj o/\o.cls=.ref C/\o.data=.fields vs
abbrev Nd(k:NK):D:=.tup [.tup (k.1.map D.int),.int k.2]
abbrev aTU(P:jr)(w:je)(a:bw)(xs:List (NK×bw×bh))(h:jw):Prop:=(a==um)=ao/\∃o es ep,h.get? a=aj o/\o.ExactDict/\o.data=.dict es ep/\es.toList=xs.map (entryOfKey (aIN P w))/\(xs.map (·.1)).Nodup
abbrev aTV(K:Fg)(H:Hp)(p:NK×Int)(x:NK×bw×bh):Prop:=x.1=p.1/\RD K H (Nd p.1) (.ref x.2.1)/\∃t,x.2.2=bh.int p.2 t
abbrev yl(K:Fg)(H:Hp)(a:bw)(kvs:List (NK×Int))(o:HO):Prop:=(kvs=[]/\o=.dT [])∨∃(P:jr)(w:je)(xs:List (NK×bw×bh)),o=.ext (aTU P w a xs)/\Paired (aTV K H) kvs xs
def yl.imp{K:Fg}{a:bw}{o:HO}(h:yl K H a kvs o)(f:∀d v,RD K H d v->RD K H' d v):yl K H' a kvs o:=Or.imp id (λ⟨P,w,xs,e,r⟩=>⟨P,w,xs,e,Paired.FU r λ_ _ z=>⟨z.1,f _ _ z.2.1,z.2.2⟩⟩) h
def yl.no{K:Fg}{a:bw}{o:HO}(h:yl K H a kvs o):(∀xs,o≠.tup xs)/\(∀ob w,o≠.jX ob w)/\(∀ps,o≠.ij ps)/\∀x,o≠.own x:=by
 rcases h with⟨_,rfl⟩|⟨P,w,xs,rfl,_⟩<;>exact⟨(λ_ z=>nomatch z),(λ_ _ z=>nomatch z),(λ_ z=>nomatch z),(λ_ z=>nomatch z)⟩
abbrev OR(K:Fg)(H:Hp)(a:bw):GO->Prop
 |.lst ds=>∃xs,H a=aj (.lst xs)/\cV K H ds xs
 |.fo ds=>∃xs,cE K H a xs/\cV K H ds xs
 |.cR t kvs=>(t=ao/\∃xs:List (Key×V),H a=aj (.dK xs)/\b9 (λp q=>p.1=.inl q.1/\RD K H p.2 q.2) kvs xs) ∨
   (t=ak/\∃xs:List (List Key×V),H a=aj (.dT xs)/\b9 (λp q=>p.1=.inr q.1/\RD K H p.2 q.2) kvs xs)
 |.ins C fs=>∃(dx:bw)(vs:List (Str×V)),H a=aj (.ins C dx vs)/\b9 (λp q=>p.1=q.1/\RD K H p.2 q.2) fs vs
 |.bX o t kvs=>(t=ao/\∃xs:List (Key×V),H a=aj (.jX o (.dK xs))/\b9 (λp q=>p.1=.inl q.1/\RD K H p.2 q.2) kvs xs) ∨
   (t=ak/\∃xs:List (List Key×V),H a=aj (.jX o (.dT xs))/\b9 (λp q=>p.1=.inr q.1/\RD K H p.2 q.2) kvs xs)
 |.du ds=>∃xs,bz K H a xs/\cV K H ds xs
 |.BD kvs=>∃o,H a=aj o/\yl K H a kvs o
 |.zl ob kvs=>∃o,H a=aj (.jX ob o)/\yl K H a kvs o
 |.ir C=>∃o vs,H a=aj (.jX o (.ext (oi C a)))/\o.data=.fields vs/\vs[2]?=aj .none
abbrev HR(K:Fg)(H:Hp)(G:Gp):Prop:=∀a o,G a=aj o->OR K H a o
def OR.keep{K:Fg}{a:bw}{o:GO}(t:Ts H H')(h:OR K H a o)(k:∀u,H a=aj u->H' a=aj u):OR K H' a o:=by
 cases o with
 |lst ds=>let⟨xs,e,r⟩:=h;exact⟨xs,k _ e,r.mono t⟩
 |fo ds =>
  let⟨xs,e,r⟩:=h;refine⟨xs,?_,r.mono t⟩;rcases e with(e|⟨o,e⟩)|e
  .exact .inl (.inl (k _ e))
  .exact .inl (.inr ⟨o,k _ e⟩)
  .exact .inr e
 |cR b kvs =>
  rcases h with⟨z,xs,e,r⟩|⟨z,xs,e,r⟩
  .exact .inl ⟨z,xs,k _ e,r.imp λ_ _ q=>⟨q.1,q.2.mono t⟩⟩
  .exact .inr ⟨z,xs,k _ e,r.imp λ_ _ q=>⟨q.1,q.2.mono t⟩⟩
 |ins C fs=>let⟨dx,vs,e,r⟩:=h;exact⟨dx,vs,k _ e,r.imp λ_ _ q=>⟨q.1,q.2.mono t⟩⟩
 |bX ob b kvs =>
  rcases h with⟨z,xs,e,r⟩|⟨z,xs,e,r⟩
  .exact .inl ⟨z,xs,k _ e,r.imp λ_ _ q=>⟨q.1,q.2.mono t⟩⟩
  .exact .inr ⟨z,xs,k _ e,r.imp λ_ _ q=>⟨q.1,q.2.mono t⟩⟩
 |ir C=>let⟨o,vs,e,r⟩:=h;exact⟨o,vs,k _ e,r⟩
 |du ds=>let⟨xs,e,r⟩:=h;exact⟨xs,t.zk e,r.mono t⟩
 |BD kvs=>let⟨o,e,r⟩:=h;exact⟨o,k _ e,r.imp λ_ _ z=>z.mono t⟩
 |zl ob kvs=>let⟨o,e,r⟩:=h;exact⟨o,k _ e,r.imp λ_ _ z=>z.mono t⟩
def HR.same{K:Fg}(h:HR K H G)(s:a9 H H'):HR K H' G:=λa o e=>(h a o e).keep (.same s) λu q=>s a u q
def HR.le{K:Fg}(h:HR K H G')(l:Le G G'):HR K H G:=λa o e=>h a o (l a o e)
def HR.put{K:Fg}{o:HO}(h:HR K H G)(n:H p=au)(new:OR K (upd H p o) p u):HR K (upd H p o) (aF G p u):=λa v e=>by
 by_cases q:a=p
 .subst q;rw[aC]at e;cases e;exact new
 .rw[aH q]at e;exact(h a v e).keep (.same (c7 n)) λw z=>c7 n a w z
def HR.turn{K:Fg}{o:HO}(h:HR K H G)(t:Ts H (upd H p o))(new:OR K (upd H p o) p u):HR K (upd H p o) (aF G p u):=λa v e=>by
 by_cases q:a=p
 .subst q;rw[aC]at e;cases e;exact new
 .rw[aH q]at e;exact(h a v e).keep t λw z=>by rw[aY q];exact z
def Ts.turn{o:HO}(e:H p=aj u)(h1:∀xs,u≠.tup xs)(h2:∀ob w,u≠.jX ob w):Ts H (upd H p o):=by
 refine⟨λa xs q=>?_,λa ob w q=>?_⟩
 .rw[aY];exact q;intro z;subst z;rw[e]at q;exact h1 xs (jk.inj q)
 .rw[aY];exact q;intro z;subst z;rw[e]at q;exact h2 ob w (jk.inj q)
@[simp]def bZ:=List (Option D)
@[simp]def lG:=D->Gp->Prop
@[simp]def bN:=bZ->Gp->lG->Prop
@[simp]def cb:=bZ->Gp->(Bool->Gp->Prop)->Prop
@[simp]def rZ:=bZ->Gp->(List D->Gp->Prop)->Prop
abbrev pe:bZ->Nat->Option D
 |[],_=>au
 |x::_,0=>x
 |_::r,n+1=>pe r n
abbrev iO:bZ->Nat->D->bZ
 |[],_,_=>[]
 |_::r,0,d=>aj d::r
 |x::r,n+1,d=>x::iO r n d
inductive SR(K:Fg)(H:Hp):bZ->St->Prop where
 |nil:SR K H [] []
 |none {ρ:bZ} {σ:St} {v:Option V}:SR K H ρ σ->SR K H (Ba::ρ) (v::σ)
 |some {ρ:bZ} {σ:St} {d:D} {v:V}:RD K H d v->SR K H ρ σ->SR K H (jk d::ρ) (jk v::σ)
def SR.mono{K:Fg}(t:Ts H H'):∀{ρ:bZ}{σ:St},SR K H ρ σ->SR K H' ρ σ
 |_,_,.nil=>.nil
 |_,_,.none r=>.none (SR.mono t r)
 |_,_,.some h r=>.some (h.mono t) (SR.mono t r)
def SR.get{K:Fg}:∀{ρ:bZ}{σ:St}{i:Nat}{d:D},SR K H ρ σ->pe ρ i=jk d->∃v,σ[i]?=jk (jk v)/\RD K H d v
 |_,_,_,_,.nil,e=>by simp[pe]at e
 |_,_,0,_,.none _,e=>by simp[pe]at e
 |_,_,0,_,.some h _,e=>by simp[pe]at e;subst e;exact⟨_,rfl,h⟩
 |_,_,i+1,_,.none r,e=>by
  let⟨v,h1,h2⟩:=SR.get (i:=i) r (by simpa[pe]using e);exact⟨v,by simpa using h1,h2⟩
 |_,_,i+1,_,.some _ r,e=>by
  let⟨v,h1,h2⟩:=SR.get (i:=i) r (by simpa[pe]using e);exact⟨v,by simpa using h1,h2⟩
def SR.set{K:Fg}{d:D}{v:V}(q:RD K H d v):∀{ρ:bZ}{σ:St}(i:Nat),SR K H ρ σ->SR K H (iO ρ i d) (σ.set i (jk v))
 |_,_,_,.nil=>.nil
 |_,_,0,.none r=>.some q r
 |_,_,0,.some _ r=>.some q r
 |_,_,i+1,.none r=>.none (SR.set q i r)
 |_,_,i+1,.some h r=>.some h (SR.set q i r)
abbrev Fh(n:Nat)(ds:List D):bZ:=ds.map jk++x5 (n - ds.length) Ba
def SR.uC{K:Fg}:∀n:Nat,SR K H (x5 n Ba) (x5 n Ba)
 |0=>.nil
 |n+1=>.none (SR.uC n)
def SR.entry{K:Fg}{k:Nat}:∀{ds:List D}{vs:List V},cV K H ds vs->SR K H (ds.map jk++x5 k Ba) (vs.map jk++x5 k Ba)
 |_,_,.nil=>SR.uC k
 |_,_,.cons h r=>.some h (SR.entry r)
abbrev ie(K:Fg)(t:bN):TE:=λσ H Q=>∃ρ G R,SR K H ρ σ/\HR K H G/\t ρ G R/\∀v H' d G',Ts H H'->RD K H' d v->HR K H' G'->R d G'->Q v H'
abbrev mn(K:Fg)(t:cb):TT:=λσ H Q=>∃ρ G R,SR K H ρ σ/\HR K H G/\t ρ G R/\∀b H' G',Ts H H'->HR K H' G'->R b G'->Q b H'
abbrev Vy(K:Fg)(t:rZ):TA:=λσ H Q=>∃ρ G R,SR K H ρ σ/\HR K H G/\t ρ G R/\∀vs H' ds G',Ts H H'->cV K H' ds vs->HR K H' G'->R ds G'->Q vs H'
@[simp]def cQ(X:Cx)(e:gV)(t:bN):Prop:=PE X e (ie X.K t)
@[simp]def j3(X:Cx)(e:gV)(t:cb):Prop:=PT X e (mn X.K t)
@[simp]def t6(X:Cx)(e:gV)(t:cb):Prop:=PW X e (mn X.K t)
@[simp]def dS(X:Cx)(es:List gV)(t:rZ):Prop:=PA X es (Vy X.K t)
structure eN where
 nx:bZ->Gp->Prop
 rt:lG
 bk:bZ->Gp->Prop:=λ_ _=>False
 ct:bZ->Gp->Prop:=λ_ _=>False
@[simp]def oX:=eN->bZ->Gp->Prop
structure Vf(K:Fg)(E:eN)(F:Ends):Prop where
 nx:∀ρ G σ H',SR K H' ρ σ->HR K H' G->E.nx ρ G->F.nx σ H'
 rt:∀d G v H',RD K H' d v->HR K H' G->E.rt d G->F.rt v H'
 bk:∀ρ G σ H',SR K H' ρ σ->HR K H' G->E.bk ρ G->F.bk σ H'
 ct:∀ρ G σ H',SR K H' ρ σ->HR K H' G->E.ct ρ G->F.ct σ H'
abbrev Bu(K:Fg)(t:oX):TS:=λF σ H=>∃ρ G E,SR K H ρ σ/\HR K H G/\t E ρ G/\Vf K E F
@[simp]def fk(X:Cx)(st:jq)(t:oX):Prop:=PS X st (Bu X.K t)
@[simp]def iN(X:Cx)(st:List jq)(t:oX):Prop:=ic X st (Bu X.K t)
section
variable{X:Cx}
def PE.imp{t:TE}(h:PE X e t)(k:∀σ H Q,t' σ H Q->t σ H Q):PE X e t':=λψ s σ H Q I q=>h ψ s σ H Q I (k _ _ _ q)
def PT.imp{t:TT}(h:PT X e t)(k:∀σ H Q,t' σ H Q->t σ H Q):PT X e t':=λψ s σ H Q I q=>h ψ s σ H Q I (k _ _ _ q)
def PW.imp{t:TT}(h:PW X e t)(k:∀σ H Q,t' σ H Q->t σ H Q):PW X e t':=λwh ψ s σ H Q I q=>h wh ψ s σ H Q I (k _ _ _ q)
def PA.imp{t:TA}(h:PA X e t)(k:∀σ H Q,t' σ H Q->t σ H Q):PA X e t':=λp ψ s σ H Q I q=>h p ψ s σ H Q I (k _ _ _ q)
def PS.imp{t:TS}(h:PS X e t)(k:∀F σ H,t' F σ H->t F σ H):PS X e t':=λψ s σ H F I q=>h ψ s σ H F I (k _ _ _ q)
abbrev KF(K:Fg)(H:Hp):Prop:=∀b o,K.lookup b=aj o->H b=au
def og(I:Inv X ψ σ H s):KF X.K H:=λb o e=>(I.bs b o (I.ok.mod.m4 b o e)).2
def PE.kf{t:TE}(h:PE X e t):PE X e (λσ H Q=>t σ H λv H'=>KF X.K H'->Q v H'):=λψ s σ H Q I q =>
 dZ (h ψ s σ H _ I q) λ_ _ ⟨v,H',I',r,q'⟩=>⟨v,H',I',r,q' (og I')⟩
def ic.imp{t:TS}(h:ic X e t)(k:∀F σ H,t' F σ H->t F σ H):ic X e t':=λψ s σ H F I q=>h ψ s σ H F I (k _ _ _ q)
end
def rC{K:Fg}{o:HO}(g:HR K H G)(n:H p=au)(k:KF K (upd H p o)):G p=au:=by
 have kn:K.lookup p=au:=by
  cases q:K.lookup p with
  |none=>rfl
  |some u=>have:=k p u q;rw[aL]at this;cases this
 cases q:G p with
 |none=>rfl
 |some u =>
  have z:=g p u q;cases u with
  |lst ds=>let⟨xs,e,_⟩:=z;rw[n]at e;cases e
  |fo ds =>
   let⟨xs,e,_⟩:=z;rcases e with(e|⟨o,e⟩)|⟨o,_,_,e,_⟩
   .rw[n]at e;cases e
   .rw[n]at e;cases e
   .rw[kn]at e;cases e
  |cR tt kvs =>
   rcases z with⟨_,xs,e,_⟩|⟨_,xs,e,_⟩
   .rw[n]at e;cases e
   .rw[n]at e;cases e
  |bX ob tt kvs =>
   rcases z with⟨_,xs,e,_⟩|⟨_,xs,e,_⟩
   .rw[n]at e;cases e
   .rw[n]at e;cases e
  |ins C fs=>let⟨dx,vs,e,_⟩:=z;rw[n]at e;cases e
  |ir C=>let⟨o,vs,e,_⟩:=z;rw[n]at e;cases e
  |BD kvs=>let⟨_,e,_⟩:=z;rw[n]at e;cases e
  |zl ob kvs=>let⟨_,e,_⟩:=z;rw[n]at e;cases e
  |du ds =>
   let⟨xs,e,_⟩:=z;rcases e with(e|⟨o,e⟩)|⟨o,_,_,e,_⟩
   .rw[n]at e;cases e
   .rw[n]at e;cases e
   .rw[kn]at e;cases e
section
variable{X:Cx}{a b c:gV}{ta tb tc:bN}{pos:Pos}
abbrev cO(i:Nat):bN:=λρ G R=>match pe ρ i with
 |some d=>R d G
 |none=>False
abbrev iM(d:D):bN:=λ_ G R=>R d G
private theorem aIP{K:Fg}{i:Nat}{Q:VK}(h:ie K (cO i) σ H Q):SU i σ H Q:=by
 let⟨ρ,G,R,s,g,t,k⟩:=h;unfold cO at t;split at t
 .rename_i d e;let⟨v,h1,h2⟩:=s.get e;exact⟨v,h1,k v H d G (.refl H) h2 g t⟩
 .exact t.elim
def AA{K:Fg}{d:D}(r:∀H,RD K H d v){Q:VK}(h:ie K (iM d) σ H Q):tC v σ H Q:=by
 let⟨ρ,G,R,s,g,t,k⟩:=h;exact k v H d G (.refl H) (r H) g t
def aON(i:Nat){x:Str}{pos:Pos}(hN:X.N[i]?=aj x:=by rfl)(hv:yi X.env.scope x:=by first|exact Or.inl rfl|exact Or.inr (Or.inl rfl)|exact Or.inr (Or.inr rfl))(hd:(x==("__debug__":Str))=ao:=by decide)
  (fq:(x==("__classdict__":Str))=ao:=by decide):cQ X (.Name x pos) (cO i):=PE.imp (aHD hN hv hd fq) λ_ _ _ h=>aIP h
def aOO{i j pos}:cQ X (.Constant (.int i) j pos) (iM (.int i)):=PE.imp aHE λ_ _ _ h=>AA (λ_=>.int i) h
def aTW{b j pos}:cQ X (.Constant (.bool b) j pos) (iM (.bl b)):=PE.imp aNO λ_ _ _ h=>AA (λ_=>.bl b) h
def aOP{j pos}:cQ X (.Constant .none j pos) (iM .ag):=PE.imp aHF λ_ _ _ h=>AA (λ_=>.ag) h
def aOQ{x j pos}:cQ X (.Constant (.str x) j pos) (iM (.str x)):=PE.imp aHG λ_ _ _ h=>AA (λ_=>.str x) h
def OP{x:Str}{d:D}{pos:Pos}(hg:Gl X x)(hm:X.mg x=aj u)(r:RelV v u)(rd:∀H,RD X.K H d v)(hd:(x==("__debug__":Str))=ao:=by decide):cQ X (.Name x pos) (iM d) :=
 PE.imp (aBF hg hm r hd) λ_ _ _ h=>AA rd h
def aIQ{x:Str}{n:String}{pos:Pos}(hg:Gl X x)(hm:X.mg x=au)(hv:mz x=aj (.type n))(hn:x≠"__name__":=by decide)(hd:(x==("__debug__":Str))=ao:=by decide):cQ X (.Name x pos) (iM (.ty n)) :=
 PE.imp (aBG hg hm hv (v:=.ty n) rfl hn hd) λ_ _ _ h=>AA (λ_=>.ty n) h
@[simp]def R3:=D->D->Gp->lG->Prop
abbrev Vh(K:Fg)(r:R2)(r3:R3):Prop:=∀(H:Hp)(x y:D)(vx vy:V)(G:Gp)(R:lG)(Q:VK),RD K H x vx->RD K H y vy->HR K H G->r3 x y G R->(∀v H' d G',Ts H H'->RD K H' d v->HR K H' G'->R d G'->Q v H')->r vx vy H λv H'=>KF K H'->Q v H'
abbrev lI(X:Cx)(f:bh->bh->Sem bh)(r3:R3):Prop:=∃r,yW X f r/\Vh X.K r r3
abbrev GR(K:Fg)(r:R2)(r3:R3):Prop:=∀(H:Hp)(x y:D)(vx vy:V)(G:Gp)(R:lG)(Q:VK),RD K H x vx->RD K H y vy->HR K H G->r3 x y G R->(∀v H' d G',Ts H H'->RD K H' d v->HR K H' G'->R d G'->Q v H')->r vx vy H Q
abbrev fS(X:Cx)(f:bh->bh->Sem bh)(r3:R3):Prop:=∃r,yW X f r/\GR X.K r r3
abbrev aP(r:R3)(ta tb:bN):bN:=λρ G R=>ta ρ G λx G1=>tb ρ G1 λy G2=>r x y G2 R
variable{r3:R3}
def aOR{K:Fg}(o:Vh K r r3){Q:VK}(h:ie K (aP r3 ta tb) σ H Q):zh r (ie K ta) (ie K tb) σ H λv H'=>KF K H'->Q v H':=by
 let⟨ρ,G,R,s,g,t,k⟩:=h;refine⟨ρ,G,_,s,g,t,λvx H1 x G1 t1 rx g1 t'=>?_⟩;refine⟨ρ,G1,_,s.mono t1,g1,t',λvy H2 y G2 t2 ry g2 eP=>?_⟩;exact o H2 x y vx vy G2 R Q (rx.mono t2) ry g2 eP λv H' d G' t3=>k v H' d G' ((t1.trans t2).trans t3)
def Jr{K:Fg}(o:GR K r r3){Q:VK}(h:ie K (aP r3 ta tb) σ H Q):zh r (ie K ta) (ie K tb) σ H Q:=by
 let⟨ρ,G,R,s,g,t,k⟩:=h;refine⟨ρ,G,_,s,g,t,λvx H1 x G1 t1 rx g1 t'=>?_⟩;refine⟨ρ,G1,_,s.mono t1,g1,t',λvy H2 y G2 t2 ry g2 eP=>?_⟩;exact o H2 x y vx vy G2 R Q (rx.mono t2) ry g2 eP λv H' d G' t3=>k v H' d G' ((t1.trans t2).trans t3)
def aTX(o:lI X (vq op) r3)(ha:cQ X a ta)(hb:cQ X b tb):cQ X (.BinOp a op b pos) (aP r3 ta tb):=by
 let⟨r,o1,o2⟩:=o;exact PE.imp (PE.kf (aO1 o1 ha hb)) λ_ _ _ h=>aOR o2 h
def aOS(o:fS X (ou op) r3)(ha:cQ X a ta)(hb:cQ X b tb)(hm:Bi op b=ao):cQ X (.Compare a [op] [b] pos) (aP r3 ta tb):=by
 let⟨r,o1,o2⟩:=o;exact PE.imp (aBS o1 ha hb hm) λ_ _ _ h=>Jr o2 h
abbrev aQ(t:bN):cb:=λρ G R=>t ρ G λx G1=>match x with
 |.bl k=>R k G1
 |_=>False
def JO{K:Fg}{t:TE}{t3:bN}(f:∀σ H Q,ie K t3 σ H Q->t σ H Q)(h:mn K (aQ t3) σ H Q):IV t σ H Q:=by
 let⟨ρ,G,R,s,g,u,k⟩:=h;refine f _ _ _ ⟨ρ,G,_,s,g,u,λv H' d G' t1 r g1 q=>?_⟩;cases r with
 |bl b=>exact⟨b,rfl,k b H' G' t1 g1 q⟩
 |_=>exact q.elim
def aOT(o:fS X (ou op) r3)(ha:cQ X a ta)(hb:cQ X b tb)(hm:Bi op b=ao):j3 X (.Compare a [op] [b] pos) (aQ (aP r3 ta tb)):=by
 let⟨r,o1,o2⟩:=o;exact PT.imp (aBT o1 ha hb hm) λ_ _ _ h=>JO (λ_ _ _=>Jr o2) h
def aOU{e:gV}{t:bN}(h:cQ X e t)(he:∀whole,isTrue e X.env whole=(do let v ←whole;standAt e.pos;holding [v] (truthy v)):=by intro _;rfl):j3 X e (aQ t) :=
 PT.imp (aHH h he) λ_ _ _ h=>JO (λ_ _ _ q=>q) h
abbrev pY(r r':R3)(ta tb tc:bN):bN:=λρ G R=>ta ρ G λx G1=>tb ρ G1 λy G2=>r x y G2 λz G3=>match z with
 |.bl ak=>tc ρ G3 λw G4=>r' y w G4 R
 |.bl ao=>R (.bl ao) G3
 |_=>False
variable{zr:R3}
def Q5{K:Fg}(o:GR K r r3)(o':GR K r' zr){Q:VK}(h:ie K (pY r3 zr ta tb tc) σ H Q):Jt r r' (ie K ta) (ie K tb) (ie K tc) σ H Q:=by
 let⟨ρ,G,R,s,g,t,k⟩:=h;refine⟨ρ,G,_,s,g,t,λvx H1 x G1 t1 rx g1 t'=>?_⟩;refine⟨ρ,G1,_,s.mono t1,g1,t',λvy H2 y G2 t2 ry g2 eP=>?_⟩;refine o H2 x y vx vy G2 _ _ (rx.mono t2) ry g2 eP λv H3 d G3 t3 rd g3 q=>?_;cases rd with
 |bl b =>
  refine⟨b,rfl,?_⟩;cases b with
  |true =>
   rw[if_pos rfl];refine⟨ρ,G3,_,s.mono ((t1.trans t2).trans t3),g3,q,λvw H4 w G4 t4 fI g4 q'=>?_⟩;exact o' H4 y w vy vw G4 R Q (ry.mono (t3.trans t4)) fI g4 q' λv H' d G' t5=>k v H' d G' (((t1.trans t2).trans t3).trans (t4.trans t5))
  |false =>
   rw[if_neg oh];exact k _ H3 _ G3 ((t1.trans t2).trans t3) (.bl ao) g3 q
 |_=>exact q.elim
def aCE(o:fS X (ou op) r3)(o':fS X (ou k9) zr)(ha:cQ X a ta)(hb:cQ X b tb)(hc:cQ X c tc)
  (hm:lastMarks [op,k9] [b,c]=ao:=by with_unfolding_all rfl):cQ X (.Compare a [op,k9] [b,c] pos) (pY r3 zr ta tb tc):=by
 let⟨r,o1,o2⟩:=o;let⟨r',HE,HD⟩:=o';exact PE.imp (Yg o1 HE ha hb hc hm) λ_ _ _ h=>Q5 o2 HD h
def aCF(o:fS X (ou op) r3)(o':fS X (ou k9) zr)(ha:cQ X a ta)(hb:cQ X b tb)(hc:cQ X c tc)
  (hm:lastMarks [op,k9] [b,c]=ao:=by with_unfolding_all rfl):j3 X (.Compare a [op,k9] [b,c] pos) (aQ (pY r3 zr ta tb tc)):=by
 let⟨r,o1,o2⟩:=o;let⟨r',HE,HD⟩:=o';exact PT.imp (Ye o1 HE ha hb hc hm) λ_ _ _ h=>JO (λ_ _ _=>Q5 o2 HD) h
variable{sa sb:cb}{rest:List gV}
abbrev AR(t u:cb):cb:=λρ G R=>t ρ G λc G1=>if c=ak then u ρ G1 R else R ao G1
abbrev gL(t u:cb):cb:=λρ G R=>t ρ G λc G1=>if c=ak then R ak G1 else u ρ G1 R
abbrev nU(t:cb):cb:=λρ G R=>t ρ G λc G1=>R (!c) G1
def aIR{K:Fg}(h:mn K (AR sa sb) σ H Q):SS (mn K sa) (mn K sb) σ H Q:=by
 let⟨ρ,G,R,s,g,t,k⟩:=h;refine⟨ρ,G,_,s,g,t,λc H1 G1 t1 g1 q=>?_⟩;cases c with
 |true=>exact⟨ρ,G1,R,s.mono t1,g1,q,λb H' G' t2=>k b H' G' (t1.trans t2)⟩
 |false=>exact k ao H1 G1 t1 g1 q
def aOV{K:Fg}(h:mn K (gL sa sb) σ H Q):MT (mn K sa) (mn K sb) σ H Q:=by
 let⟨ρ,G,R,s,g,t,k⟩:=h;refine⟨ρ,G,_,s,g,t,λc H1 G1 t1 g1 q=>?_⟩;cases c with
 |false=>exact⟨ρ,G1,R,s.mono t1,g1,q,λb H' G' t2=>k b H' G' (t1.trans t2)⟩
 |true=>exact k ak H1 G1 t1 g1 q
def aIS(ha:j3 X a sa):t6 X (.BoolOp .And [a] pos) sa:=aBH ha
def aOW(ha:j3 X a sa):t6 X (.BoolOp .Or [a] pos) sa:=aHI ha
def aOX(ha:j3 X a sa)(hb:t6 X (.BoolOp .And (b::rest) pos) sb):t6 X (.BoolOp .And (a::b::rest) pos) (AR sa sb):=PW.imp (aHJ ha hb) λ_ _ _ h=>aIR h
def aTY(ha:j3 X a sa)(hb:t6 X (.BoolOp .Or (b::rest) pos) sb):t6 X (.BoolOp .Or (a::b::rest) pos) (gL sa sb):=PW.imp (aNQ ha hb) λ_ _ _ h=>aOV h
def aOY(ha:j3 X a sa):j3 X (.UnaryOp .Not a pos) (nU sa):=PT.imp (aHK ha) λσ H Q h=>by
 let⟨ρ,G,R,s,g,t,k⟩:=h;exact⟨ρ,G,_,s,g,t,λc H1 G1 t1 g1 q=>k (!c) H1 G1 t1 g1 q⟩
abbrev wD(ta tb:bN):bN:=λρ G R=>ta ρ G λx G1=>match x with
 |.bl ak=>tb ρ G1 R
 |.bl ao=>R (.bl ao) G1
 |_=>False
abbrev Ck(ta tb:bN):bN:=λρ G R=>ta ρ G λx G1=>match x with
 |.bl ak=>R (.bl ak) G1
 |.bl ao=>tb ρ G1 R
 |_=>False
abbrev Cz(ta:bN):bN:=λρ G R=>ta ρ G λx G1=>match x with
 |.bl c=>R (.bl (!c)) G1
 |_=>False
def Tu{op}(h:cQ X a ta):cQ X (.BoolOp op [a] pos) ta:=aHL h
def aOZ(ha:cQ X a ta)(hb:cQ X (.BoolOp .And (b::rest) pos) tb):cQ X (.BoolOp .And (a::b::rest) pos) (wD ta tb):=PE.imp (aHM ha hb) λσ H Q h=>by
 let⟨ρ,G,R,s,g,t,k⟩:=h;refine⟨ρ,G,_,s,g,t,λv H1 x G1 t1 r g1 q=>?_⟩;cases r with
 |bl c =>
  refine⟨c,rfl,?_⟩;cases c with
  |true=>exact⟨ρ,G1,R,s.mono t1,g1,q,λb H' d G' t2=>k b H' d G' (t1.trans t2)⟩
  |false=>exact k _ H1 _ G1 t1 (.bl ao) g1 q
 |_=>exact q.elim
def aTZ(ha:cQ X a ta)(hb:cQ X (.BoolOp .Or (b::rest) pos) tb):cQ X (.BoolOp .Or (a::b::rest) pos) (Ck ta tb):=PE.imp (aNT ha hb) λσ H Q h=>by
 let⟨ρ,G,R,s,g,t,k⟩:=h;refine⟨ρ,G,_,s,g,t,λv H1 x G1 t1 r g1 q=>?_⟩;cases r with
 |bl c =>
  refine⟨c,rfl,?_⟩;cases c with
  |false=>exact⟨ρ,G1,R,s.mono t1,g1,q,λb H' d G' t2=>k b H' d G' (t1.trans t2)⟩
  |true=>exact k _ H1 _ G1 t1 (.bl ak) g1 q
 |_=>exact q.elim
def aP0(ha:cQ X a ta):cQ X (.UnaryOp .Not a pos) (Cz ta):=PE.imp (aHN ha) λσ H Q h=>by
 let⟨ρ,G,R,s,g,t,k⟩:=h;refine⟨ρ,G,_,s,g,t,λv H1 x G1 t1 r g1 q=>?_⟩;cases r with
 |bl c=>exact⟨c,rfl,k _ H1 _ G1 t1 (.bl _) g1 q⟩
 |_=>exact q.elim
end
section
variable{X:Cx}{t:rZ}{pos:Pos}
abbrev dD:rZ:=λ_ G R=>R [] G
abbrev aZ(ta:bN)(tr:rZ):rZ:=λρ G R=>ta ρ G λx G1=>tr ρ G1 λxs G2=>R (x::xs) G2
def Cj:dS X [] dD:=PA.imp aI6 λσ H Q h=>by
 let⟨ρ,G,R,s,g,t,k⟩:=h;exact k [] H [] G (.refl H) .nil g t
def tL(ha:cQ X e te)(hr:dS X es t)(hs:iz (e::es) X.env=(ao,eval e X.env)::iz es X.env:=by rfl):dS X (e::es) (aZ te t):=PA.imp (aBW ha hr hs) λσ H Q h=>by
 let⟨ρ,G,R,s,g,t,k⟩:=h;refine⟨ρ,G,_,s,g,t,λv H1 x G1 t1 r g1 q=>?_⟩;refine⟨ρ,G1,_,s.mono t1,g1,q,λvs H2 xs G2 t2 rs g2 q'=>?_⟩;exact k (v::vs) H2 (x::xs) G2 (t1.trans t2) (.cons (r.mono t2) rs) g2 q'
abbrev lR(t:rZ):bN:=λρ G R=>t ρ G λxs G1=>xs.length<=dj/\R (.tup xs) G1
abbrev n9(t:rZ):bN:=λρ G R=>t ρ G λxs G1=>xs.length<=dj/\∀p,G1 p=au->R (.ref p) (aF G1 p (.lst xs))
def aP1{x1}(h:dS X es t):cQ X (.Tuple es x1 pos) (lR t):=PE.imp (aI7 h) λσ H Q h=>by
 let⟨ρ,G,R,s,g,t,k⟩:=h;refine⟨ρ,G,_,s,g,t,λvs H1 xs G1 t1 r g1 q=>?_⟩;refine⟨by rw[←r.length];exact q.1,λp hp=>?_⟩;have sn:a9 H1 (upd H1 p (.tup vs)):=c7 hp;exact k (.ref p) _ (.tup xs) G1 (t1.trans (.same sn)) (.tup (bz.of aL) (r.mono (.same sn)) (AB aL)) (g1.same sn) q.2
def aP2(h:dS X es t):cQ X (.List es pos) (n9 t):=PE.imp (PE.kf (aI8 h)) λσ H Q h=>by
 let⟨ρ,G,R,s,g,t,k⟩:=h;refine⟨ρ,G,_,s,g,t,λvs H1 xs G1 t1 r g1 q=>?_⟩;refine⟨by rw[←r.length];exact q.1,λp hp kf=>?_⟩;have sn:a9 H1 (upd H1 p (.lst vs)):=c7 hp;exact k (.ref p) _ (.ref p) _ (t1.trans (.same sn)) (.ref p) (g1.put (u:=.lst xs) hp ⟨vs,aL,r.mono (.same sn)⟩) (q.2 p (rC g1 hp kf))
end
end
section
section
variable{X:Cx}{a b c:gV}{pos:Pos}
abbrev Bw(C:Int->Int->Prop)(g:Int->Int->Int):R3:=λx y G R=>match x,y with
 |.int i,.int j=>C i j/\R (.int (g i j)) G
 |_,_=>False
abbrev SF(g:Int->Int->Int):R3:=λx y G R=>match x,y with
 |.int i,.int j=>R (.int (g i j)) G
 |_,_=>False
abbrev FP(g:Int->Int->Bool):R3:=λx y G R=>match x,y with
 |.int i,.int j=>R (.bl (g i j)) G
 |_,_=>False
def EV{g:Int->Int->Int}(h:yW X f (rI C λi j=>.int (g i j))):lI X f (Bw C g):=by
 refine⟨_,h,λH x y vx vy G R Q rx ry gh h k=>?_⟩;cases rx with
 |int i =>
  cases ry with
  |int j=>exact⟨i,j,rfl,rfl,h.1,λ_=>k _ H _ G (.refl H) (.int _) gh h.2⟩
  |_=>exact False.elim h
 |_=>exact False.elim h
def aIT{g:Int->Int->Int}(h:yW X f (il λi j=>.int (g i j))):lI X f (SF g):=by
 refine⟨_,h,λH x y vx vy G R Q rx ry gh h k=>?_⟩;cases rx with
 |int i =>
  cases ry with
  |int j=>exact⟨i,j,rfl,rfl,λ_=>k _ H _ G (.refl H) (.int _) gh h⟩
  |_=>exact False.elim h
 |_=>exact False.elim h
def Jq{g:Int->Int->Bool}(h:yW X f (il λi j=>.bl (g i j))):fS X f (FP g):=by
 refine⟨_,h,λH x y vx vy G R Q rx ry gh h k=>?_⟩;cases rx with
 |int i =>
  cases ry with
  |int j=>exact⟨i,j,rfl,rfl,k _ H _ G (.refl H) (.bl _) gh h⟩
  |_=>exact False.elim h
 |_=>exact False.elim h
abbrev xo:R3:=SF λi j=>i - j
abbrev p6:R3:=Bw B7 λi j=>i*j
abbrev Cy:R3:=Bw K7 λi j=>i / j
abbrev lU:R3:=Bw (λ_ j=>0<j) λi j=>i%j
abbrev Ci:R3:=Bw K6 λi j=>i^j.toNat
def aP5:lI X (vq .Sub) xo:=aIT aHX
def aP6:lI X (vq .Mult) p6:=EV aHY
def aIU:lI X (vq .FloorDiv) Cy:=EV aBP
def aP7:lI X (vq .Mod) lU:=EV aHZ
def aP8:lI X (vq .Pow) Ci:=EV aI0
abbrev nB:R3:=FP λi j=>decide (i<j)
abbrev B6:R3:=FP λi j=>decide (j<i)
abbrev Az:R3:=FP λi j=>decide (j<=i)
def aU0:fS X (ou .Lt) nB:=Jq aO3
def aU1:fS X (ou .Gt) B6:=Jq aO5
def aU2:fS X (ou .GtE) Az:=Jq aO6
abbrev nz:R3:=λx y G R=>match x,y with
 |.int i,.int j=>R (.bl (decide (i<=j))) G
 |.str i,.str j=>R (.bl (!decide (j.cps.toList<i.cps.toList))) G
 |_,_=>False
def Y8:yW X (ou .LtE) (λx y H Q=>∃i j,x=.str i/\y=.str j/\Q (.bl (!decide (j.cps.toList<i.cps.toList))) H):=by
 intro ψ s σ H x y v u Q I rx ry h;let⟨i,j,rfl,rfl,q⟩:=h;let⟨t,rfl⟩:=rx;let⟨t',rfl⟩:=ry;exact PySem.P.le_str ⟨.bl _,H,I,rfl,q⟩
def aU3:fS X (ou .LtE) nz:=by
 refine⟨_,aO4.or Y8,λH x y vx vy G R Q rx ry gh h k=>?_⟩;cases rx with
 |int i =>
  cases ry with
  |int j=>exact .inl ⟨i,j,rfl,rfl,k _ H _ G (.refl H) (.bl _) gh h⟩
  |_=>exact False.elim h
 |str i =>
  cases ry with
  |str j=>exact .inr ⟨i,j,rfl,rfl,k _ H _ G (.refl H) (.bl _) gh h⟩
  |_=>exact False.elim h
 |_=>exact False.elim h
abbrev fL:R3:=λx y G R=>match x,y with
 |.int i,.int j=>R (.int (i+j)) G
 |.str i,.str j=>i.length+j.length<=dj/\R (.str (i++j)) G
 |.tup xs,.tup ys=>xs.length+ys.length<=dj/\R (.tup (xs++ys)) G
 |.ref l,.ref m=>match G l,G m with
  |some (.lst xs),aj (.lst ys)=>xs.length+ys.length<=dj/\∀p,G p=au->R (.ref p) (aF G p (.lst (xs++ys)))
  |_,_=>False
 |_,_=>False
def X0:yW X (vq .Add) (λx y H Q=>∃a b ys,x=.ref a/\y=.ref b/\bz X.K H a []/\bz X.K H b ys/\Q (.ref b) H):=by
 intro ψ s σ H x y v u Q I rx ry h;let⟨a,b,ys,rfl,rfl,ha,hb,q⟩:=h;cases rx;cases ry;let⟨its,r1,p1,_⟩:=I.tuple ha;let⟨bp,r2,p2,_⟩:=I.tuple hb;cases r1;let⟨⟨cls,dd,data,sl⟩,ho,hc,n,hd⟩:=id p1;let⟨⟨MM,EC,data2,oq⟩,vE,BR,n2,vS⟩:=id p2;simp only at hc hd BR vS;subst hc hd BR vS
 exact concat_meets ⟨_,ho,rfl⟩ ⟨_,vE,rfl⟩ noFill_tuple_add seq_tuple_add PySem.F.slot_tuple_add PySem.F.entry_tuple_add (PySem.F.args_tuple_add_2 _ _)
   (tuple_addW0 a b #[] bp.toArray n n2 dd EC sl oq (by simp)) ⟨ho,vE,⟨.ref b,H,I,rfl,q⟩⟩
private theorem aP9:lI X (vq .Add) fL:=by
 refine⟨_,aHW.or (Y'.or (aC4.or (X0.or aIM))),λH x y vx vy G R Q rx ry gh h k=>?_⟩;cases rx with
 |int i =>
  cases ry with
  |int j=>exact .inl ⟨i,j,rfl,rfl,λ_=>k _ H _ G (.refl H) (.int _) gh h⟩
  |_=>exact False.elim h
 |str i =>
  cases ry with
  |str j=>exact .inr (.inl ⟨i,j,rfl,rfl,h.1,λ_=>k _ H _ G (.refl H) (.str _) gh h.2⟩)
  |_=>exact False.elim h
 |@tup a xs ds ha ra ea =>
  cases ry with
  |@tup b ys es hb rb eb =>
   by_cases hn:ds=[]
   .subst hn;cases ra;exact .inr (.inr (.inr (.inl ⟨a,b,ys,rfl,rfl,ha,hb,λ_=>k _ H _ G (.refl H) (.tup hb rb eb) gh h.2⟩)))
   .refine .inr (.inr (.inl ⟨a,b,xs,ys,rfl,rfl,ha,hb,λz=>hn (ra.CM.mp z),by rw[←ra.length,←rb.length];exact h.1,λz _=>?_,λ_ p hp _=>?_⟩))
    .subst z;cases rb;have h2:=h.2;rw[Bk]at h2;exact k _ H _ G (.refl H) (.tup ha ra ea) gh h2
    .have sn:a9 H (upd H p (.tup (xs++ys))):=c7 hp;exact k _ _ _ G (.same sn) (.tup (bz.of aL) ((ra.append rb).mono (.same sn)) (AB aL)) (gh.same sn) h.2
  |_=>exact False.elim h
 |ref l =>
  cases ry with
  |ref m =>
   have h':(match G l,G m with
    |some (.lst xs),aj (.lst ys)=>xs.length+ys.length<=dj/\∀p,G p=au->R (.ref p) (aF G p (.lst (xs++ys)))
    |_,_=>False):=h
   split at h'
   .rename_i xs ys e1 e2;let⟨xv,f1,r1⟩:=gh l _ e1;let⟨yv,f2,r2⟩:=gh m _ e2;refine .inr (.inr (.inr (.inr ⟨l,m,xv,yv,rfl,rfl,f1,f2,by rw[←r1.length,←r2.length];exact h'.1,λp hp kf=>?_⟩)));have sn:a9 H (upd H p (.lst (xv++yv))):=c7 hp;exact k _ _ _ _ (.same sn) (.ref p) (gh.put (u:=.lst (xs++ys)) hp ⟨_,aL,(r1.append r2).mono (.same sn)⟩) (h'.2 p (rC gh hp kf))
   .exact h'.elim
  |_=>exact False.elim h
 |_=>exact False.elim h
abbrev FO:R3:=λx y G R=>match x,y with
 |.ag,.ag=>R (.bl ak) G
 |_,.ag=>R (.bl ao) G
 |.bl i,.bl j=>R (.bl (i==j)) G
 |.int _,.bl _=>R (.bl ao) G
 |.str _,.bl _=>R (.bl ao) G
 |.ag,.bl _=>R (.bl ao) G
 |.tup _,.bl _=>R (.bl ao) G
 |.ref _,.bl _=>R (.bl ao) G
 |_,_=>False
def V3(x:V)(v:bh)(k:Bool)(r:RelV x v):(v==.bool k)=decide (x=.bl k):=by
 cases x with
 |ag=>cases r;rfl
 |bl b =>
  cases r;cases b<;>cases k<;>rfl
 |int _=>let⟨t,rfl⟩:=r;rfl
 |str _=>let⟨t,rfl⟩:=r;rfl
 |Am _=>let⟨t,rfl⟩:=r;rfl
 |Ae _=>let⟨t,rfl⟩:=r;rfl
 |ref _=>cases r;rfl
 |ty _=>cases r;rfl
def Y7(x:V)(v:bh)(k:Bool)(r:RelV x v):plainIs v (.bool k)=ak:=by
 cases x with
 |ag=>cases r;rfl
 |bl b=>cases r;rfl
 |int _=>let⟨t,rfl⟩:=r;rfl
 |str _=>let⟨t,rfl⟩:=r;rfl
 |Am _=>let⟨t,rfl⟩:=r;rfl
 |Ae _=>let⟨t,rfl⟩:=r;rfl
 |ref _=>cases r;rfl
 |ty _=>cases r;rfl
def aCI:yW X (ou .Is) (λx y H Q=>∃k,y=.bl k/\Q (.bl (decide (x=.bl k))) H):=by
 intro ψ s σ H x y v u Q I rx ry h;let⟨k,rfl,q⟩:=h;cases ry;exact wpAny_is_plain (Y7 x v k rx) ⟨.bl _,H,I,by rw[V3 x v k rx];rfl,q⟩
def aU4:fS X (ou .Is) FO:=by
 refine⟨_,aI3.or aCI,λH x y vx vy G R Q rx ry gh h k=>?_⟩;cases ry with
 |ag =>
  refine .inl ⟨rfl,?_⟩;cases rx with
  |ag=>exact k _ H _ G (.refl H) (.bl _) gh h
  |_=>exact k _ H _ G (.refl H) (.bl _) gh h
 |bl j =>
  refine .inr ⟨j,rfl,?_⟩;cases rx with
  |bl i =>
   have e:decide (V.bl i=V.bl j)=(i==j):=by cases i<;>cases j<;>rfl
   rw[e];exact k _ H _ G (.refl H) (.bl _) gh h
  |ty n=>exact False.elim h
  |_=>exact k _ H _ G (.refl H) (.bl _) gh h
 |_=>cases rx<;>exact False.elim h
abbrev cF(G:Gp)(a:bw):Option (List D):=match G a with
 |some (.lst ds)=>aj ds
 |some (.fo ds)=>aj ds
 |_=>au
private theorem eO{K:Fg}(g:HR K H G){a:bw}(e:cF G a=aj ds):∃xs,cE K H a xs/\cV K H ds xs:=by
 unfold cF at e;split at e
 .rename_i Aj q;cases e;let⟨xs,h1,h2⟩:=g a _ q;exact⟨xs,cE.of h1,h2⟩
 .rename_i Aj q;cases e;exact g a _ q
 .cases e
abbrev tM:R3:=λx y G R=>match x,y with
 |.tup xs,.int i=>match df xs i with
  |some d=>R d G
  |none=>False
 |.str z,.int i=>z.length<=dj/\match df z.cps.toList i with
  |some c=>R (.str ⟨#[c]⟩) G
  |none=>False
 |.ref p,.int i=>match cF G p with
  |some xs=>(match df xs i with
   |some d=>R d G
   |none=>False)
  |none=>False
 |_,_=>False
def OO{K:Fg}(r:cV K H ds xs){i:Int}{d:D}(e:df ds i=aj d):∃v,df xs i=aj v/\RD K H d v:=by
 unfold df at e ⊢;rw[←r.length];cases q:rh ds.length i with
 |none=>rw[q]at e;cases e
 |some j =>
  rw[q]at e;exact r.get e
private theorem aU5(ha:cQ X a ta)(hb:cQ X b tb)(hs:JP b):cQ X (.Subscript a b pos) (aP tM ta tb):=by
 refine PE.imp (aOG aIJ ha hb hs) λ_ _ _ h=>Jr ?_ h;intro H x y vx vy G R Q rx ry gh h k;cases rx with
 |@tup p xs ds hp r =>
  cases ry with
  |int i =>
   have h':(match df ds i with
    |some d=>R d G
    |none=>False):=h
   split at h'
   .rename_i d e;let⟨v,e1,e2⟩:=OO r e;exact .inr (.inl ⟨p,xs,i,v,rfl,rfl,hp,e1,k v H d G (.refl H) e2 gh h'⟩)
   .exact h'.elim
  |_=>exact False.elim h
 |str z =>
  cases ry with
  |int i =>
   have h':z.length<=dj/\(match df z.cps.toList i with
    |some c=>R (.str ⟨#[c]⟩) G
    |none=>False):=h
   let⟨hz,h'⟩:=h';split at h'
   .rename_i d e;exact .inr (.inr ⟨z,i,d,rfl,rfl,hz,e,k _ H _ G (.refl H) (.str _) gh h'⟩)
   .exact h'.elim
  |_=>exact False.elim h
 |ref p =>
  cases ry with
  |int i =>
   have h':(match cF G p with
    |some xs=>(match df xs i with
     |some d=>R d G
     |none=>False)
    |none=>False):=h
   split at h'
   .rename_i ds e;let⟨xs,hp,r⟩:=eO gh e;split at h'
    .rename_i d e';let⟨v,e1,e2⟩:=OO r e';exact .inl ⟨p,xs,i,v,rfl,rfl,hp,e1,k v H d G (.refl H) e2 gh h'⟩
    .exact h'.elim
   .exact h'.elim
  |_=>exact False.elim h
 |_=>exact False.elim h
@[simp]def tS:=bZ->Gp->(Option Int->Gp->Prop)->Prop
abbrev Vu(K:Fg)(t:tS):TO:=λσ H Q=>∃ρ G R,SR K H ρ σ/\HR K H G/\t ρ G R/\∀i H' G',Ts H H'->HR K H' G'->R i G'->Q i H'
@[simp]def Dp(X:Cx)(e:Option gV)(t:tS):Prop:=PO X e (Vu X.K t)
def PO.imp{t:TO}(h:PO X e t)(k:∀σ H Q,t' σ H Q->t σ H Q):PO X e t':=λψ s σ H Q I q=>h ψ s σ H Q I (k _ _ _ q)
abbrev F7:tS:=λ_ G R=>R au G
abbrev Ff(t:bN):tS:=λρ G R=>t ρ G λx G1=>match x with
 |.int i=>R (aj i) G1
 |_=>False
def aIV:Dp X au F7:=PO.imp aC2 λσ H Q h=>by
 let⟨ρ,G,R,s,g,t,k⟩:=h;exact k au H G (.refl H) g t
def aIW(h:cQ X e te):Dp X (aj e) (Ff te):=PO.imp (aC3 h) λσ H Q h=>by
 let⟨ρ,G,R,s,g,t,k⟩:=h;refine⟨ρ,G,_,s,g,t,λv H1 x G1 t1 r g1 q=>?_⟩;cases r with
 |int i=>exact⟨i,rfl,k _ H1 G1 t1 g1 q⟩
 |_=>exact False.elim q
abbrev cutD{α:Type}(xs:List α)(lo hi:Option Int):List α:=(xs.drop (HT.oY xs.length 0 lo)).take (HT.oY xs.length xs.length hi - HT.oY xs.length 0 lo)
end
end
variable{F:Ends}
section
section
variable{X:Cx}{st:jq}{rest:List jq}{t u:oX}{te:bN}{pos:Pos}
abbrev bO:oX:=λF ρ G=>F.nx ρ G
abbrev aJ(t u:oX):oX:=λF ρ G=>t {F with nx:=u F} ρ G
def aPB:iN X [] bO:=ic.imp aBI λF σ H h=>by
 let⟨ρ,G,E,s,g,q,d⟩:=h;exact d.nx ρ G σ H s g q
def aIX{K:Fg}(h:Bu K (aJ t u) F σ H):SQ (Bu K t) (Bu K u) F σ H:=by
 let⟨ρ,G,E,s,g,q,d⟩:=h;exact⟨ρ,G,_,s,g,q,⟨λba G' aw H' s1 g1 h=>⟨ba,G',E,s1,g1,h,d⟩,d.rt,d.bk,d.ct⟩⟩
def aIY(h1:fk X st t)(h2:iN X rest u):iN X (st::rest) (aJ t u):=ic.imp (Yj h1 h2) λ_ _ _ h=>aIX h
def aPC(h1:fk X st t):iN X [st] t:=aBJ h1
def aIZ:fk X (.Pass pos) bO:=PS.imp aBK λF σ H h=>by
 let⟨ρ,G,E,s,g,q,d⟩:=h;exact d.nx ρ G σ H s g q
abbrev bB(te:bN):oX:=λF ρ G=>te ρ G λ_ G1=>F.nx ρ G1
def aJ0(he:cQ X e te)(hs:qc e au pos.line X.env=pure ao:=by rfl):fk X (.Expr e pos) (bB te):=PS.imp (aBL he hs) λF σ H h=>by
 let⟨ρ,G,E,s,g,q,d⟩:=h;exact⟨ρ,G,_,s,g,q,λv H' x G' t1 r g1 h=>d.nx ρ G' σ H' (s.mono t1) g1 h⟩
abbrev bK(te:bN):oX:=λF ρ G=>te ρ G F.rt
def aPD(he:cQ X e te):fk X (.Return (aj e) pos) (bK te):=PS.imp (aHO he) λF σ H h=>by
 let⟨ρ,G,E,s,g,q,d⟩:=h;exact⟨ρ,G,_,s,g,q,λv H' x G' t1 r g1 h=>d.rt x G' v H' r g1 h⟩
abbrev dJ(c:cb)(t u:oX):oX:=λF ρ G=>c ρ G λb G1=>if b=ak then t F ρ G1 else u F ρ G1
def aU6{c:gV}{a b:List jq}{tc:cb}(hc:j3 X c tc)(ha:iN X a t)(hb:iN X b u):fk X (.If c a b pos) (dJ tc t u):=PS.imp (aNW hc ha hb) λF σ H h=>by
 let⟨ρ,G,E,s,g,q,d⟩:=h;refine⟨ρ,G,_,s,g,q,λb H' G' t1 g1 h=>?_⟩;cases b with
 |true=>exact⟨ρ,G',E,s.mono t1,g1,h,d⟩
 |false=>exact⟨ρ,G',E,s.mono t1,g1,h,d⟩
abbrev fM(i:Nat)(te:bN):oX:=λF ρ G=>te ρ G λx G1=>F.nx (iO ρ i x) G1
def aPE{i:Nat}{x:Str}(hN:X.N.Nodup)(hi:X.N[i]?=aj x)(hx:Loc X.env.scope x)(he:cQ X e te)(hs:qc e (aj (.Name x pos')) pos.line X.env=pure ao:=by rfl)(hf:X.fn x=ak∨X.env.scope.names.lookup x=aj .local:=by first|exact .inl rfl|exact .inr rfl|assumption) :
  fk X (.Assign [.Name x pos'] e pos) (fM i te):=PS.imp (aHQ hN hi hx he hs hf) λF σ H h=>by
 let⟨ρ,G,E,s,g,q,d⟩:=h;exact⟨ρ,G,_,s,g,q,λv H' x G' t1 r g1 h=>d.nx _ G' _ H' ((s.mono t1).set r i) g1 h⟩
end
section
def Q4{K:Fg}{J:It}{g:TG}{tb:TS}{n:Nat}(Pv:Nat->St->Hp->Prop)(h0:Pv 0 σ H)
  (stop:∀σ H,Pv n σ H->J.stop n H)(go:∀i σ H,i<n->Pv i σ H->J.go i H)
  (hs:∀i x σ H H',i<n->Pv i σ H->J.zd i H x H'->g x σ H' λc5 H2=>tb {F with nx:=Pv (i+1),ct:=Pv (i+1),bk:=F.nx} c5 H2)(hd:∀σ H,Pv n σ H->F.nx σ H) :
  ∃W:Nat->Nat->St->Hp->Prop,(∃m,W 0 m σ H)/\∀i m σ H,W i m σ H ->
   (J.stop i H/\F.nx σ H)∨(J.go i H/\∃N:St->Hp->Prop,(∀aw H',N aw H'->∃m',m'<m/\W (i+1) m' aw H')/\∀x H',J.zd i H x H'->g x σ H' λc5 H2=>tb {F with nx:=N,ct:=N,bk:=F.nx} c5 H2):=by
 refine⟨λi m σ H=>m=n - i/\i<=n/\Pv i σ H,⟨n,by simp,qm _,h0⟩,?_⟩;rintro i m σ H ⟨rfl,hi,p⟩;by_cases ip:i<n
 .exact .inr ⟨go i σ H ip p,Pv (i+1),λaw H' p'=>⟨n - (i+1),⋯,rfl,ip,p'⟩,λx H' y=>hs i x σ H H' ip p y⟩
 .have e:i=n:=by omega
  subst e;exact .inl ⟨stop σ H p,hd σ H p⟩
end
@[simp]def f9:=Addr->Gp->Prop
@[simp]def jI:=List D->Gp->lG->f9->Prop
abbrev tP(K:Fg)(EX:f9)(E:XK):Prop:=∀C H' G',HR K H' G'->EX C G'->E (.ref C) au H'
abbrev cJ(K:Fg)(sp:jI):Sp:=λvs H Q E=>∃ds G R EX,cV K H ds vs/\HR K H G/\sp ds G R EX/\(∀v H' d G',RD K H' d v->HR K H' G'->R d G'->Q v H')/\tP K EX E
section
variable{EX:f9}
abbrev aU7(n m:Nat)(tb:f9->oX):jI:=λds G R EX=>ds.length=m/\tb EX ⟨λ_ G'=>R .ag G',R,λ_ _=>False,λ_ _=>False⟩ (Fh n ds) G
end
end
variable{l:List Env}
section
abbrev jY(P:jr)(w:je):Dy:=λouter H s E e s'=>∃(x C:bw)(H':Hp)(B:jw),e=.ref x/\qo B outer x (.ref C) s'.heap/\bq P w H' B /\
 (∀b o,s.heap.get? b=aj o->H b=au->b∉frs outer->B.get? b=aj o)/\(∀b o,s.heap.get? b=aj o->b∉frs outer->∃o',B.get? b=aj o') /\
 Un (frs outer) [] H H' s.heap s'.heap/\s'.os=s.os/\AllBare s'.gens/\E (.ref C) au H'
def PZ{b:bw}(h:b∈frs l):∃env∈l,env.frame=aj b:=Gu.mp h
def JN{b:bw}{env:Env}(h:env∈l)(e:env.frame=aj b):b∈frs l:=Gu.mpr ⟨env,h,e⟩
section
variable{qt:Bool}{P:jr}{w:je}{K:Fg}{mg:Str->Option bh}{base:jw}{N:List Str}{qual:Str}{scope:di}{f:bw}{cd:bh}{A:jd}{outer:List Env}{av:dg}{az:Hp}{E:XK}
@[simp]def dE(qt:Bool)(P:jr)(w:je)(K:Fg)(mg:Str->Option bh)(base:jw)(N:List Str)(qual:Str)(scope:di)(f:bw)(cd:bh)(A:jd)(outer:List Env)(av:dg)(az:Hp)(E:XK):Cx:=wC qt (jY P w) P w K mg base N qual scope f cd A outer av az E
def nF{X:Cx}(I:Inv X ψ σ H s)(bP:X.stack=X.env::X.outer)(hf:X.env.frame=aj X.env.locals){b:bw}{o:Obj}(e:X.av.heap.get? b=aj o)(n:b∉frs X.outer):b∉frs X.stack:=λhb=>by
 let⟨env,he,kA⟩:=PZ hb;rw[bP]at he;rcases nu.mp he with rfl|he
 .have z:X.env.locals=b:=jk.inj (hf.symm.trans kA);have h1:=I.ok.above;have h2:=ig e;rw[z]at h1;exact absurd (jf h2 h1) (rm _)
 .exact n (JN he kA)
def aCJ{s:dg}(I:Inv (dE qt P w K mg base N qual scope f cd A outer av az E) ψ σ H s)(hm:Gg s.heap h' e (.ref C) us)(q:E (.ref C) au H) :
  (dE qt P w K mg base N qual scope f cd A outer av az E).xe (.ref e) {s with heap:=h' }:=by
 have bP:(dE qt P w K mg base N qual scope f cd A outer av az E).stack=(dE qt P w K mg base N qual scope f cd A outer av az E).env::outer:=rfl;have vF:∀env∈(dE qt P w K mg base N qual scope f cd A outer av az E).stack,∀b,env.frame=aj b->b∈frs (dE qt P w K mg base N qual scope f cd A outer av az E).stack:=λenv he b hb=>JN he hb;have hB:∀b o,(Gi s.heap (frs (dE qt P w K mg base N qual scope f cd A outer av az E).stack)).get? b=aj o->s.heap.get? b=aj o:=λb o e=>PySem.W.of_hideAll _ e;have Bv:∀b o,s.heap.get? b=aj o->b∉frs (dE qt P w K mg base N qual scope f cd A outer av az E).stack->(Gi s.heap (frs (dE qt P w K mg base N qual scope f cd A outer av az E).stack)).get? b=aj o:=λb o e n=>PySem.W.hideAll_get _ e n;have fr:=PySem.W.funFrames_hide I.stack vF;refine π (B:=Gi s.heap (frs (dE qt P w K mg base N qual scope f cd A outer av az E).stack)) (h0:=s.heap) I.ok.frames rfl hB fr hm λh2 k1 k4=>?_;have up:∀b o,s.heap.get? b=aj o->(∀vs,o.data≠.fields vs)->∃sl,h2.get? b=aj {o with slots:=sl}:=λb o e nd=>k4 b o (hm.keeps b o e) nd
 have ro:∀b∈frs outer,∀o,s.heap.get? b=aj o->∀vs,o.data≠.fields vs:=λb hb o e=>by
  let⟨_,o',b8,hd⟩:=I.gS.mem hb;rw[e]at b8;cases b8;exact hd
 refine⟨e,C,H,_,rfl,k1,?_,λb o eb nb hb=>?_,λb o eb hb=>?_,⟨λb o eb nb hb _=>?_,λb o eb nb hb _=>?_,λb o eb nb hx=>I.base.free b o eb nb hx,λb o eb hx=>?_,I.base.aI,I.base.pB,I.base.fT⟩,I.os,I.bare,q⟩
 .intro b o hb;refine(I.af b o hb).cf (λc u hc eu=>Bv c u eu λhz=>?_) (λ_ z=>z) λ_ _ z=>z;have n:=I.JT c hz;rcases hc with rfl|hc
  .rw[hb]at n;cases n
  .rw[hc]at n;cases n
 .exact Bv b o (I.base.keep b o eb nb hb (by simp[wC])) (nF I bP rfl eb hb)
 .obtain⟨o',e'⟩:=I.base.there b o eb (by simp[wC]);exact⟨o',Bv b o' e' (nF I bP rfl eb hb)⟩
 .exact k1.stays b o (Bv b o (I.base.keep b o eb nb hb (by simp[wC])) (nF I bP rfl eb hb))
 .obtain⟨sl,e1⟩:=I.base.slot b o eb nb hb (by simp[wC]);let⟨oq,e2⟩:=up b _ e1 (ro b hb _ e1);exact⟨oq,e2⟩
 .obtain⟨o',e'⟩:=I.base.there b o eb (by simp[wC]);by_cases hb:b∈frs outer
  .obtain⟨sl,e1⟩:=up b o' e' (ro b hb o' e');exact⟨_,e1⟩
  .exact⟨o',k1.stays b o' (Bv b o' e' (nF I bP rfl eb hb))⟩
def aCK(hE:∀C H',E' C au H'->E C au H')(I:Inv (dE qt P w K mg base N qual scope f cd A outer av az E) ψ σ H s)
  (c:jY P w (dE qt P w K mg base N qual scope f cd A outer av az E).stack H s E' e s'):(dE qt P w K mg base N qual scope f cd A outer av az E).xe e s':=by
 let⟨x,C,H',B,rfl,fl,af,Al,xa,un,os,bare,q⟩:=c;have bP:(dE qt P w K mg base N qual scope f cd A outer av az E).stack=(dE qt P w K mg base N qual scope f cd A outer av az E).env::outer:=rfl;refine Yo (B:=B) I.ok.frames rfl fl λh2 k1 k4=>?_
 have NR:∀b∈frs outer,b∈frs (dE qt P w K mg base N qual scope f cd A outer av az E).stack:=λb hb=>by
  let⟨env,he,hf⟩:=PZ hb;exact JN (nj _ he) hf
 have ro:∀b∈frs outer,∀o,s'.heap.get? b=aj o->∀vs,o.data≠.fields vs:=λb hb o e=>by
  let⟨_,o',b8,hd⟩:=fl.K9.mem (NR b hb);rw[e]at b8;cases b8;exact hd
 refine⟨x,C,H',B,rfl,k1,af,λb o eb nb hb=>?_,λb o eb hb=>?_,⟨λb o eb nb hb _=>?_,λb o eb nb hb _=>?_,λb o eb nb hx=>?_,λb o eb hx=>?_,λb xs z=>un.aI b xs (I.base.aI b xs z),λb o u z=>un.pB b o u (I.base.pB b o u z),λb ps z=>?_⟩,os.trans I.os,bare,hE _ _ q⟩
 .exact Al b o (I.base.keep b o eb nb hb (by simp[wC])) (I.base.free b o eb nb (by simp[wC])) (nF I bP rfl eb hb)
 .obtain⟨o',e'⟩:=I.base.there b o eb (by simp[wC]);exact xa b o' e' (nF I bP rfl eb hb)
 .exact k1.stays b o (Al b o (I.base.keep b o eb nb hb (by simp[wC])) (I.base.free b o eb nb (by simp[wC])) (nF I bP rfl eb hb))
 .obtain⟨sl,e1⟩:=I.base.slot b o eb nb hb (by simp[wC]);let⟨oq,e2⟩:=un.slot b _ e1 (I.base.free b o eb nb (by simp[wC])) (NR b hb) (by simp);let⟨VG,e3⟩:=k4 b _ e2 (ro b hb _ e2);exact⟨VG,e3⟩
 .obtain⟨o',e'⟩:=I.base.there b o eb (by simp[wC]);exact un.free b o' e' (I.base.free b o eb nb (by simp[wC])) (by simp)
 .obtain⟨o',e'⟩:=I.base.there b o eb (by simp[wC]);by_cases hb:b∈frs outer
  .obtain⟨o2,e2⟩:=un.there b o' e' (by simp);let⟨sl,e3⟩:=k4 b o2 e2 (ro b hb o2 e2);exact⟨_,e3⟩
  .obtain⟨o2,e2⟩:=xa b o' e' (nF I bP rfl eb hb);exact⟨o2,k1.stays b o2 e2⟩
 .obtain⟨m1,e1⟩:=I.base.fT b ps z;let⟨m2,e2⟩:=un.fT b _ e1;exact⟨m1++m2,by rw[e2,Array.append_assoc]⟩
end
abbrev nX(K:Fg)(EX:f9):XK:=λC _ H'=>∃c G',C=.ref c/\HR K H' G'/\EX c G'
structure lT(X:Cx)(EX:bZ->f9):Prop where
 Ch:∀ψ σ H s ρ e s',Inv X ψ σ H s->SR X.K H ρ σ->jY X.prog X.w X.stack H s (nX X.K (EX ρ)) e s'->X.xe e s'
structure Mu(X:Cx)(EX:bZ->f9):Prop where
 made:∀ψ σ H s ρ C e us h',Inv X ψ σ H s->SR X.K H ρ σ->Gg s.heap h' e (.ref C) us->nX X.K (EX ρ) (.ref C) au H->X.xe (.ref e) {s with heap:=h' }
section
variable{qt:Bool}{w:je}{K:Fg}{mg:Str->Option bh}{base:jw}{N:List Str}{A:jd}{outer:List Env}{av:dg}{az:Hp}
def Q3(h:tP K EX E)(q:nX K EX C au H'):E C au H':=by
 let⟨c,G',rfl,g,q⟩:=q;exact h c H' G' g q
def aU9(h:tP K EX E):lT (dE qt P w K mg base N qual scope f cd A outer av az E) (λ_=>EX) :=
 ⟨λψ σ H s ρ e s' I _ c=>aCK (E':=nX K EX) (λC H' q=>Q3 h q) I c⟩
def aUA(h:tP K EX E):Mu (dE qt P w K mg base N qual scope f cd A outer av az E) (λ_=>EX) :=
 ⟨λψ σ H s ρ C e us h' I _ hm q=>aCJ I hm (Q3 h q)⟩
def MB:sQ (dz P w) (dE qt P w K mg base N qual scope f cd A outer av az E).A (dE qt P w K mg base N qual scope f cd A outer av az E).env (dE qt P w K mg base N qual scope f cd A outer av az E).xe:=PassesOwn.leaving
end
section
variable{X:Cx}{k:Nat}{sp:jI}{EX:bZ->f9}{x:Str}{pos:Pos}{t:rZ}
abbrev aO(sp:jI)(EX:bZ->f9)(t:rZ):bN:=λρ G R=>t ρ G λds G1=>sp ds G1 R (EX ρ)
private theorem PY{Q Q':VK}(F:bM qt X.prog X.w X.K X.mg X.base (jY X.prog X.w) k f fd ps (cJ X.K sp))(hr:mZ qt k X.A)(hb:Binds X.K fd ps [])
  (hx:∀e s',jY X.prog X.w X.stack H s E e s'->X.xe e s')
  (I:Inv X ψ σ H s)(r:Vals vs us)(h:cJ X.K sp vs H Q E)(hQ:∀v H',Ts H H'->Q v H'->Q' v H'):dh (dz X.prog X.w) X.A (call (.ref f) us) (EP X ψ σ Q') X.xe s:=by
 have hl:(us++[]).length=ps.length:=by rw[Bk,←r.length];exact F.len _ _ _ _ h
 refine wpAny_call (codeAny_mono (F.run X.A X.stack s H ⟨us,[]⟩ (us++[]) vs Q E hr I.y7 (hb s us I.b7 hl) (by rw[Bk];exact r) h) λr s' hq=>?_);cases r with
 |error e=>exact hx e s' hq
 |ok fl =>
  cases fl with
  |ret u =>
   let⟨v,H',os,bare,un,af,r,q⟩:=hq;exact⟨v,H',I.fe (ch:=[]) os un af bare (λb z=>absurd z (by simp)),r,hQ v H' ⟨un.aI,un.pB⟩ q⟩
  |next=>exact False.elim hq
  |brk=>exact False.elim hq
  |cont=>exact False.elim hq
def aCL(F:bM qt X.prog X.w X.K X.mg X.base (jY X.prog X.w) k f fd ps (cJ X.K sp))(hr:mZ qt k X.A)(hg:Gl X x)(hm:X.mg x=aj (.ref f))(hk:qp X.K (.ref f)=ak)(hb:Binds X.K fd ps [])(hx:lT X EX)
  (ha:dS X (e::es) t)(hU:(x==("__debug__":Str))=ao:=by decide)(he:iz (e::es) X.env=(ao,eval e X.env)::iz es X.env:=by rfl)(gE:(qz pos (iz es X.env)).any (·.1)=ao:=by rfl) :
  cQ X (.Call (.Name x p) (e::es) [] pos) (aO sp EX t):=by
 intro ψ s σ H Q I h;let⟨ρ,G,R,sr,g,q,kk⟩:=h;refine yq (rY I hg hm ?_ hU);refine LQ (h₀:=X.base) I.ok.mod.m4 hk (dZ (ha pos ψ s σ H (λvs H1=>Ts H H1/\∃ds G1,cV X.K H1 ds vs/\HR X.K H1 G1/\sp ds G1 R (EX ρ)) I ⟨ρ,G,_,sr,g,q,λvs H1 ds G1 t1 r1 g1 q1=>⟨t1,ds,G1,r1,g1,q1⟩⟩) λus s1 ⟨vs,H1,I1,r,t1,ds,G1,r1,g1,q1⟩=>⟨I1.b7,?_⟩) he gE;refine PY (E:=nX X.K (EX ρ)) F hr hb (λe s' c=>hx.Ch ψ σ H1 s1 ρ e s' I1 (sr.mono t1) c) I1 r (Q:=λv H'=>∃d G',RD X.K H' d v/\HR X.K H' G'/\R d G') ⟨ds,G1,R,EX ρ,r1,g1,q1,λv H' d G' r2 g2 q2=>⟨d,G',r2,g2,q2⟩,λC H' G' g' q'=>⟨C,G',rfl,g',q'⟩⟩ (by rintro v H' t2 ⟨d,G',r2,g2,q2⟩;exact kk v H' d G' (t1.trans t2) r2 g2 q2)
def aJ1{qt:Bool}{P:jr}{w:je}{K:Fg}{base:jw}{x qual:Str}{st:jq}{f:bw}{fd:jm}{N ps:List Str}{k:Nat}{tb:f9->oX}(F:cK K x qual st f fd)(S:aN N ps (aX st))
  (gx:∀(dP:bh)(A:jd)(outer:List Env)(s:dg)(H:Hp)(E:XK)(EX:f9),mZ qt k (A.deeper (envOfC qual (aX st) s.heap.objs.size f dP))->tP K EX E ->
   iN (dE qt P w K mg base N qual (aX st) f dP A outer s H E) (cB st) (tb EX)):bM qt P w K mg base (jY P w) (k+1) f fd ps (cJ K (aU7 N.length ps.length tb)):=by
 let⟨oc,od,dV,kV,doc,pm,an,dP,ct,zw,rfl,lk,fq⟩:=F.ex;have gE:ps.length<=N.length:=by have:=congrArg List.length S.pre;rw[C0]at this;omega
 refine aO9 lk fq S (λvs H Q E h=>?_) λA outer s H vs Q E hr rj=>?_
 .obtain⟨ds,G,R,EX,r,g,⟨hl,q⟩,_⟩:=h;rw[←r.length,hl]
 .obtain⟨ds,G,R,EX,r,g,⟨hl,q⟩,kk,hE⟩:=rj;refine⟨_,gx dP A outer s H E EX hr hE,Fh N.length ds,G,_,?_,g,q,⟨λρ G' aw H' s1 g1 q1=>kk .ag H' .ag G' .ag g1 q1,λd G' v H' r1 g1 q1=>kk v H' d G' r1 g1 q1,λ_ _ _ _ _ _ z=>z.elim,λ_ _ _ _ _ _ z=>z.elim⟩⟩;unfold Fh start;rw[r.length];exact SR.entry r
end
section
variable{X:Cx}{C:bw}{hW:List bh}{B Bn newId BE d6 BI:String}{EX:bZ->f9}{x:Str}{np pos:Pos}{t:rZ}
private theorem Fv{K:Fg}(XK:K.In h)(q:yw K C hW newId=ak):∃bm N nm q bs hdct sn sub ab col dd k0 k1 k2 k3 k5 mN,h.get? C=aj (excClassObj nm q C N bs bm hdct sn sub ab col dd k0 k1 k2 k3 k5 newId)/\h.Ns N mN/\mN "__init__"=au/\OwnTail h hW bm:=by
 unfold yw at q;split at q
 .rename_i dd cd sl ho;split at q
  .rename_i C' bm k0 k1 k2 k3 n k5 hm hs;simp only[bx,beq_iff_eq,iu]at q;let⟨⟨⟨⟨⟨rfl,rfl⟩,DE⟩,ht⟩,af⟩,rl⟩:=q;let⟨nm,bs,mro,ns,qn,hd,sn,sub,ab,col,del⟩:=cd;dsimp only at hm DE af rl;subst hm DE
   have Wb:sl=#[k0,k1,k2,k3,aj (.builtin n),k5]:=by
    let⟨l⟩:=sl;simp only at hs;rw[hs]
   subst Wb;exact⟨bm,ns,nm,qn,bs,hd,sn,sub,ab,col,dd,k0,k1,k2,k3,k5,_,XK _ _ ho,.of_isNs (PySem.W.isNs_of_in XK af),PySem.W.nsMap_none_of_in XK af rl,PySem.W.tail_of_in XK ht⟩
  .cases q
 .cases q
abbrev gU(EX:bZ->f9)(C:bw)(t:rZ):oX:=λ_ ρ G=>t ρ G λds G1=>ds.length<=dj/\EX ρ C G1
def aCM(hc:X.calm=ak)(Fn:tj Bn newId BI ED)(v5:hW.contains (.type Bn)=ak)(FB:tj B BE d6 hW)(hg:Gl X x)(hm:X.mg x=aj (.ref C))(hq:yw X.K C hW newId=ak)(hT:Mu X EX)
  (ha:dS X (e::es) t)(hd:(x==("__debug__":Str))=ao:=by decide)
  (he:iz (e::es) X.env=(ao,eval e X.env)::iz es X.env:=by rfl)(ef:(qz ai (iz es X.env)).any (·.1)=ao:=by rfl) :
  fk X (.Raise (aj (.Call (.Name x np) (e::es) [] ai)) au pos) (gU EX C t):=by
 intro ψ s σ H F I h;let⟨ρ,G,E3,sr,g,q,dd⟩:=h;let⟨tl,N,nm,q',bs,hdct,sn,sub,ab,col,kF,k0,k1,k2,k3,k5,mN,hC,hN,rl,T⟩:=Fv I.mod.m4 hq
 refine wpAny_Raise_call_subU (C:=C) (nm:=nm) (q:=q') (N:=N) (bs:=bs) (bm:=tl) (hdct:=hdct) (sn:=sn) (sub:=sub) (ab:=ab) (col:=col) (dd:=kF) (k0:=k0) (k1:=k1) (k2:=k2) (k3:=k3) (k5:=k5)
  Fn v5 FB (mN:=mN) (T.hasType FB.hasBase) (I.ok.hd hc) (by rw[he];show(ao||(qz ai (iz es X.env)).any (·.1))=ao;rw[ef];rfl) rl (rY I hg hm ⟨rfl,?_⟩ hd)
 have hA:=ha ai ψ s σ H (λvs H1=>Ts H H1/\∃ds G1,cV X.K H1 ds vs/\HR X.K H1 G1/\ds.length<=dj/\EX ρ C G1) I ⟨ρ,G,_,sr,g,q,λvs H1 ds G1 t1 r1 g1 q1=>⟨t1,ds,G1,r1,g1,q1.1,q1.2⟩⟩;rw[he]at hA ⊢;refine Calls.evalArgs_plain (dZ hA ?_);rintro us s2 ⟨vs,H2,I2,r2,t1,ds,G1,r1,g1,hl,q1⟩;exact⟨rfl,by rw[←r2.length,←r1.length];exact hl,I2.bk _ _ hC,hN.keeps I2.bk,T.keeps I2.bk,λh' e' BN=>hT.made ψ σ H2 s2 ρ C e' us h' I2 (sr.mono t1) BN ⟨C,G1,rfl,g1,q1⟩⟩
end
end
variable{B:jw}
section
abbrev FN:bZ->Nat->bZ
 |[],_=>[]
 |_::r,0=>au::r
 |x::r,n+1=>x::FN r n
section
variable{X:Cx}
abbrev Vq(X:Cx)(EX:bZ->f9):bh->dg->Prop:=λe s'=>∃ψ σ H s ρ,Inv X ψ σ H s/\SR X.K H ρ σ/\jY X.prog X.w X.stack H s (nX X.K (EX ρ)) e s'
@[simp]def FL(X:Cx)(pn:List (bw×Obj))(EX:bZ->f9):Cx:={X with pn:=X.pn++pn,xe:=Vq {X with pn:=X.pn++pn} EX}
@[simp]def B5(X:Cx)(x:bw):Cx:={X with A:=X.A.mark (aj (.ref x)),calm:=false,xe:=λ_ _=>False}
def aPF(ok:X.Ok)(pn:List (bw×Obj))(E:bh->dg->Prop):({X with pn:=pn,xe:=E}:Cx).Ok :=
 ⟨ok.mod,ok.kind,ok.glob,ok.blt,ok.above,ok.inj,ok.has,ok.rV,ok.hd,ok.frames,ok.i7,ok.BX,ok.bs,ok.kG,ok.sv,ok.xh,ok.gS,ok.nh⟩
def aCP(I:Inv X ψ σ H s)(E:bh->dg->Prop):Inv ({X with pn:=X.pn++ψ,xe:=E}:Cx) [] σ H s :=
 ⟨aPF I.ok _ _,I.os,I.bare,I.base,I.loc,I.cell,I.free,I.rR,λp hp=>I.pin p (by simpa using hp),I.af,I.len,I.dC,I.tup⟩
def xK(I:Inv ({X with pn:=X.pn++ψ,xe:=E}:Cx) A9 σ H s):Inv X ψ σ H s :=
 ⟨⟨I.ok.mod,I.ok.kind,I.ok.glob,I.ok.blt,I.ok.above,I.ok.inj,I.ok.has,I.ok.rV,I.ok.hd,I.ok.frames,I.ok.i7,I.ok.BX,I.ok.bs,I.ok.kG,I.ok.sv,I.ok.xh,I.ok.gS,I.ok.nh⟩,I.os,I.bare,I.base,I.loc,I.cell,I.free,I.rR,λp hp=>I.pin p (GH _ hp),I.af,I.len,I.dC,I.tup⟩
def PX(I:Inv X ψ σ H s)(x:bw)(q:uA (X.A.mark (aj (.ref x))) H):Inv (B5 X x) ψ σ H s :=
 ⟨⟨I.ok.mod,I.ok.kind,I.ok.glob,I.ok.blt,I.ok.above,I.ok.inj,I.ok.has,I.ok.rV,(λz=>nomatch z),I.ok.frames,I.ok.i7,I.ok.BX,I.ok.bs,I.ok.kG,I.ok.sv,I.ok.xh,I.ok.gS,I.ok.nh⟩,I.os,I.bare,I.base,I.loc,I.cell,I.free,I.rR,I.pin,I.af,I.len,q,I.tup⟩
def GC{x:bw}(ok:X.Ok)(hn:X.A.handled=au)(I:Inv (B5 X x) ψ σ H s):Inv X ψ σ H s :=
 ⟨ok,I.os,I.bare,I.base,I.loc,I.cell,I.free,I.rR,I.pin,I.af,I.len,.inl hn,I.tup⟩
def aUB(pn:List (bw×Obj))(EX:bZ->f9):lT (FL X pn EX) EX:=⟨λψ σ H s ρ e s' I sr c =>
 ⟨ψ,σ,H,s,ρ,⟨⟨I.ok.mod,I.ok.kind,I.ok.glob,I.ok.blt,I.ok.above,I.ok.inj,I.ok.has,I.ok.rV,I.ok.hd,I.ok.frames,I.ok.i7,I.ok.BX,I.ok.bs,I.ok.kG,I.ok.sv,I.ok.xh,I.ok.gS,I.ok.nh⟩,I.os,I.bare,I.base,I.loc,I.cell,I.free,I.rR,I.pin,I.af,I.len,I.dC,I.tup⟩,sr,c⟩⟩
def aJ2{P:jr}{w:je}{s s':dg}{x:bw}(fl:qo B l x (.ref C) s'.heap)(Al:∀b o,s.heap.get? b=aj o->H b=au->b∉frs l->B.get? b=aj o)
  (xa:∀b o,s.heap.get? b=aj o->b∉frs l->∃o',B.get? b=aj o')(un:Un (frs l) [] H H' s.heap s'.heap)(st:B.StaysIn h2)(up:s'.heap.UpToSlots h2):Un (frs l) [] H H' s.heap h2:=by
 have ro:∀b∈frs l,∀o,s'.heap.get? b=aj o->∀vs,o.data≠.fields vs:=λb hb o e=>by
  let⟨_,o',b8,hd⟩:=fl.K9.mem hb;rw[e]at b8;cases b8;exact hd
 refine⟨λb o eb nb hb _=>st b o (Al b o eb nb hb),λb o eb nb hb hx=>?_,un.free,λb o eb hx=>?_,un.aI,un.pB,un.fT⟩
 .obtain⟨sl,e1⟩:=un.slot b o eb nb hb hx;let⟨oq,e2⟩:=up b _ e1 (ro b hb _ e1);exact⟨oq,e2⟩
 .by_cases hb:b∈frs l
  .obtain⟨o2,e2⟩:=un.there b o eb hx;let⟨sl,e3⟩:=up b o2 e2 (ro b hb o2 e2);exact⟨_,e3⟩
  .obtain⟨o2,e2⟩:=xa b o eb hb;exact⟨o2,st b o2 e2⟩
private theorem SE{M:Model}{A:jd}{K:Fg}{s:dg}{x Dc:bw}{oe:Obj}{b:Bool}(KX:K.In s.heap)(he:s.heap.get? x=aj oe)(y4:oe.cls=.ref C)
  (hc:(vg K Dc).isSome=ak)(ht:x4 K (.ref Dc)=aj (.type "type"))(hb:jc K (.ref Dc) (.type "BaseException")=aj ak)(hs:jc K (.ref C) (.ref Dc)=aj b)(h:Q b s):dh M A (excMatches (.ref x) (.ref Dc)) Q E s:=by
 have l1:uo M s.heap (typeOf (.ref Dc)) (.type "type"):=PySem.W.looks_typeIn KX ht;have l2:uo M s.heap (isSubtype (.ref Dc) (.type "BaseException")) ak:=PySem.W.looks_subIn KX hb;have l3:uo M s.heap (isSubtype (.ref C) (.ref Dc)) b:=PySem.W.looks_subIn KX hs
 have l4:uo M s.heap (typeOf (.ref x)) (.ref C):=by
  have z:=(uo.ld (M:=M) (part:=none) he).andThen (f:=λo=>pure o.cls) (b:=.ref C) (by rw[y4];exact .now);exact z
 have l0:uo M s.heap (isSubtype (.type "type") (.type "tuple")) ao:=.of_pure tc_notTuple
 have lt:uo M s.heap (isType (.ref Dc)) ak:=by
  intro A' Q' E' s' k q;cases eK:vg K Dc with
  |none=>rw[eK]at hc;cases hc
  |some cd =>
   unfold vg at eK;split at eK
   .rename_i ho;unfold isType loadHead;exact aq (wpAny_loadPart (k _ _ (KX _ _ ho)) (cj q))
   .cases eK
 unfold excMatches isInstance isExcClass
 repeat (first|with_reducible refine uo.here l0 ?_|with_reducible refine uo.here l1 ?_|with_reducible refine uo.here l2 ?_|with_reducible refine uo.here l3 ?_|with_reducible refine uo.here l4 ?_|with_reducible refine uo.here lt ?_|wp_step)
 cases b<;>(wp_walk;exact h)
private theorem XZ(h:SP (FL X ψ EX) [] F f s):SP X ψ F f s:=by
 cases f with
 |next=>let⟨aw,H',I,q⟩:=h;exact⟨aw,H',xK I,q⟩
 |brk=>let⟨aw,H',I,q⟩:=h;exact⟨aw,H',xK I,q⟩
 |cont=>let⟨aw,H',I,q⟩:=h;exact⟨aw,H',xK I,q⟩
 |ret u=>let⟨v,aw,H',I,r,q⟩:=h;exact⟨v,aw,H',xK I,r,q⟩
def Q2{w:je}{x:bw}(af:bq P w H B)(n:B.get? x=au):H x=au:=by
 cases e0:H x with
 |none=>rfl
 |some o =>
  have lt:=(af x o e0)
  obtain⟨o',b8⟩:∃o',B.get? x=aj o':=by
   cases o with
   |lst xs=>let⟨_,_,_,_,e⟩:=lt;exact⟨_,e⟩
   |tup xs=>let⟨_,_,_,o,e,_⟩:=lt;exact⟨_,e⟩
   |dK kvs=>let⟨_,_,_,_,o,_,_,e,_⟩:=lt;exact⟨_,e⟩
   |dT kvs=>let⟨_,_,_,_,o,_,_,e,_⟩:=lt;exact⟨_,e⟩
   |set S n=>let⟨o,_,_,_,e,_⟩:=lt;exact⟨_,e⟩
   |ins C dx fs=>let⟨_,_,_,e,_⟩:=lt;exact⟨_,e⟩
   |own y=>let⟨_,e⟩:=lt;exact⟨_,e⟩
   |xd fs=>let⟨_,⟨_,_,_,e,_⟩,_⟩:=lt;exact⟨_,e⟩
   |DX lo hi=>let⟨_,_,_,e⟩:=lt;exact⟨_,e⟩
   |jX ob u=>let⟨e,_⟩:=lt;exact⟨_,e⟩
   |ij ps=>exact⟨_,(show B.get? x=aj _ from lt)⟩
   |met f y=>exact⟨_,(show B.get? x=aj _ from lt)⟩
   |ext φ=>let⟨_,⟨_,e⟩,_⟩:=lt;exact⟨_,e⟩
  rw[n]at b8;cases b8
end
end
section
section
variable{X:Cx}{a b c:gV}{pos:Pos}
abbrev AQ(t:bN):bN:=λρ G R=>t ρ G λx G1=>match x with
 |.int i=>R (.int (-i)) G1
 |_=>False
def aPH(ha:cQ X a ta):cQ X (.UnaryOp .USub a pos) (AQ ta):=PE.imp (aO2 aI1 ha) λσ H Q h=>by
 let⟨ρ,G,R,s,g,t,k⟩:=h;refine⟨ρ,G,_,s,g,t,λv H1 x G1 t1 r g1 q=>?_⟩;cases r with
 |int i=>exact⟨i,rfl,k _ H1 _ G1 t1 (.int _) g1 q⟩
 |_=>exact False.elim q
abbrev cG:Nat->D->Bool
 |0,.tup _=>ao
 |n+1,.tup xs=>xs.all (cG n)
 |_,.ref _=>ao
 |_,.ty _=>ao
 |_,_=>ak
mutual
noncomputable def bo:D->D->Bool
 |.ag,.ag=>ak
 |.bl a,.bl b=>a==b
 |.bl a,.int b=>(if a then 1 else 0)==b
 |.int a,.bl b=>a==(if b then 1 else 0)
 |.int a,.int b=>a==b
 |.str a,.str b=>a==b
 |.tup xs,.tup ys=>xM xs ys
 |_,_=>ao
noncomputable def xM:List D->List D->Bool
 |[],[]=>ak
 |x::xs,y::ys=>bo x y&&xM xs ys
 |_,_=>ao
end
abbrev yZ(xs ys:List D)(j:Nat):Bool:=match xs[j]?,ys[j]? with
 |some a,aj b=>bo a b
 |_,_=>ao
def aaV(n:Nat)(e:Nat->Bool):(lg (n+1)).all e=(e 0&&(lg n).all λj=>e (j+1)):=by
 rw[List.range_succ_eq_map,List.all_cons,List.all_map];rfl
def pC:∀(xs ys:List D),xM xs ys=((lg (min xs.length ys.length)).all (yZ xs ys)&&xs.length==ys.length)
 |[],[]=>rfl
 |[],y::ys=>by simp[xM]
 |x::xs,[]=>by simp[xM]
 |x::xs,y::ys=>by
  have ih:=pC xs ys;have e:min (x::xs).length (y::ys).length=min xs.length ys.length+1:=by simp only[qy];omega
  rw[xM,ih,e,aaV];have e0:yZ (x::xs) (y::ys) 0=bo x y:=rfl
  have e1:(λj=>yZ (x::xs) (y::ys) (j+1))=yZ xs ys:=by
   funext j;simp[yZ]
  have e2:((x::xs).length==(y::ys).length)=(xs.length==ys.length):=by
   simp only[qy];by_cases h:xs.length=ys.length
   .simp[h]
   .have h':¬ (xs.length+1=ys.length+1):=by omega
    simp[h,h']
  rw[e0,e1,e2,Bool.and_assoc]
def Q1{xs ys:List D}(h:(xs.length !=ys.length)=ak):xM xs ys=ao:=by
 rw[pC];have:(xs.length==ys.length)=ao:=by simpa using h
 rw[this,Bool.and_false]
def RH{xs ys:List D}(h:xs.length=ys.length):xM xs ys=(lg xs.length).all (yZ xs ys):=by
 rw[pC,h];simp
def cV.aPI{K:Fg}{n:Nat}(ih:∀{x y:D}{v:V},cG n x=ak->cG n y=ak->RD K H x v->RD K H y v->x=y):∀{xs ys:List D},(∀x∈xs,cG n x=ak)->(∀y∈ys,cG n y=ak)->cV K H xs vs->cV K H ys vs->xs=ys:=by
 induction vs with
 |nil=>intro xs ys _ _ h1 h2;cases h1;cases h2;rfl
 |cons v vs jh =>
  intro xs ys hx hy h1 h2;cases h1 with
  |cons a r =>
  cases h2 with
  |cons b t=>rw[ih (hx _ (yj ..)) (hy _ (yj ..)) a b,jh (λx m=>hx x (nj _ m)) (λy m=>hy y (nj _ m)) r t]
def RD.inj(I:Inv X ψ σ H s){n:Nat}:∀{x y:D}{v:V},cG n x=ak->cG n y=ak->RD X.K H x v->RD X.K H y v->x=y:=by
 induction n with
 |zero=>intro x y v hx hy h1 h2;cases h1<;>cases h2<;>first|rfl|cases hx|cases hy
 |succ n ih =>
  intro x y v hx hy h1 h2;cases h1 with
  |tup s1 r1 _ =>
   cases h2 with
   |tup s2 r2 _ =>
    have e:=I.Ls s1 s2;subst e;rw[cV.aPI ih (by simpa[cG]using hx) (by simpa[cG]using hy) r1 r2]
   |ref=>cases hy
  |ref=>cases hx
  |_=>cases h2;rfl
mutual
theorem Q0:∀{n:Nat}{x:D},cG n x=ak->bo x x=ak
 |_,.ag,_=>rfl
 |_,.bl b,_=>by simp[bo]
 |_,.int b,_=>by simp[bo]
 |_,.str b,_=>by simp[bo]
 |n,.ref _,h=>by cases n<;>simp[cG]at h
 |n,.ty _,h=>by cases n<;>simp[cG]at h
 |0,.tup _,h=>by simp[cG]at h
 |n+1,.tup xs,h=>by rw[bo];exact GB (n:=n) (by simpa[cG]using h)
theorem GB:∀{n:Nat}{xs:List D},(∀x∈xs,cG n x=ak)->xM xs xs=ak
 |_,[],_=>rfl
 |n,x::xs,h=>by rw[xM,Q0 (h x (by simp)),GB λy m=>h y (by simp[m])];rfl
end
def Vals.IU{K:Fg}(r:cV K H ds xs)(v:Vals xs us){j:Nat}(e:us[j]?=aj u):∃d x,ds[j]?=aj d/\RD K H d x/\RelV x u:=by
 have hj:j<us.length:=(jl.mp e).1;have eR:j<xs.length:=by rw[v.length];exact hj
 have ex:xs[j]?=aj xs[j]:=jj eR;let⟨u',e1,r1⟩:=v.get ex;rw[e]at e1;cases e1;let⟨d,e2,r2⟩:=r.FQ ex;exact⟨d,_,e2,r2,r1⟩
def Dm{A:jd}{K:Fg}{n:Nat}{us ws:List bh}(rx:cV K H xs vx)(ry:cV K H ys vy)(Vt:Vals vx us)(Vs:Vals vy ws)
  (ih:∀x∈xs,∀y∈ys,∀(v w:V)(u t:bh),RD K H x v->RD K H y w->RelV v u->RelV w t->SeqAt.EqAt A s u t (bo x y)) :
  ∀j (h1:j<us.toArray.size) (h2:j<ws.toArray.size),SeqAt.EqAt A s us.toArray[j] ws.toArray[j] (yZ xs ys j):=by
 intro j h1 h2;have e1:us[j]?=aj us.toArray[j]:=by simp[jj (show j<us.length by simpa using h1)]
 have e2:ws[j]?=aj ws.toArray[j]:=by simp[jj (show j<ws.length by simpa using h2)]
 let⟨d,x,f1,f2,f3⟩:=Vals.IU rx Vt e1;let⟨d',y,g1,g2,g3⟩:=Vals.IU ry Vs e2;have e:yZ xs ys j=bo d d':=by simp[yZ,f1,g1]
 rw[e];exact ih d (qg f1) d' (qg g1) x y _ _ f2 g2 f3 g3
abbrev mv:D->Bool
 |.ag=>ak
 |.bl _=>ak
 |.int _=>ak
 |.str _=>ak
 |_=>ao
def PV{A:jd}{K:Fg}{x:D}{v:bh}(hx:mv x=ak)(hy:mv y=ak)(rx:RD K H x vx)(ry:RD K H y vy)(ru:RelV vx u)(rv:RelV vy v):SeqAt.EqAt A s u v (bo x y):=by
 have fx:EW vx=ak:=by cases rx<;>first|rfl|cases hx
 have fy:EW vy=ak:=by cases ry<;>first|rfl|cases hy
 have e:Ip vx vy=bo x y:=by cases rx<;>cases ry<;>first|(simp[Ip,bo];done)|cases hx|cases hy
 rw[←e];exact aIK ru rv fx fy
def Dl{A:jd}{n:Nat}(h:A.units+(n+1)<uc):A.in1.units+n<uc:=by
 show A.units+1+n<uc;omega
inductive Vw(X:Cx)(H:Hp)(s:dg):D->bh->Prop where
 |ag:Vw X H s .ag .none
 |bl (b:Bool):Vw X H s (.bl b) (.bool b)
 |int (i:Int) (t:Nat):Vw X H s (.int i) (.int i t)
 |str (z:Str) (t:Nat):Vw X H s (.str z) (.str z t)
 |tup {a:bw} {vs:List V} {ds:List D} {its:List bh} (q:bz X.K H a vs) (r:cV X.K H ds vs) (c:pE H a vs) (w:Vals vs its) (p:s.heap.IsTuple a its.toArray):Vw X H s (.tup ds) (.ref a)
def vw(I:Inv X ψ σ H s){n:Nat}{x:D}(hx:cG n x=ak)(rx:RD X.K H x vx)(ru:RelV vx u):Vw X H s x u:=by
 cases rx with
 |ag=>cases ru;exact .ag
 |bl b=>cases ru;exact .bl b
 |int i=>let⟨t,rfl⟩:=ru;exact .int i t
 |str z=>let⟨t,rfl⟩:=ru;exact .str z t
 |tup q r c=>cases ru;let⟨its,w,p,_⟩:=I.tuple q;exact .tup q r c w p
 |_=>cases n<;>simp[cG]at hx
def Fe(I:Inv X ψ σ H s):∀(n:Nat)(A:jd)(x y:D)(vx vy:V)(u v:bh),A.units+n<uc->cG n x=ak->cG n y=ak->RD X.K H x vx->RD X.K H y vy->RelV vx u->RelV vy v->SeqAt.EqAt A s u v (bo x y):=by
 intro n
 induction n with
 |zero =>
  intro A x y vx vy u v hu hx hy rx ry ru rv;have sx:mv x=ak:=by cases x<;>first|rfl|(simp[cG]at hx)
  have sy:mv y=ak:=by cases y<;>first|rfl|(simp[cG]at hy)
  exact PV sx sy rx ry ru rv
 |succ n ih =>
  intro A x y vx vy u v hu hx hy rx ry ru rv;have aE:A.units<uc:=by omega
  cases vw I hx rx ru with
  |@tup ax xs ds its Wz Ht WX vv px =>
   cases vw I hy ry rv with
   |@tup ay ys es Nu Wy Hr WW ww py =>
    by_cases BS:ax=ay
    .subst BS;have e:=RD.inj I (n:=n+1) hx hy (.tup Wz Ht WX) (.tup Wy Hr WW);rw[e,Q0 hy];exact SeqAt.EqAt.same _
    .refine SeqAt.EqAt.of_refs BS ?_
     have z:=SeqAt.RcAt.tuples (e:=yZ ds es) px py aE (Dm (n:=n) Ht Hr vv ww λx mx y my v w u t r1 r2 r3 r4 =>
      ih A.in1 x y v w u t (Dl hu) (kh.mp (by simpa[cG]using hx) x mx) (kh.mp (by simpa[cG]using hy) y my) r1 r2 r3 r4)
     have e:((lg (min its.toArray.size Nu.toArray.size)).all (yZ ds es)&&its.toArray.size==Nu.toArray.size)=bo (.tup ds) (.tup es):=by
      rw[bo,pC,gk,gk,←vv.length,←ww.length,←Ht.length,←Hr.length]
     rw[e]at z;exact z
   |_=>simp only[bo];with_reducible first|exact SeqAt.EqAt.tuple_none px aE|exact SeqAt.EqAt.tuple_bool _ px aE|exact SeqAt.EqAt.tuple_int _ _ px aE|exact SeqAt.EqAt.tuple_str _ _ px aE
  |_ =>
   cases vw I hy ry rv with
   |tup _ _ _ _ py=>simp only[bo];with_reducible first|exact SeqAt.EqAt.none_tuple py aE|exact SeqAt.EqAt.bool_tuple _ py aE|exact SeqAt.EqAt.int_tuple _ _ py aE|exact SeqAt.EqAt.str_tuple _ _ py aE
   |_=>exact PV rfl rfl rx ry ru rv
end
end
variable{a1:bw}
section
section
variable{X:Cx}
local macro_rules| `(tactic| walk_at "rc")=>`(tactic| first|exact SeqAt.RcAt.none_none|exact SeqAt.RcAt.none_bool _|exact SeqAt.RcAt.none_int _ _|exact SeqAt.RcAt.none_str _ _|exact SeqAt.RcAt.bool_none _|exact SeqAt.RcAt.bool_bool _ _|exact SeqAt.RcAt.bool_int _ _ _|exact SeqAt.RcAt.bool_str _ _ _|exact SeqAt.RcAt.int_none _ _|exact SeqAt.RcAt.int_bool _ _ _|exact SeqAt.RcAt.int_int _ _ _ _|exact SeqAt.RcAt.int_str _ _ _ _|exact SeqAt.RcAt.str_none _ _|exact SeqAt.RcAt.str_bool _ _ _|exact SeqAt.RcAt.str_int _ _ _ _|exact SeqAt.RcAt.str_str _ _ _ _)
def aUE(I:Inv X ψ σ H s)(n:Nat)(A:jd)(x y:D)(vx vy:V)(u v:bh)(hu:A.units+(n+1)<uc)(hx:cG (n+1) x=ak)(hy:cG (n+1) y=ak)(rx:RD X.K H x vx)(ry:RD X.K H y vy)(ru:RelV vx u)(rv:RelV vy v):SeqAt.RcAt A s u v (bo x y):=by
 have aE:A.units<uc:=by omega
 cases vw I hx rx ru with
 |@tup a1 Bt dy js h1 r1 _ gT p1 =>
  cases vw I hy ry rv with
  |@tup a2 Bs ds2 bp h2 r2 _ i6 p2 =>
   have z:=SeqAt.RcAt.tuples (e:=yZ dy ds2) p1 p2 aE (Dm (n:=n) r1 r2 gT i6 λx mx y my v w u t q1 q2 q3 q4 =>
      Fe I n A.in1 x y v w u t (Dl hu) (kh.mp (by simpa[cG]using hx) x mx) (kh.mp (by simpa[cG]using hy) y my) q1 q2 q3 q4)
   have e:((lg (min js.toArray.size bp.toArray.size)).all (yZ dy ds2)&&js.toArray.size==bp.toArray.size)=bo (.tup dy) (.tup ds2):=by
    rw[bo,pC,gk,gk,←gT.length,←i6.length,←r1.length,←r2.length]
   rw[e]at z;exact z
  |_=>simp only[bo];with_reducible first|exact SeqAt.RcAt.tuple_none p1 aE|exact SeqAt.RcAt.tuple_bool _ p1 aE|exact SeqAt.RcAt.tuple_int _ _ p1 aE|exact SeqAt.RcAt.tuple_str _ _ p1 aE
 |_ =>
  cases vw I hy ry rv with
  |tup _ _ _ _ p2=>simp only[bo];with_reducible first|exact SeqAt.RcAt.none_tuple p2 aE|exact SeqAt.RcAt.bool_tuple _ p2 aE|exact SeqAt.RcAt.int_tuple _ _ p2 aE|exact SeqAt.RcAt.str_tuple _ _ p2 aE
  |_=>simp only[bo];with_reducible walk_at "rc"
def aUF(I:Inv X ψ σ H s)(n:Nat)(A:jd)(hl:cE X.K H a1 xs)(y:D)(vy:V)(v:bh)(aE:A.units<uc)(hy:cG n y=ak)(ry:RD X.K H y vy)(rv:RelV vy v):SeqAt.RcAt A s (.ref a1) v ao:=by
 let⟨its,vv,pl,_⟩:=I.list hl;cases vw I hy ry rv with
 |tup _ _ _ _ p2=>exact SeqAt.RcAt.list_tuple pl.isList p2 aE
 |_=>with_reducible first|exact SeqAt.RcAt.list_none pl.isList aE|exact SeqAt.RcAt.list_bool _ pl.isList aE|exact SeqAt.RcAt.list_int _ _ pl.isList aE|exact SeqAt.RcAt.list_str _ _ pl.isList aE
def aUG(I:Inv X ψ σ H s)(n:Nat)(A:jd)(hl:cE X.K H a2 xs)(y:D)(vy:V)(v:bh)(aE:A.units<uc)(hy:cG n y=ak)(ry:RD X.K H y vy)(rv:RelV vy v):SeqAt.RcAt A s v (.ref a2) ao:=by
 let⟨its,vv,pl,_⟩:=I.list hl;cases vw I hy ry rv with
 |tup _ _ _ _ p2=>exact SeqAt.RcAt.tuple_list p2 pl.isList aE
 |_=>with_reducible first|exact SeqAt.RcAt.none_list pl.isList aE|exact SeqAt.RcAt.bool_list _ pl.isList aE|exact SeqAt.RcAt.int_list _ _ pl.isList aE|exact SeqAt.RcAt.str_list _ _ pl.isList aE
def aUH(I:Inv X ψ σ H s)(n:Nat)(A:jd){dy ds2:List D}(h1:cE X.K H a1 Bt)(h2:cE X.K H a2 Bs)(r1:cV X.K H dy Bt)(r2:cV X.K H ds2 Bs)
  (hu:A.units+(n+1)<uc)(hx:dy.all (cG n)=ak)(hy:ds2.all (cG n)=ak):SeqAt.RcAt A s (.ref a1) (.ref a2) (xM dy ds2):=by
 have aE:A.units<uc:=by omega
 let⟨js,gT,q1,_⟩:=I.list h1;let⟨bp,i6,q2,_⟩:=I.list h2;have p1:=q1.isList;have p2:=q2.isList;by_cases hl:dy.length=ds2.length
 .have hsz:js.toArray.size=bp.toArray.size:=by rw[gk,gk,←gT.length,←i6.length,←r1.length,←r2.length];exact hl
  have z:=SeqAt.RcAt.lists (e:=yZ dy ds2) p1 p2 hsz aE (Dm (n:=n) r1 r2 gT i6 λx mx y my v w u t q1 q2 q3 q4 =>
      Fe I n A.in1 x y v w u t (Dl hu) (kh.mp hx x mx) (kh.mp hy y my) q1 q2 q3 q4)
  have e:(lg js.toArray.size).all (yZ dy ds2)=xM dy ds2:=by rw[RH hl,gk,←gT.length,←r1.length]
  rw[e]at z;exact z
 .have lh:(js.toArray.size !=bp.toArray.size)=ak:=by rw[gk,gk,←gT.length,←i6.length,←r1.length,←r2.length];simpa using hl
  have e:xM dy ds2=ao:=Q1 (by simpa using hl);rw[e];exact SeqAt.RcAt.lists_lengths p1 p2 lh aE
local macro_rules| `(tactic| walk_at "rc")=>`(tactic| first|exact SeqAt.RcNeAt.none_none|exact SeqAt.RcNeAt.none_bool _|exact SeqAt.RcNeAt.none_int _ _|exact SeqAt.RcNeAt.none_str _ _|exact SeqAt.RcNeAt.bool_none _|exact SeqAt.RcNeAt.bool_bool _ _|exact SeqAt.RcNeAt.bool_int _ _ _|exact SeqAt.RcNeAt.bool_str _ _ _|exact SeqAt.RcNeAt.int_none _ _|exact SeqAt.RcNeAt.int_bool _ _ _|exact SeqAt.RcNeAt.int_int _ _ _ _|exact SeqAt.RcNeAt.int_str _ _ _ _|exact SeqAt.RcNeAt.str_none _ _|exact SeqAt.RcNeAt.str_bool _ _ _|exact SeqAt.RcNeAt.str_int _ _ _ _|exact SeqAt.RcNeAt.str_str _ _ _ _)
def aJ3(I:Inv X ψ σ H s)(n:Nat)(A:jd)(x y:D)(vx vy:V)(u v:bh)(hu:A.units+(n+1)<uc)(hx:cG (n+1) x=ak)(hy:cG (n+1) y=ak)(rx:RD X.K H x vx)(ry:RD X.K H y vy)(ru:RelV vx u)(rv:RelV vy v):SeqAt.RcNeAt A s u v (!bo x y):=by
 have aE:A.units<uc:=by omega
 cases vw I hx rx ru with
 |@tup a1 Bt dy js h1 r1 _ gT p1 =>
  cases vw I hy ry rv with
  |@tup a2 Bs ds2 bp h2 r2 _ i6 p2 =>
   have z:=SeqAt.RcNeAt.tuples (e:=yZ dy ds2) p1 p2 aE (Dm (n:=n) r1 r2 gT i6 λx mx y my v w u t q1 q2 q3 q4 =>
      Fe I n A.in1 x y v w u t (Dl hu) (kh.mp (by simpa[cG]using hx) x mx) (kh.mp (by simpa[cG]using hy) y my) q1 q2 q3 q4)
   have e:((lg (min js.toArray.size bp.toArray.size)).all (yZ dy ds2)&&js.toArray.size==bp.toArray.size)=bo (.tup dy) (.tup ds2):=by
    rw[bo,pC,gk,gk,←gT.length,←i6.length,←r1.length,←r2.length]
   rw[e]at z;exact z
  |_=>simp only[bo,Gd,qi];with_reducible first|exact SeqAt.RcNeAt.tuple_none p1 aE|exact SeqAt.RcNeAt.tuple_bool _ p1 aE|exact SeqAt.RcNeAt.tuple_int _ _ p1 aE|exact SeqAt.RcNeAt.tuple_str _ _ p1 aE
 |_ =>
  cases vw I hy ry rv with
  |tup _ _ _ _ p2=>simp only[bo,Gd,qi];with_reducible first|exact SeqAt.RcNeAt.none_tuple p2 aE|exact SeqAt.RcNeAt.bool_tuple _ p2 aE|exact SeqAt.RcNeAt.int_tuple _ _ p2 aE|exact SeqAt.RcNeAt.str_tuple _ _ p2 aE
  |_=>simp only[bo,Gd,qi];with_reducible walk_at "rc"
def aJ4(I:Inv X ψ σ H s)(n:Nat)(A:jd)(hl:cE X.K H a1 xs)(y:D)(vy:V)(v:bh)(aE:A.units<uc)(hy:cG n y=ak)(ry:RD X.K H y vy)(rv:RelV vy v):SeqAt.RcNeAt A s (.ref a1) v ak:=by
 let⟨its,vv,pl,_⟩:=I.list hl;cases vw I hy ry rv with
 |tup _ _ _ _ p2=>exact SeqAt.RcNeAt.list_tuple pl.isList p2 aE
 |_=>with_reducible first|exact SeqAt.RcNeAt.list_none pl.isList aE|exact SeqAt.RcNeAt.list_bool _ pl.isList aE|exact SeqAt.RcNeAt.list_int _ _ pl.isList aE|exact SeqAt.RcNeAt.list_str _ _ pl.isList aE
def aJ5(I:Inv X ψ σ H s)(n:Nat)(A:jd)(hl:cE X.K H a2 xs)(y:D)(vy:V)(v:bh)(aE:A.units<uc)(hy:cG n y=ak)(ry:RD X.K H y vy)(rv:RelV vy v):SeqAt.RcNeAt A s v (.ref a2) ak:=by
 let⟨its,vv,pl,_⟩:=I.list hl;cases vw I hy ry rv with
 |tup _ _ _ _ p2=>exact SeqAt.RcNeAt.tuple_list p2 pl.isList aE
 |_=>with_reducible first|exact SeqAt.RcNeAt.none_list pl.isList aE|exact SeqAt.RcNeAt.bool_list _ pl.isList aE|exact SeqAt.RcNeAt.int_list _ _ pl.isList aE|exact SeqAt.RcNeAt.str_list _ _ pl.isList aE
def aJ6(I:Inv X ψ σ H s)(n:Nat)(A:jd){dy ds2:List D}(h1:cE X.K H a1 Bt)(h2:cE X.K H a2 Bs)(r1:cV X.K H dy Bt)(r2:cV X.K H ds2 Bs)
  (hu:A.units+(n+1)<uc)(hx:dy.all (cG n)=ak)(hy:ds2.all (cG n)=ak):SeqAt.RcNeAt A s (.ref a1) (.ref a2) (!xM dy ds2):=by
 have aE:A.units<uc:=by omega
 let⟨js,gT,q1,_⟩:=I.list h1;let⟨bp,i6,q2,_⟩:=I.list h2;have p1:=q1.isList;have p2:=q2.isList;by_cases hl:dy.length=ds2.length
 .have hsz:js.toArray.size=bp.toArray.size:=by rw[gk,gk,←gT.length,←i6.length,←r1.length,←r2.length];exact hl
  have z:=SeqAt.RcNeAt.lists (e:=yZ dy ds2) p1 p2 hsz aE (Dm (n:=n) r1 r2 gT i6 λx mx y my v w u t q1 q2 q3 q4 =>
      Fe I n A.in1 x y v w u t (Dl hu) (kh.mp hx x mx) (kh.mp hy y my) q1 q2 q3 q4)
  have e:(lg js.toArray.size).all (yZ dy ds2)=xM dy ds2:=by rw[RH hl,gk,←gT.length,←r1.length]
  rw[e]at z;exact z
 .have lh:(js.toArray.size !=bp.toArray.size)=ak:=by rw[gk,gk,←gT.length,←i6.length,←r1.length,←r2.length];simpa using hl
  have e:xM dy ds2=ao:=Q1 (by simpa using hl);rw[e];exact SeqAt.RcNeAt.lists_lengths p1 p2 lh aE
abbrev rq(G:Gp)(x y:D)(k:Bool->Prop):Prop:=match x,y with
 |.ref a,.ref b=>(match cF G a,cF G b with
  |some xs,aj ys=>xs.all (cG 20)=ak/\ys.all (cG 20)=ak/\k (xM xs ys)
  |_,_=>False)
 |.ref a,y=>(match cF G a with
  |some _=>cG 20 y=ak/\k ao
  |none=>False)
 |x,.ref b=>(match cF G b with
  |some _=>cG 20 x=ak/\k ao
  |none=>False)
 |x,y=>cG 20 x=ak/\cG 20 y=ak/\k (bo x y)
abbrev iL:R3:=λx y G R=>rq G x y λb=>R (.bl b) G
abbrev fE:R3:=λx y G R=>rq G x y λb=>R (.bl (!b)) G
def Jp{r3:R3}(h:∀(ψ:List (bw×Obj))(s:dg)(σ:St)(H:Hp)(x y:D)(vx vy:V)(u v:bh)(G:Gp)(R:lG)(Q:VK),Inv X ψ σ H s->RD X.K H x vx->RD X.K H y vy->RelV vx u->RelV vy v->HR X.K H G->r3 x y G R ->
   (∀w H' d G',Ts H H'->RD X.K H' d w->HR X.K H' G'->R d G'->Q w H')->dh (dz X.prog X.w) X.A (f u v) (EP X ψ σ Q) X.xe s):fS X f r3 :=
 ⟨λvx vy H Q=>∃x y G R,RD X.K H x vx/\RD X.K H y vy/\HR X.K H G/\r3 x y G R/\∀w H' d G',Ts H H'->RD X.K H' d w->HR X.K H' G'->R d G'->Q w H',
  λψ s σ H vx vy u v Q I ru rv ⟨x,y,G,R,rx,ry,g,q,k⟩=>h ψ s σ H x y vx vy u v G R Q I rx ry ru rv g q k,λH x y vx vy G R Q rx ry g q k=>⟨x,y,G,R,rx,ry,g,q,k⟩⟩
private theorem PU(hu:X.A.units+64<uc){neg:Bool}(NF:op=if neg then .NotEq else .Eq){x:D}{v:bh}{k:Bool->Prop}{Q:VK}(I:Inv X ψ σ H s)(rx:RD X.K H x vx)(ry:RD X.K H y vy)(ru:RelV vx u)(rv:RelV vy v)(g:HR X.K H G)
  (h:rq G x y k)(hk:∀b,k b->EP X ψ σ Q (.bool (neg ^^ b)) s):dh (dz X.prog X.w) X.A (ou op u v) (EP X ψ σ Q) X.xe s:=by
 have fin:∀{b:Bool},(if neg then SeqAt.RcNeAt X.A s u v (!b)else SeqAt.RcAt X.A s u v b)->k b->dh (dz X.prog X.w) X.A (ou op u v) (EP X ψ σ Q) X.xe s:=λ{b} z kb=>by
  have e:=hk b kb;cases neg with
  |true =>
   subst NF;rw[Bool.true_xor]at e;exact z X.prog X.w X.xe _ e
  |false =>
   subst NF;rw[Bool.false_xor]at e;exact z X.prog X.w X.xe _ e
 have NC:X.A.units+(20+1)<uc:=by omega
 have NB:X.A.units+(19+1)<uc:=by omega
 have aE:X.A.units<uc:=by omega
 have plain:cG 20 x=ak->cG 20 y=ak->k (bo x y)->dh (dz X.prog X.w) X.A (ou op u v) (EP X ψ σ Q) X.xe s:=λhx hy kk=>fin (b:=bo x y) (by
  cases neg with
  |true=>exact aJ3 I 19 X.A x y vx vy u v NB hx hy rx ry ru rv
  |false=>exact aUE I 19 X.A x y vx vy u v NB hx hy rx ry ru rv) kk
 have left:∀a xs,x=.ref a->cF G a=aj xs->cG 20 y=ak->k ao->dh (dz X.prog X.w) X.A (ou op u v) (EP X ψ σ Q) X.xe s:=λa xs e1 e2 hy kk=>by
  subst e1;cases rx;cases ru;let⟨zs,hz,_⟩:=eO g e2;refine fin (b:=false) ?_ kk;cases neg with
  |true=>exact aJ4 I 20 X.A hz y vy v aE hy ry rv
  |false=>exact aUF I 20 X.A hz y vy v aE hy ry rv
 have right:∀a xs,y=.ref a->cF G a=aj xs->cG 20 x=ak->k ao->dh (dz X.prog X.w) X.A (ou op u v) (EP X ψ σ Q) X.xe s:=λa xs e1 e2 hy kk=>by
  subst e1;cases ry;cases rv;let⟨zs,hz,_⟩:=eO g e2;refine fin (b:=false) ?_ kk;cases neg with
  |true=>exact aJ5 I 20 X.A hz x vx u aE hy rx ru
  |false=>exact aUG I 20 X.A hz x vx u aE hy rx ru
 unfold rq at h;split at h
 .rename_i a b;split at h
  .rename_i xs ys e1 e2;cases rx;cases ry;cases ru;cases rv;let⟨zs1,Nw,q1⟩:=eO g e1;let⟨zs2,Nv,q2⟩:=eO g e2;refine fin (b:=xM xs ys) ?_ h.2.2;cases neg with
   |true=>exact aJ6 I 20 X.A Nw Nv q1 q2 NC h.1 h.2.1
   |false=>exact aUH I 20 X.A Nw Nv q1 q2 NC h.1 h.2.1
  .exact h.elim
 .rename_i a _;split at h
  .rename_i xs e1;exact left a xs rfl e1 h.1 h.2
  .exact h.elim
 .rename_i b _;split at h
  .rename_i xs e1;exact right b xs rfl e1 h.1 h.2
  .exact h.elim
 .exact plain h.1 h.2.1 h.2.2
def aUI(hu:X.A.units+64<uc):fS X (ou .Eq) iL:=Jp λψ s σ H x y vx vy u v G R Q I rx ry ru rv g q k =>
 PU (neg:=false) hu rfl I rx ry ru rv g q λb kb=>⟨.bl b,H,I,by rw[Bool.false_xor];rfl,k _ H (.bl b) G (.refl H) (.bl b) g kb⟩
def aUJ(hu:X.A.units+64<uc):fS X (ou .NotEq) fE:=Jp λψ s σ H x y vx vy u v G R Q I rx ry ru rv g q k =>
 PU (neg:=true) hu rfl I rx ry ru rv g q λb kb=>⟨.bl (!b),H,I,by rw[Bool.true_xor];rfl,k _ H (.bl (!b)) G (.refl H) (.bl (!b)) g kb⟩
end
end
section
open PySem.W PySem.Calls
open PySem.Builtin PySem.Builtin.ObjectAttr PySem.Builtin.Getset_descriptor
section
variable{prog:jr}{w:je}{A:jd}{s:dg}{K:Fg}{x:bw}{o:Obj}
def adV{tp:bh}(X:K.In s.heap)(hx:s.heap.get? x=aj o)(hc:o.cls=.ref C)(hm:mroIn K C (.type "object")=aj ak)
  (h:R (.ok (.ret (.ref C))) s):kP (dz prog w) A (.call (.builtin "getset_descriptor.__get__") ⟨[.builtin "object.__class__",.ref x,tp],[]⟩) R s:=by
 let⟨hh,g,dr,t,os⟩:=s;have L0:Looks (dz prog w) hh (typeOf (.ref x)) (.ref C):=hc ▸ (Looks.ld hx).andThen .now;have L1:=looks_mroIn (M:=model prog w) X hm;refine codeAny_call_builtin KF.slot_gs.plain KF.entry_gs (KF.slot_gs.check _ _ _ _ _ _ _ _ KF.type_class (KF.args_gs _ _ _) ?_);unfold Builtin.«getset_descriptor.__get__» descrGet;rw[dga_obj];refine aq (cj ?_);unfold descrGetter descrCheckInstance descrNameAndClass isInstance;simp only[KF.owner_class]
 repeat lk
 refine⟨Code.quiet_builtin _ (by decide+kernel),codeAny_builtin KF.entry_class ?_⟩;unfold Builtin.«object.__class__» shownTypeOf
 repeat lk
 exact h
def Y6(X:K.In s.heap)(hx:s.heap.get? x=aj o)(hc:o.cls=.ref C)
  (Wn:findIn K (.ref C) "__getattribute__"=aj (aj (.builtin "BaseException.__getattribute__")))(Wm:findIn K (.ref C) "__getattr__"=aj au)(ha:findIn K (.ref C) "__class__"=aj (aj (.builtin "object.__class__")))
  (hb:subIn K (.ref C) (.type "BaseException")=aj ak)(hm:mroIn K C (.type "object")=aj ak)(h:Q (aj (.ref C)) {s with toks:=s.toks+1}):dh (dz prog w) A (getAttr? (.ref x) "__class__") Q E s:=by
 let⟨hh,g,d,t,os⟩:=s;have L0:Looks (dz prog w) hh (typeOf (.ref x)) (.ref C):=hc ▸ (Looks.ld hx).andThen .now;have L1:=looks_findIn (M:=model prog w) X Wn;have Vi:=looks_findIn (M:=model prog w) X Wm;have L3:=looks_findIn (M:=model prog w) X ha;have L4:=looks_subIn (M:=model prog w) X hb;unfold getAttr? getAttrBy? getAttrBy;refine aq (wpAny_mkText (aq (xS (uh (aq (L0.at (aq (L1.at ?_))))))));have hx2:(bh.builtin "BaseException.__getattribute__"==bh.builtin "object.__getattribute__")=ao:=by decide+kernel
 have f3:=PySem.F.attr_ValueError.ga.bind (.ref x);have hk:builtinKind "BaseException.__getattribute__"=aj .slot:=by decide+kernel
 have y9:splitId "BaseException.__getattribute__"=aj ("BaseException","__getattribute__"):=by decide+kernel
 have ha2:=PySem.F.args_bexc_ga (.ref x) (.str "__class__" t)
 repeat (first|with_reducible refine L0.at ?_|with_reducible refine L1.at ?_|with_reducible refine Vi.at ?_|with_reducible refine L3.at ?_|with_reducible refine L4.at ?_|wp_step)
 refine codeAny_call_builtin PySem.F.attr_ValueError.ga.plain PySem.F.entry_bexc_ga ?_;simp only[checkBuiltinCall,hk,y9];unfold isInstance;have f5:=PySem.F.typeOf_object_class;have f6:=PySem.F.slot_gs_get.lookup;have f7:=PySem.F.slot_gs_set.lookup
 repeat (any_goals (first|assumption|with_reducible refine L0.at ?_|with_reducible refine L1.at ?_|with_reducible refine Vi.at ?_|with_reducible refine L3.at ?_|with_reducible refine L4.at ?_|wp_step))
 refine adV X hx hc hm ?_
 repeat (any_goals (first|assumption|wp_step))
end
end
variable{T:String}{σ:St}{R:lG}
section
variable{Q:VK}
section
variable{X:Cx}{x:Str}{pos:Pos}{e:gV}{t:rZ}{id T:String}{r3:List D->Gp->lG->Prop}
abbrev j7(X:Cx)(f:bh)(r3:List D->Gp->lG->Prop):Prop :=
 ∀(ψ:List (bw×Obj))(s:dg)(σ:St)(H:Hp)(xs:List D)(vs:List V)(us:List bh)(G:Gp)(R:lG)(Q:VK),Inv X ψ σ H s->cV X.K H xs vs->Vals vs us->HR X.K H G->r3 xs G R ->
  (∀v H' d G',Ts H H'->RD X.K H' d v->HR X.K H' G'->R d G'->Q v H')->dh (dz X.prog X.w) X.A (call f us) (EP X ψ σ Q) X.xe s
def j7.of{r:List V->Hp->VK->Prop}(h:p9 X f r)(i:∀(H:Hp)(xs:List D)(vs:List V)(G:Gp)(R:lG)(Q:VK),cV X.K H xs vs->HR X.K H G->r3 xs G R ->
  (∀v H' d G',Ts H H'->RD X.K H' d v->HR X.K H' G'->R d G'->Q v H')->r vs H λv H'=>KF X.K H'->Q v H'):j7 X f r3:=λψ s σ H xs vs us G R Q I rx rv g q k =>
 dZ (h ψ s σ H vs us _ I rv (i H xs vs G R Q rx g q k)) λ_ _ ⟨v,H',I',r,q'⟩=>⟨v,H',I',r,q' (og I')⟩
abbrev eU(r3:List D->Gp->lG->Prop)(t:rZ):bN:=λρ G R=>t ρ G λxs G1=>r3 xs G1 R
def vL(hc:j7 X (.builtin id) r3)(hg:Gl X x)(hm:X.mg x=au)(hv:mz x=aj (.builtin id))(ha:dS X (e::es) t)(hn:x≠"__name__":=by decide)(hU:(x==("__debug__":Str))=ao:=by decide)
  (he:iz (e::es) X.env=(ao,eval e X.env)::iz es X.env:=by rfl)(gE:(qz pos (iz es X.env)).any (·.1)=ao:=by rfl):cQ X (.Call (.Name x p) (e::es) [] pos) (eU r3 t):=by
 intro ψ s σ H Q I h;let⟨ρ,G,R,sr,g,q,kk⟩:=h;refine yq (xw I hg hm hv ?_ hn hU)
 exact PyProof.Rows.callWith_builtin1 (dZ (ha pos ψ s σ H (λvs H1=>Ts H H1/\∃ds G1,cV X.K H1 ds vs/\HR X.K H1 G1/\r3 ds G1 R) I ⟨ρ,G,_,sr,g,q,λvs H1 ds G1 t1 r1 g1 q1=>⟨t1,ds,G1,r1,g1,q1⟩⟩) λus s1 ⟨vs,H1,I1,r,t1,ds,G1,r1,g1,q1⟩ =>
  hc ψ s1 σ H1 ds vs us G1 R Q I1 r1 r g1 q1 λv H' d G' t2=>kk v H' d G' (t1.trans t2)) he gE
def QZ(hc:j7 X (.type T) r3)(hg:Gl X x)(hm:X.mg x=au)(hv:mz x=aj (.type T))(ha:dS X (e::es) t)(hn:x≠"__name__":=by decide)(hU:(x==("__debug__":Str))=ao:=by decide)
  (he:iz (e::es) X.env=(ao,eval e X.env)::iz es X.env:=by rfl)(gE:(qz pos (iz es X.env)).any (·.1)=ao:=by rfl):cQ X (.Call (.Name x p) (e::es) [] pos) (eU r3 t):=by
 intro ψ s σ H Q I h;let⟨ρ,G,R,sr,g,q,kk⟩:=h;refine yq (xw I hg hm hv ?_ hn hU)
 exact PyProof.Rows.callWith_type1 (dZ (ha pos ψ s σ H (λvs H1=>Ts H H1/\∃ds G1,cV X.K H1 ds vs/\HR X.K H1 G1/\r3 ds G1 R) I ⟨ρ,G,_,sr,g,q,λvs H1 ds G1 t1 r1 g1 q1=>⟨t1,ds,G1,r1,g1,q1⟩⟩) λus s1 ⟨vs,H1,I1,r,t1,ds,G1,r1,g1,q1⟩ =>
  hc ψ s1 σ H1 ds vs us G1 R Q I1 r1 r g1 q1 λv H' d G' t2=>kk v H' d G' (t1.trans t2)) he gE
abbrev fJ:List D->Gp->lG->Prop:=λxs G R=>match xs with
 |[.str z]=>z.length<=dj/\R (.int z.length) G
 |[.tup ds]=>R (.int ds.length) G
 |[.ref q]=>(match cF G q with
  |some ds=>R (.int ds.length) G
  |none=>False)
 |_=>False
private theorem aPJ:j7 X (.builtin "len") fJ:=j7.of (agS.or agT) λH xs vs G R Q rx g q k=>by
 cases rx with
 |nil=>exact False.elim q
 |cons r rr =>
  cases rr with
  |cons _ _=>cases r<;>exact False.elim q
  |nil =>
   cases r with
   |str z=>exact .inr ⟨z,rfl,q.1,λ_=>k _ H _ G (.refl H) (.int _) g q.2⟩
   |@tup a xs ds ha ra=>exact .inl ⟨a,xs,rfl,.inr ha,λ_=>by rw[←ra.length];exact k _ H _ G (.refl H) (.int _) g q⟩
   |ref a =>
    have q':(match cF G a with
     |some ds=>R (.int ds.length) G
     |none=>False):=q
    split at q'
    .rename_i ds e1;let⟨xs,h1,r1⟩:=eO g e1;exact .inl ⟨a,xs,rfl,.inl h1,λ_=>by rw[←r1.length];exact k _ H _ G (.refl H) (.int _) g q'⟩
    .exact q'.elim
   |_=>exact False.elim q
abbrev A6:List D->Gp->lG->Prop:=λxs G R=>match xs with
 |[.tup ds]=>∀l,G l=au->R (.ref l) (aF G l (.lst ds))
 |[.ref q]=>(match cF G q with
  |some ds=>∀l,G l=au->R (.ref l) (aF G l (.lst ds))
  |none=>False)
 |_=>False
private theorem aJ7:j7 X (.type "list") A6:=j7.of agU λH xs vs G R Q rx g q k=>by
 cases rx with
 |nil=>exact False.elim q
 |cons r rr =>
  cases rr with
  |cons _ _=>cases r<;>exact False.elim q
  |nil =>
   cases r with
   |@tup a xs ds ha ra =>
    refine⟨a,xs,rfl,.inr ha,λl hl kf=>?_⟩;have sn:a9 H (upd H l (.lst xs)):=c7 hl;exact k _ _ _ _ (.same sn) (.ref l) (g.put (u:=.lst ds) hl ⟨_,aL,ra.mono (.same sn)⟩) (q l (rC g hl kf))
   |ref a =>
    have q':(match cF G a with
     |some ds=>∀l,G l=au->R (.ref l) (aF G l (.lst ds))
     |none=>False):=q
    split at q'
    .rename_i ds e1;let⟨xs,h1,r1⟩:=eO g e1;refine⟨a,xs,rfl,.inl h1,λl hl kf=>?_⟩;have sn:a9 H (upd H l (.lst xs)):=c7 hl;exact k _ _ _ _ (.same sn) (.ref l) (g.put (u:=.lst ds) hl ⟨_,aL,r1.mono (.same sn)⟩) (q' l (rC g hl kf))
    .exact q'.elim
   |_=>exact False.elim q
abbrev km(G:Gp):D->Option String
 |.ag=>aj "NoneType"
 |.bl _=>aj "bool"
 |.int _=>aj "int"
 |.str _=>aj "str"
 |.tup _=>aj "tuple"
 |.ref q=>(match G q with
  |some (.lst _)=>aj "list"
  |some (.fo _)=>aj "list"
  |some (.cR _ _)=>aj "dict"
  |_=>au)
 |.ty _=>au
abbrev Ah(G:Gp):D->Option bw
 |.ref q=>(match G q with
  |some (.ir C)=>aj C
  |_=>au)
 |_=>au
abbrev subB(T n:String):Bool:=T==n||(T=="bool"&&n=="int")
abbrev SD:List String:=["NoneType","bool","int","str","list","tuple","dict"]
abbrev gW:List String:=["int","bool","str","list","tuple","dict","ValueError"]
def aJ8:∀T∈SD,∀n∈gW,tF [] (.type T) (.type n)=aj (subB T n):=by decide+kernel
def sE(K:Fg){n:String}(h1:T∈SD)(h2:n∈gW):tF K (.type T) (.type n)=aj (subB T n):=aJ8 T h1 n h2
structure yn(K:Fg)(C:bw):Prop where
 ga:jt K (.ref C) "__getattribute__"=aj (aj (.builtin "BaseException.__getattribute__"))
 gn:jt K (.ref C) "__getattr__"=aj au
 cl:jt K (.ref C) "__class__"=aj (aj (.builtin "object.__class__"))
 be:jc K (.ref C) (.type "BaseException")=aj ak
 ob:PySem.W.mroIn K C (.type "object")=aj ak
 cs:(vg K C).isSome=ak
private theorem XY{K:Fg}{a:bw}(c:yn K C):PySem.W.KitX K (.ref a) (.ref C) (oi C a) where
 ty:=λM h X ⟨o,vs,h1,h2,_⟩=>h2 ▸ (uo.ld h1).andThen .now
 it:=λM h X _=>by
  intro A' Q' E' s' k q;cases eK:vg K C with
  |none=>have:=c.cs;rw[eK]at this;cases this
  |some cd =>
   unfold vg at eK;split at eK
   .rename_i ho;unfold isType loadHead;exact aq (wpAny_loadPart (k _ _ (X _ _ ho)) (cj q))
   .cases eK
 ne:=λh tp dd its n sl X V9=>by
  refine Bool.eq_false_iff.mpr λq=>?_;have e:C=tp:=Value.ref.inj (beq_iff_eq.mp q);subst e;cases eK:vg K C with
  |none=>have:=c.cs;rw[eK]at this;cases this
  |some cd =>
   unfold vg at eK;split at eK
   .rename_i ho;have z:=(X _ _ ho).symm.trans V9;cases z
   .cases eK
 ca:=λX ⟨o,vs,h1,h2,_⟩ k=>Y6 X h1 h2 c.ga c.gn c.cl c.be c.ob k
abbrev aD(K:Fg):List D->Gp->lG->Prop:=λxs G R=>match xs with
 |[x,.ty n]=>(match km G x with
  |some T=>n∈gW/\R (.bl (subB T n)) G
  |none=>(match Ah G x with
   |some C=>∃b,yn K C/\tF K (.ref C) (.type n)=aj b/\R (.bl b) G
   |none=>False))
 |[x,.ref C']=>(match Ah G x with
  |some C=>∃b,yn K C/\tF K (.ref C) (.ref C')=aj b/\R (.bl b) G
  |none=>False)
 |_=>False
private theorem ON{x:D}(h:Ah G x=aj C):∃a,x=.ref a/\G a=aj (.ir C):=by
 cases x with
 |ref q =>
  refine⟨q,rfl,?_⟩
  have h':(match G q with
   |some (.ir C)=>aj C
   |_=>au)=aj C:=h
  split at h'
  .rename_i e1;cases h';exact e1
  .cases h'
 |_=>cases h
def JM{s:dg}{H:Hp}{a C:bw}{c:bh}{b:Bool}{G:Gp}(I:Inv X ψ σ H s)(g:HR X.K H G)(e:G a=aj (.ir C))(hc:yn X.K C)(hk:tF X.K (.ref C) c=aj b)(q:R (.bl b) G)
  (k:∀v H' d G',Ts H H'->RD X.K H' d v->HR X.K H' G'->R d G'->Q v H'):dh (dz X.prog X.w) X.A (call (.builtin "isinstance") [.ref a,c]) (EP X ψ σ Q) X.xe s:=by
 let⟨o0,vs0,z,_⟩:=g a _ e;let⟨_,z1,_,_⟩:=I.af a _ z;exact yd (XY hc) I.b7 z1 hk (λz=>nomatch z) λtk=>⟨.bl b,H,I.tok tk,rfl,k _ H _ G (.refl H) (.bl b) g q⟩
private theorem aJA{s:dg}{H:Hp}{x:D}{vx:V}{u:bh}{n:String}{G:Gp}(I:Inv X ψ σ H s)(rx:RD X.K H x vx)(ru:RelV vx u)(g:HR X.K H G)(e:km G x=aj T)(hn:n∈gW)(q:R (.bl (subB T n)) G)
  (k:∀v H' d G',Ts H H'->RD X.K H' d v->HR X.K H' G'->R d G'->Q v H'):dh (dz X.prog X.w) X.A (call (.builtin "isinstance") [u,.type n]) (EP X ψ σ Q) X.xe s:=by
 have fin:∀tk,EP X ψ σ Q (.bool (subB T n)) {s with toks:=tk}:=λtk=>⟨.bl _,H,I.tok tk,rfl,k _ H _ G (.refl H) (.bl _) g q⟩;cases rx with
 |ag=>cases ru;cases e;exact yd PySem.W.kitx_none I.b7 True.intro (sE _ (by decide) hn) (λz=>nomatch z) fin
 |bl b=>cases ru;cases e;exact yd PySem.W.kitx_bool I.b7 True.intro (sE _ (by decide) hn) (λz=>nomatch z) fin
 |int i=>let⟨t,rfl⟩:=ru;cases e;exact yd PySem.W.kitx_int I.b7 True.intro (sE _ (by decide) hn) (λz=>nomatch z) fin
 |str i=>let⟨t,rfl⟩:=ru;cases e;exact yd PySem.W.kitx_str I.b7 True.intro (sE _ (by decide) hn) (λz=>nomatch z) fin
 |ty n=>cases e
 |@tup a xs ds ha ra =>
  cases ru;cases e;let⟨its,_,p,_⟩:=I.tuple ha;let⟨o,h1,h2,_⟩:=p;exact yd PySem.W.kitx_tuple I.b7 ⟨o,h1,h2⟩ (sE _ (by decide) hn) (λz=>nomatch z) fin
 |ref a =>
  cases ru
  have e':(match G a with
   |some (.lst _)=>aj "list"
   |some (.fo _)=>aj "list"
   |some (.cR _ _)=>aj "dict"
   |_=>au)=aj T:=e
  split at e'
  .rename_i ds e1;cases e';let⟨xs,h1,_⟩:=eO g (show cF G a=aj ds by unfold cF;rw[e1]);let⟨its,_,p,_⟩:=I.list h1;let⟨o,n',h1,h2,_⟩:=p;exact yd PySem.W.kitx_list I.b7 ⟨o,h1,h2⟩ (sE _ (by decide) hn) (λz=>nomatch z) fin
  .rename_i ds e1;cases e';let⟨xs,h1,_⟩:=eO g (show cF G a=aj ds by unfold cF;rw[e1]);let⟨its,_,p,_⟩:=I.list h1;let⟨o,n',h1,h2,_⟩:=p;exact yd PySem.W.kitx_list I.b7 ⟨o,h1,h2⟩ (sE _ (by decide) hn) (λz=>nomatch z) fin
  .rename_i kvs e1;cases e';rcases g a _ e1 with⟨_,xs,h1,_⟩|⟨_,xs,h1,_⟩
   .obtain⟨_,_,vs,_,o,es,ep,h1,h2,_⟩:=I.af a _ h1;exact yd PySem.W.kitx_dict I.b7 ⟨o,h1,h2.1⟩ (sE _ (by decide) hn) (λz=>nomatch z) fin
   .obtain⟨_,_,xs,_,o,es,ep,h1,h2,_⟩:=I.af a _ h1;exact yd PySem.W.kitx_dict I.b7 ⟨o,h1,h2.1⟩ (sE _ (by decide) hn) (λz=>nomatch z) fin
  .cases e'
private theorem ah4:j7 X (.builtin "isinstance") (aD X.K):=by
 intro ψ s σ H xs vs us G R Q I rx rv g q k;cases rx with
 |nil=>exact False.elim q
 |@cons x v ds ws r1 rr =>
  cases rr with
  |nil=>cases r1<;>exact False.elim q
  |@cons y v2 ds2 ws2 r2 VN =>
   cases VN with
   |cons _ _=>cases r2<;>exact False.elim q
   |nil =>
    let⟨u1,u2,rfl,Hq,M4⟩:=vals2 rv;cases r2 with
    |ty n =>
     cases M4
     have q':(match km G x with
      |some T=>n∈gW/\R (.bl (subB T n)) G
      |none=>(match Ah G x with
       |some C=>∃b,yn X.K C/\tF X.K (.ref C) (.type n)=aj b/\R (.bl b) G
       |none=>False)):=q
     split at q'
     .rename_i T eT;exact aJA I r1 Hq g eT q'.1 q'.2 k
     .split at q'
      .rename_i C eC;let⟨a,rfl,ea⟩:=ON eC;let⟨b,hc,hk,q'⟩:=q';cases r1;cases Hq;exact JM I g ea hc hk q' k
      .exact q'.elim
    |ref C' =>
     cases M4
     have q':(match Ah G x with
      |some C=>∃b,yn X.K C/\tF X.K (.ref C) (.ref C')=aj b/\R (.bl b) G
      |none=>False):=q
     split at q'
     .rename_i C eC;let⟨a,rfl,ea⟩:=ON eC;let⟨b,hc,hk,q'⟩:=q';cases r1;cases Hq;exact JM I g ea hc hk q' k
     .exact q'.elim
    |_=>exact False.elim q
end
end
variable{id:String}
section
section
variable{X:Cx}
abbrev FK(x:D)(lo hi:Option Int)(G:Gp)(R:lG):Prop:=match x with
 |.tup xs=>¬ (HT.oY xs.length 0 lo=0/\HT.oY xs.length xs.length hi=xs.length)/\R (.tup (cutD xs lo hi)) G
 |.str z=>z.length<=dj/\R (.str (Txt.slice z lo hi)) G
 |.ref p=>(match cF G p with
  |some xs=>∀q,G q=au->R (.ref q) (aF G q (.lst (cutD xs lo hi)))
  |none=>False)
 |_=>False
def aJB:tT X (λx lo hi H Q=>∃z,x=.str z/\z.length<=dj/\Q (.str (Txt.slice z lo hi)) H):=by
 intro ψ s σ H x v vl vu lo hi sl Q I rx hs pl pu h;let⟨z,rfl,hz,q⟩:=h;let⟨t,rfl⟩:=rx;refine⟨"str",_,F.slot_str_getitem.lookup,typeIs_str _ _ _,?_⟩;have fin:∀t' k,EP X ψ σ Q (.str (Txt.slice z lo hi) t') {s with toks:=k}:=λt' k=>⟨.str _,H,I.tok k,⟨t',rfl⟩,q⟩;cases pl with
 |none =>
  cases pu with
  |none=>exact GL (l:=none) (u:=none) (st:=none) hs rfl (post_val_or_str ⟨lq (Txt.slice_le z _ _) hz,fin⟩)
  |int j uj=>exact GL (l:=none) (u:=some (j,uj)) (st:=none) hs rfl (post_val_or_str ⟨lq (Txt.slice_le z _ _) hz,fin⟩)
 |int i ui =>
  cases pu with
  |none=>exact GL (l:=some (i,ui)) (u:=none) (st:=none) hs rfl (post_val_or_str ⟨lq (Txt.slice_le z _ _) hz,fin⟩)
  |int j uj=>exact GL (l:=some (i,ui)) (u:=some (j,uj)) (st:=none) hs rfl (post_val_or_str ⟨lq (Txt.slice_le z _ _) hz,fin⟩)
def OM{K:Fg}(r:cV K H ds xs)(lo hi:Option Int):cV K H (cutD ds lo hi) (nI xs lo hi):=by
 unfold cutD nI;rw[r.length];exact(r.drop _).take _
abbrev Fu(te:bN)(tl th:tS):bN:=λρ G R=>te ρ G λx G1=>tl ρ G1 λlo G2=>th ρ G2 λhi G3=>FK x lo hi G3 R
private theorem aCR{e:gV}{te:bN}{lo hi:Option gV}{tl th:tS}{p2 pos:Pos}(he:cQ X e te)(hl:Dp X lo tl)(hu:Dp X hi th):cQ X (.Subscript e (.Slice lo hi au p2) pos) (Fu te tl th):=by
 refine PE.imp (PE.kf (X4 (aC8.or (aIG.or aJB)) he hl hu)) λσ H Q h=>?_;let⟨ρ,G,R,s,g,q,k⟩:=h;refine⟨ρ,G,_,s,g,q,λvx H1 x G1 t1 rx g1 q1=>?_⟩;refine⟨ρ,G1,_,s.mono t1,g1,q1,λl H2 G2 t2 g2 q2=>?_⟩;refine⟨ρ,G2,_,s.mono (t1.trans t2),g2,q2,λu H3 G3 t3 g3 q3=>?_⟩;have VM:=rx.mono (t2.trans t3);have tt:=(t1.trans t2).trans t3;cases VM with
 |@tup a xs ds ha ra =>
  refine .inr (.inl ⟨a,xs,rfl,ha,by rw[←ra.length];exact q3.1,λp hp _=>?_⟩);have sn:a9 H3 (upd H3 p (.tup (nI xs l u))):=c7 hp;exact k _ _ _ G3 (tt.trans (.same sn)) (.tup (bz.of aL) ((OM ra l u).mono (.same sn)) (AB aL)) (g3.same sn) q3.2
 |str z=>exact .inr (.inr ⟨z,rfl,q3.1,λ_=>k _ H3 _ G3 tt (.str _) g3 q3.2⟩)
 |ref p =>
  have Hv:(match cF G3 p with
   |some xs=>∀q,G3 q=au->R (.ref q) (aF G3 q (.lst (cutD xs l u)))
   |none=>False):=q3
  split at Hv
  .rename_i ds e1;let⟨xs,hq,ra⟩:=eO g3 e1;refine .inl ⟨p,xs,rfl,hq,λb hb kf=>?_⟩;have sn:a9 H3 (upd H3 b (.lst (nI xs l u))):=c7 hb;exact k _ _ _ _ (tt.trans (.same sn)) (.ref b) (g3.put (u:=.lst (cutD ds l u)) hb ⟨_,aL,(OM ra l u).mono (.same sn)⟩) (Hv b (rC g3 hb kf))
  .exact Hv.elim
 |_=>exact False.elim q3
abbrev pz(T:String)(G:Gp):D->Prop
 |.str _=>T="str"
 |.ref p=>T="list"/\(cF G p).isSome=ak
 |_=>False
def OL{K:Fg}{x:D}(g:HR K H G)(r:RD K H x v)(h:pz T G x):MQ K T v H:=by
 cases r with
 |str z=>exact h
 |ref p =>
  let⟨rfl,h⟩:=h;let⟨ds,e⟩:=Option.isSome_iff_exists.mp h;let⟨xs,hq,_⟩:=eO g e;exact .inl ⟨rfl,xs,hq⟩
 |_=>exact False.elim h
@[simp]def jS:=D->List D->Gp->lG->Prop
abbrev pv(X:Cx)(id:String)(r3:jS):Prop :=
 ∀(ψ:List (bw×Obj))(s:dg)(σ:St)(H:Hp)(x:D)(xs:List D)(vx:V)(vs:List V)(u:bh)(us:List bh)(G:Gp)(R:lG)(Q:VK),Inv X ψ σ H s->RD X.K H x vx->cV X.K H xs vs->RelV vx u->Vals vs us->HR X.K H G->r3 x xs G R ->
  (∀v H' d G',Ts H H'->RD X.K H' d v->HR X.K H' G'->R d G'->Q v H')->dh (dz X.prog X.w) X.A (call (.builtin id) (u::us)) (EP X ψ σ Q) X.xe s
variable{r3:jS}
def pv.of{r:V->List V->Hp->VK->Prop}(h:MtR X id r)(i:∀(H:Hp)(x:D)(xs:List D)(vx:V)(vs:List V)(G:Gp)(R:lG)(Q:VK),RD X.K H x vx->cV X.K H xs vs->HR X.K H G->r3 x xs G R ->
  (∀v H' d G',Ts H H'->RD X.K H' d v->HR X.K H' G'->R d G'->Q v H')->r vx vs H λv H'=>KF X.K H'->Q v H'):pv X id r3:=λψ s σ H x xs vx vs u us G R Q I rx rs ru rv g q k =>
 dZ (h ψ s σ H vx vs u us _ I ru rv (i H x xs vx vs G R Q rx rs g q k)) λ_ _ ⟨v,H',I',r,q'⟩=>⟨v,H',I',r,q' (og I')⟩
abbrev k7(T:String)(r:jS)(to:bN)(t:rZ):bN:=λρ G R=>to ρ G λx G1=>pz T G1 x/\t ρ G1 λxs G2=>r x xs G2 R
abbrev K3(T:String)(r:jS)(to:bN):bN:=λρ G R=>to ρ G λx G1=>pz T G1 x/\r x [] G1 R
def aUM{o:gV}{t:rZ}{apos ai:Pos}(pa:PlainAttrs T)(slot:Slot T name id)(BJ:typeOf (.builtin id)=pure (.type "method_descriptor"))(hm:pv X id r3)(ho:cQ X o to)(ha:dS X (e::es) t)
  (a8:su o name X.env (eval o X.env)=eval o X.env:=by rfl)
  (y3:((qz ai (iz (e::es) X.env)).all (λx=>!x.1)&&(backToKw ai (oj [] X.env)).all (λx=>x.1.isSome)
   &&decide ((e::es).length+([]:List hX).length+(if([]:List hX).isEmpty then 0 else 1)<30))=ak:=by rfl)
  (aT:(apos.endLine==ai.line)=ak:=by rfl)(hs:iz (e::es) X.env=(ao,eval e X.env)::iz es X.env:=by rfl)(ef:(qz ai (iz es X.env)).any (·.1)=ao:=by rfl) :
  cQ X (.Call (.Attribute o name apos) (e::es) [] ai) (k7 T r3 to t):=by
 intro ψ s σ H Q I h;let⟨ρ,G,R,sr,g,q,kk⟩:=h;refine wpAny_Call_method_late a8 y3 aT rfl (dZ (ho ψ s σ H (λvx H1=>Ts H H1/\∃x G1,RD X.K H1 x vx/\HR X.K H1 G1/\pz T G1 x/\t ρ G1 λxs G2=>r3 x xs G2 R) I ⟨ρ,G,_,sr,g,q,λv H1 x G1 t1 r1 g1 q1=>⟨t1,x,G1,r1,g1,q1⟩⟩) ?_);rintro v s1 ⟨vx,H1,I1,r1,t1,x,G1,rx,g1,ty,q1⟩;let⟨h1,h2⟩:=OS I1 r1 (OL g1 rx ty);refine⟨T,id,pa,slot,BJ,h1,h2,?_⟩;have hA:=ha ai ψ s1 σ H1 (λvs H2=>Ts H1 H2/\∃xs G2,cV X.K H2 xs vs/\HR X.K H2 G2/\r3 x xs G2 R) I1 ⟨ρ,G1,_,sr.mono t1,g1,q1,λvs H2 xs G2 t2 r2 g2 q2=>⟨t2,xs,G2,r2,g2,q2⟩⟩;rw[hs]at hA ⊢;refine Calls.callWith_builtin (by show(ao||(qz ai (iz es X.env)).any (·.1))=ao;rw[ef]<;>rfl) (Calls.evalArgs_plain ?_);exact dZ hA (by rintro us s2 ⟨vs,H2,I2,r2,t2,xs,G2,rs,g2,q2⟩;exact hm ψ s2 σ H2 x xs vx vs v us G2 R Q I2 (rx.mono t2) rs r1 r2 g2 q2 λv H' d G' t3=>kk v H' d G' ((t1.trans t2).trans t3))
def aPL{o:gV}{apos ai:Pos}(pa:PlainAttrs T)(slot:Slot T name id)(BJ:typeOf (.builtin id)=pure (.type "method_descriptor"))(hm:pv X id r3)(ho:cQ X o to)
  (a8:su o name X.env (eval o X.env)=eval o X.env:=by rfl)(aT:(apos.endLine==ai.line)=ak:=by rfl):cQ X (.Call (.Attribute o name apos) [] [] ai) (K3 T r3 to):=by
 intro ψ s σ H Q I h;let⟨ρ,G,R,sr,g,q,kk⟩:=h;refine GK a8 aT (dZ (ho ψ s σ H (λvx H1=>Ts H H1/\∃x G1,RD X.K H1 x vx/\HR X.K H1 G1/\pz T G1 x/\r3 x [] G1 R) I ⟨ρ,G,_,sr,g,q,λv H1 x G1 t1 r1 g1 q1=>⟨t1,x,G1,r1,g1,q1⟩⟩) ?_);rintro v s1 ⟨vx,H1,I1,r1,t1,x,G1,rx,g1,ty,q1⟩;let⟨h1,h2⟩:=OS I1 r1 (OL g1 rx ty);exact⟨T,id,pa,slot,BJ,h1,h2,Calls.callWith_builtin rfl (PySem.evalArgs_none (hm ψ s1 σ H1 x [] vx [] v [] G1 R Q I1 rx .nil r1 .nil g1 q1 λv H' d G' t3=>kk v H' d G' (t1.trans t3)))⟩
abbrev jC:jS:=λx xs G R=>match x,xs with
 |.ref p,[d]=>(match G p with
  |some (.lst ds)=>ds.length<dj/\R .ag (aF G p (.lst (ds++[d])))
  |_=>False)
 |_,_=>False
private theorem QY:pv X "list.append" jC:=pv.of RK λH x xs vx vs G R Q rx rs g q k=>by
 cases rx with
 |ref p =>
  cases rs with
  |nil=>exact False.elim q
  |@cons d v ds ws r rr =>
   cases rr with
   |cons _ _=>exact False.elim q
   |nil =>
    have q':(match G p with
     |some (.lst ds)=>ds.length<dj/\R .ag (aF G p (.lst (ds++[d])))
     |_=>False):=q
    split at q'
    .rename_i ds e1;let⟨ys,f1,r1⟩:=g p _ e1;refine⟨p,ys,v,rfl,rfl,f1,by rw[←r1.length];exact q'.1,λ_=>?_⟩;have tt:Ts H (upd H p (.lst (ys++[v]))):=.turn f1 (λ_ z=>nomatch z) (λ_ _ z=>nomatch z);exact k _ _ _ _ tt .ag (g.turn (u:=.lst (ds++[d])) tt ⟨_,aL,(r1.append (.cons r .nil)).mono tt⟩) q'.2
    .exact q'.elim
 |_=>cases rs<;>exact False.elim q
abbrev A5:bN:=λ_ G R=>∀p,G p=au->R (.ref p) (aF G p (.cR ao []))
def aJD{pos:Pos}:cQ X (.Dict [] [] pos) A5:=PE.imp (PE.kf X8) λσ H Q h=>by
 let⟨ρ,G,R,s,g,q,k⟩:=h;intro p hp kf;have sn:a9 H (upd H p (.dK [])):=c7 hp;exact k _ _ _ _ (.same sn) (.ref p) (g.put (u:=.cR ao []) hp (.inl ⟨rfl,[],aL,.nil⟩)) (q p (rC g hp kf))
abbrev CL:bN:=λ_ G R=>∀p,G p=au->R (.ref p) (aF G p (.cR ak []))
def aCS{pos:Pos}:cQ X (.Dict [] [] pos) CL:=PE.imp (PE.kf X7) λσ H Q h=>by
 let⟨ρ,G,R,s,g,q,k⟩:=h;intro p hp kf;have sn:a9 H (upd H p (.dT [])):=c7 hp;exact k _ _ _ _ (.same sn) (.ref p) (g.put (u:=.cR ak []) hp (.inr ⟨rfl,[],aL,.nil⟩)) (q p (rC g hp kf))
end
end
end L2
namespace L2
open PySem
def lV:mz "isinstance"=aj (.builtin "isinstance"):=by decide+kernel
def wF:mz "len"=aj (.builtin "len"):=by decide+kernel
def aJE:mz "min"=aj (.builtin "min"):=by decide+kernel
def Jo:mz "sum"=aj (.builtin "sum"):=by decide+kernel
def RG:mz "sorted"=aj (.builtin "sorted"):=by decide+kernel
def aJF:mz "all"=aj (.builtin "all"):=by decide+kernel
def OK:mz "int"=aj (.type "int"):=by decide+kernel
def PR:mz "bool"=aj (.type "bool"):=by decide+kernel
def aJG:mz "str"=aj (.type "str"):=by decide+kernel
def QX:mz "tuple"=aj (.type "tuple"):=by decide+kernel
def PQ:mz "list"=aj (.type "list"):=by decide+kernel
def aCT:mz "dict"=aj (.type "dict"):=by decide+kernel
end L2
namespace L2
open PySem PySem.Spec PyProof.Rows
variable{cm:Bool}{z:Str}{lo:Int}{l:gV}
section
abbrev GV(x:Str):It:=⟨λi _=>i<x.cps.size,λi H v H'=>H'=H/\∃c,x.cps[i]?=aj c/\v=.str ⟨#[c]⟩,λi _=>x.cps.size<=i⟩
def RF{w:je}{K:iw}(it:bw)(x:Str)(t:Tok):Turn cm tl P w K tg (GV x) [it] it (λi h=>h.IsStrIter it "str_ascii_iterator" x t (min i x.cps.size)) where
 mem:=by simp
 obj:=λi h st b hb=>by
  have e:b=it:=by simpa using hb
  subst e;let⟨o,e,c,d⟩:=st;exact⟨o,e,λv z=>by rw[d]at z;cases z⟩
 keep:=λi h h' st k=>let⟨o,e,r⟩:=st;⟨o,k it (by simp) o e,r⟩
 item:=by
  intro X hP hw hK eI ht i ψ s σ H E I hf st hg;subst hP hw hK;let⟨f0,f1,f2,f3,f4,f5⟩:=hf it (by simp);have hi:i<x.cps.size:=hg;rw[yg (ud hi)]at st;refine wpAny_pyNext_ascii_item st (c:=x.cps[i]) (by simp[hi]) λh' ae kk=>?_;have I1:Inv X ψ σ H {s with heap:=h',toks:=s.toks+1}:=I.turned (λb o hb e=>(kk.2 b hb).trans e) f0 f1 f3 f4 f5;let⟨o,e1,c1,d1⟩:=id ae;refine⟨_,rfl,sL (s:={s with heap:=h',toks:=s.toks+1}) e1 c1 d1 (by decide) ⟨.str ⟨#[x.cps[i]]⟩,H,I1,⟨_,rfl⟩,⟨rfl,x.cps[i],by simp[hi],rfl⟩,?_,λb hb=>(hf b hb).1⟩⟩;rw[yg hi];exact ae
 done:=by
  intro X hP hw hK eI ht i ψ s σ H E I hf st hg;subst hP hw hK;let⟨f0,f1,f2,f3,f4,f5⟩:=hf it (by simp);have hi:x.cps.size<=i:=hg;rw[Nat.min_eq_right hi]at st;exact Zq (I.dC.heap I.af) st (by simp) λh' eb=>⟨rfl,I.turned (t':=s.toks) (λb o hb e=>eb b o hb e) f0 f1 f3 f4 f5⟩
 self:=λ_ _ _ _ _ st h=>wpAny_pyIter_striter_ascii st h
def RE{w:je}{K:iw}(it:bw)(x:Str)(t:Tok):Turn cm tl P w K tg (GV x) [it] it (λi h=>h.IsStrIter it "str_iterator" x t (min i x.cps.size)) where
 mem:=by simp
 obj:=λi h st b hb=>by
  have e:b=it:=by simpa using hb
  subst e;let⟨o,e,c,d⟩:=st;exact⟨o,e,λv z=>by rw[d]at z;cases z⟩
 keep:=λi h h' st k=>let⟨o,e,r⟩:=st;⟨o,k it (by simp) o e,r⟩
 item:=by
  intro X hP hw hK eI ht i ψ s σ H E I hf st hg;subst hP hw hK;let⟨f0,f1,f2,f3,f4,f5⟩:=hf it (by simp);have hi:i<x.cps.size:=hg;rw[yg (ud hi)]at st;refine wpAny_pyNext_wide_item st (c:=x.cps[i]) (by simp[hi]) λh' ae kk=>?_;have I1:Inv X ψ σ H {s with heap:=h',toks:=s.toks+1}:=I.turned (λb o hb e=>(kk.2 b hb).trans e) f0 f1 f3 f4 f5;let⟨o,e1,c1,d1⟩:=id ae;refine⟨_,rfl,sL (s:={s with heap:=h',toks:=s.toks+1}) e1 c1 d1 (by decide) ⟨.str ⟨#[x.cps[i]]⟩,H,I1,⟨_,rfl⟩,⟨rfl,x.cps[i],by simp[hi],rfl⟩,?_,λb hb=>(hf b hb).1⟩⟩;rw[yg hi];exact ae
 done:=by
  intro X hP hw hK eI ht i ψ s σ H E I hf st hg;subst hP hw hK;let⟨f0,f1,f2,f3,f4,f5⟩:=hf it (by simp);have hi:x.cps.size<=i:=hg;rw[Nat.min_eq_right hi]at st;exact Zp (I.dC.heap I.af) st (by simp) λh' eb=>⟨rfl,I.turned (t':=s.toks) (λb o hb e=>eb b o hb e) f0 f1 f3 f4 f5⟩
 self:=λ_ _ _ _ _ st h=>wpAny_pyIter_striter_wide st h
inductive Src where
 |lst (p:bw) (xs:List D)|bE (xs:List D)|zip (p q:bw) (xs ys:List D)|zD (p:bw) (o:Obj) (kvs:List (DK×D))|kg (p:bw) (o:Obj) (t:Bool) (kvs:List (DK×D))|key (p:bw) (o:Obj) (t:Bool) (kvs:List (DK×D))|du (p:bw) (xs:List D)|EA (p:bw) (xs:List D)|D0 (p:bw) (o:Obj) (kvs:List (NK×Int))
abbrev WS(xs:List D):List D:=xs.zipIdx.map λz=>.tup [.int z.2,z.1]
abbrev VQ(xs ys:List D):List D:=(xs.zip ys).map λz=>.tup [z.1,z.2]
abbrev Src.items:Src->List D
 |.lst _ xs=>xs
 |.bE xs=>xs
 |.zip _ _ xs ys=>VQ xs ys
 |.zD _ _ kvs=>kvs.map λz=>.tup [nv z.1,z.2]
 |.kg _ _ _ kvs=>kvs.map λz=>z.2
 |.key _ _ _ kvs=>kvs.map λz=>nv z.1
 |.du _ xs=>xs
 |.EA _ xs=>WS xs
 |.D0 _ _ kvs=>kvs.map λz=>Nd z.1
abbrev Src.ok(G:Gp):Src->Prop
 |.lst p xs=>cF G p=aj xs
 |.bE _=>True
 |.zip p q xs ys=>cF G p=aj xs/\cF G q=aj ys
 |.zD p o kvs=>G p=aj (.bX o ao kvs)
 |.kg p o t kvs=>G p=aj (.bX o t kvs)
 |.key p o t kvs=>G p=aj (.bX o t kvs)
 |.du p xs=>G p=aj (.du xs)
 |.EA p xs=>G p=aj (.du xs)
 |.D0 p o kvs=>G p=aj (.zl o kvs)
abbrev pk(K:Fg)(H1:Hp)(src:Src)(J:It):Prop:=∀H2 G2,Ts H1 H2->HR K H2 G2->src.ok G2 ->
 (∀i,i<src.items.length->J.go i H2)/\(∀i v H',i<src.items.length->J.zd i H2 v H'->a9 H2 H'/\∃d,src.items[i]?=aj d/\RD K H' d v)/\J.stop src.items.length H2
@[simp]def dq:=bZ->Gp->(Src->Gp->Prop)->Prop
abbrev Vv(K:Fg)(t:dq):TI:=λσ H Q=>∃ρ G R,SR K H ρ σ/\HR K H G/\t ρ G R/\∀src J H' G',Ts H H'->HR K H' G'->pk K H' src J->R src G'->Q J H'
@[simp]def ue(X:Cx)(tg iter:gV)(t:dq):Prop:=PI X tg iter (Vv X.K t)
abbrev signs(z:Str):List D:=z.cps.toList.map λc=>.str ⟨#[c]⟩
abbrev Cw(te:bN):dq:=λρ G R=>te ρ G λx G1=>match x with
 |.ref p=>(match cF G1 p with
  |some xs=>R (.lst p xs) G1
  |none=>False)
 |.tup xs=>R (.bE xs) G1
 |.str z=>R (.bE (signs z)) G1
 |_=>False
def RC{K:Fg}:pk K H1 (.lst p xs) (My K p):=λH2 G2 t g ok=>by
 let⟨vs,hq,rv⟩:=eO g (show cF G2 p=aj xs from ok);refine⟨λi hi=>?_,λi v H' hi hy=>?_,⟨vs,hq,xN rv.length.symm⟩⟩
 .have kx:i<xs.length:=hi;let⟨y,e1,_⟩:=rv.get (jj kx);exact⟨vs,y,hq,e1⟩
 .obtain⟨rfl,hy⟩:=hy;let⟨d,e1,e2⟩:=rv.FQ (hy vs hq);exact⟨.refl _,d,e1,e2⟩
def QW{K:Fg}{a:bw}(hq:bz K H1 a vs)(rv:cV K H1 xs vs):pk K H1 (.bE xs) (Mx K a):=λH2 G2 t g ok=>by
 have HX:=t.zk hq;have M3:=rv.mono t;refine⟨λi hi=>?_,λi v H' hi hy=>?_,⟨vs,HX,xN rv.length.symm⟩⟩
 .have kx:i<xs.length:=hi;let⟨y,e1,_⟩:=M3.get (jj kx);exact⟨vs,y,HX,e1⟩
 .obtain⟨rfl,hy⟩:=hy;let⟨d,e1,e2⟩:=M3.FQ (hy vs HX);exact⟨.refl _,d,e1,e2⟩
def Kn{K:Fg}:pk K H1 (.bE (signs z)) (GV z):=λH2 G2 t g ok=>by
 have hl:(signs z).length=z.cps.size:=by simp[signs]
 refine⟨λi hi=>?_,λi v H' hi hy=>?_,?_⟩
 .have:i<(signs z).length:=hi;rw[hl]at this;exact this
 .obtain⟨rfl,c,hc,rfl⟩:=hy;exact⟨.refl _,.str ⟨#[c]⟩,by simp[Src.items,signs,hc],.str _⟩
 .show z.cps.size<=(signs z).length;rw[hl];exact dw _
def Km{K:Fg}{n:Nat}:pk K H1 (.bE ((lg n).map λ(i:Nat)=>.int (lo+(i:Int)))) (Bp lo n):=λH2 G2 t g ok=>by
 refine⟨λi hi=>?_,λi v H' hi hy=>?_,?_⟩
 .have kx:i<n:=by simpa[Src.items]using hi
  exact kx
 .obtain⟨rfl,rfl⟩:=hy;have kx:i<n:=by simpa[Src.items]using hi
  exact⟨.refl _,.int (lo+i),by simp[Src.items,kx],.int _⟩
 .show n<=_;simp[Src.items]
section
variable{X:Cx}
def PI.imp{t:TI}(h:PI X tg e t)(k:∀σ H Q,t' σ H Q->t σ H Q):PI X tg e t':=λψ s σ H Q I q=>h ψ s σ H Q I (k _ _ _ q)
private theorem aPM(hl:cQ X l te):ue X tg l (Cw te):=by
 intro ψ s σ H R I h;let⟨ρ,G,R3,sr,g,q,k⟩:=h
 refine dZ (hl ψ s σ H (λv H1=>Ts H H1/\∃x G1,RD X.K H1 x v/\HR X.K H1 G1/\(match x with
  |.ref p=>(match cF G1 p with
   |some xs=>R3 (.lst p xs) G1
   |none=>False)
  |.tup xs=>R3 (.bE xs) G1
  |.str z=>R3 (.bE (signs z)) G1
  |_=>False)) I ⟨ρ,G,_,sr,g,q,λv H1 x G1 t1 r g1 q1=>⟨t1,x,G1,r,g1,q1⟩⟩) λv s1 ⟨x,H1,I1,r1,t1,d,G1,rd,g1,q1⟩=>?_
 cases rd with
 |ref a =>
  have vj:(match cF G1 a with
   |some xs=>R3 (.lst a xs) G1
   |none=>False):=q1
  split at vj
  .rename_i xs e;cases r1;let⟨vs,hq,rv⟩:=eO g1 e;let⟨its,kr,p,hz⟩:=I1.list hq;refine Go p.isList ?_;refine⟨s1.heap.objs.size,[s1.heap.objs.size],_,_,H1,rfl,I1.kept (t':=s1.toks) λb o e=>cu _ e,RV a _,⟨_,gw _ rfl,rfl,rfl⟩,λb hb=>?_,k _ _ H1 G1 t1 g1 RC vj⟩;have e:b=s1.heap.objs.size:=by simpa using hb
   subst e;exact I1.kM (dw _) (I1.af.fresh (dw _))
  .exact vj.elim
 |@tup a vs xs hq rv =>
  cases r1;let⟨its,kr,p,hz⟩:=I1.tuple hq;refine wpAny_pyIter_tuple (show s1.heap.IsTuple a its.toArray from p) ?_;refine⟨s1.heap.objs.size,[s1.heap.objs.size],_,_,H1,rfl,I1.kept (t':=s1.toks) λb o e=>cu _ e,Sq a _,⟨_,gw _ rfl,rfl,rfl⟩,λb hb=>?_,k _ _ H1 G1 t1 g1 (QW hq rv) q1⟩;have e:b=s1.heap.objs.size:=by simpa using hb
  subst e;exact I1.kM (dw _) (I1.af.fresh (dw _))
 |str z =>
  let⟨t,rfl⟩:=r1;cases ha:z.cps.all (· <128)
  .refine wpAny_pyIter_wide ha ?_;refine⟨s1.heap.objs.size,[s1.heap.objs.size],_,_,H1,rfl,I1.kept (t':=s1.toks) λb o e=>cu _ e,RE _ z t,?_,λb hb=>?_,k _ _ H1 G1 t1 g1 Kn q1⟩
   .rw[Nat.zero_min];exact⟨_,gw _ rfl,rfl,rfl⟩
   .have e:b=s1.heap.objs.size:=by simpa using hb
    subst e;exact I1.kM (dw _) (I1.af.fresh (dw _))
  .refine wpAny_pyIter_ascii ha ?_;refine⟨s1.heap.objs.size,[s1.heap.objs.size],_,_,H1,rfl,I1.kept (t':=s1.toks) λb o e=>cu _ e,RF _ z t,?_,λb hb=>?_,k _ _ H1 G1 t1 g1 Kn q1⟩
   .rw[Nat.zero_min];exact⟨_,gw _ rfl,rfl,rfl⟩
   .have e:b=s1.heap.objs.size:=by simpa using hb
    subst e;exact I1.kM (dw _) (I1.af.fresh (dw _))
 |_=>exact q1.elim
abbrev fA(lo hi:Int):List D:=(lg (hi - lo).toNat).map λ(i:Nat)=>.int (lo+(i:Int))
abbrev A4(ta:rZ):dq:=λρ G R=>ta ρ G λxs G1=>match xs with
 |[.int j]=>-(2^62)<=j/\j<2^62/\R (.bE (fA 0 j)) G1
 |_=>False
abbrev A3(ta:rZ):dq:=λρ G R=>ta ρ G λxs G1=>match xs with
 |[.int i,.int j]=>(-(2^62)<=i/\i<2^62/\-(2^62)<=j/\j<2^62)/\R (.bE (fA i j)) G1
 |_=>False
def aJI{a:gV}{pos:Pos}(hg:Gl X "range")(hm:X.mg "range"=au)(ha:dS X [a] ta)(hs:iz [a] X.env=[(ao,eval a X.env)]):ue X tg (.Call (.Name "range" p) [a] [] pos) (A4 ta) :=
 PI.imp (RU hg hm ha hs) λσ H Q h=>by
 let⟨ρ,G,R,s,g,q,k⟩:=h;refine⟨ρ,G,_,s,g,q,λvs H1 ds G1 t1 r g1 h1=>?_⟩;cases r with
 |nil=>exact h1.elim
 |cons r rr =>
  cases rr with
  |cons _ _=>cases r<;>exact False.elim h1
  |nil =>
   cases r with
   |int j =>
    let⟨l1,l2,h1⟩:=h1;refine⟨j,rfl,l1,l2,k _ _ H1 G1 t1 g1 ?_ h1⟩;unfold fA;rw[show(j - 0).toNat=j.toNat by omega];exact Km
   |_=>exact False.elim h1
def aJJ{a b:gV}{pos:Pos}(hg:Gl X "range")(hm:X.mg "range"=au)(ha:dS X [a,b] ta)(hs:iz [a,b] X.env=[(ao,eval a X.env),(ao,eval b X.env)])(ja:iz [b] X.env=[(ao,eval b X.env)]):ue X tg (.Call (.Name "range" p) [a,b] [] pos) (A3 ta) :=
 PI.imp (RQ hg hm ha hs ja) λσ H Q h=>by
 let⟨ρ,G,R,s,g,q,k⟩:=h;refine⟨ρ,G,_,s,g,q,λvs H1 ds G1 t1 r g1 h1=>?_⟩
 match ds,vs,r,h1 with
 |[],_,_,h1=>exact h1.elim
 |[_],_,.cons r .nil,h1=>cases r<;>exact False.elim h1
 |[_,_],_,.cons r (.cons r' .nil),h1 =>
  cases r with
  |int i =>
   cases r' with
   |int j=>exact⟨i,j,rfl,h1.1,k _ _ H1 G1 t1 g1 Km h1.2⟩
   |_=>exact False.elim h1
  |_=>cases r'<;>exact False.elim h1
 |_::_::_::_,_,.cons r (.cons r' _),h1=>cases r<;>cases r'<;>exact False.elim h1
end
end
variable{env:Env}{v:V}
section
abbrev tO(cells:List (Str×bw)):List (Str×ux)->List (Str×bw)->List (Str×bw)
 |[],cs=>cs
 |(n,k)::r,cs=>tO cells r (if k=.free then(match cells.lookup n with
  |some a=>(n,a)::cs
  |none=>cs)else cs)
def a7K{scope:di}(h:∀y∈scope.names,y.2=.free->∃c,env.cells.lookup y.1=aj c):closureFor scope env=pure (tO env.cells scope.names []):=by
 unfold closureFor
 have all:∀(l:List (Str×ux))(cs:List (Str×bw)),(∀y∈l,y.2=.free->∃c,env.cells.lookup y.1=aj c) ->
   (forIn l cs λ(x:Str×ux)(r:List (Str×bw))=>(if(x.2==ux.free)=ak then do
    let a ←cellOf env x.1
    pure (ForInStep.yield ((x.1,a)::r))else pure (ForInStep.yield r):Sem (ForInStep (List (Str×bw)))))=(pure (tO env.cells l cs):Sem (List (Str×bw))):=by
  intro l
  induction l with
  |nil=>intro cs _;rfl
  |cons y r ih =>
   intro cs hl;let⟨n,k⟩:=y;rw[List.forIn_cons];by_cases hk:k=.free
   .subst hk;let⟨c,hc⟩:=hl (n,.free) (by simp) rfl;have e:cellOf env n=pure c:=by unfold cellOf;rw[hc]
    simp only[beq_self_eq_true,if_true,e];show(forIn r ((n,c)::cs) _:Sem _)=_;rw[ih _ λy hy=>hl y (by simp[hy])];simp only[tO,if_true,hc]
   .have Wj:(k==ux.free)=ao:=by simpa using hk
    simp only[Wj,kj,if_false];show(forIn r cs _:Sem _)=_;rw[ih _ λy hy=>hl y (by simp[hy])];simp only[tO,if_neg hk]
 have z:=all scope.names [] h;exact congrArg (λm=>m >>= λcs=>pure cs) z
private theorem nG{cells:List (Str×bw)}:∀{l:List (Str×ux)}{cs:List (Str×bw)}{y:Str}{c:bw},(tO cells l cs).lookup y=aj c->(∀c,cs.lookup y=aj c->cells.lookup y=aj c)->cells.lookup y=aj c
 |[],cs,y,c,h,k=>k c h
 |(n,kd)::r,cs,y,c,h,k=>by
  unfold tO at h;refine nG h λc' h'=>?_;by_cases hk:kd=.free
  .rw[if_pos hk]at h';split at h'
   .rename_i a ha;rw[wg]at h';split at h'
    .rename_i e;have e':y=n:=beq_iff_eq.mp e;subst e';rw[ha];exact h'
    .exact k c' h'
   .exact k c' h'
  .rw[if_neg hk]at h';exact k c' h'
def Sm{cells:List (Str×bw)}:∀{l:List (Str×ux)}{cs:List (Str×bw)}{y:Str},(∃c,cs.lookup y=aj c)->∃c,(tO cells l cs).lookup y=aj c
 |[],cs,y,h=>h
 |(n,kd)::r,cs,y,h=>by
  unfold tO;refine Sm ?_;by_cases hk:kd=.free
  .rw[if_pos hk];split
   ·rw[wg];split
    ·exact⟨_,rfl⟩
    .exact h
   .exact h
  .rw[if_neg hk];exact h
def Lq{cells:List (Str×bw)}{c:bw}(hc:cells.lookup y=aj c):∀{l:List (Str×ux)}{cs:List (Str×bw)},(y,ux.free)∈l->∃c,(tO cells l cs).lookup y=aj c
 |[],cs,h=>by simp at h
 |(n,kd)::r,cs,h=>by
  unfold tO;rcases nu.mp h with e|h
  .cases e;refine Sm ?_;rw[if_pos rfl,hc];simp
  .exact Lq hc h
private theorem mem_of_lookup{α:Type}:∀{l:List (Str×α)}{y:Str}{k:α},l.lookup y=aj k->(y,k)∈l
 |[],_,_,h=>by simp at h
 |(n,kd)::r,y,k,h=>by
  rw[wg]at h;split at h
  .rename_i e;have e':y=n:=beq_iff_eq.mp e;cases h;subst e';simp
  .exact nj _ (mem_of_lookup h)
structure xt(X:Cx)(xs:List Str)(scope:di):Prop where
 kind:scope.kind=.function
 Jn:∀y∈scope.names,y.2≠.cell
 locs:∀y∈scope.names,y.2=.local->scope.names.lookup y.1=aj .local
 var:∀x∈xs,scope.names.lookup x=aj .local
 frees:∀y∈scope.names,y.2=.free->X.env.kindOf y.1=aj .cell∨X.env.kindOf y.1=aj .free
 out:∀x∈xs,x∉X.N
 nd:xs.Nodup
 only:∀y∈X.N,scope.names.lookup y≠aj .local
@[simp]def wG(X:Cx)(xs:List Str)(scope:di)(C:bw)(gf:dg)(MN:Hp)(fp:List bw)(ψ:List (bw×Obj)):Cx :=
 {X with N:=xs++X.N,av:=gf,az:=MN,env:=compEnvC scope (tO X.env.cells scope.names []) C X.env,outer:=X.stack,stack:=X.stack,ex:=fp,fn:=λ_=>ao,pn:=X.pn++ψ,xe:=λ_ _=>False}
abbrev nn(xs:List Str)(σ:St):St:=xs.map (λ_=>au)++σ
def OJ{xs:List Str}{i:Nat}(h:(nn xs σ)[i]?=aj (aj v)):∃j,i=xs.length+j/\σ[j]?=aj (aj v):=by
 unfold nn at h;by_cases c:i<xs.length
 .rw[GP (by simpa using c)]at h;simp at h
 .rw[Dj (by simpa using c)]at h;exact⟨i - xs.length,⋯,by simpa using h⟩
def PN{α:Type}{xs ys:List α}{j:Nat}:(xs++ys)[xs.length+j]?=ys[j]?:=by
 rw[Dj ⋯];congr 1;omega
def fO{env:Env}{k:ux}:∀{names:List (Str×ux)},(names.map λ(n,k)=>if(k==.free&&env.scope.kind==.function&&env.kindOf n==aj .cell)then(n,.cell)else(n,k)).lookup y=aj k ->
  ∃k',names.lookup y=aj k'/\(k=k'∨(k=.cell/\k'=.free))
 |[],h=>by simp at h
 |(n,kd)::r,h=>by
  rw[ji]at h;by_cases hc:(kd==.free&&env.scope.kind==.function&&env.kindOf n==aj .cell)=ak
  .have h':yu y ((n,ux.cell)::(r.map λ(n,k)=>if(k==.free&&env.scope.kind==.function&&env.kindOf n==aj .cell)then(n,.cell)else(n,k)))=aj k:=by
    simp only[hc,if_true]at h;exact h
   rw[wg]at h' ⊢;cases hx:y==n with
   |true =>
    rw[hx]at h';cases h';refine⟨kd,rfl,.inr ⟨rfl,?_⟩⟩;simp only[bx,beq_iff_eq]at hc;exact hc.1.1
   |false =>
    rw[hx]at h';exact fO h'
  .have h':yu y ((n,kd)::(r.map λ(n,k)=>if(k==.free&&env.scope.kind==.function&&env.kindOf n==aj .cell)then(n,.cell)else(n,k)))=aj k:=by
    simp only[hc,if_false]at h;exact h
   rw[wg]at h' ⊢;cases hx:y==n with
   |true =>
    rw[hx]at h';cases h';exact⟨_,rfl,.inl rfl⟩
   |false =>
    rw[hx]at h';exact fO h'
end
variable{tk:Nat}
section
section
variable{X:Cx}{ψ:List (bw×Obj)}{s:dg}
def JL(I:Inv X ψ σ H s){b:bw}(hb:b∈frs X.stack):b=X.env.locals∨b∈X.fs:=nu.mp (I.Ju b hb)
def aJK(I:Inv X ψ σ H s)(c:xt X xs scope)(hC:s.heap.objs.size<=C)(hf:∀b∈fp,kN X ψ H b/\b<s.heap.objs.size):(wG X xs scope C s H fp ψ).Ok where
 mod:=I.ok.mod
 kind:=c.kind
 glob:=I.ok.glob
 blt:=I.ok.blt
 above:=hC
 inj:=λy z d h1 h2=>I.ok.inj y z d (nG h1 λ_ h=>by simp at h) (nG h2 λ_ h=>by simp at h)
 has:=λy h=>by
  have hy:(y,ux.free)∈scope.names:=by
   rcases h with h|h
   .obtain⟨k',e,z⟩:=fO (env:=X.env) (names:=scope.names) h;rcases z with z|⟨_,z⟩
    .subst z;exact absurd rfl (c.Jn _ (mem_of_lookup e))
    .subst z;exact mem_of_lookup e
   .obtain⟨k',e,z⟩:=fO (env:=X.env) (names:=scope.names) h;rcases z with z|⟨z,_⟩
    .subst z;exact mem_of_lookup e
    .cases z
  let⟨d,hd⟩:=I.ok.has y (c.frees _ hy rfl);exact Lq hd hy
 rV:=λ_ _ h=>absurd h (by simp)
 hd:=I.ok.hd
 frames:=I.ok.frames
 i7:=.inl rfl
 BX:=λb hb=>by
  let⟨⟨f0,f1,f2,f3,f4,f5⟩,lt⟩:=hf b hb;exact⟨ju (jf lt hC),λy d h=>f4 y d (nG h λ_ h=>by simp at h)⟩
 bs:=λb o e=>I.bs b o e
 kG:=lq I.ok.kG I.sz
 sv:=λb o e hb=>by
  let⟨⟨f0,f1,f2,f3,f4,f5⟩,lt⟩:=hf b hb;rcases f3 with z|z
  .exact I.ok.sv b o e z
  .exact absurd (jf (ig e) (lq I.ok.kG z)) (rm _)
 xh:=λb hb hs=>by
  let⟨⟨f0,f1,f2,f3,f4,f5⟩,lt⟩:=hf b hb;rcases JL I hs with z|z
  .exact f1 z
  .exact f2 z
 gS:=I.stack
 nh:=λb hb=>I.JT b hb
def aJL(I:Inv X ψ σ H s)(c:xt X xs scope)(hC:s.heap.objs.size=C)(hf:∀b∈fp,kN X ψ H b/\b<s.heap.objs.size){fm:jw}{m:Str->Option bh}(hn:fm.Ns C m)(hk:∀b o,s.heap.get? b=aj o->fm.get? b=aj o) :
  Inv (wG X xs scope C s H fp ψ) [] (nn xs σ) H {s with heap:=fm,toks:=tk}:=by
 have lt:∀b o,s.heap.get? b=aj o->b≠C:=λb o e=>by rw[←hC];exact ju (ig e)
 refine⟨aJK I c (xN hC) hf,rfl,I.bare,Un.kept hk,⟨m,hn,λi y v e1 e2 e3=>?_⟩,λy d e=>?_,I.af.fresh (xN hC),λy d e=>I.rR y d (nG e λ_ h=>by simp at h),λp hp=>?_,I.af.kept hk,by simp[nn,I.len],I.dC,I.tup⟩
 .obtain⟨i,rfl,rL⟩:=OJ e2
  .have lz:X.N[i]?=aj y:=PN.symm.trans e1;have hy:y∈X.N:=qg lz
   have free:(y,ux.free)∈scope.names:=by
    have WY:∃k,(relabel scope X.env).names.lookup y=aj k/\(k=.local∨k=.cell∨k=.free):=by
     rcases e3 with h|h|h
     .exact⟨_,h,.inl rfl⟩
     .exact⟨_,h,.inr (.inl rfl)⟩
     .exact⟨_,h,.inr (.inr rfl)⟩
    let⟨k,h,hk⟩:=WY;let⟨k',e,z⟩:=fO (env:=X.env) (names:=scope.names) h;rcases z with z|⟨_,z⟩
    .subst z;rcases hk with rfl|rfl|rfl
     .exact absurd e (c.only y hy)
     .exact absurd rfl (c.Jn _ (mem_of_lookup e))
     .exact mem_of_lookup e
    .subst z;exact mem_of_lookup e
   have Em:=c.frees _ free rfl;let⟨m',NJ,Ek⟩:=I.loc;have qE:yi X.env.scope y:=Em.elim (λz=>.inr (.inl z)) λz=>.inr (.inr z);let⟨u,r,l⟩:=Ek i y v lz rL qE;refine⟨u,r,.inr ⟨?_,?_⟩⟩
   .rcases e3 with h|h|h
    .obtain⟨k',e,z⟩:=fO (env:=X.env) (names:=scope.names) h;rcases z with z|⟨z,_⟩
     .subst z;exact absurd e (c.only y hy)
     .cases z
    .exact .inl h
    .exact .inr h
   .rcases l with⟨hl,_⟩|⟨_,d,hd,fc⟩
    .rcases Em with z|z
     .rw[z]at hl;cases hl
     .rw[z]at hl;cases hl
    .obtain⟨d',iq⟩:=Lq (cells:=X.env.cells) (l:=scope.names) (cs:=[]) hd free;have:=nG iq λ_ h=>by simp at h
     rw[hd]at this;cases this;refine⟨d,iq,?_⟩;let⟨o,ho,c8⟩:=fc;exact⟨o,hk _ _ ho,c8⟩
 .obtain⟨w,o,ho,c8⟩:=I.cell y d (nG e λ_ h=>by simp at h);exact⟨w,o,hk _ _ ho,c8⟩
 .have jb:p∈X.pn++ψ:=by simpa using hp
  let⟨e,n,ne,nf,d⟩:=I.pin p jb;refine⟨hk _ _ e,n,lt _ _ e,λz=>?_,d⟩;rcases JL I z with z|z
  .exact ne z
  .exact nf z
def aCU(I:Inv X ψ σ H s)(hC:s.heap.objs.size=C)(hf:∀b∈fp,kN X ψ H b/\b<s.heap.objs.size){s':dg}(J:Inv (wG X xs scope C s H fp ψ) A9 aw H' s')(hs:lu C s'.heap h') :
  Inv X ψ σ H' {s' with heap:=h',toks:=tk}:=by
 have ne:∀b o,s.heap.get? b=aj o->b≠C:=λb o e=>by rw[←hC];exact ju (ig e)
 have u:Un (frs X.stack) fp H H' s.heap s'.heap:=J.base;have d5:H' C=au:=J.free;refine I.fe (ch:=fp) J.os ⟨λb o e n hb hx=>?_,λb o e n hb hx=>?_,u.free,λb o e hx=>?_,u.aI,u.pB,u.fT⟩ (λb o e=>?_) J.bare (λb hb=>?_)
 .exact(hs.2 b (ne b o e)).trans (u.keep b o e n hb hx)
 .obtain⟨sl,e1⟩:=u.slot b o e n hb hx;exact⟨sl,(hs.2 b (ne b o e)).trans e1⟩
 .obtain⟨o',e1⟩:=u.there b o e hx;exact⟨o',(hs.2 b (ne b o e)).trans e1⟩
 .refine(J.af b o e).cf (λd w hd q=>(hs.2 d ?_).trans q) (λ_ q=>q) λ_ _ q=>q;rintro rfl;rcases hd with z|z
  .rw[z]at d5;rw[e]at d5;cases d5
  .rw[d5]at z;cases z
 .obtain⟨⟨f0,f1,f2,f3,f4,f5⟩,lt⟩:=hf b hb;exact⟨f3,f1,f4,f5⟩
end
end
variable{tc:cb}{ψ:List (bw×Obj)}
section
abbrev Cv:cb:=λ_ G R=>R ak G
abbrev B4(X:Cx)(ifs:List gV)(tc:cb):Prop :=
 ∀(ψ:List (bw×Obj))(s:dg)(σ:St)(H:Hp)(Q:Bool->Hp->Prop),Inv X ψ σ H s->mn X.K tc σ H Q ->
  dh (dz X.prog X.w) X.A (forIn ifs ak λc r=>if r=ak then do let ok ←isTrue c X.env (eval c X.env);pure (ForInStep.yield ok)else pure (ForInStep.yield r)) (TP X ψ σ Q) X.xe s
def aCV:B4 X [] Cv:=λψ s σ H Q I h=>by
 let⟨ρ,G,R,sr,g,q,k⟩:=h;exact cj ⟨H,I,k ak H G (.refl H) g q⟩
def aCW{c:gV}(hc:j3 X c tc):B4 X [c] tc:=λψ s σ H Q I h=>by
 rw[List.forIn_cons];simp only[if_true];refine aq (aq (dZ (hc ψ s σ H Q I h) λb s1 q=>?_));exact cj (cj q)
section
variable{X:Cx}{x:Str}{xs:List Str}{bS:gV}{dv:D->Option (List D)}{scope:di}{iter elt:gV}{ifs:List gV}{pos:Pos}{ti:dq}{tc:cb}{te:bN}
structure K2(X:Cx)(ψ:List (bw×Obj))(H':Hp)(C:bw)(h:jw):Prop where
 ns:∃m,h.Ns C m
 free:H' C=au
 loc:C≠X.env.locals
 young:X.av.heap.objs.size<=C
 cells:∀y d,X.env.cells.lookup y=aj d->d≠C
 ψ:∀p∈X.pn++ψ,p.1≠C
def K2.turn{X:Cx}{s:dg}(o:K2 X ψ H' C s.heap)(I:Inv X ψ σ H' s)(hs:lu C s.heap h'):Inv X ψ σ H' {s with heap:=h' } :=
 I.turned (t':=s.toks) (λb ob hb e=>(hs.2 b hb).trans e) o.free o.loc (.inr o.young) o.cells o.ψ
abbrev K1(Y:Cx)(bS:gV)(xs:List Str)(dv:D->Option (List D))(σ:St):Prop:=∀(ψ:List (bw×Obj))(s:dg)(H:Hp)(v:V)(u:bh)(d:D)(ds:List D),Inv Y ψ (nn xs σ) H s->RelV v u->RD Y.K H d v->dv d=aj ds ->
 dh (dz Y.prog Y.w) Y.A (assign bS Y.env u) (λ_ s'=>∃vs,cV Y.K H ds vs/\Inv Y ψ (vs.map aj++σ) H s') Y.xe s
def OI{K:Fg}(s:SR K H ρ σ):∀{ds:List D}{vs:List V},cV K H ds vs->SR K H (ds.map aj++ρ) (vs.map aj++σ)
 |_,_,.nil=>s
 |_,_,.cons h r=>.some h (OI s r)
private theorem XX{prog:jr}{w:je}{A:jd}{elt iter:gV}{ifs:List gV}{scope:di}{pos:Pos}(J:Nat->dg->Prop)
  (turn:∀n s,J n s->dh (dz prog w) A (eS it) (λr s1=>match r with
   |none=>R (.ok .next) s1
   |some v=>dh (dz prog w) A (CW target it v) (λ_ MY=>dh (dz prog w) A (assign target env v) (λ_ s2 =>
     dh (dz prog w) A (forIn ifs ak λc r=>if r=ak then do let ok ←isTrue c env (eval c env);pure (ForInStep.yield ok)else pure (ForInStep.yield r)) (λok s3 =>
      if ok=ak then dh (dz prog w) A (eval elt env) (λx s4 =>
         dh (dz prog w) A (call (.builtin "list.append") [acc,x]) (λ_ s5=>∃m,m<n/\J m s5) (notedBy (dz prog w) A env λe s'=>R (.error e) s') s4) (notedBy (dz prog w) A env λe s'=>R (.error e) s') s3
      else ∃m,m<n/\J m s3) (notedBy (dz prog w) A env λe s'=>R (.error e) s') s2) (notedBy (dz prog w) A env λe s'=>R (.error e) s') MY) (notedBy (dz prog w) A env λe s'=>R (.error e) s') s1) (notedBy (dz prog w) A env λe s'=>R (.error e) s') s)
  (n:Nat)(h:J n s):kP (dz prog w) A (.compLoop (.ListComp elt [⟨target,iter,ifs,0⟩] scope pos) 0 it acc env) R s:=by
 refine codeAny_loop rfl J (λn s hJ=>?_) n h;show dh _ A ((compTurn (.ListComp elt [⟨target,iter,ifs,0⟩] scope pos) 0 it acc env).onRaise (λz=>do noteFrame z env;theTreesLotGoes z)) _ _ s;refine wpAny_noted ?_;rw[compTurn_list];refine aq (wpAny_standAt (aq (ql (turn n s hJ) (λr s1 h1=>?_) λ_ _ z=>z)));cases r with
 |none=>exact cj h1
 |some v =>
  refine aq (ql h1 (λ_ MY WI=>?_) λ_ _ z=>z);refine aq (ql WI (λ_ s2 h2=>aq (ql h2 (λok s3 h3=>?_) λ_ _ z=>z)) λ_ _ z=>z);cases ok with
  |false=>exact cj ⟨rfl,h3⟩
  |true=>exact aq (aq (ql h3 (λx s4 h4=>aq (ql h4 (λ_ s5 h5=>cj (cj ⟨rfl,h5⟩)) λ_ _ z=>z)) λ_ _ z=>z))
private theorem Y5(c:xt X xs scope)(hT:∀C s H fp ψ σ,K1 (wG X xs scope C s H fp ψ) bS xs dv σ)(BP:∀d ds,dv d=aj ds->ds.length=xs.length)(hc:∀C s H fp ψ,B4 (wG X xs scope C s H fp ψ) ifs tc)(he:∀C s H fp ψ,cQ (wG X xs scope C s H fp ψ) elt te){s2:dg}{σ:St}{H H2:Hp}{ρ:bZ}{G1:Gp}{R:lG}{it:bw}{fp:List bw}{tn:Nat->jw->Prop}{J:It}{src:Src}{RR:bh->bw->Result->dg->Prop}(sr:SR X.K H ρ σ)(I2:Inv X ψ σ H2 s2)(T:Turn X.calm X.tp X.prog X.w X.K bS J fp it tn)(br:tn 0 s2.heap)(f2:∀b∈fp,kN X ψ H2 b)(t1:Ts H H2)(g1:HR X.K H2 G1)(sj:pk X.K H2 src J)
  (hlen:src.items.length<dj)(body:∀p,G1 p=au->∃P:Nat->List D->Gp->Prop,P 0 [] (aF G1 p (.lst [])) /\
   (∀k ds G,k<=src.items.length->P k ds G->src.ok G/\G p=aj (.lst ds)/\ds.length<=k) /\
   (∀k d ds G,src.items[k]?=aj d->P k ds G->∃ys,dv d=aj ys/\tc (ys.map aj++ρ) G λb G2=>if b=ak then te (ys.map aj++ρ) G2 λy G3=>G3 p=aj (.lst ds)/\P (k+1) (ds++[y]) (aF G3 p (.lst (ds++[y])))else P (k+1) ds G2) /\
   ∀ds G,P src.items.length ds G->∃G0,Le G0 G/\R (.ref p) G0)
  (WC:∀Da C s5 H' G0,Inv X ψ σ H' s5->K2 X ψ H' C s5.heap->Ts H H'->HR X.K H' G0->R (.ref Da) G0->RR (.ref Da) C (.ok .next) s5) :
  dh (dz X.prog X.w) X.A (newList []) (λacc gf=>dh (dz X.prog X.w) X.A (newFunctionEnv scope X.env.globals (tO X.env.cells scope.names []) [] X.env.qual au .none (aj X.env)) (λDG ka =>
   kP (dz X.prog X.w) X.A (.compStart (.ListComp elt [⟨bS,iter,ifs,0⟩] scope pos) 0 (.ref it) acc {DG with scope:=relabel scope X.env}) (RR acc DG.locals) ka) X.xe gf) X.xe s2:=by
 refine qj ?_;have I3:=I2.SG (its:=[]) (ys:=[]) (t':=s2.toks) .nil (by decide);have hD:H2 s2.heap.objs.size=au:=I2.fresh;have kf:=og I3;have gD:G1 s2.heap.objs.size=au:=rC g1 hD kf;let⟨P,p0,mw,Bx,pend⟩:=body _ gD
 have de:∀b∈fp,b<s2.heap.objs.size:=λb hb=>by
  let⟨o,e,_⟩:=T.obj 0 _ br b hb;exact ig e
 have MG:(s2.heap.push {cls:=.type "list",data:=.seq ([]:List bh).toArray}).objs.size=s2.heap.objs.size+1:=Gf ..
 have Eo:∀b∈fp,kN X ψ (upd H2 s2.heap.objs.size (.lst [])) b/\b<(s2.heap.push {cls:=.type "list",data:=.seq ([]:List bh).toArray}).objs.size:=λb hb=>by
  let⟨f0,fr⟩:=f2 b hb;exact⟨⟨by rw[aY (ju (de b hb))];exact f0,fr⟩,by rw[MG];exact Nat.lt_succ_of_lt (de b hb)⟩
 refine wpAny_newFunctionEnv c.Jn (by intro y hy;simp at hy) (λfm mf md=>?_) c.kind;dsimp only at mf md ⊢;generalize WE:s2.heap.push {cls:=.type "list",data:=.seq ([]:List bh).toArray}=h3 at *;generalize hDe:s2.heap.objs.size=Da at *;have Tq:∀b o,h3.get? b=aj o->fm.get? b=aj o:=λb o e=>md.extBut b o (ju (ig e)) (cu _ e)
 show kP (dz X.prog X.w) X.A (Code.compStart (elt.ListComp [{target:=bS,iter:=iter,ifs:=ifs,is_async:=0}] scope pos) 0 (bh.ref it) (bh.ref Da) (compEnvC scope (tO X.env.cells scope.names []) h3.objs.size X.env))
  (RR (.ref Da) h3.objs.size) {s2 with heap:=fm,toks:=s2.toks+([]:List (Str×bh)).length}
 have J0:=aJL (tk:=s2.toks+([]:List (Str×bh)).length) I3 c rfl Eo mf Tq;have zi:tn 0 fm:=T.keep _ _ _ br λb hb o e=>Tq b o (by rw[←WE];exact cu _ e);have g0:HR X.K (upd H2 Da (.lst [])) (aF G1 Da (.lst [])):=g1.put (u:=.lst []) hD ⟨[],aL,.nil⟩;have VA:Ts H2 (upd H2 Da (.lst [])):=.same (c7 hD)
 have loop:∀ka:dg,Inv (wG X xs scope h3.objs.size {s2 with heap:=h3,toks:=s2.toks} (upd H2 Da (.lst [])) fp ψ) [] (nn xs σ) (upd H2 Da (.lst [])) ka->tn 0 ka.heap ->
   kP (dz X.prog X.w) X.A (.compLoop (.ListComp elt [⟨bS,iter,ifs,0⟩] scope pos) 0 (.ref it) (.ref Da) (compEnvC scope (tO X.env.cells scope.names []) h3.objs.size X.env)) (RR (.ref Da) h3.objs.size) ka:=by
  intro ka J4 ik
  refine XX (λn s'=>∃i ds H' G',Inv (wG X xs scope h3.objs.size {s2 with heap:=h3,toks:=s2.toks} (upd H2 Da (.lst [])) fp ψ) [] (nn xs σ) H' s'/\tn i s'.heap/\(∀b∈fp,H' b=au)/\HR X.K H' G'/\P i ds G'/\i<=src.items.length/\n=src.items.length - i/\Ts H2 H') (λn s' hI=>?_) src.items.length
   ⟨0,[],_,_,J4,ik,λb hb=>(Eo b hb).1.1,g0,p0,qm _,by simp,VA⟩
  let⟨i,ds,H',G',J,st,fr,g',p,kx,rfl,ts⟩:=hI;let⟨ok,hDl,NS⟩:=mw i ds G' kx p;let⟨VI,aUN,aPO⟩:=sj H' G' ts g' ok
  have Im:∀{H':Hp},(∀b∈fp,H' b=au)->∀b∈fp,kN (wG X xs scope h3.objs.size {s2 with heap:=h3,toks:=s2.toks} (upd H2 Da (.lst [])) fp ψ) [] H' b:=λhn b hb=>by
   let⟨⟨f0,f1,WR,f3,f4,f5⟩,lt⟩:=Eo b hb;refine⟨hn b hb,ju lt,λhs=>?_,.inl hb,λy d e=>f4 y d (nG e λ_ h=>by simp at h),λp' jb=>f5 p' (by simpa using jb)⟩;rcases JL I3 hs with z|z
   .exact f1 z
   .exact WR z
  by_cases ip:i<src.items.length
  .refine ql (T.item (wG X xs scope h3.objs.size {s2 with heap:=h3,toks:=s2.toks} (upd H2 Da (.lst [])) fp ψ) rfl rfl rfl (λh=>h) (λ_ h=>h) i [] s' (nn xs σ) H' (λ_ _=>False) J (Im fr) st (VI i ip)) ?_ λ_ _ z=>z.elim;rintro r s5 ⟨u,hr,h5⟩;subst hr
   obtain⟨d0,ys,Wu,ey,aUP⟩:∃d ys,src.items[i]?=aj d/\dv d=aj ys/\tc (ys.map aj++ρ) G' λb G2=>if b=ak then te (ys.map aj++ρ) G2 λy G3=>G3 Da=aj (.lst ds)/\P (i+1) (ds++[y]) (aF G3 Da (.lst (ds++[y])))else P (i+1) ds G2:=by
    have hd:src.items[i]?=aj src.items[i]:=jj ip;let⟨ys,e,z⟩:=Bx i _ ds G' hd p;exact⟨_,ys,hd,e,z⟩
   show dh _ _ (CW bS (.ref it) u) _ _ s5;refine ql h5 ?_ λ_ _ z=>z.elim;rintro _ s6 ⟨vx,H6,I6,r6,y6,Hm,WN⟩;let⟨sm,d,hd,rd⟩:=aUN i vx H6 ip y6;have g':=g'.same sm;have ts:=ts.trans (.same sm);obtain rfl:d0=d:=jk.inj (Wu.symm.trans hd);have I6':=I6.pinned (Im WN) (T.obj _ _ Hm);refine ql (hT _ _ _ _ _ _ _ s6 H6 vx u _ _ I6' r6 rd ey) ?_ λ_ _ z=>z.elim;rintro _ s7 ⟨vs,M0,I7⟩;have lv:vs.length=xs.length:=by rw[←M0.length];exact BP _ _ ey
   have OH:∀{ot:dg}{Mz:St}{Dv:Hp},Inv (wG X xs scope h3.objs.size {s2 with heap:=h3,toks:=s2.toks} (upd H2 Da (.lst [])) fp ψ) ([]++A8 fp s6.heap) Mz Dv ot->tn (i+1) ot.heap/\∀b∈fp,Dv b=au:=λGX=>by
    refine⟨T.keep _ _ _ Hm λb hb o e=>(GX.pin (b,o) (ug _ (ug _ (yV hb e)))).1,λb hb=>?_⟩;let⟨o,e,_⟩:=T.obj _ _ Hm b hb;exact(GX.pin (b,o) (ug _ (ug _ (yV hb e)))).2.1
   have down:∀{ot:dg}{Dv:Hp},Inv (wG X xs scope h3.objs.size {s2 with heap:=h3,toks:=s2.toks} (upd H2 Da (.lst [])) fp ψ) ([]++A8 fp s6.heap) (vs.map aj++σ) Dv ot->Inv (wG X xs scope h3.objs.size {s2 with heap:=h3,toks:=s2.toks} (upd H2 Da (.lst [])) fp ψ) [] (nn xs σ) Dv ot:=λGX =>
    GX.Ga.weak (by simp[nn,lv]) λj v e=>by
     let⟨j',rfl,e'⟩:=OJ e;rw[←lv,show vs.length=(vs.map aj).length by simp,PN];exact e'
   have MU:SR X.K H6 (ys.map aj++ρ) (vs.map aj++σ):=OI (sr.mono (t1.trans ts)) M0
   refine ql (hc _ _ _ _ _ _ s7 (vs.map aj++σ) H6 (λb H8=>Ts H6 H8/\∃G8,HR X.K H8 G8/\(if b=ak then te (ys.map aj++ρ) G8 λy G3=>G3 Da=aj (.lst ds)/\P (i+1) (ds++[y]) (aF G3 Da (.lst (ds++[y])))else P (i+1) ds G8)) I7
    ⟨ys.map aj++ρ,G',_,MU,g',aUP,λb H8 G8 t8 g8 q8=>⟨t8,G8,g8,q8⟩⟩) (λb s8 ⟨H8,I8,t8,G8,g8,q8⟩=>?_) λ_ _ z=>z.elim
   cases b with
   |false =>
    rw[if_neg (by decide)];have Hu:P (i+1) ds G8:=by simpa using q8
    let⟨a1,a2⟩:=OH I8;exact⟨src.items.length - (i+1),⋯,i+1,ds,H8,G8,down I8,a1,a2,g8,Hu,ip,rfl,ts.trans t8⟩
   |true =>
    rw[if_pos rfl];have Hu:te (ys.map aj++ρ) G8 λy G3=>G3 Da=aj (.lst ds)/\P (i+1) (ds++[y]) (aF G3 Da (.lst (ds++[y]))):=by simpa using q8
    refine ql (he _ _ _ _ _ _ s8 (vs.map aj++σ) H8 (λvy H9=>Ts H8 H9/\∃y G9,RD X.K H9 y vy/\HR X.K H9 G9/\G9 Da=aj (.lst ds)/\P (i+1) (ds++[y]) (aF G9 Da (.lst (ds++[y])))) I8 ⟨ys.map aj++ρ,G8,_,MU.mono t8,g8,Hu,λvy H9 y G9 t9 r9 g9 q9=>⟨t9,y,G9,r9,g9,q9⟩⟩) ?_ λ_ _ z=>z.elim;rintro uy s9 ⟨vy,H9,I9,ry,t9,y,G9,VJ,g9,WG,q9⟩;let⟨ws,NX,rws⟩:=g9 Da _ WG;have aPQ:ws.length<dj:=by rw[←rws.length];omega
    refine ql (RK (X:=wG X xs scope h3.objs.size {s2 with heap:=h3,toks:=s2.toks} (upd H2 Da (.lst [])) fp ψ) _ s9 (vs.map aj++σ) H9 (.ref Da) [vy] (.ref Da) [uy] (λ_ Vn=>Vn=upd H9 Da (.lst (ws++[vy]))) I9 rfl (.cons ry .nil) ⟨Da,ws,vy,rfl,rfl,NX,aPQ,rfl⟩) ?_ λ_ _ z=>z.elim;rintro _ s10 ⟨_,Vn,Vm,_,Ai⟩;subst Ai;let⟨a1,a2⟩:=OH Vm;have tt:Ts H9 (upd H9 Da (.lst (ws++[vy]))):=.turn NX (λ_ z=>nomatch z) (λ_ _ z=>nomatch z);exact⟨src.items.length - (i+1),⋯,i+1,ds++[y],_,_,down Vm,a1,a2,g9.turn (u:=.lst (ds++[y])) tt ⟨_,aL,(rws.append (.cons VJ .nil)).mono tt⟩,q9,ip,rfl,((ts.trans t8).trans t9).trans tt⟩
  .have WU:i=src.items.length:=by omega
   subst WU;refine ql (T.done (wG X xs scope h3.objs.size {s2 with heap:=h3,toks:=s2.toks} (upd H2 Da (.lst [])) fp ψ) rfl rfl rfl (λh=>h) (λ_ h=>h) _ [] s' (nn xs σ) H' (λ_ _=>False) J (Im fr) st aPO) ?_ λ_ _ z=>z.elim;rintro r s5 ⟨hr,J5⟩;subst hr;let⟨m5,Wh,_⟩:=id J5.loc;let⟨G0,l0,q0⟩:=pend ds G' p;have I5:Inv X ψ σ H' s5:=aCU (tk:=s5.toks) I3 rfl Eo J5 (lu.refl _ _);refine WC Da _ s5 H' G0 I5 ⟨⟨m5,Wh⟩,J5.free,Bb I3.lt,I3.sz,λy d e z=>?_,λp hp z=>?_⟩ (t1.trans ts) (g'.le l0) q0
   .obtain⟨w,o,ho,_⟩:=I3.cell y d e;rw[z]at ho;exact absurd (ig ho) (rm _)
   .have:=(I3.pin p hp).1;rw[z]at this;exact absurd (ig this) (rm _)
 exact codeAny_compStart_list (loop _ J0 zi) (T.self X.A 0 _ _ _ zi (loop _ J0 zi))
abbrev JK(dv:D->Option (List D))(ti:dq)(tc:cb)(te:bN):bN:=λρ G R=>ti ρ G λsrc G1=>src.items.length<dj/\∀p,G1 p=au->∃P:Nat->List D->Gp->Prop,P 0 [] (aF G1 p (.lst [])) /\
 (∀k ds G,k<=src.items.length->P k ds G->src.ok G/\G p=aj (.lst ds)/\ds.length<=k) /\
 (∀k d ds G,src.items[k]?=aj d->P k ds G->∃ys,dv d=aj ys/\tc (ys.map aj++ρ) G λb G2=>if b=ak then te (ys.map aj++ρ) G2 λy G3=>G3 p=aj (.lst ds)/\P (k+1) (ds++[y]) (aF G3 p (.lst (ds++[y])))else P (k+1) ds G2) /\
 ∀ds G,P src.items.length ds G->∃G0,Le G0 G/\R (.ref p) G0
abbrev pj(d:D):Option (List D):=some [d]
@[simp]def Fd(ti:dq)(tc:cb)(te:bN):bN:=JK pj ti tc te
def XW(d:D)(ds:List D)(h:pj d=aj ds):ds.length=[x].length:=by
 unfold pj at h;cases h;rfl
def OG(c:xt X xs scope)(dC:X.N.Nodup):(xs++X.N).Nodup:=zj.mpr ⟨c.nd,dC,λa ha b hb e=>c.out a ha (e ▸ hb)⟩
def aJO(c:xt X [x] scope)(dC:X.N.Nodup):K1 (wG X [x] scope C s H fp ψ) (.Name x px) [x] pj σ:=by
 intro A9 s' H' v u d ds I r rd e;unfold pj at e;cases e;have VR:PG (wG X [x] scope C s H fp ψ) (.Name x px) (E0 0):=JS (OG c dC) rfl (.inl (lookup_relabel_local (c.var x (by simp)))) (.inr (lookup_relabel_local (c.var x (by simp))));refine ql (VR A9 s' (nn [x] σ) H' v u (λaw H2=>aw=[v].map aj++σ/\H2=H') I r ⟨rfl,rfl⟩) ?_ λ_ _ z=>z;rintro _ s2 ⟨c5,H2,I2,e2,e3⟩;subst e2;subst e3;exact⟨[v],.cons rd .nil,I2⟩
def aCX(c:xt X xs scope)(hT:∀C s H fp ψ σ,K1 (wG X xs scope C s H fp ψ) bS xs dv σ)(BP:∀d ds,dv d=aj ds->ds.length=xs.length)(hi:ue X bS iter ti)(hc:∀C s H fp ψ,B4 (wG X xs scope C s H fp ψ) ifs tc)(he:∀C s H fp ψ,cQ (wG X xs scope C s H fp ψ) elt te)
  (hs:∀y,C4 iter X.env y=pure y):cQ X (.ListComp elt [⟨bS,iter,ifs,0⟩] scope pos) (JK dv ti tc te):=by
 intro ψ s σ H Q I h;let⟨ρ,G,R,sr,g,q,kk⟩:=h;rw[eval_ListComp];refine wpAny_comprehension_free (use:=none) rfl hs (a7K λy hy hf=>I.ok.has y.1 (c.frees y hy hf)) c.kind c.locs ?_
 refine dZ (hi ψ s σ H (λJ H1=>Ts H H1/\∃src G1,HR X.K H1 G1/\pk X.K H1 src J/\(src.items.length<dj/\∀p,G1 p=au->∃P:Nat->List D->Gp->Prop,P 0 [] (aF G1 p (.lst [])) /\
   (∀k ds G,k<=src.items.length->P k ds G->src.ok G/\G p=aj (.lst ds)/\ds.length<=k) /\
   (∀k d ds G,src.items[k]?=aj d->P k ds G->∃ys,dv d=aj ys/\tc (ys.map aj++ρ) G λb G2=>if b=ak then te (ys.map aj++ρ) G2 λy G3=>G3 p=aj (.lst ds)/\P (k+1) (ds++[y]) (aF G3 p (.lst (ds++[y])))else P (k+1) ds G2) /\
   ∀ds G,P src.items.length ds G->∃G0,Le G0 G/\R (.ref p) G0)) I ⟨ρ,G,_,sr,g,q,λsrc J H' G' t1 g1 sj q1=>⟨t1,src,G',g1,sj,q1⟩⟩) λv s1 h1=>dZ h1 λHP s2 hz=>?_
 let⟨it,fp,tn,J,H2,e,I2,T,br,f2,t1,src,G1,g1,sj,hlen,body⟩:=hz;subst e
 exact Y5 (RR:=λacc C=>compPost (dz X.prog X.w) X.A X.xe au (EP X ψ σ Q) acc C) c hT BP hc he sr I2 T br f2 t1 g1 sj hlen body λDa C s5 H' G0 I5 o ts g0 q0=>by
  let⟨m,hn⟩:=o.ns;exact⟨m,hn,λh' oP=>⟨.ref Da,H',o.turn I5 oP,rfl,kk _ H' _ G0 ts (.ref Da) g0 q0⟩⟩
end
end
variable{ds:List D}
section
@[simp]def hZ:=D->bZ->(bZ->Prop)->Prop
abbrev Vx(K:Fg)(t:hZ):TG:=λv σ H Q=>∃ρ d R,SR K H ρ σ/\RD K H d v/\t d ρ R/\∀ba aw,SR K H ba aw->R ba->Q aw H
@[simp]def Ds(X:Cx)(tg:gV)(t:hZ):Prop:=PG X tg (Vx X.K t)
abbrev xp(i:Nat):hZ:=λd ρ Q=>Q (iO ρ i d)
abbrev AO:bZ->List Nat->List D->bZ
 |ρ,i::is,d::ds=>AO (iO ρ i d) is ds
 |ρ,_,_=>ρ
abbrev Tp(is:List Nat):hZ:=λd ρ Q=>match d with
 |.tup ds=>ds.length=is.length/\Q (AO ρ is ds)
 |_=>False
abbrev IT:St->List Nat->List V->St
 |σ,i::is,v::vs=>IT (σ.set i (aj v)) is vs
 |σ,_,_=>σ
def SR.sets{K:Fg}:∀{is:List Nat}{ds:List D}{vs:List V}{ρ:bZ}{σ:St},cV K H ds vs->SR K H ρ σ->SR K H (AO ρ is ds) (IT σ is vs)
 |[],_,_,_,_,_,s=>s
 |_::_,_,_,_,_,.nil,s=>s
 |i::is,_,_,_,_,.cons h r,s=>SR.sets (is:=is) r (s.set h i)
section
variable{X:Cx}
def PG.imp{t:TG}(h:PG X e t)(k:∀v σ H Q,t' v σ H Q->t v σ H Q):PG X e t':=λψ s σ H v u Q I r q=>h ψ s σ H v u Q I r (k _ _ _ _ q)
def aJP{i:Nat}{x:Str}{pos:Pos}(hN:X.N.Nodup)(hi:X.N[i]?=aj x)(hx:Loc X.env.scope x)(hf:X.fn x=ak∨X.env.scope.names.lookup x=aj .local):Ds X (.Name x pos) (xp i) :=
 PG.imp (JS hN hi hx hf) λv σ H Q h=>by
 let⟨ρ,d,R,s,r,q,k⟩:=h;exact k _ _ (s.set r i) q
structure K0(X:Cx)(e:gV)(i:Nat):Prop where
 ex:∃x pos,e=.Name x pos/\X.N[i]?=aj x/\Loc X.env.scope x/\(X.fn x=ak∨X.env.scope.names.lookup x=aj .local)
abbrev KZ:List Nat->yk
 |[]=>SO
 |i::is=>Tw (E0 i) (KZ is)
def PM:∀{is:List Nat}{vs:List V}{σ:St}{H:Hp}{Q:St->Hp->Prop},vs.length=is.length->Q (IT σ is vs) H->KZ is vs σ H Q
 |[],[],_,_,_,_,q=>⟨rfl,q⟩
 |[],_::_,_,_,_,h,_=>by simp at h
 |_::_,[],_,_,_,h,_=>by simp at h
 |i::is,v::vs,σ,H,Q,h,q=>⟨v,vs,rfl,PM (is:=is) (by simpa using h) q⟩
def RB(hN:X.N.Nodup):∀{es:List gV}{is:List Nat},b9 (K0 X) es is->Dr X es (KZ is)/\(qh es X.env).length=is.length/\(qh es X.env).findIdx? (·.1)=au
 |_,_,.nil=>⟨aBM,rfl,rfl⟩
 |_,_,.cons (a:=e) (b:=i) h r=>by
  let⟨x,pos,rfl,h1,h2,h3⟩:=h.ex;let⟨a1,a2,a3⟩:=RB hN r;refine⟨Yi (JS hN h1 h2 h3) a1 rfl,?_,?_⟩
  .show(qh _ X.env).length+1=_;rw[a2];rfl
  .show((ao,assign (.Name x pos) X.env)::qh _ X.env).findIdx? (·.1)=au;rw[List.findIdx?_cons];simp[a3]
def aPS{k:Nat}{pos:Pos}(hN:X.N.Nodup)(hc:X.calm=ak)(h:b9 (K0 X) es is):Ds X (.Tuple es k pos) (Tp is):=by
 let⟨a1,a2,a3⟩:=RB hN h;refine PG.imp (aHP hc a1 a2 a3) λv σ H Q h=>?_;let⟨ρ,d,R,s,r,q,k⟩:=h;cases r with
 |@tup a vs ds hq rv =>
  have q':ds.length=is.length/\R (AO ρ is ds):=q;exact⟨a,vs,rfl,hq,by rw[←rv.length];exact q'.1,PM (by rw[←rv.length];exact q'.1) (k _ _ (SR.sets rv s) q'.2)⟩
 |_=>exact False.elim q
abbrev kL(K:Fg)(src:Src)(J:It):Prop:=∀H2 G2,HR K H2 G2->src.ok G2 ->
 (∀i,i<src.items.length->J.go i H2)/\(∀i v H',i<src.items.length->J.zd i H2 v H'->a9 H2 H'/\∃d,src.items[i]?=aj d/\RD K H' d v)/\J.stop src.items.length H2
abbrev aUS(K:Fg)(t:dq):TI:=λσ H Q=>∃ρ G R,SR K H ρ σ/\HR K H G/\t ρ G R/\∀src J H' G',Ts H H'->HR K H' G'->kL K src J->R src G'->Q J H'
@[simp]def t7(X:Cx)(tg iter:gV)(t:dq):Prop:=PI X tg iter (aUS X.K t)
abbrev FJ(te:bN):dq:=λρ G R=>te ρ G λx G1=>match x with
 |.ref p=>(match cF G1 p with
  |some xs=>R (.lst p xs) G1
  |none=>False)
 |.str z=>R (.bE (signs z)) G1
 |.tup xs=>xs.all mv=ak/\∀a,(G1 a=au∨G1 a=aj (.du xs))->R (.du a xs) (aF G1 a (.du xs))
 |_=>False
def aPT{K:Fg}{d:D}(h:mv d=ak)(r:RD K H d v)(r':RD K H d' v):d'=d:=by
 cases r with
 |ag=>cases r';rfl
 |bl b=>cases r';rfl
 |int i=>cases r';rfl
 |str x=>cases r';rfl
 |_=>exact Bool.noConfusion (show ao=ak from h)
def OF{K:Fg}:∀{ds Aj:List D}{vs:List V},ds.all mv=ak->cV K H ds vs->cV K H Aj vs->Aj=ds
 |_,_,_,_,.nil,.nil=>rfl
 |d::ds,d'::Aj,_,h,.cons r rr,.cons r' VO=>by
  rw[List.all_cons,bx]at h;rw[aPT h.1 r r',OF h.2 rr VO]
def XV{a:bw}{o:GO}(I:Inv X ψ σ H s)(g:HR X.K H G)(hq:bz X.K H a xs)(e:G a=aj o):∃ds,o=.du ds/\cV X.K H ds xs:=by
 have no:∀u,H a=aj u->(∀ys,u≠.tup ys)->(∀ob ys,u≠.jX ob (.tup ys))->False:=λu hu h1 h2=>by
  rcases hq with(q|⟨ob,q⟩)|⟨ob,_,_,q,_⟩
  .rw[hu]at q;exact h1 _ (jk.inj q)
  .rw[hu]at q;exact h2 _ _ (jk.inj q)
  .have:=og I a ob q;rw[hu]at this;cases this
 have z:=g a o e;cases o with
 |lst ds=>let⟨_,q,_⟩:=z;exact(no _ q (λ_ w=>nomatch w) (λ_ _ w=>nomatch w)).elim
 |fo ds =>
  let⟨_,q,_⟩:=z;let⟨_,_,⟨o1,n1,e1,c1,_⟩,_⟩:=I.list q;let⟨_,_,⟨o2,e2,c2,_⟩,_⟩:=I.tuple hq;rw[e1]at e2;cases e2;rw[c1]at c2;exact absurd c2 (by decide)
 |cR t kvs=>rcases z with⟨_,_,q,_⟩|⟨_,_,q,_⟩<;>exact(no _ q (λ_ w=>nomatch w) (λ_ _ w=>nomatch w)).elim
 |ins C fs=>let⟨_,_,q,_⟩:=z;exact(no _ q (λ_ w=>nomatch w) (λ_ _ w=>nomatch w)).elim
 |ir C=>let⟨_,_,q,_⟩:=z;exact(no _ q (λ_ w=>nomatch w) (λ_ _ w=>nomatch w)).elim
 |BD kvs=>let⟨_,q,e⟩:=z;exact(no _ q e.no.1 λ_ _ w=>e.no.2.1 _ _ w).elim
 |zl ob kvs=>let⟨_,q,e⟩:=z;exact(no _ q (λ_ w=>nomatch w) λ_ _ w=>e.no.1 _ (HO.jX.inj w).2).elim
 |bX ob t kvs=>rcases z with⟨_,_,q,_⟩|⟨_,_,q,_⟩<;>exact(no _ q (λ_ w=>nomatch w) (λ_ _ w=>nomatch w)).elim
 |du ds=>let⟨ys,q,r⟩:=z;exact⟨ds,rfl,by rw[←I.Ls q hq];exact r⟩
def aCZ{a:bw}(I:Inv X ψ σ H s)(g:HR X.K H G)(hq:bz X.K H a xs)(rv:cV X.K H ds xs)(sc:ds.all mv=ak) :
  (G a=au∨G a=aj (.du ds))/\HR X.K H (aF G a (.du ds)):=by
 refine⟨?_,λb o e=>?_⟩
 .cases e:G a with
  |none=>exact .inl rfl
  |some o=>let⟨Aj,rfl,r⟩:=XV I g hq e;exact .inr (by rw[OF sc rv r])
 .by_cases hb:b=a
  .subst hb;rw[aC]at e;cases e;exact⟨xs,hq,rv⟩
  .rw[aH hb]at e;exact g b o e
def XU{K:Fg}:kL K (.du p xs) (Mx K p):=λH2 G2 g ok=>by
 let⟨vs,hq,rv⟩:=g p _ ok;exact QW hq rv H2 G2 (.refl _) g trivial
def Y4{K:Fg}:kL K (.lst p xs) (My K p):=λH2 G2 g ok=>RC (H1:=H2) H2 G2 (.refl _) g ok
def QV{K:Fg}:kL K (.bE (signs z)) (GV z):=λH2 G2 g ok=>Kn (H1:=H2) H2 G2 (.refl _) g ok
def QU{K:Fg}{n:Nat}:kL K (.bE ((lg n).map λ(i:Nat)=>.int (lo+(i:Int)))) (Bp lo n):=λH2 G2 g ok=>Km (H1:=H2) H2 G2 (.refl _) g ok
def aUT{t:dq}(h:t7 X tg e t):ue X tg e t:=PI.imp h λσ H Q ⟨ρ,G,R,sr,g,q,k⟩=>⟨ρ,G,R,sr,g,q,λsrc J H' G' t1 g1 sS r=>k src J H' G' t1 g1 (λH2 G2 _ g2 ok=>sS H2 G2 g2 ok) r⟩
private theorem aJS(hl:cQ X l te):t7 X tg l (FJ te):=by
 intro ψ s σ H R I h;let⟨ρ,G,R3,sr,g,q,k⟩:=h
 refine dZ (hl ψ s σ H (λv H1=>Ts H H1/\∃x G1,RD X.K H1 x v/\HR X.K H1 G1/\(match x with
  |.ref p=>(match cF G1 p with
   |some xs=>R3 (.lst p xs) G1
   |none=>False)
  |.str z=>R3 (.bE (signs z)) G1
  |.tup xs=>xs.all mv=ak/\∀a,(G1 a=au∨G1 a=aj (.du xs))->R3 (.du a xs) (aF G1 a (.du xs))
  |_=>False)) I ⟨ρ,G,_,sr,g,q,λv H1 x G1 t1 r g1 q1=>⟨t1,x,G1,r,g1,q1⟩⟩) λv s1 ⟨x,H1,I1,r1,t1,d,G1,rd,g1,q1⟩=>?_
 cases rd with
 |ref a =>
  have vj:(match cF G1 a with
   |some xs=>R3 (.lst a xs) G1
   |none=>False):=q1
  split at vj
  .rename_i xs e;cases r1;let⟨vs,hq,rv⟩:=eO g1 e;let⟨its,kr,p,hz⟩:=I1.list hq;refine Go p.isList ?_;refine⟨s1.heap.objs.size,[s1.heap.objs.size],_,_,H1,rfl,I1.kept (t':=s1.toks) λb o e=>cu _ e,RV a _,⟨_,gw _ rfl,rfl,rfl⟩,λb hb=>?_,k _ _ H1 G1 t1 g1 Y4 vj⟩;have e:b=s1.heap.objs.size:=by simpa using hb
   subst e;exact I1.kM (dw _) (I1.af.fresh (dw _))
  .exact vj.elim
 |str z =>
  let⟨t,rfl⟩:=r1;cases ha:z.cps.all (· <128)
  .refine wpAny_pyIter_wide ha ?_;refine⟨s1.heap.objs.size,[s1.heap.objs.size],_,_,H1,rfl,I1.kept (t':=s1.toks) λb o e=>cu _ e,RE _ z t,?_,λb hb=>?_,k _ _ H1 G1 t1 g1 QV q1⟩
   .rw[Nat.zero_min];exact⟨_,gw _ rfl,rfl,rfl⟩
   .have e:b=s1.heap.objs.size:=by simpa using hb
    subst e;exact I1.kM (dw _) (I1.af.fresh (dw _))
  .refine wpAny_pyIter_ascii ha ?_;refine⟨s1.heap.objs.size,[s1.heap.objs.size],_,_,H1,rfl,I1.kept (t':=s1.toks) λb o e=>cu _ e,RF _ z t,?_,λb hb=>?_,k _ _ H1 G1 t1 g1 QV q1⟩
   .rw[Nat.zero_min];exact⟨_,gw _ rfl,rfl,rfl⟩
   .have e:b=s1.heap.objs.size:=by simpa using hb
    subst e;exact I1.kM (dw _) (I1.af.fresh (dw _))
 |@tup a vs xs hq rv =>
  cases r1;let⟨its,kr,p,hz⟩:=I1.tuple hq;let⟨sc,q1⟩:=q1;let⟨hG,g2⟩:=aCZ I1 g1 hq rv sc;refine wpAny_pyIter_tuple (show s1.heap.IsTuple a its.toArray from p) ?_;refine⟨s1.heap.objs.size,[s1.heap.objs.size],_,_,H1,rfl,I1.kept (t':=s1.toks) λb o e=>cu _ e,Sq a _,⟨_,gw _ rfl,rfl,rfl⟩,λb hb=>?_,k _ _ H1 _ t1 g2 XU (q1 a hG)⟩;have e:b=s1.heap.objs.size:=by simpa using hb
  subst e;exact I1.kM (dw _) (I1.af.fresh (dw _))
 |_=>exact q1.elim
def aD0{a:gV}{pos:Pos}(hg:Gl X "range")(hm:X.mg "range"=au)(ha:dS X [a] ta)(hs:iz [a] X.env=[(ao,eval a X.env)]):t7 X tg (.Call (.Name "range" p) [a] [] pos) (A4 ta) :=
 PI.imp (RU hg hm ha hs) λσ H Q h=>by
 let⟨ρ,G,R,s,g,q,k⟩:=h;refine⟨ρ,G,_,s,g,q,λvs H1 ds G1 t1 r g1 h1=>?_⟩;cases r with
 |nil=>exact h1.elim
 |cons r rr =>
  cases rr with
  |cons _ _=>cases r<;>exact False.elim h1
  |nil =>
   cases r with
   |int j =>
    let⟨l1,l2,h1⟩:=h1;refine⟨j,rfl,l1,l2,k _ _ H1 G1 t1 g1 ?_ h1⟩;unfold fA;rw[show(j - 0).toNat=j.toNat by omega];exact QU
   |_=>exact False.elim h1
def aD1{a b:gV}{pos:Pos}(hg:Gl X "range")(hm:X.mg "range"=au)(ha:dS X [a,b] ta)(hs:iz [a,b] X.env=[(ao,eval a X.env),(ao,eval b X.env)])(ja:iz [b] X.env=[(ao,eval b X.env)]):t7 X tg (.Call (.Name "range" p) [a,b] [] pos) (A3 ta) :=
 PI.imp (RQ hg hm ha hs ja) λσ H Q h=>by
 let⟨ρ,G,R,s,g,q,k⟩:=h;refine⟨ρ,G,_,s,g,q,λvs H1 ds G1 t1 r g1 h1=>?_⟩
 match ds,vs,r,h1 with
 |[],_,_,h1=>exact h1.elim
 |[_],_,.cons r .nil,h1=>cases r<;>exact False.elim h1
 |[_,_],_,.cons r (.cons r' .nil),h1 =>
  cases r with
  |int i =>
   cases r' with
   |int j=>exact⟨i,j,rfl,h1.1,k _ _ H1 G1 t1 g1 QU h1.2⟩
   |_=>exact False.elim h1
  |_=>cases r'<;>exact False.elim h1
 |_::_::_::_,_,.cons r (.cons r' _),h1=>cases r<;>cases r'<;>exact False.elim h1
abbrev A2(ti:dq)(tg:hZ)(tb:oX):oX:=λF ρ G=>ti ρ G λsrc G1=>∃P:Nat->bZ->Gp->Prop,P 0 ρ G1/\(∀k ρ G,k<=src.items.length->P k ρ G->src.ok G) /\
 (∀k d ρ G,src.items[k]?=aj d->P k ρ G->tg d ρ λeA=>tb {F with nx:=P (k+1),ct:=P (k+1),bk:=F.nx} eA G)/\∀ρ G,P src.items.length ρ G->F.nx ρ G
def aJT{ti:dq}{tg:hZ}{pos:Pos}(hp:sQ (dz X.prog X.w) X.A X.env X.xe)(hi:t7 X bS iter ti)(hg:Ds X bS tg)(hb:iN X body tb)
  (hs:∀x,C4 iter X.env x=pure x):fk X (.For bS iter body [] pos) (A2 ti tg tb):=PS.imp (OU hp hi hg hb hs) λF σ H h=>by
 let⟨ρ,G,E,s,g,q,d⟩:=h
 refine⟨ρ,G,λsrc G1=>∃P:Nat->bZ->Gp->Prop,P 0 ρ G1/\(∀k ρ G,k<=src.items.length->P k ρ G->src.ok G) /\
  (∀k d ρ G,src.items[k]?=aj d->P k ρ G->tg d ρ λeA=>tb {E with nx:=P (k+1),ct:=P (k+1),bk:=E.nx} eA G)/\∀ρ G,P src.items.length ρ G->E.nx ρ G,s,g,q,λsrc J H1 G1 t1 g1 sj ⟨P,p0,mw,Bx,pend⟩=>?_⟩
 refine Q4 (K:=X.K) (n:=src.items.length) (λk c5 H2=>∃ba G',SR X.K H2 ba c5/\HR X.K H2 G'/\P k ba G') ⟨ρ,G1,s.mono t1,g1,p0⟩ (λc5 H2 ⟨ba,G',s2,g2,p⟩=>?_) (λk c5 H2 hk ⟨ba,G',s2,g2,p⟩=>?_) (λk y c5 H2 H3 hk ⟨ba,G',s2,g2,p⟩ hy=>?_)
  (λc5 H2 ⟨ba,G',s2,g2,p⟩=>d.nx ba G' c5 H2 s2 g2 (pend ba G' p))
 .exact(sj H2 G' g2 (mw _ ba G' (dw _) p)).2.2
 .exact(sj H2 G' g2 (mw _ ba G' (ud hk) p)).1 k hk
 .obtain⟨sm,dk,e1,e2⟩:=(sj H2 G' g2 (mw _ ba G' (ud hk) p)).2.1 k y H3 hk hy;refine⟨ba,dk,_,s2.mono (.same sm),e2,Bx k dk ba G' e1 p,λeA i5 s3 q3=>?_⟩;exact⟨eA,G',_,s3,g2.same sm,q3,⟨λoo G4 DS H4 s4 g4 q4=>⟨oo,G4,s4,g4,q4⟩,d.rt,d.nx,λoo G4 DS H4 s4 g4 q4=>⟨oo,G4,s4,g4,q4⟩⟩⟩
end
end
section
abbrev Ay:D->Bool
 |.bl _=>ak
 |_=>ao
abbrev Ax:D->Bool
 |.bl b=>b
 |_=>ao
abbrev AN:List D->Gp->lG->Prop:=λxs G R=>match xs with
 |[.ref q]=>(match cF G q with
  |some ds=>ds.all Ay=ak/\R (.bl (ds.all Ax)) G
  |none=>False)
 |_=>False
abbrev zg(ds:List D)(i:Nat):Bool:=match ds[i]? with
 |some d=>Ax d
 |none=>ao
def range_all(ds:List D):(lg ds.length).all (zg ds)=ds.all Ax:=by
 rw[Bool.eq_iff_iff,kh,kh];constructor
 .intro h d hd;let⟨i,hi⟩:=List.getElem?_of_mem hd;have:=h i (yx.mpr (jl.mp hi).1);simpa[zg,hi]using this
 .intro h i hi;have kx:=yx.mp hi;unfold zg;rw[jj kx];exact h _ (Gk kx)
section
variable{X:Cx}
def Y3{K:Fg}(r:cV K H ds vs)(v:Vals vs us)(hb:ds.all Ay=ak){i:Nat}(e:us[i]?=aj u):u=.bool (zg ds i):=by
 let⟨d,x,h1,h2,h3⟩:=Vals.IU r v e;have hd:Ay d=ak:=kh.mp hb d (qg h1);unfold zg;rw[h1];cases h2 with
 |bl b=>exact h3
 |_=>cases hd
private theorem aPU(hc:X.calm=ak):j7 X (.builtin "all") AN:=by
 intro ψ s σ H xs vs us G R Q I rx rv g q k;cases rx with
 |nil=>exact False.elim q
 |cons r1 rr =>
  cases rr with
  |cons _ _=>cases r1<;>exact False.elim q
  |nil =>
   cases r1 with
   |ref a =>
    let⟨u,rfl,ru⟩:=vals1 rv;cases ru
    have q':(match cF G a with
     |some ds=>ds.all Ay=ak/\R (.bl (ds.all Ax)) G
     |none=>False):=q
    split at q'
    .rename_i ds e1;let⟨ys,hq,r1⟩:=eO g e1;let⟨its,kr,p,hz⟩:=I.list hq;refine call_all_walk (Go p.isList ?_);have ha:a<s.heap.objs.size:=by let⟨o,n,e,_⟩:=p;exact ig e
     have fresh:∀b o,s.heap.get? b=aj o->b∉[s.heap.objs.size]:=λb o e z=>by
      have z':b=s.heap.objs.size:=by simpa using z
      exact absurd (ig e) (by rw[z'];exact rm _)
     have hh:X.A.in1.handled=au:=I.ok.hd hc;refine⟨s.heap.objs.size,_,_,_,_,_,zg ds,rfl,Walks.list (prog:=X.prog) (w:=X.w) hh _ a (ju ha) its.toArray,⟨⟨_,gw _ rfl,rfl,rfl⟩,p.isList.at λo e=>cu _ e⟩,?_,λh' tk kk=>?_⟩
     .intro i v s' Q' E' hv WD;have:=Y3 r1 kr q'.1 (i:=i) (u:=v) (by simpa using hv);subst this;exact xg WD
     .have el:its.toArray.size=ds.length:=by rw[gk,←kr.length,←r1.length]
      rw[el,range_all];exact⟨.bl _,H,I.kept λb o e=>kk b o (fresh b o e) (cu _ e),rfl,k _ H _ G (.refl H) (.bl _) g q'.2⟩
    .exact q'.elim
   |_=>exact False.elim q
abbrev Hy(xs:List D)(f:Int->Int->Prop):Prop:=match xs with
 |[.int i,.int j]=>f i j
 |_=>False
abbrev To:List D->Gp->lG->Prop:=λxs G R=>Hy xs λi j=>R (.int (if j<i then j else i)) G
private theorem XT{K:Fg}(r:cV K H xs vs)(h:Hy xs f):∃i j,xs=[.int i,.int j]/\vs=[.int i,.int j]/\f i j:=by
 unfold Hy at h;split at h
 .rename_i i j;cases r with
  |cons r1 r =>
  cases r with
  |cons r2 r =>
  cases r;cases r1;cases r2;exact⟨i,j,rfl,rfl,h⟩
 .exact h.elim
def aPV(hc:X.calm=ak):j7 X (.builtin "min") To:=j7.of (Zi hc) λH xs vs G R Q rx g q k=>by
 let⟨i,j,rfl,rfl,q'⟩:=XT (f:=λi j=>R (.int (if j<i then j else i)) G) rx q;exact⟨i,j,rfl,λ_=>k _ H _ G (.refl H) (.int _) g q'⟩
end
end
variable{zs:List (Int×Tok)}{ns:List Int}
section
abbrev vk(x:D)(f:Int->Prop):Prop:=match x with
 |.int k=>f k
 |_=>False
section
variable{X:Cx}{pos:Pos}
abbrev EU(i:Nat)(f:Int->Int->Int)(te:bN):oX:=λF ρ G=>cO i ρ G λx G0=>vk x λa=>te ρ G0 λy G1=>vk y λb=>F.nx (iO ρ i (.int (f a b))) G1
private theorem Tn{i:Nat}{x:Str}(hN:X.N.Nodup)(hi:X.N[i]?=aj x)(hx:Loc X.env.scope x)(ho:yW X (inplaceOp op) (il λi j=>.int (f i j)))(he:cQ X e te)(hf:X.fn x=ak∨X.env.scope.names.lookup x=aj .local) :
  fk X (.AugAssign (.Name x pos') op e pos) (EU i f te):=PS.imp (aHR hN hi hx he (ti:=il λi j=>.int (f i j)) (λψ s σ H x y v u Q I rx ry q=>ho ψ s σ H x y v u Q I rx ry q) hf) λF σ H h=>by
 let⟨ρ,G,E,s,g,q,d⟩:=h
 have q':(match pe ρ i with
  |some x=>vk x λa=>te ρ G λy G1=>vk y λb=>E.nx (iO ρ i (.int (f a b))) G1
  |none=>False):=q
 split at q'
 .rename_i x0 e0;let⟨v,e1,rv⟩:=s.get e0;cases rv with
  |int a =>
   refine⟨.int a,e1,ρ,G,_,s,g,q',λv H' y G' t1 r g1 h=>?_⟩;cases r with
   |int b=>exact⟨a,b,rfl,rfl,d.nx _ G' _ H' ((s.mono t1).set (.int _) i) g1 h⟩
   |_=>exact False.elim h
  |_=>exact False.elim q'
 .exact q'.elim
abbrev Ft(c:cb)(tb:oX):oX:=λF ρ G=>∃W:Nat->bZ->Gp->Prop,(∃m,W m ρ G)/\∀m ρ G,W m ρ G->c ρ G λb G1=>if b=ak then tb {F with nx:=λba G'=>∃m',m'<m/\W m' ba G',ct:=λba G'=>∃m',m'<m/\W m' ba G',bk:=F.nx} ρ G1 else F.nx ρ G1
def aD2{c:gV}(hp:sQ (dz X.prog X.w) X.A X.env X.xe)(hc:j3 X c tc)(hb:iN X body tb):fk X (.While c body [] pos) (Ft tc tb):=PS.imp (Yh hp hc hb) λF σ H h=>by
 let⟨ρ,G,E,s,g,⟨W,⟨m0,w0⟩,turn⟩,d⟩:=h;refine⟨λm σ H=>∃ρ G,SR X.K H ρ σ/\HR X.K H G/\W m ρ G,⟨m0,ρ,G,s,g,w0⟩,λm ml H1 ⟨mm,G1,s1,g1,w1⟩=>⟨mm,G1,_,s1,g1,turn m mm G1 w1,λb H2 G2 t2 g2 q2=>?_⟩⟩;cases b with
 |true =>
  rw[if_pos rfl];rw[if_pos rfl]at q2;refine⟨λaw H'=>∃ba G',SR X.K H' ba aw/\HR X.K H' G'/\∃m',m'<m/\W m' ba G',λaw H' ⟨ba,G',s',g',m',hm,w'⟩=>⟨m',hm,ba,G',s',g',w'⟩,mm,G2,_,s1.mono t2,g2,q2,?_⟩;exact⟨λba G' aw H' s' g' q'=>⟨ba,G',s',g',q'⟩,d.rt,d.nx,λba G' aw H' s' g' q'=>⟨ba,G',s',g',q'⟩⟩
 |false=>exact d.nx _ _ _ _ (s1.mono t2) g2 (by simpa using q2)
end
def ints_of{K:Fg}:∀{ns:List Int}{vs:List V}{us:List bh},cV K H (ns.map D.int) vs->Vals vs us->∃ys:List (Int×Tok),us=ys.map (λp=>bh.int p.1 p.2)/\ys.map (·.1)=ns
 |[],_,_,r,v=>by cases r;cases v;exact⟨[],rfl,rfl⟩
 |n::ns,_,_,r,v=>by
  cases r with
  |cons h r =>
   cases h with
   |int i =>
    cases v with
    |cons hu v =>
     let⟨t,rfl⟩:=hu;let⟨ys,e1,e2⟩:=ints_of r v;exact⟨(n,t)::ys,by rw[e1];rfl,by rw[ji,e2]⟩
abbrev KY(xs:List D)(G:Gp)(P:List D->Prop)(O:Prop):Prop:=match xs with
 |[.ref q]=>(match cF G q with
  |some ds=>P ds
  |none=>False)
 |_=>O
abbrev xn:List D->Gp->lG->Prop:=λxs G R=>KY xs G (λds=>∃ns:List Int,ds=ns.map D.int/\R (.int ns.sum) G) False
section
variable{X:Cx}
private theorem SA{s:dg}(I:Inv X ψ σ H s)(rx:cV X.K H xs vs)(rv:Vals vs us)(g:HR X.K H G)
  (h:KY xs G P O):(∃a ds ys its,us=[.ref a]/\cV X.K H ds ys/\Vals ys its/\s.heap.IsList a its.toArray/\P ds)∨O:=by
 cases rx with
 |nil=>exact .inr h
 |cons r1 rr =>
  cases rr with
  |cons _ _=>cases r1<;>exact .inr h
  |nil =>
   cases r1 with
   |ref a =>
    let⟨u,rfl,ru⟩:=vals1 rv;cases ru
    have q':(match cF G a with
     |some ds=>P ds
     |none=>False):=h
    split at q'
    .rename_i ds e1;let⟨ys,hq,r1⟩:=eO g e1;let⟨its,kr,p,hz⟩:=I.list hq;exact .inl ⟨a,ds,ys,its,rfl,r1,kr,p.isList,q'⟩
    .exact q'.elim
   |_=>exact .inr h
def int_list{s:dg}{a:bw}(p:s.heap.IsList a (zs.map λp=>bh.int p.1 p.2).toArray):s.heap.IsList a (intItems zs.toArray):=by
 have:intItems zs.toArray=(zs.map λp=>bh.int p.1 p.2).toArray:=by simp[intItems]
 rw[this];exact p
def aPX(hc:X.calm=ak):j7 X (.builtin "sum") xn:=by
 intro ψ s σ H xs vs us G R Q I rx rv g q k;rcases SA I rx rv g q with⟨a,ds,ys,its,rfl,r1,kr,p,ns,rfl,q'⟩|z
 .obtain⟨zs,rfl,e2⟩:=ints_of r1 kr;refine sum_intListG (I.ok.hd hc) (int_list p) λh' tk t' kk=>?_
  have e3:preSum (numAt zs.toArray) zs.toArray.size=ns.sum:=by
   rw[preSum_eq,LZ (by simp)];rw[←e2]
  rw[e3];exact⟨.int _,H,I.kept kk,⟨t',rfl⟩,k _ H _ G (.refl H) (.int _) g q'⟩
 .exact z.elim
abbrev Fc:List D->Gp->lG->Prop:=λxs G R=>KY xs G (λds=>∃ns:List Int,ds=ns.map D.int/\ns≠[]/\∀M,M∈ns->(∀a∈ns,M<=a)->R (.int M) G) (To xs G R)
def aJW(e2:zs.map (·.1)=ns){j:Nat}(h:j<zs.toArray.size):numAt zs.toArray j∈ns:=by
 rw[numAt_eq,←e2];exact getD_mem (by simpa using h)
def aJX(e2:zs.map (·.1)=ns){a:Int}(h:a∈ns):∃j,j<zs.toArray.size/\numAt zs.toArray j=a:=by
 rw[←e2]at h;let⟨j,hj,rfl⟩:=mem_getD h;exact⟨j,by simpa using hj,by rw[numAt_eq]⟩
def aJY(hc:X.calm=ak):j7 X (.builtin "min") Fc:=by
 intro ψ s σ H xs vs us G R Q I rx rv g q k;rcases SA I rx rv g q with⟨a,ds,ys,its,rfl,r1,kr,p,ns,rfl,lh,q'⟩|z
 .obtain⟨zs,rfl,e2⟩:=ints_of r1 kr
  have hsz:0<zs.toArray.size:=by
   cases zs with
   |nil=>exact absurd e2.symm lh
   |cons _ _=>simp
  refine min_intList (I.ok.hd hc) (int_list p) hsz λv h' tk hv kk=>?_;let⟨t,rfl⟩:=intItems_at hv;let⟨h1,h2⟩:=argBest_lt (numAt zs.toArray) (zs.toArray.size - 1);refine⟨.int _,H,I.kept kk,⟨t,rfl⟩,k _ H _ G (.refl H) (.int _) g (q' _ (aJW e2 ⋯) λa ha=>?_)⟩;let⟨j,hj,rfl⟩:=aJX e2 ha;exact h2 j ⋯
 .exact aPV hc ψ s σ H _ vs us G R Q I rx rv g z k
end
end
section
section
end
end
section
section
variable{X:Cx}{C:bw}{hW ED:List bh}{B Bn newId BE d6 BI:String}{x:Str}{np:Pos}{t:rZ}
abbrev IS(C:bw)(t:rZ):bN:=λρ G R=>t ρ G λds G1=>ds.length<=dj/\∀x,G1 x=au->R (.ref x) (aF G1 x (.ir C))
def XS{s:dg}{x:bw}(I:Inv X ψ σ H s)(hm:Gg s.heap h' x (.ref C) us) :
  ∃o vs,H x=au/\Inv X ψ σ (upd H x (.jX o (.ext (oi C x)))) {s with heap:=h' }/\o.data=.fields vs/\vs[2]?=aj .none:=by
 let⟨t,e1,_,_⟩:=hm.there;have BA:H x=au:=Q2 I.af hm.new;refine⟨{cls:=.ref C,data:=.fields #[.ref t,.none,.none,.none,.bool ao,.none]},#[.ref t,.none,.none,.none,.bool ao,.none],BA,?_,rfl,rfl⟩;generalize ho:({cls:=.ref C,data:=.fields #[.ref t,.none,.none,.none,.bool ao,.none]}:Obj)=o at e1;have sn:a9 H (upd H x (.jX o (.ext (oi C x)))):=c7 BA;have i8:∀b u,s.heap.get? b=aj u->b≠x:=λb u e z=>by subst z;rw[hm.new]at e;cases e
 refine I.fe (ch:=[]) (s':={s with heap:=h' }) rfl ⟨λb u e n _ _=>hm.keeps b u e,λb u e n _ _=>⟨u.slots,hm.keeps b u e⟩,λb u e n _=>by rw[aY (i8 b u e)];exact n,λb u e _=>⟨u,hm.keeps b u e⟩,λb xs z=>sn _ _ z,λb u v z=>sn _ _ z,λb ps z=>⟨#[],by rw[Array.append_empty];exact sn _ _ z⟩⟩ (λb u e=>?_) I.bare λb z=>absurd z (by simp);by_cases hb:b=x
 .subst hb;rw[aL]at e;cases e;exact⟨e1,⟨o,_,e1,by rw[←ho],by rw[←ho]⟩,⟨o,e1⟩,λh1 h2 ⟨o1,w1,e1,e2,e3⟩ k=>⟨o1,w1,k _ e1,e2,e3⟩⟩
 .rw[aY hb]at e;exact((I.af.kept hm.keeps) b u e).cf (λ_ _ _ z=>z) (λc z=>sn _ _ z) λc xs z=>sn _ _ z
def QT{σ:St}{H:Hp}{s:dg}{us:List bh}{G:Gp}{R:lG}{Q:VK}(Fn:tj Bn newId BI ED)(v5:hW.contains (.type Bn)=ak)(FB:tj B BE d6 hW)(hq:yw X.K C hW newId=ak)(I:Inv X ψ σ H s)(g:HR X.K H G)(hl:us.length<=dj)(q:∀x,G x=au->R (.ref x) (aF G x (.ir C)))
  (k:∀v H' d G',Ts H H'->RD X.K H' d v->HR X.K H' G'->R d G'->Q v H'):dh (dz X.prog X.w) X.A (call (.ref C) us) (EP X ψ σ Q) X.xe s:=by
 let⟨tl,N,nm,q',bs,hdct,sn,sub,ab,col,kF,k0,k1,k2,k3,k5,mN,hC,hN,rl,T⟩:=Fv I.mod.m4 hq;let⟨h,g0,d0,t0,M6⟩:=s;refine wpAny_call_exc_subU (hrest:=hl) Fn v5 FB (T.keeps I.bk) (I.bk _ _ hC) (hN.keeps I.bk) rl λh' x hm=>?_;let⟨o,vs,nx,J,d1,d2⟩:=XS I hm;have sn:a9 H (upd H x (.jX o (.ext (oi C x)))):=c7 nx;exact⟨.ref x,_,J,rfl,k _ _ _ _ (.same sn) (.ref x) (g.put (u:=.ir C) nx ⟨o,vs,aL,d1,d2⟩) (q x (rC (K:=X.K) g nx (og (X:=X) J)))⟩
def aPZ(Fn:tj Bn newId BI ED)(v5:hW.contains (.type Bn)=ak)(FB:tj B BE d6 hW)(hg:Gl X x)(hm:X.mg x=aj (.ref C))(hq:yw X.K C hW newId=ak)(ha:dS X (e::es) t)(hd:(x==("__debug__":Str))=ao)
  (he:iz (e::es) X.env=(ao,eval e X.env)::iz es X.env)(gE:(qz ai (iz es X.env)).any (·.1)=ao):cQ X (.Call (.Name x np) (e::es) [] ai) (IS C t):=by
 intro ψ s σ H Q I h;let⟨ρ,G,R,sr,g,q,kk⟩:=h;let⟨tl,N,nm,q',bs,hdct,sn,sub,ab,col,kF,k0,k1,k2,k3,k5,mN,hC,hN,rl,T⟩:=Fv I.mod.m4 hq;refine wpAny_Call_ofName (rY I hg hm ?_ hd);unfold callWith;have hA:=ha ai ψ s σ H (λvs H1=>Ts H H1/\∃ds G1,cV X.K H1 ds vs/\HR X.K H1 G1/\ds.length<=dj/\∀x,G1 x=au->R (.ref x) (aF G1 x (.ir C))) I ⟨ρ,G,_,sr,g,q,λvs H1 ds G1 t1 r1 g1 q1=>⟨t1,ds,G1,r1,g1,q1.1,q1.2⟩⟩;have g7:(qz ai (iz (e::es) X.env)).any (·.1)=ao:=by rw[he];show(ao||(qz ai (iz es X.env)).any (·.1))=ao;rw[gE];rfl
 rw[he]at hA g7 ⊢;refine aq (uh (Calls.evalArgs_plain (dZ hA λus s2 ⟨vs,H2,I2,r2,t1,ds,G1,r1,g1,hl,q1⟩=>aq (wpAny_standAt ?_))));have El:us.length<=dj:=by rw[←r2.length,←r1.length];exact hl
 simp only[g7];let⟨h0,g0,d0,t0,M6⟩:=s2;refine aq (wpAny_keeperOf_exc (I2.bk _ _ hC) ?_);refine aq (dZ (QT Fn v5 FB hq I2 g1 El q1 λv H' d G' t3=>kk v H' d G' (t1.trans t3)) λv s3 q3=>aq (uh (wpAny_point (cj q3))))
def aJZ(Fn:tj Bn newId BI ED)(v5:hW.contains (.type Bn)=ak)(FB:tj B BE d6 hW)(hg:Gl X x)(hm:X.mg x=aj (.ref C))(hq:yw X.K C hW newId=ak)(hd:(x==("__debug__":Str))=ao):cQ X (.Call (.Name x np) [] [] ai) (IS C dD):=by
 intro ψ s σ H Q I h;let⟨ρ,G,R,sr,g,⟨hl,q⟩,kk⟩:=h;let⟨tl,N,nm,q',bs,hdct,sn,sub,ab,col,kF,k0,k1,k2,k3,k5,mN,hC,hN,rl,T⟩:=Fv I.mod.m4 hq;refine wpAny_Call_ofName (rY I hg hm ?_ hd);unfold callWith;refine aq (uh (PySem.evalArgs_none (aq (wpAny_standAt ?_))));let⟨h0,g0,d0,t0,M6⟩:=s;refine aq (wpAny_keeperOf_exc (I.bk _ _ hC) ?_);refine aq (dZ (QT (us:=[]) Fn v5 FB hq I g (qm _) q kk) λv s3 q3=>aq (uh (wpAny_point (cj q3))))
end
end
section
abbrev B3(C:bw)(f:Str)(x:D)(G:Gp)(R:lG):Prop:=match x with
 |.ref a=>(match G a with
  |some (.ins C' fs)=>C'=C/\(match fs.lookup f with
   |some d=>R d G
   |none=>False)
  |_=>False)
 |_=>False
abbrev cP(C:bw)(ta:bN)(f:Str):bN:=λρ G R=>ta ρ G λx G1=>B3 C f x G1 R
private theorem Sl{K:Fg}:∀{fs:List (Str×D)}{vs:List (Str×V)}{d:D},b9 (λp q=>p.1=q.1/\RD K H p.2 q.2) fs vs->fs.lookup f=aj d->∃v,vs.lookup f=aj v/\RD K H d v
 |_,_,_,.nil,e=>by cases e
 |(g,x)::fs,(g',y)::vs,d,.cons h r,e=>by
  let⟨rfl,h2⟩:=h;unfold yu at e ⊢;split at e
  .rename_i q;rw[q];cases e;exact⟨y,rfl,h2⟩
  .rename_i q;rw[q];exact Sl r e
abbrev xm(f:Str)(d:D):List (Str×D)->List (Str×D)
 |[]=>[(f,d)]
 |(g,x)::r=>if g=f then(g,d)::r else(g,x)::xm f d r
def PL{K:Fg}{d:D}{v:V}(h:RD K H d v):∀{fs:List (Str×D)}{vs:List (Str×V)},b9 (λp q=>p.1=q.1/\RD K H p.2 q.2) fs vs->b9 (λp q=>p.1=q.1/\RD K H p.2 q.2) (xm f d fs) (yX f v vs)
 |_,_,.nil=>.cons ⟨rfl,h⟩ .nil
 |(g,x)::fs,(g',y)::vs,.cons q r=>by
  let⟨rfl,q2⟩:=q;unfold xm yX;by_cases c:g=f
  .rw[if_pos c,if_pos c];exact .cons ⟨rfl,h⟩ r
  .rw[if_neg c,if_neg c];exact .cons ⟨rfl,q2⟩ (PL h r)
section
variable{X:Cx}{o:gV}{f:Str}{C:bw}{pos:Pos}{ta tv:bN}
private theorem aQ0(he:cQ X e ta)(c:gc X.K C)(n:j6 X.K C f)(hb:su e f X.env (eval e X.env)=eval e X.env):cQ X (.Attribute e f pos) (cP C ta f):=by
 refine PE.imp (aI4 he hb) λσ H Q h=>?_;let⟨ρ,G,R,s,g,t,k⟩:=h;refine⟨ρ,G,_,s,g,t,λv H1 x G1 t1 rx g1 t'=>?_⟩;unfold B3 at t';split at t'
 .rename_i a;split at t'
  .rename_i C' fs e1;let⟨rfl,t'⟩:=t';split at t'
   .rename_i d e2;let⟨dx,vs,e3,r⟩:=g1 a _ e1;let⟨w,e4,rw⟩:=Sl r e2;cases rx;exact⟨a,_,dx,vs,w,rfl,e3,c,n,e4,k w H1 d G1 t1 rw g1 t'⟩
   .exact t'.elim
  .exact t'.elim
 .exact t'.elim
abbrev Cg(C:bw)(f:Str)(x y:D)(F:eN)(ρ:bZ)(G:Gp):Prop:=match x with
 |.ref a=>(match G a with
  |some (.ins C' fs)=>C'=C/\fs.length<1000/\F.nx ρ (aF G a (.ins C (xm f y fs)))
  |_=>False)
 |_=>False
abbrev rD(C:bw)(ta tv:bN)(f:Str):oX:=λF ρ G=>tv ρ G λy G1=>ta ρ G1 λx G2=>Cg C f x y F ρ G2
private theorem aK0(ha:cQ X o ta)(hv:cQ X value tv)(c:gc X.K C)(n:j6 X.K C f)(hs:qc value (aj (.Attribute o f pos')) pos.line X.env=pure ao):fk X (.Assign [.Attribute o f pos'] value pos) (rD C ta tv f):=by
 refine PS.imp (aI5 ha hv hs) λF σ H h=>?_;let⟨ρ,G,E,s,g,t,u⟩:=h;refine⟨ρ,G,_,s,g,t,λy H1 d G1 t1 ry g1 t'=>?_⟩;refine⟨ρ,G1,_,s.mono t1,g1,t',λv H2 x G2 t2 rx g2 eP=>?_⟩;unfold Cg at eP;split at eP
 .rename_i a;split at eP
  .rename_i C' fs e1;let⟨rfl,hl,eP⟩:=eP;let⟨dx,vs,e3,r⟩:=g2 a _ e1;have VL:=ry.mono t2;have tt:Ts H2 (upd H2 a (.ins C' dx (yX f y vs))):=Ts.turn e3 (λ_ z=>by cases z) (λ_ _ z=>by cases z);cases rx;refine⟨a,_,dx,vs,rfl,e3,c,n,by rw[←r.length];exact hl,u.nx ρ _ σ _ ((s.mono t1).mono t2 |>.mono tt) (HR.turn g2 tt ?_) eP⟩;exact⟨dx,_,aL,(PL VL r).imp λ_ _ q=>⟨q.1,q.2.mono tt⟩⟩
  .exact eP.elim
 .exact eP.elim
end
variable{Q:VK}
section
variable{X:Cx}{qt:Bool}{k:Nat}{f C:bw}{fd:jm}{ps:List Str}{sp:jI}{EX:bZ->f9}{x m:Str}{p pos apos:Pos}{o:gV}{t:rZ}{ta:bN}{dd:List D}{bu:List V}{ds:List bh}
private theorem QS{Q':VK}(F:bM qt X.prog X.w X.K X.mg X.base (jY X.prog X.w) k f fd ps (cJ X.K sp))(hr:mZ qt k X.A)(hb:Binds X.K fd ps ds)(hd:Vals bu ds)
  (hx:∀e s',jY X.prog X.w X.stack H s E e s'->X.xe e s')
  (I:Inv X ψ σ H s)(r:Vals vs us)(h:cJ X.K sp (vs++bu) H Q E)(hQ:∀v H',Ts H H'->Q v H'->Q' v H'):dh (dz X.prog X.w) X.A (call (.ref f) us) (EP X ψ σ Q') X.xe s:=by
 have hl:(us++ds).length=ps.length:=by rw[←(r.append hd).length];exact F.len _ _ _ _ h
 refine wpAny_call (codeAny_mono (F.run X.A X.stack s H ⟨us,[]⟩ (us++ds) (vs++bu) Q E hr I.y7 (hb s us I.b7 hl) (r.append hd) h) λr s' hq=>?_);cases r with
 |error e=>exact hx e s' hq
 |ok fl =>
  cases fl with
  |ret u =>
   let⟨v,H',os,bare,un,af,r,q⟩:=hq;exact⟨v,H',I.fe (ch:=[]) os un af bare (λb z=>absurd z (by simp)),r,hQ v H' ⟨un.aI,un.pB⟩ q⟩
  |next=>exact False.elim hq
  |brk=>exact False.elim hq
  |cont=>exact False.elim hq
abbrev Cf(C:bw)(m:Str)(x:D)(G:Gp):Prop:=∃a fs,x=.ref a/\G a=aj (.ins C fs)/\fs.lookup m=au
abbrev cA(C:bw)(m:Str)(sp:jI)(dd:List D)(EX:bZ->f9)(ta:bN)(t:rZ):bN:=λρ G R=>ta ρ G λx G1=>Cf C m x G1/\t ρ G1 λds G2=>sp (x::(ds++dd)) G2 R (EX ρ)
private theorem Kl{K:Fg}{f:Str}:∀{fs:List (Str×D)}{vs:List (Str×V)},b9 (λp q=>p.1=q.1/\RD K H p.2 q.2) fs vs->fs.lookup f=au->vs.lookup f=au
 |_,_,.nil,e=>rfl
 |(g,x)::fs,(g',y)::vs,.cons h r,e=>by
  let⟨rfl,h2⟩:=h;unfold yu at e ⊢;split at e
  .cases e
  .rename_i q;rw[q];exact Kl r e
def aD3(ho:cQ X o ta)(c:gc X.K C)(hm:Meth X.K C m f)(F:bM qt X.prog X.w X.K X.mg X.base (jY X.prog X.w) k f fd ps (cJ X.K sp))(hr:mZ qt k X.A)(hb:Binds X.K fd ps ds)(hd:Vals bu ds)(eD:∀H,cV X.K H dd bu)(hx:lT X EX)
  (ha:dS X (e::es) t)(bP:iz (e::es) X.env=(ao,eval e X.env)::iz es X.env)(gE:(qz pos (iz es X.env)).any (·.1)=ao)
  (ht:eval (.Call (.Attribute o m apos) (e::es) [] pos) X.env=(do
   let ov ←eval o X.env
   standAt apos.atName
   let(f,first) ←holding [ov] (getMethod ov m pl)
   callWith pos f first (qz pos (iz (e::es) X.env)) (backToKw pos (oj [] X.env)))) :
  cQ X (.Call (.Attribute o m apos) (e::es) [] pos) (cA C m sp dd EX ta t):=by
 intro ψ s σ H Q I h;let⟨ρ,G,R,sr,g,q,kk⟩:=h;refine PySem.W.methodCall_KW (pl:=pl) (dZ (ho ψ s σ H (λv H1=>∃d G1,Ts H H1/\RD X.K H1 d v/\HR X.K H1 G1/\Cf C m d G1/\t ρ G1 λds G2=>sp (d::(ds++dd)) G2 R (EX ρ)) I ⟨ρ,G,_,sr,g,q,λv H1 d G1 t1 r1 g1 q1=>⟨d,G1,t1,r1,g1,q1⟩⟩) ?_) ht;rintro u s1 ⟨x,H1,I1,rx,d,G1,t1,r1,g1,⟨a,fs,ed,ea,el⟩,q1⟩;subst ed;cases r1;obtain rfl:u=bh.ref a:=rx;let⟨dx,vs,e3,r⟩:=g1 a _ ea;refine So I1 e3 c hm (Kl r el) ?_;refine LQ (first:=[.ref a]) (h₀:=X.base) I.ok.mod.m4 hm.kp (dZ (ha pos ψ s1 σ H1 (λvs H2=>Ts H1 H2/\∃ds G2,cV X.K H2 ds vs/\HR X.K H2 G2/\sp (.ref a::(ds++dd)) G2 R (EX ρ)) I1 ⟨ρ,G1,_,sr.mono t1,g1,q1,λvs H2 ds G2 t2 r2 g2 q2=>⟨t2,ds,G2,r2,g2,q2⟩⟩) λus s2 ⟨vs,H2,I2,r,t2,ds2,G2,r2,g2,q2⟩=>⟨I2.b7,?_⟩) bP gE;refine QS (us:=.ref a::us) (vs:=.ref a::vs) (E:=nX X.K (EX ρ)) F hr hb hd (λe s' c=>hx.Ch ψ σ H2 s2 ρ e s' I2 ((sr.mono t1).mono t2) c) I2 (.cons rfl r) (Q:=λv H'=>∃d G',RD X.K H' d v/\HR X.K H' G'/\R d G') ⟨.ref a::(ds2++dd),G2,R,EX ρ,.cons (.ref a) (r2.append (eD H2)),g2,q2,λv H' d G' r3 g3 q3=>⟨d,G',r3,g3,q3⟩,λC H' G' g' q'=>⟨C,G',rfl,g',q'⟩⟩ (by rintro v H' t3 ⟨d,G',r3,g3,q3⟩;exact kk v H' d G' ((t1.trans t2).trans t3) r3 g3 q3)
def XR(ho:cQ X o ta)(c:gc X.K C)(hm:Meth X.K C m f)(F:bM qt X.prog X.w X.K X.mg X.base (jY X.prog X.w) k f fd ps (cJ X.K sp))(hr:mZ qt k X.A)(hb:Binds X.K fd ps ds)(hd:Vals bu ds)(eD:∀H,cV X.K H dd bu)(hx:lT X EX)
  (ht:eval (.Call (.Attribute o m apos) [] [] pos) X.env=(do
   let ov ←eval o X.env
   standAt apos.atName
   let(f,first) ←holding [ov] (getMethod ov m pl)
   callWith pos f first (qz pos (iz [] X.env)) (backToKw pos (oj [] X.env)))) :
  cQ X (.Call (.Attribute o m apos) [] [] pos) (cA C m sp dd EX ta dD):=by
 intro ψ s σ H Q I h;let⟨ρ,G,R,sr,g,q,kk⟩:=h;refine PySem.W.methodCall_KW (pl:=pl) (dZ (ho ψ s σ H (λv H1=>∃d G1,Ts H H1/\RD X.K H1 d v/\HR X.K H1 G1/\Cf C m d G1/\dD ρ G1 λds G2=>sp (d::(ds++dd)) G2 R (EX ρ)) I ⟨ρ,G,_,sr,g,q,λv H1 d G1 t1 r1 g1 q1=>⟨d,G1,t1,r1,g1,q1⟩⟩) ?_) ht;rintro u s1 ⟨x,H1,I1,rx,d,G1,t1,r1,g1,⟨a,fs,ed,ea,el⟩,q1⟩;subst ed;cases r1;obtain rfl:u=bh.ref a:=rx;let⟨dx,vs,e3,r⟩:=g1 a _ ea;refine So I1 e3 c hm (Kl r el) ?_;refine LS (first:=[.ref a]) I1.b7 hm.kp ?_;refine QS (us:=[.ref a]) (vs:=[.ref a]) (E:=nX X.K (EX ρ)) F hr hb hd (λe s' c=>hx.Ch ψ σ H1 s1 ρ e s' I1 (sr.mono t1) c) I1 (.cons rfl .nil) (Q:=λv H'=>∃d G',RD X.K H' d v/\HR X.K H' G'/\R d G') ⟨.ref a::dd,G1,R,EX ρ,.cons (.ref a) (eD H1),g1,q1,λv H' d G' r3 g3 q3=>⟨d,G',r3,g3,q3⟩,λC H' G' g' q'=>⟨C,G',rfl,g',q'⟩⟩ (by rintro v H' t3 ⟨d,G',r3,g3,q3⟩;exact kk v H' d G' (t1.trans t3) r3 g3 q3)
abbrev A1(C:bw)(sp:jI)(dd:List D)(EX:bZ->f9)(t:rZ):bN:=λρ G R=>t ρ G λds G1=>∀x,G1 x=au->sp (.ref x::(ds++dd)) (aF G1 x (.ins C [])) (λv G2=>v=.ag/\R (.ref x) G2) (EX ρ)
private theorem Rz{σ:St}{H:Hp}{s:dg}{G:Gp}{R:lG}{us:List bh}{vs:List V}{ds2:List D}{ρ:bZ}(M:Mk X.K C f)(F:bM qt X.prog X.w X.K X.mg X.base (jY X.prog X.w) k f fd ps (cJ X.K sp))(hr:mZ qt (k+1) X.A)(hb:Binds X.K fd ps ds)(hd:Vals bu ds)(eD:∀H,cV X.K H dd bu)(hx:lT X EX)
  (I:Inv X ψ σ H s)(sr:SR X.K H ρ σ)(g:HR X.K H G)(r:Vals vs us)(r2:cV X.K H ds2 vs)(h:∀x,G x=au->sp (.ref x::(ds2++dd)) (aF G x (.ins C [])) (λv G2=>v=.ag/\R (.ref x) G2) (EX ρ))
  (hQ:∀v H' d G',Ts H H'->RD X.K H' d v->HR X.K H' G'->R d G'->Q v H'):dh (dz X.prog X.w) X.A (call (.ref C) us) (EP X ψ σ Q) X.xe s:=by
 have n1:H (s.heap.objs.size+1)=au:=I.af.fresh (Nat.le_succ _);have n0:H s.heap.objs.size=au:=I.af.fresh (dw _);have ne:s.heap.objs.size+1≠s.heap.objs.size:=Nat.succ_ne_self _;have I2:=Inv.made (C:=C) I
 have kl:X.K.lookup (s.heap.objs.size+1)=au:=by
  cases q:X.K.lookup (s.heap.objs.size+1)with
  |none=>rfl
  |some u=>have:=og I2 _ u q;rw[aL]at this;cases this
 have gn:G (s.heap.objs.size+1)=au:=rC (o:=.ins C s.heap.objs.size []) g n1 λb u e=>by
  by_cases c:b=s.heap.objs.size+1
  .subst c;rw[kl]at e;cases e
  .rw[aY c];exact og I b u e
 have t1:Ts H (upd H s.heap.objs.size (.own (s.heap.objs.size+1))):=.same (c7 n0);have Nl:upd H s.heap.objs.size (.own (s.heap.objs.size+1)) (s.heap.objs.size+1)=au:=by rw[aY ne];exact n1
 have t2:Ts (upd H s.heap.objs.size (.own (s.heap.objs.size+1))) (upd (upd H s.heap.objs.size (.own (s.heap.objs.size+1))) (s.heap.objs.size+1) (.ins C s.heap.objs.size [])):=.same (c7 Nl);have g1:HR X.K (upd H s.heap.objs.size (.own (s.heap.objs.size+1))) G:=g.same (c7 n0);have g2:HR X.K (upd (upd H s.heap.objs.size (.own (s.heap.objs.size+1))) (s.heap.objs.size+1) (.ins C s.heap.objs.size [])) (aF G (s.heap.objs.size+1) (.ins C [])):=g1.put Nl ⟨s.heap.objs.size,[],aL,.nil⟩
 have hq:cJ X.K sp (V.ref (s.heap.objs.size+1)::(vs++bu)) (upd (upd H s.heap.objs.size (.own (s.heap.objs.size+1))) (s.heap.objs.size+1) (.ins C s.heap.objs.size [])) (λv H'=>v=.ag/\∃G',HR X.K H' G'/\R (.ref (s.heap.objs.size+1)) G') (nX X.K (EX ρ)) :=
  ⟨.ref (s.heap.objs.size+1)::(ds2++dd),_,_,EX ρ,.cons (.ref _) (((r2.mono t1).mono t2).append (eD _)),g2,h _ gn,λv H' d G' r3 g3 q3=>by
   let⟨rfl,q3⟩:=q3;cases r3;exact⟨rfl,G',g3,q3⟩,λC H' G' g' q'=>⟨C,G',rfl,g',q'⟩⟩
 have rr:Vals (V.ref (s.heap.objs.size+1)::(vs++bu)) (bh.ref (s.heap.objs.size+1)::(us++ds)):=.cons rfl (r.append hd)
 have hl:(bh.ref (s.heap.objs.size+1)::us++ds).length=ps.length:=by
  have e:=rr.length;rw[F.len _ _ _ _ hq]at e;exact e.symm
 refine wpAny_call (Yc (f:=f) I.b7 M.makes M.init (beq_iff_eq.mp M.fn) (codeAny_mono (F.run _ X.stack _ _ ⟨bh.ref (s.heap.objs.size+1)::us,[]⟩ (bh.ref (s.heap.objs.size+1)::(us++ds)) _ _ _ (hr.make C us [])
  (I2.y7.make C us []) (hb _ (bh.ref (s.heap.objs.size+1)::us) I2.b7 hl) rr hq) λr s' BK=>?_))
 cases r with
 |error e=>exact hx.Ch ψ σ _ _ ρ e s' I2 ((sr.mono t1).mono t2) BK
 |ok fl =>
  cases fl with
  |ret u =>
   let⟨v,H',os,bare,un,af,rv,ev,G',g3,q3⟩:=BK;subst ev;exact⟨rv,⟨V.ref (s.heap.objs.size+1),H',I2.fe (ch:=[]) os un af bare (λb z=>absurd z (by simp)),rfl,hQ _ H' (.ref _) G' ((t1.trans t2).trans ⟨un.aI,un.pB⟩) (.ref _) g3 q3⟩⟩
  |next=>exact False.elim BK
  |brk=>exact False.elim BK
  |cont=>exact False.elim BK
def aD4(M:Mk X.K C f)(F:bM qt X.prog X.w X.K X.mg X.base (jY X.prog X.w) k f fd ps (cJ X.K sp))(hr:mZ qt (k+1) X.A)(hg:Gl X x)(hm:X.mg x=aj (.ref C))(hb:Binds X.K fd ps ds)(hd:Vals bu ds)(eD:∀H,cV X.K H dd bu)(hx:lT X EX)
  (ha:dS X (e::es) t)(hU:(x==("__debug__":Str))=ao)(he:iz (e::es) X.env=(ao,eval e X.env)::iz es X.env)(gE:(qz pos (iz es X.env)).any (·.1)=ao) :
  cQ X (.Call (.Name x p) (e::es) [] pos) (A1 C sp dd EX t):=by
 intro ψ s σ H Q I h;let⟨ρ,G,R,sr,g,q,kk⟩:=h;refine yq (rY I hg hm ?_ hU);refine LQ (h₀:=X.base) I.ok.mod.m4 M.kp (dZ (ha pos ψ s σ H (λvs H1=>Ts H H1/\∃ds G1,cV X.K H1 ds vs/\HR X.K H1 G1/\∀x,G1 x=au->sp (.ref x::(ds++dd)) (aF G1 x (.ins C [])) (λv G2=>v=.ag/\R (.ref x) G2) (EX ρ)) I ⟨ρ,G,_,sr,g,q,λvs H1 ds G1 t1 r1 g1 q1=>⟨t1,ds,G1,r1,g1,q1⟩⟩) λus s1 ⟨vs,H1,I1,r,t1,ds,G1,r1,g1,q1⟩=>⟨I1.b7,?_⟩) he gE;exact Rz M F hr hb hd eD hx I1 (sr.mono t1) g1 r r1 q1 λv H' d G' t2=>kk v H' d G' (t1.trans t2)
def XQ(M:Mk X.K C f)(F:bM qt X.prog X.w X.K X.mg X.base (jY X.prog X.w) k f fd ps (cJ X.K sp))(hr:mZ qt (k+1) X.A)(hg:Gl X x)(hm:X.mg x=aj (.ref C))(hb:Binds X.K fd ps ds)(hd:Vals bu ds)(eD:∀H,cV X.K H dd bu)(hx:lT X EX)
  (hU:(x==("__debug__":Str))=ao):cQ X (.Call (.Name x p) [] [] pos) (A1 C sp dd EX dD):=by
 intro ψ s σ H Q I h;let⟨ρ,G,R,sr,g,q,kk⟩:=h;refine yq (rY I hg hm ?_ hU);exact LS I.b7 M.kp (Rz (us:=[]) (vs:=[]) (ds2:=[]) M F hr hb hd eD hx I sr g .nil .nil q λv H' d G' t2=>kk v H' d G' t2)
end
end
section
section
end
section
end
section
end
section
end
end
section
abbrev IQ:D->Option Key
 |.int i=>aj (.inl i)
 |.str x=>aj (.inr x)
 |_=>au
abbrev Cu:List D->Option (List Key)
 |[]=>aj []
 |d::r=>match IQ d,Cu r with
  |some k,aj ks=>aj (k::ks)
  |_,_=>au
abbrev iF:D->Option DK
 |.int i=>aj (.inl (.inl i))
 |.str x=>aj (.inl (.inr x))
 |.tup ds=>(match Cu ds with
  |some ks=>aj (.inr ks)
  |none=>au)
 |_=>au
abbrev xO:DK->Bool
 |.inl _=>ao
 |.inr _=>ak
section
variable{κ:Type}[DecidableEq κ]{α:Type}
abbrev aV:List (κ×α)->κ->Option α
 |[],_=>au
 |p::r,k=>if p.1=k then aj p.2 else aV r k
abbrev eE(kvs:List (κ×α))(k:κ)(v:α):List (κ×α):=if(aV kvs k).isSome=ak then kvs.map (λkv=>if kv.1=k then(kv.1,v)else kv)else kvs++[(k,v)]
abbrev bL(kvs:List (κ×α))(k:κ):List (κ×α):=kvs.filter λkv=>!decide (kv.1=k)
end
def PK{K:Fg}{d:D}{k:Key}(r:RD K H d v)(e:IQ d=aj k):v=kV k:=by
 cases r<;>first
  |(cases e;rfl)
  |cases e
private theorem QR{K:Fg}:∀{ds:List D}{vs:List V}{ks:List Key},cV K H ds vs->Cu ds=aj ks->vs=ks.map kV
 |_,_,_,.nil,e=>by cases e;rfl
 |d::ds,v::vs,ks,.cons h r,e=>by
  unfold Cu at e;split at e
  .rename_i k ks' e1 e2;cases e;rw[PK h e1,QR r e2];rfl
  .cases e
@[simp]def fw{κ:Type}(K:Fg)(H:Hp)(f:κ->DK):List (DK×D)->List (κ×V)->Prop:=b9 λp q=>p.1=f q.1/\RD K H p.2 q.2
section
variable{κ:Type}[DecidableEq κ]{K:Fg}
def val_two(hf:∀a b,f a=f b->a=b){k:κ}:∀{kvs:List (DK×D)}{xs:List (κ×V)},fw K H f kvs xs->(∀d,aV kvs (f k)=aj d->∃v,gN xs k=aj v/\RD K H d v)/\(aV kvs (f k)=au->gN xs k=au)
 |_,_,.nil=>⟨λd e=>(nomatch e),λ_=>rfl⟩
 |p::kvs,q::xs,.cons h r=>by
  let⟨h1,h2⟩:=h;by_cases c:q.1=k
  .have c2:p.1=f k:=by rw[h1,c]
   unfold aV;rw[if_pos c2,F9 c];exact⟨λd e=>by cases e;exact⟨_,rfl,h2⟩,λe=>(nomatch e)⟩
  .have c2:¬ p.1=f k:=λz=>c (hf _ _ (h1.symm.trans z));unfold aV;rw[if_neg c2,F8 c];exact val_two hf r
def XO(hf:∀a b,f a=f b->a=b){k:κ}(t:fw K H f kvs xs):(aV kvs (f k)).isSome=(gN xs k).isSome:=by
 have z:=val_two hf (k:=k) t;cases e:aV kvs (f k)with
 |none=>rw[z.2 e];rfl
 |some d=>let⟨v,e2,_⟩:=z.1 d e;rw[e2];rfl
def PJ{g:DK×D->DK×D}{h:κ×V->κ×V}(gh:∀p q,p.1=f q.1/\RD K H p.2 q.2->(g p).1=f (h q).1/\RD K H (g p).2 (h q).2):∀{kvs:List (DK×D)}{xs:List (κ×V)},fw K H f kvs xs->fw K H f (kvs.map g) (xs.map h)
 |_,_,.nil=>.nil
 |_,_,.cons z r=>.cons (gh _ _ z) (PJ gh r)
def QQ{p:DK×D}{q:κ×V}(z:p.1=f q.1/\RD K H p.2 q.2):∀{kvs:List (DK×D)}{xs:List (κ×V)},fw K H f kvs xs->fw K H f (kvs++[p]) (xs++[q])
 |_,_,.nil=>.cons z .nil
 |_,_,.cons y r=>.cons y (QQ z r)
def Fs(hf:∀a b,f a=f b->a=b){k:κ}{d:D}(rd:RD K H d v)(t:fw K H f kvs xs):fw K H f (eE kvs (f k) d) (putK xs k v):=by
 unfold eE putK;rw[Ko,XO hf t];split
 ·refine PJ ?_ t;rintro p q ⟨h1,h2⟩;by_cases c:q.1=k
  .rw[if_pos (show p.1=f k by rw[h1,c]),if_pos c];exact⟨h1,rd⟩
  .rw[if_neg (show ¬ p.1=f k from λz=>c (hf _ _ (h1.symm.trans z))),if_neg c];exact⟨h1,h2⟩
 .exact QQ (p:=(f k,d)) (q:=(k,v)) ⟨rfl,rd⟩ t
end
def pZ(a b:Key)(h:(Sum.inl a:DK)=.inl b):a=b:=by cases h;rfl
def sG(a b:List Key)(h:(Sum.inr a:DK)=.inr b):a=b:=by cases h;rfl
abbrev lL(x y:D)(G:Gp)(P:bw->Bool->List (DK×D)->DK->Prop):Prop:=match x with
 |.ref a=>(match G a,iF y with
  |some (.cR t kvs),aj k=>xO k=t/\P a t kvs k
  |_,_=>False)
 |_=>False
abbrev xl(K:Fg)(H:Hp)(a:bw)(vy:V)(kvs:List (DK×D))(k:DK):Prop :=
 (∃k' xs,k=.inl k'/\H a=aj (.dK xs)/\fw K H .inl kvs xs/\vy=kV k')∨∃ks xs b,k=.inr ks/\H a=aj (.dT xs)/\fw K H .inr kvs xs/\vy=.ref b/\H b=aj (.tup (ks.map kV))
private theorem E9{K:Fg}{k:DK}(ry:RD K H y vy)(e:iF y=aj k):(∃k',k=.inl k'/\vy=kV k')∨∃ks b,k=.inr ks/\vy=.ref b/\H b=aj (.tup (ks.map kV)):=by
 cases ry with
 |int i=>cases e;exact .inl ⟨_,rfl,rfl⟩
 |str x=>cases e;exact .inl ⟨_,rfl,rfl⟩
 |@tup a xs ds hq r e0 =>
  have e':(match Cu ds with
   |some ks=>aj (Sum.inr ks:DK)
   |none=>au)=aj k:=e
  split at e'
  .rename_i ks e1;cases e';have:=QR r e1;subst this;exact .inr ⟨ks,a,rfl,rfl,e0⟩
  .cases e'
 |_=>cases e
private theorem F6{K:Fg}{x:D}(rx:RD K H x vx)(ry:RD K H y vy)(g:HR K H G)(h:lL x y G P) :
  ∃a kvs k,x=.ref a/\vx=.ref a/\G a=aj (.cR (xO k) kvs)/\iF y=aj k/\P a (xO k) kvs k/\xl K H a vy kvs k:=by
 unfold lL at h;split at h
 .rename_i a;split at h
  .rename_i t kvs k e1 e2;let⟨rfl,h⟩:=h;cases rx;refine⟨a,kvs,k,rfl,rfl,e1,e2,h,?_⟩;rcases g a _ e1 with⟨z,xs,e3,r⟩|⟨z,xs,e3,r⟩
   .rcases E9 ry e2 with⟨k',rfl,rfl⟩|⟨ks,b,rfl,_⟩
    .exact .inl ⟨k',xs,rfl,e3,r,rfl⟩
    .cases z
   .rcases E9 ry e2 with⟨k',rfl,rfl⟩|⟨ks,b,rfl,rfl,eb⟩
    .cases z
    .exact .inr ⟨ks,xs,b,rfl,e3,r,rfl,eb⟩
  .exact h.elim
 .exact h.elim
def xl.get{K:Fg}{a:bw}{k:DK}(h:xl K H a vy kvs k):(∀d,aV kvs k=aj d->∃v,jv H a vy (aj v)/\RD K H d v)/\(aV kvs k=au->jv H a vy au):=by
 rcases h with⟨k',xs,rfl,e,r,rfl⟩|⟨ks,xs,b,rfl,e,r,rfl,eb⟩
 .have z:=val_two pZ (k:=k') r;exact⟨λd e2=>(z.1 d e2).elim λv q=>⟨v,by rw[←q.1];exact .k e,q.2⟩,λe2=>by rw[←z.2 e2];exact .k e⟩
 .have z:=val_two sG (k:=ks) r;exact⟨λd e2=>(z.1 d e2).elim λv q=>⟨v,by rw[←q.1];exact .t e eb,q.2⟩,λe2=>by rw[←z.2 e2];exact .t e eb⟩
def xl.any{K:Fg}{a:bw}{k:DK}(h:xl K H a vy kvs k):∃o,jv H a vy o/\o.isSome=(aV kvs k).isSome/\∀d v,RD K H d v->RD K H ((aV kvs k).getD d) (o.getD v):=by
 have z:=h.get;cases e:aV kvs k with
 |none=>exact⟨au,z.2 e,rfl,λd v r=>r⟩
 |some d=>let⟨v,g,r⟩:=z.1 d e;exact⟨aj v,g,rfl,λ_ _ _=>r⟩
def xl.put{K:Fg}{a:bw}{d:D}{kvs:List (DK×D)}{k:DK}(g:HR K H G)(h:xl K H a vy kvs k)(rv:RD K H d v)(hl:kvs.length<dj):∃H',xb H a vy v H'/\Ts H H'/\HR K H' (aF G a (.cR (xO k) (eE kvs k d))):=by
 rcases h with⟨k',xs,rfl,e,r,rfl⟩|⟨ks,xs,b,rfl,e,r,rfl,eb⟩
 .have tt:Ts H (upd H a (.dK (putK xs k' v))):=.turn e (λ_ z=>nomatch z) (λ_ _ z=>nomatch z);exact⟨_,.k e (by rw[←r.length];exact hl),tt,g.turn (u:=.cR ao _) tt (.inl ⟨rfl,_,aL,(Fs pZ rv r).imp λ_ _ q=>⟨q.1,q.2.mono tt⟩⟩)⟩
 .have tt:Ts H (upd H a (.dT (putK xs ks v))):=.turn e (λ_ z=>nomatch z) (λ_ _ z=>nomatch z);exact⟨_,.t e eb (by rw[←r.length];exact hl),tt,g.turn (u:=.cR ak _) tt (.inr ⟨rfl,_,aL,(Fs sG rv r).imp λ_ _ q=>⟨q.1,q.2.mono tt⟩⟩)⟩
abbrev tQ(G:Gp)(a:bw):Option (Bool×List (DK×D)):=match G a with
 |some (.cR t kvs)=>aj (t,kvs)
 |some (.bX _ t kvs)=>aj (t,kvs)
 |_=>au
private theorem XN{K:Fg}{a:bw}{t:Bool}(g:HR K H G)(e:tQ G a=aj (t,kvs)) :
  (t=ao/\∃xs:List (Key×V),Rd H a (.dK xs)/\fw K H .inl kvs xs)∨(t=ak/\∃xs:List (List Key×V),Rd H a (.dT xs)/\fw K H .inr kvs xs):=by
 unfold tQ at e;split at e
 .rename_i t' MD q;cases e;rcases g a _ q with⟨z,xs,e2,tw⟩|⟨z,xs,e2,tw⟩
  .exact .inl ⟨z,xs,.inl e2,tw⟩
  .exact .inr ⟨z,xs,.inl e2,tw⟩
 .rename_i o t' MD q;cases e;rcases g a _ q with⟨z,xs,e2,tw⟩|⟨z,xs,e2,tw⟩
  .exact .inl ⟨z,xs,.inr ⟨o,e2⟩,tw⟩
  .exact .inr ⟨z,xs,.inr ⟨o,e2⟩,tw⟩
 .cases e
abbrev Ct(x y:D)(G:Gp)(P:List (DK×D)->DK->Prop):Prop:=match x with
 |.ref a=>(match tQ G a,iF y with
  |some (t,kvs),aj k=>xO k=t/\P kvs k
  |_,_=>False)
 |_=>False
private theorem Y2{K:Fg}{x:D}(rx:RD K H x vx)(ry:RD K H y vy)(g:HR K H G)(h:Ct x y G P) :
  ∃a kvs k,x=.ref a/\vx=.ref a/\P kvs k/\∀d,aV kvs k=aj d->∃v,jv H a vy (aj v)/\RD K H d v:=by
 unfold Ct at h;split at h
 .rename_i a;split at h
  .rename_i t kvs k e1 e2;let⟨rfl,h⟩:=h;cases rx;refine⟨a,kvs,k,rfl,rfl,h,λd ed=>?_⟩;rcases XN g e1 with⟨z,xs,e3,r⟩|⟨z,xs,e3,r⟩
   .rcases E9 ry e2 with⟨k',rfl,rfl⟩|⟨ks,b,rfl,_⟩
    .obtain⟨v,e4,rv⟩:=(val_two pZ (k:=k') r).1 d ed;exact⟨v,.inl ⟨xs,k',e3,rfl,e4.symm⟩,rv⟩
    .cases z
   .rcases E9 ry e2 with⟨k',rfl,rfl⟩|⟨ks,b,rfl,rfl,eb⟩
    .cases z
    .obtain⟨v,e4,rv⟩:=(val_two sG (k:=ks) r).1 d ed;exact⟨v,.inr ⟨xs,ks,b,e3,rfl,eb,e4.symm⟩,rv⟩
  .exact h.elim
 .exact h.elim
abbrev wH:R3:=λx y G R=>Ct x y G λkvs k=>match aV kvs k with
 |some d=>R d G
 |none=>False
section
variable{X:Cx}{o:gV}{to ti tv te tf:bN}{pos:Pos}
private theorem aQ1(hu:X.A.units+64<uc)(ho:cQ X o to)(hi:cQ X i ti)(hs:K5 i):cQ X (.Subscript o i pos) (aP wH to ti):=by
 refine PE.imp (aBY ⋯ ho hi hs) λσ H Q h=>?_;let⟨ρ,G,R,s,g,t,k⟩:=h;refine⟨ρ,G,_,s,g,t,λvx H1 x G1 t1 rx g1 t'=>?_⟩;refine⟨ρ,G1,_,s.mono t1,g1,t',λvy H2 y G2 t2 ry g2 eP=>?_⟩;let⟨a,kvs,kk,rfl,rfl,q,dd⟩:=Y2 (rx.mono t2) ry g2 eP;split at q
 .rename_i d e2;let⟨v,gg,rv⟩:=dd d e2;exact⟨a,v,rfl,gg,k v H2 d G2 (t1.trans t2) rv g2 q⟩
 .exact q.elim
abbrev ET(x y v:D)(F:eN)(ρ:bZ)(G:Gp):Prop:=lL x y G λa t kvs k=>kvs.length<dj/\F.nx ρ (aF G a (.cR t (eE kvs k v)))
abbrev Cs(to ti tv:bN):oX:=λF ρ G=>tv ρ G λv G1=>to ρ G1 λx G2=>ti ρ G2 λy G3=>ET x y v F ρ G3
def aK1(hu:X.A.units+64<uc)(ho:cQ X o to)(hi:cQ X i ti)(hv:cQ X value tv)(hs:qc value (aj (.Subscript o i pos')) pos.line X.env=pure ao):fk X (.Assign [.Subscript o i pos'] value pos) (Cs to ti tv):=by
 refine PS.imp (aBZ ⋯ ho hi hv hs) λF σ H h=>?_;let⟨ρ,G,E,s,g,t,u⟩:=h;refine⟨ρ,G,_,s,g,t,λv H1 d G1 t1 rv g1 t'=>?_⟩;refine⟨ρ,G1,_,s.mono t1,g1,t',λvx H2 x G2 t2 rx g2 eP=>?_⟩;refine⟨ρ,G2,_,s.mono (t1.trans t2),g2,eP,λvy H3 y G3 t3 ry g3 t4=>?_⟩;let⟨a,kvs,kk,rfl,rfl,e1,_,⟨hl,q⟩,dd⟩:=F6 (rx.mono t3) ry g3 t4;let⟨H4,pp,tt,g4⟩:=dd.put g3 (rv.mono (t2.trans t3)) hl;exact⟨a,H4,rfl,pp,u.nx ρ _ σ _ (s.mono (((t1.trans t2).trans t3).trans tt)) g4 q⟩
abbrev wI(x:D)(G:Gp):Prop:=match x with
 |.ref a=>(match G a with
  |some (.cR _ _)=>True
  |_=>False)
 |_=>False
private theorem Ry{K:Fg}{x:D}(rx:RD K H x vx)(g:HR K H G)(h:wI x G):∃a,x=.ref a/\vx=.ref a/\lS H a:=by
 unfold wI at h;split at h
 .rename_i a;split at h
  .rename_i t kvs e;cases rx;rcases g a _ e with⟨_,xs,e2,_⟩|⟨_,xs,e2,_⟩
   .exact⟨a,rfl,rfl,.inl ⟨xs,.inl e2⟩⟩
   .exact⟨a,rfl,rfl,.inr ⟨xs,.inl e2⟩⟩
  .exact h.elim
 .exact h.elim
abbrev z6(to te tf:bN):bN:=λρ G R=>to ρ G λx G1=>wI x G1/\te ρ G1 λy G2=>tf ρ G2 λz G3=>lL x y G3 λ_ _ kvs k=>R ((aV kvs k).getD z) G3
def aD5(hu:X.A.units+64<uc)(ho:cQ X o to)(he:cQ X e te)(hf:cQ X f tf)(m:M2 X o "get" apos e f ai):cQ X (.Call (.Attribute o "get" apos) [e,f] [] ai) (z6 to te tf):=by
 refine PE.imp (X6 ⋯ ho he hf m) λσ H Q h=>?_;let⟨ρ,G,R,s,g,t,k⟩:=h;refine⟨ρ,G,_,s,g,t,λvx H1 x G1 t1 rx g1 t'=>?_⟩;let⟨ku,t'⟩:=t';let⟨a,rfl,rfl,ia⟩:=Ry rx g1 ku;refine⟨a,rfl,ia,?_⟩;refine⟨ρ,G1,_,s.mono t1,g1,t',λvy H2 y G2 t2 ry g2 eP=>?_⟩;refine⟨ρ,G2,_,s.mono (t1.trans t2),g2,eP,λvz H3 z G3 t3 rz g3 t4=>?_⟩;let⟨a',kvs,kk,e,_,e1,_,q,dd⟩:=F6 (rx.mono (t2.trans t3)) (ry.mono t3) g3 t4;cases e;let⟨o,gg,eo,hd⟩:=dd.any;exact⟨o,gg,k _ H3 _ G3 ((t1.trans t2).trans t3) (hd z vz rz) g3 q⟩
end
end
section
variable{v:bh}
section
variable{prog:jr}{w:je}{K:Type}[DecidableEq K]{knd:HeapKind prog w K}{A:jd}{s:dg}{d a:bw}{k:K}{xs:List (K×bw×bh)}
def aK2{xs:List (K×bw×bh)}{o:Obj}{es ep}(bg:knd.is s.heap k a)(ho:s.heap.get? d=aj o)(hc:o.ExactDict)(hd:o.data=.dict es ep)(he:es.toList=xs.map (entryOfKey knd))(oS:∀x∈xs,knd.is s.heap x.1 x.2.1)(hn:(xs.map (·.1)).Nodup)(oQ:∀(j:Nat)(p:bw×bh),xs[j]?≠aj (k,p)) :
  (s.heap.update d (Obj.mapDictKeys (·.push ⟨knd.hash k,.ref a,v⟩))).DictOfH knd d (storedH xs k a v):=by
 have nk:k∉xs.map (·.1):=not_mem_keys_of_get oQ;refine⟨_,_,ep+1,Dh _ ho (Obj.isFreed_of_dict (Obj.data_mapDictKeys hd _)),hc.mapDictKeys _,Obj.data_mapDictKeys hd _,?_,?_,?_⟩<;>rw[storedH_new (atKey_none_of_get oQ)]
 .simp[he,entryOfKey]
 .intro x hx;rcases qx.mp hx with hx|hx
  .exact knd.keeps (oS x hx) ho hd (lu.update ..)
  .rw[qb]at hx;subst hx;exact knd.keeps bg ho hd (lu.update ..)
 .rw[mq,zj];refine⟨hn,by simp,λx hx y hy e=>?_⟩;rw[List.map_singleton,qb]at hy;exact nk (by rw[←show y=k from hy,←e];exact hx)
def aK3(hu:knd.room A)(bg:knd.is s.heap k a)(hm:s.heap.DictOfH knd d xs)(hsz:xs.length<=dj)
  (h1:∀p,atKey xs k=aj p->Q p.2 {s with toks:=s.toks+knd.draws k})
  (h2:atKey xs k=au->∀h',h'.DictOfH knd d (storedH xs k a v)->lu d s.heap h'->Q v {s with heap:=h',toks:=s.toks+knd.draws k}):dh (dz prog w) A (dictSetDefault d (.ref a) v) Q E s:=by
 let⟨o,es,ep,ho,hc,hd,he,oS,hn⟩:=hm;unfold dictSetDefault;refine uh (aq (knd.pyHash hu bg (aq (wpAny_dictFind_heap (s:={s with toks:=s.toks+knd.draws k}) hu bg ho hd he oS hn ?_ ?_))))
 .intro oQ;refine aq (yc (aq (wpAny_updateDictKeys (s:={s with toks:=s.toks+knd.draws k}) ho hd (cj (h2 (atKey_none_of_get oQ) _ (aK2 bg ho hc hd he oS hn oQ) (lu.update ..))) (hz:=by have e:=size_of_entries he;omega))))
 .intro j p hj;refine aq (xu (s:={s with toks:=s.toks+knd.draws k}) ho hd ?_);rw[entry_at he j,hj];exact aq (yc (cj (h1 p (atKey_of_get hn hj))))
def adW(hu:knd.room A.in1)(bg:knd.is s.heap k a)(hs:(d==um)=ao)(hm:s.heap.DictOfH knd d xs)(hsz:xs.length<=dj)
  (h1:∀p,atKey xs k=aj p->Q p.2 {s with toks:=s.toks+knd.draws k})
  (h2:atKey xs k=au->∀h',h'.DictOfH knd d (storedH xs k a v)->lu d s.heap h'->Q v {s with heap:=h',toks:=s.toks+knd.draws k}):dh (dz prog w) A (call (.builtin "dict.setdefault") [.ref d,.ref a,v]) Q E s:=by
 refine call_meetsIn (S:=λA' R s'=>knd.room A'.in1/\s'=s/\(∀p,atKey xs k=aj p->R (.ok (.ret p.2)) {s with toks:=s.toks+knd.draws k})/\(atKey xs k=au->∀h',h'.DictOfH knd d (storedH xs k a v)->lu d s.heap h'->R (.ok (.ret v)) {s with heap:=h',toks:=s.toks+knd.draws k})) PySem.F.slot_dict_setdefault hm.typeIs PySem.F.entry_dict_setdefault (PySem.F.args_dict_setdefault_3 _ _ _) (.of_wp ?_) ⟨hu,rfl,h1,h2⟩;rintro A' R s' ⟨oC,e,g1,g2⟩;subst e;unfold Builtin.«dict.setdefault»;refine aq ?_;unfold Builtin.Dict.keyAndDefault;refine aq (wpAny_notOrdered_dict hm.typeIs ?_);show dh _ _ (pure (d,bh.ref a,aj v)) _ _ _;refine cj ?_;show dh _ _ (if(d==um)=ak then _ else(dictSetDefault d (.ref a) v >>= _)) _ _ _;rw[if_neg (by rw[hs];exact oh)];exact aq (aK3 oC bg hm hsz (λp hp=>cj ⟨p.2,rfl,g1 p hp⟩) λhn h' BN oP=>cj ⟨v,rfl,g2 hn h' BN oP⟩)
abbrev qO(xs:List (K×bw×bh))(k:K):List (K×bw×bh):=xs.filter λx=>decide (x.1≠k)
def ak3{xs:List (K×bw×bh)}(hn:(xs.map (·.1)).Nodup){j:Nat}(hj:xs[j]?=aj (k,p)):qO xs k=xs.eraseIdx j:=by
 induction xs generalizing j with
 |nil=>simp at hj
 |cons x r ih =>
  rw[ji,vp]at hn;cases j with
  |zero =>
   simp at hj;subst hj
   have:∀y∈r,decide (y.1≠k)=ak:=λy hy=>by
    simp only[decide_eq_true_eq];intro e;exact hn.1 (jo.mpr ⟨y,hy,e⟩)
   rw[qO,tN,if_neg (by simp),LR.mpr this];rfl
  |succ j =>
   have eR:r[j]?=aj (k,p):=by simpa using hj
   have ne:x.1≠k:=λe=>hn.1 (by rw[e];exact jo.mpr ⟨(k,p),qg eR,rfl⟩);have:=ih hn.2 eR;simp[qO,tN,ne]at this ⊢;exact this
variable{p:bw×bh}
def aD6(hu:knd.room A)(bg:knd.is s.heap k a)(hm:s.heap.DictOfH knd d xs)(hsz:xs.length<=dj)(hp:atKey xs k=aj p)
  (h:∀h' e,e.key=.ref p.1->e.val=p.2->h'.DictOfH knd d (qO xs k)->lu d s.heap h'->Q (aj e) {s with heap:=h',toks:=s.toks+knd.draws k}):dh (dz prog w) A (Builtin.Dict.takeOut d (.ref a)) Q E s:=by
 let⟨o,es,ep,ho,hc,hd,he,oS,hn⟩:=hm;unfold Builtin.Dict.takeOut;refine uh (aq (knd.pyHash hu bg (aq (wpAny_dictFind_heap (s:={s with toks:=s.toks+knd.draws k}) hu bg ho hd he oS hn ?_ ?_))))
 .intro oQ;rw[atKey_none_of_get oQ]at hp;cases hp
 .intro j q hj;rw[atKey_of_get hn hj]at hp;cases hp;refine aq (xu (s:={s with toks:=s.toks+knd.draws k}) ho hd ?_);rw[entry_at he j,hj];refine aq (wpAny_updateDictKeys (s:={s with toks:=s.toks+knd.draws k}) ho hd (cj (h _ _ rfl rfl ⟨_,_,ep+1,Dh _ ho (Obj.isFreed_of_dict (Obj.data_mapDictKeys hd _)),hc.mapDictKeys _,Obj.data_mapDictKeys hd _,?_,?_,?_⟩ (lu.update ..))) (hz:=by have e:=size_of_entries he;omega) (hf:=?_))
  .rw[ak3 hn hj];have Wk:j<es.size:=by rw[size_of_entries he];exact(jl.mp hj).1
   have em:∀(l:List (K×bw×bh))(j:Nat),(l.map (entryOfKey knd)).eraseIdx j=(l.eraseIdx j).map (entryOfKey knd):=by
    intro l
    induction l with
    |nil=>intro j;rfl
    |cons x r ih=>intro j;cases j with
     |zero=>rfl
     |succ j=>simp[ih]
   simp[Md,Wk,he,em]
  .intro x hx;exact knd.keeps (oS x (zq.mp hx).1) ho hd (lu.update ..)
  .exact(Gv.map _).nodup hn
  .show(es.eraseIdxIfInBounds j).size<=es.size+1;unfold Md;split<;>simp<;>omega
def aK4(hu:knd.room A.in1)(bg:knd.is s.heap k a)(hm:s.heap.DictOfH knd d xs)(hsz:xs.length<=dj)(hp:atKey xs k=aj p)
  (h:∀h',h'.DictOfH knd d (qO xs k)->lu d s.heap h'->Q p.2 {s with heap:=h',toks:=s.toks+knd.draws k}):dh (dz prog w) A (call (.builtin "dict.pop") [.ref d,.ref a]) Q E s:=by
 refine call_meetsIn (S:=λA' R s'=>knd.room A'.in1/\s'=s/\∀h',h'.DictOfH knd d (qO xs k)->lu d s.heap h'->R (.ok (.ret p.2)) {s with heap:=h',toks:=s.toks+knd.draws k}) PySem.F.slot_dict_pop hm.typeIs PySem.F.entry_dict_pop (PySem.F.args_dict_pop_2 _ _) (.of_wp ?_) ⟨hu,rfl,h⟩;rintro A' R s' ⟨oC,e,g⟩;subst e;have lh:xs≠[]:=λe=>by subst e;cases hp
 let⟨o,es,ep,ho,hc,hd,he,oS,hn⟩:=id hm;unfold Builtin.«dict.pop»;refine aq ?_;unfold Builtin.Dict.keyAndDefault;refine aq (wpAny_notOrdered_dict hm.typeIs ?_);show dh _ _ (pure (d,bh.ref a,au)) _ _ _;refine cj ?_
 have e0:es.isEmpty=ao:=by
  have:=size_of_entries he;rw[Array.isEmpty_eq_false_iff];intro z;subst z;exact lh (List.length_eq_zero_iff.mp this.symm)
 show dh _ _ (dictEntries d >>= _) _ _ _;refine aq (xu ho hd ?_);rw[e0];refine aq (cj ?_);show dh _ _ (Builtin.Dict.takeOut d (bh.ref a) >>= _) _ _ _;refine aq (aD6 oC bg hm hsz hp λh' e e1 e2 dd hs=>?_);refine aq (wpAny_letGo (cj ⟨_,rfl,?_⟩));rw[e2];exact g h' dd hs
end
def KT.drop(r:KT H kvs xs)(k:List Key):KT H (lP kvs k) (qO xs k):=by
 unfold lP qO
 induction r with
 |nil=>exact .nil
 |@cons p q ps qs h t ih =>
  rw[tN,tN];by_cases e:p.1=k
  .rw[if_neg (by simp[e]),if_neg (by simp[h.1.symm.trans e])];exact ih
  .rw[if_pos (by simp[e]),if_pos (by simp;exact λz=>e (h.1.trans z))];exact .cons h ih
def F5{κ:Type}[DecidableEq κ]{K:Fg}{f:κ->DK}(hf:∀a b,f a=f b->a=b){k:κ}:∀{kvs:List (DK×D)}{xs:List (κ×V)},fw K H f kvs xs->fw K H f (bL kvs (f k)) (lP xs k)
 |_,_,.nil=>.nil
 |p::kvs,q::xs,.cons h r=>by
  unfold bL lP;rw[tN,tN];by_cases c:q.1=k
  .rw[if_neg (by simp[show p.1=f k by rw[h.1,c]]),if_neg (by simp[c])];exact F5 hf r
  .rw[if_pos (by simp;exact λz=>c (hf _ _ (h.1.symm.trans z))),if_pos (by simp[c])];exact .cons h (F5 hf r)
abbrev w9(r:jS)(to:bN)(t:rZ):bN:=λρ G R=>to ρ G λx G1=>wI x G1/\t ρ G1 λxs G2=>r x xs G2 R
section
variable{X:Cx}
def Sz{o:gV}{t:rZ}{apos ai:Pos}{id:String}{r3:jS}(slot:Slot "dict" name id)(BJ:typeOf (.builtin id)=pure (.type "method_descriptor"))(hm:pv X id r3)(ho:cQ X o to)(ha:dS X (e::es) t)
  (a8:su o name X.env (eval o X.env)=eval o X.env)
  (y3:((qz ai (iz (e::es) X.env)).all (λx=>!x.1)&&(backToKw ai (oj [] X.env)).all (λx=>x.1.isSome)
   &&decide ((e::es).length+([]:List hX).length+(if([]:List hX).isEmpty then 0 else 1)<30))=ak)
  (aT:(apos.endLine==ai.line)=ak)(hs:iz (e::es) X.env=(ao,eval e X.env)::iz es X.env)(ef:(qz ai (iz es X.env)).any (·.1)=ao) :
  cQ X (.Call (.Attribute o name apos) (e::es) [] ai) (w9 r3 to t):=by
 intro ψ s σ H Q I h;let⟨ρ,G,R,sr,g,q,kk⟩:=h;refine wpAny_Call_method_late a8 y3 aT rfl (dZ (ho ψ s σ H (λvx H1=>Ts H H1/\∃x G1,RD X.K H1 x vx/\HR X.K H1 G1/\wI x G1/\t ρ G1 λxs G2=>r3 x xs G2 R) I ⟨ρ,G,_,sr,g,q,λv H1 x G1 t1 r1 g1 q1=>⟨t1,x,G1,r1,g1,q1⟩⟩) ?_);rintro v s1 ⟨vx,H1,I1,r1,t1,x,G1,rx,g1,ty,q1⟩;let⟨a,rfl,rfl,ia⟩:=Ry rx g1 ty;obtain rfl:v=bh.ref a:=r1;let⟨h1,h2,_⟩:=CD I1 ia;refine⟨"dict",id,PySem.F.plainAttrs_dict,slot,BJ,h1,h2,?_⟩;have hA:=ha ai ψ s1 σ H1 (λvs H2=>Ts H1 H2/\∃xs G2,cV X.K H2 xs vs/\HR X.K H2 G2/\r3 (.ref a) xs G2 R) I1 ⟨ρ,G1,_,sr.mono t1,g1,q1,λvs H2 xs G2 t2 r2 g2 q2=>⟨t2,xs,G2,r2,g2,q2⟩⟩;rw[hs]at hA ⊢;refine Calls.callWith_builtin (by show(ao||(qz ai (iz es X.env)).any (·.1))=ao;rw[ef]<;>rfl) (Calls.evalArgs_plain ?_);exact dZ hA (by rintro us s2 ⟨vs,H2,I2,r2,t2,xs,G2,rs,g2,q2⟩;exact hm ψ s2 σ H2 (.ref a) xs (.ref a) vs (.ref a) us G2 R Q I2 (.ref a) rs rfl r2 g2 q2 λv H' d G' t3=>kk v H' d G' ((t1.trans t2).trans t3))
abbrev sC:jS:=λx xs G R=>match xs with
 |[y,z]=>lL x y G λa t kvs k=>t=ak/\kvs.length<dj/\(match aV kvs k with
  |some d=>R d G
  |none=>R z (aF G a (.cR t (eE kvs k z))))
 |_=>False
private theorem aQ3(hu:X.A.units+64<uc):pv X "dict.setdefault" sC:=by
 intro ψ s σ H x xs vx vs u us G R Q I rx rs ru rv g q k;unfold sC at q;split at q
 case h_2=>exact q.elim
 case h_1 y z =>
  cases rs with
  |cons ry rs =>
  cases rs with
  |@cons _ vz _ _ rz rs =>
  cases rs;cases rv with
  |cons DW rv =>
  cases rv with
  |cons MZ rv =>
  cases rv;let⟨a,kvs,kk,rfl,rfl,e1,_,⟨ht,hl,q⟩,dd⟩:=F6 rx ry g q;obtain rfl:u=bh.ref a:=ru;rcases dd with⟨k',ys,rfl,_⟩|⟨ks,ys,b,rfl,e,r,rfl,eb⟩
  .cases ht
  .cases DW;let⟨z1,hd,ws,rel,dc⟩:=EZ I.af e;have hw:=val_two sG (k:=ks) r;have hv:=rel.val ks;have lw:ws.length<=dj:=by rw[←Paired.length rel];exact z1
   refine adW (C5 ⋯) (A7 I.af eb) hd dc lw (λp hp=>?_) λhn h' Iu hs=>?_
   .rw[hp]at hv;cases e2:aV kvs (.inr ks)with
    |none=>rw[hw.2 e2]at hv;exact(show False from hv).elim
    |some d =>
     rw[e2]at q;let⟨v,e3,rd⟩:=hw.1 d e2;rw[e3]at hv;exact⟨v,H,I.tok _,hv,k v H d G (.refl H) rd g q⟩
   .rw[hn]at hv;cases e2:aV kvs (.inr ks)with
    |some d =>
     let⟨v,e3,rd⟩:=hw.1 d e2;rw[e3]at hv;exact(show False from hv).elim
    |none =>
     rw[e2]at q;have tt:Ts H (upd H a (.dT (putK ys ks vz))):=.turn e (λ_ z=>nomatch z) (λ_ _ z=>nomatch z);let⟨q0,es,ep,hq,g2,g3,g4,_,g5⟩:=Iu;have El:∀v:V,(putK ys ks v).length<=dj:=λv=>by have:=Mm ys ks v;rw[←r.length]at this;omega
     refine⟨_,_,CN (t':=_) (ob:=.dT (putK ys ks vz)) I (by rw[e];exact True.intro) hs ⟨q0,hq⟩ ⟨El _,hd,_,(rel.put ks eb MZ).keeps λc zs ec=>?_,q0,es,ep,hq,g2,g3,g4,g5⟩,MZ,k _ _ z _ tt (rz.mono tt) (g.turn (u:=.cR ak _) tt (.inr ⟨rfl,_,aL,(Fs sG rz r).imp λ_ _ q=>⟨q.1,q.2.mono tt⟩⟩)) q⟩;rw[aY (IW ec e (λz=>nomatch z))];exact ec
abbrev A0:jS:=λx xs G R=>match xs with
 |[y]=>lL x y G λa t kvs k=>(match aV kvs k with
  |some d=>R d (aF G a (.cR t (bL kvs k)))
  |none=>False)
 |_=>False
private theorem aK5(hu:X.A.units+64<uc):pv X "dict.pop" A0:=by
 intro ψ s σ H x xs vx vs u us G R Q I rx rs ru rv g q k
 match xs,rs,q with
 |[],_,q=>exact q.elim
 |_::_::_,_,q=>exact q.elim
 |[y],.cons ry .nil,q =>
  cases rv with
  |cons DW rv =>
  cases rv;let⟨a,kvs,kk,rfl,rfl,e1,_,q,dd⟩:=F6 rx ry g q;obtain rfl:u=bh.ref a:=ru;split at q
  .rename_i d e2;rcases dd with⟨k',ys,rfl,e,r,rfl⟩|⟨ks,ys,b,rfl,e,r,rfl,eb⟩
   .obtain⟨v,e3,rd⟩:=(val_two pZ (k:=k') r).1 d e2;have tt:Ts H (upd H a (.dK (lP ys k'))):=.turn e (λ_ z=>nomatch z) (λ_ _ z=>nomatch z);exact aOA I e DW e3 (.inl rfl) λw' s' I' fI=>⟨v,_,I',fI,k v _ d _ tt (rd.mono tt) (g.turn (u:=.cR ao _) tt (.inl ⟨rfl,_,aL,(F5 pZ r).imp λ_ _ q=>⟨q.1,q.2.mono tt⟩⟩)) q⟩
   .obtain⟨v,e3,rd⟩:=(val_two sG (k:=ks) r).1 d e2;cases DW;let⟨z1,hd,ws,rel,dc⟩:=EZ I.af e;have hv:=rel.val ks;rw[e3]at hv;have lw:ws.length<=dj:=by rw[←Paired.length rel];exact z1
    cases hp:atKey ws ks with
    |none=>rw[hp]at hv;exact(show False from hv).elim
    |some p =>
     rw[hp]at hv;have tt:Ts H (upd H a (.dT (lP ys ks))):=.turn e (λ_ z=>nomatch z) (λ_ _ z=>nomatch z);refine aK4 (C5 ⋯) (A7 I.af eb) dc lw hp λh' Iu hs=>?_;let⟨q0,es,ep,hq,g2,g3,g4,_,g5⟩:=Iu;refine⟨v,_,CN (t':=_) (ob:=.dT (lP ys ks)) I (by rw[e];exact True.intro) hs ⟨q0,hq⟩ ⟨lq (Q6 ys ks) z1,hd,_,(rel.drop ks).keeps λc zs ec=>?_,q0,es,ep,hq,g2,g3,g4,g5⟩,hv,k v _ d _ tt (rd.mono tt) (g.turn (u:=.cR ak _) tt (.inr ⟨rfl,_,aL,(F5 sG r).imp λ_ _ q=>⟨q.1,q.2.mono tt⟩⟩)) q⟩;rw[aY (IW ec e (λz=>nomatch z))];exact ec
  .exact q.elim
abbrev AZ:List D->Gp->lG->Prop:=λxs G R=>match xs with
 |[.ref a]=>(match G a with
  |some (.cR ao kvs)=>R (.int kvs.length) G
  |_=>False)
 |_=>False
private theorem aK6:j7 X (.builtin "len") AZ:=by
 intro ψ s σ H xs vs us G R Q I rx rv g q k;unfold AZ at q;split at q
 .rename_i a;split at q
  .rename_i kvs e1;cases rx with
   |cons r1 rr =>
   cases rr;cases r1;cases rv with
   |cons rv rr =>
   cases rr;cases rv;rcases g a _ e1 with⟨_,ys,e,r⟩|⟨z,_⟩
   .refine aOB I (.inl e) λt s' I'=>⟨.int ys.length,H,I',⟨t,rfl⟩,k _ H (.int kvs.length) G (.refl H) (by rw[r.length];exact .int _) g q⟩
   .cases z
  .exact q.elim
 .exact q.elim
end
end
section
open PySem.W
section
variable{cmp:Nat->Nat->(Bool->dg->Prop)->dg->Prop}{I:dg->Prop}{kf:Nat->Int}
abbrev ky(kf:Nat->Int)(p:Array Nat)(i:Nat):Int:=kf (p.getD i 0)
abbrev Up(kf:Nat->Int)(p:Array Nat)(k:Nat):Prop:=∀i j,i<=j->j<k->ky kf p i<=ky kf p j
abbrev Down(kf:Nat->Int)(p:Array Nat)(k:Nat):Prop:=∀i j,i<j->j<k->ky kf p j<ky kf p i
abbrev kc(cmp:Nat->Nat->(Bool->dg->Prop)->dg->Prop)(I:dg->Prop)(kf:Nat->Int)(n:Nat):Prop:=∀i j C s,i<n->j<n->I s->(∀s',I s'->C (decide (kf i<kf j)) s')->cmp i j C s
structure Pm(n:Nat)(p:Array Nat):Prop where
 size:p.size=n
 perm:p.toList.Perm (lg n)
def Pm.lt{n:Nat}{p:Array Nat}(h:Pm n p){i:Nat}(hi:i<n):p.getD i 0<n:=by
 have hs:i<p.size:=by rw[h.size];exact hi
 have e:p.getD i 0=p[i]:=by simp[yh,hs]
 rw[e];exact yx.mp (h.perm.mem_iff.mp (by simp))
def Pm.inj{n:Nat}{p:Array Nat}(h:Pm n p){i j:Nat}(hi:i<n)(hj:j<n)(e:p.getD i 0=p.getD j 0):i=j:=by
 have hs:i<p.size:=by rw[h.size];exact hi
 have ht:j<p.size:=by rw[h.size];exact hj
 have nd:p.toList.Nodup:=(h.perm.nodup_iff).mpr List.nodup_range;have e1:p.getD i 0=p[i]:=by simp[yh,hs]
 have e2:p.getD j 0=p[j]:=by simp[yh,ht]
 rw[e1,e2]at e;have key:=vf.mp nd;have oP:i<p.toList.length:=by simpa using hs
 have HV:j<p.toList.length:=by simpa using ht
 rcases C2 i j with c|c|c
 .exact absurd (by simpa using e) (key i j oP HV c)
 .exact c
 .exact absurd (by simpa using e.symm) (key j i HV oP c)
def qC{p q:Array Nat}{i j:Nat}(h:p[i]?=q[j]?):p.getD i 0=q.getD j 0:=by
 rw[Array.getD_eq_getD_getElem?,Array.getD_eq_getD_getElem?,h]
def OE{p:Array Nat}{n k:Nat}(hn:n<=p.size)(hk:k<n):ky kf (kas_rev p 0 n) k=ky kf p (n - 1 - k):=by
 unfold ky kas_rev;have e:=getElem?_mirror_all (xs:=p) (i:=0) (j:=n) hn k;rw[if_pos ⟨qm _,hk⟩,qu]at e;rw[qC e]
def Pm.rev{n m:Nat}(h:Pm n p):Pm n (kas_rev p 0 m):=⟨by rw[kas_rev_size];exact h.size,((mirror_perm p 0 m _).toList).trans h.perm⟩
def Down.up{p:Array Nat}{n:Nat}(hn:n<=p.size)(h:Down kf p n):Up kf (kas_rev p 0 n) n:=λi j fR hj=>by
 rw[OE hn ⋯,OE hn hj];by_cases c:i=j
 .subst c;exact wu _
 .exact wk (h (n - 1 - j) (n - 1 - i) ⋯ ⋯)
def Jm{n:Nat}(hc:kc cmp I kf n)(P:Pm n p):∀(f a:Nat)(s:dg),1<=a->a+f<=n->Up kf p a->I s->(∀m s',a<=m->m<=a+f->Up kf p m->(m<a+f->ky kf p m<ky kf p (m - 1))->I s'->Q m s')->(kas_asc p f a).kasWp cmp Q s
 |0,a,s,h1,h2,u,i,h=>h a s (dw _) (dw _) u (λz=>absurd z (rm _)) i
 |f+1,a,s,h1,h2,u,i,h=>by
  show cmp (p.getD a 0) (p.getD (a - 1) 0) _ s;refine hc _ _ _ s (P.lt ⋯) (P.lt ⋯) i λs' i'=>?_;by_cases c:kf (p.getD a 0)<kf (p.getD (a - 1) 0)
  .rw[decide_eq_true c];dsimp only;rw[if_pos rfl];exact h a s' (dw _) ⋯ u (λ_=>c) i'
  .rw[decide_eq_false c];dsimp only;rw[if_neg (by decide)];refine Jm hc P f (a+1) s' ⋯ ⋯ (λx y vt hy=>?_) i' λm s2 l1 l2 u2 l3 i2=>h m s2 ⋯ ⋯ u2 (λz=>l3 ⋯) i2;by_cases cy:y<a
   .exact u x y vt cy
   .have ey:y=a:=by omega
    subst ey;by_cases cx:x=y
    .subst cx;exact wu _
    .have:=u x (y - 1) ⋯ ⋯;have c':ky kf p (y - 1)<=ky kf p y:=by unfold ky;omega
     omega
def PH{n:Nat}(hc:kc cmp I kf n)(hd:∀i j,i<n->j<n->kf i=kf j->i=j)(P:Pm n p):∀(f a:Nat)(s:dg),2<=a->a+f<=n->Down kf p a->I s->(∀m s',a<=m->m<=a+f->Down kf p m->I s'->Q (p,m,0) s')->(kas_desc f p a 0).kasWp cmp Q s
 |0,a,s,h1,h2,u,i,h=>h a s (dw _) (dw _) u i
 |f+1,a,s,h1,h2,u,i,h=>by
  show cmp (p.getD a 0) (p.getD (a - 1) 0) _ s;refine hc _ _ _ s (P.lt ⋯) (P.lt ⋯) i λs' i'=>?_;by_cases c:kf (p.getD a 0)<kf (p.getD (a - 1) 0)
  .rw[decide_eq_true c];dsimp only;rw[if_pos rfl,if_neg ⋯];refine PH hc hd P f (a+1) s' ⋯ ⋯ (λx y vt hy=>?_) i' λm s2 l1 l2 u2 i2=>h m s2 ⋯ ⋯ u2 i2;by_cases cy:y<a
   .exact u x y vt cy
   .have ey:y=a:=by omega
    subst ey;have c':ky kf p y<ky kf p (y - 1):=c;by_cases cx:x=y - 1
    .subst cx;exact c'
    .have:=u x (y - 1) ⋯ ⋯;omega
  .rw[decide_eq_false c];dsimp only;rw[if_neg (by decide)];show cmp (p.getD (a - 1) 0) (p.getD a 0) _ s';refine hc _ _ _ s' (P.lt ⋯) (P.lt ⋯) i' λs2 i2=>?_
   have ne:kf (p.getD a 0)≠kf (p.getD (a - 1) 0):=λz=>by
    have:=P.inj (i:=a) (j:=a - 1) ⋯ ⋯ (hd _ _ (P.lt ⋯) (P.lt ⋯) z);omega
   rw[decide_eq_true (show kf (p.getD (a - 1) 0)<kf (p.getD a 0) by omega)];dsimp only;rw[if_pos rfl];exact h a s2 (dw _) ⋯ u i2
def XM{n:Nat}(hc:kc cmp I kf n)(hd:∀i j,i<n->j<n->kf i=kf j->i=j)(h2:2<=n)(P:Pm n p)(i:I s)(h:∀m q s',1<=m->m<=n->Pm n q->Up kf q m->I s'->Q (m,q) s'):(kas_count n p).kasWp cmp Q s:=by
 unfold kas_count;rw[KasT.kasWp_bind];refine Jm hc P (n - 1) 1 s (dw _) ⋯ (λx y vt hy=>by have:x=y:=⋯;subst this;exact wu _) i λm s' l1 l2 u l3 i'=>?_;by_cases c:m=n
 .subst c;rw[if_pos (by simp)];exact h m p s' l1 ⋯ P u i'
 .rw[if_neg (by simpa using c)];by_cases c1:m>1
  .rw[if_pos c1];show cmp (p.getD 0 0) (p.getD (m - 1) 0) _ s';refine hc _ _ _ s' (P.lt ⋯) (P.lt ⋯) i' λs2 i2=>?_
   have ne:kf (p.getD 0 0)≠kf (p.getD (m - 1) 0):=λz=>by
    have:=P.inj (i:=0) (j:=m - 1) ⋯ ⋯ (hd _ _ (P.lt ⋯) (P.lt ⋯) z);omega
   have le:ky kf p 0<=ky kf p (m - 1):=u 0 (m - 1) ⋯ ⋯;unfold ky at le;rw[decide_eq_true (show kf (p.getD 0 0)<kf (p.getD (m - 1) 0) by omega)];dsimp only;rw[if_pos rfl];exact h m p s2 l1 ⋯ P u i2
  .rw[if_neg c1];have e1:m=1:=by omega
   subst e1;unfold kas_descPart;rw[KasT.kasWp_bind];refine PH hc hd P (n - (1+1)) (1+1) s' ⋯ ⋯ (λx y vt hy=>?_) i' λm s2 k1 k2 dn i2=>?_
   .have ex:x=0:=by omega
    have ey:y=1:=by omega
    subst ex;subst ey;exact l3 ⋯
   .dsimp only;rw[if_neg ⋯];unfold kas_tail3;rw[KasT.kasWp_bind];refine Jm hc (P.rev (m:=m)) (n - m) m s2 ⋯ ⋯ (dn.up (by rw[P.size];omega)) i2 λk s3 q1 q2 u3 _ i3=>h k _ s3 ⋯ ⋯ P.rev u3 i3
def Kk{n:Nat}(hc:kc cmp I kf n)(P:Pm n p){k:Nat}(hk:k<n)(u:Up kf p k):∀(f l r:Nat)(s:dg),l<=r->r<=k->r - l<=f->(∀x,x<l->ky kf p x<=ky kf p k)->(∀x,r<=x->x<k->ky kf p k<ky kf p x)->I s ->
   (∀m s',m<=k->(∀x,x<m->ky kf p x<=ky kf p k)->(∀x,m<=x->x<k->ky kf p k<ky kf p x)->I s'->Q m s')->(kas_place p k f l r).kasWp cmp Q s
 |0,l,r,s,h1,h2,h3,a,b,i,h=>h l s ⋯ a (λx hx=>b x ⋯) i
 |f+1,l,r,s,h1,h2,h3,a,b,i,h=>by
  unfold kas_place;by_cases c0:l≥r
  .rw[if_pos c0];exact h l s ⋯ a (λx hx=>b x ⋯) i
  .rw[if_neg c0];show cmp (p.getD k 0) (p.getD ((l+r) / 2) 0) _ s;refine hc _ _ _ s (P.lt ⋯) (P.lt ⋯) i λs' i'=>?_;by_cases c:kf (p.getD k 0)<kf (p.getD ((l+r) / 2) 0)
   .rw[decide_eq_true c];dsimp only;rw[if_pos rfl];refine Kk hc P hk u f l ((l+r) / 2) s' ⋯ ⋯ ⋯ a (λx hx V8=>?_) i' h;have:=u ((l+r) / 2) x hx V8;have c':ky kf p k<ky kf p ((l+r) / 2):=c;omega
   .rw[decide_eq_false c];dsimp only;rw[if_neg (by decide)];refine Kk hc P hk u f ((l+r) / 2+1) r s' ⋯ ⋯ ⋯ (λx hx=>?_) b i' h;have:=u x ((l+r) / 2) ⋯ ⋯;have c':ky kf p ((l+r) / 2)<=ky kf p k:=by unfold ky;omega
    omega
def Cr{n:Nat}(hc:kc cmp I kf n):∀(f k:Nat)(p:Array Nat)(s:dg),Pm n p->1<=k->k+f=n->Up kf p k->I s->(∀q s',Pm n q->Up kf q n->I s'->Q q s')->(kas_bin f p k).kasWp cmp Q s
 |0,k,p,s,P,h1,h2,u,i,h=>h p s P (by rw[←h2];exact u) i
 |f+1,k,p,s,P,h1,h2,u,i,h=>by
  unfold kas_bin;rw[KasT.kasWp_bind];refine Kk hc P ⋯ u k 0 k s (qm _) (dw _) ⋯ (λx hx=>absurd hx (Nat.not_lt_zero _)) (λx hx hk=>absurd hx ⋯) i λm s' l1 a b i'=>?_;have hs:k<p.size:=by rw[P.size];omega
  refine Cr hc f (k+1) _ s' ⟨by rw[bubble_size];exact P.size,((bubble_perm p k _).toList).trans P.perm⟩ ⋯ ⋯ (λx y vt hy=>?_) i' h
  have e:∀z,ky kf (bubble p k (k - m)) z=if z=m then ky kf p k else if m<z/\z<=k then ky kf p (z - 1)else ky kf p z:=λz=>by
   have e:=getElem?_bubble hs (k - m) ⋯ z;rw[show k - (k - m)=m by omega]at e;by_cases c:z=m
   .rw[if_pos c]at e ⊢;exact congrArg kf (qC e)
   .rw[if_neg c]at e ⊢;by_cases c2:m<z/\z<=k
    .rw[if_pos c2]at e ⊢;exact congrArg kf (qC e)
    .rw[if_neg c2]at e ⊢;exact congrArg kf (qC e)
  have e1:ky kf (bubble p k (k - m)) m=ky kf p k:=by rw[e,if_pos rfl]
  have e2:∀z,m<z->z<=k->ky kf (bubble p k (k - m)) z=ky kf p (z - 1):=λz h1 h2=>by rw[e,if_neg ⋯,if_pos ⟨h1,h2⟩]
  have e3:∀z,z<m->ky kf (bubble p k (k - m)) z=ky kf p z:=λz h1=>by rw[e,if_neg ⋯,if_neg ⋯]
  rcases C2 x m with c|c|c
  .rw[e3 x c];rcases C2 y m with d|d|d
   .rw[e3 y d];exact u x y vt ⋯
   .rw[d,e1];exact a x c
   .rw[e2 y d ⋯];exact u x (y - 1) ⋯ ⋯
  .rw[c,e1];by_cases d:y=m
   .rw[d,e1];exact wu _
   .rw[e2 y ⋯ ⋯];exact wk (b (y - 1) ⋯ ⋯)
  .rw[e2 x c ⋯,e2 y ⋯ ⋯];exact u (x - 1) (y - 1) ⋯ ⋯
def aD7{n:Nat}(hc:kc cmp I kf n)(hd:∀i j,i<n->j<n->kf i=kf j->i=j)(h2:2<=n)(i:I s)(h:∀q s',Pm n q->Up kf q n->I s'->Q q s'):(kas_sort n).kasWp cmp Q s:=by
 unfold kas_sort;rw[KasT.kasWp_bind];refine XM hc hd h2 ⟨by simp,by simp⟩ i λm q s' l1 l2 P u i'=>?_;dsimp only;by_cases c:m<n
 .rw[if_pos c];have e:max m 1=m:=by omega
  rw[e];exact Cr hc (n - m) m q s' P l1 ⋯ u i' h
 .rw[if_neg c];have:m=n:=by omega
  subst this;exact h q s' P u i'
end
section
variable{prog:jr}{w:je}{A:jd}{s:dg}
abbrev ES(prog:jr)(w:je)(A:jd)(s:dg)(kf:Nat->Int)(vs:List bh)(h':jw):Prop :=
 ∃κ,(∀Q:SortKind->dg->Prop,Q κ {s with heap:=h' }->dh (dz prog w) A (keyKind' vs.toArray) Q (λ_ _=>False) {s with heap:=h' })/\∀i j (C:Bool->dg->Prop),i<vs.length->j<vs.length->C (decide (kf i<kf j)) {s with heap:=h' }->kas_ask prog w A κ vs i j C {s with heap:=h' }
def Y1{l:List bh}(h:l.length<2):(l.toArray.zip l.toArray).map (·.2)=((lg l.length).toArray.toList.map λi=>l.getD i bh.none).toArray:=by
 cases l with
 |nil=>simp
 |cons v r =>
  cases r with
  |nil=>simp
  |cons _ _=>simp at h;omega
end
abbrev jn(a b:Int×Int):Prop:=a.1<b.1∨(a.1=b.1/\a.2<b.2)
instance (a b:Int×Int):Decidable (jn a b):=by unfold jn;infer_instance
abbrev jZ:List (Int×Int)->Prop:=List.Pairwise jn
abbrev enc(M:Int)(a:Int×Int):Int:=a.1*M+a.2
def Cq{M B:Int}(hM:2*B<M){a b:Int×Int}(ha:-B<=a.2/\a.2<=B)(hb:-B<=b.2/\b.2<=B):enc M a<enc M b↔jn a b:=by
 unfold enc jn;have m0:0<=M:=by omega
 rcases Int.lt_trichotomy a.1 b.1 with c|c|c
 .have:a.1*M<=(b.1 - 1)*M:=Int.mul_le_mul_of_nonneg_right ⋯ m0;rw[Int.sub_mul,Int.one_mul]at this;exact⟨λ_=>.inl c,λ_=>by omega⟩
 .rw[c];exact⟨λ_=>.inr ⟨rfl,⋯⟩,λh=>by rcases h with h|h<;>omega⟩
 .have:b.1*M<=(a.1 - 1)*M:=Int.mul_le_mul_of_nonneg_right ⋯ m0;rw[Int.sub_mul,Int.one_mul]at this;exact⟨λ_=>by omega,λh=>by rcases h with h|h<;>omega⟩
def Kj:∀ps:List (Int×Int),∃B:Int,0<=B/\∀p∈ps,-B<=p.2/\p.2<=B
 |[]=>⟨0,wu _,λp h=>by cases h⟩
 |p::r=>by
  let⟨B,b0,h⟩:=Kj r;refine⟨B+p.2.natAbs,⋯,λq hq=>?_⟩;rcases nu.mp hq with rfl|hq
  .omega
  .have:=h q hq;omega
section
variable{prog:jr}{w:je}{A:jd}
abbrev CK(h:jw)(ps:List (Int×Int))(vs:List bh):Prop:=vs.length=ps.length/\∀(i:Nat)(p:Int×Int),ps[i]?=aj p->∃(a:bw)(o:Obj)(n:Nat)(x y:Tok),vs[i]?=aj (bh.ref a)/\h.get? a=aj o/\o.cls=bh.type "tuple"/\o.data=.seq #[.int p.1 x,.int p.2 y] n
def CK.mh{h:jw}:∀{ps:List (Int×Int)}{vs:List bh},CK h ps vs->∃fs:List bh,KatTups h vs fs/\fs.length=ps.length/\∀v∈fs,∃i t,v=.int i t
 |[],[],_=>⟨[],trivial,rfl,λv h=>by cases h⟩
 |[],_::_,H=>absurd H.1 (by simp)
 |_::_,[],H=>absurd H.1 (by simp)
 |p::ps,v::vs,H=>by
  let⟨a,o,n,x,y,e1,e2,e3,e4⟩:=H.2 0 p rfl;let⟨fs,k1,k2,k3⟩:=CK.mh (h:=h) (ps:=ps) (vs:=vs) ⟨by simpa using H.1,λi q hq=>by simpa using H.2 (i+1) q (by simpa using hq)⟩;have lz:v=.ref a:=by simpa using e1
  subst lz;refine⟨.int p.1 x::fs,KatTups.cons e2 e3 e4 rfl k1,by simp[k2],λu hu=>?_⟩;rcases nu.mp hu with rfl|hu
  .exact⟨_,_,rfl⟩
  .exact k3 u hu
def Rx{ps:List (Int×Int)}{vs:List bh}{M B:Int}(hM:2*B<M)(hB:∀p∈ps,-B<=p.2/\p.2<=B)(l2:2<=vs.length)(hp:CK h' ps vs):ES prog w A s (λi=>enc M (ps.getD i (0,0))) vs h':=by
 let⟨fs,k1,k2,k3⟩:=hp.mh;have len:=hp.1;refine⟨tuples' (bh.type "int"!=bh.type "tuple"),λQ hQ=>kat_kind (s:={s with heap:=h' }) k1 ⋯ (λv hv=>?_) (by simp) hQ,λi j C hi hj hC=>?_⟩
 .obtain⟨i,t,rfl⟩:=k3 v hv;exact .now
 .obtain⟨p,ep⟩:∃p,ps[i]?=aj p:=⟨_,jj ⋯⟩;obtain⟨q,eq⟩:∃q,ps[j]?=aj q:=⟨_,jj ⋯⟩;let⟨a,o,n,x,y,a1,a2,a3,a4⟩:=hp.2 i p ep;let⟨b,o',n',x',y',b1,b2,b3,b4⟩:=hp.2 j q eq;have ga:vs.getD i bh.none=.ref a:=by simp[zu,a1]
  have gb:vs.getD j bh.none=.ref b:=by simp[zu,b1]
  have gp:ps.getD i (0,0)=p:=by simp[zu,ep]
  have gq:ps.getD j (0,0)=q:=by simp[zu,eq]
  have key:=Cq hM (hB p (qg ep)) (hB q (qg eq))
  have hC:C (decide (enc M p<enc M q)) {s with heap:=h' }:=by
   have e:decide (enc M (ps.getD i (0,0))<enc M (ps.getD j (0,0)))=decide (enc M p<enc M q):=by rw[decide_eq_decide,gp,gq]
   rw[←e];exact hC
  unfold kas_ask;rw[ga,gb];refine kat_lt (s:={s with heap:=h' }) a2 a4 b2 b4 ?_;refine kat_cons (wpAny_eqBool_int ?_);refine kat_go (λe=>kat_yes (kat_cons (wpAny_eqBool_int (kat_go (λe2=>kat_yes (kat_nil ?_)) λe2=>kat_no (kat_one _ _ ?_))))) λe=>kat_no (oneLt_int ?_)
  .have c1:p.1=q.1:=by simpa using e
   have c2:p.2=q.2:=by simpa using e2
   rw[decide_eq_false (show ¬ enc M p<enc M q from λz=>by rcases key.mp z with z|z<;>omega)]at hC;exact hC
  .have c1:p.1=q.1:=by simpa using e
   have c2:p.2≠q.2:=by simpa using e2
   refine CmpOf.ints_lt (prog:=prog) (w:=w) (A:=A) (P:=λi v=>∃t,v=.int (if i=0 then p.2 else q.2) t) (λi=>if i=0 then p.2 else q.2) (λi v h=>h) 0 1 _ _ _ _ _ ⟨y,rfl⟩ ⟨y',rfl⟩ ?_
   have:decide (enc M p<enc M q)=decide ((if(0:Nat)=0 then p.2 else q.2)<(if(1:Nat)=0 then p.2 else q.2)):=by
    rw[decide_eq_decide,key,if_pos rfl,if_neg (by decide)];unfold jn;omega
   rw[this]at hC;exact(show PySem.W.BoolBack C (.bool _) _ from hC)
  .have c1:p.1≠q.1:=by simpa using e
   have:decide (enc M p<enc M q)=decide (p.1<q.1):=by
    rw[decide_eq_decide,key];unfold jn;omega
   rw[this]at hC;exact hC
end
end
end L2
namespace TS
open PySem PyProof.Rows
abbrev vM:Bool->Keyed->Array Keyed->Nat->Nat->Nat->StateT SortSt Sem (Option Nat):=sortPriv%PySem.Builtin.gallop
abbrev F4:Array Keyed->Array Keyed->StateT SortSt Sem (Array Keyed):=sortPriv%PySem.Builtin.mergeLo
abbrev F3:Array Keyed->Array Keyed->StateT SortSt Sem (Array Keyed):=sortPriv%PySem.Builtin.mergeHi
@[simp]def setG(st:SortSt)(g:Nat):SortSt:=SortSt.mk' (kindOf st) (arrOf st) (pendingOf st) g (failedOf st)
@[simp]def FI(st:SortSt)(a:Array Keyed):SortSt:=SortSt.mk' (kindOf st) a (pendingOf st) (gallopOf st) (failedOf st)
@[simp]def KW(st:SortSt)(a:Array (Nat×Nat×Nat)):SortSt:=SortSt.mk' (kindOf st) (arrOf st) a (gallopOf st) (failedOf st)
def K'(left:Bool)(k0:Keyed)(a0:Array Keyed)(b0 n h0:Nat):vM left k0 a0 b0 n h0=(do
 let bf (i:Nat):StateT SortSt Sem (Option Bool):=do
  let x ←elem' a0 (b0+i)
  if left then lt' x k0 else return (←lt' k0 x).map (!·)
 let mut u1:=0
 let mut u2:=1
 let mut c1:=0
 let mut c2:=0
 let aj r0 ←bf h0|return au
 if r0 then
  let u3:=n - h0
  for _ in [0:n] do
   if u2≥u3 then break
   let aj r1 ←bf (h0+u2)|return au
   if !r1 then break
   u1:=u2
   u2:=2*u2+1
  c1:=h0+u1+1
  c2:=h0+min u2 u3
 else
  let u3:=h0+1
  for _ in [0:n] do
   if u2≥u3 then break
   let aj r2 ←bf (h0 - u2)|return au
   if r2 then break
   u1:=u2
   u2:=2*u2+1
  c1:=h0+1 - min u2 u3
  c2:=h0 - u1
 for _ in [0:n] do
  if c1≥c2 then break
  let m:=c1+(c2 - c1) / 2
  let aj r1 ←bf m|return au
  if r1 then c1:=m+1 else c2:=m
 return aj c2):=rfl
variable{p:Array Nat}{left:Bool}{key:Nat}
section
variable{M:Model}{A:jd}{E:bh->dg->Prop}{s:dg}{f:Nat->Keyed}{kf:Nat->Int}{N:Nat}{κ:SortKind}
abbrev ny(M:Model)(A:jd)(E:bh->dg->Prop)(s:dg)(f:Nat->Keyed)(kf:Nat->Int)(N:Nat)(κ:SortKind):Prop :=
 ∀(i j:Nat)(st:SortSt)(Q:Option Bool->SortSt->Prop),i<N->j<N->kindOf st=κ->Q (aj (decide (kf i<kf j))) st->wpS M A E s (lt' (f i) (f j)) Q st
@[simp]def at'(p:Array Nat)(i:Nat):Nat:=p.getD i 0
abbrev In(N:Nat)(p:Array Nat):Prop:=∀i,i<p.size->at' p i<N
def bQ{i:Nat}{st:SortSt}{Q:Keyed->SortSt->Prop}(hi:i<p.size)(h:Q (f (at' p i)) st):wpS M A E s (elem' (p.map f) i) Q st:=by
 have e:(p.map f)[i]?=aj (f (at' p i)):=by simp[at',yh,hi]
 rw[elem'_eq,e];exact wpS_pure h
abbrev yS(kf:Nat->Int)(left:Bool)(key x:Nat):Bool:=if left=ak then decide (kf x<kf key)else !decide (kf key<kf x)
@[simp]def Sy(left:Bool)(key:Keyed)(arr:Array Keyed)(i:Nat):StateT SortSt Sem (Option Bool):=do
 let x ←elem' arr i
 if left then lt' x key else return (←lt' key x).map (!·)
def E8(hL:ny M A E s f kf N κ)(hk:key<N)(hp:In N p){i:Nat}(hi:i<p.size){st:SortSt}(hs:kindOf st=κ){Q:Option Bool->SortSt->Prop}(h:Q (aj (yS kf left key (at' p i))) st) :
  wpS M A E s (Sy left (f key) (p.map f) i) Q st:=by
 refine wpS_bind (bQ hi ?_);unfold yS at h;cases left with
 |true =>
  simp only[if_true]at h ⊢;exact hL _ _ _ _ (hp _ hi) hk hs h
 |false =>
  simp only[kj,if_false]at h ⊢;exact wpS_bind (hL _ _ _ _ hk (hp _ hi) hs (wpS_pure h))
private theorem OD(hL:ny M A E s f kf N κ)(hk:key<N)(hp:In N p){base n:Nat}(hb:base+n<=p.size)(mono:∀i j,i<=j->j<n->yS kf left key (at' p (base+j))=ak->yS kf left key (at' p (base+i))=ak)
  {st:SortSt}(hs:kindOf st=κ){lo hi:Nat}(h1:lo<=hi)(h2:hi<=n)(Ek:∀i,i<lo->yS kf left key (at' p (base+i))=ak)(Wl:∀i,hi<=i->i<n->yS kf left key (at' p (base+i))=ao) :
  wpS M A E s (forIn [:n] (au,lo,hi) λ(x:Nat)(__s:Option (Option Nat)×Nat×Nat) =>
    if __s.snd.fst≥__s.snd.snd then pure (ForInStep.done (au,__s.snd.fst,__s.snd.snd))
    else do
     let __x ←Sy left (f key) (p.map f) (base+(__s.snd.fst+(__s.snd.snd - __s.snd.fst) / 2))
     match __x with
     |some more =>
      if more=ak then pure (ForInStep.yield (au,__s.snd.fst+(__s.snd.snd - __s.snd.fst) / 2+1,__s.snd.snd))
      else pure (ForInStep.yield (au,__s.snd.fst,__s.snd.fst+(__s.snd.snd - __s.snd.fst) / 2))
     |x=>pure (ForInStep.done (aj au,__s.snd.fst,__s.snd.snd))) (λc ae=>ae=st/\∃l r,c=(au,l,r)/\l=r/\r<=n/\(∀i,i<l->yS kf left key (at' p (base+i))=ak)/\(∀i,r<=i->i<n->yS kf left key (at' p (base+i))=ao)) st:=by
 refine(wpS_forRange (I:=λx c ae=>ae=st/\∃l r,c=(au,l,r)/\l<=r/\r<=n/\r+x<=n+l/\(∀i,i<l->yS kf left key (at' p (base+i))=ak)/\(∀i,r<=i->i<n->yS kf left key (at' p (base+i))=ao)) ?step ?fin ⟨rfl,lo,hi,rfl,h1,h2,⋯,Ek,Wl⟩)
 case fin =>
  rintro c ae ⟨rfl,l,r,rfl,a0,a1,a4,a2,a3⟩;exact⟨rfl,l,r,rfl,⋯,a1,a2,a3⟩
 case step =>
  rintro x c ae _ hx ⟨rfl,l,r,rfl,a0,a1,a4,a2,a3⟩;dsimp only;by_cases nc:l≥r
  .rw[if_pos nc];exact wpS_pure ⟨rfl,l,r,rfl,⋯,a1,a2,a3⟩
  .rw[if_neg nc];refine wpS_bind (E8 hL hk hp ⋯ hs ?_);cases e:yS kf left key (at' p (base+(l+(r - l) / 2)))with
   |true =>
    simp only[if_true];exact wpS_pure ⟨rfl,_,_,rfl,⋯,a1,⋯,λi hi=>mono i (l+(r - l) / 2) ⋯ ⋯ e,a3⟩
   |false =>
    simp only[kj,if_false];refine wpS_pure ⟨rfl,_,_,rfl,⋯,⋯,⋯,a2,λi hi hn=>?_⟩;cases e2:yS kf left key (at' p (base+i))with
    |false=>rfl
    |true=>rw[mono _ i hi hn e2]at e;cases e
private theorem AY(hL:ny M A E s f kf N κ)(hk:key<N)(hp:In N p){base n hint:Nat}(hb:base+n<=p.size)(hh:hint<n)(mono:∀i j,i<=j->j<n->yS kf left key (at' p (base+j))=ak->yS kf left key (at' p (base+i))=ak)
  {st:SortSt}(hs:kindOf st=κ){Q:Option Nat->SortSt->Prop}
  (h:∀k,k<=n->(∀i,i<k->yS kf left key (at' p (base+i))=ak)->(∀i,k<=i->i<n->yS kf left key (at' p (base+i))=ao)->Q (aj k) st) :
  wpS M A E s (vM left (f key) (p.map f) base n hint) Q st:=by
 have neg:∀i j,i<=j->j<n->yS kf left key (at' p (base+i))=ao->yS kf left key (at' p (base+j))=ao:=λi j fR hj e=>by
  cases e2:yS kf left key (at' p (base+j))with
  |false=>rfl
  |true=>rw[mono i j fR hj e2]at e;cases e
 rw[K'];dsimp only;refine wpS_bind (E8 hL hk hp ⋯ hs ?_);cases e0:yS kf left key (at' p (base+hint))with
 |true =>
  simp only[if_true]
  refine wpS_bind (wpS_mono (wpS_forRange (I:=λx c ae=>ae=st/\∃l o,c=(au,l,o)/\l<o/\x<o/\hint+l<n/\yS kf left key (at' p (base+(hint+l)))=ak)
   (Q:=λc ae=>ae=st/\∃l o,c=(au,l,o)/\l<o/\hint+l<n/\yS kf left key (at' p (base+(hint+l)))=ak/\(n - hint<=o∨yS kf left key (at' p (base+(hint+o)))=ao)) ?step ?fin ⟨rfl,0,1,rfl,⋯,⋯,⋯,e0⟩) ?post)
  case post =>
   rintro c ae ⟨rfl,l,o,rfl,a0,a1,a2,a3⟩;refine wpS_bind (wpS_mono (OD (lo:=hint+l+1) (hi:=hint+min o (n - hint)) hL hk hp hb mono hs ⋯ ⋯ (λi hi=>mono i (hint+l) ⋯ a1 a2) (λi hi hn=>?_)) λc br z=>?_)
   .rcases a3 with a3|a3
    .omega
    .by_cases q:n - hint<=o
     .omega
     .exact neg (hint+o) i ⋯ hn a3
   .obtain⟨rfl,l,r,rfl,rfl,a1,a2,a3⟩:=z;exact wpS_pure (h l a1 a2 a3)
  case fin =>
   rintro c ae ⟨rfl,l,o,rfl,a0,a4,a1,a2⟩;exact⟨rfl,l,o,rfl,a0,a1,a2,.inl ⋯⟩
  case step =>
   rintro x c ae _ hx ⟨rfl,l,o,rfl,a0,a4,a1,a2⟩;dsimp only;by_cases nc:o≥n - hint
   .rw[if_pos nc];exact wpS_pure ⟨rfl,l,o,rfl,a0,a1,a2,.inl nc⟩
   .rw[if_neg nc];refine wpS_bind (E8 hL hk hp ⋯ hs ?_);cases e:yS kf left key (at' p (base+(hint+o)))with
    |true =>
     simp only[qi,kj,if_false];exact wpS_pure ⟨rfl,_,_,rfl,⋯,⋯,⋯,e⟩
    |false =>
     simp only[Gd,if_true];exact wpS_pure ⟨rfl,l,o,rfl,a0,a1,a2,.inr e⟩
 |false =>
  simp only[kj,if_false]
  refine wpS_bind (wpS_mono (wpS_forRange (I:=λx c ae=>ae=st/\∃l o,c=(au,l,o)/\l<o/\x<o/\l<=hint/\yS kf left key (at' p (base+(hint - l)))=ao)
   (Q:=λc ae=>ae=st/\∃l o,c=(au,l,o)/\l<o/\l<=hint/\yS kf left key (at' p (base+(hint - l)))=ao/\(hint+1<=o∨yS kf left key (at' p (base+(hint - o)))=ak)) ?step ?fin ⟨rfl,0,1,rfl,⋯,⋯,⋯,e0⟩) ?post)
  case post =>
   rintro c ae ⟨rfl,l,o,rfl,a0,a1,a2,a3⟩;refine wpS_bind (wpS_mono (OD (lo:=hint+1 - min o (hint+1)) (hi:=hint - l) hL hk hp hb mono hs ⋯ ⋯ (λi hi=>?_) (λi hi hn=>neg _ i (show hint - l<=i from hi) hn a2)) λc br z=>?_)
   .rcases a3 with a3|a3
    .exfalso;omega
    .exact mono i (hint - o) ⋯ ⋯ a3
   .obtain⟨rfl,l,r,rfl,rfl,a1,a2,a3⟩:=z;exact wpS_pure (h l a1 a2 a3)
  case fin =>
   rintro c ae ⟨rfl,l,o,rfl,a0,a4,a1,a2⟩;exact⟨rfl,l,o,rfl,a0,a1,a2,.inl ⋯⟩
  case step =>
   rintro x c ae _ hx ⟨rfl,l,o,rfl,a0,a4,a1,a2⟩;dsimp only;by_cases nc:o≥hint+1
   .rw[if_pos nc];exact wpS_pure ⟨rfl,l,o,rfl,a0,a1,a2,.inl nc⟩
   .rw[if_neg nc];refine wpS_bind (E8 hL hk hp ⋯ hs ?_);cases e:yS kf left key (at' p (base+(hint - o)))with
    |false =>
     simp only[kj,if_false];exact wpS_pure ⟨rfl,_,_,rfl,⋯,⋯,⋯,e⟩
    |true =>
     simp only[if_true];exact wpS_pure ⟨rfl,l,o,rfl,a0,a1,a2,.inr e⟩
end
end TS
namespace TS
open PySem PyProof.Rows
section
variable{kf:Nat->Int}{W o la lb:List Nat}
@[simp]def Le(kf:Nat->Int)(x y:Nat):Prop:=kf x<=kf y
abbrev Out(kf:Nat->Int)(W l:List Nat):Prop:=l.Pairwise (Le kf)/\l.Perm W
structure MI(kf:Nat->Int)(W o la lb:List Nat):Prop where
 ha:(o++la).Pairwise (Le kf)
 hb:(o++lb).Pairwise (Le kf)
 hp:(o++la++lb).Perm W
def MI.a(h:MI kf W o (l1++l2) lb)(q:∀x∈l1,∀y∈lb,kf x<=kf y):MI kf W (o++l1) l2 lb:=by
 let⟨a,b,c⟩:=h;refine⟨by simpa[zp]using a,?_,by simpa[zp]using c⟩;rw[wj]at a b;rw[zp,wj,wj];have a2:=wj.mp a.2.1;refine⟨b.1,⟨a2.1,b.2.1,q⟩,λx hx y hy=>?_⟩;rcases qx.mp hy with hy|hy
 .exact a.2.2 x hx y (GH _ hy)
 .exact b.2.2 x hx y hy
def MI.swap(h:MI kf W o la lb):MI kf W o lb la:=⟨h.hb,h.ha,(by rw[zp,zp];exact(List.perm_append_comm).append_left o:(o++lb++la).Perm (o++la++lb)).trans h.hp⟩
def MI.b(h:MI kf W o la (l1++l2))(q:∀x∈l1,∀y∈la,kf x<=kf y):MI kf W (o++l1) la l2:=(h.swap.a q).swap
def MI.OC(h:MI kf W o la []):Out kf W (o++la++[]):=⟨by simpa using h.ha,h.hp⟩
def MI.OB(h:MI kf W o [] lb):Out kf W (o++[]++lb):=⟨by simpa using h.hb,h.hp⟩
def MI.last{x:Nat}(h:MI kf W o [x] lb)(q:∀y∈lb,kf y<=kf x):Out kf W (o++lb++[x]):=by
 refine⟨?_,h.swap.hp⟩;have a:=wj.mp h.ha;rw[wj];refine⟨h.hb,by simp,λy hy z hz=>?_⟩;rcases qx.mp hy with hy|hy
 .exact a.2.2 y hy z hz
 .rw[qb.mp hz];exact q y hy
end
section
variable{p:Array Nat}
def Bg(i:Nat):((p.map f).extract i (p.map f).size).toList=(p.toList.drop i).map f:=by
 simp[List.map_drop];exact LZ (by simp)
def PF(i k:Nat):((p.map f).extract i (i+k)).toList=((p.toList.drop i).take k).map f:=by
 simp[List.map_drop,List.map_take]
def JJ{i:Nat}(h:i<p.size):p.toList.drop i=[at' p i]++p.toList.drop (i+1):=by
 have h':i<p.toList.length:=by simpa using h
 rw[List.drop_eq_getElem_cons h'];simp[at',yh,h]
def QP(i k:Nat):p.toList.drop i=(p.toList.drop i).take k++p.toList.drop (i+k):=by
 rw[←List.drop_drop,Dg]
def Dk{i:Nat}(h:i=p.size):p.toList.drop i=[]:=by
 subst h;simp
def nH{i x:Nat}(h:x∈p.toList.drop i):∃j,i<=j/\j<p.size/\x=at' p j:=by
 let⟨j,hj,e⟩:=GF.mp h;have eR:i+j<p.size:=by simpa[Nat.lt_sub_iff_add_lt,Nat.add_comm]using hj
 refine⟨i+j,⋯,eR,?_⟩;rw[←e];simp[at',yh,eR]
def Sk{i k x:Nat}(h:x∈(p.toList.drop i).take k):∃j,j<k/\i+j<p.size/\x=at' p (i+j):=by
 let⟨j,hj,e⟩:=GF.mp h
 have eR:j<k/\i+j<p.size:=by
  have:j<min k (p.size - i):=by simpa using hj
  omega
 refine⟨j,eR.1,eR.2,?_⟩;rw[←e];simp[at',yh,eR.2]
end
abbrev Up(kf:Nat->Int)(p:Array Nat):Prop:=∀i j,i<=j->j<p.size->kf (at' p i)<=kf (at' p j)
variable{ia ib:Nat}
section
variable{f:Nat->Keyed}{kf:Nat->Int}{pa pb:Array Nat}{W:List Nat}
abbrev bJ(st ae:SortSt):Prop:=kindOf ae=kindOf st/\arrOf ae=arrOf st/\pendingOf ae=pendingOf st/\failedOf ae=failedOf st
def bJ.aS{st:SortSt}:bJ st st:=⟨rfl,rfl,rfl,rfl⟩
def bJ.setG{st ae:SortSt}(h:bJ st ae)(g:Nat):bJ st (setG ae g):=h
abbrev GoodR(f:Nat->Keyed)(kf:Nat->Int)(W:List Nat)(r:Array Keyed):Prop:=∃l:List Nat,r.toList=l.map f/\Out kf W l
abbrev LI(f:Nat->Keyed)(kf:Nat->Int)(W:List Nat)(pa pb:Array Nat)(out:Array Keyed)(ia ib:Nat):Prop:=∃o:List Nat,out.toList=o.map f/\MI kf W o (pa.toList.drop ia) (pb.toList.drop ib)
def LI.AM{out:Array Keyed}(h:LI f kf W pa pb out ia ib)(hb:ib<pb.size)(q:∀j,ia<=j->j<pa.size->kf (at' pb ib)<=kf (at' pa j)):LI f kf W pa pb (out.push (f (at' pb ib))) ia (ib+1):=by
 let⟨o,e,m⟩:=h;rw[JJ hb]at m;refine⟨o++[at' pb ib],by simp[e],m.b λx hx y hy=>?_⟩;let⟨j,j1,j2,rfl⟩:=nH hy;rw[qb.mp hx];exact q j j1 j2
def LI.xk{out:Array Keyed}(h:LI f kf W pa pb out ia ib)(ha:ia<pa.size)(q:∀j,ib<=j->j<pb.size->kf (at' pa ia)<=kf (at' pb j)):LI f kf W pa pb (out.push (f (at' pa ia))) (ia+1) ib:=by
 let⟨o,e,m⟩:=h;rw[JJ ha]at m;refine⟨o++[at' pa ia],by simp[e],m.a λx hx y hy=>?_⟩;let⟨j,j1,j2,rfl⟩:=nH hy;rw[qb.mp hx];exact q j j1 j2
def LI.FH{out:Array Keyed}{k:Nat}(h:LI f kf W pa pb out ia ib)(q:∀i j,i<k->ia+i<pa.size->ib<=j->j<pb.size->kf (at' pa (ia+i))<=kf (at' pb j)):LI f kf W pa pb (out++(pa.map f).extract ia (ia+k)) (ia+k) ib:=by
 let⟨o,e,m⟩:=h;rw[QP ia k]at m;refine⟨o++(pa.toList.drop ia).take k,by rw[qd,PF,e,mq],m.a λx hx y hy=>?_⟩;let⟨j,j1,j2,rfl⟩:=nH hy;let⟨i,i1,i2,rfl⟩:=Sk hx;exact q i j i1 i2 j1 j2
def LI.KU{out:Array Keyed}{k:Nat}(h:LI f kf W pa pb out ia ib)(q:∀i j,i<k->ib+i<pb.size->ia<=j->j<pa.size->kf (at' pb (ib+i))<=kf (at' pa j)):LI f kf W pa pb (out++(pb.map f).extract ib (ib+k)) ia (ib+k):=by
 let⟨o,e,m⟩:=h;rw[QP ib k]at m;refine⟨o++(pb.toList.drop ib).take k,by rw[qd,PF,e,mq],m.b λx hx y hy=>?_⟩;let⟨j,j1,j2,rfl⟩:=nH hy;let⟨i,i1,i2,rfl⟩:=Sk hx;exact q i j i1 i2 j1 j2
def LI.AL{out:Array Keyed}(h:LI f kf W pa pb out ia ib)(e:ib=pb.size):GoodR f kf W (out++(pa.map f).extract ia (pa.map f).size++(pb.map f).extract ib (pb.map f).size):=by
 let⟨o,eo,m⟩:=h;rw[Dk e]at m;exact⟨_,by rw[qd,qd,Bg,Bg,Dk e,eo];simp,m.OC⟩
def LI.AK{out:Array Keyed}(h:LI f kf W pa pb out ia ib)(e:ia=pa.size):GoodR f kf W (out++(pa.map f).extract ia (pa.map f).size++(pb.map f).extract ib (pb.map f).size):=by
 let⟨o,eo,m⟩:=h;rw[Dk e]at m;exact⟨_,by rw[qd,qd,Bg,Bg,Dk e,eo];simp,m.OB⟩
def LI.ER{out:Array Keyed}(h:LI f kf W pa pb out ia ib)(e:ia+1=pa.size)(hl:∀j,j<pb.size->kf (at' pb j)<=kf (at' pa (pa.size - 1))):GoodR f kf W (out++(pb.map f).extract ib (pb.map f).size++(pa.map f).extract ia (pa.map f).size):=by
 let⟨o,eo,m⟩:=h;have e2:pa.toList.drop ia=[at' pa ia]:=by rw[JJ ⋯,Dk e];rfl
 rw[e2]at m;refine⟨_,by rw[qd,qd,Bg,Bg,e2,eo];simp,m.last λy hy=>?_⟩;let⟨j,j1,j2,rfl⟩:=nH hy;rw[show ia=pa.size - 1 by omega];exact hl j j2
end
end TS
namespace TS
open PySem PyProof.Rows
variable{p:Array Nat}{key:Nat}{Q:Array Keyed->SortSt->Prop}
section
variable{M:Model}{A:jd}{E:bh->dg->Prop}{s:dg}{f:Nat->Keyed}{kf:Nat->Int}{N:Nat}{κ:SortKind}{pa pb:Array Nat}{W:List Nat}
abbrev LG(f:Nat->Keyed)(kf:Nat->Int)(W:List Nat)(pa pb:Array Nat)(out:Array Keyed)(ia ib n:Nat):Prop:=LI f kf W pa pb out ia ib/\ia+1<pa.size/\ib<pb.size/\n<=ia+ib
def aK{α:Type}{c:Prop}[Decidable c]{m1 m2:StateT SortSt Sem α}{Q:α->SortSt->Prop}{st:SortSt}(h1:c->wpS M A E s m1 Q st)(h2:¬ c->wpS M A E s m2 Q st):wpS M A E s (if c then m1 else m2) Q st:=by
 split
 ·exact h1 ‹_›
 .exact h2 ‹_›
def EO(u:Up kf p):p.toList.Pairwise (Le kf) :=
 vf.mpr λi j hi hj fR=>by simpa[at',yh,show i<p.size by simpa using hi,show j<p.size by simpa using hj]using u i j ⋯ (by simpa using hj)
def sg{x:Nat}:yS kf ao key x=ak↔kf x<=kf key:=by simp[yS]
def IP{x:Nat}:yS kf ao key x=ao↔kf key<kf x:=by simp[yS]
def w8{x:Nat}:yS kf ak key x=ak↔kf x<kf key:=by simp[yS]
def EN{x:Nat}:yS kf ak key x=ao↔kf key<=kf x:=by simp[yS]
def Fq(u:Up kf p){left:Bool}{base n:Nat}(hb:base+n<=p.size)(i j:Nat)(fR:i<=j)(hj:j<n)(e:yS kf left key (at' p (base+j))=ak):yS kf left key (at' p (base+i))=ak:=by
 have:=u (base+i) (base+j) ⋯ ⋯;cases left with
 |true=>exact w8.2 (Int.lt_of_le_of_lt this (w8.1 e))
 |false=>exact sg.2 (qw this (sg.1 e))
@[simp]def RA:Type:=Option (Array Keyed)
abbrev kR{τ:Type}(M:Model)(A:jd)(E:bh->dg->Prop)(s:dg)(κ:SortKind)(G:Array Keyed->Prop)(D K:τ->Prop)(m:StateT SortSt Sem (ForInStep (RA×τ))):Prop :=
 ∀(st:SortSt)(Q:ForInStep (RA×τ)->SortSt->Prop),kindOf st=κ->(∀ae,bJ st ae->∀v t,G v->Q (.done (aj v,t)) ae)->(∀ae,bJ st ae->∀t,(D t->Q (.done (au,t)) ae)/\(K t->Q (.yield (au,t)) ae))->wpS M A E s m Q st
section
variable{α β γ:Type}(t:Nat)(S1:Nat->α->β->γ->Nat->Nat->StateT SortSt Sem (ForInStep (RA×α×β×γ×Nat×Nat)))(S2:α->β->γ->Nat->Nat->Nat->StateT SortSt Sem (ForInStep (RA×α×β×γ×Nat×Nat×Nat)))
@[simp]def Hw{τ:Type}(r:RA)(f:Array Keyed->StateT SortSt Sem τ)(m:StateT SortSt Sem τ):StateT SortSt Sem τ:=Break.runK.match_1 (λ_=>StateT SortSt Sem τ) r f λ_=>m
abbrev VY(r:RA×α×β×γ×Nat×Nat×Nat):StateT SortSt Sem (ForInStep (RA×α×β×γ×Nat)) :=
 Hw r.1 (λv=>pure (.done (aj v,r.2.1,r.2.2.1,r.2.2.2.1,r.2.2.2.2.1))) do
  modify λs=>setG s (r.2.2.2.2.1+1)
  pure (.yield (au,r.2.1,r.2.2.1,r.2.2.2.1,r.2.2.2.2.1+1))
abbrev VZ(g:Nat)(r:RA×α×β×γ×Nat×Nat):StateT SortSt Sem (ForInStep (RA×α×β×γ×Nat)) :=
 Hw r.1 (λv=>pure (.done (aj v,r.2.1,r.2.2.1,r.2.2.2.1,g))) do
  rule "list.sort.gallop"
  forIn [0:t] (au,r.2.1,r.2.2.1,r.2.2.2.1,g+1,r.2.2.2.2.1,r.2.2.2.2.2) (λ_ c=>S2 c.2.1 c.2.2.1 c.2.2.2.1 c.2.2.2.2.1 c.2.2.2.2.2.1 c.2.2.2.2.2.2) >>= VY
abbrev Nm(c:RA×α×β×γ×Nat):StateT SortSt Sem (ForInStep (RA×α×β×γ×Nat)) :=
 forIn [0:t] (au,c.2.1,c.2.2.1,c.2.2.2.1,0,0) (λ_ d=>S1 c.2.2.2.2 d.2.1 d.2.2.1 d.2.2.2.1 d.2.2.2.2.1 d.2.2.2.2.2) >>= VZ t S2 c.2.2.2.2
abbrev VX(r:RA×α×β×γ×Nat):StateT SortSt Sem (Array Keyed):=Hw r.1 pure (unsupported "internal:list.sort.merge-bound")
abbrev HJ(i:α)(j:β)(o:γ):StateT SortSt Sem (Array Keyed):=do
 let w ←get
 forIn [0:t] (au,i,j,o,gallopOf w) (λ_ c=>Nm t S1 S2 c) >>= VX
@[simp]def Hz{τ:Type}(H:Nat->α->β->γ->Prop)(n:Nat)(z:α×β×γ×τ):Prop:=H n z.1 z.2.1 z.2.2.1
variable{t}{S1}{S2}{G:Array Keyed->Prop}{H:Nat->α->β->γ->Prop}(h0:0<t)(hm:∀n i j o,H (n+1) i j o->H n i j o)(hz:∀i j o,¬ H (t+1) i j o)
 (h1:∀x g i j o c d,H (x+1) i j o->kR M A E s κ G (Hz H (x+2)) (Hz H (x+2)) (S1 g i j o c d))(h2:∀x i j o g c d,H (x+2) i j o->kR M A E s κ G (Hz H (x+2)) (Hz H (x+2)) (S2 i j o g c d)){st:SortSt}(hs:kindOf st=κ)
abbrev Ans{τ:Type}(G:Array Keyed->Prop)(K:τ->Prop)(c:RA×τ):Prop:=∃r z,c=(r,z)/\((∃v,r=aj v/\G v)∨r=au/\K z)
def bJ.trans{a b c:SortSt}(h:bJ a b)(k:bJ b c):bJ a c:=⟨k.1.trans h.1,k.2.1.trans h.2.1,k.2.2.1.trans h.2.2.1,k.2.2.2.trans h.2.2.2⟩
def IM{τ:Type}{n:Nat}{b:Nat->RA×τ->StateT SortSt Sem (ForInStep (RA×τ))}{K:Nat->τ->Prop}{D:τ->Prop}(hb:∀y z,K y z->kR M A E s κ G D (K (y+1)) (b y (au,z)))(he:∀z,K n z->D z)(hs:kindOf st=κ){z:τ}(h:K 0 z):wpS M A E s (forIn [0:n] (au,z) b) (λc ae=>bJ st ae/\Ans G D c) st:=by
 refine wpS_forRange (I:=λy c ae=>bJ st ae/\∃z,c=(au,z)/\K y z) ?_ ?_ ⟨bJ.aS,_,rfl,h⟩
 .rintro y c ae _ hy ⟨S,z,rfl,k⟩;exact hb y z k _ _ (S.1.trans hs) (λbr S2 v t g=>⟨S.trans S2,_,_,rfl,.inl ⟨v,rfl,g⟩⟩) λbr S2 t=>⟨λk=>⟨S.trans S2,_,_,rfl,.inr ⟨rfl,k⟩⟩,λk=>⟨S.trans S2,_,rfl,k⟩⟩
 .rintro c ae ⟨S,z,rfl,k⟩;rw[Nat.zero_max]at k;exact⟨S,_,_,rfl,.inr ⟨rfl,he z k⟩⟩
include h0 hm h1 h2 in
def aK9{x:Nat}{c:α×β×γ×Nat}(h:Hz H (x+1) c):kR M A E s κ G (λ_=>False) (Hz H (x+2)) (Nm t S1 S2 (au,c)):=by
 intro st Q hs hd hn;refine wpS_bind (wpS_mono (IM (G:=G) (K:=λy z=>if y=0 then Hz H (x+1) z else Hz H (x+2) z) (D:=Hz H (x+2)) (λy z k=>?_) (λz k=>by rwa [if_neg (Bb h0)]at k) hs (by exact h)) ?_)
 .refine h1 x _ _ _ _ _ _ ?_;by_cases e:y=0
  .rwa [if_pos e]at k
  .rw[if_neg e]at k;exact hm _ _ _ _ k
 rintro c ae ⟨S,r,z,rfl,⟨v,rfl,g⟩|⟨rfl,k⟩⟩
 .exact wpS_pure (hd ae S _ _ g)
 refine wpS_bind (wpS_lift (yc ⟨rfl,wpS_bind (wpS_mono (IM (G:=G) (K:=λ_=>Hz H (x+2)) (D:=Hz H (x+2)) (λy z k=>h2 x _ _ _ _ _ _ k) (λz k=>k) (S.1.trans hs) k) ?_)⟩));rintro c br ⟨S2,r,z,rfl,⟨v,rfl,g⟩|⟨rfl,k⟩⟩
 .exact wpS_pure (hd br (S.trans S2) _ _ g)
 .exact wpS_bind (wpS_modify (wpS_pure ((hn _ ((S.trans S2).setG _) _).2 k)))
include h0 hm h1 h2 hz in
def OA(hs:kindOf st=κ){o:γ}(h:H 1 i j o)(hq:∀r ae,bJ st ae->G r->Q r ae):wpS M A E s (HJ t S1 S2 i j o) Q st:=by
 refine wpS_bind (wpS_get (wpS_bind (wpS_mono (IM (G:=G) (K:=λy=>Hz H (y+1)) (D:=λ_=>False) (λy z k=>aK9 h0 hm h1 h2 k) (λ_ k=>hz _ _ _ k) hs (by exact h)) ?_)));rintro c ae ⟨S,r,z,rfl,⟨v,rfl,g⟩|⟨rfl,k⟩⟩
 .exact wpS_pure (hq _ _ S g)
 .exact k.elim
end
structure Ha(M:Model)(A:jd)(E:bh->dg->Prop)(s:dg)(f:Nat->Keyed)(kf:Nat->Int)(N:Nat)(κ:SortKind)(pa pb:Array Nat):Prop where
 hL:ny M A E s f kf N κ
 ia:In N pa
 ib:In N pb
 ua:Up kf pa
 ub:Up kf pb
 na:1<=pa.size
 nb:1<=pb.size
 hf:kf (at' pb 0)<kf (at' pa 0)
 hl:∀j,j<pb.size->kf (at' pb j)<=kf (at' pa (pa.size - 1))
@[simp]def Lz:Type:=RA×Array Keyed×Nat×Nat×Nat×Nat×Nat
abbrev rg(a b o:Array Keyed)(i j:Nat):Array Keyed:=o++a.extract i a.size++b.extract j b.size
abbrev D6(a b o:Array Keyed)(i j:Nat):Array Keyed:=o++b.extract j b.size++a.extract i a.size
abbrev Nq(a b:Array Keyed)(g:Nat)(o:Array Keyed)(i j c d:Nat):StateT SortSt Sem (ForInStep (RA×Array Keyed×Nat×Nat×Nat×Nat)):=do
 let y ←elem' b j
 let x ←elem' a i
 let w ←lt' y x
 match w with
 |some w =>
  if w=ak then
   let y ←elem' b j
   if(j+1==b.size)=ak then pure (.done (aj (rg a b (o.push y) i (j+1)),o.push y,i,j+1,0,d+1))
   else if d+1≥g then pure (.done (au,o.push y,i,j+1,0,d+1))else pure (.yield (au,o.push y,i,j+1,0,d+1))
  else
   let x ←elem' a i
   if(i+1+1==a.size)=ak then pure (.done (aj (D6 a b (o.push x) (i+1) j),o.push x,i+1,j,c+1,0))
   else if c+1≥g then pure (.done (au,o.push x,i+1,j,c+1,0))else pure (.yield (au,o.push x,i+1,j,c+1,0))
 |x=>pure (.done (aj (rg a b o i j),o,i,j,c,d))
abbrev IL(a b o:Array Keyed)(i j g c d:Nat):StateT SortSt Sem (ForInStep Lz):=do
 let x ←elem' a i
 if(i+1+1==a.size)=ak then pure (.done (aj (D6 a b (o.push x) (i+1) j),o.push x,i+1,j,g,c,d))
 else if(decide (c<7)&&decide (d<7))=ak then pure (.done (au,o.push x,i+1,j,g,c,d))else pure (.yield (au,o.push x,i+1,j,g,c,d))
abbrev IK(a b o:Array Keyed)(i j g c d:Nat):StateT SortSt Sem (ForInStep Lz):=do
 let y ←elem' b j
 if(j+1==b.size)=ak then pure (.done (aj (rg a b (o.push y) i (j+1)),o.push y,i,j+1,g,c,d))
 else do
  let x ←elem' a i
  let r ←vM ak x b (j+1) (b.size - (j+1)) 0
  match r with
  |some k=>if k>0 then(if(j+1+k==b.size)=ak then pure (.done (aj (rg a b (o.push y++b.extract (j+1) (j+1+k)) i (j+1+k)),o.push y++b.extract (j+1) (j+1+k),i,j+1+k,g,c,k))else IL a b (o.push y++b.extract (j+1) (j+1+k)) i (j+1+k) g c k)else IL a b (o.push y) i (j+1) g c k
  |x=>pure (.done (aj (rg a b (o.push y) i (j+1)),o.push y,i,j+1,g,c,d))
abbrev HM(a b o:Array Keyed)(i j g c d:Nat):StateT SortSt Sem (ForInStep Lz):=do
 modify λs=>setG s g
 let y ←elem' b j
 let r ←vM ao y a i (a.size - i) 0
 match r with
 |some k=>if k>0 then(if(i+k+1==a.size)=ak then pure (.done (aj (D6 a b (o++a.extract i (i+k)) (i+k) j),o++a.extract i (i+k),i+k,j,g,k,d))else if(i+k==a.size)=ak then pure (.done (aj (rg a b (o++a.extract i (i+k)) (i+k) j),o++a.extract i (i+k),i+k,j,g,k,d))else IK a b (o++a.extract i (i+k)) (i+k) j g k d)else IK a b o i j g k d
 |x=>pure (.done (aj (rg a b o i j),o,i,j,g,c,d))
def aQ5(a b:Array Keyed):F4 a b=(do
 rule "list.sort.merge-lo"
 let y ←elem' b 0
 if(1==b.size)=ak then pure (rg a b #[y] 0 1)
 else if(0+1==a.size)=ak then pure (D6 a b #[y] 0 1)
 else HJ (a.size+b.size) (Nq a b) (λo i j g c d=>if g>1 then HM a b o i j (g - 1) c d else HM a b o i j g c d) #[y] 0 1):=rfl
section
variable(B:Ha M A E s f kf N κ pa pb)
@[simp]def LH(f:Nat->Keyed)(kf:Nat->Int)(W:List Nat)(pa pb:Array Nat)(n:Nat)(o:Array Keyed)(i j:Nat):Prop:=LG f kf W pa pb o i j n
def bne{a b:Nat}(h:¬ (a==b)=ak):a≠b:=λz=>h (beq_iff_eq.mpr z)
def o6{a:Nat}{f:Nat->Keyed}(h:¬ (a==(p.map f).size)=ak):a≠p.size:=λz=>h (beq_iff_eq.mpr (z.trans wz.symm))
def ph{a:Nat}{f:Nat->Keyed}(h:(a==(p.map f).size)=ak):a=p.size:=(eq_of_beq h).trans wz
include B
def QO{o:Array Keyed}{i j g c d n:Nat}(L:LI f kf W pa pb o i j)(l1:i+1<pa.size)(l2:j<pb.size)(l3:n<=i+j)(q:∀k,j<=k->k<pb.size->kf (at' pa i)<=kf (at' pb k)):kR M A E s κ (GoodR f kf W) (Hz (LH f kf W pa pb) n) (Hz (LH f kf W pa pb) n) (IL (pa.map f) (pb.map f) o i j g c d):=by
 intro st Q hs hd hn;have eB:=Nat.lt_of_succ_lt l1;have L4:=L.xk eB q;refine wpS_bind (bQ eB ?_);refine aK (λe=>wpS_pure (hd _ bJ.aS _ _ (L4.ER (ph e) B.hl))) λe=>?_;have G4:LH f kf W pa pb n _ _ _:=⟨L4,yt l1 (o6 e),l2,⋯⟩;exact aK (λ_=>wpS_pure ((hn _ bJ.aS _).1 G4)) λ_=>wpS_pure ((hn _ bJ.aS _).2 G4)
def QN{o:Array Keyed}{i j g c d n:Nat}(L:LI f kf W pa pb o i j)(l1:i+1<pa.size)(l2:j<pb.size)(l3:n<=i+j)(q:∀k,i<=k->k<pa.size->kf (at' pb j)<kf (at' pa k)):kR M A E s κ (GoodR f kf W) (Hz (LH f kf W pa pb) n) (Hz (LH f kf W pa pb) n) (IK (pa.map f) (pb.map f) o i j g c d):=by
 intro st Q hs hd hn;have zb:(pb.map f).size=pb.size:=wz ..;have eB:=Nat.lt_of_succ_lt l1;have L2:=L.AM l2 λj j1 j2=>wk (q j j1 j2);refine wpS_bind (bQ l2 ?_);refine aK (λe=>wpS_pure (hd _ bJ.aS _ _ (L2.AL (ph e)))) λe=>?_;have e':j+1<pb.size:=yt l2 (o6 e);refine wpS_bind (bQ eB (wpS_bind (AY (base:=j+1) (n:=(pb.map f).size - (j+1)) (hint:=0) B.hL (B.ia i eB) B.ib (by rw[zb];omega) (by rw[zb];omega) (Fq B.ub (by rw[zb];omega)) hs λk k1 k2 k3=>?_)));rw[zb]at k1 k3;have q3:=λx (j1:j+1+k<=x) (j2:x<pb.size)=>EN.1 ((show j+1+(x - (j+1))=x by omega) ▸ k3 (x - (j+1)) ⋯ ⋯);refine aK (λkp=>?_) λkz=>?_
 .have L3:=L2.KU (k:=k) λx y hi h1 j1 j2=>qw (wk (w8.1 (k2 x hi))) (B.ua _ y j1 j2);refine aK (λe=>wpS_pure (hd _ bJ.aS _ _ (L3.AL (ph e)))) λe=>?_;exact QO B L3 l1 (by have:=o6 e;omega) ⋯ q3 st Q hs hd hn
 .obtain rfl:k=0:=GJ kz;exact QO B L2 l1 e' ⋯ q3 st Q hs hd hn
def Oz{o:Array Keyed}{i j g c d n:Nat}(L:LH f kf W pa pb n o i j):kR M A E s κ (GoodR f kf W) (Hz (LH f kf W pa pb) n) (Hz (LH f kf W pa pb) n) (HM (pa.map f) (pb.map f) o i j g c d):=by
 let⟨L,l1,l2,l3⟩:=L;intro st Q hs hd hn;have za:(pa.map f).size=pa.size:=wz ..;refine wpS_bind (wpS_modify (wpS_bind (bQ l2 (wpS_bind (AY (base:=i) (n:=(pa.map f).size - i) (hint:=0) B.hL (B.ib _ l2) B.ia (by rw[za];omega) (by rw[za];omega) (Fq B.ua (by rw[za];omega)) (by exact hs) λk k1 k2 k3=>?_)))));rw[za]at k1 k3;have qa:=λx (j1:i+k<=x) (j2:x<pa.size)=>IP.1 ((show i+(x - i)=x by omega) ▸ k3 (x - i) ⋯ ⋯);have S:bJ st (setG st g):=bJ.aS;refine aK (λkp=>?_) λkz=>?_
 .have LA:=L.FH (k:=k) λx y hi h1 j1 j2=>qw (sg.1 (k2 x hi)) (B.ub j y j1 j2);refine aK (λe=>wpS_pure (hd _ S _ _ (LA.ER (ph e) B.hl))) λe=>?_;refine aK (λe=>wpS_pure (hd _ S _ _ (LA.AK (ph e)))) λe2=>?_;exact QN B LA (by have:=o6 e;have:=o6 e2;omega) l2 ⋯ qa _ Q hs (λae S'=>hd ae (S.trans S')) λae S'=>hn ae (S.trans S')
 .obtain rfl:k=0:=GJ kz;exact QN B L l1 l2 l3 qa _ Q hs (λae S'=>hd ae (S.trans S')) λae S'=>hn ae (S.trans S')
def aKA{o:Array Keyed}{i j g c d n:Nat}(L:LH f kf W pa pb n o i j):kR M A E s κ (GoodR f kf W) (Hz (LH f kf W pa pb) (n+1)) (Hz (LH f kf W pa pb) (n+1)) (Nq (pa.map f) (pb.map f) g o i j c d):=by
 let⟨L,l1,l2,l3⟩:=L;intro st Q hs hd hn;have eB:=Nat.lt_of_succ_lt l1;refine wpS_bind (bQ l2 (wpS_bind (bQ eB (wpS_bind (B.hL _ _ _ _ (B.ib _ l2) (B.ia _ eB) hs ?_)))));refine aK (λhw=>?_) λhw=>?_
 .have L2:=L.AM l2 λx j1 j2=>qw (wk (of_decide_eq_true hw)) (B.ua i x j1 j2);refine wpS_bind (bQ l2 (aK (λe=>wpS_pure (hd _ bJ.aS _ _ (L2.AL (ph e)))) λe=>?_));have G2:LH f kf W pa pb (n+1) _ _ _:=⟨L2,l1,yt l2 (o6 e),Nat.succ_le_succ l3⟩;exact aK (λ_=>wpS_pure ((hn _ bJ.aS _).1 G2)) λ_=>wpS_pure ((hn _ bJ.aS _).2 G2)
 .have L2:=L.xk eB λx j1 j2=>qw (Int.not_lt.mp λz=>hw (decide_eq_true z)) (B.ub j x j1 j2);refine wpS_bind (bQ eB (aK (λe=>wpS_pure (hd _ bJ.aS _ _ (L2.ER (ph e) B.hl))) λe=>?_));have G2:LH f kf W pa pb (n+1) _ _ _:=⟨L2,yt l1 (o6 e),l2,⋯⟩;exact aK (λ_=>wpS_pure ((hn _ bJ.aS _).1 G2)) λ_=>wpS_pure ((hn _ bJ.aS _).2 G2)
def aQ6{st:SortSt}(hs:kindOf st=κ)(h:∀r ae,bJ st ae->GoodR f kf (pa.toList++pb.toList) r->Q r ae):wpS M A E s (F4 (pa.map f) (pb.map f)) Q st:=by
 have L0:LI f kf (pa.toList++pb.toList) pa pb #[f (at' pb 0)] 0 1:=by
  have:LI f kf (pa.toList++pb.toList) pa pb #[] 0 0:=⟨[],rfl,EO B.ua,EO B.ub,List.Perm.refl _⟩;exact this.AM B.nb λj _ j2=>qw (wk B.hf) (B.ua 0 j (qm _) j2)
 rw[aQ5];refine wpS_bind (wpS_lift (yc ⟨rfl,wpS_bind (bQ B.nb ?_)⟩));refine aK (λe1=>wpS_pure (h _ _ bJ.aS (L0.AL (ph e1)))) λe1=>?_;refine aK (λe2=>wpS_pure (h _ _ bJ.aS (L0.ER (ph e2) B.hl))) λe2=>?_;refine OA (H:=LH f kf (pa.toList++pb.toList) pa pb) (by rw[wz];exact Nat.add_pos_left B.na _) (λn i j o h=>⟨h.1,h.2.1,h.2.2.1,Nat.le_of_succ_le h.2.2.2⟩) (λo i j h=>?_) (λx g i j o c d k=>aKA B k) (λx i j o g c d k=>?_) hs ⟨L0,yt B.na (o6 e2),yt B.nb (o6 e1),dw _⟩ h
 .obtain⟨_,h1,h2,h3⟩:=h;rw[wz,wz]at h3;omega
 .exact λst Q hs hd hn=>aK (λ_=>Oz B k st Q hs hd hn) λ_=>Oz B k st Q hs hd hn
end
end
end TS
namespace TS
open PySem PyProof.Rows
section
variable{kf:Nat->Int}{p:Array Nat}
def Out.rev{l:List Nat}(h:Out (λx=>- kf x) W l):Out kf W l.reverse:=⟨LW.mpr (h.1.imp λz=>by have:- kf _<=- kf _:=z;show kf _<=kf _;omega),(List.reverse_perm l).trans h.2⟩
def AX(n:Nat):((p.map f).extract 0 n).toList=(p.toList.take n).map f:=by simp[List.map_take]
def PD{n:Nat}(h:n<p.size):(p.toList.take (n+1)).reverse=[at' p n]++(p.toList.take n).reverse:=by
 rw[List.take_succ_eq_append_getElem (by simpa using h),List.reverse_append];simp[at',yh,h]
def XJ{i n:Nat}(h:i<=n):(p.toList.take n).reverse=((p.toList.take n).drop i).reverse++(p.toList.take i).reverse:=by
 rw[←List.reverse_append];congr 1;have:=(Dg i (p.toList.take n)).symm
 rwa [List.take_take,yg h]at this
def aKB{i n:Nat}:((p.map f).extract i n).reverse.toList=(((p.toList.take n).drop i).reverse).map f:=by
 simp[List.map_take,List.map_drop,List.drop_take]
def vN{n x:Nat}(h:x∈(p.toList.take n).reverse):∃j,j<n/\j<p.size/\x=at' p j:=by
 let⟨j,hj,e⟩:=GF.mp (Gj.mp h)
 have eR:j<n/\j<p.size:=by
  have:j<min n p.size:=by simpa using hj
  omega
 refine⟨j,eR.1,eR.2,?_⟩;rw[←e];simp[at',yh,eR.2]
def Rw{i n x:Nat}(h:x∈((p.toList.take n).drop i).reverse):∃j,i<=j/\j<n/\j<p.size/\x=at' p j:=by
 let⟨j,hj,e⟩:=GF.mp (Gj.mp h)
 have eR:i+j<n/\i+j<p.size:=by
  have:j<min n p.size - i:=by simpa using hj
  omega
 refine⟨i+j,⋯,eR.1,eR.2,?_⟩;rw[←e];simp[at',yh,eR.2]
end
variable{na nb:Nat}
section
variable{M:Model}{A:jd}{E:bh->dg->Prop}{s:dg}{f:Nat->Keyed}{kf:Nat->Int}{N:Nat}{κ:SortKind}{pa pb:Array Nat}{W:List Nat}
abbrev HI(f:Nat->Keyed)(kf:Nat->Int)(W:List Nat)(pa pb:Array Nat)(out:Array Keyed)(na nb:Nat):Prop:=∃o:List Nat,out.toList=o.map f/\MI (λx=>- kf x) W o (pa.toList.take na).reverse (pb.toList.take nb).reverse
def HI.xk{out:Array Keyed}(h:HI f kf W pa pb out (na+1) nb)(ha:na<pa.size)(q:∀j,j<nb->j<pb.size->kf (at' pb j)<=kf (at' pa na)):HI f kf W pa pb (out.push (f (at' pa na))) na nb:=by
 let⟨o,e,m⟩:=h;rw[PD ha]at m;refine⟨o++[at' pa na],by simp[e],m.a λx hx y hy=>?_⟩;let⟨j,j1,j2,rfl⟩:=vN hy;rw[qb.mp hx];have:=q j j1 j2;omega
def HI.swap{out:Array Keyed}{na nb:Nat}(h:HI f kf W pa pb out na nb):HI f kf W pb pa out nb na:=let⟨o,e,m⟩:=h;⟨o,e,m.swap⟩
def HI.AM{out:Array Keyed}(h:HI f kf W pa pb out na (nb+1))(hb:nb<pb.size)(q:∀j,j<na->j<pa.size->kf (at' pa j)<=kf (at' pb nb)):HI f kf W pa pb (out.push (f (at' pb nb))) na nb:=(h.swap.xk hb q).swap
def HI.FH{out:Array Keyed}{i:Nat}(h:HI f kf W pa pb out na nb)(hi:i<=na)(q:∀k j,i<=k->k<na->k<pa.size->j<nb->j<pb.size->kf (at' pb j)<=kf (at' pa k)):HI f kf W pa pb (out++((pa.map f).extract i na).reverse) i nb:=by
 let⟨o,e,m⟩:=h;rw[XJ hi]at m;refine⟨o++((pa.toList.take na).drop i).reverse,by rw[qd,aKB,e,mq],m.a λx hx y hy=>?_⟩;let⟨j,j1,j2,rfl⟩:=vN hy;let⟨k,k1,k2,k3,rfl⟩:=Rw hx;have:=q k j k1 k2 k3 j1 j2;omega
def HI.KU{out:Array Keyed}{i:Nat}(h:HI f kf W pa pb out na nb)(hi:i<=nb)(q:∀k j,i<=k->k<nb->k<pb.size->j<na->j<pa.size->kf (at' pa j)<=kf (at' pb k)):HI f kf W pa pb (out++((pb.map f).extract i nb).reverse) na i:=(h.swap.FH hi q).swap
def HI.AK{out:Array Keyed}(h:HI f kf W pa pb out na nb)(e:na=0):GoodR f kf W ((pa.map f).extract 0 na++(pb.map f).extract 0 nb++out.reverse):=by
 let⟨o,eo,m⟩:=h;subst e;exact⟨_,by rw[qd,qd,AX,AX,Mf,eo];simp,m.OB.rev⟩
def HI.AL{out:Array Keyed}(h:HI f kf W pa pb out na nb)(e:nb=0):GoodR f kf W ((pa.map f).extract 0 na++(pb.map f).extract 0 nb++out.reverse):=by
 let⟨o,eo,m⟩:=h;subst e;exact⟨_,by rw[qd,qd,AX,AX,Mf,eo];simp,m.OC.rev⟩
def HI.E7{out:Array Keyed}(h:HI f kf W pa pb out na nb)(e:nb=1)(z:1<=pb.size)(hf:∀j,j<pa.size->kf (at' pb 0)<=kf (at' pa j)):GoodR f kf W ((pb.map f).extract 0 nb++(pa.map f).extract 0 na++out.reverse):=by
 let⟨o,eo,m⟩:=h;subst e;have e2:(pb.toList.take 1).reverse=[at' pb 0]:=by rw[PD ⋯];rfl
 have e3:pb.toList.take 1=[at' pb 0]:=by rw[←List.reverse_reverse (pb.toList.take 1),e2];rfl
 rw[e2]at m;refine⟨_,by rw[qd,qd,AX,AX,e3,Mf,eo];simp,(m.swap.last λy hy=>?_).rev⟩;let⟨j,j1,j2,rfl⟩:=vN hy;have:=hf j j2;omega
abbrev HG(f:Nat->Keyed)(kf:Nat->Int)(W:List Nat)(pa pb:Array Nat)(out:Array Keyed)(na nb n:Nat):Prop:=HI f kf W pa pb out na nb/\1<=na/\na<=pa.size/\2<=nb/\nb<=pb.size/\na+nb+n<=pa.size+pb.size
@[simp]def Kz:Type:=RA×Nat×Nat×Array Keyed×Nat×Nat×Nat
abbrev rn(a b o:Array Keyed)(i j:Nat):Array Keyed:=a.extract 0 i++b.extract 0 j++o.reverse
abbrev En(a b o:Array Keyed)(i j:Nat):Array Keyed:=b.extract 0 j++a.extract 0 i++o.reverse
abbrev NO(a b:Array Keyed)(g i j:Nat)(o:Array Keyed)(c d:Nat):StateT SortSt Sem (ForInStep (RA×Nat×Nat×Array Keyed×Nat×Nat)):=do
 let y ←elem' b (j - 1)
 let x ←elem' a (i - 1)
 let w ←lt' y x
 match w with
 |some w =>
  if w=ak then
   let x ←elem' a (i - 1)
   if(i - 1==0)=ak then pure (.done (aj (rn a b (o.push x) (i - 1) j),i - 1,j,o.push x,c+1,0))
   else if c+1≥g then pure (.done (au,i - 1,j,o.push x,c+1,0))else pure (.yield (au,i - 1,j,o.push x,c+1,0))
  else
   let y ←elem' b (j - 1)
   if(j - 1==1)=ak then pure (.done (aj (En a b (o.push y) i (j - 1)),i,j - 1,o.push y,0,d+1))
   else if d+1≥g then pure (.done (au,i,j - 1,o.push y,0,d+1))else pure (.yield (au,i,j - 1,o.push y,0,d+1))
 |x=>pure (.done (aj (rn a b o i j),i,j,o,c,d))
abbrev IJ(a b o:Array Keyed)(i j g c d:Nat):StateT SortSt Sem (ForInStep Kz):=do
 let x ←elem' a (i - 1)
 if(i - 1==0)=ak then pure (.done (aj (rn a b (o.push x) (i - 1) j),i - 1,j,o.push x,g,c,d))
 else if(decide (c<7)&&decide (d<7))=ak then pure (.done (au,i - 1,j,o.push x,g,c,d))else pure (.yield (au,i - 1,j,o.push x,g,c,d))
abbrev II(a b o:Array Keyed)(i j g c d:Nat):StateT SortSt Sem (ForInStep Kz):=do
 let y ←elem' b (j - 1)
 if(j - 1==1)=ak then pure (.done (aj (En a b (o.push y) i (j - 1)),i,j - 1,o.push y,g,c,d))
 else do
  let x ←elem' a (i - 1)
  let r ←vM ak x b 0 (j - 1) (j - 1 - 1)
  match r with
  |some k=>if j - 1 - k>0 then(if(k==1)=ak then pure (.done (aj (En a b (o.push y++(b.extract k (j - 1)).reverse) i k),i,k,o.push y++(b.extract k (j - 1)).reverse,g,c,j - 1 - k))else if(k==0)=ak then pure (.done (aj (rn a b (o.push y++(b.extract k (j - 1)).reverse) i k),i,k,o.push y++(b.extract k (j - 1)).reverse,g,c,j - 1 - k))else IJ a b (o.push y++(b.extract k (j - 1)).reverse) i k g c (j - 1 - k))else IJ a b (o.push y) i (j - 1) g c (j - 1 - k)
  |x=>pure (.done (aj (rn a b (o.push y) i (j - 1)),i,j - 1,o.push y,g,c,d))
abbrev Ic(a b:Array Keyed)(i j:Nat)(o:Array Keyed)(g c d:Nat):StateT SortSt Sem (ForInStep Kz):=do
 modify λs=>setG s g
 let y ←elem' b (j - 1)
 let r ←vM ao y a 0 i (i - 1)
 match r with
 |some k=>if i - k>0 then(if(k==0)=ak then pure (.done (aj (rn a b (o++(a.extract k i).reverse) k j),k,j,o++(a.extract k i).reverse,g,i - k,d))else II a b (o++(a.extract k i).reverse) k j g (i - k) d)else II a b o i j g (i - k) d
 |x=>pure (.done (aj (rn a b o i j),i,j,o,g,c,d))
def aQ7(a b:Array Keyed):F3 a b=(do
 rule "list.sort.merge-hi"
 let x ←elem' a (a.size - 1)
 if(a.size - 1==0)=ak then pure (rn a b #[x] (a.size - 1) b.size)
 else if(b.size==1)=ak then pure (En a b #[x] (a.size - 1) b.size)
 else HJ (a.size+b.size) (NO a b) (λi j o g c d=>if g>1 then Ic a b i j o (g - 1) c d else Ic a b i j o g c d) (a.size - 1) b.size #[x]):=rfl
section
variable(B:Ha M A E s f kf N κ pa pb)
@[simp]def HH(f:Nat->Keyed)(kf:Nat->Int)(W:List Nat)(pa pb:Array Nat)(n i j:Nat)(o:Array Keyed):Prop:=HG f kf W pa pb o i j n
include B
def Ha.Ep(j:Nat)(hj:j<pa.size):kf (at' pb 0)<=kf (at' pa j):=qw (wk B.hf) (B.ua 0 j (qm _) hj)
def QM{o:Array Keyed}{i j g c d n:Nat}(L:HI f kf W pa pb o (i+1) j)(l1:i<pa.size)(l2:2<=j)(ff:j<=pb.size)(l3:i+j+n<=pa.size+pb.size)(q:∀x,x<j->x<pb.size->kf (at' pb x)<=kf (at' pa i)):kR M A E s κ (GoodR f kf W) (Hz (HH f kf W pa pb) n) (Hz (HH f kf W pa pb) n) (IJ (pa.map f) (pb.map f) o (i+1) j g c d):=by
 intro st Q hs hd hn;have L4:=L.xk l1 q;refine wpS_bind (bQ (i:=i) l1 ?_);refine aK (λe=>wpS_pure (hd _ bJ.aS _ _ (L4.AK (eq_of_beq e)))) λe=>?_;have G4:HH f kf W pa pb n _ _ _:=⟨L4,Gs (bne e),ud l1,l2,ff,l3⟩;exact aK (λ_=>wpS_pure ((hn _ bJ.aS _).1 G4)) λ_=>wpS_pure ((hn _ bJ.aS _).2 G4)
def QL{o:Array Keyed}{i j g c d n:Nat}(L:HI f kf W pa pb o (i+1) (j+1))(l1:i<pa.size)(l2:1<=j)(ff:j<pb.size)(l3:i+j+n<=pa.size+pb.size)(q:∀x,x<i+1->x<pa.size->kf (at' pa x)<=kf (at' pb j)):kR M A E s κ (GoodR f kf W) (Hz (HH f kf W pa pb) n) (Hz (HH f kf W pa pb) n) (II (pa.map f) (pb.map f) o (i+1) (j+1) g c d):=by
 intro st Q hs hd hn;have L2:=L.AM ff q;refine wpS_bind (bQ (i:=j) ff ?_);refine aK (λe=>wpS_pure (hd _ bJ.aS _ _ (L2.E7 (eq_of_beq e) B.nb B.Ep))) λe=>?_;have e':j≠1:=bne e;have l4:=ud ff;refine wpS_bind (bQ (i:=i) l1 (wpS_bind (AY (base:=0) (n:=j) (hint:=j - 1) B.hL (B.ia i l1) B.ib (by rwa [qu]) (sP l2 sR) (Fq B.ub (by rwa [qu])) hs λk k1 k2 k3=>?_)));have q3:=λx (j1:x<k) (j2:x<pb.size)=>wk (w8.1 (qu x ▸ k2 x j1));refine aK (λkp=>?_) λkz=>?_
 .have L3:=L2.KU (i:=k) k1 λx y hi h1 h2 j1 j2=>qw (B.ua y i (Gn j1) l1) (EN.1 (qu x ▸ k3 x hi h1));refine aK (λe=>wpS_pure (hd _ bJ.aS _ _ (L3.E7 (eq_of_beq e) B.nb B.Ep))) λe=>?_;refine aK (λe=>wpS_pure (hd _ bJ.aS _ _ (L3.AL (eq_of_beq e)))) λe2=>?_;exact QM B L3 l1 (by have:=bne e;have:=bne e2;omega) (lq k1 l4) ⋯ q3 st Q hs hd hn
 .obtain rfl:k=j:=Nat.le_antisymm k1 (Nat.sub_eq_zero_iff_le.mp (GJ kz));exact QM B L2 l1 ⋯ l4 l3 q3 st Q hs hd hn
def Oy{o:Array Keyed}{i j g c d n:Nat}(L:HH f kf W pa pb n i j o):kR M A E s κ (GoodR f kf W) (Hz (HH f kf W pa pb) n) (Hz (HH f kf W pa pb) n) (Ic (pa.map f) (pb.map f) i j o g c d):=by
 let⟨L,l1,eB,l2,ff,l3⟩:=L;intro st Q hs hd hn;obtain _|j:=j
 .cases l2
 have l2:=Nat.le_of_succ_le_succ l2;refine wpS_bind (wpS_modify (wpS_bind (bQ (i:=j) ff (wpS_bind (AY (base:=0) (n:=i) (hint:=i - 1) B.hL (B.ib _ ff) B.ia (by rwa [qu]) (sP l1 sR) (Fq B.ua (by rwa [qu])) (by exact hs) λk k1 k2 k3=>?_)))));have qa:=λx (j1:x<k) (j2:x<pa.size)=>sg.1 (qu x ▸ k2 x j1);have S:bJ st (setG st g):=bJ.aS;refine aK (λkp=>?_) λkz=>?_
 .have LA:=L.FH (i:=k) k1 λx y hi h1 h2 j1 j2=>qw (B.ub y j (Gn j1) ff) (wk (IP.1 (qu x ▸ k3 x hi h1)));refine aK (λe=>wpS_pure (hd _ S _ _ (LA.AK (eq_of_beq e)))) λe=>?_;obtain _|k:=k
  .exact absurd rfl (bne e)
  exact QL B LA (jf k1 eB) l2 ff ⋯ qa _ Q hs (λae S'=>hd ae (S.trans S')) λae S'=>hn ae (S.trans S')
 .obtain rfl:k=i:=Nat.le_antisymm k1 (Nat.sub_eq_zero_iff_le.mp (GJ kz));obtain _|k:=k
  .cases l1
  exact QL B L eB l2 ff ⋯ qa _ Q hs (λae S'=>hd ae (S.trans S')) λae S'=>hn ae (S.trans S')
def aKC{o:Array Keyed}{i j g c d n:Nat}(L:HH f kf W pa pb n i j o):kR M A E s κ (GoodR f kf W) (Hz (HH f kf W pa pb) (n+1)) (Hz (HH f kf W pa pb) (n+1)) (NO (pa.map f) (pb.map f) g i j o c d):=by
 let⟨L,l1,eB,l2,ff,l3⟩:=L;intro st Q hs hd hn;obtain _|j:=j
 .cases l2
 obtain _|i:=i
 .cases l1
 refine wpS_bind (bQ (i:=j) ff (wpS_bind (bQ (i:=i) eB (wpS_bind (B.hL _ _ _ _ (B.ib _ ff) (B.ia _ eB) hs ?_)))));refine aK (λhw=>?_) λhw=>?_
 .have L2:=L.xk eB λx j1 j2=>qw (B.ub x j (Gn j1) ff) (wk (of_decide_eq_true hw));refine wpS_bind (bQ (i:=i) eB (aK (λe=>wpS_pure (hd _ bJ.aS _ _ (L2.AK (eq_of_beq e)))) λe=>?_));have G2:HH f kf W pa pb (n+1) _ _ _:=⟨L2,Gs (bne e),ud eB,l2,ff,⋯⟩;exact aK (λ_=>wpS_pure ((hn _ bJ.aS _).1 G2)) λ_=>wpS_pure ((hn _ bJ.aS _).2 G2)
 .have L2:=L.AM ff λx j1 j2=>qw (B.ua x i (Gn j1) eB) (Int.not_lt.mp λz=>hw (decide_eq_true z));refine wpS_bind (bQ (i:=j) ff (aK (λe=>wpS_pure (hd _ bJ.aS _ _ (L2.E7 (eq_of_beq e) B.nb B.Ep))) λe=>?_));have G2:HH f kf W pa pb (n+1) _ _ _:=⟨L2,l1,eB,yt (Nat.le_of_succ_le_succ l2) (bne e).symm,ud ff,⋯⟩;exact aK (λ_=>wpS_pure ((hn _ bJ.aS _).1 G2)) λ_=>wpS_pure ((hn _ bJ.aS _).2 G2)
def aQ8{st:SortSt}(hs:kindOf st=κ){Q:Array Keyed->SortSt->Prop}(h:∀r ae,bJ st ae->GoodR f kf (pa.toList++pb.toList) r->Q r ae):wpS M A E s (F3 (pa.map f) (pb.map f)) Q st:=by
 have na:=B.na
 have L0:HI f kf (pa.toList++pb.toList) pa pb #[f (at' pa (pa.size - 1))] (pa.size - 1) pb.size:=by
  have ea:pa.size - 1+1=pa.toList.length:=Nat.sub_add_cancel na
  have:HI f kf (pa.toList++pb.toList) pa pb #[] (pa.size - 1+1) pb.size:=by
   rw[HI,ea,Bl,show pb.size=pb.toList.length from rfl,Bl];exact⟨[],rfl,LW.mpr ((EO B.ua).imp λz=>Int.neg_le_neg z),LW.mpr ((EO B.ub).imp λz=>Int.neg_le_neg z),(List.reverse_perm _).append (List.reverse_perm _)⟩
  exact this.xk (sP na sR) λj _ j2=>B.hl j j2
 rw[aQ7,wz,wz];refine wpS_bind (wpS_lift (yc ⟨rfl,wpS_bind (bQ (i:=pa.size - 1) (sP na sR) ?_)⟩));refine aK (λe1=>wpS_pure (h _ _ bJ.aS (L0.AK (eq_of_beq e1)))) λe1=>?_;refine aK (λe2=>wpS_pure (h _ _ bJ.aS (L0.E7 (eq_of_beq e2) B.nb B.Ep))) λe2=>?_;refine OA (H:=HH f kf (pa.toList++pb.toList) pa pb) (Nat.add_pos_left na _) (λn i j o h=>⟨h.1,h.2.1,h.2.2.1,h.2.2.2.1,h.2.2.2.2.1,Nat.le_of_succ_le h.2.2.2.2.2⟩) (λi j o h=>?_) (λx g i j o c d k=>aKC B k) (λx i j o g c d k=>?_) hs ⟨L0,Gs (bne e1),Nat.sub_le _ _,yt B.nb (bne e2).symm,dw _,⋯⟩ h
 .obtain⟨_,h1,_,h2,_,h3⟩:=h;omega
 .exact λst Q hs hd hn=>aK (λ_=>Oy B k st Q hs hd hn) λ_=>Oy B k st Q hs hd hn
end
end
end TS
namespace TS
open PySem PyProof.Rows
open PySem.W (kas_swaps_map)
abbrev n6(kf:Nat->Int)(p:Array Nat)(lo hi:Nat):Prop:=∀i j,lo<=i->i<=j->j<hi->kf (at' p i)<=kf (at' p j)
abbrev sf(kf:Nat->Int)(p:Array Nat)(lo hi:Nat):Prop:=∀i j,lo<=i->i<=j->j<hi->kf (at' p j)<=kf (at' p i)
abbrev Off(p q:Array Nat)(lo:Nat):Prop:=∀i,i<lo->at' q i=at' p i
variable{lo:Nat}
section
variable{kf:Nat->Int}{N:Nat}{p:Array Nat}
def Jl{i j k:Nat}(hj:j<=p.size):at' (mirror p i j ((j - i) / 2)) k=if i<=k/\k<j then at' p (i+j - 1 - k)else at' p k:=by
 have e:=getElem?_mirror_all (xs:=p) (i:=i) hj k;split at e
 .rw[if_pos ‹_›];exact L2.qC e
 .rw[if_neg ‹_›];exact L2.qC e
def Jk{src d k:Nat}(hs:src<p.size)(hd:d<=src):at' (bubble p src d) k=if k=src - d then at' p src else if src - d<k/\k<=src then at' p (k - 1)else at' p k:=by
 have e:=getElem?_bubble (xs:=p) hs d hd k;by_cases h1:k=src - d
 .rw[if_pos h1]at e ⊢;exact L2.qC e
 .rw[if_neg h1]at e ⊢;by_cases h2:src - d<k/\k<=src
  .rw[if_pos h2]at e ⊢;exact L2.qC e
  .rw[if_neg h2]at e ⊢;exact L2.qC e
def aKD{i j d:Nat}(h:L2.Pm N p):L2.Pm N (mirror p i j d):=⟨by rw[mirror_size];exact h.size,((mirror_perm p i j d).toList).trans h.perm⟩
def aKE{i d:Nat}(h:L2.Pm N p):L2.Pm N (bubble p i d):=⟨by rw[bubble_size];exact h.size,((bubble_perm p i d).toList).trans h.perm⟩
def n6.more{n:Nat}(u:n6 kf p lo (lo+n))(hn:1<=n)(h:¬ kf (at' p (lo+n))<kf (at' p (lo+n - 1))):n6 kf p lo (lo+(n+1)):=λi j h1 h2 h3=>by
 by_cases c:j<lo+n
 .exact u i j h1 h2 c
 .obtain rfl:j=lo+n:=by omega
  by_cases d:i=lo+n
  .subst d;exact wu _
  .exact qw (u i (lo+n - 1) h1 ⋯ ⋯) ⋯
def sf.more{n:Nat}(u:sf kf p lo (lo+n))(hn:1<=n)(h:kf (at' p (lo+n))<kf (at' p (lo+n - 1))):sf kf p lo (lo+(n+1)):=λi j h1 h2 h3=>by
 by_cases c:j<lo+n
 .exact u i j h1 h2 c
 .obtain rfl:j=lo+n:=by omega
  by_cases d:i=lo+n
  .subst d;exact wu _
  .exact qw (wk h) (u i (lo+n - 1) h1 ⋯ ⋯)
def sf.rev{n:Nat}(u:sf kf p lo (lo+n))(hp:lo+n<=p.size):n6 kf (mirror p lo (lo+n) ((lo+n - lo) / 2)) lo (lo+n):=λi j h1 h2 h3=>by
 rw[Jl hp,Jl hp,if_pos ⟨h1,⋯⟩,if_pos ⟨⋯,h3⟩];exact u _ _ ⋯ ⋯ ⋯
end
variable{Q:Unit->SortSt->Prop}
section
variable{M:Model}{A:jd}{f:Nat->Keyed}{kf:Nat->Int}{N:Nat}{κ:SortKind}{p:Array Nat}
structure AS(f:Nat->Keyed)(κ:SortKind)(pd:Array (Nat×Nat×Nat))(p:Array Nat)(st:SortSt):Prop where
 kind:kindOf st=κ
 arr:arrOf st=p.map f
 pend:pendingOf st=pd
 fail:failedOf st=au
def zC(hL:ny M A E s f kf N κ)(P:L2.Pm N p){st:SortSt}(S:AS f κ pd p st){i j:Nat}(hi:i<N)(hj:j<N){Q:Option Bool->SortSt->Prop}(h:Q (aj (decide (kf (at' p i)<kf (at' p j)))) st):wpS M A E s (ltAt' i j) Q st:=by
 rw[ltAt'_eq];refine wpS_bind (wpS_get ?_);rw[S.arr];have z:=P.size;exact wpS_bind (bQ ⋯ (wpS_bind (bQ ⋯ (hL _ _ _ _ (P.lt hi) (P.lt hj) S.kind h))))
def aUX{st:SortSt}(S:AS f κ pd p st){i j:Nat}(h:∀ae,AS f κ pd (mirror p i j ((j - i) / 2)) ae->Q () ae):wpS M A E s (reverseSlice' i j) Q st:=by
 rw[reverseSlice'_eq];refine wpS_modify (h _ ⟨S.kind,?_,S.pend,S.fail⟩);show mirror (arrOf st) i j ((j - i) / 2)=_;rw[S.arr];exact kas_swaps_map f (λk=>i+k) (λk=>j - 1 - k) _ p
def aUY{st:SortSt}(S:AS f κ pd p st){k l:Nat}(h:∀ae,AS f κ pd (bubble p k (k - l)) ae->Q () ae):wpS M A E s (moveDown' k l) Q st:=by
 rw[moveDown'_eq];refine wpS_modify (h _ ⟨S.kind,?_,S.pend,S.fail⟩);show bubble (arrOf st) k (k - l)=_;rw[S.arr];exact kas_swaps_map f (λi=>k - i) (λi=>k - i - 1) _ p
private theorem Ox(hL:ny M A E s f kf N κ)(hd:∀i j,i<N->j<N->kf i=kf j->i=j)(P:L2.Pm N p){st:SortSt}(S:AS f κ pd p st){nr:Nat}(h1:1<=nr)(hn:lo+nr=N){Q:Option Nat->SortSt->Prop}
  (h:∀m q ae,AS f κ pd q ae->L2.Pm N q->Off p q lo->1<=m->m<=nr->n6 kf q lo (lo+m)->Q (aj m) ae):wpS M A E s (countRun' lo nr) Q st:=by
 have one:∀(p:Array Nat)(l:Nat),n6 kf p l (l+1):=λp l i j a b c=>by
  obtain rfl:i=j:=by omega
  exact wu _
 rw[countRun'_eq]
 refine wpS_bind (wpS_mono (wpS_forRange (I:=λx c ae=>ae=st/\c=(au,x)/\n6 kf p lo (lo+x))
  (Q:=λc ae=>ae=st/\∃n,c=(au,n)/\1<=n/\n<=nr/\n6 kf p lo (lo+n)/\(n<nr->kf (at' p (lo+n))<kf (at' p (lo+n - 1)))) ?step ?fin ⟨rfl,rfl,one _ _⟩) ?post)
 case fin =>
  rintro c ae ⟨rfl,rfl,u⟩;rw[show max 1 nr=nr by omega]at u ⊢;exact⟨rfl,nr,rfl,h1,dw _,u,λz=>absurd z (rm _)⟩
 case step =>
  rintro x c ae x1 x2 ⟨rfl,rfl,u⟩;refine wpS_bind (zC hL P S (i:=lo+x) (j:=lo+x - 1) ⋯ ⋯ ?_);refine aK (λc=>wpS_pure ⟨rfl,x,rfl,x1,⋯,u,λ_=>of_decide_eq_true c⟩) λc=>wpS_pure ⟨rfl,rfl,u.more x1 λz=>c (decide_eq_true z)⟩
 case post =>
  rintro c ae ⟨rfl,n,rfl,n1,n2,u,hs⟩;refine aK (λ_=>wpS_pure (h n p _ S P (λ_ _=>rfl) n1 n2 u)) λc=>?_;have c':n≠nr:=λz=>c (by simpa using z);have hs:=hs ⋯;refine aK (λg=>?_) λg=>?_
  .have g:n>1:=g;refine wpS_bind (zC hL P S (i:=lo) (j:=lo+n - 1) ⋯ ⋯ ?_);refine aK (λ_=>wpS_pure (h n p _ S P (λ_ _=>rfl) n1 n2 u)) λc=>?_;exfalso;refine c (decide_eq_true ?_);rcases Int.lt_or_eq_of_le (u lo (lo+n - 1) ⋯ ⋯ ⋯)with z|z
   .exact z
   .have:=P.inj (show lo<N by omega) (show lo+n - 1<N by omega) (hd _ _ (P.lt ⋯) (P.lt ⋯) z);omega
  .obtain rfl:n=1:=by
    have:¬ (n>1):=g;omega
   refine wpS_bind (wpS_lift (yc ⟨rfl,?_⟩));have z:=P.size
   refine wpS_bind (wpS_mono (wpS_forRange (I:=λx c br=>br=ae/\c=(au,x,0)/\sf kf p lo (lo+x))
    (Q:=λc br=>br=ae/\∃n,c=(au,n,0)/\2<=n/\n<=nr/\sf kf p lo (lo+n)) ?ma ?KR ⟨rfl,rfl,?aQ9⟩) ?IH)
   case aQ9 =>
    refine sf.more (n:=1) (λi j a b c=>?_) (dw _) hs;obtain rfl:i=j:=by omega
    exact wu _
   case KR =>
    rintro c br ⟨rfl,rfl,u⟩;rw[show max (1+1) nr=nr by omega]at u ⊢;exact⟨rfl,nr,rfl,⋯,dw _,u⟩
   case ma =>
    rintro x c br x1 x2 ⟨rfl,rfl,u⟩;refine wpS_bind (zC hL P S (i:=lo+x) (j:=lo+x - 1) ⋯ ⋯ ?_);refine aK (λc=>?_) λc=>?_
    .exact aK (λz=>absurd z (rm 0)) λ_=>wpS_pure ⟨rfl,rfl,u.more ⋯ (of_decide_eq_true c)⟩
    .refine wpS_bind (zC hL P S (i:=lo+x - 1) (j:=lo+x) ⋯ ⋯ ?_);refine aK (λc=>wpS_pure ⟨rfl,x,rfl,x1,⋯,u⟩) λc2=>?_;exfalso
     have e:kf (at' p (lo+x))=kf (at' p (lo+x - 1)):=by
      have a1:¬ kf (at' p (lo+x))<kf (at' p (lo+x - 1)):=λz=>c (decide_eq_true z);have a2:¬ kf (at' p (lo+x - 1))<kf (at' p (lo+x)):=λz=>c2 (decide_eq_true z);omega
     have:=P.inj (show lo+x<N by omega) (show lo+x - 1<N by omega) (hd _ _ (P.lt ⋯) (P.lt ⋯) e);omega
   case IH =>
    rintro c br ⟨rfl,n,rfl,n1,n2,u⟩;refine aK (λz=>absurd z (rm 0)) λ_=>?_;refine wpS_bind (aUX S λdA S3=>?_);have P3:=aKD (i:=lo) (j:=lo+n) (d:=(lo+n - lo) / 2) P;have u3:=u.rev ⋯
    have o3:Off p (mirror p lo (lo+n) ((lo+n - lo) / 2)) lo:=λi hi=>by
     rw[Jl ⋯,if_neg ⋯]
    refine wpS_bind (wpS_mono (wpS_forRange (I:=λx c ae=>ae=dA/\c=(au,x)/\n6 kf (mirror p lo (lo+n) ((lo+n - lo) / 2)) lo (lo+x))
     (Q:=λc ae=>ae=dA/\∃m,c=(au,m)/\1<=m/\m<=nr/\n6 kf (mirror p lo (lo+n) ((lo+n - lo) / 2)) lo (lo+m)) ?aQA ?ML ⟨rfl,rfl,u3⟩) ?DI)
    case ML =>
     rintro c ae ⟨rfl,rfl,u⟩;rw[show max n nr=nr by omega]at u ⊢;exact⟨rfl,nr,rfl,h1,dw _,u⟩
    case aQA =>
     rintro x c ae x1 x2 ⟨rfl,rfl,u⟩;have x1:n<=x:=x1;have x2:x<nr:=x2;refine wpS_bind (zC hL P3 S3 (i:=lo+x) (j:=lo+x - 1) ⋯ ⋯ ?_);exact aK (λc=>wpS_pure ⟨rfl,x,rfl,⋯,⋯,u⟩) λc=>wpS_pure ⟨rfl,rfl,u.more ⋯ λz=>c (decide_eq_true z)⟩
    case DI =>
     rintro c ae ⟨rfl,m,rfl,m1,m2,u⟩;exact wpS_pure (h m _ _ S3 P3 o3 m1 m2 u)
end
end TS
namespace TS
open PySem PyProof.Rows
open PySem.W (kas_swaps_map)
section
variable{M:Model}{A:jd}{kf:Nat->Int}{N:Nat}{κ:SortKind}{p:Array Nat}
def aKG{lo k l:Nat}(hk:lo+k<p.size)(hl:l<=k)(u:n6 kf p lo (lo+k))(h1:∀i,i<l->kf (at' p (lo+i))<=kf (at' p (lo+k)))(h2:∀i,l<=i->i<k->kf (at' p (lo+k))<kf (at' p (lo+i))) :
  n6 kf (bubble p (lo+k) (lo+k - (lo+l))) lo (lo+(k+1)):=λi j a b c=>by
 have H1:∀x,lo<=x->x<lo+l->kf (at' p x)<=kf (at' p (lo+k)):=λx x1 x2=>(show lo+(x - lo)=x by omega) ▸ h1 (x - lo) ⋯;have H2:∀x,lo+l<=x->x<lo+k->kf (at' p (lo+k))<=kf (at' p x):=λx x1 x2=>wk ((show lo+(x - lo)=x by omega) ▸ h2 (x - lo) ⋯ ⋯);rw[Jk hk ⋯,Jk hk ⋯,show lo+k - (lo+k - (lo+l))=lo+l by omega];by_cases i1:i=lo+l
 .rw[if_pos i1];by_cases j1:j=lo+l
  .rw[if_pos j1];exact wu _
  .rw[if_neg j1,if_pos ⋯];exact H2 _ ⋯ ⋯
 .rw[if_neg i1];by_cases i2:lo+l<i/\i<=lo+k
  .rw[if_pos i2,if_neg ⋯,if_pos ⋯];exact u _ _ ⋯ ⋯ ⋯
  .rw[if_neg i2];by_cases j1:j=lo+l
   .rw[if_pos j1];exact H1 _ a ⋯
   .rw[if_neg j1];by_cases j2:lo+l<j/\j<=lo+k
    .rw[if_pos j2];exact u _ _ a ⋯ ⋯
    .rw[if_neg j2];exact u _ _ a b ⋯
private theorem Cr(hL:ny M A E s f kf N κ)(P:L2.Pm N p){st:SortSt}(S:AS f κ pd p st){lo n ok:Nat}(ho:1<=ok)(hon:ok<=n)(hn:lo+n<=N)(u:n6 kf p lo (lo+ok)){Q:Bool->SortSt->Prop}
  (h:∀q ae,AS f κ pd q ae->L2.Pm N q->Off p q lo->n6 kf q lo (lo+n)->Q ak ae):wpS M A E s (binarySort' lo n ok) Q st:=by
 rw[binarySort'_eq]
 refine wpS_bind (wpS_mono (wpS_forRange (I:=λk c ae=>c=(au,())/\∃q,AS f κ pd q ae/\L2.Pm N q/\Off p q lo/\n6 kf q lo (lo+k))
  (Q:=λc ae=>c=(au,())/\∃q,AS f κ pd q ae/\L2.Pm N q/\Off p q lo/\n6 kf q lo (lo+n)) ?step ?fin ⟨rfl,p,S,P,λ_ _=>rfl,by rw[show max ok 1=ok by omega];exact u⟩) ?post)
 case post =>
  rintro c ae ⟨rfl,q,S,P,o,u⟩;exact wpS_pure (h q _ S P o u)
 case fin =>
  rintro c ae ⟨rfl,q,S,P,o,u⟩;rw[show max (max ok 1) n=n by omega]at u;exact⟨rfl,q,S,P,o,u⟩
 case step =>
  rintro k c ae k1 k2 ⟨rfl,q,S,P,o,u⟩;have z:=P.size
  refine wpS_bind (wpS_mono (wpS_forRange (I:=λx c br=>br=ae/\∃l r,c=(au,l,r)/\l<=r/\r<=k/\r+x<=k+l/\(∀i,i<l->kf (at' q (lo+i))<=kf (at' q (lo+k)))/\(∀i,r<=i->i<k->kf (at' q (lo+k))<kf (at' q (lo+i))))
   (Q:=λc br=>br=ae/\∃l r,c=(au,l,r)/\l<=k/\(∀i,i<l->kf (at' q (lo+i))<=kf (at' q (lo+k)))/\(∀i,l<=i->i<k->kf (at' q (lo+k))<kf (at' q (lo+i)))) ?DL ?ME ⟨rfl,0,k,rfl,⋯,⋯,⋯,λi hi=>by omega,λi a b=>by omega⟩) ?DN)
  case ME =>
   rintro c br ⟨rfl,l,r,rfl,a0,a1,a2,a3,a4⟩;obtain rfl:l=r:=by omega
   exact⟨rfl,l,l,rfl,a1,a3,a4⟩
  case DL =>
   rintro x c br _ hx ⟨rfl,l,r,rfl,a0,a1,a2,a3,a4⟩;refine aK (λg=>?_) λg=>?_
   .have g:l≥r:=g;obtain rfl:l=r:=by omega
    exact wpS_pure ⟨rfl,l,l,rfl,a1,a3,a4⟩
   .have g:¬ l≥r:=g;refine wpS_bind (zC hL P S (i:=lo+k) (j:=lo+(l+r) / 2) ⋯ ⋯ ?_);refine aK (λc=>wpS_pure ⟨rfl,l,(l+r) / 2,rfl,⋯,⋯,⋯,a3,λi b1 b2=>?_⟩) λc=>wpS_pure ⟨rfl,(l+r) / 2+1,r,rfl,⋯,⋯,⋯,λi b1=>?_,a4⟩
    .exact Int.lt_of_lt_of_le (of_decide_eq_true c) (u _ _ ⋯ ⋯ ⋯)
    .have c:¬ kf (at' q (lo+k))<kf (at' q (lo+(l+r) / 2)):=λz=>c (decide_eq_true z);exact qw (u _ (lo+(l+r) / 2) ⋯ ⋯ ⋯) (Int.not_lt.mp c)
  case DN =>
   rintro c br ⟨rfl,l,r,rfl,a1,a3,a4⟩;refine wpS_bind (aUY S λdA S3=>wpS_pure ⟨rfl,_,S3,aKE P,λi hi=>?_,aKG ⋯ a1 u a3 a4⟩);show at' (bubble q (lo+k) (lo+k - (lo+l))) i=at' p i;rw[Jk ⋯ ⋯,if_neg ⋯,if_neg ⋯];exact o i hi
def akB(i:Nat):mergeAt' i=(do
 let s ←get
 let(aj (s1,n1,w0),aj (s2,n2,_)):=((pendingOf s)[i]?,(pendingOf s)[i+1]?)|unsupported "internal:list.sort.pending"
 set (KW s (((pendingOf s).setIfInBounds i (s1,n1+n2,w0)).eraseIdxIfInBounds (i+1)))
 let aj k ←vM ao (←elem' (arrOf s) s2) (arrOf s) s1 n1 0|return ao
 let(s1,n1):=(s1+k,n1 - k)
 if n1==0 then return ak
 let aj n2 ←vM ak (←elem' (arrOf s) (s1+n1 - 1)) (arrOf s) s2 n2 (n2 - 1)|return ao
 if n2==0 then return ak
 let x0:=(arrOf s).extract s1 s2
 let y0:=(arrOf s).extract s2 (s2+n2)
 let g0 ←if n1<=n2 then F4 x0 y0 else F3 x0 y0
 modify λs=>FI s (g0.toList.zipIdx.foldl (λa (p,j)=>a.setIfInBounds (s1+j) p) (arrOf s))
 return (failedOf (←get)).isNone):=rfl
end
end TS
namespace TS
open PySem PyProof.Rows
def F2{α:Type}(sa:Nat):∀(l:List α)(j:Nat)(a:Array α),sa+j+l.length<=a.size->((l.zipIdx j).foldl (λa (p,j)=>a.setIfInBounds (sa+j) p) a).toList=a.toList.take (sa+j)++l++a.toList.drop (sa+j+l.length)
 |[],j,a,h=>by simp
 |x::l,j,a,h=>by
  rw[List.zipIdx_cons,List.foldl_cons];rw[F2 sa l (j+1) _ (by rw[Array.size_setIfInBounds];simp at h;omega)];simp only[qy]at h;dsimp only;rw[Array.toList_setIfInBounds,show sa+(j+1)=sa+j+1 by omega,List.take_set,List.drop_set_of_lt ⋯,List.take_succ_eq_append_getElem (by simp;omega),List.set_append_right _ _ (by simp;omega)];rw[show sa+j - (List.take (sa+j) a.toList).length=0 by simp;omega];simp;congr 1;omega
section
variable{M:Model}{A:jd}{kf:Nat->Int}{N:Nat}{κ:SortKind}{p:Array Nat}
def aDB{σ:Type}{st ae:σ}{Q:PUnit->σ->Prop}(h:Q ⟨⟩ ae):wpS M A E s (set ae:StateT σ Sem PUnit) Q st:=by
 unfold wpS;rw[StateT.run_set];exact cj ⟨rfl,h⟩
def PC{base n:Nat}(u:n6 kf p base (base+n)){left:Bool}{key:Nat}(i j:Nat)(fR:i<=j)(hj:j<n)(e:yS kf left key (at' p (base+j))=ak):yS kf left key (at' p (base+i))=ak:=by
 have:=u (base+i) (base+j) ⋯ ⋯ ⋯;cases left with
 |true=>exact w8.2 (Int.lt_of_le_of_lt this (w8.1 e))
 |false=>exact sg.2 (qw this (sg.1 e))
def Ow{a b i:Nat}(hb:b<=p.size)(hi:i<b - a):at' (p.extract a b) i=at' p (a+i):=by
 apply L2.qC;rw[Array.getElem?_extract,yg hb,if_pos hi]
def aDC(u:p.toList.Pairwise (Le kf)):n6 kf p 0 p.size:=λi j _ b c=>by
 by_cases e:i=j
 .subst e;exact wu _
 .have:=vf.mp u i j (by simp;omega) (by simpa using c) ⋯;simpa[at',yh,c,show i<p.size by omega]using this
def Tl{a b:Nat}(hb:b<=p.size)(u:n6 kf p a b):((p.toList.take b).drop a).Pairwise (Le kf) :=
 vf.mpr λi j hi hj fR=>by
  have eR:j<b - a:=by simp at hj;omega
  have:=u (a+i) (a+j) ⋯ ⋯ ⋯;simpa[at',yh,show a+i<p.size by omega,show a+j<p.size by omega]using this
def mem_mid{i n x:Nat}(h:x∈((p.toList.take n).drop i)):∃j,i<=j/\j<n/\j<p.size/\x=at' p j:=Rw (Gj.mpr h)
def EM{a b:Nat}:(p.extract a b).toList=(p.toList.take b).drop a:=by simp[List.drop_take]
def aKH(hL:ny M A E s f kf N κ)(P:L2.Pm N p){st:SortSt}{n1 n2 pw q0:Nat}(S:AS f κ #[(0,n1,pw),(n1,n2,q0)] p st)(h1:1<=n1)(h2:1<=n2)(e:n1+n2=N)(ua:n6 kf p 0 n1)(ub:n6 kf p n1 N){Q:Bool->SortSt->Prop}
  (h:∀q ae,AS f κ #[(0,N,pw)] q ae->L2.Pm N q->n6 kf q 0 N->Q ak ae):wpS M A E s (mergeAt' 0) Q st:=by
 have z:=P.size;have hI:In N p:=λi hi=>P.lt ⋯;have e0:(pendingOf st)[0]?=aj (0,n1,pw):=by rw[S.pend];rfl
 have e1:(pendingOf st)[0+1]?=aj (n1,n2,q0):=by rw[S.pend];rfl
 rw[akB];refine wpS_bind (wpS_get ?_);rw[e0,e1];have S1:AS f κ #[(0,N,pw)] p (KW st (((pendingOf st).setIfInBounds 0 (0,n1+n2,pw)).eraseIdxIfInBounds (0+1))):=⟨S.kind,S.arr,by show((pendingOf st).setIfInBounds 0 (0,n1+n2,pw)).eraseIdxIfInBounds (0+1)=_;rw[S.pend,e];simp[Md,Array.setIfInBounds],S.fail⟩;refine wpS_bind (aDB ?_);generalize KW st (((pendingOf st).setIfInBounds 0 (0,n1+n2,pw)).eraseIdxIfInBounds (0+1))=zi at S1 ⊢;rw[S.arr];refine wpS_bind (bQ (i:=n1) ⋯ (wpS_bind (AY (base:=0) (n:=n1) (hint:=0) hL (P.lt ⋯) hI ⋯ ⋯ (PC (by rw[qu];exact ua)) S1.kind λk k1 k2 k3=>?_)));simp only[qu]at k2 k3;refine aK (λc=>?_) λc=>?_
 .have c:n1 - k=0:=by simpa using c
  refine wpS_pure (h p _ S1 P λi j a b d=>?_);by_cases i1:n1<=i
  .exact ub i j i1 b d
  .by_cases j1:j<n1
   .exact ua i j a b j1
   .exact qw (sg.1 (k2 i ⋯)) (ub n1 j ⋯ ⋯ d)
 have c:k<n1:=Nat.lt_of_sub_ne_zero λz=>c (by simpa using z);have ek:0+k+(n1 - k) - 1=n1 - 1:=by rw[qu,Df k1]
 rw[show(0+k,n1 - k).1+(0+k,n1 - k).2 - 1=n1 - 1 from ek];clear ek;have Nk:n1 - 1<p.size:=by clear c;omega
 have zn:n1<=p.size:=by clear c;omega
 refine wpS_bind (bQ (i:=n1 - 1) Nk (wpS_bind (AY (base:=n1) (n:=n2) (hint:=n2 - 1) hL (P.lt (z ▸ Nk)) hI (by rw[e,z];exact dw _) (sP h2 sR) (PC (by rw[e];exact ub)) S1.kind λm m1 m2 m3=>?_)));refine aK (λc=>?_) λc2=>?_
 .have c:m=0:=by simpa using c
  subst c;refine wpS_pure (h p _ S1 P λi j a b d=>?_);by_cases i1:n1<=i
  .exact ub i j i1 b d
  .by_cases j1:j<n1
   .exact ua i j a b j1
   .exact qw (ua i (n1 - 1) a (Nat.le_sub_one_of_lt (Nat.lt_of_not_le i1)) (sP h1 sR)) (Df (Nat.le_of_not_lt j1) ▸ EN.1 (m3 (j - n1) (qm _) (Nat.sub_lt_left_of_lt_add (Nat.le_of_not_lt j1) (e ▸ d))))
 have c2:0<m:=Gs λz=>c2 (by simpa using z);have zm:n1+m<=p.size:=by rw[z,←e];exact Nat.add_le_add_left m1 _
 have xe:(p.map f).extract (0+k) n1=(p.extract k n1).map f:=by rw[qu];simp
 have ye:(p.map f).extract n1 (n1+m)=(p.extract n1 (n1+m)).map f:=by simp
 show wpS M A E s (do
   let merged ←if n1 - k<=m then F4 ((p.map f).extract (0+k) n1) ((p.map f).extract n1 (n1+m))else F3 ((p.map f).extract (0+k) n1) ((p.map f).extract n1 (n1+m))
   modify λs=>FI s (merged.toList.zipIdx.foldl (λa (p,j)=>a.setIfInBounds (0+k+j) p) (arrOf s))
   return (failedOf (←get)).isNone) Q zi
 rw[xe,ye];have za:(p.extract k n1).size=n1 - k:=by rw[Array.size_extract,yg zn]
 have zb:(p.extract n1 (n1+m)).size=m:=by rw[Array.size_extract,yg zm,Nat.add_sub_cancel_left]
 have aa:∀i,i<n1 - k->at' (p.extract k n1) i=at' p (k+i):=λi hi=>Ow zn hi;have ab:∀i,i<m->at' (p.extract n1 (n1+m)) i=at' p (n1+i):=λi hi=>Ow zm (by rwa [Nat.add_sub_cancel_left]);have ki:∀i,i<(p.extract k n1).size->k+i<n1:=λi hi=>Nat.add_comm k i ▸ Nat.add_lt_of_lt_sub (za ▸ hi);have mi:∀i,i<(p.extract n1 (n1+m)).size->n1+i<N:=λi hi=>z ▸ jf (Nat.add_lt_add_left (zb ▸ hi) _) zm;have Ia:In N (p.extract k n1):=λi hi=>by rw[aa i (za ▸ hi)];exact P.lt (jf (ki i hi) (z ▸ zn))
 have Ib:In N (p.extract n1 (n1+m)):=λi hi=>by rw[ab i (zb ▸ hi)];exact P.lt (mi i hi)
 have Ua:Up kf (p.extract k n1):=λi j fR hj=>by rw[aa i (Gr fR (za ▸ hj)),aa j (za ▸ hj)];exact ua _ _ (qm _) (Nat.add_le_add_left fR _) (ki j hj)
 have Ub:Up kf (p.extract n1 (n1+m)):=λi j fR hj=>by rw[ab i (Gr fR (zb ▸ hj)),ab j (zb ▸ hj)];exact ub _ _ (Nat.le_add_right _ _) (Nat.add_le_add_left fR _) (mi j hj)
 have Hf:kf (at' (p.extract n1 (n1+m)) 0)<kf (at' (p.extract k n1) 0):=by rw[aa 0 (Gm c),ab 0 c2];exact IP.1 (k3 k (dw _) c)
 have Hl:∀j,j<(p.extract n1 (n1+m)).size->kf (at' (p.extract n1 (n1+m)) j)<=kf (at' (p.extract k n1) ((p.extract k n1).size - 1)):=λj hj=>by
  rw[ab j (zb ▸ hj),za,aa _ (sP (Gm c) sR),←Nat.add_sub_assoc (Gm c),Df k1];exact wk (w8.1 (m2 j (zb ▸ hj)))
 have fin:∀r ae,bJ zi ae->GoodR f kf ((p.extract k n1).toList++(p.extract n1 (n1+m)).toList) r->wpS M A E s (do
   modify λs=>FI s (r.toList.zipIdx.foldl (λa (p,j)=>a.setIfInBounds (0+k+j) p) (arrOf s))
   return (failedOf (←get)).isNone) Q ae:=by
  rintro r ae ⟨s1,s2,s3,s4⟩ ⟨l,el,lp,lw⟩;have ll:l.length=n1 - k+m:=by rw[lw.length_eq,yp,ur,ur,za,zb]
  have ln:k+(n1 - k+m)=n1+m:=by rw[←Nat.add_assoc,Df k1]
  refine wpS_bind (wpS_modify (wpS_bind (wpS_get ?_)))
  have ev:(r.toList.zipIdx.foldl (λa (p,j)=>a.setIfInBounds (0+k+j) p) (arrOf ae))=((p.toList.take k++l++p.toList.drop (n1+m)).toArray).map f:=by
   apply Array.ext';rw[s2,S1.arr,F2 (0+k) r.toList 0 _ (by rw[el,fj,ll,Nat.add_zero,qu,ln,wz];exact zm),el];simp[List.map_take,List.map_drop,ll];rw[ln]
  have hf:(failedOf (FI ae (r.toList.zipIdx.foldl (λa (p,j)=>a.setIfInBounds (0+k+j) p) (arrOf ae)))).isNone=ak:=by
   show(failedOf ae).isNone=ak;rw[s4,S1.fail];rfl
  rw[hf]
  have mp:p.toList=p.toList.take k++((p.extract k n1).toList++(p.extract n1 (n1+m)).toList)++p.toList.drop (n1+m):=by
   rw[EM,EM]
   have a1:(p.toList.take n1)=p.toList.take k++(p.toList.take n1).drop k:=by
    have:=(Dg k (p.toList.take n1)).symm
    rwa [List.take_take,yg k1]at this
   have a2:(p.toList.take (n1+m))=p.toList.take n1++(p.toList.take (n1+m)).drop n1:=by
    have:=(Dg n1 (p.toList.take (n1+m))).symm
    rwa [List.take_take,yg (Nat.le_add_right _ _)]at this
   rw[←zp,←a1,←a2,Dg]
  have pm:(p.toList.take k++l++p.toList.drop (n1+m)).Perm p.toList:=by
   conv=>rhs;rw[mp]
   exact(lw.append_left _).append_right _
  have P2:L2.Pm N (p.toList.take k++l++p.toList.drop (n1+m)).toArray:=⟨by rw[←z];simpa using pm.length_eq,pm.trans P.perm⟩;refine wpS_pure (h _ _ ⟨s1.trans S1.kind,ev,s3.trans S1.pend,s4.trans S1.fail⟩ P2 ?_)
  have D1:∀x,x∈p.toList.drop (n1+m)->∃j,n1+m<=j/\j<N/\x=at' p j:=λx hx=>by
   let⟨j,a,b,c⟩:=nH hx;exact⟨j,a,z ▸ b,c⟩
  have T1:∀x,x∈p.toList.take k->∃j,j<k/\x=at' p j:=λx hx=>by
   let⟨j,a,b,c⟩:=vN (Gj.mpr hx);exact⟨j,a,c⟩
  have M1:∀x,x∈l->(∃j,k<=j/\j<n1/\x=at' p j)∨∃j,n1<=j/\j<n1+m/\x=at' p j:=λx hx=>by
   have:=lw.mem_iff.mp hx;rw[EM,EM]at this;rcases qx.mp this with q|q
   .obtain⟨j,a,b,c,d⟩:=mem_mid q;exact .inl ⟨j,a,b,d⟩
   .obtain⟨j,a,b,c,d⟩:=mem_mid q;exact .inr ⟨j,a,b,d⟩
  rw[←P2.size];refine aDC ?_;show(p.toList.take k++l++p.toList.drop (n1+m)).Pairwise (Le kf);have tb:∀i j,i<k->n1<=j->j<N->kf (at' p i)<=kf (at' p j):=λi j hi hj hn=>qw (sg.1 (k2 i hi)) (ub n1 j (dw _) hj hn);have ad:∀i j,i<n1->n1+m<=j->j<N->kf (at' p i)<=kf (at' p j):=λi j hi hj hn=>qw (ua i (n1 - 1) (qm _) (Nat.le_sub_one_of_lt hi) (sP h1 sR)) (Df (LY hj) ▸ EN.1 (m3 (j - n1) (Nat.le_sub_of_add_le (Nat.add_comm n1 m ▸ hj)) (Nat.sub_lt_left_of_lt_add (LY hj) (e ▸ hn))));rw[wj,wj];refine⟨⟨?_,lp,λx hx y hy=>?_⟩,?_,λx hx y hy=>?_⟩
  .have:=Tl (a:=0) (b:=k) (lq k1 zn) (λi j a b c=>ua i j a b (jf c k1));simpa using this
  .obtain⟨i,hi,rfl⟩:=T1 x hx;rcases M1 y hy with⟨j,a,b,rfl⟩|⟨j,a,b,rfl⟩
   .exact ua i j (qm _) (ud (jf hi a)) b
   .exact tb i j hi a (jf b (z ▸ zm))
  .have:=Tl (a:=n1+m) (b:=N) (xN z.symm) (λi j a b c=>ub i j (LY a) b c)
   rwa [LZ (by simp[z])]at this
  .obtain⟨j,j1,j2,rfl⟩:=D1 y hy;rcases qx.mp hx with hx|hx
   .obtain⟨i,hi,rfl⟩:=T1 x hx;exact ad i j (jf hi k1) j1 j2
   .rcases M1 x hx with⟨i,a,b,rfl⟩|⟨i,a,b,rfl⟩
    .exact ad i j b j1 j2
    .exact ub i j a (ud (jf b j1)) j2
 have B:Ha M A E s f kf N κ _ _:=⟨hL,Ia,Ib,Ua,Ub,Nat.lt_of_lt_of_eq (Gm c) za.symm,Nat.lt_of_lt_of_eq c2 zb.symm,Hf,Hl⟩;exact aK (λ_=>wpS_bind (aQ6 B S1.kind fin)) λ_=>wpS_bind (aQ8 B S1.kind fin)
end
end TS
namespace TS
open PySem PyProof.Rows
section
variable{M:Model}{A:jd}{f:Nat->Keyed}{kf:Nat->Int}{N:Nat}{κ:SortKind}
def AS.push{pd:Array (Nat×Nat×Nat)}{st:SortSt}(S:AS f κ pd p st)(x:Nat×Nat×Nat):AS f κ (pd.push x) p (setPending st ((pendingOf st).push x)):=⟨S.kind,S.arr,by show(pendingOf st).push x=_;rw[S.pend],S.fail⟩
def mod_one{α:Type}(x:α)(g:α->α):(#[x]:Array α).modify (#[x].size - 1) g=#[g x]:=by
 apply Array.ext';simp[Array.toList_modify]
def AS.aUZ{st:SortSt}{x:Nat×Nat×Nat}(S:AS f κ #[x] p st)(g:Nat×Nat×Nat->Nat×Nat×Nat):AS f κ #[g x] p (setPending st ((pendingOf st).modify ((pendingOf st).size - 1) g)):=⟨S.kind,S.arr,by show(pendingOf st).modify _ g=_;rw[S.pend];exact mod_one x g,S.fail⟩
abbrev One(f:Nat->Keyed)(κ:SortKind)(kf:Nat->Int)(N:Nat)(st:SortSt):Prop:=∃q pw,AS f κ #[(0,N,pw)] q st/\L2.Pm N q/\n6 kf q 0 N
abbrev b9(f:Nat->Keyed)(κ:SortKind)(kf:Nat->Int)(N:Nat)(st:SortSt):Prop:=∃q n1 n2 pw,AS f κ #[(0,n1,pw),(n1,n2,0)] q st/\L2.Pm N q/\1<=n1/\1<=n2/\n1+n2=N/\n6 kf q 0 n1/\n6 kf q n1 N
private theorem aDD(hL:ny M A E s f kf N κ)(hd:∀i j,i<N->j<N->kf i=kf j->i=j)(hV:64<=N)(FG:N<128)(P:L2.Pm N p){st:SortSt}(S:AS f κ #[] p st){Q:Unit->SortSt->Prop}
  (h:∀q ae,arrOf ae=q.map f->failedOf ae=au->L2.Pm N q->n6 kf q 0 N->Q () ae):wpS M A E s sortRuns' Q st:=by
 have z:=P.size;have za:(arrOf st).size=N:=by rw[S.arr,wz,z]
 rw[sortRuns'_eq];refine wpS_bind (wpS_get ?_)
 have zS:minRun' N N 0=N / 2+N%2:=by
  obtain⟨r,rfl⟩:∃r,N=r+3:=⟨N - 3,⋯⟩;rw[minRun'_succ,if_neg ⋯,minRun'_succ,if_pos ⋯];omega
 rw[za];clear za;obtain⟨mr,WT⟩:∃mr,mr=minRun' N N 0:=⟨_,rfl⟩;rw[←WT]at zS;have hm:N<=2*mr:=by rw[zS];clear zS;omega
 have hm1:mr<N:=by rw[zS];clear zS;omega
 clear zS
 refine wpS_bind (wpS_mono (wpS_forRange (I:=λx c ae=>(x=0/\c=(au,0)/\AS f κ #[] p ae)∨(x=1/\∃n1 q,c=(au,n1)/\1<=n1/\mr<=n1/\n1<=N/\AS f κ #[(0,n1,0)] q ae/\L2.Pm N q/\n6 kf q 0 n1)∨(2<=x/\c=(au,N)/\b9 f κ kf N ae))
  (Q:=λc ae=>c.1=au/\(One f κ kf N ae∨b9 f κ kf N ae)) ?step ?fin (.inl ⟨rfl,rfl,S⟩)) ?post)
 case fin =>
  rintro c ae (⟨a,_⟩|⟨a,_⟩|⟨_,rfl,T⟩)
  .exfalso;have:max 0 N=0:=a;omega
  .exfalso;have:max 0 N=1:=a;omega
  .exact⟨rfl,.inr T⟩
 case post =>
  rintro⟨c1,c2⟩ ae ⟨rfl,T⟩
  refine wpS_bind (wpS_mono (wpS_forRange (I:=λx c ae=>c=(au,())/\(One f κ kf N ae∨(x=0/\b9 f κ kf N ae)))
   (Q:=λc ae=>c=(au,())/\One f κ kf N ae) ?ma ?KR ⟨rfl,T.imp id λt=>⟨rfl,t⟩⟩) ?IH)
  case KR =>
   rintro c ae ⟨rfl,o|⟨a,_⟩⟩
   .exact⟨rfl,o⟩
   .exfalso;have:max 0 N=0:=a;omega
  case IH =>
   rintro c ae ⟨rfl,q,pw,S,P,u⟩;exact wpS_pure (h q _ S.arr S.fail P u)
  case ma =>
   rintro x c ae _ hx ⟨rfl,o|⟨rfl,q,n1,n2,pw,S,P,a1,a2,e,u1,u2⟩⟩
   .refine wpS_bind (wpS_get (aK (λ_=>wpS_pure ⟨rfl,o⟩) λc=>?_));let⟨q,pw,S,P,u⟩:=o;exfalso;refine c ?_;show(pendingOf ae).size<=1;rw[S.pend];exact dw 1
   .refine wpS_bind (wpS_get ?_);rw[S.pend];refine aK (λc=>absurd (show 2<=1 from c) ⋯) λ_=>?_;refine wpS_bind (aKH hL P S a1 a2 e u1 u2 λq br S2 P2 u=>?_);exact wpS_pure ⟨rfl,.inl ⟨q,pw,S2,P2,u⟩⟩
 case step =>
  rintro x c ae _ hx (⟨rfl,rfl,S⟩|⟨rfl,n1,q,rfl,a1,a2,a3,S,P,u⟩|⟨_,rfl,T⟩)
  .refine aK (λc=>absurd (show 0≥N from c) ⋯) λ_=>?_;refine wpS_bind (Ox hL hd P S (lo:=0) (nr:=N - 0) ⋯ ⋯ λm q br S2 P2 _ m1 m2 u=>?_);rw[qu]at u;refine aK (λlt=>?_) λlt=>?_
   .have lt:m<minRun' N N 0:=lt;refine wpS_bind (wpS_lift (yc ⟨rfl,?_⟩));refine wpS_bind (Cr hL P2 S2 (lo:=0) (n:=min (N - 0) (minRun' N N 0)) m1 ⋯ ⋯ (by rw[qu];exact u) λq3 dA S3 P3 _ u3=>?_);refine wpS_bind (wpS_get ?_);rw[S3.pend];refine wpS_bind (wpS_modify (wpS_pure (.inr (.inl ⟨rfl,min (N - 0) (minRun' N N 0),q3,by rw[qu],⋯,⋯,⋯,S3.push _,P3,by rwa [qu]at u3⟩))))
   .have lt:¬ m<minRun' N N 0:=lt;refine wpS_bind (wpS_get ?_);rw[S2.pend];refine wpS_bind (wpS_modify (wpS_pure (.inr (.inl ⟨rfl,m,q,by rw[qu],⋯,⋯,⋯,S2.push _,P2,u⟩))))
  .refine aK (λc=>?_) λc=>?_
   .have c:n1≥N:=c;obtain rfl:n1=N:=by omega
    exact wpS_pure ⟨rfl,.inl ⟨q,0,S,P,u⟩⟩
   have c:¬ n1≥N:=c;refine wpS_bind (Ox hL hd P S (lo:=n1) (nr:=N - n1) ⋯ ⋯ λm q2 br S2 P2 o2 m1 m2 u2=>?_);have u1:n6 kf q2 0 n1:=λi j x1 x2 x3=>by rw[o2 i ⋯,o2 j ⋯];exact u i j x1 x2 x3
   have key:∀q3 dA,AS f κ #[(0,n1,0)] q3 dA->L2.Pm N q3->n6 kf q3 0 n1->n6 kf q3 n1 N->∀pw,b9 f κ kf N (setPending (setPending dA ((pendingOf dA).modify ((pendingOf dA).size - 1) λx=>match x with|(st,len,snd)=>(st,len,pw))) ((pendingOf (setPending dA ((pendingOf dA).modify ((pendingOf dA).size - 1) λx=>match x with|(st,len,snd)=>(st,len,pw)))).push (n1,N - n1,0))) :=
    λq3 dA S3 P3 v1 v2 pw=>⟨q3,n1,N - n1,pw,AS.push (S3.aUZ λx=>match x with|(st,len,snd)=>(st,len,pw)) (n1,N - n1,0),P3,a1,⋯,⋯,v1,v2⟩
   have M5:∀(q3:Array Nat)(dA:SortSt)(pw:Nat),AS f κ #[(0,n1,0)] q3 dA->wpS M A E s (forIn [:N] (au,()) λ(x:Nat)(__s:Option Unit×Unit)=>do
      let g ←get
      match if(pendingOf g).size>1 then(pendingOf g)[(pendingOf g).size - 2]? else au with
       |some (_,_,DJ)=>if DJ<=pw then pure (ForInStep.done (au,()))else do
              let b ←mergeAt' ((pendingOf g).size - 2)
              if(!b)=ak then pure (ForInStep.done (aj (),()))else pure (ForInStep.yield (au,()))
       |x=>pure (ForInStep.done (au,()))) (λc ik=>c=(au,())/\ik=dA) dA:=λq3 dA pw S3=>by
    refine wpS_forRange (I:=λ_ c ik=>c=(au,())/\ik=dA) ?_ (λc ik e=>e) ⟨rfl,rfl⟩;rintro x c ik _ _ ⟨e1,e2⟩;subst e2;refine wpS_bind (wpS_get ?_);rw[show(if(pendingOf ik).size>1 then(pendingOf ik)[(pendingOf ik).size - 2]? else au)=au by rw[S3.pend];rfl];exact wpS_pure ⟨rfl,rfl⟩
   refine aK (λlt=>?_) λlt=>?_
   .have lt:m<minRun' N N 0:=lt;refine wpS_bind (wpS_lift (yc ⟨rfl,?_⟩));refine wpS_bind (Cr hL P2 S2 (lo:=n1) (n:=min (N - n1) (minRun' N N 0)) m1 ⋯ ⋯ u2 λq3 dA S3 P3 o3 u3=>?_);have e3:min (N - n1) (minRun' N N 0)=N - n1:=by omega
    have v1:n6 kf q3 0 n1:=λi j x1 x2 x3=>by rw[o3 i ⋯,o3 j ⋯];exact u1 i j x1 x2 x3
    rw[e3,show n1+(N - n1)=N by omega]at u3;refine wpS_bind (wpS_get ?_);rw[S3.pend];refine wpS_bind (wpS_mono (M5 q3 dA _ S3) ?_);rintro c ik ⟨e1,e2⟩;subst e1;subst e2;refine wpS_bind (wpS_modify (wpS_bind (wpS_modify (wpS_pure (.inr (.inr ⟨dw _,?_,?_⟩))))))
    .show(au,n1+min (N - n1) (minRun' N N 0))=(au,N);rw[e3,show n1+(N - n1)=N by omega]
    .have:=key q3 ik S3 P3 v1 u3;rw[←e3]at this;exact this _
   .have lt:¬ m<minRun' N N 0:=lt;obtain rfl:m=N - n1:=by omega
    rw[show n1+(N - n1)=N by omega]at u2;refine wpS_bind (wpS_get ?_);rw[S2.pend];refine wpS_bind (wpS_mono (M5 q2 br _ S2) ?_);rintro c ik ⟨e1,e2⟩;subst e1;subst e2;refine wpS_bind (wpS_modify (wpS_bind (wpS_modify (wpS_pure (.inr (.inr ⟨dw _,?_,key q2 ik S2 P2 u1 u2 _⟩))))));show(au,n1+(N - n1))=(au,N);rw[show n1+(N - n1)=N by omega]
  .exact aK (λ_=>wpS_pure ⟨rfl,.inr T⟩) λc=>absurd (show N≥N from dw _) c
end
end TS
namespace L2
open PySem PySem.Spec PyProof.Rows
section
open PySem.W
variable{vs:List bh}
section
variable{prog:jr}{w:je}{A:jd}{s:dg}
def Y0{κ:SortKind}{kf:Nat->Int}(k2:∀i j (C:Bool->dg->Prop),i<vs.length->j<vs.length->C (decide (kf i<kf j)) s->kas_ask prog w A κ vs i j C s):TS.ny (dz prog w) A E s (kas_item (vs.toArray.zip vs.toArray)) kf vs.length κ:=λi j st Q hi hj hk h=>by
 rw[lt'_eq];refine wpS_bind (wpS_get ?_);rw[hk];have z:=k2 i j (λc s'=>s'=s/\c=decide (kf i<kf j)) hi hj ⟨rfl,rfl⟩;unfold kas_ask at z;refine wpS_bind (wpS_lift (xS (ql ?_ (λc s' (hc:s'=s/\c=decide (kf i<kf j))=>?_) λ_ _ (hF:False)=>hF.elim)))
 .have e:=kas_item_eq vs;have e1:(kas_item (vs.toArray.zip vs.toArray) i).1=vs.getD i bh.none:=by rw[show vs.toArray.zip vs.toArray=pairsOf vs from rfl,e]
  have e2:(kas_item (vs.toArray.zip vs.toArray) j).1=vs.getD j bh.none:=by rw[show vs.toArray.zip vs.toArray=pairsOf vs from rfl,e]
  rw[e1,e2];exact z
 .obtain⟨rfl,rfl⟩:=hc;exact⟨rfl,wpS_pure h⟩
def aKI{κ:SortKind}{kf:Nat->Int}(l2:2<=vs.length)(FG:vs.length<128)(hd:∀i j,i<vs.length->j<vs.length->kf i=kf j->i=j)
  (k2:∀i j (C:Bool->dg->Prop),i<vs.length->j<vs.length->C (decide (kf i<kf j)) s->kas_ask prog w A κ vs i j C s) :
  dh (dz prog w) A (sortRuns'.run (SortSt.mk' κ (vs.toArray.zip vs.toArray) #[] 7 au)) (λr s'=>s'=s/\failedOf r.2=au/\∃q,Pm vs.length q/\Up kf q vs.length/\arrOf r.2=q.map (kas_item (vs.toArray.zip vs.toArray))) E s:=by
 by_cases hV:vs.length<64
 .exact kat_run (Q:=λae s'=>s'=s/\failedOf ae=au/\∃q,Pm vs.length q/\Up kf q vs.length/\arrOf ae=q.map (kas_item (vs.toArray.zip vs.toArray))) (G:=λq s'=>s'=s/\Pm vs.length q/\Up kf q vs.length) rfl l2 hV (λp ae s' a1 a2 a3 a4=>⟨a4.1,a3,p,a4.2.1,a4.2.2,a2⟩)
   (aD7 (I:=λs'=>s'=s) (λi j C s' hi hj es hC=>by subst es;exact k2 i j C hi hj (hC _ rfl)) hd l2 rfl λq s' P u es=>⟨es,P,u⟩)
 .have P0:Pm vs.length (List.toArray (lg vs.length)):=⟨by simp,by simp⟩;have zs:(vs.toArray.zip vs.toArray).size=vs.length:=by simp
  have er:(List.toArray (lg vs.length)).map (kas_item (vs.toArray.zip vs.toArray))=vs.toArray.zip vs.toArray:=by
   have:=kas_range (vs.toArray.zip vs.toArray)
   rwa [zs]at this
  exact TS.aDD (Q:=λ_ ae=>failedOf ae=au/\∃q,Pm vs.length q/\Up kf q vs.length/\arrOf ae=q.map (kas_item (vs.toArray.zip vs.toArray))) (Y0 k2) hd ⋯ FG P0 (st:=SortSt.mk' κ (vs.toArray.zip vs.toArray) #[] 7 au) ⟨rfl,er.symm,rfl,rfl⟩ λq ae a b P u=>⟨b,q,P,λi j fR hj=>u i j (qm _) fR hj,a⟩
def Rv{kf:Nat->Int}{a:bw}{n:Nat}(ho:s.heap.get? a=aj (uq "list" vs.toArray n))(FG:vs.length<128)(hd:∀i j,i<vs.length->j<vs.length->kf i=kf j->i=j)
  (hk:2<=vs.length->∀h':jw,(∀b o,b≠a->s.heap.get? b=aj o->h'.get? b=aj o)->ES prog w A s kf vs h')
  (h:∀q,Pm vs.length q->Up kf q vs.length->P (.done (.ret .none)) {s with heap:=sortedHeap s.heap a vs (q.toList.map λi=>vs.getD i bh.none).toArray}):dh (dz prog w) A (Builtin.«list.sort» ⟨[.ref a],[]⟩) P E s:=by
 have big:1000<dj:=by decide
 have la:a<s.heap.objs.size:=ig ho;rw[list_sort_plain];refine aq (listItems_at ho rfl (aq (listUpdate_at ho rfl ?_ (by rw[gk];omega) (qm _))));obtain⟨e1,NH⟩:∃e1,(s.heap.update a (Obj.mapSeq λ_=>(#[]:Array bh))).get? a=aj (uq "list" #[] e1):=⟨_,get?_update_seq ho λ_=>#[]⟩;refine aq (seqEpoch_at NH rfl (aq (wpAny_newTuple ?_ (by show vs.length<=_;omega))));refine aq (wpAny_newList ?_ (qm _));refine uh ?_;have s0:=lu.update s.heap a (Obj.mapSeq λ_=>(#[]:Array bh));have kp:∀b o,b≠a->s.heap.get? b=aj o->(((s.heap.update a (Obj.mapSeq λ_=>(#[]:Array bh))).push (uq "tuple" vs.toArray 0)).push (uq "list" #[] 0)).get? b=aj o:=λb o hb e=>cu _ (cu _ ((s0.2 b hb).trans e));have Eh:(((s.heap.update a (Obj.mapSeq λ_=>(#[]:Array bh))).push (uq "tuple" vs.toArray 0)).push (uq "list" #[] 0)).get? a=aj (uq "list" #[] e1):=cu _ (cu _ NH);show dh (dz prog w) A _ P E {s with heap:=((s.heap.update a (Obj.mapSeq λ_=>(#[]:Array bh))).push (uq "tuple" vs.toArray 0)).push (uq "list" #[] 0)};dsimp only;by_cases c2:vs.toArray.size<2
 .rw[if_pos c2,if_pos c2];refine aq (cj ?_);rw[StateT.run_pure];refine aq (cj ?_);dsimp only;have c3:vs.length<2:=by simpa using c2
  have eo:(arrOf (SortSt.mk' general' (vs.toArray.zip vs.toArray) #[] 7 au)).map (·.2)=((lg vs.length).toArray.toList.map λi=>vs.getD i bh.none).toArray:=by
   show(vs.toArray.zip vs.toArray).map (·.2)=_;exact Y1 c3
  refine aq (seqEpoch_at Eh rfl ?_);rw[eo];refine aq (listUpdate_at Eh rfl ?_ (qm _) (by simp;omega));simp only[bne_self_eq_false,kj,if_false];exact cj (h (lg vs.length).toArray ⟨by rw[gk,List.length_range],.refl _⟩ λi j fR hj=>by have:i=j:=⋯;subst this;exact wu _)
 .rw[if_neg c2,if_neg c2];have l2:2<=vs.length:=by rw[gk]at c2;omega
  let⟨κ,k1,k2⟩:=hk l2 _ kp;refine aq (ql (k1 (λMO s'=>MO=κ/\s'={s with heap:=((s.heap.update a (Obj.mapSeq λ_=>(#[]:Array bh))).push (uq "tuple" vs.toArray 0)).push (uq "list" #[] 0)}) ⟨rfl,rfl⟩) (λMO s' ⟨q1,q2⟩=>?_) λ_ _ z=>z.elim);subst q1;subst q2;refine aq (ql (aKI (s:={s with heap:=((s.heap.update a (Obj.mapSeq λ_=>(#[]:Array bh))).push (uq "tuple" vs.toArray 0)).push (uq "list" #[] 0)}) l2 FG hd k2) ?_ λ_ _ e=>e);rintro⟨⟨⟩,ae⟩ s' ⟨es,hf,q,P,u,WA⟩;subst es;dsimp only;refine aq (seqEpoch_at Eh rfl ?_);rw[kat_snds rfl WA];refine aq (listUpdate_at Eh rfl ?_ (qm _) (by rw[gk,fj,ur,P.size];omega));rw[hf];simp only[bne_self_eq_false,kj,if_false];exact cj (h q P u)
end
end
variable{ψ:List (bw×Obj)}{q:Array Nat}
section
open PySem.W
def getD_at{α:Type}{l:List α}{i:Nat}{d:α}(h:i<l.length):l.getD i d=l[i]:=by simp[zu,h]
@[simp]def c6(q:Int×Int):D:=.tup [.int q.1,.int q.2]
variable{ps:List (Int×Int)}
section
variable{X:Cx}
def pairs_at{s:dg}(I:Inv X ψ σ H s)(r:cV X.K H (ps.map c6) xs)(rv:Vals xs us):CK s.heap ps us:=by
 refine⟨by rw[←rv.length,←r.length,fj],λi p hp=>?_⟩;let⟨v,e1,rd⟩:=r.get (i:=i) (d:=c6 p) (by rw[xr,hp];rfl);let⟨u,e2,ru⟩:=rv.get e1;cases rd with
 |@tup a zs _ hq rz _ =>
  obtain rfl:u=bh.ref a:=ru;let⟨its,vi,⟨o,h1,h2,n,h3⟩,_⟩:=I.tuple hq;cases rz with
  |cons ra rb =>
  cases rb with
  |cons rb rc =>
  cases rc;cases ra;cases rb;cases vi with
  |cons va vb =>
  cases vb with
  |cons vb vc =>
  cases vc;let⟨x,rfl⟩:=va;let⟨y,rfl⟩:=vb;exact⟨a,o,n,x,y,e2,h1,h2,h3⟩
def YZ{M B:Int}(hM:2*B<M)(hB:∀p∈ps,-B<=p.2/\p.2<=B)(nd:ps.Nodup)(P:Pm ps.length q)(u:Up (λi=>enc M (ps.getD i (0,0))) q ps.length):(q.toList.map λi=>ps.getD i (0,0)).Perm ps/\jZ (q.toList.map λi=>ps.getD i (0,0)):=by
 have V5:(lg ps.length).map (λi=>ps.getD i (0,0))=ps:=by
  apply List.ext_getElem (by simp);intro i h1 h2;simp[h2]
 refine⟨by have:=P.perm.map λi=>ps.getD i (0,0);rw[V5]at this;exact this,?_⟩;unfold jZ;rw[List.pairwise_map,vf];intro i j hi hj fR;have li:i<q.size:=by simpa using hi
 have lj:j<q.size:=by simpa using hj
 have gi:q.toList[i]=q.getD i 0:=by simp[yh,li]
 have gj:q.toList[j]=q.getD j 0:=by simp[yh,lj]
 rw[gi,gj];have bi:=P.lt (i:=i) (by rw[←P.size];exact li);have bj:=P.lt (i:=j) (by rw[←P.size];exact lj);have le:enc M (ps.getD (q.getD i 0) (0,0))<=enc M (ps.getD (q.getD j 0) (0,0)):=u i j (ud fR) (by rw[←P.size];exact lj);have mi:ps.getD (q.getD i 0) (0,0)∈ps:=by rw[getD_at bi];exact Gk _
 have mj:ps.getD (q.getD j 0) (0,0)∈ps:=by rw[getD_at bj];exact Gk _
 have k1:=Cq hM (hB _ mi) (hB _ mj);have k2:=Cq hM (hB _ mj) (hB _ mi);refine k1.mp ?_;rcases Int.lt_or_eq_of_le le with z|z
 .exact z
 .exfalso
  have e:ps.getD (q.getD i 0) (0,0)=ps.getD (q.getD j 0) (0,0):=by
   have n1:¬ jn (ps.getD (q.getD i 0) (0,0)) (ps.getD (q.getD j 0) (0,0)):=λw=>absurd (k1.mpr w) ⋯;have n2:¬ jn (ps.getD (q.getD j 0) (0,0)) (ps.getD (q.getD i 0) (0,0)):=λw=>absurd (k2.mpr w) ⋯;unfold jn at n1 n2;exact Prod.ext ⋯ ⋯
  have e2:ps[q.getD i 0]=ps[q.getD j 0]:=by rw[getD_at bi,getD_at bj]at e;exact e
  have key:=vf.mp nd;rcases C2 (q.getD i 0) (q.getD j 0)with w|w|w
  .exact key _ _ bi bj w e2
  .have:=P.inj (by rw[←P.size];exact li) (by rw[←P.size];exact lj) w;omega
  .exact key _ _ bj bi w e2.symm
def QK{K:Fg}{ps:List (Int×Int)}{xs:List V}(r:cV K H (ps.map c6) xs):∀{l:List Nat},(∀i∈l,i<ps.length)->cV K H ((l.map λi=>ps.getD i (0,0)).map c6) (l.map λi=>xs.getD i .ag)
 |[],_=>.nil
 |i::l,h=>by
  let⟨v,e1,rd⟩:=r.get (i:=i) (d:=c6 (ps.getD i (0,0))) (by have:=h i (by simp);simp[zu,this]);have:xs.getD i .ag=v:=by simp[zu,e1]
  refine .cons ?_ (QK r λj hj=>h j (by simp[hj]));show RD K H (c6 (ps.getD i (0,0))) (xs.getD i .ag);rw[this];exact rd
def Ru{xs:List V}{us:List bh}(r:Vals xs us):∀{l:List Nat},(∀i∈l,i<xs.length)->Vals (l.map λi=>xs.getD i .ag) (l.map λi=>us.getD i bh.none)
 |[],_=>.nil
 |i::l,h=>by
  have hi:=h i (by simp);let⟨u,e1,ru⟩:=r.get (jj hi);have e2:xs.getD i .ag=xs[i]:=by simp[zu,hi]
  have e3:us.getD i bh.none=u:=by simp[zu,e1]
  refine .cons ?_ (Ru r λj hj=>h j (by simp[hj]));show RelV (xs.getD i .ag) (us.getD i bh.none);rw[e2,e3];exact ru
abbrev aQB(ds:List D)(G:Gp)(R:lG):Prop:=∃ps:List (Int×Int),ds=ps.map c6/\ps.Nodup/\ps.length<128/\∀qs:List (Int×Int),qs.Perm ps->jZ qs->∀r,G r=au->R (.ref r) (aF G r (.lst (qs.map c6)))
end
end
variable{h h':jw}
section
open PySem.W
abbrev nJ(h:jw)(d:bw)(es:Array kQ)(ep:Nat):Prop:=∃o,h.get? d=aj o/\o.ExactDict/\o.data=.dict es ep
section
variable{prog:jr}{w:je}{A:jd}{s:dg}{d:bw}{es:Array kQ}{ep i:Nat}
def nJ.typeIs(hm:nJ s.heap d es ep):s.TypeIs (.ref d) "dict":=let⟨o,ho,hc,_⟩:=hm;⟨o,ho,hc.1⟩
def nJ.lt(hm:nJ h d es ep):d<h.objs.size:=let⟨_,ho,_⟩:=hm;ig ho
def nJ.at(hm:nJ h d es ep)(k:∀o,h.get? d=aj o->h'.get? d=aj o):nJ h' d es ep:=let⟨o,ho,r⟩:=hm;⟨o,k o ho,r⟩
def PB(hd:(d==um)=ao)(hm:nJ s.heap d es ep)(hQ:Q (.ref s.heap.objs.size) {s with heap:=s.heap.push {cls:=.type "dict_keyiterator",data:=.fields #[.ref d,.int 0 0,.int es.size 0,.int ep 0]}}):dh (dz prog w) A (pyIter (.ref d)) Q E s:=by
 have T:=hm.typeIs;let⟨o,ho,hc,c9⟩:=hm;refine wpAny_pyIter_slot T F.slot_dict_iter (uw F.slot_dict_iter T F.entry_dict_iter ?_ (F.args_dict_iter_1 _));unfold Builtin.«dict.__iter__»;refine aq ?_;unfold Builtin.Dict.dictSlotNone;refine aq (wpAny_notOrdered_dict T ?_);show dh _ _ (pure (bh.ref d)) _ _ s;refine cj ?_;show dh _ _ (Builtin.Dict.showsAll d >>= _) _ _ s;unfold Builtin.Dict.showsAll;rw[if_neg (by rw[hd];exact oh)];refine aq (cj (aq (xu ho c9 (aq (wpAny_dictEpoch ho c9 (aq (qj (cj ⟨_,rfl,"dict_keyiterator",_,⟨_,gw _ rfl,rfl⟩,F.slot_dict_keyiterator_next.lookup,?_⟩))))))));simpa[fg]using hQ
def JI{e:kQ}(hit:s.heap.IsKeyIter it d i es.size ep)(hm:nJ s.heap d es ep)(hx:es[i]?=aj e)
  (hQ:∀h',h'.IsKeyIter it d (i+1) es.size ep->lu it s.heap h'->Q (aj e.key) {s with heap:=h' }):dh (dz prog w) A (eS (.ref it)) Q E s:=by
 let⟨o,ho,hc,hd⟩:=id hit;let⟨od,c8,fq,eD⟩:=hm;have lt:i<es.size:=(zy.mp hx).1;unfold eS;refine aq (xS (zc (name:=Str.ofString "__next__") hit.typeIs F.slot_dict_keyiterator_next (uw F.slot_dict_keyiterator_next hit.typeIs F.entry_dict_keyiterator_next ?_ (F.args_dict_keyiterator_next_1 _))));refine aq (cj ?_);refine aq ?_;refine aq ?_
 (first|refine aq (GQ hit.typeIs (cj ?_))|refine aq (GN hit.typeIs (cj ?_)));refine aq (wpAny_fieldsOf ho hd ?_)
 have own:Builtin.Dict_items.ownsTuple "dict_keyiterator"=ao:=by decide
 simp only[own,kj,if_false];show dh _ _ (if(bh.ref d==bh.none)=ak then _ else _) _ _ s;rw[if_neg (show ¬ ((bh.ref d==bh.none)=ak)from oh)];refine aq (cj (aq (xu c8 eD ?_)));rw[if_neg (by simp)];refine aq (cj (aq (wpAny_dictEpoch c8 eD ?_)));rw[if_neg (by simp)];refine cj ?_;simp only[show ¬ ((i:Int)<0)from by omega,if_false,zf,hx];refine aq ?_
 (first|refine aq (GQ hit.typeIs (cj ?_))|refine aq (GN hit.typeIs (cj ?_)));refine aq (wpAny_isOneOf_keyiter hit.typeIs ?_)
 show dh _ _ (setField (.ref it) 1 (fg ((i:Int)+1)) >>= _) _ _ s;refine aq (vm ho hd (by simp) ?_);have gu:(s.heap.update it (Obj.mapFields (·.setIfInBounds 1 (fg ((i:Int)+1))))).IsKeyIter it d (i+1) es.size ep:=⟨_,Dh _ ho (Obj.isFreed_of_fields (Obj.data_mapFields hd _)),(Obj.cls_mapFields ..).trans hc,by rw[Obj.data_mapFields hd];simp[fg]⟩;refine aq (uh (aq (wpAny_isOneOf_keyiter (s:={s with heap:=s.heap.update it (Obj.mapFields (·.setIfInBounds 1 (fg ((i:Int)+1))))}) gu.typeIs ?_)));show dh _ _ (pure e.key) _ _ _;exact cj (cj ⟨_,rfl,cj (hQ _ gu (lu.update ..))⟩)
def Jj(hh:A.handled=au)(hit:s.heap.IsKeyIter it d i es.size ep)(hm:nJ s.heap d es ep)(hx:es.size<=i)(hQ:∀h',xI it s.heap h'->Q au {s with heap:=h' }):dh (dz prog w) A (eS (.ref it)) Q E s:=by
 let⟨o,ho,hc,hd⟩:=id hit;let⟨od,c8,fq,eD⟩:=hm;unfold eS;refine aq (xS (zc (name:=Str.ofString "__next__") hit.typeIs F.slot_dict_keyiterator_next (uw F.slot_dict_keyiterator_next hit.typeIs F.entry_dict_keyiterator_next ?_ (F.args_dict_keyiterator_next_1 _))));refine aq (cj ?_);refine aq ?_;refine aq ?_
 (first|refine aq (GQ hit.typeIs (cj ?_))|refine aq (GN hit.typeIs (cj ?_)));refine aq (wpAny_fieldsOf ho hd ?_)
 have own:Builtin.Dict_items.ownsTuple "dict_keyiterator"=ao:=by decide
 simp only[own,kj,if_false];show dh _ _ (if(bh.ref d==bh.none)=ak then _ else _) _ _ s;rw[if_neg (show ¬ ((bh.ref d==bh.none)=ak)from oh)];refine aq (cj (aq (xu c8 eD ?_)));rw[if_neg (by simp)];refine aq (cj (aq (wpAny_dictEpoch c8 eD ?_)));rw[if_neg (by simp)];refine cj ?_;simp only[show ¬ ((i:Int)<0)from by omega,if_false,zf,Array.getElem?_eq_none hx];refine aq ?_
 (first|refine aq (GQ hit.typeIs (cj ?_))|refine aq (GN hit.typeIs (cj ?_)));show dh _ _ (setField (.ref it) 0 .none >>= _) _ _ s
 refine aq (vm ho hd (by simp) ?_);show dh _ _ (newExc (.type "StopIteration") [] >>= _) _ _ _;refine aq ?_;simp only[newExc,newTuple];refine aq (qj ?_ (by size_fits));refine aq (m:=firstArgMember _ _) (wpAny_of_eq (a:=Value.none) (by first|rfl|(simp only[Mc];rfl)) (qj ?_ (by size_fits)));simp only[raiseNew];refine aq (wpAny_handled ?_);rw[show A.in1.handled=au from hh];refine aq (cj (wpAny_throw ?_));refine aq (wpAny_isInstance (T:="StopIteration") (b:=true) ⟨_,gw _ rfl,rfl⟩ isSubtype_stop ?_);refine cj (hQ _ λb o' hb e=>?_);exact cu _ (cu _ (((lu.update _ _ _).2 b hb).trans e))
def XI(hh:A.handled=au)(I:bw)(lh:d≠I):Walks prog w A I [I,d] [I] es.size (λi v=>∃e,es[i]?=aj e/\v=e.key) (λi h=>h.IsKeyIter I d i es.size ep/\nJ h d es ep) where
 sub:=λb hb=>by simp at hb;simp[hb]
 frame:=λ_ _ _ st hk=>⟨st.1.at λo e=>hk I (by simp) o e,st.2.at λo e=>hk d (by simp) o e⟩
 item:=λi s Q E hi st hQ=>by
  have hx:es[i]?=aj es[i]:=Me hi;exact JI st.1 st.2 hx λh' gu oP=>hQ _ h' s.toks ⟨_,hx,rfl⟩ ⟨gu,st.2.at λo e=>oP.extBut _ o lh e⟩ λb o hb e=>oP.extBut b o (λh=>hb (by simp[h])) e
 done:=λs Q E st hQ=>Jj hh st.1 st.2 (dw _) λh' Wq=>hQ h' s.toks λb o hb e=>Wq b o (λh=>hb (by simp[h])) e
 self:=λ_ _ _ _ st hQ=>wpAny_pyIter_keyiter st.1 hQ
def aKJ(lo:(d==um)=ao):KdlSrc prog w "dict" d d es.size (λi v=>∃e,es[i]?=aj e/\v=e.key) (λh=>nJ h d es ep) where
 type:=λ_ hm=>hm.typeIs
 there:=λ_ hm=>⟨hm.lt,hm.lt⟩
 keep:=λ_ _ hm hk=>hm.at λo e=>hk d (.inl rfl) o e
 notList:=by decide
 notTuple:=by decide
 hint:=λ_ _ _ _ hm hq=>kdl_hint_dict hm.typeIs hq
 iter:=λ_ s hh hm=>⟨_,_,(λ_ _ hq=>PB lo hm hq),XI hh _ (ju hm.lt),⟨⟨_,gw _ rfl,rfl,rfl⟩,hm.at λo e=>cu _ e⟩⟩
end
end
section
open PySem.W
section
end
section
end
end
section
open PySem.W
def aDF:typeLookup (.type "list") "keys"=pure au:=by rw[typeLookup_type,builtinLookup_eq_fast];nofun
section
variable{prog:jr}{w:je}{A:jd}{s:dg}
def aDG{a:bw}{o:Obj}{k:Nat} 
  (hx:s.heap.get? a=aj o)(hc:o.cls=.type "list")(c9:o.data=.seq xs k)(hd:o.dict=au)(hA:A.handled=au)
  (h:∀h' tk,(∀b o,s.heap.get? b=aj o->h'.get? b=aj o)->Q au {s with heap:=h',toks:=tk}) :
  dh (dz prog w) A (getAttr? (.ref a) "keys") Q E s:=by
 let⟨c,rS,dat,sl⟩:=o;simp only at hc c9 hd;subst hc c9 hd;let⟨hp,g,d,tk,os⟩:=s;have hT:∀MS,(⟨hp,g,d,MS,os⟩:dg).TypeIs (.ref a) "list":=λ_=>⟨_,hx,rfl⟩;have f1:=sub_AttributeError;have f3:=F.slot_list_getattribute.lookup;have f4:=F.slot_list_getattribute.bind (.ref a);have f5:=am_list_getattr_none;unfold getAttr? getAttrBy? getAttrBy
 repeat (any_goals (first|assumption|exact hT _|((with_reducible show dh _ _ (call (bh.builtin "list.__getattribute__") _ _) _ _ _);refine call_meets F.slot_list_getattribute (hT _) am_entry_list_getattribute (F.args_list_getattribute_2 _ _) (meets_getattribute_miss_list a xs k sl "keys" _ aDF (by decide) (by decide)) ⟨hx,hA,λh' MS e Ny=>?_⟩)|wp_step))
 let⟨t',u',he⟩:=Ny.there;show dh _ _ (getattributeRaised _ _ _ _ _ _ _) _ _ _;unfold getattributeRaised
 repeat (any_goals (first|assumption|wp_step))
 exact h _ _ Ny.keeps
def QJ:entryFor table "dict.update.loop"=aj Builtin.«dict.update.loop» :=entryFor_of_fast (by nofun)
def F1:plainId "dict.update.loop"=ak:=by decide+kernel
end
end
section
open PySem.W
abbrev Tj(kvs:List (DK×D))(ps:List (List Key×D)):List (DK×D):=ps.foldl (λacc p=>eE acc (.inr p.1) p.2) kvs
section
def Lp{K:Fg}:∀(ks:List Key),cV K H (ks.map kD) (ks.map kV)
 |[]=>.nil
 |.inl i::r=>.cons (.int i) (Lp r)
 |.inr x::r=>.cons (.str x) (Lp r)
def QI{K:Fg}:∀{kvs:List (DK×D)}{ys:List (List Key×V)}{ws:List (List Key×bw×bh)},fw K H .inr kvs ys->KT H ys ws->cV K H (kvs.map λp=>nv p.1) (ws.map λx=>.ref x.2.1)
 |_,_,_,.nil,.nil=>.nil
 |p::kvs,q::ys,x::ws,.cons h r,.cons h' r'=>by
  refine .cons ?_ (QI r r');show RD K H (nv p.1) (.ref x.2.1);rw[h.1];have e:=h'.2.1;exact .tup (bz.of e) (Lp _) (AB e)
end
end
section
section
end
end
variable{r:bw}{h1:jw}{tk:Nat}
section
open PySem.W
variable{vs:List bh}
section
variable{prog:jr}{w:je}{A:jd}{s:dg}
def Pz{out:Array bh}{b:bw}(e:h.get? b=aj u):(sortedHeap (h.push (uq "list" vs.toArray 0)) h.objs.size vs out).get? b=aj u:=by
 have n0:b≠h.objs.size:=ju (ig e);unfold sortedHeap;rw[(lu.update _ _ _).2 b n0];refine cu _ (cu _ ?_);rw[(lu.update _ _ _).2 b n0];exact cu _ e
def Ov{out:Array bh}:∃c,(sortedHeap (h.push (uq "list" vs.toArray 0)) h.objs.size vs out).get? h.objs.size=aj (uq "list" out c):=by
 have oL:(h.push (uq "list" vs.toArray 0)).get? h.objs.size=aj (uq "list" vs.toArray 0):=gw _ rfl;unfold sortedHeap;obtain⟨c1,e1⟩:∃c,((h.push (uq "list" vs.toArray 0)).update h.objs.size (Obj.mapSeq λ_=>#[])).get? h.objs.size=aj (uq "list" #[] c):=⟨_,get?_update_seq oL λ_=>#[]⟩;exact⟨_,get?_update_seq (cu _ (cu _ e1)) λ_=>out⟩
def aDH{kf:Nat->Int} 
  (KQ:∀(R:List bh->dg->Prop)(E:bh->dg->Prop),(∀h' tk,(∀b o,s.heap.get? b=aj o->h'.get? b=aj o)->R vs {s with heap:=h',toks:=tk})->dh (dz prog w) A.in1 (collect (.ref r)) R E s)
  (hV:vs.length<128)(hd:∀i j,i<vs.length->j<vs.length->kf i=kf j->i=j)
  (hk:2<=vs.length->∀(s':dg)(h':jw),(∀b o,s.heap.get? b=aj o->h'.get? b=aj o)->ES prog w A.in1.in1 s' kf vs h')
  (h:∀(q:Array Nat)(h1:jw)(tk:Nat)(h':jw)(c:Nat),Pm vs.length q->Up kf q vs.length->(∀b o,s.heap.get? b=aj o->h1.get? b=aj o)->(∀b o,h1.get? b=aj o->h'.get? b=aj o)->h'.get? h1.objs.size=aj (uq "list" (q.toList.map λi=>vs.getD i bh.none).toArray c)->Q (.ref h1.objs.size) {s with heap:=h',toks:=tk}):dh (dz prog w) A (call (.builtin "sorted") [.ref r]) Q E s:=by
 have big:1000<dj:=by decide
 refine Calls.call_function_entry kind_sorted plain_sorted entry_sorted (args_sorted1 _) ?_;unfold Builtin.«sorted»;refine aq (m:=checkCount "sorted" 1 1 _) (cj (aq (KQ _ _ λh1 tk k1=>aq (wpAny_newList ?_ ⋯))));have oL:(h1.push (uq "list" vs.toArray 0)).get? h1.objs.size=aj (uq "list" vs.toArray 0):=gw _ rfl;have kp:∀b o,s.heap.get? b=aj o->(h1.push (uq "list" vs.toArray 0)).get? b=aj o:=λb o e=>cu _ (k1 b o e);refine aq (uh (uw (s:={s with heap:=h1.push (uq "list" vs.toArray 0),toks:=tk}) slot_list_sort ⟨_,oL,rfl⟩ entry_list_sort (Rv (kf:=kf) (s:={s with heap:=h1.push (uq "list" vs.toArray 0),toks:=tk}) oL hV hd (λl2 h' k'=>?_) λq P u=>⟨_,rfl,cj ⟨_,rfl,?_⟩⟩) (args_list_sort _)))
 .exact hk l2 _ h' λb o e=>k' b o (ju (ig (k1 b o e))) (kp b o e)
 .obtain⟨c,hc⟩:=Ov (h:=h1) (vs:=vs) (out:=(q.toList.map λi=>vs.getD i bh.none).toArray);exact h q h1 tk _ c P u k1 (λb o e=>Pz e) hc
end
variable{ps:List (Int×Int)}
section
variable{X:Cx}
def QH{σ:St}{H:Hp}{s:dg}(I:Inv X ψ σ H s){G:Gp}{R:lG}{Q:VK}(g:HR X.K H G){xs:List V}{us:List bh}(r:cV X.K H (ps.map c6) xs)(rv:Vals xs us)(nd:ps.Nodup)(hV:ps.length<128){M B:Int}(hM:2*B<M)(hB:∀p∈ps,-B<=p.2/\p.2<=B)
  (k:∀v H' d G',Ts H H'->RD X.K H' d v->HR X.K H' G'->R d G'->Q v H')(h:∀qs:List (Int×Int),qs.Perm ps->jZ qs->∀r,G r=au->R (.ref r) (aF G r (.lst (qs.map c6))))(P:Pm us.length q)(u:Up (λi=>enc M (ps.getD i (0,0))) q us.length){c:Nat}(k1:∀b o,s.heap.get? b=aj o->h1.get? b=aj o)(k2:∀b o,h1.get? b=aj o->h'.get? b=aj o)(ho:h'.get? h1.objs.size=aj (uq "list" (q.toList.map λi=>us.getD i bh.none).toArray c)):EP X ψ σ Q (.ref h1.objs.size) {s with heap:=h',toks:=tk}:=by
 have big:1000<dj:=by decide
 have l1:us.length=ps.length:=by rw[←rv.length,←r.length,fj]
 have l2:xs.length=ps.length:=by rw[←r.length,fj]
 rw[l1]at P u;let⟨p1,p2⟩:=YZ hM hB nd P u;have vF:∀i∈q.toList,i<ps.length:=λi hi=>yx.mp (P.perm.mem_iff.mp hi);have I1:Inv X ψ σ H {s with heap:=h1,toks:=tk}:=I.kept (t':=tk) k1;have fr:H h1.objs.size=au:=I1.af.fresh (dw _);have sn:a9 H (upd H h1.objs.size (.lst (q.toList.map λi=>xs.getD i .ag))):=c7 fr
 have J:Inv X ψ σ (upd H h1.objs.size (.lst (q.toList.map λi=>xs.getD i .ag))) {s with heap:=h',toks:=tk} :=
  I1.laid (t':=tk) (λb o e=>k2 b o e) (dw _) ⟨by rw[fj,ur,P.size];omega,_,c,Ru rv λi hi=>by rw[l2];exact vF i hi,ho⟩
 have kf:=og J;exact⟨.ref h1.objs.size,_,J,rfl,k _ _ (.ref _) _ (.same sn) (.ref _) (g.put (u:=.lst _) fr ⟨_,aL,(QK r vF).mono (.same sn)⟩) (h _ p1 p2 _ (rC g fr kf))⟩
def Py(nd:ps.Nodup){M B:Int}(hM:2*B<M)(hB:∀p∈ps,-B<=p.2/\p.2<=B):∀i j,i<ps.length->j<ps.length->enc M (ps.getD i (0,0))=enc M (ps.getD j (0,0))->i=j:=λi j hi hj e'=>by
 have mi:ps.getD i (0,0)∈ps:=by simp[zu,hi]
 have mj:ps.getD j (0,0)∈ps:=by simp[zu,hj]
 have k1:=Cq hM (hB _ mi) (hB _ mj);have k2:=Cq hM (hB _ mj) (hB _ mi)
 have ee:ps.getD i (0,0)=ps.getD j (0,0):=by
  have n1:¬ jn (ps.getD i (0,0)) (ps.getD j (0,0)):=λw=>absurd (k1.mpr w) ⋯;have n2:¬ jn (ps.getD j (0,0)) (ps.getD i (0,0)):=λw=>absurd (k2.mpr w) ⋯;unfold jn at n1 n2;exact Prod.ext ⋯ ⋯
 have e2:ps[i]=ps[j]:=by simpa[zu,hi,hj]using ee
 have key:=vf.mp nd;rcases C2 i j with w|w|w
 .exact absurd e2 (key _ _ hi hj w)
 .exact w
 .exact absurd e2.symm (key _ _ hj hi w)
def aDI{s:dg}(I:Inv X ψ σ H s){a:bw}(e:H a=aj (.dT ys)):∃(es:Array kQ)(ep:Nat)(ws:List (List Key×bw×bh)),(a==um)=ao/\nJ s.heap a es ep/\es.size<=dj/\KT H ys ws/\∀acc:Array bh,ItemsOf (λi v=>∃e,es[i]?=aj e/\v=e.key) acc es.size->acc.toList=ws.map λx=>bh.ref x.2.1:=by
 let⟨z1,hd,ws,rel,o,es,ep,ho,Wv,c9,he,oS,hn⟩:=EZ I.af e;have lw:es.size=ws.length:=size_of_entries he;have lw2:ws.length=ys.length:=(Paired.length rel).symm;refine⟨es,ep,ws,hd,⟨o,ho,Wv,c9⟩,⋯,rel,λacc l9=>?_⟩;apply List.ext_getElem?;intro i;by_cases hi:i<ws.length
 .have NP:i<acc.size:=by rw[l9.1,lw];exact hi
  let⟨en,e1,e2⟩:=l9.2 i acc[i] (Me NP);have e3:es.toList[i]?=aj en:=by rw[GI];exact e1
  rw[he,xr,jj hi]at e3;have e4:entryOfKey (qf (aG X.prog X.w)) ws[i]=en:=by simpa using e3
  rw[GI,Me NP,e2,←e4,xr,jj hi];rfl
 .rw[List.getElem?_eq_none (by rw[ur,l9.1,lw];omega),List.getElem?_eq_none (by simp;omega)]
def Rt:∀l:List (List Key×bw×bh),Vals (l.map λx=>V.ref x.2.1) (l.map λx=>bh.ref x.2.1)
 |[]=>.nil
 |_::r=>.cons rfl (Rt r)
abbrev z7:List D->Gp->lG->Prop:=λxs G R=>match xs with
 |[.ref a]=>(match G a with
  |some (.cR ak kvs)=>aQB (kvs.map λp=>nv p.1) G R
  |_=>False)
 |_=>False
private theorem aDJ(hc:X.calm=ak):j7 X (.builtin "sorted") z7:=by
 intro ψ s σ H xs vs us G R Q I rx rv g q k;unfold z7 at q;split at q
 .rename_i a;split at q
  .rename_i kvs e1;let⟨ps,ep,nd,hV,h⟩:=q;cases rx with
   |cons r1 rr =>
   cases rr;cases r1;cases rv with
   |cons rv rr =>
   cases rr;cases rv;rcases g a _ e1 with⟨z,_⟩|⟨_,ys,e,r⟩
   .cases z
   .obtain⟨es,epo,ws,gz,raw,hz,rel,eL⟩:=aDI I e;have zo:=QI r rel;rw[ep]at zo;have vi:=Rt ws;let⟨B,b0,hB⟩:=Kj ps;have hp:=pairs_at I zo vi;have hM:2*B<2*B+1:=by omega
    refine aDH (kf:=λi=>enc (2*B+1) (ps.getD i (0,0))) (vs:=ws.map λx=>bh.ref x.2.1) (λR' E' hR=>kdu_collect (aKJ gz) (I.ok.hd hc) raw hz λh' tk acc kk l9=>?_) (by rw[hp.1];exact hV) (λi j hi hj e=>?_) (λl2 s' h' kp=>Rx hM hB l2 ⟨hp.1,λi p ei=>?_⟩) λq h1 tk h' c P u k1 k2 ho=>QH I g zo vi nd hV hM hB k h P u k1 k2 ho
    .rw[eL acc l9];exact hR h' tk kk
    .rw[hp.1]at hi hj;exact Py nd hM hB i j hi hj e
    .obtain⟨a,o,n,x,y,z1,z2,z3,z4⟩:=hp.2 i p ei;exact⟨a,o,n,x,y,z1,kp _ _ z2,z3,z4⟩
  .exact q.elim
 .exact q.elim
end
end
section
open Builtin.Str
section
end
section
end
end
section
section
end
end
variable{v:bh}{l:bw}{its:Array bh}
section
open PySem.W
section
variable{prog:jr}{w:je}{A:jd}{s:dg}
abbrev AJ(xs ps:List (Key×bh)):List (Key×bh):=ps.foldl (λacc x=>stored acc x.1 x.2) xs
def JH{d:bw}(hm:h.DictOf (aG prog w) d xs)(k:∀o,h.get? d=aj o->h'.get? d=aj o):h'.DictOf (aG prog w) d xs:=by
 let⟨o,es,ep,h1,r⟩:=hm;exact⟨o,es,ep,k _ h1,r⟩
abbrev B2(prog:jr)(w:je)(I d:bw)(h:jw)(v:bh)(x:Key×bh):Prop:=∃p o n key,v=.ref p/\h.get? p=aj o/\o.cls=.type "tuple"/\o.data=.seq #[key,x.2] n/\(aG prog w).is x.1 key=ak/\p≠I/\p≠d
def B2.keep{d:bw}{x:Key×bh}(q:B2 prog w I d h v x)(k:∀b o,b≠d->b≠I->h.get? b=aj o->h'.get? b=aj o):B2 prog w I d h' v x:=by
 let⟨p,o,n,key,e,h1,h2,h3,h4,h5,h6⟩:=q;exact⟨p,o,n,key,e,k _ _ h6 h5 h1,h2,h3,h4,h5,h6⟩
variable{ps:List (Key×bh)}
def XH{d:bw}(hh:A.handled=au)(Ie:d≠I)(NL:l≠I)(cY:l≠d)(hlen:its.size=ps.length) :
  ∀(k i:Nat)(s:dg)(xs:List (Key×bh))(j:Int)(t:Tok),ps.length - i=k->i<=ps.length->s.heap.IsListIter I l i->s.heap.IsList l its->s.heap.DictOf (aG prog w) d xs->xs.length+(ps.length - i)<=dj ->
   (∀(i:Nat)(v:bh)(x:Key×bh),its[i]?=aj v->ps[i]?=aj x->B2 prog w I d s.heap v x) ->
   (∀h' tk,h'.DictOf (aG prog w) d (AJ xs (ps.drop i))->(∀b o,b≠d->b≠I->s.heap.get? b=aj o->h'.get? b=aj o)->R (.ok (.ret .none)) {s with heap:=h',toks:=tk}) ->
   kP (dz prog w) A (.builtin "dict.update.loop" ⟨[.ref d,.ref I,.int j t,.none],[]⟩) R s:=by
 intro k
 induction k with
 |zero =>
  intro i s xs j t hk hi bP hl hd hz hp hR;have vF:i=ps.length:=by omega
  refine codeAny_builtin QJ ?_;rw[jd.under_plainId F1 _];show dh _ A.in1 (eS (.ref I) >>= _) _ _ s;have W:=Walks.list (prog:=prog) (w:=w) (A:=A.in1) hh I l NL its;refine aq (W.done s _ _ (by rw[hlen,←vF];exact⟨bP,hl⟩) λh' tk kk=>?_);have iq:h'.DictOf (aG prog w) d xs:=JH hd (λo e=>kk _ _ (by simpa using Ie) e);show dh _ A.in1 (Builtin.Dict.addKeywords d [] >>= _) _ _ _;refine aq (cj (cj ?_));refine hR h' tk (by rw[vF,List.drop_length];exact iq) λb o h1 h2 e=>kk b o (by simpa using h2) e
 |succ k ih =>
  intro i s xs j t hk hi bP hl hd hz hp hR;have ip:i<ps.length:=by omega
  refine codeAny_builtin QJ ?_;rw[jd.under_plainId F1 _];show dh _ A.in1 (eS (.ref I) >>= _) _ _ s;have W:=Walks.list (prog:=prog) (w:=w) (A:=A.in1) hh I l NL its;refine aq (W.item i s _ _ ⋯ ⟨bP,hl⟩ λv h' tk hP DB kk=>?_);obtain⟨x,HQ⟩:∃x,ps[i]?=aj x:=⟨_,jj ip⟩;have k1:∀b o,b≠d->b≠I->s.heap.get? b=aj o->h'.get? b=aj o:=λb o _ h2 e=>kk b o (by simpa using h2) e;have iq:h'.DictOf (aG prog w) d xs:=JH hd (λo e=>kk _ _ (by simpa using Ie) e);let⟨p,o,n,key,rfl,q1,q2,q3,bg,_,_⟩:=(hp i v x hP HQ).keep k1;refine aq (uh (aq (wpAny_tryCatch ?_)));unfold Builtin.Dict.pairItems;refine aq (wpAny_typeOf (s:={s with heap:=h',toks:=tk}) (T:="tuple") ⟨o,q1,q2⟩ ?_);rw[if_pos (by decide)];refine aq (CU (s:={s with heap:=h',toks:=tk}) q1 q3 (cj ?_));show dh _ A.in1 (holding [key,x.2] (dictSet d key x.2)) _ _ _;refine uh (wpAny_dictSet_pairs (s:={s with heap:=h',toks:=tk}) bg iq (λh2 vS ja=>?_) ⋯);have k2:∀b o,b≠d->b≠I->s.heap.get? b=aj o->h2.get? b=aj o:=λb o h1 hI e=>(ja.2 b h1).trans (k1 b o h1 hI e);refine cj ⟨plainId_quiet F1 _,ih (i+1) _ (stored xs x.1 x.2) _ _ ⋯ ip (DB.1.at λo e=>(ja.2 I (Ne.symm Ie)).trans e) (DB.2.at λo e=>(ja.2 l cY).trans e) vS (by have:=stored_length_le xs x.1 x.2;omega) (λi v x e1 e2=>(hp i v x e1 e2).keep k2) λh3 Hi Ig k3=>?_⟩;refine hR h3 Hi ?_ λb o h1 hI e=>k3 b o h1 hI (k2 b o h1 hI e)
  have:ps.drop i=x::ps.drop (i+1):=by
   rw[List.drop_eq_getElem_cons ip];rw[jj ip]at HQ;cases HQ;rfl
  rw[this];exact Ig
abbrev FF(prog:jr)(w:je)(h:jw)(v:bh)(x:Key×bh):Prop:=∃p o n key,v=.ref p/\h.get? p=aj o/\o.cls=.type "tuple"/\o.data=.seq #[key,x.2] n/\(aG prog w).is x.1 key=ak
def FF.ok{d:bw}{x:Key×bh}(q:FF prog w h v x)(hI:h.objs.size<=I)(hd:h.objs.size<=d)(k:∀b o,h.get? b=aj o->h'.get? b=aj o):B2 prog w I d h' v x:=by
 let⟨p,o,n,key,e,h1,h2,h3,h4⟩:=q;have l1:=ig h1;exact⟨p,o,n,key,e,k _ _ h1,h2,h3,h4,ju (jf l1 hI),ju (jf l1 hd)⟩
def XG{o:Obj}{n:Nat}(hh:A.handled=au)(hl:s.heap.get? l=aj o)(hc:o.cls=.type "list")(c9:o.data=.seq its n)(Wr:o.dict=au)(hlen:its.size=ps.length)(hz:ps.length<=dj)
  (hp:∀(i:Nat)(v:bh)(x:Key×bh),its[i]?=aj v->ps[i]?=aj x->FF prog w s.heap v x)
  (h:∀h' tk,h'.DictOf (aG prog w) s.heap.objs.size (AJ [] ps)->(∀b o,s.heap.get? b=aj o->h'.get? b=aj o)->Q (.ref s.heap.objs.size) {s with heap:=h',toks:=tk}) :
  dh (dz prog w) A (call (.type "dict") [.ref l]) Q E s:=by
 refine callType_codes (Q₁:=λobj ah=>obj=.ref s.heap.objs.size/\ah={s with heap:=s.heap.push {cls:=.type "dict",data:=.dict #[]}}) F.kt_called_dict (F.kt_typeCall_dict_1 _) F.entry_dict_init (kt_code_dict_new _ ⟨rfl,rfl⟩) ?_;rintro obj ah ⟨rfl,rfl⟩;have kp:∀b o,s.heap.get? b=aj o->(s.heap.push {cls:=.type "dict",data:=.dict #[]}).get? b=aj o:=λb o e=>cu _ e;have y2:(s.heap.push {cls:=.type "dict",data:=.dict #[]}).DictOf (aG prog w) s.heap.objs.size []:=Heap.DictOf.new s.heap;have NS:l≠s.heap.objs.size:=ju (ig hl);refine⟨y2.typeIs,F.args_dict_init_2 _ _,?_⟩;unfold Builtin.«dict.__init__»;refine aq ?_;unfold Builtin.Dict.selfAndRest;refine aq (wpAny_notOrdered_dict y2.typeIs ?_);show dh _ _ (pure (s.heap.objs.size,[bh.ref l])) _ _ _;refine cj ?_;show dh _ _ (Builtin.Dict.updateFrom "dict.__init__" s.heap.objs.size (.ref l) [] .none) _ _ _;unfold Builtin.Dict.updateFrom;refine aq (wpAny_typeOf (T:="list") ⟨o,kp _ _ hl,hc⟩ ?_);rw[if_pos (by decide)];refine aq (aDG (kp _ _ hl) hc c9 Wr hh λh' tk k1=>?_);rw[if_pos (by rfl)];refine aq (yc ?_);have H0:h'.IsList l its:=⟨o,k1 _ _ (kp _ _ hl),hc,n,c9⟩;refine aq (Go (s:={s with heap:=h',toks:=tk}) H0 ?_);have k2:∀b o,s.heap.get? b=aj o->(h'.push {cls:=.type "list_iterator",data:=.fields #[.ref l,fg 0]}).get? b=aj o:=λb o e=>cu _ (k1 _ _ (kp _ _ e));have Hk:s.heap.objs.size<h'.objs.size:=ig (k1 s.heap.objs.size _ (gw _ rfl));refine cj ⟨plainId_quiet F1 _,XH (A:=A.in1) (its:=its) (ps:=ps) hh (ju Hk) (ju (ig H0.choose_spec.1)) NS hlen ps.length 0 _ [] _ _ rfl (qm _) ⟨_,gw _ rfl,rfl,rfl⟩ (H0.at λo e=>cu _ e) (JH y2 (λo e=>cu _ (k1 _ _ e))) (by simp;omega) (λi v x e1 e2=>(hp i v x e1 e2).ok (ud Hk) (dw _) k2) λh3 Hi Ig k3=>?_⟩;exact⟨rfl,h h3 Hi Ig λb o e=>k3 b o (ju (ig e)) (ju (Nat.lt_trans (ig e) Hk)) (k2 b o e)⟩
end
abbrev Ti:D->Option (Key×D)
 |.tup [y,z]=>(match IQ y with
  |some k=>aj (k,z)
  |none=>au)
 |_=>au
abbrev AW:List D->Option (List (Key×D))
 |[]=>aj []
 |d::r=>match Ti d,AW r with
  |some p,aj ps=>aj (p::ps)
  |_,_=>au
abbrev Cp(kvs:List (DK×D))(ps:List (Key×D)):List (DK×D):=ps.foldl (λacc p=>eE acc (.inl p.1) p.2) kvs
inductive Aw(K:Fg)(H:Hp):List (Key×D)->List (Key×bh)->Prop where
 |nil:Aw K H [] []
 |cons {k:Key} {vz:V} {u:bh} {d:D} {kvs:List (Key×D)} {ps:List (Key×bh)}:RD K H d vz->RelV vz u->Aw K H kvs ps->Aw K H ((k,d)::kvs) ((k,u)::ps)
def YY(ps:List (Key×bh)):∀xs,(AJ xs ps).length<=xs.length+ps.length:=by
 induction ps with
 |nil=>intro xs;simp[AJ]
 |cons p r ih =>
  intro xs;have:=ih (stored xs p.1 p.2);have:=stored_length_le xs p.1 p.2;simp only[AJ,List.foldl_cons,qy]at *;omega
def Aw.fold{K:Fg}(h:Aw K H kvs ps):∀{k0:List (DK×D)}{y0:List (Key×V)}{p0:List (Key×bh)},KV y0 p0->fw K H .inl k0 y0->∃ys,KV ys (AJ p0 ps)/\fw K H .inl (Cp k0 kvs) ys:=by
 induction h with
 |nil=>intro k0 y0 p0 a b;exact⟨y0,a,b⟩
 |@cons k vz u d kvs ps rd rv _ ih =>
  intro k0 y0 p0 a c;exact ih (KV.put a k rv) (Fs pZ rd c)
section
variable{X:Cx}
private theorem Px{ψ:List (bw×Obj)}{s:dg}(I:Inv X ψ σ H s):∀{ds:List D}{zs:List V}{its:List bh}{kvs:List (Key×D)},cV X.K H ds zs->Vals zs its->AW ds=aj kvs ->
  ∃ps,Aw X.K H kvs ps/\its.length=ps.length/\∀(i:Nat)(v:bh)(x:Key×bh),its[i]?=aj v->ps[i]?=aj x->FF X.prog X.w s.heap v x
 |_,_,_,_,.nil,.nil,e=>by cases e;exact⟨[],.nil,rfl,λi v x e=>by simp at e⟩
 |d::ds,z::zs,u::its,kvs,.cons r rs,.cons v vs,e=>by
  unfold AW at e;split at e
  .rename_i p qS e1 e2;cases e;let⟨ps,hp,hl,hq⟩:=Px I rs vs e2;unfold Ti at e1;split at e1
   .rename_i y z';split at e1
    .rename_i k e3;cases e1;cases r with
     |@tup a xs _ sq rr _ =>
     obtain rfl:u=bh.ref a:=v;cases rr with
     |cons r1 rr =>
     cases rr with
     |@cons _ vz _ _ r2 rr =>
     cases rr;have ek:=PK r1 e3;subst ek;let⟨i2,vi,⟨o,h1,h2,n,h3⟩,_⟩:=I.tuple sq;cases vi with
     |@cons _ uk _ _ va vi =>
     cases vi with
     |@cons _ uz _ _ vb vi =>
     cases vi;refine⟨(k,uz)::ps,.cons r2 vb hp,by simp[hl],λi v x e1 e2=>?_⟩;cases i with
     |zero =>
      simp at e1 e2;subst e1 e2;exact⟨a,o,n,uk,rfl,h1,h2,by simpa using h3,AU va⟩
     |succ i=>exact hq i v x (by simpa using e1) (by simpa using e2)
    .cases e1
   .cases e1
  .cases e
abbrev z8:List D->Gp->lG->Prop:=λxs G R=>match xs with
 |[.ref a]=>(match cF G a with
  |some ds=>(match AW ds with
   |some kvs=>∀r,G r=au->R (.ref r) (aF G r (.cR ao (Cp [] kvs)))
   |none=>False)
  |none=>False)
 |_=>False
private theorem aDL(hc:X.calm=ak):j7 X (.type "dict") z8:=by
 intro ψ s σ H xs vs us G R Q I rx rv g q k;unfold z8 at q;split at q
 .rename_i a;split at q
  .rename_i ds e1;split at q
   .rename_i kvs e2;cases rx with
    |cons r1 rr =>
    cases rr;cases r1;cases rv with
    |cons rv rr =>
    cases rr;cases rv;let⟨zs,hq,r⟩:=eO g e1;let⟨its,vi,⟨o,n,h1,h2,h3,h4⟩,hz⟩:=I.list hq;let⟨ps,hp,hl,Ad⟩:=Px I r vi e2;have Wd:ps.length<=dj:=by rw[←hl,←vi.length];exact hz
    refine XG (I.ok.hd hc) h1 h2 h4 h3 (by simpa using hl) Wd (λi v x e1 e2=>Ad i v x (by simpa using e1) e2) λh' tk hd kk=>?_;let⟨ys,kt,tw⟩:=hp.fold (k0:=[]) (y0:=[]) (p0:=[]) .nil .nil;have fr:H s.heap.objs.size=au:=I.af.fresh (dw _);have sn:a9 H (upd H s.heap.objs.size (.dK ys)):=c7 fr;have V7:ys.length<=dj:=by rw[KV.length kt];have:=YY ps [];simp at this;omega
    have J:Inv X ψ σ (upd H s.heap.objs.size (.dK ys)) {s with heap:=h',toks:=tk}:=I.laid (t':=tk) (o:=.dK ys) kk (dw _) ⟨V7,(by have:=I.big;simp;exact Bb this),_,kt,hd⟩;exact⟨.ref s.heap.objs.size,_,J,rfl,k _ _ (.ref _) _ (.same sn) (.ref _) (g.put (u:=.cR ao _) fr (.inl ⟨rfl,ys,aL,tw.imp λ_ _ z=>⟨z.1,z.2.mono (.same sn)⟩⟩)) (q _ (rC g fr (og J)))⟩
   .exact q.elim
  .exact q.elim
 .exact q.elim
end
end
section
open PySem.W
section
end
section
end
end
variable{apos ai:Pos}
section
open PySem.W
section
variable{prog:jr}{w:je}{A:jd}{E:bh->dg->Prop}{s:dg}
def XF{CV:List bh->jw->Prop}{Q:bh->dg->Prop}
  (KQ:∀(R:List bh->dg->Prop)(E:bh->dg->Prop),(∀vs h' tk,(∀b o,s.heap.get? b=aj o->h'.get? b=aj o)->CV vs h'->R vs {s with heap:=h',toks:=tk})->dh (dz prog w) A.in1 (collect (.ref r)) R E s)
  (hm:∀vs h1 tk,(∀b o,s.heap.get? b=aj o->h1.get? b=aj o)->CV vs h1->vs.length<128/\∃kf:Nat->Int,(∀i j,i<vs.length->j<vs.length->kf i=kf j->i=j) /\
   (2<=vs.length->∀h':jw,(∀b o,h1.get? b=aj o->h'.get? b=aj o)->ES prog w A.in1.in1 {s with toks:=tk} kf vs h') /\
   ∀(q:Array Nat)(h':jw)(c:Nat),Pm vs.length q->Up kf q vs.length->(∀b o,h1.get? b=aj o->h'.get? b=aj o)->h'.get? h1.objs.size=aj (uq "list" (q.toList.map λi=>vs.getD i bh.none).toArray c)->Q (.ref h1.objs.size) {s with heap:=h',toks:=tk}):dh (dz prog w) A (call (.builtin "sorted") [.ref r]) Q E s:=by
 have big:1000<dj:=by decide
 refine Calls.call_function_entry kind_sorted plain_sorted entry_sorted (args_sorted1 _) ?_;unfold Builtin.«sorted»;refine aq (m:=checkCount "sorted" 1 1 _) (cj (aq (KQ _ _ λvs h1 tk k1 cv=>?_)));let⟨hV,kf,hd,hk,h⟩:=hm vs h1 tk k1 cv;refine aq (wpAny_newList ?_ ⋯);have oL:(h1.push (uq "list" vs.toArray 0)).get? h1.objs.size=aj (uq "list" vs.toArray 0):=gw _ rfl;refine aq (uh (uw (s:={s with heap:=h1.push (uq "list" vs.toArray 0),toks:=tk}) slot_list_sort ⟨_,oL,rfl⟩ entry_list_sort (Rv (kf:=kf) (s:={s with heap:=h1.push (uq "list" vs.toArray 0),toks:=tk}) oL hV hd (λl2 h' k'=>?_) λq P u=>⟨_,rfl,cj ⟨_,rfl,?_⟩⟩) (args_list_sort _)))
 .exact hk l2 h' λb o e=>k' b o (ju (ig e)) (cu _ e)
 .obtain⟨c,hc⟩:=Ov (h:=h1) (vs:=vs) (out:=(q.toList.map λi=>vs.getD i bh.none).toArray);exact h q _ c P u (λb o e=>Pz e) hc
end
section
variable{X:Cx}
def Inv.grown{s:dg}{t':Nat}(I:Inv X ψ σ H s)(k:∀b u,s.heap.get? b=aj u->h'.get? b=aj u)(hs:a9 H H')(hn:∀b u,H' b=aj u->H b=aj u∨(s.heap.objs.size<=b/\j8 X.prog X.w H' h' b u)):Inv X ψ σ H' {s with heap:=h',toks:=t' }:=by
 refine I.un ⟨λb ob q _ _ _=>k b ob q,λb ob q _ _ _=>⟨ob.slots,k b ob q⟩,λb ob q n _=>?_,λb ob q _=>⟨ob,k b ob q⟩,λb xs q=>hs _ _ q,λb o u q=>hs _ _ q,λb ps q=>⟨#[],by rw[hs _ _ q];simp⟩⟩ λa o e=>?_
 .cases z:H' b with
  |none=>rfl
  |some u =>
   rcases hn b u z with w|⟨w,_⟩
   .rw[n]at w;cases w
   .exact absurd (ig q) (Nat.not_lt.mpr w)
 .rcases hn a o e with w|⟨_,w⟩
  .exact(I.af a o w).cf (λc v _ q=>k c v q) (λc q=>hs _ _ q) λc xs q=>hs _ _ q
  .exact w
variable{σ:St}
def YX{H:Hp}{s:dg}(I:Inv X ψ σ H s)(k:∀b u,s.heap.get? b=aj u->h1.get? b=aj u){as:List bw}{ys:Nat->List V}{us:Nat->List bh}(nd:as.Nodup)(hi:∀a∈as,s.heap.objs.size<=a)
  (ht:∀j a,as[j]?=aj a->Vals (ys j) (us j)/\(ys j).length<=dj/\IsTup h1 a (us j).toArray):∃H1,Inv X ψ σ H1 {s with heap:=h1,toks:=tk}/\a9 H H1/\∀j a,as[j]?=aj a->H1 a=aj (.tup (ys j)):=by
 have fr:∀a∈as,H a=au:=λa ha=>I.af.fresh (hi a ha)
 let H1:Hp:=λb=>if b∈as then aj (.tup (ys (as.idxOf b)))else H b
 have sm:a9 H H1:=λb o e=>by
  show(if b∈as then _ else _)=_;rw[if_neg]
  .exact e
  .intro z;rw[fr b z]at e;cases e
 have EE:∀j a,as[j]?=aj a->H1 a=aj (.tup (ys j)):=λj a e=>by
  let⟨hj,e2⟩:=jl.mp e;show(if a∈as then _ else _)=_;rw[if_pos (qg e),←e2,nd.idxOf_getElem]
 refine⟨H1,I.grown k sm λb u e=>?_,sm,EE⟩;by_cases z:b∈as
 .right;refine⟨hi b z,?_⟩;let⟨j,hj⟩:=List.mem_iff_getElem?.mp z;have e3:=EE j b hj;rw[e3]at e;cases e;let⟨t1,t2,t3⟩:=ht j b hj;exact⟨t2,us j,t1,t3⟩
 .left;have e':(if b∈as then aj (.tup (ys (as.idxOf b)))else H b)=aj u:=e;rw[if_neg z]at e';exact e'
abbrev sH(p:Int×Int):DK×D:=(.inl (.inl p.1),.int p.2)
def Ji{K:Fg}:∀{ps:List (Int×Int)}{ys:List (Key×V)},fw K H .inl (ps.map sH) ys->ys=ps.map λp=>(.inl p.1,.int p.2)
 |[],_,.nil=>rfl
 |p::ps,y::ys,.cons h r=>by
  let⟨k,v⟩:=y;let⟨h1,h2⟩:=h
  have e1:(Sum.inl p.1:Key)=k:=by
   have:(Sum.inl (Sum.inl p.1):DK)=.inl k:=h1;exact pZ _ _ this
  cases h2;rw[Ji r,←e1];rfl
def IG:∀{ps:List (Int×Int)}{vs:List (Key×bh)},KV (ps.map λp=>((.inl p.1:Key),V.int p.2)) vs->vs.length=ps.length/\vs.map (·.1)=ps.map (λp=>(.inl p.1:Key))/\∀(j:Nat)(p:Int×Int),ps[j]?=aj p->∃t,vs[j]?=aj (.inl p.1,bh.int p.2 t)
 |[],_,.nil=>⟨rfl,rfl,λj p e=>by simp at e⟩
 |p::ps,v::vs,.cons h r=>by
  let⟨a1,a2,a3⟩:=IG r;let⟨k,u⟩:=v;let⟨h1,t,h2⟩:=h;cases h1;cases h2;refine⟨by simp[a1],by simp[a2],λj q e=>?_⟩;cases j with
  |zero=>simp at e;subst e;exact⟨t,rfl⟩
  |succ j=>exact a3 j q (by simpa using e)
def QG{K:Fg}:∀{ps:List (Int×Int)}{as:List bw},as.length=ps.length->(∀(j:Nat)(a:bw)(p:Int×Int),as[j]?=aj a->ps[j]?=aj p->H a=aj (.tup [.int p.1,.int p.2]))->cV K H (ps.map c6) (as.map V.ref)
 |[],[],_,_=>.nil
 |p::ps,a::as,hl,h=>by
  have e:=h 0 a p rfl rfl;exact .cons (.tup (.inl (.of e)) (.cons (.int _) (.cons (.int _) .nil)) (AB e)) (QG (by simpa using hl) λj b q e1 e2=>h (j+1) b q (by simpa using e1) (by simpa using e2))
def Pw:∀as:List bw,Vals (as.map V.ref) (as.map bh.ref)
 |[]=>.nil
 |_::r=>.cons rfl (Pw r)
def J'{H:Hp}{s:dg}{G:Gp}{R:lG}{Q:VK}(hc:X.calm=ak)(I:Inv X ψ σ H s)(g:HR X.K H G){a:bw}{ps:List (Int×Int)}(e:G a=aj (.cR ao (ps.map sH)))(hV:ps.length<128)(hv:s.heap.IsItemsView r a)
  (h:∀qs:List (Int×Int),qs.Perm ps->jZ qs->∀r,G r=au->R (.ref r) (aF G r (.lst (qs.map c6))))(k:∀v H' d G',Ts H H'->RD X.K H' d v->HR X.K H' G'->R d G'->Q v H'):dh (dz X.prog X.w) X.A (call (.builtin "sorted") [.ref r]) (EP X ψ σ Q) X.xe s:=by
 have big:1000<dj:=by decide
 rcases g a _ e with⟨_,ys,e1,tw⟩|⟨z,_⟩
 .have ey:=Ji tw;subst ey;let⟨z1,gz,vs,kv,hd⟩:=Cm I.af e1;let⟨l1,l2,l3⟩:=IG kv;let⟨o,es,ep,q1,q2,q3,q4,q5,q6⟩:=hd;have Ad:s.heap.DictAt (aG X.prog X.w) a vs ep:=⟨o,es,q1,q2,q3,q4,q5,q6⟩;have nk:(ps.map λp=>(.inl p.1:Key)).Nodup:=by rw[←l2];exact q6
  have nd:ps.Nodup:=(List.pairwise_map.mp nk).imp λh z=>h (by rw[z]);refine XF (CV:=λus h'=>∃as:List bw,us=as.map bh.ref/\as.length=ps.length/\KdxG (aG X.prog X.w) vs s.heap.objs.size h' as) (λR' E' hR=>kdx_collect (I.ok.hd hc) hv Ad ⋯ λh' tk as kk hl hG=>hR _ h' tk kk ⟨as,rfl,hl.trans l1,hG⟩) λus h1 tk k1 cv=>?_;let⟨as,rfl,hl,hG⟩:=cv
  have ex:∀j:Nat,∃uu:List bh,∀b,as[j]?=aj b->Vals [V.int (ps.getD j (0,0)).1,V.int (ps.getD j (0,0)).2] uu/\IsTup h1 b uu.toArray:=λj=>by
   cases ea:as[j]? with
   |none=>exact⟨[],λb z=>by cases z⟩
   |some b =>
    let⟨key,kk,x,p1,p2,p3⟩:=hG.pairs j b ea;have hj:j<ps.length:=by rw[←hl];exact(jl.mp ea).1
    let⟨t,p4⟩:=l3 j ps[j] (jj hj);rw[p4]at p1;cases p1;have gd:ps.getD j (0,0)=ps[j]:=getD_at hj;refine⟨[key,bh.int ps[j].2 t],λb' z=>?_⟩;cases z;rw[gd];refine⟨.cons ?_ (.cons ⟨t,rfl⟩ .nil),⟨_,p3,rfl,_,rfl⟩⟩;rcases cZ (show sM (Sum.inl ps[j].1) key=ak from p2)with⟨i,t',e1,e2⟩|⟨i,t',e1,e2⟩
    .cases e1;exact⟨t',e2⟩
    .cases e1
  let⟨us,NA⟩:=Classical.axiomOfChoice ex;let⟨H1,I1,sm,EE⟩:=YX (tk:=tk) I k1 (as:=as) (ys:=λj=>[V.int (ps.getD j (0,0)).1,V.int (ps.getD j (0,0)).2]) (us:=us) (hG.rise.imp ju) (λb hb=>ud (hG.above b hb)) λj b e=>⟨(NA j b e).1,by show 2<=dj;omega,(NA j b e).2⟩
  have zo:cV X.K H1 (ps.map c6) (as.map V.ref):=QG hl λj b p e1 e2=>by
   have z:=EE j b e1;let⟨hj,e3⟩:=jl.mp e2;rw[getD_at hj,e3]at z;exact z
  have vi:=Pw as;let⟨B,b0,hB⟩:=Kj ps;have hp:=pairs_at I1 zo vi;have hM:2*B<2*B+1:=by omega
  have g1:HR X.K H1 G:=g.same sm;refine⟨by rw[hp.1];exact hV,λi=>enc (2*B+1) (ps.getD i (0,0)),λi j hi hj e=>?_,λl2 h' kp=>Rx hM hB l2 ⟨hp.1,λi p ei=>?_⟩,λq h' c P u k2 ho=>?_⟩
  .rw[hp.1]at hi hj;exact Py nd hM hB i j hi hj e
  .obtain⟨a,o,n,x,y,z1,z2,z3,z4⟩:=hp.2 i p ei;exact⟨a,o,n,x,y,z1,kp _ _ z2,z3,z4⟩
  .exact QH (s:={s with heap:=h1,toks:=tk}) (h1:=h1) (tk:=tk) I1 g1 zo vi nd hV hM hB (λv H' d G' t=>k v H' d G' ((Ts.same sm).trans t)) h P u (λ_ _ z=>z) k2 ho
 .cases z
abbrev z9(x:D)(G:Gp)(R:lG):Prop:=match x with
 |.ref a=>(match G a with
  |some (.cR ao kvs)=>∃ps:List (Int×Int),kvs=ps.map sH/\ps.length<128/\∀qs:List (Int×Int),qs.Perm ps->jZ qs->∀r,G r=au->R (.ref r) (aF G r (.lst (qs.map c6)))
  |_=>False)
 |_=>False
private theorem D'{x:D}(h:z9 x G R):∃a,∃ps:List (Int×Int),x=.ref a/\G a=aj (.cR ao (ps.map sH))/\ps.length<128/\∀qs:List (Int×Int),qs.Perm ps->jZ qs->∀r,G r=au->R (.ref r) (aF G r (.lst (qs.map c6))):=by
 unfold z9 at h;split at h
 .split at h
  .rename_i e;let⟨ps,rfl,h1,h2⟩:=h;exact⟨_,ps,rfl,e,h1,h2⟩
  .exact h.elim
 .exact h.elim
abbrev Fp(to:bN):bN:=λρ G R=>to ρ G λx G1=>z9 x G1 R
def Pu{K:Fg}{a:bw}(g:HR K H G)(e:G a=aj (.cR ao kvs)):lS H a:=by
 rcases g a _ e with⟨_,ys,e1,_⟩|⟨z,_⟩
 .exact .inl ⟨ys,.of e1⟩
 .cases z
def aDM{o:gV}{x:Str}{pos:Pos}(hc:X.calm=ak)(ho:cQ X o to)(hg:Gl X x)(hm:X.mg x=au)(hv:mz x=aj (.builtin "sorted"))(hn:x≠"__name__")(hU:(x==("__debug__":Str))=ao)
  (a8:su o "items" X.env (eval o X.env)=eval o X.env)(aT:(apos.endLine==ai.line)=ak) :
  cQ X (.Call (.Name x p) [.Call (.Attribute o "items" apos) [] [] ai] [] pos) (Fp to):=by
 intro ψ s σ H Q I h;let⟨ρ,G,R,sr,g,q,kk⟩:=h;refine yq (xw I hg hm hv ?_ hn hU);refine PyProof.Rows.callWith_builtin1 (Calls.spliced_cons ?_);refine GK a8 aT (dZ (ho ψ s σ H (λvx H1=>Ts H H1/\∃x G1,RD X.K H1 x vx/\HR X.K H1 G1/\z9 x G1 R) I ⟨ρ,G,_,sr,g,q,λv H1 x G1 t1 r1 g1 q1=>⟨t1,x,G1,r1,g1,q1⟩⟩) ?_);rintro v s1 ⟨vx,H1,I1,r1,t1,x1,G1,rx,g1,q1⟩;let⟨a,ps,rfl,e1,hV,hq⟩:=D' q1;cases rx;obtain rfl:v=bh.ref a:=r1;let⟨h1,h2,h3⟩:=CD I1 (Pu g1 e1);refine⟨"dict","dict.items",PySem.F.plainAttrs_dict,PySem.F.slot_dict_items,PySem.F.type_dict_items,h1,h2,Calls.callWith_builtin rfl (PySem.evalArgs_none ?_)⟩;rcases g1 a _ e1 with⟨_,ys,e2,tw⟩|⟨z,_⟩
 .obtain⟨z1,gz,vs,kv,hd⟩:=Cm I1.af e2;refine call_meetsIn PySem.F.slot_dict_items h1 PySem.F.entry_dict_items (PySem.F.args_dict_items_1 _) (meets_dict_items (aG X.prog X.w) a gz) ⟨⟨vs,hd⟩,?_⟩;refine Calls.spliced_nil ?_;have I2:Inv X ψ σ H1 {s1 with heap:=s1.heap.push {cls:=.type "dict_items",data:=.fields #[.ref a]},toks:=s1.toks}:=I1.kept λb o e=>cu _ e;exact J' (s:={s1 with heap:=s1.heap.push {cls:=.type "dict_items",data:=.fields #[.ref a]}}) hc I2 g1 e1 hV ⟨_,gw _ rfl,rfl,rfl⟩ hq λv H' d G' t=>kk v H' d G' (t1.trans t)
 .cases z
def QF:∀l:List Int,preSum (λi=>l.getD i 0) l.length=l.sum
 |[]=>rfl
 |x::l=>by
  rw[qy,kdu_shift,List.sum_cons,←QF l];rfl
abbrev sT(x:D)(G:Gp)(R:lG):Prop:=match x with
 |.ref a=>(match G a with
  |some (.cR ao kvs)=>∃ps:List (Int×Int),kvs=ps.map sH/\R (.int (ps.map (·.2)).sum) G
  |_=>False)
 |_=>False
private theorem YW{x:D}(h:sT x G R):∃a,∃ps:List (Int×Int),x=.ref a/\G a=aj (.cR ao (ps.map sH))/\R (.int (ps.map (·.2)).sum) G:=by
 unfold sT at h;split at h
 .split at h
  .rename_i e;let⟨ps,rfl,h1⟩:=h;exact⟨_,ps,rfl,e,h1⟩
  .exact h.elim
 .exact h.elim
abbrev E6(to:bN):bN:=λρ G R=>to ρ G λx G1=>sT x G1 R
def aKL{o:gV}{x:Str}{pos:Pos}(hc:X.calm=ak)(ho:cQ X o to)(hg:Gl X x)(hm:X.mg x=au)(hv:mz x=aj (.builtin "sum"))(hn:x≠"__name__")(hU:(x==("__debug__":Str))=ao)
  (a8:su o "values" X.env (eval o X.env)=eval o X.env)(aT:(apos.endLine==ai.line)=ak) :
  cQ X (.Call (.Name x p) [.Call (.Attribute o "values" apos) [] [] ai] [] pos) (E6 to):=by
 intro ψ s σ H Q I h;let⟨ρ,G,R,sr,g,q,kk⟩:=h;refine yq (xw I hg hm hv ?_ hn hU);refine PyProof.Rows.callWith_builtin1 (Calls.spliced_cons ?_);refine GK a8 aT (dZ (ho ψ s σ H (λvx H1=>Ts H H1/\∃x G1,RD X.K H1 x vx/\HR X.K H1 G1/\sT x G1 R) I ⟨ρ,G,_,sr,g,q,λv H1 x G1 t1 r1 g1 q1=>⟨t1,x,G1,r1,g1,q1⟩⟩) ?_);rintro v s1 ⟨vx,H1,I1,r1,t1,x1,G1,rx,g1,q1⟩;let⟨a,ps,rfl,e1,hq⟩:=YW q1;cases rx;obtain rfl:v=bh.ref a:=r1;let⟨h1,h2,h3⟩:=CD I1 (Pu g1 e1);refine⟨"dict","dict.values",PySem.F.plainAttrs_dict,PySem.F.slot_dict_values,PySem.F.type_dict_values,h1,h2,Calls.callWith_builtin rfl (PySem.evalArgs_none ?_)⟩;rcases g1 a _ e1 with⟨_,ys,e2,tw⟩|⟨z,_⟩
 .have ey:=Ji tw;subst ey;let⟨z1,gz,vs,kv,hd⟩:=Cm I1.af e2;let⟨l1,l2,l3⟩:=IG kv;refine call_meetsIn PySem.F.slot_dict_values h1 PySem.F.entry_dict_values (PySem.F.args_dict_values_1 _) (meets_dict_values (aG X.prog X.w) a gz) ⟨⟨vs,hd⟩,?_⟩;refine Calls.spliced_nil ?_;let⟨o,es,ep,q1,q2,q3,q4,q5,q6⟩:=hd
  let oV:Obj:={cls:=.type "dict_values",data:=.fields #[.ref a]}
  have Ad:(s1.heap.push oV).DictAt (aG X.prog X.w) a vs ep:=⟨o,es,cu _ q1,q2,q3,q4,q5,q6⟩;have Nz:(s1.heap.push oV).IsValuesView s1.heap.objs.size a:=⟨_,gw _ rfl,rfl,rfl⟩;refine call_sum_walkAnyS ?_;have KS:=kdl_values (prog:=X.prog) (w:=X.w) (knd:=aG X.prog X.w) (r:=s1.heap.objs.size) (d:=a) (kvs:=vs) (ep:=ep);let⟨oI,St,hit,W,st⟩:=KS.iter X.A.in1 {s1 with heap:=s1.heap.push oV} (I1.ok.hd hc) ⟨Nz,Ad⟩;refine hit _ _ ⟨(s1.heap.push oV).objs.size,_,_,_,vs.length,_,_,(λi=>(ps.map (·.2)).getD i 0),rfl,W.toS,st,λb hb=>?_,?_,λs' t' hm=>?_⟩
  .show b<((s1.heap.push oV).push oI).objs.size;rw[size_push'];rcases nu.mp hb with e|hb
   .rw[e];exact Nat.lt_succ_self _
   .rw[qb.mp hb];exact Nat.lt_succ_of_lt (KS.there _ ⟨Nz,Ad⟩).2
  .intro i v hP;let⟨k,hk⟩:=hP;have hi:i<ps.length:=by rw[←l1];exact(jl.mp hk).1
   let⟨t,p4⟩:=l3 i ps[i] (jj hi);rw[p4]at hk;cases hk;refine⟨t,?_⟩;have:(ps.map (·.2)).getD i 0=ps[i].2:=by simp[zu,hi]
   show bh.int ps[i].2 t=bh.int ((ps.map (·.2)).getD i 0) t;rw[this]
  .have hk:∀b o,s1.heap.get? b=aj o->s'.heap.get? b=aj o:=λb o e =>
    hm.heap b o (λhI=>absurd (ig e) (by have z:=qb.mp hI;rw[z];show ¬ (s1.heap.push oV).objs.size<_;rw[size_push'];exact Nat.not_lt.mpr (Nat.le_succ _))) (cu _ (cu _ e))
   rw[Moved.eq_with hm];have e5:vs.length=(ps.map (·.2)).length:=by rw[fj,l1]
   rw[e5,QF];exact⟨.int _,H1,I1.kept hk,⟨t',rfl⟩,kk _ H1 _ G1 t1 (.int _) g1 hq⟩
 .cases z
end
end
section
open PySem.W
section
section
variable{κ:Type}[DecidableEq κ]
end
end
abbrev eQ(z:List Key×bw):DK×D:=(.inr z.1,.ref z.2)
def XE{M:List (List Key×bw)}{k:List Key}(h:aV M k=aj y):(k,y)∈M:=by
 induction M with
 |nil=>cases h
 |cons z M ih =>
  unfold aV at h;by_cases c:z.1=k
  .rw[if_pos c]at h;cases h;rw[←c];exact yj ..
  .rw[if_neg c]at h;exact nj _ (ih h)
section
end
end
section
open PySem.W
section
end
end
variable{es en:Array kQ}{ep:Nat}{cm al:Bool}{SJ:Hp->Src->It->Prop}
section
open PySem.W
structure Fz(X:Cx)(p:bw):Prop where
 free:∀ob,X.av.heap.get? p=aj ob->X.az p=au->p∈X.ex
 tup:∀xs,X.az p≠aj (.tup xs)
 jX:∀o w,X.az p≠aj (.jX o w)
 ij:∀ps,X.az p≠aj (.ij ps)
section
variable{ψ:List (bw×Obj)}
def Fz.of(I:Inv X ψ σ H s)(hu:H p=aj u)(h1:∀xs,u≠.tup xs)(h2:∀ob w,u≠.jX ob w)(h3:∀ps,u≠.ij ps):Fz X p:=by
 refine⟨λob q n=>?_,λxs q=>?_,λo w q=>?_,λps q=>?_⟩
 .apply Classical.byContradiction;intro hx;have:=I.base.free p ob q n hx;rw[hu]at this;cases this
 .have:=I.base.aI p xs q;rw[hu]at this;exact h1 xs (jk.inj this)
 .have:=I.base.pB p o w q;rw[hu]at this;exact h2 o w (jk.inj this)
 .obtain⟨more,this⟩:=I.base.fT p ps q;rw[hu]at this;exact h3 _ (jk.inj this)
end
section
variable{X:Cx}{ψ:List (bw×Obj)}{s:dg}
def Inv.freeze(I:Inv X ψ σ H s){a:bw}{o:Obj}(hu:H a=aj u)(h1:∀xs,u≠.tup xs)(h2:∀ob w,u≠.jX ob w)(h3:∀ps,u≠.ij ps)(h4:∀x,u≠.own x)(ho:s.heap.get? a=aj o):Inv X ψ σ (upd H a (.jX o u)) s:=by
 have ne:∀{b:bw}{v:HO},H b=aj v->v≠u->b≠a:=λe n z=>by subst z;rw[hu]at e;exact n (jk.inj e).symm
 have no:∀{b:bw},H b=au->upd H a (.jX o u) b=au:=λ{b} e=>by
  rw[aY];exact e;intro z;subst z;rw[hu]at e;cases e
 have kt:∀b xs,H b=aj (.tup xs)->upd H a (.jX o u) b=aj (.tup xs):=λb xs q=>by rw[aY (ne q λz=>h1 xs z.symm)];exact q
 have kf:∀b ob w,H b=aj (.jX ob w)->upd H a (.jX o u) b=aj (.jX ob w):=λb ob w q=>by rw[aY (ne q λz=>h2 ob w z.symm)];exact q
 have ko:∀b x,H b=aj (.own x)->upd H a (.jX o u) b=aj (.own x):=λb x q=>by rw[aY (ne q λz=>h4 x z.symm)];exact q
 refine⟨I.ok,I.os,I.bare,⟨I.base.keep,I.base.slot,λb ob q n hx=>no (I.base.free b ob q n hx),I.base.there,λb xs q=>kt b xs (I.base.aI b xs q),λb ob w q=>kf b ob w (I.base.pB b ob w q),λb ps q=>?_⟩,I.loc,I.cell,no I.free,λx c e=>no (I.rR x c e),λp hp=>?_,λb v e=>?_,I.len,I.dC.mono kf,λp hp=>kt _ _ (I.tup p hp)⟩
 .obtain⟨more,e⟩:=I.base.fT b ps q;exact⟨more,by rw[aY (ne e λz=>h3 _ z.symm)];exact e⟩
 .obtain⟨z1,z2,z3⟩:=I.pin p hp;exact⟨z1,no z2,z3⟩
 .by_cases hb:b=a
  .subst hb;rw[aL]at e;obtain rfl:=jk.inj e;exact⟨ho,(I.af b u hu).cf (λ_ _ _ q=>q) (λc q=>ko c _ q) λc xs q=>kt c xs q⟩
  .rw[aY hb]at e;exact(I.af b v e).cf (λ_ _ _ q=>q) (λc q=>ko c _ q) λc xs q=>kt c xs q
def aKM(r:KV ys vs):∀{i:Nat}{k:Key}{y:V},ys[i]?=aj (k,y)->∃u,vs[i]?=aj (k,u)/\RelV y u:=by
 induction r with
 |nil=>intro i k y e;simp at e
 |@cons p q _ _ h _ ih =>
  intro i k y e;cases i with
  |zero =>
   simp only[Di,jk.injEq]at e;subst e;let⟨q1,q2⟩:=q;let⟨h1,h2⟩:=h;exact⟨q2,by simp only[Di];rw[show q1=k from h1.symm],h2⟩
  |succ i=>simpa using ih (by simpa using e)
def aDN{k:Key}{key:bh}(h:sM k key=ak):RelV (kV k) key:=by
 rcases cZ h with⟨i,t,e1,e2⟩|⟨i,t,e1,e2⟩
 .subst e1;exact⟨t,e2⟩
 .subst e1;exact⟨t,e2⟩
def XD{a:bw}{od:Obj}(I:Inv X ψ σ H s)(hd:od.data=.dict es ep)(hq:H a=aj (.jX od (.dK ys))) :
  ∃vs,KV ys vs/\s.heap.DictAt (aG X.prog X.w) a vs ep/\vs.length=es.size/\(a==um)=ao:=by
 let⟨c8,_⟩:=(show s.heap.get? a=aj od/\_ from I.af a _ hq);let⟨_,gz,vs,kv,o1,N3,N4,g1,g2,g3,g4,g5,g6⟩:=sF I.af (.inr ⟨od,hq⟩);rw[c8]at g1;obtain rfl:=jk.inj g1;rw[hd]at g3;injection g3 with e1 e2;subst e1 e2;exact⟨vs,kv,⟨od,es,c8,g2,hd,g4,g5,g6⟩,by rw[←g5.length];simp,gz⟩
end
def Ou{K:Fg}:∀k:Key,RD K H (kD k) (kV k)
 |.inl i=>.int i
 |.inr x=>.str x
def QE{K:Fg}:∀ks:List Key,cV K H (ks.map kD) (ks.map kV)
 |[]=>.nil
 |k::ks=>.cons (Ou k) (QE ks)
def JG{α β:Type}{P:α->β->Prop}{as:List α}{bs:List β}(t:b9 P as bs):∀{i:Nat}{b:β},bs[i]?=aj b->∃a,as[i]?=aj a/\P a b:=by
 induction t with
 |nil=>intro i b e;simp at e
 |@cons a b _ _ h _ ih =>
  intro i c e;cases i with
  |zero=>simp only[Di,jk.injEq]at e;subst e;exact⟨a,rfl,h⟩
  |succ i=>simpa using ih (by simpa using e)
section
end
abbrev Vl(a:bw)(od:Obj):It :=
 ⟨λi H=>∃ys:List (Key×V),H a=aj (.jX od (.dK ys))/\i<ys.length,
  λi H v H'=>H'=H/\∀ys,H a=aj (.jX od (.dK ys))->∃k y,ys[i]?=aj (k,y)/\v=kV k,
  λi H=>∃ys:List (Key×V),H a=aj (.jX od (.dK ys))/\ys.length<=i⟩
abbrev Vk(a:bw)(od:Obj):It :=
 ⟨λi H=>∃ys:List (List Key×V),H a=aj (.jX od (.dT ys))/\i<ys.length,
  λi H v H'=>H'=H/\∀ys,H a=aj (.jX od (.dT ys))->∃ks y q,ys[i]?=aj (ks,y)/\v=.ref q/\H q=aj (.tup (ks.map kV)),
  λi H=>∃ys:List (List Key×V),H a=aj (.jX od (.dT ys))/\ys.length<=i⟩
section
variable{ψ:List (bw×Obj)}{s:dg}
variable{od:Obj}
def QD{a:bw}{ys:List (Key×V)}(I:Inv X ψ σ H s)(hd:od.data=.dict es ep)(hq:H a=aj (.jX od (.dK ys))) :
  nJ s.heap a es ep/\es.size=ys.length/\∀(i:Nat)(k:Key)(y:V),ys[i]?=aj (k,y)->∃e:kQ,es[i]?=aj e/\RelV (kV k) e.key:=by
 let⟨vs,kv,hm,hn,_⟩:=XD I hd hq;let⟨Bz,Ez,h1,h2,h3,h4,h5,h6⟩:=hm;let⟨c8,_⟩:=(show s.heap.get? a=aj od/\_ from I.af a _ hq);rw[c8]at h1;obtain rfl:=jk.inj h1;rw[hd]at h3;injection h3 with e1 e2;subst e1;refine⟨⟨od,c8,h2,hd⟩,by rw[←hn];exact(Paired.length kv).symm,λi k y e=>?_⟩;let⟨u,hu,_⟩:=aKM kv e;have lt:i<es.size:=by rw[←hn];exact(jl.mp hu).1
 let⟨bg,_⟩:=h5.get? (e:=es[i]) (by simp[lt]) hu;exact⟨es[i],by simp[lt],aDN bg⟩
def aKN(r:KT H ys xs):∀{i:Nat}{ks:List Key}{y:V},ys[i]?=aj (ks,y)->∃q u,xs[i]?=aj (ks,q,u)/\H q=aj (.tup (ks.map kV)):=by
 induction r with
 |nil=>intro i k y e;simp at e
 |@cons p q _ _ h _ ih =>
  intro i ks y e;cases i with
  |zero =>
   simp only[Di,jk.injEq]at e;subst e;let⟨q1,q2,q3⟩:=q;let⟨h1,h2,h3⟩:=h;obtain rfl:ks=q1:=h1;exact⟨q2,q3,rfl,h2⟩
  |succ i=>simpa using ih (by simpa using e)
def Rr{a:bw}{ys:List (List Key×V)}(I:Inv X ψ σ H s)(hd:od.data=.dict es ep)(hq:H a=aj (.jX od (.dT ys))) :
  nJ s.heap a es ep/\es.size=ys.length/\∀(i:Nat)(ks:List Key)(y:V),ys[i]?=aj (ks,y)->∃(e:kQ)(q:bw),es[i]?=aj e/\e.key=bh.ref q/\H q=aj (.tup (ks.map kV)):=by
 let⟨c8,_⟩:=(show s.heap.get? a=aj od/\_ from I.af a _ hq);let⟨_,gz,xs,kt,o1,N3,N4,g1,g2,g3,g4,g5⟩:=sD I.af (.inr ⟨od,hq⟩);rw[c8]at g1;obtain rfl:=jk.inj g1;rw[hd]at g3;injection g3 with e1 e2;subst e1;have hl:es.size=xs.length:=by rw[←ur,g4,fj]
 refine⟨⟨od,c8,g2,hd⟩,by rw[hl];exact(Paired.length kt).symm,λi ks y e=>?_⟩;let⟨q,u,hx,hh⟩:=aKN kt e;refine⟨entryOfKey (qf (aG X.prog X.w)) (ks,q,u),q,?_,rfl,hh⟩;rw[←GI,g4,xr,hx];rfl
end
def YV(KP:cm=ak){w:je}{K:Fg}{a:bw}{od:Obj}(hd:od.data=.dict en ep) :
  Turn cm tl P w K tg (Vl a od) [it] it (λi h=>h.IsKeyIter it a i en.size ep) where
 mem:=by simp
 obj:=λi h st b hb=>by
  have e:b=it:=by simpa using hb
  subst e;let⟨o,e,c,d⟩:=st;exact⟨o,e,λv z=>by rw[d]at z;cases z⟩
 keep:=λi h h' st k=>st.at λo e=>k it (by simp) o e
 item:=by
  intro X hP hw hK eI ht i ψ s σ H E I hf st hg;subst hP hw hK;let⟨ys,hq,hi⟩:=hg;let⟨hm,hn,hk⟩:=QD I hd hq;have hx:ys[i]?=aj (ys[i].1,ys[i].2):=jj hi;let⟨e,he,rk⟩:=hk i _ _ hx;let⟨f0,f1,f2,f3,f4,f5⟩:=hf it (by simp);refine JI st hm he λh' ae sb=>?_;have I1:Inv X ψ σ H {s with heap:=h' }:=I.turned (t':=s.toks) (λb o hb e=>(sb.2 b hb).trans e) f0 f1 f3 f4 f5;let⟨o,e,c,d⟩:=id ae;exact⟨_,rfl,sL (s:={s with heap:=h' }) e c d (by decide) ⟨kV ys[i].1,H,I1,rk,⟨rfl,λzs z=>by rw[hq]at z;cases z;exact⟨_,_,hx,rfl⟩⟩,ae,λb hb=>(hf b hb).1⟩⟩
 done:=by
  intro X hP hw hK eI ht i ψ s σ H E I hf st hg;subst hP hw hK;let⟨ys,hq,hi⟩:=hg;let⟨hm,hn,hk⟩:=QD I hd hq;let⟨f0,f1,f2,f3,f4,f5⟩:=hf it (by simp);exact Jj (I.ok.hd (eI KP)) st hm ⋯ λh' eb=>⟨rfl,I.turned (t':=s.toks) (λb o hb e=>eb b o hb e) f0 f1 f3 f4 f5⟩
 self:=λ_ _ _ _ _ st h=>wpAny_pyIter_keyiter st h
def B'(KP:cm=ak){w:je}{K:Fg}{a:bw}{od:Obj}(hd:od.data=.dict en ep) :
  Turn cm tl P w K tg (Vk a od) [it] it (λi h=>h.IsKeyIter it a i en.size ep) where
 mem:=by simp
 obj:=λi h st b hb=>by
  have e:b=it:=by simpa using hb
  subst e;let⟨o,e,c,d⟩:=st;exact⟨o,e,λv z=>by rw[d]at z;cases z⟩
 keep:=λi h h' st k=>st.at λo e=>k it (by simp) o e
 item:=by
  intro X hP hw hK eI ht i ψ s σ H E I hf st hg;subst hP hw hK;let⟨ys,hq,hi⟩:=hg;let⟨hm,hn,hk⟩:=Rr I hd hq;have hx:ys[i]?=aj (ys[i].1,ys[i].2):=jj hi;let⟨e,q,he,ek,hh⟩:=hk i _ _ hx;let⟨f0,f1,f2,f3,f4,f5⟩:=hf it (by simp);refine JI st hm he λh' ae sb=>?_;have I1:Inv X ψ σ H {s with heap:=h' }:=I.turned (t':=s.toks) (λb o hb e=>(sb.2 b hb).trans e) f0 f1 f3 f4 f5;let⟨o,e',c,d⟩:=id ae;exact⟨_,rfl,sL (s:={s with heap:=h' }) e' c d (by decide) ⟨.ref q,H,I1,ek,⟨rfl,λzs z=>by rw[hq]at z;cases z;exact⟨_,_,q,hx,rfl,hh⟩⟩,ae,λb hb=>(hf b hb).1⟩⟩
 done:=by
  intro X hP hw hK eI ht i ψ s σ H E I hf st hg;subst hP hw hK;let⟨ys,hq,hi⟩:=hg;let⟨hm,hn,hk⟩:=Rr I hd hq;let⟨f0,f1,f2,f3,f4,f5⟩:=hf it (by simp);exact Jj (I.ok.hd (eI KP)) st hm ⋯ λh' eb=>⟨rfl,I.turned (t':=s.toks) (λb o hb e=>eb b o hb e) f0 f1 f3 f4 f5⟩
 self:=λ_ _ _ _ _ st h=>wpAny_pyIter_keyiter st h
abbrev Bq(a:bw)(od:Obj):Bool->It
 |false=>Vl a od
 |true=>Vk a od
def QC{K:Fg}{t:Bool}:pk K H1 (.key p od t kvs) (Bq p od t):=λH2 G2 t' g ok=>by
 have HA:G2 p=aj (.bX od t kvs):=ok;rcases g p _ HA with⟨rfl,ys,e,tw⟩|⟨rfl,ys,e,tw⟩
 .have hl:(Src.key p od ao kvs).items.length=ys.length:=by simp[Src.items,tw.length]
  refine⟨λi hi=>⟨ys,e,by rw[hl]at hi;exact hi⟩,λi v H' hi hy=>?_,⟨ys,e,by rw[hl];exact dw _⟩⟩;let⟨rfl,hy⟩:=hy;let⟨k,y,e1,rfl⟩:=hy ys e;let⟨⟨dk,d⟩,e2,r1,r2⟩:=JG tw e1;have r1:dk=.inl k:=r1;subst r1;exact⟨.refl _,kD k,by simp[Src.items,e2,nv],Ou k⟩
 .have hl:(Src.key p od ak kvs).items.length=ys.length:=by simp[Src.items,tw.length]
  refine⟨λi hi=>⟨ys,e,by rw[hl]at hi;exact hi⟩,λi v H' hi hy=>?_,⟨ys,e,by rw[hl];exact dw _⟩⟩;let⟨rfl,hy⟩:=hy;let⟨ks,y,q,e1,rfl,hh⟩:=hy ys e;let⟨⟨dk,d⟩,e2,r1,r2⟩:=JG tw e1;have r1:dk=.inr ks:=r1;subst r1;exact⟨.refl _,.tup (ks.map kD),by simp[Src.items,e2,nv],.tup (bz.of hh) (QE ks) (AB hh)⟩
def QB{K:Fg}{t:Bool}:kL K (.key p od t kvs) (Bq p od t):=λH2 G2 g ok=>QC (H1:=H2) H2 G2 (.refl _) g ok
abbrev nV(al:Bool)(x:D)(G1:Gp)(R:Src->Gp->Prop):Prop:=match x with
 |.ref p=>(match G1 p with
  |some (.cR t kvs)=>∀od,R (.key p od t kvs) (aF G1 p (.bX od t kvs))
  |some (.bX od t kvs)=>al=ak/\R (.key p od t kvs) G1
  |_=>False)
 |_=>False
abbrev zA(al:Bool)(te:bN):dq:=λρ G R=>te ρ G λx G1=>nV al x G1 R
private theorem XC{x:D}(h:nV al x G1 R):∃p t kvs,x=.ref p/\((G1 p=aj (.cR t kvs)/\∀od,R (.key p od t kvs) (aF G1 p (.bX od t kvs)))∨∃od,G1 p=aj (.bX od t kvs)/\al=ak/\R (.key p od t kvs) G1):=by
 unfold nV at h;split at h
 .rename_i p;split at h
  .rename_i t kvs e;exact⟨p,t,kvs,rfl,.inl ⟨e,h⟩⟩
  .rename_i od t kvs e;exact⟨p,t,kvs,rfl,.inr ⟨od,e,h⟩⟩
  .exact h.elim
 .exact h.elim
section
variable{X:Cx}{ψ:List (bw×Obj)}{σ:St}{H:Hp}{s:dg}
def Ki{a:bw}(I:Inv X ψ σ H s)(d:lS H a):∃od en ep,s.heap.get? a=aj od/\od.ExactDict/\od.data=.dict en ep/\(a==um)=ao:=by
 rcases d with⟨kvs,e⟩|⟨kvs,e⟩
 .obtain⟨_,hd,vs,_,od,en,ep,h1,h2,h3,_⟩:=sF I.af e;exact⟨od,en,ep,h1,h2,h3,hd⟩
 .obtain⟨_,hd,vs,_,od,en,ep,h1,h2,h3,_⟩:=sD I.af e;exact⟨od,en,ep,h1,h2,h3,hd⟩
def Pt{K:Fg}{a:bw}{t:Bool}(g:HR K H G)(e:G a=aj (.cR t kvs))(od:Obj) :
  ∃u,H a=aj u/\(∀xs,u≠.tup xs)/\(∀ob w,u≠.jX ob w)/\(∀ps,u≠.ij ps)/\(∀x,u≠.own x)/\Ts H (upd H a (.jX od u))/\HR K (upd H a (.jX od u)) (aF G a (.bX od t kvs)):=by
 rcases g a _ e with⟨z,ys,e2,tw⟩|⟨z,ys,e2,tw⟩
 .have tt:Ts H (upd H a (.jX od (.dK ys))):=Ts.turn e2 (λxs z=>nomatch z) (λob w z=>nomatch z);exact⟨_,e2,(λxs z=>nomatch z),(λob w z=>nomatch z),(λps z=>nomatch z),(λx z=>nomatch z),tt,g.turn tt (.inl ⟨z,ys,aL,tw.imp λ_ _ q=>⟨q.1,q.2.mono tt⟩⟩)⟩
 .have tt:Ts H (upd H a (.jX od (.dT ys))):=Ts.turn e2 (λxs z=>nomatch z) (λob w z=>nomatch z);exact⟨_,e2,(λxs z=>nomatch z),(λob w z=>nomatch z),(λps z=>nomatch z),(λx z=>nomatch z),tt,g.turn tt (.inr ⟨z,ys,aL,tw.imp λ_ _ q=>⟨q.1,q.2.mono tt⟩⟩)⟩
def QA{K:Fg}{a:bw}{t:Bool}(g:HR K H G)(e:G a=aj (.cR t kvs)):lS H a:=by
 rcases g a _ e with⟨_,ys,e2,_⟩|⟨_,ys,e2,_⟩
 .exact .inl ⟨ys,.inl e2⟩
 .exact .inr ⟨ys,.inl e2⟩
def aDO{K:Fg}{a:bw}{t:Bool}(g:HR K H G)(e:G a=aj (.bX od t kvs)):lS H a:=by
 rcases g a _ e with⟨_,ys,e2,_⟩|⟨_,ys,e2,_⟩
 .exact .inl ⟨ys,.inr ⟨od,e2⟩⟩
 .exact .inr ⟨ys,.inr ⟨od,e2⟩⟩
def Ot{w:je}{K:Fg}{a:bw}{od:Obj}(t:Bool)(hd:od.data=.dict en ep) :
  Turn ak tl P w K tg (Bq a od t) [it] it (λi h=>h.IsKeyIter it a i en.size ep):=by
 cases t with
 |false=>exact YV rfl hd
 |true=>exact B' rfl hd
def JF{e tg:gV}{te:bN}(hc:X.calm=ak)(he:cQ X e te)(Et:∀H p od t kvs,(al=ao->Fz X p)->SJ H (.key p od t kvs) (Bq p od t)) :
  PI X tg e (λσ H Q=>∃ρ G R,SR X.K H ρ σ/\HR X.K H G/\zA al te ρ G R/\∀src J H' G',Ts H H'->HR X.K H' G'->SJ H' src J->R src G'->Q J H'):=by
 intro ψ s σ H Q I h;let⟨ρ,G,R,sr,g,q,kk⟩:=h;refine dZ (he ψ s σ H (λvx H1=>Ts H H1/\∃x G1,RD X.K H1 x vx/\HR X.K H1 G1/\nV al x G1 R) I ⟨ρ,G,_,sr,g,q,λv H1 x G1 t1 r1 g1 q1=>⟨t1,x,G1,r1,g1,q1⟩⟩) ?_;rintro v s1 ⟨vx,H1,I1,r1,t1,x1,G1,rx,g1,q1⟩;let⟨a,t,kvs,rfl,q2⟩:=XC q1;cases rx;obtain rfl:v=bh.ref a:=r1
 have ku:lS H1 a:=by
  rcases q2 with⟨e1,_⟩|⟨od,e1,_⟩
  .exact QA g1 e1
  .exact aDO g1 e1
 let⟨od,en,ep,o1,o2,o3,gz⟩:=Ki I1 ku;refine PB gz ⟨od,o1,o2,o3⟩ ?_;have I3:Inv X ψ σ H1 {s1 with heap:=s1.heap.push {cls:=.type "dict_keyiterator",data:=.fields #[.ref a,.int 0 0,.int en.size 0,.int ep 0]},toks:=s1.toks}:=I1.kept λb o e=>cu _ e;have HB:(s1.heap.push {cls:=.type "dict_keyiterator",data:=.fields #[.ref a,.int 0 0,.int en.size 0,.int ep 0]}).get? a=aj od:=cu _ o1;have hit:(s1.heap.push {cls:=.type "dict_keyiterator",data:=.fields #[.ref a,.int 0 0,.int en.size 0,.int ep 0]}).IsKeyIter s1.heap.objs.size a 0 en.size ep:=⟨_,gw _ rfl,rfl,rfl⟩;have Ey:H1 s1.heap.objs.size=au:=I1.af.fresh (dw _);rcases q2 with⟨e1,q3⟩|⟨Bz,e1,ha,q3⟩
 .obtain⟨u,hu,u1,u2,u3,u4,tt,g4⟩:=Pt g1 e1 od;have I4:=I3.freeze hu u1 u2 u3 u4 HB;have na:s1.heap.objs.size≠a:=Bb (ig o1);refine⟨s1.heap.objs.size,[s1.heap.objs.size],_,Bq a od t,_,rfl,I4,(show Turn X.calm X.tp X.prog X.w X.K tg _ _ _ _ from hc ▸ Ot t o3),hit,λb hb=>?_,kk _ _ _ _ (t1.trans tt) g4 (Et _ a od t kvs λ_=>Fz.of I1 hu u1 u2 u3) (q3 od)⟩;have e:b=s1.heap.objs.size:=by simpa using hb
  subst e;exact I1.kM (dw _) (by rw[aY na];exact Ey)
 .have Nb:s1.heap.get? a=aj Bz:=by
   rcases g1 a _ e1 with⟨_,zs,e2,_⟩|⟨_,zs,e2,_⟩
   .exact(show s1.heap.get? a=aj Bz/\_ from I1.af a _ e2).1
   .exact(show s1.heap.get? a=aj Bz/\_ from I1.af a _ e2).1
  rw[o1]at Nb;obtain rfl:=jk.inj Nb;refine⟨s1.heap.objs.size,[s1.heap.objs.size],_,Bq a od t,_,rfl,I3,(show Turn X.calm X.tp X.prog X.w X.K tg _ _ _ _ from hc ▸ Ot t o3),hit,λb hb=>?_,kk _ _ _ _ t1 g1 (Et _ a od t kvs λz=>by rw[ha]at z;cases z) q3⟩;have e:b=s1.heap.objs.size:=by simpa using hb
  subst e;exact I1.kM (dw _) Ey
def aKP(hc:X.calm=ak)(he:cQ X e te):ue X tg e (zA ak te):=JF (SJ:=pk X.K) hc he λ_ _ _ _ _ _=>QC
def aDP(hc:X.calm=ak)(he:cQ X e te):t7 X tg e (zA ak te):=JF (SJ:=λ_=>kL X.K) hc he λ_ _ _ _ _ _=>QB
end
end
section
open PySem.W
structure Tt(H H':Hp):Prop where
 aI:∀a xs,H a=aj (.tup xs)->H' a=aj (.tup xs)
 aV3:∀a o xs,H a=aj (.jX o (.tup xs))->H' a=aj (.jX o (.tup xs))
def Tt.zk{K:Fg}(t:Tt H H'){a:bw}(h:bz K H a xs):bz K H' a xs:=by
 rcases h with(h|⟨o,h⟩)|h
 .exact .inl (.inl (t.aI _ _ h))
 .exact .inl (.inr ⟨o,t.aV3 _ _ _ h⟩)
 .exact .inr h
def pE.jD(t:Tt H H'){a:bw}(h:pE H a xs):pE H' a xs:=t.aI _ _ h
mutual
theorem RD.jD{K:Fg}{H H':Hp}(t:Tt H H'):∀{d:D}{v:V},RD K H d v->RD K H' d v
 |_,_,.ag=>.ag
 |_,_,.bl b=>.bl b
 |_,_,.int i=>.int i
 |_,_,.str x=>.str x
 |_,_,.ty n=>.ty n
 |_,_,.ref a=>.ref a
 |_,_,.tup h r e=>.tup (t.zk h) (cV.jD t r) (e.jD t)
theorem cV.jD{K:Fg}{H H':Hp}(t:Tt H H'):∀{ds:List D}{vs:List V},cV K H ds vs->cV K H' ds vs
 |_,_,.nil=>.nil
 |_,_,.cons h r=>.cons (RD.jD t h) (cV.jD t r)
end
def SR.jD{K:Fg}(t:Tt H H'):∀{ρ:bZ}{σ:St},SR K H ρ σ->SR K H' ρ σ
 |_,_,.nil=>.nil
 |_,_,.none r=>.none (SR.jD t r)
 |_,_,.some h r=>.some (h.jD t) (SR.jD t r)
def OR.aQC{K:Fg}{a:bw}{o:GO}(t:Tt H H')(h:OR K H a o)(k:∀u,H a=aj u->H' a=aj u):OR K H' a o:=by
 cases o with
 |lst ds=>let⟨xs,e,r⟩:=h;exact⟨xs,k _ e,r.jD t⟩
 |fo ds =>
  let⟨xs,e,r⟩:=h;refine⟨xs,?_,r.jD t⟩;rcases e with(e|⟨o,e⟩)|e
  .exact .inl (.inl (k _ e))
  .exact .inl (.inr ⟨o,k _ e⟩)
  .exact .inr e
 |cR b kvs =>
  rcases h with⟨z,xs,e,r⟩|⟨z,xs,e,r⟩
  .exact .inl ⟨z,xs,k _ e,r.imp λ_ _ q=>⟨q.1,q.2.jD t⟩⟩
  .exact .inr ⟨z,xs,k _ e,r.imp λ_ _ q=>⟨q.1,q.2.jD t⟩⟩
 |ins C fs=>let⟨dx,vs,e,r⟩:=h;exact⟨dx,vs,k _ e,r.imp λ_ _ q=>⟨q.1,q.2.jD t⟩⟩
 |bX ob b kvs =>
  rcases h with⟨z,xs,e,r⟩|⟨z,xs,e,r⟩
  .exact .inl ⟨z,xs,k _ e,r.imp λ_ _ q=>⟨q.1,q.2.jD t⟩⟩
  .exact .inr ⟨z,xs,k _ e,r.imp λ_ _ q=>⟨q.1,q.2.jD t⟩⟩
 |ir C=>let⟨o,vs,e,r⟩:=h;exact⟨o,vs,k _ e,r⟩
 |du ds=>let⟨xs,e,r⟩:=h;exact⟨xs,t.zk e,r.jD t⟩
 |BD kvs=>let⟨o,e,r⟩:=h;exact⟨o,k _ e,r.imp λ_ _ z=>z.jD t⟩
 |zl ob kvs=>let⟨o,e,r⟩:=h;exact⟨o,k _ e,r.imp λ_ _ z=>z.jD t⟩
def XB{K:Fg}{t:Bool}(g:HR K H G)(e:G p=aj (.bX od t kvs)) :
  ∃u,H p=aj (.jX od u)/\(∀xs,u≠.tup xs)/\(∀ob w,u≠.jX ob w)/\lS H p/\Tt H (upd H p u)/\HR K (upd H p u) (aF G p (.cR t kvs)):=by
 have key:∀u,H p=aj (.jX od u)->(∀xs,u≠.tup xs)->Tt H (upd H p u):=λu hu h1=>by
  refine⟨λa xs q=>?_,λa o xs q=>?_⟩
  .rw[aY];exact q;intro z;subst z;rw[hu]at q;cases q
  .rw[aY];exact q;intro z;subst z;rw[hu]at q;cases q;exact h1 xs rfl
 have rest:∀u,Tt H (upd H p u)->OR K (upd H p u) p (.cR t kvs)->HR K (upd H p u) (aF G p (.cR t kvs)):=λu tt new a v q=>by
  by_cases z:a=p
  .subst z;rw[aC]at q;obtain rfl:=jk.inj q;exact new
  .rw[aH z]at q;exact(g a v q).aQC tt λw y=>by rw[aY z];exact y
 rcases g p _ e with⟨z,xs,e2,tw⟩|⟨z,xs,e2,tw⟩
 .have tt:=key _ e2 (λxs z=>nomatch z);exact⟨_,e2,(λxs z=>nomatch z),(λob w z=>nomatch z),.inl ⟨xs,.inr ⟨od,e2⟩⟩,tt,rest _ tt (.inl ⟨z,xs,aL,tw.imp λ_ _ q=>⟨q.1,q.2.jD tt⟩⟩)⟩
 .have tt:=key _ e2 (λxs z=>nomatch z);exact⟨_,e2,(λxs z=>nomatch z),(λob w z=>nomatch z),.inr ⟨xs,.inr ⟨od,e2⟩⟩,tt,rest _ tt (.inr ⟨z,xs,aL,tw.imp λ_ _ q=>⟨q.1,q.2.jD tt⟩⟩)⟩
variable{od:Obj}
section
variable{ψ:List (bw×Obj)}
def aKQ(I:Inv X ψ σ H s)(ku:lS H p)(hu:H p=aj (.jX od u)):∃en ep,od.data=.dict en ep:=by
 let⟨Bz,en,ep,o1,_,o3,_⟩:=Ki I ku;have e:=(show s.heap.get? p=aj od/\_ from I.af p _ hu).1;rw[e]at o1;cases o1;exact⟨en,ep,o3⟩
def Inv.w4(I:Inv X ψ σ H s)(fz:Fz X p)(hu:H p=aj (.jX od u))(h1:∀xs,u≠.tup xs)(ku:∃en ep,od.data=.dict en ep):Inv X ψ σ (upd H p u) s:=by
 have ne:∀{b:bw}{v:HO},H b=aj v->v≠.jX od u->b≠p:=λe n z=>by subst z;rw[hu]at e;exact n (jk.inj e).symm
 have no:∀{b:bw},H b=au->upd H p u b=au:=λ{b} e=>by
  rw[aY];exact e;intro z;subst z;rw[hu]at e;cases e
 have kt:∀b xs,H b=aj (.tup xs)->upd H p u b=aj (.tup xs):=λb xs q=>by rw[aY (ne q λz=>nomatch z)];exact q
 have ko:∀b x,H b=aj (.own x)->upd H p u b=aj (.own x):=λb x q=>by rw[aY (ne q λz=>nomatch z)];exact q
 let⟨ho,af⟩:=(show s.heap.get? p=aj od/\j8 X.prog X.w H s.heap p u from I.af p _ hu);refine⟨I.ok,I.os,I.bare,⟨I.base.keep,I.base.slot,λb ob q n hx=>?_,I.base.there,λb xs q=>kt b xs (I.base.aI b xs q),λb ob w q=>?_,λb ps q=>?_⟩,I.loc,I.cell,no I.free,λx c e=>no (I.rR x c e),λq hq=>?_,λb v e=>?_,I.len,?_,λq hq=>kt _ _ (I.tup q hq)⟩
 .exact no (I.base.free b ob q n hx)
 .have:=I.base.pB b ob w q;rw[aY];exact this;intro z;subst z;exact fz.jX ob w q
 .obtain⟨more,e⟩:=I.base.fT b ps q;exact⟨more,by rw[aY (ne e λz=>nomatch z)];exact e⟩
 .obtain⟨z1,z2,z3⟩:=I.pin q hq;exact⟨z1,no z2,z3⟩
 .by_cases hb:b=p
  .subst hb;rw[aL]at e;obtain rfl:=jk.inj e;exact af.cf (λ_ _ _ q=>q) (λc q=>ko c _ q) λc xs q=>kt c xs q
  .rw[aY hb]at e;exact(I.af b v e).cf (λ_ _ _ q=>q) (λc q=>ko c _ q) λc xs q=>kt c xs q
 .rcases I.dC with z|⟨x,o,w,vs,a,b,c,d⟩
  .exact .inl z
  .refine .inr ⟨x,o,w,vs,a,?_,c,d⟩;rw[aY];exact b;intro z;subst z;rw[hu]at b;cases b;let⟨en,ep,o3⟩:=ku;rw[o3]at c;cases c
end
abbrev Src.w4(G:Gp):Src->Gp
 |.zD p _ kvs=>aF G p (.cR ao kvs)
 |.kg p _ t kvs=>aF G p (.cR t kvs)
 |.key p _ t kvs=>aF G p (.cR t kvs)
 |_=>G
abbrev GY(X:Cx):Src->Prop
 |.zD p _ _=>Fz X p
 |.kg p _ _ _=>Fz X p
 |.key p _ _ _=>Fz X p
 |_=>True
abbrev aV4(X:Cx)(t:dq):TI:=λσ H Q=>∃ρ G R,SR X.K H ρ σ/\HR X.K H G/\t ρ G R/\∀src J H' G',Ts H H'->HR X.K H' G'->(kL X.K src J/\GY X src)->R src G'->Q J H'
@[simp]def Dq(X:Cx)(tg iter:gV)(t:dq):Prop:=PI X tg iter (aV4 X t)
section
variable{X:Cx}
def aDQ(hc:X.calm=ak)(he:cQ X e te):Dq X tg e (zA ao te):=JF (SJ:=λ_ src J=>kL X.K src J/\GY X src) hc he λ_ _ _ _ _ z=>⟨QB,z rfl⟩
end
abbrev Fo(ti:dq)(tg:hZ)(tb:oX):oX:=λF ρ G=>ti ρ G λsrc G1=>∃P:Nat->bZ->Gp->Prop,P 0 ρ G1/\(∀k ρ G,k<=src.items.length->P k ρ G->src.ok G) /\
 (∀k d ρ G,src.items[k]?=aj d->P k ρ G->tg d ρ λeA=>tb {F with nx:=P (k+1),ct:=P (k+1),bk:=λρ G=>src.ok G/\F.nx ρ (src.w4 G)} eA G)/\∀ρ G,P src.items.length ρ G->F.nx ρ (src.w4 G)
abbrev Vg(X:Cx)(E:eN)(σ:St)(H:Hp):Prop:=∃src ρ G,GY X src/\SR X.K H ρ σ/\HR X.K H G/\src.ok G/\E.nx ρ (src.w4 G)
def XA{X:Cx}{F:Ends}(u:Vf X.K E F)(I:Inv X ψ σ H s)(h:Vg X E σ H):∃H',Inv X ψ σ H' s/\F.nx σ H':=by
 let⟨src,ρ,G,fz,sr,g,ok,q⟩:=h
 have one:∀{p:bw}{od:Obj}{t:Bool}{kvs:List (DK×D)},Fz X p->G p=aj (.bX od t kvs)->E.nx ρ (aF G p (.cR t kvs))->∃H',Inv X ψ σ H' s/\F.nx σ H':=λfz e q=>by
  let⟨w,hw,w1,w2,ku,tt,g'⟩:=XB g e;exact⟨_,I.w4 fz hw w1 (aKQ I ku hw),u.nx _ _ _ _ (sr.jD tt) g' q⟩
 cases src with
 |zD p o kvs=>exact one fz ok q
 |kg p o t kvs=>exact one fz ok q
 |key p o t kvs=>exact one fz ok q
 |lst p xs=>exact⟨H,I,u.nx _ _ _ _ sr g q⟩
 |bE xs=>exact⟨H,I,u.nx _ _ _ _ sr g q⟩
 |zip p r xs ys=>exact⟨H,I,u.nx _ _ _ _ sr g q⟩
 |du p xs=>exact⟨H,I,u.nx _ _ _ _ sr g q⟩
 |EA p xs=>exact⟨H,I,u.nx _ _ _ _ sr g q⟩
 |D0 p o kvs=>exact⟨H,I,u.nx _ _ _ _ sr g q⟩
section
variable{X:Cx}
private theorem aDR{ti:dq}{tg:hZ}{pos:Pos}(hp:sQ (dz X.prog X.w) X.A X.env X.xe)(hi:Dq X bS iter ti)(hg:Ds X bS tg)(hb:iN X body tb)
  (hs:∀x,C4 iter X.env x=pure x):fk X (.For bS iter body [] pos) (Fo ti tg tb):=by
 intro ψ s σ H F I h;let⟨ρ,G,E,sr,g,q,d⟩:=h;have key:=OU (pos:=pos) hp hi hg hb hs ψ s σ H {F with nx:=Vg X E} I ⟨ρ,G,_,sr,g,q,λsrc J H1 G1 t1 g1 ⟨sj,fz⟩ ⟨P,p0,mw,Bx,pend⟩=>?_⟩
 .refine dZ key λf s' z=>?_;cases f with
  |next=>let⟨aw,H',J,z⟩:=z;let⟨H2,J2,z2⟩:=XA d J z;exact⟨aw,H2,J2,z2⟩
  |brk=>let⟨aw,H',J,z⟩:=z;exact⟨aw,H',J,z⟩
  |cont=>let⟨aw,H',J,z⟩:=z;exact⟨aw,H',J,z⟩
  |ret w=>let⟨w,aw,H',J,r,z⟩:=z;exact⟨w,aw,H',J,r,z⟩
 .refine Q4 (K:=X.K) (n:=src.items.length) (λk c5 H2=>∃ba G',SR X.K H2 ba c5/\HR X.K H2 G'/\P k ba G') ⟨ρ,G1,sr.mono t1,g1,p0⟩ (λc5 H2 ⟨ba,G',s2,g2,p⟩=>?_) (λk c5 H2 hk ⟨ba,G',s2,g2,p⟩=>?_) (λk y c5 H2 H3 hk ⟨ba,G',s2,g2,p⟩ hy=>?_)
   (λc5 H2 ⟨ba,G',s2,g2,p⟩=>⟨src,ba,G',fz,s2,g2,mw _ ba G' (dw _) p,pend ba G' p⟩)
  .exact(sj H2 G' g2 (mw _ ba G' (dw _) p)).2.2
  .exact(sj H2 G' g2 (mw _ ba G' (ud hk) p)).1 k hk
  .obtain⟨sm,dk,e1,e2⟩:=(sj H2 G' g2 (mw _ ba G' (ud hk) p)).2.1 k y H3 hk hy;refine⟨ba,dk,_,s2.mono (.same sm),e2,Bx k dk ba G' e1 p,λeA i5 s3 q3=>?_⟩;exact⟨eA,G',_,s3,g2.same sm,q3,⟨λoo G4 DS H4 s4 g4 q4=>⟨oo,G4,s4,g4,q4⟩,d.rt,λoo G4 DS H4 s4 g4 q4=>⟨src,oo,G4,fz,s4,g4,q4.1,q4.2⟩,λoo G4 DS H4 s4 g4 q4=>⟨oo,G4,s4,g4,q4⟩⟩⟩
end
end
section
open PySem.W
section
end
end
section
section
open AutoSeq1 (wpAny_loadPart')
end
section
end
section
end
section
open PySem.SeqAt
open PySem.AutoSeq1 (wpAny_loadPart')
open PySem.MeetsSeq PySem.MeetsSeq2 PySem.MeetsSeq3
end
end
section
section
end
end
section
section
open Classical in
end
end
section
open PySem.W
section
end
section
end
end
section
structure iP where
 cx:Str
 cp:Pos
 Dc:bw
 b0:jq
 dt:List jq
 qA:Pos
 th:oX
abbrev iP.ast(h:iP):ExceptHandler:=.ExceptHandler (aj (.Name h.cx h.cp)) au (h.b0::h.dt) h.qA
@[simp]def iP.pr(h:iP):bw×oX:=(h.Dc,h.th)
abbrev EL(K:Fg)(F:eN)(C:bw):List (bw×oX)->bZ->Gp->Prop
 |[],_,_=>False
 |h::r,ρ,G=>(jc K (.ref C) (.ref h.1)=aj ak/\h.2 F ρ G)∨(jc K (.ref C) (.ref h.1)=aj ao/\EL K F C r ρ G)
abbrev AI(K:Fg)(tb:(bZ->f9)->oX)(hs:List (bw×oX)):oX:=λF ρ G=>tb (λmm C G1=>EL K F C hs mm G1) F ρ G
section
variable{X:Cx}
structure KO(X:Cx)(h:iP):Prop where
 hg:Gl X h.cx
 hm:X.mg h.cx=aj (.ref h.Dc)
 hc:(vg X.K h.Dc).isSome=ak
 ht:x4 X.K (.ref h.Dc)=aj (.type "type")
 NV:jc X.K (.ref h.Dc) (.type "BaseException")=aj ak
 hh:∀x,iN (B5 X x) (h.b0::h.dt) h.th
 hd:(h.cx==("__debug__":Str))=ao
private theorem aKS{pos:Pos}
  (eI:X.calm=ak)(bP:X.stack=X.env::X.outer)(BO:X.env.frame=aj X.env.locals)(ho:∀h∈h0::hr,KO X h)
  (hb:∀pn EX,iN (FL X pn EX) body (tb EX)) :
  fk X (.Try body ((h0::hr).map iP.ast) [] [] pos) (AI X.K tb ((h0::hr).map iP.pr)):=by
 intro ψ s σ H F I h;let⟨ρ,G,E3,sr,g,q,d⟩:=h;refine wpAny_Try_except (ql (hb ψ _ [] s σ H F (aCP I _) ⟨ρ,G,E3,sr,g,q,d⟩) (λf s1 q1=>?_) λe s1 q1=>?_)
 .have q2:=XZ q1;cases f with
  |next=>exact CY q2
  |brk=>exact q2
  |cont=>exact q2
  |ret u=>exact q2
 .obtain⟨A9,ml,H1,s0,mm,I1,VD,x,C,H',B,rfl,fl,af,Al,xa,un,os,bare,c,G',e2,g',hp⟩:=q1;cases e2;have J1:Inv X ψ ml H1 s0:=xK I1;have hn:X.A.handled=au:=I.ok.hd eI;have kA:X.A.frames=aj (X.env::X.outer):=by rw[←bP];exact I.ok.frames
  have WQ:qo B (X.env::X.outer) x (.ref C) s1.heap:=by rw[←bP];exact fl
  refine P8 (B:=B) kA BO WQ λh4 aQE MW=>?_;refine Fx aQE λh5 Io MV=>?_;have Nx:B.get? x=au:=fl.new;have BA:H' x=au:=Q2 af Nx
  have uB:∀(h6:jw)(oe:Obj)(ws:Array bh),qo B (X.env::X.outer) x (.ref C) h6->s1.heap.UpToSlots h6->h6.get? x=aj oe->oe.cls=.ref C->oe.data=.fields ws ->
    Inv X ψ ml (upd H' x (.jX oe (.ext (oi C x)))) {s1 with heap:=h6}/\Ts H1 (upd H' x (.jX oe (.ext (oi C x)))):=by
   intro h6 oe ws Af sm Av IF Ce;have uS:=aJ2 (P:=X.prog) (w:=X.w) fl Al xa un Af.stays sm
   have VU:s0.heap.get? x=au:=by
    cases e0:s0.heap.get? x with
    |none=>rfl
    |some o =>
     by_cases hx:x∈frs X.stack
     .obtain⟨_,o',b8,iq⟩:=Af.K9.mem (by rw[←bP];exact hx);rw[Av]at b8;cases b8;exact absurd Ce (iq ws)
     .obtain⟨o',b8⟩:=xa x o e0 hx;rw[Nx]at b8;cases b8
   have sn:a9 H' (upd H' x (.jX oe (.ext (oi C x)))):=c7 BA;have i8:∀b o,s0.heap.get? b=aj o->b≠x:=λb o e z=>by subst z;rw[VU]at e;cases e
   have He:Un (frs X.stack) [] H1 (upd H' x (.jX oe (.ext (oi C x)))) s0.heap h6:=⟨uS.keep,uS.slot,λb o e n hx=>by rw[aY (i8 b o e)];exact uS.free b o e n hx,uS.there,λb xs z=>sn _ _ (uS.aI b xs z),λb o u z=>sn _ _ (uS.pB b o u z),λb ps z=>by
    let⟨m,e⟩:=uS.fT b ps z;exact⟨m,sn _ _ e⟩⟩
   have aV7:bq X.prog X.w (upd H' x (.jX oe (.ext (oi C x)))) h6:=λb o e=>by
    by_cases hb:b=x
    .subst hb;rw[aL]at e;cases e;refine⟨Av,⟨oe,ws,Av,IF,Ce⟩,⟨oe,Av⟩,λh1 h2 ⟨o1,w1,e1,e2,e3⟩ k=>⟨o1,w1,k _ e1,e2,e3⟩⟩
    .rw[aY hb]at e;exact((af.kept Af.stays) b o e).cf (λ_ _ _ z=>z) (λc z=>sn _ _ z) λc xs z=>sn _ _ z
   exact⟨J1.fe (ch:=[]) (s':={s1 with heap:=h6}) os He aV7 bare (λb z=>absurd z (by simp)),He.aI,He.pB⟩
  let⟨oe,MP,HY,yT,DC,aV8⟩:=Io.fld;let⟨J5,_⟩:=uB h5 oe MP Io (MW.trans MV) HY yT DC
  have go:∀hs:List iP,(∀h∈hs,KO X h)->EL X.K E3 C (hs.map iP.pr) mm G'->dh (dz X.prog X.w) X.A (handleBy (.ref x) X.env (hs.map iP.ast)) (SP X ψ F) X.xe {s1 with heap:=h5}:=by
   intro hs
   induction hs with
   |nil=>intro _ z;exact z.elim
   |cons hd r ih =>
    intro ho hp;have k:=ho hd (.head _);show dh _ _ (handleBy (.ref x) X.env (.ExceptHandler (aj (.Name hd.cx hd.cp)) au (hd.b0::hd.dt) hd.qA::r.map iP.ast)) _ _ _;refine wpAny_handleBy_cons (codeAny_handlers_test ?_) (by intro q;cases q);refine rY (X:=B5 X x) (PX J5 x (.inr ⟨x,oe,_,MP,rfl,aL,DC,aV8⟩)) k.hg k.hm ?_ k.hd;rcases hp with⟨yB,Wa⟩|⟨yB,hp⟩
    .refine SE (K:=X.K) J5.b7 HY yT k.hc k.ht k.NV yB ?_;refine codeAny_handlers_suite ?_;refine Fx Io λh6 Af VF=>?_;let⟨Na,ws,Av,IF,Ce,aQF⟩:=Af.fld;let⟨J7,tt⟩:=uB h6 Na ws Af ((MW.trans MV).trans VF) Av IF Ce
     refine ql (k.hh x ψ {s1 with heap:=h6} _ _ F (PX J7 x (.inr ⟨x,Na,_,ws,rfl,aL,Ce,aQF⟩))
      ⟨mm,G',_,VD.mono tt,g'.same (c7 BA),Wa,d⟩) (λf s9 q9=>?_) λ_ _ z=>z.elim
     cases f with
     |next=>let⟨c5,H2,I2,z⟩:=q9;exact⟨c5,H2,GC J7.ok hn I2,z⟩
     |brk=>let⟨c5,H2,I2,z⟩:=q9;exact⟨c5,H2,GC J7.ok hn I2,z⟩
     |cont=>let⟨c5,H2,I2,z⟩:=q9;exact⟨c5,H2,GC J7.ok hn I2,z⟩
     |ret u=>let⟨v,c5,H2,I2,r2,z⟩:=q9;exact⟨v,c5,H2,GC J7.ok hn I2,r2,z⟩
    .exact SE (K:=X.K) J5.b7 HY yT k.hc k.ht k.NV yB (ih (λh m=>ho h (.tail _ m)) hp)
  exact go _ ho hp
end
end
section
open PySem.W
section
variable{prog:jr}{w:je}{A:jd}{s:dg}{d r:bw}{es:Array kQ}{ep i:Nat}
def aDS(hv:s.heap.IsValuesView r d)(hm:nJ s.heap d es ep)(hQ:Q (.ref s.heap.objs.size) {s with heap:=s.heap.push {cls:=.type "dict_valueiterator",data:=.fields #[.ref d,.int 0 0,.int es.size 0,.int ep 0]}}):dh (dz prog w) A (pyIter (.ref r)) Q E s:=by
 let⟨ov,We,hcv,BP⟩:=id hv;let⟨o,ho,hc,c9⟩:=hm;refine wpAny_pyIter_slot hv.typeIs F.slot_dict_values_iter (uw F.slot_dict_values_iter hv.typeIs F.entry_dict_values_iter ?_ (F.args_dict_values_iter_1 _));unfold Builtin.«dict_values.__iter__»;refine aq (cj (aq ?_));unfold Builtin.Dict_items.dictOf;refine aq (tu We BP (x:=.ref d) rfl (cj (aq ?_)));unfold Builtin.Dict_items.newIterator;refine aq (xu ho c9 (aq (wpAny_dictEpoch ho c9 ?_)));simp only[show Builtin.Dict_items.ownsTuple "dict_valueiterator"=ao by decide,kj,if_false];refine qj (cj ⟨_,rfl,"dict_valueiterator",_,⟨_,gw _ rfl,rfl⟩,F.slot_dict_valueiterator_next.lookup,?_⟩);simpa[fg]using hQ
def aDT{e:kQ}(hit:s.heap.IsValIter it d i es.size ep)(hm:nJ s.heap d es ep)(hx:es[i]?=aj e)
  (hQ:∀h',h'.IsValIter it d (i+1) es.size ep->lu it s.heap h'->Q (aj e.val) {s with heap:=h' }):dh (dz prog w) A (eS (.ref it)) Q E s:=by
 let⟨o,ho,hc,hd⟩:=id hit;let⟨od,c8,fq,eD⟩:=hm;have lt:i<es.size:=(zy.mp hx).1;unfold eS;refine aq (xS (zc (name:=Str.ofString "__next__") hit.typeIs F.slot_dict_valueiterator_next (uw F.slot_dict_valueiterator_next hit.typeIs F.entry_dict_valueiterator_next ?_ (F.args_dict_valueiterator_next_1 _))));refine aq (cj ?_);refine aq ?_;refine aq ?_
 (first|refine aq (wpAny_typeNameOfWhole_valiter hit.typeIs (cj ?_))|refine aq (wpAny_typeNameOf_valiter hit.typeIs (cj ?_)));refine aq (wpAny_fieldsOf ho hd ?_)
 have own:Builtin.Dict_items.ownsTuple "dict_valueiterator"=ao:=by decide
 simp only[own,kj,if_false];show dh _ _ (if(bh.ref d==bh.none)=ak then _ else _) _ _ s;rw[if_neg (show ¬ ((bh.ref d==bh.none)=ak)from oh)];refine aq (cj (aq (xu c8 eD ?_)));rw[if_neg (by simp)];refine aq (cj (aq (wpAny_dictEpoch c8 eD ?_)));rw[if_neg (by simp)];refine cj ?_;simp only[show ¬ ((i:Int)<0)from by omega,if_false,zf,hx];refine aq ?_
 (first|refine aq (wpAny_typeNameOfWhole_valiter hit.typeIs (cj ?_))|refine aq (wpAny_typeNameOf_valiter hit.typeIs (cj ?_)));refine aq (wpAny_isOneOf_valiter hit.typeIs ?_)
 show dh _ _ (setField (.ref it) 1 (fg ((i:Int)+1)) >>= _) _ _ s;refine aq (vm ho hd (by simp) ?_);have gu:(s.heap.update it (Obj.mapFields (·.setIfInBounds 1 (fg ((i:Int)+1))))).IsValIter it d (i+1) es.size ep:=⟨_,Dh _ ho (Obj.isFreed_of_fields (Obj.data_mapFields hd _)),(Obj.cls_mapFields ..).trans hc,by rw[Obj.data_mapFields hd];simp[fg]⟩;refine aq (uh (aq (wpAny_isOneOf_valiter (s:={s with heap:=s.heap.update it (Obj.mapFields (·.setIfInBounds 1 (fg ((i:Int)+1))))}) gu.typeIs (aq (wpAny_isOneOf_valiter (s:={s with heap:=s.heap.update it (Obj.mapFields (·.setIfInBounds 1 (fg ((i:Int)+1))))}) gu.typeIs ?_)))));show dh _ _ (pure e.val) _ _ _;exact cj (cj ⟨_,rfl,cj (hQ _ gu (lu.update ..))⟩)
def aKU(hh:A.handled=au)(hit:s.heap.IsValIter it d i es.size ep)(hm:nJ s.heap d es ep)(hx:es.size<=i)(hQ:∀h',xI it s.heap h'->Q au {s with heap:=h' }):dh (dz prog w) A (eS (.ref it)) Q E s:=by
 let⟨o,ho,hc,hd⟩:=id hit;let⟨od,c8,fq,eD⟩:=hm;unfold eS;refine aq (xS (zc (name:=Str.ofString "__next__") hit.typeIs F.slot_dict_valueiterator_next (uw F.slot_dict_valueiterator_next hit.typeIs F.entry_dict_valueiterator_next ?_ (F.args_dict_valueiterator_next_1 _))));refine aq (cj ?_);refine aq ?_;refine aq ?_
 (first|refine aq (wpAny_typeNameOfWhole_valiter hit.typeIs (cj ?_))|refine aq (wpAny_typeNameOf_valiter hit.typeIs (cj ?_)));refine aq (wpAny_fieldsOf ho hd ?_)
 have own:Builtin.Dict_items.ownsTuple "dict_valueiterator"=ao:=by decide
 simp only[own,kj,if_false];show dh _ _ (if(bh.ref d==bh.none)=ak then _ else _) _ _ s;rw[if_neg (show ¬ ((bh.ref d==bh.none)=ak)from oh)];refine aq (cj (aq (xu c8 eD ?_)));rw[if_neg (by simp)];refine aq (cj (aq (wpAny_dictEpoch c8 eD ?_)));rw[if_neg (by simp)];refine cj ?_;simp only[show ¬ ((i:Int)<0)from by omega,if_false,zf,Array.getElem?_eq_none hx];refine aq ?_
 (first|refine aq (wpAny_typeNameOfWhole_valiter hit.typeIs (cj ?_))|refine aq (wpAny_typeNameOf_valiter hit.typeIs (cj ?_)));show dh _ _ (setField (.ref it) 0 .none >>= _) _ _ s
 refine aq (vm ho hd (by simp) ?_);show dh _ _ (newExc (.type "StopIteration") [] >>= _) _ _ _;refine aq ?_;simp only[newExc,newTuple];refine aq (qj ?_ (by size_fits));refine aq (m:=firstArgMember _ _) (wpAny_of_eq (a:=Value.none) (by first|rfl|(simp only[Mc];rfl)) (qj ?_ (by size_fits)));simp only[raiseNew];refine aq (wpAny_handled ?_);rw[show A.in1.handled=au from hh];refine aq (cj (wpAny_throw ?_));refine aq (wpAny_isInstance (T:="StopIteration") (b:=true) ⟨_,gw _ rfl,rfl⟩ isSubtype_stop ?_);exact cj (hQ _ (((lu.update ..).extBut.push _).push _))
end
section
variable{ψ:List (bw×Obj)}{s:dg}
def aDU(r:KT H ys xs):∀{i:Nat}{ks:List Key}{y:V},ys[i]?=aj (ks,y)->∃q u,xs[i]?=aj (ks,q,u)/\H q=aj (.tup (ks.map kV))/\RelV y u:=by
 induction r with
 |nil=>intro i k y e;simp at e
 |@cons p q _ _ h _ ih =>
  intro i ks y e;cases i with
  |zero =>
   simp only[Di,jk.injEq]at e;subst e;let⟨q1,q2,q3⟩:=q;let⟨h1,h2,h3⟩:=h;obtain rfl:ks=q1:=h1;exact⟨q2,q3,rfl,h2,h3⟩
  |succ i=>simpa using ih (by simpa using e)
def Rq{a:bw}{od:Obj}{ys:List (List Key×V)}(I:Inv X ψ σ H s)(hd:od.data=.dict es ep)(hq:H a=aj (.jX od (.dT ys))) :
  nJ s.heap a es ep/\es.size=ys.length/\∀(i:Nat)(ks:List Key)(y:V),ys[i]?=aj (ks,y)->∃e:kQ,es[i]?=aj e/\RelV y e.val:=by
 let⟨c8,_⟩:=(show s.heap.get? a=aj od/\_ from I.af a _ hq);let⟨_,gz,xs,kt,o1,N3,N4,g1,g2,g3,g4,g5⟩:=sD I.af (.inr ⟨od,hq⟩);rw[c8]at g1;obtain rfl:=jk.inj g1;rw[hd]at g3;injection g3 with e1 e2;subst e1;have hl:es.size=xs.length:=by rw[←ur,g4,fj]
 refine⟨⟨od,c8,g2,hd⟩,by rw[hl];exact(Paired.length kt).symm,λi ks y e=>?_⟩;let⟨q,u,hx,hh,hr⟩:=aDU kt e;refine⟨entryOfKey (qf (aG X.prog X.w)) (ks,q,u),?_,hr⟩;rw[←GI,g4,xr,hx];rfl
end
abbrev GW(a:bw)(od:Obj):It :=
 ⟨λi H=>∃ys:List (List Key×V),H a=aj (.jX od (.dT ys))/\i<ys.length,
  λi H v H'=>H'=H/\∀ys,H a=aj (.jX od (.dT ys))->∃ks,ys[i]?=aj (ks,v),
  λi H=>∃ys:List (List Key×V),H a=aj (.jX od (.dT ys))/\ys.length<=i⟩
def aKV{w:je}{K:Fg}{a:bw}{od:Obj}(hd:od.data=.dict en ep) :
  Turn ak tl P w K tg (GW a od) [it] it (λi h=>h.IsValIter it a i en.size ep) where
 mem:=by simp
 obj:=λi h st b hb=>by
  have e:b=it:=by simpa using hb
  subst e;let⟨o,e,c,d⟩:=st;exact⟨o,e,λv z=>by rw[d]at z;cases z⟩
 keep:=λi h h' st k=>st.at λo e=>k it (by simp) o e
 item:=by
  intro X hP hw hK eI ht i ψ s σ H E I hf st hg;subst hP hw hK;let⟨ys,hq,hi⟩:=hg;let⟨hm,hn,hk⟩:=Rq I hd hq;have hx:ys[i]?=aj (ys[i].1,ys[i].2):=jj hi;let⟨e,he,rk⟩:=hk i _ _ hx;let⟨f0,f1,f2,f3,f4,f5⟩:=hf it (by simp);refine aDT st hm he λh' ae sb=>?_;have I1:Inv X ψ σ H {s with heap:=h' }:=I.turned (t':=s.toks) (λb o hb e=>(sb.2 b hb).trans e) f0 f1 f3 f4 f5;let⟨o,e',c,d⟩:=id ae;exact⟨_,rfl,sL (s:={s with heap:=h' }) e' c d (by decide) ⟨ys[i].2,H,I1,rk,⟨rfl,λzs z=>by rw[hq]at z;cases z;exact⟨_,hx⟩⟩,ae,λb hb=>(hf b hb).1⟩⟩
 done:=by
  intro X hP hw hK eI ht i ψ s σ H E I hf st hg;subst hP hw hK;let⟨ys,hq,hi⟩:=hg;let⟨hm,hn,hk⟩:=Rq I hd hq;let⟨f0,f1,f2,f3,f4,f5⟩:=hf it (by simp);exact aKU (I.ok.hd (eI rfl)) st hm ⋯ λh' eb=>⟨rfl,I.turned (t':=s.toks) (λb o hb e=>eb b o hb e) f0 f1 f3 f4 f5⟩
 self:=λ_ _ _ _ _ st h=>wpAny_pyIter_valiter st h
def Qz{K:Fg}:kL K (.kg p od ak kvs) (GW p od):=λH2 G2 g ok=>by
 have HA:G2 p=aj (.bX od ak kvs):=ok;rcases g p _ HA with⟨z,_⟩|⟨_,ys,e,tw⟩
 .cases z
 .have hl:(Src.kg p od ak kvs).items.length=ys.length:=by simp[Src.items,tw.length]
  refine⟨λi hi=>⟨ys,e,by rw[hl]at hi;exact hi⟩,λi v H' hi hy=>?_,⟨ys,e,by rw[hl];exact dw _⟩⟩;let⟨rfl,hy⟩:=hy;let⟨ks,e1⟩:=hy ys e;let⟨⟨dk,d⟩,e2,r1,r2⟩:=JG tw e1;exact⟨.refl _,d,by simp[Src.items,e2],r2⟩
abbrev E5(al:Bool)(x:D)(G1:Gp)(R:Src->Gp->Prop):Prop:=∃p kvs,x=.ref p/\G1 p=aj (.cR ak kvs)/\∀od,R (.kg p od ak kvs) (aF G1 p (.bX od ak kvs))
abbrev zB(al:Bool)(to:bN):dq:=λρ G R=>to ρ G λx G1=>E5 al x G1 R
section
variable{X:Cx}
def Xz{prog:jr}{w:je}(d:bw)(hd:(d==um)=ao):MeetsIn prog w (Builtin.«dict.values» ⟨[.ref d],[]⟩) (λ_ R s=>(∃es ep,nJ s.heap d es ep)/\R (.ok (.ret (.ref s.heap.objs.size))) {s with heap:=s.heap.push {cls:=.type "dict_values",data:=.fields #[.ref d]}}) :=
 .of_wp λA R s ⟨⟨es,ep,hm⟩,h⟩=>by
  unfold Builtin.«dict.values»;refine aq ?_;unfold Builtin.Dict.noArgs;refine aq (wpAny_notOrdered_dict hm.typeIs ?_);show dh _ _ (pure d) _ _ s;refine cj ?_;show dh _ _ (Builtin.Dict.showsAll d >>= _) _ _ s;unfold Builtin.Dict.showsAll;rw[if_neg (by rw[hd];exact oh)];exact aq (cj (aq (qj (cj ⟨_,rfl,h⟩))))
def Pr{o tg:gV}{to:bN}(hc:X.calm=ak)(ho:cQ X o to)
  (a8:su o "values" X.env (eval o X.env)=eval o X.env)(aT:(apos.endLine==ai.line)=ak)(Et:∀H p od kvs,Fz X p->SJ H (.kg p od ak kvs) (GW p od)) :
  PI X tg (.Call (.Attribute o "values" apos) [] [] ai) (λσ H Q=>∃ρ G R,SR X.K H ρ σ/\HR X.K H G/\zB al to ρ G R/\∀src J H' G',Ts H H'->HR X.K H' G'->SJ H' src J->R src G'->Q J H'):=by
 intro ψ s σ H Q I h;let⟨ρ,G,R,sr,g,q,kk⟩:=h;refine GK a8 aT (dZ (ho ψ s σ H (λvx H1=>Ts H H1/\∃x G1,RD X.K H1 x vx/\HR X.K H1 G1/\E5 al x G1 R) I ⟨ρ,G,_,sr,g,q,λv H1 x G1 t1 r1 g1 q1=>⟨t1,x,G1,r1,g1,q1⟩⟩) ?_);rintro v s1 ⟨vx,H1,I1,r1,t1,x1,G1,rx,g1,q1⟩;let⟨a,kvs,rfl,e1,q3⟩:=q1;cases rx;obtain rfl:v=bh.ref a:=r1;have ku:lS H1 a:=QA g1 e1;let⟨h1,h2,h3⟩:=CD I1 ku;let⟨od,en,ep,o1,o2,o3,gz⟩:=Ki I1 ku;refine⟨"dict","dict.values",PySem.F.plainAttrs_dict,PySem.F.slot_dict_values,PySem.F.type_dict_values,h1,h2,Calls.callWith_builtin rfl (PySem.evalArgs_none ?_)⟩;refine call_meetsIn PySem.F.slot_dict_values h1 PySem.F.entry_dict_values (PySem.F.args_dict_values_1 _) (Xz a gz) ⟨⟨en,ep,od,o1,o2,o3⟩,?_⟩;have I2:Inv X ψ σ H1 {s1 with heap:=s1.heap.push {cls:=.type "dict_values",data:=.fields #[.ref a]},toks:=s1.toks}:=I1.kept λb o e=>cu _ e;have HC:(s1.heap.push {cls:=.type "dict_values",data:=.fields #[.ref a]}).get? a=aj od:=cu _ o1;show dh (dz X.prog X.w) X.A (pyIter (.ref s1.heap.objs.size)) (Mw X ψ σ tg Q) X.xe {s1 with heap:=s1.heap.push {cls:=.type "dict_values",data:=.fields #[.ref a]}};generalize hh:s1.heap.push {cls:=.type "dict_values",data:=.fields #[.ref a]}=hp at *;have hv:hp.IsValuesView s1.heap.objs.size a:=⟨_,by rw[←hh];exact gw _ rfl,rfl,rfl⟩;refine aDS (s:={s1 with heap:=hp}) hv ⟨od,HC,o2,o3⟩ ?_;have I3:Inv X ψ σ H1 {s1 with heap:=hp.push {cls:=.type "dict_valueiterator",data:=.fields #[.ref a,.int 0 0,.int en.size 0,.int ep 0]},toks:=s1.toks}:=I2.kept λb o e=>cu _ e;have HB:(hp.push {cls:=.type "dict_valueiterator",data:=.fields #[.ref a,.int 0 0,.int en.size 0,.int ep 0]}).get? a=aj od:=cu _ HC;have hit:(hp.push {cls:=.type "dict_valueiterator",data:=.fields #[.ref a,.int 0 0,.int en.size 0,.int ep 0]}).IsValIter hp.objs.size a 0 en.size ep:=⟨_,gw _ rfl,rfl,rfl⟩;have Ey:H1 hp.objs.size=au:=I2.af.fresh (dw _);let⟨u,hu,u1,u2,u3,u4,tt,g4⟩:=Pt g1 e1 od;have I4:=I3.freeze hu u1 u2 u3 u4 HB;have na:hp.objs.size≠a:=Bb (ig HC);refine⟨hp.objs.size,[hp.objs.size],_,GW a od,_,rfl,I4,(show Turn X.calm X.tp X.prog X.w X.K tg _ _ _ _ from hc ▸ aKV o3),hit,λb hb=>?_,kk _ _ _ _ (t1.trans tt) g4 (Et _ a od kvs (Fz.of I1 hu u1 u2 u3)) (q3 od)⟩;have e:b=hp.objs.size:=by simpa using hb
 subst e;exact I2.kM (dw _) (by rw[aY na];exact Ey)
def Pq{o:gV}(hc:X.calm=ak)(ho:cQ X o to)(a8:su o "values" X.env (eval o X.env)=eval o X.env)(aT:(apos.endLine==ai.line)=ak) :
  t7 X tg (.Call (.Attribute o "values" apos) [] [] ai) (zB ak to):=Pr (SJ:=λ_=>kL X.K) hc ho a8 aT λ_ _ _ _ _=>Qz
def aKW{o:gV}(hc:X.calm=ak)(ho:cQ X o to)(a8:su o "values" X.env (eval o X.env)=eval o X.env)(aT:(apos.endLine==ai.line)=ak) :
  ue X tg (.Call (.Attribute o "values" apos) [] [] ai) (zB ak to):=aUT (Pq hc ho a8 aT)
def aDV{o:gV}(hc:X.calm=ak)(ho:cQ X o to)(a8:su o "values" X.env (eval o X.env)=eval o X.env)(aT:(apos.endLine==ai.line)=ak) :
  Dq X tg (.Call (.Attribute o "values" apos) [] [] ai) (zB ao to):=Pr (SJ:=λ_ src J=>kL X.K src J/\GY X src) hc ho a8 aT λ_ _ _ _ z=>⟨Qz,z⟩
end
end
section
open PySem.W
section
end
section
end
section
end
end
section
open PySem.W
section
end
section
end
end
section
open PySem.W
section
end
section
end
end
section
open PySem.W
section
end
end
section
open PySem.W
section
end
section
end
end
end L2
namespace L4
open PySem PySem.Spec PyProof.Rows L2
inductive BF where
 |len|oB|all|min|sum|Cd|B1|EK|Cc
 deriving DecidableEq
inductive MK where
 |append
 deriving DecidableEq
inductive DM where
 |DV|pop
 deriving DecidableEq
inductive GT where
 |con (d:D)|cls (a:bw)|fn (sp:jI) (n:Nat) (qt:Bool)|bf (b:BF)|bt (n:String)|kl (C:bw) (sp:jI) (dd:List D)|me (C:bw) (m:Str) (sp:jI) (dd:List D)|fl (C:bw) (f:Str)
structure SI where
 N:List Str
 fl:List Bool
 lc:List Bool
 ce:List Bool
 gl:List (Str×GT)
 gv:List Bool
 calm:Bool
mutual
inductive CE where
 |var (i:Nat)|con (d:D)|dQ (k:Nat)|neg (a:CE)|Au (a:CE)|bin (o:Operator) (a b:CE)|cmp (o:CmpOp) (a b:CE)|chain (o o':CmpOp) (a b c:CE)
 |pf (es:cS)|By (es:cS)|tup (es:cS)|lst (es:cS)|rS|ix (a b:CE)|sl (a:CE) (lo hi:CO)|call (k:Nat) (es:cS)|cn (m:MK) (o:CE) (es:cS)
 |comp (fl gv:List Bool) (ci:CI) (cc:CC) (e:CE)|fld (k:Nat) (o:CE)|dR (k:Nat) (o:CE) (es:cS)|wb (a b:CE)|o5 (o e f:CE)|As|dm (m:DM) (o e:CE) (es:cS)|sortI (k:Nat) (o:CE)|Ar (k:Nat) (o:CE)
inductive cS where
 |nil|cons (e:CE) (r:cS)
inductive CT where
 |cmp (o:CmpOp) (a b:CE)|chain (o o':CmpOp) (a b c:CE)|not (t:CT)|and (ts:om)|or (ts:om)|val (e:CE)
inductive om where
 |nil|cons (t:CT) (r:om)
inductive CO where
 |none|some (e:CE)
inductive CI where
 |any (e:CE)|wy (e:CE)|wx (a b:CE)|items (e:CE)|keys (e:CE)
inductive CC where
 |none|some (t:CT)
end
@[simp]def SI.cmp(S:SI)(xs:List Str)(fl gv:List Bool):SI:=⟨xs++S.N,xs.map (λ_=>ak)++fl,xs.map (λ_=>ak)++S.N.map (λ_=>ao),xs.map (λ_=>ao)++fl,S.gl,gv,S.calm⟩
abbrev wq:bN:=λ_ _ _=>False
abbrev Th:cb:=λ_ _ _=>False
abbrev kU:bZ->f9:=λ_ _ _=>False
abbrev Tg:Operator->R3
 |.Add=>fL
 |.Sub=>xo
 |.Mult=>p6
 |.FloorDiv=>Cy
 |.Mod=>lU
 |.Pow=>Ci
 |_=>λ_ _ _ _=>False
abbrev xj:CmpOp->R3
 |.Eq=>iL
 |.NotEq=>fE
 |.Lt=>nB
 |.LtE=>nz
 |.Gt=>B6
 |.GtE=>Az
 |.Is=>FO
 |_=>λ_ _ _ _=>False
abbrev Sx(K:Fg):BF->List D->Gp->lG->Prop
 |.len=>fJ
 |.oB=>aD K
 |.all=>AN
 |.min=>Fc
 |.sum=>xn
 |.Cd=>λ_ _ _=>False
 |.B1=>AZ
 |.EK=>z7
 |.Cc=>z8
abbrev KN(n:String):List D->Gp->lG->Prop:=if n="list" then A6 else λ_ _ _=>False
abbrev Ir:DM->Str
 |.DV=>"setdefault"
 |.pop=>"pop"
abbrev N6:DM->jS
 |.DV=>sC
 |.pop=>A0
abbrev D4:MK->String
 |.append=>"list"
abbrev D5:MK->jS
 |.append=>jC
abbrev BH:MK->Str
 |.append=>"append"
abbrev KL(T:List (Str×GT))(k:Nat):bN:=match T[k]? with
 |some (_,.con d)=>iM d
 |some (_,.cls a)=>iM (.ref a)
 |some (_,.bt n)=>iM (.ty n)
 |_=>wq
abbrev KJ(T:List (Str×GT))(K:Fg)(ex:bZ->f9)(k:Nat)(t:rZ):bN:=match T[k]? with
 |some (_,.fn sp _ _)=>aO sp ex t
 |some (_,.cls a)=>IS a t
 |some (_,.bf b)=>eU (Sx K b) t
 |some (_,.bt n)=>eU (KN n) t
 |some (_,.kl C sp dd)=>A1 C sp dd ex t
 |_=>wq
abbrev KI(T:List (Str×GT))(k:Nat)(t:bN):bN:=match T[k]? with
 |some (_,.fl C f)=>cP C t f
 |_=>wq
abbrev KH(T:List (Str×GT))(ex:bZ->f9)(k:Nat)(to:bN)(t:rZ):bN:=match T[k]? with
 |some (_,.me C m sp dd)=>cA C m sp dd ex to t
 |_=>wq
mutual
noncomputable def mE(T:List (Str×GT))(K:Fg)(ex:bZ->f9):CE->bN
 |.var i=>cO i
 |.con d=>iM d
 |.dQ k=>KL T k
 |.neg a=>AQ (mE T K ex a)
 |.Au a=>Cz (mE T K ex a)
 |.bin o a b=>aP (Tg o) (mE T K ex a) (mE T K ex b)
 |.cmp o a b=>aP (xj o) (mE T K ex a) (mE T K ex b)
 |.chain o o' a b c=>pY (xj o) (xj o') (mE T K ex a) (mE T K ex b) (mE T K ex c)
 |.pf es=>KG T K ex es
 |.By es=>HL T K ex es
 |.tup es=>lR (mA T K ex es)
 |.lst es=>n9 (mA T K ex es)
 |.rS=>A5
 |.ix a b=>aP tM (mE T K ex a) (mE T K ex b)
 |.sl a lo hi=>Fu (mE T K ex a) (mO T K ex lo) (mO T K ex hi)
 |.call k es=>KJ T K ex k (mA T K ex es)
 |.cn m o .nil=>K3 (D4 m) (D5 m) (mE T K ex o)
 |.cn m o (.cons e r)=>k7 (D4 m) (D5 m) (mE T K ex o) (aZ (mE T K ex e) (mA T K ex r))
 |.comp _ _ ci cc e=>Fd (mI T K ex ci) (mC T K cc) (mE T K kU e)
 |.fld k o=>KI T k (mE T K ex o)
 |.dR k o es=>KH T ex k (mE T K ex o) (mA T K ex es)
 |.wb a b=>aP wH (mE T K ex a) (mE T K ex b)
 |.o5 o e f=>z6 (mE T K ex o) (mE T K ex e) (mE T K ex f)
 |.As=>CL
 |.dm m o e es=>w9 (N6 m) (mE T K ex o) (aZ (mE T K ex e) (mA T K ex es))
 |.sortI _ o=>Fp (mE T K ex o)
 |.Ar _ o=>E6 (mE T K ex o)
noncomputable def mA(T:List (Str×GT))(K:Fg)(ex:bZ->f9):cS->rZ
 |.nil=>dD
 |.cons e r=>aZ (mE T K ex e) (mA T K ex r)
noncomputable def KG(T:List (Str×GT))(K:Fg)(ex:bZ->f9):cS->bN
 |.nil=>wq
 |.cons e .nil=>mE T K ex e
 |.cons e (.cons e' r)=>wD (mE T K ex e) (KG T K ex (.cons e' r))
noncomputable def HL(T:List (Str×GT))(K:Fg)(ex:bZ->f9):cS->bN
 |.nil=>wq
 |.cons e .nil=>mE T K ex e
 |.cons e (.cons e' r)=>Ck (mE T K ex e) (HL T K ex (.cons e' r))
noncomputable def mT(T:List (Str×GT))(K:Fg)(ex:bZ->f9):CT->cb
 |.cmp o a b=>aQ (aP (xj o) (mE T K ex a) (mE T K ex b))
 |.chain o o' a b c=>aQ (pY (xj o) (xj o') (mE T K ex a) (mE T K ex b) (mE T K ex c))
 |.not t=>nU (mT T K ex t)
 |.and ts=>IE T K ex ts
 |.or ts=>KD T K ex ts
 |.val e=>aQ (mE T K ex e)
noncomputable def IE(T:List (Str×GT))(K:Fg)(ex:bZ->f9):om->cb
 |.nil=>Th
 |.cons e .nil=>mT T K ex e
 |.cons e (.cons e' r)=>AR (mT T K ex e) (IE T K ex (.cons e' r))
noncomputable def KD(T:List (Str×GT))(K:Fg)(ex:bZ->f9):om->cb
 |.nil=>Th
 |.cons e .nil=>mT T K ex e
 |.cons e (.cons e' r)=>gL (mT T K ex e) (KD T K ex (.cons e' r))
noncomputable def mO(T:List (Str×GT))(K:Fg)(ex:bZ->f9):CO->tS
 |.none=>F7
 |.some e=>Ff (mE T K ex e)
noncomputable def mI(T:List (Str×GT))(K:Fg)(ex:bZ->f9):CI->dq
 |.any e=>Cw (mE T K ex e)
 |.wy e=>A4 (aZ (mE T K ex e) dD)
 |.wx a b=>A3 (aZ (mE T K ex a) (aZ (mE T K ex b) dD))
 |.items e=>zB ak (mE T K ex e)
 |.keys e=>zA ak (mE T K ex e)
noncomputable def mC(T:List (Str×GT))(K:Fg):CC->cb
 |.none=>Cv
 |.some t=>mT T K kU t
end
abbrev isStar:gV->Bool
 |.Starred ..=>ak
 |_=>ao
abbrev isSlice:gV->Bool
 |.Slice ..=>ak
 |_=>ao
abbrev bR:gV->Bool
 |.Call (.Name id _) [] [] _=>id !=("super":Str)
 |_=>ak
abbrev isSet:gV->Bool
 |.Set ..=>ak
 |_=>ao
abbrev aL5:BF->String
 |.len=>"len"
 |.oB=>"isinstance"
 |.all=>"all"
 |.min=>"min"
 |.sum=>"sum"
 |.Cd=>"sorted"
 |.B1=>"len"
 |.EK=>"sorted"
 |.Cc=>"dict"
abbrev ID:BF->bh
 |.Cc=>.type "dict"
 |b=>.builtin (aL5 b)
abbrev Jh:BF->Bool
 |.len=>ak
 |.oB=>ak
 |.B1=>ak
 |.Cd=>ak
 |_=>ao
abbrev vO(S:SI):Bool:=(lg S.gl.length).any λk=>S.gv[k]?==aj ak&&match S.gl[k]? with
 |some (y,.bt n)=>y==("range":Str)&&n=="range"
 |_=>ao
abbrev KC(S:SI)(y:Str):Bool:=(lg S.N.length).any λi=>S.N[i]?==aj y&&S.ce[i]?==aj ak
abbrev E4:List Str->Bool
 |[]=>ak
 |x::r=>!r.contains x&&E4 r
abbrev AH(S:SI)(xs:List Str)(scope:di)(fl gv:List Bool):Bool :=
 scope.kind==.function&&scope.names.all (λy=>y.2 !=.cell&&(y.2 !=.local||scope.names.lookup y.1==aj .local)&&(y.2 !=.free||KC S y.1)) &&
 xs.all (λx=>scope.names.lookup x==aj .local&&!S.N.contains x&&x !=("__debug__":Str)&&x !=("__classdict__":Str))&&E4 xs &&
 S.N.all (λy=>scope.names.lookup y !=aj .local) &&
 (lg S.N.length).all (λi=>fl[i]? !=aj ak||(S.fl[i]?==aj ak&&match S.N[i]? with
  |some y=>scope.names.lookup y==aj .free
  |none=>ao)) &&
 (lg S.gl.length).all (λk=>gv[k]? !=aj ak||match S.gl[k]? with
  |some (y,_)=>scope.names.lookup y==aj .globalImplicit
  |none=>ao)
abbrev Tf:D->Const->Bool
 |.int i,.int j=>i==j
 |.str s,.str t=>s==t
 |.bl b,.bool c=>b==c
 |.ag,.none=>ak
 |_,_=>ao
abbrev plainT:gV->Bool
 |.UnaryOp .Not _ _=>ao
 |.BoolOp ..=>ao
 |.IfExp ..=>ao
 |.Compare ..=>ao
 |_=>ak
abbrev IC(S:SI)(k:Nat)(x:Str):Bool:=match S.gl[k]? with
 |some (y,.con _)=>y==x
 |some (y,.cls _)=>y==x
 |some (y,.bt _)=>y==x
 |_=>ao
abbrev EJ(S:SI)(k:Nat)(x:Str)(e:Bool):Bool:=match S.gl[k]? with
 |some (y,.fn _ _ qt)=>y==x&&(qt||S.calm)
 |some (y,.cls _)=>y==x
 |some (y,.bf b)=>y==x&&e&&(S.calm||Jh b)
 |some (y,.bt _)=>y==x&&e
 |some (y,.kl _ _ _)=>y==x&&S.calm
 |_=>ao
abbrev Aq(S:SI)(k:Nat)(x:Str):Bool:=match S.gl[k]? with
 |some (_,.fl _ f)=>f==x
 |_=>ao
abbrev FE(S:SI)(k:Nat)(x:Str):Bool:=match S.gl[k]? with
 |some (_,.me _ m _ _)=>m==x
 |_=>ao
abbrev Ap(S:SI)(k:Nat)(x:Str)(nm:String):Bool:=match S.gl[k]? with
 |some (y,.bf b)=>y==x&&ID b==.builtin nm
 |_=>ao
abbrev tR:gV->Option (gV×Str×Bool)
 |.Call (.Attribute y n ap) [] [] cp=>aj (y,n,ap.endLine==cp.line)
 |_=>au
abbrev s1:gV->Nat
 |.Call f _ _ _=>f.ctorIdx
 |.ListComp _ (g::_) _ _=>g.target.ctorIdx
 |_=>99
abbrev Ec:CE->Nat
 |.var _=>23
 |.con _=>19
 |.dQ _=>23
 |.neg _=>3
 |.Au _=>3
 |.bin _ _ _=>2
 |.cmp _ _ _=>15
 |.chain _ _ _ _ _=>15
 |.pf _=>0
 |.By _=>0
 |.tup _=>25
 |.lst _=>24
 |.rS=>6
 |.ix _ _=>21
 |.sl _ _ _=>21
 |.call _ _=>16
 |.cn _ _ _=>16
 |.comp _ _ _ _ _=>8
 |.fld _ _=>20
 |.dR _ _ _=>16
 |.wb _ _=>21
 |.o5 _ _ _=>16
 |.As=>6
 |.dm _ _ _ _=>16
 |.sortI _ _=>16
 |.Ar _ _=>16
abbrev Ed:CE->Nat
 |.call _ _=>23
 |.cn _ _ _=>20
 |.comp _ _ _ _ _=>23
 |.dR _ _ _=>20
 |.o5 _ _ _=>20
 |.dm _ _ _ _=>20
 |.sortI _ _=>23
 |.Ar _ _=>23
 |_=>99
abbrev ck(c:CE)(e:gV):Bool:=(Ec c==99||e.ctorIdx==Ec c)&&(Ed c==99||s1 e==Ed c)
mutual
noncomputable def k0(S:SI):CE->gV->Bool
 |.var i,.Name x _=>S.N[i]?==aj x&&S.fl[i]?==aj ak
 |.con d,.Constant c _ _=>Tf d c
 |.dQ k,.Name x _=>S.gv[k]?==aj ak&&IC S k x
 |.neg a,.UnaryOp .USub e _=>(ck a e&&k0 S a e)
 |.Au a,.UnaryOp .Not e _=>(ck a e&&k0 S a e)
 |.bin o a b,.BinOp x o' y _=>o==o'&&(ck a x&&k0 S a x)&&(ck b y&&k0 S b y)
 |.cmp o a b,.Compare x [o'] [y] _=>o==o'&&!behindInMarks o' y&&(ck a x&&k0 S a x)&&(ck b y&&k0 S b y)
 |.chain o o' a b c,.Compare x [p,p'] [y,z] _=>o==p&&o'==p'&&!lastMarks [p,p'] [y,z]&&(ck a x&&k0 S a x)&&(ck b y&&k0 S b y)&&(ck c z&&k0 S c z)
 |.pf es,.BoolOp .And xs _=>xG S es xs
 |.By es,.BoolOp .Or xs _=>xG S es xs
 |.tup es,.Tuple xs _ _=>xG S es xs
 |.lst es,.List xs _=>xG S es xs
 |.rS,.Dict [] [] _=>ak
 |.ix a b,.Subscript x y _=>!isSlice y&&(ck a x&&k0 S a x)&&(ck b y&&k0 S b y)
 |.sl a lo hi,.Subscript x (.Slice l h au _) _=>(ck a x&&k0 S a x)&&kO S lo l&&kO S hi h
 |.call k es,.Call (.Name x _) xs [] _=>xG S es xs&&S.gv[k]?==aj ak&&EJ S k x (!xs.isEmpty)
 |.cn m o es,.Call (.Attribute y n ap) xs [] cp=>n==BH m&&bR y&&ap.endLine==cp.line&&decide (xs.length<30)&&(ck o y&&k0 S o y)&&xG S es xs
 |.comp fl gv ci cc e,.ListComp elt [⟨.Name x _,iter,ifs,a⟩] scope _=>a==0&&AH S [x] scope fl gv&&!isSet iter&&kI S ao ci iter&&kC (S.cmp [x] fl gv) cc ifs&&(ck e elt&&k0 (S.cmp [x] fl gv) e elt)
 |.fld k o,.Attribute y n _=>Aq S k n&&bR y&&(ck o y&&k0 S o y)
 |.dR k o es,.Call (.Attribute y n ap) xs [] cp=>FE S k n&&S.calm&&bR y&&ap.endLine==cp.line&&decide (xs.length<30)&&(ck o y&&k0 S o y)&&xG S es xs
 |.wb a b,.Subscript x y _=>!isSlice y&&(ck a x&&k0 S a x)&&(ck b y&&k0 S b y)
 |.o5 o e f,.Call (.Attribute y n ap) [x,z] [] cp=>n==("get":Str)&&bR y&&ap.endLine==cp.line&&!isStar x&&!isStar z&&(ck o y&&k0 S o y)&&(ck e x&&k0 S e x)&&(ck f z&&k0 S f z)
 |.As,.Dict [] [] _=>ak
 |.dm m o e es,.Call (.Attribute y n ap) (x::xs) [] cp=>n==Ir m&&bR y&&ap.endLine==cp.line&&decide ((x::xs).length<30)&&(ck o y&&k0 S o y)&&!isStar x&&(ck e x&&k0 S e x)&&xG S es xs
 |.sortI k o,.Call (.Name x _) [w] [] _=>S.calm&&S.gv[k]?==aj ak&&Ap S k x "sorted"&&(match tR w with
  |some (y,n,l)=>l&&n==("items":Str)&&bR y&&(ck o y&&k0 S o y)
  |none=>ao)
 |.Ar k o,.Call (.Name x _) [w] [] _=>S.calm&&S.gv[k]?==aj ak&&Ap S k x "sum"&&(match tR w with
  |some (y,n,l)=>l&&n==("values":Str)&&bR y&&(ck o y&&k0 S o y)
  |none=>ao)
 |_,_=>ao
noncomputable def xG(S:SI):cS->List gV->Bool
 |.nil,[]=>ak
 |.cons e r,x::xs=>!isStar x&&(ck e x&&k0 S e x)&&xG S r xs
 |_,_=>ao
noncomputable def kT(S:SI):CT->gV->Bool
 |.cmp o a b,.Compare x [o'] [y] _=>o==o'&&!behindInMarks o' y&&(ck a x&&k0 S a x)&&(ck b y&&k0 S b y)
 |.chain o o' a b c,.Compare x [p,p'] [y,z] _=>o==p&&o'==p'&&!lastMarks [p,p'] [y,z]&&(ck a x&&k0 S a x)&&(ck b y&&k0 S b y)&&(ck c z&&k0 S c z)
 |.not t,.UnaryOp .Not e _=>kT S t e
 |.and ts,.BoolOp .And xs _=>i9 S ts xs
 |.or ts,.BoolOp .Or xs _=>i9 S ts xs
 |.val e,x=>plainT x&&(ck e x&&k0 S e x)
 |_,_=>ao
noncomputable def i9(S:SI):om->List gV->Bool
 |.nil,[]=>ak
 |.cons e r,x::xs=>kT S e x&&i9 S r xs
 |_,_=>ao
noncomputable def kO(S:SI):CO->Option gV->Bool
 |.none,au=>ak
 |.some e,aj x=>(ck e x&&k0 S e x)
 |_,_=>ao
noncomputable def kI(S:SI)(tt:Bool):CI->gV->Bool
 |.any e,x=>(ck e x&&k0 S e x)
 |.wy e,.Call (.Name r _) [y] [] _=>r==("range":Str)&&vO S&&!isStar y&&(ck e y&&k0 S e y)
 |.wx a b,.Call (.Name r _) [y,z] [] _=>r==("range":Str)&&vO S&&!isStar y&&!isStar z&&(ck a y&&k0 S a y)&&(ck b z&&k0 S b z)
 |.items e,x=>S.calm&&(match tR x with
  |some (y,n,l)=>l&&n==("values":Str)&&bR y&&(ck e y&&k0 S e y)
  |none=>ao)
 |.keys e,x=>S.calm&&(ck e x&&k0 S e x)
 |_,_=>ao
noncomputable def kC(S:SI):CC->List gV->Bool
 |.none,[]=>ak
 |.some t,[x]=>kT S t x
 |_,_=>ao
end
abbrev kE(S:SI)(c:CE)(e:gV):Bool:=ck c e&&k0 S c e
end L4
namespace L4
open PySem PySem.Spec PyProof.Rows L2
variable{env:Env}
def aU(h:isStar e=ao):iz (e::es) env=(ao,eval e env)::iz es env:=by
 cases e<;>first|rfl|(exact absurd (show ak=ao from h) (by decide))
def tU{S:SI}{env:Env}{pos:Pos}:∀{cs:cS}{xs:List gV},xG S cs xs=ak->(qz pos (iz xs env)).any (·.1)=ao
 |.nil,[],_=>rfl
 |.nil,_::_,h=>absurd (show ao=ak from h) (by decide)
 |.cons _ _,[],h=>absurd (show ao=ak from h) (by decide)
 |.cons e r,x::xs,h=>by
  have h':(!isStar x&&kE S e x&&xG S r xs)=ak:=h;simp only[bx,iu]at h';rw[aU h'.1.1];show(ao||(qz pos (iz xs env)).any (·.1))=ao;rw[tU h'.2];rfl
def mX{o:gV}{n:Str}(h:bR o=ak):su o n env (eval o env)=eval o env:=by
 cases o with
 |Call f args mP pos =>
  cases f with
  |Name id p =>
   cases args with
   |nil =>
    cases mP with
    |nil =>
     have h':(id !=("super":Str))=ak:=h;unfold su;simp only[h',Bool.true_or,if_true]
    |cons _ _=>rfl
   |cons _ _=>cases mP<;>rfl
  |_=>rfl
 |_=>rfl
@[simp]def Hc:List bh:=[.type "ValueError",.type "Exception",.type "BaseException",.type "object"]
abbrev Sw(X:Cx)(cm:Bool)(x:Str):GT->Prop
 |.con d=>∃u v,X.mg x=aj u/\RelV v u/\∀H,RD X.K H d v
 |.cls a=>X.mg x=aj (.ref a)/\yw X.K a Hc "ValueError.__new__"=ak
 |.fn sp n qt=>(qt=ak∨cm=ak)->∃k f fd ps,bM qt X.prog X.w X.K X.mg X.base (jY X.prog X.w) k f fd ps (cJ X.K sp)/\mZ qt k X.A/\X.mg x=aj (.ref f)/\qp X.K (.ref f)=ak/\Binds X.K fd ps []
 |.bf b=>X.mg x=au/\mz x=aj (ID b)
 |.bt n=>X.mg x=au/\mz x=aj (.type n)
 |.kl C sp dd=>cm=ak->∃k f fd ps ds bu,Mk X.K C f/\bM ao X.prog X.w X.K X.mg X.base (jY X.prog X.w) k f fd ps (cJ X.K sp)/\mZ ao (k+1) X.A/\X.mg x=aj (.ref C)/\Binds X.K fd ps ds/\Vals bu ds/\∀H,cV X.K H dd bu
 |.me C m sp dd=>cm=ak->∃k f fd ps ds bu,gc X.K C/\Meth X.K C m f/\bM ao X.prog X.w X.K X.mg X.base (jY X.prog X.w) k f fd ps (cJ X.K sp)/\mZ ao k X.A/\Binds X.K fd ps ds/\Vals bu ds/\∀H,cV X.K H dd bu
 |.fl C f=>gc X.K C/\j6 X.K C f
structure sI(X:Cx)(S:SI)(ex:bZ->f9):Prop where
 N:X.N=S.N
 nd:X.N.Nodup
 qE:∀(i:Nat)(x:Str),S.N[i]?=aj x->S.fl[i]?=aj ak->yi X.env.scope x/\(x==("__debug__":Str))=ao/\(x==("__classdict__":Str))=ao
 ce:∀(i:Nat)(x:Str),S.N[i]?=aj x->S.ce[i]?=aj ak->X.env.kindOf x=aj .cell∨X.env.kindOf x=aj .free
 gm:∀(k:Nat)(x:Str)(g:GT),S.gl[k]?=aj (x,g)->(S.gv[k]?=aj ak->Gl X x)/\(x==("__debug__":Str))=ao/\x≠"__name__"/\Sw X S.calm x g
 hu:X.A.units+64<uc
 cm:S.calm=ak->X.calm=ak
 cat:lT X ex
def sI.gl{S:SI}{ex:bZ->f9}(Q:sI X S ex)(k:Nat)(x:Str)(g:GT)(h:S.gl[k]?=aj (x,g))(hv:S.gv[k]?=aj ak):Gl X x/\(x==("__debug__":Str))=ao/\x≠"__name__"/\Sw X S.calm x g :=
 ⟨(Q.gm k x g h).1 hv,(Q.gm k x g h).2⟩
section
variable{X:Cx}{S:SI}{ex:bZ->f9}
def Oq:cQ X e wq:=λ_ _ _ _ _ _ ⟨_,_,_,_,_,z,_⟩=>z.elim
def aDZ{o:Operator}:lI X (vq o) (Tg o):=by
 have no:∀{f:bh->bh->Sem bh},lI X f (λ_ _ _ _=>False):=λ{f}=>⟨λ_ _ _ _=>False,λ_ _ _ _ _ _ _ _ _ _ _ _ h=>h.elim,λ_ _ _ _ _ _ _ _ _ _ _ h _=>h.elim⟩;exact match o with
 |.Add=>aP9
 |.Sub=>aP5
 |.Mult=>aP6
 |.FloorDiv=>aIU
 |.Mod=>aP7
 |.Pow=>aP8
 |.MatMult=>no
 |.Div=>no
 |.LShift=>no
 |.RShift=>no
 |.BitOr=>no
 |.BitXor=>no
 |.BitAnd=>no
def Bf{o:CmpOp}(hu:X.A.units+64<uc):fS X (ou o) (xj o):=by
 have no:∀{f:bh->bh->Sem bh},fS X f (λ_ _ _ _=>False):=λ{f}=>Jp λ_ _ _ _ _ _ _ _ _ _ _ _ _ _ _ _ _ _ _ h _=>h.elim;exact match o with
 |.Eq=>aUI hu
 |.NotEq=>aUJ hu
 |.Lt=>aU0
 |.LtE=>aU3
 |.Gt=>aU1
 |.GtE=>aU2
 |.Is=>aU4
 |.IsNot=>no
 |.In=>no
 |.NotIn=>no
private theorem aQK{n:String}:j7 X (.type n) (KN n):=by
 unfold KN;split
 ·rename_i h;subst h;exact aJ7
 .skip
  exact λ_ _ _ _ _ _ _ _ _ _ _ _ _ _ h _=>h.elim
def Xy{qt:Bool}{k:Nat}{x:Str}{pos:Pos}(F:bM qt X.prog X.w X.K X.mg X.base (jY X.prog X.w) k f fd ps (cJ X.K sp))(hr:mZ qt k X.A)(hg:Gl X x)(hm:X.mg x=aj (.ref f))(hk:qp X.K (.ref f)=ak)(hb:Binds X.K fd ps [])(hx:lT X ex)
  (hU:(x==("__debug__":Str))=ao):cQ X (.Call (.Name x p) [] [] pos) (aO sp ex dD):=by
 intro ψ s σ H Q I h;let⟨ρ,G,R,sr,g,q,kk⟩:=h;refine yq (rY I hg hm ?_ hU);refine LS I.b7 hk ?_;exact PY (E:=nX X.K (ex ρ)) F hr hb (λe s' c=>hx.Ch ψ σ H s ρ e s' I sr c) I .nil (Q:=λv H'=>∃d G',RD X.K H' d v/\HR X.K H' G'/\R d G') ⟨[],G,R,ex ρ,.nil,g,q,λv H' d G' r2 g2 q2=>⟨d,G',r2,g2,q2⟩,λC H' G' g' q'=>⟨C,G',rfl,g',q'⟩⟩ (by rintro v H' t2 ⟨d,G',r2,g2,q2⟩;exact kk v H' d G' t2 r2 g2 q2)
def Co{xs:List gV}{cs:cS}{cp:Pos}(h:xG S cs xs=ak)(hl:xs.length<30):((qz cp (iz xs X.env)).all (λx=>!x.1)&&(backToKw cp (oj [] X.env)).all (λx=>x.1.isSome)
   &&decide (xs.length+([]:List hX).length+(if([]:List hX).isEmpty then 0 else 1)<30))=ak:=by
 have h1:(qz cp (iz xs X.env)).all (λx=>!x.1)=ak:=by
  rw[kh];intro y hy;have:=tU (env:=X.env) (pos:=cp) h;rw[List.any_eq_false]at this;have:=this y hy;simpa using this
 have h2:(decide (xs.length+([]:List hX).length+(if([]:List hX).isEmpty then 0 else 1)<30))=ak:=decide_eq_true (by simpa using hl);rw[h1,h2];rfl
end
end L4
namespace L4
open PySem PySem.Spec PyProof.Rows L2
variable{m:MK}{ap cp:Pos}{cs:cS}{env:Env}
section
variable{X:Cx}{S:SI}{ex:bZ->f9}
def aL7{d:D}{c:Const}{j:Nat}{pos:Pos}(h:Tf d c=ak):cQ X (.Constant c j pos) (iM d):=by
 cases d<;>cases c<;>first|exact absurd (show ao=ak from h) (by decide)|skip
 .exact aOP
 .have:=beq_iff_eq.mp h;subst this;exact aTW
 .have:=beq_iff_eq.mp h;subst this;exact aOO
 .have:=beq_iff_eq.mp h;subst this;exact aOQ
def aL8{e:gV}(h:plainT e=ak):∀whole,isTrue e X.env whole=(do let v ←whole;standAt e.pos;holding [v] (truthy v)):=by
 cases e with
 |UnaryOp op x p=>cases op<;>first|exact absurd (show ao=ak from h) (by decide)|(intro _;rfl)
 |BoolOp _ _ _=>exact absurd (show ao=ak from h) (by decide)
 |IfExp _ _ _ _=>exact absurd (show ao=ak from h) (by decide)
 |Compare _ _ _ _=>exact absurd (show ao=ak from h) (by decide)
 |_=>intro _;rfl
def Te(h:isSlice e=ao):JP e:=by
 cases e with
 |Slice _ _ _ _=>exact absurd (show ak=ao from h) (by decide)
 |_=>intro _ _;rfl
def aQL(Q:sI X S ex){k:Nat}{x:Str}{b:BF}(hk:S.gl[k]?=aj (x,.bf b))(hv:S.gv[k]?=aj ak)(hc:(S.calm||Jh b)=ak){t:rZ}{pos:Pos}(ha:dS X (e::es) t)(he:isStar e=ao)(hp:(qz pos (iz es X.env)).any (·.1)=ao):cQ X (.Call (.Name x p) (e::es) [] pos) (eU (Sx X.K b) t):=by
 let⟨h1,h2,h3,h4⟩:=Q.gl _ _ _ hk hv
 have cm:Jh b=ao->X.calm=ak:=λz=>by
  rw[z,Bool.or_false]at hc;exact Q.cm hc
 cases b with
 |len=>exact vL aPJ h1 h4.1 h4.2 ha h3 h2 (aU he) hp
 |oB=>exact vL ah4 h1 h4.1 h4.2 ha h3 h2 (aU he) hp
 |all=>exact vL (aPU (cm rfl)) h1 h4.1 h4.2 ha h3 h2 (aU he) hp
 |min=>exact vL (aJY (cm rfl)) h1 h4.1 h4.2 ha h3 h2 (aU he) hp
 |sum=>exact vL (aPX (cm rfl)) h1 h4.1 h4.2 ha h3 h2 (aU he) hp
 |Cd=>exact vL (λ_ _ _ _ _ _ _ _ _ _ _ _ _ _ q _=>q.elim) h1 h4.1 h4.2 ha h3 h2 (aU he) hp
 |B1=>exact vL aK6 h1 h4.1 h4.2 ha h3 h2 (aU he) hp
 |EK=>exact vL (aDJ (cm rfl)) h1 h4.1 h4.2 ha h3 h2 (aU he) hp
 |Cc=>exact QZ (aDL (cm rfl)) h1 h4.1 h4.2 ha h3 h2 (aU he) hp
def aE0{o:gV}(ho:cQ X o to)(hb:bR o=ak)(hl:(ap.endLine==cp.line)=ak):cQ X (.Call (.Attribute o (BH m) ap) [] [] cp) (K3 (D4 m) (D5 m) to):=by
 cases m with
 |append=>exact aPL PySem.F.plainAttrs_list PySem.F.slot_list_append PySem.F.type_list_append QY ho (mX hb) hl
def Xx{o:gV}{t:rZ}(ho:cQ X o to)(ha:dS X (e::es) t)(hb:bR o=ak)(hl:(ap.endLine==cp.line)=ak)(hk:xG S cs (e::es)=ak)(hn:(e::es).length<30) :
  cQ X (.Call (.Attribute o (BH m) ap) (e::es) [] cp) (k7 (D4 m) (D5 m) to t):=by
 have he:isStar e=ao:=by
  cases cs with
  |nil=>exact absurd (show ao=ak from hk) (by decide)
  |cons c r =>
   have h':(!isStar e&&kE S c e&&xG S r es)=ak:=hk;simp only[bx,iu]at h';exact h'.1.1
 have hp:(qz cp (iz es X.env)).any (·.1)=ao:=by
  have:=tU (env:=X.env) (pos:=cp) hk;rw[aU he]at this;have z:(ao||(qz cp (iz es X.env)).any (·.1))=ao:=this;simpa using z
 cases m with
 |append=>exact aUM PySem.F.plainAttrs_list PySem.F.slot_list_append PySem.F.type_list_append QY ho ha (mX hb) (Co hk hn) hl (aU he) hp
def aQM{m:DM}{o:gV}{t:rZ}(hu:X.A.units+64<uc)(ho:cQ X o to)(ha:dS X (e::es) t)(hb:bR o=ak)(hl:(ap.endLine==cp.line)=ak)(hk:xG S cs (e::es)=ak)(hn:(e::es).length<30) :
  cQ X (.Call (.Attribute o (Ir m) ap) (e::es) [] cp) (w9 (N6 m) to t):=by
 have he:isStar e=ao:=by
  cases cs with
  |nil=>exact absurd (show ao=ak from hk) (by decide)
  |cons c r =>
   have h':(!isStar e&&kE S c e&&xG S r es)=ak:=hk;simp only[bx,iu]at h';exact h'.1.1
 have hp:(qz cp (iz es X.env)).any (·.1)=ao:=by
  have:=tU (env:=X.env) (pos:=cp) hk;rw[aU he]at this;have z:(ao||(qz cp (iz es X.env)).any (·.1))=ao:=this;simpa using z
 cases m with
 |DV=>exact Sz PySem.F.slot_dict_setdefault PySem.F.type_dict_setdefault (aQ3 hu) ho ha (mX hb) (Co hk hn) hl (aU he) hp
 |pop=>exact Sz PySem.F.slot_dict_pop PySem.F.type_dict_pop (aK5 hu) ho ha (mX hb) (Co hk hn) hl (aU he) hp
local macro_rules| `(tactic| walk_at "off")=>`(tactic| exact absurd (show ao=ak from by assumption) (by decide))
private theorem aL9(Q:sI X S ex){k:Nat}{x:Str}(h:kE S (.dQ k) (.Name x p)=ak):cQ X (.Name x p) (KL S.gl k):=by
 have h':(S.gv[k]?==aj ak&&IC S k x)=ak:=h;rw[bx]at h';let⟨hv,h⟩:=h';have hv:=beq_iff_eq.mp hv;unfold IC at h;unfold KL;split at h
 .rename_i y d hk;have:=beq_iff_eq.mp h;subst this;let⟨h1,h2,h3,u,v,h4,h5,h6⟩:=Q.gl _ _ _ hk hv;exact OP h1 h4 h5 h6 h2
 .rename_i y d hk;have:=beq_iff_eq.mp h;subst this;let⟨h1,h2,h3,h4⟩:=Q.gl _ _ _ hk hv;exact OP h1 h4.1 (v:=.ref d) rfl (λ_=>.ref _) h2
 .rename_i y d hk;have:=beq_iff_eq.mp h;subst this;let⟨h1,h2,h3,h4⟩:=Q.gl _ _ _ hk hv;exact aIQ h1 h4.1 h4.2 h3 h2
 .exact absurd h (by decide)
private theorem aE1(Q:sI X S ex){k:Nat}{x:Str}{pos:Pos}{xs:List gV}(ha:dS X xs (mA S.gl X.K ex es))(hk:xG S es xs=ak)(hv:S.gv[k]?=aj ak)(h:EJ S k x (!xs.isEmpty)=ak):cQ X (.Call (.Name x p) xs [] pos) (KJ S.gl X.K ex k (mA S.gl X.K ex es)):=by
 unfold EJ at h;unfold KJ
 have one:∀{e:gV}{r:List gV},xs=e::r->isStar e=ao/\(qz pos (iz r X.env)).any (·.1)=ao:=λ{e r} z=>by
  subst z;cases es with
  |nil=>exact absurd (show ao=ak from hk) (by decide)
  |cons c cr =>
   have h':(!isStar e&&kE S c e&&xG S cr r)=ak:=hk;simp only[bx,iu]at h';exact⟨h'.1.1,tU h'.2⟩
 split at h
 .rename_i y sp n qt hg;rw[bx]at h;let⟨h,hc⟩:=h;have:=beq_iff_eq.mp h;subst this;let⟨h1,h2,h3,h4⟩:=Q.gl _ _ _ hg hv;let⟨j,f,fd,ps,F,hr,hm,NN,hb⟩:=h4 (Gh _ _ |>.mp hc);cases xs with
  |nil =>
   cases es with
   |nil=>exact Xy F hr h1 hm NN hb Q.cat h2
   |cons _ _=>exact absurd (show ao=ak from hk) (by decide)
  |cons e r=>exact aCL F hr h1 hm NN hb Q.cat ha h2 (aU (one rfl).1) (one rfl).2
 .rename_i y a hg;have:=beq_iff_eq.mp h;subst this;let⟨h1,h2,h3,h4,h5⟩:=Q.gl _ _ _ hg hv;cases xs with
  |nil =>
   cases es with
   |nil=>exact aJZ PySem.F.excBase_ValueError (by decide) PySem.F.excBase_ValueError h1 h4 h5 h2
   |cons _ _=>exact absurd (show ao=ak from hk) (by decide)
  |cons e r=>exact aPZ PySem.F.excBase_ValueError (by decide) PySem.F.excBase_ValueError h1 h4 h5 ha h2 (aU (one rfl).1) (one rfl).2
 .rename_i y b hg;rw[bx,bx]at h;let⟨⟨h,hc⟩,eI⟩:=h;have:=beq_iff_eq.mp h;subst this;cases xs with
  |nil=>exact absurd (show ao=ak from hc) (by decide)
  |cons e r=>exact aQL Q hg hv eI ha (one rfl).1 (one rfl).2
 .rename_i y n hg;rw[bx]at h;let⟨h,hc⟩:=h;have:=beq_iff_eq.mp h;subst this;let⟨h1,h2,h3,h4⟩:=Q.gl _ _ _ hg hv;cases xs with
  |nil=>exact absurd (show ao=ak from hc) (by decide)
  |cons e r=>exact QZ aQK h1 h4.1 h4.2 ha h3 h2 (aU (one rfl).1) (one rfl).2
 .rename_i y C sp dd hg;rw[bx]at h;let⟨h,hc⟩:=h;have:=beq_iff_eq.mp h;subst this;let⟨h1,h2,h3,h4⟩:=Q.gl _ _ _ hg hv;let⟨kk,f,fd,ps,ds,bu,q1,q2,q3,q4,q5,q6,q7⟩:=h4 hc;cases xs with
  |nil =>
   cases es with
   |nil=>exact XQ q1 q2 q3 h1 q4 q5 q6 q7 Q.cat h2
   |cons _ _=>exact absurd (show ao=ak from hk) (by decide)
  |cons e r=>exact aD4 q1 q2 q3 h1 q4 q5 q6 q7 Q.cat ha h2 (aU (one rfl).1) (one rfl).2
 .exact absurd h (by decide)
def tV{names:List (Str×ux)}{k:ux}(h:names.lookup y=aj k) :
  (names.map λ(n,k)=>if(k==.free&&env.scope.kind==.function&&env.kindOf n==aj .cell)then(n,.cell)else(n,k)).lookup y=aj k ∨
  (k=.free/\(names.map λ(n,k)=>if(k==.free&&env.scope.kind==.function&&env.kindOf n==aj .cell)then(n,.cell)else(n,k)).lookup y=aj .cell):=by
 induction names with
 |nil=>simp at h
 |cons p r ih =>
  let⟨n,kd⟩:=p;rw[wg]at h;show yu y ((if(kd==.free&&env.scope.kind==.function&&env.kindOf n==aj .cell)=ak then(n,ux.cell)else(n,kd))::_)=aj k∨(k=.free/\yu y ((if(kd==.free&&env.scope.kind==.function&&env.kindOf n==aj .cell)=ak then(n,ux.cell)else(n,kd))::_)=aj .cell);cases hx:y==n with
  |true =>
   rw[hx]at h;have Em:kd=k:=by simpa using h
   subst Em;by_cases hc:(kd==.free&&env.scope.kind==.function&&env.kindOf n==aj .cell)=ak
   .rw[if_pos hc,wg,hx];refine .inr ⟨?_,rfl⟩;simp only[bx,beq_iff_eq]at hc;exact hc.1.1
   .rw[if_neg hc,wg,hx];exact .inl rfl
  |false =>
   rw[hx]at h;have z:=ih h;by_cases hc:(kd==.free&&env.scope.kind==.function&&env.kindOf n==aj .cell)=ak
   .rw[if_pos hc,wg,hx];exact z
   .rw[if_neg hc,wg,hx];exact z
def Rp:∀{xs:List Str},E4 xs=ak->xs.Nodup
 |[],_=>List.nodup_nil
 |x::r,h=>by
  have h':(!r.contains x&&E4 r)=ak:=h;rw[bx]at h';exact vp.mpr ⟨by simpa using h'.1,Rp h'.2⟩
def T4{xs:List Str}{scope:di}{fl gv:List Bool}(h:AH S xs scope fl gv=ak) :
  scope.kind=.function/\(∀y∈scope.names,y.2≠.cell/\(y.2=.local->scope.names.lookup y.1=aj .local)/\(y.2=.free->KC S y.1=ak)) /\
  (∀x∈xs,scope.names.lookup x=aj .local/\x∉S.N/\(x==("__debug__":Str))=ao/\(x==("__classdict__":Str))=ao)/\xs.Nodup/\(∀y∈S.N,scope.names.lookup y≠aj .local) /\
  (∀(i:Nat)(y:Str),S.N[i]?=aj y->fl[i]?=aj ak->S.fl[i]?=aj ak/\scope.names.lookup y=aj .free) /\
  ∀(k:Nat)(y:Str)(g:GT),S.gl[k]?=aj (y,g)->gv[k]?=aj ak->scope.names.lookup y=aj .globalImplicit:=by
 unfold AH at h;simp only[bx]at h;let⟨⟨⟨⟨⟨⟨h1,h2⟩,h3⟩,h4⟩,h5⟩,h8⟩,h9⟩:=h;refine⟨beq_iff_eq.mp h1,λy hy=>?_,λx hx=>?_,Rp h4,λy hy=>?_,λi y e1 e2=>?_,λk y g e1 e2=>?_⟩
 .have z:=kh.mp h2 y hy;simp only[bx,bne_iff_ne,ne_eq,Gh,beq_iff_eq]at z;let⟨⟨z1,z2⟩,z3⟩:=z;exact⟨z1,λe=>z2.resolve_left λn=>n e,λe=>z3.resolve_left λn=>n e⟩
 .have z:=kh.mp h3 x hx;simp only[bx]at z;let⟨⟨⟨z1,z2⟩,z3⟩,z4⟩:=z;exact⟨beq_iff_eq.mp z1,by simpa using z2,by simpa using z3,by simpa using z4⟩
 .have z:=kh.mp h5 y hy;simpa using z
 .have z:=kh.mp h8 i (yx.mpr (jl.mp e1).1);rw[e2,e1]at z;simpa using z
 .have z:=kh.mp h9 k (yx.mpr (jl.mp e1).1);rw[e2,e1]at z;simpa using z
def Lo(Q:sI X S ex){fl gv:List Bool}(h:AH S xs scope fl gv=ak):xt X xs scope:=by
 let⟨h1,h2,h3,h4,h5,h8,h9⟩:=T4 h;refine⟨h1,λy hy=>(h2 y hy).1,λy hy=>(h2 y hy).2.1,λx hx=>(h3 x hx).1,λy hy e=>?_,λx hx=>by rw[Q.N];exact(h3 x hx).2.1,h4,by rw[Q.N];exact h5⟩;have z:=(h2 y hy).2.2 e;unfold KC at z;let⟨i,_,z⟩:=List.any_eq_true.mp z;rw[bx]at z;exact Q.ce i y.1 (beq_iff_eq.mp z.1) (beq_iff_eq.mp z.2)
def Oo{X:Cx}:lT X kU:=⟨by rintro _ _ _ _ _ _ _ _ _ ⟨_,_,_,_,_,_,_,_,_,_,_,_,_,_,_,_,z⟩;exact z.elim⟩
def Ro{α:Type}{xs ys:List α}{i:Nat}{y:α}(h:(xs++ys)[i]?=aj y):(i<xs.length/\y∈xs)∨∃j,i=xs.length+j/\ys[j]?=aj y:=by
 by_cases c:i<xs.length
 .rw[GP c]at h;exact .inl ⟨c,qg h⟩
 .rw[Dj ⋯]at h;exact .inr ⟨i - xs.length,⋯,h⟩
def Pp{α β:Type}{xs:List α}{f:α->β}{ys:List β}{j:Nat}:(xs.map f++ys)[xs.length+j]?=ys[j]?:=by
 rw[Dj (by simp)];congr 1;simp
def sI.cmp(Q:sI X S ex){fl gv:List Bool}(h:AH S xs scope fl gv=ak)(C:bw)(s:dg)(H:Hp)(fp:List bw)(ψ:List (bw×Obj)):sI (wG X xs scope C s H fp ψ) (S.cmp xs fl gv) kU:=by
 let⟨h1,h2,h3,h4,h5,h8,h9⟩:=T4 h;refine⟨by show xs++X.N=xs++S.N;rw[Q.N],OG (Lo Q h) Q.nd,λi y e1 e2=>?_,λi y e1 e2=>?_,λk y g e1=>?_,Q.hu,Q.cm,Oo⟩
 .rcases Ro e1 with⟨_,m⟩|⟨j,rfl,lz⟩
  .obtain⟨a1,a2,a3,a4⟩:=h3 y m;exact⟨.inl (lookup_relabel_local a1),a3,a4⟩
  .have rL:fl[j]?=aj ak:=Pp.symm.trans e2;let⟨a1,a2⟩:=h8 j y lz rL;let⟨_,b2,b3⟩:=Q.qE j y lz a1;refine⟨?_,b2,b3⟩;rcases tV (env:=X.env) a2 with z|⟨_,z⟩
   .exact .inr (.inr z)
   .exact .inr (.inl z)
 .rcases Ro e1 with⟨c,m⟩|⟨j,rfl,lz⟩
  .have rL:(xs.map (λ_=>ao)++fl)[i]?=aj ak:=e2;rw[GP (by simpa using c)]at rL;simp at rL
  .have rL:fl[j]?=aj ak:=Pp.symm.trans e2;let⟨a1,a2⟩:=h8 j y lz rL;rcases tV (env:=X.env) a2 with z|⟨_,z⟩
   .exact .inr z
   .exact .inl z
 .obtain⟨b1,b2,b3,b4⟩:=Q.gm k y g e1;refine⟨λe2=>?_,b2,b3,?_⟩
  .rcases tV (env:=X.env) (h9 k y g e1 e2)with z|⟨z,_⟩
   .exact z
   .cases z
  .cases g<;>exact b4
private theorem F0(Q:sI X S ex)(h:vO S=ak):Gl X "range"/\X.mg "range"=au:=by
 unfold vO at h;let⟨k,_,h⟩:=List.any_eq_true.mp h;rw[bx]at h;let⟨hv,h⟩:=h;split at h
 .rename_i y n e;rw[bx]at h;have:=beq_iff_eq.mp h.1;subst this;let⟨g1,g2,g3,g4⟩:=Q.gl _ _ _ e (beq_iff_eq.mp hv);exact⟨g1,g4.1⟩
 .exact absurd h (by decide)
private theorem Po{k:Nat}{x:Str}(h:Aq S k x=ak):∃y C,S.gl[k]?=aj (y,.fl C x):=by
 unfold Aq at h;split at h
 .rename_i y C f e;have:=beq_iff_eq.mp h;subst this;exact⟨y,C,e⟩
 .exact absurd h (by decide)
private theorem aE2{k:Nat}{x:Str}(h:FE S k x=ak):∃y C sp dd,S.gl[k]?=aj (y,.me C x sp dd):=by
 unfold FE at h;split at h
 .rename_i y C m sp dd e;have:=beq_iff_eq.mp h;subst this;exact⟨y,C,sp,dd,e⟩
 .exact absurd h (by decide)
def aE3{o:gV}{m:Str}{args:List gV}(hb:su o m env (eval o env)=eval o env)(hf:((qz cp (iz args env)).all (λx=>!x.1)&&(backToKw cp (oj [] env)).all (λx=>x.1.isSome)
   &&decide (args.length+([]:List hX).length+(if([]:List hX).isEmpty then 0 else 1)<30))=ak)(hl:(ap.endLine==cp.line)=ak):∃pl:Sem Bool,eval (.Call (.Attribute o m ap) args [] cp) env=(do
   let ov ←eval o env
   standAt ap.atName
   let(f,first) ←holding [ov] (getMethod ov m pl)
   callWith cp f first (qz cp (iz args env)) (backToKw cp (oj [] env))):=by
 rw[arm_eval_Call,hb];have DQ:methodCallForm (args.length+([]:List hX).length) (qz cp (iz args env)) (backToKw cp (oj [] env))=ak:=hf;have qA:methodCallPos ak o env ap cp=pure cp:=by unfold methodCallPos;simp[hl]
 refine⟨?_,?_⟩
 rotate_left
 .unfold methodCall;rw[DQ];simp only[qA,pure_bind];rfl
private theorem Pn(Q:sI X S ex){k:Nat}{x:Str}{nm:String}(h:Ap S k x nm=ak)(hv:S.gv[k]?=aj ak):Gl X x/\X.mg x=au/\mz x=aj (.builtin nm)/\x≠"__name__"/\(x==("__debug__":Str))=ao:=by
 unfold Ap at h;split at h
 .rename_i y b e;rw[bx]at h;have e1:=beq_iff_eq.mp h.1;have e2:=beq_iff_eq.mp h.2;subst e1;let⟨g1,g2,g3,g4⟩:=Q.gl _ _ _ e hv;exact⟨g1,g4.1,by rw[←e2];exact g4.2,g3,g2⟩
 .exact absurd h (by decide)
def De{w:gV}{n:Str}{l:Bool}(h:tR w=aj (y,n,l)):∃ap cp,w=.Call (.Attribute y n ap) [] [] cp/\l=(ap.endLine==cp.line):=by
 unfold tR at h;split at h
 .cases h;exact⟨_,_,rfl,rfl⟩
 .cases h
def IB(h:isSet e=ao):∀x,C4 e env x=pure x:=by
 cases e<;>first|(intro _;rfl)|exact absurd (show ak=ao from h) (by decide)
end
end L4
namespace L4
open PySem PySem.Spec PyProof.Rows L2
def bI{P:Prop}(h:ao=ak):P:=absurd h (by decide)
variable{r:Bool}
def ix{c:CE}{e:gV}(h:(ck c e&&r)=ak)(z:(Ec c==99)=ao:=by rfl):e.ctorIdx=Ec c:=by
 unfold ck at h;rw[z,CQ,bx,bx]at h;exact beq_iff_eq.mp h.1.1
def iy{c:CE}(h:(ck c e&&r)=ak)(z:(Ed c==99)=ao:=by rfl):s1 e=Ed c:=by
 unfold ck at h;rw[z,CQ,bx,bx]at h;exact beq_iff_eq.mp h.1.2
def Sj{e:gV}(h:e.ctorIdx=0):∃o l p,e=.BoolOp o l p:=Expr.BoolOp.elim (motive_1:=(∃o l p,· =.BoolOp o l p)) e h λ_ _ _=>⟨_,_,_,rfl⟩
def YU{e:gV}(h:e.ctorIdx=2):∃x o y p,e=.BinOp x o y p:=Expr.BinOp.elim (motive_1:=(∃x o y p,· =.BinOp x o y p)) e h λ_ _ _ _=>⟨_,_,_,_,rfl⟩
def T3{e:gV}(h:e.ctorIdx=3):∃o x p,e=.UnaryOp o x p:=Expr.UnaryOp.elim (motive_1:=(∃o x p,· =.UnaryOp o x p)) e h λ_ _ _=>⟨_,_,_,rfl⟩
def Qy{e:gV}(h:e.ctorIdx=6):∃k l p,e=.Dict k l p:=Expr.Dict.elim (motive_1:=(∃k l p,· =.Dict k l p)) e h λ_ _ _=>⟨_,_,_,rfl⟩
def ahR{e:gV}(h:e.ctorIdx=8):∃x l s p,e=.ListComp x l s p:=Expr.ListComp.elim (motive_1:=(∃x l s p,· =.ListComp x l s p)) e h λ_ _ _ _=>⟨_,_,_,_,rfl⟩
def T2{e:gV}(h:e.ctorIdx=15):∃x o l p,e=.Compare x o l p:=Expr.Compare.elim (motive_1:=(∃x o l p,· =.Compare x o l p)) e h λ_ _ _ _=>⟨_,_,_,_,rfl⟩
def nW{e:gV}(h:e.ctorIdx=16):∃f l k p,e=.Call f l k p:=Expr.Call.elim (motive_1:=(∃f l k p,· =.Call f l k p)) e h λ_ _ _ _=>⟨_,_,_,_,rfl⟩
def ahS{e:gV}(h:e.ctorIdx=19):∃c j p,e=.Constant c j p:=Expr.Constant.elim (motive_1:=(∃c j p,· =.Constant c j p)) e h λ_ _ _=>⟨_,_,_,rfl⟩
def fB{e:gV}(h:e.ctorIdx=20):∃y n p,e=.Attribute y n p:=Expr.Attribute.elim (motive_1:=(∃y n p,· =.Attribute y n p)) e h λ_ _ _=>⟨_,_,_,rfl⟩
def qD{e:gV}(h:e.ctorIdx=21):∃x y p,e=.Subscript x y p:=Expr.Subscript.elim (motive_1:=(∃x y p,· =.Subscript x y p)) e h λ_ _ _=>⟨_,_,_,rfl⟩
def nY{e:gV}(h:e.ctorIdx=23):∃x p,e=.Name x p:=Expr.Name.elim (motive_1:=(∃x p,· =.Name x p)) e h λ_ _=>⟨_,_,rfl⟩
def Xw{e:gV}(h:e.ctorIdx=24):∃l p,e=.List l p:=Expr.List.elim (motive_1:=(∃l p,· =.List l p)) e h λ_ _=>⟨_,_,rfl⟩
def YT{e:gV}(h:e.ctorIdx=25):∃l j p,e=.Tuple l j p:=Expr.Tuple.elim (motive_1:=(∃l j p,· =.Tuple l j p)) e h λ_ _ _=>⟨_,_,_,rfl⟩
mutual
theorem lQ{X:Cx}{S:SI}{ex:bZ->f9}(Q:sI X S ex):∀(c:CE)(e:gV),kE S c e=ak->cQ X e (mE S.gl X.K ex c)
 |.var i,e,h=>by
  let⟨x,p,rfl⟩:=nY (ix h);have h':(S.N[i]?==aj x&&S.fl[i]?==aj ak)=ak:=h;rw[bx]at h';have e1:=beq_iff_eq.mp h'.1;let⟨v1,v2,v3⟩:=Q.qE i x e1 (beq_iff_eq.mp h'.2);exact aON i (by rw[Q.N];exact e1) v1 v2 v3
 |.con d,e,h=>by
  let⟨c,j,p,rfl⟩:=ahS (ix h);exact aL7 h
 |.dQ k,e,h=>by
  let⟨x,p,rfl⟩:=nY (ix h);exact aL9 Q h
 |.neg a,e,h=>by
  let⟨op,x,p,rfl⟩:=T3 (ix h);cases op with
  |USub=>exact aPH (lQ Q a x h)
  |_=>exact bI h
 |.Au a,e,h=>by
  let⟨op,x,p,rfl⟩:=T3 (ix h);cases op with
  |Not=>exact aP0 (lQ Q a x h)
  |_=>exact bI h
 |.bin o a b,e,h=>by
  let⟨x,o',y,p,rfl⟩:=YU (ix h);have h':(o==o'&&kE S a x&&kE S b y)=ak:=h;simp only[bx]at h';have:=beq_iff_eq.mp h'.1.1;subst this;exact aTX aDZ (lQ Q a x h'.1.2) (lQ Q b y h'.2)
 |.cmp o a b,e,h=>by
  let⟨x,ops,ys,p,rfl⟩:=T2 (ix h)
  match ops,ys,h with
  |[o'],[y],h =>
   have h':(o==o'&&!behindInMarks o' y&&kE S a x&&kE S b y)=ak:=h;simp only[bx,iu]at h';have:=beq_iff_eq.mp h'.1.1.1;subst this;exact aOS (Bf Q.hu) (lQ Q a x h'.1.2) (lQ Q b y h'.2) h'.1.1.2
  |[],_,h=>exact bI h
  |_::_::_,_,h=>exact bI h
  |[_],[],h=>exact bI h
  |[_],_::_::_,h=>exact bI h
 |.chain o o' a b c,e,h=>by
  let⟨x,ops,ys,p,rfl⟩:=T2 (ix h)
  match ops,ys,h with
  |[p1,p2],[y,z],h =>
   have h':(o==p1&&o'==p2&&!lastMarks [p1,p2] [y,z]&&kE S a x&&kE S b y&&kE S c z)=ak:=h;simp only[bx,iu]at h';have e1:=beq_iff_eq.mp h'.1.1.1.1.1;have e2:=beq_iff_eq.mp h'.1.1.1.1.2;subst e1;subst e2;exact aCE (Bf Q.hu) (Bf Q.hu) (lQ Q a x h'.1.1.2) (lQ Q b y h'.1.2) (lQ Q c z h'.2) h'.1.1.1.2
  |[],_,h=>exact bI h
  |[_],_,h=>exact bI h
  |_::_::_::_,_,h=>exact bI h
  |[_,_],[],h=>exact bI h
  |[_,_],[_],h=>exact bI h
  |[_,_],_::_::_::_,h=>exact bI h
 |.pf es,e,h=>by
  let⟨op,xs,p,rfl⟩:=Sj (ix h);cases op with
  |And=>exact Td Q es xs p h
  |Or=>exact bI h
 |.By es,e,h=>by
  let⟨op,xs,p,rfl⟩:=Sj (ix h);cases op with
  |Or=>exact Sv Q es xs p h
  |And=>exact bI h
 |.tup es,e,h=>by
  let⟨xs,j,p,rfl⟩:=YT (ix h);exact aP1 (rf Q es xs h)
 |.lst es,e,h=>by
  let⟨xs,p,rfl⟩:=Xw (ix h);exact aP2 (rf Q es xs h)
 |.rS,e,h=>by
  let⟨ks,vs,p,rfl⟩:=Qy (ix h)
  match ks,vs,h with
  |[],[],_=>exact aJD
  |_::_,_,h=>exact bI h
  |[],_::_,h=>exact bI h
 |.ix a b,e,h=>by
  let⟨x,y,p,rfl⟩:=qD (ix h);have h':(!isSlice y&&kE S a x&&kE S b y)=ak:=h;simp only[bx,iu]at h';exact aU5 (lQ Q a x h'.1.2) (lQ Q b y h'.2) (Te h'.1.1)
 |.sl a lo hi,e,h=>by
  let⟨x,y,p,rfl⟩:=qD (ix h);cases y with
  |Slice l u st q =>
   cases st with
   |none =>
    have h':(kE S a x&&kO S lo l&&kO S hi u)=ak:=h;simp only[bx]at h';exact aCR (lQ Q a x h'.1.1) (M8 Q lo l h'.1.2) (M8 Q hi u h'.2)
   |some _=>exact bI h
  |_=>exact bI h
 |.call k es,e,h=>by
  have jz:=iy h;let⟨f,xs,mP,p,rfl⟩:=nW (ix h);let⟨x,q,rfl⟩:=nY jz;cases mP with
  |nil =>
   have h':(xG S es xs&&S.gv[k]?==aj ak&&EJ S k x (!xs.isEmpty))=ak:=h;simp only[bx]at h';exact aE1 Q (rf Q es xs h'.1.1) h'.1.1 (beq_iff_eq.mp h'.1.2) h'.2
  |cons _ _=>exact bI h
 |.cn m o .nil,e,h=>by
  have jz:=iy h;let⟨f,xs,mP,p,rfl⟩:=nW (ix h);let⟨y,n,ap,rfl⟩:=fB jz;cases mP with
  |nil =>
   have h':(n==BH m&&bR y&&ap.endLine==p.line&&decide (xs.length<30)&&kE S o y&&xG S .nil xs)=ak:=h;simp only[bx]at h';let⟨⟨⟨⟨⟨h1,h2⟩,h3⟩,h4⟩,h5⟩,h6⟩:=h';have:=beq_iff_eq.mp h1;subst this;cases xs with
   |nil=>exact aE0 (lQ Q o y h5) h2 h3
   |cons _ _=>exact bI h6
  |cons _ _=>exact bI h
 |.cn m o (.cons c r),e,h=>by
  have jz:=iy h;let⟨f,xs,mP,p,rfl⟩:=nW (ix h);let⟨y,n,ap,rfl⟩:=fB jz;cases mP with
  |nil =>
   have h':(n==BH m&&bR y&&ap.endLine==p.line&&decide (xs.length<30)&&kE S o y&&xG S (.cons c r) xs)=ak:=h;simp only[bx]at h';let⟨⟨⟨⟨⟨h1,h2⟩,h3⟩,h4⟩,h5⟩,h6⟩:=h';have:=beq_iff_eq.mp h1;subst this;cases xs with
   |nil=>exact bI h6
   |cons x xs =>
    have h7:(!isStar x&&kE S c x&&xG S r xs)=ak:=h6;simp only[bx,iu]at h7;exact Xx (lQ Q o y h5) (tL (lQ Q c x h7.1.2) (rf Q r xs h7.2) (aU h7.1.1)) h2 h3 h6 (of_decide_eq_true h4)
  |cons _ _=>exact bI h
 |.comp fl gv ci cc c,e,h=>by
  have jz:=iy h;let⟨elt,gens,scope,p,rfl⟩:=ahR (ix h);cases gens with
  |nil=>exact bI h
  |cons g gr =>
   let⟨tg,it,ifs,a⟩:=g;let⟨x,px,rfl⟩:=nY jz;cases gr with
   |cons _ _=>exact bI h
   |nil =>
    have h':(a==0&&AH S [x] scope fl gv&&!isSet it&&kI S ao ci it&&kC (S.cmp [x] fl gv) cc ifs&&kE (S.cmp [x] fl gv) c elt)=ak:=h;simp only[bx,iu]at h';let⟨⟨⟨⟨⟨h2,h3⟩,h4⟩,h5⟩,h6⟩,h7⟩:=h';have:=beq_iff_eq.mp h2;subst this;exact aCX (Lo Q h3) (λC s H fp ψ σ=>aJO (Lo Q h3) Q.nd) XW (VS (tt:=false) Q (λz=>nomatch z) ci it h5) (λC s H fp ψ=>VT (Q.cmp h3 C s H fp ψ) cc ifs h6) (λC s H fp ψ=>lQ (Q.cmp h3 C s H fp ψ) c elt h7) (IB h4)
 |.fld k c,e,h=>by
  let⟨y,n,p,rfl⟩:=fB (ix h);have h':(Aq S k n&&bR y&&kE S c y)=ak:=h;simp only[bx]at h';let⟨z,C,hg⟩:=Po h'.1.1;let⟨_,_,_,g⟩:=Q.gm _ _ _ hg;show cQ X _ (KI S.gl k _);unfold KI;rw[hg];exact aQ0 (lQ Q c y h'.2) g.1 g.2 (mX h'.1.2)
 |.dR k c cs,e,h=>by
  have jz:=iy h;let⟨f,as,ks,p,rfl⟩:=nW (ix h);let⟨y,n,ap,rfl⟩:=fB jz;cases ks with
  |cons _ _=>exact bI h
  |nil =>
   have h':(FE S k n&&S.calm&&bR y&&ap.endLine==p.line&&decide (as.length<30)&&kE S c y&&xG S cs as)=ak:=h;simp only[bx]at h';let⟨⟨⟨⟨⟨⟨h1,h2⟩,h3⟩,h4⟩,h5⟩,h6⟩,h7⟩:=h';let⟨z,C,sp,dd,hg⟩:=aE2 h1;let⟨_,_,_,g⟩:=Q.gm _ _ _ hg;let⟨kk,f,fd,ps,ds,bu,q1,q2,q3,q4,q5,q6,q7⟩:=g h2;let⟨pl,ht⟩:=aE3 (env:=X.env) (m:=n) (mX h3) (Co (X:=X) (cp:=p) h7 (of_decide_eq_true h5)) h4;show cQ X _ (KH S.gl ex k _ _);unfold KH;rw[hg];cases cs with
   |nil =>
    cases as with
    |cons _ _=>exact bI h7
    |nil=>exact XR (lQ Q c y h6) q1 q2 q3 q4 q5 q6 q7 Q.cat ht
   |cons c1 cr =>
    cases as with
    |nil=>exact bI h7
    |cons a1 ar =>
     have h8:(!isStar a1&&kE S c1 a1&&xG S cr ar)=ak:=h7;simp only[bx,iu]at h8;exact aD3 (lQ Q c y h6) q1 q2 q3 q4 q5 q6 q7 Q.cat (tL (lQ Q c1 a1 h8.1.2) (rf Q cr ar h8.2) (aU h8.1.1)) (aU h8.1.1) (tU h8.2) ht
 |.wb a b,e,h=>by
  let⟨x,y,p,rfl⟩:=qD (ix h);have h':(!isSlice y&&kE S a x&&kE S b y)=ak:=h;simp only[bx,iu]at h';exact aQ1 Q.hu (lQ Q a x h'.1.2) (lQ Q b y h'.2) (Te h'.1.1)
 |.o5 c d f,e,h=>by
  have jz:=iy h;let⟨g,as,ks,p,rfl⟩:=nW (ix h);let⟨y,n,ap,rfl⟩:=fB jz
  match as,ks,h with
  |[],_,h=>exact bI h
  |[_],_,h=>exact bI h
  |_::_::_::_,_,h=>exact bI h
  |[_,_],_::_,h=>exact bI h
  |[x,z],[],h =>
   have h':(n==("get":Str)&&bR y&&ap.endLine==p.line&&!isStar x&&!isStar z&&kE S c y&&kE S d x&&kE S f z)=ak:=h;simp only[bx,iu]at h';let⟨⟨⟨⟨⟨⟨⟨h0,h1⟩,h2⟩,h3⟩,h4⟩,h5⟩,h6⟩,h7⟩:=h';have:=beq_iff_eq.mp h0;subst this
   have k2:xG S (.cons d (.cons f .nil)) [x,z]=ak:=by
    show(!isStar x&&kE S d x&&(!isStar z&&kE S f z&&ak))=ak;rw[h3,h4,h6,h7];rfl
   exact aD5 Q.hu (lQ Q c y h5) (lQ Q d x h6) (lQ Q f z h7) ⟨mX h1,Co (X:=X) (cp:=p) k2 (show 2<30 by decide),h2,by rw[aU h3,aU h4];rfl⟩
 |.As,e,h=>by
  let⟨ks,vs,p,rfl⟩:=Qy (ix h)
  match ks,vs,h with
  |[],[],_=>exact aCS
  |_::_,_,h=>exact bI h
  |[],_::_,h=>exact bI h
 |.dm m o c r,e,h=>by
  have jz:=iy h;let⟨f,xs,mP,p,rfl⟩:=nW (ix h);let⟨y,n,ap,rfl⟩:=fB jz
  match xs,mP,h with
  |[],_,h=>exact bI h
  |_::_,_::_,h=>exact bI h
  |x::xs,[],h =>
   have h':(n==Ir m&&bR y&&ap.endLine==p.line&&decide ((x::xs).length<30)&&kE S o y&&!isStar x&&kE S c x&&xG S r xs)=ak:=h;simp only[bx]at h';let⟨⟨⟨⟨⟨⟨⟨h1,h2⟩,h3⟩,h4⟩,h5⟩,h6⟩,h7⟩,h8⟩:=h';have:=beq_iff_eq.mp h1;subst this
   have hk:xG S (.cons c r) (x::xs)=ak:=by
    show(!isStar x&&kE S c x&&xG S r xs)=ak;rw[h6,h7,h8];rfl
   simp only[iu]at h6;exact aQM Q.hu (lQ Q o y h5) (tL (lQ Q c x h7) (rf Q r xs h8) (aU h6)) h2 h3 hk (of_decide_eq_true h4)
 |.sortI k c,e,h=>by
  have jz:=iy h;let⟨f,as,ks,p,rfl⟩:=nW (ix h);let⟨x,q,rfl⟩:=nY jz
  match as,ks,h with
  |[],_,h=>exact bI h
  |_::_::_,_,h=>exact bI h
  |[_],_::_,h=>exact bI h
  |[w],[],h =>
   have h':(S.calm&&S.gv[k]?==aj ak&&Ap S k x "sorted"&&(match tR w with
    |some (y,n,l)=>l&&n==("items":Str)&&bR y&&kE S c y
    |none=>ao))=ak:=h
   simp only[bx]at h';let⟨⟨⟨h1,h2⟩,h3⟩,h4⟩:=h';cases q2:tR w with
   |none=>rw[q2]at h4;exact bI h4
   |some z =>
    let⟨y,n,l⟩:=z;rw[q2]at h4;simp only[bx]at h4;let⟨⟨⟨h5,h6⟩,h7⟩,h8⟩:=h4;have e6:=beq_iff_eq.mp h6;subst e6;let⟨ap,cp,rfl,rfl⟩:=De q2;let⟨g1,g2,g3,g4,g5⟩:=Pn Q h3 (beq_iff_eq.mp h2);exact aDM (Q.cm h1) (lQ Q c y h8) g1 g2 g3 g4 g5 (mX h7) h5
 |.Ar k c,e,h=>by
  have jz:=iy h;let⟨f,as,ks,p,rfl⟩:=nW (ix h);let⟨x,q,rfl⟩:=nY jz
  match as,ks,h with
  |[],_,h=>exact bI h
  |_::_::_,_,h=>exact bI h
  |[_],_::_,h=>exact bI h
  |[w],[],h =>
   have h':(S.calm&&S.gv[k]?==aj ak&&Ap S k x "sum"&&(match tR w with
    |some (y,n,l)=>l&&n==("values":Str)&&bR y&&kE S c y
    |none=>ao))=ak:=h
   simp only[bx]at h';let⟨⟨⟨h1,h2⟩,h3⟩,h4⟩:=h';cases q2:tR w with
   |none=>rw[q2]at h4;exact bI h4
   |some z =>
    let⟨y,n,l⟩:=z;rw[q2]at h4;simp only[bx]at h4;let⟨⟨⟨h5,h6⟩,h7⟩,h8⟩:=h4;have e6:=beq_iff_eq.mp h6;subst e6;let⟨ap,cp,rfl,rfl⟩:=De q2;let⟨g1,g2,g3,g4,g5⟩:=Pn Q h3 (beq_iff_eq.mp h2);exact aKL (Q.cm h1) (lQ Q c y h8) g1 g2 g3 g4 g5 (mX h7) h5
theorem rf{X:Cx}{S:SI}{ex:bZ->f9}(Q:sI X S ex):∀(c:cS)(es:List gV),xG S c es=ak->dS X es (mA S.gl X.K ex c)
 |.nil,es,h=>by
  cases es with
  |nil=>exact Cj
  |cons _ _=>exact bI h
 |.cons c r,es,h=>by
  cases es with
  |nil=>exact bI h
  |cons x xs =>
   have h7:(!isStar x&&kE S c x&&xG S r xs)=ak:=h;simp only[bx,iu]at h7;exact tL (lQ Q c x h7.1.2) (rf Q r xs h7.2) (aU h7.1.1)
theorem Td{X:Cx}{S:SI}{ex:bZ->f9}(Q:sI X S ex):∀(c:cS)(es:List gV)(p:Pos),xG S c es=ak->cQ X (.BoolOp .And es p) (KG S.gl X.K ex c)
 |.nil,es,p,h=>Oq
 |.cons c .nil,es,p,h=>by
  match es,h with
  |[],h=>exact bI h
  |[x],h =>
   have h7:(!isStar x&&kE S c x&&xG S .nil [])=ak:=h;simp only[bx,iu]at h7;exact Tu (lQ Q c x h7.1.2)
  |x::y::ys,h =>
   have h7:(!isStar x&&kE S c x&&xG S .nil (y::ys))=ak:=h;simp only[bx,iu]at h7;exact bI h7.2
 |.cons c (.cons c' r),es,p,h=>by
  match es,h with
  |[],h=>exact bI h
  |[x],h =>
   have h7:(!isStar x&&kE S c x&&xG S (.cons c' r) [])=ak:=h;simp only[bx,iu]at h7;exact bI h7.2
  |x::y::ys,h =>
   have h7:(!isStar x&&kE S c x&&xG S (.cons c' r) (y::ys))=ak:=h;simp only[bx,iu]at h7;exact aOZ (lQ Q c x h7.1.2) (Td Q (.cons c' r) (y::ys) p h7.2)
theorem Sv{X:Cx}{S:SI}{ex:bZ->f9}(Q:sI X S ex):∀(c:cS)(es:List gV)(p:Pos),xG S c es=ak->cQ X (.BoolOp .Or es p) (HL S.gl X.K ex c)
 |.nil,es,p,h=>Oq
 |.cons c .nil,es,p,h=>by
  match es,h with
  |[],h=>exact bI h
  |[x],h =>
   have h7:(!isStar x&&kE S c x&&xG S .nil [])=ak:=h;simp only[bx,iu]at h7;exact Tu (lQ Q c x h7.1.2)
  |x::y::ys,h =>
   have h7:(!isStar x&&kE S c x&&xG S .nil (y::ys))=ak:=h;simp only[bx,iu]at h7;exact bI h7.2
 |.cons c (.cons c' r),es,p,h=>by
  match es,h with
  |[],h=>exact bI h
  |[x],h =>
   have h7:(!isStar x&&kE S c x&&xG S (.cons c' r) [])=ak:=h;simp only[bx,iu]at h7;exact bI h7.2
  |x::y::ys,h =>
   have h7:(!isStar x&&kE S c x&&xG S (.cons c' r) (y::ys))=ak:=h;simp only[bx,iu]at h7;exact aTZ (lQ Q c x h7.1.2) (Sv Q (.cons c' r) (y::ys) p h7.2)
theorem qV{X:Cx}{S:SI}{ex:bZ->f9}(Q:sI X S ex):∀(c:CT)(e:gV),kT S c e=ak->j3 X e (mT S.gl X.K ex c)
 |.cmp o a b,e,h=>by
  cases e with
  |Compare x ops ys p =>
   match ops,ys,h with
   |[o'],[y],h =>
    have h':(o==o'&&!behindInMarks o' y&&kE S a x&&kE S b y)=ak:=h;simp only[bx,iu]at h';have:=beq_iff_eq.mp h'.1.1.1;subst this;exact aOT (Bf Q.hu) (lQ Q a x h'.1.2) (lQ Q b y h'.2) h'.1.1.2
   |[],_,h=>exact bI h
   |_::_::_,_,h=>exact bI h
   |[_],[],h=>exact bI h
   |[_],_::_::_,h=>exact bI h
  |_=>exact bI h
 |.chain o o' a b c,e,h=>by
  cases e with
  |Compare x ops ys p =>
   match ops,ys,h with
   |[p1,p2],[y,z],h =>
    have h':(o==p1&&o'==p2&&!lastMarks [p1,p2] [y,z]&&kE S a x&&kE S b y&&kE S c z)=ak:=h;simp only[bx,iu]at h';have e1:=beq_iff_eq.mp h'.1.1.1.1.1;have e2:=beq_iff_eq.mp h'.1.1.1.1.2;subst e1;subst e2;exact aCF (Bf Q.hu) (Bf Q.hu) (lQ Q a x h'.1.1.2) (lQ Q b y h'.1.2) (lQ Q c z h'.2) h'.1.1.1.2
   |[],_,h=>exact bI h
   |[_],_,h=>exact bI h
   |_::_::_::_,_,h=>exact bI h
   |[_,_],[],h=>exact bI h
   |[_,_],[_],h=>exact bI h
   |[_,_],_::_::_::_,h=>exact bI h
  |_=>exact bI h
 |.not t,e,h=>by
  cases e with
  |UnaryOp op x p =>
   cases op with
   |Not=>exact aOY (qV Q t x h)
   |_=>exact bI h
  |_=>exact bI h
 |.and ts,e,h=>by
  cases e with
  |BoolOp op xs p =>
   cases op with
   |And=>exact PW.pt (Om Q ts xs p h)
   |Or=>exact bI h
  |_=>exact bI h
 |.or ts,e,h=>by
  cases e with
  |BoolOp op xs p =>
   cases op with
   |Or=>exact PW.pt (Tc Q ts xs p h)
   |And=>exact bI h
  |_=>exact bI h
 |.val c,e,h=>by
  have h':(plainT e&&kE S c e)=ak:=h;rw[bx]at h';exact aOU (lQ Q c e h'.2) (aL8 h'.1)
theorem Om{X:Cx}{S:SI}{ex:bZ->f9}(Q:sI X S ex):∀(c:om)(es:List gV)(p:Pos),i9 S c es=ak->t6 X (.BoolOp .And es p) (IE S.gl X.K ex c)
 |.nil,es,p,h=>λ_ _ _ _ _ _ _ ⟨_,_,_,_,_,z,_⟩=>z.elim
 |.cons c .nil,es,p,h=>by
  match es,h with
  |[],h=>exact bI h
  |[x],h =>
   have h7:(kT S c x&&i9 S .nil [])=ak:=h;simp only[bx]at h7;exact aIS (qV Q c x h7.1)
  |x::y::ys,h =>
   have h7:(kT S c x&&i9 S .nil (y::ys))=ak:=h;simp only[bx]at h7;exact bI h7.2
 |.cons c (.cons c' r),es,p,h=>by
  match es,h with
  |[],h=>exact bI h
  |[x],h =>
   have h7:(kT S c x&&i9 S (.cons c' r) [])=ak:=h;simp only[bx]at h7;exact bI h7.2
  |x::y::ys,h =>
   have h7:(kT S c x&&i9 S (.cons c' r) (y::ys))=ak:=h;simp only[bx]at h7;exact aOX (qV Q c x h7.1) (Om Q (.cons c' r) (y::ys) p h7.2)
theorem Tc{X:Cx}{S:SI}{ex:bZ->f9}(Q:sI X S ex):∀(c:om)(es:List gV)(p:Pos),i9 S c es=ak->t6 X (.BoolOp .Or es p) (KD S.gl X.K ex c)
 |.nil,es,p,h=>λ_ _ _ _ _ _ _ ⟨_,_,_,_,_,z,_⟩=>z.elim
 |.cons c .nil,es,p,h=>by
  match es,h with
  |[],h=>exact bI h
  |[x],h =>
   have h7:(kT S c x&&i9 S .nil [])=ak:=h;simp only[bx]at h7;exact aOW (qV Q c x h7.1)
  |x::y::ys,h =>
   have h7:(kT S c x&&i9 S .nil (y::ys))=ak:=h;simp only[bx]at h7;exact bI h7.2
 |.cons c (.cons c' r),es,p,h=>by
  match es,h with
  |[],h=>exact bI h
  |[x],h =>
   have h7:(kT S c x&&i9 S (.cons c' r) [])=ak:=h;simp only[bx]at h7;exact bI h7.2
  |x::y::ys,h =>
   have h7:(kT S c x&&i9 S (.cons c' r) (y::ys))=ak:=h;simp only[bx]at h7;exact aTY (qV Q c x h7.1) (Tc Q (.cons c' r) (y::ys) p h7.2)
theorem M8{X:Cx}{S:SI}{ex:bZ->f9}(Q:sI X S ex):∀(c:CO)(e:Option gV),kO S c e=ak->Dp X e (mO S.gl X.K ex c)
 |.none,e,h=>by
  cases e with
  |none=>exact aIV
  |some _=>exact bI h
 |.some c,e,h=>by
  cases e with
  |none=>exact bI h
  |some x=>exact aIW (lQ Q c x h)
theorem VS{X:Cx}{S:SI}{ex:bZ->f9}(Q:sI X S ex){tg:gV}{tt:Bool}(ND:tt=ak->X.calm=ak/\∃es kt pt,tg=.Tuple es kt pt):∀(c:CI)(e:gV),kI S tt c e=ak->ue X tg e (mI S.gl X.K ex c)
 |.any c,e,h=>aPM (lQ Q c e h)
 |.wy c,e,h=>by
  cases e with
  |Call f as ks p =>
   cases f with
   |Name r q =>
    cases as with
    |nil=>exact bI h
    |cons y yr =>
     cases yr with
     |cons _ _=>exact bI h
     |nil =>
      cases ks with
      |cons _ _=>exact bI h
      |nil =>
       have h':(r==("range":Str)&&vO S&&!isStar y&&kE S c y)=ak:=h;simp only[bx,iu]at h';let⟨⟨⟨h1,h2⟩,h3⟩,h4⟩:=h';have:=beq_iff_eq.mp h1;subst this;let⟨g1,g2⟩:=F0 Q h2;exact aJI g1 g2 (tL (lQ Q c y h4) Cj (aU h3)) (aU h3)
   |_=>exact bI h
  |_=>exact bI h
 |.wx a b,e,h=>by
  cases e with
  |Call f as ks p =>
   cases f with
   |Name r q =>
    match as,ks,h with
    |[],_,h=>exact bI h
    |[_],_,h=>exact bI h
    |_::_::_::_,_,h=>exact bI h
    |[_,_],_::_,h=>exact bI h
    |[y,z],[],h =>
     have h':(r==("range":Str)&&vO S&&!isStar y&&!isStar z&&kE S a y&&kE S b z)=ak:=h;simp only[bx,iu]at h';let⟨⟨⟨⟨⟨h1,h2⟩,h3⟩,h4⟩,h5⟩,h6⟩:=h';have:=beq_iff_eq.mp h1;subst this;let⟨g1,g2⟩:=F0 Q h2;exact aJJ g1 g2 (tL (lQ Q a y h5) (tL (lQ Q b z h6) Cj (aU h4)) (aU h3)) (by rw[aU h3,aU h4];rfl) (aU h4)
   |_=>exact bI h
  |_=>exact bI h
 |.items c,e,h=>by
  have h':(S.calm&&(match tR e with
   |some (y,n,l)=>l&&n==("values":Str)&&bR y&&kE S c y
   |none=>ao))=ak:=h
  rw[bx]at h';let⟨h0,h4⟩:=h';cases q2:tR e with
  |none=>rw[q2]at h4;exact bI h4
  |some z =>
   let⟨y,n,l⟩:=z;rw[q2]at h4;simp only[bx]at h4;let⟨⟨⟨h5,h6⟩,h7⟩,h8⟩:=h4;have e6:=beq_iff_eq.mp h6;subst e6;let⟨ap,cp,rfl,rfl⟩:=De q2;exact aKW (Q.cm h0) (lQ Q c y h8) (mX h7) h5
 |.keys c,e,h=>by
  have h':(S.calm&&kE S c e)=ak:=h;rw[bx]at h';exact aKP (Q.cm h'.1) (lQ Q c e h'.2)
theorem VT{X:Cx}{S:SI}(Q:sI X S kU):∀(c:CC)(es:List gV),kC S c es=ak->B4 X es (mC S.gl X.K c)
 |.none,es,h=>by
  cases es with
  |nil=>exact aCV
  |cons _ _=>exact bI h
 |.some t,es,h=>by
  match es,h with
  |[],h=>exact bI h
  |[x],h=>exact aCW (qV Q t x h)
  |_::_::_,h=>exact bI h
end
end L4
namespace L4
open PySem PySem.Spec PyProof.Rows L2
inductive Br where
 |nm (i:Nat)|tup (is:List Nat)
mutual
inductive CS where
 |ret (e:CE)|expr (e:CE)|ifs (t:CT) (a b:CB)|set (i:Nat) (e:CE)
 |raise (k:Nat) (e:CE) (es:cS)|wo (b:CB) (hs:CH)|pass
 |wm (ci:CI) (tg:Br) (b:CB)|B0 (ci:CI) (tg:Br) (b:CB)
 |aug (i:Nat) (neg:Bool) (e:CE)|FD (t:CT) (b:CB)|iE (k:Nat) (o e:CE)|we (o i e:CE)
inductive CB where
 |nil|cons (s:CS) (r:CB)
inductive CH where
 |nil
 |cons (k:Nat) (b:CB) (r:CH)
end
abbrev Tb:oX:=λ_ _ _=>False
@[simp]def SI.Ih(S:SI):SI:={S with calm:=false}
abbrev Nn(T:List (Str×GT))(K:Fg)(ex:bZ->f9):CI->dq
 |.any e=>FJ (mE T K ex e)
 |.wy e=>A4 (aZ (mE T K ex e) dD)
 |.wx a b=>A3 (aZ (mE T K ex a) (aZ (mE T K ex b) dD))
 |.items e=>zB ak (mE T K ex e)
 |.keys e=>zA ak (mE T K ex e)
abbrev Np(T:List (Str×GT))(K:Fg)(ex:bZ->f9):CI->dq
 |.items e=>zB ao (mE T K ex e)
 |.keys e=>zA ao (mE T K ex e)
 |_=>λ_ _ _=>False
abbrev mG:Br->hZ
 |.nm i=>xp i
 |.tup is=>Tp is
abbrev KB:Bool->Int->Int->Int
 |true=>λa b=>a - b
 |false=>λa b=>a+b
abbrev FC(T:List (Str×GT))(ex:bZ->f9)(k:Nat)(t:rZ):oX:=match T[k]? with
 |some (_,.cls a)=>gU ex a t
 |_=>Tb
abbrev KA(T:List (Str×GT))(k:Nat)(to te:bN):oX:=match T[k]? with
 |some (_,.fl C f)=>rD C to te f
 |_=>Tb
abbrev Ky(T:List (Str×GT))(k:Nat):bw:=match T[k]? with
 |some (_,.cls a)=>a
 |_=>0
abbrev AG(S:SI)(k:Nat)(x:Str):Bool:=match S.gl[k]? with
 |some (z,.cls _)=>z==x
 |_=>ao
mutual
noncomputable def mS(T:List (Str×GT))(K:Fg)(ex:bZ->f9):CS->oX
 |.ret e=>bK (mE T K ex e)
 |.expr e=>bB (mE T K ex e)
 |.ifs t a b=>dJ (mT T K ex t) (mB T K ex a) (mB T K ex b)
 |.set i e=>fM i (mE T K ex e)
 |.raise k e es=>FC T ex k (aZ (mE T K ex e) (mA T K ex es))
 |.wo b hs=>AI K (λyo=>mB T K yo b) (mH T K hs)
 |.wm ci tg b=>A2 (Nn T K ex ci) (mG tg) (mB T K ex b)
 |.B0 ci tg b=>Fo (Np T K ex ci) (mG tg) (mB T K ex b)
 |.aug i neg e=>EU i (KB neg) (mE T K ex e)
 |.FD t b=>Ft (mT T K ex t) (mB T K ex b)
 |.iE k o e=>KA T k (mE T K ex o) (mE T K ex e)
 |.we o i e=>Cs (mE T K ex o) (mE T K ex i) (mE T K ex e)
 |.pass=>bO
noncomputable def mB(T:List (Str×GT))(K:Fg)(ex:bZ->f9):CB->oX
 |.nil=>bO
 |.cons s .nil=>mS T K ex s
 |.cons s (.cons s' r)=>aJ (mS T K ex s) (mB T K ex (.cons s' r))
noncomputable def mH(T:List (Str×GT))(K:Fg):CH->List (bw×oX)
 |.nil=>[]
 |.cons k b r=>(Ky T k,mB T K kU b)::mH T K r
end
abbrev isTup:gV->Bool
 |.Tuple ..=>ak
 |_=>ao
abbrev zE:gV->Bool
 |.ListComp ..=>ak
 |.SetComp ..=>ak
 |.DictComp ..=>ak
 |_=>ao
abbrev vn(S:SI):Br->gV->Bool
 |.nm i,.Name x _=>S.N[i]?==aj x&&S.fl[i]?==aj ak
 |.tup is,.Tuple es _ _=>D8 S is es
 |_,_=>ao
where
 D8 (S:SI):List Nat->List gV->Bool
 |[],[]=>ak
 |i::is,.Name x _::es=>S.N[i]?==aj x&&S.fl[i]?==aj ak&&D8 S is es
 |_,_=>ao
abbrev BZ(S:SI):Br->Bool
 |.nm _=>ak
 |.tup _=>S.calm
abbrev cx(k:Nat)(z:gV):Nat:=if z.ctorIdx=k then s1 z else 99
abbrev tq:List ExceptHandler->Nat
 |.ExceptHandler (aj c) _ _ _::_=>c.ctorIdx
 |_=>99
abbrev t1:jq->Nat
 |.Assign (t::_) _ _=>t.ctorIdx
 |.Raise (aj a) _ _=>cx 16 a
 |.Try _ h _ _ _=>tq h
 |_=>99
abbrev t2:CS->jq->Bool
 |_,_=>ak
abbrev Ea:CS->Nat
 |.ret _=>3
 |.expr _=>24
 |.ifs _ _ _=>12
 |.set _ _=>5
 |.raise _ _ _=>16
 |.wo _ _=>17
 |.iE _ _ _=>5
 |.we _ _ _=>5
 |.wm _ _ _=>9
 |.B0 _ _ _=>9
 |.pass=>25
 |_=>99
abbrev D9:CS->Nat
 |.set _ _=>23
 |.raise _ _ _=>23
 |.wo _ _=>23
 |.iE _ _ _=>20
 |.we _ _ _=>21
 |_=>99
abbrev cq(c:CS)(e:jq):Bool:=(Ea c==99||e.ctorIdx==Ea c)&&(D9 c==99||t1 e==D9 c)&&t2 c e
mutual
noncomputable def j0(S:SI)(lv:Nat):CS->jq->Bool
 |.ret e,.Return (aj x) _=>kE S e x
 |.expr e,.Expr x _=>!zE x&&kE S e x
 |.ifs t a b,.If x y z _=>kT S t x&&kB S lv a y&&kB S lv b z
 |.set i e,.Assign [.Name x _] y _=>S.N[i]?==aj x&&S.fl[i]?==aj ak&&!zE y&&kE S e y
 |.raise k e es,.Raise (aj (.Call (.Name x _) (y::ys) [] _)) au _=>lv==0&&S.calm&&!isStar y&&kE S e y&&xG S es ys&&S.gv[k]?==aj ak&&AG S k x
 |.wo b hs,.Try y (z::zs) [] [] _=>lv==0&&S.calm&&kB S 1 b y&&kH S hs (z::zs)
 |.aug i neg e,.AugAssign (.Name x _) o y _=>S.N[i]?==aj x&&S.fl[i]?==aj ak&&o==(if neg then Operator.Sub else Operator.Add)&&kE S e y
 |.iE k o e,.Assign [.Attribute x n _] z _=>Aq S k n&&!zE z&&kE S o x&&kE S e z
 |.we o i e,.Assign [.Subscript x y _] z _=>!isSlice y&&!zE z&&kE S o x&&kE S i y&&kE S e z
 |.FD t b,.While x y [] _=>lv !=1&&kT S t x&&kB S lv b y
 |.wm ci tg b,.For bS iter body [] _=>lv !=1&&BZ S tg&&!isSet iter&&vn S tg bS&&kI S (isTup bS&&S.calm) ci iter&&kB S lv b body
 |.B0 ci tg b,.For bS iter body [] _=>lv !=1&&BZ S tg&&!isSet iter&&vn S tg bS&&kI S (isTup bS&&S.calm) ci iter&&kB S lv b body
 |.pass,.Pass _=>ak
 |_,_=>ao
noncomputable def kB(S:SI)(lv:Nat):CB->List jq->Bool
 |.nil,[]=>ak
 |.cons s r,x::xs=>(cq s x&&j0 S lv s x)&&kB S lv r xs
 |_,_=>ao
noncomputable def kH(S:SI):CH->List ExceptHandler->Bool
 |.nil,[]=>ak
 |.cons k b r,.ExceptHandler (aj (.Name x _)) au (z::zs) _::hs=>kB S.Ih 2 b (z::zs)&&S.gv[k]?==aj ak&&AG S k x&&kH S r hs
 |_,_=>ao
end
abbrev kS(S:SI)(lv:Nat)(c:CS)(st:jq):Bool:=cq c st&&j0 S lv c st
structure kK(X:Cx)(S:SI)(ex:bZ->f9)(lv:Nat):Prop where
 si:sI X S ex
 loc:∀(i:Nat)(x:Str),S.N[i]?=aj x->S.fl[i]?=aj ak->Loc X.env.scope x
 D7:∀(i:Nat)(x:Str),S.N[i]?=aj x->S.lc[i]?=aj ak->X.env.kindOf x=aj .local
 fn:∀x,X.fn x=ak
 cls:∀(k:Nat)(x:Str)(a:bw),S.gl[k]?=aj (x,.cls a)->S.gv[k]?=aj ak->yw X.K a Hc "ValueError.__new__"=ak/\(vg X.K a).isSome=ak/\x4 X.K (.ref a)=aj (.type "type")/\jc X.K (.ref a) (.type "BaseException")=aj ak
 l0:lv≠1->sQ (dz X.prog X.w) X.A X.env X.xe
 rz:lv=0->S.calm=ak->Mu X ex
 i7:X.stack=X.env::X.outer
 BV:X.env.frame=aj X.env.locals
def EI{t:Option gV}{n:Nat}{env:Env}(h:zE e=ao):qc e t n env=pure ao:=by
 cases e<;>first|rfl|exact absurd (show ak=ao from h) (by decide)
variable{S:SI}{ex:bZ->f9}{lv:Nat}
def kK.tr(Q:kK X S ex lv)(pn:List (bw×Obj))(EX:bZ->f9):kK (FL X pn EX) S EX 1 where
 si:=⟨Q.si.N,Q.si.nd,Q.si.qE,Q.si.ce,λk x g h=>by
  let⟨h1,h2,h3,h4⟩:=Q.si.gm k x g h;refine⟨h1,h2,h3,?_⟩;cases g<;>exact h4,Q.si.hu,Q.si.cm,aUB pn EX⟩
 loc:=Q.loc
 D7:=Q.D7
 fn:=Q.fn
 cls:=Q.cls
 l0:=λz=>absurd rfl z
 rz:=λz=>absurd z (by decide)
 i7:=Q.i7
 BV:=Q.BV
def kK.ha(Q:kK X S ex lv)(x:bw):kK (B5 X x) S.Ih kU 2 where
 si:=⟨Q.si.N,Q.si.nd,Q.si.qE,Q.si.ce,λk y g h=>by
  let⟨h1,h2,h3,h4⟩:=Q.si.gm k y g h;refine⟨h1,h2,h3,?_⟩;cases g with
  |fn sp n qt =>
   intro z;have hq:qt=ak:=z.resolve_right (show ¬ (ao=ak) by decide);subst hq;let⟨k,f,fd,ps,F,hr,r⟩:=h4 (.inl rfl);exact⟨k,f,fd,ps,F,⟨(λz=>nomatch z),hr.dp,hr.un⟩,r⟩
  |kl C sp dd=>exact λz=>nomatch z
  |me C m sp dd=>exact λz=>nomatch z
  |_=>exact h4,Q.si.hu,λz=>absurd (show ao=ak from z) (by decide),Oo⟩
 loc:=Q.loc
 D7:=Q.D7
 fn:=Q.fn
 cls:=Q.cls
 l0:=λ_=>sQ.never
 rz:=λz=>absurd z (by decide)
 i7:=Q.i7
 BV:=Q.BV
private theorem Qx{k:Nat}{x:Str}(h:AG S k x=ak):∃a,S.gl[k]?=aj (x,.cls a):=by
 unfold AG at h;split at h
 .rename_i z a hg;have:=beq_iff_eq.mp h;subst this;exact⟨a,hg⟩
 .exact bI h
def aE6{k:Nat}{x:Str}{a:bw}{t:rZ}(h:T[k]?=aj (x,.cls a)):FC T ex k t=gU ex a t:=by unfold FC;rw[h]
def Xv{X:Cx}(Q:kK X S ex lv){k:Nat}{x:Str}{np cp pos:Pos}(h:kS S lv (.raise k e es) (.Raise (aj (.Call (.Name x np) (y::ys) [] cp)) au pos)=ak) :
  fk X (.Raise (aj (.Call (.Name x np) (y::ys) [] cp)) au pos) (FC S.gl ex k (aZ (mE S.gl X.K ex e) (mA S.gl X.K ex es))):=by
 have h':(lv==0&&S.calm&&!isStar y&&kE S e y&&xG S es ys&&S.gv[k]?==aj ak&&AG S k x)=ak:=h;simp only[bx,iu]at h';let⟨⟨⟨⟨⟨⟨h0,eI⟩,h1⟩,h2⟩,h3⟩,hv⟩,h⟩:=h';have hv:=beq_iff_eq.mp hv;let⟨a,hg⟩:=Qx h;rw[aE6 hg];have l1:=Q.si.cm eI;have l2:=Q.rz (beq_iff_eq.mp h0) eI;let⟨g1,g2,g3,g4,g5⟩:=Q.si.gl _ _ _ hg hv;exact aCM l1 PySem.F.excBase_ValueError (by decide) PySem.F.excBase_ValueError g1 g4 (Q.cls _ _ _ hg hv).1 l2 (tL (lQ Q.si e y h2) (rf Q.si es ys h3) (aU h1)) g2 (aU h1) (tU h3)
def Ol{S:SI}{ex:bZ->f9}{lv:Nat}(Q:kK X S ex lv):∀{is:List Nat}{es:List gV},vn.D8 S is es=ak->b9 (K0 X) es is
 |[],[],_=>.nil
 |[],_::_,h=>by exact bI h
 |_::_,[],h=>by exact bI h
 |i::is,e::es,h=>by
  cases e with
  |Name x p =>
   have h':(S.N[i]?==aj x&&S.fl[i]?==aj ak&&vn.D8 S is es)=ak:=h;simp only[bx]at h';have e1:=beq_iff_eq.mp h'.1.1;exact .cons ⟨x,p,rfl,by rw[Q.si.N];exact e1,Q.loc i x e1 (beq_iff_eq.mp h'.1.2),.inl (Q.fn x)⟩ (Ol Q h'.2)
  |_=>exact bI h
def Ta(Q:kK X S ex lv):∀{c:Br}{e:gV},BZ S c=ak->vn S c e=ak->Ds X e (mG c)
 |.nm i,e,_,h=>by
  cases e with
  |Name x p =>
   have h':(S.N[i]?==aj x&&S.fl[i]?==aj ak)=ak:=h;simp only[bx]at h';have e1:=beq_iff_eq.mp h'.1;exact aJP Q.si.nd (by rw[Q.si.N];exact e1) (Q.loc i x e1 (beq_iff_eq.mp h'.2)) (.inl (Q.fn x))
  |_=>exact bI h
 |.tup is,e,hc,h=>by
  cases e with
  |Tuple es k p=>exact aPS Q.si.nd (Q.si.cm hc) (Ol Q h)
  |_=>exact bI h
variable{tt:Bool}
def aVC{X:Cx}(Q:sI X S ex)(ND:tt=ak->X.calm=ak/\∃es kt pt,tg=.Tuple es kt pt):∀(c:CI)(e:gV),kI S tt c e=ak->t7 X tg e (Nn S.gl X.K ex c)
 |.any c,e,h=>aJS (lQ Q c e h)
 |.wy c,e,h=>by
  cases e with
  |Call f as ks p =>
   cases f with
   |Name r q =>
    cases as with
    |nil=>exact bI h
    |cons y yr =>
     cases yr with
     |cons _ _=>exact bI h
     |nil =>
      cases ks with
      |cons _ _=>exact bI h
      |nil =>
       have h':(r==("range":Str)&&vO S&&!isStar y&&kE S c y)=ak:=h;simp only[bx,iu]at h';let⟨⟨⟨h1,h2⟩,h3⟩,h4⟩:=h';have:=beq_iff_eq.mp h1;subst this;let⟨g1,g2⟩:=F0 Q h2;exact aD0 g1 g2 (tL (lQ Q c y h4) Cj (aU h3)) (aU h3)
   |_=>exact bI h
  |_=>exact bI h
 |.wx a b,e,h=>by
  cases e with
  |Call f as ks p =>
   cases f with
   |Name r q =>
    match as,ks,h with
    |[],_,h=>exact bI h
    |[_],_,h=>exact bI h
    |_::_::_::_,_,h=>exact bI h
    |[_,_],_::_,h=>exact bI h
    |[y,z],[],h =>
     have h':(r==("range":Str)&&vO S&&!isStar y&&!isStar z&&kE S a y&&kE S b z)=ak:=h;simp only[bx,iu]at h';let⟨⟨⟨⟨⟨h1,h2⟩,h3⟩,h4⟩,h5⟩,h6⟩:=h';have:=beq_iff_eq.mp h1;subst this;let⟨g1,g2⟩:=F0 Q h2;exact aD1 g1 g2 (tL (lQ Q a y h5) (tL (lQ Q b z h6) Cj (aU h4)) (aU h3)) (by rw[aU h3,aU h4];rfl) (aU h4)
   |_=>exact bI h
  |_=>exact bI h
 |.items c,e,h=>by
  have h':(S.calm&&(match tR e with
   |some (y,n,l)=>l&&n==("values":Str)&&bR y&&kE S c y
   |none=>ao))=ak:=h
  rw[bx]at h';let⟨h0,h4⟩:=h';cases q2:tR e with
  |none=>rw[q2]at h4;exact bI h4
  |some z =>
   let⟨y,n,l⟩:=z;rw[q2]at h4;simp only[bx]at h4;let⟨⟨⟨h5,h6⟩,h7⟩,h8⟩:=h4;have e6:=beq_iff_eq.mp h6;subst e6;let⟨ap,cp,rfl,rfl⟩:=De q2;exact Pq (Q.cm h0) (lQ Q c y h8) (mX h7) h5
 |.keys c,e,h=>by
  have h':(S.calm&&kE S c e)=ak:=h;rw[bx]at h';exact aDP (Q.cm h'.1) (lQ Q c e h'.2)
def Jg:Dq X tg e (λ_ _ _=>False):=λ_ _ _ _ _ _ ⟨_,_,_,_,_,z,_⟩=>z.elim
def aVD{X:Cx}(Q:sI X S ex)(ND:tt=ak->X.calm=ak/\∃es kt pt,tg=.Tuple es kt pt):∀(c:CI)(e:gV),kI S tt c e=ak->Dq X tg e (Np S.gl X.K ex c)
 |.any c,e,h=>Jg
 |.wy c,e,h=>Jg
 |.wx a b,e,h=>Jg
 |.items c,e,h=>by
  have h':(S.calm&&(match tR e with
   |some (y,n,l)=>l&&n==("values":Str)&&bR y&&kE S c y
   |none=>ao))=ak:=h
  rw[bx]at h';let⟨h0,h4⟩:=h';cases q2:tR e with
  |none=>rw[q2]at h4;exact bI h4
  |some z =>
   let⟨y,n,l⟩:=z;rw[q2]at h4;simp only[bx]at h4;let⟨⟨⟨h5,h6⟩,h7⟩,h8⟩:=h4;have e6:=beq_iff_eq.mp h6;subst e6;let⟨ap,cp,rfl,rfl⟩:=De q2;exact aDV (Q.cm h0) (lQ Q c y h8) (mX h7) h5
 |.keys c,e,h=>by
  have h':(S.calm&&kE S c e)=ak:=h;rw[bx]at h';exact aDQ (Q.cm h'.1) (lQ Q c e h'.2)
def Qw(h:isTup e=ak):∃es kt pt,e=.Tuple es kt pt:=by
 cases e<;>first|exact⟨_,_,_,rfl⟩|exact bI h
variable{r:Bool}
def jx{c:CS}{e:jq}(h:(cq c e&&r)=ak)(z:(Ea c==99)=ao:=by rfl):e.ctorIdx=Ea c:=by
 unfold cq at h;rw[z,CQ]at h;simp only[bx]at h;exact beq_iff_eq.mp h.1.1.1
def jy{c:CS}(h:(cq c e&&r)=ak)(z:(D9 c==99)=ao:=by rfl):t1 e=D9 c:=by
 unfold cq at h;rw[z,CQ]at h;simp only[bx]at h;exact beq_iff_eq.mp h.1.1.2
def aQO{k:Nat}{z:gV}(h:cx k z=23):z.ctorIdx=k/\s1 z=23:=by
 unfold cx at h;by_cases q:z.ctorIdx=k
 .rw[if_pos q]at h;exact⟨q,h⟩
 .rw[if_neg q]at h;cases h
def Z9{e:jq}(h:e.ctorIdx=3):∃x p,e=.Return x p:=Stmt.Return.elim (motive_2:=(∃x p,· =.Return x p)) e h λ_ _=>⟨_,_,rfl⟩
def LP{e:jq}(h:e.ctorIdx=5):∃l y p,e=.Assign l y p:=Stmt.Assign.elim (motive_2:=(∃l y p,· =.Assign l y p)) e h λ_ _ _=>⟨_,_,_,rfl⟩
def Pl{e:jq}(h:e.ctorIdx=9):∃t i b l p,e=.For t i b l p:=Stmt.For.elim (motive_2:=(∃t i b l p,· =.For t i b l p)) e h λ_ _ _ _ _=>⟨_,_,_,_,_,rfl⟩
def aLF{e:jq}(h:e.ctorIdx=12):∃x y z p,e=.If x y z p:=Stmt.If.elim (motive_2:=(∃x y z p,· =.If x y z p)) e h λ_ _ _ _=>⟨_,_,_,_,rfl⟩
def YS{e:jq}(h:e.ctorIdx=16):∃x y p,e=.Raise x y p:=Stmt.Raise.elim (motive_2:=(∃x y p,· =.Raise x y p)) e h λ_ _ _=>⟨_,_,_,rfl⟩
def aE7{e:jq}(h:e.ctorIdx=17):∃y h l f p,e=.Try y h l f p:=Stmt.Try.elim (motive_2:=(∃y h l f p,· =.Try y h l f p)) e h λ_ _ _ _ _=>⟨_,_,_,_,_,rfl⟩
def Xu{e:jq}(h:e.ctorIdx=24):∃x p,e=.Expr x p:=Stmt.Expr.elim (motive_2:=(∃x p,· =.Expr x p)) e h λ_ _=>⟨_,_,rfl⟩
def Xs{e:jq}(h:e.ctorIdx=25):∃p,e=.Pass p:=Stmt.Pass.elim (motive_2:=(∃p,· =.Pass p)) e h λ_=>⟨_,rfl⟩
mutual
theorem M7:∀(c:CS){X:Cx}{S:SI}{ex:bZ->f9}{lv:Nat},kK X S ex lv->∀(st:jq),kS S lv c st=ak->fk X st (mS S.gl X.K ex c)
 |.ret e,X,S,ex,lv,Q,st,h=>by
  let⟨v,p,rfl⟩:=Z9 (jx h);cases v with
  |some x=>exact aPD (lQ Q.si e x h)
  |none=>exact bI h
 |.expr e,X,S,ex,lv,Q,st,h=>by
  let⟨x,p,rfl⟩:=Xu (jx h);have h':(!zE x&&kE S e x)=ak:=h;simp only[bx,iu]at h';exact aJ0 (lQ Q.si e x h'.2) (EI h'.1)
 |.ifs t a b,X,S,ex,lv,Q,st,h=>by
  let⟨x,y,z,p,rfl⟩:=aLF (jx h);have h':(kT S t x&&kB S lv a y&&kB S lv b z)=ak:=h;simp only[bx]at h';exact aU6 (qV Q.si t x h'.1.1) (oz a Q y h'.1.2) (oz b Q z h'.2)
 |.set i e,X,S,ex,lv,Q,st,h=>by
  have jz:=jy h;let⟨ts,y,p,rfl⟩:=LP (jx h);cases ts with
  |nil=>exact bI h
  |cons t r =>
   let⟨x,q,rfl⟩:=nY jz;cases r with
   |cons _ _=>exact bI h
   |nil =>
    have h':(S.N[i]?==aj x&&S.fl[i]?==aj ak&&!zE y&&kE S e y)=ak:=h;simp only[bx,iu]at h';have e1:=beq_iff_eq.mp h'.1.1.1;exact aPE (i:=i) Q.si.nd (by rw[Q.si.N];exact e1) (Q.loc i x e1 (beq_iff_eq.mp h'.1.1.2)) (lQ Q.si e y h'.2) (EI h'.1.2) (.inl (Q.fn x))
 |.iE k o e,X,S,ex,lv,Q,st,h=>by
  have jz:=jy h;let⟨ts,z,p,rfl⟩:=LP (jx h);cases ts with
  |nil=>exact bI h
  |cons t r =>
   let⟨x,n,q,rfl⟩:=fB jz;cases r with
   |cons _ _=>exact bI h
   |nil =>
    have h':(Aq S k n&&!zE z&&kE S o x&&kE S e z)=ak:=h;simp only[bx,iu]at h';let⟨y,C,hg⟩:=Po h'.1.1.1;let⟨_,_,_,g⟩:=Q.si.gm _ _ _ hg;show fk X _ (KA S.gl k _ _);unfold KA;rw[hg];exact aK0 (lQ Q.si o x h'.1.2) (lQ Q.si e z h'.2) g.1 g.2 (EI h'.1.1.2)
 |.we o i e,X,S,ex,lv,Q,st,h=>by
  have jz:=jy h;let⟨ts,z,p,rfl⟩:=LP (jx h);cases ts with
  |nil=>exact bI h
  |cons t r =>
   let⟨x,y,q,rfl⟩:=qD jz;cases r with
   |cons _ _=>exact bI h
   |nil =>
    have h':(!isSlice y&&!zE z&&kE S o x&&kE S i y&&kE S e z)=ak:=h;simp only[bx,iu]at h';exact aK1 Q.si.hu (lQ Q.si o x h'.1.1.2) (lQ Q.si i y h'.1.2) (lQ Q.si e z h'.2) (EI h'.1.1.1.2)
 |.raise k e es,X,S,ex,lv,Q,st,h=>by
  have jz:=jy h;let⟨a,b,p,rfl⟩:=YS (jx h);cases a with
  |none=>exact bI h
  |some a =>
   let⟨q1,q2⟩:=aQO jz;let⟨f,as,ks,q,rfl⟩:=nW q1;let⟨x,np,rfl⟩:=nY q2;cases as with
   |nil=>exact bI h
   |cons y ys =>
    cases ks with
    |cons _ _=>exact bI h
    |nil =>
     cases b with
     |some _=>exact bI h
     |none=>exact Xv Q h
 |.wo b hs,X,S,ex,lv,Q,st,h=>by
  have jz:=jy h;let⟨y,hd,el,fin,p,rfl⟩:=aE7 (jx h);cases hd with
  |nil=>exact bI h
  |cons z zs =>
   let⟨ty,nm,dt,hp⟩:=z;cases ty with
   |none=>cases jz
   |some ty =>
    let⟨x,cp,rfl⟩:=nY jz;cases el with
    |cons _ _=>exact bI h
    |nil =>
     cases fin with
     |cons _ _=>exact bI h
     |nil =>
      have h':(lv==0&&S.calm&&kB S 1 b y&&kH S hs (.ExceptHandler (aj (.Name x cp)) nm dt hp::zs))=ak:=h;simp only[bx]at h';let⟨⟨⟨h0,eI⟩,h3⟩,h4⟩:=h';let⟨l,e1,e2,e3⟩:=M9 hs Q (.ExceptHandler (aj (.Name x cp)) nm dt hp::zs) h4;cases l with
      |nil=>cases e1
      |cons a r =>
       show fk X _ (AI X.K (λyo=>mB S.gl X.K yo b) (mH S.gl X.K hs));rw[e1,e2];exact aKS (Q.si.cm eI) Q.i7 Q.BV e3 λpn EX=>oz b (Q.tr pn EX) y h3
 |.aug i neg e,X,S,ex,lv,Q,st,h=>by
  cases st with
  |AugAssign t o y p =>
   cases t with
   |Name x q =>
    have h':(S.N[i]?==aj x&&S.fl[i]?==aj ak&&o==(if neg then Operator.Sub else Operator.Add)&&kE S e y)=ak:=h;simp only[bx]at h';let⟨⟨⟨h1,h2⟩,h3⟩,h4⟩:=h';have e1:=beq_iff_eq.mp h1;have:=beq_iff_eq.mp h3;subst this;cases neg with
    |true=>exact Tn (i:=i) Q.si.nd (by rw[Q.si.N];exact e1) (Q.loc i x e1 (beq_iff_eq.mp h2)) aBR (lQ Q.si e y h4) (.inl (Q.fn x))
    |false=>exact Tn (i:=i) Q.si.nd (by rw[Q.si.N];exact e1) (Q.loc i x e1 (beq_iff_eq.mp h2)) aBQ (lQ Q.si e y h4) (.inl (Q.fn x))
   |_=>exact bI h
  |_=>exact bI h
 |.FD t b,X,S,ex,lv,Q,st,h=>by
  cases st with
  |While x y el p =>
   cases el with
   |cons _ _=>exact bI h
   |nil =>
    have h':(lv !=1&&kT S t x&&kB S lv b y)=ak:=h;simp only[bx]at h';exact aD2 (Q.l0 (bne_iff_ne.mp h'.1.1)) (qV Q.si t x h'.1.2) (oz b Q y h'.2)
  |_=>exact bI h
 |.wm ci tg b,X,S,ex,lv,Q,st,h=>by
  let⟨bS,it,body,el,p,rfl⟩:=Pl (jx h);cases el with
  |cons _ _=>exact bI h
  |nil =>
   have h':(lv !=1&&BZ S tg&&!isSet it&&vn S tg bS&&kI S (isTup bS&&S.calm) ci it&&kB S lv b body)=ak:=h;simp only[bx,iu]at h';let⟨⟨⟨⟨⟨h1,hg⟩,h2⟩,h3⟩,h4⟩,h5⟩:=h';exact aJT (Q.l0 (bne_iff_ne.mp h1)) (aVC Q.si (λz=>by rw[bx]at z;exact⟨Q.si.cm z.2,Qw z.1⟩) ci it h4) (Ta Q hg h3) (oz b Q body h5) (IB h2)
 |.B0 ci tg b,X,S,ex,lv,Q,st,h=>by
  let⟨bS,it,body,el,p,rfl⟩:=Pl (jx h);cases el with
  |cons _ _=>exact bI h
  |nil =>
   have h':(lv !=1&&BZ S tg&&!isSet it&&vn S tg bS&&kI S (isTup bS&&S.calm) ci it&&kB S lv b body)=ak:=h;simp only[bx,iu]at h';let⟨⟨⟨⟨⟨h1,hg⟩,h2⟩,h3⟩,h4⟩,h5⟩:=h';exact aDR (Q.l0 (bne_iff_ne.mp h1)) (aVD Q.si (λz=>by rw[bx]at z;exact⟨Q.si.cm z.2,Qw z.1⟩) ci it h4) (Ta Q hg h3) (oz b Q body h5) (IB h2)
 |.pass,X,S,ex,lv,Q,st,h=>by
  let⟨_,rfl⟩:=Xs (jx h);exact aIZ
theorem oz:∀(c:CB){X:Cx}{S:SI}{ex:bZ->f9}{lv:Nat},kK X S ex lv->∀(st:List jq),kB S lv c st=ak->iN X st (mB S.gl X.K ex c)
 |.nil,X,S,ex,lv,Q,st,h=>by
  cases st with
  |nil=>exact aPB
  |cons _ _=>exact bI h
 |.cons s .nil,X,S,ex,lv,Q,st,h=>by
  match st,h with
  |[],h=>exact bI h
  |[x],h =>
   have h':(kS S lv s x&&kB S lv .nil [])=ak:=h;rw[bx]at h';exact aPC (M7 s Q x h'.1)
  |x::y::ys,h =>
   have h':(kS S lv s x&&kB S lv .nil (y::ys))=ak:=h;rw[bx]at h';exact bI h'.2
 |.cons s (.cons s' r),X,S,ex,lv,Q,st,h=>by
  match st,h with
  |[],h=>exact bI h
  |x::ys,h =>
   have h':(kS S lv s x&&kB S lv (.cons s' r) ys)=ak:=h;rw[bx]at h';exact aIY (M7 s Q x h'.1) (oz (.cons s' r) Q ys h'.2)
theorem M9:∀(c:CH){X:Cx}{S:SI}{ex:bZ->f9}{lv:Nat},kK X S ex lv->∀(hd:List ExceptHandler),kH S c hd=ak->∃l:List iP,hd=l.map iP.ast/\mH S.gl X.K c=l.map iP.pr/\∀h∈l,KO X h
 |.nil,X,S,ex,lv,Q,hd,h=>by
  cases hd with
  |nil=>exact⟨[],rfl,rfl,λh m=>nomatch m⟩
  |cons _ _=>exact bI h
 |.cons k b r,X,S,ex,lv,Q,hd,h=>by
  cases hd with
  |nil=>exact bI h
  |cons z zs =>
   let⟨ty,nm,dt,hp⟩:=z;cases ty with
   |none=>exact bI h
   |some ty =>
    cases ty with
    |Name x cp =>
     cases nm with
     |some _=>exact bI h
     |none =>
      cases dt with
      |nil=>exact bI h
      |cons u us =>
       have h':(kB S.Ih 2 b (u::us)&&S.gv[k]?==aj ak&&AG S k x&&kH S r zs)=ak:=h;simp only[bx]at h';let⟨⟨⟨h1,hv⟩,hc⟩,h2⟩:=h';have hv:=beq_iff_eq.mp hv;let⟨a,hg⟩:=Qx hc;let⟨g1,g2,g3,g4,g5⟩:=Q.si.gl _ _ _ hg hv;let⟨c1,c2,c3,c4⟩:=Q.cls _ _ _ hg hv;let⟨l,e1,e2,e3⟩:=M9 r Q zs h2;refine⟨⟨x,cp,a,u,us,hp,mB S.gl X.K kU b⟩::l,by rw[e1];rfl,?_,λh m=>?_⟩
       .show(Ky S.gl k,mB S.gl X.K kU b)::mH S.gl X.K r=_;rw[e2];unfold Ky;rw[hg];rfl
       .rcases nu.mp m with rfl|m
        .exact⟨g1,g4,c2,c3,c4,λxx=>oz b (Q.ha xx) (u::us) h1,g2⟩
        .exact e3 h m
    |_=>exact bI h
end
end L4
namespace L4
open PySem PySem.Spec PyProof.Rows L2
abbrev aW(R:lG):lG:=λd G'=>∃G0,Le G0 G'/\R d G0
abbrev lH(EX:f9):f9:=λC G'=>∃G0,Le G0 G'/\EX C G0
abbrev vP(n m:Nat)(tb:f9->oX):jI:=λds G R EX=>ds.length=m/\tb (lH EX) ⟨λ_ G'=>aW R .ag G',aW R,λ_ _=>False,λ_ _=>False⟩ (Fh n ds) G
def aW.here{d:D}(h:R d G):aW R d G:=⟨G,.refl G,h⟩
def lH.here{d:bw}(h:R d G):lH R d G:=⟨G,.refl G,h⟩
def Xr{K:Fg}(h:tP K EX E):tP K (lH EX) E:=λC H' G' g ⟨G0,l,q⟩=>h C H' G0 (g.le l) q
variable{qt:Bool}{P:jr}{mg:Str->Option bh}{base:jw}{fd:jm}{ps:List Str}
def aE9{w:je}{K:Fg}{x qual:Str}{st:jq}{f:bw}{N:List Str}{k:Nat}{tb:f9->oX}(F:cK K x qual st f fd)(S:aN N ps (aX st))
  (gx:∀(dP:bh)(A:jd)(outer:List Env)(s:dg)(H:Hp)(E:XK)(EX:f9),mZ qt k (A.deeper (envOfC qual (aX st) s.heap.objs.size f dP))->tP K EX E ->
   iN (dE qt P w K mg base N qual (aX st) f dP A outer s H E) (cB st) (tb EX)):bM qt P w K mg base (jY P w) (k+1) f fd ps (cJ K (vP N.length ps.length tb)):=by
 refine(aJ1 F S gx).imp ?_;rintro vs H Q E ⟨ds,G,R,EX,r,g,⟨hl,q⟩,kk,hE⟩;exact⟨ds,G,aW R,lH EX,r,g,⟨hl,q⟩,(by rintro v H' d G' r1 g1 ⟨G0,l,q⟩;exact kk v H' d G0 r1 (g1.le l) q),Xr hE⟩
abbrev Dw(P:jr)(w:je)(K:Fg)(mg:Str->Option bh)(base:jw)(k:Nat)(x:Str):GT->Prop
 |.con d=>∃u v,mg x=aj u/\RelV v u/\∀H,RD K H d v
 |.cls a=>mg x=aj (.ref a)/\yw K a Hc "ValueError.__new__"=ak/\(vg K a).isSome=ak/\x4 K (.ref a)=aj (.type "type")/\jc K (.ref a) (.type "BaseException")=aj ak
 |.fn sp n qt=>∃f fd ps,bM qt P w K mg base (jY P w) k f fd ps (cJ K sp)/\mg x=aj (.ref f)/\qp K (.ref f)=ak/\Binds K fd ps []
 |.bf b=>mg x=au/\mz x=aj (ID b)
 |.bt n=>mg x=au/\mz x=aj (.type n)
 |.kl C sp dd=>∃j f fd ps ds bu,j+1=k/\Mk K C f/\bM ao P w K mg base (jY P w) j f fd ps (cJ K sp)/\mg x=aj (.ref C)/\Binds K fd ps ds/\Vals bu ds/\∀H,cV K H dd bu
 |.me C m sp dd=>∃f fd ps ds bu,gc K C/\Meth K C m f/\bM ao P w K mg base (jY P w) k f fd ps (cJ K sp)/\Binds K fd ps ds/\Vals bu ds/\∀H,cV K H dd bu
 |.fl C f=>gc K C/\j6 K C f
abbrev Kx(sc:di)(x:Str):Bool:=match sc.names.lookup x with
 |some .local=>ak
 |some .cell=>ak
 |_=>ao
abbrev Kw(sc:di)(x:Str):Bool:=match sc.names.lookup x with
 |some .local=>ak
 |_=>ao
abbrev Kv(sc:di)(x:Str):Bool:=match sc.names.lookup x with
 |some .globalImplicit=>ak
 |_=>ao
abbrev Ku(sc:di)(x:Str):Bool:=match sc.names.lookup x with
 |some .cell=>ak
 |_=>ao
private theorem aEA{sc:di}{x:Str}(h:Ku sc x=ak):sc.names.lookup x=aj .cell:=by
 unfold Ku at h;split at h
 .rename_i e;exact e
 .exact bI h
abbrev AF(S:SI)(sc:di):Bool:=(lg S.N.length).all (λi=>match S.N[i]? with
  |none=>ao
  |some x=>x !=("__debug__":Str)&&x !=("__classdict__":Str)&&(S.fl[i]? !=aj ak||Kx sc x)&&(S.lc[i]? !=aj ak||Kw sc x)&&(S.ce[i]? !=aj ak||Ku sc x)) &&
 (lg S.gl.length).all (λk=>match S.gl[k]? with
  |none=>ao
  |some (y,_)=>(S.gv[k]? !=aj ak||Kv sc y)&&y !=("__debug__":Str)&&y !=("__name__":Str))
private theorem aEB{x:Str}(h:Kx sc x=ak):Loc sc x:=by
 unfold Kx at h;split at h
 .rename_i e;exact .inl e
 .rename_i e;exact .inr e
 .exact bI h
def aEC{x:Str}(h:Loc sc x):yi sc x:=h.elim .inl λz=>.inr (.inl z)
private theorem aED{sc:di}{x:Str}(h:Kw sc x=ak):sc.names.lookup x=aj .local:=by
 unfold Kw at h;split at h
 .rename_i e;exact e
 .exact bI h
private theorem aEE{sc:di}{x:Str}(h:Kv sc x=ak):sc.names.lookup x=aj .globalImplicit:=by
 unfold Kv at h;split at h
 .rename_i e;exact e
 .exact bI h
variable{S:SI}
def Fm{sc:di}(h:AF S sc=ak){i:Nat}{x:Str}(e:S.N[i]?=aj x) :
  (x==("__debug__":Str))=ao/\(x==("__classdict__":Str))=ao/\(S.fl[i]?=aj ak->Loc sc x)/\(S.lc[i]?=aj ak->sc.names.lookup x=aj .local)/\(S.ce[i]?=aj ak->sc.names.lookup x=aj .cell):=by
 unfold AF at h;rw[bx]at h;have hi:i<S.N.length:=(jl.mp e).1;have q:=kh.mp h.1 i (yx.mpr hi);rw[e]at q;simp only[bx,bne_iff_ne,ne_eq,Gh]at q;let⟨⟨⟨⟨q1,q2⟩,q3⟩,q4⟩,q5⟩:=q;refine⟨beq_eq_false_iff_ne.mpr q1,beq_eq_false_iff_ne.mpr q2,λz=>?_,λz=>?_,λz=>?_⟩
 .rcases q3 with q|q
  .exact absurd z q
  .exact aEB q
 .rcases q4 with q|q
  .exact absurd z q
  .exact aED q
 .rcases q5 with q|q
  .exact absurd z q
  .exact aEA q
def aEF{sc:di}(h:AF S sc=ak){k:Nat}{x:Str}{g:GT}(e:S.gl[k]?=aj (x,g)):(S.gv[k]?=aj ak->sc.names.lookup x=aj .globalImplicit)/\(x==("__debug__":Str))=ao/\x≠"__name__":=by
 unfold AF at h;rw[bx]at h;have q:=kh.mp h.2 k (yx.mpr (jl.mp e).1);rw[e]at q;simp only[bx,bne_iff_ne,ne_eq,Gh]at q;exact⟨λz=>aEE (q.1.1.resolve_left λn=>n z),beq_eq_false_iff_ne.mpr q.1.2,q.2⟩
def Xq{w:je}{K:Fg}{x qual:Str}{st:jq}{f:bw}{k:Nat}{c:CB}(F:cK K x qual st f fd)(hS:aN S.N ps (aX st))
  (hc:S.calm=!qt)(hv:AF S (aX st)=ak)(hk:kB S 0 c (cB st)=ak)(hg:∀(j:Nat)(y:Str)(g:GT),S.gl[j]?=aj (y,g)->Dw P w K mg base k y g) :
  bM qt P w K mg base (jY P w) (k+1) f fd ps (cJ K (vP S.N.length ps.length λEX=>mB S.gl K (λ_=>EX) c)):=by
 refine aE9 F hS λdP A outer s H E EX hr hE=>?_;refine oz c (X:=dE qt P w K mg base S.N qual (aX st) f dP A outer s H E) (S:=S) (ex:=λ_=>EX) (lv:=0) ?_ (cB st) hk;refine⟨⟨rfl,hS.nd,λi y e1 e2=>?_,λi y e1 e2=>.inl ((Fm hv e1).2.2.2.2 e2),λj y g e=>?_,hr.units,λz=>hc.symm.trans z,aU9 hE⟩,λi y e1 e2=>?_,λi y e1 e2=>?_,λ_=>rfl,λj y a e _=>?_,λ_=>MB,λ_ _=>aUA hE,rfl,rfl⟩
 .obtain⟨a1,a2,a3,a4⟩:=Fm hv e1;exact⟨aEC (a3 e2),a1,a2⟩
 .obtain⟨a1,a2,a3⟩:=aEF hv e;have z:=hg j y g e;refine⟨a1,a2,a3,?_⟩;cases g with
  |con d=>exact z
  |cls a=>exact⟨z.1,z.2.1⟩
  |fn sp n q2 =>
   intro hz;let⟨f',BW,qS,F',m',k',b'⟩:=z;refine⟨k,f',BW,qS,F',⟨λe=>hr.hd ?_,hr.dp,hr.un⟩,m',k',b'⟩;have hs:S.calm=ak:=hz.resolve_left (by rw[e];decide);rw[hc]at hs;simpa using hs
  |bf b=>exact z
  |bt n=>exact z
  |kl C sp dd =>
   intro hs;let⟨j',f',BW,qS,ds,bu,rfl,q1,q2,q3,q4,q5,q6⟩:=z;rw[hc]at hs;exact⟨j',f',BW,qS,ds,bu,q1,q2,⟨λ_=>hr.hd (by simpa using hs),hr.dp,hr.un⟩,q3,q4,q5,q6⟩
  |me C m sp dd =>
   intro hs;let⟨f',BW,qS,ds,bu,q1,q2,q3,q4,q5,q6⟩:=z;rw[hc]at hs;exact⟨k,f',BW,qS,ds,bu,q1,q2,q3,⟨λ_=>hr.hd (by simpa using hs),hr.dp,hr.un⟩,q4,q5,q6⟩
  |fl C f=>exact z
 .exact(Fm hv e1).2.2.1 e2
 .exact(Fm hv e1).2.2.2.1 e2
 .have z:=hg j y _ e;exact z.2
end L4
namespace L4
open PySem PySem.Spec PyProof.Rows L2
def xP{P:Str->GT->Prop}:∀(j:Nat)(y:Str)(g:GT),([]:List (Str×GT))[j]?=aj (y,g)->P y g:=λj y g h=>by simp at h
def bD{P:Str->GT->Prop}{x:Str}{g:GT}{l:List (Str×GT)}(h:P x g)(r:∀(j:Nat)(y:Str)(g:GT),l[j]?=aj (y,g)->P y g):∀(j:Nat)(y:Str)(g':GT),((x,g)::l)[j]?=aj (y,g')->P y g'
 |0,y,g',e=>by simp at e;let⟨e1,e2⟩:=e;subst e1;subst e2;exact h
 |j+1,y,g',e=>r j y g' (by simpa using e)
section
variable{w:je}{K:Fg}{mg:Str->Option bh}{base:jw}{k:Nat}{x:Str}
def lx{z:Int}(h:∃t,mg x=aj (.int z t)):Dw P w K mg base k x (.con (.int z)):=by
 let⟨t,h⟩:=h;exact⟨_,.int z,h,⟨t,rfl⟩,λ_=>.int z⟩
end
def Qv:mz "range"=aj (.type "range"):=by decide+kernel
end L4
namespace L4
open PySem PySem.Spec PyProof.Rows L2
variable{ps:List Str}
def Pk{K:Fg}(h:∀us:List bh,us.length=ps.length->uf fd ⟨us,[]⟩=pure (ps.zip us)):Binds K fd ps []:=Binds.all h
variable{fd:jm}{sl:Array (Option bh)}
def JE{K:Fg}{n:Nat}(e:K.lookup T=aj ⟨oc,od,.seq #[u] n,sl⟩)
  (h:∀us:List bh,us.length=ps.length->∃k:Option (Array bh)->Sem (List (Str×bh)),fd.defaults=.ref T/\uf fd ⟨us,[]⟩=seqItems? fd.defaults >>= k/\k (aj #[u])=pure (ps.zip us)):Binds K fd ps []:=λs us hK hl=>by
 rw[Bk]at hl ⊢;let⟨k,h0,h1,h2⟩:=h us hl;exact PySem.W.binds_K hK h0 e rfl h1 h2
def JD{K:Fg}{n:Nat}(e:K.lookup T=aj ⟨oc,od,.seq #[u] n,sl⟩)
  (h:∀us:List bh,us.length+1=ps.length->∃k:Option (Array bh)->Sem (List (Str×bh)),fd.defaults=.ref T/\uf fd ⟨us,[]⟩=seqItems? fd.defaults >>= k/\k (aj #[u])=pure (ps.zip (us++[u]))):Binds K fd ps [u]:=λs us hK hl=>by
 let⟨k,h0,h1,h2⟩:=h us (by simpa using hl);exact PySem.W.binds_K hK h0 e rfl h1 h2
end L4
namespace L5
open PySem PySem.Spec PyProof.Rows L2 L4
abbrev zz(x:D)(f:Bool->Prop):Prop:=match x with
 |.bl k=>f k
 |_=>False
abbrev Hx(x:D)(f:Int->Prop):Prop:=match x with
 |.int k=>f k
 |_=>False
def aLK{k:Bool}:zz (.bl k) f=f k:=rfl
def aEG{k:Int}:Hx (.int k) f=f k:=rfl
abbrev nS(xs:List D):Prop:=xs.length<=dj
def aLL:nS []=True:=eq_true (show 0<=dj by decide)
variable{a0:D}
def aLM:nS [a0]=True:=eq_true (show 1<=dj by decide)
variable{a1:D}
def aLN:nS [a0,a1]=True:=eq_true (show 2<=dj by decide)
def aLO:nS [a0,a1,a2]=True:=eq_true (show 3<=dj by decide)
def aLP:nS [a0,a1,a2,a3]=True:=eq_true (show 4<=dj by decide)
def aLQ:nS [a0,a1,a2,a3,a4,a5]=True:=eq_true (show 6<=dj by decide)
def aLR:nS [a0,a1,a2,a3,a4,a5,a6]=True:=eq_true (show 7<=dj by decide)
variable{r:R3}{T:String}{z:Str}{ds:List D}
section
variable{t:oX}{F:eN}{G:Gp}{R:lG}{tt DT:cb}{K:Fg}
def aQQ:aJ t u F ρ G=t {F with nx:=u F} ρ G:=rfl
def aLS:bO F ρ G=F.nx ρ G:=rfl
def aLT:bB te F ρ G=te ρ G λ_ G1=>F.nx ρ G1:=rfl
def aQR:bK te F ρ G=te ρ G F.rt:=rfl
def aQS:dJ tt t u F ρ G=tt ρ G λb G1=>if b=ak then t F ρ G1 else u F ρ G1:=rfl
def aQT{i:Nat}:fM i te F ρ G=te ρ G λx G1=>F.nx (iO ρ i x) G1:=rfl
def x_raise:gU EX C tA F ρ G=tA ρ G λds G1=>nS ds/\EX ρ C G1:=rfl
def x_c{d:D}:iM d ρ G R=R d G:=rfl
def aLU{d:D}:cO 0 (aj d::ρ) G R=R d G:=rfl
def aLV{o:Option D}{n:Nat}:cO (n+1) (o::ρ) G R=cO n ρ G R:=rfl
def Oj{o:Option D}{d:D}:iO (o::ρ) 0 d=aj d::ρ:=rfl
def Oi{o:Option D}{n:Nat}{d:D}:iO (o::ρ) (n+1) d=o::iO ρ n d:=rfl
def Oh{o:Option D}:FN (o::ρ) 0=au::ρ:=rfl
def Og{o:Option D}{n:Nat}:FN (o::ρ) (n+1)=o::FN ρ n:=rfl
def aVF:aP r ta tb ρ G R=ta ρ G λx G1=>tb ρ G1 λy G2=>r x y G2 R:=rfl
def aLW:aQ te ρ G Q=te ρ G λx G1=>zz x λk=>Q k G1:=rfl
def aEH{r':R3}:pY r r' ta tb tc ρ G R=ta ρ G λx G1=>tb ρ G1 λy G2=>r x y G2 λz G3=>zz z λk=>if k=ak then tc ρ G3 λw G4=>r' y w G4 R else R (.bl ao) G3:=by
 unfold pY;congr 1;funext x G1;congr 1;funext y G2;congr 1;funext z G3;cases z with
 |bl k=>cases k<;>rfl
 |_=>rfl
def aQU:AR tt DT ρ G Q=tt ρ G λc G1=>if c=ak then DT ρ G1 Q else Q ao G1:=rfl
def aVG:gL tt DT ρ G Q=tt ρ G λc G1=>if c=ak then Q ak G1 else DT ρ G1 Q:=rfl
def aQV:nU tt ρ G Q=tt ρ G λc G1=>Q (!c) G1:=rfl
def aLX:wD ta tb ρ G R=ta ρ G λx G1=>zz x λk=>if k=ak then tb ρ G1 R else R (.bl ao) G1:=by
 unfold wD;congr 1;funext x G1;cases x with
 |bl k=>cases k<;>rfl
 |_=>rfl
def aQW:Ck ta tb ρ G R=ta ρ G λx G1=>zz x λk=>if k=ak then R (.bl ak) G1 else tb ρ G1 R:=by
 unfold Ck;congr 1;funext x G1;cases x with
 |bl k=>cases k<;>rfl
 |_=>rfl
def aLY:Cz ta ρ G R=ta ρ G λx G1=>zz x λk=>R (.bl (!k)) G1:=rfl
def aQX:AQ ta ρ G R=ta ρ G λx G1=>Hx x λk=>R (.int (-k)) G1:=rfl
def aQY:dD ρ G Q=Q [] G:=rfl
def aLZ:aZ te tA ρ G Q=te ρ G λx G1=>tA ρ G1 λxs G2=>Q (x::xs) G2:=rfl
def aQZ:lR tA ρ G R=tA ρ G λxs G1=>nS xs/\R (.tup xs) G1:=rfl
def aR0:n9 tA ρ G R=tA ρ G λxs G1=>nS xs/\∀p,G1 p=au->R (.ref p) (aF G1 p (.lst xs)):=rfl
def aR1:A5 ρ G R=∀p,G p=au->R (.ref p) (aF G p (.cR ao [])):=rfl
def x_call{ex:bZ->f9}:aO sp ex tA ρ G R=tA ρ G λds G1=>sp ds G1 R (ex ρ):=rfl
def aVH{r:List D->Gp->lG->Prop}:eU r tA ρ G R=tA ρ G λxs G1=>r xs G1 R:=rfl
def x_m{r:jS}:k7 T r te tA ρ G R=te ρ G λx G1=>pz T G1 x/\tA ρ G1 λxs G2=>r x xs G2 R:=rfl
def aEI:pz "list" G (.ref p)=((cF G p).isSome=ak):=by unfold pz;simp
def Xp:F7 ρ G Q=Q au G:=rfl
def aM0:Ff te ρ G Q=te ρ G λx G1=>Hx x λk=>Q (aj k) G1:=rfl
def aEJ{th:tS}:Fu te tl th ρ G R=te ρ G λx G1=>tl ρ G1 λlo G2=>th ρ G2 λhi G3=>FK x lo hi G3 R:=rfl
def Xo{i j:Int}:fL (.int i) (.int j) G R=R (.int (i+j)) G:=rfl
def aR2{i j:Int}:xo (.int i) (.int j) G R=R (.int (i - j)) G:=rfl
def S9{i j:Int}:p6 (.int i) (.int j) G R=(B7 i j/\R (.int (i*j)) G):=rfl
def aM1{i j:Int}:Cy (.int i) (.int j) G R=(K7 i j/\R (.int (i / j)) G):=rfl
def aR3{i j:Int}:lU (.int i) (.int j) G R=(0<j/\R (.int (i%j)) G):=rfl
def aR4{i j:Int}:Ci (.int i) (.int j) G R=(K6 i j/\R (.int (i^j.toNat)) G):=rfl
def x_lt{i j:Int}:nB (.int i) (.int j) G R=R (.bl (decide (i<j))) G:=rfl
def aVI{i j:Int}:B6 (.int i) (.int j) G R=R (.bl (decide (j<i))) G:=rfl
def x_ge{i j:Int}:Az (.int i) (.int j) G R=R (.bl (decide (j<=i))) G:=rfl
def aVJ{i j:Int}:nz (.int i) (.int j) G R=R (.bl (decide (i<=j))) G:=rfl
def aM2{i j:Str}:nz (.str i) (.str j) G R=R (.bl (!decide (j.cps.toList<i.cps.toList))) G:=rfl
def aEK{i j:Int}:iL (.int i) (.int j) G R=R (.bl (i==j)) G:=by
 show(cG 20 (.int i)=ak/\cG 20 (.int j)=ak/\_)=_;simp[cG,bo]
def aEL{i j:Int}:fE (.int i) (.int j) G R=R (.bl (!(i==j))) G:=by
 show(cG 20 (.int i)=ak/\cG 20 (.int j)=ak/\_)=_;simp[cG,bo]
def aEM:iL (.str i) (.str j) G R=R (.bl (i==j)) G:=by
 show(cG 20 (.str i)=ak/\cG 20 (.str j)=ak/\_)=_;simp[cG,bo]
def aEN:fJ [.str z] G R=(z.length<=dj/\R (.int z.length) G):=rfl
def aEO:fJ [.tup ds] G R=R (.int ds.length) G:=rfl
def dF(h:cF G q=aj ds):fJ [.ref q] G R=R (.int ds.length) G:=by unfold fJ;simp only[h]
def Jf{i:Int}{d:D}(h:df xs i=aj d):tM (.tup xs) (.int i) G R=R d G:=by unfold tM;simp only[h]
def E2{i:Int}{d:D}(e:cF G p=aj xs)(h:df xs i=aj d):tM (.ref p) (.int i) G R=R d G:=by unfold tM;simp only[e,h]
def aEP:FO .ag .ag G R=R (.bl ak) G:=rfl
def akV:aD K [.ag,.ty "int"] G R=R (.bl ao) G:=by
 show("int"∈gW/\R (.bl (L2.subB "NoneType" "int")) G)=_;rw[show L2.subB "NoneType" "int"=ao from by decide];simp[gW]
def ahW:aD K [.ag,.ty "bool"] G R=R (.bl ao) G:=by
 show("bool"∈gW/\R (.bl (L2.subB "NoneType" "bool")) G)=_;rw[show L2.subB "NoneType" "bool"=ao from by decide];simp[gW]
def adY:aD K [.ag,.ty "tuple"] G R=R (.bl ao) G:=by
 show("tuple"∈gW/\R (.bl (L2.subB "NoneType" "tuple")) G)=_;rw[show L2.subB "NoneType" "tuple"=ao from by decide];simp[gW]
def Z8{b:Bool}:aD K [(.bl b),.ty "int"] G R=R (.bl ak) G:=by
 show("int"∈gW/\R (.bl (L2.subB "bool" "int")) G)=_;rw[show L2.subB "bool" "int"=ak from by decide];simp[gW]
def akW{b:Bool}:aD K [(.bl b),.ty "bool"] G R=R (.bl ak) G:=by
 show("bool"∈gW/\R (.bl (L2.subB "bool" "bool")) G)=_;rw[show L2.subB "bool" "bool"=ak from by decide];simp[gW]
def ahX{b:Bool}:aD K [(.bl b),.ty "tuple"] G R=R (.bl ao) G:=by
 show("tuple"∈gW/\R (.bl (L2.subB "bool" "tuple")) G)=_;rw[show L2.subB "bool" "tuple"=ao from by decide];simp[gW]
def akX{i:Int}:aD K [(.int i),.ty "int"] G R=R (.bl ak) G:=by
 show("int"∈gW/\R (.bl (L2.subB "int" "int")) G)=_;rw[show L2.subB "int" "int"=ak from by decide];simp[gW]
def ahY{i:Int}:aD K [(.int i),.ty "bool"] G R=R (.bl ao) G:=by
 show("bool"∈gW/\R (.bl (L2.subB "int" "bool")) G)=_;rw[show L2.subB "int" "bool"=ao from by decide];simp[gW]
def adZ{i:Int}:aD K [(.int i),.ty "tuple"] G R=R (.bl ao) G:=by
 show("tuple"∈gW/\R (.bl (L2.subB "int" "tuple")) G)=_;rw[show L2.subB "int" "tuple"=ao from by decide];simp[gW]
def akY:aD K [(.str z),.ty "int"] G R=R (.bl ao) G:=by
 show("int"∈gW/\R (.bl (L2.subB "str" "int")) G)=_;rw[show L2.subB "str" "int"=ao from by decide];simp[gW]
def ahZ:aD K [(.str z),.ty "bool"] G R=R (.bl ao) G:=by
 show("bool"∈gW/\R (.bl (L2.subB "str" "bool")) G)=_;rw[show L2.subB "str" "bool"=ao from by decide];simp[gW]
def akZ:aD K [(.str z),.ty "str"] G R=R (.bl ak) G:=by
 show("str"∈gW/\R (.bl (L2.subB "str" "str")) G)=_;rw[show L2.subB "str" "str"=ak from by decide];simp[gW]
def ae0:aD K [(.str z),.ty "tuple"] G R=R (.bl ao) G:=by
 show("tuple"∈gW/\R (.bl (L2.subB "str" "tuple")) G)=_;rw[show L2.subB "str" "tuple"=ao from by decide];simp[gW]
def al0:aD K [(.tup xs),.ty "int"] G R=R (.bl ao) G:=by
 show("int"∈gW/\R (.bl (L2.subB "tuple" "int")) G)=_;rw[show L2.subB "tuple" "int"=ao from by decide];simp[gW]
def ai0:aD K [(.tup xs),.ty "bool"] G R=R (.bl ao) G:=by
 show("bool"∈gW/\R (.bl (L2.subB "tuple" "bool")) G)=_;rw[show L2.subB "tuple" "bool"=ao from by decide];simp[gW]
def ae1:aD K [(.tup xs),.ty "tuple"] G R=R (.bl ak) G:=by
 show("tuple"∈gW/\R (.bl (L2.subB "tuple" "tuple")) G)=_;rw[show L2.subB "tuple" "tuple"=ak from by decide];simp[gW]
def JM{q C C':bw}{b:Bool}(h:G q=aj (.ir C))(e:yn K C)(k:tF K (.ref C) (.ref C')=aj b)(z:R (.bl b) G):aD K [.ref q,.ref C'] G R:=by
 unfold aD;simp only[Ah,h];exact⟨b,e,k,z⟩
end
def bC(h:G p=aj (.lst xs)):cF G p=aj xs:=by unfold cF;rw[h]
def Dd(h:G p=aj (.fo xs)):cF G p=aj xs:=by unfold cF;rw[h]
def qP:cF (aF G p (.lst xs)) p=aj xs:=bC aC
def aEQ{d:D}(h:R d G)(l:Le G G'):aW R d G':=⟨G,l,h⟩
def CJ{b:Bool}{P Q:Prop}(h1:b=ak->P)(h2:b=ao->Q):if b=ak then P else Q:=by
 cases b
 .exact h2 rfl
 .exact h1 rfl
abbrev kn(G:Gp)(d:D):Prop:=(km G d).isSome=ak
def Of(h:kn G (.ref q)):km G (.ref q)=aj "list" ∨ km G (.ref q)=aj "dict":=by
 unfold kn at h
 have e:km G (.ref q)=(match G q with
  |some (.lst _)=>aj "list"
  |some (.fo _)=>aj "list"
  |some (.cR _ _)=>aj "dict"
  |_=>au):=rfl
 rw[e]at h ⊢;split at h
 .exact .inl rfl
 .exact .inl rfl
 .exact .inr rfl
 .simp at h
def Je{b:List D}:kn G (.tup b):=rfl
section
variable{K:Fg}
def Oe{x:D}{n:String}(e:km G x=aj T)(hn:n∈gW):aD K [x,.ty n] G R=R (.bl (L2.subB T n)) G:=by
 show(match km G x with
  |some T=>n∈gW/\R (.bl (L2.subB T n)) G
  |none=>_)=_
 rw[e];exact propext ⟨λh=>h.2,λh=>⟨hn,h⟩⟩
def Z7(h:kn G (.ref q)):aD K [.ref q,.ty "int"] G R=R (.bl ao) G:=by
 rcases Of h with e|e<;>rw[Oe e (by decide)]<;>rfl
def Us(h:kn G (.ref q)):aD K [.ref q,.ty "tuple"] G R=R (.bl ao) G:=by
 rcases Of h with e|e<;>rw[Oe e (by decide)]<;>rfl
def Zj{α:Type}{a:α}{xs:List α}:df (a::xs) 0=aj a:=by
 unfold df rh;simp
def atS{α:Type}{a:α}{xs:List α}{n:Nat}:df (a::xs) ((n+1:Nat):Int)=df xs (n:Int):=by
 unfold df rh;have h0:(0:Int)<=((n+1:Nat):Int):=by omega
 have h1:(0:Int)<=(n:Int):=by omega
 rw[if_pos h0,if_pos h1];by_cases h:n<xs.length
 .have a1:((n+1:Nat):Int)<((a::xs).length:Int):=by simp;omega
  have a2:(n:Int)<(xs.length:Int):=by omega
  rw[if_pos a1,if_pos a2];simp
 .have a1:¬ ((n+1:Nat):Int)<((a::xs).length:Int):=by simp;omega
  have a2:¬ (n:Int)<(xs.length:Int):=by omega
  rw[if_neg a1,if_neg a2];rfl
def Cn{α:Type}{xs:List α}{n:Nat}:df xs (n:Int)=xs[n]?:=by
 unfold df rh;rw[if_pos ⋯];by_cases h:n<xs.length
 .rw[if_pos ⋯];simp
 .rw[if_neg ⋯];simp at h;simp[h]
def aER{a:D}:tM (.tup (a::xs)) (.int 0) G R=R a G:=Jf Zj
def aES{a b:D}:tM (.tup (a::b::xs)) (.int 1) G R=R b G:=Jf (i:=((1:Nat):Int)) (by rw[atS,Cn];rfl)
def aET{a b c:D}:tM (.tup (a::b::c::xs)) (.int 2) G R=R c G:=Jf (i:=((2:Nat):Int)) (by rw[atS,Cn];rfl)
def str_len{l:List Nat}:(⟨l.toArray⟩:Str).length=l.length:=by
 show l.toArray.size=l.length;simp
end
section
end
section
def Z6{a b:bw}{xs ys:List D}(h1:cF G a=aj xs)(h2:cF G b=aj ys)(s1:xs.all (cG 20)=ak)(s2:ys.all (cG 20)=ak):iL (.ref a) (.ref b) G R=R (.bl (xM xs ys)) G:=by
 show rq G (.ref a) (.ref b) (λb=>R (.bl b) G)=_;unfold rq;simp only[h1,h2,s1,s2,true_and]
def Z5{a b:bw}{xs ys:List D}(h1:cF G a=aj xs)(h2:cF G b=aj ys)(s1:xs.all (cG 20)=ak)(s2:ys.all (cG 20)=ak):fE (.ref a) (.ref b) G R=R (.bl (!xM xs ys)) G:=by
 show rq G (.ref a) (.ref b) (λb=>R (.bl (!b)) G)=_;unfold rq;simp only[h1,h2,s1,s2,true_and]
end
section
variable{i j:Int}
def aM3(h:-18446744073709551616<i/\i<18446744073709551616):p6 (.int i) (.int j) G R=R (.int (i*j)) G:=by
 rw[S9];exact propext ⟨λz=>z.2,λz=>⟨.inl ⟨by have:=h.1;omega,by have:=h.2;omega⟩,z⟩⟩
def aM4(h:-18446744073709551616<j/\j<18446744073709551616):p6 (.int i) (.int j) G R=R (.int (i*j)) G:=by
 rw[S9];exact propext ⟨λz=>z.2,λz=>⟨.inr ⟨by have:=h.1;omega,by have:=h.2;omega⟩,z⟩⟩
def aEU(h:0<j/\j<1073741824):Cy (.int i) (.int j) G R=R (.int (i / j)) G:=by
 rw[aM1];exact propext ⟨λz=>z.2,λz=>⟨h,z⟩⟩
def aM5(h:0<j):lU (.int i) (.int j) G R=R (.int (i%j)) G:=by
 rw[aR3];exact propext ⟨λz=>z.2,λz=>⟨h,z⟩⟩
def aM6(h:0<=j/\j<=1000000/\i.natAbs<18446744073709551616):Ci (.int i) (.int j) G R=R (.int (i^j.toNat)) G:=by
 rw[aR4];exact propext ⟨λz=>z.2,λz=>⟨⟨h.1,h.2.1,h.2.2⟩,z⟩⟩
end
section
end
section
variable{b:Bool}{α:Type}{a:α}{l:List α}
def Z4:(True/\P)=P:=true_and P
def al1:(!false)=ak:=rfl
def Xn:((!b)=ak)=(b=ao):=by cases b<;>simp
def YR:(if True then P else Q)=P:=if_true ..
def Z3:(if False then P else Q)=Q:=if_false ..
def aR5:(ao=ak)=False:=by simp
def aR6:(ak=ao)=False:=by simp
def Z2:(a::l).length=l.length+1:=qy
def YQ:([]:List α).length=0:=rfl
def YO{β:Type}{f:α->β}:(l.map f).length=l.length:=fj ..
end
end L5
namespace L6
open PySem PySem.Spec PyProof.Rows L2 L4 L5
abbrev FA(x:D)(G:Gp)(Q:Src->Gp->Prop):Prop:=match x with
 |.ref p=>(match cF G p with
  |some xs=>Q (.lst p xs) G
  |none=>False)
 |.tup xs=>Q (.bE xs) G
 |.str z=>Q (.bE (signs z)) G
 |_=>False
abbrev IA(x:D)(G:Gp)(Q:Src->Gp->Prop):Prop:=match x with
 |.ref p=>(match cF G p with
  |some xs=>Q (.lst p xs) G
  |none=>False)
 |.str z=>Q (.bE (signs z)) G
 |.tup xs=>xs.all mv=ak/\∀a,(G a=au∨G a=aj (.du xs))->Q (.du a xs) (aF G a (.du xs))
 |_=>False
abbrev S8(xs:List D)(G:Gp)(Q:Src->Gp->Prop):Prop:=match xs with
 |[.int j]=>-(2^62)<=j/\j<2^62/\Q (.bE (fA 0 j)) G
 |_=>False
abbrev S7(xs:List D)(G:Gp)(Q:Src->Gp->Prop):Prop:=match xs with
 |[.int i,.int j]=>(-(2^62)<=i/\i<2^62/\-(2^62)<=j/\j<2^62)/\Q (.bE (fA i j)) G
 |_=>False
section
variable{z:Str}{i j:Int}
def aEW:Cw te ρ G Q=te ρ G λx G1=>FA x G1 Q:=rfl
def aR7:FJ te ρ G Q=te ρ G λx G1=>IA x G1 Q:=rfl
def aM7:A4 ta ρ G Q=ta ρ G λxs G1=>S8 xs G1 Q:=rfl
def aM8:A3 ta ρ G Q=ta ρ G λxs G1=>S7 xs G1 Q:=rfl
def Xm(h:cF G p=aj xs):FA (.ref p) G Q=Q (.lst p xs) G:=by unfold FA;simp only[h]
def Xl:FA (.str z) G Q=Q (.bE (signs z)) G:=rfl
def YN(h:cF G p=aj xs):IA (.ref p) G Q=Q (.lst p xs) G:=by unfold IA;simp only[h]
def aEX(h:-4611686018427387904<=j/\j<4611686018427387904):S8 [.int j] G Q=Q (.bE (fA 0 j)) G:=by
 show(_/\_/\_)=_;exact propext ⟨λz=>z.2.2,λz=>⟨⋯,⋯,z⟩⟩
def aEY(h:-4611686018427387904<=i/\i<4611686018427387904/\-4611686018427387904<=j/\j<4611686018427387904):S7 [.int i,.int j] G Q=Q (.bE (fA i j)) G:=by
 show((_/\_/\_/\_)/\_)=_;exact propext ⟨λz=>z.2,λz=>⟨⟨⋯,⋯,⋯,⋯⟩,z⟩⟩
end
abbrev AE(dv:D->Option (List D))(src:Src)(tc:cb)(te:bN)(ρ:bZ)(G1:Gp)(R:lG):Prop:=src.items.length<dj/\∀p,G1 p=au->∃P:Nat->List D->Gp->Prop,P 0 [] (aF G1 p (.lst [])) /\
 (∀k ds G,k<=src.items.length->P k ds G->src.ok G/\G p=aj (.lst ds)/\ds.length<=k) /\
 (∀k d ds G,src.items[k]?=aj d->P k ds G->∃ys,dv d=aj ys/\tc (ys.map aj++ρ) G λb G2=>if b=ak then te (ys.map aj++ρ) G2 λy G3=>G3 p=aj (.lst ds)/\P (k+1) (ds++[y]) (aF G3 p (.lst (ds++[y])))else P (k+1) ds G2) /\
 ∀ds G,P src.items.length ds G->∃G0,Le G0 G/\R (.ref p) G0
variable{tc:cb}
def aM9{ti:dq}:JK dv ti tc te ρ G R=ti ρ G λsrc G1=>AE dv src tc te ρ G1 R:=rfl
private theorem CG(l:Le G G')(h:cF G p=aj xs):cF G' p=aj xs:=by
 unfold cF at h ⊢;split at h
 .rename_i e;rw[l _ _ e];exact h
 .rename_i e;rw[l _ _ e];exact h
 .cases h
variable{src:Src}
def aR8(l:Le G G')(h:src.ok G):src.ok G':=by
 cases src with
 |lst p xs=>exact CG l h
 |bE xs=>trivial
 |zip p q xs ys=>exact⟨CG l h.1,CG l h.2⟩
 |zD p o kvs=>exact l _ _ h
 |kg p o t kvs=>exact l _ _ h
 |key p o t kvs=>exact l _ _ h
 |du p xs=>exact l _ _ h
 |EA p xs=>exact l _ _ h
 |D0 p o kvs=>exact l _ _ h
def aMA{o:GO}(l:Le (aF G p o) G'):Le (aF G p o') (aF G' p o'):=λa u e=>by
 by_cases h:a=p
 .subst h;rw[aC]at e ⊢;exact e
 .rw[aH h]at e ⊢;exact l a u (by rw[aH h];exact e)
def Xk(v:D->List D)(c:D->Bool)(f:D->D)(hl:src.items.length<dj)(af:src.ok G)(hv:∀d∈src.items,dv d=aj (v d))
  (hc:∀d∈src.items,∀G',Le G G'->∀Q:Bool->Gp->Prop,(∀fb,Le G' fb->Q (c d) fb)->tc ((v d).map aj++ρ) G' Q)
  (he:∀d∈src.items,c d=ak->∀G',Le G G'->∀Q:D->Gp->Prop,(∀fb,Le G' fb->Q (f d) fb)->te ((v d).map aj++ρ) G' Q)
  (h:∀p,G p=au->R (.ref p) (aF G p (.lst ((src.items.filter c).map f)))):AE dv src tc te ρ G R:=by
 refine⟨hl,λp hp=>⟨λk ds G'=>ds=((src.items.take k).filter c).map f/\Le (aF G p (.lst ds)) G',⟨rfl,.refl _⟩,λk ds G' hk ⟨e,l⟩=>?_,λk d ds G' hd ⟨e,l⟩=>?_,λds G' ⟨e,l⟩=>?_⟩⟩
 .refine⟨aR8 ((Le.new hp).trans l) af,l p _ aC,?_⟩;rw[e,fj];exact lq (LX _ _) (by rw[C0];omega)
 .have hm:d∈src.items:=qg hd
  have ht:src.items.take (k+1)=src.items.take k++[d]:=by
   rw[Gb,hd];rfl
  refine⟨v d,hv d hm,hc d hm G' ((Le.new hp).trans l) _ λG2 l2=>?_⟩;cases fq:c d with
  |true =>
   rw[if_pos rfl];refine he d hm fq G2 (((Le.new hp).trans l).trans l2) _ λG3 l3=>?_;have l4:=(l.trans l2).trans l3;refine⟨l4 p _ aC,?_,aMA l4⟩;rw[ht,List.filter_append,mq,←e];simp[fq]
  |false =>
   rw[if_neg (by decide)];refine⟨?_,l.trans l2⟩;rw[ht,List.filter_append,mq,←e];simp[fq]
 .rw[Bl]at e;subst e;exact⟨_,l,h p hp⟩
def Pj(c:D->Bool)(f:D->D)(hl:src.items.length<dj)(af:src.ok G)
  (hc:∀d∈src.items,∀G',Le G G'->∀Q:Bool->Gp->Prop,(∀fb,Le G' fb->Q (c d) fb)->tc (aj d::ρ) G' Q)
  (he:∀d∈src.items,c d=ak->∀G',Le G G'->∀Q:D->Gp->Prop,(∀fb,Le G' fb->Q (f d) fb)->te (aj d::ρ) G' Q)
  (h:∀p,G p=au->R (.ref p) (aF G p (.lst ((src.items.filter c).map f)))):AE pj src tc te ρ G R:=Xk (λd=>[d]) c f hl af (λ_ _=>rfl) hc he h
def comp_map(f:D->D)(hl:src.items.length<dj)(af:src.ok G)
  (he:∀d∈src.items,∀G',Le G G'->∀Q:D->Gp->Prop,(∀fb,Le G' fb->Q (f d) fb)->te (aj d::ρ) G' Q)
  (h:∀p,G p=au->R (.ref p) (aF G p (.lst (src.items.map f)))):AE pj src Cv te ρ G R :=
 Pj (λ_=>ak) f hl af (λd _ G' _ Q h=>h G' (.refl _)) (λd hd _=>he d hd) λp hp=>by
  have:src.items.filter (λ_=>ak)=src.items:=LR.mpr λ_ _=>rfl;rw[this];exact h p hp
abbrev EH(src:Src)(tg:hZ)(tb:oX)(F:eN)(ρ:bZ)(G1:Gp):Prop:=∃P:Nat->bZ->Gp->Prop,P 0 ρ G1/\(∀k ρ G,k<=src.items.length->P k ρ G->src.ok G) /\
 (∀k d ρ G,src.items[k]?=aj d->P k ρ G->tg d ρ λeA=>tb {F with nx:=P (k+1),ct:=P (k+1),bk:=F.nx} eA G)/\∀ρ G,P src.items.length ρ G->F.nx ρ G
variable{tg:hZ}{F:eN}
def aMB{ti:dq}:A2 ti tg tb F ρ G=ti ρ G λsrc G1=>EH src tg tb F ρ G1:=rfl
def aEZ{i:Nat}{d:D}:xp i d ρ Q=Q (iO ρ i d):=rfl
def Ph{i:Nat}{d:D}:AO ρ (i::is) (d::ds)=AO (iO ρ i d) is ds:=rfl
def Xj{j:Int}(P:Nat->bZ->Gp->Prop)(h0:P 0 ρ G)
  (hb:∀(k:Nat) ρ G,(k:Int)<j->P k ρ G->tg (.int k) ρ λeA=>tb {F with nx:=P (k+1),ct:=P (k+1),bk:=F.nx} eA G)(he:∀ρ G,P j.toNat ρ G->F.nx ρ G):EH (.bE (fA 0 j)) tg tb F ρ G:=by
 have hlen:(Src.bE (fA 0 j)).items.length=j.toNat:=by simp[Src.items,fA]
 refine⟨P,h0,λ_ _ _ _ _=>trivial,λk d ρ G hd p=>?_,λρ G p=>he ρ G (hlen ▸ p)⟩;have hk:k<j.toNat:=by rw[←hlen];exact(jl.mp hd).1
 have e:d=.int k:=by
  have:(fA 0 j)[k]?=aj d:=hd;unfold fA at this;rw[xr,List.getElem?_range ⋯]at this;simp at this;exact this.symm
 subst e;exact hb k ρ G ⋯ p
def Xi{xs:List D}(P:Nat->bZ->Gp->Prop)(h0:P 0 ρ G)(hs:∀k ρ G,P k ρ G->cF G q=aj xs)
  (hb:∀k d ρ G,xs[k]?=aj d->P k ρ G->tg d ρ λeA=>tb {F with nx:=P (k+1),ct:=P (k+1),bk:=F.nx} eA G)(he:∀ρ G,P xs.length ρ G->F.nx ρ G):EH (.lst q xs) tg tb F ρ G :=
 ⟨P,h0,λk ρ G _ p=>hs k ρ G p,hb,he⟩
section
def aF0{ds:List D}(h:cF G q=aj ds)(hb:ds.all Ay=ak):AN [.ref q] G R=R (.bl (ds.all Ax)) G:=by
 unfold AN;simp only[h,hb,true_and]
def aR9{i j:Int}:Fc [.int i,.int j] G R=R (.int (if j<i then j else i)) G:=rfl
def tW{ds:List D}{d:D}(h:G p=aj (.lst ds))(hl:ds.length<dj):jC (.ref p) [d] G R=R .ag (aF G p (.lst (ds++[d]))):=by
 unfold jC;simp only[h,hl,true_and]
def S6{b:bw}{ds es:List D}(h:G p=aj (.lst ds))(h2:G b=aj (.lst es))(hl:ds.length+es.length<=dj):fL (.ref p) (.ref b) G R=∀q,G q=au->R (.ref q) (aF G q (.lst (ds++es))):=by
 unfold fL;simp only[h,h2,hl,true_and]
def Qu(h:cF G q=aj ds):A6 [.ref q] G R=∀l,G l=au->R (.ref l) (aF G l (.lst ds)):=by
 unfold A6;simp only[h]
end
abbrev Ho(c:Nat):D:=.str ⟨#[c]⟩
section
variable{F:eN}
def aRA{i:Nat}:EU i f te F ρ G=cO i ρ G λx G0=>vk x λa=>te ρ G0 λy G1=>vk y λb=>F.nx (iO ρ i (.int (f a b))) G1:=rfl
def aRB{k:Int}:vk (.int k) f=f k:=rfl
def aF1{a b:Int}:KB ao a b=a+b:=rfl
def aF2{c:cb}:Ft c tb F ρ G=∃W:Nat->bZ->Gp->Prop,(∃m,W m ρ G)/\∀m ρ G,W m ρ G->c ρ G λb G1=>if b=ak then tb {F with nx:=λba G'=>∃m',m'<m/\W m' ba G',ct:=λba G'=>∃m',m'<m/\W m' ba G',bk:=F.nx} ρ G1 else F.nx ρ G1:=rfl
def Qt:∀ns ms:List Int,ns.map D.int=ms.map D.int->ns=ms
 |[],[],_=>rfl
 |[],_::_,e=>by cases e
 |_::_,[],e=>by cases e
 |n::ns,m::ms,e=>by
  simp only[ji,List.cons.injEq]at e;let⟨e1,e2⟩:=e;cases e1;rw[Qt ns ms e2]
def S5{ns:List Int}(h:cF G q=aj (ns.map D.int)):xn [.ref q] G R=R (.int ns.sum) G:=by
 refine propext ⟨λz=>?_,λz=>?_⟩
 .have z':(match cF G q with
   |some ds=>∃ns:List Int,ds=ns.map D.int/\R (.int ns.sum) G
   |none=>False):=z
  rw[h]at z';let⟨ms,e,r⟩:=z';rw[Qt ns ms e];exact r
 .show(match cF G q with
   |some ds=>∃ns:List Int,ds=ns.map D.int/\R (.int ns.sum) G
   |none=>False)
  rw[h];exact⟨ns,rfl,z⟩
end
end L6
namespace L7
open PySem PySem.Spec PyProof.Rows L2 L4 L5 L6
section
variable{F:eN}
def aMC:CL ρ G R=∀p,G p=au->R (.ref p) (aF G p (.cR ak [])):=rfl
def aMD{ti:bN}:Cs to ti tv F ρ G=tv ρ G λv G1=>to ρ G1 λx G2=>ti ρ G2 λy G3=>ET x y v F ρ G3:=rfl
@[simp]def oy(q:Int×Int):DK:=.inr [.inl q.1,.inl q.2]
abbrev ent(q:Int×Int):DK×D:=(oy q,.bl ak)
abbrev setG(M:List (Int×Int)):GO:=.cR ak (M.map ent)
abbrev Kt(M:List (Int×Int))(q:Int×Int):List (Int×Int):=if q∈M then M else M++[q]
def aF4{r:Int×Int}(h:oy q=oy r):q=r:=by
 have h:(Sum.inr [.inl q.1,.inl q.2]:DK)=.inr [.inl r.1,.inl r.2]:=h;simp only[Sum.inr.injEq,List.cons.injEq,Sum.inl.injEq,and_true]at h;exact Prod.ext h.1 h.2
def Pg:∀{M:List (Int×Int)},(aV (M.map ent) (oy q)).isSome=decide (q∈M)
 |[]=>rfl
 |r::M=>by
  rw[ji];unfold aV;by_cases c:r=q
  .subst c;rw[if_pos (show(ent r).1=oy r from rfl)];simp
  .rw[if_neg (show ¬ (ent r).1=oy q from λz=>c (aF4 z)),Pg];have:q≠r:=λz=>c z.symm;simp[this]
def aF5{M:List (Int×Int)}:eE (M.map ent) (oy q) (.bl ak)=(Kt M q).map ent:=by
 unfold eE Kt;rw[Pg];by_cases c:q∈M
 .rw[if_pos c,if_pos (by simpa using c),vo];apply zx;intro r _;show(if(ent r).1=oy q then((ent r).1,D.bl ak)else ent r)=ent r;split<;>rfl
 .rw[if_neg c,if_neg (by simpa using c),mq];rfl
def F2:∀{M N:List (Int×Int)},Tj (N.map ent) (M.map λq=>([.inl q.1,.inl q.2],.bl ak))=(M.foldl Kt N).map ent
 |[],N=>rfl
 |q::M,N=>by
  rw[ji,List.foldl_cons];show Tj (eE (N.map ent) (oy q) (.bl ak)) _=_;rw[aF5,F2]
end
end L7
namespace L8
open PySem PySem.Spec PyProof.Rows L2 L4 L5 L6 L7
section
variable{F:eN}{m:Str}{fs:List (Str×D)}
def aRC:cP C ta f ρ G R=ta ρ G λx G1=>B3 C f x G1 R:=rfl
def bG{d:D}(h:G p=aj (.ins C fs))(e:fs.lookup f=aj d):B3 C f (.ref p) G R=R d G:=by
 unfold L2.B3;simp only[h,e];exact propext ⟨λz=>z.2,λz=>⟨trivial,z⟩⟩
def aMF:rD C ta tv f F ρ G=tv ρ G λy G1=>ta ρ G1 λx G2=>Cg C f x y F ρ G2:=rfl
def sJ(h:G p=aj (.ins C fs))(hl:fs.length<1000):Cg C f (.ref p) y F ρ G=F.nx ρ (aF G p (.ins C (xm f y fs))):=by
 unfold L2.Cg;simp only[h];exact propext ⟨λz=>z.2.2,λz=>⟨trivial,hl,z⟩⟩
def bW(h:G p=aj (.ins C fs))(e:fs.lookup m=au):Cf C m (.ref p) G=True:=eq_true ⟨p,fs,rfl,h,e⟩
def aF6{t:rZ}:cA C m sp dd EX ta t ρ G R=ta ρ G λx G1=>Cf C m x G1/\t ρ G1 λds G2=>sp (x::(ds++dd)) G2 R (EX ρ):=rfl
def aF7{t:rZ}:A1 C sp dd EX t ρ G R=t ρ G λds G1=>∀x,G1 x=au->sp (.ref x::(ds++dd)) (aF G1 x (.ins C [])) (λv G2=>v=.ag/\R (.ref x) G2) (EX ρ):=rfl
def aVL{r:jS}{t:rZ}:w9 r to t ρ G R=to ρ G λx G1=>wI x G1/\t ρ G1 λxs G2=>r x xs G2 R:=rfl
def aF8:z6 to te tf ρ G R=to ρ G λx G1=>wI x G1/\te ρ G1 λy G2=>tf ρ G2 λz G3=>lL x y G3 λ_ _ kvs k=>R ((aV kvs k).getD z) G3:=rfl
def nZ{t:Bool}(h:G p=aj (.cR t kvs)):wI (.ref p) G=True:=by
 unfold L2.wI;simp only[h]
def tX{t:Bool}{k:DK}(h:G p=aj (.cR t kvs))(hk:iF y=aj k)(ht:xO k=t):lL (.ref p) y G P=P p t kvs k:=by
 unfold L2.lL;simp only[h,hk];exact propext ⟨λz=>z.2,λz=>⟨ht,z⟩⟩
def YM{t:Bool}{k:DK}(h:tQ G p=aj (t,kvs))(hk:iF y=aj k)(ht:xO k=t):Ct (.ref p) y G P=P kvs k:=by
 unfold L2.Ct;simp only[h,hk,ht,true_and]
def Ln{t:Bool}(h:G p=aj (.cR t kvs)):tQ G p=aj (t,kvs):=by unfold L2.tQ;rw[h]
def Lm{o:Obj}{t:Bool}(h:G p=aj (.bX o t kvs)):tQ G p=aj (t,kvs):=by unfold L2.tQ;rw[h]
def Qs{t:Bool}{d:D}{k:DK}(h:tQ G p=aj (t,kvs))(hk:iF y=aj k)(ht:xO k=t)(e:aV kvs k=aj d):wH (.ref p) y G R=R d G:=by
 unfold L2.wH;rw[YM h hk ht];simp only[e]
def Pf{t:Bool}{d:D}{k:DK}(h:G p=aj (.cR t kvs))(hk:iF y=aj k)(ht:xO k=t)(e:aV kvs k=aj d):wH (.ref p) y G R=R d G:=Qs (Ln h) hk ht e
def Pe{kvs:List (DK×D)}(h:G p=aj (.cR ao kvs)):AZ [.ref p] G R=R (.int kvs.length) G:=by
 unfold L2.AZ;simp only[h]
end
end L8
namespace L9
open PySem PySem.Spec PyProof.Rows L2 L4 L5 L6 L7 L8
variable{ps:List (Int×Int)}{z:D}
section
variable{F:eN}{p:bw}
@[simp]def ky(a p:Int):List Key:=[.inl a,.inl p]
def aF9:Fp to ρ G R=to ρ G λx G1=>z9 x G1 R:=rfl
def aMG:E6 to ρ G R=to ρ G λx G1=>sT x G1 R:=rfl
def Be{a q:Int}:iF (.tup [.int a,.int q])=aj (.inr (ky a q)):=rfl
def xQ{i:Int}:iF (.int i)=aj (.inl (.inl i)):=rfl
def Bd{k:List Key}:∀{M:List (List Key×bw)},aV (M.map eQ) (.inr k)=(aV M k).map D.ref
 |[]=>rfl
 |z::M=>by
  rw[ji];unfold aV;by_cases c:z.1=k
  .rw[if_pos c,if_pos (by show(Sum.inr z.1:DK)=_;rw[c])];rfl
  .rw[if_neg c,if_neg (show ¬ (eQ z).1=Sum.inr k from λe=>c (sG _ _ e))];exact Bd
def zF{i:Int}:∀{ps:List (Int×Int)},aV (ps.map sH) (.inl (.inl i))=(aV ps i).map D.int
 |[]=>rfl
 |z::M=>by
  rw[ji];unfold aV;by_cases c:z.1=i
  .rw[if_pos c,if_pos (by show(Sum.inl (Sum.inl z.1):DK)=_;rw[c])];rfl
  .rw[if_neg c,if_neg (show ¬ (sH z).1=Sum.inl (Sum.inl i)from λe=>c (by have:=pZ _ _ e;injection this))];exact zF
def Pd{i v:Int}:eE (ps.map sH) (.inl (.inl i)) (.int v)=(eE ps i v).map sH:=by
 unfold eE;rw[zF,Option.isSome_map];split
 ·rw[vo,vo];refine zx λz _=>?_;show(if(Sum.inl (Sum.inl z.1):DK)=_ then _ else _)=sH (if z.1=i then(z.1,v)else z);by_cases c:z.1=i
  .rw[if_pos c,if_pos (by rw[c])];rfl
  .rw[if_neg c,if_neg (λe=>c (by have:=pZ _ _ e;injection this))]
 .rw[mq];rfl
def Xh{i:Int}:bL (ps.map sH) (.inl (.inl i))=(bL ps i).map sH:=by
 unfold bL;rw[List.filter_map];congr 1;refine List.filter_congr λz _=>?_;show(!decide ((Sum.inl (Sum.inl z.1):DK)=.inl (.inl i)))=_;by_cases c:z.1=i
 .rw[c];simp
 .rw[decide_eq_false c,decide_eq_false (λe=>c (by have:=pZ _ _ e;injection this))]
def Xg{k:List Key}{M:List (List Key×bw)}:bL (M.map eQ) (.inr k)=(bL M k).map eQ:=by
 unfold bL;rw[List.filter_map];congr 1;refine List.filter_congr λz _=>?_;show(!decide ((Sum.inr z.1:DK)=.inr k))=_;by_cases c:z.1=k
 .rw[c];simp
 .rw[decide_eq_false c,decide_eq_false (λe=>c (sG _ _ e))]
def Xf{κ α:Type}[DecidableEq κ]{kvs:List (κ×α)}{k:κ}{v:α}(h:aV kvs k=au):eE kvs k v=kvs++[(k,v)]:=by
 unfold eE;rw[h];rfl
def aFA{k:DK}{kvs:List (DK×D)}(h:G p=aj (.cR ak kvs))(hk:iF y=aj k)(ht:xO k=ak)(hl:kvs.length<dj)(e:aV kvs k=au):sC (.ref p) [y,z] G R=R z (aF G p (.cR ak (kvs++[(k,z)]))):=by
 unfold L2.sC;simp only;rw[tX h hk ht];simp only[e,Xf e];exact propext ⟨λw=>w.2.2,λw=>⟨trivial,hl,w⟩⟩
def aFB{d:D}{k:DK}{kvs:List (DK×D)}(h:G p=aj (.cR ak kvs))(hk:iF y=aj k)(ht:xO k=ak)(hl:kvs.length<dj)(e:aV kvs k=aj d):sC (.ref p) [y,z] G R=R d G:=by
 unfold L2.sC;simp only;rw[tX h hk ht];simp only[e];exact propext ⟨λw=>w.2.2,λw=>⟨trivial,hl,w⟩⟩
def Pc{t:Bool}{d:D}{k:DK}(h:G p=aj (.cR t kvs))(hk:iF y=aj k)(ht:xO k=t)(e:aV kvs k=aj d):A0 (.ref p) [y] G R=R d (aF G p (.cR t (bL kvs k))):=by
 unfold L2.A0;simp only;rw[tX h hk ht];simp only[e]
def Pb{t:Bool}{v:D}{k:DK}{kvs:List (DK×D)}(h:G p=aj (.cR t kvs))(hk:iF y=aj k)(ht:xO k=t)(hl:kvs.length<dj):ET (.ref p) y v F ρ G=F.nx ρ (aF G p (.cR t (eE kvs k v))):=by
 unfold L2.ET;rw[tX h hk ht];exact propext ⟨λw=>w.2,λw=>⟨hl,w⟩⟩
def Xe(h:G p=aj (.cR ao (ps.map sH)))(hl:ps.length<128)(k:∀qs:List (Int×Int),qs.Perm ps->jZ qs->∀r,G r=au->R (.ref r) (aF G r (.lst (qs.map c6)))):z9 (.ref p) G R:=by
 unfold L2.z9;simp only[h];exact⟨ps,rfl,hl,k⟩
def aFC(h:G p=aj (.cR ao (ps.map sH)))(k:R (.int (ps.map (·.2)).sum) G):sT (.ref p) G R:=by
 unfold L2.sT;simp only[h];exact⟨ps,rfl,k⟩
def Xd{kvs:List (DK×D)}(h:G p=aj (.cR ak kvs))(e:(kvs.map λq=>nv q.1)=ps.map c6)(nd:ps.Nodup)(hl:ps.length<128)(k:∀qs:List (Int×Int),qs.Perm ps->jZ qs->∀r,G r=au->R (.ref r) (aF G r (.lst (qs.map c6)))):z7 [.ref p] G R:=by
 unfold L2.z7;simp only[h];exact⟨ps,e,nd,hl,k⟩
end
end L9
namespace Du
open PySem PySem.Spec PyProof.Rows L2 L4 L5 L6
section
variable{ρ:bZ}{G:Gp}{F:eN}{al t:Bool}{tg:hZ}{tb:oX}
def Xc:zA al te ρ G Q=te ρ G λx G1=>nV al x G1 Q:=rfl
def aFD(h:G p=aj (.cR t kvs)):nV al (.ref p) G Q=∀od,Q (.key p od t kvs) (aF G p (.bX od t kvs)):=by
 unfold L2.nV;simp only[h]
def aFE(h:G p=aj (.bX od t kvs)):nV ak (.ref p) G Q=Q (.key p od t kvs) G:=by
 unfold L2.nV;simp only[h,true_and]
abbrev S4(src:Src)(tg:hZ)(tb:oX)(F:eN)(ρ:bZ)(G1:Gp):Prop:=∃P:Nat->bZ->Gp->Prop,P 0 ρ G1/\(∀k ρ G,k<=src.items.length->P k ρ G->src.ok G) /\
 (∀k d ρ G,src.items[k]?=aj d->P k ρ G->tg d ρ λeA=>tb {F with nx:=P (k+1),ct:=P (k+1),bk:=λρ G=>src.ok G/\F.nx ρ (src.w4 G)} eA G)/\∀ρ G,P src.items.length ρ G->F.nx ρ (src.w4 G)
def aMH{ti:dq}:Fo ti tg tb F ρ G=ti ρ G λsrc G1=>S4 src tg tb F ρ G1:=rfl
def Jd{α β:Type}{f:α->β}{l:List α}{k:Nat}{d:β}(h:(l.map f)[k]?=aj d):∃q,l[k]?=aj q/\f q=d:=by
 rw[xr]at h;cases e:l[k]? with
 |none=>rw[e]at h;cases h
 |some q=>rw[e]at h;exact⟨q,rfl,jk.inj h⟩
end
end Du
namespace Vj
open PySem PySem.Spec PyProof.Rows L2 L4 L5 L6
section
end
end Vj
namespace L12
open PySem PySem.Spec PyProof.Rows L2 L4 L5 L6
section
end
end L12
namespace L15
open PySem PySem.Spec PyProof.Rows L2 L4 L5 L6
end L15
namespace GU
open PySem PySem.Spec PyProof.Rows L2 L4 L5 L6 Du
section
variable{F:eN}{al t:Bool}{kvs:List (DK×D)}{tg:hZ}
def Xb:zB al to ρ G Q=to ρ G λx G1=>E5 al x G1 Q:=rfl
def aFF(h:G p=aj (.cR ak kvs))(k:∀od,Q (.kg p od ak kvs) (aF G p (.bX od ak kvs))):E5 al (.ref p) G Q:=⟨p,kvs,rfl,h,k⟩
def Xa(P:Nat->bZ->Gp->Prop)(h0:P 0 ρ G)(hs:∀k ρ G,P k ρ G->G p=aj (.bX od t kvs))
  (hb:∀k q ρ G,kvs[k]?=aj q->P k ρ G->tg q.2 ρ λeA=>tb {F with nx:=P (k+1),ct:=P (k+1),bk:=λρ G=>G p=aj (.bX od t kvs)/\F.nx ρ (aF G p (.cR t kvs))} eA G)
  (he:∀ρ G,P kvs.length ρ G->F.nx ρ (aF G p (.cR t kvs))):S4 (.kg p od t kvs) tg tb F ρ G :=
 ⟨P,h0,λk ρ G _ q=>hs k ρ G q,λk d ρ G e q=>by let⟨z,e1,rfl⟩:=Jd e;exact hb k z ρ G e1 q,λρ G q=>he ρ G (by simpa[Src.items]using q)⟩
end
section
variable{K:Fg}{F:eN}
def aMI:AI K tb hs F ρ G=tb (λmm C G1=>EL K F C hs mm G1) F ρ G:=rfl
end
end GU
namespace Law
open PySem PySem.Spec PyProof.Rows L2 L4
abbrev top(i:Nat):jq:=PySem.Challenge.pw_depot_k33_many_lots_and_days.main.body.getD i (.Pass ⟨0,0,0,0⟩)
@[simp]def Si:jq:=top 17
@[simp]def Rn:jq:=top 24
@[simp]def TZ:jq:=top 25
@[simp]def TY:jq:=top 21
@[simp]def UL:jq:=top 32
@[simp]def dW:jq:=inClass (top 37) 0
@[simp]def fP:jq:=inClass (top 39) 0
@[simp]def Rm:jq:=top 19
@[simp]def TX:jq:=top 28
@[simp]def Qr:jq:=top 20
@[simp]def Sh:jq:=top 29
@[simp]def Rl:jq:=top 18
@[simp]def Qq:jq:=top 26
@[simp]def Sg:jq:=top 31
@[simp]def Sf:jq:=top 30
@[simp]def Qp:jq:=top 35
@[simp]def xR:jq:=inClass (top 37) 6
@[simp]def rT:jq:=inClass (top 37) 10
@[simp]def UK:jq:=inClass (top 37) 1
@[simp]def Ur:jq:=inClass (top 39) 1
@[simp]def xT:jq:=inClass (top 37) 4
@[simp]def qQ:jq:=inClass (top 37) 9
@[simp]def U0:jq:=inClass (top 37) 2
@[simp]def Ve:jq:=inClass (top 39) 2
@[simp]def Se:jq:=inClass (top 39) 3
@[simp]def xU:jq:=inClass (top 39) 7
@[simp]def UJ:jq:=inClass (top 39) 9
@[simp]def Uq:jq:=inClass (top 39) 10
@[simp]def Uo:jq:=inClass (top 39) 11
@[simp]def UZ:jq:=inClass (top 39) 12
@[simp]def Sd:jq:=top 36
@[simp]def Vd:jq:=inClass (top 37) 8
@[simp]def UI:jq:=inClass (top 39) 13
@[simp]def UY:jq:=inClass (top 39) 15
@[simp]def lW:jq:=inClass (top 39) 14
@[simp]def UX:jq:=top 41
@[simp]def Um:jq:=top 42
@[simp]def UH:jq:=top 44
@[simp]def UW:jq:=top 43
@[simp]def TV:jq:=top 45
@[simp]def Ca:jq:=top 46
set_option genInjectivity false in
structure iS where
 Sb:bw
 zG:jm
 Rk:bw
 GA:jm
 TU:bw
 vQ:jm
 TR:bw
 vR:jm
 UG:bw
 qF:jm
 bH:bw
 gY:jm
 bY:bw
 kJ:jm
 Rj:bw
 Gz:jm
 TQ:bw
 vU:jm
 Qo:bw
 FZ:jm
 Sa:bw
 zH:jm
 Ri:bw
 Gy:jm
 Qn:bw
 FY:jm
 R9:bw
 zJ:jm
 R8:bw
 zK:jm
 Qm:bw
 FX:jm
 fQ:bw
 fU:jm
 dM:bw
 dN:jm
 lX:bw
 lY:jm
 o7:bw
 o8:jm
 fV:bw
 fW:jm
 d7:bw
 d8:jm
 jE:bw
 jF:jm
 iQ:bw
 iR:jm
 tY:bw
 tZ:jm
 fX:bw
 fY:jm
 lZ:bw
 m6:jm
 o9:bw
 oA:jm
 oE:bw
 oF:jm
 jG:bw
 jH:jm
 R7:bw
 zL:jm
 iT:bw
 iU:jm
 m7:bw
 m8:jm
 jJ:bw
 jK:jm
 fC:bw
 qG:jm
 UU:bw
 oG:jm
 Ul:bw
 sO:jm
 UE:bw
 qH:jm
 UT:bw
 oH:jm
 TN:bw
 vV:jm
 xi:bw
 S0:jm
 ai1:bw
 FW:bw
 fZ:bw
 cX:bw
 kW:bw
 gZ:bw
 cT:bw
 C9:bw
 gQ:bw
 aB:bw
 aA:bw
@[simp]def RT:=Fg->iS->(bZ->f9)->oX
@[simp]def RS:=Fg->iS->jI
@[simp]def RI:=Fg->iS->SI
@[simp]def ci(i:Int):CE:=.con (.int i)
@[simp]def ti(i:Int):bN:=iM (.int i)
@[simp]def d9:CE:=.var 0
@[simp]def qI:CE:=.var 1
@[simp]def nR:CE:=.var 2
@[simp]def cz:CE:=.var 3
@[simp]def gI:CE:=.var 4
@[simp]def iA:CE:=.var 5
@[simp]def BY:CE:=.var 6
@[simp]def Ak:CE:=.var 7
@[simp]def N8:CE:=.var 8
@[simp]def N7:CE:=.var 9
@[simp]def Su:CE:=.var 10
@[simp]def dB:bN:=cO 0
@[simp]def qJ:bN:=cO 1
@[simp]def nT:bN:=cO 2
@[simp]def cw:bN:=cO 3
@[simp]def gy:bN:=cO 4
@[simp]def gX:bN:=cO 5
@[simp]def ze:bN:=cO 6
@[simp]def ve:bN:=cO 7
@[simp]def Hh:bN:=cO 8
@[simp]def Hg:bN:=cO 9
@[simp]def Ks:bN:=cO 10
@[simp]def e0:cS:=.nil
@[simp]def e1(a1:CE):cS:=.cons a1 .nil
@[simp]def e2(a1 a2:CE):cS:=.cons a1 (.cons a2 .nil)
@[simp]def e3(a1 a2 a3:CE):cS:=.cons a1 (.cons a2 (.cons a3 .nil))
@[simp]def e4(a1 a2 a3 a4:CE):cS:=.cons a1 (.cons a2 (.cons a3 (.cons a4 .nil)))
@[simp]def e5(a1 a2 a3 a4 a5:CE):cS:=.cons a1 (.cons a2 (.cons a3 (.cons a4 (.cons a5 .nil))))
@[simp]def e6(a1 a2 a3 a4 a5 a6:CE):cS:=.cons a1 (.cons a2 (.cons a3 (.cons a4 (.cons a5 (.cons a6 .nil)))))
@[simp]def ec:=cS.cons
@[simp]def t2(a1 a2:CT):om:=.cons a1 (.cons a2 .nil)
@[simp]def t3(a1 a2 a3:CT):om:=.cons a1 (.cons a2 (.cons a3 .nil))
@[simp]def b0:CB:=.nil
@[simp]def b1(a1:CS):CB:=.cons a1 .nil
@[simp]def b2(a1 a2:CS):CB:=.cons a1 (.cons a2 .nil)
@[simp]def b3(a1 a2 a3:CS):CB:=.cons a1 (.cons a2 (.cons a3 .nil))
@[simp]def b4(a1 a2 a3 a4:CS):CB:=.cons a1 (.cons a2 (.cons a3 (.cons a4 .nil)))
@[simp]def b5(a1 a2 a3 a4 a5:CS):CB:=.cons a1 (.cons a2 (.cons a3 (.cons a4 (.cons a5 .nil))))
@[simp]def b6(a1 a2 a3 a4 a5 a6:CS):CB:=.cons a1 (.cons a2 (.cons a3 (.cons a4 (.cons a5 (.cons a6 .nil)))))
@[simp]def bc:=CB.cons
@[simp]def u1(a1:bN):rZ:=aZ a1 dD
@[simp]def u2(a1 a2:bN):rZ:=aZ a1 (aZ a2 dD)
@[simp]def u3(a1 a2 a3:bN):rZ:=aZ a1 (aZ a2 (aZ a3 dD))
@[simp]def u4(a1 a2 a3 a4:bN):rZ:=aZ a1 (aZ a2 (aZ a3 (aZ a4 dD)))
@[simp]def u5(a1 a2 a3 a4 a5:bN):rZ:=aZ a1 (aZ a2 (aZ a3 (aZ a4 (aZ a5 dD))))
@[simp]def u6(a1 a2 a3 a4 a5 a6:bN):rZ:=aZ a1 (aZ a2 (aZ a3 (aZ a4 (aZ a5 (aZ a6 dD)))))
abbrev zM:RT:=λK A ex=>(bK (wD (eU (aD K) (u2 dB (iM (.ty "int")))) (wD (Cz (eU (aD K) (u2 dB (iM (.ty "bool"))))) (pY nz nz qJ dB nT))))
abbrev bT:RS:=λK A=>vP 3 3 λEX=>zM K A (λ_=>EX)
abbrev Z1:CB:=(b1 (.ret (.pf (e3 (.call 1 (e2 d9 (.dQ 0))) (.Au (.call 1 (e2 d9 (.dQ 2)))) (.chain .LtE .LtE qI d9 nR)))))
abbrev Z0:RI:=λK A=>⟨["thing","least","most"],[ak,ak,ak],[ak,ak,ak],[ao,ao,ao],[("int",.bt "int"),("isinstance",.bf .oB),("bool",.bt "bool")],[ak,ak,ak],ak⟩
abbrev TM:RT:=λK A ex=>(bK (aO (bT K A) ex (u3 (aP tM dB (ti 2)) (ti 1) (ti 20))))
abbrev TL:RT:=λK A ex=>aJ (dJ (gL (nU (aQ (aO (bT K A) ex (u3 (aP tM dB (ti 0)) (ti 1) (ti 26))))) (nU (aQ (aO (bT K A) ex (u3 (aP tM dB (ti 1)) (ti 1) (ti 99)))))) (bK (iM (.bl ao))) bO) (TM K A ex)
abbrev xV:RT:=λK A ex=>aJ (dJ (gL (nU (aQ (eU (aD K) (u2 dB (iM (.ty "tuple")))))) (aQ (aP fE (eU fJ (u1 dB)) (ti 3)))) (bK (iM (.bl ao))) bO) (TL K A ex)
abbrev zN:RS:=λK A=>vP 1 1 λEX=>xV K A (λ_=>EX)
abbrev YL:CB:=(b3 (.ifs (.or (t2 (.not (.val (.call 1 (e2 d9 (.dQ 0))))) (.cmp .NotEq (.call 2 (e1 d9)) (ci 3)))) (b1 (.ret (.con (.bl ao)))) b0) (.ifs (.or (t2 (.not (.val (.call 4 (e3 (.ix d9 (ci 0)) (ci 1) (.dQ 3))))) (.not (.val (.call 4 (e3 (.ix d9 (ci 1)) (ci 1) (.dQ 5))))))) (b1 (.ret (.con (.bl ao)))) b0) (.ret (.call 4 (e3 (.ix d9 (ci 2)) (ci 1) (.dQ 6)))))
abbrev YK:RI:=λK A=>⟨["thing"],[ak],[ak],[ao],[("tuple",.bt "tuple"),("isinstance",.bf .oB),("len",.bf .len),("MOST_AISLES",.con (.int 26)),("is_whole",.fn (bT K A) 3 ao),("MOST_PLACES",.con (.int 99)),("MOST_GAP",.con (.int 20))],[ak,ak,ak,ak,ak,ak,ak],ak⟩
abbrev Ml:RT:=λK A ex=>(dJ (nU (aQ (aO (zN K A) ex (u1 dB)))) (gU ex A.FW (u1 (iM (.str "a tuple of 1 to 26 aisles, 1 to 99 places and a gap from 1 to 20 is wanted")))) bO)
abbrev iB:RS:=λK A=>vP 1 1 λEX=>Ml K A (λ_=>EX)
abbrev alC:CB:=(b1 (.ifs (.not (.val (.call 0 (e1 d9)))) (b1 (.raise 1 (.con (.str "a tuple of 1 to 26 aisles, 1 to 99 places and a gap from 1 to 20 is wanted")) e0)) b0))
abbrev alD:RI:=λK A=>⟨["plan"],[ak],[ak],[ao],[("is_plan",.fn (zN K A) 1 ao),("NoPlan",.cls A.FW)],[ak,ak],ak⟩
abbrev Mj:RT:=λK A ex=>(bK (aO (bT K A) ex (u3 dB (ti 1) (ti 1000000))))
abbrev sU:RS:=λK A=>vP 1 1 λEX=>Mj K A (λ_=>EX)
abbrev alE:CB:=(b1 (.ret (.call 1 (e3 d9 (ci 1) (.dQ 0)))))
abbrev alF:RI:=λK A=>⟨["thing"],[ak],[ak],[ao],[("MOST_AMOUNT",.con (.int 1000000)),("is_whole",.fn (bT K A) 3 ao)],[ak,ak],ak⟩
abbrev wJ:RT:=λK A ex=>(dJ (nU (aQ (aO (sU K A) ex (u1 dB)))) (gU ex A.cT (u1 (iM (.str "a whole number from 1 to 10 ** 6 is wanted")))) bO)
abbrev bF:RS:=λK A=>vP 1 1 λEX=>wJ K A (λ_=>EX)
abbrev ae2:CB:=(b1 (.ifs (.not (.val (.call 0 (e1 d9)))) (b1 (.raise 1 (.con (.str "a whole number from 1 to 10 ** 6 is wanted")) e0)) b0))
abbrev ae3:RI:=λK A=>⟨["thing"],[ak],[ak],[ao],[("is_amount",.fn (sU K A) 1 ao),("NoAmount",.cls A.cT)],[ak,ak],ak⟩
abbrev qR:RT:=λK A ex=>(rD A.aB dB CL "stacks")
abbrev qT:RT:=λK A ex=>aJ (rD A.aB dB nT "room") (qR K A ex)
abbrev qU:RT:=λK A ex=>aJ (rD A.aB dB qJ "layout") (qT K A ex)
abbrev qW:RT:=λK A ex=>aJ (bB (aO (bF K A) ex (u1 nT))) (qU K A ex)
abbrev n8:RT:=λK A ex=>aJ (bB (aO (iB K A) ex (u1 qJ))) (qW K A ex)
abbrev fK:RS:=λK A=>vP 3 3 λEX=>n8 K A (λ_=>EX)
abbrev dX:CB:=(b5 (.expr (.call 0 (e1 qI))) (.expr (.call 1 (e1 nR))) (.iE 2 d9 qI) (.iE 3 d9 nR) (.iE 4 d9 .As))
abbrev a4R:RI:=λK A=>⟨["self","plan","room"],[ak,ak,ak],[ak,ak,ak],[ao,ao,ao],[("need_plan",.fn (iB K A) 1 ao),("need_amount",.fn (bF K A) 1 ao),("Shelves.layout",.fl A.aB "layout"),("Shelves.room",.fl A.aB "room"),("Shelves.stacks",.fl A.aB "stacks")],[ak,ak,ao,ao,ao],ak⟩
abbrev u0:RT:=λK A ex=>(rD A.aA dB (n9 dD) "done")
abbrev u9:RT:=λK A ex=>aJ (rD A.aA dB (n9 dD) "known") (u0 K A ex)
abbrev uD:RT:=λK A ex=>aJ (rD A.aA dB (ti 0) "day") (u9 K A ex)
abbrev uE:RT:=λK A ex=>aJ (rD A.aA dB qJ "layout") (uD K A ex)
abbrev pD:RT:=λK A ex=>aJ (rD A.aA dB (A1 A.aB (fK K A) [] ex (u2 qJ nT)) "shelves") (uE K A ex)
abbrev j9:RS:=λK A=>vP 3 3 λEX=>pD K A (λ_=>EX)
abbrev gA:CB:=(b5 (.iE 1 d9 (.call 0 (e2 qI nR))) (.iE 2 d9 qI) (.iE 3 d9 (ci 0)) (.iE 4 d9 (.lst e0)) (.iE 5 d9 (.lst e0)))
abbrev a7Z:RI:=λK A=>⟨["self","plan","room"],[ak,ak,ak],[ak,ak,ak],[ao,ao,ao],[("Shelves",.kl A.aB (fK K A) []),("House.shelves",.fl A.aA "shelves"),("House.layout",.fl A.aA "layout"),("House.day",.fl A.aA "day"),("House.known",.fl A.aA "known"),("House.done",.fl A.aA "done")],[ak,ao,ao,ao,ao,ao],ak⟩
abbrev TK:RT:=λK A ex=>(bK (eU AN (u1 (Fd (Cw dB) Cv (pY nz nz (iM (.str "a")) dB (iM (.str "z")))))))
abbrev Ll:RT:=λK A ex=>aJ (dJ (gL (nU (aQ (eU (aD K) (u2 dB (iM (.ty "str")))))) (nU (aQ (pY nz nz (ti 1) (eU fJ (u1 dB)) (ti 12))))) (bK (iM (.bl ao))) bO) (TK K A ex)
abbrev zO:RS:=λK A=>vP 1 1 λEX=>Ll K A (λ_=>EX)
abbrev YJ:CB:=(b2 (.ifs (.or (t2 (.not (.val (.call 1 (e2 d9 (.dQ 0))))) (.not (.chain .LtE .LtE (ci 1) (.call 2 (e1 d9)) (.dQ 3))))) (b1 (.ret (.con (.bl ao)))) b0) (.ret (.call 4 (e1 (.comp [ao] [ao,ao,ao,ao,ao] (.any d9) .none (.chain .LtE .LtE (.con (.str "a")) d9 (.con (.str "z"))))))))
abbrev YI:RI:=λK A=>⟨["thing"],[ak],[ak],[ao],[("str",.bt "str"),("isinstance",.bf .oB),("len",.bf .len),("LONGEST_WARE",.con (.int 12)),("all",.bf .all)],[ak,ak,ak,ak,ak],ak⟩
abbrev Mi:RT:=λK A ex=>(dJ (nU (aQ (aO (zO K A) ex (u1 dB)))) (gU ex A.fZ (u1 (iM (.str "a text of 1 to 12 letters a to z is wanted")))) bO)
abbrev iC:RS:=λK A=>vP 1 1 λEX=>Mi K A (λ_=>EX)
abbrev alG:CB:=(b1 (.ifs (.not (.val (.call 0 (e1 d9)))) (b1 (.raise 1 (.con (.str "a text of 1 to 12 letters a to z is wanted")) e0)) b0))
abbrev alH:RI:=λK A=>⟨["thing"],[ak],[ak],[ao],[("is_ware",.fn (zO K A) 1 ao),("NoWare",.cls A.fZ)],[ak,ak],ak⟩
abbrev Kh:RT:=λK A ex=>(bK (aO (bT K A) ex (u3 dB (ti 0) (ti 9999))))
abbrev Gx:RS:=λK A=>vP 1 1 λEX=>Kh K A (λ_=>EX)
abbrev W9:CB:=(b1 (.ret (.call 1 (e3 d9 (ci 0) (.dQ 0)))))
abbrev W8:RI:=λK A=>⟨["thing"],[ak],[ak],[ao],[("LAST_DAY",.con (.int 9999)),("is_whole",.fn (bT K A) 3 ao)],[ak,ak],ak⟩
abbrev LO:RT:=λK A ex=>(dJ (nU (aQ (aO (Gx K A) ex (u1 dB)))) (gU ex A.cX (u1 (iM (.str "a whole number from 0 to 9999 is wanted")))) bO)
abbrev jL:RS:=λK A=>vP 1 1 λEX=>LO K A (λ_=>EX)
abbrev ZZ:CB:=(b1 (.ifs (.not (.val (.call 0 (e1 d9)))) (b1 (.raise 1 (.con (.str "a whole number from 0 to 9999 is wanted")) e0)) b0))
abbrev ZY:RI:=λK A=>⟨["thing"],[ak],[ak],[ao],[("is_day",.fn (Gx K A) 1 ao),("NoDay",.cls A.cX)],[ak,ak],ak⟩
abbrev TJ:RT:=λK A ex=>(bK (wD (aO (bT K A) ex (u3 (aP tM dB (ti 0)) (ti 0) (aP xo qJ (ti 1)))) (aO (bT K A) ex (u3 (aP tM dB (ti 1)) nT cw))))
abbrev xW:RT:=λK A ex=>aJ (dJ (gL (nU (aQ (eU (aD K) (u2 dB (iM (.ty "tuple")))))) (aQ (aP fE (eU fJ (u1 dB)) (ti 2)))) (bK (iM (.bl ao))) bO) (TJ K A ex)
abbrev zP:RS:=λK A=>vP 4 4 λEX=>xW K A (λ_=>EX)
abbrev YH:CB:=(b2 (.ifs (.or (t2 (.not (.val (.call 1 (e2 d9 (.dQ 0))))) (.cmp .NotEq (.call 2 (e1 d9)) (ci 2)))) (b1 (.ret (.con (.bl ao)))) b0) (.ret (.pf (e2 (.call 3 (e3 (.ix d9 (ci 0)) (ci 0) (.bin .Sub qI (ci 1)))) (.call 3 (e3 (.ix d9 (ci 1)) nR cz))))))
abbrev YG:RI:=λK A=>⟨["thing","aisles","first","last"],[ak,ak,ak,ak],[ak,ak,ak,ak],[ao,ao,ao,ao],[("tuple",.bt "tuple"),("isinstance",.bf .oB),("len",.bf .len),("is_whole",.fn (bT K A) 3 ao)],[ak,ak,ak,ak],ak⟩
abbrev R6:RT:=λK A ex=>(bK (aO (zP K A) ex (u4 qJ (aP tM dB (ti 0)) (ti 1) (aP tM dB (ti 1)))))
abbrev Kg:RT:=λK A ex=>aJ (bB (aO (iB K A) ex (u1 dB))) (R6 K A ex)
abbrev Gw:RS:=λK A=>vP 2 2 λEX=>Kg K A (λ_=>EX)
abbrev W7:CB:=(b2 (.expr (.call 0 (e1 d9))) (.ret (.call 1 (e4 qI (.ix d9 (ci 0)) (ci 1) (.ix d9 (ci 1))))))
abbrev W6:RI:=λK A=>⟨["plan","thing"],[ak,ak],[ak,ak],[ao,ao],[("need_plan",.fn (iB K A) 1 ao),("is_pair",.fn (zP K A) 4 ao)],[ak,ak],ak⟩
abbrev LN:RT:=λK A ex=>(dJ (nU (aQ (aO (Gw K A) ex (u2 dB qJ)))) (gU ex A.kW (u1 (iM (.str "a bin of the plan is wanted")))) bO)
abbrev bU:RS:=λK A=>vP 2 2 λEX=>LN K A (λ_=>EX)
abbrev ZX:CB:=(b1 (.ifs (.not (.val (.call 0 (e2 d9 qI)))) (b1 (.raise 1 (.con (.str "a bin of the plan is wanted")) e0)) b0))
abbrev ZW:RI:=λK A=>⟨["plan","thing"],[ak,ak],[ak,ak],[ao,ao],[("is_bin",.fn (Gw K A) 2 ao),("NoBin",.cls A.kW)],[ak,ak],ak⟩
abbrev uF:RT:=λK A ex=>(dJ (nU (aQ (aO (bT K A) ex (u3 dB (ti 0) (aP xo qJ (ti 1)))))) (gU ex A.gZ (u1 (iM (.str "there is no lot of that number")))) bO)
abbrev cC:RS:=λK A=>vP 2 2 λEX=>uF K A (λ_=>EX)
abbrev ZV:CB:=(b1 (.ifs (.not (.val (.call 0 (e3 d9 (ci 0) (.bin .Sub qI (ci 1)))))) (b1 (.raise 1 (.con (.str "there is no lot of that number")) e0)) b0))
abbrev ZU:RI:=λK A=>⟨["thing","lots"],[ak,ak],[ak,ak],[ao,ao],[("is_whole",.fn (bT K A) 3 ao),("NoLot",.cls A.gZ)],[ak,ak],ak⟩
abbrev zQ:RT:=λK A ex=>(dJ (aQ (aP iL (eU AZ (u1 gy)) (ti 0))) (bB (w9 A0 dB (u1 qJ))) bO)
abbrev R5:RT:=λK A ex=>aJ (dJ (aQ (aP iL (aP wH gy nT) (ti 0))) (bB (w9 A0 gy (u1 nT))) bO) (zQ K A ex)
abbrev LM:RT:=λK A ex=>aJ (Cs gy nT (aP fL (z6 gy nT (ti 0)) cw)) (R5 K A ex)
abbrev C8:RT:=λK A ex=>aJ (fM 4 (w9 sC dB (u2 qJ A5))) (LM K A ex)
abbrev iY:RS:=λK A=>vP 5 4 λEX=>C8 K A (λ_=>EX)
abbrev W5:CB:=(b4 (.set 4 (.dm .DV d9 qI (e1 .rS))) (.we gI nR (.bin .Add (.o5 gI nR (ci 0)) cz)) (.ifs (.cmp .Eq (.wb gI nR) (ci 0)) (b1 (.expr (.dm .pop gI nR e0))) b0) (.ifs (.cmp .Eq (.call 0 (e1 gI)) (ci 0)) (b1 (.expr (.dm .pop d9 qI e0))) b0))
abbrev W4:RI:=λK A=>⟨["stacks","spot","lot","more","held"],[ak,ak,ak,ak,ak],[ak,ak,ak,ak,ak],[ao,ao,ao,ao,ao],[("len",.bf .B1)],[ak],ak⟩
abbrev uG:RT:=λK A ex=>(bK (E6 (z6 (cP A.aB dB "stacks") qJ A5)))
abbrev pF:RT:=λK A ex=>aJ (bB (aO (bU K A) ex (u2 (cP A.aB dB "layout") qJ))) (uG K A ex)
abbrev jA:RS:=λK A=>vP 2 2 λEX=>pF K A (λ_=>EX)
abbrev a81:CB:=(b2 (.expr (.call 1 (e2 (.fld 0 d9) qI))) (.ret (.Ar 2 (.o5 (.fld 3 d9) qI .rS))))
abbrev a82:RI:=λK A=>⟨["self","spot"],[ak,ak],[ak,ak],[ao,ao],[("Shelves.layout",.fl A.aB "layout"),("need_bin",.fn (bU K A) 2 ao),("sum",.bf .sum),("Shelves.stacks",.fl A.aB "stacks")],[ao,ak,ak,ao],ak⟩
abbrev lJ:RT:=λK A ex=>(dJ (aQ (aP B6 (aP fL (cA A.aB "filled" (jA K A) [] ex dB (u1 qJ)) nT) (cP A.aB dB "room"))) (gU ex A.C9 (u1 (iM (.str "the bin would have more than its room")))) bO)
abbrev eV:RS:=λK A=>vP 3 3 λEX=>lJ K A (λ_=>EX)
abbrev a3B:CB:=(b1 (.ifs (.cmp .Gt (.bin .Add (.dR 0 d9 (e1 qI)) nR) (.fld 1 d9)) (b1 (.raise 2 (.con (.str "the bin would have more than its room")) e0)) b0))
abbrev a3C:RI:=λK A=>⟨["self","spot","amount"],[ak,ak,ak],[ak,ak,ak],[ao,ao,ao],[("Shelves.filled#1",.me A.aB "filled" (jA K A) []),("Shelves.room",.fl A.aB "room"),("NoRoom",.cls A.C9)],[ao,ao,ak],ak⟩
abbrev Vc:RT:=λK A ex=>(bB (aO (iY K A) ex (u4 (cP A.aB dB "stacks") nT qJ cw)))
abbrev Vb:RT:=λK A ex=>aJ (bB (cA A.aB "need_room" (eV K A) [] ex dB (u2 nT cw))) (Vc K A ex)
abbrev Va:RT:=λK A ex=>aJ (bB (aO (bF K A) ex (u1 cw))) (Vb K A ex)
abbrev U9:RT:=λK A ex=>aJ (bB (aO (bU K A) ex (u2 (cP A.aB dB "layout") nT))) (Va K A ex)
abbrev wK:RT:=λK A ex=>aJ (bB (aO (cC K A) ex (u2 qJ (ti 1000)))) (U9 K A ex)
abbrev jM:RS:=λK A=>vP 4 4 λEX=>wK K A (λ_=>EX)
abbrev ae4:CB:=(b5 (.expr (.call 1 (e2 qI (.dQ 0)))) (.expr (.call 3 (e2 (.fld 2 d9) nR))) (.expr (.call 4 (e1 cz))) (.expr (.dR 5 d9 (e2 nR cz))) (.expr (.call 7 (e4 (.fld 6 d9) nR qI cz))))
abbrev ae5:RI:=λK A=>⟨["self","lot","spot","amount"],[ak,ak,ak,ak],[ak,ak,ak,ak],[ao,ao,ao,ao],[("MOST_LOTS",.con (.int 1000)),("need_lot",.fn (cC K A) 2 ao),("Shelves.layout",.fl A.aB "layout"),("need_bin",.fn (bU K A) 2 ao),("need_amount",.fn (bF K A) 1 ao),("Shelves.need_room#2",.me A.aB "need_room" (eV K A) []),("Shelves.stacks",.fl A.aB "stacks"),("change",.fn (iY K A) 4 ao)],[ak,ak,ao,ak,ak,ao,ao,ak],ak⟩
abbrev U8:RT:=λK A ex=>(bK gX)
abbrev U7:RT:=λK A ex=>aJ (bB (k7 "list" jC (cP A.aA dB "done") (u1 (lR (u6 (iM (.str "come")) gX qJ nT cw gy))))) (U8 K A ex)
abbrev US:RT:=λK A ex=>aJ (bB (k7 "list" jC (cP A.aA dB "known") (u1 (lR (u3 qJ nT (cP A.aA dB "day")))))) (U7 K A ex)
abbrev UR:RT:=λK A ex=>aJ (bB (cA A.aB "put" (jM K A) [] ex (cP A.aA dB "shelves") (u3 gX cw gy))) (US K A ex)
abbrev uH:RT:=λK A ex=>aJ (dJ (aQ (aP Az gX (ti 1000))) (gU ex A.gZ (u1 (iM (.str "the house has 1000 lots already")))) bO) (UR K A ex)
abbrev uI:RT:=λK A ex=>aJ (fM 5 (eU fJ (u1 (cP A.aA dB "known")))) (uH K A ex)
abbrev uJ:RT:=λK A ex=>aJ (dJ (aQ (aP nB nT (cP A.aA dB "day"))) (gU ex A.cX (u1 (iM (.str "the lot would be good no more")))) bO) (uI K A ex)
abbrev uK:RT:=λK A ex=>aJ (bB (aO (bF K A) ex (u1 gy))) (uJ K A ex)
abbrev uL:RT:=λK A ex=>aJ (bB (aO (bU K A) ex (u2 (cP A.aA dB "layout") cw))) (uK K A ex)
abbrev uM:RT:=λK A ex=>aJ (bB (aO (jL K A) ex (u1 nT))) (uL K A ex)
abbrev oJ:RT:=λK A ex=>aJ (bB (aO (iC K A) ex (u1 qJ))) (uM K A ex)
abbrev cM:RS:=λK A=>vP 6 5 λEX=>oJ K A (λ_=>EX)
abbrev ai2:CB:=(bc (.expr (.call 0 (e1 qI))) (bc (.expr (.call 1 (e1 nR))) (bc (.expr (.call 3 (e2 (.fld 2 d9) cz))) (bc (.expr (.call 4 (e1 gI))) (bc (.ifs (.cmp .Lt nR (.fld 5 d9)) (b1 (.raise 6 (.con (.str "the lot would be good no more")) e0)) b0) (b6 (.set 5 (.call 8 (e1 (.fld 7 d9)))) (.ifs (.cmp .GtE iA (.dQ 9)) (b1 (.raise 10 (.con (.str "the house has 1000 lots already")) e0)) b0) (.expr (.dR 12 (.fld 11 d9) (e3 iA cz gI))) (.expr (.cn .append (.fld 7 d9) (e1 (.tup (e3 qI nR (.fld 5 d9)))))) (.expr (.cn .append (.fld 13 d9) (e1 (.tup (e6 (.con (.str "come")) iA qI nR cz gI))))) (.ret iA)))))))
abbrev ai3:RI:=λK A=>⟨["self","ware","due","spot","amount","lot"],[ak,ak,ak,ak,ak,ak],[ak,ak,ak,ak,ak,ak],[ao,ao,ao,ao,ao,ao],[("need_ware",.fn (iC K A) 1 ao),("need_day",.fn (jL K A) 1 ao),("House.layout",.fl A.aA "layout"),("need_bin",.fn (bU K A) 2 ao),("need_amount",.fn (bF K A) 1 ao),("House.day",.fl A.aA "day"),("NoDay",.cls A.cX),("House.known",.fl A.aA "known"),("len",.bf .len),("MOST_LOTS",.con (.int 1000)),("NoLot",.cls A.gZ),("House.shelves",.fl A.aA "shelves"),("Shelves.put#3",.me A.aB "put" (jM K A) []),("House.done",.fl A.aA "done")],[ak,ak,ao,ak,ak,ao,ak,ao,ak,ak,ak,ao,ao,ao],ak⟩
abbrev uN:RT:=λK A ex=>(bK (z6 (z6 (cP A.aB dB "stacks") nT A5) qJ (ti 0)))
abbrev uO:RT:=λK A ex=>aJ (bB (aO (bU K A) ex (u2 (cP A.aB dB "layout") nT))) (uN K A ex)
abbrev pG:RT:=λK A ex=>aJ (bB (aO (cC K A) ex (u2 qJ (ti 1000)))) (uO K A ex)
abbrev dG:RS:=λK A=>vP 3 3 λEX=>pG K A (λ_=>EX)
abbrev a83:CB:=(b3 (.expr (.call 1 (e2 qI (.dQ 0)))) (.expr (.call 3 (e2 (.fld 2 d9) nR))) (.ret (.o5 (.o5 (.fld 4 d9) nR .rS) qI (ci 0))))
abbrev a84:RI:=λK A=>⟨["self","lot","spot"],[ak,ak,ak],[ak,ak,ak],[ao,ao,ao],[("MOST_LOTS",.con (.int 1000)),("need_lot",.fn (cC K A) 2 ao),("Shelves.layout",.fl A.aB "layout"),("need_bin",.fn (bU K A) 2 ao),("Shelves.stacks",.fl A.aB "stacks")],[ak,ak,ao,ak,ao],ak⟩
abbrev jN:RT:=λK A ex=>(dJ (aQ (aP nB (cA A.aB "amount" (dG K A) [] ex dB (u2 qJ nT)) cw)) (gU ex A.gQ (u1 (iM (.str "less of the lot lies in the bin")))) bO)
abbrev cH:RS:=λK A=>vP 4 4 λEX=>jN K A (λ_=>EX)
abbrev a1R:CB:=(b1 (.ifs (.cmp .Lt (.dR 0 d9 (e2 qI nR)) cz) (b1 (.raise 1 (.con (.str "less of the lot lies in the bin")) e0)) b0))
abbrev a1S:RI:=λK A=>⟨["self","lot","spot","amount"],[ak,ak,ak,ak],[ak,ak,ak,ak],[ao,ao,ao,ao],[("Shelves.amount#2",.me A.aB "amount" (dG K A) []),("TooLittle",.cls A.gQ)],[ao,ak],ak⟩
abbrev xX:RT:=λK A ex=>(bB (aO (iY K A) ex (u4 (cP A.aB dB "stacks") nT qJ (AQ cw))))
abbrev xY:RT:=λK A ex=>aJ (bB (cA A.aB "need_there" (cH K A) [] ex dB (u3 qJ nT cw))) (xX K A ex)
abbrev xZ:RT:=λK A ex=>aJ (bB (aO (bF K A) ex (u1 cw))) (xY K A ex)
abbrev yC:RT:=λK A ex=>aJ (bB (aO (bU K A) ex (u2 (cP A.aB dB "layout") nT))) (xZ K A ex)
abbrev uP:RT:=λK A ex=>aJ (bB (aO (cC K A) ex (u2 qJ (ti 1000)))) (yC K A ex)
abbrev iV:RS:=λK A=>vP 4 4 λEX=>uP K A (λ_=>EX)
abbrev ac2:CB:=(b5 (.expr (.call 1 (e2 qI (.dQ 0)))) (.expr (.call 3 (e2 (.fld 2 d9) nR))) (.expr (.call 4 (e1 cz))) (.expr (.dR 5 d9 (e3 qI nR cz))) (.expr (.call 7 (e4 (.fld 6 d9) nR qI (.neg cz)))))
abbrev ac3:RI:=λK A=>⟨["self","lot","spot","amount"],[ak,ak,ak,ak],[ak,ak,ak,ak],[ao,ao,ao,ao],[("MOST_LOTS",.con (.int 1000)),("need_lot",.fn (cC K A) 2 ao),("Shelves.layout",.fl A.aB "layout"),("need_bin",.fn (bU K A) 2 ao),("need_amount",.fn (bF K A) 1 ao),("Shelves.need_there#3",.me A.aB "need_there" (cH K A) []),("Shelves.stacks",.fl A.aB "stacks"),("change",.fn (iY K A) 4 ao)],[ak,ak,ao,ak,ak,ao,ao,ak],ak⟩
abbrev vW:RT:=λK A ex=>(bB (cA A.aB "need_there" (cH K A) [] ex (cP A.aA dB "shelves") (u3 qJ nT cw)))
abbrev vX:RT:=λK A ex=>aJ (bB (aO (bF K A) ex (u1 cw))) (vW K A ex)
abbrev vY:RT:=λK A ex=>aJ (bB (aO (bU K A) ex (u2 (cP A.aA dB "layout") nT))) (vX K A ex)
abbrev rE:RT:=λK A ex=>aJ (bB (aO (cC K A) ex (u2 qJ (eU fJ (u1 (cP A.aA dB "known")))))) (vY K A ex)
abbrev kY:RS:=λK A=>vP 4 4 λEX=>rE K A (λ_=>EX)
abbrev a9N:CB:=(b4 (.expr (.call 2 (e2 qI (.call 1 (e1 (.fld 0 d9)))))) (.expr (.call 4 (e2 (.fld 3 d9) nR))) (.expr (.call 5 (e1 cz))) (.expr (.dR 7 (.fld 6 d9) (e3 qI nR cz))))
abbrev a9O:RI:=λK A=>⟨["self","lot","spot","amount"],[ak,ak,ak,ak],[ak,ak,ak,ak],[ao,ao,ao,ao],[("House.known",.fl A.aA "known"),("len",.bf .len),("need_lot",.fn (cC K A) 2 ao),("House.layout",.fl A.aA "layout"),("need_bin",.fn (bU K A) 2 ao),("need_amount",.fn (bF K A) 1 ao),("House.shelves",.fl A.aA "shelves"),("Shelves.need_there#3",.me A.aB "need_there" (cH K A) [])],[ao,ak,ak,ao,ak,ak,ao,ao],ak⟩
abbrev Uk:RT:=λK A ex=>(bB (k7 "list" jC (cP A.aA dB "done") (u1 (lR (u4 (iM (.str "go")) qJ nT cw)))))
abbrev Uj:RT:=λK A ex=>aJ (bB (cA A.aB "take" (iV K A) [] ex (cP A.aA dB "shelves") (u3 qJ nT cw))) (Uk K A ex)
abbrev LL:RT:=λK A ex=>aJ (bB (cA A.aA "need_go" (kY K A) [] ex dB (u3 qJ nT cw))) (Uj K A ex)
abbrev vZ:RS:=λK A=>vP 4 4 λEX=>LL K A (λ_=>EX)
abbrev ZT:CB:=(b3 (.expr (.dR 0 d9 (e3 qI nR cz))) (.expr (.dR 2 (.fld 1 d9) (e3 qI nR cz))) (.expr (.cn .append (.fld 3 d9) (e1 (.tup (e4 (.con (.str "go")) qI nR cz))))))
abbrev ZS:RI:=λK A=>⟨["self","lot","spot","amount"],[ak,ak,ak,ak],[ak,ak,ak,ak],[ao,ao,ao,ao],[("House.need_go#3",.me A.aA "need_go" (kY K A) []),("House.shelves",.fl A.aA "shelves"),("Shelves.take#3",.me A.aB "take" (iV K A) []),("House.done",.fl A.aA "done")],[ao,ao,ao,ao],ak⟩
abbrev uQ:RT:=λK A ex=>(bK (cP A.aA dB "day"))
abbrev uR:RT:=λK A ex=>aJ (bB (k7 "list" jC (cP A.aA dB "done") (u1 (lR (u2 (iM (.str "day")) (cP A.aA dB "day")))))) (uQ K A ex)
abbrev uT:RT:=λK A ex=>aJ (rD A.aA dB (aP fL (cP A.aA dB "day") (ti 1)) "day") (uR K A ex)
abbrev gB:RT:=λK A ex=>aJ (dJ (aQ (aP Az (cP A.aA dB "day") (ti 9999))) (gU ex A.cX (u1 (iM (.str "there is no day behind 9999")))) bO) (uT K A ex)
abbrev cD:RS:=λK A=>vP 1 1 λEX=>gB K A (λ_=>EX)
abbrev a85:CB:=(b4 (.ifs (.cmp .GtE (.fld 0 d9) (.dQ 1)) (b1 (.raise 2 (.con (.str "there is no day behind 9999")) e0)) b0) (.iE 0 d9 (.bin .Add (.fld 0 d9) (ci 1))) (.expr (.cn .append (.fld 3 d9) (e1 (.tup (e2 (.con (.str "day")) (.fld 0 d9)))))) (.ret (.fld 0 d9)))
abbrev a86:RI:=λK A=>⟨["self"],[ak],[ak],[ao],[("House.day",.fl A.aA "day"),("LAST_DAY",.con (.int 9999)),("NoDay",.cls A.cX),("House.done",.fl A.aA "done")],[ao,ak,ak,ao],ak⟩
abbrev wL:RT:=λK A ex=>(bK (cP A.aA dB "day"))
abbrev gC:RS:=λK A=>vP 1 1 λEX=>wL K A (λ_=>EX)
abbrev ae6:CB:=(b1 (.ret (.fld 0 d9)))
abbrev ae7:RI:=λK A=>⟨["self"],[ak],[ak],[ao],[("House.day",.fl A.aA "day")],[ao],ak⟩
abbrev zR:RT:=λK A ex=>(bK (eU A6 (u1 (cP A.aA dB "known"))))
abbrev m9:RS:=λK A=>vP 1 1 λEX=>zR K A (λ_=>EX)
abbrev ai4:CB:=(b1 (.ret (.call 1 (e1 (.fld 0 d9)))))
abbrev ai5:RI:=λK A=>⟨["self"],[ak],[ak],[ao],[("House.known",.fl A.aA "known"),("list",.bt "list")],[ao,ak],ak⟩
abbrev zT:RT:=λK A ex=>(bK (eU A6 (u1 (cP A.aA dB "done"))))
abbrev mD:RS:=λK A=>vP 1 1 λEX=>zT K A (λ_=>EX)
abbrev ai6:CB:=(b1 (.ret (.call 1 (e1 (.fld 0 d9)))))
abbrev ai7:RI:=λK A=>⟨["self"],[ak],[ak],[ao],[("House.done",.fl A.aA "done"),("list",.bt "list")],[ao,ak],ak⟩
abbrev yD:RT:=λK A ex=>(bK (cA A.aB "amount" (dG K A) [] ex (cP A.aA dB "shelves") (u2 qJ nT)))
abbrev uU:RT:=λK A ex=>aJ (bB (aO (cC K A) ex (u2 qJ (eU fJ (u1 (cP A.aA dB "known")))))) (yD K A ex)
abbrev mY:RS:=λK A=>vP 3 3 λEX=>uU K A (λ_=>EX)
abbrev ac4:CB:=(b2 (.expr (.call 2 (e2 qI (.call 1 (e1 (.fld 0 d9)))))) (.ret (.dR 4 (.fld 3 d9) (e2 qI nR))))
abbrev ac5:RI:=λK A=>⟨["self","lot","spot"],[ak,ak,ak],[ak,ak,ak],[ao,ao,ao],[("House.known",.fl A.aA "known"),("len",.bf .len),("need_lot",.fn (cC K A) 2 ao),("House.shelves",.fl A.aA "shelves"),("Shelves.amount#2",.me A.aB "amount" (dG K A) [])],[ao,ak,ak,ao,ao],ak⟩
abbrev UD:RT:=λK A ex=>(Cs qJ nT (eU z8 (u1 (Fp (aP wH dB nT)))))
abbrev Ui:RT:=λK A ex=>(bK qJ)
abbrev Uh:RT:=λK A ex=>aJ (A2 (FJ (eU z7 (u1 dB))) (xp 2) (UD K A ex)) (Ui K A ex)
abbrev LK:RT:=λK A ex=>aJ (fM 1 CL) (Uh K A ex)
abbrev Mh:RS:=λK A=>vP 3 1 λEX=>LK K A (λ_=>EX)
abbrev ZR:CB:=(b3 (.set 1 .As) (.wm (.any (.call 0 (e1 d9))) (.nm 2) (b1 (.we qI nR (.call 2 (e1 (.sortI 1 (.wb d9 nR))))))) (.ret qI))
abbrev ZQ:RI:=λK A=>⟨["stacks","told","spot"],[ak,ak,ak],[ak,ak,ak],[ao,ao,ao],[("sorted",.bf .EK),("sorted",.bf .Cd),("dict",.bf .Cc)],[ak,ak,ak],ak⟩
abbrev rF:RT:=λK A ex=>(bK (aO (Mh K A) ex (u1 (cP A.aB dB "stacks"))))
abbrev kZ:RS:=λK A=>vP 1 1 λEX=>rF K A (λ_=>EX)
abbrev a9P:CB:=(b1 (.ret (.call 1 (e1 (.fld 0 d9)))))
abbrev a9Q:RI:=λK A=>⟨["self"],[ak],[ak],[ao],[("Shelves.stacks",.fl A.aB "stacks"),("in_order",.fn (Mh K A) 1 ao)],[ao,ak],ak⟩
abbrev wM:RT:=λK A ex=>(bK (cA A.aB "lying" (kZ K A) [] ex (cP A.aA dB "shelves") dD))
abbrev oK:RS:=λK A=>vP 1 1 λEX=>wM K A (λ_=>EX)
abbrev ae8:CB:=(b1 (.ret (.dR 1 (.fld 0 d9) e0)))
abbrev ae9:RI:=λK A=>⟨["self"],[ak],[ak],[ao],[("House.shelves",.fl A.aA "shelves"),("Shelves.lying#0",.me A.aB "lying" (kZ K A) [])],[ao,ao],ak⟩
abbrev uV:RT:=λK A ex=>(bK (wD (aP iL (aP tM (aP tM (cP A.aA dB "known") qJ) (ti 0)) nT) (aP Az (aP tM (aP tM (cP A.aA dB "known") qJ) (ti 1)) cw)))
abbrev eF:RS:=λK A=>vP 4 4 λEX=>uV K A (λ_=>EX)
abbrev ac6:CB:=(b1 (.ret (.pf (e2 (.cmp .Eq (.ix (.ix (.fld 0 d9) qI) (ci 0)) nR) (.cmp .GtE (.ix (.ix (.fld 0 d9) qI) (ci 1)) cz)))))
abbrev ac7:RI:=λK A=>⟨["self","lot","ware","day"],[ak,ak,ak,ak],[ak,ak,ak,ak],[ao,ao,ao,ao],[("House.known",.fl A.aA "known")],[ao],ak⟩
abbrev yE:RT:=λK A ex=>(EU 3 (KB ao) (eU xn (u1 (Fd (zA ak gy) (aQ (cA A.aA "serves" (eF K A) [] kU qJ (u3 dB nT cw))) (aP wH gX dB)))))
abbrev U6:RT:=λK A ex=>(bK cw)
abbrev U5:RT:=λK A ex=>aJ (Fo (zB ao (cA A.aA "lying" (oK K A) [] ex dB dD)) (xp 4) (yE K A ex)) (U6 K A ex)
abbrev U4:RT:=λK A ex=>aJ (fM 3 (ti 0)) (U5 K A ex)
abbrev U3:RT:=λK A ex=>aJ (bB (aO (jL K A) ex (u1 nT))) (U4 K A ex)
abbrev wN:RT:=λK A ex=>aJ (bB (aO (iC K A) ex (u1 qJ))) (U3 K A ex)
abbrev gF:RS:=λK A=>vP 5 3 λEX=>wN K A (λ_=>EX)
abbrev mF:CB:=(b5 (.expr (.call 0 (e1 qI))) (.expr (.call 1 (e1 nR))) (.set 3 (ci 0)) (.B0 (.items (.dR 2 d9 e0)) (.nm 4) (b1 (.aug 3 ao (.call 4 (e1 (.comp [ak,ak,ak,ao,ak] [ao,ao,ao,ao,ao] (.keys gI) (.some (.val (.dR 3 qI (e3 d9 nR cz)))) (.wb iA d9))))))) (.ret cz))
abbrev aeA:RI:=λK A=>⟨["self","ware","day","grains","held"],[ak,ak,ak,ak,ak],[ao,ao,ao,ak,ao],[ak,ak,ak,ao,ak],[("need_ware",.fn (iC K A) 1 ao),("need_day",.fn (jL K A) 1 ao),("House.lying#0",.me A.aA "lying" (oK K A) []),("House.serves#3",.me A.aA "serves" (eF K A) []),("sum",.bf .sum)],[ak,ak,ao,ao,ak],ak⟩
abbrev yF:RT:=λK A ex=>(bK (aP lU (aP fL (aP p6 nT nT) (aP p6 (ti 48271) qJ)) (ti 2147483629)))
abbrev yG:RT:=λK A ex=>aJ (fM 2 (aP lU (aP fL (aP p6 (aP tM dB (aP lU qJ (eU fJ (u1 dB)))) (ti 48271)) (aP p6 qJ (ti 104729))) (ti 2147483647))) (yF K A ex)
abbrev yH:RT:=λK A ex=>aJ (dJ (aQ (aP iL (eU fJ (u1 dB)) (ti 0))) (bK (ti 0)) bO) (yG K A ex)
abbrev uW:RT:=λK A ex=>aJ (dJ (aQ (aP nB qJ (eU fJ (u1 dB)))) (bK (aP tM dB qJ)) bO) (yH K A ex)
abbrev dI:RS:=λK A=>vP 3 2 λEX=>uW K A (λ_=>EX)
abbrev ac8:CB:=(b4 (.ifs (.cmp .Lt qI (.call 0 (e1 d9))) (b1 (.ret (.ix d9 qI))) b0) (.ifs (.cmp .Eq (.call 0 (e1 d9)) (ci 0)) (b1 (.ret (ci 0))) b0) (.set 2 (.bin .Mod (.bin .Add (.bin .Mult (.ix d9 (.bin .Mod qI (.call 0 (e1 d9)))) (ci 48271)) (.bin .Mult qI (ci 104729))) (ci 2147483647))) (.ret (.bin .Mod (.bin .Add (.bin .Mult nR nR) (.bin .Mult (ci 48271) qI)) (ci 2147483629))))
abbrev ac9:RI:=λK A=>⟨["_law_script","_law_k","_law_mixed"],[ak,ak,ak],[ak,ak,ak],[ao,ao,ao],[("len",.bf .len)],[ak],ak⟩
abbrev zU:RT:=λK A ex=>(bK (wD (eU (aD K) (u2 dB (iM (.ty "int")))) (Cz (eU (aD K) (u2 dB (iM (.ty "bool")))))))
abbrev iZ:RS:=λK A=>vP 1 1 λEX=>zU K A (λ_=>EX)
abbrev ai8:CB:=(b1 (.ret (.pf (e2 (.call 1 (e2 d9 (.dQ 0))) (.Au (.call 1 (e2 d9 (.dQ 2))))))))
abbrev ai9:RI:=λK A=>⟨["_law_found"],[ak],[ak],[ao],[("int",.bt "int"),("isinstance",.bf .oB),("bool",.bt "bool")],[ak,ak,ak],ak⟩
abbrev yI:RT:=λK A ex=>(dJ (gL (nU (aQ nT)) (aQ (aP fE (cA A.aA "today" (gC K A) [] ex dB dD) (ti 9999)))) (bK (iM (.bl ao))) bO)
abbrev yJ:RT:=λK A ex=>aJ (AI K (λyo=>(bB (cA A.aA "next_day" (cD K A) [] yo (cO 0) dD))) [(A.cX,(fM 2 (iM (.bl ak))))]) (yI K A ex)
abbrev UQ:RT:=λK A ex=>aJ (fM 2 (iM (.bl ao))) (yJ K A ex)
abbrev U2:RT:=λK A ex=>(bK (iM (.bl ak)))
abbrev wO:RT:=λK A ex=>aJ (A2 (A4 (u1 (ti 2))) (xp 1) (UQ K A ex)) (U2 K A ex)
abbrev oM:RS:=λK A=>vP 3 1 λEX=>wO K A (λ_=>EX)
abbrev aeB:CB:=(b2 (.wm (.wy (ci 2)) (.nm 1) (b3 (.set 2 (.con (.bl ao))) (.wo (.cons (.expr (.dR 1 d9 e0)) .nil) (.cons 2 (.cons (.set 2 (.con (.bl ak))) .nil) .nil)) (.ifs (.or (t2 (.not (.val nR)) (.cmp .NotEq (.dR 3 d9 e0) (ci 9999)))) (b1 (.ret (.con (.bl ao)))) b0))) (.ret (.con (.bl ak))))
abbrev aeC:RI:=λK A=>⟨["_law_house","_law_turn","_law_told"],[ak,ak,ak],[ak,ak,ak],[ao,ao,ao],[("range",.bt "range"),("House.next_day#0",.me A.aA "next_day" (cD K A) []),("NoDay",.cls A.cX),("House.today#0",.me A.aA "today" (gC K A) [])],[ak,ao,ak,ao],ak⟩
abbrev a87:RT:=λK A ex=>(bK (iM (.str "none")))
abbrev uX:RT:=λK A ex=>aJ (AI K (λyo=>(bB (cA A.aA "come" (cM K A) [] yo (cO 0) (aZ (cO 1) (aZ (cO 2) (aZ (cO 3) (aZ (cO 4) dD))))))) [(A.gZ,(bK (iM (.str "lot")))),(A.fZ,(bK (iM (.str "ware")))),(A.cX,(bK (iM (.str "day")))),(A.kW,(bK (iM (.str "bin")))),(A.cT,(bK (iM (.str "amount"))))]) (a87 K A ex)
abbrev aR:RS:=λK A=>vP 5 5 λEX=>uX K A (λ_=>EX)
abbrev acA:CB:=(b2 (.wo (.cons (.expr (.dR 0 d9 (e4 qI nR cz gI))) .nil) (.cons 1 (.cons (.ret (.con (.str "lot"))) .nil) (.cons 2 (.cons (.ret (.con (.str "ware"))) .nil) (.cons 3 (.cons (.ret (.con (.str "day"))) .nil) (.cons 4 (.cons (.ret (.con (.str "bin"))) .nil) (.cons 5 (.cons (.ret (.con (.str "amount"))) .nil) .nil)))))) (.ret (.con (.str "none"))))
abbrev acB:RI:=λK A=>⟨["_law_house","_law_ware","_law_due","_law_spot","_law_amount"],[ak,ak,ak,ak,ak],[ak,ak,ak,ak,ak],[ao,ao,ao,ao,ao],[("House.come#4",.me A.aA "come" (cM K A) []),("NoLot",.cls A.gZ),("NoWare",.cls A.fZ),("NoDay",.cls A.cX),("NoBin",.cls A.kW),("NoAmount",.cls A.cT)],[ao,ak,ak,ak,ak,ak],ak⟩
abbrev UP:RT:=λK A ex=>(bB (k7 "list" jC qJ (u1 (lR (u3 (iM (.str "w")) (aP fL nT (aP lU (eU fJ (u1 qJ)) (ti 3))) nT)))))
abbrev UO:RT:=λK A ex=>aJ (dJ (gL (nU (aQ (aO (iZ K A) ex (u1 cw)))) (aQ (aP fE cw (eU fJ (u1 qJ))))) (bK (iM (.bl ao))) bO) (UP K A ex)
abbrev Ug:RT:=λK A ex=>aJ (fM 3 (cA A.aA "come" (cM K A) [] ex dB (u4 (iM (.str "w")) (aP fL nT (aP lU (eU fJ (u1 qJ)) (ti 3))) (lR (u2 (ti 0) (aP fL (ti 1) (aP lU (eU fJ (u1 qJ)) (ti 3))))) (aP fL (ti 1) (aP lU (eU fJ (u1 qJ)) (ti 2)))))) (UO K A ex)
abbrev wQ:RT:=λK A ex=>(bK (aP iL gy (Fu (n9 (aZ (iM (.str "lot")) (u6 (iM (.str "lot")) (iM (.str "ware")) (iM (.str "day")) (iM (.str "bin")) (iM (.str "amount")) (iM (.str "day"))))) F7 (Ff (eU fJ (u1 gy))))))
abbrev UC:RT:=λK A ex=>aJ (dJ (aQ (aP B6 nT (ti 0))) (bB (k7 "list" jC gy (u1 (aO (aR K A) ex (u5 dB (iM (.str "w")) (aP xo nT (ti 1)) (lR (u2 (ti 0) (ti 1))) (ti 1)))))) bO) (wQ K A ex)
abbrev UB:RT:=λK A ex=>aJ (fM 4 (aP fL gy (n9 (u2 (aO (aR K A) ex (u5 dB (iM (.str "w")) nT (lR (u2 (ti 9) (ti 9))) (ti 0))) (aO (aR K A) ex (u5 dB (iM (.str "w")) nT (lR (u2 (ti 0) (ti 1))) (ti 0))))))) (UC K A ex)
abbrev UA:RT:=λK A ex=>aJ (fM 4 (aP fL gy (n9 (u2 (aO (aR K A) ex (u5 dB (iM (.str "W")) (AQ (ti 1)) (lR (u2 (ti 9) (ti 9))) (ti 0))) (aO (aR K A) ex (u5 dB (iM (.str "w")) (AQ (ti 1)) (lR (u2 (ti 9) (ti 9))) (ti 0))))))) (UB K A ex)
abbrev wR:RT:=λK A ex=>aJ (fM 4 (n9 (u2 (aO (aR K A) ex (u5 dB (iM (.str "w")) nT (lR (u2 (ti 0) (ti 1))) (ti 1))) (aO (aR K A) ex (u5 dB (iM (.str "w")) nT (lR (u2 (ti 0) (ti 1))) (aP Ci (ti 10) (ti 6))))))) (UA K A ex)
abbrev Mg:RT:=λK A ex=>aJ (Ft (aQ (aP nB (eU fJ (u1 qJ)) (ti 1000))) (Ug K A ex)) (wR K A ex)
abbrev sV:RS:=λK A=>vP 5 3 λEX=>Mg K A (λ_=>EX)
abbrev alI:CB:=(b6 (.FD (.cmp .Lt (.call 0 (e1 qI)) (ci 1000)) (b3 (.set 3 (.dR 1 d9 (e4 (.con (.str "w")) (.bin .Add nR (.bin .Mod (.call 0 (e1 qI)) (ci 3))) (.tup (e2 (ci 0) (.bin .Add (ci 1) (.bin .Mod (.call 0 (e1 qI)) (ci 3))))) (.bin .Add (ci 1) (.bin .Mod (.call 0 (e1 qI)) (ci 2)))))) (.ifs (.or (t2 (.not (.val (.call 2 (e1 cz)))) (.cmp .NotEq cz (.call 0 (e1 qI))))) (b1 (.ret (.con (.bl ao)))) b0) (.expr (.cn .append qI (e1 (.tup (e3 (.con (.str "w")) (.bin .Add nR (.bin .Mod (.call 0 (e1 qI)) (ci 3))) nR))))))) (.set 4 (.lst (e2 (.call 3 (e5 d9 (.con (.str "w")) nR (.tup (e2 (ci 0) (ci 1))) (ci 1))) (.call 3 (e5 d9 (.con (.str "w")) nR (.tup (e2 (ci 0) (ci 1))) (.bin .Pow (ci 10) (ci 6))))))) (.set 4 (.bin .Add gI (.lst (e2 (.call 3 (e5 d9 (.con (.str "W")) (.neg (ci 1)) (.tup (e2 (ci 9) (ci 9))) (ci 0))) (.call 3 (e5 d9 (.con (.str "w")) (.neg (ci 1)) (.tup (e2 (ci 9) (ci 9))) (ci 0))))))) (.set 4 (.bin .Add gI (.lst (e2 (.call 3 (e5 d9 (.con (.str "w")) nR (.tup (e2 (ci 9) (ci 9))) (ci 0))) (.call 3 (e5 d9 (.con (.str "w")) nR (.tup (e2 (ci 0) (ci 1))) (ci 0))))))) (.ifs (.cmp .Gt nR (ci 0)) (b1 (.expr (.cn .append gI (e1 (.call 3 (e5 d9 (.con (.str "w")) (.bin .Sub nR (ci 1)) (.tup (e2 (ci 0) (ci 1))) (ci 1))))))) b0) (.ret (.cmp .Eq gI (.sl (.lst (ec (.con (.str "lot")) (e6 (.con (.str "lot")) (.con (.str "ware")) (.con (.str "day")) (.con (.str "bin")) (.con (.str "amount")) (.con (.str "day"))))) .none (.some (.call 0 (e1 gI)))))))
abbrev alJ:RI:=λK A=>⟨["_law_house","_law_lots","_law_day","_law_lot","_law_words"],[ak,ak,ak,ak,ak],[ak,ak,ak,ak,ak],[ao,ao,ao,ao,ao],[("len",.bf .len),("House.come#4",.me A.aA "come" (cM K A) []),("_law_whole",.fn (iZ K A) 1 ao),("_law_refused",.fn (aR K A) 5 ao)],[ak,ao,ak,ak],ak⟩
abbrev Uz:RT:=λK A ex=>(fM 6 (aP fL ze (ti 1)))
abbrev Uy:RT:=λK A ex=>aJ (bB (k7 "list" jC gX (u1 (lR (u3 (iM (.str "w")) Hg ve))))) (Uz K A ex)
abbrev Ux:RT:=λK A ex=>aJ (dJ (aQ (aP fE (cA A.aA "come" (cM K A) [] ex nT (u4 (iM (.str "w")) Hg (lR (u2 (ti 0) (aP fL (ti 1) (aP lU ve (ti 3))))) (aP fL (ti 1) (aP lU ve (ti 5))))) (eU fJ (u1 gX)))) (bK (iM (.bl ao))) bO) (Uy K A ex)
abbrev R4:RT:=λK A ex=>(dJ (AR (aQ (aP iL (aP lU ve gy) (ti 0))) (aQ (aP nB (eU fJ (u1 gX)) (ti 90)))) (aJ (fM 9 (eU Fc (u2 (ti 9999) (aP fL ve (aP lU (aO (dI K A) ex (u2 dB (aP fL (ti 3) (eU fJ (u1 gX))))) (ti 4)))))) (Ux K A ex)) bO)
abbrev R1:RT:=λK A ex=>aJ (fM 6 (aP fL ze (ti 1))) (R4 K A ex)
abbrev R0:RT:=λK A ex=>aJ (dJ (gL (nU (aQ (aO (iZ K A) ex (u1 Hh)))) (aQ (aP fE Hh ve))) (bK (iM (.bl ao))) bO) (R1 K A ex)
abbrev Kf:RT:=λK A ex=>aJ (fM 8 (cA A.aA "next_day" (cD K A) [] ex nT dD)) (R0 K A ex)
abbrev RZ:RT:=λK A ex=>(bK (wD (aP FO (cA A.aA "go" (vZ K A) [] ex nT (u3 (ti 999) (lR (u2 (ti 0) (ti 1))) (ti 1))) (iM .ag)) (aP iL (cA A.aA "amount" (mY K A) [] ex nT (u2 (ti 999) (lR (u2 (ti 0) (ti 1))))) (ti 1))))
abbrev RY:RT:=λK A ex=>aJ (dJ (gL (nU (aQ (aO (sV K A) ex (u3 nT gX cw)))) (gL (aQ (aP fE (cA A.aA "lots" (m9 K A) [] ex nT dD) gX)) (aQ (aP fE (eU fJ (u1 (cA A.aA "rows" (mD K A) [] ex nT dD))) ze)))) (bK (iM (.bl ao))) bO) (RZ K A ex)
abbrev Ql:RT:=λK A ex=>(bK (Ck (aP nB cw (ti 9999)) (aO (oM K A) ex (u1 nT))))
abbrev Ke:RT:=λK A ex=>aJ (dJ (gL (aQ (aP fE (cA A.aA "total" (gF K A) [.int 0] ex nT (u1 (iM (.str "w")))) Ks)) (aQ (aP fE (cA A.aA "total" (gF K A) [] ex nT (u2 (iM (.str "w")) (ti 0))) Ks))) (bK (iM (.bl ao))) bO) (Ql K A ex)
abbrev Qk:RT:=λK A ex=>aJ (fM 10 (eU xn (u1 (Fd (Cw gX) Cv (aP fL (ti 1) (aP lU (aP tM dB (ti 2)) (ti 5))))))) (Ke K A ex)
abbrev Kd:RT:=λK A ex=>aJ (dJ (gL (aQ (aP fE (cA A.aA "today" (gC K A) [] ex nT dD) cw)) (gL (aQ (aP fE (cA A.aA "lots" (m9 K A) [] ex nT dD) gX)) (aQ (aP fE (eU fJ (u1 (cA A.aA "rows" (mD K A) [] ex nT dD))) ze)))) (bK (iM (.bl ao))) bO) (Qk K A ex)
abbrev JC:RT:=λK A ex=>aJ (dJ (AR (aQ (aP iL (aP lU qJ (ti 8)) (ti 1))) (aQ (aP nB cw (ti 9990)))) (aJ (fM 6 (aP xo (aP fL ze (ti 1000)) (eU fJ (u1 gX)))) (RY K A ex)) bO) (Kd K A ex)
abbrev Pa:RT:=λK A ex=>aJ (A2 (A3 (u2 (ti 1) (aP fL cw (ti 1)))) (xp 7) (Kf K A ex)) (JC K A ex)
abbrev O9:RT:=λK A ex=>aJ (fM 6 (ti 0)) (Pa K A ex)
abbrev O8:RT:=λK A ex=>aJ (fM 5 (n9 dD)) (O9 K A ex)
abbrev Fl:RT:=λK A ex=>aJ (fM 4 (aP fL (ti 1) (aP lU (aO (dI K A) ex (u2 dB (ti 2))) (ti 9)))) (O8 K A ex)
abbrev O7:RT:=λK A ex=>aJ (dJ (aQ (aP iL (aP lU qJ (ti 16)) (ti 3))) (fM 3 (ti 9999)) bO) (Fl K A ex)
abbrev O6:RT:=λK A ex=>aJ (fM 3 (aP lU (aO (dI K A) ex (u2 dB (ti 1))) (ti 61))) (O7 K A ex)
abbrev O5:RT:=λK A ex=>aJ (fM 2 (A1 A.aA (j9 K A) [] ex (u2 (lR (u3 (aP fL (ti 1) (aP lU (aP Cy qJ (ti 16)) (ti 2))) (ti 3) (ti 1))) (ti 2000)))) (O6 K A ex)
abbrev Iz:RT:=λK A ex=>aJ (fM 1 (aO (dI K A) ex (u2 dB (ti 0)))) (O5 K A ex)
abbrev Jc:RS:=λK A=>vP 11 1 λEX=>Iz K A (λ_=>EX)
abbrev B9:CB:=(bc (.set 1 (.call 0 (e2 d9 (ci 0)))) (bc (.set 2 (.call 1 (e2 (.tup (e3 (.bin .Add (ci 1) (.bin .Mod (.bin .FloorDiv qI (ci 16)) (ci 2))) (ci 3) (ci 1))) (ci 2000)))) (bc (.set 3 (.bin .Mod (.call 0 (e2 d9 (ci 1))) (ci 61))) (bc (.ifs (.cmp .Eq (.bin .Mod qI (ci 16)) (ci 3)) (b1 (.set 3 (ci 9999))) b0) (bc (.set 4 (.bin .Add (ci 1) (.bin .Mod (.call 0 (e2 d9 (ci 2))) (ci 9)))) (bc (.set 5 (.lst e0)) (bc (.set 6 (ci 0)) (b6 (.wm (.wx (ci 1) (.bin .Add cz (ci 1))) (.nm 7) (b4 (.set 8 (.dR 3 nR e0)) (.ifs (.or (t2 (.not (.val (.call 4 (e1 N8)))) (.cmp .NotEq N8 Ak))) (b1 (.ret (.con (.bl ao)))) b0) (.set 6 (.bin .Add BY (ci 1))) (.ifs (.and (t2 (.cmp .Eq (.bin .Mod Ak gI) (ci 0)) (.cmp .Lt (.call 5 (e1 iA)) (ci 90)))) (b4 (.set 9 (.call 6 (e2 (ci 9999) (.bin .Add Ak (.bin .Mod (.call 0 (e2 d9 (.bin .Add (ci 3) (.call 5 (e1 iA))))) (ci 4)))))) (.ifs (.cmp .NotEq (.dR 7 nR (e4 (.con (.str "w")) N7 (.tup (e2 (ci 0) (.bin .Add (ci 1) (.bin .Mod Ak (ci 3))))) (.bin .Add (ci 1) (.bin .Mod Ak (ci 5))))) (.call 5 (e1 iA))) (b1 (.ret (.con (.bl ao)))) b0) (.expr (.cn .append iA (e1 (.tup (e3 (.con (.str "w")) N7 Ak))))) (.set 6 (.bin .Add BY (ci 1)))) b0))) (.ifs (.and (t2 (.cmp .Eq (.bin .Mod qI (ci 8)) (ci 1)) (.cmp .Lt cz (ci 9990)))) (b3 (.set 6 (.bin .Sub (.bin .Add BY (ci 1000)) (.call 5 (e1 iA)))) (.ifs (.or (t3 (.not (.val (.call 8 (e3 nR iA cz)))) (.cmp .NotEq (.dR 9 nR e0) iA) (.cmp .NotEq (.call 5 (e1 (.dR 10 nR e0))) BY))) (b1 (.ret (.con (.bl ao)))) b0) (.ret (.pf (e2 (.cmp .Is (.dR 11 nR (e3 (ci 999) (.tup (e2 (ci 0) (ci 1))) (ci 1))) (.con .ag)) (.cmp .Eq (.dR 12 nR (e2 (ci 999) (.tup (e2 (ci 0) (ci 1))))) (ci 1)))))) b0) (.ifs (.or (t3 (.cmp .NotEq (.dR 13 nR e0) cz) (.cmp .NotEq (.dR 9 nR e0) iA) (.cmp .NotEq (.call 5 (e1 (.dR 10 nR e0))) BY))) (b1 (.ret (.con (.bl ao)))) b0) (.set 10 (.call 14 (e1 (.comp [ao,ao,ao,ao,ao,ao,ao,ao,ao,ao,ao] [ao,ao,ao,ao,ao,ao,ao,ao,ao,ao,ao,ao,ao,ao,ao,ao,ao,ao] (.any iA) .none (.bin .Add (ci 1) (.bin .Mod (.ix d9 (ci 2)) (ci 5))))))) (.ifs (.or (t2 (.cmp .NotEq (.dR 15 nR (e1 (.con (.str "w")))) Su) (.cmp .NotEq (.dR 16 nR (e2 (.con (.str "w")) (ci 0))) Su))) (b1 (.ret (.con (.bl ao)))) b0) (.ret (.By (e2 (.cmp .Lt cz (ci 9999)) (.call 17 (e1 nR)))))))))))))
abbrev aRG:RI:=λK A=>⟨["_law_script","_law_first","_law_house","_law_days","_law_step","_law_lots","_law_rows","_law_day","_law_found","_law_due","_law_kept"],[ak,ak,ak,ak,ak,ak,ak,ak,ak,ak,ak],[ak,ak,ak,ak,ak,ak,ak,ak,ak,ak,ak],[ao,ao,ao,ao,ao,ao,ao,ao,ao,ao,ao],[("_law_cell_at",.fn (dI K A) 2 ao),("House",.kl A.aA (j9 K A) []),("range",.bt "range"),("House.next_day#0",.me A.aA "next_day" (cD K A) []),("_law_whole",.fn (iZ K A) 1 ao),("len",.bf .len),("min",.bf .min),("House.come#4",.me A.aA "come" (cM K A) []),("_law_full",.fn (sV K A) 3 ao),("House.lots#0",.me A.aA "lots" (m9 K A) []),("House.rows#0",.me A.aA "rows" (mD K A) []),("House.go#3",.me A.aA "go" (vZ K A) []),("House.amount#2",.me A.aA "amount" (mY K A) []),("House.today#0",.me A.aA "today" (gC K A) []),("sum",.bf .sum),("House.total#1",.me A.aA "total" (gF K A) [.int 0]),("House.total#2",.me A.aA "total" (gF K A) []),("_law_no_day",.fn (oM K A) 1 ao)],[ak,ak,ak,ao,ak,ak,ak,ao,ak,ao,ao,ao,ao,ao,ak,ao,ao,ak],ak⟩
structure d3(K:Fg)(mg:Str->Option bh)(x:Str)(st:jq)(f:bw)(d:jm)(ps:List Str):Prop where
 F:cK K x x st f d
 B:Binds K d ps []
 m:mg x=aj (.ref f)
structure kX(K:Fg)(mg:Str->Option bh)(x:Str)(c:bw):Prop where
 m:mg x=aj (.ref c)
 x:yw K c Hc "ValueError.__new__"=ak
 cs:(vg K c).isSome=ak
 ty:x4 K (.ref c)=aj (.type "type")
 be:jc K (.ref c) (.type "BaseException")=aj ak
structure Txt(K:Fg)(mg:Str->Option bh)(A:iS):Prop where
 fD:d3 K mg "is_whole" Si A.Sb A.zG ["thing","least","most"]
 tD:d3 K mg "is_plan" Rn A.Rk A.GA ["thing"]
 jO:d3 K mg "need_plan" TZ A.TU A.vQ ["plan"]
 nO:d3 K mg "is_amount" TY A.TR A.vR ["thing"]
 cN:d3 K mg "need_amount" UL A.UG A.qF ["thing"]
 a4X:cK K "__init__" "Shelves.__init__" dW A.bH A.gY
 a4Y:Binds K A.gY ["self","plan","room"] []
 aoV:Meth K A.aB "__init__" A.bH
 aoW:∃t,Binds K A.gY ["self","plan","room"] [.int 1000 t]
 a88:cK K "__init__" "House.__init__" fP A.bY A.kJ
 a89:Binds K A.kJ ["self","plan","room"] []
 auT:Meth K A.aA "__init__" A.bY
 auU:∃t,Binds K A.kJ ["self","plan","room"] [.int 1000 t]
 tE:d3 K mg "is_ware" Rm A.Rj A.Gz ["thing"]
 jP:d3 K mg "need_ware" TX A.TQ A.vU ["thing"]
 yK:d3 K mg "is_day" Qr A.Qo A.FZ ["thing"]
 nA:d3 K mg "need_day" Sh A.Sa A.zH ["thing"]
 tG:d3 K mg "is_pair" Rl A.Ri A.Gy ["thing","aisles","first","last"]
 yL:d3 K mg "is_bin" Qq A.Qn A.FY ["plan","thing"]
 dY:d3 K mg "need_bin" Sg A.R9 A.zJ ["plan","thing"]
 fG:d3 K mg "need_lot" Sf A.R8 A.zK ["thing","lots"]
 uY:d3 K mg "change" Qp A.Qm A.FX ["stacks","spot","lot","more"]
 pH:cK K "filled" "Shelves.filled" xR A.fQ A.fU
 pI:Binds K A.fU ["self","spot"] []
 a8A:Meth K A.aB "filled" A.fQ
 lK:cK K "need_room" "Shelves.need_room" rT A.dM A.dN
 lM:Binds K A.dN ["self","spot","amount"] []
 a3D:Meth K A.aB "need_room" A.dM
 wU:cK K "put" "Shelves.put" UK A.lX A.lY
 wV:Binds K A.lY ["self","lot","spot","amount"] []
 aeD:Meth K A.aB "put" A.lX
 zV:cK K "come" "House.come" Ur A.o7 A.o8
 oN:Binds K A.o8 ["self","ware","due","spot","amount"] []
 zW:Meth K A.aA "come" A.o7
 pJ:cK K "amount" "Shelves.amount" xT A.fV A.fW
 lA:Binds K A.fW ["self","lot","spot"] []
 yM:Meth K A.aB "amount" A.fV
 jQ:cK K "need_there" "Shelves.need_there" qQ A.d7 A.d8
 eX:Binds K A.d8 ["self","lot","spot","amount"] []
 qX:Meth K A.aB "need_there" A.d7
 uZ:cK K "take" "Shelves.take" U0 A.jE A.jF
 v7:Binds K A.jF ["self","lot","spot","amount"] []
 acL:Meth K A.aB "take" A.jE
 rG:cK K "need_go" "House.need_go" Ve A.iQ A.iR
 rH:Binds K A.iR ["self","lot","spot","amount"] []
 a9R:Meth K A.aA "need_go" A.iQ
 LJ:cK K "go" "House.go" Se A.tY A.tZ
 LF:Binds K A.tZ ["self","lot","spot","amount"] []
 ZP:Meth K A.aA "go" A.tY
 pK:cK K "next_day" "House.next_day" xU A.fX A.fY
 lB:Binds K A.fY ["self"] []
 yN:Meth K A.aA "next_day" A.fX
 wW:cK K "today" "House.today" UJ A.lZ A.m6
 qK:Binds K A.m6 ["self"] []
 Uw:Meth K A.aA "today" A.lZ
 zX:cK K "lots" "House.lots" Uq A.o9 A.oA
 zY:Binds K A.oA ["self"] []
 aiB:Meth K A.aA "lots" A.o9
 zZ:cK K "rows" "House.rows" Uo A.oE A.oF
 Ms:Binds K A.oF ["self"] []
 aiC:Meth K A.aA "rows" A.oE
 v8:cK K "amount" "House.amount" UZ A.jG A.jH
 v9:Binds K A.jH ["self","lot","spot"] []
 acM:Meth K A.aA "amount" A.jG
 pL:d3 K mg "in_order" Sd A.R7 A.zL ["stacks"]
 rJ:cK K "lying" "Shelves.lying" Vd A.iT A.iU
 rK:Binds K A.iU ["self"] []
 a9S:Meth K A.aB "lying" A.iT
 wX:cK K "lying" "House.lying" UI A.m7 A.m8
 wY:Binds K A.m8 ["self"] []
 aeE:Meth K A.aA "lying" A.m7
 vA:cK K "serves" "House.serves" UY A.jJ A.jK
 vB:Binds K A.jK ["self","lot","ware","day"] []
 acN:Meth K A.aA "serves" A.jJ
 aeF:cK K "total" "House.total" lW A.fC A.qG
 aeG:Binds K A.qG ["self","ware","day"] []
 Uv:Meth K A.aA "total" A.fC
 aeH:∃t,Binds K A.qG ["self","ware","day"] [.int 0 t]
 gG:d3 K mg "_law_cell_at" UX A.UU A.oG ["_law_script","_law_k"]
 iD:d3 K mg "_law_whole" Um A.Ul A.sO ["_law_found"]
 j4:d3 K mg "_law_no_day" UH A.UE A.qH ["_law_house"]
 gH:d3 K mg "_law_refused" UW A.UT A.oH ["_law_house","_law_ware","_law_due","_law_spot","_law_amount"]
 nP:d3 K mg "_law_full" TV A.TN A.vV ["_law_house","_law_lots","_law_day"]
 aRH:d3 K mg "law" Ca A.xi A.S0 ["_law_script"]
 bA:gc K A.aB
 ZO:Mk K A.aB A.bH
 ZN:mg "Shelves"=aj (.ref A.aB)
 aM:gc K A.aA
 W3:Mk K A.aA A.bY
 W2:mg "House"=aj (.ref A.aA)
 sW:j6 K A.aA "day"
 mJ:j6 K A.aA "done"
 gJ:j6 K A.aA "known"
 rM:j6 K A.aA "layout"
 dU:j6 K A.aA "shelves"
 eY:j6 K A.aB "layout"
 U1:j6 K A.aB "room"
 dH:j6 K A.aB "stacks"
 sX:kX K mg "DepotError" A.ai1
 C7:kX K mg "NoPlan" A.FW
 yO:kX K mg "NoWare" A.fZ
 sY:kX K mg "NoDay" A.cX
 Bc:kX K mg "NoBin" A.kW
 yf:kX K mg "NoLot" A.gZ
 pN:kX K mg "NoAmount" A.cT
 C6:kX K mg "NoRoom" A.C9
 qY:kX K mg "TooLittle" A.gQ
 jR:jc K (.ref A.fZ) (.ref A.gZ)=aj ao
 iW:jc K (.ref A.fZ) (.ref A.fZ)=aj ak
 fH:jc K (.ref A.cX) (.ref A.cX)=aj ak
 j5:jc K (.ref A.cX) (.ref A.gZ)=aj ao
 gK:jc K (.ref A.cX) (.ref A.fZ)=aj ao
 mK:jc K (.ref A.kW) (.ref A.kW)=aj ak
 mL:jc K (.ref A.kW) (.ref A.cX)=aj ao
 mQ:jc K (.ref A.kW) (.ref A.gZ)=aj ao
 jT:jc K (.ref A.kW) (.ref A.fZ)=aj ao
 mR:jc K (.ref A.gZ) (.ref A.gZ)=aj ak
 dO:jc K (.ref A.cT) (.ref A.cT)=aj ak
 gM:jc K (.ref A.cT) (.ref A.kW)=aj ao
 gO:jc K (.ref A.cT) (.ref A.cX)=aj ao
 gP:jc K (.ref A.cT) (.ref A.gZ)=aj ao
 eZ:jc K (.ref A.cT) (.ref A.fZ)=aj ao
 mU:∃t,mg "MOST_AISLES"=aj (.int 26 t)
 mV:∃t,mg "MOST_PLACES"=aj (.int 99 t)
 jU:∃t,mg "LONGEST_WARE"=aj (.int 12 t)
 pO:∃t,mg "LAST_DAY"=aj (.int 9999 t)
 mW:∃t,mg "MOST_AMOUNT"=aj (.int 1000000 t)
 vC:∃t,mg "MOST_GAP"=aj (.int 20 t)
 gR:∃t,mg "MOST_LOTS"=aj (.int 1000 t)
 aRI:mg "all"=au
 Od:mg "bool"=au
 aML:mg "dict"=au
 SZ:mg "int"=au
 oO:mg "isinstance"=au
 nL:mg "len"=au
 Oc:mg "list"=au
 aRJ:mg "min"=au
 O4:mg "range"=au
 Qj:mg "sorted"=au
 aRK:mg "str"=au
 Iy:mg "sum"=au
 O3:mg "tuple"=au
end Law
namespace Law
open PySem PySem.Spec PyProof.Rows L2 L4 L5 L6
local macro_rules| `(tactic| walk_at "wp")=>`(tactic| first|(simp(maxSteps:=2000000) (implicitDefEqProofs:=false) (disch:=first|rfl|decide|assumption|omega) only[ti,dB,qJ,nT,cw,gy,gX,ze,ve,Hh,Hg,Ks,u1,u2,u3,u4,u5,u6,L5.aQQ,L5.aLS,L5.aLT,L5.aQR,L5.aQS,L5.aQT,L5.x_raise,L5.x_c,L5.aLU,L5.aLV,L5.aVF,L5.aLW,L5.aEH,L5.aQU,L5.aVG,L5.aQV,L5.aLX,L5.aQW,L5.aLY,L5.aQX,L5.aQY,L5.aLZ,L5.aQZ,L5.aR0,L5.aR1,L5.x_call,L5.aVH,L5.x_m,L5.Xp,L5.aM0,L5.aEJ,L5.aLK,L5.aEG,L5.Xo,L5.aR2,L5.aM3,L5.aM4,L5.aEU,L5.aM5,L5.aM6,L5.x_lt,L5.aVI,L5.x_ge,L5.aVJ,L5.aM2,L5.aEK,L5.aEL,L5.aEM,L5.aEN,L5.aEO,L5.aEP,L5.qP,L5.aER,L5.aES,L5.aET,L5.aLL,L5.aLM,L5.aLN,L5.aLO,L5.aLP,L5.aLQ,L5.aLR,L5.akV,L5.ahW,L5.adY,L5.Z8,L5.akW,L5.ahX,L5.akX,L5.ahY,L5.adZ,L5.akY,L5.ahZ,L5.akZ,L5.ae0,L5.al0,L5.ai0,L5.ae1,L5.Z4,L5.al1,L5.Xn,L5.YR,L5.Z3,L5.aR5,L5.aR6,L5.Z2,L5.YQ,L5.YO,L6.aEW,L6.aR7,L6.aM7,L6.aM8,L6.Xl,L6.aEX,L6.aEY,L6.aM9,L6.aMB,L6.aEZ,L6.aR9,L6.aRA,L6.aRB,L6.aF1,L8.aRC,L8.aMF,L8.aF6,L8.aF7,L8.aVL,L8.aF8,L9.aF9,L9.aMG,GU.Xb,GU.aMI,Du.Xc,Du.aMH,L7.aMC,L7.aMD,reduceIte,reduceCtorEq];try dsimp only[L5.Oj,L5.Oi,L5.Oh,L5.Og,L6.Ph])|dsimp only[L5.Oj,L5.Oi,L5.Oh,L5.Og,L6.Ph])
local macro_rules| `(tactic| exists $ls,*)=>`(tactic| (simp(implicitDefEqProofs:=false) only[$[$ls:term],*];repeat (first|(walk_at "wp")|(simp(implicitDefEqProofs:=false) only[$[$ls:term],*]))))
local macro_rules| `(tactic| symm)=>`(tactic| repeat (walk_at "wp"))
variable{ns:List Int}{y:Nat}{l lot room am:Int}{F:eN}{ex:bZ->f9}{sh r h:bw}{cs:List Nat}
section
variable{K:Fg}{A:iS}{G:Gp}{R:lG}{mg:Str->Option bh}
open L7 L8 L9 Du Vj GU
abbrev bb(d:D)(a b:Int):Bool:=match d with
 |.int i=>decide (a<=i)&&decide (i<=b)
 |_=>ao
private theorem iG{d:D}{a b:Int}(hd:kn G d)(h:R (.bl (bb d a b)) G):bT K A [d,.int a,.int b] G R EX:=by
 refine⟨rfl,?_⟩;replace h:=aW.here h;show zM K A _ _ [aj d,aj (.int a),aj (.int b)] G;cases d
 case ref q=>exists zM,Z7 hd;exact h
 case ty n=>simp[kn,km]at hd
 all_goals exists zM
 case int i =>
  by_cases c:a<=i
  .simp only[c,decide_true,if_true];simpa[bb,c]using h
  .simp only[c,decide_false,kj,if_false];simpa[bb,c]using h
 all_goals exact h
abbrev cellAt(ns:List Int)(k:Nat):Int:=if k<ns.length then ns.getD k 0 else if ns=[]then 0 else
 let m:=(ns.getD (k%ns.length) 0*48271+k*104729)%2147483647
 (m*m+48271*k)%2147483629
def E1{a:bw}(hG:G a=aj (.fo (ns.map D.int))){k:Nat}(hk:k<1000)(h:R (.int (cellAt ns k)) G):dI K A [.ref a,.int (k:Int)] G R EX:=by
 refine⟨rfl,?_⟩;replace h:=aW.here h;show uW K A _ _ [aj (.ref a),aj (.int k),au] G;exists uW,dF (Dd hG);by_cases c:k<ns.length
 .rw[if_pos (decide_eq_true ⋯)];have e:df (ns.map D.int) (k:Int)=aj (.int (ns.getD k 0)):=by rw[Cn];simp[c,zu]
  rw[E2 (Dd hG) e];rw[show cellAt ns k=ns.getD k 0 by unfold cellAt;rw[if_pos c]]at h;exact h
 .rw[if_neg (by simp;omega)];exists yH,dF (Dd hG);by_cases hn:ns=[]
  .subst hn;rw[show cellAt [] k=0 by unfold cellAt;simp]at h;exact h
  .have h0:0<(ns.length:Int):=by cases ns with
    |nil=>exact absurd rfl hn
    |cons n r=>simp
   have e0:((ns.length:Int)==0)=ao:=by simp;exact hn
   rw[e0];exists yG,dF (Dd hG);have hm:k%ns.length<ns.length:=Nat.mod_lt _ ⋯
   have e2:df (ns.map D.int) ((k:Int)%(ns.length:Int))=aj (.int (ns.getD (k%ns.length) 0)):=by
    rw[←Int.natCast_emod,Cn];simp[hm,zu]
   rw[E2 (Dd hG) e2];exists yF
   have ec:cellAt ns k=((ns.getD (k%ns.length) 0*48271+(k:Int)*104729)%2147483647*((ns.getD (k%ns.length) 0*48271+(k:Int)*104729)%2147483647)+48271*(k:Int))%2147483629:=by
    unfold cellAt;rw[if_neg c,if_neg hn]
   rw[←ec];exact h
abbrev fN(d:D)(n a b:Int):Bool:=match d with
 |.tup [x,y]=>bb x 0 (n - 1)&&bb y a b
 |_=>ao
private theorem YF{d:D}{n a b:Int}(hd:kn G d)(hc:∀x y,d=.tup [x,y]->kn G x/\kn G y)(h:R (.bl (fN d n a b)) G):zP K A [d,.int n,.int a,.int b] G R EX:=by
 refine⟨rfl,?_⟩;replace h:=aW.here h;show xW K A _ _ [aj d,aj (.int n),aj (.int a),aj (.int b)] G;cases d
 case ref q=>exists xW,Us hd;exact h
 case ty n=>simp[kn,km]at hd
 case tup xs =>
  exists xW
  match xs,h,hc with
  |[],h,_=>exact h
  |[x],h,_=>exact h
  |x::y::z::r,h,_ =>
   have e:((((x::y::z::r).length:Nat):Int)==2)=ao:=by simp;omega
   simp only[e];exact h
  |[x,y],h,hc =>
   let⟨h1,h2⟩:=hc x y rfl;exists TJ;refine iG h1 ?_;symm;refine CJ (λe=>iG h2 ?_) λe=>?_
   .simpa[fN,e]using h
   .simpa[fN,e]using h
 all_goals exists xW
 all_goals exact h
def Jb{i j n a b:Int}:fN (.tup [.int i,.int j]) n a b=(decide (0<=i)&&decide (i<=n - 1)&&(decide (a<=j)&&decide (j<=b))):=rfl
abbrev se(d:D):Bool:=match d with
 |.tup [x,y,z]=>bb x 1 26&&(bb y 1 99&&bb z 1 20)
 |_=>ao
private theorem YE{d:D}(hd:kn G d)(hc:∀x y z,d=.tup [x,y,z]->kn G x/\kn G y/\kn G z)(h:R (.bl (se d)) G):zN K A [d] G R EX:=by
 refine⟨rfl,?_⟩;replace h:=aW.here h;show xV K A _ _ [aj d] G;cases d
 case ref q=>exists xV,Us hd;exact h
 case ty n=>simp[kn,km]at hd
 case tup xs =>
  exists xV
  match xs,h,hc with
  |[],h,_=>exact h
  |[x],h,_=>exact h
  |[x,y],h,_=>exact h
  |x::y::z::w::r,h,_ =>
   have e:((((x::y::z::w::r).length:Nat):Int)==3)=ao:=by simp;omega
   simp only[e];exact h
  |[x,y,z],h,hc =>
   let⟨h1,h2,h3⟩:=hc x y z rfl;exists TL;refine iG h1 ?_;symm;refine pM (λe=>?_) λe=>?_
   .simpa[se,e]using h
   .have e:bb x 1 26=ak:=by simpa using e
    refine iG h2 ?_;symm;refine pM (λe2=>?_) λe2=>?_
    .simpa[se,e2]using h
    .have e2:bb y 1 99=ak:=by simpa using e2
     exists TM;refine iG h3 ?_;simpa[se,e,e2]using h
 all_goals exists xV
 all_goals exact h
def alQ{d:D}(hd:kn G d)(hc:∀x y z,d=.tup [x,y,z]->kn G x/\kn G y/\kn G z)(h0:se d=ao->EX A.FW G)(h1:se d=ak->R .ag G):iB K A [d] G R EX:=by
 refine⟨rfl,?_⟩;show Ml K A _ _ [aj d] G;exists Ml;refine YE hd hc ?_;symm;exact pM (λe=>lH.here (h0 e)) λe=>aW.here (h1 (by simpa using e))
abbrev ej(x y g:Nat):D:=.tup [.int x,.int y,.int g]
structure uv(x y g:Nat):Prop where
 x0:1<=x
 x1:x<=26
 y0:1<=y
 y1:y<=99
 g0:1<=g
 g1:g<=20
def aFG{x g:Nat}(o:uv x y g):se (ej x y g)=ak:=by
 let⟨_,_,_,_,_,_⟩:=o;simp[se,ej,bb];omega
def Rh{x g:Nat}(o:uv x y g)(h:R .ag G):iB K A [ej x y g] G R EX :=
 alQ Je (λa b c e=>by cases e;exact⟨rfl,rfl,rfl⟩) (λe=>by rw[aFG o]at e;cases e) λ_=>h
def ZM{d:D}(hd:kn G d)(h0:bb d 0 999=ao->EX A.gZ G)(h1:bb d 0 999=ak->R .ag G):cC K A [d,.int 1000] G R EX:=by
 refine⟨rfl,?_⟩;show uF K A _ _ [aj d,aj (.int 1000)] G;exists uF;refine iG hd ?_;symm;exact pM (λe=>lH.here (h0 e)) λe=>aW.here (h1 (by simpa using e))
def alR{d:D}(hd:kn G d)(h:R (.bl (bb d 1 1000000)) G):sU K A [d] G R EX:=by
 refine⟨rfl,?_⟩;show Mj K A _ _ [aj d] G;exists Mj;exact iG hd (aW.here h)
def Uu{d:D}(hd:kn G d)(h0:bb d 1 1000000=ao->EX A.cT G)(h1:bb d 1 1000000=ak->R .ag G):bF K A [d] G R EX:=by
 refine⟨rfl,?_⟩;show wJ K A _ _ [aj d] G;exists wJ;refine alR hd ?_;symm;exact pM (λe=>lH.here (h0 e)) λe=>aW.here (h1 (by simpa using e))
def W0{x g:Nat}(o:uv x y g){d:D}(hd:kn G d)(hc:∀x y,d=.tup [x,y]->kn G x/\kn G y)(h:R (.bl (fN d x 1 y)) G):Gw K A [ej x y g,d] G R EX:=by
 refine⟨rfl,?_⟩;show Kg K A _ _ [aj (ej x y g),aj d] G;exists Kg;refine Rh o ?_;unfold ej;exists R6;exact YF hd hc (aW.here h)
def RX{x g:Nat}(o:uv x y g){d:D}(hd:kn G d)(hc:∀x y,d=.tup [x,y]->kn G x/\kn G y)(h0:fN d x 1 y=ao->EX A.kW G)(h1:fN d x 1 y=ak->R .ag G):bU K A [ej x y g,d] G R EX:=by
 refine⟨rfl,?_⟩;show LN K A _ _ [aj (ej x y g),aj d] G;exists LN;refine W0 o hd hc ?_;symm;exact pM (λe=>lH.here (h0 e)) λe=>aW.here (h1 (by simpa using e))
structure eW(x y:Nat)(a p:Int):Prop where
 a0:0<=a
 a1:a<x
 p0:1<=p
 p1:p<=y
def Kc(hl:0<=l/\l<=999)(h:R .ag G):cC K A [.int l,.int 1000] G R EX:=ZM rfl (λe=>by simp[bb]at e;omega) λ_=>h
def CZ(hl:1<=l/\l<=1000000)(h:R .ag G):bF K A [.int l] G R EX:=Uu rfl (λe=>by simp[bb]at e;omega) λ_=>h
def yP{x g:Nat}(o:uv x y g){a p:Int}(b:eW x y a p)(h:R .ag G):bU K A [ej x y g,.tup [.int a,.int p]] G R EX:=by
 let⟨b1,b2,b3,b4⟩:=b;refine RX o Je (λx y e=>by cases e;exact⟨rfl,rfl⟩) (λe=>?_) λ_=>h;rw[Jb]at e;simp at e;omega
def Ue{i v:Int}:∀{ps:List (Int×Int)},(aV ps i).isSome=ak->aV (ps.map λkv=>if kv.1=i then(kv.1,v)else kv) i=aj v
 |[],h=>by cases h
 |z::ps,h=>by
  rw[ji];by_cases c:z.1=i
  .rw[if_pos c];unfold aV;rw[if_pos c]
  .rw[if_neg c];unfold aV at h ⊢;rw[if_neg c]at h ⊢;exact Ue h
def Rg{i v:Int}:∀{ps:List (Int×Int)},aV ps i=au->aV (ps++[(i,v)]) i=aj v
 |[],_=>by show(if i=i then aj v else au)=_;rw[if_pos rfl]
 |z::ps,h=>by
  rw[List.cons_append];unfold aV at h ⊢;by_cases c:z.1=i
  .rw[if_pos c]at h;cases h
  .rw[if_neg c]at h ⊢;exact Rg h
private theorem Kb{i v:Int}:aV (eE ps i v) i=aj v:=by
 unfold eE;split
 ·rename_i h;exact Ue h
 .rename_i h;exact Rg (by simpa using h)
def aFH{ps:List (Int×Int)}{i v:Int}:(eE ps i v).length<=ps.length+1:=by
 unfold eE;split
 ·rw[fj];omega
 .rw[yp];exact dw _
def Ob{i v:Int}:eE ps i v≠[]:=λe=>by
 have:=Kb (ps:=ps) (i:=i) (v:=v);rw[e]at this;cases this
def Qi{st:bw}{a p more:Int}{ps:List (Int×Int)}(he:G e=aj (.cR ao (ps.map sH)))(hl:ps.length<10000)
  (h1:(aV ps lot).getD 0+more≠0->∀G',G' e=aj (.cR ao ((eE ps lot ((aV ps lot).getD 0+more)).map sH))->(∀q u,q≠e->G q=aj u->G' q=aj u)->F.nx [aj (.ref st),aj (.tup [.int a,.int p]),aj (.int lot),aj (.int more),aj (.ref e)] G')
  (h2:(aV ps lot).getD 0+more=0->∀G',G' e=aj (.cR ao ((bL (eE ps lot 0) lot).map sH))->(∀q u,q≠e->G q=aj u->G' q=aj u)->zQ K A ex F [aj (.ref st),aj (.tup [.int a,.int p]),aj (.int lot),aj (.int more),aj (.ref e)] G') :
  LM K A ex F [aj (.ref st),aj (.tup [.int a,.int p]),aj (.int lot),aj (.int more),aj (.ref e)] G:=by
 have big:100000<dj:=by decide
 exists LM,nZ he;rw[tX he xQ rfl]
 have eg:(aV (ps.map sH) (.inl (.inl lot))).getD (.int 0)=.int ((aV ps lot).getD 0):=by
  rw[zF];cases aV ps lot<;>rfl
 rw[eg];generalize hv:(aV ps lot).getD 0+more=v at h1 h2;symm;rw[hv,Pb he xQ rfl (by rw[fj];omega),Pd];generalize ft:aF G e _=G1;have e1:G1 e=aj (.cR ao ((eE ps lot v).map sH)):=by rw[←ft,aC]
 have k1:∀q u,q≠e->G q=aj u->G1 q=aj u:=λq u n z=>by rw[←ft,aH n];exact z
 have lp:=aFH (ps:=ps) (i:=lot) (v:=v);exists R5,nZ e1;rw[Pf e1 xQ rfl (by rw[zF,Kb];rfl)];symm;by_cases c:v=0
 .rw[if_pos (by rw[c];rfl)];rw[Pc e1 xQ rfl (by rw[zF,Kb];rfl),Xh];refine⟨by rw[nZ e1];trivial,?_⟩;refine h2 c (aF G1 e (.cR ao ((bL (eE ps lot v) lot).map sH))) (by rw[aC,c]) λq u n z=>?_;rw[aH n];exact k1 q u n z
 .rw[if_neg (by simpa using c)];exists zQ;rw[Pe e1];symm;rw[if_neg]
  .exact h1 c G1 e1 k1
  .simpa using Ob (ps:=ps) (i:=lot) (v:=v)
def aiE{st:bw}{M:List (List Key×bw)}{a p more:Int}(hs:G st=aj (.cR ak (M.map eQ)))(hl:M.length<10000)(hk:aV M (ky a p)=au)(hm:more≠0)
  (h:∀e G',G e=au->G' st=aj (.cR ak ((M++[(ky a p,e)]).map eQ))->G' e=aj (.cR ao ([(lot,more)].map sH))->(∀q u,q≠st->G q=aj u->G' q=aj u)->R .ag G'):iY K A [.ref st,.tup [.int a,.int p],.int lot,.int more] G R EX:=by
 have big:100000<dj:=by decide
 refine⟨rfl,?_⟩;have h':∀e G',G e=au->G' st=aj (.cR ak ((M++[(ky a p,e)]).map eQ))->G' e=aj (.cR ao ([(lot,more)].map sH))->(∀q u,q≠st->G q=aj u->G' q=aj u)->aW R .ag G':=λe G' a b c d=>aW.here (h e G' a b c d);clear h;show C8 K A _ _ [aj (.ref st),aj (.tup [.int a,.int p]),aj (.int lot),aj (.int more),au] G;exists C8,nZ hs;intro e he;have ne:e≠st:=λz=>by rw[z,hs]at he;cases he
 have Ef:aF G e (.cR ao []) st=aj (.cR ak (M.map eQ)):=eG hs he;rw[aFA Ef Be rfl (by rw[fj];omega) (by rw[Bd,hk];rfl)];generalize ft:aF (aF G e (.cR ao [])) st _=G1;have e1:G1 e=aj (.cR ao (([]:List (Int×Int)).map sH)):=by rw[←ft,aH ne,aC];rfl
 have s1:G1 st=aj (.cR ak ((M++[(ky a p,e)]).map eQ)):=by rw[←ft,aC,mq];rfl
 have k1:∀q u,q≠st->G q=aj u->G1 q=aj u:=λq u n z=>by
  rw[←ft,aH n];exact eG z he
 refine Qi e1 (by simp) (λ_ G2 e2 k2=>?_) λz=>?_
 .refine h' e G2 he (k2 _ _ (Ne.symm ne) s1) (by rw[e2];show aj (GO.cR ao ([(lot,0+more)].map sH))=_;rw[Int.zero_add]) λq u n z=>k2 q u (λw=>by rw[w,he]at z;cases z) (k1 q u n z)
 .exact absurd z (by show(0:Int)+more≠0;rw[Int.zero_add];exact hm)
def aiF{st d:bw}{M:List (List Key×bw)}{ps:List (Int×Int)}{a p more:Int}(hs:G st=aj (.cR ak (M.map eQ)))(hl:M.length<10000)(hk:aV M (ky a p)=aj d)(hd:G d=aj (.cR ao (ps.map sH)))(hp:ps.length<10000)
  (h1:(aV ps lot).getD 0+more≠0->∀G',G' d=aj (.cR ao ((eE ps lot ((aV ps lot).getD 0+more)).map sH))->(∀q u,q≠d->G q=aj u->G' q=aj u)->R .ag G')
  (h2:(aV ps lot).getD 0+more=0->bL (eE ps lot 0) lot=[]->∀G',G' st=aj (.cR ak ((bL M (ky a p)).map eQ))->(∀q u,q≠d->q≠st->G q=aj u->G' q=aj u)->R .ag G')
  (h3:(aV ps lot).getD 0+more=0->bL (eE ps lot 0) lot≠[]->∀G',G' d=aj (.cR ao ((bL (eE ps lot 0) lot).map sH))->(∀q u,q≠d->G q=aj u->G' q=aj u)->R .ag G'):iY K A [.ref st,.tup [.int a,.int p],.int lot,.int more] G R EX:=by
 have big:100000<dj:=by decide
 refine⟨rfl,?_⟩;show C8 K A _ _ [aj (.ref st),aj (.tup [.int a,.int p]),aj (.int lot),aj (.int more),au] G;exists C8,nZ hs;intro e he;have ne:st≠d:=λz=>by rw[z,hd]at hs;cases hs
 have Ef:aF G e (.cR ao []) st=aj (.cR ak (M.map eQ)):=eG hs he;have Wt:aF G e (.cR ao []) d=aj (.cR ao (ps.map sH)):=eG hd he;rw[aFB Ef Be rfl (by rw[fj];omega) (by rw[Bd,hk];rfl)];refine Qi Wt hp (λc G2 e2 k2=>aW.here (h1 c G2 e2 λq u n z=>k2 q u n (eG z he))) λc G2 e2 k2=>?_;exists zQ;rw[Pe e2];symm;by_cases c2:bL (eE ps lot 0) lot=[]
 .rw[c2,if_pos (by simp)];have s2:=k2 _ _ ne Ef;exists nZ s2;rw[Pc s2 Be rfl (by rw[Bd,hk];rfl),Xg];refine aW.here (h2 c c2 _ aC λq u n n2 z=>?_);rw[aH n2];exact k2 q u n (eG z he)
 .rw[if_neg]
  .exact aW.here (h3 c c2 G2 e2 λq u n z=>k2 q u n (eG z he))
  .have:=List.length_pos_iff.mpr c2;simp;omega
@[simp]def MX(A:iS)(x y g:Nat)(room:Int)(st:bw):GO:=.ins A.aB [("layout",ej x y g),("room",.int room),("stacks",.ref st)]
abbrev cY(M:List (List Key×bw))(c:bw->List (Int×Int))(k:List Key):List (Int×Int):=match aV M k with
 |some d=>c d
 |none=>[]
structure SH(A:iS)(sh:bw)(x y g:Nat)(room:Int)(st:bw)(M:List (List Key×bw))(c:bw->List (Int×Int))(G:Gp):Prop where
 o:uv x y g
 sh:G sh=aj (MX A x y g room st)
 st:G st=aj (.cR ak (M.map eQ))
 ins:∀z∈M,G z.2=aj (.cR ao ((c z.2).map sH))
def SH.le{x g:Nat}{st:bw}{M:List (List Key×bw)}{c:bw->List (Int×Int)}(s:SH A sh x y g room st M c G)(l:Le G G'):SH A sh x y g room st M c G':=⟨s.o,l _ _ s.sh,l _ _ s.st,λz hz=>l _ _ (s.ins z hz)⟩
def SH.get{F:D->Gp->Prop}{x g:Nat}{st:bw}{M:List (List Key×bw)}{c:bw->List (Int×Int)}(s:SH A sh x y g room st M c G){a p:Int}(h:∀d G',Le G G'->G' d=aj (.cR ao ((cY M c (ky a p)).map sH))->F (.ref d) G'):∀e,G e=au->lL (.ref st) (.tup [.int a,.int p]) (aF G e (.cR ao [])) λ_ _ kvs k=>F ((aV kvs k).getD (.ref e)) (aF G e (.cR ao [])):=by
 intro e he;have l:Le G (aF G e (.cR ao [])):=.new he;rw[tX (l _ _ s.st) Be rfl,Bd];unfold cY at h;cases hv:aV M (ky a p)with
 |none=>rw[hv]at h;exact h e _ l aC
 |some d=>rw[hv]at h;exact h d _ l (l _ _ (s.ins _ (XE hv)))
def Qh{x g:Nat}{st:bw}{M:List (List Key×bw)}{c:bw->List (Int×Int)}(s:SH A sh x y g room st M c G){a p:Int}(hl:0<=lot/\lot<=999)(b:eW x y a p)(h:∀G',Le G G'->R (.int ((aV (cY M c (ky a p)) lot).getD 0)) G'):dG K A [.ref sh,.int lot,.tup [.int a,.int p]] G R EX:=by
 refine⟨rfl,?_⟩;have h':∀G',Le G G'->aW R (.int ((aV (cY M c (ky a p)) lot).getD 0)) G':=λG' l=>aW.here (h G' l);clear h;show pG K A _ _ [aj (.ref sh),aj (.int lot),aj (.tup [.int a,.int p])] G;exists pG;refine Kc hl ?_;exists uO;rw[bG s.sh rfl];symm;refine yP s.o b ?_;exists uN;rw[bG s.sh rfl];exists nZ s.st;refine s.get (F:=λd G'=>wI d G'/\lL d (.int lot) G' λ_ _ kvs k=>aW R ((aV kvs k).getD (.int 0)) G') λd G1 l e1=>⟨by rw[nZ e1];trivial,?_⟩;rw[tX e1 xQ rfl,zF];have eg:((aV (cY M c (ky a p)) lot).map D.int).getD (.int 0)=.int ((aV (cY M c (ky a p)) lot).getD 0):=by cases aV (cY M c (ky a p)) lot<;>rfl
 rw[eg];exact h' G1 l
def WZ{x g:Nat}{st:bw}{M:List (List Key×bw)}{c:bw->List (Int×Int)}(s:SH A sh x y g room st M c G){a p:Int}(b:eW x y a p)(h:∀G',Le G G'->R (.int ((cY M c (ky a p)).map (·.2)).sum) G'):jA K A [.ref sh,.tup [.int a,.int p]] G R EX:=by
 refine⟨rfl,?_⟩;have h':∀G',Le G G'->aW R (.int ((cY M c (ky a p)).map (·.2)).sum) G':=λG' l=>aW.here (h G' l);clear h;show pF K A _ _ [aj (.ref sh),aj (.tup [.int a,.int p])] G;exists pF;rw[bG s.sh rfl];symm;refine yP s.o b ?_;exists uG;rw[bG s.sh rfl];exists nZ s.st;refine s.get (F:=λd G'=>sT d G' (aW R)) λd G1 l e1=>?_;exact aFC e1 (h' G1 l)
def alU{x g:Nat}{st:bw}{M:List (List Key×bw)}{c:bw->List (Int×Int)}(s:SH A sh x y g room st M c G){a p:Int}(b:eW x y a p)(h0:room<((cY M c (ky a p)).map (·.2)).sum+am->EX A.C9 G)(h1:((cY M c (ky a p)).map (·.2)).sum+am<=room->∀G',Le G G'->R .ag G'):eV K A [.ref sh,.tup [.int a,.int p],.int am] G R EX:=by
 refine⟨rfl,?_⟩;show lJ K A _ _ [aj (.ref sh),aj (.tup [.int a,.int p]),aj (.int am)] G;exists lJ,bW s.sh (m:="filled") rfl;refine WZ s b λG1 l=>?_;generalize ((cY M c (ky a p)).map (·.2)).sum=f at *;symm;rw[bG (l _ _ s.sh) rfl];symm;refine CJ (λe=>?_) λe=>?_
 .exact⟨G,l,h0 (by simpa using e)⟩
 .exact aW.here (h1 (by simpa using e) G1 l)
def Ud{x g:Nat}{st:bw}{M:List (List Key×bw)}{c:bw->List (Int×Int)}(s:SH A sh x y g room st M c G){a p:Int}(hl:0<=lot/\lot<=999)(b:eW x y a p)(h0:(aV (cY M c (ky a p)) lot).getD 0<am->EX A.gQ G)(h1:am<=(aV (cY M c (ky a p)) lot).getD 0->∀G',Le G G'->R .ag G'):cH K A [.ref sh,.int lot,.tup [.int a,.int p],.int am] G R EX:=by
 refine⟨rfl,?_⟩;show jN K A _ _ [aj (.ref sh),aj (.int lot),aj (.tup [.int a,.int p]),aj (.int am)] G;exists jN,bW s.sh (m:="amount") rfl;refine Qh s hl b λG1 l=>?_;generalize (aV (cY M c (ky a p)) lot).getD 0=f at *;symm;refine CJ (λe=>?_) λe=>?_
 .exact⟨G,l,h0 (by simpa using e)⟩
 .exact aW.here (h1 (by simpa using e) G1 l)
def aRL{x g:Nat}{st:bw}{M:List (List Key×bw)}{c:bw->List (Int×Int)}(s:SH A sh x y g room st M c G){a p:Int}(hl:0<=lot/\lot<=999)(b:eW x y a p)(ha:1<=am/\am<=1000000)(h0:room<((cY M c (ky a p)).map (·.2)).sum+am->EX A.C9 G)
  (h1:((cY M c (ky a p)).map (·.2)).sum+am<=room->∀(G1:Gp)(R':lG)(Dx:f9),Le G G1->(∀G2,R .ag G2->R' .ag G2)->iY K A [.ref st,.tup [.int a,.int p],.int lot,.int am] G1 R' Dx):jM K A [.ref sh,.int lot,.tup [.int a,.int p],.int am] G R EX:=by
 refine⟨rfl,?_⟩;show wK K A _ _ [aj (.ref sh),aj (.int lot),aj (.tup [.int a,.int p]),aj (.int am)] G;exists wK;refine Kc hl ?_;exists U9;rw[bG s.sh rfl];symm;refine yP s.o b ?_;exists Va;refine CZ ha ?_;exists Vb,bW s.sh (m:="need_room") rfl;refine alU s b (λe=>lH.here (h0 e)) λe G1 l=>?_;exists Vc;rw[bG (l _ _ s.sh) rfl];symm;exact h1 e G1 _ _ l λG2 z=>aW.here z
def aMM{x g:Nat}{st:bw}{M:List (List Key×bw)}{c:bw->List (Int×Int)}(s:SH A sh x y g room st M c G){a p:Int}(hl:0<=lot/\lot<=999)(b:eW x y a p)(ha:1<=am/\am<=1000000)(h0:(aV (cY M c (ky a p)) lot).getD 0<am->EX A.gQ G)
  (h1:am<=(aV (cY M c (ky a p)) lot).getD 0->∀(G1:Gp)(R':lG)(Dx:f9),Le G G1->(∀G2,R .ag G2->R' .ag G2)->iY K A [.ref st,.tup [.int a,.int p],.int lot,.int (-am)] G1 R' Dx):iV K A [.ref sh,.int lot,.tup [.int a,.int p],.int am] G R EX:=by
 refine⟨rfl,?_⟩;show uP K A _ _ [aj (.ref sh),aj (.int lot),aj (.tup [.int a,.int p]),aj (.int am)] G;exists uP;refine Kc hl ?_;exists yC;rw[bG s.sh rfl];symm;refine yP s.o b ?_;exists xZ;refine CZ ha ?_;exists xY,bW s.sh (m:="need_there") rfl;refine Ud s hl b (λe=>lH.here (h0 e)) λe G1 l=>?_;exists xX;rw[bG (l _ _ s.sh) rfl];symm;exact h1 e G1 _ _ l λG2 z=>aW.here z
abbrev bV(ps:List (Int×Int))(l:Int):Int:=(aV ps l).getD 0
abbrev w6(ps:List (Int×Int)):Int:=(ps.map (·.2)).sum
def vD:bV [] l=0:=rfl
def cU{q:Int×Int}:bV (q::ps) l=if q.1=l then q.2 else bV ps l:=by
 unfold bV;rw[aV];split<;>rfl
def oR{q:Int×Int}:w6 (q::ps)=q.2+w6 ps:=by simp[w6]
def aFI:w6 (ps++qs)=w6 ps+w6 qs:=by simp[w6]
def qZ{κ α:Type}[DecidableEq κ]{k:κ}:∀{l:List (κ×α)},aV l k=au↔k∉l.map (·.1)
 |[]=>by simp[aV]
 |z::r=>by
  rw[aV];by_cases c:z.1=k
  .simp[c]
  .have:¬ k=z.1:=λe=>c e.symm;simp[c,this,qZ (l:=r)]
def sN{κ α:Type}[DecidableEq κ]{z:κ×α}:∀{l:List (κ×α)},(l.map (·.1)).Nodup->z∈l->aV l z.1=aj z.2
 |[],_,h=>by cases h
 |y::r,nd,h=>by
  rw[ji,vp]at nd;rw[aV];rcases nu.mp h with e|h
  .rw[if_pos (by rw[e]),e]
  .rw[if_neg (λc=>nd.1 (by rw[c];exact jo.mpr ⟨z,h,rfl⟩))];exact sN nd.2 h
private theorem sZ{κ α:Type}[DecidableEq κ]{k:κ}{v:α}:∀{l:List (κ×α)},aV l k=aj v->(k,v)∈l
 |[],h=>by cases h
 |z::r,h=>by
  rw[aV]at h;split at h
  .rename_i c;cases h;rw[←c];exact .head _
  .exact nj _ (sZ h)
def map_put{ps:List (Int×Int)}{w:Int}(nd:(ps.map (·.1)).Nodup):(∀l',bV (ps.map λkv=>if kv.1=l then(kv.1,w)else kv) l'=if l'=l/\l∈ps.map (·.1)then w else bV ps l')/\w6 (ps.map λkv=>if kv.1=l then(kv.1,w)else kv)=w6 ps+(if l∈ps.map (·.1)then w - bV ps l else 0):=by
 induction ps with
 |nil=>exact⟨λl'=>by simp[vD],by simp[w6]⟩
 |cons q r ih =>
  rw[ji,vp]at nd;let⟨i1,i2⟩:=ih nd.2;by_cases c:q.1=l
  .have nl:l∉r.map (·.1):=c ▸ nd.1
   have er:(r.map λkv=>if kv.1=l then(kv.1,w)else kv)=r:=by
    conv=>rhs;rw[←List.map_id r]
    refine zx λz hz=>?_;rw[if_neg (λe=>nl (by rw[←e];exact jo.mpr ⟨z,hz,rfl⟩))];rfl
   refine⟨λl'=>?_,?_⟩
   .rw[ji,er,cU,cU,if_pos c];by_cases e:l'=l
    .subst e;simp[c]
    .have:¬ l=l':=λz=>e z.symm;simp[c,e,this]
   .rw[ji,er,oR,oR,if_pos c,cU,if_pos c];simp[c];omega
  .refine⟨λl'=>?_,?_⟩
   .rw[ji,if_neg c,cU,cU,i1];by_cases e:q.1=l'
    .subst e;simp[c]
    .have:¬ l=q.1:=λz=>c z.symm;rw[if_neg e,if_neg e];simp only[ji,nu,this,false_or]
   .rw[ji,if_neg c,oR,oR,i2,cU,if_neg c];have:¬ l=q.1:=λz=>c z.symm;simp only[ji,nu,this,false_or];omega
def Ka{ps:List (Int×Int)}(h:l∉ps.map (·.1)):bV ps l=0:=by unfold bV;rw[qZ.mpr h];rfl
private theorem JB{ps:List (Int×Int)}{w:Int}(nd:(ps.map (·.1)).Nodup):(∀l',bV (eE ps l w) l'=if l'=l then w else bV ps l')/\w6 (eE ps l w)=w6 ps+w - bV ps l/\((eE ps l w).map (·.1)).Nodup/\(∀q∈eE ps l w,q∈ps∨q=(l,w))/\(eE ps l w).length<=ps.length+1:=by
 have key:(aV ps l).isSome=ak↔l∈ps.map (·.1):=by
  cases q:aV ps l with
  |none=>simp only[Option.isSome_none,kj,false_iff];exact qZ.mp q
  |some v=>simp only[Option.isSome_some,true_iff];exact jo.mpr ⟨_,sZ q,rfl⟩
 unfold eE;split
 ·rename_i h;have hm:=key.mp h;let⟨m1,m2⟩:=map_put (w:=w) (l:=l) nd;refine⟨λl'=>by rw[m1];simp only[hm,and_true],by rw[m2,if_pos hm];omega,?_,λq hq=>?_,by simp⟩
  .have:(ps.map λkv=>if kv.1=l then(kv.1,w)else kv).map (·.1)=ps.map (·.1):=by
    rw[vo];refine zx λz _=>?_;simp only[Function.comp];split<;>rfl
   rw[this];exact nd
  .obtain⟨z,hz,rfl⟩:=jo.mp hq;split
   ·rename_i c;exact .inr (by rw[c])
   .exact .inl hz
 .rename_i h;have hm:l∉ps.map (·.1):=λz=>h (key.mpr z);refine⟨λl'=>?_,by rw[aFI,Ka hm];simp[w6],?_,λq hq=>?_,by simp⟩
  .have:∀qs:List (Int×Int),l∉qs.map (·.1)->bV (qs++[(l,w)]) l'=if l'=l then w else bV qs l':=by
    intro qs
    induction qs with
    |nil =>
     intro _;rw[List.nil_append,cU];by_cases e:l'=l
     .subst e;simp
     .have:¬ l=l':=λz=>e z.symm;simp[e,this]
    |cons q r ih =>
     intro hn;simp only[ji,nu,not_or]at hn;rw[List.cons_append,cU,cU,ih hn.2];by_cases e:q.1=l'
     .subst e;have:¬ q.1=l:=λz=>hn.1 z.symm;simp[this]
     .simp[e]
   exact this ps hm
  .rw[mq,zj];refine⟨nd,by simp,λa ha b hb e=>?_⟩;simp at hb;exact hm (by rw[←hb,←e];exact ha)
  .rcases qx.mp hq with hq|hq
   .exact .inl hq
   .exact .inr (qb.mp hq)
def Qg{ps:List (Int×Int)}(nd:(ps.map (·.1)).Nodup):(∀l',bV (bL ps l) l'=if l'=l then 0 else bV ps l')/\w6 (bL ps l)=w6 ps - bV ps l/\((bL ps l).map (·.1)).Nodup/\(∀q∈bL ps l,q∈ps/\q.1≠l)/\(bL ps l).length<=ps.length:=by
 have sub:∀q∈bL ps l,q∈ps/\q.1≠l:=λq hq=>by
  let⟨a,b⟩:=zq.mp hq;exact⟨a,by simpa using b⟩
 have both:(∀l',bV (bL ps l) l'=if l'=l then 0 else bV ps l')/\w6 (bL ps l)=w6 ps - bV ps l:=by
  clear sub
  induction ps with
  |nil=>exact⟨λl'=>by simp[bL,vD],by simp[bL,w6,vD]⟩
  |cons q r ih =>
   rw[ji,vp]at nd;let⟨i1,i2⟩:=ih nd.2;by_cases c:q.1=l
   .have e:bL (q::r) l=bL r l:=by simp[bL,c]
    have nl:l∉r.map (·.1):=c ▸ nd.1;refine⟨λl'=>?_,?_⟩
    .rw[e,i1,cU];by_cases z:l'=l
     .simp[z]
     .have:¬ l=l':=λw=>z w.symm;simp[z,c,this]
    .rw[e,i2,oR,cU,if_pos c,Ka nl];omega
   .have e:bL (q::r) l=q::bL r l:=by simp[bL,c]
    refine⟨λl'=>?_,?_⟩
    .rw[e,cU,cU,i1];by_cases z:q.1=l'
     .subst z;simp[c]
     .simp[z]
    .rw[e,oR,oR,i2,cU,if_neg c];omega
 refine⟨both.1,both.2,?_,sub,LX _ _⟩;exact nd.sublist ((Gv).map _)
def Qf(h:∀q∈ps,1<=q.2):0<=bV ps l:=by
 unfold bV;cases q:aV ps l with
 |none=>exact wu _
 |some v=>have:=h _ (sZ q);simp only at this;show 0<=v;omega
structure Hb(room:Int)(ps:List (Int×Int)):Prop where
 ne:ps≠[]
 nd:(ps.map (·.1)).Nodup
 pos:∀q∈ps,1<=q.2
 sm:w6 ps<=room
structure fF(room:Int)(n:Nat)(M:List (List Key×bw))(c:bw->List (Int×Int)):Prop where
 kn:(M.map (·.1)).Nodup
 an:(M.map (·.2)).Nodup
 bn:∀z∈M,Hb room (c z.2)/\(c z.2).length<=n
 ks:∀z∈M,∃a p:Int,z.1=ky a p
 len:M.length<=n
def fF.nil{c:bw->List (Int×Int)}:fF room 0 [] c:=⟨by simp,by simp,(λz hz=>by cases hz),(λz hz=>by cases hz),by simp⟩
def fF.up{n m:Nat}{M:List (List Key×bw)}{c:bw->List (Int×Int)}(h:fF room n M c)(l:n<=m):fF room m M c:=⟨h.kn,h.an,λz hz=>⟨(h.bn z hz).1,lq (h.bn z hz).2 l⟩,h.ks,lq h.len l⟩
abbrev setC(c:bw->List (Int×Int))(d:bw)(ps:List (Int×Int)):bw->List (Int×Int):=λq=>if q=d then ps else c q
def pP{c:bw->List (Int×Int)}{d:bw}:setC c d ps d=ps:=if_pos rfl
def yb{c:bw->List (Int×Int)}{d:bw}(h:q≠d):setC c d ps q=c q:=if_neg h
variable{sh:bw}{x y g:Nat}{room:Int}{st:bw}{M:List (List Key×bw)}{c:bw->List (Int×Int)}
def O2{k:List Key}(n:k≠k'):∀{M:List (List Key×bw)},aV (M++[(k',e)]) k=aV M k
 |[]=>by
  show(if k'=k then aj e else au)=au;rw[if_neg (Ne.symm n)]
 |z::r=>by
  rw[List.cons_append,aV,aV,O2 n]
def J9{k:List Key}(n:k≠k'):∀{M:List (List Key×bw)},aV (bL M k') k=aV M k
 |[]=>rfl
 |z::r=>by
  by_cases e:z.1=k'
  .have er:bL (z::r) k'=bL r k':=by simp[bL,e]
   rw[er,J9 n,aV,if_neg (by rw[e];exact Ne.symm n)]
  .have er:bL (z::r) k'=z::bL r k':=by simp[bL,e]
   rw[er,aV,aV,J9 n]
def JA{z y:List Key×bw}:∀{M:List (List Key×bw)},(M.map (·.2)).Nodup->z∈M->y∈M->z.2=y.2->z=y
 |[],_,h,_,_=>by cases h
 |w::r,nd,h1,h2,e=>by
  rw[ji,vp]at nd;rcases nu.mp h1 with a|a<;>rcases nu.mp h2 with b|b
  .rw[a,b]
  .exact absurd (by rw[←a,e];exact jo.mpr ⟨_,b,rfl⟩) nd.1
  .exact absurd (by rw[←b,←e];exact jo.mpr ⟨_,a,rfl⟩) nd.1
  .exact JA nd.2 a b e
abbrev Kp(st:bw)(M M':List (List Key×bw))(G G':Gp):Prop:=(∀q u,q≠st->q∉M.map (·.2)->G q=aj u->G' q=aj u)/\∀q∈M'.map (·.2),q∈M.map (·.2)∨G q=au
def Kp.le{st:bw}{M M1:List (List Key×bw)}(l:Le G0 G)(h:Kp st M M1 G G1):Kp st M M1 G0 G1:=⟨λq u n1 n2 e=>h.1 q u n1 n2 (l _ _ e),λq hq=>by
 rcases h.2 q hq with z|z
 .exact .inl z
 .right;cases e:G0 q with
  |none=>rfl
  |some u=>rw[l _ _ e]at z;cases z⟩
def AV{M:List (List Key×bw)}{c:bw->List (Int×Int)}{z:List Key×bw}(kn:(M.map (·.1)).Nodup)(h:z∈M):cY M c z.1=c z.2:=by
 unfold cY;rw[sN kn h]
def Fj{n:Nat}{M:List (List Key×bw)}{c:bw->List (Int×Int)}{k:List Key}(hr:0<=room)(v:fF room n M c):((cY M c k).map (·.1)).Nodup/\(∀q∈cY M c k,1<=q.2)/\w6 (cY M c k)<=room/\(cY M c k).length<=n:=by
 unfold cY;cases e:aV M k with
 |none=>exact⟨List.nodup_nil,(λq hq=>by cases hq),hr,qm _⟩
 |some d =>
  let⟨b,l⟩:=v.bn _ (sZ e);exact⟨b.nd,b.pos,b.sm,l⟩
def aMN(v:Int):bV [(lot,v)] l=if l=lot then v else 0:=by
 rw[cU];by_cases e:l=lot
 .rw[if_pos e.symm,if_pos e]
 .rw[if_neg (Ne.symm e),if_neg e];rfl
abbrev qq(M:List (List Key×bw))(c:bw->List (Int×Int))(M':List (List Key×bw))(c':bw->List (Int×Int))(k:List Key)(lot more:Int):Prop:=(∀l,bV (cY M' c' k) l=bV (cY M c k) l+if l=lot then more else 0)/\w6 (cY M' c' k)=w6 (cY M c k)+more
def O1(s:SH A sh x y g room st M c G){n:Nat}(v:fF room n M c){k:List Key}{d:bw}(hk:aV M k=aj d){more:Int}{ps:List (Int×Int)}(b:Hb room ps)(hl:ps.length<=n+1)(hv:∀l,bV ps l=bV (c d) l+if l=lot then more else 0)(gz:w6 ps=w6 (c d)+more)(e:G' d=aj (.cR ao (ps.map sH)))(z0:∀q u,q≠d->G q=aj u->G' q=aj u) :
  SH A sh x y g room st M (setC c d ps) G'/\fF room (n+1) M (setC c d ps)/\qq M c M (setC c d ps) k lot more/\(∀k',k'≠k->cY M (setC c d ps) k'=cY M c k')/\Kp st M M G G':=by
 have hm:=sZ hk;have hd:=s.ins _ hm;have ne:sh≠d:=λz=>by have:=s.sh;rw[z,hd]at this;cases this
 have VV:st≠d:=λz=>by have:=s.st;rw[z,hd]at this;cases this
 refine⟨⟨s.o,z0 _ _ ne s.sh,z0 _ _ VV s.st,λz hz=>?_⟩,⟨v.kn,v.an,λz hz=>?_,v.ks,C1 v.len⟩,?_,λk' n'=>?_,λq u n1 n2 w=>z0 q u (λz=>n2 (by rw[z];exact jo.mpr ⟨_,hm,rfl⟩)) w,λq hq=>.inl hq⟩
 .by_cases w:z.2=d
  .rw[w,pP];exact e
  .rw[yb w];exact z0 _ _ w (s.ins z hz)
 .by_cases w:z.2=d
  .rw[w,pP];exact⟨b,hl⟩
  .rw[yb w];exact⟨(v.bn z hz).1,C1 (v.bn z hz).2⟩
 .have e1:cY M c k=c d:=by unfold cY;rw[hk]
  have e2:cY M (setC c d ps) k=ps:=by unfold cY;rw[hk];exact pP
  unfold qq;rw[e1,e2];exact⟨hv,gz⟩
 .unfold cY;cases e':aV M k' with
  |none=>rfl
  |some d' =>
   have:d'≠d:=λw=>n' (by have:=JA v.an (sZ e') hm w;exact congrArg (·.1) this);exact yb this
def SY(s:SH A sh x y g room st M c G){n:Nat}(v:fF room n M c)(hn:n<9000){a p more:Int}(hm:more≠0)(h0:0<=bV (cY M c (ky a p)) lot+more)(hr:w6 (cY M c (ky a p))+more<=room)
  (h:∀M' c' G',SH A sh x y g room st M' c' G'->fF room (n+1) M' c'->qq M c M' c' (ky a p) lot more->(∀k',k'≠ky a p->cY M' c' k'=cY M c k')->Kp st M M' G G'->R .ag G'):iY K A [.ref st,.tup [.int a,.int p],.int lot,.int more] G R EX:=by
 have Nh:sh≠st:=λz=>by have:=s.sh;rw[z,s.st]at this;cases this
 have i8:∀z∈M,z.2≠st:=λz hz w=>by have:=s.ins z hz;rw[w,s.st]at this;cases this
 cases hk:aV M (ky a p)with
 |none =>
  have eh:cY M c (ky a p)=[]:=by unfold cY;rw[hk]
  rw[eh]at h0 hr;have h0':0<=more:=by simpa[vD]using h0
  have hr':more<=room:=by simpa[w6]using hr
  refine aiE s.st (by have:=v.len;omega) hk hm λe G' he s2 d2 k2=>?_;have D2:∀z∈M,z.2≠e:=λz hz w=>by have:=s.ins z hz;rw[w,he]at this;cases this
  have nm:e∉M.map (·.2):=λw=>by let⟨z,hz,w⟩:=jo.mp w;exact D2 z hz w
  refine h (M++[(ky a p,e)]) (setC c e [(lot,more)]) G' ⟨s.o,k2 _ _ Nh s.sh,s2,λz hz=>?_⟩ ⟨?_,?_,λz hz=>?_,λz hz=>?_,?_⟩ ?_ (λk' n'=>?_) ⟨λq u n1 _ w=>k2 q u n1 w,λq hq=>?_⟩
  .rcases qx.mp hz with hz|hz
   .rw[yb (D2 z hz)];exact k2 _ _ (i8 z hz) (s.ins z hz)
   .cases qb.mp hz;rw[show setC c e [(lot,more)] (ky a p,e).2=[(lot,more)]from pP];exact d2
  .rw[mq,zj];refine⟨v.kn,by simp,λu hu w hw z=>?_⟩;simp at hw;exact qZ.mp hk (by rw[←hw,←z];exact hu)
  .rw[mq,zj];refine⟨v.an,by simp,λu hu w hw z=>?_⟩;simp at hw;exact nm (by rw[←hw,←z];exact hu)
  .rcases qx.mp hz with hz|hz
   .rw[yb (D2 z hz)];exact⟨(v.bn z hz).1,C1 (v.bn z hz).2⟩
   .cases qb.mp hz;rw[show setC c e [(lot,more)] (ky a p,e).2=[(lot,more)]from pP];refine⟨⟨by simp,by simp,λq hq=>?_,?_⟩,by simp⟩
    .cases qb.mp hq;show 1<=more;omega
    .rw[oR];show more+0<=room;omega
  .rcases qx.mp hz with hz|hz
   .exact v.ks z hz
   .cases qb.mp hz;exact⟨a,p,rfl⟩
  .have:=v.len;rw[yp];exact Nat.add_le_add_right this 1
  .have e1:aV (M++[(ky a p,e)]) (ky a p)=aj e:=sN (z:=(ky a p,e)) (by
    rw[mq,zj];refine⟨v.kn,by simp,λu hu w hw z=>?_⟩;simp at hw;exact qZ.mp hk (by rw[←hw,←z];exact hu)) (by simp)
   have e2:cY (M++[(ky a p,e)]) (setC c e [(lot,more)]) (ky a p)=[(lot,more)]:=by unfold cY;rw[e1];exact pP
   unfold qq;rw[e2,eh];refine⟨λl=>?_,?_⟩
   .rw[aMN,vD];omega
   .simp[w6]
  .unfold cY;rw[O2 n'];cases e':aV M k' with
   |none=>rfl
   |some d'=>exact yb (D2 _ (sZ e'))
  .rw[mq]at hq;rcases qx.mp hq with hq|hq
   .exact .inl hq
   .simp at hq;rw[hq];exact .inr he
 |some d =>
  have Ej:=sZ hk;have hd:=s.ins _ Ej;obtain⟨b,bl⟩:Hb room (c d)/\(c d).length<=n:=v.bn _ Ej;have eh:cY M c (ky a p)=c d:=by unfold cY;rw[hk]
  rw[eh]at h0 hr;have N9:(c d).length<=n:=bl;refine aiF s.st (by have:=v.len;omega) hk hd (by show(c d).length<10000;omega) (λw G' e k2=>?_) (λw wd G' e k2=>?_) λw wd G' e k2=>?_
  .obtain⟨q1,q2,q3,q4,q5⟩:=JB (l:=lot) (w:=(aV (c d) lot).getD 0+more) b.nd;have ev:(aV (c d) lot).getD 0=bV (c d) lot:=rfl;have e:G' d=aj (.cR ao ((eE (c d) lot ((aV (c d) lot).getD 0+more)).map sH)):=e;rw[ev]at w e q1 q2 q3 q4 q5
   have hp:∀q∈eE (c d) lot (bV (c d) lot+more),1<=q.2:=λq hq=>by
    rcases q4 q hq with z|z
    .exact b.pos q z
    .rw[z];show 1<=bV (c d) lot+more;omega
   have hv:∀l,bV (eE (c d) lot (bV (c d) lot+more)) l=bV (c d) l+if l=lot then more else 0:=λl=>by
    rw[q1];by_cases z:l=lot
    .rw[if_pos z,if_pos z,z]
    .rw[if_neg z,if_neg z];omega
   let⟨z1,z2,z3,z4,z5⟩:=O1 s v hk (lot:=lot) (more:=more) ⟨Ob,q3,hp,by rw[q2];omega⟩ (lq q5 (Nat.succ_le_succ N9)) hv (by rw[q2];omega) e k2;exact h _ _ G' z1 z2 z3 z4 z5
  .obtain⟨q1,q2,q3,q4,q5⟩:=JB (l:=lot) (w:=0) b.nd;let⟨t1,t2,t3,t4,t5⟩:=Qg (l:=lot) q3;have Vr:bL (eE (c d) lot 0) lot=[]:=wd;rw[Vr]at t1 t2;have w':bV (c d) lot+more=0:=w
   have hv:∀l,bV (c d) l=-(if l=lot then more else 0:Int):=λl=>by
    have:=t1 l;rw[q1,vD]at this;by_cases z:l=lot
    .rw[if_pos z,z];omega
    .rw[if_neg z,if_neg z]at this;rw[if_neg z];omega
   have sub:∀z∈bL M (ky a p),z∈M:=λz hz=>(zq.mp hz).1;have sl:List.Sublist (bL M (ky a p)) M:=Gv;refine h (bL M (ky a p)) c G' ⟨s.o,k2 _ _ (λz=>by have:=s.sh;rw[z,hd]at this;cases this) Nh s.sh,e,λz hz=>?_⟩ ⟨v.kn.sublist (sl.map _),v.an.sublist (sl.map _),λz hz=>⟨(v.bn z (sub z hz)).1,C1 (v.bn z (sub z hz)).2⟩,λz hz=>v.ks z (sub z hz),C1 (lq sl.length_le v.len)⟩ ?_ (λk' n'=>?_) ⟨λq u n1 n2 w=>k2 q u (λz=>n2 (by rw[z];exact jo.mpr ⟨_,Ej,rfl⟩)) n1 w,λq hq=>?_⟩
   .refine k2 _ _ (λw=>?_) (i8 z (sub z hz)) (s.ins z (sub z hz));have:=JA v.an (sub z hz) Ej w;have h3:=(zq.mp hz).2;rw[this]at h3;simp at h3
   .have e1:aV (bL M (ky a p)) (ky a p)=au:=qZ.mpr λw=>by
     let⟨z,hz,w⟩:=jo.mp w;have h3:=(zq.mp hz).2;rw[w]at h3;simp at h3
    have e2:cY (bL M (ky a p)) c (ky a p)=[]:=by unfold cY;rw[e1]
    unfold qq;rw[e2,eh];refine⟨λl=>?_,?_⟩
    .rw[hv,vD];omega
    .have:w6 []=0:=rfl;rw[q2,q1,if_pos rfl]at t2;omega
   .unfold cY;rw[J9 n']
   .obtain⟨z,hz,rfl⟩:=jo.mp hq;exact .inl (jo.mpr ⟨z,sub z hz,rfl⟩)
  .obtain⟨q1,q2,q3,q4,q5⟩:=JB (l:=lot) (w:=0) b.nd;let⟨t1,t2,t3,t4,t5⟩:=Qg (l:=lot) q3;have w':bV (c d) lot+more=0:=w;have v0:=Qf (l:=lot) b.pos
   have hp:∀q∈bL (eE (c d) lot 0) lot,1<=q.2:=λq hq=>by
    let⟨m1,m2⟩:=t4 q hq;rcases q4 q m1 with z|z
    .exact b.pos q z
    .exact absurd (by rw[z]) m2
   have hv:∀l,bV (bL (eE (c d) lot 0) lot) l=bV (c d) l+if l=lot then more else 0:=λl=>by
    rw[t1,q1];by_cases z:l=lot
    .rw[if_pos z,if_pos z,z];omega
    .rw[if_neg z,if_neg z,if_neg z];omega
   let⟨z1,z2,z3,z4,z5⟩:=O1 s v hk (lot:=lot) (more:=more) ⟨wd,t3,hp,by rw[t2,q2,q1,if_pos rfl];omega⟩ (lq t5 (lq q5 (Nat.succ_le_succ N9))) hv (by rw[t2,q2,q1,if_pos rfl];omega) e k2;exact h _ _ G' z1 z2 z3 z4 z5
def O0{κ α:Type}[DecidableEq κ]{k:κ}{v:α}{l:List (κ×α)}(h:k∉l.map (·.1)):eE l k v=l++[(k,v)]:=by
 unfold eE;rw[qZ.mpr h];rfl
def Rf:∀qs:List (Int×Int),AW (qs.map c6)=aj (qs.map λq=>(.inl q.1,.int q.2))
 |[]=>rfl
 |q::r=>by
  rw[ji,AW,Rf r];rfl
def fold_all:∀(qs ds:List (Int×Int)),((ds++qs).map (·.1)).Nodup->Cp (ds.map sH) (qs.map λq=>(.inl q.1,.int q.2))=(ds++qs).map sH
 |[],ds,_=>by rw[Bk];rfl
 |q::r,ds,nd=>by
  have hn:q.1∉ds.map (·.1):=λh=>by
   rw[mq,zj]at nd;exact nd.2.2 q.1 h q.1 (by simp) rfl
  show Cp (eE (ds.map sH) (.inl (.inl q.1)) (.int q.2)) (r.map λq=>(.inl q.1,.int q.2))=_;rw[Pd,O0 hn,fold_all r (ds++[(q.1,q.2)]) (by rw[zp];exact nd),zp];rfl
def YD{qs:List (Int×Int)}(h:cF G r=aj (qs.map c6))(nd:(qs.map (·.1)).Nodup):z8 [.ref r] G R=∀e,G e=au->R (.ref e) (aF G e (.cR ao (qs.map sH))):=by
 unfold L2.z8;simp only[h,Rf];rw[show Cp [] (qs.map λq=>(.inl q.1,.int q.2))=qs.map sH from fold_all qs [] nd]
@[simp]def kq(q:Int×Int):List Key:=ky q.1 q.2
def OZ:∀{M:List (List Key×bw)},(∀z∈M,∃a p:Int,z.1=ky a p)->∃ps:List (Int×Int),M.map (·.1)=ps.map kq
 |[],_=>⟨[],rfl⟩
 |z::r,h=>by
  let⟨a,p,e⟩:=h z (.head _);let⟨ps,e2⟩:=OZ (M:=r) λy hy=>h y (.tail _ hy);exact⟨(a,p)::ps,by rw[ji,ji,e,e2]⟩
def sort_keys{st:bw}{M:List (List Key×bw)}(h:G st=aj (.cR ak (M.map eQ)))(kn:(M.map (·.1)).Nodup)(ks:∀z∈M,∃a p:Int,z.1=ky a p)(hl:M.length<128)(k:∀(qs:List (Int×Int))(r:bw),(qs.map kq).Perm (M.map (·.1))->jZ qs->G r=au->R (.ref r) (aF G r (.lst (qs.map c6)))):z7 [.ref st] G R:=by
 let⟨ps,e⟩:=OZ ks;have nd:ps.Nodup:=List.Pairwise.of_map kq (λa b h e=>h (by rw[e])) (e ▸ kn);have len:ps.length=M.length:=by have:=congrArg List.length e;simpa using this.symm
 refine Xd (ps:=ps) h ?_ nd ⋯ λqs p1 p2 r hr=>k qs r (e ▸ p1.map kq) p2 hr;rw[vo,show(λq:DK×D=>nv q.1)∘eQ=(λks=>nv (.inr ks))∘(λz:List Key×bw=>z.1)from rfl,←vo,e,vo];rfl
structure GS(M:List (List Key×bw))(c:bw->List (Int×Int))(G:Gp)(t:bw)(qs:List (Int×Int))(N:List (List Key×bw))(c':bw->List (Int×Int))(G':Gp):Prop where
 t0:G t=au
 tt:G' t=aj (.cR ak (N.map eQ))
 ri:jZ qs
 kq:N.map (·.1)=qs.map kq
 ke:(N.map (·.1)).Perm (M.map (·.1))
 ins:∀z∈N,G' z.2=aj (.cR ao ((c' z.2).map sH))/\(c' z.2).Perm (cY M c z.1)/\jZ (c' z.2)/\G z.2=au
def aFK(s:SH A sh x y g room st M c G){n:Nat}(v:fF room n M c)(hn:n<128)(h:∀t qs N c' G',Le G G'->GS M c G t qs N c' G'->R (.ref t) G'):kZ K A [.ref sh] G R EX:=by
 have big:100000<dj:=by decide
 refine⟨rfl,?_⟩;show rF K A _ _ [aj (.ref sh)] G;exists rF;rw[bG s.sh rfl];symm;refine⟨rfl,?_⟩;show LK K A _ _ [aj (.ref st),au,au] G;exists LK;intro t ht;have l1:Le G (aF G t (.cR ak [])):=.new ht;exists Uh;refine sort_keys (l1 _ _ s.st) v.kn v.ks (Gr v.len hn) λqs r pq ri hr=>?_;have l2:Le (aF G t (.cR ak [])) (aF (aF G t (.cR ak [])) r (.lst (qs.map c6))):=.new hr;have nr:r≠t:=λz=>by rw[z]at hr;rw[aC]at hr;cases hr
 have qn:(qs.map kq).Nodup:=pq.nodup_iff.mpr v.kn;rw[YN qP];refine Xi (λk ρ G'=>cF G' r=aj (qs.map c6)/\∃r2 N c',ρ=[aj (.ref st),aj (.ref t),r2]/\Le G G'/\G' t=aj (.cR ak (N.map eQ))/\N.map (·.1)=(qs.take k).map kq/\∀z∈N,G' z.2=aj (.cR ao ((c' z.2).map sH))/\(c' z.2).Perm (cY M c z.1)/\jZ (c' z.2)/\G z.2=au) ⟨qP,_,[],c,rfl,l1.trans l2,l2 _ _ aC,rfl,λz hz=>nomatch hz⟩ (λk ρ G' h=>h.1) (λk d' ρ G' iq hh=>?_) λρ G' hh=>?_
 .obtain⟨hl,r2,N,c',rfl,l3,tt,ek,hi⟩:=hh;let⟨q,eq,rfl⟩:=Jd iq;let⟨a,p⟩:=q;have hm:kq (a,p)∈M.map (·.1):=pq.mem_iff.mp (jo.mpr ⟨_,qg eq,rfl⟩);let⟨⟨kk,d⟩,hz,e1⟩:=jo.mp hm;have e1:kk=ky a p:=e1;subst e1;have vd:=sN v.kn hz;have V6:=hz;have hd:=s.ins _ hz;obtain⟨bn,bl⟩:Hb room (c d)/\(c d).length<=n:=v.bn _ hz;exists UD;rw[show c6 (a,p)=.tup [.int a,.int p]from rfl];rw[Pf (l3 _ _ s.st) Be rfl (by rw[Bd,vd];rfl)];symm;refine Xe (ps:=c d) (l3 _ _ hd) (Gr bl hn) λps p1 p2 r3 h3=>?_;symm;have lr:Le G' (aF G' r3 (.lst (ps.map c6))):=.new h3;refine(show z8 [.ref r3] (aF G' r3 (.lst (ps.map c6))) _ from ?_);rw[YD qP ((p1.map _).nodup_iff.mpr bn.nd)];intro e he;have le:Le _ (aF (aF G' r3 (.lst (ps.map c6))) e (.cR ao (ps.map sH))):=.new he;symm;have t3:=le _ _ (lr _ _ tt);have ne:e≠t:=λz=>by rw[z]at he;rw[lr _ _ tt]at he;cases he
  have nN:ky a p∉N.map (·.1):=by
   rw[ek];intro w;have Nj:((qs.take (k+1)).map kq).Nodup:=qn.sublist ((List.take_sublist _ _).map _);rw[Gb,eq,mq,zj]at Nj;exact Nj.2.2 _ w _ (by simp) rfl
  have lN:N.length<=k:=by
   have:=congrArg List.length ek;simp at this;omega
  have lk:k<128:=by
   have h1:k<qs.length:=(jl.mp eq).1;have h2:=pq.length_eq;simp at h2;have:=v.len;omega
  rw[Pb t3 Be rfl (by rw[fj];omega)]
  have ep:eE (N.map eQ) (.inr (ky a p)) (.ref e)=(N++[(ky a p,e)]).map eQ:=by
   rw[O0,mq]
   .rfl
   .intro w;let⟨z,hz,e2⟩:=jo.mp w;let⟨y,hy,rfl⟩:=jo.mp hz;exact nN (jo.mpr ⟨y,hy,Sum.inr.inj e2⟩)
  rw[ep]
  have ge:∀z∈N,z.2≠e:=λz hz w=>by
   have:=lr _ _ (hi z hz).1;rw[w,he]at this;cases this
  have gt:∀z∈N,z.2≠t:=λz hz w=>by
   have:=(hi z hz).1;rw[w,tt]at this;cases this
  refine⟨?_,_,N++[(ky a p,e)],setC c' e ps,rfl,λq u z=>?_,aC,?_,λz hz=>?_⟩
  .have z:=CG le (CG lr hl);unfold L2.cF at z ⊢;rw[aH nr];exact z
  .have nq:q≠t:=λw=>by rw[w,ht]at z;cases z
   rw[aH nq];exact le _ _ (lr _ _ (l3 _ _ z))
  .rw[mq,ek,Gb,eq,mq];rfl
  .rcases qx.mp hz with hz|hz
   .obtain⟨i1,i2,i4,i3⟩:=hi z hz;rw[yb (ge z hz),aH (gt z hz)];exact⟨le _ _ (lr _ _ i1),i2,i4,i3⟩
   .cases qb.mp hz;rw[show setC c' e ps (ky a p,e).2=ps from pP,show(ky a p,e).2=e from rfl,aH ne];refine⟨aC,?_,p2,?_⟩
    .rw[show cY M c (ky a p,e).1=c d from AV (z:=(ky a p,d)) v.kn V6];exact p1
    .cases ge:G e with
     |none=>rfl
     |some u =>
      have:=lr _ _ (l3 _ _ ge);rw[he]at this;cases this
 .obtain⟨_,r2,N,c',rfl,l,tt,ek,hi⟩:=hh;exists Ui;refine aW.here (aW.here (h t qs N c' G' l ⟨ht,tt,ri,?_,?_,hi⟩))
  .rw[ek,fj,Bl]
  .rw[ek,fj,Bl];exact pq
def Oa{a b:Int×Int}(h:kq a=kq b):a=b:=by
 have:a.1=b.1/\a.2=b.2:=by simpa[L9.ky]using h
 exact Prod.ext this.1 this.2
def le_none(l:Le G G')(h:G' r=au):G r=au:=by
 cases e:G r with
 |none=>rfl
 |some u=>rw[l _ _ e]at h;cases h
def Fi{o:GO}(l:Le G G')(h:G p=au):Le G (aF G' p o):=λq u e=>by
 have n:q≠p:=λz=>by rw[z,h]at e;cases e
 rw[aH n];exact l _ _ e
abbrev GZ(M:List (List Key×bw))(c:bw->List (Int×Int))(M':List (List Key×bw))(c':bw->List (Int×Int))(nt:(Int×Int)×Int->Int):Prop:=∀a p l,bV (cY M' c' (ky a p)) l=bV (cY M c (ky a p)) l+nt ((a,p),l)
abbrev d1(k:(Int×Int)×Int)(more:Int)(j:(Int×Int)×Int):Int:=if j=k then more else 0
abbrev d2(q q2:Int×Int)(lot am:Int)(j:(Int×Int)×Int):Int:=if q=q2 then 0 else d1 (q,lot) (-am) j+d1 (q2,lot) am j
def TC{more:Int}(h:qq M c M' c' (kq q) lot more)(o:∀k',k'≠kq q->cY M' c' k'=cY M c k'):GZ M c M' c' (d1 (q,lot) more):=λa p l=>by
 unfold d1;by_cases e:(a,p)=q
 .subst e;rw[h.1 l];by_cases e2:l=lot
  .rw[if_pos e2,if_pos (by rw[e2])]
  .rw[if_neg e2,if_neg λw=>e2 (congrArg (·.2) w)]
 .rw[o _ λw=>e (Oa (a:=(a,p)) w),if_neg λw=>e (congrArg (·.1) w)];exact(Int.add_zero _).symm
abbrev Dn(A:iS)(sh:bw)(x y g:Nat)(room:Int)(st:bw)(n:Nat)(M:List (List Key×bw))(c:bw->List (Int×Int))(G:Gp)(nt:(Int×Int)×Int->Int)(M':List (List Key×bw))(c':bw->List (Int×Int))(G':Gp):Prop:=SH A sh x y g room st M' c' G'/\fF room (n+2) M' c'/\GZ M c M' c' nt/\Kp st M M' G G'
section
variable{n:Nat}{q:Int×Int}{lot am:Int}
def aMO(s:SH A sh x y g room st M c G)(v:fF room n M c)(hn:n<8000)(hl:0<=lot/\lot<=999)(b:eW x y q.1 q.2)(ha:1<=am/\am<=1000000)(hr:0<=room)(h0:bV (cY M c (kq q)) lot<am->EX A.gQ G)
  (h1:am<=bV (cY M c (kq q)) lot->∀M' c' G',Dn A sh x y g room st n M c G (d1 (q,lot) (-am)) M' c' G'->R .ag G'):iV K A [.ref sh,.int lot,.tup [.int q.1,.int q.2],.int am] G R EX:=by
 refine aMM s hl b ha h0 λe G1 R' Dx l hR=>?_;let⟨_,b2,b3,_⟩:=Fj (k:=kq q) hr v;have e':am<=bV (cY M c (kq q)) lot:=e;exact SY (s.le l) v ⋯ ⋯ (show 0<=bV (cY M c (kq q)) lot+-am by omega) (show w6 (cY M c (kq q))+-am<=room by omega) λM' c' G' s' v' t' o' k'=>hR _ (h1 e' M' c' G' ⟨s',v'.up (Nat.le_succ _),TC (q:=q) t' o',k'.le l⟩)
end
section
variable{n:Nat}{q:Int×Int}{lot am:Int}
def aRN(s:SH A sh x y g room st M c G)(v:fF room n M c)(hn:n<8000)(hl:0<=lot/\lot<=999)(b:eW x y q.1 q.2)(ha:1<=am/\am<=1000000)(hr:0<=room)(e:w6 (cY M c (kq q))+am<=room)
  (h1:∀M' c' G',Dn A sh x y g room st n M c G (d1 (q,lot) am) M' c' G'->qq M c M' c' (kq q) lot am->(∀k',k'≠kq q->cY M' c' k'=cY M c k')->R .ag G'):jM K A [.ref sh,.int lot,.tup [.int q.1,.int q.2],.int am] G R EX:=by
 refine aRL s hl b ha (λz=>absurd e (Int.not_le.mpr z)) λe G1 R' Dx l hR=>?_;let⟨_,b2,_,_⟩:=Fj (k:=kq q) hr v;exact SY (s.le l) v ⋯ ⋯ (show 0<=bV (cY M c (kq q)) lot+am by have:=Qf (l:=lot) b2;omega) e λM' c' G' s' v' t' o' k'=>hR _ (h1 M' c' G' ⟨s',v'.up (Nat.le_succ _),TC (q:=q) t' o',k'.le l⟩ t' o')
end
abbrev mM(c:Nat):Bool:=decide (97<=c)&&decide (c<=122)
def aVO{c:Nat}:decide ([c]<(Str.ofString "a").cps.toList)=decide (c<97):=by
 rw[show(Str.ofString "a").cps.toList=[97] by decide+kernel];show decide ([c]<[97])=_;apply decide_eq_decide.mpr;rw[List.cons_lt_cons_iff];simp
def aVP{c:Nat}:decide ((Str.ofString "z").cps.toList<[c])=decide (122<c):=by
 rw[show(Str.ofString "z").cps.toList=[122] by decide+kernel];show decide ([122]<[c])=_;apply decide_eq_decide.mpr;rw[List.cons_lt_cons_iff];simp
abbrev jB(cs:List Nat):Bool:=decide (1<=cs.length)&&(decide (cs.length<=12)&&cs.all mM)
def J8:L2.signs ⟨cs.toArray⟩=cs.map Ho:=by
 unfold L2.signs;show List.map _ cs.toArray.toList=_;rfl
def YC(hl:cs.length<=1000)(h:R (.bl (jB cs)) G):zO K A [.str ⟨cs.toArray⟩] G R EX:=by
 refine⟨rfl,?_⟩;have big:1000<dj:=by decide
 have Wi:(⟨cs.toArray⟩:Str).length=cs.length:=str_len;show Ll K A _ _ [aj (.str _)] G;exists Ll;refine⟨⋯,?_⟩;rw[Wi];by_cases c1:(1:Int)<=(cs.length:Int)
 .simp only[c1,decide_true,if_true];by_cases c2:(cs.length:Int)<=12
  .simp only[c2,decide_true,if_true];exists TK;refine comp_map (λd=>match d with|.str z=>.bl (z.cps.toList.all mM)|_=>.ag) ?_ trivial (λd hd G' l Q hQ=>?_) λp hp=>?_
   .show(L2.signs _).length<_;rw[J8,fj];omega
   .have hd:d∈L2.signs _:=hd;rw[J8]at hd;let⟨c,hc,rfl⟩:=jo.mp hd;unfold Ho at hQ ⊢;symm;simp only[aVO,aVP];have q:=hQ G' (.refl _);simp only[List.all_cons,List.all_nil,Bool.and_true]at q;unfold mM at q;refine pM (λe=>?_) λe=>?_
    .have e:97<=c:=by simpa using e
     simp only[e,decide_true,Bool.true_and]at q;rw[show(!decide (122<c))=decide (c<=122) by rw[←decide_not];exact decide_eq_decide.mpr ⋯];exact q
    .have e:¬ 97<=c:=by simpa using e
     simp only[e,decide_false,Bool.false_and]at q;exact q
   .show AN _ _ _
    have e1:((L2.signs ⟨cs.toArray⟩).map λd=>match d with|D.str z=>D.bl (z.cps.toList.all mM)|_=>D.ag)=cs.map λc=>.bl (mM c):=by
     rw[J8,vo];apply zx;intro c _;simp[Ho]
    have lz:((Src.bE (L2.signs ⟨cs.toArray⟩)).items.map λd=>match d with|D.str z=>D.bl (z.cps.toList.all mM)|_=>D.ag)=cs.map λc=>.bl (mM c):=e1;rw[lz];rw[aF0 qP (by simp[Ay])]
    have e2:(cs.map λc=>D.bl (mM c)).all Ax=cs.all mM:=by
     rw[List.all_map];rfl
    rw[e2];have Iw:1<=cs.length:=by omega
    have Iv:cs.length<=12:=by omega
    have:jB cs=cs.all mM:=by unfold jB;simp[Iw,Iv]
    rw[this]at h;exact aEQ h (.new hp)
  .simp only[c2,decide_false];symm;have Iv:¬ cs.length<=12:=by omega
   have:jB cs=ao:=by unfold jB;simp[Iv]
   rw[this]at h;exact aW.here h
 .simp only[c1,decide_false];symm;have Iw:¬ 1<=cs.length:=by omega
  have:jB cs=ao:=by unfold jB;simp[Iw]
  rw[this]at h;exact aW.here h
def aA1{d:D}(hd:kn G d)(h:R (.bl (bb d 0 9999)) G):Gx K A [d] G R EX:=by
 refine⟨rfl,?_⟩;show Kh K A _ _ [aj d] G;exists Kh;exact iG hd (aW.here h)
def TH(hl:cs.length<=1000)(h0:jB cs=ao->EX A.fZ G)(h1:jB cs=ak->R .ag G):iC K A [.str ⟨cs.toArray⟩] G R EX:=by
 refine⟨rfl,?_⟩;show Mi K A _ _ [aj (.str _)] G;exists Mi;refine YC hl ?_;symm;exact pM (λe=>lH.here (h0 e)) λe=>aW.here (h1 (by simpa using e))
def RW{d:D}(hd:kn G d)(h0:bb d 0 9999=ao->EX A.cX G)(h1:bb d 0 9999=ak->R .ag G):jL K A [d] G R EX:=by
 refine⟨rfl,?_⟩;show LO K A _ _ [aj d] G;exists LO;refine aA1 hd ?_;symm;exact pM (λe=>lH.here (h0 e)) λe=>aW.here (h1 (by simpa using e))
def Qe{i:Int}(hi:0<=i/\i<=9999)(h:R .ag G):jL K A [.int i] G R EX:=RW rfl (λe=>by simp[bb]at e;omega) λ_=>h
def Rc(hw:jB cs=ak)(h:R .ag G):iC K A [.str ⟨cs.toArray⟩] G R EX:=by
 refine TH ?_ (λe=>by rw[hw]at e;cases e) λ_=>h;unfold jB at hw;simp only[bx,decide_eq_true_eq]at hw;omega
def Qd{n:Int}(hl:0<=l/\l<n)(hn:n<=1000)(h:R .ag G):cC K A [.int l,.int n] G R EX:=by
 refine⟨rfl,?_⟩;show uF K A _ _ [aj (.int l),aj (.int n)] G;exists uF;refine iG rfl ?_;rw[show bb (.int l) 0 (n - 1)=ak by simp[bb];omega];symm;exact aW.here h
@[simp]def ym:=List Nat×Int×Int
abbrev de(l:ym):D:=.tup [.str ⟨l.1.toArray⟩,.int l.2.1,.int l.2.2]
@[simp]def HW(A:iS)(x y g:Nat)(day:Int)(sh kn dn:bw):GO:=.ins A.aA [("shelves",.ref sh),("layout",ej x y g),("day",.int day),("known",.ref kn),("done",.ref dn)]
structure Hs where
 h:bw
 sh:bw
 st:bw
 kn:bw
 dn:bw
 n:Nat
 M:List (List Key×bw)
 c:bw->List (Int×Int)
 day:Int
 ls:List ym
 rs:List D
abbrev Hs.ow(s:Hs):List bw:=s.h::s.st::s.kn::s.dn::s.M.map (·.2)
structure HO(A:iS)(x y g:Nat)(room:Int)(s:Hs)(G:Gp):Prop where
 hh:G s.h=aj (HW A x y g s.day s.sh s.kn s.dn)
 S:SH A s.sh x y g room s.st s.M s.c G
 v:fF room s.n s.M s.c
 hk:G s.kn=aj (.lst (s.ls.map de))
 hd:G s.dn=aj (.lst s.rs)
 lk:∀q l w,(l,w)∈cY s.M s.c (kq q)->(0<=l/\l<s.ls.length)/\eW x y q.1 q.2
 rk:∀d∈s.rs,cG 20 d=ak
 kd:s.kn≠s.dn
def HO.le(o:HO A x y g room s G)(l:Le G G'):HO A x y g room s G':=⟨l _ _ o.hh,o.S.le l,o.v,l _ _ o.hk,l _ _ o.hd,o.lk,o.rk,o.kd⟩
def HO.ne{s:Hs}(o:HO A x y g room s G):s.sh≠s.h:=λe=>by
 have h1:=o.S.sh;rw[e,o.hh]at h1
 have:=congrArg (λu=>match u with
  |some (GO.ins _ fs)=>fs.length
  |_=>0) h1
 simp at this
def u7(h:G p=aj (.lst ds)):pz "list" G (.ref p):=by
 rw[aEI,bC h];rfl
section
variable{s:Hs}
def OY(o:HO A x y g room s G)(h:R (.int s.day) G):gC K A [.ref s.h] G R EX:=by
 refine⟨rfl,?_⟩;show wL K A _ _ [aj (.ref s.h)] G;exists wL;rw[bG o.hh rfl];exact aW.here h
def aA2(o:HO A x y g room s G)(hn:s.n<128)(h:∀t qs N c' G',Le G G'->GS s.M s.c G t qs N c' G'->R (.ref t) G'):oK K A [.ref s.h] G R EX:=by
 refine⟨rfl,?_⟩;show wM K A _ _ [aj (.ref s.h)] G;exists wM;rw[bG o.hh rfl];symm;refine⟨by rw[bW o.S.sh (m:="lying") rfl];trivial,?_⟩;exact aFK o.S o.v hn λt qs N c' G' l ly=>aW.here (h t qs N c' G' l ly)
end
structure HK(s s':Hs)(G G':Gp):Prop where
 k:∀q u,q∉s.ow->G q=aj u->G' q=aj u
 w:∀q∈s'.ow,q∈s.ow∨G q=au
 h:s'.h=s.h
section
variable{s:Hs}
def HO.rX(o:HO A x y g room s G)(e:G q=aj (.lst ds)):q≠s.h/\q≠s.sh/\q≠s.st/\q∉s.M.map (·.2):=by
 refine⟨λz=>?_,λz=>?_,λz=>?_,λz=>?_⟩
 .rw[z,o.hh]at e;cases e
 .rw[z,o.S.sh]at e;cases e
 .rw[z,o.S.st]at e;cases e
 .obtain⟨y,hy,e2⟩:=jo.mp z;rw[←e2,o.S.ins y hy]at e;cases e
def HO.row{d:D}(o:HO A x y g room s G)(hs:cG 20 d=ak):HO A x y g room {s with rs:=s.rs++[d]} (aF G s.dn (.lst (s.rs++[d]))):=by
 let⟨n1,n2,n3,n4⟩:=o.rX o.hd;refine⟨by rw[aH (Ne.symm n1)];exact o.hh,⟨o.S.o,by rw[aH (Ne.symm n2)];exact o.S.sh,by rw[aH (Ne.symm n3)];exact o.S.st,λz hz=>?_⟩,o.v,by rw[aH o.kd];exact o.hk,aC,o.lk,λe he=>?_,o.kd⟩
 .rw[aH λe=>n4 (by rw[←e];exact jo.mpr ⟨z,hz,rfl⟩)];exact o.S.ins z hz
 .rcases qx.mp he with he|he
  .exact o.rk e he
  .rw[qb.mp he];exact hs
def HK.row{s1:Hs}{d:D}(k:HK s s1 G G1)(o:HO A x y g room s1 G1):HK s {s1 with rs:=s1.rs++[d]} G (aF G1 s1.dn (.lst (s1.rs++[d]))):=by
 refine⟨λq u n e=>?_,k.w,k.h⟩;by_cases z:q=s1.dn
 .subst z;rcases k.w s1.dn (.tail _ (.tail _ (.tail _ (.head _))))with m|m
  .exact(n m).elim
  .rw[m]at e;cases e
 .rw[aH z];exact k.k q u n e
def ZL(o:HO A x y g room s G)(hd:0<=s.day/\s.day<9999)(hr:s.rs.length<50000)(h:∀G',HO A x y g room {s with day:=s.day+1,rs:=s.rs++[.tup [.str "day",.int (s.day+1)]]} G'->HK s {s with day:=s.day+1,rs:=s.rs++[.tup [.str "day",.int (s.day+1)]]} G G'->R (.int (s.day+1)) G'):cD K A [.ref s.h] G R EX:=by
 have big:100000<dj:=by decide
 refine⟨rfl,?_⟩;show gB K A _ _ [aj (.ref s.h)] G;exists gB;rw[bG o.hh rfl];symm;rw[show decide (s.day≥9999)=ao by simp;omega];exists uT;rw[bG o.hh rfl];symm;rw[sJ o.hh (by show 5<1000;decide)]
 have o1:HO A x y g room {s with day:=s.day+1} (aF G s.h (.ins A.aA (xm "day" (.int (s.day+1)) [("shelves",.ref s.sh),("layout",ej x y g),("day",.int s.day),("known",.ref s.kn),("done",.ref s.dn)]))):=by
  have e1:=(o.rX o.hk).1;have e2:=(o.rX o.hd).1;refine⟨by rw[aC];rfl,⟨o.S.o,by rw[aH o.ne];exact o.S.sh,by rw[aH λz=>by have:=o.S.st;rw[z,o.hh]at this;cases this];exact o.S.st,λz hz=>?_⟩,o.v,by rw[aH e1];exact o.hk,by rw[aH e2];exact o.hd,o.lk,o.rk,o.kd⟩;rw[aH λw=>by have:=o.S.ins z hz;rw[w,o.hh]at this;cases this];exact o.S.ins z hz
 have k1:HK s {s with day:=s.day+1} G (aF G s.h (.ins A.aA (xm "day" (.int (s.day+1)) [("shelves",.ref s.sh),("layout",ej x y g),("day",.int s.day),("known",.ref s.kn),("done",.ref s.dn)]))):=⟨λq u n e=>by rw[aH λz=>n (by rw[z];exact .head _)];exact e,λ_ h=>.inl h,rfl⟩;generalize aF G s.h _=G1 at o1 k1 ⊢;exists uR;rw[bG o1.hh rfl];refine⟨u7 o1.hd,?_⟩;symm;rw[bG o1.hh rfl];symm;rw[tW o1.hd (by show s.rs.length<dj;omega)];have o2:=o1.row (d:=.tup [.str "day",.int (s.day+1)]) rfl;have k2:=k1.row (d:=.tup [.str "day",.int (s.day+1)]) o1;exists uQ;rw[bG o2.hh rfl];exact aW.here (h _ o2 k2)
def TB(o:HO A x y g room s G)(h:∀r G',Le G G'->G r=au->G' r=aj (.lst s.rs)->R (.ref r) G'):mD K A [.ref s.h] G R EX:=by
 refine⟨rfl,?_⟩;show zT K A _ _ [aj (.ref s.h)] G;exists zT;rw[bG o.hh rfl];symm;rw[Qu (bC o.hd)];exact λl hl=>aW.here (h l _ (.new hl) hl aC)
def Tz(o:HO A x y g room s G)(h:∀r G',Le G G'->G r=au->G' r=aj (.lst (s.ls.map de))->R (.ref r) G'):m9 K A [.ref s.h] G R EX:=by
 refine⟨rfl,?_⟩;show zR K A _ _ [aj (.ref s.h)] G;exists zR;rw[bG o.hh rfl];symm;rw[Qu (bC o.hk)];exact λl hl=>aW.here (h l _ (.new hl) hl aC)
end
def aFM{n n':Nat}{M':List (List Key×bw)}{c':bw->List (Int×Int)}{nt:(Int×Int)×Int->Int}{P Q:Int×Int->Int->Prop}(v:fF room n M c)(v':fF room n' M' c')(hr:0<=room)(dl:GZ M c M' c' nt)(le:∀q l,P q l->Q q l)(lk:∀q l w,(l,w)∈cY M c (kq q)->P q l)(hd:∀j:(Int×Int)×Int,0<nt j->Q j.1 j.2):∀q l w,(l,w)∈cY M' c' (kq q)->Q q l:=by
 intro q l w m;let⟨VW,qS,_,_⟩:=Fj (k:=kq q) hr v';have e1:=sN VW m;have p1:1<=w:=qS _ m;have e2:bV (cY M' c' (kq q)) l=w:=by unfold bV;rw[show aV (cY M' c' (kq q)) l=aj w from e1];rfl
 have e3:bV (cY M' c' (kq q)) l=bV (cY M c (kq q)) l+nt (q,l):=dl q.1 q.2 l;by_cases cc:0<nt (q,l)
 .exact hd _ cc
 .have e4:1<=bV (cY M c (kq q)) l:=by omega
  cases z:aV (cY M c (kq q)) l with
  |none=>unfold bV at e4;rw[z]at e4;simp at e4
  |some u=>exact le _ _ (lk q l u (sZ z))
section
variable{s:Hs}{q:Int×Int}{cs:List Nat}{i am:Int}
def HO.OX{ls':List ym}(o:HO A x y g room s G)(hr:0<=room)(d:Dn A s.sh x y g room s.st s.n s.M s.c G nt M' c' G1)(el:s.ls.length<=ls'.length)(hd:∀j:(Int×Int)×Int,0<nt j->(0<=j.2/\j.2<(ls'.length:Int))/\eW x y j.1.1 j.1.2)(G2:Gp)(z0:G2 s.kn=aj (.lst (ls'.map de)))(k2:∀a u,a≠s.kn->G1 a=aj u->G2 a=aj u) :
  HO A x y g room {s with n:=s.n+2,M:=M',c:=c',ls:=ls' } G2/\HK s {s with n:=s.n+2,M:=M',c:=c',ls:=ls' } G G2:=by
 let⟨e1,e2,e3,e4⟩:=d;let⟨a1,a2,a3,a4⟩:=o.rX o.hk;let⟨b1,b2,b3,b4⟩:=o.rX o.hd;have n1:s.h≠s.st:=λz=>by have:=o.S.st;rw[←z,o.hh]at this;cases this
 have n2:s.h∉s.M.map (·.2):=λz=>by let⟨y,hy,e⟩:=jo.mp z;have:=o.S.ins y hy;rw[e,o.hh]at this;cases this
 have Aa:=e4.1 _ _ a3 a4 o.hk;have nM:∀z∈M',z.2≠s.kn:=λz hz w=>by have:=e1.ins z hz;rw[w,Aa]at this;cases this
 refine⟨⟨k2 _ _ (Ne.symm a1) (e4.1 _ _ n1 n2 o.hh),⟨e1.o,k2 _ _ (Ne.symm a2) e1.sh,k2 _ _ (Ne.symm a3) e1.st,λz hz=>k2 _ _ (nM z hz) (e1.ins z hz)⟩,e2,z0,k2 _ _ (Ne.symm o.kd) (e4.1 _ _ b3 b4 o.hd),aFM (Q:=λq l=>(0<=l/\l<(ls'.length:Int))/\eW x y q.1 q.2) o.v e2 hr e3 (λq l h=>⟨⟨h.1.1,by have:=h.1.2;omega⟩,h.2⟩) o.lk hd,o.rk,o.kd⟩,⟨λa u n e=>?_,λa ha=>?_,rfl⟩⟩
 .have m:∀{b},b∈s.ow->a≠b:=λhb z=>n (by rw[z];exact hb);exact k2 _ _ (m (.tail _ (.tail _ (.head _)))) (e4.1 _ _ (m (.tail _ (.head _))) (λz=>n (.tail _ (.tail _ (.tail _ (.tail _ z))))) e)
 .rcases nu.mp ha with rfl|ha
  .exact .inl (.head _)
  rcases nu.mp ha with rfl|ha
  .exact .inl (.tail _ (.head _))
  rcases nu.mp ha with rfl|ha
  .exact .inl (.tail _ (.tail _ (.head _)))
  rcases nu.mp ha with rfl|ha
  .exact .inl (.tail _ (.tail _ (.tail _ (.head _))))
  .rcases e4.2 a ha with z|z
   .exact .inl (.tail _ (.tail _ (.tail _ (.tail _ z))))
   .exact .inr z
private theorem aFN(o:HO A x y g room s G)(hw:jB cs=ak)(h0d:0<=s.day)(hd:s.day<=i/\i<=9999)(b:eW x y q.1 q.2)(ha:1<=am/\am<=1000000)(hn:s.n<8000)(hr:0<=room)(hl:s.ls.length<1000)(Eg:s.rs.length<50000)(Wc:w6 (cY s.M s.c (kq q))+am<=room)
  (h1:∀s' G',HO A x y g room s' G'->HK s s' G G'->s'.day=s.day->s'.ls=s.ls++[(cs,i,s.day)]->s'.rs.length=s.rs.length+1->qq s.M s.c s'.M s'.c (kq q) s.ls.length am->(∀k',k'≠kq q->cY s'.M s'.c k'=cY s.M s.c k')->R (.int s.ls.length) G'):cM K A [.ref s.h,.str ⟨cs.toArray⟩,.int i,.tup [.int q.1,.int q.2],.int am] G R EX:=by
 have big:100000<dj:=by decide
 refine⟨rfl,?_⟩;show oJ K A _ _ [aj (.ref s.h),aj (.str _),aj (.int i),aj (.tup [.int q.1,.int q.2]),aj (.int am),au] G;exists oJ;refine Rc hw ?_;exists uM;refine Qe ⋯ ?_;exists uL;rw[bG o.hh rfl];symm;refine yP o.S.o b ?_;exists uK;refine CZ ha ?_;exists uJ;rw[bG o.hh rfl];symm;rw[show decide (i<s.day)=ao by simp;omega];exists uI;rw[bG o.hh rfl];symm;rw[dF (bC o.hk),fj];exists uH;rw[show decide ((s.ls.length:Int)≥1000)=ao by simp;omega];exists UR;rw[bG o.hh rfl];symm;refine⟨by rw[bW o.S.sh (m:="put") rfl];trivial,?_⟩;refine aRN o.S o.v hn ⋯ b ha hr Wc λM' c' G1 d cg k8=>?_
 have Aa:G1 s.kn=aj (.lst (s.ls.map de)):=by
  let⟨_,_,a3,a4⟩:=o.rX o.hk;exact d.2.2.2.1 _ _ a3 a4 o.hk
 have NQ:G1 s.h=aj (HW A x y g s.day s.sh s.kn s.dn):=by
  refine d.2.2.2.1 _ _ (λz=>?_) (λz=>?_) o.hh
  .have:=o.S.st;rw[←z,o.hh]at this;cases this
  .obtain⟨y,hy,e⟩:=jo.mp z;have:=o.S.ins y hy;rw[e,o.hh]at this;cases this
 exists US;rw[bG NQ rfl];refine⟨u7 Aa,?_⟩;symm;rw[bG NQ rfl];symm;rw[tW Aa (by rw[fj];omega)]
 have hj:∀j:(Int×Int)×Int,0<d1 (q,(s.ls.length:Int)) am j->(0<=j.2/\j.2<((s.ls++[(cs,i,s.day)]).length:Int))/\eW x y j.1.1 j.1.2:=λj hj=>by
  unfold d1 at hj;split at hj
  .rename_i e;rw[e];exact⟨by simp;omega,b⟩
  .omega
 let⟨o2,k2⟩:=o.OX (ls':=s.ls++[(cs,i,s.day)]) hr d (by simp) hj (aF G1 s.kn (.lst (s.ls.map de++[.tup [.str ⟨cs.toArray⟩,.int i,.int s.day]]))) (by rw[aC,mq];rfl) (λa u n e=>by rw[aH n];exact e);generalize aF G1 s.kn _=G2 at o2 k2 ⊢;exists U7;rw[bG o2.hh rfl];refine⟨u7 o2.hd,?_⟩;symm;rw[tW o2.hd (by show s.rs.length<dj;omega)];have o3:=o2.row (d:=.tup [.str "come",.int s.ls.length,.str ⟨cs.toArray⟩,.int i,.tup [.int q.1,.int q.2],.int am]) rfl;have k3:=k2.row (d:=.tup [.str "come",.int s.ls.length,.str ⟨cs.toArray⟩,.int i,.tup [.int q.1,.int q.2],.int am]) o2;exists U8;exact aW.here (h1 _ _ o3 k3 rfl rfl (by simp) cg k8)
def YB(o:HO A x y g room s G)(hl:1000<=s.ls.length)(Ac:cs.length<=1000)(h1:jB cs=ao->EX A.fZ G)(h2:jB cs=ak->bb (.int i) 0 9999=ao->EX A.cX G)(h3:jB cs=ak->bb (.int i) 0 9999=ak->fN (.tup [.int q.1,.int q.2]) x 1 y=ao->EX A.kW G)
  (h4:jB cs=ak->bb (.int i) 0 9999=ak->fN (.tup [.int q.1,.int q.2]) x 1 y=ak->bb (.int am) 1 1000000=ao->EX A.cT G)(h5:jB cs=ak->bb (.int i) 0 9999=ak->fN (.tup [.int q.1,.int q.2]) x 1 y=ak->bb (.int am) 1 1000000=ak->i<s.day->EX A.cX G)
  (h6:jB cs=ak->bb (.int i) 0 9999=ak->fN (.tup [.int q.1,.int q.2]) x 1 y=ak->bb (.int am) 1 1000000=ak->¬ i<s.day->EX A.gZ G):cM K A [.ref s.h,.str ⟨cs.toArray⟩,.int i,.tup [.int q.1,.int q.2],.int am] G R EX:=by
 refine⟨rfl,?_⟩;show oJ K A _ _ [aj (.ref s.h),aj (.str _),aj (.int i),aj (.tup [.int q.1,.int q.2]),aj (.int am),au] G;exists oJ;refine TH Ac (λe=>lH.here (h1 e)) λe1=>?_;exists uM;refine RW rfl (λe=>lH.here (h2 e1 e)) λe2=>?_;exists uL;rw[bG o.hh rfl];symm;refine RX o.S.o Je (λx y e=>by cases e;exact⟨rfl,rfl⟩) (λe=>lH.here (h3 e1 e2 e)) λe3=>?_;exists uK;refine Uu rfl (λe=>lH.here (h4 e1 e2 e3 e)) λe4=>?_;exists uJ;rw[bG o.hh rfl];symm;by_cases c:i<s.day
 .rw[if_pos (decide_eq_true c)];exact lH.here (h5 e1 e2 e3 e4 c)
 rw[if_neg (by simpa using c)];exists uI;rw[bG o.hh rfl];symm;rw[dF (bC o.hk),fj];exists uH;rw[show decide ((s.ls.length:Int)≥1000)=ak by simp;omega];symm;exact lH.here (h6 e1 e2 e3 e4 c)
end
def Ja{α:Type}[DecidableEq α]:∀{xs ys:List α},xs.Nodup->(∀x∈xs,x∈ys)->xs.length<=ys.length
 |[],_,_,_=>qm _
 |x::xs,ys,nd,h=>by
  let⟨n1,n2⟩:=vp.mp nd;have hx:=h x (.head _);have:=Ja (ys:=ys.erase x) n2 λz hz=>(List.mem_erase_of_ne (show z≠x from λe=>n1 (e ▸ hz))).mpr (h z (.tail _ hz));rw[List.length_erase_of_mem hx]at this;have:=List.length_pos_of_mem hx;rw[qy];omega
abbrev sA:List (List Key):=[ky 0 1,ky 0 2,ky 0 3]
abbrev EG(M:List (List Key×bw))(c:bw->List (Int×Int)):Int:=w6 (cY M c (ky 0 1))+w6 (cY M c (ky 0 2))+w6 (cY M c (ky 0 3))
structure yQ(A:iS)(x:Nat)(s:Hs)(T:Int)(G:Gp):Prop where
 o:HO A x 3 1 2000 s G
 z:∀k,k∉sA->cY s.M s.c k=[]
 t:EG s.M s.c=T
 w:∀l∈s.ls,l.1=[119]/\0<=l.2.1
 d0:0<=s.day
section
variable{s:Hs}{T:Int}
def AD{a p b q:Int}(h:p≠q):ky a p≠ky b q:=λe=>h (congrArg (·.2) (Oa (a:=(a,p)) (b:=(b,q)) e))
def yQ.iX(w:yQ A x s T G):yQ A x {s with n:=3+s.ls.length} T G:=by
 let⟨o,z,t,ww,d0⟩:=w;refine⟨⟨o.hh,o.S,⟨o.v.kn,o.v.an,λy hy=>⟨(o.v.bn y hy).1,?_⟩,o.v.ks,?_⟩,o.hk,o.hd,o.lk,o.rk,o.kd⟩,z,t,ww,d0⟩
 .obtain⟨a,p,e⟩:=o.v.ks y hy;have h1:(((lg s.ls.length).map λi:Nat=>(i:Int))).length=s.ls.length:=by simp
  have h2:=Ja (o.v.bn y hy).1.nd (ys:=(lg s.ls.length).map λi:Nat=>(i:Int)) λl hl=>by
   let⟨⟨l',v⟩,hm,rfl⟩:=jo.mp hl;have BN:(l',v)∈cY s.M s.c (kq (a,p)):=by rw[show kq (a,p)=y.1 from e.symm,AV o.v.kn hy];exact hm
   let⟨⟨g1,g2⟩,_⟩:=o.lk (a,p) l' v BN;exact jo.mpr ⟨l'.toNat,yx.mpr ⋯,by show((l'.toNat:Nat):Int)=l';omega⟩
  rw[h1,fj]at h2;exact lq h2 (Nat.le_add_left _ _)
 .have h2:=Ja o.v.kn (ys:=sA) λk hk=>by
   let⟨y,hy,rfl⟩:=jo.mp hk;by_cases c:y.1∈sA
   .exact c
   .have:=z _ c;rw[AV o.v.kn hy]at this;exact absurd this (o.v.bn y hy).1.ne
  rw[fj]at h2;exact lq h2 (Nat.le_add_right _ _)
def yQ.pos(w:yQ A x s T G)(k:List Key):0<=w6 (cY s.M s.c k):=by
 let⟨_,b2,_,_⟩:=Fj (k:=k) (by decide) w.o.v;generalize cY s.M s.c k=ps at b2
 induction ps with
 |nil=>exact wu _
 |cons q r ih =>
  rw[oR];have:=b2 q (.head _);have:=ih λq hq=>b2 q (.tail _ hq);omega
def yQ.bin(w:yQ A x s T G){p:Int}(hp:p=1∨p=2∨p=3):w6 (cY s.M s.c (ky 0 p))<=T:=by
 have h1:=w.pos (ky 0 1);have h2:=w.pos (ky 0 2);have h3:=w.pos (ky 0 3);have:=w.t;unfold EG at this;rcases hp with rfl|rfl|rfl<;>omega
def yQ.DF{p i:Int}(w:yQ A x s T G)(hx:1<=x)(hp:p=1∨p=2∨p=3)(ha:1<=am/\am<=5)(hT:T+am<=2000)(hd:s.day<=i/\i<=9999)(hl:s.ls.length<1000)(Eg:s.rs.length<50000)
  (h:∀s' G',yQ A x s' (T+am) G'->HK s s' G G'->s'.day=s.day->s'.ls=s.ls++[([119],i,s.day)]->s'.rs.length=s.rs.length+1->bV (cY s'.M s'.c (ky 0 p)) s.ls.length=am->R (.int s.ls.length) G'):cM K A [.ref s.h,.str ⟨[119].toArray⟩,.int i,.tup [.int 0,.int p],.int am] G R EX:=by
 have w':=w.iX;have hb:=w.bin hp;have b:eW x 3 ((0:Int),p).1 ((0:Int),p).2:=⟨by show(0:Int)<=0;omega,by show(0:Int)<x;omega,by show 1<=p;omega,by show p<=(3:Nat);omega⟩;refine aFN (s:={s with n:=3+s.ls.length}) (q:=(0,p)) w'.o (by decide) w.d0 hd b ⋯ (by show 3+s.ls.length<8000;omega) (by decide) hl Eg (by show w6 (cY s.M s.c (ky 0 p))+am<=2000;omega) λs' G' o' k' e1 e2 e3 cg k8=>?_;have cg:qq s.M s.c s'.M s'.c (ky 0 p) s.ls.length am:=cg;have k8:∀k',k'≠ky 0 p->cY s'.M s'.c k'=cY s.M s.c k':=k8;have V4:ky 0 p∈sA:=by rcases hp with rfl|rfl|rfl<;>simp[sA]
 refine h s' G' ⟨o',λk hk=>?_,?_,λl hl=>?_,by rw[e1];exact w.d0⟩ ⟨k'.k,k'.w,k'.h⟩ e1 e2 e3 ?_
 .rw[k8 k λe=>hk (by rw[e];exact V4)];exact w.z k hk
 .have ht:=w.t;have c2:=cg.2;unfold EG at ht ⊢;rcases hp with rfl|rfl|rfl
  .rw[k8 _ (AD (by decide:(2:Int)≠1)),k8 _ (AD (by decide:(3:Int)≠1))];omega
  .rw[k8 _ (AD (by decide:(1:Int)≠2)),k8 _ (AD (by decide:(3:Int)≠2))];omega
  .rw[k8 _ (AD (by decide:(1:Int)≠3)),k8 _ (AD (by decide:(2:Int)≠3))];omega
 .rw[e2]at hl;rcases qx.mp hl with hl|hl
  .exact w.w l hl
  .rw[qb.mp hl];exact⟨rfl,by have:=w.d0;show 0<=i;omega⟩
 .have c1:=cg.1 s.ls.length
  have v0:bV (cY s.M s.c (ky 0 p)) s.ls.length=0:=Ka λm=>by
   let⟨⟨l',v⟩,hm,e⟩:=jo.mp m;have:=(w.o.lk (0,p) l' v hm).1.2;have e:l'=s.ls.length:=e;omega
  rw[if_pos rfl,v0]at c1;rw[c1,Int.zero_add]
def yQ.day(w:yQ A x s T G)(hd:s.day<9999)(hr:s.rs.length<50000)(h:∀s' G',yQ A x s' T G'->HK s s' G G'->s'.day=s.day+1->s'.ls=s.ls->s'.rs.length=s.rs.length+1->R (.int (s.day+1)) G'):cD K A [.ref s.h] G R EX :=
 ZL w.o ⟨w.d0,hd⟩ hr λG' o' k'=>h _ G' ⟨o',w.z,w.t,w.w,by have:=w.d0;show 0<=s.day+1;omega⟩ k' rfl rfl (by simp)
def YA(w:yQ A x s T G)(hd:9999<=s.day)(h:EX A.cX G):cD K A [.ref s.h] G R EX:=by
 refine⟨rfl,?_⟩;show gB K A _ _ [aj (.ref s.h)] G;exists gB;rw[bG w.o.hh rfl];symm;rw[show decide (s.day≥9999)=ak by simp;omega];symm;exact lH.here h
def yQ.off(w:yQ A x s T G)(hp:G p=aj (.lst ds))(n:p∉s.ow):yQ A x s T (aF G p u):=by
 let⟨o,z,t,ww,d0⟩:=w;have m:∀{b},b∈s.ow->b≠p:=λhb e=>n (by rw[←e];exact hb);refine⟨⟨by rw[aH (m (.head _))];exact o.hh,⟨o.S.o,by rw[aH (Ne.symm (o.rX hp).2.1)];exact o.S.sh,by rw[aH (m (.tail _ (.head _)))];exact o.S.st,λy hy=>by rw[aH (m (.tail _ (.tail _ (.tail _ (.tail _ (jo.mpr ⟨y,hy,rfl⟩))))))];exact o.S.ins y hy⟩,o.v,by rw[aH (m (.tail _ (.tail _ (.head _))))];exact o.hk,by rw[aH (m (.tail _ (.tail _ (.tail _ (.head _)))))];exact o.hd,o.lk,o.rk,o.kd⟩,z,t,ww,d0⟩
def HK.out{s':Hs}(k:HK s s' G G')(hp:G p=aj u)(n:p∉s.ow):p∉s'.ow:=λm=>by
 rcases k.w p m with z|z
 .exact n z
 .rw[hp]at z;cases z
end
def Qc{α:Type}{f:α->Int}{l m:List α}(h:l.Perm m):(l.map f).sum=(m.map f).sum:=by
 induction h with
 |nil=>rfl
 |cons x _ ih=>simp only[ji,List.sum_cons,ih]
 |swap x y l=>simp only[ji,List.sum_cons];omega
 |trans _ _ a b=>rw[a,b]
def Jz{α:Type}[DecidableEq α]{f:α->Int}{L:List α}(h:∀k,k∉L->f k=0):∀B:List α,((B.filter (·∈L)).map f).sum=(B.map f).sum
 |[]=>rfl
 |b::B=>by
  by_cases c:b∈L
  .simp[c,Jz h B]
  .simp[c,Jz h B,h b c]
def sum_in{α:Type}[DecidableEq α]{f:α->Int}{L B:List α}(n1:L.Nodup)(n2:B.Nodup)(s:∀k∈L,k∈B)(h:∀k,k∉L->f k=0):(L.map f).sum=(B.map f).sum:=by
 rw[←Jz h B];refine Qc ((List.perm_ext_iff_of_nodup n1 (n2.sublist Gv)).mpr λk=>⟨λm=>zq.mpr ⟨s k m,by simpa using m⟩,λm=>by simpa using(zq.mp m).2⟩)
section
variable{s:Hs}{T:Int}
def yQ.le(w:yQ A x s T G)(l:Le G G'):yQ A x s T G':=⟨w.o.le l,w.z,w.t,w.w,w.d0⟩
def yQ.told{t:bw}{N:List (List Key×bw)}(w:yQ A x s T G)(ly:GS s.M s.c G0 t qs N c' G'):(N.map λz=>w6 (c' z.2)).sum=T:=by
 have e1:(N.map λz=>w6 (c' z.2))=(N.map (·.1)).map λk=>w6 (cY s.M s.c k):=by
  rw[vo];refine zx λz hz=>?_;exact Qc (ly.ins z hz).2.1
 rw[e1,sum_in (B:=sA) (ly.ke.nodup_iff.mpr w.o.v.kn) (by decide) (λk hk=>?_) λk hk=>?_]
 .have:=w.t;unfold EG at this;simp only[sA,ji,List.map_nil,List.sum_cons,List.sum_nil];omega
 .obtain⟨y,hy,rfl⟩:=jo.mp (ly.ke.mem_iff.mp hk);by_cases c:y.1∈sA
  .exact c
  .have:=w.z _ c;rw[AV w.o.v.kn hy]at this;exact absurd this (w.o.v.bn y hy).1.ne
 .have:aV s.M k=au:=qZ.mpr λm=>hk (ly.ke.mem_iff.mpr m);unfold cY;rw[this];rfl
def aA5(w:yQ A x s T G)(hl:0<=lot/\lot<s.ls.length)(h:R (.bl ak) G):eF K A [.ref s.h,.int lot,.str ⟨[119].toArray⟩,.int 0] G R EX:=by
 refine⟨rfl,?_⟩;obtain⟨j,rfl⟩:∃j:Nat,lot=j:=⟨lot.toNat,⋯⟩;show uV K A _ _ [aj (.ref s.h),aj (.int j),aj (.str _),aj (.int 0)] G;have hj:j<s.ls.length:=by omega
 let⟨e2,e3⟩:=w.w s.ls[j] (Gk hj);have e1:df (s.ls.map de) (j:Int)=aj (de s.ls[j]):=by rw[Cn];simp[hj]
 generalize s.ls[j]=l at e1 e2 e3;let⟨cs,i,d⟩:=l;obtain rfl:cs=[119]:=e2;have e3:0<=i:=e3;exists uV;rw[bG w.o.hh rfl];symm;rw[E2 (bC w.o.hk) e1];unfold de;symm;rw[bG w.o.hh rfl];symm;rw[E2 (bC w.o.hk) e1];unfold de;symm;rw[decide_eq_true (show i≥0 from e3)];exact aW.here h
private theorem Qb{t:Bool}(h:tQ G p=aj (t,kvs)):G p=aj (.cR t kvs)∨∃od,G p=aj (.bX od t kvs):=by
 unfold L2.tQ at h;split at h
 .rename_i e;cases h;exact .inl e
 .rename_i e;cases h;exact .inr ⟨_,e⟩
 .cases h
def aFO{ps:List (Int×Int)}{gr:Int}(w:yQ A x s T G)(l:Le G G')(hp:G p=au)(hd:tQ G' p=aj (ao,ps.map sH))(nd:(ps.map (·.1)).Nodup)(hk:∀z∈ps,0<=z.1/\z.1<s.ls.length)(hl:ps.length<10000)
  (h:∀r fb,Le G fb->(∀q u,q≠p->G' q=aj u->fb q=aj u)->tQ fb p=aj (ao,ps.map sH)->cF fb r=aj ((ps.map (·.2)).map D.int)->R (.ref r) fb) :
  nV ak (.ref p) G' λsrc G1=>AE pj src (aQ (cA A.aA "serves" (eF K A) [] kU (cO 1) (aZ (cO 0) (aZ (cO 2) (aZ (cO 3) dD))))) (aP wH (cO 5) (cO 0)) [aj (.ref s.h),aj (.str ⟨[119].toArray⟩),aj (.int 0),aj (.int gr),aj (.ref p)] G1 R:=by
 have big:100000<dj:=by decide
 have key:∀od G1,Le G G1->(∀q u,q≠p->G' q=aj u->G1 q=aj u)->G1 p=aj (.bX od ao (ps.map sH))->AE pj (.key p od ao (ps.map sH)) (aQ (cA A.aA "serves" (eF K A) [] kU (cO 1) (aZ (cO 0) (aZ (cO 2) (aZ (cO 3) dD))))) (aP wH (cO 5) (cO 0)) [aj (.ref s.h),aj (.str ⟨[119].toArray⟩),aj (.int 0),aj (.int gr),aj (.ref p)] G1 R:=λod G1 l1 k1 h1=>by
  have el:(Src.key p od ao (ps.map sH)).items=ps.map λz=>.int z.1:=by
   show(ps.map sH).map _=_;rw[vo];rfl
  refine Pj (λ_=>ak) (λd=>match d with|.int l=>.int (bV ps l)|_=>.ag) (by rw[el,fj];omega) h1 (λd hd G2 l2 Q hQ=>?_) (λd hd _ G2 l2 Q hQ=>?_) λr hr=>?_
  .rw[el]at hd;let⟨z,hz,rfl⟩:=jo.mp hd;have w2:=w.le (l1.trans l2);symm;refine⟨by rw[bW w2.o.hh (m:="serves") rfl];trivial,?_⟩;refine aA5 w2 (hk z hz) ?_;symm;exact hQ _ (.refl _)
  .rw[el]at hd;let⟨z,hz,rfl⟩:=jo.mp hd;symm;rw[Qs (Lm (l2 _ _ h1)) xQ rfl (by rw[zF,sN nd hz];rfl)];have:=hQ G2 (.refl _);simp only[bV,sN nd hz,Option.getD_some]at this;exact this
  .have nr:r≠p:=λe=>by rw[e,h1]at hr;cases hr
   have em:((Src.key p od ao (ps.map sH)).items.filter (λ_=>ak)).map (λd=>match d with|.int l=>D.int (bV ps l)|_=>.ag)=(ps.map (·.2)).map D.int:=by
    rw[el,LR.mpr (λ_ _=>rfl),vo,vo];refine zx λz hz=>?_;show D.int (bV ps z.1)=.int z.2;unfold bV;rw[sN nd hz];rfl
   rw[em];refine h r _ (l1.trans (.new hr)) (λq u n e=>(Le.new hr) _ _ (k1 q u n e)) (Lm ((Le.new hr) _ _ h1)) qP
 rcases Qb hd with e|⟨od,e⟩
 .rw[aFD e];exact λod=>key od _ (Fi l hp) (λq u n z=>by rw[aH n];exact z) aC
 .rw[aFE e];exact key od G' l (λq u n z=>z) e
def OW(w:yQ A x s T G)(hl:s.ls.length<=90)(h:∀G',Le G G'->R (.int T) G'):gF K A [.ref s.h,.str ⟨[119].toArray⟩,.int 0] G R EX:=by
 have big:100000<dj:=by decide
 refine⟨rfl,?_⟩;have h':∀G',Le G G'->aW R (.int T) G':=λG' l=>aW.here (h G' l);clear h;show wN K A _ _ [aj (.ref s.h),aj (.str _),aj (.int 0),au,au] G;exists wN;refine Rc (by decide) ?_;exists U3;refine Qe (by decide) ?_;exists U4;exists U5;refine⟨by rw[bW w.o.hh (m:="lying") rfl];trivial,?_⟩;refine aA2 (s:={s with n:=3+s.ls.length}) w.iX.o (by show 3+s.ls.length<128;omega) λt qs N c' G1 l ly=>?_;have ly:GS s.M s.c G t qs N c' G1:=ly;have wt:=w.iX;have et:=w.told ly;refine aFF ly.tt λod=>?_;refine Xa (λk ρ G'=>(∃r4,ρ=[aj (.ref s.h),aj (.str ⟨[119].toArray⟩),aj (.int 0),aj (.int ((N.take k).map λz=>w6 (c' z.2)).sum),r4])/\Le G G'/\G' t=aj (.bX od ak (N.map eQ))/\∀z∈N,tQ G' z.2=aj (ao,(c' z.2).map sH)) ⟨⟨_,rfl⟩,Fi l ly.t0,aC,λz hz=>?_⟩ (λk ρ G' hh=>hh.2.2.1) (λk q ρ G' hq hh=>?_) λρ G' hh=>?_
 .refine Ln ?_;have i1:=(ly.ins z hz).1;rw[aH λe=>by rw[e,ly.tt]at i1;cases i1];exact i1
 .obtain⟨⟨r4,rfl⟩,l2,tt,hi⟩:=hh;let⟨z,ez,rfl⟩:=Jd hq;have hz:=qg ez;let⟨_,i2,_,i4⟩:=ly.ins z hz;let⟨y,hy,ey⟩:=jo.mp (ly.ke.mem_iff.mp (jo.mpr ⟨z,hz,rfl⟩));have ey:y.1=z.1:=ey;let⟨a,p,ek⟩:=w.o.v.ks y hy;have bn:=wt.o.v.bn y hy;have eh:cY s.M s.c z.1=s.c y.2:=by rw[←ey];exact AV w.o.v.kn hy
  rw[eh]at i2;exists yE;refine aFO (ps:=c' z.2) w l2 i4 (hi z hz) ((i2.map _).nodup_iff.mpr bn.1.nd) (λu hu=>?_) (by have:=i2.length_eq;have:=bn.2;rw[i2.length_eq];show(s.c y.2).length<10000;have h3:(s.c y.2).length<=3+s.ls.length:=bn.2;omega) λr G2 l3 k3 e3 hr=>?_
  .refine(w.o.lk (a,p) u.1 u.2 ?_).1;rw[show kq (a,p)=y.1 from ek.symm,AV w.o.v.kn hy];exact i2.mem_iff.mp hu
  .symm;refine(show xn [.ref r] G2 _ from ?_);rw[S5 hr];symm;have es:((N.take (k+1)).map λz=>w6 (c' z.2)).sum=((N.take k).map λz=>w6 (c' z.2)).sum+w6 (c' z.2):=by rw[Gb,ez];simp
   refine⟨⟨aj (.ref z.2),by rw[es];rfl⟩,l3,?_,λv hv=>?_⟩
   .refine k3 _ _ (λe=>?_) tt;have:=ly.t0;rw[e]at tt;have:=hi z hz;unfold L2.tQ at this;rw[tt]at this;cases this
   .by_cases e:v.2=z.2
    .rw[e];exact e3
    .have:=hi v hv;rcases Qb this with q|⟨o2,q⟩
     .exact Ln (k3 _ _ e q)
     .exact Lm (k3 _ _ e q)
 .obtain⟨⟨r4,rfl⟩,l2,tt,hi⟩:=hh;exists U6;rw[Bl,et];exact h' _ (Fi l2 ly.t0)
end
def aMQ{p:bw}{xs:List D}{lo hi:Option Int}(h:cF G p=aj xs):FK (.ref p) lo hi G R=∀q,G q=au->R (.ref q) (aF G q (.lst (cutD xs lo hi))):=by
 unfold L2.FK;simp only[h]
def Qa{i:Int}(h:R (.bl ak) G):iZ K A [.int i] G R EX:=by
 refine⟨rfl,?_⟩;show zU K A _ _ [aj (.int i)] G;exists zU;exact aW.here h
section
variable{s:Hs}{q:Int×Int}{cs:List Nat}{i am:Int}
def tH(T:Txt K mg A)(o:HO A x y g room s G)(hl:1000<=s.ls.length)(Ac:cs.length<=1000)(h1:jB cs=ao->R (.str "ware") G)(h2:jB cs=ak->bb (.int i) 0 9999=ao->R (.str "day") G)(h3:jB cs=ak->bb (.int i) 0 9999=ak->fN (.tup [.int q.1,.int q.2]) x 1 y=ao->R (.str "bin") G)
  (h4:jB cs=ak->bb (.int i) 0 9999=ak->fN (.tup [.int q.1,.int q.2]) x 1 y=ak->bb (.int am) 1 1000000=ao->R (.str "amount") G)(h5:jB cs=ak->bb (.int i) 0 9999=ak->fN (.tup [.int q.1,.int q.2]) x 1 y=ak->bb (.int am) 1 1000000=ak->i<s.day->R (.str "day") G)
  (h6:jB cs=ak->bb (.int i) 0 9999=ak->fN (.tup [.int q.1,.int q.2]) x 1 y=ak->bb (.int am) 1 1000000=ak->¬ i<s.day->R (.str "lot") G):aR K A [.ref s.h,.str ⟨cs.toArray⟩,.int i,.tup [.int q.1,.int q.2],.int am] G R EX:=by
 refine⟨rfl,?_⟩;show uX K A _ _ [aj (.ref s.h),aj (.str _),aj (.int i),aj (.tup [.int q.1,.int q.2]),aj (.int am)] G;exists uX;refine⟨by rw[bW o.hh (m:="come") rfl];trivial,?_⟩;refine YB o hl Ac (λa=>.inr ⟨T.jR,.inl ⟨T.iW,?_⟩⟩) (λa b=>.inr ⟨T.j5,.inr ⟨T.gK,.inl ⟨T.fH,?_⟩⟩⟩) (λa b c=>.inr ⟨T.mQ,.inr ⟨T.jT,.inr ⟨T.mL,.inl ⟨T.mK,?_⟩⟩⟩⟩) (λa b c d=>.inr ⟨T.gP,.inr ⟨T.eZ,.inr ⟨T.gO,.inr ⟨T.gM,.inl ⟨T.dO,?_⟩⟩⟩⟩⟩) (λa b c d e=>.inr ⟨T.j5,.inr ⟨T.gK,.inl ⟨T.fH,?_⟩⟩⟩) (λa b c d e=>.inl ⟨T.mR,?_⟩)
 .symm;exact aW.here (h1 a)
 .symm;exact aW.here (h2 a b)
 .symm;exact aW.here (h3 a b c)
 .symm;exact aW.here (h4 a b c d)
 .symm;exact aW.here (h5 a b c d e)
 .symm;exact aW.here (h6 a b c d e)
end
def B8{i a b:Int}(h:a<=i/\i<=b):bb (.int i) a b=ak:=by simp[bb];omega
def I0{x:Nat}(h:1<=x):fN (.tup [.int ((0:Int),(1:Int)).1,.int ((0:Int),(1:Int)).2]) x 1 (3:Nat)=ak:=by rw[Jb];simp;omega
def aMR{x:Nat}(h:x<=2):fN (.tup [.int ((9:Int),(9:Int)).1,.int ((9:Int),(9:Int)).2]) x 1 (3:Nat)=ao:=by rw[Jb];simp
section
variable{s:Hs}{T0 i:Int}
def SX(T:Txt K mg A)(w:yQ A x s T0 G)(hx:1<=x/\x<=2)(hl:1000<=s.ls.length)(hi:s.day<=i/\i<=9999)(ha:1<=am/\am<=1000000)(h:R (.str "lot") G):aR K A [.ref s.h,.str "w",.int i,.tup [.int 0,.int 1],.int am] G R EX:=by
 have d0:=w.d0;have e2:=B8 (i:=i) (a:=0) (b:=9999) ⋯;have e3:=I0 hx.1;have e4:=B8 ha;exact tH (q:=(0,1)) (cs:=[119]) T w.o hl (by decide) (λe=>absurd e (by decide)) (λ_ e=>by rw[e2]at e;cases e) (λ_ _ e=>by rw[e3]at e;cases e) (λ_ _ _ e=>by rw[e4]at e;cases e) (λ_ _ _ _ e=>by omega) λ_ _ _ _ _=>h
def aMS(T:Txt K mg A)(w:yQ A x s T0 G)(hl:1000<=s.ls.length)(h:R (.str "ware") G):aR K A [.ref s.h,.str "W",.int i,.tup [.int 9,.int 9],.int 0] G R EX :=
 tH (q:=(9,9)) (cs:=[87]) T w.o hl (by decide) (λ_=>h) (λe=>absurd e (by decide)) (λe=>absurd e (by decide)) (λe=>absurd e (by decide)) (λe=>absurd e (by decide)) λe=>absurd e (by decide)
def aRO(T:Txt K mg A)(w:yQ A x s T0 G)(hl:1000<=s.ls.length)(h:R (.str "day") G):aR K A [.ref s.h,.str "w",.int (-1),.tup [.int 9,.int 9],.int 0] G R EX :=
 tH (q:=(9,9)) (cs:=[119]) T w.o hl (by decide) (λe=>absurd e (by decide)) (λ_ _=>h) (λ_ e=>absurd e (by decide)) (λ_ e=>absurd e (by decide)) (λ_ e=>absurd e (by decide)) λ_ e=>absurd e (by decide)
def aRP(T:Txt K mg A)(w:yQ A x s T0 G)(hx:1<=x/\x<=2)(hl:1000<=s.ls.length)(hi:s.day<=i/\i<=9999)(h:R (.str "bin") G):aR K A [.ref s.h,.str "w",.int i,.tup [.int 9,.int 9],.int 0] G R EX:=by
 have d0:=w.d0;have e2:=B8 (i:=i) (a:=0) (b:=9999) ⋯;have e3:=aMR hx.2;exact tH (q:=(9,9)) (cs:=[119]) T w.o hl (by decide) (λe=>absurd e (by decide)) (λ_ e=>by rw[e2]at e;cases e) (λ_ _ _=>h) (λ_ _ e=>by rw[e3]at e;cases e) (λ_ _ e=>by rw[e3]at e;cases e) λ_ _ e=>by rw[e3]at e;cases e
def aRQ(T:Txt K mg A)(w:yQ A x s T0 G)(hx:1<=x/\x<=2)(hl:1000<=s.ls.length)(hi:s.day<=i/\i<=9999)(h:R (.str "amount") G):aR K A [.ref s.h,.str "w",.int i,.tup [.int 0,.int 1],.int 0] G R EX:=by
 have d0:=w.d0;have e2:=B8 (i:=i) (a:=0) (b:=9999) ⋯;have e3:=I0 hx.1;exact tH (q:=(0,1)) (cs:=[119]) T w.o hl (by decide) (λe=>absurd e (by decide)) (λ_ e=>by rw[e2]at e;cases e) (λ_ _ e=>by rw[e3]at e;cases e) (λ_ _ _ _=>h) (λ_ _ _ e=>absurd e (by decide)) λ_ _ _ e=>absurd e (by decide)
def aRR(T:Txt K mg A)(w:yQ A x s T0 G)(hx:1<=x/\x<=2)(hl:1000<=s.ls.length)(hi:0<=i/\i<s.day)(h9:s.day<=9999)(h:R (.str "day") G):aR K A [.ref s.h,.str "w",.int i,.tup [.int 0,.int 1],.int 1] G R EX:=by
 have e2:=B8 (i:=i) (a:=0) (b:=9999) ⋯;have e3:=I0 hx.1;exact tH (q:=(0,1)) (cs:=[119]) T w.o hl (by decide) (λe=>absurd e (by decide)) (λ_ e=>by rw[e2]at e;cases e) (λ_ _ e=>by rw[e3]at e;cases e) (λ_ _ _ e=>absurd e (by decide)) (λ_ _ _ _ _=>h) λ_ _ _ _ e=>absurd hi.2 e
end
section
variable{s:Hs}{T0:Int}
def aMT(T:Txt K mg A)(w:yQ A x s T0 G)(hx:1<=x/\x<=2)(hl:1000<=s.ls.length)(hd:s.day<=9990)(h:∀G',Le G G'->F.rt (.bl ak) G'):wR K A ex F [aj (.ref s.h),aj (.ref pl),aj (.int s.day),r3,r4] G:=by
 have big:100000<dj:=by decide
 have d0:=w.d0;exists wR;refine SX T w hx hl ⋯ (by decide) ?_;symm;refine SX T w hx hl ⋯ (by decide) ?_;symm;intro p1 f1;have l1:Le G (aF G p1 (.lst [.str "lot",.str "lot"])):=.new f1;have a1:aF G p1 (.lst [.str "lot",.str "lot"]) p1=aj (.lst [.str "lot",.str "lot"]):=aC;generalize aF G p1 _=G1 at l1 a1 ⊢;have w1:=w.le l1;exists UA;refine aMS T w1 hl ?_;symm;refine aRO T w1 hl ?_;symm;intro p2 f2;have l2:Le G1 (aF G1 p2 (.lst [.str "ware",.str "day"])):=.new f2;have a2:aF G1 p2 (.lst [.str "ware",.str "day"]) p2=aj (.lst [.str "ware",.str "day"]):=aC;generalize aF G1 p2 _=G2 at l2 a2 ⊢;rw[S6 (l2 _ _ a1) a2 (by simp;omega)];intro p3 f3;have l3:Le G2 (aF G2 p3 (.lst [.str "lot",.str "lot",.str "ware",.str "day"])):=.new f3;have a3:aF G2 p3 (.lst [.str "lot",.str "lot",.str "ware",.str "day"]) p3=aj (.lst [.str "lot",.str "lot",.str "ware",.str "day"]):=aC;generalize Eu:aF G2 p3 (.lst [.str "lot",.str "lot",.str "ware",.str "day"])=G3 at l3 a3;rw[show aF G2 p3 (.lst ([D.str "lot",.str "lot"]++[.str "ware",.str "day"]))=G3 from Eu];have w3:=(w1.le l2).le l3;have g3:=(l1.trans l2).trans l3;exists UB;refine aRP T w3 hx hl ⋯ ?_;symm;refine aRQ T w3 hx hl ⋯ ?_;symm;intro p4 f4;have l4:Le G3 (aF G3 p4 (.lst [.str "bin",.str "amount"])):=.new f4;have a4:aF G3 p4 (.lst [.str "bin",.str "amount"]) p4=aj (.lst [.str "bin",.str "amount"]):=aC;generalize aF G3 p4 _=G4 at l4 a4 ⊢;rw[S6 (l4 _ _ a3) a4 (by simp;omega)];intro p5 f5;have l5:Le G4 (aF G4 p5 (.lst [.str "lot",.str "lot",.str "ware",.str "day",.str "bin",.str "amount"])):=.new f5;have a5:aF G4 p5 (.lst [.str "lot",.str "lot",.str "ware",.str "day",.str "bin",.str "amount"]) p5=aj (.lst [.str "lot",.str "lot",.str "ware",.str "day",.str "bin",.str "amount"]):=aC;generalize BU:aF G4 p5 (.lst [.str "lot",.str "lot",.str "ware",.str "day",.str "bin",.str "amount"])=G5 at l5 a5;rw[show aF G4 p5 (.lst ([D.str "lot",.str "lot",.str "ware",.str "day"]++[.str "bin",.str "amount"]))=G5 from BU];have w5:=(w3.le l4).le l5;have g5:Le G G5:=(g3.trans l4).trans l5;have n5:G p5=au:=le_none ((g3.trans l4)) f5
 have fin:∀(ds:List D)(G6:Gp),Le G G6->G6 p5=aj (.lst ds)->(ds=[.str "lot",.str "lot",.str "ware",.str "day",.str "bin",.str "amount"]∨ds=[.str "lot",.str "lot",.str "ware",.str "day",.str "bin",.str "amount",.str "day"])->wQ K A ex F [aj (.ref s.h),aj (.ref pl),aj (.int s.day),r3,aj (.ref p5)] G6:=λds G6 g6 a6 hc=>by
  exists wQ;intro p7 f7;have l7:=Le.new (o:=.lst [.str "lot",.str "lot",.str "ware",.str "day",.str "bin",.str "amount",.str "day"]) f7;have a7:aF G6 p7 (.lst [.str "lot",.str "lot",.str "ware",.str "day",.str "bin",.str "amount",.str "day"]) p7=aj (.lst [.str "lot",.str "lot",.str "ware",.str "day",.str "bin",.str "amount",.str "day"]):=aC;generalize aF G6 p7 _=G7 at l7 a7 ⊢;rw[dF (bC (l7 _ _ a6))];symm;rw[aMQ (bC a7)];intro p8 f8;have l8:=Le.new (o:=.lst (cutD [D.str "lot",.str "lot",.str "ware",.str "day",.str "bin",.str "amount",.str "day"] au (aj (ds.length:Int)))) f8;have e8:cutD [D.str "lot",.str "lot",.str "ware",.str "day",.str "bin",.str "amount",.str "day"] au (aj (ds.length:Int))=ds:=by rcases hc with rfl|rfl<;>rfl
  rw[e8]at l8 ⊢;have s1:ds.all (cG 20)=ak:=by rcases hc with rfl|rfl<;>rfl
  rw[Z6 (bC (l8 _ _ (l7 _ _ a6))) qP s1 s1,GB (n:=20) (by simpa using s1)];exact h _ ((g6.trans l7).trans l8)
 exists UC;refine CJ (λc=>?_) λc=>?_
 .have c:0<s.day:=by simpa using c
  refine⟨u7 a5,?_⟩;symm;refine aRR T w5 hx hl ⋯ ⋯ ?_;symm;rw[tW a5 (by simp;omega)];symm;exact fin _ _ (Fi g5 n5) aC (.inr rfl)
 .exact fin _ _ g5 a5 (.inl rfl)
def aMU(T:Txt K mg A)(w:yQ A x s T0 G)(hx:1<=x/\x<=2)(hp:G pl=aj (.lst (s.ls.map de)))(np:pl∉s.ow)(hd:s.day<=9990)(hl:s.ls.length<=90)(ht:T0<=5*s.ls.length)(Eg:s.rs.length<=20000)
  (h:∀s' G' T',yQ A x s' T' G'->s'.h=s.h->G' pl=aj (.lst (s'.ls.map de))->s'.ls.length=1000->s'.rs.length+s.ls.length=s.rs.length+1000->bV (cY s'.M s'.c (ky 0 1)) 999=2->R (.bl ak) G'):sV K A [.ref s.h,.ref pl,.int s.day] G R EX:=by
 have big:100000<dj:=by decide
 refine⟨rfl,?_⟩;have h':∀s' G' T',yQ A x s' T' G'->s'.h=s.h->G' pl=aj (.lst (s'.ls.map de))->s'.ls.length=1000->s'.rs.length+s.ls.length=s.rs.length+1000->bV (cY s'.M s'.c (ky 0 1)) 999=2->aW R (.bl ak) G':=λs' G' T' a b c d e f=>aW.here (h s' G' T' a b c d e f);clear h;show Mg K A _ _ [aj (.ref s.h),aj (.ref pl),aj (.int s.day),au,au] G;exists Mg;rw[aF2];refine⟨λm ρ G'=>∃s' T' r3,m=1000 - s'.ls.length/\yQ A x s' T' G'/\s'.h=s.h/\G' pl=aj (.lst (s'.ls.map de))/\pl∉s'.ow/\s'.ls.length<=1000/\s'.day=s.day/\s'.rs.length+s.ls.length=s.rs.length+s'.ls.length/\2*T'+s'.ls.length%2<=3*s'.ls.length+631/\(s'.ls.length=1000->bV (cY s'.M s'.c (ky 0 1)) 999=2)/\ρ=[aj (.ref s.h),aj (.ref pl),aj (.int s.day),r3,au],⟨_,s,T0,_,rfl,w,rfl,hp,np,⋯,rfl,rfl,⋯,λe=>by omega,rfl⟩,λm ρ G' hh=>?_⟩;let⟨s',T',r3,em,w',eh,jb,Nc,NM,ed,er,HV,hv,rfl⟩:=hh;symm;rw[dF (bC jb),fj];symm;by_cases c:(s'.ls.length:Int)<1000
 .rw[if_pos (decide_eq_true c)];exists Ug;refine⟨by rw[←eh,bW w'.o.hh (m:="come") rfl];trivial,?_⟩;symm;rw[dF (bC jb),fj];symm;rw[dF (bC jb),fj];symm;rw[dF (bC jb),fj];symm;rw[←eh,show D.str "w"=.str ⟨[119].toArray⟩from rfl];refine w'.DF hx.1 (p:=1+(s'.ls.length:Int)%3) (am:=1+(s'.ls.length:Int)%2) ⋯ ⋯ ⋯ ⋯ ⋯ ⋯ λs2 G2 w2 k2 e1 e2 e3 e4=>?_;have g7:=k2.k _ _ Nc jb;have BB:=k2.out jb Nc;have el:s2.ls.length=s'.ls.length+1:=by rw[e2];simp
  exists UO;refine Qa ?_;symm;rw[dF (bC g7),fj];symm;rw[show((s'.ls.length:Int)==(s'.ls.length:Int))=ak by simp];exists UP;refine⟨u7 g7,?_⟩;symm;rw[dF (bC g7),fj];symm;rw[tW g7 (by rw[fj];omega)];symm;refine⟨1000 - s2.ls.length,⋯,s2,_,_,rfl,w2.off g7 BB,by rw[k2.h],?_,BB,⋯,⋯,⋯,⋯,λe=>?_,by rw[eh]⟩
  .rw[aC,e2,mq,ed];rfl
  .have:s'.ls.length=999:=by omega
   rw[this]at e4;exact e4
 .rw[if_neg (by simpa using c)];have e:s'.ls.length=1000:=by omega
  rw[←eh,←ed];refine aMT T w' hx ⋯ ⋯ λG2 l2=>?_;exact h' s' G2 T' (w'.le l2) eh (l2 _ _ jb) e ⋯ (hv e)
end
section
variable{s:Hs}{q:Int×Int}{am lot:Int}
def Yz(o:HO A x y g room s G)(hl:0<=lot/\lot<s.ls.length)(HZ:s.ls.length<=1000)(b:eW x y q.1 q.2)(ha:1<=am/\am<=1000000)(h0:bV (cY s.M s.c (kq q)) lot<am->EX A.gQ G)(h1:am<=bV (cY s.M s.c (kq q)) lot->∀G',Le G G'->R .ag G'):kY K A [.ref s.h,.int lot,.tup [.int q.1,.int q.2],.int am] G R EX:=by
 refine⟨rfl,?_⟩;show rE K A _ _ [aj (.ref s.h),aj (.int lot),aj (.tup [.int q.1,.int q.2]),aj (.int am)] G;exists rE;rw[bG o.hh rfl];symm;rw[dF (bC o.hk),fj];refine Qd hl ⋯ ?_;exists vY;rw[bG o.hh rfl];symm;refine yP o.S.o b ?_;exists vX;refine CZ ha ?_;exists vW;rw[bG o.hh rfl];symm;refine⟨by rw[bW o.S.sh (m:="need_there") rfl];trivial,?_⟩;exact Ud o.S ⋯ b (λe=>lH.here (h0 e)) λe G' l=>aW.here (h1 e G' l)
def aVR(o:HO A x y g room s G)(hl:0<=lot/\lot<s.ls.length)(HZ:s.ls.length<=1000)(b:eW x y q.1 q.2)(ha:1<=am/\am<=1000000)(hn:s.n<8000)(hr:0<=room)(Eg:s.rs.length<50000)(h0:bV (cY s.M s.c (kq q)) lot<am->EX A.gQ G)
  (h1:am<=bV (cY s.M s.c (kq q)) lot->∀s' G',HO A x y g room s' G'->HK s s' G G'->s'.day=s.day->s'.ls=s.ls->s'.n=s.n+2->s'.rs.length=s.rs.length+1->GZ s.M s.c s'.M s'.c (d1 (q,lot) (-am))->R .ag G'):vZ K A [.ref s.h,.int lot,.tup [.int q.1,.int q.2],.int am] G R EX:=by
 have big:100000<dj:=by decide
 refine⟨rfl,?_⟩;show LL K A _ _ [aj (.ref s.h),aj (.int lot),aj (.tup [.int q.1,.int q.2]),aj (.int am)] G;exists LL;refine⟨by rw[bW o.hh (m:="need_go") rfl];trivial,?_⟩;refine Yz o hl HZ b ha (λe=>lH.here (h0 e)) λe G0 l0=>?_;have o0:=o.le l0;exists Uj;rw[bG o0.hh rfl];symm;refine⟨by rw[bW o0.S.sh (m:="take") rfl];trivial,?_⟩;refine aMO o0.S o0.v hn ⋯ b ha hr (λz=>by omega) λ_ M' c' G1 d=>?_
 have Aa:G1 s.kn=aj (.lst (s.ls.map de)):=by
  let⟨_,_,a3,a4⟩:=o0.rX o0.hk;exact d.2.2.2.1 _ _ a3 a4 o0.hk
 have hj:∀j:(Int×Int)×Int,0<d1 (q,lot) (-am) j->(0<=j.2/\j.2<(s.ls.length:Int))/\eW x y j.1.1 j.1.2:=λj hj=>by
  unfold d1 at hj;split at hj<;>omega
 let⟨o2,k2⟩:=o0.OX (ls':=s.ls) hr d (dw _) hj G1 Aa (λa u n e=>e);exists Uk;rw[bG o2.hh rfl];refine⟨u7 o2.hd,?_⟩;symm;rw[tW o2.hd (by show s.rs.length<dj;omega)];have o3:=o2.row (d:=.tup [.str "go",.int lot,.tup [.int q.1,.int q.2],.int am]) rfl;have k3:=k2.row (d:=.tup [.str "go",.int lot,.tup [.int q.1,.int q.2],.int am]) o2;symm;exact aW.here (h1 e _ _ o3 ⟨λp u n e=>k3.k p u n (l0 _ _ e),λp hp=>(k3.w p hp).imp id λz=>le_none l0 z,k3.h⟩ rfl rfl rfl (by simp) d.2.2.1)
end
def HO.out{s:Hs}{a:bw}(o:HO A x y g room s G)(h:G a=aj (.fo ds)):a∉s.ow:=λm=>by
 have:a=s.h∨a=s.st∨a=s.kn∨a=s.dn∨a∈s.M.map (·.2):=by simpa[Hs.ow]using m
 rcases this with rfl|rfl|rfl|rfl|m
 .rw[o.hh]at h;cases h
 .rw[o.S.st]at h;cases h
 .rw[o.hk]at h;cases h
 .rw[o.hd]at h;cases h
 .obtain⟨z,hz,rfl⟩:=jo.mp m;rw[o.S.ins z hz]at h;cases h
def SW{a b:Bool}{X Y:Prop}(hx:a=ak->b=ak->X)(hy:Y):if a=ak then(if b=ak then X else Y)else Y:=by
 cases a<;>cases b<;>simp_all
def Yy{tg:hZ}{i j:Int}(P:Nat->bZ->Gp->Prop)(h0:P 0 ρ G)
  (hb:∀(k:Nat) ρ G,i+(k:Int)<j->P k ρ G->tg (.int (i+k)) ρ λeA=>tb {F with nx:=P (k+1),ct:=P (k+1),bk:=F.nx} eA G)(he:∀ρ G,P (j - i).toNat ρ G->F.nx ρ G):EH (.bE (fA i j)) tg tb F ρ G:=by
 have hlen:(Src.bE (fA i j)).items.length=(j - i).toNat:=by simp[Src.items,fA]
 refine⟨P,h0,λ_ _ _ _ _=>trivial,λk d ρ G hd p=>?_,λρ G p=>he ρ G (hlen ▸ p)⟩;have hk:k<(j - i).toNat:=by rw[←hlen];exact(jl.mp hd).1
 have e:d=.int (i+k):=by
  have:(fA i j)[k]?=aj d:=hd;unfold fA at this;rw[xr,List.getElem?_range ⋯]at this;simp at this;exact this.symm
 subst e;exact hb k ρ G ⋯ p
section
variable{s:Hs}{T0:Int}
def aA6(T:Txt K mg A)(w:yQ A x s T0 G)(hd:s.day=9999)(h:∀G',Le G G'->R (.bl ak) G'):oM K A [.ref s.h] G R EX:=by
 refine⟨rfl,?_⟩;have h':∀G',Le G G'->aW R (.bl ak) G':=λG' l=>aW.here (h G' l);clear h;show wO K A _ _ [aj (.ref s.h),au,au] G;exists wO;refine Xj (λk ρ G'=>(∃r1 r2,ρ=[aj (.ref s.h),r1,r2])/\Le G G') ⟨⟨_,_,rfl⟩,.refl _⟩ (λk ρ G' _ hh=>?_) λρ G' hh=>?_
 .obtain⟨⟨r1,r2,rfl⟩,l⟩:=hh;have w':=w.le l;exists UQ;exists yJ;refine⟨by rw[bW w'.o.hh (m:="next_day") rfl];trivial,?_⟩;refine YA w' ⋯ (.inl ⟨T.fH,?_⟩);exists yI;refine⟨by rw[bW w'.o.hh (m:="today") rfl];trivial,?_⟩;refine OY w'.o ?_;rw[hd];symm;exact⟨⟨_,_,rfl⟩,l⟩
 .obtain⟨⟨r1,r2,rfl⟩,l⟩:=hh;exists U2;exact h' G' l
def Yx(o:HO A x y g room s G){a p:Int}(hl:0<=lot/\lot<s.ls.length)(HZ:s.ls.length<=1000)(b:eW x y a p)(h:∀G',Le G G'->R (.int (bV (cY s.M s.c (ky a p)) lot)) G'):mY K A [.ref s.h,.int lot,.tup [.int a,.int p]] G R EX:=by
 refine⟨rfl,?_⟩;show uU K A _ _ [aj (.ref s.h),aj (.int lot),aj (.tup [.int a,.int p])] G;exists uU;rw[bG o.hh rfl];symm;rw[dF (bC o.hk),fj];refine Qd hl ⋯ ?_;exists yD;rw[bG o.hh rfl];symm;refine⟨by rw[bW o.S.sh (m:="amount") rfl];trivial,?_⟩;exact Qh o.S ⋯ b λG' l=>aW.here (h G' l)
end
variable{ls:List ym}
def Jy:(ls.map de).all (cG 20)=ak:=by
 rw[List.all_map];exact kh.mpr λl _=>rfl
def OV(h1:G r=aj (.lst (ls.map de)))(h2:G pl=aj (.lst (ls.map de)))(h:R (.bl ao) G):fE (.ref r) (.ref pl) G R:=by
 rw[Z5 (bC h1) (bC h2) Jy Jy,GB (n:=20) (kh.mp Jy)];exact h
abbrev kept(ls:List ym):Int:=(ls.map λl=>1+l.2.2%5).sum
def aA7{l:ym}:kept (ls++[l])=kept ls+(1+l.2.2%5):=by simp[kept]
def Jx:∀{ls:List ym},kept ls<=5*ls.length
 |[]=>by simp[kept]
 |l::r=>by
  have:=Jx (ls:=r);have e:kept (l::r)=1+l.2.2%5+kept r:=by simp[kept]
  rw[e,qy];omega
structure Bo(A:iS)(a pl hs:bw)(ns:List Int)(x:Nat)(k:Nat)(s:Hs)(G:Gp):Prop where
 hG:G a=aj (.fo (ns.map D.int))
 w:yQ A x s (kept s.ls) G
 eh:s.h=hs
 hp:G pl=aj (.lst (s.ls.map de))
 np:pl∉s.ow
 d:s.day=(k:Int)
 l:s.ls.length<=90
 r:s.rs.length<=k+s.ls.length
section
variable{s:Hs}{a:bw}{ns:List Int}{F:eN}{ex:bZ->f9}{fi da st:Int}{k:Nat}
def aA8(L:Bo A a pl hs ns x k s G)(hx:1<=x)(hk:k<9999)(h0:0<st)
  (h:∀s' G' r7 r8 r9,Bo A a pl hs ns x (k+1) s' G'->F.nx [aj (.ref a),aj (.int fi),aj (.ref hs),aj (.int da),aj (.int st),aj (.ref pl),aj (.int s'.rs.length),r7,r8,r9,zt] G') :
  Kf K A ex F [aj (.ref a),aj (.int fi),aj (.ref hs),aj (.int da),aj (.int st),aj (.ref pl),aj (.int s.rs.length),aj (.int (1+k)),r8,r9,zt] G:=by
 have big:100000<dj:=by decide
 let⟨hG,w,eh,hp,np,hd,hl,hr⟩:=L;subst eh;exists Kf;refine⟨by rw[bW w.o.hh (m:="next_day") rfl];trivial,?_⟩;refine w.day ⋯ ⋯ λs1 G1 w1 k1 e1 e2 e3=>?_;have ft:=k1.k _ _ (w.o.out hG) hG;have zI:=k1.k _ _ np hp;have HF:=k1.out hp np;exists R0;refine Qa ?_;symm;rw[show(s.day+1==1+(k:Int))=ak by rw[hd];simp;omega];exists R1;exists R4;rw[dF (bC zI),fj];rw[←e2]at zI hl hr ⊢;have er:(s.rs.length:Int)+1=s1.rs.length:=by omega
 rw[er];rw[←e2]at w1;have base:Bo A a pl s.h ns x (k+1) s1 G1:=⟨ft,w1,k1.h,zI,HF,by rw[e1,hd];rfl,hl,⋯⟩;symm;refine SW (λ_ c2=>?_) (h _ _ _ _ _ base);have c2:(s1.ls.length:Int)<90:=by simpa using c2
 symm;rw[dF (bC zI),fj];symm;rw[show(3:Int)+(s1.ls.length:Int)=((3+s1.ls.length:Nat):Int) by omega];refine E1 (k:=3+s1.ls.length) ft ⋯ ?_;symm;obtain⟨EB,ed,hdu⟩:∃EB:Int,EB=(if 1+(k:Int)+cellAt ns (3+s1.ls.length)%4<9999 then 1+(k:Int)+cellAt ns (3+s1.ls.length)%4 else 9999)/\1+(k:Int)<=EB/\EB<=9999:=⟨_,rfl,by split<;>omega,by split<;>omega⟩;rw[←ed];clear ed;exists Ux;rw[←k1.h];refine⟨by rw[bW w1.o.hh (m:="come") rfl];trivial,?_⟩;symm;rw[show D.str "w"=.str ⟨[119].toArray⟩from rfl];have hT:=Jx (ls:=s1.ls);refine w1.DF hx (p:=1+(1+(k:Int))%3) (am:=1+(1+(k:Int))%5) ⋯ ⋯ ⋯ ⋯ ⋯ ⋯ λs2 G2 w2 k2 f1 f2 f3 _=>?_;have rp:=k2.k _ _ (w1.o.out ft) ft;have g7:=k2.k _ _ HF zI;have BB:=k2.out zI HF;have el:s2.ls.length=s1.ls.length+1:=by rw[f2];simp
 symm;rw[dF (bC g7),fj];symm;rw[show((s1.ls.length:Int)==(s1.ls.length:Int))=ak by simp];exists Uy;refine⟨u7 g7,?_⟩;symm;rw[tW g7 (by rw[fj];omega)];exists Uz;have d1:s1.day=1+(k:Int):=by omega
 rw[show(s1.rs.length:Int)+1=s2.rs.length by omega,k1.h];have na:a≠pl:=λe=>by rw[e,hp]at hG;cases hG
 refine h _ _ _ _ _ ⟨by rw[aH na];exact rp,?_,by rw[k2.h,k1.h],?_,BB,by rw[f1,d1];push_cast;omega,⋯,⋯⟩
 .have e:kept s2.ls=kept s1.ls+(1+(1+(k:Int))%5):=by rw[f2,aA7,d1]
  rw[e];exact w2.off g7 BB
 .rw[aC,f2,mq,d1];rfl
end
def aFP{x g:Nat}(o:uv x y g)(hr:1<=room/\room<=1000000)(h0:G sh=aj (.ins A.aB []))(h:∀st G',G' sh=aj (MX A x y g room st)->G' st=aj (.cR ak [])->G st=au->(∀q u,q≠sh->G q=aj u->G' q=aj u)->R .ag G'):fK K A [.ref sh,ej x y g,.int room] G R EX:=by
 refine⟨rfl,?_⟩;show n8 K A _ _ [aj (.ref sh),aj (ej x y g),aj (.int room)] G;exists n8;refine Rh o ?_;exists qW;refine CZ hr ?_;exists qU;rw[sJ h0 (by decide)];generalize ft:aF G sh _=G1;have s1:G1 sh=aj (.ins A.aB [("layout",ej x y g)]):=by rw[←ft,aC];rfl
 exists qT;rw[sJ s1 (by show 1<1000;decide)];generalize rp:aF G1 sh _=G2;have s2:G2 sh=aj (.ins A.aB [("layout",ej x y g),("room",.int room)]):=by rw[←rp,aC];rfl
 exists qR;intro st bP;have ne:st≠sh:=λz=>by rw[z,s2]at bP;cases bP
 rw[sJ (eG s2 bP) (by show 2<1000;decide)];refine aW.here (h st _ (by rw[aC];rfl) (by rw[aH ne,aC]) (by rw[←rp,aH ne,←ft,aH ne]at bP;exact bP) λq u n z=>?_);rw[aH n];refine eG ?_ bP;rw[←rp,aH n,←ft,aH n];exact z
def aFQ(o:uv x y g)(hr:1<=room/\room<=1000000)(h0:G h=aj (.ins A.aA []))(k:∀s G',HO A x y g room s G'->s.h=h->s.day=0->s.ls=[]->s.rs=[]->s.n=0->(∀q u,q≠h->G q=aj u->G' q=aj u)->(∀q∈s.ow,q=h∨G q=au)->R .ag G'):j9 K A [.ref h,ej x y g,.int room] G R EX:=by
 refine⟨rfl,?_⟩;show pD K A _ _ [aj (.ref h),aj (ej x y g),aj (.int room)] G;exists pD;intro sh Ee;have n1:h≠sh:=λz=>by rw[z,Ee]at h0;cases h0
 refine aFP o hr aC λst G1 s1 d1 i8 k1=>⟨rfl,?_⟩;have n2:st≠sh:=λz=>by rw[z,aC]at i8;cases i8
 have n3:st≠h:=λz=>by rw[aH n2,z,h0]at i8;cases i8
 have fst:G st=au:=by rw[aH n2]at i8;exact i8
 have h1:G1 h=aj (.ins A.aA []):=k1 _ _ n1 (by rw[aH n1];exact h0);have Nt:∀q u,q≠sh->G q=aj u->G1 q=aj u:=λq u n e=>k1 q u n (by rw[aH n];exact e);rw[sJ h1 (by decide)];generalize rp:aF G1 h _=G2;have a2:G2 h=aj (.ins A.aA [("shelves",.ref sh)]):=by rw[←rp,aC];rfl
 have V2:∀q u,q≠h->G1 q=aj u->G2 q=aj u:=λq u n e=>by rw[←rp,aH n];exact e
 exists uE;rw[sJ a2 (by show 1<1000;decide)];generalize Eu:aF G2 h _=G3;have a3:G3 h=aj (.ins A.aA [("shelves",.ref sh),("layout",ej x y g)]):=by rw[←Eu,aC];rfl
 have V1:∀q u,q≠h->G2 q=aj u->G3 q=aj u:=λq u n e=>by rw[←Eu,aH n];exact e
 exists uD;rw[sJ a3 (by show 2<1000;decide)];generalize NY:aF G3 h _=G4;have a4:G4 h=aj (.ins A.aA [("shelves",.ref sh),("layout",ej x y g),("day",.int 0)]):=by rw[←NY,aC];rfl
 have V0:∀q u,q≠h->G3 q=aj u->G4 q=aj u:=λq u n e=>by rw[←NY,aH n];exact e
 have Fy:∀q u,q≠h->G1 q=aj u->G4 q=aj u:=λq u n e=>V0 q u n (V1 q u n (V2 q u n e));exists u9;intro kn Ag;have m1:kn≠h:=λz=>by rw[z,a4]at Ag;cases Ag
 rw[sJ (eG a4 Ag) (by show 3<1000;decide)];generalize BU:aF (aF G4 kn _) h _=G5;have a5:G5 h=aj (.ins A.aA [("shelves",.ref sh),("layout",ej x y g),("day",.int 0),("known",.ref kn)]):=by rw[←BU,aC];rfl
 have b5:G5 kn=aj (.lst []):=by rw[←BU,aH m1,aC]
 have HN:∀q u,q≠h->G4 q=aj u->G5 q=aj u:=λq u n e=>by rw[←BU,aH n];exact eG e Ag
 exists u0;intro dn o4;have m2:dn≠h:=λz=>by rw[z,a5]at o4;cases o4
 have m3:kn≠dn:=λz=>by rw[←z,b5]at o4;cases o4
 rw[sJ (eG a5 o4) (by show 4<1000;decide)];generalize Ii:aF (aF G5 dn _) h _=G6;have a6:G6 h=aj (HW A x y g 0 sh kn dn):=by rw[←Ii,aC];rfl
 have Nr:∀q u,q≠h->G5 q=aj u->G6 q=aj u:=λq u n e=>by rw[←Ii,aH n];exact eG e o4
 have b6:G6 dn=aj (.lst []):=by rw[←Ii,aH m2,aC]
 have all:∀q u,q≠h->G1 q=aj u->G6 q=aj u:=λq u n e=>Nr q u n (HN q u n (Fy q u n e));have nf:∀q,q≠h->G6 q≠au∨True:=λ_ _=>.inr trivial
 have no:∀q,q≠h->q≠sh->G4 q=au->G q=au:=λq n n' e=>by
  cases z:G q with
  |none=>rfl
  |some u=>rw[Fy q u n (Nt q u n' z)]at e;cases e
 have sk:kn≠sh:=λz=>by have:=Fy sh _ (Ne.symm n1) s1;rw[←z,Ag]at this;cases this
 have sd:dn≠sh:=λz=>by have:=HN sh _ (Ne.symm n1) (Fy sh _ (Ne.symm n1) s1);rw[←z,o4]at this;cases this
 have aVV:G4 dn=au:=by
  cases z:G4 dn with
  |none=>rfl
  |some u=>rw[HN dn u m2 z]at o4;cases o4
 refine aW.here (k ⟨h,sh,st,kn,dn,0,[],λ_=>[],0,[],[]⟩ G6 ⟨a6,⟨o,all _ _ (Ne.symm n1) s1,all _ _ n3 d1,λz hz=>nomatch hz⟩,fF.nil,Nr _ _ m1 b5,b6,(λq l w m=>nomatch m),(λd hd=>nomatch hd),m3⟩ rfl rfl rfl rfl rfl (λq u n e=>?_) λq hq=>?_)
 .by_cases z:q=sh
  .rw[z,Ee]at e;cases e
  .exact all q u n (Nt q u z e)
 .have:q=h∨q=st∨q=kn∨q=dn:=by simpa[Hs.ow]using hq
  rcases this with rfl|rfl|rfl|rfl
  .exact .inl rfl
  .exact .inr fst
  .exact .inr (no _ m1 sk Ag)
  .exact .inr (no _ m2 sd aVV)
section
variable{s:Hs}{a:bw}{F:eN}{ex:bZ->f9}{fi st:Int}{ns:List Int}{k:Nat}
def aMV(T:Txt K mg A)(w:yQ A x s (kept s.ls) G)(hd:s.day<=9999)(hl:s.ls.length<=90)(h:∀G',F.rt (.bl ak) G'):Ke K A ex F [aj (.ref a),aj (.int fi),aj (.ref s.h),aj (.int s.day),aj (.int st),aj (.ref pl),r7,r8,r9,zt,aj (.int (kept s.ls))] G:=by
 exists Ke;refine⟨by rw[bW w.o.hh (m:="total") rfl];trivial,?_⟩;symm;rw[show D.str "w"=.str ⟨[119].toArray⟩from rfl];refine OW w hl λG1 l1=>?_;symm;rw[show(kept s.ls==kept s.ls)=ak by simp];symm;have w1:=w.le l1;refine⟨by rw[bW w1.o.hh (m:="total") rfl];trivial,?_⟩;symm;refine OW w1 hl λG2 l2=>?_;symm;rw[show(kept s.ls==kept s.ls)=ak by simp];exists Ql;have w2:=w1.le l2;by_cases c:s.day<9999
 .rw[decide_eq_true c];symm;exact h _
 .rw[decide_eq_false c];symm;exact aA6 T w2 ⋯ λG3 _=>h _
def aMW(T:Txt K mg A)(w:yQ A x s (kept s.ls) G)(hp:G pl=aj (.lst (s.ls.map de)))(hd:s.day<=9999)(hl:s.ls.length<=90)(h:∀G',F.rt (.bl ak) G'):Kd K A ex F [aj (.ref a),aj (.int fi),aj (.ref s.h),aj (.int s.day),aj (.int st),aj (.ref pl),aj (.int s.rs.length),r7,r8,r9,zt] G:=by
 have big:100000<dj:=by decide
 exists Kd;refine⟨by rw[bW w.o.hh (m:="today") rfl];trivial,?_⟩;refine OY w.o ?_;symm;rw[show(s.day==s.day)=ak by simp];symm;refine⟨by rw[bW w.o.hh (m:="lots") rfl];trivial,?_⟩;refine Tz w.o λr G1 l1 _ e1=>?_;refine OV e1 (l1 _ _ hp) ?_;symm;have w1:=w.le l1;refine⟨by rw[bW w1.o.hh (m:="rows") rfl];trivial,?_⟩;refine TB w1.o λr2 G2 l2 _ e2=>?_;symm;rw[dF (bC e2)];symm;rw[show((s.rs.length:Int)==(s.rs.length:Int))=ak by simp];exists Qk;rw[Xm (bC (l2 _ _ (l1 _ _ hp)))];refine comp_map (λd=>match d with|.tup [_,_,.int c]=>.int (1+c%5)|_=>.ag) (by show(s.ls.map de).length<_;rw[fj];omega) (bC (l2 _ _ (l1 _ _ hp))) (λd hd G' l Q hQ=>?_) λp hp=>?_
 .obtain⟨u,_,rfl⟩:=jo.mp hd;unfold de at hQ ⊢;symm;exact hQ G' (.refl _)
 .have em:((Src.lst pl (s.ls.map de)).items.map λd=>match d with|.tup [_,_,.int c]=>D.int (1+c%5)|_=>.ag)=(s.ls.map λl=>1+l.2.2%5).map D.int:=by
   show(s.ls.map de).map _=_;rw[vo,vo];rfl
  rw[em];symm;refine(show xn [.ref p] _ _ from ?_);rw[S5 qP];symm;exact aMV T ((w1.le l2).le (.new hp)) hd hl h
def aRU(T:Txt K mg A)(L:Bo A a pl s.h ns x k s G)(hx:1<=x/\x<=2)(hk:k<=9999)(h:∀G',F.rt (.bl ak) G'):JC K A ex F [aj (.ref a),aj (.int fi),aj (.ref s.h),aj (.int k),aj (.int st),aj (.ref pl),aj (.int s.rs.length),r7,r8,r9,zt] G:=by
 have big:100000<dj:=by decide
 let⟨hG,w,_,hp,np,hd,hl,hr⟩:=L;rw[←hd];exists JC;refine SW (λ_ c2=>?_) (aMW T w hp ⋯ hl h);have c2:s.day<9990:=by simpa using c2
 symm;rw[dF (bC hp),fj];exists RY;refine aMU T w hx hp np ⋯ hl Jx ⋯ λs' G' T' w' eh jb el er hv=>?_;symm;rw[←eh];refine⟨by rw[bW w'.o.hh (m:="lots") rfl];trivial,?_⟩;refine Tz w'.o λr G1 l1 _ e1=>?_;refine OV e1 (l1 _ _ jb) ?_;symm;have w1:=w'.le l1;refine⟨by rw[bW w1.o.hh (m:="rows") rfl];trivial,?_⟩;refine TB w1.o λr2 G2 l2 _ e2=>?_;symm;rw[dF (bC e2)];symm;rw[show((s'.rs.length:Int)==(s.rs.length:Int)+1000 - (s.ls.length:Int))=ak by simp;omega];have w2:=(w1.le l2).iX;have b:eW x 3 ((0:Int),(1:Int)).1 ((0:Int),(1:Int)).2:=⟨by decide,by show(0:Int)<x;omega,by decide,by decide⟩;exists RZ;refine⟨by rw[show s'.h=({s' with n:=3+s'.ls.length}:Hs).h from rfl,bW w2.o.hh (m:="go") rfl];trivial,?_⟩;symm;refine aVR (s:={s' with n:=3+s'.ls.length}) (q:=(0,1)) (lot:=999) w2.o (by show 0<=999/\(999:Int)<s'.ls.length;omega) (by show s'.ls.length<=1000;omega) b (by decide) (by show 3+s'.ls.length<8000;omega) (by decide) (by show s'.rs.length<50000;omega) (λe=>?_) λ_ s3 G3 o3 k3 e1 e2 e3 e4 dl=>?_
 .have e:bV (cY s'.M s'.c (ky 0 1)) 999<1:=e;omega
 .symm;have WV:s3.h=s'.h:=k3.h;have N2:s3.ls=s'.ls:=e2;rw[←WV];refine⟨by rw[bW o3.hh (m:="amount") rfl];trivial,?_⟩;symm;refine Yx (lot:=999) (a:=0) (p:=1) o3 (by rw[N2];omega) (by rw[N2];omega) b λG4 l4=>?_
  have ev:bV (cY s3.M s3.c (ky 0 1)) 999=1:=by
   have:=dl 0 1 999;have HU:bV (cY ({s' with n:=3+s'.ls.length}:Hs).M ({s' with n:=3+s'.ls.length}:Hs).c (ky 0 1)) 999=2:=hv;rw[HU]at this;exact this
  rw[ev];symm;exact h _
end
def aRV{da fi:Int}{a:bw}{s:Hs}(T:Txt K mg A)(hx:1<=x/\x<=2)(hG:G a=aj (.fo (ns.map D.int)))(o:HO A x 3 1 2000 s G)(eh:s.h=h)(ed:s.day=0)(el:s.ls=[])(er:s.rs=[])(em:s.n=0)(Es:0<=da/\da<=9999)(hF:∀G',F.rt (.bl ak) G') :
  Fl K A ex F [aj (.ref a),aj (.int fi),aj (.ref h),aj (.int da),r4,r5,r6,r7,r8,r9,zt] G:=by
 subst eh;have eM:s.M=[]:=List.length_eq_zero_iff.mp (Nat.le_zero.mp (em ▸ o.v.len));have w:yQ A x s (kept s.ls) G:=⟨o,λk _=>by rw[eM];rfl,by rw[eM,el];rfl,(λl hl=>by rw[el]at hl;cases hl),⋯⟩;exists Fl;refine E1 (k:=2) hG (by decide) ?_;symm;have h0:0<1+cellAt ns 2%9:=by omega
 generalize 1+cellAt ns 2%9=st at h0 ⊢;exists O8;intro pl fp;have l1:Le G (aF G pl (.lst [])):=.new fp;have L0:Bo A a pl s.h ns x 0 s (aF G pl (.lst [])):=⟨l1 _ _ hG,w.le l1,rfl,by rw[aC,el];rfl,λm=>?_,by rw[ed];rfl,by rw[el];decide,by rw[er,el];decide⟩
 .have e0:(0:Int)=s.rs.length:=by rw[er];rfl
  exists O9;rw[e0];exists Pa;refine Yy (λk ρ G'=>∃s' r7 r8 r9,Bo A a pl s.h ns x k s' G'/\ρ=[aj (.ref a),aj (.int fi),aj (.ref s.h),aj (.int da),aj (.int st),aj (.ref pl),aj (.int s'.rs.length),r7,r8,r9,zt]) ⟨s,_,_,_,L0,rfl⟩ (λk ρ G' hk hh=>?_) λρ G' hh=>?_
  .obtain⟨s',r7,r8,r9,L,rfl⟩:=hh;symm;exact aA8 L hx.1 ⋯ h0 λs2 G2 q7 q8 q9 L2=>⟨s2,q7,q8,q9,L2,rfl⟩
  .obtain⟨s',r7,r8,r9,L,rfl⟩:=hh;have e:da=((da+1 - 1).toNat:Int):=by omega
   generalize (da+1 - 1).toNat=k at L e;subst e;have eh:=L.eh;rw[←eh]at L ⊢;exact aRU T L hx ⋯ hF
 .have:=m;simp only[Hs.ow,eM,List.map_nil,nu,List.not_mem_nil,or_false]at this;rcases this with rfl|rfl|rfl|rfl
  .rw[o.hh]at fp;cases fp
  .rw[o.S.st]at fp;cases fp
  .rw[o.hk]at fp;cases fp
  .rw[o.hd]at fp;cases fp
def main(T:Txt K mg A)(a:bw)(ns:List Int)(hl:ns.length<=63)(G:Gp)(hG:G a=aj (.fo (ns.map D.int))):Jc K A [.ref a] G (λd _=>d=.bl ak) (λ_ _=>False):=by
 refine⟨rfl,?_⟩;have hR:∀G':Gp,aW (λd _=>d=.bl ak) (.bl ak) G':=λG'=>aW.here (R:=λd _=>d=.bl ak) rfl;show Iz K A _ _ [aj (.ref a),au,au,au,au,au,au,au,au,au,au] G;exists Iz;refine E1 (k:=0) hG (by decide) ?_;generalize cellAt ns 0=fi;exists O5;intro h fh;have gp:(1+fi / 16%2=1)∨(1+fi / 16%2=2):=by omega
 obtain⟨x,ex,hx⟩:∃x:Nat,1+fi / 16%2=(x:Int)/\1<=x/\x<=2:=⟨(1+fi / 16%2).toNat,⋯,⋯,⋯⟩;rw[ex];clear ex gp;refine aFQ (x:=x) (y:=3) (g:=1) (room:=2000) ⟨hx.1,⋯,by decide,by decide,by decide,by decide⟩ (by decide) aC λs G1 o1 eh ed el er em k1 ow1=>⟨rfl,?_⟩;have WH:aF G h (.ins A.aA []) a=aj (.fo (ns.map D.int)):=(Le.new fh) _ _ hG;have ft:=k1 a _ (λe=>by rw[e,fh]at hG;cases hG) WH;exists O6;refine E1 (k:=1) ft (by decide) ?_;obtain⟨da,N5,Es⟩:∃da:Int,da=cellAt ns 1%61/\0<=da/\da<=9999:=⟨_,rfl,⋯,⋯⟩;symm;rw[←N5];clear N5;have rest:∀da:Int,0<=da/\da<=9999->∀F:eN,(∀G',F.rt (.bl ak) G')->∀ex,Fl K A ex F [aj (.ref a),aj (.int fi),aj (.ref h),aj (.int da),au,au,au,au,au,au,au] G1:=λda Es F hF ex=>aRV T hx ft o1 eh ed el er em Es hF;exists O7;refine CJ (λ_=>?_) λ_=>?_
 .symm;exact rest 9999 (by decide) _ (λG'=>hR G') _
 .exact rest da Es _ (λG'=>hR G') _
end
end Law
namespace Law
open PySem PySem.Spec PyProof.Rows L2 L4
variable{qt:Bool}{ps:List Str}
section
variable{P:jr}{w:je}{K:Fg}{mg:Str->Option bh}{base:jw}{A:iS}
local macro_rules| `(tactic| walk_at "sc")=>`(tactic| exact⟨rfl,rfl,rfl,by decide+kernel,rfl,by decide+kernel,by decide+kernel⟩)
def xH{j k:Nat}{x:Str}{st:jq}{f:bw}{d:jm}{sp:jI}{n:Nat}(h:bM qt P w K mg base (jY P w) j f d ps (cJ K sp))(t:d3 K mg x st f d ps)(hj:j<=k:=by decide):Dw P w K mg base k x (.fn sp n qt):=⟨_,_,_,h.mono hj,t.m,t.F.kp,t.B⟩
def kX.g{k:Nat}{x:Str}{c:bw}(t:kX K mg x c):Dw P w K mg base k x (.cls c):=⟨t.m,t.x,t.cs,t.ty,t.be⟩
def dc{x qual:Str}{st:jq}{f:bw}{fd:jm}{k:Nat}{S:SI}{c:CB}{tb:f9->oX}(F:cK K x qual st f fd)(hS:aN S.N ps (aX st))(hc:S.calm=!qt)(hv:AF S (aX st)=ak)(hk:kB S 0 c (cB st)=ak)(he:(λEX=>mB S.gl K (λ_=>EX) c)=tb)(hg:∀(j:Nat)(y:Str)(g:GT),S.gl[j]?=aj (y,g)->Dw P w K mg base k y g):bM qt P w K mg base (jY P w) (k+1) f fd ps (cJ K (vP S.N.length ps.length tb)):=by
 rw[←he];exact Xq F hS hc hv hk hg
def rA(T:Txt K mg A):bM ao P w K mg base (jY P w) 1 A.Sb A.zG ["thing","least","most"] (cJ K (bT K A)) :=
 dc (S:=Z0 K A) (c:=Z1) T.fD.F (show aN ["thing","least","most"] ["thing","least","most"] _ from by walk_at "sc") rfl (by nofun) (by nofun) (by nofun) (bD ⟨T.SZ,OK⟩ (bD ⟨T.oO,lV⟩ (bD ⟨T.Od,PR⟩ xP)))
def ZK(T:Txt K mg A):bM ao P w K mg base (jY P w) 2 A.Rk A.GA ["thing"] (cJ K (zN K A)) :=
 dc (S:=YK K A) (c:=YL) T.tD.F (show aN ["thing"] ["thing"] _ from by walk_at "sc") rfl (by nofun) (by nofun) (by nofun) (bD ⟨T.O3,QX⟩ (bD ⟨T.oO,lV⟩ (bD ⟨T.nL,wF⟩ (bD (lx T.mU) (bD (xH (rA T) T.fD) (bD (lx T.mV) (bD (lx T.vC) xP)))))))
def Uc(T:Txt K mg A):bM ao P w K mg base (jY P w) 3 A.TU A.vQ ["plan"] (cJ K (iB K A)) :=
 dc (S:=alD K A) (c:=alC) T.jO.F (show aN ["plan"] ["plan"] _ from by walk_at "sc") rfl (by nofun) (by nofun) (by nofun) (bD (xH (ZK T) T.tD) (bD T.C7.g xP))
def aiL(T:Txt K mg A):bM ao P w K mg base (jY P w) 2 A.TR A.vR ["thing"] (cJ K (sU K A)) :=
 dc (S:=alF K A) (c:=alE) T.nO.F (show aN ["thing"] ["thing"] _ from by walk_at "sc") rfl (by nofun) (by nofun) (by nofun) (bD (lx T.mW) (bD (xH (rA T) T.fD) xP))
def jV(T:Txt K mg A):bM ao P w K mg base (jY P w) 3 A.UG A.qF ["thing"] (cJ K (bF K A)) :=
 dc (S:=ae3 K A) (c:=ae2) T.cN.F (show aN ["thing"] ["thing"] _ from by walk_at "sc") rfl (by nofun) (by nofun) (by nofun) (bD (xH (aiL T) T.nO) (bD T.pN.g xP))
def a3E(T:Txt K mg A):bM ao P w K mg base (jY P w) 4 A.bH A.gY ["self","plan","room"] (cJ K (fK K A)) :=
 dc (S:=a4R K A) (c:=dX) T.a4X (show aN ["self","plan","room"] ["self","plan","room"] _ from by walk_at "sc") rfl (by nofun) (by nofun) (by nofun) (bD (xH (Uc T) T.jO) (bD (xH (jV T) T.cN) (bD ⟨T.bA,T.eY⟩ (bD ⟨T.bA,T.U1⟩ (bD ⟨T.bA,T.dH⟩ xP)))))
def a6Z(T:Txt K mg A):bM ao P w K mg base (jY P w) 6 A.bY A.kJ ["self","plan","room"] (cJ K (j9 K A)) :=
 dc (S:=a7Z K A) (c:=gA) T.a88 (show aN ["self","plan","room"] ["self","plan","room"] _ from by walk_at "sc") rfl (by nofun) (by nofun) (by nofun) (bD (⟨_,_,_,_,[],[],rfl,T.ZO,(a3E T).mono (by decide),T.ZN,T.a4Y,.nil,λ_=>.nil⟩) (bD ⟨T.aM,T.dU⟩ (bD ⟨T.aM,T.rM⟩ (bD ⟨T.aM,T.sW⟩ (bD ⟨T.aM,T.gJ⟩ (bD ⟨T.aM,T.mJ⟩ xP))))))
def ZJ(T:Txt K mg A):bM ao P w K mg base (jY P w) 1 A.Rj A.Gz ["thing"] (cJ K (zO K A)) :=
 dc (S:=YI K A) (c:=YJ) T.tE.F (show aN ["thing"] ["thing"] _ from by walk_at "sc") rfl (by nofun) (by nofun) (by nofun) (bD ⟨T.aRK,aJG⟩ (bD ⟨T.oO,lV⟩ (bD ⟨T.nL,wF⟩ (bD (lx T.jU) (bD ⟨T.aRI,aJF⟩ xP)))))
def T9(T:Txt K mg A):bM ao P w K mg base (jY P w) 2 A.TQ A.vU ["thing"] (cJ K (iC K A)) :=
 dc (S:=alH K A) (c:=alG) T.jP.F (show aN ["thing"] ["thing"] _ from by walk_at "sc") rfl (by nofun) (by nofun) (by nofun) (bD (xH (ZJ T) T.tE) (bD T.yO.g xP))
def Yw(T:Txt K mg A):bM ao P w K mg base (jY P w) 2 A.Qo A.FZ ["thing"] (cJ K (Gx K A)) :=
 dc (S:=W8 K A) (c:=W9) T.yK.F (show aN ["thing"] ["thing"] _ from by walk_at "sc") rfl (by nofun) (by nofun) (by nofun) (bD (lx T.pO) (bD (xH (rA T) T.fD) xP))
def TF(T:Txt K mg A):bM ao P w K mg base (jY P w) 3 A.Sa A.zH ["thing"] (cJ K (jL K A)) :=
 dc (S:=ZY K A) (c:=ZZ) T.nA.F (show aN ["thing"] ["thing"] _ from by walk_at "sc") rfl (by nofun) (by nofun) (by nofun) (bD (xH (Yw T) T.yK) (bD T.sY.g xP))
def ZI(T:Txt K mg A):bM ao P w K mg base (jY P w) 2 A.Ri A.Gy ["thing","aisles","first","last"] (cJ K (zP K A)) :=
 dc (S:=YG K A) (c:=YH) T.tG.F (show aN ["thing","aisles","first","last"] ["thing","aisles","first","last"] _ from by walk_at "sc") rfl (by nofun) (by nofun) (by nofun) (bD ⟨T.O3,QX⟩ (bD ⟨T.oO,lV⟩ (bD ⟨T.nL,wF⟩ (bD (xH (rA T) T.fD) xP))))
def Yv(T:Txt K mg A):bM ao P w K mg base (jY P w) 4 A.Qn A.FY ["plan","thing"] (cJ K (Gw K A)) :=
 dc (S:=W6 K A) (c:=W7) T.yL.F (show aN ["plan","thing"] ["plan","thing"] _ from by walk_at "sc") rfl (by nofun) (by nofun) (by nofun) (bD (xH (Uc T) T.jO) (bD (xH (ZI T) T.tG) xP))
def nQ(T:Txt K mg A):bM ao P w K mg base (jY P w) 5 A.R9 A.zJ ["plan","thing"] (cJ K (bU K A)) :=
 dc (S:=ZW K A) (c:=ZX) T.dY.F (show aN ["plan","thing"] ["plan","thing"] _ from by walk_at "sc") rfl (by nofun) (by nofun) (by nofun) (bD (xH (Yv T) T.yL) (bD T.Bc.g xP))
def rB(T:Txt K mg A):bM ao P w K mg base (jY P w) 2 A.R8 A.zK ["thing","lots"] (cJ K (cC K A)) :=
 dc (S:=ZU K A) (c:=ZV) T.fG.F (show aN ["thing","lots"] ["thing","lots"] _ from by walk_at "sc") rfl (by nofun) (by nofun) (by nofun) (bD (xH (rA T) T.fD) (bD T.yf.g xP))
def Rb(T:Txt K mg A):bM ao P w K mg base (jY P w) 1 A.Qm A.FX ["stacks","spot","lot","more"] (cJ K (iY K A)) :=
 dc (S:=W4 K A) (c:=W5) T.uY.F (show aN ["stacks","spot","lot","more","held"] ["stacks","spot","lot","more"] _ from by walk_at "sc") rfl (by nofun) (by nofun) (by nofun) (bD ⟨T.nL,wF⟩ xP)
def a71(T:Txt K mg A):bM ao P w K mg base (jY P w) 6 A.fQ A.fU ["self","spot"] (cJ K (jA K A)) :=
 dc (S:=a82 K A) (c:=a81) T.pH (show aN ["self","spot"] ["self","spot"] _ from by walk_at "sc") rfl (by nofun) (by nofun) (by nofun) (bD ⟨T.bA,T.eY⟩ (bD (xH (nQ T) T.dY) (bD ⟨T.Iy,Jo⟩ (bD ⟨T.bA,T.dH⟩ xP))))
def a2C(T:Txt K mg A):bM ao P w K mg base (jY P w) 7 A.dM A.dN ["self","spot","amount"] (cJ K (eV K A)) :=
 dc (S:=a3C K A) (c:=a3B) T.lK (show aN ["self","spot","amount"] ["self","spot","amount"] _ from by walk_at "sc") rfl (by nofun) (by nofun) (by nofun) (bD (⟨_,_,_,[],[],T.bA,T.a8A,(a71 T).mono (by decide),T.pI,.nil,λ_=>.nil⟩) (bD ⟨T.bA,T.U1⟩ (bD T.C6.g xP)))
def acV(T:Txt K mg A):bM ao P w K mg base (jY P w) 8 A.lX A.lY ["self","lot","spot","amount"] (cJ K (jM K A)) :=
 dc (S:=ae5 K A) (c:=ae4) T.wU (show aN ["self","lot","spot","amount"] ["self","lot","spot","amount"] _ from by walk_at "sc") rfl (by nofun) (by nofun) (by nofun) (bD (lx T.gR) (bD (xH (rB T) T.fG) (bD ⟨T.bA,T.eY⟩ (bD (xH (nQ T) T.dY) (bD (xH (jV T) T.cN) (bD (⟨_,_,_,[],[],T.bA,T.a3D,(a2C T).mono (by decide),T.lM,.nil,λ_=>.nil⟩) (bD ⟨T.bA,T.dH⟩ (bD (xH (Rb T) T.uY) xP))))))))
def wZ(T:Txt K mg A):bM ao P w K mg base (jY P w) 9 A.o7 A.o8 ["self","ware","due","spot","amount"] (cJ K (cM K A)) :=
 dc (S:=ai3 K A) (c:=ai2) T.zV (show aN ["self","ware","due","spot","amount","lot"] ["self","ware","due","spot","amount"] _ from by walk_at "sc") rfl (by nofun) (by nofun) (by nofun) (bD (xH (T9 T) T.jP) (bD (xH (TF T) T.nA) (bD ⟨T.aM,T.rM⟩ (bD (xH (nQ T) T.dY) (bD (xH (jV T) T.cN) (bD ⟨T.aM,T.sW⟩ (bD T.sY.g (bD ⟨T.aM,T.gJ⟩ (bD ⟨T.nL,wF⟩ (bD (lx T.gR) (bD T.yf.g (bD ⟨T.aM,T.dU⟩ (bD (⟨_,_,_,[],[],T.bA,T.aeD,(acV T).mono (by decide),T.wV,.nil,λ_=>.nil⟩) (bD ⟨T.aM,T.mJ⟩ xP))))))))))))))
def wA(T:Txt K mg A):bM ao P w K mg base (jY P w) 6 A.fV A.fW ["self","lot","spot"] (cJ K (dG K A)) :=
 dc (S:=a84 K A) (c:=a83) T.pJ (show aN ["self","lot","spot"] ["self","lot","spot"] _ from by walk_at "sc") rfl (by nofun) (by nofun) (by nofun) (bD (lx T.gR) (bD (xH (rB T) T.fG) (bD ⟨T.bA,T.eY⟩ (bD (xH (nQ T) T.dY) (bD ⟨T.bA,T.dH⟩ xP)))))
def oZ(T:Txt K mg A):bM ao P w K mg base (jY P w) 7 A.d7 A.d8 ["self","lot","spot","amount"] (cJ K (cH K A)) :=
 dc (S:=a1S K A) (c:=a1R) T.jQ (show aN ["self","lot","spot","amount"] ["self","lot","spot","amount"] _ from by walk_at "sc") rfl (by nofun) (by nofun) (by nofun) (bD (⟨_,_,_,[],[],T.bA,T.yM,(wA T).mono (by decide),T.lA,.nil,λ_=>.nil⟩) (bD T.qY.g xP))
def a9T(T:Txt K mg A):bM ao P w K mg base (jY P w) 8 A.jE A.jF ["self","lot","spot","amount"] (cJ K (iV K A)) :=
 dc (S:=ac3 K A) (c:=ac2) T.uZ (show aN ["self","lot","spot","amount"] ["self","lot","spot","amount"] _ from by walk_at "sc") rfl (by nofun) (by nofun) (by nofun) (bD (lx T.gR) (bD (xH (rB T) T.fG) (bD ⟨T.bA,T.eY⟩ (bD (xH (nQ T) T.dY) (bD (xH (jV T) T.cN) (bD (⟨_,_,_,[],[],T.bA,T.qX,(oZ T).mono (by decide),T.eX,.nil,λ_=>.nil⟩) (bD ⟨T.bA,T.dH⟩ (bD (xH (Rb T) T.uY) xP))))))))
def a8C(T:Txt K mg A):bM ao P w K mg base (jY P w) 8 A.iQ A.iR ["self","lot","spot","amount"] (cJ K (kY K A)) :=
 dc (S:=a9O K A) (c:=a9N) T.rG (show aN ["self","lot","spot","amount"] ["self","lot","spot","amount"] _ from by walk_at "sc") rfl (by nofun) (by nofun) (by nofun) (bD ⟨T.aM,T.gJ⟩ (bD ⟨T.nL,wF⟩ (bD (xH (rB T) T.fG) (bD ⟨T.aM,T.rM⟩ (bD (xH (nQ T) T.dY) (bD (xH (jV T) T.cN) (bD ⟨T.aM,T.dU⟩ (bD (⟨_,_,_,[],[],T.bA,T.qX,(oZ T).mono (by decide),T.eX,.nil,λ_=>.nil⟩) xP))))))))
def am4(T:Txt K mg A):bM ao P w K mg base (jY P w) 9 A.tY A.tZ ["self","lot","spot","amount"] (cJ K (vZ K A)) :=
 dc (S:=ZS K A) (c:=ZT) T.LJ (show aN ["self","lot","spot","amount"] ["self","lot","spot","amount"] _ from by walk_at "sc") rfl (by nofun) (by nofun) (by nofun) (bD (⟨_,_,_,[],[],T.aM,T.a9R,(a8C T).mono (by decide),T.rH,.nil,λ_=>.nil⟩) (bD ⟨T.aM,T.dU⟩ (bD (⟨_,_,_,[],[],T.bA,T.acL,(a9T T).mono (by decide),T.v7,.nil,λ_=>.nil⟩) (bD ⟨T.aM,T.mJ⟩ xP))))
def wB(T:Txt K mg A):bM ao P w K mg base (jY P w) 1 A.fX A.fY ["self"] (cJ K (cD K A)) :=
 dc (S:=a86 K A) (c:=a85) T.pK (show aN ["self"] ["self"] _ from by walk_at "sc") rfl (by nofun) (by nofun) (by nofun) (bD ⟨T.aM,T.sW⟩ (bD (lx T.pO) (bD T.sY.g (bD ⟨T.aM,T.mJ⟩ xP))))
def UN(T:Txt K mg A):bM ao P w K mg base (jY P w) 1 A.lZ A.m6 ["self"] (cJ K (gC K A)) :=
 dc (S:=ae7 K A) (c:=ae6) T.wW (show aN ["self"] ["self"] _ from by walk_at "sc") rfl (by nofun) (by nofun) (by nofun) (bD ⟨T.aM,T.sW⟩ xP)
def aeI(T:Txt K mg A):bM ao P w K mg base (jY P w) 1 A.o9 A.oA ["self"] (cJ K (m9 K A)) :=
 dc (S:=ai5 K A) (c:=ai4) T.zX (show aN ["self"] ["self"] _ from by walk_at "sc") rfl (by nofun) (by nofun) (by nofun) (bD ⟨T.aM,T.gJ⟩ (bD ⟨T.Oc,PQ⟩ xP))
def aeJ(T:Txt K mg A):bM ao P w K mg base (jY P w) 1 A.oE A.oF ["self"] (cJ K (mD K A)) :=
 dc (S:=ai7 K A) (c:=ai6) T.zZ (show aN ["self"] ["self"] _ from by walk_at "sc") rfl (by nofun) (by nofun) (by nofun) (bD ⟨T.aM,T.mJ⟩ (bD ⟨T.Oc,PQ⟩ xP))
def a9U(T:Txt K mg A):bM ao P w K mg base (jY P w) 7 A.jG A.jH ["self","lot","spot"] (cJ K (mY K A)) :=
 dc (S:=ac5 K A) (c:=ac4) T.v8 (show aN ["self","lot","spot"] ["self","lot","spot"] _ from by walk_at "sc") rfl (by nofun) (by nofun) (by nofun) (bD ⟨T.aM,T.gJ⟩ (bD ⟨T.nL,wF⟩ (bD (xH (rB T) T.fG) (bD ⟨T.aM,T.dU⟩ (bD (⟨_,_,_,[],[],T.bA,T.yM,(wA T).mono (by decide),T.lA,.nil,λ_=>.nil⟩) xP)))))
def am5(T:Txt K mg A):bM ao P w K mg base (jY P w) 1 A.R7 A.zL ["stacks"] (cJ K (Mh K A)) :=
 dc (S:=ZQ K A) (c:=ZR) T.pL.F (show aN ["stacks","told","spot"] ["stacks"] _ from by walk_at "sc") rfl (by nofun) (by nofun) (by nofun) (bD ⟨T.Qj,RG⟩ (bD ⟨T.Qj,RG⟩ (bD ⟨T.aML,aCT⟩ xP)))
def a8D(T:Txt K mg A):bM ao P w K mg base (jY P w) 2 A.iT A.iU ["self"] (cJ K (kZ K A)) :=
 dc (S:=a9Q K A) (c:=a9P) T.rJ (show aN ["self"] ["self"] _ from by walk_at "sc") rfl (by nofun) (by nofun) (by nofun) (bD ⟨T.bA,T.dH⟩ (bD (xH (am5 T) T.pL) xP))
def acW(T:Txt K mg A):bM ao P w K mg base (jY P w) 3 A.m7 A.m8 ["self"] (cJ K (oK K A)) :=
 dc (S:=ae9 K A) (c:=ae8) T.wX (show aN ["self"] ["self"] _ from by walk_at "sc") rfl (by nofun) (by nofun) (by nofun) (bD ⟨T.aM,T.dU⟩ (bD (⟨_,_,_,[],[],T.bA,T.a9S,(a8D T).mono (by decide),T.rK,.nil,λ_=>.nil⟩) xP))
def a9V(T:Txt K mg A):bM ao P w K mg base (jY P w) 1 A.jJ A.jK ["self","lot","ware","day"] (cJ K (eF K A)) :=
 dc (S:=ac7 K A) (c:=ac6) T.vA (show aN ["self","lot","ware","day"] ["self","lot","ware","day"] _ from by walk_at "sc") rfl (by nofun) (by nofun) (by nofun) (bD ⟨T.aM,T.gJ⟩ xP)
def UM(T:Txt K mg A):bM ao P w K mg base (jY P w) 4 A.fC A.qG ["self","ware","day"] (cJ K (gF K A)) :=
 dc (S:=aeA K A) (c:=mF) T.aeF (show aN ["self","ware","day","grains","held"] ["self","ware","day"] _ from by walk_at "sc") rfl (by nofun) (by nofun) (by nofun) (bD (xH (T9 T) T.jP) (bD (xH (TF T) T.nA) (bD (⟨_,_,_,[],[],T.aM,T.aeE,(acW T).mono (by decide),T.wY,.nil,λ_=>.nil⟩) (bD (⟨_,_,_,[],[],T.aM,T.acN,(a9V T).mono (by decide),T.vB,.nil,λ_=>.nil⟩) (bD ⟨T.Iy,Jo⟩ xP)))))
def a9W(T:Txt K mg A):bM ao P w K mg base (jY P w) 1 A.UU A.oG ["_law_script","_law_k"] (cJ K (dI K A)) :=
 dc (S:=ac9 K A) (c:=ac8) T.gG.F (show aN ["_law_script","_law_k","_law_mixed"] ["_law_script","_law_k"] _ from by walk_at "sc") rfl (by nofun) (by nofun) (by nofun) (bD ⟨T.nL,wF⟩ xP)
def Ut(T:Txt K mg A):bM ao P w K mg base (jY P w) 1 A.Ul A.sO ["_law_found"] (cJ K (iZ K A)) :=
 dc (S:=ai9 K A) (c:=ai8) T.iD.F (show aN ["_law_found"] ["_law_found"] _ from by walk_at "sc") rfl (by nofun) (by nofun) (by nofun) (bD ⟨T.SZ,OK⟩ (bD ⟨T.oO,lV⟩ (bD ⟨T.Od,PR⟩ xP)))
def acX(T:Txt K mg A):bM ao P w K mg base (jY P w) 2 A.UE A.qH ["_law_house"] (cJ K (oM K A)) :=
 dc (S:=aeC K A) (c:=aeB) T.j4.F (show aN ["_law_house","_law_turn","_law_told"] ["_law_house"] _ from by walk_at "sc") rfl (by nofun) (by nofun) (by nofun) (bD ⟨T.O4,Qv⟩ (bD (⟨_,_,_,[],[],T.aM,T.yN,(wB T).mono (by decide),T.lB,.nil,λ_=>.nil⟩) (bD T.sY.g (bD (⟨_,_,_,[],[],T.aM,T.Uw,(UN T).mono (by decide),T.qK,.nil,λ_=>.nil⟩) xP))))
def a9X(T:Txt K mg A):bM ao P w K mg base (jY P w) 10 A.UT A.oH ["_law_house","_law_ware","_law_due","_law_spot","_law_amount"] (cJ K (aR K A)) :=
 dc (S:=acB K A) (c:=acA) T.gH.F (show aN ["_law_house","_law_ware","_law_due","_law_spot","_law_amount"] ["_law_house","_law_ware","_law_due","_law_spot","_law_amount"] _ from by walk_at "sc") rfl (by nofun) (by nofun) (by nofun) (bD (⟨_,_,_,[],[],T.aM,T.zW,(wZ T).mono (by decide),T.oN,.nil,λ_=>.nil⟩) (bD T.yf.g (bD T.yO.g (bD T.sY.g (bD T.Bc.g (bD T.pN.g xP))))))
def aiM(T:Txt K mg A):bM ao P w K mg base (jY P w) 11 A.TN A.vV ["_law_house","_law_lots","_law_day"] (cJ K (sV K A)) :=
 dc (S:=alJ K A) (c:=alI) T.nP.F (show aN ["_law_house","_law_lots","_law_day","_law_lot","_law_words"] ["_law_house","_law_lots","_law_day"] _ from by walk_at "sc") rfl (by nofun) (by nofun) (by nofun) (bD ⟨T.nL,wF⟩ (bD (⟨_,_,_,[],[],T.aM,T.zW,(wZ T).mono (by decide),T.oN,.nil,λ_=>.nil⟩) (bD (xH (Ut T) T.iD) (bD (xH (a9X T) T.gH) xP))))
def aMX(T:Txt K mg A):bM ao P w K mg base (jY P w) 12 A.xi A.S0 ["_law_script"] (cJ K (Jc K A)) :=
 dc (S:=aRG K A) (c:=B9) T.aRH.F (show aN ["_law_script","_law_first","_law_house","_law_days","_law_step","_law_lots","_law_rows","_law_day","_law_found","_law_due","_law_kept"] ["_law_script"] _ from by walk_at "sc") rfl (by nofun) (by nofun) (by nofun) (bD (xH (a9W T) T.gG) (bD (⟨_,_,_,_,[],[],rfl,T.W3,(a6Z T).mono (by decide),T.W2,T.a89,.nil,λ_=>.nil⟩) (bD ⟨T.O4,Qv⟩ (bD (⟨_,_,_,[],[],T.aM,T.yN,(wB T).mono (by decide),T.lB,.nil,λ_=>.nil⟩) (bD (xH (Ut T) T.iD) (bD ⟨T.nL,wF⟩ (bD ⟨T.aRJ,aJE⟩ (bD (⟨_,_,_,[],[],T.aM,T.zW,(wZ T).mono (by decide),T.oN,.nil,λ_=>.nil⟩) (bD (xH (aiM T) T.nP) (bD (⟨_,_,_,[],[],T.aM,T.aiB,(aeI T).mono (by decide),T.zY,.nil,λ_=>.nil⟩) (bD (⟨_,_,_,[],[],T.aM,T.aiC,(aeJ T).mono (by decide),T.Ms,.nil,λ_=>.nil⟩) (bD (⟨_,_,_,[],[],T.aM,T.ZP,(am4 T).mono (by decide),T.LF,.nil,λ_=>.nil⟩) (bD (⟨_,_,_,[],[],T.aM,T.acM,(a9U T).mono (by decide),T.v9,.nil,λ_=>.nil⟩) (bD (⟨_,_,_,[],[],T.aM,T.Uw,(UN T).mono (by decide),T.qK,.nil,λ_=>.nil⟩) (bD ⟨T.Iy,Jo⟩ (bD (T.aeH.elim λt b=>⟨_,_,_,[.int 0 t],[.int 0],T.aM,T.Uv,(UM T).mono (by decide),b,.cons ⟨t,rfl⟩ .nil,λ_=>.cons (.int _) .nil⟩) (bD (⟨_,_,_,[],[],T.aM,T.Uv,(UM T).mono (by decide),T.aeG,.nil,λ_=>.nil⟩) (bD (xH (acX T) T.j4) xP))))))))))))))))))
end
abbrev EF(K:Fg):Sp:=λvs H Q _=>∃(a:bw)(ns:List Int),vs=[.ref a]/\cE K H a (ns.map V.int)/\ns.length<=63/\∀H',Q (.bl ak) H'
variable{mg:Str->Option bh}
def aFT{K:Fg}{A:iS}(T:Txt K mg A):∀vs H Q E,EF K vs H Q E->cJ K (Jc K A) vs H Q E:=by
 rintro vs H Q E ⟨a,ns,rfl,hS,hl,k⟩;refine⟨[.ref a],λb=>if b=a then aj (.fo (ns.map D.int))else au,λd _=>d=.bl ak,λ_ _=>False,.cons (.ref a) .nil,λb o e=>?_,main T a ns hl _ (if_pos rfl),λv H' d G' r g e=>?_,λC H' G' g z=>z.elim⟩
 .have e2:(if b=a then aj (GO.fo (ns.map D.int))else au)=aj o:=e;by_cases hb:b=a
  .subst hb;rw[if_pos rfl]at e2;cases e2;exact⟨_,hS,cV.ints ns⟩
  .rw[if_neg hb]at e2;cases e2
 .subst e;cases r;exact k H'
abbrev Cb(K:Fg)(x q:Str)(st:jq)(f:bw):Prop:=∃oc kV dc pm cd ct od an sl,K.lookup f=aj ⟨oc,od,.func (qe x q (cW st) (cB st) (aX st) .none kV dc pm an cd ct),sl⟩/\tI K cd q=ak/\qp K (.ref f)=ak
def Cb.get{K:Fg}{x q:Str}{st:jq}{f:bw}(b:Cb K x q st f)(ps:List Str)(h:∀kV dc pm an cd ct,∀us:List bh,us.length=ps.length->uf (qe x q (cW st) (cB st) (aX st) .none kV dc pm an cd ct) ⟨us,[]⟩=pure (ps.zip us)):∃d,cK K x q st f d/\Binds K d ps []/\qp K (.ref f)=ak:=by
 let⟨oc,kV,dc,pm,cd,ct,od,an,sl,l,c,k⟩:=b;exact⟨_,CA (st:=st) l c k,Pk (h _ _ _ _ _ _),k⟩
abbrev Fb(K:Fg)(x:Str)(st:jq)(f:bw):Prop:=ni K jg x=aj (aj (.ref f))/\Cb K x x st f
variable{us:List bh}
def Ao(h:us.length=1)(k:∀a,uf fd ⟨[a],[]⟩=pure (ps.zip [a])):uf fd ⟨us,[]⟩=pure (ps.zip us):=match us,h with|[a],_=>k a
def aVW(h:us.length=2)(k:∀a b,uf fd ⟨[a,b],[]⟩=pure (ps.zip [a,b])):uf fd ⟨us,[]⟩=pure (ps.zip us):=match us,h with|[a,b],_=>k a b
def Kr(h:us.length=3)(k:∀a b c,uf fd ⟨[a,b,c],[]⟩=pure (ps.zip [a,b,c])):uf fd ⟨us,[]⟩=pure (ps.zip us):=match us,h with|[a,b,c],_=>k a b c
def An(h:us.length=4)(k:∀a b c d,uf fd ⟨[a,b,c,d],[]⟩=pure (ps.zip [a,b,c,d])):uf fd ⟨us,[]⟩=pure (ps.zip us):=match us,h with|[a,b,c,d],_=>k a b c d
def aVX(h:us.length=5)(k:∀a b c d e,uf fd ⟨[a,b,c,d,e],[]⟩=pure (ps.zip [a,b,c,d,e])):uf fd ⟨us,[]⟩=pure (ps.zip us):=match us,h with|[a,b,c,d,e],_=>k a b c d e
def d4{q:Str}{st:jq}(k:∀kV dc pm an cd ct a,uf (qe q q (cW st) (cB st) (aX st) .none kV dc pm an cd ct) ⟨[a],[]⟩=pure (ps.zip [a])):∀kV dc pm an cd ct,∀us:List bh,us.length=1->uf (qe q q (cW st) (cB st) (aX st) .none kV dc pm an cd ct) ⟨us,[]⟩=pure (ps.zip us):=λ_ _ _ _ _ _ us h=>by
 rcases us with _|⟨a,_|⟨_,_⟩⟩<;>first|exact k _ _ _ _ _ _ a|simp at h
def qr{q:Str}{st:jq}(k:∀kV dc pm an cd ct a b,uf (qe q q (cW st) (cB st) (aX st) .none kV dc pm an cd ct) ⟨[a,b],[]⟩=pure (ps.zip [a,b])):∀kV dc pm an cd ct,∀us:List bh,us.length=2->uf (qe q q (cW st) (cB st) (aX st) .none kV dc pm an cd ct) ⟨us,[]⟩=pure (ps.zip us):=λ_ _ _ _ _ _ us h=>by
 rcases us with _|⟨a,_|⟨b,_|⟨_,_⟩⟩⟩<;>first|exact k _ _ _ _ _ _ a b|simp at h
def Ss{q:Str}{st:jq}(k:∀kV dc pm an cd ct a b c,uf (qe q q (cW st) (cB st) (aX st) .none kV dc pm an cd ct) ⟨[a,b,c],[]⟩=pure (ps.zip [a,b,c])):∀kV dc pm an cd ct,∀us:List bh,us.length=3->uf (qe q q (cW st) (cB st) (aX st) .none kV dc pm an cd ct) ⟨us,[]⟩=pure (ps.zip us):=λ_ _ _ _ _ _ us h=>by
 rcases us with _|⟨a,_|⟨b,_|⟨c,_|⟨_,_⟩⟩⟩⟩<;>first|exact k _ _ _ _ _ _ a b c|simp at h
def Sr{q:Str}{st:jq}(k:∀kV dc pm an cd ct a b c d,uf (qe q q (cW st) (cB st) (aX st) .none kV dc pm an cd ct) ⟨[a,b,c,d],[]⟩=pure (ps.zip [a,b,c,d])):∀kV dc pm an cd ct,∀us:List bh,us.length=4->uf (qe q q (cW st) (cB st) (aX st) .none kV dc pm an cd ct) ⟨us,[]⟩=pure (ps.zip us):=λ_ _ _ _ _ _ us h=>by
 rcases us with _|⟨a,_|⟨b,_|⟨c,_|⟨d,_|⟨_,_⟩⟩⟩⟩⟩<;>first|exact k _ _ _ _ _ _ a b c d|simp at h
def aVY{st:jq}(k:∀kV dc pm an cd ct a b c d e,uf (qe q q (cW st) (cB st) (aX st) .none kV dc pm an cd ct) ⟨[a,b,c,d,e],[]⟩=pure (ps.zip [a,b,c,d,e])):∀kV dc pm an cd ct,∀us:List bh,us.length=5->uf (qe q q (cW st) (cB st) (aX st) .none kV dc pm an cd ct) ⟨us,[]⟩=pure (ps.zip us):=λ_ _ _ _ _ _ us h=>by
 rcases us with _|⟨a,_|⟨b,_|⟨c,_|⟨d,_|⟨e,_|⟨_,_⟩⟩⟩⟩⟩⟩<;>first|exact k _ _ _ _ _ _ a b c d e|simp at h
def Fb.get{K:Fg}{q:Str}{st:jq}{f:bw}{h:jw}{mg:Str->Option bh}(b:Fb K q st f)(XK:K.In h)(GG:h.Ns jg mg)(ps:List Str)(h:∀kV dc pm an cd ct,∀us:List bh,us.length=ps.length->uf (qe q q (cW st) (cB st) (aX st) .none kV dc pm an cd ct) ⟨us,[]⟩=pure (ps.zip us)):∃d,d3 K mg q st f d ps:=by
 let⟨d,F,B,_⟩:=b.2.get ps h;exact⟨d,F,B,vh XK GG b.1⟩
abbrev Mb(K:Fg)(c:bw)(x q:Str)(st:jq)(f:bw):Prop:=jt K (.ref c) x=aj (aj (.ref f))/\tm K (.ref f)=ak/\Cb K x q st f
def Mb.get{K:Fg}{c:bw}{x q:Str}{st:jq}{f:bw}(b:Mb K c x q st f)(ps:List Str)(h:∀kV dc pm an cd ct,∀us:List bh,us.length=ps.length->uf (qe x q (cW st) (cB st) (aX st) .none kV dc pm an cd ct) ⟨us,[]⟩=pure (ps.zip us)):∃d,cK K x q st f d/\Binds K d ps []/\jt K (.ref c) x=aj (aj (.ref f))/\tm K (.ref f)=ak/\qp K (.ref f)=ak:=by
 let⟨d,F,B,k⟩:=b.2.2.get ps h;exact⟨d,F,B,b.1,b.2.1,k⟩
structure Eb(K:Fg)(x:Str)(c:bw):Prop where
 b:ni K jg x=aj (aj (.ref c))
 x:yw K c [.type "ValueError",.type "Exception",.type "BaseException",.type "object"] "ValueError.__new__"=ak
 cs:(vg K c).isSome=ak
 ty:x4 K (.ref c)=aj (.type "type")
 be:jc K (.ref c) (.type "BaseException")=aj ak
variable{h:jw}
def Eb.gt{K:Fg}{x:Str}{c:bw}(e:Eb K x c)(XK:K.In h)(GG:h.Ns jg mg):kX K mg x c:=⟨vh XK GG e.b,e.x,e.cs,e.ty,e.be⟩
def all_mk{l:PySem.W.OpenLaw}{w:je}{K:Fg}{fa:bw}(XK:K.In h)(GG:h.Ns jg mg)(Wo:mg "law"=aj (.ref fa))
  (fD:Fb K "is_whole" Si ZH)
  (tD:Fb K "is_plan" Rn Yu)
  (jO:Fb K "need_plan" TZ χ)
  (nO:Fb K "is_amount" TY ξ)
  (cN:Fb K "need_amount" UL aeK)
  (bH:jt K (.ref cI) "__init__"=aj (aj (.ref iH)))
  (iI:tm K (.ref iH)=ak)
  (nC:K.lookup iH=aj ⟨amJ,amK,.func (qe "__init__" "Shelves.__init__" (cW dW) (cB dW) (aX dW) (.ref a3F) amL amM amN amO a3G amP),amQ⟩)
  (dX:tI K a3G "Shelves.__init__"=ak)
  (iJ:qp K (.ref iH)=ak)
  (iK:K.lookup a3F=aj ⟨amR,amS,.seq #[.int 1000 a3H] amT,amU⟩)
  (bY:jt K (.ref cL) "__init__"=aj (aj (.ref lC)))
  (lD:tm K (.ref lC)=ak)
  (pQ:K.lookup lC=aj ⟨asC,asD,.func (qe "__init__" "House.__init__" (cW fP) (cB fP) (aX fP) (.ref a72) asF asG asH asI a73 asJ),asK⟩)
  (gA:tI K a73 "House.__init__"=ak)
  (lE:qp K (.ref lC)=ak)
  (lF:K.lookup a72=aj ⟨asL,asM,.seq #[.int 1000 a74] asN,asO⟩)
  (tE:Fb K "is_ware" Rm Yt)
  (jP:Fb K "need_ware" TX ν)
  (yK:Fb K "is_day" Qr aA9)
  (nA:Fb K "need_day" Sh ZG)
  (tG:Fb K "is_pair" Rl Ys)
  (yL:Fb K "is_bin" Qq aAA)
  (dY:Fb K "need_bin" Sg ZF)
  (fG:Fb K "need_lot" Sf ZE)
  (uY:Fb K "change" Qp aAB)
  (pR:Mb K cI "filled" "Shelves.filled" xR a8E)
  (lO:Mb K cI "need_room" "Shelves.need_room" rT a3I)
  (xA:Mb K cI "put" "Shelves.put" UK aeL)
  (Mr:Mb K cL "come" "House.come" Ur aiN)
  (pU:Mb K cI "amount" "Shelves.amount" xT a8F)
  (jW:Mb K cI "need_there" "Shelves.need_there" qQ a2F)
  (vG:Mb K cI "take" "Shelves.take" U0 acY)
  (rN:Mb K cL "need_go" "House.need_go" Ve a9Y)
  (LD:Mb K cL "go" "House.go" Se ZD)
  (pW:Mb K cL "next_day" "House.next_day" xU a8G)
  (xB:Mb K cL "today" "House.today" UJ aeM)
  (Mq:Mb K cL "lots" "House.lots" Uq aiO)
  (Mp:Mb K cL "rows" "House.rows" Uo aiP)
  (vH:Mb K cL "amount" "House.amount" UZ acZ)
  (pL:Fb K "in_order" Sd ZC)
  (rO:Mb K cI "lying" "Shelves.lying" Vd a9Z)
  (xC:Mb K cL "lying" "House.lying" UI aeN)
  (vI:Mb K cL "serves" "House.serves" UY ad0)
  (fC:jt K (.ref cL) "total"=aj (aj (.ref qL)))
  (xD:tm K (.ref qL)=ak)
  (xE:K.lookup qL=aj ⟨aAC,aAD,.func (qe "total" "House.total" (cW lW) (cB lW) (aX lW) (.ref ad1) aAE aAF aAG aAH ad2 aAI),aAJ⟩)
  (mF:tI K ad2 "House.total"=ak)
  (qM:qp K (.ref qL)=ak)
  (qN:K.lookup ad1=aj ⟨aAK,aAL,.seq #[.int 0 ad3] aAM,aAN⟩)
  (gG:Fb K "_law_cell_at" UX ad4)
  (iD:Fb K "_law_whole" Um aiQ)
  (j4:Fb K "_law_no_day" UH aeO)
  (gH:Fb K "_law_refused" UW ad5)
  (nP:Fb K "_law_full" TV μ)
  (xi:ni K jg "law"=aj (aj (.ref Lk)))
  (Lj:K.lookup Lk=aj ⟨aVZ,aW0,.func (qe "law" "law" (cW Ca) (cB Ca) (aX Ca) .none aW1 aW2 aW3 aW4 aMZ aW5),aW6⟩)
  (B9:tI K aMZ "law"=ak)
  (Li:qp K (.ref Lk)=ak)
  (LC:ni K jg "Shelves"=aj (aj (.ref cI)))
  (LB:Bm K cI Str.empty=ak)
  (Ly:C3 K cI=ak)
  (Lx:Gq K cI=ak)
  (Lw:jt K (.ref cI) "__setattr__"=aj (aj (.builtin "object.__setattr__")))
  (Lv:GD K cI=ak)
  (Lu:qp K (.ref cI)=ak)
  (J6:ni K jg "House"=aj (aj (.ref cL)))
  (J3:Bm K cL Str.empty=ak)
  (JZ:C3 K cL=ak)
  (JY:Gq K cL=ak)
  (JX:jt K (.ref cL) "__setattr__"=aj (aj (.builtin "object.__setattr__")))
  (JW:GD K cL=ak)
  (JV:qp K (.ref cL)=ak)
  (Mo:jt K (.ref cL) "day"=aj au)
  (xF:jt K (.ref cL) "done"=aj au)
  (vJ:jt K (.ref cL) "known"=aj au)
  (rP:jt K (.ref cL) "layout"=aj au)
  (pX:jt K (.ref cL) "shelves"=aj au)
  (oU:jt K (.ref cI) "layout"=aj au)
  (rQ:jt K (.ref cI) "room"=aj au)
  (oW:jt K (.ref cI) "stacks"=aj au)
  (sX:Eb K "DepotError" aiR)
  (C7:Eb K "NoPlan" aAR)
  (yO:Eb K "NoWare" vK)
  (sY:Eb K "NoDay" ya)
  (Bc:Eb K "NoBin" x9)
  (yf:Eb K "NoLot" x8)
  (pN:Eb K "NoAmount" nD)
  (C6:Eb K "NoRoom" aAS)
  (qY:Eb K "TooLittle" θ)
  (jR:jc K (.ref vK) (.ref x8)=aj ao)
  (iW:jc K (.ref vK) (.ref vK)=aj ak)
  (fH:jc K (.ref ya) (.ref ya)=aj ak)
  (j5:jc K (.ref ya) (.ref x8)=aj ao)
  (gK:jc K (.ref ya) (.ref vK)=aj ao)
  (mK:jc K (.ref x9) (.ref x9)=aj ak)
  (mL:jc K (.ref x9) (.ref ya)=aj ao)
  (mQ:jc K (.ref x9) (.ref x8)=aj ao)
  (jT:jc K (.ref x9) (.ref vK)=aj ao)
  (mR:jc K (.ref x8) (.ref x8)=aj ak)
  (dO:jc K (.ref nD) (.ref nD)=aj ak)
  (gM:jc K (.ref nD) (.ref x9)=aj ao)
  (gO:jc K (.ref nD) (.ref ya)=aj ao)
  (gP:jc K (.ref nD) (.ref x8)=aj ao)
  (eZ:jc K (.ref nD) (.ref vK)=aj ao)
  (mU:ni K jg "MOST_AISLES"=aj (aj (.int 26 aeP)))
  (mV:ni K jg "MOST_PLACES"=aj (aj (.int 99 aeQ)))
  (jU:ni K jg "LONGEST_WARE"=aj (aj (.int 12 adD)))
  (pO:ni K jg "LAST_DAY"=aj (aj (.int 9999 ZB)))
  (mW:ni K jg "MOST_AMOUNT"=aj (aj (.int 1000000 aeR)))
  (vC:ni K jg "MOST_GAP"=aj (aj (.int 20 ZA)))
  (gR:ni K jg "MOST_LOTS"=aj (aj (.int 1000 η)))
  (Lh:ni K jg "all"=aj au)
  (IZ:ni K jg "bool"=aj au)
  (IY:ni K jg "dict"=aj au)
  (Lg:ni K jg "int"=aj au)
  (Mn:ni K jg "isinstance"=aj au)
  (Lf:ni K jg "len"=aj au)
  (IX:ni K jg "list"=aj au)
  (Ld:ni K jg "min"=aj au)
  (Jw:ni K jg "range"=aj au)
  (JU:ni K jg "sorted"=aj au)
  (Lc:ni K jg "str"=aj au)
  (Lb:ni K jg "sum"=aj au)
  (Jv:ni K jg "tuple"=aj au) :
  ∃fd:jm,(∀(s:dg)(v:bh),BindsTo s fd ⟨[v],[]⟩ [("_law_script",v)])/\∀base:jw,K.In base->base.Ns jg mg->bM ao l.prog w K mg base (jY l.prog w) 12 fa fd ["_law_script"] (EF K):=by
 have e:=Wo.symm.trans (vh XK GG xi);cases e;let⟨zG,Zz⟩:=fD.get XK GG ["thing","least","most"] (Ss λ_ _ _ _ _ _ _ _ _=>rfl);let⟨GA,Yr⟩:=tD.get XK GG ["thing"] (d4 λ_ _ _ _ _ _ _=>rfl);let⟨vQ,ζ⟩:=jO.get XK GG ["plan"] (d4 λ_ _ _ _ _ _ _=>rfl);let⟨vR,ε⟩:=nO.get XK GG ["thing"] (d4 λ_ _ _ _ _ _ _=>rfl);let⟨qF,aeS⟩:=cN.get XK GG ["thing"] (d4 λ_ _ _ _ _ _ _=>rfl);let⟨Gz,Yq⟩:=tE.get XK GG ["thing"] (d4 λ_ _ _ _ _ _ _=>rfl);let⟨vU,δ⟩:=jP.get XK GG ["thing"] (d4 λ_ _ _ _ _ _ _=>rfl);let⟨FZ,aAZ⟩:=yK.get XK GG ["thing"] (d4 λ_ _ _ _ _ _ _=>rfl);let⟨zH,Zy⟩:=nA.get XK GG ["thing"] (d4 λ_ _ _ _ _ _ _=>rfl);let⟨Gy,Yp⟩:=tG.get XK GG ["thing","aisles","first","last"] (Sr λ_ _ _ _ _ _ _ _ _ _=>rfl);let⟨FY,aB0⟩:=yL.get XK GG ["plan","thing"] (qr λ_ _ _ _ _ _ _ _=>rfl);let⟨zJ,Zx⟩:=dY.get XK GG ["plan","thing"] (qr λ_ _ _ _ _ _ _ _=>rfl);let⟨zK,Zw⟩:=fG.get XK GG ["thing","lots"] (qr λ_ _ _ _ _ _ _ _=>rfl);let⟨FX,aB1⟩:=uY.get XK GG ["stacks","spot","lot","more"] (Sr λ_ _ _ _ _ _ _ _ _ _=>rfl);let⟨fU,pH,pI,fQ,a8H,a8I⟩:=pR.get ["self","spot"] λ_ _ _ _ _ _ us hl=>aVW hl λ_ _=>rfl;let⟨dN,lK,lM,dM,a3J,a3K⟩:=lO.get ["self","spot","amount"] λ_ _ _ _ _ _ us hl=>Kr hl λ_ _ _=>rfl;let⟨lY,wU,wV,lX,aeT,aeU⟩:=xA.get ["self","lot","spot","amount"] λ_ _ _ _ _ _ us hl=>An hl λ_ _ _ _=>rfl;let⟨o8,zV,oN,o7,aiU,aiV⟩:=Mr.get ["self","ware","due","spot","amount"] λ_ _ _ _ _ _ us hl=>aVX hl λ_ _ _ _ _=>rfl;let⟨fW,pJ,lA,fV,a8J,a8K⟩:=pU.get ["self","lot","spot"] λ_ _ _ _ _ _ us hl=>Kr hl λ_ _ _=>rfl;let⟨d8,jQ,eX,d7,a2G,a2H⟩:=jW.get ["self","lot","spot","amount"] λ_ _ _ _ _ _ us hl=>An hl λ_ _ _ _=>rfl;let⟨jF,uZ,v7,jE,adF,adG⟩:=vG.get ["self","lot","spot","amount"] λ_ _ _ _ _ _ us hl=>An hl λ_ _ _ _=>rfl;let⟨iR,rG,rH,iQ,aa0,aa1⟩:=rN.get ["self","lot","spot","amount"] λ_ _ _ _ _ _ us hl=>An hl λ_ _ _ _=>rfl;let⟨tZ,LJ,LF,tY,Zv,Zu⟩:=LD.get ["self","lot","spot","amount"] λ_ _ _ _ _ _ us hl=>An hl λ_ _ _ _=>rfl;let⟨fY,pK,lB,fX,a8L,a8M⟩:=pW.get ["self"] λ_ _ _ _ _ _ us hl=>Ao hl λ_=>rfl;let⟨m6,wW,qK,lZ,aeV,aeW⟩:=xB.get ["self"] λ_ _ _ _ _ _ us hl=>Ao hl λ_=>rfl;let⟨oA,zX,zY,o9,aiW,aiX⟩:=Mq.get ["self"] λ_ _ _ _ _ _ us hl=>Ao hl λ_=>rfl;let⟨oF,zZ,Ms,oE,aiY,aiZ⟩:=Mp.get ["self"] λ_ _ _ _ _ _ us hl=>Ao hl λ_=>rfl;let⟨jH,v8,v9,jG,adH,adI⟩:=vH.get ["self","lot","spot"] λ_ _ _ _ _ _ us hl=>Kr hl λ_ _ _=>rfl;let⟨zL,Zt⟩:=pL.get XK GG ["stacks"] (d4 λ_ _ _ _ _ _ _=>rfl);let⟨iU,rJ,rK,iT,aa2,aa3⟩:=rO.get ["self"] λ_ _ _ _ _ _ us hl=>Ao hl λ_=>rfl;let⟨m8,wX,wY,m7,aeX,aeY⟩:=xC.get ["self"] λ_ _ _ _ _ _ us hl=>Ao hl λ_=>rfl;let⟨jK,vA,vB,jJ,adJ,adK⟩:=vI.get ["self","lot","ware","day"] λ_ _ _ _ _ _ us hl=>An hl λ_ _ _ _=>rfl;let⟨oG,adL⟩:=gG.get XK GG ["_law_script","_law_k"] (qr λ_ _ _ _ _ _ _ _=>rfl);let⟨sO,aj0⟩:=iD.get XK GG ["_law_found"] (d4 λ_ _ _ _ _ _ _=>rfl);let⟨qH,aeZ⟩:=j4.get XK GG ["_law_house"] (d4 λ_ _ _ _ _ _ _=>rfl);let⟨oH,adM⟩:=gH.get XK GG ["_law_house","_law_ware","_law_due","_law_spot","_law_amount"] (aVY λ_ _ _ _ _ _ _ _ _ _ _=>rfl);let⟨vV,ω⟩:=nP.get XK GG ["_law_house","_law_lots","_law_day"] (Ss λ_ _ _ _ _ _ _ _ _=>rfl);have Z:=λ{x:Str}(h:ni K jg x=aj au)=>PySem.W.mg_none_of XK GG h;have T:Txt K mg ⟨ZH,zG,Yu,GA,χ,vQ,ξ,vR,aeK,qF,iH,_,lC,_,Yt,Gz,ν,vU,aA9,FZ,ZG,zH,Ys,Gy,aAA,FY,ZF,zJ,ZE,zK,aAB,FX,a8E,fU,a3I,dN,aeL,lY,aiN,o8,a8F,fW,a2F,d8,acY,jF,a9Y,iR,ZD,tZ,a8G,fY,aeM,m6,aiO,oA,aiP,oF,acZ,jH,ZC,zL,a9Z,iU,aeN,m8,ad0,jK,qL,_,ad4,oG,aiQ,sO,aeO,qH,ad5,oH,μ,vV,Lk,_,aiR,aAR,vK,ya,x9,x8,nD,aAS,θ,cI,cL⟩:=⟨Zz,Yr,ζ,ε,aeS,CA (st:=dW) nC dX iJ,JE (ps:=["self","plan","room"]) iK (λus hl=>match us,hl with|[_,_,_],_=>⟨_,rfl,rfl,rfl⟩),⟨bH,iI,iJ⟩,⟨a3H,JD (ps:=["self","plan","room"]) iK (λus hl=>match us,hl with|[_,_],_=>⟨_,rfl,rfl,rfl⟩)⟩,CA (st:=fP) pQ gA lE,JE (ps:=["self","plan","room"]) lF (λus hl=>match us,hl with|[_,_,_],_=>⟨_,rfl,rfl,rfl⟩),⟨bY,lD,lE⟩,⟨a74,JD (ps:=["self","plan","room"]) lF (λus hl=>match us,hl with|[_,_],_=>⟨_,rfl,rfl,rfl⟩)⟩,Yq,δ,aAZ,Zy,Yp,aB0,Zx,Zw,aB1,pH,pI,⟨fQ,a8H,a8I⟩,lK,lM,⟨dM,a3J,a3K⟩,wU,wV,⟨lX,aeT,aeU⟩,zV,oN,⟨o7,aiU,aiV⟩,pJ,lA,⟨fV,a8J,a8K⟩,jQ,eX,⟨d7,a2G,a2H⟩,uZ,v7,⟨jE,adF,adG⟩,rG,rH,⟨iQ,aa0,aa1⟩,LJ,LF,⟨tY,Zv,Zu⟩,pK,lB,⟨fX,a8L,a8M⟩,wW,qK,⟨lZ,aeV,aeW⟩,zX,zY,⟨o9,aiW,aiX⟩,zZ,Ms,⟨oE,aiY,aiZ⟩,v8,v9,⟨jG,adH,adI⟩,Zt,rJ,rK,⟨iT,aa2,aa3⟩,wX,wY,⟨m7,aeX,aeY⟩,vA,vB,⟨jJ,adJ,adK⟩,CA (st:=lW) xE mF qM,JE (ps:=["self","ware","day"]) qN (λus hl=>match us,hl with|[_,_,_],_=>⟨_,rfl,rfl,rfl⟩),⟨fC,xD,qM⟩,⟨ad3,JD (ps:=["self","ware","day"]) qN (λus hl=>match us,hl with|[_,_],_=>⟨_,rfl,rfl,rfl⟩)⟩,adL,aj0,aeZ,adM,ω,⟨CA (st:=Ca) Lj B9 Li,Pk (ps:=["_law_script"]) (λus hl=>match us,hl with|[_],_=>rfl),vh XK GG xi⟩,⟨LB,Ly,Lx,Lw⟩,⟨Lv,bH,iI,Lu⟩,vh XK GG LC,⟨J3,JZ,JY,JX⟩,⟨JW,bY,lD,JV⟩,vh XK GG J6,Mo,xF,vJ,rP,pX,oU,rQ,oW,sX.gt XK GG,C7.gt XK GG,yO.gt XK GG,sY.gt XK GG,Bc.gt XK GG,yf.gt XK GG,pN.gt XK GG,C6.gt XK GG,qY.gt XK GG,jR,iW,fH,j5,gK,mK,mL,mQ,jT,mR,dO,gM,gO,gP,eZ,⟨aeP,vh XK GG mU⟩,⟨aeQ,vh XK GG mV⟩,⟨adD,vh XK GG jU⟩,⟨ZB,vh XK GG pO⟩,⟨aeR,vh XK GG mW⟩,⟨ZA,vh XK GG vC⟩,⟨η,vh XK GG gR⟩,Z Lh,Z IZ,Z IY,Z Lg,Z Mn,Z Lf,Z IX,Z Ld,Z Jw,Z JU,Z Lc,Z Lb,Z Jv⟩;exact⟨_,λs v=>.of_eq rfl,λbase _ _=>(aMX T).imp (aFT T)⟩
def walk{l:PySem.W.OpenLaw}{d:DefRec}{K:Params->iw}(hn:l.most=aj 63)(BQ:d.params.defaults=[])
  (hY:∀(w:je)(h:jw),YP w h->(K w.params).In h)
  (F:∀(w:je)(mg:Str->Option bh)(fa:bw)(h:jw),(K w.params).In h->h.Ns jg mg->mg d.name=aj (.ref fa) ->
   ∃fd:jm,(∀(s:dg)(u:bh),BindsTo s fd ⟨[u],[]⟩ [("_law_script",u)])/\∀base:jw,(K w.params).In base->base.Ns jg mg->bM ao l.prog w (K w.params) mg base (jY l.prog w) 12 fa fd ["_law_script"] (EF (K w.params))) :
  PySem.W.WalkO q loose XP YP l.row.toRowW d [] (λf vs=>PySem.call f vs) :=
 L2.aCA (n:=63) (k:=12) (x:="_law_script") (CX:=λw=>jY l.prog w) (sp:=λw=>EF (K w.params)) hn (by decide) BQ ⟨λ_=>rfl,by decide,by decide⟩ hY F (λ_ _ a ns hl _ hS=>⟨a,ns,rfl,hS,hl,λ_=>rfl⟩) (by rintro _ _ _ _ _ ⟨_,_,_,_,_,_,_,_,_,_,_,_,z⟩;exact z)
end Law
open PySem PySem.W PyProof.Rows
set_option tactic.hygienic true in
theorem PySem.Challenge.cw_depot_k33_many_lots_and_days_holds : PySem.Challenge.rw_depot_k33_many_lots_and_days.Holds := by
 w_on;refine PySem.W.holds_law Law.NZ λMA=>?_;o_head (PySem.W.kHook Law.Ew.heap_1 Law.Ex Law.Il)
 case hl=>exact Law.WL
 case hw=>w_witness2
 k_fill
 refine Law.walk (l:=PySem.Challenge.rw_depot_k33_many_lots_and_days) rfl rfl (λw h Y=>PySem.W.kIn_of Y) ?F
 case F =>
  intro w mg fa h KX G BM;refine' Law.all_mk KX G BM ?fD ?tD ?jO ?nO ?cN ?bH ?iI ?nC ?dX ?iJ ?iK ?bY ?lD ?pQ ?gA ?lE ?lF ?tE ?jP ?yK ?nA ?tG ?yL ?dY ?fG ?uY ?pR ?lO ?xA ?Mr ?pU ?jW ?vG ?rN ?LD ?pW ?xB ?Mq ?Mp ?vH ?pL ?rO ?xC ?vI ?fC ?xD ?xE ?mF ?qM ?qN ?gG ?iD ?j4 ?gH ?nP ?xi ?Lj ?B9 ?Li ?LC ?LB ?Ly ?Lx ?Lw ?Lv ?Lu ?J6 ?J3 ?JZ ?JY ?JX ?JW ?JV ?Mo ?xF ?vJ ?rP ?pX ?oU ?rQ ?oW ?sX ?C7 ?yO ?sY ?Bc ?yf ?pN ?C6 ?qY ?jR ?iW ?fH ?j5 ?gK ?mK ?mL ?mQ ?jT ?mR ?dO ?gM ?gO ?gP ?eZ ?mU ?mV ?jU ?pO ?mW ?vC ?gR ?Lh ?IZ ?IY ?Lg ?Mn ?Lf ?IX ?Ld ?Jw ?JU ?Lc ?Lb ?Jv
  case LC|J6=>k_is
  case fD|tD|jO|nO|cN=>exact⟨by k_is,_,_,_,_,_,_,_,_,_,by k_is,by k_is,by k_is⟩
  case sX|C7|yO|sY|Bc|yf|pN|C6|qY=>exact⟨by k_is,by k_exc,by nofun,by k_is,by k_is⟩
  case tE|jP|yK|nA|tG|yL|dY|fG|uY=>exact⟨by k_is,_,_,_,_,_,_,_,_,_,by k_is,by k_is,by k_is⟩
  case pR|lO|xA|Mr|pU|jW|vG|rN|LD|pW|xB|Mq|Mp|vH=>exact⟨by k_is,by k_is,_,_,_,_,_,_,_,_,_,by k_is,by k_is,by k_is⟩
  case pL=>exact⟨by k_is,_,_,_,_,_,_,_,_,_,by k_is,by k_is,by k_is⟩
  case rO|xC|vI=>exact⟨by k_is,by k_is,_,_,_,_,_,_,_,_,_,by k_is,by k_is,by k_is⟩
  case gG|iD|j4|gH|nP=>exact⟨by k_is,_,_,_,_,_,_,_,_,_,by k_is,by k_is,by k_is⟩
  case bH|iI|nC|dX|iJ|iK|bY|lD|pQ|gA|lE|lF|fC|xD|xE|mF|qM|qN|xi|Lj|B9|Li|LB|Ly|Lx|Lw|Lv|Lu|J3|JZ|JY|JX|JW|JV|Mo|xF|vJ|rP|pX|oU|rQ|oW|jR|iW|fH|j5|gK|mK|mL|mQ|jT|mR|dO|gM|gO|gP|eZ|mU|mV|jU|pO|mW|vC|gR|Lh|IZ|IY|Lg|Mn|Lf|IX|Ld|Jw|JU|Lc|Lb|Jv=>k_is
