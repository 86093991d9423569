import PyProof.Rows.All
import Wide.All
import OpenK.KLine
import OpenK.KOwn
import Wide.FinOn
import Lean
import PyProof.EqAt
import PyProof.EqKinds
import PyProof.TupleCall
import KE.KMinKey
import KE.KSortTup
import KE.KRevSl
import KE.KStateDown
import PyProof.Rows.Range3
import KE.KDictOf
import PyProof.AttrMissSeq
import KE.KRevIter
import KE.KItemsList
import KE.KPairComp
import KE.KEqDict
import KE.KDictSum
import KE.RegKIsAll
import KE.KNest
import KE.KClos
import PyProof.Draws
import PyProof.EnumMake
import PyProof.StrBlock2
import PyProof.ZipIter
import PyProof.AutoListH
import KE.KIntText
import PyProof.DictRoadsH
import PySem.Challenge.RW_depot_k83_rows_that_are_none
set_option Elab.async false
set_option linter.all false
set_option maxRecDepth 100000
set_option maxHeartbeats 4000000
set_option compiler.extract_closed false
open Option renaming some->aj,none->aq,some->mz,map_eq_some_iff->a1u,none->a1x
open Bool renaming true->ak,false->ao,and_eq_true->bh,not_eq_true'->gj,false_ne_true->vf,or_eq_true->a1l,and_false->a2k
open PySem renaming Value->au,wpAny_bind->bw,Addr->bx,Shared->cg,sizeLine->cj,wpAny->dh,model->dz,wpAny_pure->gV,mainGlobals->iy,World->jg,starEach->jm,FuncData->jo,Heap->jq,Expr->jt,wpAny_field->jx,bootBuiltins->jz,wpAny_mono->kj,Program->lq,Stmt->mj,compareOp->ni,Around->qb,wpAny_newObj_type->uw,wpAny_setField->vo,binaryOp->vp,NameKind->wg,wpAny_truthy_bool->xg,Scope->yc,cLine->yd,wpAny_callSpecial?_slot->yt,backTo->yx,wpAny_holding->za,wpAny_seqItems->zm,assignEach->zu,wpAny_Call_Name_kw->a0b,bindArgs->a0d,foldedSetIterable->a0e,lookup_relabel_local->a0h,codeAny->a0i,wpAny_call_entry->a0j,ExcBaseFacts->a0l,wpAny_getItem_str_slice->a0p,rawInt->a0r,swapsWith->a0s,letOwnedTupleGo->a0t,pyNext->a0y,holding->a1a,wpAny_rule->a1d,behindInMarks->a1e,sliceBounds->a1g,wpAny_execs_nil->a1i,wpAny_passesOwn->a1j,wpAny_comprehension_free->a1p,wpAny_pyIter_list->a1s,wpAny_standAt->a1J
open PySem.W renaming kitOne->cu,findIn->dw,Frag->iw,nsIn->jr,keepIn->jy,mg_of->nu,plainOver->qd,hasDictIn->qe,plainGet->qp,makesIn->qw,mroIn->qy,Looks->ug,subIn->um,fnOf->uo,clsIn->ux,kia_one->vq,emptyDict->xq,excIn->yp,hideAll->yu,instObj->zq,typeIn->a0a,of_hideAll->a1m,codeIn->a1q,Hook->a2b,hideAll_get->a2f
open List renaming length_map->dg,size_toArray->fj,mem_cons_of_mem->gb,getElem?_eq_getElem->gq,length_cons->ig,all_eq_true->iu,mem_cons_self->iz,mem_cons->jc,length_append->je,getElem?_eq_some_iff->jf,replicate->ji,map_cons->jj,range->kh,mem_append_right->nj,map_append->oh,length_take->pq,sum_cons->qg,mem_append->qm,lookup_cons->qz,not_mem_nil->rm,append_assoc->su,mem_of_getElem?->uc,mem_of_mem_take->ud,mem_singleton->uf,append_nil->uh,length_drop->uq,take_append_drop->ur,getElem?_set_ne->vd,mem_map->vh,flatMap_cons->vm,length->wk,length_replicate->xu,all_cons->yj,mem_of_mem_drop->yq,nodup_cons->yw,getElem?_append_right->zc,mem_range->zf,lookup->zp,getElem?_map->zx,map_take->zy,singleton_append->a0c,mem_append_left->a0f,getElem?_append_left->a0g,map_map->a0m,map_congr_left->a0o,any_cons->a0q,getElem?_set_self->a0v,take_sublist->a0x,all_map->a1c,take_succ_cons->a1h,mem_or_eq_of_mem_set->a1k,mem_filterMap->a1n,reverse_cons->a1r,drop_sublist->a1t,take_of_length_le->a1y,map_id->a1z,map_drop->a1K,any_eq_true->a1P,take_length->a1W,of_mem_zip->a2c,length_set->a2d,forIn_cons->a2e,filterMap_cons->a2g,flatMap_append->a2i,take_succ->a2l
open PySem.Heap renaming get?_push_of_some->dj,lt_size->gk,get?_push_size->jd,SameBut->yg,size_push->zj,get?_update_other->a1v,ExtBut->a1w,get?_update_self->a2a,MadeExcOf->a2j
open Nat renaming le_refl->gw,lt_of_lt_of_le->ju,ne_of_lt->mq,le_trans->qj,lt_irrefl->qu,zero_le->yh,ne_of_gt->a0k,min_eq_left->a0u,lt_succ_of_lt->a0w,le_of_lt->a0z,le_of_eq->a1o
open Int renaming eq_ofNat_of_zero_le->ou,emod_lt_of_pos->qx,emod_nonneg->vg,toNat_natCast->wu
open Array renaming getElem?_eq_some_iff->wj,toList_map->a0n,length_toList->a2h
open PyProof.Rows renaming AllBare->a1f
namespace Law
open PySem PySem.W PyProof.Rows
noncomputable def jP(n:Nat):mj:=PySem.Challenge.pw_depot_k83_rows_that_are_none.main.body.getD n (.Pass ⟨0,0,0,0⟩)
noncomputable def frQ:lq:={PySem.Challenge.pw_depot_k83_rows_that_are_none with main:={PySem.Challenge.pw_depot_k83_rows_that_are_none.main with body:=[jP 0,jP 2,jP 3,jP 4,jP 5,jP 6,jP 7,jP 8,jP 9,jP 10,jP 11,jP 12,jP 13,jP 14,jP 15,jP 16,jP 17,jP 19,jP 20,jP 21,jP 22,jP 24,jP 25,jP 26,jP 27,jP 28,jP 29,jP 30,jP 31,jP 32,jP 34,jP 35,jP 36,jP 37,jP 38,jP 39,jP 40,jP 41,jP 42,jP 43,jP 44,jP 45,jP 46,jP 47,jP 48,jP 49,jP 51,jP 52,jP 53,jP 54,jP 55,jP 56,jP 57,jP 58,jP 59,jP 60,jP 61,jP 62,jP 63,jP 64,jP 65,jP 66]}}
noncomputable def avO(tb:String->Option Builtin)(p:lq)(w:jg)(n₀:Nat)(ann:Option au):Nat->SharedT->Thread->Option SharedT
 |0,_,_=>aq
 |n+1,s,t=>match through t with
  |true=>aj s
  |false=>match stepOk n₀ ann t with
   |false=>aq
   |true=>match stepT (denote tb) p w s t with
    |some (s',t')=>avO tb p w n₀ ann n s' t'
    |none=>aq
theorem aqA{tb:String->Option Builtin}{w:jg}{n₀:Nat}:∀(n:Nat)(s r:SharedT)(t:Thread),avO tb p w n₀ ann n s t=aj r->topRun tb p w n₀ ann n s.abs t=aj r.abs
 |0,_,_,_,h=>by cases h
 |n+1,s,r,t,h=>by
  unfold avO at h;unfold topRun;split at h
  .rename_i e;rw[e];cases h;rfl
  .rename_i e;rw[e];split at h
   .cases h
   .rename_i e2;rw[e2];split at h
    .rename_i s' t' e3;dsimp only;rw[stepT_spec e3];exact aqA n _ _ _ h
    .cases h
noncomputable def frt(P:Params):BT:=((boot_heap P).objs.toList.foldl (λ(z:BT×Nat) o=>(z.1.ins z.2 o,z.2+1)) (BT.nil,0)).1
noncomputable def frs(w:jg)(os:OsState):SharedT:=⟨frt w.params,11,(boot_heap w.params).life,#[],boot_drawn,boot_toks,os⟩
theorem fra(w:jg)(os:OsState):(frs w os).abs=⟨boot_heap w.params,#[],boot_drawn,boot_toks,os⟩:=by kernel_rfl
noncomputable def aB6(p:lq)(h₀:jq)(s₁:cg):Bool:=staticsOk (importedModules p.main.body) h₀ s₁.heap&&namesBound p s₁.heap&&gensDone s₁&&laidKept h₀ s₁.heap
variable{N:Nat}
theorem frB{p:lq}{Xt:cg->Bool}{α:Type}{Yf:cg->α}{Ya:jg->α}{g0:Bool} 
  (e:opening p=plainProg p.main.scope.names)(hN:Nat.ble 600 N=ak)(f:∀s,fenceModules? p s=aj s)
  (ha:∀P,(boot_heap P).nsMap iy "__annotations__"=ann)(hi:∀P,(boot_heap P).isNs iy=ak)
  (h:∀(w:jg)(os:OsState),∃r:SharedT,topRun treeTable p w 11 ann N (frs w os).abs (topStub p)=aj r.abs/\(aB6 p (boot_heap w.params) r.abs,openSeen q loose (importedModules p.main.body) Xt g0 r.abs,Yf r.abs)=(ak,openGood q loose,Ya w)) :
  LeftO p q loose Xt Yf Ya N g0:=λw=>by
 obtain⟨⟨h1,gs,d,k,os⟩,e1,e'⟩:=a1u.mp (boot_open e hN f w);obtain⟨rfl,rfl,rfl,rfl⟩:h1=boot_heap w.params/\gs=#[]/\d=boot_drawn/\k=boot_toks:=by simpa using e'
 unfold openEnds;rw[e1];obtain⟨r,e4,e3⟩:=h w os;rw[fra]at e4;obtain⟨a1,a2,a3⟩:aB6 p (boot_heap w.params) r.abs=ak/\openSeen q loose (importedModules p.main.body) Xt g0 r.abs=openGood q loose/\Yf r.abs=Ya w:=by simpa using e3
 show(topFrom treeTable p w N ⟨boot_heap w.params,#[],boot_drawn,boot_toks,os⟩).map _=_;unfold topFrom;have c:(cg.mk (boot_heap w.params) #[] boot_drawn boot_toks os).heap.isNs iy=ak:=hi w.params;have s0:((cg.mk (boot_heap w.params) #[] boot_drawn boot_toks os).gens.size==0)=ak:=rfl;rw[c,s0];show((topRun treeTable p w 11 ((boot_heap w.params).nsMap iy "__annotations__") N ⟨boot_heap w.params,#[],boot_drawn,boot_toks,os⟩ (topStub p)).bind _).map _=_;rw[ha,e4];unfold aB6 at a1
 show Option.map _ (match staticsOk (importedModules p.main.body) (boot_heap w.params) r.abs.heap&&namesBound p r.abs.heap&&gensDone r.abs&&laidKept (boot_heap w.params) r.abs.heap with
   |true=>aj r.abs
   |false=>aq)=_
 rw[a1];show aj (_,_)=aj (_,_);rw[a2,a3]
noncomputable def goT(tb:String->Option Builtin)(p:lq)(w:jg)(n₀:Nat)(ann:Option au):Nat->SharedT->Thread->Option (SharedT×Thread)
 |0,s,t=>aj (s,t)
 |n+1,s,t=>match through t with
  |true=>aq
  |false=>match stepOk n₀ ann t with
   |false=>aq
   |true=>match stepT (denote tb) p w s t with
    |some (s',t')=>goT tb p w n₀ ann n s' t'
    |none=>aq
theorem avP{tb:String->Option Builtin}{w:jg}{n₀:Nat}:∀(n:Nat)(s s':SharedT)(t t':Thread),goT tb p w n₀ ann n s t=aj (s',t')->topGo tb p w n₀ ann n s.abs t=aj (s'.abs,t')
 |0,_,_,_,_,h=>by cases h;rfl
 |n+1,s,s',t,t',h=>by
  unfold goT at h;unfold topGo;split at h
  .cases h
  .rename_i e;rw[e];split at h
   .cases h
   .rename_i e2;rw[e2];split at h
    .rename_i s1 t1 e3;dsimp only;rw[stepT_spec e3];exact avP n _ _ _ _ h
    .cases h
noncomputable def uW(o:Nat->Obj):Nat->Nat->Frag->List Obj
 |0,_,_=>[]
 |n+1,i,[]=>o i::uW o n (i+1) []
 |n+1,i,z::r=>match Nat.beq z.1 i with
  |true=>z.2::uW o n (i+1) r
  |false=>o i::uW o n (i+1) (z::r)
theorem aaQ{o:Nat->Obj}:∀(n i:Nat)(H:Frag)(j:Nat),j<n->∃y,(uW o n i H)[j]?=aj y/\(y=o (i+j)∨(i+j,y)∈H)
 |0,_,_,_,h=>absurd h (Nat.not_lt_zero _)
 |n+1,i,[],0,_=>⟨_,rfl,.inl rfl⟩
 |n+1,i,[],j+1,h=>by
  obtain⟨y,e,q⟩:=aaQ n (i+1) [] j (by omega);rw[show i+1+j=i+(j+1) by omega]at q;exact⟨y,e,q⟩
 |n+1,i,z::r,j,h=>by
  unfold uW;split
  ·rename_i e;cases j with
   |zero=>exact⟨_,rfl,.inr (by have:=Nat.eq_of_beq_eq_true e;rw[Nat.add_zero,←this];exact .head _)⟩
   |succ j =>
    obtain⟨y,e2,q⟩:=aaQ n (i+1) r j (by omega);rw[show i+1+j=i+(j+1) by omega]at q;exact⟨y,e2,q.imp id (.tail _)⟩
  .cases j with
   |zero=>exact⟨_,rfl,.inl rfl⟩
   |succ j =>
    obtain⟨y,e2,q⟩:=aaQ n (i+1) (z::r) j (by omega);rw[show i+1+j=i+(j+1) by omega]at q;exact⟨y,e2,q⟩
noncomputable def akW:Nat->List Obj->Frag->Frag
 |_,[],H=>H
 |i,b::B,[]=>(i,b)::akW (i+1) B []
 |i,b::B,z::r=>match Nat.beq z.1 i with
  |true=>z::akW (i+1) B r
  |false=>(i,b)::akW (i+1) B (z::r)
noncomputable def mg2:Nat->Frag->Frag->Frag
 |0,X,_=>X
 |n+1,[],Y=>Y
 |n+1,x::X,[]=>x::X
 |n+1,x::X,y::Y=>match Nat.ble x.1 y.1 with
  |true=>x::mg2 n X (y::Y)
  |false=>y::mg2 n (x::X) Y
noncomputable def avQ:Obj:={cls:=.none,data:=.fields #[]}
noncomputable def trO(L:List Obj):BT:=(L.foldl (λ(z:BT×Nat) o=>(z.1.ins z.2 o,z.2+1)) (BT.nil,0)).1
noncomputable def frM(H:Frag)(n k:Nat)(os:OsState)(o:Nat->Obj):SharedT:=⟨trO (uW o n 0 H),n,{},#[],{},k,os⟩
variable{H:Frag}{os:OsState}
theorem aB9{T:BT}{n k:Nat}(hg:∀o,(kh n).map (trO (uW o n 0 H)).get=(uW o n 0 H).map aj)(hT:H.map (λx=>T.get x.1)=H.map λx=>aj x.2) :
  SharedT.abs ⟨T,n,{},#[],{},k,os⟩=(frM H n k os λi=>(T.get i).getD default).abs:=by
 unfold SharedT.abs frM
 have:T.list n=(trO (uW (λi=>(T.get i).getD default) n 0 H)).list n:=by
  unfold BT.list;refine a0o λi hi=>?_;have hi:i<n:=zf.mp hi;obtain⟨y,e,q⟩:=aaQ (o:=λi=>(T.get i).getD default) n 0 H i hi;rw[Nat.zero_add]at q;have e1:=congrArg (·[i]?) (hg λi=>(T.get i).getD default);simp only[zx,List.getElem?_range hi,e,Option.map_some,mz.injEq]at e1;rw[e1];rcases q with rfl|m
  .rfl
  .have:=List.map_inj_left.mp hT _ m;rw[show T.get i=aj y from this,Option.getD_some]
 unfold absHeap;rw[this]
variable{w:jg}{n₀:Nat}{env:Env}{Q:SharedT->Prop}
theorem frS{M:Nat}{rest:List mj}{s:SharedT}{n k:Nat}
  (h:(segRunT treeTable p w n₀ ann 1 N s (piecesOf l env c pos [topFrame q])).map (λz=>(z.1,z.2.2.1,z.2.2.2,z.2.1.n,z.2.1.life,z.2.1.gens,z.2.1.drawn,z.2.1.toks,z.2.1.os,H.map λx=>z.2.1.tree.get x.1))=aj (Flow.next,c,pos',n,{},#[],{},k,os,H.map λx=>aj x.2))
  (hg:∀o,(kh n).map (trO (uW o n 0 H)).get=(uW o n 0 H).map aj)
  (go:∀o,∃r:SharedT,topRun treeTable p w n₀ ann M (frM H n k os o).abs (restOf rest env c pos' [topFrame q])=aj r.abs/\Q r) :
  ∃r:SharedT,topRun treeTable p w n₀ ann (N+M) s.abs (restOf (l++rest) env c pos [topFrame q])=aj r.abs/\Q r:=by
 obtain⟨⟨f,⟨T,n1,lf,gs,dr,tk,os1⟩,c1,p1⟩,e,e'⟩:=a1u.mp h;simp only[Prod.mk.injEq]at e';obtain⟨rfl,rfl,rfl,rfl,rfl,rfl,rfl,rfl,rfl,hT⟩:=e';obtain⟨r,e2,qr⟩:=go λi=>(T.get i).getD default;rw[←aB9 hg hT]at e2;exact⟨r,piece_app (segRun_of e) e2,qr⟩
theorem frZ{s:SharedT}{α:Type}{f:SharedT->α}{v:α}(h:(avO treeTable p w n₀ ann N s t).map f=aj v):∃r:SharedT,topRun treeTable p w n₀ ann N s.abs t=aj r.abs/\f r=v:=by
 obtain⟨r,e,e'⟩:=a1u.mp h;exact⟨r,aqA _ _ _ _ e,e'⟩
theorem frR{b:List mj}(m:Nat)(h:∃r:SharedT,topRun treeTable p w n₀ ann N s (restOf (b.take m++b.drop m) env c pos [topFrame q])=aj r.abs/\Q r):∃r:SharedT,topRun treeTable p w n₀ ann N s (restOf b env c pos [topFrame q])=aj r.abs/\Q r:=by
 rw[ur]at h;exact h
noncomputable abbrev frX:cg->Bool:=λs=>xlAt frQ [] s&&recOk (RowW.records (OpenRow.toRowW (OpenLaw.row PySem.Challenge.rw_depot_k83_rows_that_are_none))) s
end Law
local macro_rules
 | `(tactic| o_head $H)=>`(tactic| refine PySem.W.holds_open (q:=Law.frQ) (loose:=[PySem.Str.ofString "FORMS"]) (Xt:=Law.frX) (XP:=PySem.W.XL Law.frQ []) (Yf:=a2b.obs $H) (Ya:=a2b.val $H)
     (YP:=a2b.says $H) (N:=16052) ?hl (a2b.of $H) (a2b.keeps $H) (λs e=>PySem.W.xl_of s (Bool.and_eq_true_iff.mp e).1) PySem.W.XL.keeps (by rfl) (by rfl) (by rfl)
     (λs e=>PySem.W.recFacts_of (Bool.and_eq_true_iff.mp e).2) (by rfl) (by first|assumption|decide+kernel) (by decide+kernel) ⟨rfl,rfl,rfl,rfl,rfl,by decide+kernel⟩ ?hw ?hc)
local macro_rules| `(tactic| o_head $_)=>`(tactic| assumption)
open PySem PySem.W in
theorem Law.frW:OpenLaw.wellSaid PySem.Challenge.rw_depot_k83_rows_that_are_none=ak:=by kernel_rfl
open PySem PySem.W in
theorem Law.frK(h0:∀{α:Type}(Yf:cg->α)(Ya:jg->α),LeftO (OpenLaw.row PySem.Challenge.rw_depot_k83_rows_that_are_none).prog Law.frQ [PySem.Str.ofString "FORMS"] Law.frX Yf Ya 16052)
  (h1:∀YP d,WalkO Law.frQ [PySem.Str.ofString "FORMS"] (XL Law.frQ []) YP (OpenRow.toRowW (OpenLaw.row PySem.Challenge.rw_depot_k83_rows_that_are_none)) d [] (λf vs=>PySem.call f vs)):OpenLaw.Holds PySem.Challenge.rw_depot_k83_rows_that_are_none:=by
 w_on;refine PySem.W.holds_law Law.frW λsaid=>?_;k_head
 case hl=>exact h0 _ _
 case hw=>w_witness2
 exact h1 _ _
noncomputable abbrev Law.frA:List Nat:=[2,3,15,17,18,20,21,22,29,30,31,32,35,42,43,44,47,54,55,56,59,66,67,68,71,78,79,80,83,90,91,92,95,102,103,104,107,114,115,116,119,126,127,128,131,138,139,140,143,150,151,152,155,162,163,164,167,174,175,176,179,186,187,188,191,198,199,200,203,210,211,212,215,217,218,220,221,222,224,225,227,228,229,230,231,232,233,234,235,236,237,238,239,240,241,242,243,246,247,248,251,252,253,255,256,258,259,260,262,263,265,266,267,269,270,272,273,274,276,277,279,280,281,284,285,293,295,296,298,299,300,302,303,305,306,307,308,309,310,311,314,321,323,324,326,327,328,329,330,333,340,342,343,345,346,347,348,349,352,359,361,362,364,365,366,367,368,371,378,380,381,383,384,385,386,387,390,397,399,400,402,403,404,405,406,409,416,418,419,421,422,423,424,425,428,435,437,438,440,441,442,443,444,447,454,456,457,459,460,461,462,463,466,473,475,476,478,479,480,481,482,485,492,494,495,497,498,499,500,501,504,511,513,514,516,517,518,519,520,523,530,532,533,535,536,537,538,539,542,549,551,552,554,555,556,557,558,561,563,564,566,567,568,570,571,573,574,575,577,578,580,581,582,584,585,587,588,589,591,592,594,595,596,598,599,601,602,603,605,606,608,609,610,613,614,615,618,619,620,622,623,625,626,627,629,630,632,633,634,636,637,639,640,641,643,644,646,647,648,650,651,653,654,655,657,658,660,661,662,664,665,667,668,669,672,673,674,676,677,679,680]
theorem Law.frE:∀P,Law.frA=(Law.frK.heap_1 P).map (·.1):=λ_=>by kernel_rfl
namespace Law
open PySem PySem.W PyProof.Rows
noncomputable abbrev pp:lq:=(OpenLaw.row PySem.Challenge.rw_depot_k83_rows_that_are_none).prog
noncomputable abbrev bb:List mj:=pp.main.body
noncomputable def ev:Env:={scope:=pp.main.scope,locals:=mainNs,globals:=mainNs,cells:=[],code:=.ref 13,frame:=some 14}
noncomputable abbrev cd:Code:=.body bb ev
noncomputable abbrev an:Option au:=some (.ref 6)
noncomputable abbrev fq:Pos:=⟨0,0,0,0⟩
noncomputable def sP(w:jg)(os:OsState):SharedT:=((goT treeTable pp w 11 an 12 (frs w os) (topStub pp)).map (·.1)).getD (frs w os)
noncomputable def sB(w:jg)(os:OsState):List Obj:=(kh 15).map λi=>((sP w os).tree.get i).getD default
theorem f0(w:jg)(os:OsState):goT treeTable pp w 11 an 12 (frs w os) (topStub pp)=aj (sP w os,⟨denote treeTable (.body bb ev),cd,⟨0,0,0,0⟩,[topFrame fq]⟩):=by kernel_rfl
theorem f1(w:jg)(os:OsState):segRunT treeTable pp w 11 an 1 1 (sP w os) (blockOf bb ev cd ⟨0,0,0,0⟩ [topFrame fq])=aj (.next,sP w os,cd,⟨0,0,0,0⟩):=by kernel_rfl
def p1:lq:={PySem.Challenge.pw_depot_k83_rows_that_are_none with main:={PySem.Challenge.pw_depot_k83_rows_that_are_none.main with body:=PySem.Challenge.pw_depot_k83_rows_that_are_none.main.body.take 14}}
theorem m1(h:OpenRow.Holds {OpenLaw.row PySem.Challenge.rw_depot_k83_rows_that_are_none with prog:=p1}):OpenRow.Holds {OpenLaw.row PySem.Challenge.rw_depot_k83_rows_that_are_none with prog:=p1}:=by k_head
noncomputable def H1(w:jg)(os:OsState):Frag:=akW 0 ((sB w os).modify 12 λo=>{o with data:=.fields #[.int 1 0,.int 0 0,.ref 20,.int 5 0,.int 0 0,.ref 27,.int 7 0,.int 0 0,.ref 40,.int 9 0,.int 0 0,.ref 52,.int 11 0,.int 0 0,.ref 64,.int 13 0,.int 0 0,.ref 76,.int 15 0,.int 0 0,.ref 88,.int 17 0,.int 0 0,.ref 100,.int 19 0,.int 0 0,.ref 112,.int 21 0,.int 0 0,.ref 124,.int 23 0,.int 0 0,.ref 136,.int 25 0,.int 0 0,.ref 148,.int 27 0,.int 0 0,.ref 160]}) (mg2 167 (m1.heap_1 w.params) ([16,26,39,51,63,75,87,99,111,123,135,147,159].map λa=>(a,avQ)))
theorem g1(w:jg)(os:OsState):(segRunT treeTable pp w 11 an 1 2568 (sP w os) (piecesOf (bb.take 14) ev cd ⟨0,0,0,0⟩ [topFrame fq])).map (λz=>(z.1,z.2.2.1,z.2.2.2,z.2.1.n,z.2.1.life,z.2.1.gens,z.2.1.drawn,z.2.1.toks,z.2.1.os,(H1 w os).map λx=>z.2.1.tree.get x.1))=aj (Flow.next,cd,⟨27,0,28,8⟩,167,{},#[],{},390,os,(H1 w os).map λx=>aj x.2):=by kernel_rfl
theorem h1(w:jg)(os:OsState)(o:Nat->Obj):(kh 167).map (trO (uW o 167 0 (H1 w os))).get=(uW o 167 0 (H1 w os)).map aj:=by kernel_rfl
def p2:lq:={PySem.Challenge.pw_depot_k83_rows_that_are_none with main:={PySem.Challenge.pw_depot_k83_rows_that_are_none.main with body:=PySem.Challenge.pw_depot_k83_rows_that_are_none.main.body.take 25}}
theorem m2(h:OpenRow.Holds {OpenLaw.row PySem.Challenge.rw_depot_k83_rows_that_are_none with prog:=p2}):OpenRow.Holds {OpenLaw.row PySem.Challenge.rw_depot_k83_rows_that_are_none with prog:=p2}:=by k_head
noncomputable def H2(w:jg)(os:OsState):Frag:=akW 0 ((sB w os).modify 12 λo=>{o with data:=.fields #[.int 1 0,.int 0 0,.ref 20,.int 5 0,.int 0 0,.ref 27,.int 7 0,.int 0 0,.ref 40,.int 9 0,.int 0 0,.ref 52,.int 11 0,.int 0 0,.ref 64,.int 13 0,.int 0 0,.ref 76,.int 15 0,.int 0 0,.ref 88,.int 17 0,.int 0 0,.ref 100,.int 19 0,.int 0 0,.ref 112,.int 21 0,.int 0 0,.ref 124,.int 23 0,.int 0 0,.ref 136,.int 25 0,.int 0 0,.ref 148,.int 27 0,.int 0 0,.ref 160,.int 29 0,.int 0 0,.ref 172,.int 31 0,.int 0 0,.ref 184,.int 33 0,.int 0 0,.ref 196,.int 35 0,.int 0 0,.ref 208,.int 40 0,.int 0 0,.ref 220,.int 44 0,.int 0 0,.ref 227]}) (mg2 229 (m2.heap_1 w.params) ([16,26,39,51,63,75,87,99,111,123,135,147,159,171,183,195,207,216,223].map λa=>(a,avQ)))
theorem g2(w:jg)(os:OsState)(o:Nat->Obj):(segRunT treeTable pp w 11 an 1 956 (frM (H1 w os) 167 390 os o) (piecesOf ((bb.drop 14).take 11) ev cd ⟨27,0,28,8⟩ [topFrame fq])).map (λz=>(z.1,z.2.2.1,z.2.2.2,z.2.1.n,z.2.1.life,z.2.1.gens,z.2.1.drawn,z.2.1.toks,z.2.1.os,(H2 w os).map λx=>z.2.1.tree.get x.1))=aj (Flow.next,cd,⟨49,0,49,12⟩,229,{},#[],{},478,os,(H2 w os).map λx=>aj x.2):=by kernel_rfl
theorem h2(w:jg)(os:OsState)(o:Nat->Obj):(kh 229).map (trO (uW o 229 0 (H2 w os))).get=(uW o 229 0 (H2 w os)).map aj:=by kernel_rfl
def p3:lq:={PySem.Challenge.pw_depot_k83_rows_that_are_none with main:={PySem.Challenge.pw_depot_k83_rows_that_are_none.main with body:=PySem.Challenge.pw_depot_k83_rows_that_are_none.main.body.take 26}}
theorem m3(h:OpenRow.Holds {OpenLaw.row PySem.Challenge.rw_depot_k83_rows_that_are_none with prog:=p3}):OpenRow.Holds {OpenLaw.row PySem.Challenge.rw_depot_k83_rows_that_are_none with prog:=p3}:=by k_head
noncomputable def H3(w:jg)(os:OsState):Frag:=akW 0 ((sB w os).modify 12 λo=>{o with data:=.fields #[.int 1 0,.int 0 0,.ref 20,.int 5 0,.int 0 0,.ref 27,.int 7 0,.int 0 0,.ref 40,.int 9 0,.int 0 0,.ref 52,.int 11 0,.int 0 0,.ref 64,.int 13 0,.int 0 0,.ref 76,.int 15 0,.int 0 0,.ref 88,.int 17 0,.int 0 0,.ref 100,.int 19 0,.int 0 0,.ref 112,.int 21 0,.int 0 0,.ref 124,.int 23 0,.int 0 0,.ref 136,.int 25 0,.int 0 0,.ref 148,.int 27 0,.int 0 0,.ref 160,.int 29 0,.int 0 0,.ref 172,.int 31 0,.int 0 0,.ref 184,.int 33 0,.int 0 0,.ref 196,.int 35 0,.int 0 0,.ref 208,.int 40 0,.int 0 0,.ref 220,.int 44 0,.int 0 0,.ref 227]}) (mg2 243 (m3.heap_1 w.params) ([16,26,39,51,63,75,87,99,111,123,135,147,159,171,183,195,207,216,223].map λa=>(a,avQ)))
def G3(w:jg)(os:OsState)(o:Nat->Obj):Prop:=(segRunT treeTable pp w 11 an 1 245 (frM (H2 w os) 229 478 os o) (piecesOf (((bb.drop 14).drop 11).take 1) ev cd ⟨49,0,49,12⟩ [topFrame fq])).map (λz=>(z.1,z.2.2.1,z.2.2.2,z.2.1.n,z.2.1.life,z.2.1.gens,z.2.1.drawn,z.2.1.toks,z.2.1.os,(H3 w os).map λx=>z.2.1.tree.get x.1))=aj (Flow.next,cd,⟨50,0,50,5⟩,243,{},#[],{},531,os,(H3 w os).map λx=>aj x.2)
theorem gf3(w:jg)(os:OsState)(o:Nat->Obj):G3 (w.withFollow "special-get-raises" ao) os o:=by unfold G3;kernel_rfl
theorem gt3(w:jg)(os:OsState)(o:Nat->Obj):G3 (w.withFollow "special-get-raises" ak) os o:=by unfold G3;kernel_rfl
theorem g3(w:jg)(os:OsState)(o:Nat->Obj):(segRunT treeTable pp w 11 an 1 245 (frM (H2 w os) 229 478 os o) (piecesOf (((bb.drop 14).drop 11).take 1) ev cd ⟨49,0,49,12⟩ [topFrame fq])).map (λz=>(z.1,z.2.2.1,z.2.2.2,z.2.1.n,z.2.1.life,z.2.1.gens,z.2.1.drawn,z.2.1.toks,z.2.1.os,(H3 w os).map λx=>z.2.1.tree.get x.1))=aj (Flow.next,cd,⟨50,0,50,5⟩,243,{},#[],{},531,os,(H3 w os).map λx=>aj x.2):=by
 have e:=World.withFollow_self w "special-get-raises";show G3 w os o;rw[←e];cases w.params.followText "special-get-raises"
 .exact gf3 w os o
 .exact gt3 w os o
theorem h3(w:jg)(os:OsState)(o:Nat->Obj):(kh 243).map (trO (uW o 243 0 (H3 w os))).get=(uW o 243 0 (H3 w os)).map aj:=by kernel_rfl
def p4:lq:={PySem.Challenge.pw_depot_k83_rows_that_are_none with main:={PySem.Challenge.pw_depot_k83_rows_that_are_none.main with body:=PySem.Challenge.pw_depot_k83_rows_that_are_none.main.body.take 38}}
theorem m4(h:OpenRow.Holds {OpenLaw.row PySem.Challenge.rw_depot_k83_rows_that_are_none with prog:=p4}):OpenRow.Holds {OpenLaw.row PySem.Challenge.rw_depot_k83_rows_that_are_none with prog:=p4}:=by k_head
noncomputable def H4(w:jg)(os:OsState):Frag:=akW 0 ((sB w os).modify 12 λo=>{o with data:=.fields #[.int 1 0,.int 0 0,.ref 20,.int 5 0,.int 0 0,.ref 27,.int 7 0,.int 0 0,.ref 40,.int 9 0,.int 0 0,.ref 52,.int 11 0,.int 0 0,.ref 64,.int 13 0,.int 0 0,.ref 76,.int 15 0,.int 0 0,.ref 88,.int 17 0,.int 0 0,.ref 100,.int 19 0,.int 0 0,.ref 112,.int 21 0,.int 0 0,.ref 124,.int 23 0,.int 0 0,.ref 136,.int 25 0,.int 0 0,.ref 148,.int 27 0,.int 0 0,.ref 160,.int 29 0,.int 0 0,.ref 172,.int 31 0,.int 0 0,.ref 184,.int 33 0,.int 0 0,.ref 196,.int 35 0,.int 0 0,.ref 208,.int 40 0,.int 0 0,.ref 220,.int 44 0,.int 0 0,.ref 227,.int 51 0,.int 0 0,.ref 246,.int 53 0,.int 0 0,.ref 251,.int 55 0,.int 0 0,.ref 258,.int 59 0,.int 0 0,.ref 265,.int 64 0,.int 0 0,.ref 272,.int 70 0,.int 0 0,.ref 279,.int 75 0,.int 0 0,.ref 284,.int 81 0,.int 0 0,.ref 291,.int 88 0,.int 0 0,.ref 319,.int 92 0,.int 0 0,.ref 338,.int 96 0,.int 0 0,.ref 357]}) (mg2 371 (m4.heap_1 w.params) ([16,26,39,51,63,75,87,99,111,123,135,147,159,171,183,195,207,216,223,244,249,254,261,268,275,282,294,301,322,341,360].map λa=>(a,avQ)))
theorem g4(w:jg)(os:OsState)(o:Nat->Obj):(segRunT treeTable pp w 11 an 1 1194 (frM (H3 w os) 243 531 os o) (piecesOf ((((bb.drop 14).drop 11).drop 1).take 12) ev cd ⟨50,0,50,5⟩ [topFrame fq])).map (λz=>(z.1,z.2.2.1,z.2.2.2,z.2.1.n,z.2.1.life,z.2.1.gens,z.2.1.drawn,z.2.1.toks,z.2.1.os,(H4 w os).map λx=>z.2.1.tree.get x.1))=aj (Flow.next,cd,⟨96,0,99,16⟩,371,{},#[],{},692,os,(H4 w os).map λx=>aj x.2):=by kernel_rfl
theorem h4(w:jg)(os:OsState)(o:Nat->Obj):(kh 371).map (trO (uW o 371 0 (H4 w os))).get=(uW o 371 0 (H4 w os)).map aj:=by kernel_rfl
def p5:lq:={PySem.Challenge.pw_depot_k83_rows_that_are_none with main:={PySem.Challenge.pw_depot_k83_rows_that_are_none.main with body:=PySem.Challenge.pw_depot_k83_rows_that_are_none.main.body.take 48}}
theorem m5(h:OpenRow.Holds {OpenLaw.row PySem.Challenge.rw_depot_k83_rows_that_are_none with prog:=p5}):OpenRow.Holds {OpenLaw.row PySem.Challenge.rw_depot_k83_rows_that_are_none with prog:=p5}:=by k_head
noncomputable def H5(w:jg)(os:OsState):Frag:=akW 0 ((sB w os).modify 12 λo=>{o with data:=.fields #[.int 1 0,.int 0 0,.ref 20,.int 5 0,.int 0 0,.ref 27,.int 7 0,.int 0 0,.ref 40,.int 9 0,.int 0 0,.ref 52,.int 11 0,.int 0 0,.ref 64,.int 13 0,.int 0 0,.ref 76,.int 15 0,.int 0 0,.ref 88,.int 17 0,.int 0 0,.ref 100,.int 19 0,.int 0 0,.ref 112,.int 21 0,.int 0 0,.ref 124,.int 23 0,.int 0 0,.ref 136,.int 25 0,.int 0 0,.ref 148,.int 27 0,.int 0 0,.ref 160,.int 29 0,.int 0 0,.ref 172,.int 31 0,.int 0 0,.ref 184,.int 33 0,.int 0 0,.ref 196,.int 35 0,.int 0 0,.ref 208,.int 40 0,.int 0 0,.ref 220,.int 44 0,.int 0 0,.ref 227,.int 51 0,.int 0 0,.ref 246,.int 53 0,.int 0 0,.ref 251,.int 55 0,.int 0 0,.ref 258,.int 59 0,.int 0 0,.ref 265,.int 64 0,.int 0 0,.ref 272,.int 70 0,.int 0 0,.ref 279,.int 75 0,.int 0 0,.ref 284,.int 81 0,.int 0 0,.ref 291,.int 88 0,.int 0 0,.ref 319,.int 92 0,.int 0 0,.ref 338,.int 96 0,.int 0 0,.ref 357,.int 100 0,.int 0 0,.ref 376,.int 104 0,.int 0 0,.ref 395,.int 108 0,.int 0 0,.ref 414,.int 112 0,.int 0 0,.ref 433,.int 116 0,.int 0 0,.ref 452,.int 120 0,.int 0 0,.ref 471,.int 124 0,.int 0 0,.ref 490,.int 128 0,.int 0 0,.ref 509,.int 132 0,.int 0 0,.ref 528,.int 136 0,.int 0 0,.ref 547]}) (mg2 561 (m5.heap_1 w.params) ([16,26,39,51,63,75,87,99,111,123,135,147,159,171,183,195,207,216,223,244,249,254,261,268,275,282,294,301,322,341,360,379,398,417,436,455,474,493,512,531,550].map λa=>(a,avQ)))
theorem g5(w:jg)(os:OsState)(o:Nat->Obj):(segRunT treeTable pp w 11 an 1 2441 (frM (H4 w os) 371 692 os o) (piecesOf (((((bb.drop 14).drop 11).drop 1).drop 12).take 10) ev cd ⟨96,0,99,16⟩ [topFrame fq])).map (λz=>(z.1,z.2.2.1,z.2.2.2,z.2.1.n,z.2.1.life,z.2.1.gens,z.2.1.drawn,z.2.1.toks,z.2.1.os,(H5 w os).map λx=>z.2.1.tree.get x.1))=aj (Flow.next,cd,⟨136,0,139,17⟩,561,{},#[],{},932,os,(H5 w os).map λx=>aj x.2):=by kernel_rfl
theorem h5(w:jg)(os:OsState)(o:Nat->Obj):(kh 561).map (trO (uW o 561 0 (H5 w os))).get=(uW o 561 0 (H5 w os)).map aj:=by kernel_rfl
theorem ge(w:jg)(os:OsState)(o:Nat->Obj):(avO treeTable pp w 11 an 624 (frM (H5 w os) 561 932 os o) (restOf (((((bb.drop 14).drop 11).drop 1).drop 12).drop 10) ev cd ⟨136,0,139,17⟩ [topFrame fq])).map (λs=>(aB6 pp (boot_heap w.params) s.abs,openSeen frQ [PySem.Str.ofString "FORMS"] (importedModules pp.main.body) frX ak s.abs,Hook.obs (kHook Law.frK.heap_1 Law.frA Law.frE) s.abs))=aj (ak,openGood frQ [PySem.Str.ofString "FORMS"],Hook.val (kHook Law.frK.heap_1 Law.frA Law.frE) w):=by kernel_rfl
theorem frL:LeftO pp frQ [PySem.Str.ofString "FORMS"] frX (Hook.obs (kHook Law.frK.heap_1 Law.frA Law.frE)) (Hook.val (kHook Law.frK.heap_1 Law.frA Law.frE)) 16052 :=
 frB (by kernel_rfl) (by kernel_rfl) (λs=>by kernel_rfl) (ann:=an) (λP=>by kernel_rfl) (λP=>by kernel_rfl) λw os=>by
  obtain⟨r,e,z⟩:=frR 14 (frS (g1 w os) (h1 w os) λo1=>frR 11 (frS (g2 w os o1) (h2 w os) λo2=>frR 1 (frS (g3 w os o2) (h3 w os) λo3=>frR 12 (frS (g4 w os o3) (h4 w os) λo4=>frR 10 (frS (g5 w os o4) (h5 w os) λo5=>frZ (ge w os o5))))));exact⟨r,topRun_mono 8011 _ _ _ _ (go_top (avP _ _ _ _ _ (f0 w os)) (piece_block (segRun_of (f1 w os)) e)),z⟩
end Law
local macro_rules|`(tactic|omega)=>`(tactic|first|lia|omega (config := {}))
set_option tactic.hygienic false
namespace L2
open PySem PySem.Spec PyProof.Rows
variable{b:bx}{Q:Unit->cg->Prop}{x:Str}
section
structure Tr(B:jq)(x:bx)(C fl:au)(h:jq):Prop where
 ex:∃(o:Obj)(vs:Array au)(T:bx)(oT:Obj)(ts:Array au),h.get? x=aj o/\o.cls=C/\o.data=.fields vs/\vs[1]?=aj (.ref T)/\vs[2]?=aj .none/\B.get? T=aq/\T≠x/\h.get? T=aj oT/\oT.data=.fields ts/\ts[3]?=aj fl
structure zF(B:jq)(l:List Env)(x:bx)(C fl:au)(h:jq):Prop where
 stays:B.StaysIn h
 new:B.get? x=aq
 akX:h.FunFrames B l
 tr:Tr B x C fl h
abbrev Fly(B:jq)(l:List Env)(x:bx)(C:au)(h:jq):Prop:=zF B l x C .none h
variable{o:Obj}{i:Nat}
section
variable{A:qb}{E:au->cg->Prop}{s:cg}{B:jq}{env:Env}{outer:List Env}{x:bx}{fl:au}
theorem zF.fld{h:jq}(f:zF B l x C fl h):∃o vs,h.get? x=aj o/\o.cls=C/\o.data=.fields vs/\vs[2]?=aj .none:=by
 obtain⟨o,vs,_,_,_,h1,h2,h3,_,h5,_⟩:=f.tr.ex;exact⟨o,vs,h1,h2,h3,h5⟩
theorem kY{h:jq}{vs:Array au}(e:h.get? a=aj o)(d:o.data=.fields vs) :
  (h.update a (Obj.mapFields (·.setIfInBounds i v))).get? a=aj (Obj.mapFields (·.setIfInBounds i v) o)/\(Obj.mapFields (·.setIfInBounds i v) o).data=.fields (vs.setIfInBounds i v)/\(Obj.mapFields (·.setIfInBounds i v) o).cls=o.cls /\
  (∀b,b≠a->(h.update a (Obj.mapFields (·.setIfInBounds i v))).get? b=h.get? b):=by
 have d':=Obj.data_mapFields d (·.setIfInBounds i v);exact⟨a2a _ e (Obj.isFreed_of_fields d'),d',Obj.cls_mapFields _ _,λb hb=>a1v _ _ (Ne.symm hb)⟩
theorem oH{h:jq}{u:Obj}(e:h.get? a=aj o)(d:o.data=.fields vs)(e2:h.get? b=aj u)(n:∀ws,u.data≠.fields ws):b≠a:=λq=>by
 subst q;rw[e]at e2;cases e2;exact n vs d
theorem wN(f:zF B l x C fl s.heap)(h:∀h',Fly B l x C h'->s.heap.UpToSlots h'->Q () {s with heap:=h' }):dh M A (setFlight (.ref x) aq) Q E s:=by
 obtain⟨st,nw,fu,⟨o,vs,T,oT,ts,e1,e2,e3,e4,e5,e6,e7,e8,e9,e10⟩⟩:=f;unfold setFlight;refine bw (jx e1 e3 e4 ?_);rw[if_pos (by simp)];have l3:3<ts.size:=(wj.mp e10).1;obtain⟨u1,u2,u3,u4⟩:=kY (i:=3) (v:=(aq:Option bx).elim au.none λf=>a0r f) e8 e9;refine vo e8 e9 l3 (h _ ⟨λb u q=>?_,nw,fu.of_keeps λb u q n=>⟨u,(u4 b (oH e8 e9 q n)).trans q,rfl⟩,⟨o,vs,T,_,_,(u4 x (Ne.symm e7)).trans e1,e2,e3,e4,e5,e6,e7,u1,u2,?_⟩⟩ λb u q n=>⟨u.slots,(u4 b (oH e8 e9 q n)).trans q⟩)
 .exact(u4 b λz=>by subst z;rw[e6]at q;cases q).trans (st b u q)
 .simp[l3]
theorem abY{hadNext:Bool}{vs:Array au}(hfr:A.frames=aj (env::outer))(hf:env.frame=aj L)(st:B.StaysIn s.heap)(nw:B.get? x=aq)(fu:s.heap.FunFrames B (env::outer))(e1:s.heap.get? x=aj o)(e2:o.cls=C)(e3:o.data=.fields vs)(e4:1<vs.size)(e5:vs[2]?=aj .none)
  (h:∀h',zF B (env::outer) x C (a0r L) h'->s.heap.UpToSlots h'->Q () {s with heap:=h' }) :
  dh M A (do let a ←frameOf env;let pl ←entryPlaceOf L hadNext;let b ←EntryCells.newEntry head a .none (a0r L) .none pl;setField (.ref x) 1 b) Q E s:=by
 have nf:x∉(env::outer).filterMap (·.frame):=λm=>by
  obtain⟨_,u,hu,hn⟩:=fu.mem m;rw[e1]at hu;cases hu;exact hn vs e3
 refine bw (wpAny_frameOf_fun hfr fu hf λk so=>bw (wpAny_entryPlaceOf λpl hpl=>?_));unfold EntryCells.newEntry newFields;refine bw (uw ?_ (hpl.sizeOk5 _ _ _ _ _));have k1:k.get? x=aj o:=(so.2.1 x nf).trans e1;have tne:k.objs.size≠x:=λz=>absurd (gk k1) (by rw[z];exact qu _);have kB:∀b u,B.get? b=aj u->k.get? b=aj u:=λb u q=>(so.2.1 b λm=>by rw[(fu.mem m).1]at q;cases q).trans (st b u q);generalize hT:({cls:=.type "traceback",dict:=none,data:=.fields ([head,.ref L,.none,a0r L,.none]++(if pl.isEmpty then ji 6 au.none else pl)).toArray}:Obj)=oT;have p1:(k.push oT).get? x=aj o:=dj _ k1;obtain⟨u1,u2,u3,u4⟩:=kY (i:=1) (v:=.ref k.objs.size) p1 e3;have keep:∀b u,b≠x->k.get? b=aj u->((k.push oT).update x (Obj.mapFields (·.setIfInBounds 1 (.ref k.objs.size)))).get? b=aj u:=λb u n q=>(u4 b n).trans (dj _ q)
 have pT:(k.push oT).get? k.objs.size=aj oT:=by
  subst hT;exact jd k rfl
 refine vo p1 e3 e4 (h _ ⟨λb u q=>keep b u (λz=>by subst z;rw[nw]at q;cases q) (kB b u q),nw,fu.of_keeps λb u q n=>?_,⟨_,_,k.objs.size,oT,_,u1,u3.trans e2,u2,?_,?_,?_,tne,(u4 _ tne).trans pT,by rw[←hT],?_⟩⟩ λb u q n=>?_)
 .obtain⟨sl,z⟩:=so.2.2 b u q;exact⟨_,keep b _ (oH e1 e3 q n) z,rfl⟩
 .simp[e4]
 .rw[Array.getElem?_setIfInBounds_ne (by decide)];exact e5
 .cases q:B.get? k.objs.size with
  |none=>rfl
  |some u=>exact absurd (gk (kB _ u q)) (qu _)
 .first|(simp;done)|(rcases hpl with rfl|⟨_,_,_,_,_,_,_,rfl⟩<;>simp)
 .obtain⟨sl,z⟩:=so.2.2 b u q;exact⟨sl,keep b _ (oH e1 e3 q n) z⟩
theorem ahR(hfr:A.frames=aj (env::outer))(hf:env.frame=aj L)(f:Fly B (env::outer) x C s.heap)(h:∀h',zF B (env::outer) x C (a0r L) h'->s.heap.UpToSlots h'->Q () {s with heap:=h' }):dh M A (noteFrame (.ref x) env) Q E s:=by
 obtain⟨st,nw,fu,⟨o,vs,T,oT,ts,e1,e2,e3,e4,e5,e6,e7,e8,e9,e10⟩⟩:=f;unfold noteFrame;simp only[hf];refine bw (jx e1 e3 e4 ?_);rw[if_pos (by simp)];refine bw (jx e8 e9 e10 ?_);rw[if_neg (by simp[a0r])];have l3:3<ts.size:=(wj.mp e10).1;obtain⟨u1,u2,u3,u4⟩:=kY (i:=3) (v:=.none) e8 e9;refine bw (vo e8 e9 l3 ?_);refine abY hfr hf (λb u q=>(u4 b λz=>by subst z;rw[e6]at q;cases q).trans (st b u q)) nw (fu.of_keeps λb u q n=>⟨u,(u4 b (oH e8 e9 q n)).trans q,rfl⟩) ((u4 x (Ne.symm e7)).trans e1) e2 e3 (wj.mp e4).1 e5 λh' f' up=>h h' f' ?_;exact λb u q n=>up b u ((u4 b (oH e8 e9 q n)).trans q) n
theorem zF.tail(f:zF B (env::outer) x C fl h):zF B outer x C fl h:=by
 obtain⟨st,nw,⟨_,_,fu⟩,tr⟩:=f;exact⟨st,nw,fu,tr⟩
theorem avR(hfr:A.frames=aj (env::outer))(hf:env.frame=aj L)(f:Fly B (env::outer) x C s.heap)(h:∀h',Fly B outer x C h'->s.heap.UpToSlots h'->Q () {s with heap:=h' }):dh M A (leaving env (.ref x)) Q E s:=by
 unfold leaving;refine bw (ahR hfr hf f λh1 f1 up1=>wN f1 λh2 f2 up2=>?_);exact h h2 f2.tail (up1.trans up2)
theorem ao0{h0:jq}(hfr:A.frames=aj (env::outer))(hf:env.frame=aj L)(st:B.StaysIn h0)(fu:h0.FunFrames B (env::outer))(hm:a2j h0 s.heap x C us)(h:∀h',Fly B outer x C h'->s.heap.UpToSlots h'->Q () {s with heap:=h' }):dh M A (leaving env (.ref x)) Q E s:=by
 obtain⟨t,e1,_,_⟩:=hm.there;unfold leaving noteFrame;simp only[hf];refine bw (bw (jx (vs:=#[.ref t,.none,.none,.none,.bool ao,.none]) (i:=1) e1 rfl rfl ?_));rw[if_neg (by simp)]
 have nw:B.get? x=aq:=by
  cases q:B.get? x with
  |none=>rfl
  |some u=>have:=st x u q;rw[hm.new]at this;cases this
 refine abY hfr hf (λb u q=>hm.keeps b u (st b u q)) nw (fu.of_keeps λb u q _=>⟨u,hm.keeps b u q,rfl⟩) e1 rfl rfl (by simp) rfl λh1 f1 up1=>wN f1 λh2 f2 up2=>?_;exact h h2 f2.tail (up1.trans up2)
end
def af2(A:qb)(h:jq):Prop:=A.handled=aq∨∃x o vs,A.handled=aj (.ref x)/\h.get? x=aj o/\o.data=.fields vs/\vs[2]?=aj .none
theorem af3:entryFor table "proto.unchain"=aj Builtin.«proto.unchain» :=entryFor_of_fast (by kernel_rfl)
variable{Q:Option au->cg->Prop}
section
variable{prog:lq}{w:jg}{A:qb}{E:au->cg->Prop}{s:cg}
theorem asT{α:Type}{Q:α->cg->Prop}{a:bx}{oa:Obj}{ws:Array au}(hq:af2 A s.heap)(ea:s.heap.get? a=aj oa)(da:oa.data=.fields ws)(la:2<ws.size)(na:∀x,A.handled=aj (.ref x)->x≠a)
  (h:∀h',(∀b,b≠a->h'.get? b=s.heap.get? b)->(∃o,h'.get? a=aj o/\o.cls=oa.cls)->E (.ref a) {s with heap:=h' }):dh (dz prog w) A (raiseNew (.ref a):Sem α) Q E s:=by
 unfold raiseNew;refine bw (wpAny_handled ?_);rcases hq with hn|⟨x,o,vs,hx,ex,dx,vx⟩
 .rw[hn];exact bw (gV (wpAny_throw (h s.heap (λ_ _=>rfl) ⟨oa,ea,rfl⟩)))
 .rw[hx];have ne:=na x hx;show dh (dz prog w) _ (if((au.ref x)!=(au.ref a))=ak then _ else _) _ _ _;rw[if_pos (by simpa using ne)];refine bw (za (wpAny_runValue (codeAny_builtin af3 ?_)));show dh (dz prog w) _ (field (.ref x) 2 >>= _) _ _ _;refine bw (jx ex dx vx ?_);show dh (dz prog w) _ (if((au.none:au)==au.none)=ak then _ else _) _ _ _;rw[if_pos (by decide)];refine bw (gV (gV ?_));obtain⟨u1,u2,u3,u4⟩:=kY (i:=2) (v:=.ref x) ea da;show dh (dz prog w) _ (setField (.ref a) 2 (.ref x) >>= _) _ _ _;exact bw (vo ea da la (wpAny_throw (h _ u4 ⟨_,u1,u3⟩)))
theorem rZ{α:Type}{Q:α->cg->Prop}(hq:af2 A s.heap)(h:∀a h',(∀b o,s.heap.get? b=aj o->h'.get? b=aj o)->(∃o,h'.get? a=aj o/\o.cls=.type "StopIteration")->E (.ref a) {s with heap:=h' }) :
  dh (dz prog w) A (newExc (.type "StopIteration") [] >>= λe=>(raiseNew e:Sem α)) Q E s:=by
 refine bw ?_;unfold newExc newTuple;refine bw (uw (bw (wpAny_of_eq (a:=Value.none) (by simp only[firstArgMember];rfl) (uw ?_ (by size_fits)))) (by size_fits));generalize hh:s.heap.push {cls:=.type "tuple",data:=.seq ([]:List au).toArray}=h1;generalize ho:({cls:=.type "StopIteration",data:=.fields (#[.ref s.heap.objs.size,.none,.none,.none,.bool ao,.none]++ownMembersOf (.type "StopIteration") [])}:Obj)=o1;have k1:∀b o,s.heap.get? b=aj o->(h1.push o1).get? b=aj o:=λb o e=>dj _ (hh ▸ dj _ e)
 have ea:(h1.push o1).get? h1.objs.size=aj o1:=by
  subst ho;exact jd h1 rfl
 have old:∀b o,s.heap.get? b=aj o->b≠h1.objs.size:=λb o e z=>by
  have l1:b<h1.objs.size:=by
   rw[←hh,zj];exact a0w (gk e)
  exact absurd l1 (by rw[z];exact qu _)
 refine asT (ws:=#[.ref s.heap.objs.size,.none,.none,.none,.bool ao,.none]++ownMembersOf (.type "StopIteration") []) ?_ ea (by rw[←ho]) (by simp[ownMembersOf]) (λx hx=>?_) λh' k c=>h h1.objs.size h' (λb o e=>(k b (old b o e)).trans (k1 b o e)) ?_
 .rcases hq with z|⟨x,o,vs,a1,a2,a3⟩
  .exact .inl z
  .exact .inr ⟨x,o,vs,a1,k1 _ _ a2,a3⟩
 .rcases hq with z|⟨x',o,vs,a1,a2,a3⟩
  .rw[z]at hx;cases hx
  .rw[a1]at hx;cases hx;exact old _ _ a2
 .obtain⟨o,e,c⟩:=c;exact⟨o,e,by rw[c,←ho]⟩
theorem vQ{T id:String}{b:Builtin}(slot:Slot T (Str.ofString "__next__") id)(entry:entryFor table id=aj b)(hT:s.TypeIs (.ref it) T)(args:argsOk id ⟨[.ref it],[]⟩)
  (hb:dh (dz prog w) A.in1 (b ⟨[.ref it],[]⟩) (λ_ _=>False) (λe s'=>∃a o,e=.ref a/\s'.heap.get? a=aj o/\o.cls=.type "StopIteration"/\Q aq s') s):dh (dz prog w) A (a0y (.ref it)) Q E s:=by
 unfold a0y;refine bw (wpAny_attempt (yt hT slot (a0j slot hT entry (kj hb (λ_ _ z=>z.elim) λe s' z=>?_) args)));obtain⟨a,o,rfl,e1,e2,q⟩:=z;exact bw (wpAny_isInstance (T:="StopIteration") (b:=true) ⟨o,e1,e2⟩ isSubtype_stop (gV q))
theorem aaR(hq:af2 A s.heap)(e:s.heap.get? it=aj o)(d:o.data=.fields vs)(l:vs[2]?≠aj .none):af2 A (s.heap.update it (Obj.mapFields (·.setIfInBounds i v))):=by
 rcases hq with z|⟨x,ox,ws,a1,a2,a3,a4⟩
 .exact .inl z
 .refine .inr ⟨x,ox,ws,a1,?_,a3,a4⟩
  have ne:x≠it:=λz=>by
   subst z;rw[e]at a2;cases a2;rw[d]at a3;cases a3;exact l a4
  exact((kY e d).2.2.2 x ne).trans a2
theorem asU{items:Array au}(hq:af2 A s.heap)(hit:s.heap.IsListIter it l i)(hl:s.heap.IsList l items)(hx:items[i]?=aq)
  (h:∀h',a1w it s.heap h'->Q aq {s with heap:=h' }):dh (dz prog w) A (a0y (.ref it)) Q E s:=by
 obtain⟨o,e1,c1,d1⟩:=id hit;obtain⟨ol,e2,_,nl,d2⟩:=hl;refine vQ slot_listiter_next entry_listiter_next hit.typeIs (args_listiter_next _) ?_;show dh (dz prog w) _ (field (.ref it) 0 >>= _) _ _ s;refine bw (jx e1 d1 (x:=.ref l) rfl ?_);show dh (dz prog w) _ (field (.ref it) 1 >>= _) _ _ s;refine bw (jx e1 d1 (x:=.int i 0) rfl ?_);show dh (dz prog w) _ (seqItems? (.ref l) >>= _) _ _ s;refine bw (zm e2 d2 ?_);simp only[hx,wu];refine bw (a1d (bw (vo e1 d1 (by simp) ?_)));refine rZ (A:=A.in1) (aaR hq e1 d1 (by simp)) λa h' k c=>?_;obtain⟨oa,ea,ca⟩:=c;exact⟨a,oa,rfl,ea,ca,h h' λb ob n e=>k b ob (((kY e1 d1).2.2.2 b n).trans e)⟩
theorem avS{items:Array au}(hq:af2 A s.heap)(hit:s.heap.IsTupleIter it l i)(hl:s.heap.IsTuple l items)(hx:items[i]?=aq)
  (h:∀h',a1w it s.heap h'->Q aq {s with heap:=h' }):dh (dz prog w) A (a0y (.ref it)) Q E s:=by
 obtain⟨o,e1,c1,d1⟩:=id hit;obtain⟨ol,e2,_,nl,d2⟩:=hl;refine vQ F.slot_tuple_iterator_next F.entry_tuple_iterator_next hit.typeIs (F.args_tuple_iterator_next_1 _) ?_;show dh (dz prog w) _ (field (.ref it) 0 >>= _) _ _ s;refine bw (jx e1 d1 (x:=.ref l) rfl ?_);show dh (dz prog w) _ (field (.ref it) 1 >>= _) _ _ s;refine bw (jx e1 d1 (x:=.int i 0) rfl ?_);show dh (dz prog w) _ (seqItems? (.ref l) >>= _) _ _ s;refine bw (zm e2 d2 ?_);simp only[hx,wu];refine bw (a1d (bw (vo e1 d1 (by simp) ?_)));refine rZ (A:=A.in1) (aaR hq e1 d1 (by simp)) λa h' k c=>?_;obtain⟨oa,ea,ca⟩:=c;exact⟨a,oa,rfl,ea,ca,h h' λb ob n e=>k b ob (((kY e1 d1).2.2.2 b n).trans e)⟩
theorem avT{x left step:Int}(hq:af2 A s.heap)(hit:IsRangeIter s.heap it x left step)(hleft:left<=0)
  (h:∀h',a1w it s.heap h'->Q aq {s with heap:=h' }):dh (dz prog w) A (a0y (.ref it)) Q E s:=by
 refine vQ F.slot_range_iterator_next F.entry_range_iterator_next ⟨_,hit,rfl⟩ (F.args_range_iterator_next_1 _) ?_;show dh (dz prog w) _ (field (.ref it) 0 >>= _) _ _ s;refine bw (jx hit rfl (i:=0) rfl ?_);show dh (dz prog w) _ (field (.ref it) 1 >>= _) _ _ s;refine bw (jx hit rfl (i:=1) rfl ?_);show dh (dz prog w) _ (field (.ref it) 2 >>= _) _ _ s;refine bw (jx hit rfl (i:=2) rfl ?_);show dh (dz prog w) _ (if left<=0 then _ else _) _ _ s;rw[if_pos hleft];refine bw (a1d (bw ?_));refine rZ (A:=A.in1) hq λa h' k c=>?_;obtain⟨oa,ea,ca⟩:=c;exact⟨a,oa,rfl,ea,ca,h h' λb ob n e=>k b ob e⟩
theorem asV(hq:af2 A s.heap)(hit:s.heap.IsStrIter it "str_ascii_iterator" x t i)(hx:x.cps[i]?=aq)
  (h:∀h',a1w it s.heap h'->Q aq {s with heap:=h' }):dh (dz prog w) A (a0y (.ref it)) Q E s:=by
 obtain⟨o,e1,c1,d1⟩:=id hit;refine vQ F.slot_str_ascii_iterator_next F.entry_str_ascii_iterator_next hit.typeIs (F.args_str_ascii_iterator_next_1 _) ?_;show dh (dz prog w) _ (field (.ref it) 0 >>= _) _ _ s;refine bw (jx e1 d1 (x:=.str x t) rfl ?_);show dh (dz prog w) _ (field (.ref it) 1 >>= _) _ _ s;refine bw (jx e1 d1 (x:=.int i 0) rfl ?_);simp only[hx,wu];refine bw (a1d (bw (vo e1 d1 (by simp) (bw (wpAny_letGo ?_)))));refine rZ (A:=A.in1) (aaR hq e1 d1 (by simp)) λa h' k c=>?_;obtain⟨oa,ea,ca⟩:=c;exact⟨a,oa,rfl,ea,ca,h h' λb ob n e=>k b ob (((kY e1 d1).2.2.2 b n).trans e)⟩
theorem asW(hq:af2 A s.heap)(hit:s.heap.IsStrIter it "str_iterator" x t i)(hx:x.cps[i]?=aq)
  (h:∀h',a1w it s.heap h'->Q aq {s with heap:=h' }):dh (dz prog w) A (a0y (.ref it)) Q E s:=by
 obtain⟨o,e1,c1,d1⟩:=id hit;refine vQ F.slot_str_iterator_next F.entry_str_iterator_next hit.typeIs (F.args_str_iterator_next_1 _) ?_;show dh (dz prog w) _ (field (.ref it) 0 >>= _) _ _ s;refine bw (jx e1 d1 (x:=.str x t) rfl ?_);show dh (dz prog w) _ (field (.ref it) 1 >>= _) _ _ s;refine bw (jx e1 d1 (x:=.int i 0) rfl ?_);simp only[hx,wu];refine bw (a1d (bw (vo e1 d1 (by simp) (bw (wpAny_letGo ?_)))));refine rZ (A:=A.in1) (aaR hq e1 d1 (by simp)) λa h' k c=>?_;obtain⟨oa,ea,ca⟩:=c;exact⟨a,oa,rfl,ea,ca,h h' λb ob n e=>k b ob (((kY e1 d1).2.2.2 b n).trans e)⟩
end
end
section
noncomputable abbrev Key:=Sum Int Str
noncomputable def agE:Key->au->Bool
 |.inl k,v=>au.isInt k v
 |.inr x,v=>au.isStrOf x v
noncomputable def aV9(w:jg):Key->Int
 |.inl k=>hashInt k
 |.inr x=>hashStr w x
theorem dY:∀{k:Key}{v:au},agE k v=ak->(∃i t,k=Sum.inl i/\v=au.int i t)∨(∃x t,k=Sum.inr x/\v=au.str x t)
 |.inl i,v,h=>by
  obtain⟨t,e⟩:=Value.isInt_shape (k:=i) (v:=v) h;exact .inl ⟨i,t,rfl,e⟩
 |.inr x,v,h=>by
  obtain⟨t,e⟩:=Value.isStrOf_shape (x:=x) (v:=v) h;exact .inr ⟨x,t,rfl,e⟩
theorem asY(i:Int)(t:Tok):agE (.inl i) (.int i t)=ak:=by simp[agE,au.isInt]
theorem asZ(x:Str)(t:Tok):agE (.inr x) (.str x t)=ak:=by simp[agE,au.isStrOf]
theorem aH3(a b:Int):decide ((Sum.inl a:Key)=Sum.inl b)=(a==b):=by
 by_cases e:a=b
 .subst e;simp
 .have h:¬ (Sum.inl a:Key)=Sum.inl b:=λq=>e (Sum.inl.inj q);rw[decide_eq_false h];exact(beq_eq_false_iff_ne.mpr e).symm
theorem aH4(a b:Str):decide ((Sum.inr a:Key)=Sum.inr b)=decide (a=b):=by
 by_cases e:a=b
 .subst e;simp
 .have h:¬ (Sum.inr a:Key)=Sum.inr b:=λq=>e (Sum.inr.inj q);rw[decide_eq_false h,decide_eq_false e]
theorem aH5(a:Int)(b:Str):decide ((Sum.inl a:Key)=Sum.inr b)=ao:=decide_eq_false (λq=>nomatch q)
theorem aH6(a:Str)(b:Int):decide ((Sum.inr a:Key)=Sum.inl b)=ao:=decide_eq_false (λq=>nomatch q)
noncomputable def kZ(prog:lq)(w:jg):PySem.KeyKind prog w Key where
 is:=agE
 hash:=aV9 w
 inj:=λv a b ha hb=>by
  rcases dY ha with⟨i,t,rfl,rfl⟩|⟨x,t,rfl,rfl⟩
  .rcases dY hb with⟨j,u,rfl,e⟩|⟨y,u,rfl,e⟩
   .injection e with e1 _;rw[e1]
   .exact nomatch e
  .rcases dY hb with⟨j,u,rfl,e⟩|⟨y,u,rfl,e⟩
   .exact nomatch e
   .injection e with e1 _;rw[e1]
 byValue:=λk v h=>by
  rcases dY h with⟨i,t,rfl,rfl⟩|⟨x,t,rfl,rfl⟩<;>rfl
 pyHash:=λhv h=>by
  rcases dY hv with⟨i,t,rfl,rfl⟩|⟨x,t,rfl,rfl⟩
  .exact wpAny_pyHash_int h
  .exact wpAny_pyHash_str h
 eqBool:=λhu hv h=>by
  rcases dY hu with⟨i,t,rfl,rfl⟩|⟨x,t,rfl,rfl⟩
  .rcases dY hv with⟨j,u,rfl,rfl⟩|⟨y,u,rfl,rfl⟩
   .rw[aH3]at h;exact wpAny_eqBool_int h
   .rw[aH5]at h;exact SeqAt.EqAt.int_str i t y u _ _ _ _ h
  .rcases dY hv with⟨j,u,rfl,rfl⟩|⟨y,u,rfl,rfl⟩
   .rw[aH6]at h;exact SeqAt.EqAt.str_int x t j u _ _ _ _ h
   .rw[aH4]at h;exact wpAny_eqBool_str h
 «strs» :=λk x t v h=>by
  rcases dY h with⟨i,u,rfl,e⟩|⟨y,u,rfl,e⟩
  .exact nomatch e
  .injection e with e1 _;subst e1;cases v<;>rfl
theorem akY(prog:lq)(w:jg)(i:Int)(t:Tok):(kZ prog w).is (.inl i) (.int i t)=ak:=asY i t
theorem akZ(prog:lq)(w:jg)(x:Str)(t:Tok):(kZ prog w).is (.inr x) (.str x t)=ak:=asZ x t
end
variable{w:jg}
section
inductive V where
 |non|bl (b:Bool)|int (i:Int)|str (x:Str)|byt (b:Array UInt8)|flt (b:UInt64)|ref (a:bx)|ty (n:String)
 deriving DecidableEq
noncomputable def RelV:V->au->Prop
 |.non,u=>u=au.none
 |.bl b,u=>u=au.bool b
 |.int i,u=>∃t,u=au.int i t
 |.str x,u=>∃t,u=au.str x t
 |.byt b,u=>∃t,u=au.bytes b t
 |.flt b,u=>∃t,u=au.float b t
 |.ref a,u=>u=au.ref a
 |.ty n,u=>u=au.type n
noncomputable abbrev Vals:List V->List au->Prop:=Paired RelV
theorem Vals.length{xs:List V}{us:List au}(r:Vals xs us):xs.length=us.length:=Paired.length r
theorem Vals.get:∀{xs:List V}{us:List au}{i:Nat}{x:V},Vals xs us->xs[i]?=aj x->∃u,us[i]?=aj u/\RelV x u
 |_,_,_,_,.nil,e=>by simp at e
 |_,_,0,_,.cons r _,e=>by simp at e;subst e;exact⟨_,rfl,r⟩
 |_,_,i+1,x,.cons _ t,e=>by
  obtain⟨u,h1,h2⟩:=Vals.get (i:=i) (x:=x) t (by simpa using e);exact⟨u,by simpa using h1,h2⟩
theorem Vals.set{x:V}(r:RelV x u):∀{xs:List V}{us:List au}(i:Nat),Vals xs us->Vals (xs.set i x) (us.set i u)
 |_,_,_,.nil=>.nil
 |_,_,0,.cons _ t=>.cons r t
 |_,_,i+1,.cons q t=>.cons q (Vals.set r i t)
theorem Vals.append:∀{xs ys:List V}{us ws:List au},Vals xs us->Vals ys ws->Vals (xs++ys) (us++ws)
 |_,_,_,_,.nil,s=>s
 |_,_,_,_,.cons r t,s=>.cons r (Vals.append t s)
theorem Vals.take:∀{xs:List V}{us:List au}(n:Nat),Vals xs us->Vals (xs.take n) (us.take n)
 |_,_,0,_=>.nil
 |_,_,_+1,.nil=>.nil
 |_,_,n+1,.cons r t=>.cons r (Vals.take n t)
theorem Vals.drop:∀{xs:List V}{us:List au}(n:Nat),Vals xs us->Vals (xs.drop n) (us.drop n)
 |_,_,0,r=>r
 |_,_,_+1,.nil=>.nil
 |_,_,n+1,.cons _ t=>Vals.drop n t
noncomputable def aBA:Option V->Option au->Prop
 |some v,aj u=>RelV v u
 |none,aq=>True
 |_,_=>False
noncomputable def KV{κ:Type}:List (κ×V)->List (κ×au)->Prop:=Paired λ(p:κ×V)(q:κ×au)=>p.1=q.1/\RelV p.2 q.2
noncomputable def kV:Key->V
 |.inl i=>.int i
 |.inr x=>.str x
inductive HO where
 |lst (xs:List V)
 |tup (xs:List V)
 |dK (kvs:List (Key×V))|dT (kvs:List (List Key×V))
 |set (S:Int->Bool) (n:Nat)
 |ins (C dx:bx) (fs:List (Str×V))
 |own (x:bx)
 |xd (fs:List (Str×V))
 |met (f x:bx)
 |rng (lo hi:Int)
 |frz (o:Obj) (u:HO)
 |tbl (ps:Array au)
 |ext (φ:jq->Prop)
noncomputable abbrev Hp:=Addr->Option HO
noncomputable def upd(H:Hp)(a:bx)(o:HO):Hp:=λb=>if b=a then aj o else H b
theorem aP:upd H a o a=aj o:=by unfold upd;rw[if_pos rfl]
theorem bT(h:b≠a):upd H a o b=H b:=by unfold upd;rw[if_neg h]
theorem mL{H:Hp}{a:bx}{o:HO}(h:H a=aj o)(h':H b=aq):a≠b:=by
 intro e;subst e;rw[h]at h';cases h'
section
variable(P:lq)(w:jg)
noncomputable def qX(H:Hp)(h:jq)(a:bx):HO->Prop
 |.lst xs=>xs.length<=cj/\∃(its:List au)(n:Nat),Vals xs its/\h.get? a=aj {cls:=.type "list",data:=.seq its.toArray n}
 |.tup xs=>xs.length<=cj/\∃its:List au,Vals xs its/\IsTup h a its.toArray
 |.dK kvs=>kvs.length<=cj/\(a==sysModules)=ao/\∃vs,KV kvs vs/\h.DictOf (kZ P w) a vs
 |.dT kvs=>kvs.length<=cj/\(a==sysModules)=ao/\∃xs:List (List Key×bx×au),
   Paired (λ(p:List Key×V)(q:List Key×bx×au)=>p.1=q.1/\H q.2.1=aj (.tup (p.1.map kV))/\RelV p.2 q.2.2) kvs xs /\
   ∃o es ep,h.get? a=aj o/\o.ExactDict/\o.data=.dict es ep/\es.toList=xs.map (entryOfKey (tupleKind (kZ P w)))/\(xs.map (·.1)).Nodup
 |.set S n=>h.SetOf (intKind P w) a S n
 |.ins C dx fs=>H dx=aj (.own a)/\fs.length<=1000/\dx≠a/\h.get? a=aj (zq C dx) /\
   ∃mA,h.Ns1 dx mA/\(∀f,aBA (fs.lookup f) (mA f))/\PySem.Within mA (fs.map (·.1))
 |.own _=>∃o,h.get? a=aj o
 |.xd fs=>∃mA,h.Ns1 a mA/\∀f,aBA (fs.lookup f) (mA f)
 |.rng lo hi=>∃t u v,h.get? a=aj {cls:=.type "range",data:=.fields #[.int lo t,.int hi u,.int 1 v]}
 |.frz o u=>h.get? a=aj o/\qX H h a u
 |.tbl ps=>h.get? a=aj {cls:=.none,data:=.fields ps}
 |.met f x=>h.get? a=aj (PySem.W.methodObj (.ref f) (.ref x))
 |.ext φ=>φ h/\(∃o,h.get? a=aj o)/\∀h1 h2:jq,φ h1->(∀o,h1.get? a=aj o->h2.get? a=aj o)->φ h2
def HOk(H:Hp)(h:jq):Prop:=∀a o,H a=aj o->qX P w H h a o
end
section
variable{w:jg}{h h':jq}{a:bx}
theorem qX.lt(x:qX P w H h a o):a<h.objs.size:=by
 cases o with
 |lst xs=>obtain⟨_,_,_,_,e⟩:=x;exact gk e
 |tup xs=>obtain⟨_,_,_,p⟩:=x;exact p.lt
 |dK kvs=>obtain⟨_,_,_,_,o,_,_,e,_⟩:=x;exact gk e
 |dT kvs=>obtain⟨_,_,_,_,o,_,_,e,_⟩:=x;exact gk e
 |set S n=>obtain⟨o,_,_,_,e,_⟩:=x;exact gk e
 |ins C dx fs=>obtain⟨_,_,_,e,_⟩:=x;exact gk e
 |own y=>obtain⟨_,e⟩:=x;exact gk e
 |xd fs=>obtain⟨_,⟨_,_,_,e,_⟩,_⟩:=x;exact gk e
 |rng lo hi=>obtain⟨_,_,_,e⟩:=x;exact gk e
 |frz ob u=>obtain⟨e,_⟩:=x;exact gk e
 |tbl ps=>exact gk (show h.get? a=aj _ from x)
 |met f y=>exact gk (show h.get? a=aj _ from x)
 |ext φ=>obtain⟨_,⟨_,e⟩,_⟩:=x;exact gk e
theorem Paired.aPA{α β:Type}{F G:α->β->Prop}:∀{l₁:List α}{l₂:List β},Paired F l₁ l₂->(∀a b,F a b->G a b)->Paired G l₁ l₂
 |_,_,.nil,_=>.nil
 |_,_,.cons r t,f=>.cons (f _ _ r) (Paired.aPA t f)
theorem qX.stay(x:qX P w H h a o)(k:∀b u,(b=a∨H b=aj (.own a))->h.get? b=aj u->h'.get? b=aj u)
  (ho:∀b,H b=aj (.own a)->H' b=aj (.own a))(ht:∀b xs,H b=aj (.tup xs)->H' b=aj (.tup xs)):qX P w H' h' a o:=by
 induction o with
 |lst xs=>obtain⟨z,its,n,r,e⟩:=x;exact⟨z,its,n,r,k _ _ (.inl rfl) e⟩
 |tup xs=>obtain⟨z,its,r,ob,e,c⟩:=x;exact⟨z,its,r,ob,k _ _ (.inl rfl) e,c⟩
 |dK kvs=>obtain⟨z,y,vs,r,ob,es,ep,e,c⟩:=x;exact⟨z,y,vs,r,ob,es,ep,k _ _ (.inl rfl) e,c⟩
 |dT kvs =>
  obtain⟨z,y,xs,r,ob,es,ep,e,c⟩:=x;exact⟨z,y,xs,Paired.aPA r λp q z=>⟨z.1,ht _ _ z.2.1,z.2.2⟩,ob,es,ep,k _ _ (.inl rfl) e,c⟩
 |set S n=>obtain⟨ob,es,ep,t,e,c⟩:=x;exact⟨ob,es,ep,t,k _ _ (.inl rfl) e,c⟩
 |ins C dx fs =>
  obtain⟨d,z,ne,e,mA,⟨od,es,ep,e2,c⟩,r⟩:=x;exact⟨ho _ d,z,ne,k _ _ (.inl rfl) e,mA,⟨od,es,ep,k _ _ (.inr d) e2,c⟩,r⟩
 |own y=>obtain⟨ob,e⟩:=x;exact⟨ob,k _ _ (.inl rfl) e⟩
 |xd fs=>obtain⟨mA,⟨od,es,ep,e,c⟩,r⟩:=x;exact⟨mA,⟨od,es,ep,k _ _ (.inl rfl) e,c⟩,r⟩
 |rng lo hi=>obtain⟨t,u,v,e⟩:=x;exact⟨t,u,v,k _ _ (.inl rfl) e⟩
 |frz ob u ih=>obtain⟨e,q⟩:=x;exact⟨k _ _ (.inl rfl) e,ih q⟩
 |tbl ps =>
  have e:h.get? a=aj {cls:=.none,data:=.fields ps}:=x;show h'.get? a=aj {cls:=.none,data:=.fields ps};exact k a _ (.inl rfl) e
 |met f y =>
  have e:h.get? a=aj (PySem.W.methodObj (.ref f) (.ref y)):=x;show h'.get? a=aj (PySem.W.methodObj (.ref f) (.ref y));exact k a _ (.inl rfl) e
 |ext φ=>obtain⟨p,⟨o,e⟩,st⟩:=x;exact⟨st _ _ p λo q=>k _ _ (.inl rfl) q,⟨o,k _ _ (.inl rfl) e⟩,st⟩
theorem HOk.lt(x:HOk P w H h)(e:H a=aj o):a<h.objs.size:=(x a o e).lt
theorem HOk.fresh(x:HOk P w H h)(e:h.objs.size<=a):H a=aq:=by
 cases q:H a with
 |none=>rfl
 |some u=>exact absurd (ju (x.lt q) e) (qu _)
theorem HOk.kept(x:HOk P w H h)(k:∀b u,h.get? b=aj u->h'.get? b=aj u):HOk P w H h':=λa o e =>
 (x a o e).stay (λb u _ q=>k b u q) (λ_ q=>q) λ_ _ q=>q
theorem HOk.laid(x:HOk P w H h)(k:∀b u,h.get? b=aj u->h'.get? b=aj u)(hp:h.objs.size<=a)(new:qX P w (upd H a o) h' a o):HOk P w (upd H a o) h':=λb u e=>by
 have hn:=x.fresh hp;by_cases hb:b=a
 .subst hb;rw[aP]at e;cases e;exact new
 .rw[bT hb]at e;exact(x b u e).stay (λc v _ q=>k c v q) (λc q=>by rw[bT (mL q hn)];exact q) λc xs q=>by rw[bT (mL q hn)];exact q
end
def Rd(H:Hp)(a:bx)(u:HO):Prop:=H a=aj u∨∃o,H a=aj (.frz o u)
theorem Rd.ok(r:Rd H a u)(x:HOk P w H h):qX P w H h a u:=by
 rcases r with r|⟨o,r⟩
 .exact x a u r
 .obtain⟨_,q⟩:=x a _ r;exact q
noncomputable def Mut:Option HO->Prop
 |some (.lst _)=>True
 |some (.dK _)=>True
 |some (.dT _)=>True
 |some (.set _ _)=>True
 |some (.ins _ _ _)=>True
 |some (.ext _)=>True
 |_=>False
section
variable{w:jg}{h h':jq}{x:bx}
theorem HOk.write(ok:HOk P w H h)(mu:Mut (H x))(he:e=x∨H e=aj (.own x))(k:∀b u,b≠e->h.get? b=aj u->h'.get? b=aj u)(heo:∃u,h'.get? e=aj u)
  (new:qX P w (upd H x o') h' x o'):HOk P w (upd H x o') h':=λb u q=>by
 have aPB:∀c y,H c=aj (.own y)->c≠x:=λc y r z=>by subst z;rw[r]at mu;exact mu
 have aVB:∀c xs,H c=aj (.tup xs)->c≠x:=λc xs r z=>by subst z;rw[r]at mu;exact mu
 by_cases hb:b=x
 .subst hb;rw[aP]at q;cases q;exact new
 .rw[bT hb]at q;by_cases hbe:b=e
  .have q':H b=aj (.own x):=by
    rcases he with z|z
    .exact absurd (hbe.trans z) hb
    .rw[hbe];exact z
   rw[q]at q';cases q';obtain⟨v,hv⟩:=heo;exact⟨v,by rw[hbe];exact hv⟩
  .refine(ok b u q).stay (λc v hc r=>k c v ?_ r) (λc r=>by rw[bT (aPB c b r)];exact r) λc xs r=>by rw[bT (aVB c xs r)];exact r
   rcases hc with rfl|hc
   .exact hbe
   .rintro rfl;rcases he with z|z
    .exact aPB c b hc z
    .rw[hc]at z;cases z;exact hb rfl
end
structure Un(fs ex:List bx)(H H':Hp)(h h':jq):Prop where
 keep:∀b o,h.get? b=aj o->H b=aq->b∉fs->b∉ex->h'.get? b=aj o
 slot:∀b o,h.get? b=aj o->H b=aq->b∈fs->b∉ex->∃sl,h'.get? b=aj {o with slots:=sl}
 free:∀b o,h.get? b=aj o->H b=aq->b∉ex->H' b=aq
 there:∀b o,h.get? b=aj o->b∉ex->∃o',h'.get? b=aj o'
 tups:∀b xs,H b=aj (.tup xs)->H' b=aj (.tup xs)
 lA:∀b o u,H b=aj (.frz o u)->H' b=aj (.frz o u)
 wO:∀b ps,H b=aj (.tbl ps)->∃more,H' b=aj (.tbl (ps++more))
section
variable{fs ex:List bx}{H1:Hp}{h h1 h':jq}{x:bx}
theorem Un.any(u:Un fs ex H H1 h h1){ob:Obj}(q:h.get? b=aj ob)(n:H b=aq)(hx:b∉ex):∃sl,h1.get? b=aj {ob with slots:=sl}:=by
 by_cases hb:b∈fs
 .exact u.slot b ob q n hb hx
 .exact⟨ob.slots,u.keep b ob q n hb hx⟩
theorem Un.kept(k:∀b u,h.get? b=aj u->h'.get? b=aj u):Un fs ex H H h h' :=
 ⟨λb ob q _ _ _=>k b ob q,λb ob q _ _ _=>⟨ob.slots,k b ob q⟩,λ_ _ _ n _=>n,λb ob q _=>⟨ob,k b ob q⟩,λ_ _ q=>q,λ_ _ _ q=>q,λ_ ps q=>⟨#[],by rw[q];simp⟩⟩
theorem Un.refl:Un fs ex H H h h:=Un.kept λ_ _ q=>q
theorem Un.laid(k:∀b u,h.get? b=aj u->h'.get? b=aj u)(hp:h.objs.size<=a)(hn:H a=aq):Un fs ex H (upd H a o) h h' where
 keep:=λb u q _ _ _=>k b u q
 slot:=λb u q _ _ _=>⟨u.slots,k b u q⟩
 free:=λb u q n _=>by rw[bT (mq (ju (gk q) hp))];exact n
 there:=λb u q _=>⟨u,k b u q⟩
 tups:=λb xs q=>by rw[bT (mL q hn)];exact q
 lA:=λb u xs q=>by rw[bT (mL q hn)];exact q
 wO:=λb ps q=>⟨#[],by rw[bT (mL q hn),q];simp⟩
theorem Un.write(mu:Mut (H x))(he:e=x∨H e=aj (.own x))(k:∀b u,b≠e->h.get? b=aj u->h'.get? b=aj u)(heo:∃u,h'.get? e=aj u):Un fs ex H (upd H x o) h h':=by
 have hx:∀b,H b=aq->b≠x:=λb n z=>by subst z;rw[n]at mu;exact mu
 have hb:∀b,H b=aq->b≠e:=λb n z=>by
  subst z;rcases he with r|r
  .exact hx b n r
  .rw[n]at r;cases r
 have hm:∀b u,H b=aj u->¬ Mut (aj u)->b≠x:=λb u q nm z=>by subst z;rw[q]at mu;exact nm mu
 refine⟨λb u q n _ _=>k b u (hb b n) q,λb u q n _ _=>⟨u.slots,k b u (hb b n) q⟩,λb u q n _=>by rw[bT (hx b n)];exact n,λb u q _=>?_,
  λb xs q=>by rw[bT (hm b _ q λz=>z)];exact q,λb u xs q=>by rw[bT (hm b _ q λz=>z)];exact q,λb ps q=>⟨#[],by rw[bT (hm b _ q λz=>z),q];simp⟩⟩
 by_cases hbe:b=e
 .subst hbe;exact heo
 .exact⟨u,k b u hbe q⟩
end
noncomputable def trk(h:jq)(H:Hp):List bx:=(kh h.objs.size).filter λa=>(H a).isSome
noncomputable def ahS(h:jq)(H:Hp):jq:=yu h (trk h H)
theorem at4(h:jq)(H:Hp):(ahS h H).objs.size=h.objs.size:=PySem.W.hideAll_size _ _
variable{h:jq}
theorem avU(e:h.get? b=aj o)(n:H b=aq):(ahS h H).get? b=aj o :=
 a2f _ e λhm=>by
  have q:(H b).isSome=ak:=(List.mem_filter.mp hm).2;rw[n]at q;simp at q
theorem aBB(e:(ahS h H).get? b=aj o):h.get? b=aj o/\H b=aq:=by
 have e':h.get? b=aj o:=a1m (trk h H) e;refine⟨e',?_⟩;cases q:H b with
 |none=>rfl
 |some x =>
  have hm:b∈trk h H:=List.mem_filter.mpr ⟨zf.mpr (gk e'),by simp[q]⟩;have z:(ahS h H).get? b=aq:=PySem.W.hideAll_none (trk h H) hm;rw[z]at e;cases e
noncomputable def aBC(g h:jq)(L:bx):List (bx×Obj):=(kh h.objs.size).filterMap λa=>if a=L∨(g.get? a).isSome=ak then aq else(h.get? a).map λo=>(a,o)
noncomputable def rest(g h:jq)(L d:bx):List (bx×Obj):=(aBC g h L).filter λp=>decide (p.1≠d)
end
variable{A:qb}{t':Nat}{N:List Str}
section
structure Mod(K:iw)(mg:Str->Option au)(base:jq):Prop where
 kin:K.In base
 glob:base.Ns iy mg
 blt:∃mb,base.Ns builtinsNs mb/\∀x:Str,x≠"__name__"->mb x=jz x
 nolimit:base.NoLimit
structure Cx where
 prog:lq
 w:jg
 K:iw
 mg:Str->Option au
 base:jq
 A:qb
 N:List Str
 s₀:cg
 H₀:Hp
 env:Env
 outer:List Env
 stack:List Env
 ex:List bx
 fn:Str->Bool
 calm:Bool
 pn:List (bx×Obj)
 tp:List (bx×List V)
 xe:au->cg->Prop
noncomputable def frs(l:List Env):List bx:=l.filterMap (·.frame)
noncomputable abbrev Cx.fs(X:Cx):List bx:=frs X.outer
def Vis(sc:yc)(x:Str):Prop:=sc.names.lookup x=aj .local∨sc.names.lookup x=aj .cell∨sc.names.lookup x=aj .free
def Loc(sc:yc)(x:Str):Prop:=sc.names.lookup x=aj .local∨sc.names.lookup x=aj .cell
noncomputable def Look(env:Env)(h:jq)(m:Str->Option au)(x:Str)(u:au):Prop :=
 (env.kindOf x=aj .local/\m x=aj u)∨((env.kindOf x=aj .cell∨env.kindOf x=aj .free)/\∃c,env.cells.lookup x=aj c/\h.IsCell c (aj u))
structure Cx.Ok(X:Cx):Prop where
 mod:Mod X.K X.mg X.base
 kind:X.env.scope.kind=.function
 glob:X.env.globals=iy
 blt:X.env.builtins=builtinsNs
 above:X.s₀.heap.objs.size<=X.env.locals
 inj:∀x y c,X.env.cells.lookup x=aj c->X.env.cells.lookup y=aj c->x=y
 has:∀x,(X.env.kindOf x=aj .cell∨X.env.kindOf x=aj .free)->∃c,X.env.cells.lookup x=aj c
 cab:∀x c,X.fn x=ak->X.env.cells.lookup x=aj c->X.s₀.heap.objs.size<=c
 hd:X.calm=ak->X.A.handled=aq
 frames:X.A.frames=aj X.stack
 stk:X.stack=X.outer∨(X.stack=X.env::X.outer/\X.env.frame=aj X.env.locals)
 exf:∀b∈X.ex,b≠X.env.locals/\∀x c,X.env.cells.lookup x=aj c->c≠b
 bs:∀b o,X.base.get? b=aj o->X.s₀.heap.get? b=aj o/\X.H₀ b=aq
 bsz:X.base.objs.size<=X.s₀.heap.objs.size
 a9A:∀b o,X.base.get? b=aj o->b∉X.ex
 abZ:∀b∈X.ex,b∉X.fs
 vR:X.s₀.heap.FunFrames X.base X.outer
 frf:∀b∈X.fs,X.H₀ b=aq
def Hnd(A:qb)(H:Hp):Prop:=A.handled=aq∨∃x o u vs,A.handled=aj (.ref x)/\H x=aj (.frz o u)/\o.data=.fields vs/\vs[2]?=aj .none
theorem Hnd.mono(h:Hnd A H)(f:∀b o u,H b=aj (.frz o u)->H' b=aj (.frz o u)):Hnd A H':=by
 rcases h with z|⟨x,o,u,vs,a,b,c⟩
 .exact .inl z
 .exact .inr ⟨x,o,u,vs,a,f _ _ _ b,c⟩
theorem Hnd.heap(q:Hnd A H)(hok:HOk P w H h):af2 A h:=by
 rcases q with z|⟨x,o,u,vs,a,b,c⟩
 .exact .inl z
 .exact .inr ⟨x,o,vs,a,(hok x _ b).1,c⟩
structure Inv(X:Cx)(pins:List (bx×Obj))(σ:List (Option V))(H:Hp)(s:cg):Prop where
 ok:X.Ok
 os:s.os=X.s₀.os
 bare:a1f s.gens
 base:Un X.fs X.ex X.H₀ H X.s₀.heap s.heap
 loc:∃m,s.heap.Ns X.env.locals m/\∀(i:Nat)(x:Str)(v:V),X.N[i]?=aj x->σ[i]?=aj (aj v)->Vis X.env.scope x->∃u,RelV v u/\Look X.env s.heap m x u
 cell:∀x c,X.env.cells.lookup x=aj c->∃v,s.heap.IsCell c v
 free:H X.env.locals=aq
 lB:∀x c,X.env.cells.lookup x=aj c->H c=aq
 pin:∀p∈X.pn++pins,s.heap.get? p.1=aj p.2/\H p.1=aq/\p.1≠X.env.locals/\p.1∉X.fs/\∀v,p.2.data≠.cell v
 hok:HOk X.prog X.w H s.heap
 len:σ.length=X.N.length
 hnd:Hnd X.A H
 tup:∀p∈X.tp,H p.1=aj (.tup p.2)
variable{i:Nat}{E:au->cg->Prop}
section
variable{X:Cx}{pins:List (bx×Obj)}{σ:List (Option V)}{H H':Hp}{s:cg}{h':jq}
theorem Cx.Ok.aVC(ok:X.Ok)(e:X.base.get? b=aj o):b∉X.fs:=λhb=>by
 have:=(ok.vR.mem hb).1;rw[e]at this;cases this
theorem Inv.bs(I:Inv X pins σ H s):∀b o,X.base.get? b=aj o->s.heap.get? b=aj o/\H b=aq:=λb o e =>
 ⟨I.base.keep b o (I.ok.bs b o e).1 (I.ok.bs b o e).2 (I.ok.aVC e) (I.ok.a9A b o e),I.base.free b o (I.ok.bs b o e).1 (I.ok.bs b o e).2 (I.ok.a9A b o e)⟩
theorem Inv.bk(I:Inv X pins σ H s):∀b o,X.base.get? b=aj o->s.heap.get? b=aj o:=λb o e=>(I.bs b o e).1
theorem Inv.mod(I:Inv X pins σ H s):Mod X.K X.mg X.base:=I.ok.mod
theorem Inv.kIn(I:Inv X pins σ H s):X.K.In s.heap:=I.ok.mod.kin.keeps I.bk
theorem Inv.lt(I:Inv X pins σ H s):X.env.locals<s.heap.objs.size:=let⟨_,hn,_⟩:=I.loc;hn.lt
theorem Inv.sz(I:Inv X pins σ H s):X.s₀.heap.objs.size<=s.heap.objs.size:=qj I.ok.above (a0z I.lt)
theorem Inv.aVD(I:Inv X pins σ H s)(h:s.heap.objs.size<=a):a∉X.fs:=λhb=>by
 obtain⟨_,o,ho,_⟩:=I.ok.vR.mem hb;exact absurd (ju (gk ho) (qj I.sz h)) (qu _)
theorem Inv.cne(I:Inv X pins σ H s):∀x c,X.env.cells.lookup x=aj c->c≠X.env.locals:=λx c e z=>by
 obtain⟨v,o,ho,hd⟩:=I.cell x c e;obtain⟨m,⟨o',es,ep,ho',hd',_⟩,_⟩:=I.loc;rw[z,ho']at ho;cases ho;rw[hd']at hd;cases hd
theorem Inv.vR(I:Inv X pins σ H s):s.heap.FunFrames X.base X.outer:=by
 have all:∀(l:List Env),(∀b∈frs l,b∈X.fs)->X.s₀.heap.FunFrames X.base l->s.heap.FunFrames X.base l:=by
  intro l
  induction l with
  |nil=>intro _ _;trivial
  |cons env r ih =>
   intro hs hl;obtain⟨hk,⟨L,o,hf,hn,ho,hd⟩,hr⟩:=hl;have hL:L∈X.fs:=hs L (by unfold frs;rw[a2g,hf];exact iz);obtain⟨sl,e⟩:=I.base.slot L o ho (I.ok.frf L hL) hL λz=>I.ok.abZ L z hL;exact⟨hk,⟨L,_,hf,hn,e,hd⟩,ih (λb hb=>hs b (by unfold frs;rw[a2g,hf];exact gb _ hb)) hr⟩
 exact all X.outer (λ_ hb=>hb) I.ok.vR
theorem Inv.stack(I:Inv X pins σ H s):s.heap.FunFrames X.base X.stack:=by
 rcases I.ok.stk with e|⟨e,hf⟩
 .rw[e];exact I.vR
 .rw[e];obtain⟨m,hn,_⟩:=I.loc;refine .cons (by rw[I.ok.kind];decide) hf hn ?_ I.vR;exact Heap.get?_none_of_le (qj I.ok.bsz I.ok.above)
theorem Inv.ao1(I:Inv X pins σ H s):∀b∈frs X.stack,b∈X.env.locals::X.fs:=λb hb=>by
 rcases I.ok.stk with e|⟨e,hf⟩
 .rw[e]at hb;exact gb _ hb
 .rw[e]at hb;unfold frs at hb;rw[a2g,hf]at hb;exact hb
theorem Inv.ahT(I:Inv X pins σ H s):∀b∈frs X.stack,H b=aq:=λb hb=>by
 rcases jc.mp (I.ao1 b hb)with e|hb
 .rw[e];exact I.free
 .obtain⟨_,o,ho,_⟩:=I.ok.vR.mem hb;exact I.base.free b o ho (I.ok.frf b hb) λz=>I.ok.abZ b z hb
theorem Inv.step{g':Array GenState}{d':Drawn}{ch:List bx}(I:Inv X pins σ H s)
  (hch:∀b∈ch,(b∈X.ex∨X.s₀.heap.objs.size<=b)/\b≠X.env.locals/\(∀x c,X.env.cells.lookup x=aj c->c≠b)/\∀p∈X.pn++pins,p.1≠b)
  (keep:∀b o,b≠X.env.locals->b∉X.fs->b∉ch->s.heap.get? b=aj o->H b=aq->h'.get? b=aj o)
  (slot:∀b o,b≠X.env.locals->b∈X.fs->b∉ch->s.heap.get? b=aj o->H b=aq->∃sl,h'.get? b=aj {o with slots:=sl})(free:∀b o,b∉ch->s.heap.get? b=aj o->H b=aq->H' b=aq)
  (there:∀b o,b∉ch->s.heap.get? b=aj o->∃o',h'.get? b=aj o')
  (tups:∀b xs,H b=aj (.tup xs)->H' b=aj (.tup xs))(lA:∀b o u,H b=aj (.frz o u)->H' b=aj (.frz o u))(wO:∀b ps,H b=aj (.tbl ps)->∃more,H' b=aj (.tbl (ps++more)))
  (ns:∀m,s.heap.Ns X.env.locals m->h'.Ns X.env.locals m)(hok:HOk X.prog X.w H' h')(hg:a1f g') :
  Inv X pins σ H' {s with heap:=h',gens:=g',drawn:=d',toks:=t' }:=by
 have neL:∀b o,X.s₀.heap.get? b=aj o->b≠X.env.locals:=λb o e=>mq (ju (gk e) I.ok.above)
 have neC:∀b o,X.s₀.heap.get? b=aj o->b∉X.ex->b∉ch:=λb o e hx hb=>by
  rcases(hch b hb).1 with z|z
  .exact hx z
  .exact absurd (ju (gk e) z) (qu _)
 have cellK:∀x c,X.env.cells.lookup x=aj c->∀v,s.heap.IsCell c v->h'.IsCell c v:=λx c e v ⟨o,ho,hd⟩=>by
  have nch:c∉ch:=λz=>(hch c z).2.2.1 x c e rfl;by_cases hc:c∈X.fs
  .obtain⟨sl,q⟩:=slot c o (I.cne x c e) hc nch ho (I.lB x c e);exact⟨_,q,hd⟩
  .exact⟨o,keep c o (I.cne x c e) hc nch ho (I.lB x c e),hd⟩
 refine⟨I.ok,I.os,hg,⟨λb o e n hb hx=>?_,λb o e n hb hx=>?_,λb o e n hx=>?_,λb o e hx=>?_,λb xs e=>tups b xs (I.base.tups b xs e),λb o xs e=>lA b o xs (I.base.lA b o xs e),λb ps e=>?_⟩,?_,λx c e=>?_,?_,λx c e=>?_,λp hp=>?_,hok,I.len,I.hnd.mono lA,λp hp=>tups _ _ (I.tup p hp)⟩
 .exact keep b o (neL b o e) hb (neC b o e hx) (I.base.keep b o e n hb hx) (I.base.free b o e n hx)
 .obtain⟨sl,e1⟩:=I.base.slot b o e n hb hx;obtain⟨sl',e2⟩:=slot b _ (neL b o e) hb (neC b o e hx) e1 (I.base.free b o e n hx);exact⟨sl',e2⟩
 .obtain⟨o',e1⟩:=I.base.there b o e hx;exact free b o' (neC b o e hx) e1 (I.base.free b o e n hx)
 .obtain⟨o',e1⟩:=I.base.there b o e hx;exact there b o' (neC b o e hx) e1
 .obtain⟨m1,e1⟩:=I.base.wO b ps e;obtain⟨m2,e2⟩:=wO b _ e1;exact⟨m1++m2,by rw[e2,Array.append_assoc]⟩
 .obtain⟨m,hn,hl⟩:=I.loc;refine⟨m,ns m hn,λi x v e1 e2 e3=>?_⟩;obtain⟨u,r,l⟩:=hl i x v e1 e2 e3;refine⟨u,r,?_⟩;rcases l with l|⟨k,c,e,z⟩
  .exact .inl l
  .exact .inr ⟨k,c,e,cellK x c e _ z⟩
 .obtain⟨v,z⟩:=I.cell x c e;exact⟨v,cellK x c e v z⟩
 .obtain⟨m,⟨o,_,_,ho,_⟩,_⟩:=I.loc;exact free _ o (λz=>(hch _ z).2.1 rfl) ho I.free
 .obtain⟨v,o,ho,hd⟩:=I.cell x c e;exact free c o (λz=>(hch c z).2.2.1 x c e rfl) ho (I.lB x c e)
 .obtain⟨e,n,ne,nf,d⟩:=I.pin p hp;have nch:p.1∉ch:=λz=>(hch p.1 z).2.2.2 p hp rfl;exact⟨keep p.1 p.2 ne nf nch e n,free p.1 p.2 nch e n,ne,nf,d⟩
theorem Inv.un(I:Inv X pins σ H s)(u:Un X.fs [] H H' s.heap h')(hok:HOk X.prog X.w H' h'):Inv X pins σ H' {s with heap:=h',toks:=t' }:=by
 obtain⟨m,⟨o,es,ep,ho,r⟩,_⟩:=id I.loc;obtain⟨sl,hL⟩:=u.any ho I.free (by simp)
 exact I.step (g':=s.gens) (d':=s.drawn) (ch:=[]) (λ_ z=>nomatch z) (λb o _ hb _ e n=>u.keep b o e n hb (by simp)) (λb o _ hb _ e n=>u.slot b o e n hb (by simp)) (λb o _ e n=>u.free b o e n (by simp)) (λb o _ e=>u.there b o e (by simp)) u.tups u.lA u.wO (λm' hm=>by
  obtain⟨o',es',ep',ho',r'⟩:=hm;rw[ho]at ho';cases ho';exact⟨_,es',ep',hL,r'⟩) hok I.bare
theorem Inv.call(I:Inv X pins σ H s)(u:Un (frs X.stack) ch H H' s.heap h')(hok:HOk X.prog X.w H' h')(hg:a1f g')
  (hch:∀b∈ch,(b∈X.ex∨X.s₀.heap.objs.size<=b)/\b≠X.env.locals/\(∀x c,X.env.cells.lookup x=aj c->c≠b)/\∀p∈X.pn++pins,p.1≠b) :
  Inv X pins σ H' {s with heap:=h',gens:=g',drawn:=d',toks:=t' }:=by
 obtain⟨m,⟨o,es,ep,ho,r⟩,_⟩:=id I.loc;obtain⟨sl,hL⟩:=u.any ho I.free λz=>(hch _ z).2.1 rfl
 exact I.step (ch:=ch) hch (λb o hL hb hc e n=>u.keep b o e n (λz=>(jc.mp (I.ao1 b z)).elim hL hb) hc) (λb o _ _ hc e n=>u.any e n hc) (λb o hc e n=>u.free b o e n hc) (λb o hc e=>u.there b o e hc) u.tups u.lA u.wO (λm' hm=>by
  obtain⟨o',es',ep',ho',r'⟩:=hm;rw[ho]at ho';cases ho';exact⟨_,es',ep',hL,r'⟩) hok hg
theorem Inv.turned(I:Inv X pins σ H s)(k:∀b o,b≠it->s.heap.get? b=aj o->h'.get? b=aj o)(hn:H it=aq)(hL:it≠X.env.locals)
  (h1:it∈X.ex∨X.s₀.heap.objs.size<=it)(h2:∀x c,X.env.cells.lookup x=aj c->c≠it)(h3:∀p∈X.pn++pins,p.1≠it):Inv X pins σ H {s with heap:=h',toks:=t' }:=by
 have nit:∀b u,H b=aj u->b≠it:=λb u e z=>by rw[z,hn]at e;cases e
 refine I.step (g':=s.gens) (d':=s.drawn) (ch:=[it]) (λb hb=>?_) (λb o _ _ hc e _=>k b o (λz=>hc (by simp[z])) e) (λb o _ _ hc e _=>⟨o.slots,k b o (λz=>hc (by simp[z])) e⟩) (λ_ _ _ _ n=>n)
  (λb o hc e=>⟨o,k b o (λz=>hc (by simp[z])) e⟩) (λ_ _ e=>e) (λ_ _ _ e=>e) (λb ps e=>⟨#[],by rw[e];simp⟩) (λm hm=>?_) (λb u e=>?_) I.bare
 .have e:b=it:=by simpa using hb
  subst e;exact⟨h1,hL,h2,h3⟩
 .obtain⟨o,es,ep,ho,r⟩:=hm;exact⟨o,es,ep,k _ o (Ne.symm hL) ho,r⟩
 .refine(I.hok b u e).stay (λc v hc q=>k c v ?_ q) (λ_ q=>q) λ_ _ q=>q;rcases hc with z|z
  .rw[z];exact nit b u e
  .exact nit c _ z
theorem Inv.tok(I:Inv X pins σ H s)(t:Nat):Inv X pins σ H {s with toks:=t}:=I.un (h':=s.heap) (t':=t) Un.refl I.hok
theorem Inv.kept{t':Nat}(I:Inv X pins σ H s)(k:∀b u,s.heap.get? b=aj u->h'.get? b=aj u):Inv X pins σ H {s with heap:=h',toks:=t' }:=I.un (Un.kept k) (I.hok.kept k)
theorem Inv.laid{t':Nat}(I:Inv X pins σ H s)(k:∀b u,s.heap.get? b=aj u->h'.get? b=aj u)(hp:s.heap.objs.size<=a)(new:qX X.prog X.w (upd H a o) h' a o) :
  Inv X pins σ (upd H a o) {s with heap:=h',toks:=t' }:=I.un (Un.laid k hp (I.hok.fresh hp)) (I.hok.laid k hp new)
theorem Inv.write{x:bx}{t':Nat}(I:Inv X pins σ H s)(mu:Mut (H x))(he:e=x∨H e=aj (.own x))(k:∀b u,b≠e->s.heap.get? b=aj u->h'.get? b=aj u)(heo:∃u,h'.get? e=aj u)
  (new:qX X.prog X.w (upd H x o) h' x o):Inv X pins σ (upd H x o) {s with heap:=h',toks:=t' }:=I.un (Un.write mu he k heo) (I.hok.write mu he k heo new)
theorem Inv.weak{σ':List (Option V)}(I:Inv X pins σ H s)(hl:σ'.length=σ.length)(w:∀(i:Nat) v,σ'[i]?=aj (aj v)->σ[i]?=aj (aj v)):Inv X pins σ' H s :=
 ⟨I.ok,I.os,I.bare,I.base,let⟨m,hn,hl'⟩:=I.loc;⟨m,hn,λi x v e1 e2 e3=>hl' i x v e1 (w i v e2) e3⟩,I.cell,I.free,I.lB,I.pin,I.hok,hl.trans I.len,I.hnd,I.tup⟩
theorem Inv.aqC(I:Inv X pins σ H s)(h:∀p∈oW,s.heap.get? p.1=aj p.2/\H p.1=aq/\p.1≠X.env.locals/\p.1∉X.fs/\∀v,p.2.data≠.cell v):Inv X oW σ H s :=
 ⟨I.ok,I.os,I.bare,I.base,I.loc,I.cell,I.free,I.lB,λp hp=>(qm.mp hp).elim (λz=>I.pin p (a0f _ z)) (h p),I.hok,I.len,I.hnd,I.tup⟩
theorem ac0(hN:N.Nodup){j:Nat}(a:N[i]?=aj x)(b:N[j]?=aj x):i=j:=by
 obtain⟨h1,e1⟩:=jf.mp a;obtain⟨h2,e2⟩:=jf.mp b;exact(List.getElem_inj hN).mp (e1.trans e2.symm)
theorem agF(I:Inv X pins σ H s)(hN:X.N.Nodup)(hi:X.N[i]?=aj x)(hx:Loc X.env.scope x)(r:RelV v u)
  (h:∀s',Inv X pins (σ.set i (aj v)) H s'->(∃a,yg a s.heap s'.heap/\(a=X.env.locals∨X.env.cells.lookup x=aj a))->Q () s')(hf:X.fn x=ak∨X.env.scope.names.lookup x=aj .local:=by first|exact .inl rfl|exact .inr rfl|assumption):dh M A (storeName X.env x u) Q E s:=by
 obtain⟨m,hn,hl⟩:=id I.loc;have hcls:(X.env.scope.kind==.class||(X.env.scope.kind==.module&&X.env.locals !=X.env.globals))=ao:=by rw[I.ok.kind];rfl
 have hiσ:i<σ.length:=by rw[I.len];exact(jf.mp hi).1
 have cne:=I.cne
 have tracked:∀{a:bx}{h':jq},(∃o,s.heap.get? a=aj o/\H a=aq)->yg a s.heap h'->HOk X.prog X.w H h':=λ{a h'} ha hs b ob e=>by
  obtain⟨_,_,hfree⟩:=ha;refine(I.hok b ob e).stay (λc w' hc q=>(hs.2 c ?_).trans q) (λ_ q=>q) λ_ _ q=>q;rintro rfl;rcases hc with rfl|hc
  .rw[hfree]at e;cases e
  .rw[hfree]at hc;cases hc
 rcases hx with hk|hk
 .refine wpAny_storeName_local hk hn (λh' hn' hs=>?_) hcls;obtain⟨oL,_,_,hoL,_⟩:=id hn;refine h _ ⟨I.ok,I.os,I.bare,⟨λb o e n hb hx=>?_,λb o e n hb hx=>?_,I.base.free,λb o e hx=>?_,I.base.tups,I.base.lA,I.base.wO⟩,⟨_,hn',λj y v' e1 e2 e3=>?_⟩,λy c e=>?_,I.free,I.lB,λp hp=>?_,tracked ⟨oL,hoL,I.free⟩ hs,by simpa using I.len,I.hnd,I.tup⟩ ⟨_,hs,.inl rfl⟩
  .exact(hs.2 b (mq (ju (gk e) I.ok.above))).trans (I.base.keep b o e n hb hx)
  .obtain⟨sl,e1⟩:=I.base.slot b o e n hb hx;exact⟨sl,(hs.2 b (mq (ju (gk e) I.ok.above))).trans e1⟩
  .obtain⟨o',e1⟩:=I.base.there b o e hx;exact⟨o',(hs.2 b (mq (ju (gk e) I.ok.above))).trans e1⟩
  .by_cases hj:j=i
   .subst hj;rw[hi]at e1;cases e1;rw[a0v hiσ]at e2;cases e2;exact⟨u,r,.inl ⟨hk,by simp⟩⟩
   .rw[vd (Ne.symm hj)]at e2;obtain⟨u',r',q⟩:=hl j y v' e1 e2 e3;refine⟨u',r',?_⟩;rcases q with⟨k,e⟩|⟨k,c,e,z⟩
    .refine .inl ⟨k,?_⟩;have:y≠x:=λe=>hj (ac0 hN e1 (e ▸ hi));simp[this,e]
    .exact .inr ⟨k,c,e,z.sameBut hs (cne y c e)⟩
  .obtain⟨w',z⟩:=I.cell y c e;exact⟨w',z.sameBut hs (cne y c e)⟩
  .obtain⟨e,n,ne,nf,d⟩:=I.pin p hp;exact⟨(hs.2 p.1 ne).trans e,n,ne,nf,d⟩
 .have hfn:X.fn x=ak:=by
   rcases hf with z|z
   .exact z
   .rw[z]at hk;cases hk
  obtain⟨c,hc⟩:=I.ok.has x (.inl hk);obtain⟨w',z⟩:=I.cell x c hc;refine wpAny_storeName_cell I.ok.kind hk hc z (λh' hc' hs=>?_);obtain⟨oc,hoc,aVE⟩:=id z;refine h {s with heap:=h' } ⟨I.ok,I.os,I.bare,⟨λb o e n hb hx=>?_,λb o e n hb hx=>?_,I.base.free,λb o e hx=>?_,I.base.tups,I.base.lA,I.base.wO⟩,⟨m,hn.sameBut hs (Ne.symm (cne x c hc)),λj y v' e1 e2 e3=>?_⟩,λy c' e=>?_,I.free,I.lB,λp hp=>?_,tracked ⟨oc,hoc,I.lB x c hc⟩ hs,by simpa using I.len,I.hnd,I.tup⟩ ⟨c,hs,.inr hc⟩
  .exact(hs.2 b (mq (ju (gk e) (I.ok.cab x c hfn hc)))).trans (I.base.keep b o e n hb hx)
  .obtain⟨sl,e1⟩:=I.base.slot b o e n hb hx;exact⟨sl,(hs.2 b (mq (ju (gk e) (I.ok.cab x c hfn hc)))).trans e1⟩
  .obtain⟨o',e1⟩:=I.base.there b o e hx;exact⟨o',(hs.2 b (mq (ju (gk e) (I.ok.cab x c hfn hc)))).trans e1⟩
  .by_cases hj:j=i
   .subst hj;rw[hi]at e1;cases e1;rw[a0v hiσ]at e2;cases e2;exact⟨u,r,.inr ⟨.inl hk,c,hc,hc'⟩⟩
   .rw[vd (Ne.symm hj)]at e2;obtain⟨u',r',q⟩:=hl j y v' e1 e2 e3;refine⟨u',r',?_⟩;rcases q with q|⟨k,c',e,z'⟩
    .exact .inl q
    .refine .inr ⟨k,c',e,z'.sameBut hs ?_⟩;rintro rfl;exact hj (ac0 hN e1 (I.ok.inj _ _ _ e hc ▸ hi))
  .by_cases hcc:c'=c
   .subst hcc;exact⟨_,hc'⟩
   .obtain⟨w2,z2⟩:=I.cell y c' e;exact⟨w2,z2.sameBut hs hcc⟩
  .obtain⟨e,n,ne,nf,d⟩:=I.pin p hp;refine⟨(hs.2 p.1 ?_).trans e,n,ne,nf,d⟩;intro q;rw[q,hoc]at e;have q':oc=p.2:=mz.inj e;exact d w' (by rw[←q'];exact aVE)
theorem ac1(I:Inv X pins σ H s)(hN:X.N.Nodup)(hi:X.N[i]?=aj x)(hx:Loc X.env.scope x)(r:RelV v u)
  (h:∀s',Inv X pins (σ.set i (aj v)) H s'->Q () s')(hf:X.fn x=ak∨X.env.scope.names.lookup x=aj .local:=by first|exact .inl rfl|exact .inr rfl|assumption):dh M A (storeName X.env x u) Q E s :=
 agF I hN hi hx r (λs' I' _=>h s' I') hf
theorem Inv.call'{s':cg}(I:Inv X pins σ H s)(ho:s'.os=s.os)(u:Un (frs X.stack) ch H H' s.heap s'.heap)(hok:HOk X.prog X.w H' s'.heap)(hg:a1f s'.gens)
  (hch:∀b∈ch,(b∈X.ex∨X.s₀.heap.objs.size<=b)/\b≠X.env.locals/\(∀x c,X.env.cells.lookup x=aj c->c≠b)/\∀p∈X.pn++pins,p.1≠b):Inv X pins σ H' s':=by
 obtain⟨h',g',d',t',o'⟩:=s';have e:o'=s.os:=ho;subst e;exact I.call (g':=g') (t':=t') (d':=d') u hok hg hch
end
abbrev XK:=Value->Option bx->Hp->Prop
noncomputable abbrev St:=List (Option V)
abbrev VK:=V->Hp->Prop
abbrev TE:=St->Hp->VK->Prop
abbrev TT:=St->Hp->(Bool->Hp->Prop)->Prop
abbrev TA:=St->Hp->(List V->Hp->Prop)->Prop
structure Ends where
 nx:St->Hp->Prop
 rt:VK
 bk:St->Hp->Prop:=λ_ _=>False
 ct:St->Hp->Prop:=λ_ _=>False
abbrev TS:=Ends->St->Hp->Prop
def EP(X:Cx)(pins:List (bx×Obj))(σ:St)(Q:VK)(u:au)(s':cg):Prop:=∃v H',Inv X pins σ H' s'/\RelV v u/\Q v H'
def TP(X:Cx)(pins:List (bx×Obj))(σ:St)(Q:Bool->Hp->Prop)(b:Bool)(s':cg):Prop:=∃H',Inv X pins σ H' s'/\Q b H'
def AP(X:Cx)(pins:List (bx×Obj))(σ:St)(Q:List V->Hp->Prop)(us:List au)(s':cg):Prop:=∃vs H',Inv X pins σ H' s'/\Vals vs us/\Q vs H'
set_option tactic.hygienic true in
noncomputable def SP(X:Cx)(pins:List (bx×Obj))(D:Ends)(f:Flow)(s':cg):Prop :=
 match f with
 |.next=>∃σ' H',Inv X pins σ' H' s'/\D.nx σ' H'
 |.brk=>∃σ' H',Inv X pins σ' H' s'/\D.bk σ' H'
 |.cont=>∃σ' H',Inv X pins σ' H' s'/\D.ct σ' H'
 |.ret u=>∃v σ' H',Inv X pins σ' H' s'/\RelV v u/\D.rt v H'
noncomputable def PE(X:Cx)(e:jt)(t:TE):Prop :=
 ∀(pins:List (bx×Obj))(s:cg)(σ:St)(H:Hp)(Q:VK),Inv X pins σ H s->t σ H Q->dh (dz X.prog X.w) X.A (eval e X.env) (EP X pins σ Q) X.xe s
noncomputable def PT(X:Cx)(e:jt)(t:TT):Prop :=
 ∀(pins:List (bx×Obj))(s:cg)(σ:St)(H:Hp)(Q:Bool->Hp->Prop),Inv X pins σ H s->t σ H Q->dh (dz X.prog X.w) X.A (isTrue e X.env (eval e X.env)) (TP X pins σ Q) X.xe s
noncomputable def PW(X:Cx)(e:jt)(t:TT):Prop :=
 ∀(whole:Sem au)(pins:List (bx×Obj))(s:cg)(σ:St)(H:Hp)(Q:Bool->Hp->Prop),Inv X pins σ H s->t σ H Q->dh (dz X.prog X.w) X.A (isTrue e X.env whole) (TP X pins σ Q) X.xe s
theorem PW.pt(h:PW X e t):PT X e t:=h _
noncomputable def PA(X:Cx)(es:List jt)(t:TA):Prop :=
 ∀(pos:Pos)(pins:List (bx×Obj))(s:cg)(σ:St)(H:Hp)(Q:List V->Hp->Prop),Inv X pins σ H s->t σ H Q->dh (dz X.prog X.w) X.A (spliced (yx pos (jm es X.env))) (AP X pins σ Q) X.xe s
noncomputable def PS(X:Cx)(st:mj)(t:TS):Prop :=
 ∀(pins:List (bx×Obj))(s:cg)(σ:St)(H:Hp)(D:Ends),Inv X pins σ H s->t D σ H->dh (dz X.prog X.w) X.A (exec st X.env) (SP X pins D) X.xe s
noncomputable def PSs(X:Cx)(st:List mj)(t:TS):Prop :=
 ∀(pins:List (bx×Obj))(s:cg)(σ:St)(H:Hp)(D:Ends),Inv X pins σ H s->t D σ H->dh (dz X.prog X.w) X.A (execs st X.env) (SP X pins D) X.xe s
theorem eU{α:Type}{t:Sem α}{Q Q':α->cg->Prop}{M:Model}{s:cg}(h:dh M A t Q E s)(hQ:∀a s,Q a s->Q' a s):dh M A t Q' E s:=wpAny_mono h hQ λ_ _ x=>x
end
variable{pins:List (bx×Obj)}{R:V->V->Hp->Prop}
section
variable{E Q:au->cg->Prop}
section
variable{X:Cx}
theorem bin{a b:jt}{ta tb:TE}(ha:PE X a ta)(hb:PE X b tb){s:cg}{σ:St}{H:Hp}(I:Inv X pins σ H s)(h:ta σ H λx H1=>tb σ H1 λy H2=>R x y H2)
  {α:Type}{Q:α->cg->Prop}{f:au->au->Sem α}
  (hf:∀v u s2 x y H2,Inv X pins σ H2 s2->RelV x v->RelV y u->R x y H2->dh (dz X.prog X.w) X.A (f v u) Q X.xe s2) :
  dh (dz X.prog X.w) X.A (eval a X.env) (λv s₁=>dh (dz X.prog X.w) X.A (eval b X.env) (λu s₂=>dh (dz X.prog X.w) X.A (f v u) Q X.xe s₂) X.xe s₁) X.xe s:=by
 refine eU (ha pins s σ H _ I h) ?_;rintro v s1 ⟨x,H1,I1,r1,q1⟩;refine eU (hb pins s1 σ H1 _ I1 q1) ?_;rintro u s2 ⟨y,H2,I2,r2,q2⟩;exact hf v u s2 x y H2 I2 r1 r2 q2
noncomputable def aPD(i:Nat):TE:=λσ H Q=>∃v,σ[i]?=aj (aj v)/\Q v H
noncomputable def tC(v:V):TE:=λ_ H Q=>Q v H
theorem aH7{i:Nat}(hN:X.N[i]?=aj x)(hv:Vis X.env.scope x)(hd:(x==("__debug__":Str))=ao:=by decide)(hcd:(x==("__classdict__":Str))=ao:=by decide):PE X (.Name x pos) (aPD i):=by
 intro pins s σ H Q I h;obtain⟨v,e,h⟩:=h;obtain⟨m,hn,hl⟩:=I.loc;obtain⟨u,r,l⟩:=hl i x v hN e hv;have fin:EP X pins σ Q u s:=⟨v,H,I,r,h⟩;rcases l with⟨hk,hm⟩|⟨hk,c,hc,hcell⟩
 .exact wpAny_Name (wpAny_loadName_local I.ok.kind hk hn hm fin) hd
 .rcases hk with hk|hk
  .exact wpAny_Name (wpAny_loadName_cell I.ok.kind hk hc hcell fin) hd
  .exact wpAny_Name (wpAny_loadName_free I.ok.kind hk hc hcell fin hcd) hd
theorem aH8{i j pos}:PE X (.Constant (.int i) j pos) (tC (.int i)):=λ_ _ _ H _ I h=>wpAny_Constant_int ⟨.int i,H,I.tok _,⟨_,rfl⟩,h⟩
theorem aPE{b j pos}:PE X (.Constant (.bool b) j pos) (tC (.bl b)):=λ_ _ _ H _ I h=>Constant_bool ⟨.bl b,H,I,rfl,h⟩
theorem aH9{j pos}:PE X (.Constant .none j pos) (tC .non):=λ_ _ _ H _ I h=>Constant_none ⟨.non,H,I,rfl,h⟩
theorem aHA{x j pos}:PE X (.Constant (.str x) j pos) (tC (.str x)):=λ_ _ _ H _ I h=>Calls.Constant_str ⟨.str x,H,I.tok _,⟨_,rfl⟩,h⟩
def Gl(X:Cx)(x:Str):Prop:=X.env.kindOf x=aj .globalImplicit
theorem oJ(I:Inv X pins σ H s)(hg:Gl X x)(hm:X.mg x=aj u)(h:Q u s)
  (hd:(x==("__debug__":Str))=ao:=by decide):dh (dz X.prog X.w) X.A (eval (.Name x pos) X.env) Q E s :=
 Calls.Name_function_global I.ok.kind hg (Calls.loadGlobal_global (by rw[I.ok.glob];exact I.mod.glob.keeps I.bk) hm h) hd
theorem a6R(I:Inv X pins σ H s)(hg:Gl X x)(hm:X.mg x=aq)(hv:jz x=aj u)(h:Q u s)
  (hn:x≠"__name__":=by decide)(hd:(x==("__debug__":Str))=ao:=by decide):dh (dz X.prog X.w) X.A (eval (.Name x pos) X.env) Q E s:=by
 obtain⟨mb,h1,h2⟩:=I.mod.blt;exact Calls.Name_function_global I.ok.kind hg (Calls.loadGlobal_builtin (by rw[I.ok.glob];exact I.mod.glob.keeps I.bk) hm (by rw[I.ok.blt];exact h1.keeps I.bk) ((h2 x hn).trans hv) h) hd
theorem aqE(hg:Gl X x)(hm:X.mg x=aj u)(r:RelV v u)(hd:(x==("__debug__":Str))=ao:=by decide):PE X (.Name x pos) (tC v) :=
 λ_ _ _ H _ I h=>oJ I hg hm ⟨v,H,I,r,h⟩ hd
theorem aBE(hg:Gl X x)(hm:X.mg x=aq)(hv:jz x=aj u)(r:RelV v u)(hn:x≠"__name__":=by decide)(hd:(x==("__debug__":Str))=ao:=by decide):PE X (.Name x pos) (tC v) :=
 λ_ _ _ H _ I h=>a6R I hg hm hv ⟨v,H,I,r,h⟩ hn hd
variable{b:jt}{ta tb:TE}
noncomputable def tB(t:TE):TT:=λσ H Q=>t σ H λx H1=>∃c,x=.bl c/\Q c H1
theorem aHB{e:jt}(h:PE X e t)(he:∀whole,isTrue e X.env whole=(do let v ←whole;standAt e.pos;a1a [v] (truthy v)):=by intro _;rfl):PT X e (tB t):=by
 intro pins s σ H Q I hw;refine isTrue_plain (eU (h pins s σ H _ I hw) ?_) (he _);rintro v s1 ⟨x,H1,I1,r1,q1⟩;obtain⟨d,rfl,q⟩:=q1;cases r1;exact xg ⟨H1,I1,q⟩
variable{rest:List jt}
noncomputable def aPF(t u:TT):TT:=λσ H Q=>t σ H λc H1=>if c=ak then u σ H1 Q else Q ao H1
noncomputable def tOr(t u:TT):TT:=λσ H Q=>t σ H λc H1=>if c=ak then Q ak H1 else u σ H1 Q
noncomputable def aVF(t:TT):TT:=λσ H Q=>t σ H λc H1=>Q (!c) H1
theorem aBF(ha:PT X a tA):PW X (.BoolOp .And [a] pos) tA:=by
 intro wh pins s σ H Q I h;refine isTrue_and (eU (ha pins s σ H Q I h) λc s1 e=>?_);cases c with
 |true=>exact isTrue_and_nil e
 |false=>exact e
theorem aHC(ha:PT X a tA):PW X (.BoolOp .Or [a] pos) tA:=by
 intro wh pins s σ H Q I h;refine isTrue_or (eU (ha pins s σ H Q I h) λc s1 e=>?_);cases c with
 |false=>exact isTrue_or_nil e
 |true=>exact e
theorem aHD(ha:PT X a tA)(hb:PW X (.BoolOp .And (b::rest) pos) tB'):PW X (.BoolOp .And (a::b::rest) pos) (aPF tA tB'):=by
 intro wh pins s σ H Q I h;refine isTrue_and (eU (ha pins s σ H _ I h) ?_);rintro c s1 ⟨H1,I1,q1⟩;cases c with
 |true=>exact hb wh pins s1 σ H1 Q I1 q1
 |false=>exact⟨H1,I1,q1⟩
theorem aPG(ha:PT X a tA)(hb:PW X (.BoolOp .Or (b::rest) pos) tB'):PW X (.BoolOp .Or (a::b::rest) pos) (tOr tA tB'):=by
 intro wh pins s σ H Q I h;refine isTrue_or (eU (ha pins s σ H _ I h) ?_);rintro c s1 ⟨H1,I1,q1⟩;cases c with
 |true=>exact⟨H1,I1,q1⟩
 |false=>exact hb wh pins s1 σ H1 Q I1 q1
theorem aHE(ha:PT X a tA):PT X (.UnaryOp .Not a pos) (aVF tA):=by
 intro pins s σ H Q I h;exact isTrue_not (ha pins s σ H (λc H1=>Q (!c) H1) I h)
noncomputable def aPH(ta tb:TE):TE:=λσ H Q=>ta σ H λx H1=>∃c,x=.bl c/\if c=ak then tb σ H1 Q else Q (.bl ao) H1
noncomputable def aVG(ta tb:TE):TE:=λσ H Q=>ta σ H λx H1=>∃c,x=.bl c/\if c=ak then Q (.bl ak) H1 else tb σ H1 Q
noncomputable def aPI(ta:TE):TE:=λσ H Q=>ta σ H λx H1=>∃c,x=.bl c/\Q (.bl (!c)) H1
theorem aHF{op}(h:PE X a t):PE X (.BoolOp op [a] pos) t:=λpins s σ H Q I hw=>BoolOp_one (h pins s σ H Q I hw)
theorem aHG(ha:PE X a ta)(hb:PE X (.BoolOp .And (b::rest) pos) tb):PE X (.BoolOp .And (a::b::rest) pos) (aPH ta tb):=by
 intro pins s σ H Q I h;refine BoolOp_and (eU (ha pins s σ H _ I h) ?_);rintro v s1 ⟨x,H1,I1,r1,q1⟩;obtain⟨c,rfl,q1⟩:=q1;cases r1;refine xg ?_;cases c with
 |true=>exact hb pins s1 σ H1 Q I1 q1
 |false=>exact⟨.bl ao,H1,I1,rfl,q1⟩
theorem aPJ(ha:PE X a ta)(hb:PE X (.BoolOp .Or (b::rest) pos) tb):PE X (.BoolOp .Or (a::b::rest) pos) (aVG ta tb):=by
 intro pins s σ H Q I h;refine BoolOp_or (eU (ha pins s σ H _ I h) ?_);rintro v s1 ⟨x,H1,I1,r1,q1⟩;obtain⟨c,rfl,q1⟩:=q1;cases r1;refine xg ?_;cases c with
 |false=>exact hb pins s1 σ H1 Q I1 q1
 |true=>exact⟨.bl ak,H1,I1,rfl,q1⟩
theorem aHH(ha:PE X a ta):PE X (.UnaryOp .Not a pos) (aPI ta):=by
 intro pins s σ H Q I h;refine UnaryOp_ (eU (ha pins s σ H _ I h) ?_);rintro v s1 ⟨x,H1,I1,r1,q1⟩;obtain⟨c,rfl,q1⟩:=q1;cases r1;exact not_of (xg ⟨.bl (!c),H1,I1,rfl,q1⟩)
end
end
variable{n:Nat}{cm:Bool}{tl:List (bx×List V)}
section
noncomputable def zN(K:iw)(H:Hp)(a:bx)(xs:List V):Prop :=
 Rd H a (.lst xs) ∨
  ∃(o:Obj)(its:Array au)(n:Nat),K.lookup a=aj o/\o.cls=.type "list"/\o.dict=aq/\o.data=.seq its n/\its.size<=cj/\Vals xs its.toList
noncomputable def zL(K:iw)(H:Hp)(a:bx)(xs:List V):Prop :=
 Rd H a (.tup xs) ∨
  ∃(o:Obj)(its:Array au)(n:Nat),K.lookup a=aj o/\o.cls=.type "tuple"/\o.data=.seq its n/\its.size<=cj/\Vals xs its.toList
noncomputable def aVH:au->Option V
 |.none=>aj .non
 |.bool b=>aj (.bl b)
 |.int i _=>aj (.int i)
 |.str x _=>aj (.str x)
 |.bytes b _=>aj (.byt b)
 |.float b _=>aj (.flt b)
 |.ref a=>aj (.ref a)
 |.type n=>aj (.ty n)
 |_=>aq
theorem RelV.abs{x:V}(r:RelV x u):aVH u=aj x:=by
 cases x with
 |non=>cases r;rfl
 |bl _=>cases r;rfl
 |int _=>obtain⟨t,rfl⟩:=r;rfl
 |str _=>obtain⟨t,rfl⟩:=r;rfl
 |byt _=>obtain⟨t,rfl⟩:=r;rfl
 |flt _=>obtain⟨t,rfl⟩:=r;rfl
 |ref _=>cases r;rfl
 |ty _=>cases r;rfl
theorem RelV.inj{x:V}(r:RelV x u)(q:RelV y u):x=y:=mz.inj (r.abs.symm.trans q.abs)
theorem Vals.inj:∀{xs ys:List V}{us:List au},Vals xs us->Vals ys us->xs=ys
 |_,_,_,.nil,.nil=>rfl
 |_,_,_,.cons r t,.cons r' t'=>by rw[r.inj r',Vals.inj t t']
section
variable{X:Cx}{pins:List (bx×Obj)}{s:cg}{xs:List V}
theorem zN.of{K:iw}(h:H a=aj (.lst xs)):zN K H a xs:=.inl (.inl h)
theorem zL.of{K:iw}(h:H a=aj (.tup xs)):zL K H a xs:=.inl (.inl h)
theorem Inv.list(I:Inv X pins σ H s)(h:zN X.K H a xs):∃its:List au,Vals xs its/\PlainL s.heap a its.toArray/\xs.length<=cj:=by
 rcases h with h|⟨o,its,n,hk,hc,hd,hs,hz,r⟩
 .obtain⟨z,its,n,r,e⟩:=h.ok I.hok;exact⟨its,r,⟨_,n,e,rfl,rfl,rfl⟩,z⟩
 .refine⟨its.toList,r,⟨o,n,I.kIn a o hk,hc,hd,by simpa using hs⟩,?_⟩;have e:=r.length;simp only[a2h]at e;omega
theorem Inv.tuple(I:Inv X pins σ H s)(h:zL X.K H a xs):∃its:List au,Vals xs its/\IsTup s.heap a its.toArray/\xs.length<=cj:=by
 rcases h with h|⟨o,its,n,hk,hc,hs,hz,r⟩
 .obtain⟨z,its,r,p⟩:=h.ok I.hok;exact⟨its,r,p,z⟩
 .refine⟨its.toList,r,⟨o,I.kIn a o hk,hc,n,by simpa using hs⟩,?_⟩;have e:=r.length;simp only[a2h]at e;omega
theorem Inv.ac2(I:Inv X pins σ H s)(h:zN X.K H a xs)(h':zN X.K H a ys):xs=ys:=by
 obtain⟨its,r,⟨o,n,e,_,_,d⟩,_⟩:=I.list h;obtain⟨its',r',⟨o',n',e',_,_,d'⟩,_⟩:=I.list h';rw[e]at e';cases e';rw[d]at d';injection d' with d1 _;have:its=its':=by simpa using congrArg Array.toList d1
 subst this;exact r.inj r'
theorem Inv.a1Q(I:Inv X pins σ H s)(h:zL X.K H a xs)(h':zL X.K H a ys):xs=ys:=by
 obtain⟨its,r,⟨o,e,_,n,d⟩,_⟩:=I.tuple h;obtain⟨its',r',⟨o',e',_,n',d'⟩,_⟩:=I.tuple h';rw[e]at e';cases e';rw[d]at d';injection d' with d1 _;have:its=its':=by simpa using congrArg Array.toList d1
 subst this;exact r.inj r'
end
noncomputable abbrev Cx.wish(X:Cx)(E:au->cg->Prop):Cx:={X with xe:=E}
theorem Cx.Ok.wish{X:Cx}(ok:X.Ok)(E:au->cg->Prop):(X.wish E).Ok :=
 ⟨ok.mod,ok.kind,ok.glob,ok.blt,ok.above,ok.inj,ok.has,ok.cab,ok.hd,ok.frames,ok.stk,ok.exf,ok.bs,ok.bsz,ok.a9A,ok.abZ,ok.vR,ok.frf⟩
theorem Cx.Ok.ahU{X:Cx}(ok:(X.wish E).Ok):X.Ok :=
 ⟨ok.mod,ok.kind,ok.glob,ok.blt,ok.above,ok.inj,ok.has,ok.cab,ok.hd,ok.frames,ok.stk,ok.exf,ok.bs,ok.bsz,ok.a9A,ok.abZ,ok.vR,ok.frf⟩
section
variable{X:Cx}{pins:List (bx×Obj)}
theorem Inv.wish(I:Inv X pins σ H s)(E:au->cg->Prop):Inv (X.wish E) pins σ H s:=⟨I.ok.wish E,I.os,I.bare,I.base,I.loc,I.cell,I.free,I.lB,I.pin,I.hok,I.len,I.hnd,I.tup⟩
theorem Inv.ahU(I:Inv (X.wish E) pins σ H s):Inv X pins σ H s:=⟨I.ok.ahU,I.os,I.bare,I.base,I.loc,I.cell,I.free,I.lB,I.pin,I.hok,I.len,I.hnd,I.tup⟩
end
section
variable{X:Cx}{st:mj}{rest:List mj}{t u:TS}{te:TE}{pos:Pos}
noncomputable def aFX:TS:=λD σ H=>D.nx σ H
noncomputable def aPK(t u:TS):TS:=λD σ H=>t {D with nx:=u D} σ H
theorem aBG:PSs X [] aFX:=λ_ _ σ H _ I h=>a1i ⟨σ,H,I,h⟩
set_option tactic.hygienic true in
theorem avX(h1:PS X st t)(h2:PSs X rest u):PSs X (st::rest) (aPK t u):=by
 intro pins s σ H D I h;refine wpAny_execs_cons (eU (h1 pins s σ H {D with nx:=u D} I h) λf s1 q=>?_);cases f with
 |next =>
  obtain⟨σ',H',I',q⟩:=q;exact h2 pins s1 σ' H' D I' q
 |ret v=>exact q
 |brk=>exact q
 |cont=>exact q
set_option tactic.hygienic true in
theorem aBH(h1:PS X st t):PSs X [st] t:=by
 intro pins s σ H D I h;refine wpAny_execs_cons (eU (h1 pins s σ H D I h) λf s1 q=>?_);cases f with
 |next=>exact a1i q
 |ret v=>exact q
 |brk=>exact q
 |cont=>exact q
theorem aBI:PS X (.Pass pos) aFX:=λ_ _ σ H _ I h=>wpAny_Pass ⟨σ,H,I,h⟩
theorem Inv.quiet(I:Inv X pins σ H s):interactive X.env=ao:=by simp[interactive,I.ok.kind]
noncomputable def aPL(te:TE):TS:=λD σ H=>te σ H λ_ H1=>D.nx σ H1
theorem aBJ(he:PE X e te)(hs:a0s e aq pos.line X.env=pure ao:=by rfl):PS X (.Expr e pos) (aPL te):=by
 intro pins s σ H D I h;exact wpAny_Expr_any (eU (he pins s σ H _ I h) (by rintro v s1 ⟨x,H1,I1,r1,q1⟩;exact⟨σ,H1,I1,q1⟩)) I.quiet hs
noncomputable def aVI(te:TE):TS:=λD σ H=>te σ H D.rt
theorem aHI(he:PE X e te):PS X (.Return (aj e) pos) (aVI te):=by
 intro pins s σ H D I h;exact wpAny_Return_some (eU (he pins s σ H _ I h) (by rintro v s1 ⟨x,H1,I1,r1,q1⟩;exact⟨x,σ,H1,I1,r1,q1⟩))
noncomputable def aVJ(c:TT)(t u:TS):TS:=λD σ H=>c σ H λb H1=>if b=ak then t D σ H1 else u D σ H1
theorem aPM{b:List mj}(hc:PT X c tc)(ha:PSs X a t)(hb:PSs X b u):PS X (.If c a b pos) (aVJ tc t u):=by
 intro pins s σ H D I h;refine wpAny_If (eU (hc pins s σ H _ I h) ?_);rintro d s1 ⟨H1,I1,q1⟩;cases d with
 |true=>exact ha pins s1 σ H1 D I1 q1
 |false=>exact hb pins s1 σ H1 D I1 q1
end
abbrev TG:=V->St->Hp->(St->Hp->Prop)->Prop
abbrev TGs:=List V->St->Hp->(St->Hp->Prop)->Prop
noncomputable def PG(X:Cx)(target:jt)(t:TG):Prop :=
 ∀(pins:List (bx×Obj))(s:cg)(σ:St)(H:Hp)(v:V)(u:au)(Q:St->Hp->Prop),Inv X pins σ H s->RelV v u->t v σ H Q ->
  dh (dz X.prog X.w) X.A (assign target X.env u) (λ_ s'=>∃σ' H',Inv X pins σ' H' s'/\Q σ' H') X.xe s
noncomputable def PGs(X:Cx)(ts:List jt)(t:TGs):Prop :=
 ∀(pins:List (bx×Obj))(s:cg)(σ:St)(H:Hp)(vs:List V)(us:List au)(Q:St->Hp->Prop),Inv X pins σ H s->Vals vs us->t vs σ H Q ->
  dh (dz X.prog X.w) X.A (assignInOrder ((zu ts X.env).map (·.2)) us) (λ_ s'=>∃σ' H',Inv X pins σ' H' s'/\Q σ' H') X.xe s
abbrev aHJ:=V->V->V->Hp->(Hp->Prop)->Prop
noncomputable def aPO(X:Cx)(t:aHJ):Prop :=
 ∀(pins:List (bx×Obj))(s:cg)(σ:St)(H:Hp)(o i v:V)(ov iv u:au)(Q:Hp->Prop),Inv X pins σ H s->RelV o ov->RelV i iv->RelV v u->t o i v H Q ->
  dh (dz X.prog X.w) X.A (setItem ov iv u) (λ_ s'=>∃H',Inv X pins σ H' s'/\Q H') X.xe s
section
variable{X:Cx}{pos:Pos}
noncomputable def aqF(i:Nat):TG:=λv σ H Q=>Q (σ.set i (aj v)) H
theorem ahV{i:Nat}(hN:X.N.Nodup)(hi:X.N[i]?=aj x)(hx:Loc X.env.scope x)(hf:X.fn x=ak∨X.env.scope.names.lookup x=aj .local:=by first|exact .inl rfl|exact .inr rfl|assumption):PG X (.Name x pos) (aqF i):=by
 intro pins s σ H v u Q I r h;exact wpAny_assign_Name (ac1 I hN hi hx r (λs' I'=>⟨_,H,I',h⟩) hf)
noncomputable def aPP:TGs:=λvs σ H Q=>vs=[]/\Q σ H
noncomputable def aFZ(t:TG)(u:TGs):TGs:=λvs σ H Q=>∃v r,vs=v::r/\t v σ H λσ' H'=>u r σ' H' Q
theorem aBK:PGs X [] aPP:=by
 intro pins s σ H vs us Q I r h;obtain⟨e,h⟩:=h;subst e;cases r;exact assignInOrder_nil ⟨σ,H,I,h⟩
theorem avY(h1:PG X e t)(h2:PGs X es u)
  (hs:(zu (e::es) X.env).map (·.2)=assign e X.env::(zu es X.env).map (·.2):=by rfl):PGs X (e::es) (aFZ t u):=by
 intro pins s σ H vs us Q I r h;obtain⟨v,vr,e1,h⟩:=h;subst e1;cases r with
 |cons r rr =>
  rw[hs];refine assignInOrder_cons (eU (h1 pins s σ H _ _ _ I r h) ?_);rintro _ s1 ⟨σ1,H1,I1,q1⟩;exact h2 pins s1 σ1 H1 _ _ Q I1 rr q1
noncomputable def aVK(K:iw)(n:Nat)(t:TGs):TG:=λv σ H Q=>∃a xs,v=.ref a/\zL K H a xs/\xs.length=n/\t xs σ H Q
theorem avZ{k:Nat}(hc:X.calm=ak)(h:PGs X es t)
  (hn:(zu es X.env).length=n:=by rfl)(hst:(zu es X.env).findIdx? (·.1)=aq:=by rfl):PG X (.Tuple es k pos) (aVK X.K n t):=by
 intro pins s σ H v u Q I r hw;obtain⟨a,xs,e1,hq,hl,hw⟩:=hw;subst e1;cases r;obtain⟨its,rv,ht,hz⟩:=I.tuple hq;refine assign_Tuple_tuple (I.ok.hd hc) ht (by simp[hn,←hl,rv.length]) hst λh' hx=>?_;have I1:Inv X pins σ H {s with heap:=h' }:=I.kept (t':=s.toks) λb o e=>hx b o (mq (gk e)) e;exact h pins _ σ H xs _ Q I1 (by simpa using rv) hw
noncomputable def aVL(to ti:TE)(t:aHJ):TG:=λv σ H Q=>to σ H λo H1=>ti σ H1 λi H2=>t o i v H2 λH3=>Q σ H3
theorem aHK{to:TE}(ho:PE X o to)(hi:PE X i ti)(hs:aPO X t)
  (ha:∀v,assign (.Subscript o i pos) X.env v=(do
   let ov ←a1a [v] (eval o X.env)
   let iv ←a1a [v,ov] (eval i X.env)
   standAt pos
   a1a [v,ov,iv] (setItem ov iv v)
   release [v,ov,iv] []):=by intro _;rfl):PG X (.Subscript o i pos) (aVL to ti t):=by
 intro pins s σ H v u Q I r h;rw[ha];refine bw (za (eU (ho pins s σ H _ I h) ?_));rintro ov s1 ⟨x,H1,I1,r1,q1⟩;refine bw (za (eU (hi pins s1 σ H1 _ I1 q1) ?_));rintro iv s2 ⟨y,H2,I2,r2,q2⟩;refine bw (a1J (bw (za (eU (hs pins s2 σ H2 x y v ov iv u _ I2 r1 r2 r q2) ?_))));rintro _ s3 ⟨H3,I3,q3⟩;exact wpAny_release ⟨σ,H3,I3,q3⟩
noncomputable def aPQ(te:TE)(g:TG):TS:=λD σ H=>te σ H λx H1=>g x σ H1 D.nx
theorem aw0{g:TG}(he:PE X e te)(hg:PG X tg g)(hs:swapsWithSole [tg] e pos.line X.env=pure ao:=by rfl)(hw:swappedStores [tg] e X.env=pure aq:=by rfl)
  (h1:(zu [tg] X.env).map (·.2)=[assign tg X.env]:=by rfl):PS X (.Assign [tg] e pos) (aPQ te g):=by
 intro pins s σ H D I h;refine wpAny_Assign_stores (eU (he pins s σ H _ I h) ?_) hs hw;rintro v s1 ⟨x,H1,I1,r1,q1⟩;rw[h1];exact eU (hg pins s1 σ H1 x v _ I1 r1 q1) λ_ s2 q=>q
theorem aHL{i:Nat}(hN:X.N.Nodup)(hi:X.N[i]?=aj x)(hx:Loc X.env.scope x)(he:PE X e te)(hs:a0s e (aj (.Name x pos')) pos.line X.env=pure ao:=by rfl)(hf:X.fn x=ak∨X.env.scope.names.lookup x=aj .local:=by first|exact .inl rfl|exact .inr rfl|assumption) :
  PS X (.Assign [.Name x pos'] e pos) (aPQ te (aqF i)):=by
 intro pins s σ H D I h;refine wpAny_Assign_Name (eU (he pins s σ H _ I h) ?_) hs;rintro v s1 ⟨y,H1,I1,r1,q1⟩;exact ac1 I1 hN hi hx r1 (λs2 I2=>⟨_,H1,I2,q1⟩) hf
end
section
end
structure It where
 go:Nat->Hp->Prop
 yld:Nat->Hp->V->Hp->Prop
 stop:Nat->Hp->Prop
noncomputable def wQ(X:Cx)(pins:List (bx×Obj))(H:Hp)(b:bx):Prop :=
 H b=aq/\b≠X.env.locals/\b∉X.fs/\(b∈X.ex∨X.s₀.heap.objs.size<=b)/\(∀x c,X.env.cells.lookup x=aj c->c≠b)/\∀p∈X.pn++pins,p.1≠b
variable{s:cg}
theorem Inv.ac3(I:Inv X pins σ H s)(hb:s.heap.objs.size<=b)(hn:H' b=aq):wQ X pins H' b:=by
 refine⟨hn,a0k (ju I.lt hb),I.aVD hb,.inr (qj I.sz hb),λx c e z=>?_,λp hp z=>?_⟩
 .obtain⟨v,q⟩:=I.cell x c e;exact absurd (ju q.lt (by rw[z];exact hb)) (qu _)
 .exact absurd (ju (gk (I.pin p hp).1) (by rw[z];exact hb)) (qu _)
structure Turn(cm:Bool)(tl:List (bx×List V))(P:lq)(w:jg)(K:iw)(tg:jt)(J:It)(fp:List bx)(it:bx)(tn:Nat->jq->Prop):Prop where
 mem:it∈fp
 obj:∀i h,tn i h->∀b∈fp,∃o,h.get? b=aj o/\∀v,o.data≠.cell v
 keep:∀i h h',tn i h->(∀b∈fp,∀o,h.get? b=aj o->h'.get? b=aj o)->tn i h'
 item:∀(X:Cx),X.prog=P->X.w=w->X.K=K->(cm=ak->X.calm=ak)->(∀p∈tl,p∈X.tp)->∀(i:Nat)(pins:List (bx×Obj))(s:cg)(σ:St)(H:Hp)(E:au->cg->Prop),Inv X pins σ H s->(∀b∈fp,wQ X pins H b)->tn i s.heap->J.go i H ->
  dh (dz P w) X.A (a0y (.ref it)) (λr s1=>∃u,r=aj u /\
   dh (dz P w) X.A (a0t tg (.ref it) u) (λ_ s2=>∃x H',Inv X pins σ H' s2/\RelV x u/\J.yld i H x H'/\tn (i+1) s2.heap/\∀b∈fp,H' b=aq) E s1) E s
 done:∀(X:Cx),X.prog=P->X.w=w->X.K=K->(cm=ak->X.calm=ak)->(∀p∈tl,p∈X.tp)->∀(i:Nat)(pins:List (bx×Obj))(s:cg)(σ:St)(H:Hp)(E:au->cg->Prop),Inv X pins σ H s->(∀b∈fp,wQ X pins H b)->tn i s.heap->J.stop i H ->
  dh (dz P w) X.A (a0y (.ref it)) (λr s1=>r=aq/\Inv X pins σ H s1) E s
 self:∀(A:qb)(i:Nat)(s:cg)(Q:au->cg->Prop)(E:au->cg->Prop),tn i s.heap->Q (.ref it) s->dh (dz P w) A (pyIter (.ref it)) Q E s
abbrev TI:=St->Hp->(It->Hp->Prop)->Prop
noncomputable def PIE(X:Cx)(pins:List (bx×Obj))(σ:St)(tg:jt)(R:It->Hp->Prop)(itv:au)(s2:cg):Prop :=
 ∃(it:bx)(fp:List bx)(tn:Nat->jq->Prop)(J:It)(H':Hp),itv=.ref it/\Inv X pins σ H' s2/\Turn X.calm X.tp X.prog X.w X.K tg J fp it tn/\tn 0 s2.heap/\(∀b∈fp,wQ X pins H' b)/\R J H'
noncomputable def PI(X:Cx)(tg iter:jt)(wi:TI):Prop :=
 ∀(pins:List (bx×Obj))(s:cg)(σ:St)(H:Hp)(R:It->Hp->Prop),Inv X pins σ H s->wi σ H R ->
  dh (dz X.prog X.w) X.A (eval iter X.env) (λv s1=>dh (dz X.prog X.w) X.A (pyIter v) (PIE X pins σ tg R) X.xe s1) X.xe s
theorem al0{E:au->cg->Prop}{o:Obj}{n:String}(ho:s.heap.get? it=aj o)(hc:o.cls=.type n)(hd:o.data=.fields vs)
  (hn:["enumerate","zip","dict_itemiterator","dict_reverseitemiterator","odict_iterator","itertools.zip_longest","itertools.pairwise"].contains n=ao)(hQ:Q () s):dh M A (a0t tg (.ref it) u) Q E s:=by
 unfold a0t
 cases tg<;>first
  |exact gV hQ
  |(cases u<;>first
    |exact gV hQ
    |(refine bw (wpAny_load ho ?_)
      rw[hc,hd];show dh M A (if(["enumerate","zip","dict_itemiterator","dict_reverseitemiterator","odict_iterator","itertools.zip_longest","itertools.pairwise"].contains n&&vs[0]?==aj (a0r _))=ak then _ else _) Q E s;rw[if_neg (by intro h;rw[hn,Bool.false_and]at h;cases h)];exact gV hQ))
noncomputable def Itl(K:iw)(a:bx):It :=
 ⟨λi H=>∃xs x,zN K H a xs/\xs[i]?=aj x,λi H x H'=>H'=H/\∀xs,zN K H a xs->xs[i]?=aj x,λi H=>∃xs,zN K H a xs/\xs.length<=i⟩
noncomputable def Itt(K:iw)(a:bx):It :=
 ⟨λi H=>∃xs x,zL K H a xs/\xs[i]?=aj x,λi H x H'=>H'=H/\∀xs,zL K H a xs->xs[i]?=aj x,λi H=>∃xs,zL K H a xs/\xs.length<=i⟩
noncomputable def Itr(lo:Int)(n:Nat):It:=⟨λi _=>i<n,λi H x H'=>H'=H/\x=.int (lo+i),λi _=>n<=i⟩
theorem agG{K:iw}(a it:bx):Turn cm tl P w K tg (Itl K a) [it] it (λi h=>h.IsListIter it a i) where
 mem:=by simp
 obj:=λi h st b hb=>by
  have e:b=it:=by simpa using hb
  subst e;obtain⟨o,e,c,d⟩:=st;exact⟨o,e,λv z=>by rw[d]at z;cases z⟩
 keep:=λi h h' st k=>st.at λo e=>k it (by simp) o e
 item:=by
  intro X hP hw hK hc ht i pins s σ H E I hf st hg;subst hP hw hK;obtain⟨xs,x,hq,hx⟩:=hg;obtain⟨its,rv,p,hz⟩:=I.list hq;obtain⟨u,hu,ru⟩:=rv.get hx;obtain⟨f0,f1,f2,f3,f4,f5⟩:=hf it (by simp);refine wpAny_pyNext_list_item st p.isList (x:=u) (by simpa using hu) λh' st' sb=>?_;have I1:Inv X pins σ H {s with heap:=h' }:=I.turned (t':=s.toks) (λb o hb e=>(sb.2 b hb).trans e) f0 f1 f3 f4 f5;obtain⟨o,e,c,d⟩:=id st';exact⟨u,rfl,al0 (s:={s with heap:=h' }) e c d (by decide) ⟨x,H,I1,ru,⟨rfl,λys hy=>by rw[I.ac2 hy hq];exact hx⟩,st',λb hb=>(hf b hb).1⟩⟩
 done:=by
  intro X hP hw hK hc ht i pins s σ H E I hf st hg;subst hP hw hK;obtain⟨xs,hq,hx⟩:=hg;obtain⟨its,rv,p,hz⟩:=I.list hq;obtain⟨f0,f1,f2,f3,f4,f5⟩:=hf it (by simp);have hl:=rv.length;exact asU (I.hnd.heap I.hok) st p.isList (by simp;omega) λh' eb=>⟨rfl,I.turned (t':=s.toks) (λb o hb e=>eb b o hb e) f0 f1 f3 f4 f5⟩
 self:=λ_ _ _ _ _ st h=>wpAny_pyIter_listiter st h
theorem ac4{K:iw}(a it:bx):Turn cm tl P w K tg (Itt K a) [it] it (λi h=>h.IsTupleIter it a i) where
 mem:=by simp
 obj:=λi h st b hb=>by
  have e:b=it:=by simpa using hb
  subst e;obtain⟨o,e,c,d⟩:=st;exact⟨o,e,λv z=>by rw[d]at z;cases z⟩
 keep:=λi h h' st k=>st.at λo e=>k it (by simp) o e
 item:=by
  intro X hP hw hK hc ht i pins s σ H E I hf st hg;subst hP hw hK;obtain⟨xs,x,hq,hx⟩:=hg;obtain⟨its,rv,p,hz⟩:=I.tuple hq;obtain⟨u,hu,ru⟩:=rv.get hx;obtain⟨f0,f1,f2,f3,f4,f5⟩:=hf it (by simp);refine wpAny_pyNext_tuple_item st (show s.heap.IsTuple a its.toArray from p) (x:=u) (by simpa using hu) λh' st' sb=>?_;have I1:Inv X pins σ H {s with heap:=h' }:=I.turned (t':=s.toks) (λb o hb e=>(sb.2 b hb).trans e) f0 f1 f3 f4 f5;obtain⟨o,e,c,d⟩:=id st';exact⟨u,rfl,al0 (s:={s with heap:=h' }) e c d (by decide) ⟨x,H,I1,ru,⟨rfl,λys hy=>by rw[I.a1Q hy hq];exact hx⟩,st',λb hb=>(hf b hb).1⟩⟩
 done:=by
  intro X hP hw hK hc ht i pins s σ H E I hf st hg;subst hP hw hK;obtain⟨xs,hq,hx⟩:=hg;obtain⟨its,rv,p,hz⟩:=I.tuple hq;obtain⟨f0,f1,f2,f3,f4,f5⟩:=hf it (by simp);have hl:=rv.length;exact avS (I.hnd.heap I.hok) st (show s.heap.IsTuple a its.toArray from p) (by simp;omega) λh' eb=>⟨rfl,I.turned (t':=s.toks) (λb o hb e=>eb b o hb e) f0 f1 f3 f4 f5⟩
 self:=λ_ _ _ _ _ st h=>wpAny_pyIter_tupleiter st h
theorem ao2{K:iw}(it:bx)(lo:Int)(n:Nat):Turn cm tl P w K tg (Itr lo n) [it] it (λi h=>IsRangeIter h it (lo+(i:Nat)*1) ((n:Int) - (i:Nat)) 1) where
 mem:=by simp
 obj:=λi h st b hb=>by
  have e:b=it:=by simpa using hb
  subst e
  exact⟨_,st,λv z=>by
   have z':Data.fields _=Data.cell v:=z;cases z'⟩
 keep:=λi h h' st k=>k it (by simp) _ st
 item:=by
  intro X hP hw hK hc ht i pins s σ H E I hf st hg;subst hP hw hK;obtain⟨f0,f1,f2,f3,f4,f5⟩:=hf it (by simp);have hi:i<n:=hg;refine wpAny_pyNext_range_item st (by omega) λh' st' kk=>?_;have I1:Inv X pins σ H {s with heap:=h',toks:=s.toks+1}:=I.turned (λb o hb e=>(kk.2 b hb).trans e) f0 f1 f3 f4 f5
  have st2:IsRangeIter h' it (lo+((i+1:Nat):Int)*1) ((n:Int) - ((i+1:Nat):Int)) 1:=by
   have e1:lo+((i:Nat):Int)*1+1=lo+((i+1:Nat):Int)*1:=by omega
   have e2:(n:Int) - ((i:Nat):Int) - 1=(n:Int) - ((i+1:Nat):Int):=by omega
   rw[←e1,←e2];exact st'
  refine⟨_,rfl,al0 (s:={s with heap:=h',toks:=s.toks+1}) (n:="range_iterator") st2 rfl rfl (by decide) ⟨.int (lo+i),H,I1,⟨s.toks,?_⟩,⟨rfl,rfl⟩,st2,λb hb=>(hf b hb).1⟩⟩;rw[Int.mul_one]
 done:=by
  intro X hP hw hK hc ht i pins s σ H E I hf st hg;subst hP hw hK;obtain⟨f0,f1,f2,f3,f4,f5⟩:=hf it (by simp);exact avT (I.hnd.heap I.hok) st (by have:n<=i:=hg;omega) λh' eb=>⟨rfl,I.turned (t':=s.toks) (λb o hb e=>eb b o hb e) f0 f1 f3 f4 f5⟩
 self:=λ_ _ _ _ _ st h=>wpAny_pyIter_rangeiter st h
end
section
variable{h:jq}
section
variable{X:Cx}
theorem aw1{s:cg}{R:It->Hp->Prop}{lo hi:Int}{tk:Nat}(I:Inv X pins σ H s)(h1:-(2^62)<=lo)(h2:lo<2^62)(h3:-(2^62)<=hi)(h4:hi<2^62)
  (q:R (Itr lo (hi - lo).toNat) H):dh (dz X.prog X.w) X.A (pyIter (.ref s.heap.objs.size)) (PIE X pins σ tg R) E {s with heap:=s.heap.push {cls:=.type "range",data:=.fields #[.int lo t,.int hi u,.int 1 v]},toks:=tk}:=by
 refine wpAny_pyIter_range (IsRange.new ..) (small_one h1 h2 h3 h4) ?_;have I1:Inv X pins σ H {s with heap:=s.heap.push {cls:=.type "range",data:=.fields #[.int lo t,.int hi u,.int 1 v]},toks:=tk}:=I.kept λb o e=>dj _ e
 refine⟨(s.heap.push {cls:=.type "range",data:=.fields #[.int lo t,.int hi u,.int 1 v]}).objs.size,[(s.heap.push {cls:=.type "range",data:=.fields #[.int lo t,.int hi u,.int 1 v]}).objs.size],_,_,H,rfl,
  I1.kept (t':=tk) λb o e=>dj _ e,ao2 _ lo (hi - lo).toNat,?_,λb hb=>?_,q⟩
 .have e1:lo+((0:Nat):Int)*1=lo:=by simp
  have e2:(((hi - lo).toNat:Nat):Int) - ((0:Nat):Int)=Builtin.Range.rangeSize lo hi 1:=by rw[rangeSize_one];split<;>omega
  show IsRangeIter _ _ (lo+((0:Nat):Int)*1) ((((hi - lo).toNat:Nat):Int) - ((0:Nat):Int)) 1;rw[e1,e2];exact jd _ rfl
 .have e:b=(s.heap.push {cls:=.type "range",data:=.fields #[.int lo t,.int hi u,.int 1 v]}).objs.size:=by simpa using hb
  subst e;exact I1.ac3 (gw _) (I1.hok.fresh (gw _))
noncomputable def aPS(ta:TA):TI:=λσ H R=>ta σ H λvs H1=>∃j:Int,vs=[.int j]/\-(2^62)<=j/\j<2^62/\R (Itr 0 j.toNat) H1
theorem agH(hg:Gl X "range")(hm:X.mg "range"=aq)(ha:PA X [a] ta)(hs:jm [a] X.env=[(ao,eval a X.env)]:=by rfl):PI X tg (.Call (.Name "range" p) [a] [] pos) (aPS ta):=by
 intro pins s σ H R I h;refine Call_ (a6R I hg hm boot_range (PyProof.Rows.callWith_type1 (eU (ha pos pins s σ H _ I h) ?_) hs rfl));rintro us s1 ⟨vs,H1,I1,r1,q1⟩;obtain⟨j,e,q1,q2,q⟩:=q1;subst e;cases r1 with
 |cons r rr =>
  cases rr;obtain⟨t,rfl⟩:=r;exact call_range_1 (aw1 I1 (by omega) (by omega) q1 q2 (by simpa using q))
noncomputable def aVO(wi:TI)(g:TG)(tb:TS):TS:=λD σ H=>wi σ H λJ H1=>∃W:Nat->Nat->St->Hp->Prop,(∃m,W 0 m σ H1)/\∀i m σ H,W i m σ H ->
 (J.stop i H/\D.nx σ H)∨(J.go i H/\∃N:St->Hp->Prop,(∀σ' H',N σ' H'->∃m',m'<m/\W (i+1) m' σ' H')/\∀x H',J.yld i H x H'->g x σ H' λσ2 H2=>tb {D with nx:=N,ct:=N,bk:=D.nx} σ2 H2)
noncomputable def zO(fp:List bx)(h:jq):List (bx×Obj):=fp.filterMap λb=>(h.get? b).map λo=>(b,o)
theorem mQ(hb:b∈fp)(e:h.get? b=aj o):(b,o)∈zO fp h:=a1n.mpr ⟨b,hb,by rw[e];rfl⟩
theorem at5{p:bx×Obj}(hp:p∈zO fp h):p.1∈fp/\h.get? p.1=aj p.2:=by
 obtain⟨b,hb,e⟩:=a1n.mp hp;cases q:h.get? b with
 |none=>rw[q]at e;cases e
 |some o =>
  rw[q]at e;have e':(b,o)=p:=mz.inj e;subst e';exact⟨hb,q⟩
theorem Inv.pinned{s:cg}(I:Inv X pins σ H s)(hf:∀b∈fp,wQ X pins H b)(ho:∀b∈fp,∃o,s.heap.get? b=aj o/\∀v,o.data≠.cell v):Inv X (pins++zO fp s.heap) σ H s :=
 I.aqC λp hp=>(qm.mp hp).elim (λz=>I.pin p (nj _ z)) λz=>by
  obtain⟨hb,e⟩:=at5 z;obtain⟨f0,f1,f2,_⟩:=hf p.1 hb;obtain⟨o,e',d⟩:=ho p.1 hb;rw[e]at e';cases e';exact⟨e,f0,f1,f2,d⟩
theorem Inv.zP(I:Inv X (pins++pl) σ H s):Inv X pins σ H s:=I.aqC λp hp=>I.pin p (nj _ (a0f _ hp))
set_option tactic.hygienic true in
theorem aHM{g:TG}(hp:PassesOwn (dz X.prog X.w) X.A X.env X.xe)(hi:PI X tg iter wi)(hg:PG X tg g)(hb:PSs X body tb)
  (hs:∀x,a0e iter X.env x=pure x:=by intro _;rfl):PS X (.For tg iter body [] pos) (aVO wi g tb):=by
 intro pins s σ H D I h;refine wpAny_For (eU (hi pins s σ H _ I h) λv s1 h1=>eU h1 λitv s2 h2=>?_) hs;obtain⟨it,fp,tn,J,H2,e,I2,T,st2,f2,W,⟨m0,w0⟩,turn⟩:=h2;subst e;have stat:∀{H':Hp},(∀b∈fp,H' b=aq)->∀b∈fp,wQ X pins H' b:=λhn b hb=>⟨hn b hb,(f2 b hb).2⟩;refine codeAny_forLoop_any (λn s'=>∃i σ' H',Inv X pins σ' H' s'/\tn i s'.heap/\(∀b∈fp,H' b=aq)/\W i n σ' H') ?_ m0 ⟨0,σ,H2,I2,st2,λb hb=>(f2 b hb).1,w0⟩;rintro n s3 ⟨i,σ3,H3,I3,st3,fr3,w3⟩;rcases turn i n σ3 H3 w3 with⟨stop,qn⟩|⟨go,N,hN,step⟩
 .refine a1j hp (eU (T.done X rfl rfl rfl (λh=>h) (λ_ h=>h) i pins s3 σ3 H3 X.xe I3 (stat fr3) st3 stop) ?_);rintro r s4 ⟨hr,I4⟩;subst hr;exact a1i ⟨σ3,H3,I4,qn⟩
 .refine a1j hp (eU (T.item X rfl rfl rfl (λh=>h) (λ_ h=>h) i pins s3 σ3 H3 X.xe I3 (stat fr3) st3 go) ?_);rintro r s4 ⟨u,hr,h4⟩;subst hr;refine a1j hp (eU h4 λ_ s5 ⟨x,H5,I5,r5,y5,st5,fr5⟩=>?_);have I5':=I5.pinned (stat fr5) (T.obj _ _ st5);refine a1j hp (eU (hg _ s5 σ3 H5 x u _ I5' r5 (step x H5 y5)) λ_ s6 ⟨σ6,H6,I6,q6⟩=>?_);refine a1j hp (eU (hb _ s6 σ6 H6 _ I6 q6) λf s7 q7=>?_)
  have again:∀{σ7:St}{H7:Hp},Inv X (pins++zO fp s5.heap) σ7 H7 s7->N σ7 H7->∃m,m<n/\∃i σ' H',Inv X pins σ' H' s7/\tn i s7.heap/\(∀b∈fp,H' b=aq)/\W i m σ' H':=λ{σ7 H7} I7 n7=>by
   obtain⟨m',hm,w7⟩:=hN σ7 H7 n7;refine⟨m',hm,i+1,σ7,H7,I7.zP,T.keep _ _ _ st5 λb hb o e=>(I7.pin (b,o) (nj _ (nj _ (mQ hb e)))).1,λb hb=>?_,w7⟩;obtain⟨o,e,d⟩:=T.obj _ _ st5 b hb;exact(I7.pin (b,o) (nj _ (nj _ (mQ hb e)))).2.1
  cases f with
  |next=>obtain⟨σ7,H7,I7,n7⟩:=q7;exact again I7 n7
  |cont=>obtain⟨σ7,H7,I7,n7⟩:=q7;exact again I7 n7
  |brk=>obtain⟨σ7,H7,I7,q7⟩:=q7;exact⟨σ7,H7,I7.zP,q7⟩
  |ret v=>obtain⟨x7,σ7,H7,I7,r7,q7⟩:=q7;exact⟨x7,σ7,H7,I7.zP,r7,q7⟩
end
end
section
abbrev R2:=V->V->Hp->VK->Prop
noncomputable def zG(X:Cx)(f:au->au->Sem au)(r:R2):Prop :=
 ∀(pins:List (bx×Obj))(s:cg)(σ:St)(H:Hp)(x y:V)(v u:au)(Q:VK),Inv X pins σ H s->RelV x v->RelV y u->r x y H Q ->
  dh (dz X.prog X.w) X.A (f v u) (EP X pins σ Q) X.xe s
noncomputable def UnR(X:Cx)(f:au->Sem au)(r:V->Hp->VK->Prop):Prop :=
 ∀(pins:List (bx×Obj))(s:cg)(σ:St)(H:Hp)(x:V)(v:au)(Q:VK),Inv X pins σ H s->RelV x v->r x H Q ->
  dh (dz X.prog X.w) X.A (f v) (EP X pins σ Q) X.xe s
noncomputable def xY(X:Cx)(f:au)(r:List V->Hp->VK->Prop):Prop :=
 ∀(pins:List (bx×Obj))(s:cg)(σ:St)(H:Hp)(xs:List V)(us:List au)(Q:VK),Inv X pins σ H s->Vals xs us->r xs H Q ->
  dh (dz X.prog X.w) X.A (call f us) (EP X pins σ Q) X.xe s
noncomputable def tOp(r:R2)(ta tb:TE):TE:=λσ H Q=>ta σ H λx H1=>tb σ H1 λy H2=>r x y H2 Q
noncomputable def tUn(r:V->Hp->VK->Prop)(ta:TE):TE:=λσ H Q=>ta σ H λx H1=>r x H1 Q
noncomputable def rI(C:Int->Int->Prop)(g:Int->Int->V):R2:=λx y H Q=>∃i j,x=.int i/\y=.int j/\C i j/\Q (g i j) H
noncomputable def rI0(g:Int->Int->V):R2:=λx y H Q=>∃i j,x=.int i/\y=.int j/\Q (g i j) H
noncomputable def rU(g:Int->V):V->Hp->VK->Prop:=λx H Q=>∃i,x=.int i/\Q (g i) H
variable{f:au->au->Sem au}
section
variable{X:Cx}{a b:jt}{ta tb:TE}
theorem aHN(ha:PE X a ta)(hb:PE X b tb){s:cg}{σ:St}{H:Hp}(I:Inv X pins σ H s)
  (h:ta σ H λx H1=>tb σ H1 λy H2=>R x y H2){Q:au->cg->Prop}
  (hf:∀v u s2 x y H2,Inv X pins σ H2 s2->RelV x v->RelV y u->R x y H2->dh (dz X.prog X.w) X.A (f v u) Q X.xe s2) :
  dh (dz X.prog X.w) X.A (eval a X.env) (λv s₁=>dh (dz X.prog X.w) X.A (eval b X.env) (λu s₂=>dh (dz X.prog X.w) X.A (f v u) Q X.xe s₂) X.xe s₁) X.xe s:=by
 refine eU (ha pins s σ H _ I h) ?_;rintro v s1 ⟨x,H1,I1,r1,q1⟩;refine eU (hb pins s1 σ H1 _ I1 q1) ?_;rintro u s2 ⟨y,H2,I2,r2,q2⟩;exact hf v u s2 x y H2 I2 r1 r2 q2
theorem aPT(ho:zG X (vp op) r)(ha:PE X a ta)(hb:PE X b tb):PE X (.BinOp a op b pos) (tOp r ta tb):=by
 intro pins s σ H Q I h;exact wpAny_BinOp (aHN ha hb I h λv u s2 x y H2 I2 rx ry q=>ho pins s2 σ H2 x y v u Q I2 rx ry q)
theorem aPU{r:V->Hp->VK->Prop}(ho:UnR X (unaryOp op) r)(ha:PE X a ta):PE X (.UnaryOp op a pos) (tUn r ta):=by
 intro pins s σ H Q I h;exact UnaryOp_ (eU (ha pins s σ H _ I h) (by rintro v s1 ⟨x,H1,I1,r1,q1⟩;exact ho pins s1 σ H1 x v Q I1 r1 q1))
theorem opI{C:Int->Int->Prop}{g:Int->Int->Int}
  (rule:∀(i j:Int)(t u:Tok)(s:cg)(Q:au->cg->Prop)(E:au->cg->Prop),C i j->Q (.int (g i j) s.toks) {s with toks:=s.toks+1}->dh (dz X.prog X.w) X.A (f (.int i t) (.int j u)) Q E s) :
  zG X f (rI C λi j=>.int (g i j)):=by
 intro pins s σ H x y v u Q I rx ry h;obtain⟨i,j,rfl,rfl,hc,q⟩:=h;obtain⟨t,rfl⟩:=rx;obtain⟨t',rfl⟩:=ry;exact rule i j t t' s _ _ hc ⟨.int (g i j),H,I.tok _,⟨_,rfl⟩,q⟩
theorem aPV{g:Int->Int->Int}
  (rule:∀(i j:Int)(t u:Tok)(s:cg)(Q:au->cg->Prop)(E:au->cg->Prop),Q (.int (g i j) s.toks) {s with toks:=s.toks+1}->dh (dz X.prog X.w) X.A (f (.int i t) (.int j u)) Q E s) :
  zG X f (rI0 λi j=>.int (g i j)):=by
 intro pins s σ H x y v u Q I rx ry h;obtain⟨i,j,rfl,rfl,q⟩:=h;obtain⟨t,rfl⟩:=rx;obtain⟨t',rfl⟩:=ry;exact rule i j t t' s _ _ ⟨.int (g i j),H,I.tok _,⟨_,rfl⟩,q⟩
theorem aHO{g:Int->Int->Bool}
  (rule:∀(i j:Int)(t u:Tok)(s:cg)(Q:au->cg->Prop)(E:au->cg->Prop),Q (.bool (g i j)) s->dh (dz X.prog X.w) X.A (f (.int i t) (.int j u)) Q E s) :
  zG X f (rI0 λi j=>.bl (g i j)):=by
 intro pins s σ H x y v u Q I rx ry h;obtain⟨i,j,rfl,rfl,q⟩:=h;obtain⟨t,rfl⟩:=rx;obtain⟨t',rfl⟩:=ry;exact rule i j t t' s _ _ ⟨.bl (g i j),H,I,rfl,q⟩
def aHP(i j:Int):Prop:=0<j/\j<1073741824
def aHQ(i j:Int):Prop:=0<=j/\j<=1000000/\i.natAbs<2^64
def aw2(i j:Int):Prop:=(-(2^64)<i/\i<2^64)∨(-(2^64)<j/\j<2^64)
theorem aw2.ok{i j:Int}(h:aw2 i j):IntMulOk i j:=by
 rcases h with⟨h1,h2⟩|⟨h1,h2⟩
 .exact .of_left (intBits_le_64 h1 h2)
 .exact .of_right (intBits_le_64 h1 h2)
theorem aHR:zG X (vp .Add) (rI0 λi j=>.int (i+j)):=aPV λ_ _ _ _ _ _ _ q=>add_int q
theorem aHS:zG X (vp .Sub) (rI0 λi j=>.int (i - j)):=aPV λ_ _ _ _ _ _ _ q=>sub_int q
theorem aHT:zG X (vp .Mult) (rI aw2 λi j=>.int (i*j)):=opI λ_ _ _ _ _ _ _ hc q=>mul_int q hc.ok
theorem aBM:zG X (vp .FloorDiv) (rI aHP λi j=>.int (i / j)):=opI λi j _ _ _ _ _ hc q=>by
 have h1:(0:Int)<j:=hc.1;have h2:j<1073741824:=hc.2;exact floordiv_int (by omega) (by rw[Int.fdiv_eq_ediv_of_nonneg i (by omega)];exact q) (.inl (PyProof.noPylong_small (by omega)))
theorem aHU:zG X (vp .Mod) (rI (λ_ j=>0<j) λi j=>.int (i%j)):=opI λi j _ _ _ _ _ hc q=>by
 have h1:(0:Int)<j:=hc;exact mod_int' (by omega) (by rw[Int.fmod_eq_emod_of_nonneg i (by omega)];exact q)
theorem aHV:zG X (vp .Pow) (rI aHQ λi j=>.int (i^j.toNat)):=opI λ_ _ _ _ _ _ _ hc q=>pow_int_small hc.1 hc.2.1 hc.2.2 q
theorem unI{f:au->Sem au}{g:Int->Int}
  (rule:∀(i:Int)(t:Tok)(s:cg)(Q:au->cg->Prop)(E:au->cg->Prop),Q (.int (g i) s.toks) {s with toks:=s.toks+1}->dh (dz X.prog X.w) X.A (f (.int i t)) Q E s) :
  UnR X f (rU λi=>.int (g i)):=by
 intro pins s σ H x v Q I rx h;obtain⟨i,rfl,q⟩:=h;obtain⟨t,rfl⟩:=rx;exact rule i t s _ _ ⟨.int (g i),H,I.tok _,⟨_,rfl⟩,q⟩
theorem aHW:UnR X (unaryOp .USub) (rU λi=>.int (-i)):=unI λ_ _ _ _ _ q=>neg_int q
end
variable{x:V}
section
variable{X:Cx}{b:jt}{ta tb tc:TE}
theorem aw3{Q:VK}{k k':Bool}(I:Inv X pins σ H s)(q:Q (.bl k) H)(e:k=k'):EP X pins σ Q (.bool k') s:=by
 subst e;exact⟨.bl k,H,I,rfl,q⟩
theorem aPW:zG X (ni .Lt) (rI0 λi j=>.bl (decide (i<j))):=aHO λ_ _ _ _ _ _ _ q=>lt_int q
theorem aPX:zG X (ni .LtE) (rI0 λi j=>.bl (decide (i<=j))):=aHO λ_ _ _ _ _ _ _ q=>le_int q
theorem aPY:zG X (ni .Gt) (rI0 λi j=>.bl (decide (j<i))):=aHO λ_ _ _ _ _ _ _ q=>gt_int q
theorem at6:zG X (ni .In) (λx y H Q=>∃i j,x=.str i/\y=.str j/\Q (.bl (!(Builtin.Str.occurrences j i 0 j.length 1).isEmpty)) H):=by
 intro pins s σ H x y v u Q I rx ry h;obtain⟨i,j,rfl,rfl,q⟩:=h;obtain⟨t,rfl⟩:=rx;obtain⟨t',rfl⟩:=ry;exact in_str (aw3 I q rfl)
theorem ahW:zG X (ni .NotIn) (λx y H Q=>∃i j,x=.str i/\y=.str j/\Q (.bl (!(!(Builtin.Str.occurrences j i 0 j.length 1).isEmpty))) H):=by
 intro pins s σ H x y v u Q I rx ry h;obtain⟨i,j,rfl,rfl,q⟩:=h;obtain⟨t,rfl⟩:=rx;obtain⟨t',rfl⟩:=ry;exact notIn_str (aw3 I q rfl)
theorem zG.or(h:zG X f r)(h':zG X f r'):zG X f (λx y H Q=>r x y H Q∨r' x y H Q):=by
 intro pins s σ H x y v u Q I rx ry q;rcases q with q|q
 .exact h pins s σ H x y v u Q I rx ry q
 .exact h' pins s σ H x y v u Q I rx ry q
theorem aVR(b:jt)(h:op≠.In:=by decide)(h2:op≠.NotIn:=by decide):a1e op b=ao:=by
 have e1:(op==CmpOp.In)=ao:=by cases op<;>first|rfl|exact absurd rfl h
 have e2:(op==CmpOp.NotIn)=ao:=by cases op<;>first|rfl|exact absurd rfl h2
 cases b<;>simp[a1e,e1,e2]
theorem aBN(ho:zG X (ni op) r)(ha:PE X a ta)(hb:PE X b tb)(hm:a1e op b=ao):PE X (.Compare a [op] [b] pos) (tOp r ta tb):=by
 intro pins s σ H Q I h;exact wpAny_Compare1 (aHN ha hb I h λv u s2 x y H2 I2 rx ry q=>ho pins s2 σ H2 x y v u Q I2 rx ry q) hm
noncomputable def aw4(t:TE):TT:=λσ H Q=>t σ H λx H'=>∃k,x=.bl k/\Q k H'
theorem aBO(ho:zG X (ni op) r)(ha:PE X a ta)(hb:PE X b tb)(hm:a1e op b=ao):PT X (.Compare a [op] [b] pos) (aw4 (tOp r ta tb)):=by
 intro pins s σ H Q I h
 refine wpAny_isTrue_Compare1 (eU (ha pins s σ H _ I h) λv s1 ⟨x,H1,I1,r1,q1⟩=>eU (hb pins s1 σ H1 _ I1 q1) λu s2 ⟨y,H2,I2,r2,q2⟩ =>
  eU (ho pins s2 σ H2 x y v u _ I2 r1 r2 q2) λc s3 ⟨z,H3,I3,r3,k,e,q3⟩=>?_) hm
 subst e;cases r3;exact xg ⟨H3,I3,q3⟩
noncomputable def ao3(r r':R2)(ta tb tc:TE):TE:=λσ H Q=>ta σ H λx H1=>tb σ H1 λy H2=>r x y H2 λz H3=>∃k,z=.bl k /\
 (if k=ak then tc σ H3 λw' H4=>r' y w' H4 Q else Q (.bl ao) H3)
theorem aw5(ho:zG X (ni op) r)(ho':zG X (ni op') r')(ha:PE X a ta)(hb:PE X b tb)(hc:PE X c tc)
  (hm:lastMarks [op,op'] [b,c]=ao:=by with_unfolding_all rfl):PE X (.Compare a [op,op'] [b,c] pos) (ao3 r r' ta tb tc):=by
 intro pins s σ H Q I h
 refine Compare_chain (eU (ha pins s σ H _ I h) λv s1 ⟨x,H1,I1,r1,q1⟩=>chain_link (eU (hb pins s1 σ H1 _ I1 q1) λu s2 ⟨y,H2,I2,r2,q2⟩ =>
  eU (ho pins s2 σ H2 x y v u _ I2 r1 r2 q2) λd s3 ⟨z,H3,I3,r3,k,e,q3⟩=>?_)) hm
 subst e;cases r3;refine xg ?_;cases k with
 |false=>exact ite_ff ⟨.bl ao,H3,I3,rfl,q3⟩
 |true=>exact ite_tt (chain_last (eU (hc pins s3 σ H3 _ I3 q3) λw' s4 ⟨z',H4,I4,r4,q4⟩=>ho' pins s4 σ H4 y z' u w' Q I4 r2 r4 q4))
theorem aw6(ho:zG X (ni op) r)(ho':zG X (ni op') r')(ha:PE X a ta)(hb:PE X b tb)(hc:PE X c tc)
  (hm:lastMarks [op,op'] [b,c]=ao:=by with_unfolding_all rfl):PT X (.Compare a [op,op'] [b,c] pos) (aw4 (ao3 r r' ta tb tc)):=by
 intro pins s σ H Q I h
 refine isTrue_chain (eU (ha pins s σ H _ I h) λv s1 ⟨x,H1,I1,r1,q1⟩=>test_link (eU (hb pins s1 σ H1 _ I1 q1) λu s2 ⟨y,H2,I2,r2,q2⟩ =>
  eU (ho pins s2 σ H2 x y v u _ I2 r1 r2 q2) λd s3 ⟨z,H3,I3,r3,k,e,q3⟩=>?_)) hm
 subst e;cases r3;refine xg ?_;cases k with
 |false =>
  obtain⟨k',e',q'⟩:=q3;cases e';exact ite_ff ⟨H3,I3,q'⟩
 |true =>
  refine ite_tt (test_last (eU (hc pins s3 σ H3 _ I3 q3) λw' s4 ⟨z',H4,I4,r4,q4⟩=>eU (ho' pins s4 σ H4 y z' u w' _ I4 r2 r4 q4) ?_));rintro d' s5 ⟨z2,H5,I5,r5,k2,e2,q5⟩;subst e2;cases r5;exact xg ⟨H5,I5,q5⟩
theorem a6S:(cj:Nat)<2^63:=by rw[sizeLine_eq];decide
theorem ao4:zG X (vp .Add) (λx y H Q=>∃i j,x=.str i/\y=.str j/\i.length+j.length<=cj/\Q (.str (i++j)) H):=by
 intro pins s σ H x y v u Q I rx ry h;obtain⟨i,j,rfl,rfl,hz,q⟩:=h;obtain⟨t,rfl⟩:=rx;obtain⟨t',rfl⟩:=ry;exact add_str (λt' tk=>⟨.str (i++j),H,I.tok _,⟨_,rfl⟩,q⟩) hz
theorem vals1(r:Vals [x] us):∃u,us=[u]/\RelV x u:=by
 cases r with
 |cons r1 r2=>cases r2;exact⟨_,rfl,r1⟩
theorem vals2(r:Vals [x,y] us):∃u w',us=[u,w']/\RelV x u/\RelV y w':=by
 cases r with
 |cons r1 r2 =>
  cases r2 with
  |cons r3 r4=>cases r4;exact⟨_,_,rfl,r1,r3⟩
theorem at7(hc:X.calm=ak):xY X (.builtin "max") (λxs H Q=>∃i j,xs=[.int i,.int j]/\Q (.int (if j>i then j else i)) H):=by
 intro pins s σ H xs us Q I r h;obtain⟨i,j,rfl,q⟩:=h;obtain⟨u,w',rfl,⟨t,rfl⟩,⟨t',rfl⟩⟩:=vals2 r;refine max_two_ints (I.ok.hd hc) λh' tk k=>⟨_,H,I.kept k,?_,q⟩;by_cases hj:j>i
 .rw[if_pos hj,if_pos hj];exact⟨_,rfl⟩
 .rw[if_neg hj,if_neg hj];exact⟨_,rfl⟩
theorem at8(hc:X.calm=ak):xY X (.builtin "min") (λxs H Q=>∃i j,xs=[.int i,.int j]/\Q (.int (if j<i then j else i)) H):=by
 intro pins s σ H xs us Q I r h;obtain⟨i,j,rfl,q⟩:=h;obtain⟨u,w',rfl,⟨t,rfl⟩,⟨t',rfl⟩⟩:=vals2 r;refine min_two_ints (I.ok.hd hc) λh' tk k=>⟨_,H,I.kept k,?_,q⟩;by_cases hj:j<i
 .rw[if_pos hj,if_pos hj];exact⟨_,rfl⟩
 .rw[if_neg hj,if_neg hj];exact⟨_,rfl⟩
theorem at9:xY X (.type "int") (λxs H Q=>(∃i,xs=[.int i]/\Q (.int i) H)∨∃k,xs=[.bl k]/\Q (.int (if k then 1 else 0)) H):=by
 intro pins s σ H xs us Q I r h;rcases h with⟨i,rfl,q⟩|⟨k,rfl,q⟩
 .obtain⟨u,rfl,t,rfl⟩:=vals1 r;exact call_int_int ⟨.int i,H,I,⟨_,rfl⟩,q⟩
 .obtain⟨u,rfl,r1⟩:=vals1 r;cases r1;exact call_int_bool ⟨.int (if k then 1 else 0),H,I.tok _,⟨_,rfl⟩,q⟩
end
end
section
structure aw7(h:jq)(x dx C:bx)(mA:Str->Option au):Prop where
 obj:h.get? x=aj (zq C dx)
 ns:h.Ns1 dx mA
 ne:dx≠x
set_option tactic.hygienic true in
theorem atA{h:jq}{mA:Str->Option au}(n:h.Ns1 dx mA):∃od,h.get? dx=aj od/\∀name,PySem.W.lookIn name od=aj (mA name):=by
 obtain⟨o,es,ep,ho,hd,hk,_,hm⟩:=n;refine⟨o,ho,λname=>?_⟩;have e:=hm name;unfold nsFind findBy at e;rw[←Array.find?_toList]at e;unfold PySem.W.lookIn;rw[hd];dsimp only;split
 ·rename_i y q;rw[q]at e;exact congrArg aj e
 .rename_i q;rw[q]at e
  have a:es.toList.any (·.refKey)=ao:=by
   rw[List.any_eq_false];intro y hy;obtain⟨z,t,hkey⟩:=hk y (Array.mem_toList_iff.mp hy);simp[DictEntry.refKey,hkey]
  have a':¬ es.toList.any (·.refKey)=ak:=by rw[a];exact vf
  rw[if_neg a'];exact congrArg aj e
theorem aw7.look{x:bx}{mA:Str->Option au}(I:aw7 h x dx C mA):∃od,PySem.W.InstAt h x (zq C dx) C (aj od)/\∀name,PySem.W.lookIn name od=aj (mA name) :=
 let⟨od,ho,hl⟩:=atA I.ns
 ⟨od,⟨I.obj,rfl,rfl,ho⟩,hl⟩
section
variable{prog:lq}{w:jg}{A:qb}{E:au->cg->Prop}{s:cg}{K:iw}{x:bx}{mA:Str->Option au}
theorem aBP{ns:List Str}(X:K.In s.heap)(I:aw7 s.heap x dx C mA)
  (hs:dw K (.ref C) "__setattr__"=aj (aj (.builtin "object.__setattr__")))(hp:qd K C=ak)(ht:PySem.W.takerIn K C name=aj aq)(hh:qe K C=ak)
  (hw:PySem.Within mA ns)(hsz:ns.length<=cj)
  (h:∀h',aw7 h' x dx C (λy=>if y=name then aj v else mA y)->yg dx s.heap h'->Q () {s with heap:=h',toks:=s.toks+2}) :
  dh (dz prog w) A (setAttr (.ref x) name v) Q E s:=by
 obtain⟨od,J,hl⟩:=I.look;refine PySem.W.set_plain X J hs (PySem.W.osa_open (s:={s with toks:=s.toks+1}) (r:=none) X J hp ht λb=>?_);obtain⟨cd,hc,hd'⟩:=PySem.W.any_some hh;have hx:s.heap.get? x=aj ⟨.ref C,aj dx,.plain,#[]⟩:=I.obj;refine bw (gV (bw (bw (wpAny_loadPart hx (bw (ug.here (s:={s with toks:=s.toks+1}) (PySem.W.looks_clsIn X hc) ?_))))));rw[hd'];refine gV (a:=some dx) (bw (gV (bw ?_)));refine wpAny_nsSet1 (s:={s with toks:=s.toks+1}) I.ns λh' hn2 hs2=>?_;obtain⟨oD,esD,epD,hoD,hdD,hcD⟩:=hn2.count (PySem.Within.cons name v hw);refine bw (wpAny_lookBehind hoD (by rw[hdD];exact pastItsLine_dict (qj hcD (by rw[ig];omega))) ?_);exact gV (h _ ⟨(hs2.2 _ (Ne.symm I.ne)).trans I.obj,hn2,I.ne⟩ hs2)
theorem aw8{R:Result->cg->Prop}(X:K.In s.heap)(hm:qw K C=ak)
  (hi:dw K (.ref C) "__init__"=aj (aj (.ref f)))(hf:a0a K (.ref f)=aj (.type "function"))
  (h:a0i (dz prog w) (A.under (.builtin "type.__call__" ⟨.ref C::vs,kw⟩)) (.call (.ref f) ⟨.ref (s.heap.objs.size+1)::vs,kw⟩) (PySem.W.InitBack (s.heap.objs.size+1) R)
   {s with heap:=(s.heap.push xq).push (zq C s.heap.objs.size)}) :
  a0i (dz prog w) A (.call (.ref C) ⟨vs,kw⟩) R s:=by
 obtain⟨hh,g,d,t,os⟩:=s;exact PySem.W.make_core (PySem.W.makes_of X hm) (PySem.W.looks_findIn X hi) (λself=>PySem.W.bind_fn X self hf) (.inl rfl) h
end
noncomputable def wR(f:Str)(v:V):List (Str×V)->List (Str×V)
 |[]=>[(f,v)]
 |(g,x)::r=>if g=f then(g,v)::r else(g,x)::wR f v r
theorem a81(f g:Str)(v:V):∀fs:List (Str×V),(wR f v fs).lookup g=if g=f then aj v else fs.lookup g
 |[]=>by
  show zp g [(f,v)]=_;by_cases h:g=f
  .have hb:(g==f)=ak:=beq_iff_eq.mpr h;simp only[zp,hb,if_pos h]
  .have hb:(g==f)=ao:=beq_eq_false_iff_ne.mpr h;simp only[zp,hb,if_neg h]
 |(k,x)::r=>by
  have ih:=a81 f g v r;rw[show wR f v ((k,x)::r)=(if k=f then(k,v)::r else(k,x)::wR f v r)from rfl];by_cases hk:k=f
  .rw[if_pos hk];by_cases h:g=k
   .have hb:(g==k)=ak:=beq_iff_eq.mpr h;simp only[zp,hb,if_pos (h.trans hk)]
   .have hb:(g==k)=ao:=beq_eq_false_iff_ne.mpr h;simp only[zp,hb,if_neg (λe:g=f=>h (e.trans hk.symm))]
  .rw[if_neg hk];by_cases h:g=k
   .have hb:(g==k)=ak:=beq_iff_eq.mpr h;simp only[zp,hb,if_neg (λe:g=f=>hk (h.symm.trans e))]
   .have hb:(g==k)=ao:=beq_eq_false_iff_ne.mpr h;simp only[zp,hb];exact ih
theorem a6T(f:Str)(v:V):∀fs:List (Str×V),f∈(wR f v fs).map (·.1)/\∀g,g∈fs.map (·.1)->g∈(wR f v fs).map (·.1)
 |[]=>⟨by simp[wR],λg h=>by simp at h⟩
 |(k,x)::r=>by
  obtain⟨i1,i2⟩:=a6T f v r;rw[show wR f v ((k,x)::r)=(if k=f then(k,v)::r else(k,x)::wR f v r)from rfl];by_cases hk:k=f
  .rw[if_pos hk];subst hk;exact⟨by simp,λg h=>by simpa using h⟩
  .rw[if_neg hk];refine⟨?_,λg h=>?_⟩
   .rw[jj];exact gb _ i1
   .rw[jj]at h ⊢;rcases jc.mp h with e|e
    .exact jc.mpr (.inl e)
    .exact gb _ (i2 g e)
theorem a82(f:Str)(v:V):∀fs:List (Str×V),(wR f v fs).length<=fs.length+1
 |[]=>by simp[wR]
 |(k,x)::r=>by
  have ih:=a82 f v r;rw[show wR f v ((k,x)::r)=(if k=f then(k,v)::r else(k,x)::wR f v r)from rfl];by_cases hk:k=f
  .rw[if_pos hk,ig,ig];omega
  .rw[if_neg hk,ig,ig];omega
section
variable{w:jg}{fs:List (Str×V)}
theorem aqG(hok:HOk P w H h)(e:H a=aj (.ins C dx fs)):∃mA,aw7 h a dx C mA/\(∀f,aBA (fs.lookup f) (mA f))/\PySem.Within mA (fs.map (·.1))/\fs.length<=1000/\H dx=aj (.own a):=by
 obtain⟨d,z,ne,ob,mA,n,r,q⟩:=(show qX P w H h a (.ins C dx fs)from hok a _ e);exact⟨mA,⟨ob,n,ne⟩,r,q,z,d⟩
end
structure Cls(K:iw)(C:bx):Prop where
 pg:qp K C Str.empty=ak
 hd:qe K C=ak
 po:qd K C=ak
 sa:dw K (.ref C) "__setattr__"=aj (aj (.builtin "object.__setattr__"))
theorem Cls.get{K:iw}(c:Cls K C)(f:Str):qp K C f=ak:=c.pg
def eV(K:iw)(C:bx)(f:Str):Prop:=dw K (.ref C) f=aj aq
theorem eV.taker{K:iw}(n:eV K C f):PySem.W.takerIn K C f=aj aq:=by
 unfold PySem.W.takerIn;rw[show dw K (.ref C) f=aj aq from n];rfl
structure Meth(K:iw)(C:bx)(m:Str)(f:bx):Prop where
 at_:dw K (.ref C) m=aj (aj (.ref f))
 fn:PySem.W.isFn K (.ref f)=ak
 kp:jy K (.ref f)=ak
section
variable{X:Cx}{pins:List (bx×Obj)}{s:cg}{fs:List (Str×V)}{A:qb}{E:au->cg->Prop}
theorem ao5(I:Inv X pins σ H s)(e:H a=aj (.ins C dx fs))(c:Cls X.K C)(n:eV X.K C f)(hl:fs.length<1000)(ry:RelV y u)
  (h:∀s',Inv X pins σ (upd H a (.ins C dx (wR f y fs))) s'->Q () s'):dh (dz X.prog X.w) A (setAttr (.ref a) f u) Q E s:=by
 obtain⟨mA,O,r,wi,_,ho⟩:=aqG I.hok e;have hz:(fs.map (·.1)).length<=cj:=by rw[dg,sizeLine_eq];omega
 refine aBP I.kIn O c.sa c.po n.taker c.hd wi hz λh' O' sb=>h _ ?_;have hd:∃o,h'.get? dx=aj o:=let⟨o,_,_,e',_⟩:=O'.ns;⟨o,e'⟩
 refine I.write (x:=a) (e:=dx) (by rw[e];exact True.intro) (.inr ho) (λb q hb z=>(sb.2 b hb).trans z) hd ?_;refine⟨by rw[bT O.ne];exact ho,?_,O.ne,O'.obj,_,O'.ns,λg=>?_,λg hg=>?_⟩
 .have:=a82 f y fs;omega
 .show aBA ((wR f y fs).lookup g) (if g=f then aj u else mA g);rw[a81];by_cases q:g=f
  .rw[if_pos q,if_pos q];exact ry
  .rw[if_neg q,if_neg q];exact r g
 .by_cases q:g=f
  .rw[q];exact(a6T f y fs).1
  .refine(a6T f y fs).2 g (wi g λz=>hg ?_);show(if g=f then aj u else mA g)=aq;rw[if_neg q];exact z
theorem Inv.made(I:Inv X pins σ H s):Inv X pins σ (upd (upd H s.heap.objs.size (.own (s.heap.objs.size+1))) (s.heap.objs.size+1) (.ins C s.heap.objs.size []))
  {s with heap:=(s.heap.push xq).push (zq C s.heap.objs.size)}:=by
 have e1:(s.heap.push xq).get? s.heap.objs.size=aj xq:=jd s.heap rfl
 have e2:((s.heap.push xq).push (zq C s.heap.objs.size)).get? (s.heap.objs.size+1)=aj (zq C s.heap.objs.size):=by
  have:=jd (s.heap.push xq) (o:=zq C s.heap.objs.size) rfl
  rwa [zj]at this
 have e3:(s.heap.push xq).Ns s.heap.objs.size (λ_=>aq):=⟨xq,#[],_,e1,rfl,(λe he=>absurd he (by simp)),λ_=>rfl⟩;have I1:=I.laid (a:=s.heap.objs.size) (o:=.own (s.heap.objs.size+1)) (h':=s.heap.push xq) (t':=s.toks) (λb u q=>dj _ q) (gw _) ⟨_,e1⟩;refine I1.laid (a:=s.heap.objs.size+1) (o:=.ins C s.heap.objs.size []) (t':=s.toks) (λb u q=>dj _ q) (a1o (zj _ _)) ?_;have ne:s.heap.objs.size≠s.heap.objs.size+1:=mq (Nat.lt_succ_self _);refine⟨by rw[bT ne,aP],yh _,ne,e2,λ_=>aq,(Heap.Ns1.of_empty e3).at λo q=>dj _ q,λ_=>True.intro,λy hy=>absurd rfl hy⟩
end
noncomputable def aVS(K:iw)(ta tv:TE)(f:Str):TS:=λD σ H=>tv σ H λy H1=>ta σ H1 λx H2=>∃a C dx fs,x=.ref a/\H2 a=aj (.ins C dx fs)/\Cls K C/\eV K C f/\fs.length<1000 /\
 D.nx σ (upd H2 a (.ins C dx (wR f y fs)))
section
variable{X:Cx}{pos:Pos}
theorem aHX(ha:PE X o ta)(hv:PE X value tv)(hs:a0s value (aj (.Attribute o f pos')) pos.line X.env=pure ao):PS X (.Assign [.Attribute o f pos'] value pos) (aVS X.K ta tv f):=by
 intro pins s σ H D I h;refine plainObj_wpAny_Assign_Attribute (eU (hv pins s σ H _ I h) λu s1 ⟨y,H1,I1,ry,q⟩=>eU (ha pins s1 σ H1 _ I1 q) ?_) hs;rintro ov s2 ⟨x,H2,I2,rx,a,C,dx,fs,ex,ea,c,n,l,q2⟩;subst ex;obtain rfl:ov=au.ref a:=rx;exact ao5 I2 ea c n l ry λs3 I3=>⟨σ,_,I3,q2⟩
end
section
end
end
variable{mg:Str->Option au}{base:jq}{outer:List Env}
section
structure mF(qt:Bool)(k:Nat)(A:qb):Prop where
 hd:qt=ao->A.handled=aq
 dp:A.depth+3*k+5<recursionLimit
 un:A.units+16*k+200<yd
variable{k:Nat}
theorem mF.mono{j:Nat}(r:mF qt k A)(h:j<=k):mF qt j A:=⟨r.hd,by have:=r.dp;omega,by have:=r.un;omega⟩
theorem mF.deeper(r:mF qt (k+1) A)(env:Env):mF qt k (A.deeper env) :=
 ⟨r.hd,by have:=r.dp;show A.depth+1+3*k+5<_;omega,by have:=r.un;show A.units+3+16*k+200<_;omega⟩
theorem ao6:(A.under (.builtin "type.__call__" ⟨.ref C::us,kw⟩)).depth=A.depth+1:=by
 first|rfl|simp[qb.under,Code.weight,Code.isCreation,Code.isGuard,Code.isCaller,Code.frames,Code.isFrame,guardIds]
theorem ao7:(A.under (.builtin "type.__call__" ⟨.ref C::us,kw⟩)).units=A.units+1:=by
 first|rfl|simp[qb.under,Code.cUnits,Code.frames,Code.isFrame]
theorem mF.make(r:mF qt (k+1) A)(C:bx)(us:List au)(kw:List (Str×au)):mF qt k (A.under (.builtin "type.__call__" ⟨.ref C::us,kw⟩)) :=
 ⟨r.hd,by have:=r.dp;rw[ao6];omega,by have:=r.un;rw[ao7];omega⟩
theorem mF.depth(r:mF qt k A):A.depth<recursionLimit:=by have:=r.dp;omega
theorem mF.units(r:mF qt k A):A.units+64<yd:=by have:=r.un;omega
noncomputable def aVT:TA:=λ_ H Q=>Q [] H
noncomputable def aPZ(ta:TE)(tr:TA):TA:=λσ H Q=>ta σ H λx H1=>tr σ H1 λxs H2=>Q (x::xs) H2
section
variable{X:Cx}{t:TA}
theorem aHY:PA X [] aVT:=λ_ _ _ _ H Q I h=>Calls.spliced_nil ⟨[],H,I,.nil,h⟩
theorem aBQ(ha:PE X e te)(hr:PA X es t)(hs:jm (e::es) X.env=(ao,eval e X.env)::jm es X.env:=by rfl):PA X (e::es) (aPZ te t):=by
 intro pos pins s σ H Q I h;rw[hs];show dh _ _ (spliced ((ao,eval e X.env)::yx pos (jm es X.env))) _ _ s;refine Calls.spliced_cons (eU (ha pins s σ H _ I h) ?_);rintro u s1 ⟨x,H1,I1,r1,q1⟩;exact eU (hr pos pins s1 σ H1 _ I1 q1) (by rintro us s2 ⟨xs,H2,I2,r2,q2⟩;exact⟨x::xs,H2,I2,.cons r1 r2,q2⟩)
noncomputable def aVU(t:TA):TE:=λσ H Q=>t σ H λxs H1=>xs.length<=cj/\∀p,H1 p=aq->Q (.ref p) (upd H1 p (.tup xs))
noncomputable def aVV(t:TA):TE:=λσ H Q=>t σ H λxs H1=>xs.length<=cj/\∀p,H1 p=aq->Q (.ref p) (upd H1 p (.lst xs))
theorem aHZ{x1}(h:PA X es t):PE X (.Tuple es x1 pos) (aVU t):=by
 intro pins s σ H Q I hq;refine wpAny_Tuple_spliced (eU (h pos pins s σ H _ I hq) λus s1 ⟨xs,H1,I1,r,z,q⟩=>⟨by rw[←r.length];exact z,?_⟩);have hf:H1 s1.heap.objs.size=aq:=I1.hok.fresh (gw _);refine⟨.ref s1.heap.objs.size,upd H1 s1.heap.objs.size (.tup xs),I1.laid (t':=s1.toks) (λb u e=>dj _ e) (gw _) ?_,rfl,q _ hf⟩;exact⟨z,us,r,⟨_,jd _ rfl,rfl,_,rfl⟩⟩
theorem aI0(h:PA X es t):PE X (.List es pos) (aVV t):=by
 intro pins s σ H Q I hq;refine wpAny_List_spliced (eU (h pos pins s σ H _ I hq) λus s1 ⟨xs,H1,I1,r,z,q⟩=>⟨by rw[←r.length];exact z,?_⟩);have hf:H1 s1.heap.objs.size=aq:=I1.hok.fresh (gw _);refine⟨.ref s1.heap.objs.size,upd H1 s1.heap.objs.size (.lst xs),I1.laid (t':=s1.toks) (λb u e=>dj _ e) (gw _) ?_,rfl,q _ hf⟩;exact⟨z,us,0,r,jd _ rfl⟩
end
abbrev Sp:=List V->Hp->VK->XK->Prop
abbrev CXT:=List Env->Hp->cg->XK->au->cg->Prop
structure ao8(P:lq)(w:jg)(K:iw)(mg:Str->Option au)(base:jq)(A:qb)(outer:List Env)(s:cg)(H:Hp):Prop where
 frames:A.frames=aj outer
 mod:Mod K mg base
 bs:∀b o,base.get? b=aj o->s.heap.get? b=aj o/\H b=aq
 bsz:base.objs.size<=s.heap.objs.size
 vR:s.heap.FunFrames base outer
 frf:∀b∈frs outer,H b=aq
 hok:HOk P w H s.heap
 bare:a1f s.gens
 hnd:Hnd A H
noncomputable def CE(outer:List Env)(P:lq)(w:jg)(H:Hp)(s:cg)(Q:VK)(u:au)(s':cg):Prop :=
 ∃v H',s'.os=s.os/\a1f s'.gens/\Un (frs outer) [] H H' s.heap s'.heap/\HOk P w H' s'.heap/\RelV v u/\Q v H'
noncomputable def CR(CX:CXT)(outer:List Env)(P:lq)(w:jg)(H:Hp)(s:cg)(Q:VK)(E:XK)(r:Result)(s':cg):Prop :=
 match r with
 |.ok (.ret u)=>CE outer P w H s Q u s'
 |.ok _=>False
 |.error e=>CX outer H s E e s'
structure bU(qt:Bool)(P:lq)(w:jg)(K:iw)(mg:Str->Option au)(base:jq)(CX:CXT)(k:Nat)(f:bx)(fd:jo)(ps:List Str)(sp:Sp):Prop where
 len:∀vs H Q E,sp vs H Q E->vs.length=ps.length
 run:∀(A:qb)(outer:List Env)(s:cg)(H:Hp)(args:Args)(us:List au)(vs:List V)(Q:VK)(E:XK),mF qt k A->ao8 P w K mg base A outer s H->BindsTo s fd args (ps.zip us)->Vals vs us->sp vs H Q E ->
  a0i (dz P w) A (.call (.ref f) args) (CR CX outer P w H s Q E) s
theorem bU.mono{w:jg}{K:iw}{mg:Str->Option au}{base:jq}{j k:Nat}(F:bU qt P w K mg base CX j f fd ps sp)(h:j<=k) :
  bU qt P w K mg base CX k f fd ps sp:=⟨F.len,λA outer s H args us vs Q E hr=>F.run A outer s H args us vs Q E (hr.mono h)⟩
theorem bU.imp{K:iw}(F:bU qt P w K mg base CX k f fd ps sp)
  (h:∀vs H Q E,sp' vs H Q E->sp vs H Q E):bU qt P w K mg base CX k f fd ps sp' :=
 ⟨λvs H Q E q=>F.len vs H Q E (h _ _ _ _ q),λA outer s H args us vs Q E hr he hb hv hs=>F.run A outer s H args us vs Q E hr he hb hv (h _ _ _ _ hs)⟩
theorem ao8.make{K:iw}(e:ao8 P w K mg base A outer s H)(C:bx)(us:List au)(kw:List (Str×au)) :
  ao8 P w K mg base (A.under (.builtin "type.__call__" ⟨.ref C::us,kw⟩)) outer s H:=⟨by first|exact e.frames|(simpa[qb.under,Code.envs,Code.isFrame,pushEnvs]using e.frames),e.mod,e.bs,e.bsz,e.vR,e.frf,e.hok,e.bare,e.hnd⟩
section
variable{X:Cx}{pins:List (bx×Obj)}
theorem Inv.env0(I:Inv X pins σ H s):ao8 X.prog X.w X.K X.mg X.base X.A X.stack s H :=
 ⟨I.ok.frames,I.ok.mod,I.bs,qj I.ok.bsz I.sz,I.stack,I.ahT,I.hok,I.bare,I.hnd⟩
end
noncomputable def Binds(K:iw)(fd:jo)(ps:List Str)(ds:List au):Prop :=
 ∀(s:cg)(us:List au),K.In s.heap->(us++ds).length=ps.length->BindsTo s fd ⟨us,[]⟩ (ps.zip (us++ds))
variable{ps:List Str}
theorem Binds.all{K:iw}(h:∀us:List au,us.length=ps.length->a0d fd ⟨us,[]⟩=pure (ps.zip us)):Binds K fd ps []:=λs us _ hl=>by
 rw[uh]at hl ⊢;exact .of_eq (h us hl)
section
variable{f C:bx}
structure Mk(K:iw)(C f:bx):Prop where
 makes:qw K C=ak
 init:dw K (.ref C) "__init__"=aj (aj (.ref f))
 fn:PySem.W.isFn K (.ref f)=ak
 kp:jy K (.ref C)=ak
end
section
end
structure aW(N P:List Str)(sc:yc):Prop where
 kind:sc.kind=.function
 co:sc.isCoroutine=ao
 gen:sc.isGenerator=ao
 nd:N.Nodup
 pre:N.take P.length=P
 par:∀x∈P,sc.names.lookup x=aj .local∨sc.names.lookup x=aj .cell
 aI1:∀y∈sc.names,y.2≠.free
theorem agI{kindOf:Str->Option wg}{x:Str}:∀{binds:List (Str×au)}{m:Str->Option au},(∀v,(x,v)∉binds)->bindL kindOf binds m x=m x
 |[],_,_=>rfl
 |(n,v)::r,m,h=>by
  unfold bindL;rw[agI λw hw=>h w (gb _ hw)];split
  ·have:x≠n:=by rintro rfl;exact h v iz
   simp[this]
  .rfl
theorem agJ{kindOf:Str->Option wg}{x:Str}:∀{binds:List (Str×au)}{m:Str->Option au},(∀v,(x,v)∉binds)->bindC kindOf binds m x=m x
 |[],_,_=>rfl
 |(n,v)::r,m,h=>by
  unfold bindC;rw[agJ λw hw=>h w (gb _ hw)];split
  ·rfl
  .have:x≠n:=by rintro rfl;exact h v iz
   simp[this]
theorem agK{kindOf:Str->Option wg}{x:Str}{v:au}:∀{P:List Str}{vs:List au}{i:Nat}{m:Str->Option au},P.Nodup->P[i]?=aj x->vs[i]?=aj v->kindOf x=aj .local ->
  bindL kindOf (P.zip vs) m x=aj v
 |[],_,_,_,_,h,_,_=>by simp at h
 |_::_,[],_,_,_,_,h,_=>by simp at h
 |p::P,w::vs,0,m,nd,h1,h2,hk=>by
  simp at h1 h2;subst h1;subst h2;show bindL kindOf ((p,w)::P.zip vs) m p=_;unfold bindL;rw[agI λv hv=>(yw.mp nd).1 (a2c hv).1,if_pos hk];simp
 |p::P,w::vs,i+1,m,nd,h1,h2,hk=>by
  show bindL kindOf ((p,w)::P.zip vs) m x=_;unfold bindL;exact agK (i:=i) (yw.mp nd).2 (by simpa using h1) (by simpa using h2) hk
theorem agL{kindOf:Str->Option wg}{x:Str}{v:au}:∀{P:List Str}{vs:List au}{i:Nat}{m:Str->Option au},P.Nodup->P[i]?=aj x->vs[i]?=aj v->kindOf x≠aj .local ->
  bindC kindOf (P.zip vs) m x=aj v
 |[],_,_,_,_,h,_,_=>by simp at h
 |_::_,[],_,_,_,_,h,_=>by simp at h
 |p::P,w::vs,0,m,nd,h1,h2,hk=>by
  simp at h1 h2;subst h1;subst h2;show bindC kindOf ((p,w)::P.zip vs) m p=_;unfold bindC;rw[agJ λv hv=>(yw.mp nd).1 (a2c hv).1,if_neg hk];simp
 |p::P,w::vs,i+1,m,nd,h1,h2,hk=>by
  show bindC kindOf ((p,w)::P.zip vs) m x=_;unfold bindC;exact agL (i:=i) (yw.mp nd).2 (by simpa using h1) (by simpa using h2) hk
noncomputable def start(N:List Str)(vs:List V):St:=vs.map aj++ji (N.length - vs.length) aq
noncomputable def jJ(qt:Bool)(CX:CXT)(P:lq)(w:jg)(K:iw)(mg:Str->Option au)(base:jq)(N:List Str)(qual:Str)(scope:yc)(f:bx)(cd:au)(A:qb)(outer:List Env)(s:cg)(H:Hp)(E:XK):Cx where
 prog:=P
 w:=w
 K:=K
 mg:=mg
 base:=base
 A:=A.deeper (envOfC qual scope s.heap.objs.size f cd)
 N:=N
 s₀:=s
 H₀:=H
 env:=envOfC qual scope s.heap.objs.size f cd
 outer:=outer
 stack:=envOfC qual scope s.heap.objs.size f cd::outer
 ex:=[]
 calm:=!qt
 fn:=λ_=>ak
 pn:=[]
 tp:=[]
 xe:=λe s'=>dh (dz P w) (A.deeper (envOfC qual scope s.heap.objs.size f cd)) (leaving (envOfC qual scope s.heap.objs.size f cd) e) (λ_ s''=>CX outer H s E e s'') (λe' s''=>CX outer H s E e' s'') s'
theorem al1{sc:yc}(h:sc.names.lookup x=aj .cell):∃c,(cellsFrom n sc.names []).lookup x=aj c:=by
 have q:=PySem.W.cellsFrom_some sc.names n [] (.inl h);exact Option.isSome_iff_exists.mp q
theorem atB{K:iw}{scope:yc}{cd:au}{s:cg}{vs:List V}
  (S:aW N ps scope)(hd:qt=ao->A.handled=aq)(e0:ao8 P w K mg base A outer s H)(hl:vs.length=ps.length)(r:Vals vs us)
  (x:InCallC s s.heap.objs.size (bindL (envOfC qual scope s.heap.objs.size f cd).kindOf (ps.zip us) λ_=>aq) (cellsFrom (s.heap.objs.size+1) scope.names []) (bindC (envOfC qual scope s.heap.objs.size f cd).kindOf (ps.zip us) λ_=>aq) s1) :
  Inv (jJ qt CX P w K mg base N qual scope f cd A outer s H E) [] (start N vs) H s1:=by
 have hpl:ps.length<=N.length:=by have:=congrArg wk S.pre;rw[pq]at this;omega
 obtain⟨h1,tk,rfl,hk⟩:=x.done;have noA:∀b:bx,b∉(jJ qt CX P w K mg base N qual scope f cd A outer s H E).ex:=λb z=>absurd (show b∈([]:List bx)from z) (by simp)
 refine⟨⟨e0.mod,S.kind,rfl,rfl,gw _,λy z c h1 h2=>?_,λy hy=>?_,λy c _ h=>?_,λz=>hd (by cases qt with|false=>rfl|true=>cases z),qb.frames_deeper e0.frames,.inr ⟨rfl,rfl⟩,λb z=>absurd z (noA b),e0.bs,e0.bsz,λb _ _=>noA b,λb z=>absurd z (noA b),e0.vR,e0.frf⟩,
  rfl,e0.bare,Un.kept hk,⟨_,x.toInCall.ns,λi y v h1 h2 h3=>?_⟩,λy c h=>⟨_,x.cell y c h⟩,e0.hok.fresh (gw _),λy c h=>?_,λp hp=>absurd (show p∈([]:List (bx×Obj))from hp) (by simp),e0.hok.kept hk,?_,e0.hnd,λp hp=>absurd (show p∈([]:List (bx×List V))from hp) (by simp)⟩
 .exact name_of_addr x.apart (PySem.mem_of_lookup h1) (PySem.mem_of_lookup h2)
 .have hy:scope.names.lookup y=aj .cell∨scope.names.lookup y=aj .free:=hy;rcases hy with hy|hy
  .exact al1 hy
  .exact absurd rfl (S.aI1 _ (PySem.mem_of_lookup hy))
 .exact a0z (x.above y c (PySem.mem_of_lookup h))
 .have hi:i<vs.length:=by
   unfold start at h2;by_cases hi:i<vs.length
   .exact hi
   .rw[zc (by simpa using hi)]at h2;rw[List.getElem?_replicate]at h2;split at h2<;>cases h2
  have ha:vs[i]?=aj v:=by
   unfold start at h2;rw[a0g (by simpa using hi),zx]at h2;cases e:vs[i]? with
   |none=>rw[e]at h2;cases h2
   |some a=>rw[e]at h2;cases h2;rfl
  obtain⟨u,hu,rv⟩:=r.get ha
  have hp:ps[i]?=aj y:=by
   rw[←S.pre,List.getElem?_take_of_lt (by omega)];exact h1
  have ndP:ps.Nodup:=by rw[←S.pre];exact S.nd.sublist (a0x _ _)
  refine⟨u,rv,?_⟩;rcases S.par y (uc hp)with k|k
  .exact .inl ⟨k,agK ndP hp hu k⟩
  .obtain⟨c,e⟩:=al1 (n:=s.heap.objs.size+1) k;refine .inr ⟨.inl k,c,e,?_⟩;have q:=x.cell y c e;rw[agL ndP hp hu (by show scope.names.lookup y≠_;rw[k];decide)]at q;exact q
 .exact e0.hok.fresh (a0z (x.above y c (PySem.mem_of_lookup h)))
 .unfold start;show _=N.length;rw[je,dg,xu];omega
set_option tactic.hygienic true in
theorem aQ1{K:iw}{kV ct:au}{an:Option bx}(lk:K.lookup f=aj ⟨oc,od,.func (uo name qual params body scope dV kV doc pm an cdv ct),osl⟩)(hcd:a1q K cdv qual=ak)(S:aW N ps scope)
  (len:∀vs H Q E,sp vs H Q E->vs.length=ps.length)
  (hbody:∀(A:qb)(outer:List Env)(s:cg)(H:Hp)(vs:List V)(Q:VK)(E:XK),mF qt k (A.deeper (envOfC qual scope s.heap.objs.size f cdv))->sp vs H Q E ->
   ∃t,PSs (jJ qt CX P w K mg base N qual scope f cdv A outer s H E) body t/\t {nx:=λ_ H'=>Q .non H',rt:=Q} (start N vs) H) :
  bU qt P w K mg base CX (k+1) f (uo name qual params body scope dV kV doc pm an cdv ct) ps sp:=by
 refine⟨len,λA outer s H args us vs Q E hr e0 hb r hsp=>?_⟩;have hl:=len _ _ _ _ hsp;have KX:K.In s.heap:=e0.mod.kin.keeps λb o e=>(e0.bs b o e).1;have lim:s.heap.NoLimit:=e0.mod.nolimit.keeps λb o e=>(e0.bs b o e).1
 have hkind:∀y∈ps.zip us,scope.names.lookup y.1=aj .local∨(scope.names.lookup y.1=aj .cell/\((cellsFrom (s.heap.objs.size+1) scope.names []).lookup y.1).isSome=ak):=λ⟨n,v⟩ hy=>by
  rcases S.par n (a2c hy).1 with q|q
  .exact .inl q
  .exact .inr ⟨q,PySem.W.cellsFrom_some _ _ _ (.inl q)⟩
 refine codeAny_call_function hr.depth (KX _ _ lk) rfl S.co S.gen rfl (PySem.W.codeRec_of KX hcd) (hb _ _ _ _ ?_);refine wpAny_newFunctionEnv_cells S.kind hkind λenv he s1 x=>?_;subst he;refine⟨lim.keeps x.toInCall.keep,codeAny_func ?_⟩;obtain⟨t,ht,hq⟩:=hbody A outer s H vs Q E (hr.deeper _) hsp;have I:Inv (jJ qt CX P w K mg base N qual scope f cdv A outer s H E) [] (start N vs) H s1:=atB S hr.hd e0 hl r x;refine kj (ht [] s1 (start N vs) H _ I hq) (λfl s' hs=>?_) λe s' hs=>hs
 have fin:∀{σ':St}{H':Hp}{v:V}{u:au},Inv (jJ qt CX P w K mg base N qual scope f cdv A outer s H E) [] σ' H' s'->RelV v u->Q v H'->CE outer P w H s Q u s' :=
  λ{σ' H' v u} J rv q=>⟨v,H',J.os,J.bare,J.base,J.hok,rv,q⟩
 cases fl with
 |ret u =>
  obtain⟨v,σ',H',J,rv,q⟩:=hs;exact fin J rv q
 |next =>
  obtain⟨σ',H',J,q⟩:=hs;exact fin (v:=V.non) (u:=Value.none) J rfl q
 |brk =>
  obtain⟨_,_,_,q⟩:=hs;exact False.elim q
 |cont =>
  obtain⟨_,_,_,q⟩:=hs;exact False.elim q
end
section
section
end
end
section
section
variable{κ:Type}[DecidableEq κ]
end
theorem aw9(r:RelV (kV k) u):(kZ P w).is k u=ak:=by
 cases k with
 |inl i=>obtain⟨t,e⟩:=(show ∃t,u=au.int i t from r);subst e;exact akY P w i t
 |inr x=>obtain⟨t,e⟩:=(show ∃t,u=au.str x t from r);subst e;exact akZ P w x t
section
end
section
end
section
end
def aQ2(i:jt):Prop:=∀ov iv,subscripted i ao ov iv=operate [ov,iv] (getItem ov iv)
theorem aBR{prog:lq}{E:au->cg->Prop}{env:Env}{T id:String}{Q:au->cg->Prop}
  (hl:typeLookup (.type T) "__getitem__"=pure (aj (.builtin id)))(hs:aQ2 slice)
  (h:dh (dz prog w) A (eval value env) (λo s₁=>dh (dz prog w) A (eval slice env) (λi s₂=>s₂.TypeIs o T/\dh (dz prog w) A (getItem o i) Q E s₂) E s₁) E s) :
  dh (dz prog w) A (eval (.Subscript value slice pos) env) Q E s:=by
 refine Subscript_ (kj h (λo s₁ h₁=>kj h₁ (λi s₂ h₂=>?_) λ_ _ x=>x) λ_ _ x=>x);obtain⟨hT,h₂⟩:=h₂;unfold subscriptTail;refine bw ?_;rw[getitemInPython_of_ne hT.not_modules];refine bw (wpAny_specialOf hT hl ?_)
 have fin:dh (dz prog w) A (subscripted slice ao o i) (λr s₃=>dh (dz prog w) A (letTemporaryGo value o r >>= λ_=>pure r) Q E s₃) E s₂:=by
  rw[hs o i];exact wpAny_operating (kj h₂ (λr s₃ h₃=>bw (wpAny_letTemporaryGo (gV h₃))) λ_ _ x=>x)
 first
  |exact gV (bw fin)
  |exact bw (gV (bw fin))
  |exact bw fin
section
end
section
end
section
end
section
end
section
end
section
end
end
end L2
namespace HT
open PySem PyProof.Rows
section
open PySem.SeqAt
open PySem.AutoSeq1 (wpAny_loadPart')
open PySem.MeetsSeq PySem.MeetsSeq2 PySem.MeetsSeq3
end
variable{Q:au->cg->Prop}{sl:bx}
section
variable{prog:lq}{w:jg}{A:qb}{E:au->cg->Prop}{s:cg}
theorem aBS{b:bx}{vs ws:List au}(ht:IsTup s.heap t vs.toArray)(hb:IsTup s.heap b ws.toArray)(hv:vs≠[])
  (h1:ws=[]->Q (.ref t) s)(h2:ws≠[]->Q (.ref s.heap.objs.size) {s with heap:=s.heap.push {cls:=.type "tuple",data:=.seq (vs++ws).toArray}})
  (hsz:vs.length+ws.length<=cj):dh (dz prog w) A (vp .Add (.ref t) (.ref b)) Q E s:=by
 obtain⟨⟨cls,dd,data,sl⟩,ho,hc,n,hd⟩:=id ht;obtain⟨⟨cls2,dd2,data2,sl2⟩,ho2,hc2,n2,hd2⟩:=id hb;simp only at hc hd hc2 hd2;subst hc hd hc2 hd2;have e:vs.toArray++ws.toArray=(vs++ws).toArray:=by simp
 by_cases hw:ws=[]
 .exact concat_meets ⟨_,ho,rfl⟩ ⟨_,ho2,rfl⟩ noFill_tuple_add seq_tuple_add PySem.F.slot_tuple_add PySem.F.entry_tuple_add (PySem.F.args_tuple_add_2 _ _)
   (tuple_addW1 t b vs.toArray ws.toArray n n2 dd dd2 sl sl2 (by simpa using hv) (by simp[hw])) ⟨ho,ho2,h1 hw⟩
 .refine concat_meets ⟨_,ho,rfl⟩ ⟨_,ho2,rfl⟩ noFill_tuple_add seq_tuple_add PySem.F.slot_tuple_add PySem.F.entry_tuple_add (PySem.F.args_tuple_add_2 _ _)
   (tuple_addW2 t b vs.toArray ws.toArray n n2 dd dd2 sl sl2 (by simpa using hv) (by simpa using hw) (by rw[fj,fj];exact hsz)) ⟨ho,ho2,?_⟩
  rw[e];exact h2 hw
noncomputable def mD(n d:Nat):Option Int->Nat
 |none=>d
 |some v=>if v<0 then(v+(n:Int)).toNat else min v.toNat n
theorem ac5(n d:Nat):mD n d aq=d:=rfl
theorem ahX(n d k:Nat):mD n d (aj (k:Int))=min k n:=by
 show(if(k:Int)<0 then((k:Int)+(n:Int)).toNat else min (k:Int).toNat n)=min k n;rw[if_neg (by omega),wu]
theorem aI2(n d:Nat)(hd:d<=n)(o:Option Int):mD n d o<=n:=by
 cases o with
 |none=>exact hd
 |some v =>
  show(if v<0 then(v+(n:Int)).toNat else min v.toNat n)<=n;by_cases hv:v<0
  .rw[if_pos hv];omega
  .rw[if_neg hv];exact Nat.min_le_right _ _
theorem aqI(v:Int)(n d:Nat):(if v<0 then max (v+(n:Int)) 0 else min v (n:Int))=((mD n d (aj v):Nat):Int):=by
 show(if v<0 then max (v+(n:Int)) 0 else min v (n:Int))=(((if v<0 then(v+(n:Int)).toNat else min v.toNat n):Nat):Int);by_cases hv:v<0
 .simp only[if_pos hv];omega
 .simp only[if_neg hv];omega
theorem ao9(lo hi:Option Int)(n:Nat):Builtin.Slice.sliceAdjust lo hi 1 (n:Int)=(((mD n 0 lo:Nat):Int),((mD n n hi:Nat):Int)):=by
 have h1:¬ ((1:Int)<0):=by omega
 unfold Builtin.Slice.sliceAdjust;simp only[h1,if_false];refine Prod.ext ?_ ?_
 .cases lo with
  |none=>rfl
  |some v=>exact aqI v n 0
 .cases hi with
  |none=>rfl
  |some v=>exact aqI v n n
theorem aoA(i j:Nat):Builtin.Slice.slicePlaces (i:Int) (j:Int) 1=j - i:=by
 unfold Builtin.Slice.slicePlaces;have h1:(1:Int)>0:=by omega
 simp only[h1,if_true,Int.ediv_one];split<;>omega
theorem ac6{Q:Option Int->cg->Prop}(p:IsPart v o)(h:Q o s):dh (dz prog w) A (Builtin.Slice.slicePartIndex v) Q E s:=by
 cases p with
 |none=>exact slicePart_none h
 |int i t=>exact slicePart_int h
theorem a6U{vl vu:au}{lo hi:Option Int}{n:Nat}{Q:Int×Int×Nat->cg->Prop}(hs:s.heap.IsSliceOf sl vl vu .none)(pl:IsPart vl lo)(pu:IsPart vu hi)
  (h:Q (((mD n 0 lo:Nat):Int),1,mD n n hi - mD n 0 lo) s):dh (dz prog w) A (Builtin.Slice.sliceApplied (.ref sl) (pure (n:Int))) Q E s:=by
 obtain⟨os,hos,hcs,hds⟩:=id hs;unfold Builtin.Slice.sliceApplied Builtin.Slice.sliceFields;refine bw (bw (jx hos hds (x:=vl) rfl (bw (jx hos hds (x:=vu) rfl (bw (jx hos hds (x:=.none) rfl (gV ?_)))))));refine bw (slicePart_none ?_);show dh _ _ (if((1:Int)==0)=ak then _ else _) _ _ s;rw[if_neg (by decide)];refine bw (ac6 pl (bw (ac6 pu (bw (gV ?_)))));show dh _ _ (match Builtin.Slice.sliceAdjust lo hi 1 (n:Int)with|(lo,hi)=>pure (lo,(1:Int),Builtin.Slice.slicePlaces lo hi 1)) _ _ s;rw[ao9 lo hi n];show dh _ _ (pure (((mD n 0 lo:Nat):Int),(1:Int),Builtin.Slice.slicePlaces ((mD n 0 lo:Nat):Int) ((mD n n hi:Nat):Int) 1)) _ _ s;rw[aoA];exact gV h
theorem awA(xs:Array au)(i k:Nat):((kh k).filterMap λ(m:Nat)=>xs[((i:Int)+(m:Int)*1).toNat]?).toArray=((xs.toList.drop i).take k).toArray:=by
 have e:(λ(m:Nat)=>xs[((i:Int)+(m:Int)*1).toNat]?)=λm=>xs[i+m]?:=by
  funext m;have:((i:Int)+(m:Int)*1).toNat=i+m:=by omega
  rw[this]
 rw[e];have:=pick_run xs i k;rw[List.filterMap_map]at this;have e2:((λx=>xs[x]?)∘λx=>i+x)=λm=>xs[i+m]?:=rfl;rw[e2]at this;rw[this]
theorem a4V{t:bx}{items:Array au}{vl vu:au}{lo hi:Option Int}(ht:IsTup s.heap t items)(hs:s.heap.IsSliceOf sl vl vu .none)(pl:IsPart vl lo)(pu:IsPart vu hi)
  (hw:¬ (mD items.size 0 lo=0/\mD items.size items.size hi=items.size))
  (h:Q (.ref s.heap.objs.size) {s with heap:=s.heap.push {cls:=.type "tuple",data:=.seq ((items.toList.drop (mD items.size 0 lo)).take (mD items.size items.size hi - mD items.size 0 lo)).toArray}})
  (hsz:items.size<=cj):dh (dz prog w) A (getItem (.ref t) (.ref sl)) Q E s:=by
 have aqJ:sizeOk (.seq ((items.toList.drop (mD items.size 0 lo)).take (mD items.size items.size hi - mD items.size 0 lo)).toArray):=by
  show((items.toList.drop (mD items.size 0 lo)).take (mD items.size items.size hi - mD items.size 0 lo)).toArray.size<=cj;rw[fj,pq,uq,a2h];omega
 have hj:mD items.size items.size hi<=items.size:=aI2 _ _ (gw _) hi;obtain⟨os,hos,hcs,hds⟩:=id hs;have hTs:s.TypeIs (.ref sl) "slice":=⟨os,hos,hcs⟩;unfold getItem
 try with_reducible refine za ?_
 first|refine bw (gV ?_)|skip
 refine bw (wpAny_sequenceKey ht.typeIs (by decide) ?_)
 refine bw (yt (name:=Str.ofString "__getitem__") ht.typeIs PyProof.Rows.slot_tuple_getitem
  (a0j PyProof.Rows.slot_tuple_getitem ht.typeIs entry_tuple_getitem ?_ (args_tuple_getitem _ _)))
 show dh _ _ (Builtin.Tuple.tupleItemsOf (.ref t) >>= _) _ _ s;refine bw (tupleItemsOf_ ht ?_);refine bw (wpAny_typeOf hTs ?_);rw[if_pos (by decide)];refine bw (a6U hs pl pu ?_)
 have hno:¬ ((((mD items.size 0 lo:Nat):Int)==0&&(1:Int)==1&&(mD items.size items.size hi - mD items.size 0 lo)==items.size)=ak):=by
  intro q;rw[bh,bh]at q;have q1:((mD items.size 0 lo:Nat):Int)=0:=eq_of_beq q.1.1;have q2:mD items.size items.size hi - mD items.size 0 lo=items.size:=eq_of_beq q.2;exact hw ⟨by omega,by omega⟩
 show dh _ _ (if(((mD items.size 0 lo:Nat):Int)==0&&(1:Int)==1&&(mD items.size items.size hi - mD items.size 0 lo)==items.size)=ak then _ else _) _ _ s;rw[if_neg hno,awA]
 first
  |exact bw (m:=Builtin.Tuple.tupleExact _) (uw (gV ⟨_,rfl,gV h⟩) aqJ)
  |exact bw (m:=Builtin.Tuple.tupleExact _) (uw (bw (gV (gV ⟨_,rfl,gV h⟩))) aqJ)
  |exact bw (bw (m:=Builtin.Tuple.tupleExact _) (uw (gV (gV ⟨_,rfl,gV h⟩)) aqJ))
  |exact bw (bw (m:=Builtin.Tuple.tupleExact _) (uw (gV ⟨_,rfl,gV h⟩) aqJ))
end
end HT
namespace L2
open PySem PySem.Spec PyProof.Rows
section
abbrev TO:=St->Hp->(Option Int->Hp->Prop)->Prop
noncomputable def PO(X:Cx)(e:Option jt)(t:TO):Prop :=
 ∀(pins:List (bx×Obj))(s:cg)(σ:St)(H:Hp)(Q:Option Int->Hp->Prop),Inv X pins σ H s->t σ H Q ->
  dh (dz X.prog X.w) X.A (evalPart e X.env) (λu s'=>∃o H',Inv X pins σ H' s'/\IsPart u o/\Q o H') X.xe s
noncomputable def aBT:TO:=λ_ H Q=>Q aq H
noncomputable def aQ3(t:TE):TO:=λσ H Q=>t σ H λx H1=>∃i,x=.int i/\Q (aj i) H1
variable{r:V->Option Int->Option Int->Hp->VK->Prop}
section
variable{X:Cx}{te:TE}{lo hi:Option jt}{tl th:TO}{p2:Pos}
theorem aBU:PO X aq aBT:=by
 intro pins s σ H Q I h;rw[evalPart_none];exact gV ⟨aq,H,I,.none,h⟩
theorem aBV(h:PE X e te):PO X (aj e) (aQ3 te):=by
 intro pins s σ H Q I hw;rw[evalPart_some];refine eU (h pins s σ H _ I hw) ?_;rintro u s1 ⟨x,H1,I1,r1,q1⟩;obtain⟨i,rfl,q⟩:=q1;obtain⟨t,rfl⟩:=r1;exact⟨aj i,H1,I1,.int i t,q⟩
noncomputable def SlR(X:Cx)(r:V->Option Int->Option Int->Hp->VK->Prop):Prop :=
 ∀(pins:List (bx×Obj))(s:cg)(σ:St)(H:Hp)(x:V)(v vl vu:au)(lo hi:Option Int)(sl:bx)(Q:VK),Inv X pins σ H s->RelV x v->s.heap.IsSliceOf sl vl vu .none->IsPart vl lo->IsPart vu hi->r x lo hi H Q ->
  ∃T id,typeLookup (.type T) "__getitem__"=pure (aj (.builtin id))/\s.TypeIs v T/\dh (dz X.prog X.w) X.A (getItem v (.ref sl)) (EP X pins σ Q) X.xe s
theorem SlR.or{r':V->Option Int->Option Int->Hp->VK->Prop}(h:SlR X r)(h':SlR X r'):SlR X (λx lo hi H Q=>r x lo hi H Q∨r' x lo hi H Q):=by
 intro pins s σ H x v vl vu lo hi sl Q I rx hs pl pu q;rcases q with q|q
 .exact h pins s σ H x v vl vu lo hi sl Q I rx hs pl pu q
 .exact h' pins s σ H x v vl vu lo hi sl Q I rx hs pl pu q
noncomputable def tSl(r:V->Option Int->Option Int->Hp->VK->Prop)(te:TE)(tl th:TO):TE:=λσ H Q=>te σ H λx H1=>tl σ H1 λl H2=>th σ H2 λu H3=>r x l u H3 Q
theorem awB(hr:SlR X r)(he:PE X e te)(hl:PO X lo tl)(hu:PO X hi th):PE X (.Subscript e (.Slice lo hi aq p2) pos) (tSl r te tl th):=by
 intro pins s σ H Q I h;refine Subscript_ (eU (he pins s σ H _ I h) ?_);rintro v s1 ⟨x,H1,I1,r1,q1⟩;refine wpAny_Slice (eU (hl pins s1 σ H1 _ I1 q1) λvl s2 ⟨l,H2,I2,pl,q2⟩=>eU (hu pins s2 σ H2 _ I2 q2) ?_);rintro vu s3 ⟨u,H3,I3,pu,q3⟩;rw[evalPart_none];refine gV ?_;have I4:Inv X pins σ H3 {s3 with heap:=s3.heap.push {cls:=.type "slice",data:=.fields #[vl,vu,.none]}}:=I3.kept (t':=s3.toks) λb ob q=>dj _ q;obtain⟨T,id,hT,ht,hg⟩:=hr pins {s3 with heap:=s3.heap.push {cls:=.type "slice",data:=.fields #[vl,vu,.none]}} σ H3 x v vl vu l u s3.heap.objs.size Q I4 r1 (Heap.IsSliceOf.new ..) pl pu q3;show dh (dz X.prog X.w) X.A (subscriptTail e (.Slice lo hi aq p2) v (.ref s3.heap.objs.size)) (EP X pins σ Q) X.xe {s3 with heap:=s3.heap.push {cls:=.type "slice",data:=.fields #[vl,vu,.none]}};exact tail_any (ops:=[.ref s3.heap.objs.size,v]) ht hT hg (by with_unfolding_all rfl)
noncomputable def af4(xs:List V)(lo hi:Option Int):List V:=(xs.drop (HT.mD xs.length 0 lo)).take (HT.mD xs.length xs.length hi - HT.mD xs.length 0 lo)
theorem a84(xs:List V)(lo hi:Option Int):(af4 xs lo hi).length<=xs.length:=by
 unfold af4;rw[pq,uq];omega
noncomputable def aVW(K:iw):V->Option Int->Option Int->Hp->VK->Prop:=λx lo hi H Q=>∃a xs,x=.ref a/\zL K H a xs /\
 ¬ (HT.mD xs.length 0 lo=0/\HT.mD xs.length xs.length hi=xs.length)/\∀p,H p=aq->Q (.ref p) (upd H p (.tup (af4 xs lo hi)))
theorem aI3:SlR X (aVW X.K):=by
 intro pins s σ H x v vl vu lo hi sl Q I rx hs pl pu h;obtain⟨a,xs,rfl,hx,hw,q⟩:=h;cases rx;obtain⟨its,r,ht,hz⟩:=I.tuple hx;have hlen:its.toArray.size=xs.length:=by rw[fj];exact r.length.symm
 refine⟨"tuple",_,PyProof.Rows.slot_tuple_getitem.lookup,ht.typeIs,?_⟩;refine HT.a4V ht hs pl pu (by rw[hlen];exact hw) ?_ (by rw[hlen];exact hz);rw[hlen];refine⟨.ref s.heap.objs.size,_,I.laid (t':=s.toks) (o:=.tup (af4 xs lo hi)) (λb ob q=>dj _ q) (gw _) ?_,rfl,q _ (I.hok.fresh (gw _))⟩;exact⟨qj (a84 xs lo hi) hz,_,(r.drop (HT.mD xs.length 0 lo)).take (HT.mD xs.length xs.length hi - HT.mD xs.length 0 lo),IsTup.new _ _⟩
noncomputable def aQ4(K:iw):R2:=λx y H Q=>∃a b xs ys,x=.ref a/\y=.ref b/\zL K H a xs/\zL K H b ys/\xs≠[]/\xs.length+ys.length<=cj /\
 (ys=[]->Q (.ref a) H)/\(ys≠[]->∀p,H p=aq->Q (.ref p) (upd H p (.tup (xs++ys))))
theorem Vals.a4W(r:Vals xs us):us=[]↔xs=[]:=by
 cases r with
 |nil=>simp
 |cons _ _=>simp
theorem aBW:zG X (vp .Add) (aQ4 X.K):=by
 intro pins s σ H x y v u Q I rx ry h;obtain⟨a,b,xs,ys,rfl,rfl,ha,hb,hx,hz,q1,q2⟩:=h;cases rx;cases ry;obtain⟨its,r1,p1,_⟩:=I.tuple ha;obtain⟨its2,r2,p2,_⟩:=I.tuple hb;refine HT.aBS p1 p2 (λz=>hx (r1.a4W.mp z)) (λz=>⟨.ref a,H,I,rfl,q1 (r2.a4W.mp z)⟩) (λz=>?_) (by rw[←r1.length,←r2.length];exact hz);refine⟨.ref s.heap.objs.size,_,I.laid (t':=s.toks) (o:=.tup (xs++ys)) (λb ob q=>dj _ q) (gw _) ?_,rfl,q2 (λw=>z (r2.a4W.mpr w)) _ (I.hok.fresh (gw _))⟩;exact⟨by rw[je];exact hz,_,r1.append r2,IsTup.new _ _⟩
end
end
variable{n:Nat}{i:Int}{pins:List (bx×Obj)}{its its':List au}{x:V}
section
noncomputable def ixN(n:Nat)(i:Int):Option Nat:=if 0<=i then(if i<n then aj i.toNat else aq)else if -(n:Int)<=i then aj (i+n).toNat else aq
noncomputable def atI{α:Type}(xs:List α)(i:Int):Option α:=(ixN xs.length i).bind λj=>xs[j]?
theorem aqL{j:Nat}(h:ixN n i=aj j):seqIndex? i n=aj j/\j<n/\-(n:Int)<=i/\i<n:=by
 unfold ixN at h;by_cases h0:0<=i
 .rw[if_pos h0]at h;by_cases h1:i<n
  .rw[if_pos h1]at h;have e:i.toNat=j:=mz.inj h;exact⟨by rw[seqIndex_of h0 h1,e],by omega,by omega,h1⟩
  .rw[if_neg h1]at h;cases h
 .rw[if_neg h0]at h;by_cases h1:-(n:Int)<=i
  .rw[if_pos h1]at h;have e:(i+n).toNat=j:=mz.inj h;exact⟨by rw[seqIndex_neg (by omega) h1,e],by omega,h1,by omega⟩
  .rw[if_neg h1]at h;cases h
theorem ahY{α:Type}{xs:List α}{v:α}(h:atI xs i=aj v):∃j,seqIndex? i xs.length=aj j/\xs[j]?=aj v/\j<xs.length/\-(xs.length:Int)<=i/\i<xs.length:=by
 unfold atI at h;cases e:ixN xs.length i with
 |none=>rw[e]at h;cases h
 |some j =>
  rw[e]at h;obtain⟨h1,h2,h3,h4⟩:=aqL e;exact⟨j,h1,h,h2,h3,h4⟩
def ahZ(b:jt):Prop:=∀o i,subscripted b ao o i=operate [o,i] (getItem o i)
noncomputable def IxR(X:Cx)(r:R2):Prop :=
 ∀(value slice:jt)(pins:List (bx×Obj))(s:cg)(σ:St)(H:Hp)(x y:V)(v u:au)(Q:VK),Inv X pins σ H s->RelV x v->RelV y u->r x y H Q ->
  subscripted slice ao v u=operate [v,u] (getItem v u)->dh (dz X.prog X.w) X.A (subscriptTail value slice v u) (EP X pins σ Q) X.xe s
noncomputable def MtR(X:Cx)(id:String)(r:V->List V->Hp->VK->Prop):Prop :=
 ∀(pins:List (bx×Obj))(s:cg)(σ:St)(H:Hp)(x:V)(xs:List V)(v:au)(us:List au)(Q:VK),Inv X pins σ H s->RelV x v->Vals xs us->r x xs H Q ->
  dh (dz X.prog X.w) X.A (call (.builtin id) (v::us)) (EP X pins σ Q) X.xe s
section
variable{X:Cx}{a b:jt}
theorem IxR.or(h:IxR X r)(h':IxR X r'):IxR X (λx y H Q=>r x y H Q∨r' x y H Q):=by
 intro value slice pins s σ H x y v u Q I rx ry q hs;rcases q with q|q
 .exact h value slice pins s σ H x y v u Q I rx ry q hs
 .exact h' value slice pins s σ H x y v u Q I rx ry q hs
theorem aQ5(hr:IxR X r)(ha:PE X a ta)(hb:PE X b tb)(hs:ahZ b):PE X (.Subscript a b pos) (tOp r ta tb):=by
 intro pins s σ H Q I h;exact Subscript_ (aHN ha hb I h λv u s2 x y H2 I2 rx ry q=>hr a b pins s2 σ H2 x y v u Q I2 rx ry q (hs _ _))
noncomputable def aQ6(K:iw):R2:=λx y H Q=>∃p xs i v,x=.ref p/\y=.int i/\zN K H p xs/\atI xs i=aj v/\Q v H
noncomputable def aQ7(K:iw):R2:=λx y H Q=>∃p xs i v,x=.ref p/\y=.int i/\zL K H p xs/\atI xs i=aj v/\Q v H
noncomputable def aQ8:R2:=λx y H Q=>∃z i c,x=.str z/\y=.int i/\z.length<=cj/\atI z.cps.toList i=aj c/\Q (.str ⟨#[c]⟩) H
theorem aBY:IxR X (aQ6 X.K):=by
 intro value slice pins s σ H x y v u Q I rx ry h hs;obtain⟨p,xs,i,z,rfl,rfl,hq,he,q⟩:=h;cases rx;obtain⟨t,rfl⟩:=ry;obtain⟨its,r,pl,hz⟩:=I.list hq;obtain⟨j,h1,h2,h3,h4,h5⟩:=ahY he;obtain⟨w,ew,rw'⟩:=r.get h2;have hl:=r.length;have hn:=a6S;have fin:EP X pins σ Q w s:=⟨z,H,I,rw',q⟩;by_cases h0:0<=i
 .have hj:i.toNat=j:=by
   rw[seqIndex_of h0 h5]at h1;exact mz.inj h1
  exact item_listR pl.isList h0 (by omega) (by rw[hj];simpa using ew) fin hs
 .have hj:(i+(its.toArray.size:Int)).toNat=j:=by
   rw[seqIndex_neg (by omega) h4]at h1;rw[fj,←hl];exact mz.inj h1
  exact subscriptTail_builtinR (x:=w) pl.isList.typeIs slot_list_getitem.lookup
   (wpAny_getItem_list_neg (Q:=λr s'=>r=w/\EP X pins σ Q r s') pl.isList (by omega) (by rw[fj]<;>omega) (by omega) (by rw[hj];simpa using ew) ⟨rfl,fin⟩) hs
theorem aI4:IxR X (aQ7 X.K):=by
 intro value slice pins s σ H x y v u Q I rx ry h hs;obtain⟨p,xs,i,z,rfl,rfl,hq,he,q⟩:=h;cases rx;obtain⟨t,rfl⟩:=ry;obtain⟨its,r,pl,hz⟩:=I.tuple hq;obtain⟨j,h1,h2,h3,h4,h5⟩:=ahY he;obtain⟨w,ew,rw'⟩:=r.get h2;have hl:=r.length;have hn:=a6S;have fin:EP X pins σ Q w s:=⟨z,H,I,rw',q⟩
 exact subscriptTail_builtinR (x:=w) pl.typeIs slot_tuple_getitem.lookup
  (getItem_tuple (j:=j) (Q:=λr s'=>r=w/\EP X pins σ Q r s') pl (by omega) (by omega) (by rw[fj,←hl];exact h1) (by simpa using ew) ⟨rfl,fin⟩) hs
theorem aI5:IxR X aQ8:=by
 intro value slice pins s σ H x y v u Q I rx ry h hs;obtain⟨z,i,c,rfl,rfl,hz,he,q⟩:=h;obtain⟨t,rfl⟩:=rx;obtain⟨t',rfl⟩:=ry;obtain⟨j,h1,h2,h3,h4,h5⟩:=ahY he;have hl:z.cps.toList.length=z.length:=by simp[Str.length]
 rw[hl]at h1 h4 h5;have hn:=a6S
 exact tail_any (typeIs_str s z t) slot_str_getitem.lookup (getItem_str (c:=c) (by
  have e1:decide (i< -(2^63:Int))=ao:=decide_eq_false (by omega);have e2:decide (i≥2^63)=ao:=decide_eq_false (by omega);rw[e1,e2,Bool.or_false]) (by rw[h1];simpa using h2) ⟨.str ⟨#[c]⟩,H,I.tok _,⟨_,rfl⟩,q⟩) hs
noncomputable def rIx(K:iw):R2:=λx y H Q=>aQ6 K x y H Q∨aQ7 K x y H Q∨aQ8 x y H Q
theorem aI6:IxR X (rIx X.K):=aBY.or (aI4.or aI5)
theorem aoB(its:List au)(n j:Nat)(u:au):Obj.mapSeq (·.setIfInBounds j u) {cls:=.type "list",data:=.seq its.toArray n}={cls:=.type "list",data:=.seq (its.set j u).toArray n}:=by
 simp[Obj.mapSeq]
theorem Inv.lst{s:cg}{xs:List V}(I:Inv X pins σ H s)(h:H p=aj (.lst xs)) :
  ∃(its:List au)(n:Nat),Vals xs its/\s.heap.get? p=aj {cls:=.type "list",data:=.seq its.toArray n}/\xs.length<=cj:=by
 obtain⟨z,its,n,r,e⟩:=I.hok p _ h;exact⟨its,n,r,e,z⟩
theorem Inv.aI7{s:cg}{ys:List V}{n':Nat}(I:Inv X pins σ H s)(h:H p=aj (.lst xs))
  (ho:s.heap.get? p=aj {cls:=.type "list",data:=.seq its.toArray n})(hf:f {cls:=.type "list",data:=.seq its.toArray n}={cls:=.type "list",data:=.seq its'.toArray n' })(r:Vals ys its')(hz:ys.length<=cj)(t:Nat) :
  Inv X pins σ (upd H p (.lst ys)) {s with heap:=s.heap.update p f,toks:=t}:=by
 have e:(s.heap.update p f).get? p=aj {cls:=.type "list",data:=.seq its'.toArray n' }:=by
  rw[a2a f ho (by rw[hf]<;>rfl),hf]
 refine I.write (x:=p) (e:=p) (by rw[h];trivial) (.inl rfl) (λb u hb q=>(a1v _ _ (Ne.symm hb)).trans q) ⟨_,e⟩ ?_;exact⟨hz,its',n',r,e⟩
noncomputable def aQA:V->V->V->Hp->(Hp->Prop)->Prop:=λo i v H Q=>∃p xs k j,o=.ref p/\i=.int k/\H p=aj (.lst xs)/\ixN xs.length k=aj j/\Q (upd H p (.lst (xs.set j v)))
theorem set_list:aPO X aQA:=by
 intro pins s σ H o i v ov iv u Q I ro ri rv h;obtain⟨p,xs,k,j,rfl,rfl,hp,hj,q⟩:=h;cases ro;obtain⟨t,rfl⟩:=ri;obtain⟨its,n,r,ho,hz⟩:=I.lst hp;obtain⟨h1,h2,h3,h4⟩:=aqL hj;have hl:=r.length;have hn:=a6S
 have I':Inv X pins σ (upd H p (.lst (xs.set j v))) {s with heap:=s.heap.update p (Obj.mapSeq (·.setIfInBounds j u))} :=
  I.aI7 hp ho (aoB its n j u) (r.set rv j) (by rw[a2d];exact hz) s.toks
 by_cases h0:0<=k
 .have hk:k.toNat=j:=by
   rw[seqIndex_of h0 h4]at h1;exact mz.inj h1
  exact PySem.W.ki_setAt ho h0 (by omega) (by rw[fj,←hl];exact h4) (by rw[hk];exact⟨_,I',q⟩)
 .have hk:(k+(its.toArray.size:Int)).toNat=j:=by
   rw[seqIndex_neg (by omega) h3]at h1;rw[fj,←hl];exact mz.inj h1
  exact PySem.W.ki_setBack ho (by omega) (by rw[fj,←hl];exact h3) (by omega) (by rw[hk];exact⟨_,I',q⟩)
theorem ai0(lo hi:Option Int)(n:Nat):(a1g lo hi aq n).1=((HT.mD n 0 lo:Nat):Int)/\(a1g lo hi aq n).2.1=((HT.mD n n hi:Nat):Int)/\(a1g lo hi aq n).2.2=1:=by
 refine⟨?_,?_,rfl⟩
 .cases lo with
  |none=>simp[a1g,HT.mD]
  |some i =>
   simp only[a1g,HT.mD,Option.getD_none,show(1:Int)>0 by decide,if_true];by_cases h:i<0
   .simp only[h,if_true]<;>omega
   .simp only[h,if_false]<;>omega
 .cases hi with
  |none=>simp[a1g,HT.mD]
  |some i =>
   simp only[a1g,HT.mD,Option.getD_none,show(1:Int)>0 by decide,if_true];by_cases h:i<0
   .simp only[h,if_true]<;>omega
   .simp only[h,if_false]<;>omega
theorem af5(its:List au)(lo hi:Option Int):slicePick its.toArray lo hi aq=((its.drop (HT.mD its.length 0 lo)).take (HT.mD its.length its.length hi - HT.mD its.length 0 lo)).toArray:=by
 obtain⟨h1,h2,h3⟩:=ai0 lo hi its.toArray.size;unfold slicePick;rw[h1,h2,h3];simp only[sliceRange_one,pick_run,fj]<;>rfl
noncomputable def aVX(K:iw):V->Option Int->Option Int->Hp->VK->Prop:=λx lo hi H Q=>∃a xs,x=.ref a/\zN K H a xs/\∀p,H p=aq->Q (.ref p) (upd H p (.lst (af4 xs lo hi)))
theorem aBZ:SlR X (aVX X.K):=by
 intro pins s σ H x v vl vu lo hi sl Q I rx hs pl pu h;obtain⟨a,xs,rfl,hx,q⟩:=h;cases rx;obtain⟨its,r,ht,hz⟩:=I.list hx;have hlen:=r.length;refine⟨"list",_,slot_list_getitem.lookup,ht.isList.typeIs,?_⟩;refine wpAny_getItem_list_slice ht.isList hs pl pu .none (by simp) ?_ (by rw[fj]<;>omega);rw[af5,←hlen];refine⟨.ref s.heap.objs.size,_,I.laid (t':=s.toks) (o:=.lst (af4 xs lo hi)) (λb ob q=>dj _ q) (gw _) ?_,rfl,q _ (I.hok.fresh (gw _))⟩;exact⟨qj (a84 xs lo hi) hz,_,0,(r.drop (HT.mD xs.length 0 lo)).take (HT.mD xs.length xs.length hi - HT.mD xs.length 0 lo),jd _ rfl⟩
noncomputable def xZ:V->Bool
 |.non=>ak
 |.bl _=>ak
 |.int _=>ak
 |.str _=>ak
 |_=>ao
noncomputable def eqV:V->V->Bool
 |.non,.non=>ak
 |.bl a,.bl b=>a==b
 |.bl a,.int b=>(if a then 1 else 0)==b
 |.int a,.bl b=>a==(if b then 1 else 0)
 |.int a,.int b=>a==b
 |.str a,.str b=>a==b
 |_,_=>ao
theorem awC{A:qb}(ry:RelV y u)(rx:RelV x v)(fy:xZ y=ak)(fx:xZ x=ak):SeqAt.EqAt A s u v (eqV y x):=by
 cases y with
 |non =>
  cases ry;cases x with
  |non=>cases rx;exact SeqAt.EqAt.same _
  |bl b=>cases rx;exact SeqAt.EqAt.none_bool b
  |int b=>obtain⟨t,rfl⟩:=rx;exact SeqAt.EqAt.none_int b t
  |str b=>obtain⟨t,rfl⟩:=rx;exact SeqAt.EqAt.none_str b t
  |_=>exact absurd (show ao=ak from fx) vf
 |bl a =>
  cases ry;cases x with
  |non=>cases rx;exact SeqAt.EqAt.bool_none a
  |bl b=>cases rx;exact SeqAt.EqAt.bool_bool a b
  |int b=>obtain⟨t,rfl⟩:=rx;exact SeqAt.EqAt.bool_int a b t
  |str b=>obtain⟨t,rfl⟩:=rx;exact SeqAt.EqAt.bool_str a b t
  |_=>exact absurd (show ao=ak from fx) vf
 |int a =>
  obtain⟨t',rfl⟩:=ry;cases x with
  |non=>cases rx;exact SeqAt.EqAt.int_none a t'
  |bl b=>cases rx;exact SeqAt.EqAt.int_bool a t' b
  |int b=>obtain⟨t,rfl⟩:=rx;exact SeqAt.EqAt.int_int a t' b t
  |str b=>obtain⟨t,rfl⟩:=rx;exact SeqAt.EqAt.int_str a t' b t
  |_=>exact absurd (show ao=ak from fx) vf
 |str a =>
  obtain⟨t',rfl⟩:=ry;cases x with
  |non=>cases rx;exact SeqAt.EqAt.str_none a t'
  |bl b=>cases rx;exact SeqAt.EqAt.str_bool a t' b
  |int b=>obtain⟨t,rfl⟩:=rx;exact SeqAt.EqAt.str_int a t' b t
  |str b=>obtain⟨t,rfl⟩:=rx;exact SeqAt.EqAt.str_str a t' b t
  |_=>exact absurd (show ao=ak from fx) vf
 |_=>exact absurd (show ao=ak from fy) vf
noncomputable def eqU(x:V)(u:au):Bool:=match u with
 |.none=>eqV .non x
 |.bool b=>eqV (.bl b) x
 |.int i _=>eqV (.int i) x
 |.str z _=>eqV (.str z) x
 |_=>ao
theorem awD(r:RelV y u)(f:xZ y=ak):eqU x u=eqV y x:=by
 cases y with
 |non=>cases r;rfl
 |bl b=>cases r;rfl
 |int i=>obtain⟨t,rfl⟩:=r;rfl
 |str z=>obtain⟨t,rfl⟩:=r;rfl
 |_=>exact absurd (show ao=ak from f) vf
theorem a4X{x:V}:∀{xs:List V}{us:List au},Vals xs us->xs.all xZ=ak->us.any (eqU x)=xs.any λy=>eqV y x
 |_,_,.nil,_=>rfl
 |y::xs,u::us,.cons r t,f=>by
  rw[yj,bh]at f;rw[a0q,a0q,awD r f.1,a4X t f.2]
theorem zQ{A:qb}{x:V}(rx:RelV x v)(fx:xZ x=ak):∀{xs:List V}{us:List au},Vals xs us->xs.all xZ=ak->∀u∈us,SeqAt.EqAt A s u v (eqU x u)
 |_,_,.nil,_=>λu hu=>by cases hu
 |y::xs,u::us,.cons r t,f=>λu' hu=>by
  rw[yj,bh]at f;rcases jc.mp hu with rfl|hu
  .rw[awD r f.1];exact awC r rx f.1 fx
  .exact zQ rx fx t f.2 u' hu
noncomputable def inV(x:V)(xs:List V):Bool:=xs.any λy=>eqV y x
noncomputable def rIn(K:iw)(neg:Bool):R2:=λx y H Q=>∃p xs,y=.ref p/\(zN K H p xs∨zL K H p xs)/\xZ x=ak/\xs.all xZ=ak/\Q (.bl (if neg then !inV x xs else inV x xs)) H
theorem atD:zG X (ni .In) (rIn X.K ao):=by
 intro pins s σ H x y v u Q I rx ry h;obtain⟨p,xs,rfl,hq,fx,fs,q⟩:=h;cases ry;rcases hq with hq|hq
 .obtain⟨its,r,pl,hz⟩:=I.list hq;refine SeqAt.in_listAt (eqU x) pl.isList (λw hw=>zQ rx fx r fs w (by simpa using hw)) ⟨.bl _,H,I,rfl,?_⟩;rw[show its.toArray.any (eqU x)=its.any (eqU x) by simp,a4X r fs];exact q
 .obtain⟨its,r,pl,hz⟩:=I.tuple hq;refine SeqAt.in_tupleAt (eqU x) pl (λw hw=>zQ rx fx r fs w (by simpa using hw)) ⟨.bl _,H,I,rfl,?_⟩;rw[show its.toArray.any (eqU x)=its.any (eqU x) by simp,a4X r fs];exact q
theorem ai1:zG X (ni .NotIn) (rIn X.K ak):=by
 intro pins s σ H x y v u Q I rx ry h;obtain⟨p,xs,rfl,hq,fx,fs,q⟩:=h;cases ry;rcases hq with hq|hq
 .obtain⟨its,r,pl,hz⟩:=I.list hq;refine SeqAt.notIn_listAt (eqU x) pl.isList (λw hw=>zQ rx fx r fs w (by simpa using hw)) ⟨.bl _,H,I,rfl,?_⟩;rw[show its.toArray.any (eqU x)=its.any (eqU x) by simp,a4X r fs];exact q
 .obtain⟨its,r,pl,hz⟩:=I.tuple hq;refine SeqAt.notIn_tupleAt (eqU x) pl (λw hw=>zQ rx fx r fs w (by simpa using hw)) ⟨.bl _,H,I,rfl,?_⟩;rw[show its.toArray.any (eqU x)=its.any (eqU x) by simp,a4X r fs];exact q
theorem ai2:xY X (.builtin "len") (λxs H Q=>∃p ys,xs=[.ref p]/\(zN X.K H p ys∨zL X.K H p ys)/\Q (.int ys.length) H):=by
 intro pins s σ H xs us Q I r h;obtain⟨p,ys,rfl,hq,q⟩:=h;obtain⟨u,rfl,rx⟩:=vals1 r;cases rx;have hn:=a6S;rcases hq with hq|hq
 .obtain⟨its,r',pl,hz⟩:=I.list hq;have hlen:=r'.length;exact Calls.call_len_list pl.isList (by simp only[fj]<;>omega) ⟨.int ys.length,H,I.tok _,⟨s.toks+1,by rw[fj,hlen]⟩,q⟩
 .obtain⟨its,r',pl,hz⟩:=I.tuple hq;have hlen:=r'.length;exact len_tuple pl (by simp only[fj]<;>omega) ⟨.int ys.length,H,I.tok _,⟨s.toks+1,by rw[fj,hlen]⟩,q⟩
theorem ai3:xY X (.builtin "len") (λxs H Q=>∃z,xs=[.str z]/\z.length<=cj/\Q (.int z.length) H):=by
 intro pins s σ H xs us Q I r h;obtain⟨z,rfl,hz,q⟩:=h;obtain⟨u,rfl,t,rfl⟩:=vals1 r;have hn:=a6S;exact len_str (by omega) ⟨.int z.length,H,I.tok _,⟨_,rfl⟩,q⟩
theorem xY.or{r r':List V->Hp->VK->Prop}(h:xY X f r)(h':xY X f r'):xY X f (λxs H Q=>r xs H Q∨r' xs H Q):=by
 intro pins s σ H xs us Q I rs q;rcases q with q|q
 .exact h pins s σ H xs us Q I rs q
 .exact h' pins s σ H xs us Q I rs q
theorem af6:xY X (.type "tuple") (λxs H Q=>∃p ys,xs=[.ref p]/\((zN X.K H p ys/\∀l,H l=aq->Q (.ref l) (upd H l (.tup ys)))∨(zL X.K H p ys/\Q (.ref p) H))):=by
 intro pins s σ H xs us Q I r h;obtain⟨p,ys,rfl,h⟩:=h;obtain⟨u,rfl,rx⟩:=vals1 r;cases rx;rcases h with⟨hq,q⟩|⟨hq,q⟩
 .obtain⟨its,r',pl,hz⟩:=I.list hq;have hlen:=r'.length;refine call_tuple_list pl.isList (λh' kp=>?_) (by simp only[fj]<;>omega);have I1:Inv X pins σ H {s with heap:=h' }:=I.kept (t':=s.toks) kp
  have I2:Inv X pins σ (upd H h'.objs.size (.tup ys)) {s with heap:=h'.push {cls:=.type "tuple",data:=.seq its.toArray}} :=
   I1.laid (t':=s.toks) (λb o e=>dj _ e) (gw _) (show qX X.prog X.w _ _ _ (.tup ys)from⟨hz,its,r',IsTup.new _ _⟩)
  exact⟨.ref h'.objs.size,_,I2,rfl,q _ (I1.hok.fresh (gw _))⟩
 .obtain⟨its,r',pl,hz⟩:=I.tuple hq;exact call_tuple_same pl ⟨.ref p,H,I,rfl,q⟩
def tyV(K:iw)(T:String)(x:V)(H:Hp):Prop:=match x with
 |.str _=>T="str"
 |.int _=>T="int"
 |.ref p=>(T="list"/\∃xs,zN K H p xs)∨(T="tuple"/\∃o,K.lookup p=aj o/\o.cls=.type "tuple"/\o.dict=aq) ∨
   (T="dict"/\((∃kvs,H p=aj (.dK kvs))∨∃kvs,H p=aj (.dT kvs)))∨(T="set"/\∃S n,H p=aj (.set S n))
 |_=>False
theorem awE{s:cg}{T:String}(I:Inv X pins σ H s)(r:RelV x v)(ty:tyV X.K T x H) :
  s.TypeIs v T/\∀a,v=.ref a->∃ob,s.heap.get? a=aj ob/\ob.dict=aq:=by
 cases x with
 |str z =>
  obtain⟨t,rfl⟩:=r;cases(show T="str" from ty);exact⟨typeIs_str s z t,λ_ e=>nomatch e⟩
 |int i =>
  obtain⟨t,rfl⟩:=r;cases(show T="int" from ty);exact⟨typeIs_int s i t,λ_ e=>nomatch e⟩
 |ref p =>
  cases r;rcases ty with⟨rfl,xs,hq⟩|⟨rfl,o,hk,hc,hd⟩|⟨rfl,hk⟩|⟨rfl,S,n,hk⟩
  .obtain⟨its,_,pl,_⟩:=I.list hq;refine⟨pl.isList.typeIs,λa e=>?_⟩;cases e;obtain⟨o,n,e,c,hd,_⟩:=pl;exact⟨o,e,hd⟩
  .refine⟨⟨o,I.kIn p o hk,hc⟩,λa e=>?_⟩;cases e;exact⟨o,I.kIn _ o hk,hd⟩
  .have z:∃o,s.heap.get? p=aj o/\o.ExactDict:=by
    rcases hk with⟨kvs,hk⟩|⟨kvs,hk⟩
    .obtain⟨_,_,_,_,o,_,_,e,ex,_⟩:=I.hok p _ hk;exact⟨o,e,ex⟩
    .obtain⟨_,_,_,_,o,_,_,e,ex,_⟩:=I.hok p _ hk;exact⟨o,e,ex⟩
   obtain⟨o,e,ex⟩:=z;refine⟨⟨o,e,ex.1⟩,λa e2=>?_⟩;cases e2;exact⟨o,e,ex.2.1⟩
  .obtain⟨o,_,_,_,e,ex,_⟩:=I.hok p _ hk;refine⟨⟨o,e,ex.1⟩,λa e2=>?_⟩;cases e2;exact⟨o,e,ex.2.1⟩
 |_=>exact False.elim ty
end
end
variable{t':Nat}
section
noncomputable def MtM(X:Cx)(id:String)(r:V->List V->Hp->VK->Prop):Prop :=
 ∀(pins:List (bx×Obj))(s:cg)(σ:St)(H:Hp)(x:V)(xs:List V)(v:au)(us:List au)(Q:VK),Inv X pins σ H s->RelV x v->Vals xs us->r x xs H Q ->
  dh (dz X.prog X.w) X.A (call (.builtin id) (v::us)) (EP X pins σ Q) X.xe s
theorem Vals.one(h:Vals [x] us):∃u,us=[u]/\RelV x u:=by
 cases h with
 |cons r h=>cases h;exact⟨_,rfl,r⟩
theorem Vals.reverse{xs:List V}{us:List au}(h:Vals xs us):Vals xs.reverse us.reverse:=by
 induction h with
 |nil=>exact .nil
 |cons r t ih=>rw[a1r,a1r];exact Vals.append ih (.cons r .nil)
section
variable{pins:List (bx×Obj)}{s:cg}{xs ys:List V}
theorem Inv.aVY{f:Array au->Array au}(I:Inv X pins σ H s)(hH:H l=aj (.lst xs))
  (e:s.heap.get? l=aj {cls:=.type "list",data:=.seq its.toArray n})(hf:f its.toArray=its'.toArray)(hv:Vals ys its')(hz:ys.length<=cj) :
  Inv X pins σ (upd H l (.lst ys)) {s with heap:=s.heap.update l (Obj.mapSeq f),toks:=t' }:=by
 have q:=PySem.IsL.update e f;rw[hf]at q;refine I.write (x:=l) (e:=l) (by rw[hH];exact trivial) (.inl rfl) (λb' u hb hu=>(a1v s.heap (Obj.mapSeq f) (Ne.symm hb)).trans hu) ⟨_,q⟩ ?_;exact⟨hz,its',_,hv,q⟩
theorem Inv.aI8(I:Inv X pins σ H s)(hv:Vals ys its)(hz:ys.length<=cj) :
  Inv X pins σ (upd H s.heap.objs.size (.lst ys)) {s with heap:=s.heap.push {cls:=.type "list",data:=.seq its.toArray},toks:=t' } :=
 I.laid (λ_ _ q=>dj _ q) (gw _) ⟨hz,its,0,hv,jd _ rfl⟩
theorem Inv.fresh(I:Inv X pins σ H s):H s.heap.objs.size=aq:=I.hok.fresh (gw _)
theorem Inv.aI9(I:Inv X pins σ H s)(hH:H l=aj (.lst xs)):xs.length<=cj/\∃(its:List au)(n:Nat),Vals xs its/\xs.length=its.length/\s.heap.get? l=aj {cls:=.type "list",data:=.seq its.toArray n}:=by
 obtain⟨z,its,n,r,e⟩:=I.hok l _ hH;exact⟨z,its,n,r,r.length,e⟩
end
section
noncomputable def aC0:V->List V->Hp->VK->Prop:=λx vs H Q=>∃l xs y,x=.ref l/\vs=[y]/\H l=aj (.lst xs)/\xs.length<cj/\Q .non (upd H l (.lst (xs++[y])))
theorem a6V:MtM X "list.append" aC0:=by
 intro pins s σ H x vs v us Q I rx rv h;obtain⟨l,xs,y,rfl,rfl,hH,hz,q⟩:=h;cases rx;obtain⟨u,rfl,ru⟩:=rv.one;obtain⟨z,its,n,r,hl,e⟩:=I.aI9 hH;refine call_meets F.slot_list_append ⟨_,e,rfl⟩ F.entry_list_append (F.args_list_append_2 _ _) (PySem.list_append l its.toArray n u (by rw[fj];omega)) ⟨e,?_⟩;refine⟨.non,_,I.aVY (its':=its++[u]) hH e (by simp) (r.append (.cons ru .nil)) ?_,rfl,q⟩;rw[je,List.length_singleton];omega
noncomputable def aVZ:R2:=λx y H Q=>∃l b xs zs,x=.ref l/\y=.ref b/\H l=aj (.lst xs)/\H b=aj (.lst zs)/\xs.length+zs.length<=cj/\∀p,H p=aq->Q (.ref p) (upd H p (.lst (xs++zs)))
theorem aIA:zG X (vp .Add) aVZ:=by
 intro pins s σ H x y v u Q I rx ry h;obtain⟨l,b,xs,zs,rfl,rfl,hH,hB,hz,q⟩:=h;cases rx;cases ry;obtain⟨z,its,n,r,hl,e⟩:=I.aI9 hH;obtain⟨z2,its2,n2,r2,hl2,e2⟩:=I.aI9 hB;refine PySem.P.add_list e e2 ?_ (by rw[fj,fj];omega);have ea:its.toArray++its2.toArray=(its++its2).toArray:=by simp
 rw[ea];exact⟨.ref _,_,I.aI8 (t':=s.toks) (r.append r2) (by rw[je];omega),rfl,q _ I.fresh⟩
end
section
end
section
end
end
end L2
namespace Att
open PySem PySem.W PySem.Calls PyProof.Rows
theorem a9B:∀(ns:List Int)(vs:List au),WellAll P h vs (ns.map WData.int)->IntsAre vs ns:=by
 intro ns
 induction ns with
 |nil =>
  intro vs w;rw[List.map_nil]at w;cases w;exact .nil
 |cons n ns ih =>
  intro vs w;rw[jj]at w;cases w with
  |cons a b =>
   cases a;exact .cons _ _ (ih _ b)
variable{l:OpenLaw}{n:Nat}
theorem atE(hn:l.most=aj n){h:jq} 
  (hpre:l.row.toRowW.claim.pre args=ak)(hwl:WellAll P h vals args) :
  ∃a vs ns,vals=[au.ref a]/\args=[WData.list (ns.map WData.int)]/\h.get? a=aj {cls:=.type "list",data:=.seq vs.toArray}/\IntsAre vs ns/\ns.length<=n:=by
 have hsh:WShape.hasAll [] args [.list .int]=ak:=(pre_splitW hpre).1;have hc:l.pre.holds [] {args:=args}=ak:=(pre_splitW hpre).2;obtain⟨d,r,rfl,h1,h2⟩:=hasAllW_cons hsh;obtain rfl:=hasAllW_nil h2;obtain⟨xs,rfl,h3⟩:=hasW_list h1;obtain⟨ns,rfl⟩:=items_int h3
 have hlen:ns.length<=n:=by
  unfold OpenLaw.pre at hc
  have h4:(WTm.not (.lt (.lit (.int (n:Int))) (.len (.arg 0)))).holds [] {args:=[.list (ns.map .int)]}=ak:=by
   have h4:=(holds_andW hc).1;rw[hn]at h4;exact h4
  have h5:=condW_of h4 (w_not (w_lt w_lit (w_len_list (w_arg rfl))));rw[dg]at h5;refine Nat.le_of_not_lt λq=>?_;have q':(n:Int)<((ns.length:Nat):Int):=by omega
  first
   |(rw[decide_eq_true q']at h5;exact absurd h5 (by decide))
   |(simp at h5;omega)
 cases hwl with
 |cons w1 w2 =>
  cases w2;cases w1 with
  |list ho hall=>exact⟨_,_,ns,rfl,rfl,ho,a9B ns _ hall,hlen⟩
theorem atF(l:OpenLaw)(args:List WData):l.row.toRowW.claim.post args (.bool ak) args=ak :=
 postW_of (r:=l.row.toRowW) (X:=(ak==ak))
  (show WShape.has [] (.bool ak) .bool=ak by first|rfl|decide|simp[WShape.has,WShape.arms,WShape.armsAll])
  (show(WTm.eq .res (.lit (.bool ak))).value [] {args:=args,res:=some (.bool ak),after:=args}=aj (.bool (ak==ak))from w_eq_bool (w_res rfl) w_lit) rfl
theorem al2{XP:(Str->Option au)->jq->Prop}{YP:jg->jq->Prop}{d:DefRec}
  (hn:l.most=aj n)(hdf:d.params.defaults=[])
  (call:∀(w:jg)(s₀ s₁:cg)(mg mb:Str->Option au)(fa:bx)(o:Obj)(pm cd doc:au)(a:bx)(vs:List au)(ns:List Int),
   Ground q loose [] XP w s₀ mg mb s₁.heap->YP w s₁.heap ->
   s₁.heap.get? fa=aj o->o.data=.func (docDef d.name d.params d.body d.scope pm cd doc)->s₁.heap.CodeRec cd d.name->mg d.name=aj (.ref fa) ->
   s₁.heap.get? a=aj {cls:=.type "list",data:=.seq vs.toArray}->IntsAre vs ns->ns.length<=n->s₁.gens=#[] ->
   a0i (dz l.prog w) callerA (.call (.ref fa) ⟨[.ref a],[]⟩) (λr s'=>r=.ok (.ret (.bool ak))/\OldK s₁.heap s'.heap/\s'.os=s₁.os/\a1f s'.gens) s₁) :
  WalkO q loose XP YP l.row.toRowW d [] (λf vs=>PySem.call f vs):=by
 intro w s₀ s₁ mg mb G Y fa o pm cd doc dV kV ho hd hcd hD hmg hg args vals as hpre hlay hrd hwl hlo;obtain rfl:dV=.none:=Dflts.none hD hdf;obtain rfl:kV=.none:=Dflts.noKw hD;obtain⟨a,vs,ns,rfl,rfl,hobj,hints,hlen⟩:=atE hn hpre hwl;refine enter_call (codeAny_mono (call w s₀ s₁ mg mb fa o pm cd doc a vs ns G Y ho (fd_plain hd) hcd hmg hobj hints hlen hg) λr s' hq=>?_);obtain⟨rfl,h2,h3,h4⟩:=hq;exact⟨.inl ⟨.bool ak,.bool ak,[],rfl,λ_=>rfl,.bool ak,atF l _,λ_=>⟨List.Pairwise.nil,λ_ hm=>(nomatch hm)⟩⟩,h2,h3,h4⟩
section
noncomputable def ledger(h:jq)(L d:bx):List (bx×Obj):=(kh h.objs.size).filterMap λa=>if a=L∨a=d then aq else(h.get? a).map λo=>(a,o)
end
end Att
namespace L2
open PySem PySem.Spec PyProof.Rows
variable{w:jg}{mg:Str->Option au}{k:Nat}{x:Str}
section
theorem agM:∀{vs:List au}{ns:List Int},IntsAre vs ns->Vals (ns.map V.int) vs
 |_,_,.nil=>.nil
 |_,_,.cons n t h=>.cons ⟨t,rfl⟩ (agM h)
def Only(H:Hp):Prop:=∀b,H b=aq∨∃o xs,H b=aj (.frz o (.lst xs))
set_option tactic.hygienic true in
theorem awF{K:iw}{mb:Str->Option au}{s₁:cg}{vs:List au}{ns:List Int}
  (KX:K.In s₁.heap)(hns:s₁.heap.Ns iy mg)(hb:s₁.heap.Ns builtinsNs mb)(hbb:∀x:Str,x≠"__name__"->mb x=jz x)(hlim:s₁.heap.NoLimit)(hg:s₁.gens=#[])
  (ha:s₁.heap.get? a=aj {cls:=.type "list",data:=.seq vs.toArray})(hi:IntsAre vs ns)(hl:ns.length<=cj)(hr:mF qt k callerA)
  (F:∀base:jq,K.In base->base.Ns iy mg->bU qt P w K mg base CX k fa fd [x] sp)(hbind:∀(s:cg)(u:au),BindsTo s fd ⟨[u],[]⟩ [(x,u)])
  (hsp:∀H:Hp,Only H->zN K H a (ns.map V.int)->sp [.ref a] H (λv _=>v=.bl ak) λ_ _ _=>False)
  (hCX:∀H e s',CX [] H s₁ (λ_ _ _=>False) e s'->False) :
  a0i (dz P w) callerA (.call (.ref fa) ⟨[.ref a],[]⟩) (λr s'=>r=.ok (.ret (.bool ak))/\OldK s₁.heap s'.heap/\s'.os=s₁.os/\a1f s'.gens) s₁:=by
 have rv:=agM hi;have lenV:=hi.length
 have core:∀H:Hp,Only H->zN K H a (ns.map V.int)->HOk P w H s₁.heap->(∀b,H b≠aq->b=a)->(H a≠aq->K.lookup a=aq) ->
   a0i (dz P w) callerA (.call (.ref fa) ⟨[.ref a],[]⟩) (λr s'=>r=.ok (.ret (.bool ak))/\OldK s₁.heap s'.heap/\s'.os=s₁.os/\a1f s'.gens) s₁:=by
  intro H hO hS hok hA hK;have aqM:∀{b:bx}{o:Obj},s₁.heap.get? b=aj o->H b=aq->(ahS s₁.heap H).get? b=aj o:=λe n=>avU e n
  have noA:∀{b:bx}{o:Obj}{es:Array DictEntry}{ep:Nat},s₁.heap.get? b=aj o->o.data=.dict es ep->H b=aq:=λ{b o es ep} e d=>by
   cases q:H b with
   |none=>rfl
   |some u =>
    have e':b=a:=hA b (by rw[q];simp);subst e';rw[ha]at e;cases e;have d':Data.seq vs.toArray _=Data.dict es ep:=d;cases d'
  have nsK:∀{b:bx}{m:Str->Option au},s₁.heap.Ns b m->(ahS s₁.heap H).Ns b m:=λ{b m} ⟨o,es,ep,e,d,r⟩=>⟨o,es,ep,aqM e (noA e d),d,r⟩
  have hKb:K.In (ahS s₁.heap H):=λb o e=>aqM (KX b o e) (by
   cases q:H b with
   |none=>rfl
   |some u =>
    have e':b=a:=hA b (by rw[q];simp);subst e';rw[hK (by rw[q];simp)]at e;cases e)
  have hM:Mod K mg (ahS s₁.heap H):=⟨hKb,nsK hns,⟨mb,nsK hb,hbb⟩,let⟨mc,h1,h2⟩:=hlim;⟨mc,nsK h1,h2⟩⟩;have e0:ao8 P w K mg (ahS s₁.heap H) callerA [] s₁ H:=⟨rfl,hM,λb o e=>aBB e,a1o (at4 _ _),trivial,λb hb=>absurd (show b∈([]:List bx)from hb) (by simp),hok,.of_eq hg,.inl rfl⟩;refine codeAny_mono ((F _ hKb (nsK hns)).run callerA [] s₁ H ⟨[.ref a],[]⟩ [.ref a] [.ref a] _ _ hr e0 (hbind s₁ (.ref a)) (.cons rfl .nil) (hsp H hO hS)) λr s' h=>?_;cases r with
  |error e=>exact(hCX H e s' h).elim
  |ok fl =>
   cases fl with
   |next=>exact False.elim h
   |brk=>exact False.elim h
   |cont=>exact False.elim h
   |ret u =>
    obtain⟨v,H',os,bare,un,hok',r',q⟩:=h;have q':v=.bl ak:=q;subst q';obtain rfl:u=au.bool ak:=r';refine⟨rfl,OldK.of_keep λb o e=>?_,os,bare⟩;cases q:H b with
    |none=>exact un.keep b o e q (by intro z;exact absurd (show b∈([]:List bx)from z) (by simp)) (by simp)
    |some u =>
     rcases hO b with z|⟨ob,xs,z⟩
     .rw[q]at z;cases z
     .have z2:=un.lA b ob _ z;obtain⟨e1,_⟩:=hok b _ z;obtain⟨e2,_⟩:=hok' b _ z2;rw[e]at e1;cases e1;exact e2
 cases hk:K.lookup a with
 |some o =>
  have e:=KX a o hk;rw[ha]at e;cases e;refine core (λ_=>aq) (λ_=>.inl rfl) (.inr ⟨_,vs.toArray,_,hk,rfl,rfl,rfl,by rw[fj,lenV];exact hl,by simpa using rv⟩) (λb u z=>by have z':(aq:Option HO)=aj u:=z;cases z') (λb z=>absurd rfl z) λz=>absurd rfl z
 |none =>
  refine core (λb=>if b=a then aj (.frz {cls:=.type "list",data:=.seq vs.toArray} (.lst (ns.map V.int)))else aq) (λb=>?_) (.inl (.inr ⟨{cls:=.type "list",data:=.seq vs.toArray},if_pos rfl⟩)) (λb u z=>?_) (λb z=>?_) λ_=>hk
  .by_cases hb:b=a
   .exact .inr ⟨_,_,if_pos hb⟩
   .exact .inl (if_neg hb)
  .by_cases hb:b=a
   .have z':=(if_pos hb).symm.trans z;cases z';subst hb;exact⟨ha,by rw[dg];exact hl,vs,_,rv,ha⟩
   .have z':=(if_neg hb).symm.trans z;cases z'
  .by_cases hb:b=a
   .exact hb
   .exact absurd (if_neg hb) z
end
section
theorem aC1{l:PySem.W.OpenLaw}{n:Nat}{q:lq}{loose:List Str}{XP:(Str->Option au)->jq->Prop}{YP:jg->jq->Prop}{d:DefRec}{K:Params->iw}{CX:jg->CXT}{sp:jg->Sp}
  (hn:l.most=aj n)(hn2:n<=cj)(hdf:d.params.defaults=[])(hr:mF qt k callerA)
  (hY:∀(w:jg)(h:jq),YP w h->(K w.params).In h)
  (F:∀(w:jg)(mg:Str->Option au)(fa:bx)(h:jq),(K w.params).In h->h.Ns iy mg->mg d.name=aj (.ref fa) ->
   ∃fd:jo,(∀(s:cg)(u:au),BindsTo s fd ⟨[u],[]⟩ [(x,u)]) /\
    ∀base:jq,(K w.params).In base->base.Ns iy mg->bU qt l.prog w (K w.params) mg base (CX w) k fa fd [x] (sp w))
  (hsp:∀(w:jg)(H:Hp)(a:bx)(ns:List Int),ns.length<=n->Only H->zN (K w.params) H a (ns.map V.int)->sp w [.ref a] H (λv _=>v=.bl ak) λ_ _ _=>False)
  (hCX:∀(w:jg)(H:Hp)(s:cg)(e:au)(s':cg),CX w [] H s (λ_ _ _=>False) e s'->False) :
  PySem.W.WalkO q loose XP YP l.row.toRowW d [] (λf vs=>PySem.call f vs):=by
 refine Att.al2 hn hdf λw s₀ s₁ mg mb fa o pm cd doc a vs ns G Y ho hd hcd hmg hobj hints hlen hg=>?_;have KX:=hY w _ Y;obtain⟨fd,hb,hF⟩:=F w mg fa _ KX G.T.g hmg;exact awF KX G.T.g G.T.b G.T.builtins G.T.nolimit hg hobj hints (qj hlen hn2) hr hF hb (λH hO hS=>hsp w H a ns hlen hO hS) λH e s'=>hCX w H s₁ e s'
end
variable{st:mj}
section
noncomputable def inClass(s:mj)(j:Nat):mj:=match s with
 |.ClassDef _ _ _ body _ _ _ _ _ _ _=>body.getD j (.Pass ⟨0,0,0,0⟩)
 |_=>.Pass ⟨0,0,0,0⟩
noncomputable def gH(s:mj):Arguments:=match s with
 |.FunctionDef _ a _ _ _ _ _ _ _ _=>a
 |_=>{posonlyargs:=[],args:=[],vararg:=none,kwonlyargs:=[],kw_defaults:=[],kwarg:=none,defaults:=[]}
noncomputable def cX(s:mj):List mj:=match s with
 |.FunctionDef _ _ b _ _ _ _ _ _ _=>b
 |_=>[]
noncomputable def bM(s:mj):yc:=match s with
 |.FunctionDef _ _ _ _ _ _ sc _ _ _=>sc
 |_=>{kind:=.function,names:=[],isGenerator:=false,isCoroutine:=false}
structure Fun(K:iw)(x qual:Str)(st:mj)(f:bx)(fd:jo):Prop where
 ex:∃(oc:au)(od:Option bx)(dV kV doc pm:au)(an:Option bx)(cdv ct:au)(osl:Array (Option au)),
  fd=uo x qual (gH st) (cX st) (bM st) dV kV doc pm an cdv ct/\K.lookup f=aj ⟨oc,od,.func fd,osl⟩/\a1q K cdv qual=ak
 kp:jy K (.ref f)=ak
section
variable{K:iw}
theorem awG{qual:Str}{f:bx}{oc:au}{od an:Option bx}{osl:Array (Option au)}{dV kV doc pm cdv ct:au}(l:K.lookup f=aj ⟨oc,od,.func (uo x qual (gH st) (cX st) (bM st) dV kV doc pm an cdv ct),osl⟩)
  (c:a1q K cdv qual=ak)(k:jy K (.ref f)=ak):Fun K x qual st f (uo x qual (gH st) (cX st) (bM st) dV kV doc pm an cdv ct):=⟨⟨oc,od,dV,kV,doc,pm,an,cdv,ct,osl,rfl,l,c⟩,k⟩
end
section
end
theorem cL{A B:Prop}[Decidable c](h1:c->A)(h2:¬ c->B):if c then A else B:=by
 by_cases h:c
 .rw[if_pos h];exact h1 h
 .rw[if_neg h];exact h2 h
def Same(H H':Hp):Prop:=∀b o,H b=aj o->H' b=aj o
theorem Same.refl(H:Hp):Same H H:=λ_ _ h=>h
section
end
section
variable{κ:Type}[DecidableEq κ]
end
end
variable{A:qb}
section
section
open AutoSeq1 (wpAny_loadPart')
end
variable{i:Nat}{Q:au->cg->Prop}
section
variable{prog:lq}{w:jg}{A:qb}{E:au->cg->Prop}{s:cg}
theorem a9C{items:Array au}{x:au}(hit:s.heap.IsTupleIter it l i)(hl:s.heap.IsTuple l items)(hx:items[i]?=aj x)
  (hQ:∀h',h'.IsTupleIter it l (i+1)->yg it s.heap h'->Q x {s with heap:=h' }):dh (dz prog w) A (Builtin.SmallTypes.nextOf (.ref it)) Q E s:=by
 obtain⟨o,ho,hc,hd⟩:=id hit;obtain⟨ol,hol,_,nl,hdl⟩:=hl;unfold Builtin.SmallTypes.nextOf
 refine bw (yt (name:=Str.ofString "__next__") hit.typeIs F.slot_tuple_iterator_next
  (a0j F.slot_tuple_iterator_next hit.typeIs F.entry_tuple_iterator_next ?_ (F.args_tuple_iterator_next_1 _)))
 show dh _ _ (field (.ref it) 0 >>= _) _ _ s;refine bw (jx ho hd (x:=.ref l) rfl ?_);show dh _ _ (if(au.ref l==au.none)=ak then _ else _) _ _ s;rw[if_neg (show ¬ ((au.ref l==au.none)=ak)from vf)];show dh _ _ (field (.ref it) 1 >>= _) _ _ s;refine bw (jx ho hd (x:=.int i 0) rfl ?_);show dh _ _ (seqItems? (.ref l) >>= _) _ _ s;refine bw (zm hol hdl ?_);simp only[wu,hx];refine bw (vo ho hd (by simp) (gV ⟨x,rfl,gV (hQ _ ?_ (yg.update ..))⟩))
 exact⟨_,a2a _ ho (Obj.isFreed_of_fields (Obj.data_mapFields hd _)),(Obj.cls_mapFields ..).trans hc,by
  rw[Obj.data_mapFields hd];simp[a0r]⟩
theorem ac7{items:Array au}(hh:A.handled=aq)(hit:s.heap.IsTupleIter it l i)(hl:s.heap.IsTuple l items)(hx:items[i]?=aq)
  (hE:∀h' e,a1w it s.heap h'->(∃o,h'.get? e=aj o/\o.cls=.type "StopIteration")->E (.ref e) {s with heap:=h' }):dh (dz prog w) A (Builtin.SmallTypes.nextOf (.ref it)) Q E s:=by
 obtain⟨o,ho,hc,hd⟩:=id hit;obtain⟨ol,hol,_,nl,hdl⟩:=hl;unfold Builtin.SmallTypes.nextOf
 refine bw (yt (name:=Str.ofString "__next__") hit.typeIs F.slot_tuple_iterator_next
  (a0j F.slot_tuple_iterator_next hit.typeIs F.entry_tuple_iterator_next ?_ (F.args_tuple_iterator_next_1 _)))
 show dh _ _ (field (.ref it) 0 >>= _) _ _ s;refine bw (jx ho hd (x:=.ref l) rfl ?_);show dh _ _ (if(au.ref l==au.none)=ak then _ else _) _ _ s;rw[if_neg (show ¬ ((au.ref l==au.none)=ak)from vf)];show dh _ _ (field (.ref it) 1 >>= _) _ _ s;refine bw (jx ho hd (x:=.int i 0) rfl ?_);show dh _ _ (seqItems? (.ref l) >>= _) _ _ s;refine bw (zm hol hdl ?_);simp only[wu,hx];refine bw (a1d (bw (vo ho hd (by simp) ?_)));show dh _ _ (newExc (.type "StopIteration") [] >>= _) _ _ _;refine bw ?_;simp only[newExc,newTuple];refine bw (uw ?_ (by size_fits));refine bw (m:=firstArgMember _ _) (wpAny_of_eq (a:=Value.none) (by first|rfl|(simp only[firstArgMember];rfl)) ?_);refine uw ?_ (by size_fits);simp only[raiseNew];refine bw (wpAny_handled ?_)
 first|rw[show A.in1.handled=aq from hh]|rw[hh]
 refine bw (gV (wpAny_throw ?_));exact hE _ _ (((yg.update ..).extBut.push _).push _) ⟨_,jd _ rfl,rfl⟩
end
theorem agN{prog:lq}(hh:A.handled=aq)(it l:bx)(hne:l≠it)(items:Array au) :
  Draws prog w A it [it,l] items.size (λi v=>items[i]?=aj v) (λi h=>h.IsTupleIter it l i/\h.IsTuple l items) where
 live:=λ_ _ st=>let⟨o,ho,_⟩:=st.1;⟨o,ho⟩
 frame:=λ_ _ _ st hk=>⟨st.1.at λo e=>hk it (by simp) o e,st.2.at λo e=>hk l (by simp) o e⟩
 item:=λi s Q E hi st hQ=>by
  refine a9C st.1 st.2 (x:=items[i]) (by simp[hi]) λh' hit' hs'=>?_;exact hQ _ h' s.toks (by simp[hi]) ⟨hit',st.2.extBut hs'.extBut hne⟩ hs'
 done:=λs Q E st hE=>ac7 hh st.1 st.2 (by simp) hE
section
end
section
open PySem.SeqAt
open PySem.AutoSeq1 (wpAny_loadPart')
open PySem.MeetsSeq PySem.MeetsSeq2 PySem.MeetsSeq3
end
end
section
structure Zap(z TI TO i1 i2:bx)(fp1 fp2:List bx):Prop where
 a1:TI≠z/\TO≠z/\i1≠z/\i2≠z
 a2:TO≠i1/\TO≠i2/\i1≠i2/\TI≠TO/\TI≠i1/\TI≠i2
 f1:z∉fp1/\TO∉fp1/\i2∉fp1
 f2:z∉fp2/\TO∉fp2/\i1∉fp2
section
variable{prog:lq}{w:jg}{A:qb}{E:au->cg->Prop}{s:cg}{TI TO:bx}{n1 n2 i:Nat}{P1 P2:Nat->au->Prop}{St1 St2:Nat->jq->Prop}{b:au}
theorem aC3{Q:au->cg->Prop}(Z:Zap z TI TO i1 i2 fp1 fp2)(D1:Draws prog w A i1 fp1 n1 P1 St1)(D2:Draws prog w A i2 fp2 n2 P2 St2)(l1:i<n1)(l2:i<n2)
  (hz:IsZip s.heap z TI TO .none)(hI:IsPair s.heap TI (.ref i1) (.ref i2))(hO:IsPair s.heap TO a b)(s1:St1 i s.heap)(s2:St2 i s.heap)
  (hQ:∀x y h' tk,P1 i x->P2 i y->IsZip h' z TI TO (a0r s.heap.objs.size)->IsPair h' TO x y->St1 (i+1) h'->St2 (i+1) h'->IsPair h' s.heap.objs.size x y ->
   (∀c o,c≠z->c≠TO->c≠i1->c≠i2->s.heap.get? c=aj o->h'.get? c=aj o)->Q (.ref s.heap.objs.size) {s with heap:=h',toks:=tk}) :
  dh (dz prog w) A (Builtin.«zip.__next__» ⟨[.ref z],[]⟩) (λfin s'=>∃v,fin=.done (.ret v)/\Q v s') E s:=by
 obtain⟨⟨q1,q2,q3,q4⟩,⟨r1,r2,r3,r4,r5,r6⟩,⟨u1,u2,u3⟩,⟨v1,v2,v3⟩⟩:=Z;have ne:∀{l:List bx}{b c:bx},b∈l->c∉l->b≠c:=λhb hc e=>hc (e ▸ hb);show dh _ _ (field (.ref z) 2 >>= _) _ _ _;refine bw (jx hz rfl (x:=.bool ao) rfl ?_);show dh _ _ (field (.ref z) 3 >>= _) _ _ _;refine bw (jx hz rfl (x:=.ref TI) rfl (bw (zm hI rfl ?_)));show dh _ _ (Builtin.SmallTypes.ownedTupleIsFree (.ref z) >>= _) _ _ _;refine bw ?_;unfold Builtin.SmallTypes.ownedTupleIsFree;refine bw (jx hz rfl (x:=.none) rfl (gV ?_));simp only[if_true];refine bw (a1d (bw (jx hz rfl (x:=.ref TO) rfl (bw (wpAny_setField_rec hz (by simp) λg1 hz1 k1=>?_)))));replace hz1:IsZip g1 z TI TO .ellipsis:=hz1;refine bw ?_;simp only[List.zipIdx_cons,List.zipIdx_nil,a2e,List.forIn_nil];refine bw (bw (wpAny_onRaise ?_));show dh _ _ (Builtin.SmallTypes.nextOf (.ref i1) >>= _) _ _ _;refine bw (D1.item i {s with heap:=g1} _ _ l1 (D1.frame _ _ _ s1 λb hb o e=>k1.extBut _ _ (ne hb u1) e) λx g2 t2 px s1' k2=>gV ?_);have o2:IsPair g2 TO a b:=k2.extBut _ _ r1 (k1.extBut _ _ q2 hO);refine bw (zm o2 rfl (bw (wpAny_updateSeq_pair o2 λg3 o3 k3=>bw (wpAny_letGo (gV ?_)))));replace o3:IsPair g3 TO x b:=o3;have s2':St2 i g3:=D2.frame _ _ _ s2 λc hc o e=>k3.extBut _ _ (ne hc v2) (k2.extBut _ _ (ne hc v3) (k1.extBut _ _ (ne hc v1) e));refine bw (bw (wpAny_onRaise ?_));show dh _ _ (Builtin.SmallTypes.nextOf (.ref i2) >>= _) _ _ _;refine bw (D2.item i {s with heap:=g3,toks:=t2} _ _ l2 s2' λy g4 t4 py s2'' k4=>gV ?_);have o4:IsPair g4 TO x b:=k4.extBut _ _ r2 o3;refine bw (zm o4 rfl (bw (wpAny_updateSeq_pair o4 λg5 o5 k5=>bw (wpAny_letGo (gV (gV ?_))))));replace o5:IsPair g5 TO x y:=o5;refine bw (zm o5 rfl (bw (wpAny_newTuple ?_)));have sz:g5.objs.size=s.heap.objs.size:=by rw[k5.1,k4.1,k3.1,k2.1,k1.1]
 have z5:IsZip g5 z TI TO .ellipsis:=k5.extBut _ _ (Ne.symm q2) (k4.extBut _ _ (Ne.symm q4) (k3.extBut _ _ (Ne.symm q2) (k2.extBut _ _ (Ne.symm q3) hz1)));have zl:z<g5.objs.size:=gk z5;show dh _ _ (Builtin.SmallTypes.ownedTupleHandOut (.ref z) (.ref g5.objs.size) >>= _) _ _ _;refine bw ?_;unfold Builtin.SmallTypes.ownedTupleHandOut;have z6:IsZip (g5.push {cls:=.type "tuple",data:=.seq #[x,y]}) z TI TO .ellipsis:=dj _ z5;refine bw (wpAny_setField_rec z6 (by simp) λg7 z7 k7=>?_);replace z7:IsZip g7 z TI TO (a0r g5.objs.size):=z7;refine wpAny_setField_rec z7 (by simp) λg8 z8 k8=>?_;replace z8:IsZip g8 z TI TO (a0r g5.objs.size):=z8;have up:∀c o,c≠z->g5.get? c=aj o->g8.get? c=aj o:=λc o n e=>k8.extBut _ _ n (k7.extBut _ _ n (dj _ e));have T8:IsPair g8 g5.objs.size x y:=k8.extBut _ _ (a0k zl) (k7.extBut _ _ (a0k zl) (jd _ rfl));have st1:St1 (i+1) g8:=D1.frame _ _ _ s1' λc hc o e=>up c o (ne hc u1) (k5.extBut _ _ (ne hc u2) (k4.extBut _ _ (ne hc u3) (k3.extBut _ _ (ne hc u2) e)));have st2:St2 (i+1) g8:=D2.frame _ _ _ s2'' λc hc o e=>up c o (ne hc v1) (k5.extBut _ _ (ne hc v2) e);rw[sz]at z8 T8;refine gV ⟨_,rfl,?_⟩;show Q (.ref g5.objs.size) _;rw[sz];exact hQ x y g8 t4 px py z8 (up _ _ q2 o5) st1 st2 T8 λc o c1 c2 c3 c4 e=>up c o c1 (k5.extBut _ _ c2 (k4.extBut _ _ c4 (k3.extBut _ _ c2 (k2.extBut _ _ c3 (k1.extBut _ _ c1 e)))))
theorem aIB{Q:Fin->cg->Prop}(Z:Zap z TI TO i1 i2 fp1 fp2)(D1:Draws prog w A i1 fp1 n1 P1 St1)(hz:IsZip s.heap z TI TO .none)(hI:IsPair s.heap TI (.ref i1) (.ref i2))(s1:St1 n1 s.heap)
  (hE:∀h' e,(∀c o,c≠z->c≠TO->c≠i1->c≠i2->s.heap.get? c=aj o->h'.get? c=aj o)->(∃o,h'.get? e=aj o/\o.cls=.type "StopIteration")->E (.ref e) {s with heap:=h' }) :
  dh (dz prog w) A (Builtin.«zip.__next__» ⟨[.ref z],[]⟩) Q E s:=by
 obtain⟨⟨q1,q2,q3,q4⟩,_,⟨u1,u2,u3⟩,_⟩:=Z;have ne:∀{l:List bx}{b c:bx},b∈l->c∉l->b≠c:=λhb hc e=>hc (e ▸ hb);show dh _ _ (field (.ref z) 2 >>= _) _ _ _;refine bw (jx hz rfl (x:=.bool ao) rfl ?_);show dh _ _ (field (.ref z) 3 >>= _) _ _ _;refine bw (jx hz rfl (x:=.ref TI) rfl (bw (zm hI rfl ?_)));show dh _ _ (Builtin.SmallTypes.ownedTupleIsFree (.ref z) >>= _) _ _ _;refine bw ?_;unfold Builtin.SmallTypes.ownedTupleIsFree;refine bw (jx hz rfl (x:=.none) rfl (gV ?_));simp only[if_true];refine bw (a1d (bw (jx hz rfl (x:=.ref TO) rfl (bw (wpAny_setField_rec hz (by simp) λg1 hz1 k1=>?_)))));replace hz1:IsZip g1 z TI TO .ellipsis:=hz1;refine bw ?_;simp only[List.zipIdx_cons,List.zipIdx_nil,a2e,List.forIn_nil];refine bw (bw (wpAny_onRaise ?_));show dh _ _ (Builtin.SmallTypes.nextOf (.ref i1) >>= _) _ _ _;refine bw (D1.done {s with heap:=g1} _ _ (D1.frame _ _ _ s1 λb hb o e=>k1.extBut _ _ (ne hb u1) e) λg2 e k2 he=>?_);obtain⟨oe,hoe,hce⟩:=he;have z2:IsZip g2 z TI TO .ellipsis:=k2 _ _ (Ne.symm q3) hz1;have ez:e≠z:=λq=>by subst q;rw[z2]at hoe;cases hoe;simp at hce
 refine wpAny_setField_rec z2 (by simp) λg3 _ k3=>hE g3 e (λc o c1 _ c3 _ q=>k3.extBut _ _ c1 (k2 _ _ c3 (k1.extBut _ _ c1 q))) ⟨oe,k3.extBut _ _ ez hoe,hce⟩
end
variable{Q:Option au->cg->Prop}
section
variable{prog:lq}{w:jg}{A:qb}{E:au->cg->Prop}{s:cg}{TI TO:bx}{n1 n2 i:Nat}{P1 P2:Nat->au->Prop}{St1 St2:Nat->jq->Prop}{b:au}
theorem aC4(Z:Zap z TI TO i1 i2 fp1 fp2)(D1:Draws prog w A.in1 i1 fp1 n1 P1 St1)(D2:Draws prog w A.in1 i2 fp2 n2 P2 St2)(l1:i<n1)(l2:i<n2)
  (hz:IsZip s.heap z TI TO .none)(hI:IsPair s.heap TI (.ref i1) (.ref i2))(hO:IsPair s.heap TO a b)(s1:St1 i s.heap)(s2:St2 i s.heap)
  (hQ:∀x y h' tk,P1 i x->P2 i y->IsZip h' z TI TO (a0r s.heap.objs.size)->IsPair h' TO x y->St1 (i+1) h'->St2 (i+1) h'->IsPair h' s.heap.objs.size x y ->
   (∀c o,c≠z->c≠TO->c≠i1->c≠i2->s.heap.get? c=aj o->h'.get? c=aj o)->Q (aj (.ref s.heap.objs.size)) {s with heap:=h',toks:=tk}):dh (dz prog w) A (a0y (.ref z)) Q E s:=by
 have hT:s.TypeIs (.ref z) "zip":=⟨_,hz,rfl⟩;unfold a0y;refine bw (wpAny_attempt (yt (name:=Str.ofString "__next__") hT F.slot_zip_next (a0j F.slot_zip_next hT F.entry_zip_next ?_ (F.args_zip_next_1 _))));exact aC3 Z D1 D2 l1 l2 hz hI hO s1 s2 λx y h' tk a1 a2 a3 a4 a5 a6 a7 a8=>gV (hQ x y h' tk a1 a2 a3 a4 a5 a6 a7 a8)
theorem aC5(Z:Zap z TI TO i1 i2 fp1 fp2)(D1:Draws prog w A.in1 i1 fp1 n1 P1 St1)(hz:IsZip s.heap z TI TO .none)(hI:IsPair s.heap TI (.ref i1) (.ref i2))(s1:St1 n1 s.heap)
  (hQ:∀h',(∀c o,c≠z->c≠TO->c≠i1->c≠i2->s.heap.get? c=aj o->h'.get? c=aj o)->Q aq {s with heap:=h' }):dh (dz prog w) A (a0y (.ref z)) Q E s:=by
 have hT:s.TypeIs (.ref z) "zip":=⟨_,hz,rfl⟩;unfold a0y;refine bw (wpAny_attempt (yt (name:=Str.ofString "__next__") hT F.slot_zip_next (a0j F.slot_zip_next hT F.entry_zip_next (aIB Z D1 hz hI s1 λh' e hk he=>?_) (F.args_zip_next_1 _))));obtain⟨o,ho,hc⟩:=he;refine bw (wpAny_isInstance (T:="StopIteration") (b:=true) ⟨o,ho,hc⟩ isSubtype_stop ?_);exact gV (hQ _ hk)
end
noncomputable abbrev zt1(h:jq)(l1:bx):jq:=h.push {cls:=.type "tuple_iterator",data:=.fields #[.ref l1,.int 0 0]}
noncomputable abbrev zt2(h:jq)(l1 l2:bx):jq:=(zt1 h l1).push {cls:=.type "list_iterator",data:=.fields #[.ref l2,.int 0 0]}
noncomputable abbrev zt3(h:jq)(l1 l2:bx):jq:=(zt2 h l1 l2).push {cls:=.type "tuple",data:=.seq #[.ref h.objs.size,.ref (zt1 h l1).objs.size]}
noncomputable abbrev zt4(h:jq)(l1 l2:bx):jq:=(zt3 h l1 l2).push {cls:=.type "tuple",data:=.seq #[.none,.none]}
noncomputable abbrev zt5(h:jq)(l1 l2:bx):jq:=(zt4 h l1 l2).push {cls:=.type "zip",data:=.fields #[.none,.bool ao,.bool ao,.ref (zt2 h l1 l2).objs.size,.ref (zt3 h l1 l2).objs.size]}
theorem aIC(l1 l2:bx)(xs ys:Array au):Meets (Builtin.«zip.__new__» ⟨[.type "zip",.ref l1,.ref l2],[]⟩) (λ_ R s=>s.heap.IsTuple l1 xs/\s.heap.IsList l2 ys/\R (.ok (.ret (.ref (zt4 s.heap l1 l2).objs.size))) {s with heap:=zt5 s.heap l1 l2}) :=
 .of_wp λprog w A R s h=>by
  obtain⟨hp,g,d,tk,os⟩:=s;obtain⟨h1,h2,h⟩:=h;have hsub:=sub_zip;have a1:Heap.IsTuple (cg.heap ⟨hp,g,d,tk,os⟩) l1 xs:=h1;have a2:Heap.IsList (cg.heap ⟨hp.push {cls:=.type "tuple_iterator",data:=.fields #[.ref l1,.int 0 0]},g,d,tk,os⟩) l2 ys:=Heap.IsList.push h2 _
  wp_walk using wpAny_pyIter_tuple a1,a1s a2
  exact⟨_,rfl,h⟩
section
variable{prog:lq}{w:jg}{A:qb}{E:au->cg->Prop}{s:cg}
theorem aC6{l1 l2:bx}{Q:au->cg->Prop}(h1:s.heap.IsTuple l1 xs)(h2:s.heap.IsList l2 ys)
  (h:∀h',IsZip h' (s.heap.objs.size+4) (s.heap.objs.size+2) (s.heap.objs.size+3) .none->IsPair h' (s.heap.objs.size+2) (.ref s.heap.objs.size) (.ref (s.heap.objs.size+1))->IsPair h' (s.heap.objs.size+3) .none .none->h'.IsTupleIter s.heap.objs.size l1 0->h'.IsListIter (s.heap.objs.size+1) l2 0->(∀c o,s.heap.get? c=aj o->h'.get? c=aj o)->Q (.ref (s.heap.objs.size+4)) {s with heap:=h' }) :
  dh (dz prog w) A (call (.type "zip") [.ref l1,.ref l2]) Q E s:=by
 refine callType_new F.called_zip (by decide) (F.typeCall_zip_2 _ _) (F.newCall_zip_2 _ _) (λobj=>F.args_object_init_3 obj _ _) F.entry_zip_new (aIC l1 l2 xs ys) ⟨h1,h2,?_⟩;have z1:(zt1 s.heap l1).objs.size=s.heap.objs.size+1:=zj ..;have z2:(zt2 s.heap l1 l2).objs.size=s.heap.objs.size+2:=by rw[zj,z1]
 have z3:(zt3 s.heap l1 l2).objs.size=s.heap.objs.size+3:=by rw[zj,z2]
 have z4:(zt4 s.heap l1 l2).objs.size=s.heap.objs.size+4:=by rw[zj,z3]
 have up:∀{h:jq}{o u:Obj}{c:bx},h.get? c=aj u->(h.push o).get? c=aj u:=λe=>dj _ e;have g5:(zt5 s.heap l1 l2).get? (zt4 s.heap l1 l2).objs.size=aj _:=jd _ rfl;have g4:(zt5 s.heap l1 l2).get? (zt3 s.heap l1 l2).objs.size=aj _:=up (jd _ rfl);have g3:(zt5 s.heap l1 l2).get? (zt2 s.heap l1 l2).objs.size=aj _:=up (up (jd _ rfl));have g2:(zt5 s.heap l1 l2).get? (zt1 s.heap l1).objs.size=aj _:=up (up (up (jd _ rfl)));have g1:(zt5 s.heap l1 l2).get? s.heap.objs.size=aj _:=up (up (up (up (jd _ rfl))));show _/\_;rw[z2,z3,z4]at g5;rw[z1,z2]at g3;rw[z3]at g4;rw[z1]at g2;rw[z4];exact⟨⟨_,g5,rfl⟩,h _ g5 g3 g4 ⟨_,g1,rfl,rfl⟩ ⟨_,g2,rfl,rfl⟩ λc o x=>up (up (up (up (up x))))⟩
end
end
variable{b:bx}{pins:List (bx×Obj)}
section
inductive D where
 |non|bl (b:Bool)|int (i:Int)|str (x:Str)|tup (xs:List D)|ref (a:bx)|ty (n:String)
noncomputable abbrev Fg:=iw
abbrev atH(H:Hp)(a:bx)(xs:List V):Prop:=True
theorem atJ(h:H a=aj (.tup xs)):atH H a xs:=trivial
mutual
inductive RD(K:Fg)(H:Hp):D->V->Prop where
 |non:RD K H .non .non
 |bl (b:Bool):RD K H (.bl b) (.bl b)
 |int (i:Int):RD K H (.int i) (.int i)
 |str (x:Str):RD K H (.str x) (.str x)
 |ty (n:String):RD K H (.ty n) (.ty n)
 |ref (a:bx):RD K H (.ref a) (.ref a)
 |tup {a:bx} {xs:List V} {ds:List D}:zL K H a xs->cH K H ds xs->atH H a xs->RD K H (.tup ds) (.ref a)
inductive cH(K:Fg)(H:Hp):List D->List V->Prop where
 |nil:cH K H [] []
 |cons {d:D} {v:V} {ds:List D} {vs:List V}:RD K H d v->cH K H ds vs->cH K H (d::ds) (v::vs)
end
structure Ts(H H':Hp):Prop where
 tups:∀a xs,H a=aj (.tup xs)->H' a=aj (.tup xs)
 lA:∀a o u,H a=aj (.frz o u)->H' a=aj (.frz o u)
theorem Ts.refl(H:Hp):Ts H H:=⟨λ_ _ h=>h,λ_ _ _ h=>h⟩
theorem Ts.trans{H1 H2:Hp}(a:Ts H H1)(b:Ts H1 H2):Ts H H2:=⟨λc xs h=>b.tups c xs (a.tups c xs h),λc o u h=>b.lA c o u (a.lA c o u h)⟩
theorem Ts.same(s:Same H H'):Ts H H':=⟨λa _ h=>s a _ h,λa _ _ h=>s a _ h⟩
theorem Ts.rd(t:Ts H H')(h:Rd H a (.tup xs)):Rd H' a (.tup xs):=by
 rcases h with h|⟨o,h⟩
 .exact .inl (t.tups _ _ h)
 .exact .inr ⟨o,t.lA _ _ _ h⟩
theorem Ts.sqT{K:Fg}(t:Ts H H')(h:zL K H a xs):zL K H' a xs:=h.elim (λq=>.inl (t.rd q)) .inr
theorem atH.mono(t:Ts H H')(h:atH H a xs):atH H' a xs:=trivial
theorem bO(h:H p=aq):Same H (upd H p o):=λb u e=>by
 rw[bT (mL e h)];exact e
mutual
theorem RD.mono{K:Fg}{H H':Hp}(t:Ts H H'):∀{d:D}{v:V},RD K H d v->RD K H' d v
 |_,_,.non=>.non
 |_,_,.bl b=>.bl b
 |_,_,.int i=>.int i
 |_,_,.str x=>.str x
 |_,_,.ty n=>.ty n
 |_,_,.ref a=>.ref a
 |_,_,.tup h r e=>.tup (t.sqT h) (cH.mono t r) (e.mono t)
theorem cH.mono{K:Fg}{H H':Hp}(t:Ts H H'):∀{ds:List D}{vs:List V},cH K H ds vs->cH K H' ds vs
 |_,_,.nil=>.nil
 |_,_,.cons h r=>.cons (RD.mono t h) (cH.mono t r)
end
section
variable{K:Fg}
theorem cH.length:∀{ds:List D}{vs:List V},cH K H ds vs->ds.length=vs.length
 |_,_,.nil=>rfl
 |_,_,.cons _ r=>congrArg (·+1) (cH.length r)
theorem cH.append:∀{ds:List D}{vs:List V}{es:List D}{ws:List V},cH K H ds vs->cH K H es ws->cH K H (ds++es) (vs++ws)
 |_,_,_,_,.nil,s=>s
 |_,_,_,_,.cons h r,s=>.cons h (cH.append r s)
theorem cH.get:∀{ds:List D}{vs:List V}{i:Nat}{d:D},cH K H ds vs->ds[i]?=aj d->∃v,vs[i]?=aj v/\RD K H d v
 |_,_,_,_,.nil,e=>by simp at e
 |_,_,0,_,.cons r _,e=>by simp at e;subst e;exact⟨_,rfl,r⟩
 |_,_,i+1,d,.cons _ t,e=>by
  obtain⟨u,h1,h2⟩:=cH.get (i:=i) (d:=d) t (by simpa using e);exact⟨u,by simpa using h1,h2⟩
theorem cH.aoD:∀{ds:List D}{vs:List V}{i:Nat}{v:V},cH K H ds vs->vs[i]?=aj v->∃d,ds[i]?=aj d/\RD K H d v
 |_,_,_,_,.nil,e=>by simp at e
 |_,_,0,_,.cons r _,e=>by simp at e;subst e;exact⟨_,rfl,r⟩
 |_,_,i+1,d,.cons _ t,e=>by
  obtain⟨u,h1,h2⟩:=cH.aoD (i:=i) (v:=d) t (by simpa using e);exact⟨u,by simpa using h1,h2⟩
theorem cH.set(r:RD K H d v):∀{ds:List D}{vs:List V}(i:Nat),cH K H ds vs->cH K H (ds.set i d) (vs.set i v)
 |_,_,_,.nil=>.nil
 |_,_,0,.cons _ t=>.cons r t
 |_,_,i+1,.cons q t=>.cons q (cH.set r i t)
theorem cH.drop:∀{ds:List D}{vs:List V}(n:Nat),cH K H ds vs->cH K H (ds.drop n) (vs.drop n)
 |_,_,0,r=>r
 |_,_,_+1,.nil=>.nil
 |_,_,n+1,.cons _ t=>cH.drop n t
theorem cH.take:∀{ds:List D}{vs:List V}(n:Nat),cH K H ds vs->cH K H (ds.take n) (vs.take n)
 |_,_,0,_=>.nil
 |_,_,_+1,.nil=>.nil
 |_,_,n+1,.cons r t=>.cons r (cH.take n t)
theorem cH.ints(ns:List Int):cH K H (ns.map D.int) (ns.map V.int):=by
 induction ns with
 |nil=>exact .nil
 |cons n r ih=>exact .cons (.int n) ih
theorem cH.a4W(r:cH K H ds vs):vs=[]↔ds=[]:=by
 cases r<;>simp
end
noncomputable abbrev DK:=Key ⊕ List Key
inductive GO where
 |lst (ds:List D)|rol (ds:List D)|dic (t:Bool) (kvs:List (DK×D))|ins (C:bx) (fs:List (Str×D))|exn (C:bx)|rdc (o:Obj) (t:Bool) (kvs:List (DK×D))|tpl (ds:List D)|kst (ks:List (List Int))
noncomputable abbrev Gp:=Addr->Option GO
noncomputable def aJ(G:Gp)(a:bx)(o:GO):Gp:=λb=>if b=a then aj o else G b
theorem aF:aJ G a o a=aj o:=by unfold aJ;rw[if_pos rfl]
theorem jD(h:b≠a):aJ G a o b=G b:=by unfold aJ;rw[if_neg h]
theorem bD(h:G b=aj u)(n:G a=aq):aJ G a o b=aj u:=by
 rw[jD];exact h;intro e;subst e;rw[h]at n;cases n
def Le(G G':Gp):Prop:=∀a o,G a=aj o->G' a=aj o
theorem Le.refl(G:Gp):Le G G:=λ_ _ h=>h
theorem Le.trans(a:Le G G1)(b:Le G1 G2):Le G G2:=λc o h=>b c o (a c o h)
theorem Le.new(n:G a=aq):Le G (aJ G a o):=λ_ _ h=>bD h n
theorem Le.free(l:Le G G')(h:G' a=aq):G a=aq:=by
 cases q:G a with
 |none=>rfl
 |some o=>have:=l a o q;rw[h]at this;cases this
noncomputable def kD:Key->D
 |.inl i=>.int i
 |.inr x=>.str x
noncomputable def dkD:DK->D
 |.inl k=>kD k
 |.inr ks=>.tup (ks.map kD)
inductive Two{α β:Type}(P:α->β->Prop):List α->List β->Prop where
 |nil:Two P [] []
 |cons {a:α} {b:β} {as:List α} {bs:List β}:P a b->Two P as bs->Two P (a::as) (b::bs)
theorem Two.imp{α β:Type}{P Q:α->β->Prop}(f:∀a b,P a b->Q a b):∀{as:List α}{bs:List β},Two P as bs->Two Q as bs
 |_,_,.nil=>.nil
 |_,_,.cons h r=>.cons (f _ _ h) (Two.imp f r)
theorem Two.length{α β:Type}{P:α->β->Prop}:∀{as:List α}{bs:List β},Two P as bs->as.length=bs.length
 |_,_,.nil=>rfl
 |_,_,.cons _ r=>congrArg (·+1) (Two.length r)
def sE(C a:bx)(h:jq):Prop:=∃o vs,h.get? a=aj o/\o.cls=.ref C/\o.data=.fields vs
noncomputable def toI(ks:List Key):List Int:=ks.map λk=>match k with
 |.inl i=>i
 |.inr _=>0
def aW1(P:lq)(w:jg)(a:bx)(xs:List (List Key×bx×au))(h:jq):Prop:=(a==sysModules)=ao/\∃o es ep,h.get? a=aj o/\o.ExactDict/\o.data=.dict es ep/\es.toList=xs.map (entryOfKey (tupleKind (kZ P w)))/\(xs.map (·.1)).Nodup
noncomputable def OR(K:Fg)(H:Hp)(a:bx):GO->Prop
 |.lst ds=>∃xs,H a=aj (.lst xs)/\cH K H ds xs
 |.rol ds=>∃xs,zN K H a xs/\cH K H ds xs
 |.dic t kvs=>(t=ao/\∃xs:List (Key×V),H a=aj (.dK xs)/\Two (λp q=>p.1=.inl q.1/\RD K H p.2 q.2) kvs xs) ∨
   (t=ak/\∃xs:List (List Key×V),H a=aj (.dT xs)/\Two (λp q=>p.1=.inr q.1/\RD K H p.2 q.2) kvs xs)
 |.ins C fs=>∃(dx:bx)(vs:List (Str×V)),H a=aj (.ins C dx vs)/\Two (λp q=>p.1=q.1/\RD K H p.2 q.2) fs vs
 |.rdc o t kvs=>(t=ao/\∃xs:List (Key×V),H a=aj (.frz o (.dK xs))/\Two (λp q=>p.1=.inl q.1/\RD K H p.2 q.2) kvs xs) ∨
   (t=ak/\∃xs:List (List Key×V),H a=aj (.frz o (.dT xs))/\Two (λp q=>p.1=.inr q.1/\RD K H p.2 q.2) kvs xs)
 |.tpl ds=>∃xs,zL K H a xs/\cH K H ds xs
 |.kst ks=>∃(P:lq)(w:jg)(xs:List (List Key×bx×au)),H a=aj (.ext (aW1 P w a xs))/\(xs.map λx=>toI x.1)=ks/\∀x∈xs,x.1=(toI x.1).map Sum.inl/\zL K H x.2.1 (x.1.map kV)
 |.exn C=>∃o vs,H a=aj (.frz o (.ext (sE C a)))/\o.data=.fields vs/\vs[2]?=aj .none
def HR(K:Fg)(H:Hp)(G:Gp):Prop:=∀a o,G a=aj o->OR K H a o
theorem OR.keep{K:Fg}(t:Ts H H')(h:OR K H a o)(k:∀u,H a=aj u->H' a=aj u):OR K H' a o:=by
 cases o with
 |lst ds=>obtain⟨xs,e,r⟩:=h;exact⟨xs,k _ e,r.mono t⟩
 |rol ds =>
  obtain⟨xs,e,r⟩:=h;refine⟨xs,?_,r.mono t⟩;rcases e with(e|⟨o,e⟩)|e
  .exact .inl (.inl (k _ e))
  .exact .inl (.inr ⟨o,k _ e⟩)
  .exact .inr e
 |dic b kvs =>
  rcases h with⟨z,xs,e,r⟩|⟨z,xs,e,r⟩
  .exact .inl ⟨z,xs,k _ e,r.imp λ_ _ q=>⟨q.1,q.2.mono t⟩⟩
  .exact .inr ⟨z,xs,k _ e,r.imp λ_ _ q=>⟨q.1,q.2.mono t⟩⟩
 |ins C fs=>obtain⟨dx,vs,e,r⟩:=h;exact⟨dx,vs,k _ e,r.imp λ_ _ q=>⟨q.1,q.2.mono t⟩⟩
 |rdc ob b kvs =>
  rcases h with⟨z,xs,e,r⟩|⟨z,xs,e,r⟩
  .exact .inl ⟨z,xs,k _ e,r.imp λ_ _ q=>⟨q.1,q.2.mono t⟩⟩
  .exact .inr ⟨z,xs,k _ e,r.imp λ_ _ q=>⟨q.1,q.2.mono t⟩⟩
 |exn C=>obtain⟨o,vs,e,r⟩:=h;exact⟨o,vs,k _ e,r⟩
 |tpl ds=>obtain⟨xs,e,r⟩:=h;exact⟨xs,t.sqT e,r.mono t⟩
 |kst ks=>obtain⟨P,w,xs,e,r,q⟩:=h;exact⟨P,w,xs,k _ e,r,λx hx=>⟨(q x hx).1,t.sqT (q x hx).2⟩⟩
theorem HR.same{K:Fg}(h:HR K H G)(s:Same H H'):HR K H' G:=λa o e=>(h a o e).keep (.same s) λu q=>s a u q
theorem HR.le{K:Fg}(h:HR K H G')(l:Le G G'):HR K H G:=λa o e=>h a o (l a o e)
theorem HR.put{K:Fg}(h:HR K H G)(n:H p=aq)(new:OR K (upd H p o) p u):HR K (upd H p o) (aJ G p u):=λa v e=>by
 by_cases q:a=p
 .subst q;rw[aF]at e;cases e;exact new
 .rw[jD q]at e;exact(h a v e).keep (.same (bO n)) λw z=>bO n a w z
theorem HR.turn{K:Fg}(h:HR K H G)(t:Ts H (upd H p o))(new:OR K (upd H p o) p u):HR K (upd H p o) (aJ G p u):=λa v e=>by
 by_cases q:a=p
 .subst q;rw[aF]at e;cases e;exact new
 .rw[jD q]at e;exact(h a v e).keep t λw z=>by rw[bT q];exact z
theorem Ts.turn(e:H p=aj u)(h1:∀xs,u≠.tup xs)(h2:∀ob w,u≠.frz ob w):Ts H (upd H p o):=by
 refine⟨λa xs q=>?_,λa ob w q=>?_⟩
 .rw[bT];exact q;intro z;subst z;rw[e]at q;exact h1 xs (mz.inj q)
 .rw[bT];exact q;intro z;subst z;rw[e]at q;exact h2 ob w (mz.inj q)
noncomputable abbrev aL:=List (Option D)
abbrev iG:=D->Gp->Prop
abbrev dB:=aL->Gp->iG->Prop
abbrev TT3:=aL->Gp->(Bool->Gp->Prop)->Prop
abbrev wL:=aL->Gp->(List D->Gp->Prop)->Prop
noncomputable def at3:aL->Nat->Option D
 |[],_=>aq
 |x::_,0=>x
 |_::r,n+1=>at3 r n
noncomputable def a2E:aL->Nat->D->aL
 |[],_,_=>[]
 |_::r,0,d=>aj d::r
 |x::r,n+1,d=>x::a2E r n d
inductive SR(K:Fg)(H:Hp):aL->St->Prop where
 |nil:SR K H [] []
 |none {ρ:aL} {σ:St} {v:Option V}:SR K H ρ σ->SR K H (a1x::ρ) (v::σ)
 |some {ρ:aL} {σ:St} {d:D} {v:V}:RD K H d v->SR K H ρ σ->SR K H (mz d::ρ) (mz v::σ)
theorem SR.mono{K:Fg}(t:Ts H H'):∀{ρ:aL}{σ:St},SR K H ρ σ->SR K H' ρ σ
 |_,_,.nil=>.nil
 |_,_,.none r=>.none (SR.mono t r)
 |_,_,.some h r=>.some (h.mono t) (SR.mono t r)
theorem SR.get{K:Fg}:∀{ρ:aL}{σ:St}{i:Nat}{d:D},SR K H ρ σ->at3 ρ i=mz d->∃v,σ[i]?=mz (mz v)/\RD K H d v
 |_,_,_,_,.nil,e=>by simp[at3]at e
 |_,_,0,_,.none _,e=>by simp[at3]at e
 |_,_,0,_,.some h _,e=>by simp[at3]at e;subst e;exact⟨_,rfl,h⟩
 |_,_,i+1,_,.none r,e=>by
  obtain⟨v,h1,h2⟩:=SR.get (i:=i) r (by simpa[at3]using e);exact⟨v,by simpa using h1,h2⟩
 |_,_,i+1,_,.some _ r,e=>by
  obtain⟨v,h1,h2⟩:=SR.get (i:=i) r (by simpa[at3]using e);exact⟨v,by simpa using h1,h2⟩
theorem SR.set{K:Fg}(q:RD K H d v):∀{ρ:aL}{σ:St}(i:Nat),SR K H ρ σ->SR K H (a2E ρ i d) (σ.set i (mz v))
 |_,_,_,.nil=>.nil
 |_,_,0,.none r=>.some q r
 |_,_,0,.some _ r=>.some q r
 |_,_,i+1,.none r=>.none (SR.set q i r)
 |_,_,i+1,.some h r=>.some h (SR.set q i r)
noncomputable def ai4(n:Nat)(ds:List D):aL:=ds.map mz++ji (n - ds.length) a1x
theorem SR.nones{K:Fg}:∀n:Nat,SR K H (ji n a1x) (ji n a1x)
 |0=>.nil
 |n+1=>.none (SR.nones n)
theorem SR.entry{K:Fg}{k:Nat}:∀{ds:List D}{vs:List V},cH K H ds vs->SR K H (ds.map mz++ji k a1x) (vs.map mz++ji k a1x)
 |_,_,.nil=>SR.nones k
 |_,_,.cons h r=>.some h (SR.entry r)
noncomputable def upE(K:Fg)(t:dB):TE:=λσ H Q=>∃ρ G R,SR K H ρ σ/\HR K H G/\t ρ G R/\∀v H' d G',Ts H H'->RD K H' d v->HR K H' G'->R d G'->Q v H'
noncomputable def upT(K:Fg)(t:TT3):TT:=λσ H Q=>∃ρ G R,SR K H ρ σ/\HR K H G/\t ρ G R/\∀b H' G',Ts H H'->HR K H' G'->R b G'->Q b H'
noncomputable def upA(K:Fg)(t:wL):TA:=λσ H Q=>∃ρ G R,SR K H ρ σ/\HR K H G/\t ρ G R/\∀vs H' ds G',Ts H H'->cH K H' ds vs->HR K H' G'->R ds G'->Q vs H'
abbrev dR(X:Cx)(e:jt)(t:dB):Prop:=PE X e (upE X.K t)
abbrev PT3(X:Cx)(e:jt)(t:TT3):Prop:=PT X e (upT X.K t)
abbrev PW3(X:Cx)(e:jt)(t:TT3):Prop:=PW X e (upT X.K t)
abbrev PA3(X:Cx)(es:List jt)(t:wL):Prop:=PA X es (upA X.K t)
structure cD where
 nx:aL->Gp->Prop
 rt:iG
 bk:aL->Gp->Prop:=λ_ _=>False
 ct:aL->Gp->Prop:=λ_ _=>False
abbrev aZ:=cD->aL->Gp->Prop
structure UpD(K:Fg)(E:cD)(F:Ends):Prop where
 nx:∀ρ G σ H',SR K H' ρ σ->HR K H' G->E.nx ρ G->F.nx σ H'
 rt:∀d G v H',RD K H' d v->HR K H' G->E.rt d G->F.rt v H'
 bk:∀ρ G σ H',SR K H' ρ σ->HR K H' G->E.bk ρ G->F.bk σ H'
 ct:∀ρ G σ H',SR K H' ρ σ->HR K H' G->E.ct ρ G->F.ct σ H'
noncomputable def upS(K:Fg)(t:aZ):TS:=λF σ H=>∃ρ G E,SR K H ρ σ/\HR K H G/\t E ρ G/\UpD K E F
abbrev PS3(X:Cx)(st:mj)(t:aZ):Prop:=PS X st (upS X.K t)
abbrev a4Y(X:Cx)(st:List mj)(t:aZ):Prop:=PSs X st (upS X.K t)
section
variable{X:Cx}
theorem PE.imp(h:PE X e t)(k:∀σ H Q,t' σ H Q->t σ H Q):PE X e t':=λpins s σ H Q I q=>h pins s σ H Q I (k _ _ _ q)
theorem PT.imp(h:PT X e t)(k:∀σ H Q,t' σ H Q->t σ H Q):PT X e t':=λpins s σ H Q I q=>h pins s σ H Q I (k _ _ _ q)
theorem PW.imp(h:PW X e t)(k:∀σ H Q,t' σ H Q->t σ H Q):PW X e t':=λwh pins s σ H Q I q=>h wh pins s σ H Q I (k _ _ _ q)
theorem PA.imp(h:PA X e t)(k:∀σ H Q,t' σ H Q->t σ H Q):PA X e t':=λp pins s σ H Q I q=>h p pins s σ H Q I (k _ _ _ q)
theorem PS.imp(h:PS X e t)(k:∀F σ H,t' F σ H->t F σ H):PS X e t':=λpins s σ H F I q=>h pins s σ H F I (k _ _ _ q)
def KF(K:Fg)(H:Hp):Prop:=∀b o,K.lookup b=aj o->H b=aq
theorem yC(I:Inv X pins σ H s):KF X.K H:=λb o e=>(I.bs b o (I.ok.mod.kin b o e)).2
theorem PE.kf(h:PE X e t):PE X e (λσ H Q=>t σ H λv H'=>KF X.K H'->Q v H'):=λpins s σ H Q I q =>
 eU (h pins s σ H _ I q) λ_ _ ⟨v,H',I',r,q'⟩=>⟨v,H',I',r,q' (yC I')⟩
theorem PSs.imp(h:PSs X e t)(k:∀F σ H,t' F σ H->t F σ H):PSs X e t':=λpins s σ H F I q=>h pins s σ H F I (k _ _ _ q)
end
theorem uX{K:Fg}(g:HR K H G)(n:H p=aq)(k:KF K (upd H p o)):G p=aq:=by
 have kn:K.lookup p=aq:=by
  cases q:K.lookup p with
  |none=>rfl
  |some u=>have:=k p u q;rw[aP]at this;cases this
 cases q:G p with
 |none=>rfl
 |some u =>
  have z:=g p u q;cases u with
  |lst ds=>obtain⟨xs,e,_⟩:=z;rw[n]at e;cases e
  |rol ds =>
   obtain⟨xs,e,_⟩:=z;rcases e with(e|⟨o,e⟩)|⟨o,_,_,e,_⟩
   .rw[n]at e;cases e
   .rw[n]at e;cases e
   .rw[kn]at e;cases e
  |dic tt kvs =>
   rcases z with⟨_,xs,e,_⟩|⟨_,xs,e,_⟩
   .rw[n]at e;cases e
   .rw[n]at e;cases e
  |rdc ob tt kvs =>
   rcases z with⟨_,xs,e,_⟩|⟨_,xs,e,_⟩
   .rw[n]at e;cases e
   .rw[n]at e;cases e
  |ins C fs=>obtain⟨dx,vs,e,_⟩:=z;rw[n]at e;cases e
  |exn C=>obtain⟨o,vs,e,_⟩:=z;rw[n]at e;cases e
  |kst ks=>obtain⟨_,_,_,e,_⟩:=z;rw[n]at e;cases e
  |tpl ds =>
   obtain⟨xs,e,_⟩:=z;rcases e with(e|⟨o,e⟩)|⟨o,_,_,e,_⟩
   .rw[n]at e;cases e
   .rw[n]at e;cases e
   .rw[kn]at e;cases e
section
variable{X:Cx}{b c:jt}{ta tb tc:dB}
noncomputable def aB(i:Nat):dB:=λρ G R=>match at3 ρ i with
 |some d=>R d G
 |none=>False
noncomputable def aG(d:D):dB:=λ_ G R=>R d G
set_option tactic.hygienic true in
theorem aIE{K:Fg}{i:Nat}{Q:VK}(h:upE K (aB i) σ H Q):aPD i σ H Q:=by
 obtain⟨ρ,G,R,s,g,t,k⟩:=h;unfold aB at t;split at t
 .rename_i d e;obtain⟨v,h1,h2⟩:=s.get e;exact⟨v,h1,k v H d G (.refl H) h2 g t⟩
 .exact t.elim
theorem atN{K:Fg}(r:∀H,RD K H d v){Q:VK}(h:upE K (aG d) σ H Q):tC v σ H Q:=by
 obtain⟨ρ,G,R,s,g,t,k⟩:=h;exact k v H d G (.refl H) (r H) g t
theorem aQC(i:Nat){pos:Pos}(hN:X.N[i]?=aj x:=by rfl)(hv:Vis X.env.scope x:=by first|exact Or.inl rfl|exact Or.inr (Or.inl rfl)|exact Or.inr (Or.inr rfl))(hd:(x==("__debug__":Str))=ao:=by decide)
  (hcd:(x==("__classdict__":Str))=ao:=by decide):dR X (.Name x pos) (aB i):=PE.imp (aH7 hN hv hd hcd) λ_ _ _ h=>aIE h
theorem aQD{i j pos}:dR X (.Constant (.int i) j pos) (aG (.int i)):=PE.imp aH8 λ_ _ _ h=>atN (λ_=>.int i) h
theorem aW2{b j pos}:dR X (.Constant (.bool b) j pos) (aG (.bl b)):=PE.imp aPE λ_ _ _ h=>atN (λ_=>.bl b) h
theorem aQE{j pos}:dR X (.Constant .none j pos) (aG .non):=PE.imp aH9 λ_ _ _ h=>atN (λ_=>.non) h
theorem aQF{x j pos}:dR X (.Constant (.str x) j pos) (aG (.str x)):=PE.imp aHA λ_ _ _ h=>atN (λ_=>.str x) h
theorem aoE{pos:Pos}(hg:Gl X x)(hm:X.mg x=aj u)(r:RelV v u)(rd:∀H,RD X.K H d v)(hd:(x==("__debug__":Str))=ao:=by decide):dR X (.Name x pos) (aG d) :=
 PE.imp (aqE hg hm r hd) λ_ _ _ h=>atN rd h
theorem aIF{n:String}{pos:Pos}(hg:Gl X x)(hm:X.mg x=aq)(hv:jz x=aj (.type n))(hn:x≠"__name__":=by decide)(hd:(x==("__debug__":Str))=ao:=by decide):dR X (.Name x pos) (aG (.ty n)) :=
 PE.imp (aBE hg hm hv (v:=.ty n) rfl hn hd) λ_ _ _ h=>atN (λ_=>.ty n) h
abbrev R3:=D->D->Gp->iG->Prop
def OpI(K:Fg)(r:R2)(r3:R3):Prop:=∀(H:Hp)(x y:D)(vx vy:V)(G:Gp)(R:iG)(Q:VK),RD K H x vx->RD K H y vy->HR K H G->r3 x y G R->(∀v H' d G',Ts H H'->RD K H' d v->HR K H' G'->R d G'->Q v H')->r vx vy H λv H'=>KF K H'->Q v H'
def a9D(X:Cx)(f:au->au->Sem au)(r3:R3):Prop:=∃r,zG X f r/\OpI X.K r r3
def OpC(K:Fg)(r:R2)(r3:R3):Prop:=∀(H:Hp)(x y:D)(vx vy:V)(G:Gp)(R:iG)(Q:VK),RD K H x vx->RD K H y vy->HR K H G->r3 x y G R->(∀v H' d G',Ts H H'->RD K H' d v->HR K H' G'->R d G'->Q v H')->r vx vy H Q
def zH(X:Cx)(f:au->au->Sem au)(r3:R3):Prop:=∃r,zG X f r/\OpC X.K r r3
noncomputable def aD(r:R3)(ta tb:dB):dB:=λρ G R=>ta ρ G λx G1=>tb ρ G1 λy G2=>r x y G2 R
variable{r3:R3}
theorem aQG{K:Fg}(o:OpI K r r3){Q:VK}(h:upE K (aD r3 ta tb) σ H Q):tOp r (upE K ta) (upE K tb) σ H λv H'=>KF K H'->Q v H':=by
 obtain⟨ρ,G,R,s,g,t,k⟩:=h;refine⟨ρ,G,_,s,g,t,λvx H1 x G1 t1 rx g1 t'=>?_⟩;refine⟨ρ,G1,_,s.mono t1,g1,t',λvy H2 y G2 t2 ry g2 t''=>?_⟩;exact o H2 x y vx vy G2 R Q (rx.mono t2) ry g2 t'' λv H' d G' t3=>k v H' d G' ((t1.trans t2).trans t3)
theorem aoF{K:Fg}(o:OpC K r r3){Q:VK}(h:upE K (aD r3 ta tb) σ H Q):tOp r (upE K ta) (upE K tb) σ H Q:=by
 obtain⟨ρ,G,R,s,g,t,k⟩:=h;refine⟨ρ,G,_,s,g,t,λvx H1 x G1 t1 rx g1 t'=>?_⟩;refine⟨ρ,G1,_,s.mono t1,g1,t',λvy H2 y G2 t2 ry g2 t''=>?_⟩;exact o H2 x y vx vy G2 R Q (rx.mono t2) ry g2 t'' λv H' d G' t3=>k v H' d G' ((t1.trans t2).trans t3)
theorem aQH(o:a9D X (vp op) r3)(ha:dR X a ta)(hb:dR X b tb):dR X (.BinOp a op b pos) (aD r3 ta tb):=by
 obtain⟨r,o1,o2⟩:=o;exact PE.imp (PE.kf (aPT o1 ha hb)) λ_ _ _ h=>aQG o2 h
theorem aQI(o:zH X (ni op) r3)(ha:dR X a ta)(hb:dR X b tb)(hm:a1e op b=ao):dR X (.Compare a [op] [b] pos) (aD r3 ta tb):=by
 obtain⟨r,o1,o2⟩:=o;exact PE.imp (aBN o1 ha hb hm) λ_ _ _ h=>aoF o2 h
noncomputable def aK(t:dB):TT3:=λρ G R=>t ρ G λx G1=>match x with
 |.bl k=>R k G1
 |_=>False
theorem ai5{K:Fg}(f:∀σ H Q,upE K t3 σ H Q->t σ H Q)(h:upT K (aK t3) σ H Q):aw4 t σ H Q:=by
 obtain⟨ρ,G,R,s,g,u,k⟩:=h;refine f _ _ _ ⟨ρ,G,_,s,g,u,λv H' d G' t1 r g1 q=>?_⟩;cases r with
 |bl b=>exact⟨b,rfl,k b H' G' t1 g1 q⟩
 |_=>exact q.elim
theorem aG3(o:zH X (ni op) r3)(ha:dR X a ta)(hb:dR X b tb)(hm:a1e op b=ao):PT3 X (.Compare a [op] [b] pos) (aK (aD r3 ta tb)):=by
 obtain⟨r,o1,o2⟩:=o;exact PT.imp (aBO o1 ha hb hm) λ_ _ _ h=>ai5 (λ_ _ _=>aoF o2) h
theorem aQJ{e:jt}(h:dR X e t)(he:∀whole,isTrue e X.env whole=(do let v ←whole;standAt e.pos;a1a [v] (truthy v)):=by intro _;rfl):PT3 X e (aK t) :=
 PT.imp (aHB h he) λ_ _ _ h=>ai5 (λ_ _ _ q=>q) h
noncomputable def uE(r r':R3)(ta tb tc:dB):dB:=λρ G R=>ta ρ G λx G1=>tb ρ G1 λy G2=>r x y G2 λz G3=>match z with
 |.bl ak=>tc ρ G3 λw G4=>r' y w G4 R
 |.bl ao=>R (.bl ao) G3
 |_=>False
variable{r3':R3}
theorem al3{K:Fg}(o:OpC K r r3)(o':OpC K r' r3'){Q:VK}(h:upE K (uE r3 r3' ta tb tc) σ H Q):ao3 r r' (upE K ta) (upE K tb) (upE K tc) σ H Q:=by
 obtain⟨ρ,G,R,s,g,t,k⟩:=h;refine⟨ρ,G,_,s,g,t,λvx H1 x G1 t1 rx g1 t'=>?_⟩;refine⟨ρ,G1,_,s.mono t1,g1,t',λvy H2 y G2 t2 ry g2 t''=>?_⟩;refine o H2 x y vx vy G2 _ _ (rx.mono t2) ry g2 t'' λv H3 d G3 t3 rd g3 q=>?_;cases rd with
 |bl b =>
  refine⟨b,rfl,?_⟩;cases b with
  |true =>
   rw[if_pos rfl];refine⟨ρ,G3,_,s.mono ((t1.trans t2).trans t3),g3,q,λvw H4 w G4 t4 rw' g4 q'=>?_⟩;exact o' H4 y w vy vw G4 R Q (ry.mono (t3.trans t4)) rw' g4 q' λv H' d G' t5=>k v H' d G' (((t1.trans t2).trans t3).trans (t4.trans t5))
  |false =>
   rw[if_neg vf];exact k _ H3 _ G3 ((t1.trans t2).trans t3) (.bl ao) g3 q
 |_=>exact q.elim
theorem aC7(o:zH X (ni op) r3)(o':zH X (ni op') r3')(ha:dR X a ta)(hb:dR X b tb)(hc:dR X c tc)
  (hm:lastMarks [op,op'] [b,c]=ao:=by with_unfolding_all rfl):dR X (.Compare a [op,op'] [b,c] pos) (uE r3 r3' ta tb tc):=by
 obtain⟨r,o1,o2⟩:=o;obtain⟨r',o1',o2'⟩:=o';exact PE.imp (aw5 o1 o1' ha hb hc hm) λ_ _ _ h=>al3 o2 o2' h
theorem aC8(o:zH X (ni op) r3)(o':zH X (ni op') r3')(ha:dR X a ta)(hb:dR X b tb)(hc:dR X c tc)
  (hm:lastMarks [op,op'] [b,c]=ao:=by with_unfolding_all rfl):PT3 X (.Compare a [op,op'] [b,c] pos) (aK (uE r3 r3' ta tb tc)):=by
 obtain⟨r,o1,o2⟩:=o;obtain⟨r',o1',o2'⟩:=o';exact PT.imp (aw6 o1 o1' ha hb hc hm) λ_ _ _ h=>ai5 (λ_ _ _=>al3 o2 o2') h
variable{sa sb:TT3}{rest:List jt}
noncomputable def ac8(t u:TT3):TT3:=λρ G R=>t ρ G λc G1=>if c=ak then u ρ G1 R else R ao G1
noncomputable def aoG(t u:TT3):TT3:=λρ G R=>t ρ G λc G1=>if c=ak then R ak G1 else u ρ G1 R
noncomputable def yD(t:TT3):TT3:=λρ G R=>t ρ G λc G1=>R (!c) G1
theorem aIG{K:Fg}(h:upT K (ac8 sa sb) σ H Q):aPF (upT K sa) (upT K sb) σ H Q:=by
 obtain⟨ρ,G,R,s,g,t,k⟩:=h;refine⟨ρ,G,_,s,g,t,λc H1 G1 t1 g1 q=>?_⟩;cases c with
 |true=>exact⟨ρ,G1,R,s.mono t1,g1,q,λb H' G' t2=>k b H' G' (t1.trans t2)⟩
 |false=>exact k ao H1 G1 t1 g1 q
theorem aQK{K:Fg}(h:upT K (aoG sa sb) σ H Q):tOr (upT K sa) (upT K sb) σ H Q:=by
 obtain⟨ρ,G,R,s,g,t,k⟩:=h;refine⟨ρ,G,_,s,g,t,λc H1 G1 t1 g1 q=>?_⟩;cases c with
 |false=>exact⟨ρ,G1,R,s.mono t1,g1,q,λb H' G' t2=>k b H' G' (t1.trans t2)⟩
 |true=>exact k ak H1 G1 t1 g1 q
theorem aIH(ha:PT3 X a sa):PW3 X (.BoolOp .And [a] pos) sa:=aBF ha
theorem aQL(ha:PT3 X a sa):PW3 X (.BoolOp .Or [a] pos) sa:=aHC ha
theorem aQM(ha:PT3 X a sa)(hb:PW3 X (.BoolOp .And (b::rest) pos) sb):PW3 X (.BoolOp .And (a::b::rest) pos) (ac8 sa sb):=PW.imp (aHD ha hb) λ_ _ _ h=>aIG h
theorem aW3(ha:PT3 X a sa)(hb:PW3 X (.BoolOp .Or (b::rest) pos) sb):PW3 X (.BoolOp .Or (a::b::rest) pos) (aoG sa sb):=PW.imp (aPG ha hb) λ_ _ _ h=>aQK h
theorem aQN(ha:PT3 X a sa):PT3 X (.UnaryOp .Not a pos) (yD sa):=PT.imp (aHE ha) λσ H Q h=>by
 obtain⟨ρ,G,R,s,g,t,k⟩:=h;exact⟨ρ,G,_,s,g,t,λc H1 G1 t1 g1 q=>k (!c) H1 G1 t1 g1 q⟩
noncomputable def wU(ta tb:dB):dB:=λρ G R=>ta ρ G λx G1=>match x with
 |.bl ak=>tb ρ G1 R
 |.bl ao=>R (.bl ao) G1
 |_=>False
noncomputable def aG4(ta tb:dB):dB:=λρ G R=>ta ρ G λx G1=>match x with
 |.bl ak=>R (.bl ak) G1
 |.bl ao=>tb ρ G1 R
 |_=>False
noncomputable def ai6(ta:dB):dB:=λρ G R=>ta ρ G λx G1=>match x with
 |.bl c=>R (.bl (!c)) G1
 |_=>False
theorem aG5{op}(h:dR X a ta):dR X (.BoolOp op [a] pos) ta:=aHF h
theorem aQO(ha:dR X a ta)(hb:dR X (.BoolOp .And (b::rest) pos) tb):dR X (.BoolOp .And (a::b::rest) pos) (wU ta tb):=PE.imp (aHG ha hb) λσ H Q h=>by
 obtain⟨ρ,G,R,s,g,t,k⟩:=h;refine⟨ρ,G,_,s,g,t,λv H1 x G1 t1 r g1 q=>?_⟩;cases r with
 |bl c =>
  refine⟨c,rfl,?_⟩;cases c with
  |true=>exact⟨ρ,G1,R,s.mono t1,g1,q,λb H' d G' t2=>k b H' d G' (t1.trans t2)⟩
  |false=>exact k _ H1 _ G1 t1 (.bl ao) g1 q
 |_=>exact q.elim
theorem aW4(ha:dR X a ta)(hb:dR X (.BoolOp .Or (b::rest) pos) tb):dR X (.BoolOp .Or (a::b::rest) pos) (aG4 ta tb):=PE.imp (aPJ ha hb) λσ H Q h=>by
 obtain⟨ρ,G,R,s,g,t,k⟩:=h;refine⟨ρ,G,_,s,g,t,λv H1 x G1 t1 r g1 q=>?_⟩;cases r with
 |bl c =>
  refine⟨c,rfl,?_⟩;cases c with
  |false=>exact⟨ρ,G1,R,s.mono t1,g1,q,λb H' d G' t2=>k b H' d G' (t1.trans t2)⟩
  |true=>exact k _ H1 _ G1 t1 (.bl ak) g1 q
 |_=>exact q.elim
theorem aQP(ha:dR X a ta):dR X (.UnaryOp .Not a pos) (ai6 ta):=PE.imp (aHH ha) λσ H Q h=>by
 obtain⟨ρ,G,R,s,g,t,k⟩:=h;refine⟨ρ,G,_,s,g,t,λv H1 x G1 t1 r g1 q=>?_⟩;cases r with
 |bl c=>exact⟨c,rfl,k _ H1 _ G1 t1 (.bl _) g1 q⟩
 |_=>exact q.elim
end
section
variable{X:Cx}{t:wL}
noncomputable def aC:wL:=λ_ G R=>R [] G
noncomputable def aA(ta:dB)(tr:wL):wL:=λρ G R=>ta ρ G λx G1=>tr ρ G1 λxs G2=>R (x::xs) G2
theorem ac9:PA3 X [] aC:=PA.imp aHY λσ H Q h=>by
 obtain⟨ρ,G,R,s,g,t,k⟩:=h;exact k [] H [] G (.refl H) .nil g t
theorem sG(ha:dR X e te)(hr:PA3 X es t)(hs:jm (e::es) X.env=(ao,eval e X.env)::jm es X.env:=by rfl):PA3 X (e::es) (aA te t):=PA.imp (aBQ ha hr hs) λσ H Q h=>by
 obtain⟨ρ,G,R,s,g,t,k⟩:=h;refine⟨ρ,G,_,s,g,t,λv H1 x G1 t1 r g1 q=>?_⟩;refine⟨ρ,G1,_,s.mono t1,g1,q,λvs H2 xs G2 t2 rs g2 q'=>?_⟩;exact k (v::vs) H2 (x::xs) G2 (t1.trans t2) (.cons (r.mono t2) rs) g2 q'
noncomputable def dO(t:wL):dB:=λρ G R=>t ρ G λxs G1=>xs.length<=cj/\R (.tup xs) G1
noncomputable def bL(t:wL):dB:=λρ G R=>t ρ G λxs G1=>xs.length<=cj/\∀p,G1 p=aq->R (.ref p) (aJ G1 p (.lst xs))
theorem aQQ{x1}(h:PA3 X es t):dR X (.Tuple es x1 pos) (dO t):=PE.imp (aHZ h) λσ H Q h=>by
 obtain⟨ρ,G,R,s,g,t,k⟩:=h;refine⟨ρ,G,_,s,g,t,λvs H1 xs G1 t1 r g1 q=>?_⟩;refine⟨by rw[←r.length];exact q.1,λp hp=>?_⟩;have sn:Same H1 (upd H1 p (.tup vs)):=bO hp;exact k (.ref p) _ (.tup xs) G1 (t1.trans (.same sn)) (.tup (zL.of aP) (r.mono (.same sn)) (atJ aP)) (g1.same sn) q.2
theorem aQR(h:PA3 X es t):dR X (.List es pos) (bL t):=PE.imp (PE.kf (aI0 h)) λσ H Q h=>by
 obtain⟨ρ,G,R,s,g,t,k⟩:=h;refine⟨ρ,G,_,s,g,t,λvs H1 xs G1 t1 r g1 q=>?_⟩;refine⟨by rw[←r.length];exact q.1,λp hp kf=>?_⟩;have sn:Same H1 (upd H1 p (.lst vs)):=bO hp;exact k (.ref p) _ (.ref p) _ (t1.trans (.same sn)) (.ref p) (g1.put (u:=.lst xs) hp ⟨vs,aP,r.mono (.same sn)⟩) (q.2 p (uX g1 hp kf))
end
end
section
variable{f:au->au->Sem au}
section
variable{X:Cx}{a b c:jt}
noncomputable def rI3(C:Int->Int->Prop)(g:Int->Int->Int):R3:=λx y G R=>match x,y with
 |.int i,.int j=>C i j/\R (.int (g i j)) G
 |_,_=>False
noncomputable def aQT(g:Int->Int->Int):R3:=λx y G R=>match x,y with
 |.int i,.int j=>R (.int (g i j)) G
 |_,_=>False
noncomputable def aII(g:Int->Int->Bool):R3:=λx y G R=>match x,y with
 |.int i,.int j=>R (.bl (g i j)) G
 |_,_=>False
theorem aqO{C:Int->Int->Prop}{g:Int->Int->Int}(h:zG X f (rI C λi j=>.int (g i j))):a9D X f (rI3 C g):=by
 refine⟨_,h,λH x y vx vy G R Q rx ry gh h k=>?_⟩;cases rx with
 |int i =>
  cases ry with
  |int j=>exact⟨i,j,rfl,rfl,h.1,λ_=>k _ H _ G (.refl H) (.int _) gh h.2⟩
  |_=>exact False.elim h
 |_=>exact False.elim h
theorem aIJ{g:Int->Int->Int}(h:zG X f (rI0 λi j=>.int (g i j))):a9D X f (aQT g):=by
 refine⟨_,h,λH x y vx vy G R Q rx ry gh h k=>?_⟩;cases rx with
 |int i =>
  cases ry with
  |int j=>exact⟨i,j,rfl,rfl,λ_=>k _ H _ G (.refl H) (.int _) gh h⟩
  |_=>exact False.elim h
 |_=>exact False.elim h
theorem awI{g:Int->Int->Bool}(h:zG X f (rI0 λi j=>.bl (g i j))):zH X f (aII g):=by
 refine⟨_,h,λH x y vx vy G R Q rx ry gh h k=>?_⟩;cases rx with
 |int i =>
  cases ry with
  |int j=>exact⟨i,j,rfl,rfl,k _ H _ G (.refl H) (.bl _) gh h⟩
  |_=>exact False.elim h
 |_=>exact False.elim h
noncomputable def a2L:R3:=aQT λi j=>i - j
noncomputable def qY:R3:=rI3 aw2 λi j=>i*j
noncomputable def bI:R3:=rI3 aHP λi j=>i / j
noncomputable def bA:R3:=rI3 (λ_ j=>0<j) λi j=>i%j
noncomputable def agO:R3:=rI3 aHQ λi j=>i^j.toNat
theorem aQU:a9D X (vp .Sub) a2L:=aIJ aHS
theorem aQV:a9D X (vp .Mult) qY:=aqO aHT
theorem aIK:a9D X (vp .FloorDiv) bI:=aqO aBM
theorem aQW:a9D X (vp .Mod) bA:=aqO aHU
theorem aQX:a9D X (vp .Pow) agO:=aqO aHV
noncomputable def acA:R3:=aII λi j=>decide (i<j)
noncomputable def awJ:R3:=aII λi j=>decide (j<i)
theorem aW5:zH X (ni .Lt) acA:=awI aPW
theorem aW6:zH X (ni .Gt) awJ:=awI aPY
noncomputable def awK:R3:=λx y G R=>match x,y with
 |.int i,.int j=>R (.bl (decide (i<=j))) G
 |.str i,.str j=>R (.bl (!decide (j.cps.toList<i.cps.toList))) G
 |_,_=>False
theorem atO:zG X (ni .LtE) (λx y H Q=>∃i j,x=.str i/\y=.str j/\Q (.bl (!decide (j.cps.toList<i.cps.toList))) H):=by
 intro pins s σ H x y v u Q I rx ry h;obtain⟨i,j,rfl,rfl,q⟩:=h;obtain⟨t,rfl⟩:=rx;obtain⟨t',rfl⟩:=ry;exact PySem.P.le_str ⟨.bl _,H,I,rfl,q⟩
theorem aW7:zH X (ni .LtE) awK:=by
 refine⟨_,aPX.or atO,λH x y vx vy G R Q rx ry gh h k=>?_⟩;cases rx with
 |int i =>
  cases ry with
  |int j=>exact .inl ⟨i,j,rfl,rfl,k _ H _ G (.refl H) (.bl _) gh h⟩
  |_=>exact False.elim h
 |str i =>
  cases ry with
  |str j=>exact .inr ⟨i,j,rfl,rfl,k _ H _ G (.refl H) (.bl _) gh h⟩
  |_=>exact False.elim h
 |_=>exact False.elim h
noncomputable def bB:R3:=λx y G R=>match x,y with
 |.int i,.int j=>R (.int (i+j)) G
 |.str i,.str j=>i.length+j.length<=cj/\R (.str (i++j)) G
 |.tup xs,.tup ys=>xs.length+ys.length<=cj/\R (.tup (xs++ys)) G
 |.ref l,.ref m=>match G l,G m with
  |some (.lst xs),aj (.lst ys)=>xs.length+ys.length<=cj/\∀p,G p=aq->R (.ref p) (aJ G p (.lst (xs++ys)))
  |_,_=>False
 |_,_=>False
theorem awL:zG X (vp .Add) (λx y H Q=>∃a b ys,x=.ref a/\y=.ref b/\zL X.K H a []/\zL X.K H b ys/\Q (.ref b) H):=by
 intro pins s σ H x y v u Q I rx ry h;obtain⟨a,b,ys,rfl,rfl,ha,hb,q⟩:=h;cases rx;cases ry;obtain⟨its,r1,p1,_⟩:=I.tuple ha;obtain⟨its2,r2,p2,_⟩:=I.tuple hb;cases r1;obtain⟨⟨cls,dd,data,sl⟩,ho,hc,n,hd⟩:=id p1;obtain⟨⟨cls2,dd2,data2,sl2⟩,ho2,hc2,n2,hd2⟩:=id p2;simp only at hc hd hc2 hd2;subst hc hd hc2 hd2
 exact concat_meets ⟨_,ho,rfl⟩ ⟨_,ho2,rfl⟩ noFill_tuple_add seq_tuple_add PySem.F.slot_tuple_add PySem.F.entry_tuple_add (PySem.F.args_tuple_add_2 _ _)
   (tuple_addW0 a b #[] its2.toArray n n2 dd dd2 sl sl2 (by simp)) ⟨ho,ho2,⟨.ref b,H,I,rfl,q⟩⟩
set_option tactic.hygienic true in
theorem aQY:a9D X (vp .Add) bB:=by
 refine⟨_,aHR.or (ao4.or (aBW.or (awL.or aIA))),λH x y vx vy G R Q rx ry gh h k=>?_⟩;cases rx with
 |int i =>
  cases ry with
  |int j=>exact .inl ⟨i,j,rfl,rfl,λ_=>k _ H _ G (.refl H) (.int _) gh h⟩
  |_=>exact False.elim h
 |str i =>
  cases ry with
  |str j=>exact .inr (.inl ⟨i,j,rfl,rfl,h.1,λ_=>k _ H _ G (.refl H) (.str _) gh h.2⟩)
  |_=>exact False.elim h
 |@tup a xs ds ha ra ea =>
  cases ry with
  |@tup b ys es hb rb eb =>
   by_cases hn:ds=[]
   .subst hn;cases ra;exact .inr (.inr (.inr (.inl ⟨a,b,ys,rfl,rfl,ha,hb,λ_=>k _ H _ G (.refl H) (.tup hb rb eb) gh h.2⟩)))
   .refine .inr (.inr (.inl ⟨a,b,xs,ys,rfl,rfl,ha,hb,λz=>hn (ra.a4W.mp z),by rw[←ra.length,←rb.length];exact h.1,λz _=>?_,λ_ p hp _=>?_⟩))
    .subst z;cases rb;have h2:=h.2;rw[uh]at h2;exact k _ H _ G (.refl H) (.tup ha ra ea) gh h2
    .have sn:Same H (upd H p (.tup (xs++ys))):=bO hp;exact k _ _ _ G (.same sn) (.tup (zL.of aP) ((ra.append rb).mono (.same sn)) (atJ aP)) (gh.same sn) h.2
  |_=>exact False.elim h
 |ref l =>
  cases ry with
  |ref m =>
   have h':(match G l,G m with
    |some (.lst xs),aj (.lst ys)=>xs.length+ys.length<=cj/\∀p,G p=aq->R (.ref p) (aJ G p (.lst (xs++ys)))
    |_,_=>False):=h
   split at h'
   .rename_i xs ys e1 e2;obtain⟨xv,f1,r1⟩:=gh l _ e1;obtain⟨yv,f2,r2⟩:=gh m _ e2;refine .inr (.inr (.inr (.inr ⟨l,m,xv,yv,rfl,rfl,f1,f2,by rw[←r1.length,←r2.length];exact h'.1,λp hp kf=>?_⟩)));have sn:Same H (upd H p (.lst (xv++yv))):=bO hp;exact k _ _ _ _ (.same sn) (.ref p) (gh.put (u:=.lst (xs++ys)) hp ⟨_,aP,(r1.append r2).mono (.same sn)⟩) (h'.2 p (uX gh hp kf))
   .exact h'.elim
  |_=>exact False.elim h
 |_=>exact False.elim h
noncomputable def bQ(G:Gp)(a:bx):Option (List D):=match G a with
 |some (.lst ds)=>aj ds
 |some (.rol ds)=>aj ds
 |_=>aq
set_option tactic.hygienic true in
theorem cB{K:Fg}(g:HR K H G){a:bx}(e:bQ G a=aj ds):∃xs,zN K H a xs/\cH K H ds xs:=by
 unfold bQ at e;split at e
 .rename_i ds' q;cases e;obtain⟨xs,h1,h2⟩:=g a _ q;exact⟨xs,zN.of h1,h2⟩
 .rename_i ds' q;cases e;exact g a _ q
 .cases e
noncomputable def bN:R3:=λx y G R=>match x,y with
 |.tup xs,.int i=>match atI xs i with
  |some d=>R d G
  |none=>False
 |.str z,.int i=>z.length<=cj/\match atI z.cps.toList i with
  |some c=>R (.str ⟨#[c]⟩) G
  |none=>False
 |.ref p,.int i=>match bQ G p with
  |some xs=>(match atI xs i with
   |some d=>R d G
   |none=>False)
  |none=>False
 |_,_=>False
theorem awM{K:Fg}(r:cH K H ds xs){i:Int}(e:atI ds i=aj d):∃v,atI xs i=aj v/\RD K H d v:=by
 unfold atI at e ⊢;rw[←r.length];cases q:ixN ds.length i with
 |none=>rw[q]at e;cases e
 |some j =>
  rw[q]at e;exact r.get e
set_option tactic.hygienic true in
theorem aW8(ha:dR X a ta)(hb:dR X b tb)(hs:ahZ b):dR X (.Subscript a b pos) (aD bN ta tb):=by
 refine PE.imp (aQ5 aI6 ha hb hs) λ_ _ _ h=>aoF ?_ h;intro H x y vx vy G R Q rx ry gh h k;cases rx with
 |@tup p xs ds hp r =>
  cases ry with
  |int i =>
   have h':(match atI ds i with
    |some d=>R d G
    |none=>False):=h
   split at h'
   .rename_i d e;obtain⟨v,e1,e2⟩:=awM r e;exact .inr (.inl ⟨p,xs,i,v,rfl,rfl,hp,e1,k v H d G (.refl H) e2 gh h'⟩)
   .exact h'.elim
  |_=>exact False.elim h
 |str z =>
  cases ry with
  |int i =>
   have h':z.length<=cj/\(match atI z.cps.toList i with
    |some c=>R (.str ⟨#[c]⟩) G
    |none=>False):=h
   obtain⟨hz,h'⟩:=h';split at h'
   .rename_i d e;exact .inr (.inr ⟨z,i,d,rfl,rfl,hz,e,k _ H _ G (.refl H) (.str _) gh h'⟩)
   .exact h'.elim
  |_=>exact False.elim h
 |ref p =>
  cases ry with
  |int i =>
   have h':(match bQ G p with
    |some xs=>(match atI xs i with
     |some d=>R d G
     |none=>False)
    |none=>False):=h
   split at h'
   .rename_i ds e;obtain⟨xs,hp,r⟩:=cB gh e;split at h'
    .rename_i d e';obtain⟨v,e1,e2⟩:=awM r e';exact .inl ⟨p,xs,i,v,rfl,rfl,hp,e1,k v H d G (.refl H) e2 gh h'⟩
    .exact h'.elim
   .exact h'.elim
  |_=>exact False.elim h
 |_=>exact False.elim h
abbrev TO3:=aL->Gp->(Option Int->Gp->Prop)->Prop
noncomputable def upO(K:Fg)(t:TO3):TO:=λσ H Q=>∃ρ G R,SR K H ρ σ/\HR K H G/\t ρ G R/\∀i H' G',Ts H H'->HR K H' G'->R i G'->Q i H'
abbrev PO3(X:Cx)(e:Option jt)(t:TO3):Prop:=PO X e (upO X.K t)
theorem PO.imp(h:PO X e t)(k:∀σ H Q,t' σ H Q->t σ H Q):PO X e t':=λpins s σ H Q I q=>h pins s σ H Q I (k _ _ _ q)
noncomputable def bV:TO3:=λ_ G R=>R aq G
noncomputable def cY(t:dB):TO3:=λρ G R=>t ρ G λx G1=>match x with
 |.int i=>R (aj i) G1
 |_=>False
theorem aIL:PO3 X aq bV:=PO.imp aBU λσ H Q h=>by
 obtain⟨ρ,G,R,s,g,t,k⟩:=h;exact k aq H G (.refl H) g t
theorem awO(h:dR X e te):PO3 X (aj e) (cY te):=PO.imp (aBV h) λσ H Q h=>by
 obtain⟨ρ,G,R,s,g,t,k⟩:=h;refine⟨ρ,G,_,s,g,t,λv H1 x G1 t1 r g1 q=>?_⟩;cases r with
 |int i=>exact⟨i,rfl,k _ H1 G1 t1 g1 q⟩
 |_=>exact False.elim q
noncomputable def cutD{α:Type}(xs:List α)(lo hi:Option Int):List α:=(xs.drop (HT.mD xs.length 0 lo)).take (HT.mD xs.length xs.length hi - HT.mD xs.length 0 lo)
end
end
variable{F:Ends}
section
section
variable{X:Cx}{st:mj}{rest:List mj}{t u:aZ}{te:dB}{pos:Pos}
noncomputable def aN:aZ:=λF ρ G=>F.nx ρ G
noncomputable def aH(t u:aZ):aZ:=λF ρ G=>t {F with nx:=u F} ρ G
theorem aQZ:a4Y X [] aN:=PSs.imp aBG λF σ H h=>by
 obtain⟨ρ,G,E,s,g,q,d⟩:=h;exact d.nx ρ G σ H s g q
theorem aIM{K:Fg}(h:upS K (aH t u) F σ H):aPK (upS K t) (upS K u) F σ H:=by
 obtain⟨ρ,G,E,s,g,q,d⟩:=h;exact⟨ρ,G,_,s,g,q,⟨λρ' G' σ' H' s1 g1 h=>⟨ρ',G',E,s1,g1,h,d⟩,d.rt,d.bk,d.ct⟩⟩
theorem aIN(h1:PS3 X st t)(h2:a4Y X rest u):a4Y X (st::rest) (aH t u):=PSs.imp (avX h1 h2) λ_ _ _ h=>aIM h
theorem aR0(h1:PS3 X st t):a4Y X [st] t:=aBH h1
theorem aIO:PS3 X (.Pass pos) aN:=PS.imp aBI λF σ H h=>by
 obtain⟨ρ,G,E,s,g,q,d⟩:=h;exact d.nx ρ G σ H s g q
noncomputable def a3S(te:dB):aZ:=λF ρ G=>te ρ G λ_ G1=>F.nx ρ G1
theorem aIP(he:dR X e te)(hs:a0s e aq pos.line X.env=pure ao:=by rfl):PS3 X (.Expr e pos) (a3S te):=PS.imp (aBJ he hs) λF σ H h=>by
 obtain⟨ρ,G,E,s,g,q,d⟩:=h;exact⟨ρ,G,_,s,g,q,λv H' x G' t1 r g1 h=>d.nx ρ G' σ H' (s.mono t1) g1 h⟩
noncomputable def aU(te:dB):aZ:=λF ρ G=>te ρ G F.rt
theorem aG6(he:dR X e te):PS3 X (.Return (aj e) pos) (aU te):=PS.imp (aHI he) λF σ H h=>by
 obtain⟨ρ,G,E,s,g,q,d⟩:=h;exact⟨ρ,G,_,s,g,q,λv H' x G' t1 r g1 h=>d.rt x G' v H' r g1 h⟩
noncomputable def bF(c:TT3)(t u:aZ):aZ:=λF ρ G=>c ρ G λb G1=>if b=ak then t F ρ G1 else u F ρ G1
theorem aW9{b:List mj}{tc:TT3}(hc:PT3 X c tc)(ha:a4Y X a t)(hb:a4Y X b u):PS3 X (.If c a b pos) (bF tc t u):=PS.imp (aPM hc ha hb) λF σ H h=>by
 obtain⟨ρ,G,E,s,g,q,d⟩:=h;refine⟨ρ,G,_,s,g,q,λb H' G' t1 g1 h=>?_⟩;cases b with
 |true=>exact⟨ρ,G',E,s.mono t1,g1,h,d⟩
 |false=>exact⟨ρ,G',E,s.mono t1,g1,h,d⟩
noncomputable def bJ(i:Nat)(te:dB):aZ:=λF ρ G=>te ρ G λx G1=>F.nx (a2E ρ i x) G1
theorem aG7{i:Nat}(hN:X.N.Nodup)(hi:X.N[i]?=aj x)(hx:Loc X.env.scope x)(he:dR X e te)(hs:a0s e (aj (.Name x pos')) pos.line X.env=pure ao:=by rfl)(hf:X.fn x=ak∨X.env.scope.names.lookup x=aj .local:=by first|exact .inl rfl|exact .inr rfl|assumption) :
  PS3 X (.Assign [.Name x pos'] e pos) (bJ i te):=PS.imp (aHL hN hi hx he hs hf) λF σ H h=>by
 obtain⟨ρ,G,E,s,g,q,d⟩:=h;exact⟨ρ,G,_,s,g,q,λv H' x G' t1 r g1 h=>d.nx _ G' _ H' ((s.mono t1).set r i) g1 h⟩
noncomputable def ai7(to ti te:dB):aZ:=λF ρ G=>te ρ G λv G1=>to ρ G1 λo G2=>ti ρ G2 λi G3=>match o,i with
 |.ref p,.int k=>(match G3 p with
  |some (.lst xs)=>(match ixN xs.length k with
   |some j=>F.nx ρ (aJ G3 p (.lst (xs.set j v)))
   |none=>False)
  |_=>False)
 |_,_=>False
set_option tactic.hygienic true in
theorem aIQ{to:dB}(ho:dR X o to)(hi:dR X i ti)(he:dR X e te)
  (ha:∀v,assign (.Subscript o i pos') X.env v=(do
   let ov ←a1a [v] (eval o X.env)
   let iv ←a1a [v,ov] (eval i X.env)
   standAt pos'
   a1a [v,ov,iv] (setItem ov iv v)
   release [v,ov,iv] []):=by intro _;rfl)
  (hs:swapsWithSole [.Subscript o i pos'] e pos.line X.env=pure ao:=by rfl)(hw:swappedStores [.Subscript o i pos'] e X.env=pure aq:=by rfl)
  (h1:(zu [.Subscript o i pos'] X.env).map (·.2)=[assign (.Subscript o i pos') X.env]:=by rfl):PS3 X (.Assign [.Subscript o i pos'] e pos) (ai7 to ti te) :=
 PS.imp (aw0 he (aHK ho hi set_list ha) hs hw h1) λF σ H h=>by
 obtain⟨ρ,G,E,s,g,q,d⟩:=h;refine⟨ρ,G,_,s,g,q,λv H1 x G1 t1 rv g1 q1=>?_⟩;refine⟨ρ,G1,_,s.mono t1,g1,q1,λov H2 o' G2 t2 ro g2 q2=>?_⟩;refine⟨ρ,G2,_,s.mono (t1.trans t2),g2,q2,λiv H3 i' G3 t3 ri g3 q3=>?_⟩;cases ro with
 |ref p =>
  cases ri with
  |int k =>
   have q3':(match G3 p with
    |some (.lst xs)=>(match ixN xs.length k with
     |some j=>E.nx ρ (aJ G3 p (.lst (xs.set j x)))
     |none=>False)
    |_=>False):=q3
   split at q3'
   .rename_i xs e1;split at q3'
    .rename_i j e2;obtain⟨ys,f1,r1⟩:=g3 p _ e1;refine⟨p,ys,k,j,rfl,rfl,f1,by rw[←r1.length];exact e2,?_⟩;have tt:Ts H3 (upd H3 p (.lst (ys.set j v))):=.turn f1 (λ_ z=>nomatch z) (λ_ _ z=>nomatch z);exact d.nx ρ _ σ _ (s.mono (((t1.trans t2).trans t3).trans tt)) (g3.turn (u:=.lst (xs.set j x)) tt ⟨_,aP,((r1.set (rv.mono (t2.trans t3)) j).mono tt)⟩) q3'
    .exact q3'.elim
   .exact q3'.elim
  |_=>exact False.elim q3
 |_=>cases ri<;>exact False.elim q3
end
section
theorem awP{K:Fg}{J:It}{g:TG}{tb:TS}{n:Nat}(Pv:Nat->St->Hp->Prop)(h0:Pv 0 σ H)
  (stop:∀σ H,Pv n σ H->J.stop n H)(go:∀i σ H,i<n->Pv i σ H->J.go i H)
  (hs:∀i x σ H H',i<n->Pv i σ H->J.yld i H x H'->g x σ H' λσ2 H2=>tb {F with nx:=Pv (i+1),ct:=Pv (i+1),bk:=F.nx} σ2 H2)(hd:∀σ H,Pv n σ H->F.nx σ H) :
  ∃W:Nat->Nat->St->Hp->Prop,(∃m,W 0 m σ H)/\∀i m σ H,W i m σ H ->
   (J.stop i H/\F.nx σ H)∨(J.go i H/\∃N:St->Hp->Prop,(∀σ' H',N σ' H'->∃m',m'<m/\W (i+1) m' σ' H')/\∀x H',J.yld i H x H'->g x σ H' λσ2 H2=>tb {F with nx:=N,ct:=N,bk:=F.nx} σ2 H2):=by
 refine⟨λi m σ H=>m=n - i/\i<=n/\Pv i σ H,⟨n,by simp,yh _,h0⟩,?_⟩;rintro i m σ H ⟨rfl,hi,p⟩;by_cases hlt:i<n
 .exact .inr ⟨go i σ H hlt p,Pv (i+1),λσ' H' p'=>⟨n - (i+1),by omega,rfl,hlt,p'⟩,λx H' y=>hs i x σ H H' hlt p y⟩
 .have e:i=n:=by omega
  subst e;exact .inl ⟨stop σ H p,hd σ H p⟩
end
abbrev aO:=Addr->Gp->Prop
abbrev mR:=List D->Gp->iG->aO->Prop
def UpX(K:Fg)(EX:aO)(E:XK):Prop:=∀C H' G',HR K H' G'->EX C G'->E (.ref C) aq H'
noncomputable def cC(K:Fg)(sp:mR):Sp:=λvs H Q E=>∃ds G R EX,cH K H ds vs/\HR K H G/\sp ds G R EX/\(∀v H' d G',RD K H' d v->HR K H' G'->R d G'->Q v H')/\UpX K EX E
section
variable{EX:aO}
noncomputable def aWA(n m:Nat)(tb:aO->aZ):mR:=λds G R EX=>ds.length=m/\tb EX ⟨λ_ G'=>R .non G',R,λ_ _=>False,λ_ _=>False⟩ (ai4 n ds) G
end
end
section
noncomputable def j4(P:lq)(w:jg):CXT:=λouter H s E e s'=>∃(x C:bx)(H':Hp)(B:jq),e=.ref x/\Fly B outer x (.ref C) s'.heap/\HOk P w H' B /\
 (∀b o,s.heap.get? b=aj o->H b=aq->b∉frs outer->B.get? b=aj o)/\(∀b o,s.heap.get? b=aj o->b∉frs outer->∃o',B.get? b=aj o') /\
 Un (frs outer) [] H H' s.heap s'.heap/\s'.os=s.os/\a1f s'.gens/\E (.ref C) aq H'
theorem aaS(h:b∈frs l):∃env∈l,env.frame=aj b:=a1n.mp h
theorem a1R{env:Env}(h:env∈l)(e:env.frame=aj b):b∈frs l:=a1n.mpr ⟨env,h,e⟩
section
variable{qt:Bool}{P:lq}{w:jg}{K:Fg}{mg:Str->Option au}{base:jq}{N:List Str}{qual:Str}{scope:yc}{f:bx}{cd:au}{A:qb}{outer:List Env}{s₀:cg}{H₀:Hp}{E:XK}
noncomputable abbrev cx1(qt:Bool)(P:lq)(w:jg)(K:Fg)(mg:Str->Option au)(base:jq)(N:List Str)(qual:Str)(scope:yc)(f:bx)(cd:au)(A:qb)(outer:List Env)(s₀:cg)(H₀:Hp)(E:XK):Cx:=jJ qt (j4 P w) P w K mg base N qual scope f cd A outer s₀ H₀ E
theorem dU{X:Cx}(I:Inv X pins σ H s)(hst:X.stack=X.env::X.outer)(hf:X.env.frame=aj X.env.locals)(e:X.s₀.heap.get? b=aj o)(n:b∉frs X.outer):b∉frs X.stack:=λhb=>by
 obtain⟨env,he,hfr⟩:=aaS hb;rw[hst]at he;rcases jc.mp he with rfl|he
 .have z:X.env.locals=b:=mz.inj (hf.symm.trans hfr);have h1:=I.ok.above;have h2:=gk e;rw[z]at h1;exact absurd (ju h2 h1) (qu _)
 .exact n (a1R he hfr)
theorem aCA{s:cg}(I:Inv (cx1 qt P w K mg base N qual scope f cd A outer s₀ H₀ E) pins σ H s)(hm:a2j s.heap h' e (.ref C) us)(q:E (.ref C) aq H) :
  (cx1 qt P w K mg base N qual scope f cd A outer s₀ H₀ E).xe (.ref e) {s with heap:=h' }:=by
 have hst:(cx1 qt P w K mg base N qual scope f cd A outer s₀ H₀ E).stack=(cx1 qt P w K mg base N qual scope f cd A outer s₀ H₀ E).env::outer:=rfl;have hin:∀env∈(cx1 qt P w K mg base N qual scope f cd A outer s₀ H₀ E).stack,∀b,env.frame=aj b->b∈frs (cx1 qt P w K mg base N qual scope f cd A outer s₀ H₀ E).stack:=λenv he b hb=>a1R he hb;have hB:∀b o,(yu s.heap (frs (cx1 qt P w K mg base N qual scope f cd A outer s₀ H₀ E).stack)).get? b=aj o->s.heap.get? b=aj o:=λb o e=>a1m _ e;have toB:∀b o,s.heap.get? b=aj o->b∉frs (cx1 qt P w K mg base N qual scope f cd A outer s₀ H₀ E).stack->(yu s.heap (frs (cx1 qt P w K mg base N qual scope f cd A outer s₀ H₀ E).stack)).get? b=aj o:=λb o e n=>a2f _ e n;have fr:=PySem.W.funFrames_hide I.stack hin;refine ao0 (B:=yu s.heap (frs (cx1 qt P w K mg base N qual scope f cd A outer s₀ H₀ E).stack)) (h0:=s.heap) I.ok.frames rfl hB fr hm λh2 k1 k4=>?_;have up:∀b o,s.heap.get? b=aj o->(∀vs,o.data≠.fields vs)->∃sl,h2.get? b=aj {o with slots:=sl}:=λb o e nd=>k4 b o (hm.keeps b o e) nd
 have hfd:∀b∈frs outer,∀o,s.heap.get? b=aj o->∀vs,o.data≠.fields vs:=λb hb o e=>by
  obtain⟨_,o',ho',hd⟩:=I.vR.mem hb;rw[e]at ho';cases ho';exact hd
 refine⟨e,C,H,_,rfl,k1,?_,λb o eb nb hb=>?_,λb o eb hb=>?_,⟨λb o eb nb hb _=>?_,λb o eb nb hb _=>?_,λb o eb nb hx=>I.base.free b o eb nb hx,λb o eb hx=>?_,I.base.tups,I.base.lA,I.base.wO⟩,I.os,I.bare,q⟩
 .intro b o hb;refine(I.hok b o hb).stay (λc u hc eu=>toB c u eu λhz=>?_) (λ_ z=>z) λ_ _ z=>z;have n:=I.ahT c hz;rcases hc with rfl|hc
  .rw[hb]at n;cases n
  .rw[hc]at n;cases n
 .exact toB b o (I.base.keep b o eb nb hb (by simp[jJ])) (dU I hst rfl eb hb)
 .obtain⟨o',e'⟩:=I.base.there b o eb (by simp[jJ]);exact⟨o',toB b o' e' (dU I hst rfl eb hb)⟩
 .exact k1.stays b o (toB b o (I.base.keep b o eb nb hb (by simp[jJ])) (dU I hst rfl eb hb))
 .obtain⟨sl,e1⟩:=I.base.slot b o eb nb hb (by simp[jJ]);obtain⟨sl2,e2⟩:=up b _ e1 (hfd b hb _ e1);exact⟨sl2,e2⟩
 .obtain⟨o',e'⟩:=I.base.there b o eb (by simp[jJ]);by_cases hb:b∈frs outer
  .obtain⟨sl,e1⟩:=up b o' e' (hfd b hb o' e');exact⟨_,e1⟩
  .exact⟨o',k1.stays b o' (toB b o' e' (dU I hst rfl eb hb))⟩
theorem aCB(hE:∀C H',E' C aq H'->E C aq H')(I:Inv (cx1 qt P w K mg base N qual scope f cd A outer s₀ H₀ E) pins σ H s)
  (c:j4 P w (cx1 qt P w K mg base N qual scope f cd A outer s₀ H₀ E).stack H s E' e s'):(cx1 qt P w K mg base N qual scope f cd A outer s₀ H₀ E).xe e s':=by
 obtain⟨x,C,H',B,rfl,fl,hok,cov,a2F,un,os,bare,q⟩:=c;have hst:(cx1 qt P w K mg base N qual scope f cd A outer s₀ H₀ E).stack=(cx1 qt P w K mg base N qual scope f cd A outer s₀ H₀ E).env::outer:=rfl;refine avR (B:=B) I.ok.frames rfl fl λh2 k1 k4=>?_
 have hfs:∀b∈frs outer,b∈frs (cx1 qt P w K mg base N qual scope f cd A outer s₀ H₀ E).stack:=λb hb=>by
  obtain⟨env,he,hf⟩:=aaS hb;exact a1R (gb _ he) hf
 have hfd:∀b∈frs outer,∀o,s'.heap.get? b=aj o->∀vs,o.data≠.fields vs:=λb hb o e=>by
  obtain⟨_,o',ho',hd⟩:=fl.akX.mem (hfs b hb);rw[e]at ho';cases ho';exact hd
 refine⟨x,C,H',B,rfl,k1,hok,λb o eb nb hb=>?_,λb o eb hb=>?_,⟨λb o eb nb hb _=>?_,λb o eb nb hb _=>?_,λb o eb nb hx=>?_,λb o eb hx=>?_,λb xs z=>un.tups b xs (I.base.tups b xs z),λb o u z=>un.lA b o u (I.base.lA b o u z),λb ps z=>?_⟩,os.trans I.os,bare,hE _ _ q⟩
 .exact cov b o (I.base.keep b o eb nb hb (by simp[jJ])) (I.base.free b o eb nb (by simp[jJ])) (dU I hst rfl eb hb)
 .obtain⟨o',e'⟩:=I.base.there b o eb (by simp[jJ]);exact a2F b o' e' (dU I hst rfl eb hb)
 .exact k1.stays b o (cov b o (I.base.keep b o eb nb hb (by simp[jJ])) (I.base.free b o eb nb (by simp[jJ])) (dU I hst rfl eb hb))
 .obtain⟨sl,e1⟩:=I.base.slot b o eb nb hb (by simp[jJ]);obtain⟨sl2,e2⟩:=un.slot b _ e1 (I.base.free b o eb nb (by simp[jJ])) (hfs b hb) (by simp);obtain⟨sl3,e3⟩:=k4 b _ e2 (hfd b hb _ e2);exact⟨sl3,e3⟩
 .obtain⟨o',e'⟩:=I.base.there b o eb (by simp[jJ]);exact un.free b o' e' (I.base.free b o eb nb (by simp[jJ])) (by simp)
 .obtain⟨o',e'⟩:=I.base.there b o eb (by simp[jJ]);by_cases hb:b∈frs outer
  .obtain⟨o2,e2⟩:=un.there b o' e' (by simp);obtain⟨sl,e3⟩:=k4 b o2 e2 (hfd b hb o2 e2);exact⟨_,e3⟩
  .obtain⟨o2,e2⟩:=a2F b o' e' (dU I hst rfl eb hb);exact⟨o2,k1.stays b o2 e2⟩
 .obtain⟨m1,e1⟩:=I.base.wO b ps z;obtain⟨m2,e2⟩:=un.wO b _ e1;exact⟨m1++m2,by rw[e2,Array.append_assoc]⟩
end
noncomputable def zR(K:Fg)(EX:aO):XK:=λC _ H'=>∃c G',C=.ref c/\HR K H' G'/\EX c G'
structure Cat(X:Cx)(EX:aL->aO):Prop where
 acB:∀pins σ H s ρ e s',Inv X pins σ H s->SR X.K H ρ σ->j4 X.prog X.w X.stack H s (zR X.K (EX ρ)) e s'->X.xe e s'
structure Thr(X:Cx)(EX:aL->aO):Prop where
 made:∀pins σ H s ρ C e us h',Inv X pins σ H s->SR X.K H ρ σ->a2j s.heap h' e (.ref C) us->zR X.K (EX ρ) (.ref C) aq H->X.xe (.ref e) {s with heap:=h' }
section
variable{qt:Bool}{w:jg}{K:Fg}{mg:Str->Option au}{base:jq}{N:List Str}{cd:au}{A:qb}{outer:List Env}{s₀:cg}{H₀:Hp}
theorem acC(h:UpX K EX E)(q:zR K EX C aq H'):E C aq H':=by
 obtain⟨c,G',rfl,g,q⟩:=q;exact h c H' G' g q
theorem aWB(h:UpX K EX E):Cat (cx1 qt P w K mg base N qual scope f cd A outer s₀ H₀ E) (λ_=>EX) :=
 ⟨λpins σ H s ρ e s' I _ c=>aCB (E':=zR K EX) (λC H' q=>acC h q) I c⟩
theorem aWC(h:UpX K EX E):Thr (cx1 qt P w K mg base N qual scope f cd A outer s₀ H₀ E) (λ_=>EX) :=
 ⟨λpins σ H s ρ C e us h' I _ hm q=>aCA I hm (acC h q)⟩
theorem own1:PassesOwn (dz P w) (cx1 qt P w K mg base N qual scope f cd A outer s₀ H₀ E).A (cx1 qt P w K mg base N qual scope f cd A outer s₀ H₀ E).env (cx1 qt P w K mg base N qual scope f cd A outer s₀ H₀ E).xe:=PassesOwn.leaving
end
section
variable{X:Cx}{k:Nat}{sp:mR}{EX:aL->aO}{x:Str}{t:wL}
noncomputable def aQ(sp:mR)(EX:aL->aO)(t:wL):dB:=λρ G R=>t ρ G λds G1=>sp ds G1 R (EX ρ)
set_option tactic.hygienic true in
theorem aqP{Q Q':VK}(F:bU qt X.prog X.w X.K X.mg X.base (j4 X.prog X.w) k f fd ps (cC X.K sp))(hr:mF qt k X.A)(hb:Binds X.K fd ps [])
  (hx:∀e s',j4 X.prog X.w X.stack H s E e s'->X.xe e s')
  (I:Inv X pins σ H s)(r:Vals vs us)(h:cC X.K sp vs H Q E)(hQ:∀v H',Ts H H'->Q v H'->Q' v H'):dh (dz X.prog X.w) X.A (call (.ref f) us) (EP X pins σ Q') X.xe s:=by
 have hl:(us++[]).length=ps.length:=by rw[uh,←r.length];exact F.len _ _ _ _ h
 refine wpAny_call (codeAny_mono (F.run X.A X.stack s H ⟨us,[]⟩ (us++[]) vs Q E hr I.env0 (hb s us I.kIn hl) (by rw[uh];exact r) h) λr s' hq=>?_);cases r with
 |error e=>exact hx e s' hq
 |ok fl =>
  cases fl with
  |ret u =>
   obtain⟨v,H',os,bare,un,hok,r,q⟩:=hq;exact⟨v,H',I.call' (ch:=[]) os un hok bare (λb z=>absurd z (by simp)),r,hQ v H' ⟨un.tups,un.lA⟩ q⟩
  |next=>exact False.elim hq
  |brk=>exact False.elim hq
  |cont=>exact False.elim hq
theorem aCC(F:bU qt X.prog X.w X.K X.mg X.base (j4 X.prog X.w) k f fd ps (cC X.K sp))(hr:mF qt k X.A)(hg:Gl X x)(hm:X.mg x=aj (.ref f))(hk:jy X.K (.ref f)=ak)(hb:Binds X.K fd ps [])(hx:Cat X EX)
  (ha:PA3 X (e::es) t)(hdb:(x==("__debug__":Str))=ao:=by decide)(he:jm (e::es) X.env=(ao,eval e X.env)::jm es X.env:=by rfl)(hpl:(yx pos (jm es X.env)).any (·.1)=ao:=by rfl) :
  dR X (.Call (.Name x p) (e::es) [] pos) (aQ sp EX t):=by
 intro pins s σ H Q I h;obtain⟨ρ,G,R,sr,g,q,kk⟩:=h;refine a0b (oJ I hg hm ?_ hdb);refine PySem.W.callWith_K (h₀:=X.base) I.ok.mod.kin hk (eU (ha pos pins s σ H (λvs H1=>Ts H H1/\∃ds G1,cH X.K H1 ds vs/\HR X.K H1 G1/\sp ds G1 R (EX ρ)) I ⟨ρ,G,_,sr,g,q,λvs H1 ds G1 t1 r1 g1 q1=>⟨t1,ds,G1,r1,g1,q1⟩⟩) λus s1 ⟨vs,H1,I1,r,t1,ds,G1,r1,g1,q1⟩=>⟨I1.kIn,?_⟩) he hpl;refine aqP (E:=zR X.K (EX ρ)) F hr hb (λe s' c=>hx.acB pins σ H1 s1 ρ e s' I1 (sr.mono t1) c) I1 r (Q:=λv H'=>∃d G',RD X.K H' d v/\HR X.K H' G'/\R d G') ⟨ds,G1,R,EX ρ,r1,g1,q1,λv H' d G' r2 g2 q2=>⟨d,G',r2,g2,q2⟩,λC H' G' g' q'=>⟨C,G',rfl,g',q'⟩⟩ (by rintro v H' t2 ⟨d,G',r2,g2,q2⟩;exact kk v H' d G' (t1.trans t2) r2 g2 q2)
theorem aIR{qt:Bool}{P:lq}{K:Fg}{base:jq}{qual:Str}{f:bx}{fd:jo}{N ps:List Str}{tb:aO->aZ}(F:Fun K x qual st f fd)(S:aW N ps (bM st))
  (hbody:∀(cdv:au)(A:qb)(outer:List Env)(s:cg)(H:Hp)(E:XK)(EX:aO),mF qt k (A.deeper (envOfC qual (bM st) s.heap.objs.size f cdv))->UpX K EX E ->
   a4Y (cx1 qt P w K mg base N qual (bM st) f cdv A outer s H E) (cX st) (tb EX)):bU qt P w K mg base (j4 P w) (k+1) f fd ps (cC K (aWA N.length ps.length tb)):=by
 obtain⟨oc,od,dV,kV,doc,pm,an,cdv,ct,osl,rfl,lk,hcd⟩:=F.ex;have hpl:ps.length<=N.length:=by have:=congrArg wk S.pre;rw[pq]at this;omega
 refine aQ1 lk hcd S (λvs H Q E h=>?_) λA outer s H vs Q E hr hsp=>?_
 .obtain⟨ds,G,R,EX,r,g,⟨hl,q⟩,_⟩:=h;rw[←r.length,hl]
 .obtain⟨ds,G,R,EX,r,g,⟨hl,q⟩,kk,hE⟩:=hsp;refine⟨_,hbody cdv A outer s H E EX hr hE,ai4 N.length ds,G,_,?_,g,q,⟨λρ G' σ' H' s1 g1 q1=>kk .non H' .non G' .non g1 q1,λd G' v H' r1 g1 q1=>kk v H' d G' r1 g1 q1,λ_ _ _ _ _ _ z=>z.elim,λ_ _ _ _ _ _ z=>z.elim⟩⟩;unfold ai4 start;rw[r.length];exact SR.entry r
end
section
variable{X:Cx}{C:bx}{bmB:List au}{B Bn newId nid initId inN:String}{EX:aL->aO}{x:Str}{t:wL}
set_option tactic.hygienic true in
theorem aaT{K:Fg}{h:jq}(XK:K.In h)(q:yp K C bmB newId=ak):∃bm N nm q bs hdct sn sub ab col dd k0 k1 k2 k3 k5 mN,h.get? C=aj (excClassObj nm q C N bs bm hdct sn sub ab col dd k0 k1 k2 k3 k5 newId)/\h.Ns N mN/\mN "__init__"=aq/\OwnTail h bmB bm:=by
 unfold yp at q;split at q
 .rename_i dd cd sl ho;split at q
  .rename_i C' bm k0 k1 k2 k3 n k5 hm hs;simp only[bh,beq_iff_eq,gj]at q;obtain⟨⟨⟨⟨⟨rfl,rfl⟩,hdel⟩,ht⟩,hok⟩,hni⟩:=q;obtain⟨nm,bs,mro,ns,qn,hd,sn,sub,ab,col,del⟩:=cd;dsimp only at hm hdel hok hni;subst hm hdel
   have hsl:sl=#[k0,k1,k2,k3,aj (.builtin n),k5]:=by
    obtain⟨l⟩:=sl;simp only at hs;rw[hs]
   subst hsl;exact⟨bm,ns,nm,qn,bs,hd,sn,sub,ab,col,dd,k0,k1,k2,k3,k5,_,XK _ _ ho,.of_isNs (PySem.W.isNs_of_in XK hok),PySem.W.nsMap_none_of_in XK hok hni,PySem.W.tail_of_in XK ht⟩
  .cases q
 .cases q
noncomputable def oK(EX:aL->aO)(C:bx)(t:wL):aZ:=λ_ ρ G=>t ρ G λds G1=>ds.length<=cj/\EX ρ C G1
theorem aCD(hc:X.calm=ak)(Fn:a0l Bn newId inN bmN)(hBn:bmB.contains (.type Bn)=ak)(FB:a0l B nid initId bmB)(hg:Gl X x)(hm:X.mg x=aj (.ref C))(hq:yp X.K C bmB newId=ak)(hT:Thr X EX)
  (ha:PA3 X (e::es) t)(hd:(x==("__debug__":Str))=ao:=by decide)
  (he:jm (e::es) X.env=(ao,eval e X.env)::jm es X.env:=by rfl)(hplain:(yx cpos (jm es X.env)).any (·.1)=ao:=by rfl) :
  PS3 X (.Raise (aj (.Call (.Name x np) (e::es) [] cpos)) aq pos) (oK EX C t):=by
 intro pins s σ H F I h;obtain⟨ρ,G,E3,sr,g,q,dd⟩:=h;obtain⟨tl,N,nm,q',bs,hdct,sn,sub,ab,col,dd',k0,k1,k2,k3,k5,mN,hC,hN,hni,T⟩:=aaT I.mod.kin hq
 refine wpAny_Raise_call_subU (C:=C) (nm:=nm) (q:=q') (N:=N) (bs:=bs) (bm:=tl) (hdct:=hdct) (sn:=sn) (sub:=sub) (ab:=ab) (col:=col) (dd:=dd') (k0:=k0) (k1:=k1) (k2:=k2) (k3:=k3) (k5:=k5)
  Fn hBn FB (mN:=mN) (T.hasType FB.hasBase) (I.ok.hd hc) (by rw[he];show(ao||(yx cpos (jm es X.env)).any (·.1))=ao;rw[hplain];rfl) hni (oJ I hg hm ⟨rfl,?_⟩ hd)
 have hA:=ha cpos pins s σ H (λvs H1=>Ts H H1/\∃ds G1,cH X.K H1 ds vs/\HR X.K H1 G1/\ds.length<=cj/\EX ρ C G1) I ⟨ρ,G,_,sr,g,q,λvs H1 ds G1 t1 r1 g1 q1=>⟨t1,ds,G1,r1,g1,q1.1,q1.2⟩⟩;rw[he]at hA ⊢;refine Calls.evalArgs_plain (eU hA ?_);rintro us s2 ⟨vs,H2,I2,r2,t1,ds,G1,r1,g1,hl,q1⟩;exact⟨rfl,by rw[←r2.length,←r1.length];exact hl,I2.bk _ _ hC,hN.keeps I2.bk,T.keeps I2.bk,λh' e' hm'=>hT.made pins σ H2 s2 ρ C e' us h' I2 (sr.mono t1) hm' ⟨C,G1,rfl,g1,q1⟩⟩
end
end
variable{B:jq}{Dc:bx}
section
noncomputable def pC:aL->Nat->aL
 |[],_=>[]
 |_::r,0=>aq::r
 |x::r,n+1=>x::pC r n
noncomputable def wV:St->Nat->St
 |[],_=>[]
 |_::r,0=>aq::r
 |x::r,n+1=>x::wV r n
theorem SR.clr{K:Fg}:∀{ρ:aL}{σ:St}(i:Nat),SR K H ρ σ->SR K H (pC ρ i) (wV σ i)
 |_,_,_,.nil=>.nil
 |_,_,0,.none r=>.none r
 |_,_,0,.some _ r=>.none r
 |_,_,i+1,.none r=>.none (SR.clr i r)
 |_,_,i+1,.some h r=>.some h (SR.clr i r)
theorem a4Z:∀(σ:St)(i:Nat),(wV σ i).length=σ.length
 |[],_=>rfl
 |_::_,0=>rfl
 |_::r,i+1=>congrArg (·+1) (a4Z r i)
theorem a5A:∀(σ:St)(i j:Nat)(v:V),(wV σ i)[j]?=aj (aj v)->j≠i/\σ[j]?=aj (aj v)
 |[],_,_,_,h=>by simp[wV]at h
 |_::_,0,0,_,h=>by simp[wV]at h
 |_::_,0,j+1,_,h=>⟨by omega,by simpa[wV]using h⟩
 |_::_,i+1,0,_,h=>⟨by omega,by simpa[wV]using h⟩
 |_::r,i+1,j+1,v,h=>by
  obtain⟨a,b⟩:=a5A r i j v (by simpa[wV]using h);exact⟨by omega,by simpa using b⟩
variable{x:bx}{i:Nat}
section
variable{X:Cx}
noncomputable def xeT(X:Cx)(EX:aL->aO):au->cg->Prop:=λe s'=>∃pins σ H s ρ,Inv X pins σ H s/\SR X.K H ρ σ/\j4 X.prog X.w X.stack H s (zR X.K (EX ρ)) e s'
noncomputable abbrev awS(X:Cx)(pn:List (bx×Obj))(EX:aL->aO):Cx:={X with pn:=X.pn++pn,xe:=xeT {X with pn:=X.pn++pn} EX}
noncomputable abbrev al4(X:Cx)(x:bx):Cx:={X with A:=X.A.mark (aj (.ref x)),calm:=false,xe:=λ_ _=>False}
theorem aR2(ok:X.Ok)(pn:List (bx×Obj))(E:au->cg->Prop):({X with pn:=pn,xe:=E}:Cx).Ok :=
 ⟨ok.mod,ok.kind,ok.glob,ok.blt,ok.above,ok.inj,ok.has,ok.cab,ok.hd,ok.frames,ok.stk,ok.exf,ok.bs,ok.bsz,ok.a9A,ok.abZ,ok.vR,ok.frf⟩
theorem aqQ(I:Inv X pins σ H s)(E:au->cg->Prop):Inv ({X with pn:=X.pn++pins,xe:=E}:Cx) [] σ H s :=
 ⟨aR2 I.ok _ _,I.os,I.bare,I.base,I.loc,I.cell,I.free,I.lB,λp hp=>I.pin p (by simpa using hp),I.hok,I.len,I.hnd,I.tup⟩
theorem rQ(I:Inv ({X with pn:=X.pn++pins,xe:=E}:Cx) oW σ H s):Inv X pins σ H s :=
 ⟨⟨I.ok.mod,I.ok.kind,I.ok.glob,I.ok.blt,I.ok.above,I.ok.inj,I.ok.has,I.ok.cab,I.ok.hd,I.ok.frames,I.ok.stk,I.ok.exf,I.ok.bs,I.ok.bsz,I.ok.a9A,I.ok.abZ,I.ok.vR,I.ok.frf⟩,I.os,I.bare,I.base,I.loc,I.cell,I.free,I.lB,λp hp=>I.pin p (a0f _ hp),I.hok,I.len,I.hnd,I.tup⟩
theorem aaU(I:Inv X pins σ H s)(x:bx)(q:Hnd (X.A.mark (aj (.ref x))) H):Inv (al4 X x) pins σ H s :=
 ⟨⟨I.ok.mod,I.ok.kind,I.ok.glob,I.ok.blt,I.ok.above,I.ok.inj,I.ok.has,I.ok.cab,(λz=>nomatch z),I.ok.frames,I.ok.stk,I.ok.exf,I.ok.bs,I.ok.bsz,I.ok.a9A,I.ok.abZ,I.ok.vR,I.ok.frf⟩,I.os,I.bare,I.base,I.loc,I.cell,I.free,I.lB,I.pin,I.hok,I.len,q,I.tup⟩
theorem jQ(ok:X.Ok)(hn:X.A.handled=aq)(I:Inv (al4 X x) pins σ H s):Inv X pins σ H s :=
 ⟨ok,I.os,I.bare,I.base,I.loc,I.cell,I.free,I.lB,I.pin,I.hok,I.len,.inl hn,I.tup⟩
theorem aWD(pn:List (bx×Obj))(EX:aL->aO):Cat (awS X pn EX) EX:=⟨λpins σ H s ρ e s' I sr c =>
 ⟨pins,σ,H,s,ρ,⟨⟨I.ok.mod,I.ok.kind,I.ok.glob,I.ok.blt,I.ok.above,I.ok.inj,I.ok.has,I.ok.cab,I.ok.hd,I.ok.frames,I.ok.stk,I.ok.exf,I.ok.bs,I.ok.bsz,I.ok.a9A,I.ok.abZ,I.ok.vR,I.ok.frf⟩,I.os,I.bare,I.base,I.loc,I.cell,I.free,I.lB,I.pin,I.hok,I.len,I.hnd,I.tup⟩,sr,c⟩⟩
theorem awT{P:lq}{w:jg}{s s':cg}{h2:jq}(fl:Fly B l x (.ref C) s'.heap)(cov:∀b o,s.heap.get? b=aj o->H b=aq->b∉frs l->B.get? b=aj o)
  (a2F:∀b o,s.heap.get? b=aj o->b∉frs l->∃o',B.get? b=aj o')(un:Un (frs l) [] H H' s.heap s'.heap)(st:B.StaysIn h2)(up:s'.heap.UpToSlots h2):Un (frs l) [] H H' s.heap h2:=by
 have hfd:∀b∈frs l,∀o,s'.heap.get? b=aj o->∀vs,o.data≠.fields vs:=λb hb o e=>by
  obtain⟨_,o',ho',hd⟩:=fl.akX.mem hb;rw[e]at ho';cases ho';exact hd
 refine⟨λb o eb nb hb _=>st b o (cov b o eb nb hb),λb o eb nb hb hx=>?_,un.free,λb o eb hx=>?_,un.tups,un.lA,un.wO⟩
 .obtain⟨sl,e1⟩:=un.slot b o eb nb hb hx;obtain⟨sl2,e2⟩:=up b _ e1 (hfd b hb _ e1);exact⟨sl2,e2⟩
 .by_cases hb:b∈frs l
  .obtain⟨o2,e2⟩:=un.there b o eb hx;obtain⟨sl,e3⟩:=up b o2 e2 (hfd b hb o2 e2);exact⟨_,e3⟩
  .obtain⟨o2,e2⟩:=a2F b o eb hb;exact⟨o2,st b o2 e2⟩
variable{E:au->cg->Prop}
theorem aaV{Q:Unit->cg->Prop}(I:Inv X pins σ H s)(hN:X.N.Nodup)(hi:X.N[i]?=aj n)(hl:X.env.kindOf n=aj .local)
  (h:∀s',Inv X pins (wV σ i) H s'->Q () s'):dh M A (do bindName X.env n .none;unbindBehindTheSuite X.env n pos) Q E s:=by
 obtain⟨m,hn,hlo⟩:=id I.loc;have cne:=I.cne;refine wpAny_nameGoes_keeps hl hn (by rw[I.ok.kind];rfl) λh' v hn' hs=>?_;obtain⟨oL,_,_,hoL,_⟩:=id hn;refine h _ ⟨I.ok,I.os,I.bare,⟨λb o e n hb hx=>?_,λb o e n hb hx=>?_,I.base.free,λb o e hx=>?_,I.base.tups,I.base.lA,I.base.wO⟩,⟨_,hn',λj y v' e1 e2 e3=>?_⟩,λy c e=>?_,I.free,I.lB,λp hp=>?_,λb ob e=>?_,(a4Z σ i).trans I.len,I.hnd,I.tup⟩
 .exact(hs.2 b (mq (ju (gk e) I.ok.above))).trans (I.base.keep b o e n hb hx)
 .obtain⟨sl,e1⟩:=I.base.slot b o e n hb hx;exact⟨sl,(hs.2 b (mq (ju (gk e) I.ok.above))).trans e1⟩
 .obtain⟨o',e1⟩:=I.base.there b o e hx;exact⟨o',(hs.2 b (mq (ju (gk e) I.ok.above))).trans e1⟩
 .obtain⟨hj,e2'⟩:=a5A σ i j v' e2;obtain⟨u',r',q⟩:=hlo j y v' e1 e2' e3;refine⟨u',r',?_⟩;rcases q with⟨k,e⟩|⟨k,c,e,z⟩
  .refine .inl ⟨k,?_⟩;have:y≠n:=λe=>hj (ac0 hN e1 (e ▸ hi));simp[this,e]
  .exact .inr ⟨k,c,e,z.sameBut hs (cne y c e)⟩
 .obtain⟨w',z⟩:=I.cell y c e;exact⟨w',z.sameBut hs (cne y c e)⟩
 .obtain⟨e,n,ne,nf,d⟩:=I.pin p hp;exact⟨(hs.2 p.1 ne).trans e,n,ne,nf,d⟩
 .refine(I.hok b ob e).stay (λc w' hc q=>(hs.2 c ?_).trans q) (λ_ q=>q) λ_ _ q=>q;rintro rfl;have hfree:=I.free;rcases hc with z|hc
  .rw[z,e]at hfree;cases hfree
  .rw[hfree]at hc;cases hc
set_option tactic.hygienic true in
theorem aIS{K:Fg}{s:cg}{oe:Obj}{b:Bool}{Q:Bool->cg->Prop}(KX:K.In s.heap)(he:s.heap.get? x=aj oe)(hcls:oe.cls=.ref C)
  (hc:(ux K Dc).isSome=ak)(ht:a0a K (.ref Dc)=aj (.type "type"))(hb:um K (.ref Dc) (.type "BaseException")=aj ak)(hs:um K (.ref C) (.ref Dc)=aj b)(h:Q b s):dh M A (excMatches (.ref x) (.ref Dc)) Q E s:=by
 have l1:ug M s.heap (typeOf (.ref Dc)) (.type "type"):=PySem.W.looks_typeIn KX ht;have l2:ug M s.heap (isSubtype (.ref Dc) (.type "BaseException")) ak:=PySem.W.looks_subIn KX hb;have l3:ug M s.heap (isSubtype (.ref C) (.ref Dc)) b:=PySem.W.looks_subIn KX hs
 have l4:ug M s.heap (typeOf (.ref x)) (.ref C):=by
  have z:=(ug.ld (M:=M) (part:=none) he).andThen (f:=λo=>pure o.cls) (b:=.ref C) (by rw[hcls];exact .now);exact z
 have l0:ug M s.heap (isSubtype (.type "type") (.type "tuple")) ao:=.of_pure tc_notTuple
 have lt:ug M s.heap (isType (.ref Dc)) ak:=by
  intro A' Q' E' s' k q;cases eK:ux K Dc with
  |none=>rw[eK]at hc;cases hc
  |some cd =>
   unfold ux at eK;split at eK
   .rename_i ho;unfold isType loadHead;exact bw (wpAny_loadPart (k _ _ (KX _ _ ho)) (gV q))
   .cases eK
 unfold excMatches isInstance isExcClass
 repeat (first|with_reducible refine ug.here l0 ?_|with_reducible refine ug.here l1 ?_|with_reducible refine ug.here l2 ?_|with_reducible refine ug.here l3 ?_|with_reducible refine ug.here l4 ?_|with_reducible refine ug.here lt ?_|wp_step)
 cases b<;>(wp_walk;exact h)
noncomputable def al5(K:Fg)(Dc:bx)(i:Nat)(tb:(aL->aO)->aZ)(th:aZ):aZ:=λF ρ G =>
 tb (λρ1 C G1=>um K (.ref C) (.ref Dc)=aj ak/\∀x,G1 x=aq->th {nx:=λρ2 G2=>F.nx (pC ρ2 i) G2,rt:=F.rt,bk:=λρ2 G2=>F.bk (pC ρ2 i) G2,ct:=λρ2 G2=>F.ct (pC ρ2 i) G2} (a2E ρ1 i (.ref x)) (aJ G1 x (.exn C))) F ρ G
set_option tactic.hygienic true in
theorem al6(h:SP (awS X pins EX) [] F f s):SP X pins F f s:=by
 cases f with
 |next=>obtain⟨σ',H',I,q⟩:=h;exact⟨σ',H',rQ I,q⟩
 |brk=>obtain⟨σ',H',I,q⟩:=h;exact⟨σ',H',rQ I,q⟩
 |cont=>obtain⟨σ',H',I,q⟩:=h;exact⟨σ',H',rQ I,q⟩
 |ret u=>obtain⟨v,σ',H',I,r,q⟩:=h;exact⟨v,σ',H',rQ I,r,q⟩
theorem acD(hok:HOk P w H B)(n:B.get? x=aq):H x=aq:=by
 cases e0:H x with
 |none=>rfl
 |some o =>
  have lt:=(hok x o e0)
  obtain⟨o',ho'⟩:∃o',B.get? x=aj o':=by
   cases o with
   |lst xs=>obtain⟨_,_,_,_,e⟩:=lt;exact⟨_,e⟩
   |tup xs=>obtain⟨_,_,_,o,e,_⟩:=lt;exact⟨_,e⟩
   |dK kvs=>obtain⟨_,_,_,_,o,_,_,e,_⟩:=lt;exact⟨_,e⟩
   |dT kvs=>obtain⟨_,_,_,_,o,_,_,e,_⟩:=lt;exact⟨_,e⟩
   |set S n=>obtain⟨o,_,_,_,e,_⟩:=lt;exact⟨_,e⟩
   |ins C dx fs=>obtain⟨_,_,_,e,_⟩:=lt;exact⟨_,e⟩
   |own y=>obtain⟨_,e⟩:=lt;exact⟨_,e⟩
   |xd fs=>obtain⟨_,⟨_,_,_,e,_⟩,_⟩:=lt;exact⟨_,e⟩
   |rng lo hi=>obtain⟨_,_,_,e⟩:=lt;exact⟨_,e⟩
   |frz ob u=>obtain⟨e,_⟩:=lt;exact⟨_,e⟩
   |tbl ps=>exact⟨_,(show B.get? x=aj _ from lt)⟩
   |met f y=>exact⟨_,(show B.get? x=aj _ from lt)⟩
   |ext φ=>obtain⟨_,⟨_,e⟩,_⟩:=lt;exact⟨_,e⟩
  rw[n]at ho';cases ho'
set_option tactic.hygienic true in
theorem aR3{suite:List mj}{cx:Str}{tb:(aL->aO)->aZ}{th:aZ}{cp hpos:Pos}
  (hcm:X.calm=ak)(hN:X.N.Nodup)(hi:X.N[i]?=aj n)(hl:X.env.kindOf n=aj .local)(hst:X.stack=X.env::X.outer)(hfn:X.env.frame=aj X.env.locals)
  (hg:Gl X cx)(hm:X.mg cx=aj (.ref Dc))(hc:(ux X.K Dc).isSome=ak)(ht:a0a X.K (.ref Dc)=aj (.type "type"))(hbx:um X.K (.ref Dc) (.type "BaseException")=aj ak)
  (hb:∀pn EX,a4Y (awS X pn EX) body (tb EX))(hh:∀x,a4Y (al4 X x) (b₀::suite) th)(hd:(cx==("__debug__":Str))=ao:=by decide) :
  PS3 X (.Try body [.ExceptHandler (aj (.Name cx cp)) (aj n) (b₀::suite) hpos] [] [] pos) (al5 X.K Dc i tb th):=by
 intro pins s σ H F I h;obtain⟨ρ,G,E3,sr,g,q,d⟩:=h;refine wpAny_Try_except (kj (hb pins _ [] s σ H F (aqQ I _) ⟨ρ,G,E3,sr,g,q,d⟩) (λf s1 q1=>?_) λe s1 q1=>?_)
 .have q2:=al6 q1;cases f with
  |next=>exact a1i q2
  |brk=>exact q2
  |cont=>exact q2
  |ret u=>exact q2
 .obtain⟨oW,σ1,H1,s0,ρ1,I1,sr1,x,C,H',B,rfl,fl,hok,cov,a2F,un,os,bare,c,G',e2,g',hsub,hth⟩:=q1;cases e2;have J1:Inv X pins σ1 H1 s0:=rQ I1;have hn:X.A.handled=aq:=I.ok.hd hcm;have hfr:X.A.frames=aj (X.env::X.outer):=by rw[←hst];exact I.ok.frames
  have fl':Fly B (X.env::X.outer) x (.ref C) s1.heap:=by rw[←hst];exact fl
  refine ahR (B:=B) hfr hfn fl' λh4 awU sm4=>?_;refine wN awU λh5 fl5 sm5=>?_;have hxB:B.get? x=aq:=fl.new;have nxH:H' x=aq:=acD hok hxB
  have track:∀(h6:jq)(oe:Obj)(ws:Array au),Fly B (X.env::X.outer) x (.ref C) h6->s1.heap.UpToSlots h6->h6.get? x=aj oe->oe.cls=.ref C->oe.data=.fields ws ->
    Inv X pins σ1 (upd H' x (.frz oe (.ext (sE C x)))) {s1 with heap:=h6}/\Ts H1 (upd H' x (.frz oe (.ext (sE C x)))):=by
   intro h6 oe ws fl6 sm a6W acE yE;have un6:=awT (P:=X.prog) (w:=X.w) fl cov a2F un fl6.stays sm
   have nx0:s0.heap.get? x=aq:=by
    cases e0:s0.heap.get? x with
    |none=>rfl
    |some o =>
     by_cases hx:x∈frs X.stack
     .obtain⟨_,o',ho',hd'⟩:=fl6.akX.mem (by rw[←hst];exact hx);rw[a6W]at ho';cases ho';exact absurd yE (hd' ws)
     .obtain⟨o',ho'⟩:=a2F x o e0 hx;rw[hxB]at ho';cases ho'
   have sn:Same H' (upd H' x (.frz oe (.ext (sE C x)))):=bO nxH;have nst:∀b o,s0.heap.get? b=aj o->b≠x:=λb o e z=>by subst z;rw[nx0]at e;cases e
   have un7:Un (frs X.stack) [] H1 (upd H' x (.frz oe (.ext (sE C x)))) s0.heap h6:=⟨un6.keep,un6.slot,λb o e n hx=>by rw[bT (nst b o e)];exact un6.free b o e n hx,un6.there,λb xs z=>sn _ _ (un6.tups b xs z),λb o u z=>sn _ _ (un6.lA b o u z),λb ps z=>by
    obtain⟨m,e⟩:=un6.wO b ps z;exact⟨m,sn _ _ e⟩⟩
   have aIW:HOk X.prog X.w (upd H' x (.frz oe (.ext (sE C x)))) h6:=λb o e=>by
    by_cases hb:b=x
    .subst hb;rw[aP]at e;cases e;refine⟨a6W,⟨oe,ws,a6W,acE,yE⟩,⟨oe,a6W⟩,λh1 h2 ⟨o1,w1,e1,e2,e3⟩ k=>⟨o1,w1,k _ e1,e2,e3⟩⟩
    .rw[bT hb]at e;exact((hok.kept fl6.stays) b o e).stay (λ_ _ _ z=>z) (λc z=>sn _ _ z) λc xs z=>sn _ _ z
   exact⟨J1.call' (ch:=[]) (s':={s1 with heap:=h6}) os un7 aIW bare (λb z=>absurd z (by simp)),un7.tups,un7.lA⟩
  obtain⟨oe,ws5,hoe,hoec,hoed,aIX⟩:=fl5.fld;obtain⟨J5,_⟩:=track h5 oe ws5 fl5 (sm4.trans sm5) hoe hoec hoed;refine wpAny_handleBy_cons (codeAny_handlers_test ?_) (by intro q;cases q);refine oJ (X:=al4 X x) (aaU J5 x (.inr ⟨x,oe,_,ws5,rfl,aP,hoed,aIX⟩)) hg hm ?_ hd;refine aIS (K:=X.K) J5.kIn hoe hoec hc ht hbx hsub ?_;refine codeAny_handlers_suite_as ?_;refine wN fl5 λh6 fl6 sm6=>?_;obtain⟨oe6,ws,a6W,acE,yE,aqR⟩:=fl6.fld;obtain⟨J7,tt⟩:=track h6 oe6 ws fl6 ((sm4.trans sm5).trans sm6) a6W acE yE;have gx:G' x=aq:=uX (K:=X.K) g' nxH (yC (X:=X) J7);refine ac1 (X:=al4 X x) (aaU J7 x (.inr ⟨x,oe6,_,ws,rfl,aP,yE,aqR⟩)) hN hi (.inl hl) (v:=.ref x) (u:=.ref x) rfl (λs8 J8=>?_) (.inr hl);have q8:=hth x gx
  refine kj (hh x pins s8 _ _ {nx:=λσ2 H2=>F.nx (wV σ2 i) H2,rt:=F.rt,bk:=λσ2 H2=>F.bk (wV σ2 i) H2,ct:=λσ2 H2=>F.ct (wV σ2 i) H2} J8
   ⟨a2E ρ1 i (.ref x),aJ G' x (.exn C),_,(sr1.mono tt).set (.ref x) i,g'.put (u:=.exn C) nxH ⟨oe6,ws,aP,yE,aqR⟩,q8,⟨λρ2 G2 σ2 H2 s2 g2 z=>d.nx _ G2 _ H2 (s2.clr i) g2 z,d.rt,λρ2 G2 σ2 H2 s2 g2 z=>d.bk _ G2 _ H2 (s2.clr i) g2 z,λρ2 G2 σ2 H2 s2 g2 z=>d.ct _ G2 _ H2 (s2.clr i) g2 z⟩⟩) (λf s9 q9=>?_) λ_ _ z=>z.elim
  cases f with
  |next=>obtain⟨σ2,H2,I2,z⟩:=q9;exact aaV (jQ J7.ok hn I2) hN hi hl λs10 I10=>⟨_,H2,I10,z⟩
  |brk=>obtain⟨σ2,H2,I2,z⟩:=q9;exact aaV (jQ J7.ok hn I2) hN hi hl λs10 I10=>⟨_,H2,I10,z⟩
  |cont=>obtain⟨σ2,H2,I2,z⟩:=q9;exact aaV (jQ J7.ok hn I2) hN hi hl λs10 I10=>⟨_,H2,I10,z⟩
  |ret u=>obtain⟨v,σ2,H2,I2,r2,z⟩:=q9;exact aaV (jQ J7.ok hn I2) hN hi hl λs10 I10=>⟨v,_,H2,I10,r2,z⟩
end
end
section
variable{n:Nat}{x:D}
section
variable{X:Cx}{a b c:jt}
noncomputable def aqS(t:dB):dB:=λρ G R=>t ρ G λx G1=>match x with
 |.int i=>R (.int (-i)) G1
 |_=>False
theorem aR9(ha:dR X a ta):dR X (.UnaryOp .USub a pos) (aqS ta):=PE.imp (aPU aHW ha) λσ H Q h=>by
 obtain⟨ρ,G,R,s,g,t,k⟩:=h;refine⟨ρ,G,_,s,g,t,λv H1 x G1 t1 r g1 q=>?_⟩;cases r with
 |int i=>exact⟨i,rfl,k _ H1 _ G1 t1 (.int _) g1 q⟩
 |_=>exact False.elim q
noncomputable def bW:Nat->D->Bool
 |0,.tup _=>ao
 |n+1,.tup xs=>xs.all (bW n)
 |_,.ref _=>ao
 |_,.ty _=>ao
 |_,_=>ak
mutual
noncomputable def eqP:D->D->Bool
 |.non,.non=>ak
 |.bl a,.bl b=>a==b
 |.bl a,.int b=>(if a then 1 else 0)==b
 |.int a,.bl b=>a==(if b then 1 else 0)
 |.int a,.int b=>a==b
 |.str a,.str b=>a==b
 |.tup xs,.tup ys=>u9 xs ys
 |_,_=>ao
noncomputable def u9:List D->List D->Bool
 |[],[]=>ak
 |x::xs,y::ys=>eqP x y&&u9 xs ys
 |_,_=>ao
end
noncomputable def wW(xs ys:List D)(j:Nat):Bool:=match xs[j]?,ys[j]? with
 |some a,aj b=>eqP a b
 |_,_=>ao
theorem acF(n:Nat)(e:Nat->Bool):(kh (n+1)).all e=(e 0&&(kh n).all λj=>e (j+1)):=by
 rw[List.range_succ_eq_map,yj,a1c];rfl
theorem mU:∀(xs ys:List D),u9 xs ys=((kh (min xs.length ys.length)).all (wW xs ys)&&xs.length==ys.length)
 |[],[]=>rfl
 |[],y::ys=>by simp[u9]
 |x::xs,[]=>by simp[u9]
 |x::xs,y::ys=>by
  have ih:=mU xs ys;have e:min (x::xs).length (y::ys).length=min xs.length ys.length+1:=by simp only[ig];omega
  rw[u9,ih,e,acF];have e0:wW (x::xs) (y::ys) 0=eqP x y:=rfl
  have e1:(λj=>wW (x::xs) (y::ys) (j+1))=wW xs ys:=by
   funext j;simp[wW]
  have e2:((x::xs).length==(y::ys).length)=(xs.length==ys.length):=by
   simp only[ig];by_cases h:xs.length=ys.length
   .simp[h]
   .have h':¬ (xs.length+1=ys.length+1):=by omega
    simp[h,h']
  rw[e0,e1,e2,Bool.and_assoc]
theorem al7{xs ys:List D}(h:(xs.length !=ys.length)=ak):u9 xs ys=ao:=by
 rw[mU];have:(xs.length==ys.length)=ao:=by simpa using h
 rw[this,a2k]
theorem agQ{xs ys:List D}(h:xs.length=ys.length):u9 xs ys=(kh xs.length).all (wW xs ys):=by
 rw[mU,h];simp
theorem cH.aRA{K:Fg}(ih:∀{x y:D}{v:V},bW n x=ak->bW n y=ak->RD K H x v->RD K H y v->x=y):∀{xs ys:List D},(∀x∈xs,bW n x=ak)->(∀y∈ys,bW n y=ak)->cH K H xs vs->cH K H ys vs->xs=ys:=by
 induction vs with
 |nil=>intro xs ys _ _ h1 h2;cases h1;cases h2;rfl
 |cons v vs jh =>
  intro xs ys hx hy h1 h2;cases h1 with
  |cons a r =>
  cases h2 with
  |cons b t=>rw[ih (hx _ (iz ..)) (hy _ (iz ..)) a b,jh (λx m=>hx x (gb _ m)) (λy m=>hy y (gb _ m)) r t]
theorem RD.inj(I:Inv X pins σ H s):∀{x y:D}{v:V},bW n x=ak->bW n y=ak->RD X.K H x v->RD X.K H y v->x=y:=by
 induction n with
 |zero=>intro x y v hx hy h1 h2;cases h1<;>cases h2<;>first|rfl|cases hx|cases hy
 |succ n ih =>
  intro x y v hx hy h1 h2;cases h1 with
  |tup s1 r1 _ =>
   cases h2 with
   |tup s2 r2 _ =>
    have e:=I.a1Q s1 s2;subst e;rw[cH.aRA ih (by simpa[bW]using hx) (by simpa[bW]using hy) r1 r2]
   |ref=>cases hy
  |ref=>cases hx
  |_=>cases h2;rfl
mutual
theorem al8:∀{n:Nat}{x:D},bW n x=ak->eqP x x=ak
 |_,.non,_=>rfl
 |_,.bl b,_=>by simp[eqP]
 |_,.int b,_=>by simp[eqP]
 |_,.str b,_=>by simp[eqP]
 |n,.ref _,h=>by cases n<;>simp[bW]at h
 |n,.ty _,h=>by cases n<;>simp[bW]at h
 |0,.tup _,h=>by simp[bW]at h
 |n+1,.tup xs,h=>by rw[eqP];exact agR (n:=n) (by simpa[bW]using h)
theorem agR:∀{n:Nat}{xs:List D},(∀x∈xs,bW n x=ak)->u9 xs xs=ak
 |_,[],_=>rfl
 |n,x::xs,h=>by rw[u9,al8 (h x (by simp)),agR λy m=>h y (by simp[m])];rfl
end
theorem Vals.awV{K:Fg}(r:cH K H ds xs)(v:Vals xs us){j:Nat}(e:us[j]?=aj u):∃d x,ds[j]?=aj d/\RD K H d x/\RelV x u:=by
 have hj:j<us.length:=(jf.mp e).1;have hj':j<xs.length:=by rw[v.length];exact hj
 have ex:xs[j]?=aj xs[j]:=gq hj';obtain⟨u',e1,r1⟩:=v.get ex;rw[e]at e1;cases e1;obtain⟨d,e2,r2⟩:=r.aoD ex;exact⟨d,_,e2,r2,r1⟩
theorem zT{K:Fg}{n:Nat}{us ws:List au}(rx:cH K H xs vx)(ry:cH K H ys vy)(vx':Vals vx us)(vy':Vals vy ws)
  (ih:∀x∈xs,∀y∈ys,∀(v w:V)(u t:au),RD K H x v->RD K H y w->RelV v u->RelV w t->SeqAt.EqAt A s u t (eqP x y)) :
  ∀j (h1:j<us.toArray.size) (h2:j<ws.toArray.size),SeqAt.EqAt A s us.toArray[j] ws.toArray[j] (wW xs ys j):=by
 intro j h1 h2;have e1:us[j]?=aj us.toArray[j]:=by simp[gq (show j<us.length by simpa using h1)]
 have e2:ws[j]?=aj ws.toArray[j]:=by simp[gq (show j<ws.length by simpa using h2)]
 obtain⟨d,x,f1,f2,f3⟩:=Vals.awV rx vx' e1;obtain⟨d',y,g1,g2,g3⟩:=Vals.awV ry vy' e2;have e:wW xs ys j=eqP d d':=by simp[wW,f1,g1]
 rw[e];exact ih d (uc f1) d' (uc g1) x y _ _ f2 g2 f3 g3
noncomputable def scD:D->Bool
 |.non=>ak
 |.bl _=>ak
 |.int _=>ak
 |.str _=>ak
 |_=>ao
theorem aqT{K:Fg}(hx:scD x=ak)(hy:scD y=ak)(rx:RD K H x vx)(ry:RD K H y vy)(ru:RelV vx u)(rv:RelV vy v):SeqAt.EqAt A s u v (eqP x y):=by
 have fx:xZ vx=ak:=by cases rx<;>first|rfl|cases hx
 have fy:xZ vy=ak:=by cases ry<;>first|rfl|cases hy
 have e:eqV vx vy=eqP x y:=by cases rx<;>cases ry<;>first|(simp[eqV,eqP];done)|cases hx|cases hy
 rw[←e];exact awC ru rv fx fy
theorem zU(h:A.units+(n+1)<yd):A.in1.units+n<yd:=by
 show A.units+1+n<yd;omega
inductive Vw(X:Cx)(H:Hp)(s:cg):D->au->Prop where
 |non:Vw X H s .non .none
 |bl (b:Bool):Vw X H s (.bl b) (.bool b)
 |int (i:Int) (t:Nat):Vw X H s (.int i) (.int i t)
 |str (z:Str) (t:Nat):Vw X H s (.str z) (.str z t)
 |tup {a:bx} {vs:List V} {ds:List D} {its:List au} (q:zL X.K H a vs) (r:cH X.K H ds vs) (c:atH H a vs) (w:Vals vs its) (p:s.heap.IsTuple a its.toArray):Vw X H s (.tup ds) (.ref a)
theorem vw(I:Inv X pins σ H s)(hx:bW n x=ak)(rx:RD X.K H x vx)(ru:RelV vx u):Vw X H s x u:=by
 cases rx with
 |non=>cases ru;exact .non
 |bl b=>cases ru;exact .bl b
 |int i=>obtain⟨t,rfl⟩:=ru;exact .int i t
 |str z=>obtain⟨t,rfl⟩:=ru;exact .str z t
 |tup q r c=>cases ru;obtain⟨its,w,p,_⟩:=I.tuple q;exact .tup q r c w p
 |_=>cases n<;>simp[bW]at hx
theorem ai8(I:Inv X pins σ H s):∀(n:Nat)(A:qb)(x y:D)(vx vy:V)(u v:au),A.units+n<yd->bW n x=ak->bW n y=ak->RD X.K H x vx->RD X.K H y vy->RelV vx u->RelV vy v->SeqAt.EqAt A s u v (eqP x y):=by
 intro n
 induction n with
 |zero =>
  intro A x y vx vy u v hu hx hy rx ry ru rv;have sx:scD x=ak:=by cases x<;>first|rfl|(simp[bW]at hx)
  have sy:scD y=ak:=by cases y<;>first|rfl|(simp[bW]at hy)
  exact aqT sx sy rx ry ru rv
 |succ n ih =>
  intro A x y vx vy u v hu hx hy rx ry ru rv;have hu0:A.units<yd:=by omega
  cases vw I hx rx ru with
  |@tup ax xs ds its hax rax eax vv px =>
   cases vw I hy ry rv with
   |@tup ay ys es jts hay ray eay ww py =>
    by_cases hab:ax=ay
    .subst hab;have e:=RD.inj I (n:=n+1) hx hy (.tup hax rax eax) (.tup hay ray eay);rw[e,al8 hy];exact SeqAt.EqAt.same _
    .refine SeqAt.EqAt.of_refs hab ?_
     have z:=SeqAt.RcAt.tuples (e:=wW ds es) px py hu0 (zT (n:=n) rax ray vv ww λx mx y my v w u t r1 r2 r3 r4 =>
      ih A.in1 x y v w u t (zU hu) (iu.mp (by simpa[bW]using hx) x mx) (iu.mp (by simpa[bW]using hy) y my) r1 r2 r3 r4)
     have e:((kh (min its.toArray.size jts.toArray.size)).all (wW ds es)&&its.toArray.size==jts.toArray.size)=eqP (.tup ds) (.tup es):=by
      rw[eqP,mU,fj,fj,←vv.length,←ww.length,←rax.length,←ray.length]
     rw[e]at z;exact z
   |_=>simp only[eqP];with_reducible first|exact SeqAt.EqAt.tuple_none px hu0|exact SeqAt.EqAt.tuple_bool _ px hu0|exact SeqAt.EqAt.tuple_int _ _ px hu0|exact SeqAt.EqAt.tuple_str _ _ px hu0
  |_ =>
   cases vw I hy ry rv with
   |tup _ _ _ _ py=>simp only[eqP];with_reducible first|exact SeqAt.EqAt.none_tuple py hu0|exact SeqAt.EqAt.bool_tuple _ py hu0|exact SeqAt.EqAt.int_tuple _ _ py hu0|exact SeqAt.EqAt.str_tuple _ _ py hu0
   |_=>exact aqT rfl rfl rx ry ru rv
end
end
variable{a1 a2:bx}
section
section
variable{X:Cx}
local macro_rules| `(tactic| walk_at "rc")=>`(tactic| first|exact SeqAt.RcAt.none_none|exact SeqAt.RcAt.none_bool _|exact SeqAt.RcAt.none_int _ _|exact SeqAt.RcAt.none_str _ _|exact SeqAt.RcAt.bool_none _|exact SeqAt.RcAt.bool_bool _ _|exact SeqAt.RcAt.bool_int _ _ _|exact SeqAt.RcAt.bool_str _ _ _|exact SeqAt.RcAt.int_none _ _|exact SeqAt.RcAt.int_bool _ _ _|exact SeqAt.RcAt.int_int _ _ _ _|exact SeqAt.RcAt.int_str _ _ _ _|exact SeqAt.RcAt.str_none _ _|exact SeqAt.RcAt.str_bool _ _ _|exact SeqAt.RcAt.str_int _ _ _ _|exact SeqAt.RcAt.str_str _ _ _ _)
theorem aWI(I:Inv X pins σ H s)(n:Nat)(A:qb)(x y:D)(vx vy:V)(u v:au)(hu:A.units+(n+1)<yd)(hx:bW (n+1) x=ak)(hy:bW (n+1) y=ak)(rx:RD X.K H x vx)(ry:RD X.K H y vy)(ru:RelV vx u)(rv:RelV vy v):SeqAt.RcAt A s u v (eqP x y):=by
 have hu0:A.units<yd:=by omega
 cases vw I hx rx ru with
 |@tup a1 xs1 ds1 a6X h1 r1 _ vv1 p1 =>
  cases vw I hy ry rv with
  |@tup a2 xs2 ds2 its2 h2 r2 _ vv2 p2 =>
   have z:=SeqAt.RcAt.tuples (e:=wW ds1 ds2) p1 p2 hu0 (zT (n:=n) r1 r2 vv1 vv2 λx mx y my v w u t q1 q2 q3 q4 =>
      ai8 I n A.in1 x y v w u t (zU hu) (iu.mp (by simpa[bW]using hx) x mx) (iu.mp (by simpa[bW]using hy) y my) q1 q2 q3 q4)
   have e:((kh (min a6X.toArray.size its2.toArray.size)).all (wW ds1 ds2)&&a6X.toArray.size==its2.toArray.size)=eqP (.tup ds1) (.tup ds2):=by
    rw[eqP,mU,fj,fj,←vv1.length,←vv2.length,←r1.length,←r2.length]
   rw[e]at z;exact z
  |_=>simp only[eqP];with_reducible first|exact SeqAt.RcAt.tuple_none p1 hu0|exact SeqAt.RcAt.tuple_bool _ p1 hu0|exact SeqAt.RcAt.tuple_int _ _ p1 hu0|exact SeqAt.RcAt.tuple_str _ _ p1 hu0
 |_ =>
  cases vw I hy ry rv with
  |tup _ _ _ _ p2=>simp only[eqP];with_reducible first|exact SeqAt.RcAt.none_tuple p2 hu0|exact SeqAt.RcAt.bool_tuple _ p2 hu0|exact SeqAt.RcAt.int_tuple _ _ p2 hu0|exact SeqAt.RcAt.str_tuple _ _ p2 hu0
  |_=>simp only[eqP];with_reducible walk_at "rc"
theorem aWJ(I:Inv X pins σ H s)(n:Nat)(A:qb)(hl:zN X.K H a1 xs)(y:D)(vy:V)(v:au)(hu0:A.units<yd)(hy:bW n y=ak)(ry:RD X.K H y vy)(rv:RelV vy v):SeqAt.RcAt A s (.ref a1) v ao:=by
 obtain⟨its,vv,pl,_⟩:=I.list hl;cases vw I hy ry rv with
 |tup _ _ _ _ p2=>exact SeqAt.RcAt.list_tuple pl.isList p2 hu0
 |_=>with_reducible first|exact SeqAt.RcAt.list_none pl.isList hu0|exact SeqAt.RcAt.list_bool _ pl.isList hu0|exact SeqAt.RcAt.list_int _ _ pl.isList hu0|exact SeqAt.RcAt.list_str _ _ pl.isList hu0
theorem aWK(I:Inv X pins σ H s)(n:Nat)(A:qb)(hl:zN X.K H a2 xs)(y:D)(vy:V)(v:au)(hu0:A.units<yd)(hy:bW n y=ak)(ry:RD X.K H y vy)(rv:RelV vy v):SeqAt.RcAt A s v (.ref a2) ao:=by
 obtain⟨its,vv,pl,_⟩:=I.list hl;cases vw I hy ry rv with
 |tup _ _ _ _ p2=>exact SeqAt.RcAt.tuple_list p2 pl.isList hu0
 |_=>with_reducible first|exact SeqAt.RcAt.none_list pl.isList hu0|exact SeqAt.RcAt.bool_list _ pl.isList hu0|exact SeqAt.RcAt.int_list _ _ pl.isList hu0|exact SeqAt.RcAt.str_list _ _ pl.isList hu0
theorem aWL(I:Inv X pins σ H s)(n:Nat)(A:qb){ds1 ds2:List D}(h1:zN X.K H a1 xs1)(h2:zN X.K H a2 xs2)(r1:cH X.K H ds1 xs1)(r2:cH X.K H ds2 xs2)
  (hu:A.units+(n+1)<yd)(hx:ds1.all (bW n)=ak)(hy:ds2.all (bW n)=ak):SeqAt.RcAt A s (.ref a1) (.ref a2) (u9 ds1 ds2):=by
 have hu0:A.units<yd:=by omega
 obtain⟨a6X,vv1,q1,_⟩:=I.list h1;obtain⟨its2,vv2,q2,_⟩:=I.list h2;have p1:=q1.isList;have p2:=q2.isList;by_cases hl:ds1.length=ds2.length
 .have hsz:a6X.toArray.size=its2.toArray.size:=by rw[fj,fj,←vv1.length,←vv2.length,←r1.length,←r2.length];exact hl
  have z:=SeqAt.RcAt.lists (e:=wW ds1 ds2) p1 p2 hsz hu0 (zT (n:=n) r1 r2 vv1 vv2 λx mx y my v w u t q1 q2 q3 q4 =>
      ai8 I n A.in1 x y v w u t (zU hu) (iu.mp hx x mx) (iu.mp hy y my) q1 q2 q3 q4)
  have e:(kh a6X.toArray.size).all (wW ds1 ds2)=u9 ds1 ds2:=by rw[agQ hl,fj,←vv1.length,←r1.length]
  rw[e]at z;exact z
 .have hne:(a6X.toArray.size !=its2.toArray.size)=ak:=by rw[fj,fj,←vv1.length,←vv2.length,←r1.length,←r2.length];simpa using hl
  have e:u9 ds1 ds2=ao:=al7 (by simpa using hl);rw[e];exact SeqAt.RcAt.lists_lengths p1 p2 hne hu0
local macro_rules| `(tactic| walk_at "rc")=>`(tactic| first|exact SeqAt.RcNeAt.none_none|exact SeqAt.RcNeAt.none_bool _|exact SeqAt.RcNeAt.none_int _ _|exact SeqAt.RcNeAt.none_str _ _|exact SeqAt.RcNeAt.bool_none _|exact SeqAt.RcNeAt.bool_bool _ _|exact SeqAt.RcNeAt.bool_int _ _ _|exact SeqAt.RcNeAt.bool_str _ _ _|exact SeqAt.RcNeAt.int_none _ _|exact SeqAt.RcNeAt.int_bool _ _ _|exact SeqAt.RcNeAt.int_int _ _ _ _|exact SeqAt.RcNeAt.int_str _ _ _ _|exact SeqAt.RcNeAt.str_none _ _|exact SeqAt.RcNeAt.str_bool _ _ _|exact SeqAt.RcNeAt.str_int _ _ _ _|exact SeqAt.RcNeAt.str_str _ _ _ _)
theorem aIY(I:Inv X pins σ H s)(n:Nat)(A:qb)(x y:D)(vx vy:V)(u v:au)(hu:A.units+(n+1)<yd)(hx:bW (n+1) x=ak)(hy:bW (n+1) y=ak)(rx:RD X.K H x vx)(ry:RD X.K H y vy)(ru:RelV vx u)(rv:RelV vy v):SeqAt.RcNeAt A s u v (!eqP x y):=by
 have hu0:A.units<yd:=by omega
 cases vw I hx rx ru with
 |@tup a1 xs1 ds1 a6X h1 r1 _ vv1 p1 =>
  cases vw I hy ry rv with
  |@tup a2 xs2 ds2 its2 h2 r2 _ vv2 p2 =>
   have z:=SeqAt.RcNeAt.tuples (e:=wW ds1 ds2) p1 p2 hu0 (zT (n:=n) r1 r2 vv1 vv2 λx mx y my v w u t q1 q2 q3 q4 =>
      ai8 I n A.in1 x y v w u t (zU hu) (iu.mp (by simpa[bW]using hx) x mx) (iu.mp (by simpa[bW]using hy) y my) q1 q2 q3 q4)
   have e:((kh (min a6X.toArray.size its2.toArray.size)).all (wW ds1 ds2)&&a6X.toArray.size==its2.toArray.size)=eqP (.tup ds1) (.tup ds2):=by
    rw[eqP,mU,fj,fj,←vv1.length,←vv2.length,←r1.length,←r2.length]
   rw[e]at z;exact z
  |_=>simp only[eqP,Bool.not_false,Bool.not_true];with_reducible first|exact SeqAt.RcNeAt.tuple_none p1 hu0|exact SeqAt.RcNeAt.tuple_bool _ p1 hu0|exact SeqAt.RcNeAt.tuple_int _ _ p1 hu0|exact SeqAt.RcNeAt.tuple_str _ _ p1 hu0
 |_ =>
  cases vw I hy ry rv with
  |tup _ _ _ _ p2=>simp only[eqP,Bool.not_false,Bool.not_true];with_reducible first|exact SeqAt.RcNeAt.none_tuple p2 hu0|exact SeqAt.RcNeAt.bool_tuple _ p2 hu0|exact SeqAt.RcNeAt.int_tuple _ _ p2 hu0|exact SeqAt.RcNeAt.str_tuple _ _ p2 hu0
  |_=>simp only[eqP,Bool.not_false,Bool.not_true];with_reducible walk_at "rc"
theorem aIZ(I:Inv X pins σ H s)(n:Nat)(A:qb)(hl:zN X.K H a1 xs)(y:D)(vy:V)(v:au)(hu0:A.units<yd)(hy:bW n y=ak)(ry:RD X.K H y vy)(rv:RelV vy v):SeqAt.RcNeAt A s (.ref a1) v ak:=by
 obtain⟨its,vv,pl,_⟩:=I.list hl;cases vw I hy ry rv with
 |tup _ _ _ _ p2=>exact SeqAt.RcNeAt.list_tuple pl.isList p2 hu0
 |_=>with_reducible first|exact SeqAt.RcNeAt.list_none pl.isList hu0|exact SeqAt.RcNeAt.list_bool _ pl.isList hu0|exact SeqAt.RcNeAt.list_int _ _ pl.isList hu0|exact SeqAt.RcNeAt.list_str _ _ pl.isList hu0
theorem aJ0(I:Inv X pins σ H s)(n:Nat)(A:qb)(hl:zN X.K H a2 xs)(y:D)(vy:V)(v:au)(hu0:A.units<yd)(hy:bW n y=ak)(ry:RD X.K H y vy)(rv:RelV vy v):SeqAt.RcNeAt A s v (.ref a2) ak:=by
 obtain⟨its,vv,pl,_⟩:=I.list hl;cases vw I hy ry rv with
 |tup _ _ _ _ p2=>exact SeqAt.RcNeAt.tuple_list p2 pl.isList hu0
 |_=>with_reducible first|exact SeqAt.RcNeAt.none_list pl.isList hu0|exact SeqAt.RcNeAt.bool_list _ pl.isList hu0|exact SeqAt.RcNeAt.int_list _ _ pl.isList hu0|exact SeqAt.RcNeAt.str_list _ _ pl.isList hu0
theorem aJ1(I:Inv X pins σ H s)(n:Nat)(A:qb){ds1 ds2:List D}(h1:zN X.K H a1 xs1)(h2:zN X.K H a2 xs2)(r1:cH X.K H ds1 xs1)(r2:cH X.K H ds2 xs2)
  (hu:A.units+(n+1)<yd)(hx:ds1.all (bW n)=ak)(hy:ds2.all (bW n)=ak):SeqAt.RcNeAt A s (.ref a1) (.ref a2) (!u9 ds1 ds2):=by
 have hu0:A.units<yd:=by omega
 obtain⟨a6X,vv1,q1,_⟩:=I.list h1;obtain⟨its2,vv2,q2,_⟩:=I.list h2;have p1:=q1.isList;have p2:=q2.isList;by_cases hl:ds1.length=ds2.length
 .have hsz:a6X.toArray.size=its2.toArray.size:=by rw[fj,fj,←vv1.length,←vv2.length,←r1.length,←r2.length];exact hl
  have z:=SeqAt.RcNeAt.lists (e:=wW ds1 ds2) p1 p2 hsz hu0 (zT (n:=n) r1 r2 vv1 vv2 λx mx y my v w u t q1 q2 q3 q4 =>
      ai8 I n A.in1 x y v w u t (zU hu) (iu.mp hx x mx) (iu.mp hy y my) q1 q2 q3 q4)
  have e:(kh a6X.toArray.size).all (wW ds1 ds2)=u9 ds1 ds2:=by rw[agQ hl,fj,←vv1.length,←r1.length]
  rw[e]at z;exact z
 .have hne:(a6X.toArray.size !=its2.toArray.size)=ak:=by rw[fj,fj,←vv1.length,←vv2.length,←r1.length,←r2.length];simpa using hl
  have e:u9 ds1 ds2=ao:=al7 (by simpa using hl);rw[e];exact SeqAt.RcNeAt.lists_lengths p1 p2 hne hu0
def eqG(G:Gp)(x y:D)(k:Bool->Prop):Prop:=match x,y with
 |.ref a,.ref b=>(match bQ G a,bQ G b with
  |some xs,aj ys=>xs.all (bW 20)=ak/\ys.all (bW 20)=ak/\k (u9 xs ys)
  |_,_=>False)
 |.ref a,y=>(match bQ G a with
  |some _=>bW 20 y=ak/\k ao
  |none=>False)
 |x,.ref b=>(match bQ G b with
  |some _=>bW 20 x=ak/\k ao
  |none=>False)
 |x,y=>bW 20 x=ak/\bW 20 y=ak/\k (eqP x y)
noncomputable def dF:R3:=λx y G R=>eqG G x y λb=>R (.bl b) G
noncomputable def al9:R3:=λx y G R=>eqG G x y λb=>R (.bl (!b)) G
theorem ai9{f:au->au->Sem au}{r3:R3}(h:∀(pins:List (bx×Obj))(s:cg)(σ:St)(H:Hp)(x y:D)(vx vy:V)(u v:au)(G:Gp)(R:iG)(Q:VK),Inv X pins σ H s->RD X.K H x vx->RD X.K H y vy->RelV vx u->RelV vy v->HR X.K H G->r3 x y G R ->
   (∀w H' d G',Ts H H'->RD X.K H' d w->HR X.K H' G'->R d G'->Q w H')->dh (dz X.prog X.w) X.A (f u v) (EP X pins σ Q) X.xe s):zH X f r3 :=
 ⟨λvx vy H Q=>∃x y G R,RD X.K H x vx/\RD X.K H y vy/\HR X.K H G/\r3 x y G R/\∀w H' d G',Ts H H'->RD X.K H' d w->HR X.K H' G'->R d G'->Q w H',
  λpins s σ H vx vy u v Q I ru rv ⟨x,y,G,R,rx,ry,g,q,k⟩=>h pins s σ H x y vx vy u v G R Q I rx ry ru rv g q k,λH x y vx vy G R Q rx ry g q k=>⟨x,y,G,R,rx,ry,g,q,k⟩⟩
set_option tactic.hygienic true in
theorem aqU(hu:X.A.units+64<yd){neg:Bool}(hop:op=if neg then .NotEq else .Eq){x:D}{k:Bool->Prop}{Q:VK}(I:Inv X pins σ H s)(rx:RD X.K H x vx)(ry:RD X.K H y vy)(ru:RelV vx u)(rv:RelV vy v)(g:HR X.K H G)
  (h:eqG G x y k)(hk:∀b,k b->EP X pins σ Q (.bool (neg ^^ b)) s):dh (dz X.prog X.w) X.A (ni op u v) (EP X pins σ Q) X.xe s:=by
 have fin:∀{b:Bool},(if neg then SeqAt.RcNeAt X.A s u v (!b)else SeqAt.RcAt X.A s u v b)->k b->dh (dz X.prog X.w) X.A (ni op u v) (EP X pins σ Q) X.xe s:=λ{b} z kb=>by
  have e:=hk b kb;cases neg with
  |true =>
   subst hop;rw[Bool.true_xor]at e;exact z X.prog X.w X.xe _ e
  |false =>
   subst hop;rw[Bool.false_xor]at e;exact z X.prog X.w X.xe _ e
 have hu1:X.A.units+(20+1)<yd:=by omega
 have hu2:X.A.units+(19+1)<yd:=by omega
 have hu0:X.A.units<yd:=by omega
 have plain:bW 20 x=ak->bW 20 y=ak->k (eqP x y)->dh (dz X.prog X.w) X.A (ni op u v) (EP X pins σ Q) X.xe s:=λhx hy kk=>fin (b:=eqP x y) (by
  cases neg with
  |true=>exact aIY I 19 X.A x y vx vy u v hu2 hx hy rx ry ru rv
  |false=>exact aWI I 19 X.A x y vx vy u v hu2 hx hy rx ry ru rv) kk
 have left:∀a xs,x=.ref a->bQ G a=aj xs->bW 20 y=ak->k ao->dh (dz X.prog X.w) X.A (ni op u v) (EP X pins σ Q) X.xe s:=λa xs e1 e2 hy kk=>by
  subst e1;cases rx;cases ru;obtain⟨zs,hz,_⟩:=cB g e2;refine fin (b:=false) ?_ kk;cases neg with
  |true=>exact aIZ I 20 X.A hz y vy v hu0 hy ry rv
  |false=>exact aWJ I 20 X.A hz y vy v hu0 hy ry rv
 have right:∀a xs,y=.ref a->bQ G a=aj xs->bW 20 x=ak->k ao->dh (dz X.prog X.w) X.A (ni op u v) (EP X pins σ Q) X.xe s:=λa xs e1 e2 hy kk=>by
  subst e1;cases ry;cases rv;obtain⟨zs,hz,_⟩:=cB g e2;refine fin (b:=false) ?_ kk;cases neg with
  |true=>exact aJ0 I 20 X.A hz x vx u hu0 hy rx ru
  |false=>exact aWK I 20 X.A hz x vx u hu0 hy rx ru
 unfold eqG at h;split at h
 .rename_i a b;split at h
  .rename_i xs ys e1 e2;cases rx;cases ry;cases ru;cases rv;obtain⟨zs1,hz1,q1⟩:=cB g e1;obtain⟨zs2,hz2,q2⟩:=cB g e2;refine fin (b:=u9 xs ys) ?_ h.2.2;cases neg with
   |true=>exact aJ1 I 20 X.A hz1 hz2 q1 q2 hu1 h.1 h.2.1
   |false=>exact aWL I 20 X.A hz1 hz2 q1 q2 hu1 h.1 h.2.1
  .exact h.elim
 .rename_i a _;split at h
  .rename_i xs e1;exact left a xs rfl e1 h.1 h.2
  .exact h.elim
 .rename_i b _;split at h
  .rename_i xs e1;exact right b xs rfl e1 h.1 h.2
  .exact h.elim
 .exact plain h.1 h.2.1 h.2.2
theorem aWM(hu:X.A.units+64<yd):zH X (ni .Eq) dF:=ai9 λpins s σ H x y vx vy u v G R Q I rx ry ru rv g q k =>
 aqU (neg:=false) hu rfl I rx ry ru rv g q λb kb=>⟨.bl b,H,I,by rw[Bool.false_xor];rfl,k _ H (.bl b) G (.refl H) (.bl b) g kb⟩
theorem aWN(hu:X.A.units+64<yd):zH X (ni .NotEq) al9:=ai9 λpins s σ H x y vx vy u v G R Q I rx ry ru rv g q k =>
 aqU (neg:=true) hu rfl I rx ry ru rv g q λb kb=>⟨.bl (!b),H,I,by rw[Bool.true_xor];rfl,k _ H (.bl (!b)) G (.refl H) (.bl (!b)) g kb⟩
end
end
section
open PySem.W PySem.Calls
open PySem.Builtin PySem.Builtin.ObjectAttr PySem.Builtin.Getset_descriptor
section
variable{prog:lq}{w:jg}{A:qb}{E:au->cg->Prop}{s:cg}{K:Fg}{x:bx}{o:Obj}
theorem afA{tp:au}{R:Result->cg->Prop}(X:K.In s.heap)(hx:s.heap.get? x=aj o)(hc:o.cls=.ref C)(hm:mroIn K C (.type "object")=aj ak)
  (h:R (.ok (.ret (.ref C))) s):a0i (dz prog w) A (.call (.builtin "getset_descriptor.__get__") ⟨[.builtin "object.__class__",.ref x,tp],[]⟩) R s:=by
 obtain⟨hh,g,dr,t,os⟩:=s;have L0:Looks (dz prog w) hh (typeOf (.ref x)) (.ref C):=hc ▸ (Looks.ld hx).andThen .now;have L1:=looks_mroIn (M:=model prog w) X hm;refine codeAny_call_builtin KF.slot_gs.plain KF.entry_gs (KF.slot_gs.check _ _ _ _ _ _ _ _ KF.type_class (KF.args_gs _ _ _) ?_);unfold Builtin.«getset_descriptor.__get__» descrGet;rw[dga_obj];refine bw (gV ?_);unfold descrGetter descrCheckInstance descrNameAndClass isInstance;simp only[KF.owner_class]
 repeat lk
 refine⟨Code.quiet_builtin _ (by decide+kernel),codeAny_builtin KF.entry_class ?_⟩;unfold Builtin.«object.__class__» shownTypeOf
 repeat lk
 exact h
theorem atV{Q:Option au->cg->Prop}(X:K.In s.heap)(hx:s.heap.get? x=aj o)(hc:o.cls=.ref C)
  (hga:findIn K (.ref C) "__getattribute__"=aj (aj (.builtin "BaseException.__getattribute__")))(hgn:findIn K (.ref C) "__getattr__"=aj aq)(ha:findIn K (.ref C) "__class__"=aj (aj (.builtin "object.__class__")))
  (hb:subIn K (.ref C) (.type "BaseException")=aj ak)(hm:mroIn K C (.type "object")=aj ak)(h:Q (aj (.ref C)) {s with toks:=s.toks+1}):dh (dz prog w) A (getAttr? (.ref x) "__class__") Q E s:=by
 obtain⟨hh,g,d,t,os⟩:=s;have L0:Looks (dz prog w) hh (typeOf (.ref x)) (.ref C):=hc ▸ (Looks.ld hx).andThen .now;have L1:=looks_findIn (M:=model prog w) X hga;have L2':=looks_findIn (M:=model prog w) X hgn;have L3:=looks_findIn (M:=model prog w) X ha;have L4:=looks_subIn (M:=model prog w) X hb;unfold getAttr? getAttrBy? getAttrBy;refine bw (wpAny_mkText (bw (wpAny_attempt (za (bw (L0.at (bw (L1.at ?_))))))));have hx2:(au.builtin "BaseException.__getattribute__"==au.builtin "object.__getattribute__")=ao:=by decide+kernel
 have f3:=PySem.F.attr_ValueError.ga.bind (.ref x);have hk:builtinKind "BaseException.__getattribute__"=aj .slot:=by decide+kernel
 have hsplit:splitId "BaseException.__getattribute__"=aj ("BaseException","__getattribute__"):=by decide+kernel
 have ha2:=PySem.F.args_bexc_ga (.ref x) (.str "__class__" t)
 repeat (first|with_reducible refine L0.at ?_|with_reducible refine L1.at ?_|with_reducible refine L2'.at ?_|with_reducible refine L3.at ?_|with_reducible refine L4.at ?_|wp_step)
 refine codeAny_call_builtin PySem.F.attr_ValueError.ga.plain PySem.F.entry_bexc_ga ?_;simp only[checkBuiltinCall,hk,hsplit];unfold isInstance;have f5:=PySem.F.typeOf_object_class;have f6:=PySem.F.slot_gs_get.lookup;have f7:=PySem.F.slot_gs_set.lookup
 repeat (any_goals (first|assumption|with_reducible refine L0.at ?_|with_reducible refine L1.at ?_|with_reducible refine L2'.at ?_|with_reducible refine L3.at ?_|with_reducible refine L4.at ?_|wp_step))
 refine afA X hx hc hm ?_
 repeat (any_goals (first|assumption|wp_step))
end
end
variable{R:iG}{T:String}{σ:St}
section
variable{n:String}{s:cg}{H:Hp}{Q:VK}
section
variable{X:Cx}{x:Str}{e:jt}{t:wL}{id T:String}{r3:List D->Gp->iG->Prop}
noncomputable def dG(X:Cx)(f:au)(r3:List D->Gp->iG->Prop):Prop :=
 ∀(pins:List (bx×Obj))(s:cg)(σ:St)(H:Hp)(xs:List D)(vs:List V)(us:List au)(G:Gp)(R:iG)(Q:VK),Inv X pins σ H s->cH X.K H xs vs->Vals vs us->HR X.K H G->r3 xs G R ->
  (∀v H' d G',Ts H H'->RD X.K H' d v->HR X.K H' G'->R d G'->Q v H')->dh (dz X.prog X.w) X.A (call f us) (EP X pins σ Q) X.xe s
theorem dG.of{r:List V->Hp->VK->Prop}(h:xY X f r)(i:∀(H:Hp)(xs:List D)(vs:List V)(G:Gp)(R:iG)(Q:VK),cH X.K H xs vs->HR X.K H G->r3 xs G R ->
  (∀v H' d G',Ts H H'->RD X.K H' d v->HR X.K H' G'->R d G'->Q v H')->r vs H λv H'=>KF X.K H'->Q v H'):dG X f r3:=λpins s σ H xs vs us G R Q I rx rv g q k =>
 eU (h pins s σ H vs us _ I rv (i H xs vs G R Q rx g q k)) λ_ _ ⟨v,H',I',r,q'⟩=>⟨v,H',I',r,q' (yC I')⟩
noncomputable def bR(r3:List D->Gp->iG->Prop)(t:wL):dB:=λρ G R=>t ρ G λxs G1=>r3 xs G1 R
theorem a5B(hc:dG X (.builtin id) r3)(hg:Gl X x)(hm:X.mg x=aq)(hv:jz x=aj (.builtin id))(ha:PA3 X (e::es) t)(hn:x≠"__name__":=by decide)(hdb:(x==("__debug__":Str))=ao:=by decide)
  (he:jm (e::es) X.env=(ao,eval e X.env)::jm es X.env:=by rfl)(hpl:(yx pos (jm es X.env)).any (·.1)=ao:=by rfl):dR X (.Call (.Name x p) (e::es) [] pos) (bR r3 t):=by
 intro pins s σ H Q I h;obtain⟨ρ,G,R,sr,g,q,kk⟩:=h;refine a0b (a6R I hg hm hv ?_ hn hdb)
 exact PyProof.Rows.callWith_builtin1 (eU (ha pos pins s σ H (λvs H1=>Ts H H1/\∃ds G1,cH X.K H1 ds vs/\HR X.K H1 G1/\r3 ds G1 R) I ⟨ρ,G,_,sr,g,q,λvs H1 ds G1 t1 r1 g1 q1=>⟨t1,ds,G1,r1,g1,q1⟩⟩) λus s1 ⟨vs,H1,I1,r,t1,ds,G1,r1,g1,q1⟩ =>
  hc pins s1 σ H1 ds vs us G1 R Q I1 r1 r g1 q1 λv H' d G' t2=>kk v H' d G' (t1.trans t2)) he hpl
theorem awW(hc:dG X (.type T) r3)(hg:Gl X x)(hm:X.mg x=aq)(hv:jz x=aj (.type T))(ha:PA3 X (e::es) t)(hn:x≠"__name__":=by decide)(hdb:(x==("__debug__":Str))=ao:=by decide)
  (he:jm (e::es) X.env=(ao,eval e X.env)::jm es X.env:=by rfl)(hpl:(yx pos (jm es X.env)).any (·.1)=ao:=by rfl):dR X (.Call (.Name x p) (e::es) [] pos) (bR r3 t):=by
 intro pins s σ H Q I h;obtain⟨ρ,G,R,sr,g,q,kk⟩:=h;refine a0b (a6R I hg hm hv ?_ hn hdb)
 exact PyProof.Rows.callWith_type1 (eU (ha pos pins s σ H (λvs H1=>Ts H H1/\∃ds G1,cH X.K H1 ds vs/\HR X.K H1 G1/\r3 ds G1 R) I ⟨ρ,G,_,sr,g,q,λvs H1 ds G1 t1 r1 g1 q1=>⟨t1,ds,G1,r1,g1,q1⟩⟩) λus s1 ⟨vs,H1,I1,r,t1,ds,G1,r1,g1,q1⟩ =>
  hc pins s1 σ H1 ds vs us G1 R Q I1 r1 r g1 q1 λv H' d G' t2=>kk v H' d G' (t1.trans t2)) he hpl
noncomputable def fO:List D->Gp->iG->Prop:=λxs G R=>match xs with
 |[.str z]=>z.length<=cj/\R (.int z.length) G
 |[.tup ds]=>R (.int ds.length) G
 |[.ref q]=>(match bQ G q with
  |some ds=>R (.int ds.length) G
  |none=>False)
 |_=>False
set_option tactic.hygienic true in
theorem aRB:dG X (.builtin "len") fO:=dG.of (ai2.or ai3) λH xs vs G R Q rx g q k=>by
 cases rx with
 |nil=>exact False.elim q
 |cons r rr =>
  cases rr with
  |cons _ _=>cases r<;>exact False.elim q
  |nil =>
   cases r with
   |str z=>exact .inr ⟨z,rfl,q.1,λ_=>k _ H _ G (.refl H) (.int _) g q.2⟩
   |@tup a xs ds ha ra=>exact .inl ⟨a,xs,rfl,.inr ha,λ_=>by rw[←ra.length];exact k _ H _ G (.refl H) (.int _) g q⟩
   |ref a =>
    have q':(match bQ G a with
     |some ds=>R (.int ds.length) G
     |none=>False):=q
    split at q'
    .rename_i ds e1;obtain⟨xs,h1,r1⟩:=cB g e1;exact .inl ⟨a,xs,rfl,.inl h1,λ_=>by rw[←r1.length];exact k _ H _ G (.refl H) (.int _) g q'⟩
    .exact q'.elim
   |_=>exact False.elim q
noncomputable def aqV:List D->Gp->iG->Prop:=λxs G R=>match xs with
 |[.int i]=>R (.int i) G
 |[.bl b]=>R (.int (if b then 1 else 0)) G
 |_=>False
theorem aRC:dG X (.type "int") aqV:=dG.of at9 λH xs vs G R Q rx g q k=>by
 cases rx with
 |nil=>exact False.elim q
 |cons r rr =>
  cases rr with
  |cons _ _=>cases r<;>exact False.elim q
  |nil =>
   cases r with
   |int i=>exact .inl ⟨i,rfl,λ_=>k _ H _ G (.refl H) (.int _) g q⟩
   |bl b=>exact .inr ⟨b,rfl,λ_=>k _ H _ G (.refl H) (.int _) g q⟩
   |_=>exact False.elim q
noncomputable def tyD(G:Gp):D->Option String
 |.non=>aj "NoneType"
 |.bl _=>aj "bool"
 |.int _=>aj "int"
 |.str _=>aj "str"
 |.tup _=>aj "tuple"
 |.ref q=>(match G q with
  |some (.lst _)=>aj "list"
  |some (.rol _)=>aj "list"
  |some (.dic _ _)=>aj "dict"
  |_=>aq)
 |.ty _=>aq
noncomputable def exD(G:Gp):D->Option bx
 |.ref q=>(match G q with
  |some (.exn C)=>aj C
  |_=>aq)
 |_=>aq
noncomputable def subB(T n:String):Bool:=T==n||(T=="bool"&&n=="int")
noncomputable def aRD:List String:=["NoneType","bool","int","str","list","tuple","dict"]
noncomputable def lC:List String:=["int","bool","str","list","tuple","dict","ValueError"]
theorem aJ3:∀T∈aRD,∀n∈lC,cu [] (.type T) (.type n)=aj (subB T n):=by decide+kernel
theorem rD(K:Fg)(h1:T∈aRD)(h2:n∈lC):cu K (.type T) (.type n)=aj (subB T n):=aJ3 T h1 n h2
structure ExC(K:Fg)(C:bx):Prop where
 ga:dw K (.ref C) "__getattribute__"=aj (aj (.builtin "BaseException.__getattribute__"))
 gn:dw K (.ref C) "__getattr__"=aj aq
 cl:dw K (.ref C) "__class__"=aj (aj (.builtin "object.__class__"))
 be:um K (.ref C) (.type "BaseException")=aj ak
 ob:qy K C (.type "object")=aj ak
 cs:(ux K C).isSome=ak
set_option tactic.hygienic true in
theorem awX{K:Fg}(c:ExC K C):PySem.W.KitX K (.ref a) (.ref C) (sE C a) where
 ty:=λM h X ⟨o,vs,h1,h2,_⟩=>h2 ▸ (ug.ld h1).andThen .now
 it:=λM h X _=>by
  intro A' Q' E' s' k q;cases eK:ux K C with
  |none=>have:=c.cs;rw[eK]at this;cases this
  |some cd =>
   unfold ux at eK;split at eK
   .rename_i ho;unfold isType loadHead;exact bw (wpAny_loadPart (k _ _ (X _ _ ho)) (gV q))
   .cases eK
 ne:=λh tp dd its n sl X htp=>by
  refine Bool.eq_false_iff.mpr λq=>?_;have e:C=tp:=Value.ref.inj (beq_iff_eq.mp q);subst e;cases eK:ux K C with
  |none=>have:=c.cs;rw[eK]at this;cases this
  |some cd =>
   unfold ux at eK;split at eK
   .rename_i ho;have z:=(X _ _ ho).symm.trans htp;cases z
   .cases eK
 ca:=λX ⟨o,vs,h1,h2,_⟩ k=>atV X h1 h2 c.ga c.gn c.cl c.be c.ob k
noncomputable def aY(K:Fg):List D->Gp->iG->Prop:=λxs G R=>match xs with
 |[x,.ty n]=>(match tyD G x with
  |some T=>n∈lC/\R (.bl (subB T n)) G
  |none=>(match exD G x with
   |some C=>∃b,ExC K C/\cu K (.ref C) (.type n)=aj b/\R (.bl b) G
   |none=>False))
 |[x,.ref C']=>(match exD G x with
  |some C=>∃b,ExC K C/\cu K (.ref C) (.ref C')=aj b/\R (.bl b) G
  |none=>False)
 |_=>False
set_option tactic.hygienic true in
theorem awY{x:D}(h:exD G x=aj C):∃a,x=.ref a/\G a=aj (.exn C):=by
 cases x with
 |ref q =>
  refine⟨q,rfl,?_⟩
  have h':(match G q with
   |some (.exn C)=>aj C
   |_=>aq)=aj C:=h
  split at h'
  .rename_i e1;cases h';exact e1
  .cases h'
 |_=>cases h
variable{G:Gp}
theorem aaW{a C:bx}{c:au}{b:Bool}(I:Inv X pins σ H s)(g:HR X.K H G)(e:G a=aj (.exn C))(hc:ExC X.K C)(hk:cu X.K (.ref C) c=aj b)(q:R (.bl b) G)
  (k:∀v H' d G',Ts H H'->RD X.K H' d v->HR X.K H' G'->R d G'->Q v H'):dh (dz X.prog X.w) X.A (call (.builtin "isinstance") [.ref a,c]) (EP X pins σ Q) X.xe s:=by
 obtain⟨o0,vs0,z,_⟩:=g a _ e;obtain⟨_,z1,_,_⟩:=I.hok a _ z;exact vq (awX hc) I.kIn z1 hk (λz=>nomatch z) λtk=>⟨.bl b,H,I.tok tk,rfl,k _ H _ G (.refl H) (.bl b) g q⟩
set_option tactic.hygienic true in
theorem aJ4{x:D}{vx:V}{u:au}(I:Inv X pins σ H s)(rx:RD X.K H x vx)(ru:RelV vx u)(g:HR X.K H G)(e:tyD G x=aj T)(hn:n∈lC)(q:R (.bl (subB T n)) G)
  (k:∀v H' d G',Ts H H'->RD X.K H' d v->HR X.K H' G'->R d G'->Q v H'):dh (dz X.prog X.w) X.A (call (.builtin "isinstance") [u,.type n]) (EP X pins σ Q) X.xe s:=by
 have fin:∀tk,EP X pins σ Q (.bool (subB T n)) {s with toks:=tk}:=λtk=>⟨.bl _,H,I.tok tk,rfl,k _ H _ G (.refl H) (.bl _) g q⟩;cases rx with
 |non=>cases ru;cases e;exact vq PySem.W.kitx_none I.kIn True.intro (rD _ (by decide) hn) (λz=>nomatch z) fin
 |bl b=>cases ru;cases e;exact vq PySem.W.kitx_bool I.kIn True.intro (rD _ (by decide) hn) (λz=>nomatch z) fin
 |int i=>obtain⟨t,rfl⟩:=ru;cases e;exact vq PySem.W.kitx_int I.kIn True.intro (rD _ (by decide) hn) (λz=>nomatch z) fin
 |str i=>obtain⟨t,rfl⟩:=ru;cases e;exact vq PySem.W.kitx_str I.kIn True.intro (rD _ (by decide) hn) (λz=>nomatch z) fin
 |ty n=>cases e
 |@tup a xs ds ha ra =>
  cases ru;cases e;obtain⟨its,_,p,_⟩:=I.tuple ha;obtain⟨o,h1,h2,_⟩:=p;exact vq PySem.W.kitx_tuple I.kIn ⟨o,h1,h2⟩ (rD _ (by decide) hn) (λz=>nomatch z) fin
 |ref a =>
  cases ru
  have e':(match G a with
   |some (.lst _)=>aj "list"
   |some (.rol _)=>aj "list"
   |some (.dic _ _)=>aj "dict"
   |_=>aq)=aj T:=e
  split at e'
  .rename_i ds e1;cases e';obtain⟨xs,h1,_⟩:=cB g (show bQ G a=aj ds by unfold bQ;rw[e1]);obtain⟨its,_,p,_⟩:=I.list h1;obtain⟨o,n',h1,h2,_⟩:=p;exact vq PySem.W.kitx_list I.kIn ⟨o,h1,h2⟩ (rD _ (by decide) hn) (λz=>nomatch z) fin
  .rename_i ds e1;cases e';obtain⟨xs,h1,_⟩:=cB g (show bQ G a=aj ds by unfold bQ;rw[e1]);obtain⟨its,_,p,_⟩:=I.list h1;obtain⟨o,n',h1,h2,_⟩:=p;exact vq PySem.W.kitx_list I.kIn ⟨o,h1,h2⟩ (rD _ (by decide) hn) (λz=>nomatch z) fin
  .rename_i kvs e1;cases e';rcases g a _ e1 with⟨_,xs,h1,_⟩|⟨_,xs,h1,_⟩
   .obtain⟨_,_,vs,_,o,es,ep,h1,h2,_⟩:=I.hok a _ h1;exact vq PySem.W.kitx_dict I.kIn ⟨o,h1,h2.1⟩ (rD _ (by decide) hn) (λz=>nomatch z) fin
   .obtain⟨_,_,xs,_,o,es,ep,h1,h2,_⟩:=I.hok a _ h1;exact vq PySem.W.kitx_dict I.kIn ⟨o,h1,h2.1⟩ (rD _ (by decide) hn) (λz=>nomatch z) fin
  .cases e'
set_option tactic.hygienic true in
theorem a5C:dG X (.builtin "isinstance") (aY X.K):=by
 intro pins s σ H xs vs us G R Q I rx rv g q k;cases rx with
 |nil=>exact False.elim q
 |@cons x v ds ws r1 rr =>
  cases rr with
  |nil=>cases r1<;>exact False.elim q
  |@cons y v2 ds2 ws2 r2 rr2 =>
   cases rr2 with
   |cons _ _=>cases r2<;>exact False.elim q
   |nil =>
    obtain⟨u1,u2,rfl,ru1,ru2⟩:=vals2 rv;cases r2 with
    |ty n =>
     cases ru2
     have q':(match tyD G x with
      |some T=>n∈lC/\R (.bl (subB T n)) G
      |none=>(match exD G x with
       |some C=>∃b,ExC X.K C/\cu X.K (.ref C) (.type n)=aj b/\R (.bl b) G
       |none=>False)):=q
     split at q'
     .rename_i T eT;exact aJ4 I r1 ru1 g eT q'.1 q'.2 k
     .split at q'
      .rename_i C eC;obtain⟨a,rfl,ea⟩:=awY eC;obtain⟨b,hc,hk,q'⟩:=q';cases r1;cases ru1;exact aaW I g ea hc hk q' k
      .exact q'.elim
    |ref C' =>
     cases ru2
     have q':(match exD G x with
      |some C=>∃b,ExC X.K C/\cu X.K (.ref C) (.ref C')=aj b/\R (.bl b) G
      |none=>False):=q
     split at q'
     .rename_i C eC;obtain⟨a,rfl,ea⟩:=awY eC;obtain⟨b,hc,hk,q'⟩:=q';cases r1;cases ru1;exact aaW I g ea hc hk q' k
     .exact q'.elim
    |_=>exact False.elim q
end
end
variable{id:String}
section
theorem acG{K:Fg}{x:D}(hx:scD x=ak)(rx:RD K H x vx):∀{ys:List D}{vs:List V},cH K H ys vs->ys.all scD=ak->vs.any (λy=>eqV y vx)=ys.any (λy=>eqP y x)
 |_,_,.nil,_=>rfl
 |_,_,.cons h r,hs=>by
  rw[yj,bh]at hs;rw[a0q,a0q,acG hx rx r hs.2];congr 1;obtain⟨h1,_⟩:=hs;cases rx<;>cases h<;>first|(simp[eqV,eqP];done)|cases hx|cases h1
variable{x:D}
theorem a5D{K:Fg}(hx:scD x=ak)(rx:RD K H x vx):xZ vx=ak:=by cases rx<;>first|rfl|cases hx
theorem zV{K:Fg}:∀{ys:List D}{vs:List V},cH K H ys vs->ys.all scD=ak->vs.all xZ=ak
 |_,_,.nil,_=>rfl
 |_,_,.cons h r,hs=>by
  rw[yj,bh]at hs;rw[yj,a5D hs.1 h,zV r hs.2];rfl
def inG(G:Gp)(x y:D)(k:Bool->Prop):Prop:=match x,y with
 |.str i,.str j=>k (!(Builtin.Str.occurrences j i 0 j.length 1).isEmpty)
 |x,.tup ys=>scD x=ak/\ys.all scD=ak/\k (ys.any λy=>eqP y x)
 |x,.ref p=>(match bQ G p with
  |some ys=>scD x=ak/\ys.all scD=ak/\k (ys.any λy=>eqP y x)
  |none=>False)
 |_,_=>False
noncomputable def a5E:R3:=λx y G R=>inG G x y λb=>R (.bl b) G
noncomputable def uF:R3:=λx y G R=>inG G x y λb=>R (.bl (!b)) G
section
variable{X:Cx}
set_option tactic.hygienic true in
theorem aWP(hu:X.A.units+64<yd):zH X (ni .In) a5E:=by
 refine⟨_,at6.or atD,λH x y vx vy G R Q rx ry g h k=>?_⟩;have h':inG G x y λb=>R (.bl b) G:=h;unfold inG at h';split at h'
 .cases rx;cases ry;exact .inl ⟨_,_,rfl,rfl,k _ H _ G (.refl H) (.bl _) g h'⟩
 .cases ry with
  |@tup a xs ds ha ra =>
   refine .inr ⟨a,xs,rfl,.inr ha,a5D h'.1 rx,zV ra h'.2.1,?_⟩;have e:inV vx xs=_:=acG h'.1 rx ra h'.2.1;simp only[Bool.false_eq_true,if_false];rw[e];exact k _ H _ G (.refl H) (.bl _) g h'.2.2
 .cases ry;split at h'
  .rename_i ys e1;obtain⟨xs,hq,ra⟩:=cB g e1;refine .inr ⟨_,xs,rfl,.inl hq,a5D h'.1 rx,zV ra h'.2.1,?_⟩;have e:inV vx xs=_:=acG h'.1 rx ra h'.2.1;simp only[Bool.false_eq_true,if_false];rw[e];exact k _ H _ G (.refl H) (.bl _) g h'.2.2
  .exact h'.elim
 .exact h'.elim
set_option tactic.hygienic true in
theorem aCF(hu:X.A.units+64<yd):zH X (ni .NotIn) uF:=by
 refine⟨_,ahW.or ai1,λH x y vx vy G R Q rx ry g h k=>?_⟩;have h':inG G x y λb=>R (.bl (!b)) G:=h;unfold inG at h';split at h'
 .cases rx;cases ry;exact .inl ⟨_,_,rfl,rfl,k _ H _ G (.refl H) (.bl _) g h'⟩
 .cases ry with
  |@tup a xs ds ha ra =>
   refine .inr ⟨a,xs,rfl,.inr ha,a5D h'.1 rx,zV ra h'.2.1,?_⟩;have e:inV vx xs=_:=acG h'.1 rx ra h'.2.1;simp only[if_true];rw[e];exact k _ H _ G (.refl H) (.bl _) g h'.2.2
 .cases ry;split at h'
  .rename_i ys e1;obtain⟨xs,hq,ra⟩:=cB g e1;refine .inr ⟨_,xs,rfl,.inl hq,a5D h'.1 rx,zV ra h'.2.1,?_⟩;have e:inV vx xs=_:=acG h'.1 rx ra h'.2.1;simp only[if_true];rw[e];exact k _ H _ G (.refl H) (.bl _) g h'.2.2
  .exact h'.elim
 .exact h'.elim
def aiA(x:D)(lo hi:Option Int)(G:Gp)(R:iG):Prop:=match x with
 |.tup xs=>¬ (HT.mD xs.length 0 lo=0/\HT.mD xs.length xs.length hi=xs.length)/\R (.tup (cutD xs lo hi)) G
 |.str z=>z.length<=cj/\R (.str (Txt.slice z lo hi)) G
 |.ref p=>(match bQ G p with
  |some xs=>∀q,G q=aq->R (.ref q) (aJ G q (.lst (cutD xs lo hi)))
  |none=>False)
 |_=>False
theorem aJ5:SlR X (λx lo hi H Q=>∃z,x=.str z/\z.length<=cj/\Q (.str (Txt.slice z lo hi)) H):=by
 intro pins s σ H x v vl vu lo hi sl Q I rx hs pl pu h;obtain⟨z,rfl,hz,q⟩:=h;obtain⟨t,rfl⟩:=rx;refine⟨"str",_,F.slot_str_getitem.lookup,typeIs_str _ _ _,?_⟩;have fin:∀t' k,EP X pins σ Q (.str (Txt.slice z lo hi) t') {s with toks:=k}:=λt' k=>⟨.str _,H,I.tok k,⟨t',rfl⟩,q⟩;cases pl with
 |none =>
  cases pu with
  |none=>exact a0p (l:=none) (u:=none) (st:=none) hs rfl (post_val_or_str ⟨qj (Txt.slice_le z _ _) hz,fin⟩)
  |int j uj=>exact a0p (l:=none) (u:=some (j,uj)) (st:=none) hs rfl (post_val_or_str ⟨qj (Txt.slice_le z _ _) hz,fin⟩)
 |int i ui =>
  cases pu with
  |none=>exact a0p (l:=some (i,ui)) (u:=none) (st:=none) hs rfl (post_val_or_str ⟨qj (Txt.slice_le z _ _) hz,fin⟩)
  |int j uj=>exact a0p (l:=some (i,ui)) (u:=some (j,uj)) (st:=none) hs rfl (post_val_or_str ⟨qj (Txt.slice_le z _ _) hz,fin⟩)
theorem awZ{K:Fg}(r:cH K H ds xs)(lo hi:Option Int):cH K H (cutD ds lo hi) (af4 xs lo hi):=by
 unfold cutD af4;rw[r.length];exact(r.drop _).take _
noncomputable def cF(te:dB)(tl th:TO3):dB:=λρ G R=>te ρ G λx G1=>tl ρ G1 λlo G2=>th ρ G2 λhi G3=>aiA x lo hi G3 R
set_option tactic.hygienic true in
theorem aCG{e:jt}{te:dB}{lo hi:Option jt}{tl th:TO3}{p2 pos:Pos}(he:dR X e te)(hl:PO3 X lo tl)(hu:PO3 X hi th):dR X (.Subscript e (.Slice lo hi aq p2) pos) (cF te tl th):=by
 refine PE.imp (PE.kf (awB (aBZ.or (aI3.or aJ5)) he hl hu)) λσ H Q h=>?_;obtain⟨ρ,G,R,s,g,q,k⟩:=h;refine⟨ρ,G,_,s,g,q,λvx H1 x G1 t1 rx g1 q1=>?_⟩;refine⟨ρ,G1,_,s.mono t1,g1,q1,λl H2 G2 t2 g2 q2=>?_⟩;refine⟨ρ,G2,_,s.mono (t1.trans t2),g2,q2,λu H3 G3 t3 g3 q3=>?_⟩;have rx3:=rx.mono (t2.trans t3);have tt:=(t1.trans t2).trans t3;cases rx3 with
 |@tup a xs ds ha ra =>
  refine .inr (.inl ⟨a,xs,rfl,ha,by rw[←ra.length];exact q3.1,λp hp _=>?_⟩);have sn:Same H3 (upd H3 p (.tup (af4 xs l u))):=bO hp;exact k _ _ _ G3 (tt.trans (.same sn)) (.tup (zL.of aP) ((awZ ra l u).mono (.same sn)) (atJ aP)) (g3.same sn) q3.2
 |str z=>exact .inr (.inr ⟨z,rfl,q3.1,λ_=>k _ H3 _ G3 tt (.str _) g3 q3.2⟩)
 |ref p =>
  have q3':(match bQ G3 p with
   |some xs=>∀q,G3 q=aq->R (.ref q) (aJ G3 q (.lst (cutD xs l u)))
   |none=>False):=q3
  split at q3'
  .rename_i ds e1;obtain⟨xs,hq,ra⟩:=cB g3 e1;refine .inl ⟨p,xs,rfl,hq,λb hb kf=>?_⟩;have sn:Same H3 (upd H3 b (.lst (af4 xs l u))):=bO hb;exact k _ _ _ _ (tt.trans (.same sn)) (.ref b) (g3.put (u:=.lst (cutD ds l u)) hb ⟨_,aP,(awZ ra l u).mono (.same sn)⟩) (q3' b (uX g3 hb kf))
  .exact q3'.elim
 |_=>exact False.elim q3
noncomputable def afB(T:String)(G:Gp):D->Prop
 |.str _=>T="str"
 |.ref p=>T="list"/\(bQ G p).isSome=ak
 |_=>False
theorem ax0{K:Fg}(g:HR K H G)(r:RD K H x v)(h:afB T G x):tyV K T v H:=by
 cases r with
 |str z=>exact h
 |ref p =>
  obtain⟨rfl,h⟩:=h;obtain⟨ds,e⟩:=Option.isSome_iff_exists.mp h;obtain⟨xs,hq,_⟩:=cB g e;exact .inl ⟨rfl,xs,hq⟩
 |_=>exact False.elim h
abbrev RM3:=D->List D->Gp->iG->Prop
noncomputable def a9F(X:Cx)(id:String)(r3:RM3):Prop :=
 ∀(pins:List (bx×Obj))(s:cg)(σ:St)(H:Hp)(x:D)(xs:List D)(vx:V)(vs:List V)(u:au)(us:List au)(G:Gp)(R:iG)(Q:VK),Inv X pins σ H s->RD X.K H x vx->cH X.K H xs vs->RelV vx u->Vals vs us->HR X.K H G->r3 x xs G R ->
  (∀v H' d G',Ts H H'->RD X.K H' d v->HR X.K H' G'->R d G'->Q v H')->dh (dz X.prog X.w) X.A (call (.builtin id) (u::us)) (EP X pins σ Q) X.xe s
variable{r3:RM3}
theorem a9F.of{r:V->List V->Hp->VK->Prop}(h:MtR X id r)(i:∀(H:Hp)(x:D)(xs:List D)(vx:V)(vs:List V)(G:Gp)(R:iG)(Q:VK),RD X.K H x vx->cH X.K H xs vs->HR X.K H G->r3 x xs G R ->
  (∀v H' d G',Ts H H'->RD X.K H' d v->HR X.K H' G'->R d G'->Q v H')->r vx vs H λv H'=>KF X.K H'->Q v H'):a9F X id r3:=λpins s σ H x xs vx vs u us G R Q I rx rs ru rv g q k =>
 eU (h pins s σ H vx vs u us _ I ru rv (i H x xs vx vs G R Q rx rs g q k)) λ_ _ ⟨v,H',I',r,q'⟩=>⟨v,H',I',r,q' (yC I')⟩
noncomputable def tM3(T:String)(r:RM3)(to:dB)(t:wL):dB:=λρ G R=>to ρ G λx G1=>afB T G1 x/\t ρ G1 λxs G2=>r x xs G2 R
noncomputable def aiB(T:String)(r:RM3)(to:dB):dB:=λρ G R=>to ρ G λx G1=>afB T G1 x/\r x [] G1 R
theorem aoJ{to:dB}{apos cpos:Pos}(pa:PlainAttrs T)(slot:Slot T name id)(hty:typeOf (.builtin id)=pure (.type "method_descriptor"))(hm:a9F X id r3)(ho:dR X o to)(ha:PA3 X (e::es) t)
  (hbase:attributeBase o name X.env (eval o X.env)=eval o X.env:=by rfl)
  (hfew:((yx cpos (jm (e::es) X.env)).all (λx=>!x.1)&&(backToKw cpos (keywordEach [] X.env)).all (λx=>x.1.isSome)
   &&decide ((e::es).length+([]:List Keyword).length+(if([]:List Keyword).isEmpty then 0 else 1)<30))=ak:=by rfl)
  (hline:(apos.endLine==cpos.line)=ak:=by rfl)(hs:jm (e::es) X.env=(ao,eval e X.env)::jm es X.env:=by rfl)(hplain:(yx cpos (jm es X.env)).any (·.1)=ao:=by rfl) :
  dR X (.Call (.Attribute o name apos) (e::es) [] cpos) (tM3 T r3 to t):=by
 intro pins s σ H Q I h;obtain⟨ρ,G,R,sr,g,q,kk⟩:=h;refine wpAny_Call_method_late hbase hfew hline rfl (eU (ho pins s σ H (λvx H1=>Ts H H1/\∃x G1,RD X.K H1 x vx/\HR X.K H1 G1/\afB T G1 x/\t ρ G1 λxs G2=>r3 x xs G2 R) I ⟨ρ,G,_,sr,g,q,λv H1 x G1 t1 r1 g1 q1=>⟨t1,x,G1,r1,g1,q1⟩⟩) ?_);rintro v s1 ⟨vx,H1,I1,r1,t1,x,G1,rx,g1,ty,q1⟩;obtain⟨h1,h2⟩:=awE I1 r1 (ax0 g1 rx ty);refine⟨T,id,pa,slot,hty,h1,h2,?_⟩;have hA:=ha cpos pins s1 σ H1 (λvs H2=>Ts H1 H2/\∃xs G2,cH X.K H2 xs vs/\HR X.K H2 G2/\r3 x xs G2 R) I1 ⟨ρ,G1,_,sr.mono t1,g1,q1,λvs H2 xs G2 t2 r2 g2 q2=>⟨t2,xs,G2,r2,g2,q2⟩⟩;rw[hs]at hA ⊢;refine Calls.callWith_builtin (by show(ao||(yx cpos (jm es X.env)).any (·.1))=ao;rw[hplain]<;>rfl) (Calls.evalArgs_plain ?_);exact eU hA (by rintro us s2 ⟨vs,H2,I2,r2,t2,xs,G2,rs,g2,q2⟩;exact hm pins s2 σ H2 x xs vx vs v us G2 R Q I2 (rx.mono t2) rs r1 r2 g2 q2 λv H' d G' t3=>kk v H' d G' ((t1.trans t2).trans t3))
theorem acH{to:dB}{apos cpos:Pos}(pa:PlainAttrs T)(slot:Slot T name id)(hty:typeOf (.builtin id)=pure (.type "method_descriptor"))(hm:a9F X id r3)(ho:dR X o to)
  (hbase:attributeBase o name X.env (eval o X.env)=eval o X.env:=by rfl)(hline:(apos.endLine==cpos.line)=ak:=by rfl):dR X (.Call (.Attribute o name apos) [] [] cpos) (aiB T r3 to):=by
 intro pins s σ H Q I h;obtain⟨ρ,G,R,sr,g,q,kk⟩:=h;refine wpAny_Call_method0_late hbase hline (eU (ho pins s σ H (λvx H1=>Ts H H1/\∃x G1,RD X.K H1 x vx/\HR X.K H1 G1/\afB T G1 x/\r3 x [] G1 R) I ⟨ρ,G,_,sr,g,q,λv H1 x G1 t1 r1 g1 q1=>⟨t1,x,G1,r1,g1,q1⟩⟩) ?_);rintro v s1 ⟨vx,H1,I1,r1,t1,x,G1,rx,g1,ty,q1⟩;obtain⟨h1,h2⟩:=awE I1 r1 (ax0 g1 rx ty);exact⟨T,id,pa,slot,hty,h1,h2,Calls.callWith_builtin rfl (PySem.evalArgs_none (hm pins s1 σ H1 x [] vx [] v [] G1 R Q I1 rx .nil r1 .nil g1 q1 λv H' d G' t3=>kk v H' d G' (t1.trans t3)))⟩
noncomputable def vU:RM3:=λx xs G R=>match x,xs with
 |.ref p,[d]=>(match G p with
  |some (.lst ds)=>ds.length<cj/\R .non (aJ G p (.lst (ds++[d])))
  |_=>False)
 |_,_=>False
set_option tactic.hygienic true in
theorem alA:a9F X "list.append" vU:=a9F.of a6V λH x xs vx vs G R Q rx rs g q k=>by
 cases rx with
 |ref p =>
  cases rs with
  |nil=>exact False.elim q
  |@cons d v ds ws r rr =>
   cases rr with
   |cons _ _=>exact False.elim q
   |nil =>
    have q':(match G p with
     |some (.lst ds)=>ds.length<cj/\R .non (aJ G p (.lst (ds++[d])))
     |_=>False):=q
    split at q'
    .rename_i ds e1;obtain⟨ys,f1,r1⟩:=g p _ e1;refine⟨p,ys,v,rfl,rfl,f1,by rw[←r1.length];exact q'.1,λ_=>?_⟩;have tt:Ts H (upd H p (.lst (ys++[v]))):=.turn f1 (λ_ z=>nomatch z) (λ_ _ z=>nomatch z);exact k _ _ _ _ tt .non (g.turn (u:=.lst (ds++[d])) tt ⟨_,aP,(r1.append (.cons r .nil)).mono tt⟩) q'.2
    .exact q'.elim
 |_=>cases rs<;>exact False.elim q
noncomputable def wX:RM3:=λx xs G R=>match x,xs with
 |.str j,[.str i]=>(match Builtin.Str.occurrences j i 0 j.length 1 with
  |k::_=>R (.int k) G
  |[]=>False)
 |_,_=>False
set_option tactic.hygienic true in
theorem aqW:a9F X "str.index" wX:=λpins s σ H x xs vx vs u us G R Q I rx rs ru rv g q k=>by
 cases rx with
 |str j =>
  cases rs with
  |nil=>exact False.elim q
  |cons r rr =>
   cases rr with
   |cons _ _=>cases r<;>exact False.elim q
   |nil =>
    cases r with
    |str i =>
     obtain⟨t,rfl⟩:=ru;obtain⟨u2,rfl,t2,rfl⟩:=vals1 rv
     have q':(match Builtin.Str.occurrences j i 0 j.length 1 with
      |k::_=>R (.int k) G
      |[]=>False):=q
     split at q'
     .rename_i n rest e1;exact SC.index e1 ⟨.int n,H,I.tok _,⟨_,rfl⟩,k _ H _ G (.refl H) (.int _) g q'⟩
     .exact q'.elim
    |_=>exact False.elim q
 |_ =>
  cases rs with
  |nil=>exact False.elim q
  |cons r rr=>cases rr<;>cases r<;>exact False.elim q
noncomputable def aaX:RM3:=λx xs G R=>match x,xs with
 |.str j,[]=>Builtin.Str.tooLong (Txt.lower j).length=ao/\R (.str (Txt.lower j)) G
 |_,_=>False
theorem m_lower:a9F X "str.lower" aaX:=λpins s σ H x xs vx vs u us G R Q I rx rs ru rv g q k=>by
 cases rx with
 |str j =>
  cases rs with
  |cons _ _=>exact False.elim q
  |nil =>
   obtain⟨t,rfl⟩:=ru;cases rv;exact SC.lower q.1 ⟨.str _,H,I.tok _,⟨_,rfl⟩,k _ H _ G (.refl H) (.str _) g q.2⟩
 |_=>cases rs<;>exact False.elim q
end
end
end L2
namespace L2
open PySem
theorem gA:jz "isinstance"=aj (.builtin "isinstance"):=by decide+kernel
theorem uY:jz "len"=aj (.builtin "len"):=by decide+kernel
theorem aJ6:jz "min"=aj (.builtin "min"):=by decide+kernel
theorem aJ7:jz "max"=aj (.builtin "max"):=by decide+kernel
theorem aJ8:jz "all"=aj (.builtin "all"):=by decide+kernel
theorem aoK:jz "int"=aj (.type "int"):=by decide+kernel
theorem acI:jz "str"=aj (.type "str"):=by decide+kernel
theorem dH:jz "tuple"=aj (.type "tuple"):=by decide+kernel
theorem afD:jz "ValueError"=aj (.type "ValueError"):=by decide+kernel
end L2
namespace L2
open PySem PySem.Spec PyProof.Rows
variable{cm:Bool}{tl:List (bx×List V)}{w:jg}{lo:Int}{n:Nat}
section
noncomputable def Its(x:Str):It:=⟨λi _=>i<x.cps.size,λi H v H'=>H'=H/\∃c,x.cps[i]?=aj c/\v=.str ⟨#[c]⟩,λi _=>x.cps.size<=i⟩
theorem agS{K:iw}(it:bx)(x:Str)(t:Tok):Turn cm tl P w K tg (Its x) [it] it (λi h=>h.IsStrIter it "str_ascii_iterator" x t (min i x.cps.size)) where
 mem:=by simp
 obj:=λi h st b hb=>by
  have e:b=it:=by simpa using hb
  subst e;obtain⟨o,e,c,d⟩:=st;exact⟨o,e,λv z=>by rw[d]at z;cases z⟩
 keep:=λi h h' st k=>let⟨o,e,r⟩:=st;⟨o,k it (by simp) o e,r⟩
 item:=by
  intro X hP hw hK hcm ht i pins s σ H E I hf st hg;subst hP hw hK;obtain⟨f0,f1,f2,f3,f4,f5⟩:=hf it (by simp);have hi:i<x.cps.size:=hg;rw[a0u (a0z hi)]at st;refine wpAny_pyNext_ascii_item st (c:=x.cps[i]) (by simp[hi]) λh' st' kk=>?_;have I1:Inv X pins σ H {s with heap:=h',toks:=s.toks+1}:=I.turned (λb o hb e=>(kk.2 b hb).trans e) f0 f1 f3 f4 f5;obtain⟨o,e1,c1,d1⟩:=id st';refine⟨_,rfl,al0 (s:={s with heap:=h',toks:=s.toks+1}) e1 c1 d1 (by decide) ⟨.str ⟨#[x.cps[i]]⟩,H,I1,⟨_,rfl⟩,⟨rfl,x.cps[i],by simp[hi],rfl⟩,?_,λb hb=>(hf b hb).1⟩⟩;rw[a0u hi];exact st'
 done:=by
  intro X hP hw hK hcm ht i pins s σ H E I hf st hg;subst hP hw hK;obtain⟨f0,f1,f2,f3,f4,f5⟩:=hf it (by simp);have hi:x.cps.size<=i:=hg;rw[Nat.min_eq_right hi]at st;exact asV (I.hnd.heap I.hok) st (by simp) λh' eb=>⟨rfl,I.turned (t':=s.toks) (λb o hb e=>eb b o hb e) f0 f1 f3 f4 f5⟩
 self:=λ_ _ _ _ _ st h=>wpAny_pyIter_striter_ascii st h
theorem agT{K:iw}(it:bx)(x:Str)(t:Tok):Turn cm tl P w K tg (Its x) [it] it (λi h=>h.IsStrIter it "str_iterator" x t (min i x.cps.size)) where
 mem:=by simp
 obj:=λi h st b hb=>by
  have e:b=it:=by simpa using hb
  subst e;obtain⟨o,e,c,d⟩:=st;exact⟨o,e,λv z=>by rw[d]at z;cases z⟩
 keep:=λi h h' st k=>let⟨o,e,r⟩:=st;⟨o,k it (by simp) o e,r⟩
 item:=by
  intro X hP hw hK hcm ht i pins s σ H E I hf st hg;subst hP hw hK;obtain⟨f0,f1,f2,f3,f4,f5⟩:=hf it (by simp);have hi:i<x.cps.size:=hg;rw[a0u (a0z hi)]at st;refine wpAny_pyNext_wide_item st (c:=x.cps[i]) (by simp[hi]) λh' st' kk=>?_;have I1:Inv X pins σ H {s with heap:=h',toks:=s.toks+1}:=I.turned (λb o hb e=>(kk.2 b hb).trans e) f0 f1 f3 f4 f5;obtain⟨o,e1,c1,d1⟩:=id st';refine⟨_,rfl,al0 (s:={s with heap:=h',toks:=s.toks+1}) e1 c1 d1 (by decide) ⟨.str ⟨#[x.cps[i]]⟩,H,I1,⟨_,rfl⟩,⟨rfl,x.cps[i],by simp[hi],rfl⟩,?_,λb hb=>(hf b hb).1⟩⟩;rw[a0u hi];exact st'
 done:=by
  intro X hP hw hK hcm ht i pins s σ H E I hf st hg;subst hP hw hK;obtain⟨f0,f1,f2,f3,f4,f5⟩:=hf it (by simp);have hi:x.cps.size<=i:=hg;rw[Nat.min_eq_right hi]at st;exact asW (I.hnd.heap I.hok) st (by simp) λh' eb=>⟨rfl,I.turned (t':=s.toks) (λb o hb e=>eb b o hb e) f0 f1 f3 f4 f5⟩
 self:=λ_ _ _ _ _ st h=>wpAny_pyIter_striter_wide st h
inductive Src where
 |lst (p:bx) (xs:List D)|imm (xs:List D)|zip (p q:bx) (xs ys:List D)|itm (p:bx) (o:Obj) (kvs:List (DK×D))|key (p:bx) (o:Obj) (t:Bool) (kvs:List (DK×D))|tpl (p:bx) (xs:List D)|enu (p:bx) (xs:List D)
noncomputable def enm(xs:List D):List D:=xs.zipIdx.map λz=>.tup [.int z.2,z.1]
noncomputable def prs(xs ys:List D):List D:=(xs.zip ys).map λz=>.tup [z.1,z.2]
noncomputable def Src.items:Src->List D
 |.lst _ xs=>xs
 |.imm xs=>xs
 |.zip _ _ xs ys=>prs xs ys
 |.itm _ _ kvs=>kvs.map λz=>.tup [dkD z.1,z.2]
 |.key _ _ _ kvs=>kvs.map λz=>dkD z.1
 |.tpl _ xs=>xs
 |.enu _ xs=>enm xs
noncomputable def Src.ok(G:Gp):Src->Prop
 |.lst p xs=>bQ G p=aj xs
 |.imm _=>True
 |.zip p q xs ys=>G p=aj (.tpl xs)/\bQ G q=aj ys/\xs.length=ys.length
 |.itm p o kvs=>G p=aj (.rdc o ao kvs)
 |.key p o t kvs=>G p=aj (.rdc o t kvs)
 |.tpl p xs=>G p=aj (.tpl xs)
 |.enu p xs=>bQ G p=aj xs
def a9G(K:Fg)(H1:Hp)(src:Src)(J:It):Prop:=∀H2 G2,Ts H1 H2->HR K H2 G2->src.ok G2 ->
 (∀i,i<src.items.length->J.go i H2)/\(∀i v H',i<src.items.length->J.yld i H2 v H'->Same H2 H'/\∃d,src.items[i]?=aj d/\RD K H' d v)/\J.stop src.items.length H2
abbrev TI3:=aL->Gp->(Src->Gp->Prop)->Prop
noncomputable def upI(K:Fg)(t:TI3):TI:=λσ H Q=>∃ρ G R,SR K H ρ σ/\HR K H G/\t ρ G R/\∀src J H' G',Ts H H'->HR K H' G'->a9G K H' src J->R src G'->Q J H'
abbrev PI3(X:Cx)(tg iter:jt)(t:TI3):Prop:=PI X tg iter (upI X.K t)
noncomputable def signs(z:Str):List D:=z.cps.toList.map λc=>.str ⟨#[c]⟩
noncomputable def acK(te:dB):TI3:=λρ G R=>te ρ G λx G1=>match x with
 |.ref p=>(match bQ G1 p with
  |some xs=>R (.lst p xs) G1
  |none=>False)
 |.tup xs=>R (.imm xs) G1
 |.str z=>R (.imm (signs z)) G1
 |_=>False
theorem agU{K:Fg}{H1:Hp}:a9G K H1 (.lst p xs) (Itl K p):=λH2 G2 t g ok=>by
 obtain⟨vs,hq,rv⟩:=cB g (show bQ G2 p=aj xs from ok);refine⟨λi hi=>?_,λi v H' hi hy=>?_,⟨vs,hq,a1o rv.length.symm⟩⟩
 .have hi':i<xs.length:=hi;obtain⟨y,e1,_⟩:=rv.get (gq hi');exact⟨vs,y,hq,e1⟩
 .obtain⟨rfl,hy⟩:=hy;obtain⟨d,e1,e2⟩:=rv.aoD (hy vs hq);exact⟨.refl _,d,e1,e2⟩
theorem alB{K:Fg}{H1:Hp}(hq:zL K H1 a vs)(rv:cH K H1 xs vs):a9G K H1 (.imm xs) (Itt K a):=λH2 G2 t g ok=>by
 have hq2:=t.sqT hq;have rv2:=rv.mono t;refine⟨λi hi=>?_,λi v H' hi hy=>?_,⟨vs,hq2,a1o rv.length.symm⟩⟩
 .have hi':i<xs.length:=hi;obtain⟨y,e1,_⟩:=rv2.get (gq hi');exact⟨vs,y,hq2,e1⟩
 .obtain⟨rfl,hy⟩:=hy;obtain⟨d,e1,e2⟩:=rv2.aoD (hy vs hq2);exact⟨.refl _,d,e1,e2⟩
theorem acL{K:Fg}{H1:Hp}:a9G K H1 (.imm (signs z)) (Its z):=λH2 G2 t g ok=>by
 have hl:(signs z).length=z.cps.size:=by simp[signs]
 refine⟨λi hi=>?_,λi v H' hi hy=>?_,?_⟩
 .have:i<(signs z).length:=hi;rw[hl]at this;exact this
 .obtain⟨rfl,c,hc,rfl⟩:=hy;exact⟨.refl _,.str ⟨#[c]⟩,by simp[Src.items,signs,hc],.str _⟩
 .show z.cps.size<=(signs z).length;rw[hl];exact gw _
theorem alC{K:Fg}{H1:Hp}:a9G K H1 (.imm ((kh n).map λ(i:Nat)=>.int (lo+(i:Int)))) (Itr lo n):=λH2 G2 t g ok=>by
 refine⟨λi hi=>?_,λi v H' hi hy=>?_,?_⟩
 .have hi':i<n:=by simpa[Src.items]using hi
  exact hi'
 .obtain⟨rfl,rfl⟩:=hy;have hi':i<n:=by simpa[Src.items]using hi
  exact⟨.refl _,.int (lo+i),by simp[Src.items,hi'],.int _⟩
 .show n<=_;simp[Src.items]
section
variable{X:Cx}
theorem PI.imp(h:PI X tg e t)(k:∀σ H Q,t' σ H Q->t σ H Q):PI X tg e t':=λpins s σ H Q I q=>h pins s σ H Q I (k _ _ _ q)
set_option tactic.hygienic true in
theorem aRE(hl:dR X l te):PI3 X tg l (acK te):=by
 intro pins s σ H R I h;obtain⟨ρ,G,R3,sr,g,q,k⟩:=h
 refine eU (hl pins s σ H (λv H1=>Ts H H1/\∃x G1,RD X.K H1 x v/\HR X.K H1 G1/\(match x with
  |.ref p=>(match bQ G1 p with
   |some xs=>R3 (.lst p xs) G1
   |none=>False)
  |.tup xs=>R3 (.imm xs) G1
  |.str z=>R3 (.imm (signs z)) G1
  |_=>False)) I ⟨ρ,G,_,sr,g,q,λv H1 x G1 t1 r g1 q1=>⟨t1,x,G1,r,g1,q1⟩⟩) λv s1 ⟨x,H1,I1,r1,t1,d,G1,rd,g1,q1⟩=>?_
 cases rd with
 |ref a =>
  have q1':(match bQ G1 a with
   |some xs=>R3 (.lst a xs) G1
   |none=>False):=q1
  split at q1'
  .rename_i xs e;cases r1;obtain⟨vs,hq,rv⟩:=cB g1 e;obtain⟨its,rv',p,hz⟩:=I1.list hq;refine a1s p.isList ?_;refine⟨s1.heap.objs.size,[s1.heap.objs.size],_,_,H1,rfl,I1.kept (t':=s1.toks) λb o e=>dj _ e,agG a _,⟨_,jd _ rfl,rfl,rfl⟩,λb hb=>?_,k _ _ H1 G1 t1 g1 agU q1'⟩;have e:b=s1.heap.objs.size:=by simpa using hb
   subst e;exact I1.ac3 (gw _) (I1.hok.fresh (gw _))
  .exact q1'.elim
 |@tup a vs xs hq rv =>
  cases r1;obtain⟨its,rv',p,hz⟩:=I1.tuple hq;refine wpAny_pyIter_tuple (show s1.heap.IsTuple a its.toArray from p) ?_;refine⟨s1.heap.objs.size,[s1.heap.objs.size],_,_,H1,rfl,I1.kept (t':=s1.toks) λb o e=>dj _ e,ac4 a _,⟨_,jd _ rfl,rfl,rfl⟩,λb hb=>?_,k _ _ H1 G1 t1 g1 (alB hq rv) q1⟩;have e:b=s1.heap.objs.size:=by simpa using hb
  subst e;exact I1.ac3 (gw _) (I1.hok.fresh (gw _))
 |str z =>
  obtain⟨t,rfl⟩:=r1;cases ha:z.cps.all (· <128)
  .refine wpAny_pyIter_wide ha ?_;refine⟨s1.heap.objs.size,[s1.heap.objs.size],_,_,H1,rfl,I1.kept (t':=s1.toks) λb o e=>dj _ e,agT _ z t,?_,λb hb=>?_,k _ _ H1 G1 t1 g1 acL q1⟩
   .rw[Nat.zero_min];exact⟨_,jd _ rfl,rfl,rfl⟩
   .have e:b=s1.heap.objs.size:=by simpa using hb
    subst e;exact I1.ac3 (gw _) (I1.hok.fresh (gw _))
  .refine wpAny_pyIter_ascii ha ?_;refine⟨s1.heap.objs.size,[s1.heap.objs.size],_,_,H1,rfl,I1.kept (t':=s1.toks) λb o e=>dj _ e,agS _ z t,?_,λb hb=>?_,k _ _ H1 G1 t1 g1 acL q1⟩
   .rw[Nat.zero_min];exact⟨_,jd _ rfl,rfl,rfl⟩
   .have e:b=s1.heap.objs.size:=by simpa using hb
    subst e;exact I1.ac3 (gw _) (I1.hok.fresh (gw _))
 |_=>exact q1.elim
noncomputable def oX(lo hi:Int):List D:=(kh (hi - lo).toNat).map λ(i:Nat)=>.int (lo+(i:Int))
noncomputable def wY(ta:wL):TI3:=λρ G R=>ta ρ G λxs G1=>match xs with
 |[.int j]=>-(2^62)<=j/\j<2^62/\R (.imm (oX 0 j)) G1
 |_=>False
theorem aJA(hg:Gl X "range")(hm:X.mg "range"=aq)(ha:PA3 X [a] ta)(hs:jm [a] X.env=[(ao,eval a X.env)]):PI3 X tg (.Call (.Name "range" p) [a] [] pos) (wY ta) :=
 PI.imp (agH hg hm ha hs) λσ H Q h=>by
 obtain⟨ρ,G,R,s,g,q,k⟩:=h;refine⟨ρ,G,_,s,g,q,λvs H1 ds G1 t1 r g1 h1=>?_⟩;cases r with
 |nil=>exact h1.elim
 |cons r rr =>
  cases rr with
  |cons _ _=>cases r<;>exact False.elim h1
  |nil =>
   cases r with
   |int j =>
    obtain⟨l1,l2,h1⟩:=h1;refine⟨j,rfl,l1,l2,k _ _ H1 G1 t1 g1 ?_ h1⟩;unfold oX;rw[show(j - 0).toNat=j.toNat by omega];exact alC
   |_=>exact False.elim h1
end
end
variable{env:Env}{j:Nat}
section
noncomputable def jR(cells:List (Str×bx)):List (Str×wg)->List (Str×bx)->List (Str×bx)
 |[],cs=>cs
 |(n,k)::r,cs=>jR cells r (if k=.free then(match cells.lookup n with
  |some a=>(n,a)::cs
  |none=>cs)else cs)
theorem mV{scope:yc}(h:∀y∈scope.names,y.2=.free->∃c,env.cells.lookup y.1=aj c):closureFor scope env=pure (jR env.cells scope.names []):=by
 unfold closureFor
 have all:∀(l:List (Str×wg))(cs:List (Str×bx)),(∀y∈l,y.2=.free->∃c,env.cells.lookup y.1=aj c) ->
   (forIn l cs λ(x:Str×wg)(r:List (Str×bx))=>(if(x.2==wg.free)=ak then do
    let a ←cellOf env x.1
    pure (ForInStep.yield ((x.1,a)::r))else pure (ForInStep.yield r):Sem (ForInStep (List (Str×bx)))))=(pure (jR env.cells l cs):Sem (List (Str×bx))):=by
  intro l
  induction l with
  |nil=>intro cs _;rfl
  |cons y r ih =>
   intro cs hl;obtain⟨n,k⟩:=y;rw[a2e];by_cases hk:k=.free
   .subst hk;obtain⟨c,hc⟩:=hl (n,.free) (by simp) rfl;have e:cellOf env n=pure c:=by unfold cellOf;rw[hc]
    simp only[beq_self_eq_true,if_true,e];show(forIn r ((n,c)::cs) _:Sem _)=_;rw[ih _ λy hy=>hl y (by simp[hy])];simp only[jR,if_true,hc]
   .have hk':(k==wg.free)=ao:=by simpa using hk
    simp only[hk',Bool.false_eq_true,if_false];show(forIn r cs _:Sem _)=_;rw[ih _ λy hy=>hl y (by simp[hy])];simp only[jR,if_neg hk]
 have z:=all scope.names [] h;exact congrArg (λm=>m >>= λcs=>pure cs) z
set_option tactic.hygienic true in
theorem iH{cells:List (Str×bx)}:∀{l:List (Str×wg)}{cs:List (Str×bx)}{y:Str}{c:bx},(jR cells l cs).lookup y=aj c->(∀c,cs.lookup y=aj c->cells.lookup y=aj c)->cells.lookup y=aj c
 |[],cs,y,c,h,k=>k c h
 |(n,kd)::r,cs,y,c,h,k=>by
  unfold jR at h;refine iH h λc' h'=>?_;by_cases hk:kd=.free
  .rw[if_pos hk]at h';split at h'
   .rename_i a ha;rw[qz]at h';split at h'
    .rename_i e;have e':y=n:=beq_iff_eq.mp e;subst e';rw[ha];exact h'
    .exact k c' h'
   .exact k c' h'
  .rw[if_neg hk]at h';exact k c' h'
theorem acM{cells:List (Str×bx)}:∀{l:List (Str×wg)}{cs:List (Str×bx)}{y:Str},(∃c,cs.lookup y=aj c)->∃c,(jR cells l cs).lookup y=aj c
 |[],cs,y,h=>h
 |(n,kd)::r,cs,y,h=>by
  unfold jR;refine acM ?_;by_cases hk:kd=.free
  .rw[if_pos hk];split
   ·rw[qz];split
    ·exact⟨_,rfl⟩
    .exact h
   .exact h
  .rw[if_neg hk];exact h
theorem a6Y{cells:List (Str×bx)}(hc:cells.lookup y=aj c):∀{l:List (Str×wg)}{cs:List (Str×bx)},(y,wg.free)∈l->∃c,(jR cells l cs).lookup y=aj c
 |[],cs,h=>by simp at h
 |(n,kd)::r,cs,h=>by
  unfold jR;rcases jc.mp h with e|h
  .cases e;refine acM ?_;rw[if_pos rfl,hc];simp
  .exact a6Y hc h
set_option tactic.hygienic true in
theorem mem_of_lookup{α:Type}:∀{l:List (Str×α)}{y:Str}{k:α},l.lookup y=aj k->(y,k)∈l
 |[],_,_,h=>by simp at h
 |(n,kd)::r,y,k,h=>by
  rw[qz]at h;split at h
  .rename_i e;have e':y=n:=beq_iff_eq.mp e;cases h;subst e';simp
  .exact gb _ (mem_of_lookup h)
structure sH(X:Cx)(xs:List Str)(scope:yc):Prop where
 kind:scope.kind=.function
 aiC:∀y∈scope.names,y.2≠.cell
 locs:∀y∈scope.names,y.2=.local->scope.names.lookup y.1=aj .local
 var:∀x∈xs,scope.names.lookup x=aj .local
 frees:∀y∈scope.names,y.2=.free->X.env.kindOf y.1=aj .cell∨X.env.kindOf y.1=aj .free
 out:∀x∈xs,x∉X.N
 nd:xs.Nodup
 only:∀y∈X.N,scope.names.lookup y≠aj .local
noncomputable abbrev dN(X:Cx)(xs:List Str)(scope:yc)(C:bx)(s₃:cg)(H₃:Hp)(fp:List bx)(pins:List (bx×Obj)):Cx :=
 {X with N:=xs++X.N,s₀:=s₃,H₀:=H₃,env:=compEnvC scope (jR X.env.cells scope.names []) C X.env,outer:=X.stack,stack:=X.stack,ex:=fp,fn:=λ_=>ao,pn:=X.pn++pins,xe:=λ_ _=>False}
noncomputable def nn(xs:List Str)(σ:St):St:=xs.map (λ_=>aq)++σ
theorem aoL{xs:List Str}{i:Nat}(h:(nn xs σ)[i]?=aj (aj v)):∃j,i=xs.length+j/\σ[j]?=aj (aj v):=by
 unfold nn at h;by_cases c:i<xs.length
 .rw[a0g (by simpa using c)]at h;simp at h
 .rw[zc (by simpa using c)]at h;exact⟨i - xs.length,by omega,by simpa using h⟩
theorem aiD{α:Type}{xs ys:List α}:(xs++ys)[xs.length+j]?=ys[j]?:=by
 rw[zc (by omega)];congr 1;omega
theorem eX{env:Env}:∀{names:List (Str×wg)},(names.map λ(n,k)=>if(k==.free&&env.scope.kind==.function&&env.kindOf n==aj .cell)then(n,.cell)else(n,k)).lookup y=aj k ->
  ∃k',names.lookup y=aj k'/\(k=k'∨(k=.cell/\k'=.free))
 |[],h=>by simp at h
 |(n,kd)::r,h=>by
  rw[jj]at h;by_cases hc:(kd==.free&&env.scope.kind==.function&&env.kindOf n==aj .cell)=ak
  .have h':zp y ((n,wg.cell)::(r.map λ(n,k)=>if(k==.free&&env.scope.kind==.function&&env.kindOf n==aj .cell)then(n,.cell)else(n,k)))=aj k:=by
    simp only[hc,if_true]at h;exact h
   rw[qz]at h' ⊢;cases hx:y==n with
   |true =>
    rw[hx]at h';cases h';refine⟨kd,rfl,.inr ⟨rfl,?_⟩⟩;simp only[bh,beq_iff_eq]at hc;exact hc.1.1
   |false =>
    rw[hx]at h';exact eX h'
  .have h':zp y ((n,kd)::(r.map λ(n,k)=>if(k==.free&&env.scope.kind==.function&&env.kindOf n==aj .cell)then(n,.cell)else(n,k)))=aj k:=by
    simp only[hc,if_false]at h;exact h
   rw[qz]at h' ⊢;cases hx:y==n with
   |true =>
    rw[hx]at h';cases h';exact⟨_,rfl,.inl rfl⟩
   |false =>
    rw[hx]at h';exact eX h'
end
variable{tk:Nat}
section
section
variable{X:Cx}{pins:List (bx×Obj)}{s:cg}
theorem aaZ(I:Inv X pins σ H s){b:bx}(hb:b∈frs X.stack):b=X.env.locals∨b∈X.fs:=jc.mp (I.ao1 b hb)
theorem aJB(I:Inv X pins σ H s)(c:sH X xs scope)(hC:s.heap.objs.size<=C)(hf:∀b∈fp,wQ X pins H b/\b<s.heap.objs.size):(dN X xs scope C s H fp pins).Ok where
 mod:=I.ok.mod
 kind:=c.kind
 glob:=I.ok.glob
 blt:=I.ok.blt
 above:=hC
 inj:=λy z d h1 h2=>I.ok.inj y z d (iH h1 λ_ h=>by simp at h) (iH h2 λ_ h=>by simp at h)
 has:=λy h=>by
  have hy:(y,wg.free)∈scope.names:=by
   rcases h with h|h
   .obtain⟨k',e,z⟩:=eX (env:=X.env) (names:=scope.names) h;rcases z with z|⟨_,z⟩
    .subst z;exact absurd rfl (c.aiC _ (mem_of_lookup e))
    .subst z;exact mem_of_lookup e
   .obtain⟨k',e,z⟩:=eX (env:=X.env) (names:=scope.names) h;rcases z with z|⟨z,_⟩
    .subst z;exact mem_of_lookup e
    .cases z
  obtain⟨d,hd⟩:=I.ok.has y (c.frees _ hy rfl);exact a6Y hd hy
 cab:=λ_ _ h=>absurd h (by simp)
 hd:=I.ok.hd
 frames:=I.ok.frames
 stk:=.inl rfl
 exf:=λb hb=>by
  obtain⟨⟨f0,f1,f2,f3,f4,f5⟩,lt⟩:=hf b hb;exact⟨mq (ju lt hC),λy d h=>f4 y d (iH h λ_ h=>by simp at h)⟩
 bs:=λb o e=>I.bs b o e
 bsz:=qj I.ok.bsz I.sz
 a9A:=λb o e hb=>by
  obtain⟨⟨f0,f1,f2,f3,f4,f5⟩,lt⟩:=hf b hb;rcases f3 with z|z
  .exact I.ok.a9A b o e z
  .exact absurd (ju (gk e) (qj I.ok.bsz z)) (qu _)
 abZ:=λb hb hs=>by
  obtain⟨⟨f0,f1,f2,f3,f4,f5⟩,lt⟩:=hf b hb;rcases aaZ I hs with z|z
  .exact f1 z
  .exact f2 z
 vR:=I.stack
 frf:=λb hb=>I.ahT b hb
theorem ax1(I:Inv X pins σ H s)(c:sH X xs scope)(hC:s.heap.objs.size=C)(hf:∀b∈fp,wQ X pins H b/\b<s.heap.objs.size){h₁:jq}{m:Str->Option au}(hn:h₁.Ns C m)(hk:∀b o,s.heap.get? b=aj o->h₁.get? b=aj o) :
  Inv (dN X xs scope C s H fp pins) [] (nn xs σ) H {s with heap:=h₁,toks:=tk}:=by
 have lt:∀b o,s.heap.get? b=aj o->b≠C:=λb o e=>by rw[←hC];exact mq (gk e)
 refine⟨aJB I c (a1o hC) hf,rfl,I.bare,Un.kept hk,⟨m,hn,λi y v e1 e2 e3=>?_⟩,λy d e=>?_,I.hok.fresh (a1o hC),λy d e=>I.lB y d (iH e λ_ h=>by simp at h),λp hp=>?_,I.hok.kept hk,by simp[nn,I.len],I.hnd,I.tup⟩
 .obtain⟨i,rfl,e2'⟩:=aoL e2
  .have e1':X.N[i]?=aj y:=aiD.symm.trans e1;have hy:y∈X.N:=uc e1'
   have free:(y,wg.free)∈scope.names:=by
    have e3':∃k,(relabel scope X.env).names.lookup y=aj k/\(k=.local∨k=.cell∨k=.free):=by
     rcases e3 with h|h|h
     .exact⟨_,h,.inl rfl⟩
     .exact⟨_,h,.inr (.inl rfl)⟩
     .exact⟨_,h,.inr (.inr rfl)⟩
    obtain⟨k,h,hk⟩:=e3';obtain⟨k',e,z⟩:=eX (env:=X.env) (names:=scope.names) h;rcases z with z|⟨_,z⟩
    .subst z;rcases hk with rfl|rfl|rfl
     .exact absurd e (c.only y hy)
     .exact absurd rfl (c.aiC _ (mem_of_lookup e))
     .exact mem_of_lookup e
    .subst z;exact mem_of_lookup e
   have hkd:=c.frees _ free rfl;obtain⟨m',hn',hlo⟩:=I.loc;have vis:Vis X.env.scope y:=hkd.elim (λz=>.inr (.inl z)) λz=>.inr (.inr z);obtain⟨u,r,l⟩:=hlo i y v e1' e2' vis;refine⟨u,r,.inr ⟨?_,?_⟩⟩
   .rcases e3 with h|h|h
    .obtain⟨k',e,z⟩:=eX (env:=X.env) (names:=scope.names) h;rcases z with z|⟨z,_⟩
     .subst z;exact absurd e (c.only y hy)
     .cases z
    .exact .inl h
    .exact .inr h
   .rcases l with⟨hl,_⟩|⟨_,d,hd,hcell⟩
    .rcases hkd with z|z
     .rw[z]at hl;cases hl
     .rw[z]at hl;cases hl
    .obtain⟨d',hd'⟩:=a6Y (cells:=X.env.cells) (l:=scope.names) (cs:=[]) hd free;have:=iH hd' λ_ h=>by simp at h
     rw[hd]at this;cases this;refine⟨d,hd',?_⟩;obtain⟨o,ho,hod⟩:=hcell;exact⟨o,hk _ _ ho,hod⟩
 .obtain⟨w,o,ho,hod⟩:=I.cell y d (iH e λ_ h=>by simp at h);exact⟨w,o,hk _ _ ho,hod⟩
 .have hp':p∈X.pn++pins:=by simpa using hp
  obtain⟨e,n,ne,nf,d⟩:=I.pin p hp';refine⟨hk _ _ e,n,lt _ _ e,λz=>?_,d⟩;rcases aaZ I z with z|z
  .exact ne z
  .exact nf z
theorem aiE(I:Inv X pins σ H s)(hC:s.heap.objs.size=C)(hf:∀b∈fp,wQ X pins H b/\b<s.heap.objs.size){s':cg}(J:Inv (dN X xs scope C s H fp pins) oW σ' H' s')(hs:yg C s'.heap h') :
  Inv X pins σ H' {s' with heap:=h',toks:=tk}:=by
 have ne:∀b o,s.heap.get? b=aj o->b≠C:=λb o e=>by rw[←hC];exact mq (gk e)
 have u:Un (frs X.stack) fp H H' s.heap s'.heap:=J.base;have hfree:H' C=aq:=J.free;refine I.call' (ch:=fp) J.os ⟨λb o e n hb hx=>?_,λb o e n hb hx=>?_,u.free,λb o e hx=>?_,u.tups,u.lA,u.wO⟩ (λb o e=>?_) J.bare (λb hb=>?_)
 .exact(hs.2 b (ne b o e)).trans (u.keep b o e n hb hx)
 .obtain⟨sl,e1⟩:=u.slot b o e n hb hx;exact⟨sl,(hs.2 b (ne b o e)).trans e1⟩
 .obtain⟨o',e1⟩:=u.there b o e hx;exact⟨o',(hs.2 b (ne b o e)).trans e1⟩
 .refine(J.hok b o e).stay (λd w hd q=>(hs.2 d ?_).trans q) (λ_ q=>q) λ_ _ q=>q;rintro rfl;rcases hd with z|z
  .rw[z]at hfree;rw[e]at hfree;cases hfree
  .rw[hfree]at z;cases z
 .obtain⟨⟨f0,f1,f2,f3,f4,f5⟩,lt⟩:=hf b hb;exact⟨f3,f1,f4,f5⟩
end
end
variable{pins:List (bx×Obj)}{A:qb}{R:iG}{s2:cg}{G1:Gp}{tn:Nat->jq->Prop}{J:It}{src:Src}{RR:au->bx->Result->cg->Prop}{ds:List D}{N:List Str}
section
noncomputable def pD:TT3:=λ_ G R=>R ak G
noncomputable def alD(X:Cx)(ifs:List jt)(tc:TT3):Prop :=
 ∀(pins:List (bx×Obj))(s:cg)(σ:St)(H:Hp)(Q:Bool->Hp->Prop),Inv X pins σ H s->upT X.K tc σ H Q ->
  dh (dz X.prog X.w) X.A (forIn ifs ak λc r=>if r=ak then do let ok ←isTrue c X.env (eval c X.env);pure (ForInStep.yield ok)else pure (ForInStep.yield r)) (TP X pins σ Q) X.xe s
theorem aCH:alD X [] pD:=λpins s σ H Q I h=>by
 obtain⟨ρ,G,R,sr,g,q,k⟩:=h;exact gV ⟨H,I,k ak H G (.refl H) g q⟩
theorem aCI{tc:TT3}(hc:PT3 X c tc):alD X [c] tc:=λpins s σ H Q I h=>by
 rw[a2e];simp only[if_true];refine bw (bw (eU (hc pins s σ H Q I h) λb s1 q=>?_));exact gV (gV q)
section
variable{X:Cx}{x:Str}{xs:List Str}{tgt:jt}{dv:D->Option (List D)}{scope:yc}{iter elt:jt}{ifs:List jt}{pos:Pos}{ti:TI3}{tc:TT3}{te:dB}
structure ax2(X:Cx)(pins:List (bx×Obj))(H':Hp)(C:bx)(h:jq):Prop where
 ns:∃m,h.Ns C m
 free:H' C=aq
 loc:C≠X.env.locals
 young:X.s₀.heap.objs.size<=C
 cells:∀y d,X.env.cells.lookup y=aj d->d≠C
 pins:∀p∈X.pn++pins,p.1≠C
theorem ax2.turn{X:Cx}{s:cg}(o:ax2 X pins H' C s.heap)(I:Inv X pins σ H' s)(hs:yg C s.heap h'):Inv X pins σ H' {s with heap:=h' } :=
 I.turned (t':=s.toks) (λb ob hb e=>(hs.2 b hb).trans e) o.free o.loc (.inr o.young) o.cells o.pins
def aoM(Y:Cx)(tgt:jt)(xs:List Str)(dv:D->Option (List D))(σ:St):Prop:=∀(pins:List (bx×Obj))(s:cg)(H:Hp)(v:V)(u:au)(d:D)(ds:List D),Inv Y pins (nn xs σ) H s->RelV v u->RD Y.K H d v->dv d=aj ds ->
 dh (dz Y.prog Y.w) Y.A (assign tgt Y.env u) (λ_ s'=>∃vs,cH Y.K H ds vs/\Inv Y pins (vs.map aj++σ) H s') Y.xe s
theorem aoN{K:Fg}(s:SR K H ρ σ):∀{ds:List D}{vs:List V},cH K H ds vs->SR K H (ds.map aj++ρ) (vs.map aj++σ)
 |_,_,.nil=>s
 |_,_,.cons h r=>.some h (aoN s r)
set_option tactic.hygienic true in
theorem alE{prog:lq}{R:Result->cg->Prop}{elt iter:jt}{ifs:List jt}{scope:yc}{pos:Pos}(J:Nat->cg->Prop)
  (turn:∀n s,J n s->dh (dz prog w) A (a0y it) (λr s1=>match r with
   |none=>R (.ok .next) s1
   |some v=>dh (dz prog w) A (a0t target it v) (λ_ s1'=>dh (dz prog w) A (assign target env v) (λ_ s2 =>
     dh (dz prog w) A (forIn ifs ak λc r=>if r=ak then do let ok ←isTrue c env (eval c env);pure (ForInStep.yield ok)else pure (ForInStep.yield r)) (λok s3 =>
      if ok=ak then dh (dz prog w) A (eval elt env) (λx s4 =>
         dh (dz prog w) A (call (.builtin "list.append") [acc,x]) (λ_ s5=>∃m,m<n/\J m s5) (notedBy (dz prog w) A env λe s'=>R (.error e) s') s4) (notedBy (dz prog w) A env λe s'=>R (.error e) s') s3
      else ∃m,m<n/\J m s3) (notedBy (dz prog w) A env λe s'=>R (.error e) s') s2) (notedBy (dz prog w) A env λe s'=>R (.error e) s') s1') (notedBy (dz prog w) A env λe s'=>R (.error e) s') s1) (notedBy (dz prog w) A env λe s'=>R (.error e) s') s)
  (n:Nat)(h:J n s):a0i (dz prog w) A (.compLoop (.ListComp elt [⟨target,iter,ifs,0⟩] scope pos) 0 it acc env) R s:=by
 refine codeAny_loop rfl J (λn s hJ=>?_) n h;show dh _ A ((compTurn (.ListComp elt [⟨target,iter,ifs,0⟩] scope pos) 0 it acc env).onRaise (λz=>do noteFrame z env;theTreesLotGoes z)) _ _ s;refine wpAny_noted ?_;rw[compTurn_list];refine bw (a1J (bw (kj (turn n s hJ) (λr s1 h1=>?_) λ_ _ z=>z)));cases r with
 |none=>exact gV h1
 |some v =>
  refine bw (kj h1 (λ_ s1' h1'=>?_) λ_ _ z=>z);refine bw (kj h1' (λ_ s2 h2=>bw (kj h2 (λok s3 h3=>?_) λ_ _ z=>z)) λ_ _ z=>z);cases ok with
  |false=>exact gV ⟨rfl,h3⟩
  |true=>exact bw (bw (kj h3 (λx s4 h4=>bw (kj h4 (λ_ s5 h5=>gV (gV ⟨rfl,h5⟩)) λ_ _ z=>z)) λ_ _ z=>z))
set_option tactic.hygienic true in
theorem agV(c:sH X xs scope)(hT:∀C s H fp pins σ,aoM (dN X xs scope C s H fp pins) tgt xs dv σ)(hdv:∀d ds,dv d=aj ds->ds.length=xs.length)(hc:∀C s H fp pins,alD (dN X xs scope C s H fp pins) ifs tc)(he:∀C s H fp pins,dR (dN X xs scope C s H fp pins) elt te){σ:St}{H H2:Hp}{ρ:aL}{it:bx}{fp:List bx}(sr:SR X.K H ρ σ)(I2:Inv X pins σ H2 s2)(T:Turn X.calm X.tp X.prog X.w X.K tgt J fp it tn)(st2:tn 0 s2.heap)(f2:∀b∈fp,wQ X pins H2 b)(t1:Ts H H2)(g1:HR X.K H2 G1)(sj:a9G X.K H2 src J)
  (hlen:src.items.length<cj)(body:∀p,G1 p=aq->∃P:Nat->List D->Gp->Prop,P 0 [] (aJ G1 p (.lst [])) /\
   (∀k ds G,k<=src.items.length->P k ds G->src.ok G/\G p=aj (.lst ds)/\ds.length<=k) /\
   (∀k d ds G,src.items[k]?=aj d->P k ds G->∃ys,dv d=aj ys/\tc (ys.map aj++ρ) G λb G2=>if b=ak then te (ys.map aj++ρ) G2 λy G3=>G3 p=aj (.lst ds)/\P (k+1) (ds++[y]) (aJ G3 p (.lst (ds++[y])))else P (k+1) ds G2) /\
   ∀ds G,P src.items.length ds G->∃G0,Le G0 G/\R (.ref p) G0)
  (hRR:∀Da C s5 H' G0,Inv X pins σ H' s5->ax2 X pins H' C s5.heap->Ts H H'->HR X.K H' G0->R (.ref Da) G0->RR (.ref Da) C (.ok .next) s5) :
  dh (dz X.prog X.w) X.A (newList []) (λacc s₃=>dh (dz X.prog X.w) X.A (newFunctionEnv scope X.env.globals (jR X.env.cells scope.names []) [] X.env.qual aq .none (aj X.env)) (λcenv s₄ =>
   a0i (dz X.prog X.w) X.A (.compStart (.ListComp elt [⟨tgt,iter,ifs,0⟩] scope pos) 0 (.ref it) acc {cenv with scope:=relabel scope X.env}) (RR acc cenv.locals) s₄) X.xe s₃) X.xe s2:=by
 refine uw ?_;have I3:=I2.aI8 (its:=[]) (ys:=[]) (t':=s2.toks) .nil (by decide);have hD:H2 s2.heap.objs.size=aq:=I2.fresh;have kf:=yC I3;have gD:G1 s2.heap.objs.size=aq:=uX g1 hD kf;obtain⟨P,p0,pok,pst,pend⟩:=body _ gD
 have ltD:∀b∈fp,b<s2.heap.objs.size:=λb hb=>by
  obtain⟨o,e,_⟩:=T.obj 0 _ st2 b hb;exact gk e
 have hsz3:(s2.heap.push {cls:=.type "list",data:=.seq ([]:List au).toArray}).objs.size=s2.heap.objs.size+1:=zj ..
 have hf3:∀b∈fp,wQ X pins (upd H2 s2.heap.objs.size (.lst [])) b/\b<(s2.heap.push {cls:=.type "list",data:=.seq ([]:List au).toArray}).objs.size:=λb hb=>by
  obtain⟨f0,fr⟩:=f2 b hb;exact⟨⟨by rw[bT (mq (ltD b hb))];exact f0,fr⟩,by rw[hsz3];exact a0w (ltD b hb)⟩
 refine wpAny_newFunctionEnv c.aiC (by intro y hy;simp at hy) (λh₁ hns₁ hsb₁=>?_) c.kind;dsimp only at hns₁ hsb₁ ⊢;generalize hH3:s2.heap.push {cls:=.type "list",data:=.seq ([]:List au).toArray}=h3 at *;generalize hDe:s2.heap.objs.size=Da at *;have alF:∀b o,h3.get? b=aj o->h₁.get? b=aj o:=λb o e=>hsb₁.extBut b o (mq (gk e)) (dj _ e)
 show a0i (dz X.prog X.w) X.A (Code.compStart (elt.ListComp [{target:=tgt,iter:=iter,ifs:=ifs,is_async:=0}] scope pos) 0 (au.ref it) (au.ref Da) (compEnvC scope (jR X.env.cells scope.names []) h3.objs.size X.env))
  (RR (.ref Da) h3.objs.size) {s2 with heap:=h₁,toks:=s2.toks+([]:List (Str×au)).length}
 have J0:=ax1 (tk:=s2.toks+([]:List (Str×au)).length) I3 c rfl hf3 hns₁ alF;have st1:tn 0 h₁:=T.keep _ _ _ st2 λb hb o e=>alF b o (by rw[←hH3];exact dj _ e);have g0:HR X.K (upd H2 Da (.lst [])) (aJ G1 Da (.lst [])):=g1.put (u:=.lst []) hD ⟨[],aP,.nil⟩;have ts0:Ts H2 (upd H2 Da (.lst [])):=.same (bO hD)
 have loop:∀s₄:cg,Inv (dN X xs scope h3.objs.size {s2 with heap:=h3,toks:=s2.toks} (upd H2 Da (.lst [])) fp pins) [] (nn xs σ) (upd H2 Da (.lst [])) s₄->tn 0 s₄.heap ->
   a0i (dz X.prog X.w) X.A (.compLoop (.ListComp elt [⟨tgt,iter,ifs,0⟩] scope pos) 0 (.ref it) (.ref Da) (compEnvC scope (jR X.env.cells scope.names []) h3.objs.size X.env)) (RR (.ref Da) h3.objs.size) s₄:=by
  intro s₄ J4 st4
  refine alE (λn s'=>∃i ds H' G',Inv (dN X xs scope h3.objs.size {s2 with heap:=h3,toks:=s2.toks} (upd H2 Da (.lst [])) fp pins) [] (nn xs σ) H' s'/\tn i s'.heap/\(∀b∈fp,H' b=aq)/\HR X.K H' G'/\P i ds G'/\i<=src.items.length/\n=src.items.length - i/\Ts H2 H') (λn s' hI=>?_) src.items.length
   ⟨0,[],_,_,J4,st4,λb hb=>(hf3 b hb).1.1,g0,p0,yh _,by simp,ts0⟩
  obtain⟨i,ds,H',G',J,st,fr,g',p,hi',rfl,ts⟩:=hI;obtain⟨ok,hDl,hdl⟩:=pok i ds G' hi' p;obtain⟨sgo,aJD,ax3⟩:=sj H' G' ts g' ok
  have fpX:∀{H':Hp},(∀b∈fp,H' b=aq)->∀b∈fp,wQ (dN X xs scope h3.objs.size {s2 with heap:=h3,toks:=s2.toks} (upd H2 Da (.lst [])) fp pins) [] H' b:=λhn b hb=>by
   obtain⟨⟨f0,f1,f2',f3,f4,f5⟩,lt⟩:=hf3 b hb;refine⟨hn b hb,mq lt,λhs=>?_,.inl hb,λy d e=>f4 y d (iH e λ_ h=>by simp at h),λp' hp'=>f5 p' (by simpa using hp')⟩;rcases aaZ I3 hs with z|z
   .exact f1 z
   .exact f2' z
  by_cases hlt:i<src.items.length
  .refine kj (T.item (dN X xs scope h3.objs.size {s2 with heap:=h3,toks:=s2.toks} (upd H2 Da (.lst [])) fp pins) rfl rfl rfl (λh=>h) (λ_ h=>h) i [] s' (nn xs σ) H' (λ_ _=>False) J (fpX fr) st (sgo i hlt)) ?_ λ_ _ z=>z.elim;rintro r s5 ⟨u,hr,h5⟩;subst hr
   obtain⟨d0,ys,hd0,ey,aJF⟩:∃d ys,src.items[i]?=aj d/\dv d=aj ys/\tc (ys.map aj++ρ) G' λb G2=>if b=ak then te (ys.map aj++ρ) G2 λy G3=>G3 Da=aj (.lst ds)/\P (i+1) (ds++[y]) (aJ G3 Da (.lst (ds++[y])))else P (i+1) ds G2:=by
    have hd:src.items[i]?=aj src.items[i]:=gq hlt;obtain⟨ys,e,z⟩:=pst i _ ds G' hd p;exact⟨_,ys,hd,e,z⟩
   show dh _ _ (a0t tgt (.ref it) u) _ _ s5;refine kj h5 ?_ λ_ _ z=>z.elim;rintro _ s6 ⟨vx,H6,I6,r6,y6,st6,fr6⟩;obtain⟨sm,d,hd,rd⟩:=aJD i vx H6 hlt y6;have g':=g'.same sm;have ts:=ts.trans (.same sm);obtain rfl:d0=d:=mz.inj (hd0.symm.trans hd);have I6':=I6.pinned (fpX fr6) (T.obj _ _ st6);refine kj (hT _ _ _ _ _ _ _ s6 H6 vx u _ _ I6' r6 rd ey) ?_ λ_ _ z=>z.elim;rintro _ s7 ⟨vs,rvs,I7⟩;have lv:vs.length=xs.length:=by rw[←rvs.length];exact hdv _ _ ey
   have acN:∀{s'':cg}{σ'':St}{H'':Hp},Inv (dN X xs scope h3.objs.size {s2 with heap:=h3,toks:=s2.toks} (upd H2 Da (.lst [])) fp pins) ([]++zO fp s6.heap) σ'' H'' s''->tn (i+1) s''.heap/\∀b∈fp,H'' b=aq:=λI''=>by
    refine⟨T.keep _ _ _ st6 λb hb o e=>(I''.pin (b,o) (nj _ (nj _ (mQ hb e)))).1,λb hb=>?_⟩;obtain⟨o,e,_⟩:=T.obj _ _ st6 b hb;exact(I''.pin (b,o) (nj _ (nj _ (mQ hb e)))).2.1
   have down:∀{s'':cg}{H'':Hp},Inv (dN X xs scope h3.objs.size {s2 with heap:=h3,toks:=s2.toks} (upd H2 Da (.lst [])) fp pins) ([]++zO fp s6.heap) (vs.map aj++σ) H'' s''->Inv (dN X xs scope h3.objs.size {s2 with heap:=h3,toks:=s2.toks} (upd H2 Da (.lst [])) fp pins) [] (nn xs σ) H'' s'':=λI'' =>
    I''.zP.weak (by simp[nn,lv]) λj v e=>by
     obtain⟨j',rfl,e'⟩:=aoL e;rw[←lv,show vs.length=(vs.map aj).length by simp,aiD];exact e'
   have sr7:SR X.K H6 (ys.map aj++ρ) (vs.map aj++σ):=aoN (sr.mono (t1.trans ts)) rvs
   refine kj (hc _ _ _ _ _ _ s7 (vs.map aj++σ) H6 (λb H8=>Ts H6 H8/\∃G8,HR X.K H8 G8/\(if b=ak then te (ys.map aj++ρ) G8 λy G3=>G3 Da=aj (.lst ds)/\P (i+1) (ds++[y]) (aJ G3 Da (.lst (ds++[y])))else P (i+1) ds G8)) I7
    ⟨ys.map aj++ρ,G',_,sr7,g',aJF,λb H8 G8 t8 g8 q8=>⟨t8,G8,g8,q8⟩⟩) (λb s8 ⟨H8,I8,t8,G8,g8,q8⟩=>?_) λ_ _ z=>z.elim
   cases b with
   |false =>
    rw[if_neg (by decide)];have q8':P (i+1) ds G8:=by simpa using q8
    obtain⟨a1,a2⟩:=acN I8;exact⟨src.items.length - (i+1),by omega,i+1,ds,H8,G8,down I8,a1,a2,g8,q8',hlt,rfl,ts.trans t8⟩
   |true =>
    rw[if_pos rfl];have q8':te (ys.map aj++ρ) G8 λy G3=>G3 Da=aj (.lst ds)/\P (i+1) (ds++[y]) (aJ G3 Da (.lst (ds++[y]))):=by simpa using q8
    refine kj (he _ _ _ _ _ _ s8 (vs.map aj++σ) H8 (λvy H9=>Ts H8 H9/\∃y G9,RD X.K H9 y vy/\HR X.K H9 G9/\G9 Da=aj (.lst ds)/\P (i+1) (ds++[y]) (aJ G9 Da (.lst (ds++[y])))) I8 ⟨ys.map aj++ρ,G8,_,sr7.mono t8,g8,q8',λvy H9 y G9 t9 r9 g9 q9=>⟨t9,y,G9,r9,g9,q9⟩⟩) ?_ λ_ _ z=>z.elim;rintro uy s9 ⟨vy,H9,I9,ry,t9,y,G9,ryd,g9,hG9,q9⟩;obtain⟨ws,hH9,rws⟩:=g9 Da _ hG9;have ax5:ws.length<cj:=by rw[←rws.length];omega
    refine kj (a6V (X:=dN X xs scope h3.objs.size {s2 with heap:=h3,toks:=s2.toks} (upd H2 Da (.lst [])) fp pins) _ s9 (vs.map aj++σ) H9 (.ref Da) [vy] (.ref Da) [uy] (λ_ H10=>H10=upd H9 Da (.lst (ws++[vy]))) I9 rfl (.cons ry .nil) ⟨Da,ws,vy,rfl,rfl,hH9,ax5,rfl⟩) ?_ λ_ _ z=>z.elim;rintro _ s10 ⟨_,H10,I10,_,e10⟩;subst e10;obtain⟨a1,a2⟩:=acN I10;have tt:Ts H9 (upd H9 Da (.lst (ws++[vy]))):=.turn hH9 (λ_ z=>nomatch z) (λ_ _ z=>nomatch z);exact⟨src.items.length - (i+1),by omega,i+1,ds++[y],_,_,down I10,a1,a2,g9.turn (u:=.lst (ds++[y])) tt ⟨_,aP,(rws.append (.cons ryd .nil)).mono tt⟩,q9,hlt,rfl,((ts.trans t8).trans t9).trans tt⟩
  .have ein:i=src.items.length:=by omega
   subst ein;refine kj (T.done (dN X xs scope h3.objs.size {s2 with heap:=h3,toks:=s2.toks} (upd H2 Da (.lst [])) fp pins) rfl rfl rfl (λh=>h) (λ_ h=>h) _ [] s' (nn xs σ) H' (λ_ _=>False) J (fpX fr) st ax3) ?_ λ_ _ z=>z.elim;rintro r s5 ⟨hr,J5⟩;subst hr;obtain⟨m5,hn5,_⟩:=id J5.loc;obtain⟨G0,l0,q0⟩:=pend ds G' p;have I5:Inv X pins σ H' s5:=aiE (tk:=s5.toks) I3 rfl hf3 J5 (yg.refl _ _);refine hRR Da _ s5 H' G0 I5 ⟨⟨m5,hn5⟩,J5.free,a0k I3.lt,I3.sz,λy d e z=>?_,λp hp z=>?_⟩ (t1.trans ts) (g'.le l0) q0
   .obtain⟨w,o,ho,_⟩:=I3.cell y d e;rw[z]at ho;exact absurd (gk ho) (qu _)
   .have:=(I3.pin p hp).1;rw[z]at this;exact absurd (gk this) (qu _)
 exact codeAny_compStart_list (loop _ J0 st1) (T.self X.A 0 _ _ _ st1 (loop _ J0 st1))
noncomputable def a1S(dv:D->Option (List D))(ti:TI3)(tc:TT3)(te:dB):dB:=λρ G R=>ti ρ G λsrc G1=>src.items.length<cj/\∀p,G1 p=aq->∃P:Nat->List D->Gp->Prop,P 0 [] (aJ G1 p (.lst [])) /\
 (∀k ds G,k<=src.items.length->P k ds G->src.ok G/\G p=aj (.lst ds)/\ds.length<=k) /\
 (∀k d ds G,src.items[k]?=aj d->P k ds G->∃ys,dv d=aj ys/\tc (ys.map aj++ρ) G λb G2=>if b=ak then te (ys.map aj++ρ) G2 λy G3=>G3 p=aj (.lst ds)/\P (k+1) (ds++[y]) (aJ G3 p (.lst (ds++[y])))else P (k+1) ds G2) /\
 ∀ds G,P src.items.length ds G->∃G0,Le G0 G/\R (.ref p) G0
noncomputable def alG(d:D):Option (List D):=some [d]
noncomputable abbrev a6Z(ti:TI3)(tc:TT3)(te:dB):dB:=a1S alG ti tc te
noncomputable def aCK(n:Nat)(d:D):Option (List D):=match d with
 |.tup ds=>if ds.length=n then aj ds else aq
 |_=>aq
noncomputable abbrev ab0(n:Nat)(ti:TI3)(tc:TT3)(te:dB):dB:=a1S (aCK n) ti tc te
theorem alH(d:D)(ds:List D)(h:alG d=aj ds):ds.length=[x].length:=by
 unfold alG at h;cases h;rfl
set_option tactic.hygienic true in
theorem aiF(h:aCK n d=aj ds):d=.tup ds/\ds.length=n:=by
 unfold aCK at h;split at h
 .split at h
  .rename_i e;cases h;exact⟨rfl,e⟩
  .cases h
 .cases h
theorem aoO(c:sH X xs scope)(hnd:X.N.Nodup):(xs++X.N).Nodup:=List.nodup_append.mpr ⟨c.nd,hnd,λa ha b hb e=>c.out a ha (e ▸ hb)⟩
theorem ax6(c:sH X [x] scope)(hnd:X.N.Nodup):aoM (dN X [x] scope C s H fp pins) (.Name x px) [x] alG σ:=by
 intro oW s' H' v u d ds I r rd e;unfold alG at e;cases e;have pgn:PG (dN X [x] scope C s H fp pins) (.Name x px) (aqF 0):=ahV (aoO c hnd) rfl (.inl (a0h (c.var x (by simp)))) (.inr (a0h (c.var x (by simp))));refine kj (pgn oW s' (nn [x] σ) H' v u (λσ' H2=>σ'=[v].map aj++σ/\H2=H') I r ⟨rfl,rfl⟩) ?_ λ_ _ z=>z;rintro _ s2 ⟨σ2,H2,I2,e2,e3⟩;subst e2;subst e3;exact⟨[v],.cons rd .nil,I2⟩
theorem aqY(c:sH X xs scope)(hT:∀C s H fp pins σ,aoM (dN X xs scope C s H fp pins) tgt xs dv σ)(hdv:∀d ds,dv d=aj ds->ds.length=xs.length)(hi:PI3 X tgt iter ti)(hc:∀C s H fp pins,alD (dN X xs scope C s H fp pins) ifs tc)(he:∀C s H fp pins,dR (dN X xs scope C s H fp pins) elt te)
  (hs:∀y,a0e iter X.env y=pure y):dR X (.ListComp elt [⟨tgt,iter,ifs,0⟩] scope pos) (a1S dv ti tc te):=by
 intro pins s σ H Q I h;obtain⟨ρ,G,R,sr,g,q,kk⟩:=h;rw[eval_ListComp];refine a1p (use:=none) rfl hs (mV λy hy hf=>I.ok.has y.1 (c.frees y hy hf)) c.kind c.locs ?_
 refine eU (hi pins s σ H (λJ H1=>Ts H H1/\∃src G1,HR X.K H1 G1/\a9G X.K H1 src J/\(src.items.length<cj/\∀p,G1 p=aq->∃P:Nat->List D->Gp->Prop,P 0 [] (aJ G1 p (.lst [])) /\
   (∀k ds G,k<=src.items.length->P k ds G->src.ok G/\G p=aj (.lst ds)/\ds.length<=k) /\
   (∀k d ds G,src.items[k]?=aj d->P k ds G->∃ys,dv d=aj ys/\tc (ys.map aj++ρ) G λb G2=>if b=ak then te (ys.map aj++ρ) G2 λy G3=>G3 p=aj (.lst ds)/\P (k+1) (ds++[y]) (aJ G3 p (.lst (ds++[y])))else P (k+1) ds G2) /\
   ∀ds G,P src.items.length ds G->∃G0,Le G0 G/\R (.ref p) G0)) I ⟨ρ,G,_,sr,g,q,λsrc J H' G' t1 g1 sj q1=>⟨t1,src,G',g1,sj,q1⟩⟩) λv s1 h1=>eU h1 λitv s2 hz=>?_
 obtain⟨it,fp,tn,J,H2,e,I2,T,st2,f2,t1,src,G1,g1,sj,hlen,body⟩:=hz;subst e
 exact agV (RR:=λacc C=>compPost (dz X.prog X.w) X.A X.xe aq (EP X pins σ Q) acc C) c hT hdv hc he sr I2 T st2 f2 t1 g1 sj hlen body λDa C s5 H' G0 I5 o ts g0 q0=>by
  obtain⟨m,hn⟩:=o.ns;exact⟨m,hn,λh' hs'=>⟨.ref Da,H',o.turn I5 hs',rfl,kk _ H' _ G0 ts (.ref Da) g0 q0⟩⟩
set_option tactic.hygienic true in
theorem aqZ{i:Nat}(c:sH X xs scope)(hT:∀C s H fp pins σ,aoM (dN X xs scope C s H fp pins) tgt xs dv σ)(hdv:∀d ds,dv d=aj ds->ds.length=xs.length)(hnd:X.N.Nodup)(hy:X.N[i]?=aj y)(hl:Loc X.env.scope y)(hf:X.fn y=ak)(hi:PI3 X tgt iter ti)(hc:∀C s H fp pins,alD (dN X xs scope C s H fp pins) ifs tc)(he:∀C s H fp pins,dR (dN X xs scope C s H fp pins) elt te)
  (hs:∀y,a0e iter X.env y=pure y):PS3 X (.Assign [.Name y py] (.ListComp elt [⟨tgt,iter,ifs,0⟩] scope pos) spos) (bJ i (a1S dv ti tc te)):=by
 have hsw:∃b,a0s (.ListComp elt [⟨tgt,iter,ifs,0⟩] scope pos) (aj (.Name y py)) spos.line X.env=pure b:=⟨_,rfl⟩;obtain⟨b,hsw⟩:=hsw;cases b with
 |false=>exact aG7 hnd hy hl (aqY c hT hdv hi hc he hs) hsw (.inl hf)
 |true =>
  intro pins s σ H F I h;obtain⟨ρ,G,E,sr,g,q,d⟩:=h;rw[exec_Assign_Name_used _ _ _ _ hsw];refine bw (a1J (bw ?_));show dh _ X.A (do let _ ←comprehension (.ListComp elt [⟨tgt,iter,ifs,0⟩] scope pos) scope X.env _ (newList []) ao (eval iter X.env) (aj (assign (.Name y py) X.env))) _ _ s;refine bw (kj (a1p (use:=some (assign (.Name y py) X.env)) (Q:=λ_ s'=>SP X pins F .next s') rfl hs (mV λy hy hf=>I.ok.has y.1 (c.frees y hy hf)) c.kind c.locs ?_) (λ_ s' hq=>gV (gV hq)) λ_ _ e=>e)
  refine eU (hi pins s σ H (λJ H1=>Ts H H1/\∃src G1,HR X.K H1 G1/\a9G X.K H1 src J/\(src.items.length<cj/\∀p,G1 p=aq->∃P:Nat->List D->Gp->Prop,P 0 [] (aJ G1 p (.lst [])) /\
    (∀k ds G,k<=src.items.length->P k ds G->src.ok G/\G p=aj (.lst ds)/\ds.length<=k) /\
    (∀k d ds G,src.items[k]?=aj d->P k ds G->∃ys,dv d=aj ys/\tc (ys.map aj++ρ) G λb G2=>if b=ak then te (ys.map aj++ρ) G2 λy G3=>G3 p=aj (.lst ds)/\P (k+1) (ds++[y]) (aJ G3 p (.lst (ds++[y])))else P (k+1) ds G2) /\
    ∀ds G,P src.items.length ds G->∃G0,Le G0 G/\E.nx (a2E ρ i (.ref p)) G0)) I ⟨ρ,G,_,sr,g,q,λsrc J H' G' t1 g1 sj q1=>⟨t1,src,G',g1,sj,q1⟩⟩) λv s1 h1=>eU h1 λitv s2 hz=>?_
  obtain⟨it,fp,tn,J,H2,e,I2,T,st2,f2,t1,src,G1,g1,sj,hlen,body⟩:=hz;subst e;refine agV (R:=λz G0=>E.nx (a2E ρ i z) G0) (RR:=λacc C=>compPost (dz X.prog X.w) X.A X.xe (aj (assign (.Name y py) X.env)) (λ_ s'=>SP X pins F .next s') acc C) c hT hdv hc he sr I2 T st2 f2 t1 g1 sj hlen body λDa C s5 H' G0 I5 o ts g0 q0=>?_;show dh _ X.A (assign (.Name y py) X.env (.ref Da)) _ _ s5;refine wpAny_assign_Name (agF (v:=.ref Da) I5 hnd hy hl rfl ?_ (.inl hf));rintro s6 I6 ⟨a,hsb,ha⟩;obtain⟨m,hn⟩:=o.ns
  have hCa:C≠a:=by
   rcases ha with rfl|ha
   .exact o.loc
   .exact λz=>o.cells y a ha z.symm
  have o6:ax2 X pins H' C s6.heap:=⟨⟨m,hn.sameBut hsb hCa⟩,o.free,o.loc,o.young,o.cells,o.pins⟩;refine⟨m,hn.sameBut hsb hCa,λh' hs'=>⟨_,H',o6.turn I6 hs',d.nx _ G0 _ H' ((sr.mono ts).set (.ref Da) i) g0 q0⟩⟩
end
end
section
abbrev TG3:=D->aL->(aL->Prop)->Prop
noncomputable def upG(K:Fg)(t:TG3):TG:=λv σ H Q=>∃ρ d R,SR K H ρ σ/\RD K H d v/\t d ρ R/\∀ρ' σ',SR K H ρ' σ'->R ρ'->Q σ' H
abbrev PG3(X:Cx)(tg:jt)(t:TG3):Prop:=PG X tg (upG X.K t)
noncomputable def a70(i:Nat):TG3:=λd ρ Q=>Q (a2E ρ i d)
noncomputable def a85:aL->List Nat->List D->aL
 |ρ,i::is,d::ds=>a85 (a2E ρ i d) is ds
 |ρ,_,_=>ρ
noncomputable def acO(is:List Nat):TG3:=λd ρ Q=>match d with
 |.tup ds=>ds.length=is.length/\Q (a85 ρ is ds)
 |_=>False
noncomputable def agW:St->List Nat->List V->St
 |σ,i::is,v::vs=>agW (σ.set i (aj v)) is vs
 |σ,_,_=>σ
theorem SR.sets{K:Fg}:∀{is:List Nat}{ds:List D}{vs:List V}{ρ:aL}{σ:St},cH K H ds vs->SR K H ρ σ->SR K H (a85 ρ is ds) (agW σ is vs)
 |[],_,_,_,_,_,s=>s
 |_::_,_,_,_,_,.nil,s=>s
 |i::is,_,_,_,_,.cons h r,s=>SR.sets (is:=is) r (s.set h i)
variable{k:Nat}
section
variable{X:Cx}
theorem PG.imp(h:PG X e t)(k:∀v σ H Q,t' v σ H Q->t v σ H Q):PG X e t':=λpins s σ H v u Q I r q=>h pins s σ H v u Q I r (k _ _ _ _ q)
theorem aJI{i:Nat}{x:Str}(hN:X.N.Nodup)(hi:X.N[i]?=aj x)(hx:Loc X.env.scope x)(hf:X.fn x=ak∨X.env.scope.names.lookup x=aj .local):PG3 X (.Name x pos) (a70 i) :=
 PG.imp (ahV hN hi hx hf) λv σ H Q h=>by
 obtain⟨ρ,d,R,s,r,q,k⟩:=h;exact k _ _ (s.set r i) q
structure aCL(X:Cx)(e:jt)(i:Nat):Prop where
 ex:∃x pos,e=.Name x pos/\X.N[i]?=aj x/\Loc X.env.scope x/\(X.fn x=ak∨X.env.scope.names.lookup x=aj .local)
noncomputable def aJJ:List Nat->TGs
 |[]=>aPP
 |i::is=>aFZ (aqF i) (aJJ is)
theorem aiG:∀{is:List Nat}{vs:List V}{σ:St}{H:Hp}{Q:St->Hp->Prop},vs.length=is.length->Q (agW σ is vs) H->aJJ is vs σ H Q
 |[],[],_,_,_,_,q=>⟨rfl,q⟩
 |[],_::_,_,_,_,h,_=>by simp at h
 |_::_,[],_,_,_,h,_=>by simp at h
 |i::is,v::vs,σ,H,Q,h,q=>⟨v,vs,rfl,aiG (is:=is) (by simpa using h) q⟩
theorem a71(hN:X.N.Nodup):∀{es:List jt}{is:List Nat},Two (aCL X) es is->PGs X es (aJJ is)/\(zu es X.env).length=is.length/\(zu es X.env).findIdx? (·.1)=aq
 |_,_,.nil=>⟨aBK,rfl,rfl⟩
 |_,_,.cons (a:=e) (b:=i) h r=>by
  obtain⟨x,pos,rfl,h1,h2,h3⟩:=h.ex;obtain⟨a1,a2,a3⟩:=a71 hN r;refine⟨avY (ahV hN h1 h2 h3) a1 rfl,?_,?_⟩
  .show(zu _ X.env).length+1=_;rw[a2];rfl
  .show((ao,assign (.Name x pos) X.env)::zu _ X.env).findIdx? (·.1)=aq;rw[List.findIdx?_cons];simp[a3]
theorem aGB(hN:X.N.Nodup)(hc:X.calm=ak)(h:Two (aCL X) es is):PG3 X (.Tuple es k pos) (acO is):=by
 obtain⟨a1,a2,a3⟩:=a71 hN h;refine PG.imp (avZ hc a1 a2 a3) λv σ H Q h=>?_;obtain⟨ρ,d,R,s,r,q,k⟩:=h;cases r with
 |@tup a vs ds hq rv =>
  have q':ds.length=is.length/\R (a85 ρ is ds):=q;exact⟨a,vs,rfl,hq,by rw[←rv.length];exact q'.1,aiG (by rw[←rv.length];exact q'.1) (k _ _ (SR.sets rv s) q'.2)⟩
 |_=>exact False.elim q
theorem agX:∀(xs:List Str)(vs done:List V)(σ:St),vs.length=xs.length->agW (done.map aj++nn xs σ) (List.range' done.length xs.length) vs=(done++vs).map aj++σ
 |[],[],done,σ,_=>by simp[agW,nn]
 |[],_::_,_,_,h=>by simp at h
 |_::_,[],_,_,h=>by simp at h
 |x::xs,v::vs,done,σ,h=>by
  have ih:=agX xs vs (done++[v]) σ (by simpa using h)
  have e1:(done.map aj++nn (x::xs) σ).set done.length (aj v)=(done++[v]).map aj++nn xs σ:=by
   simp[nn,List.set_append]
  show agW ((done.map aj++nn (x::xs) σ).set done.length (aj v)) (List.range' (done.length+1) xs.length) vs=_;rw[e1];have e2:(done++[v]).length=done.length+1:=by simp
  rw[e2]at ih;rw[ih];simp
theorem ax7{xs:List Str}(c:sH X xs scope)(hnd:X.N.Nodup)(hc:X.calm=ak)(hes:Two (λe x=>∃p,e=jt.Name x p) es xs):aoM (dN X xs scope C s H fp pins) (.Tuple es k pos) xs (aCK xs.length) σ:=by
 intro oW s' H' v u d ds I r rd e;obtain⟨rfl,hl⟩:=aiF e
 have nms:∀(es':List jt)(ys done:List Str),Two (λe x=>∃p,e=jt.Name x p) es' ys->xs=done++ys->Two (aCL (dN X xs scope C s H fp pins)) es' (List.range' done.length ys.length):=by
  intro es' ys
  induction ys generalizing es' with
  |nil=>intro done t _;cases t;exact .nil
  |cons y ys ih =>
   intro done t e;cases t with
   |cons h t =>
    obtain⟨p,rfl⟩:=h;have z:=ih _ (done++[y]) t (by simp[e]);have e2:(done++[y]).length=done.length+1:=by simp
    rw[e2]at z;refine .cons ⟨y,p,rfl,?_,.inl (a0h (c.var y (by simp[e]))),.inr (a0h (c.var y (by simp[e])))⟩ z;show(xs++X.N)[done.length]?=aj y;rw[e];simp
 obtain⟨a1,a2,a3⟩:=a71 (X:=dN X xs scope C s H fp pins) (aoO c hnd) (nms es xs [] hes rfl);cases rd with
 |@tup a vs _ hq rv =>
  have lv:vs.length=xs.length:=by rw[←rv.length];exact hl
  have pgt:=avZ (X:=dN X xs scope C s H fp pins) (k:=k) (pos:=pos) (show(dN X xs scope C s H fp pins).calm=ak from hc) a1 a2 a3;refine kj (pgt oW s' (nn xs σ) H' (.ref a) u (λσ' H2=>σ'=vs.map aj++σ/\H2=H') I r ⟨a,vs,rfl,hq,by simpa using lv,aiG (by simpa using lv) ⟨?_,rfl⟩⟩) (λ_ s2 ⟨σ2,H2,I2,e2,e3⟩=>?_) λ_ _ z=>z
  .have:=agX xs vs [] σ lv;simpa using this
  .subst e2;subst e3;exact⟨vs,rv,I2⟩
def alI(K:Fg)(src:Src)(J:It):Prop:=∀H2 G2,HR K H2 G2->src.ok G2 ->
 (∀i,i<src.items.length->J.go i H2)/\(∀i v H',i<src.items.length->J.yld i H2 v H'->Same H2 H'/\∃d,src.items[i]?=aj d/\RD K H' d v)/\J.stop src.items.length H2
noncomputable def aX2(K:Fg)(t:TI3):TI:=λσ H Q=>∃ρ G R,SR K H ρ σ/\HR K H G/\t ρ G R/\∀src J H' G',Ts H H'->HR K H' G'->alI K src J->R src G'->Q J H'
abbrev PIS(X:Cx)(tg iter:jt)(t:TI3):Prop:=PI X tg iter (aX2 X.K t)
noncomputable def aCM(te:dB):TI3:=λρ G R=>te ρ G λx G1=>match x with
 |.ref p=>(match bQ G1 p with
  |some xs=>R (.lst p xs) G1
  |none=>False)
 |.str z=>R (.imm (signs z)) G1
 |.tup xs=>xs.all scD=ak/\∀a,(G1 a=aq∨G1 a=aj (.tpl xs))->R (.tpl a xs) (aJ G1 a (.tpl xs))
 |_=>False
theorem aRL{K:Fg}(h:scD d=ak)(r:RD K H d v)(r':RD K H d' v):d'=d:=by
 cases r with
 |non=>cases r';rfl
 |bl b=>cases r';rfl
 |int i=>cases r';rfl
 |str x=>cases r';rfl
 |_=>exact Bool.noConfusion (show ao=ak from h)
theorem ax8{K:Fg}:∀{ds ds':List D}{vs:List V},ds.all scD=ak->cH K H ds vs->cH K H ds' vs->ds'=ds
 |_,_,_,_,.nil,.nil=>rfl
 |d::ds,d'::ds',_,h,.cons r rr,.cons r' rr'=>by
  rw[yj,bh]at h;rw[aRL h.1 r r',ax8 h.2 rr rr']
theorem ax9(I:Inv X pins σ H s)(g:HR X.K H G)(hq:zL X.K H a xs)(e:G a=aj o):∃ds,o=.tpl ds/\cH X.K H ds xs:=by
 have no:∀u,H a=aj u->(∀ys,u≠.tup ys)->(∀ob ys,u≠.frz ob (.tup ys))->False:=λu hu h1 h2=>by
  rcases hq with(q|⟨ob,q⟩)|⟨ob,_,_,q,_⟩
  .rw[hu]at q;exact h1 _ (mz.inj q)
  .rw[hu]at q;exact h2 _ _ (mz.inj q)
  .have:=yC I a ob q;rw[hu]at this;cases this
 have z:=g a o e;cases o with
 |lst ds=>obtain⟨_,q,_⟩:=z;exact(no _ q (λ_ w=>nomatch w) (λ_ _ w=>nomatch w)).elim
 |rol ds =>
  obtain⟨_,q,_⟩:=z;obtain⟨_,_,⟨o1,n1,e1,c1,_⟩,_⟩:=I.list q;obtain⟨_,_,⟨o2,e2,c2,_⟩,_⟩:=I.tuple hq;rw[e1]at e2;cases e2;rw[c1]at c2;exact absurd c2 (by decide)
 |dic t kvs=>rcases z with⟨_,_,q,_⟩|⟨_,_,q,_⟩<;>exact(no _ q (λ_ w=>nomatch w) (λ_ _ w=>nomatch w)).elim
 |ins C fs=>obtain⟨_,_,q,_⟩:=z;exact(no _ q (λ_ w=>nomatch w) (λ_ _ w=>nomatch w)).elim
 |exn C=>obtain⟨_,_,q,_⟩:=z;exact(no _ q (λ_ w=>nomatch w) (λ_ _ w=>nomatch w)).elim
 |rdc ob t kvs=>rcases z with⟨_,_,q,_⟩|⟨_,_,q,_⟩<;>exact(no _ q (λ_ w=>nomatch w) (λ_ _ w=>nomatch w)).elim
 |tpl ds=>obtain⟨ys,q,r⟩:=z;exact⟨ds,rfl,by rw[←I.a1Q q hq];exact r⟩
 |kst ks=>obtain⟨_,_,_,q,_⟩:=z;exact(no _ q (λ_ w=>nomatch w) (λ_ _ w=>nomatch w)).elim
theorem ar0(I:Inv X pins σ H s)(g:HR X.K H G)(hq:zL X.K H a xs)(rv:cH X.K H ds xs)(sc:ds.all scD=ak) :
  (G a=aq∨G a=aj (.tpl ds))/\HR X.K H (aJ G a (.tpl ds)):=by
 refine⟨?_,λb o e=>?_⟩
 .cases e:G a with
  |none=>exact .inl rfl
  |some o=>obtain⟨ds',rfl,r⟩:=ax9 I g hq e;exact .inr (by rw[ax8 sc rv r])
 .by_cases hb:b=a
  .subst hb;rw[aF]at e;cases e;exact⟨xs,hq,rv⟩
  .rw[jD hb]at e;exact g b o e
theorem axA{K:Fg}:alI K (.tpl p xs) (Itt K p):=λH2 G2 g ok=>by
 obtain⟨vs,hq,rv⟩:=g p _ ok;exact alB hq rv H2 G2 (.refl _) g trivial
theorem atY{K:Fg}:alI K (.lst p xs) (Itl K p):=λH2 G2 g ok=>agU (H1:=H2) H2 G2 (.refl _) g ok
theorem alJ{K:Fg}:alI K (.imm (signs z)) (Its z):=λH2 G2 g ok=>acL (H1:=H2) H2 G2 (.refl _) g ok
theorem axB{K:Fg}:alI K (.imm ((kh n).map λ(i:Nat)=>.int (lo+(i:Int)))) (Itr lo n):=λH2 G2 g ok=>alC (H1:=H2) H2 G2 (.refl _) g ok
set_option tactic.hygienic true in
theorem aJL(hl:dR X l te):PIS X tg l (aCM te):=by
 intro pins s σ H R I h;obtain⟨ρ,G,R3,sr,g,q,k⟩:=h
 refine eU (hl pins s σ H (λv H1=>Ts H H1/\∃x G1,RD X.K H1 x v/\HR X.K H1 G1/\(match x with
  |.ref p=>(match bQ G1 p with
   |some xs=>R3 (.lst p xs) G1
   |none=>False)
  |.str z=>R3 (.imm (signs z)) G1
  |.tup xs=>xs.all scD=ak/\∀a,(G1 a=aq∨G1 a=aj (.tpl xs))->R3 (.tpl a xs) (aJ G1 a (.tpl xs))
  |_=>False)) I ⟨ρ,G,_,sr,g,q,λv H1 x G1 t1 r g1 q1=>⟨t1,x,G1,r,g1,q1⟩⟩) λv s1 ⟨x,H1,I1,r1,t1,d,G1,rd,g1,q1⟩=>?_
 cases rd with
 |ref a =>
  have q1':(match bQ G1 a with
   |some xs=>R3 (.lst a xs) G1
   |none=>False):=q1
  split at q1'
  .rename_i xs e;cases r1;obtain⟨vs,hq,rv⟩:=cB g1 e;obtain⟨its,rv',p,hz⟩:=I1.list hq;refine a1s p.isList ?_;refine⟨s1.heap.objs.size,[s1.heap.objs.size],_,_,H1,rfl,I1.kept (t':=s1.toks) λb o e=>dj _ e,agG a _,⟨_,jd _ rfl,rfl,rfl⟩,λb hb=>?_,k _ _ H1 G1 t1 g1 atY q1'⟩;have e:b=s1.heap.objs.size:=by simpa using hb
   subst e;exact I1.ac3 (gw _) (I1.hok.fresh (gw _))
  .exact q1'.elim
 |str z =>
  obtain⟨t,rfl⟩:=r1;cases ha:z.cps.all (· <128)
  .refine wpAny_pyIter_wide ha ?_;refine⟨s1.heap.objs.size,[s1.heap.objs.size],_,_,H1,rfl,I1.kept (t':=s1.toks) λb o e=>dj _ e,agT _ z t,?_,λb hb=>?_,k _ _ H1 G1 t1 g1 alJ q1⟩
   .rw[Nat.zero_min];exact⟨_,jd _ rfl,rfl,rfl⟩
   .have e:b=s1.heap.objs.size:=by simpa using hb
    subst e;exact I1.ac3 (gw _) (I1.hok.fresh (gw _))
  .refine wpAny_pyIter_ascii ha ?_;refine⟨s1.heap.objs.size,[s1.heap.objs.size],_,_,H1,rfl,I1.kept (t':=s1.toks) λb o e=>dj _ e,agS _ z t,?_,λb hb=>?_,k _ _ H1 G1 t1 g1 alJ q1⟩
   .rw[Nat.zero_min];exact⟨_,jd _ rfl,rfl,rfl⟩
   .have e:b=s1.heap.objs.size:=by simpa using hb
    subst e;exact I1.ac3 (gw _) (I1.hok.fresh (gw _))
 |@tup a vs xs hq rv =>
  cases r1;obtain⟨its,rv',p,hz⟩:=I1.tuple hq;obtain⟨sc,q1⟩:=q1;obtain⟨hG,g2⟩:=ar0 I1 g1 hq rv sc;refine wpAny_pyIter_tuple (show s1.heap.IsTuple a its.toArray from p) ?_;refine⟨s1.heap.objs.size,[s1.heap.objs.size],_,_,H1,rfl,I1.kept (t':=s1.toks) λb o e=>dj _ e,ac4 a _,⟨_,jd _ rfl,rfl,rfl⟩,λb hb=>?_,k _ _ H1 _ t1 g2 axA (q1 a hG)⟩;have e:b=s1.heap.objs.size:=by simpa using hb
  subst e;exact I1.ac3 (gw _) (I1.hok.fresh (gw _))
 |_=>exact q1.elim
theorem aCN(hg:Gl X "range")(hm:X.mg "range"=aq)(ha:PA3 X [a] ta)(hs:jm [a] X.env=[(ao,eval a X.env)]):PIS X tg (.Call (.Name "range" p) [a] [] pos) (wY ta) :=
 PI.imp (agH hg hm ha hs) λσ H Q h=>by
 obtain⟨ρ,G,R,s,g,q,k⟩:=h;refine⟨ρ,G,_,s,g,q,λvs H1 ds G1 t1 r g1 h1=>?_⟩;cases r with
 |nil=>exact h1.elim
 |cons r rr =>
  cases rr with
  |cons _ _=>cases r<;>exact False.elim h1
  |nil =>
   cases r with
   |int j =>
    obtain⟨l1,l2,h1⟩:=h1;refine⟨j,rfl,l1,l2,k _ _ H1 G1 t1 g1 ?_ h1⟩;unfold oX;rw[show(j - 0).toNat=j.toNat by omega];exact axB
   |_=>exact False.elim h1
noncomputable def a3V(ti:TI3)(tg:TG3)(tb:aZ):aZ:=λF ρ G=>ti ρ G λsrc G1=>∃P:Nat->aL->Gp->Prop,P 0 ρ G1/\(∀k ρ G,k<=src.items.length->P k ρ G->src.ok G) /\
 (∀k d ρ G,src.items[k]?=aj d->P k ρ G->tg d ρ λρ2=>tb {F with nx:=P (k+1),ct:=P (k+1),bk:=F.nx} ρ2 G)/\∀ρ G,P src.items.length ρ G->F.nx ρ G
theorem aJM{ti:TI3}{tg:TG3}(hp:PassesOwn (dz X.prog X.w) X.A X.env X.xe)(hi:PIS X tgt iter ti)(hg:PG3 X tgt tg)(hb:a4Y X body tb)
  (hs:∀x,a0e iter X.env x=pure x):PS3 X (.For tgt iter body [] pos) (a3V ti tg tb):=PS.imp (aHM hp hi hg hb hs) λF σ H h=>by
 obtain⟨ρ,G,E,s,g,q,d⟩:=h
 refine⟨ρ,G,λsrc G1=>∃P:Nat->aL->Gp->Prop,P 0 ρ G1/\(∀k ρ G,k<=src.items.length->P k ρ G->src.ok G) /\
  (∀k d ρ G,src.items[k]?=aj d->P k ρ G->tg d ρ λρ2=>tb {E with nx:=P (k+1),ct:=P (k+1),bk:=E.nx} ρ2 G)/\∀ρ G,P src.items.length ρ G->E.nx ρ G,s,g,q,λsrc J H1 G1 t1 g1 sj ⟨P,p0,pok,pst,pend⟩=>?_⟩
 refine awP (K:=X.K) (n:=src.items.length) (λk σ2 H2=>∃ρ' G',SR X.K H2 ρ' σ2/\HR X.K H2 G'/\P k ρ' G') ⟨ρ,G1,s.mono t1,g1,p0⟩ (λσ2 H2 ⟨ρ',G',s2,g2,p⟩=>?_) (λk σ2 H2 hk ⟨ρ',G',s2,g2,p⟩=>?_) (λk y σ2 H2 H3 hk ⟨ρ',G',s2,g2,p⟩ hy=>?_)
  (λσ2 H2 ⟨ρ',G',s2,g2,p⟩=>d.nx ρ' G' σ2 H2 s2 g2 (pend ρ' G' p))
 .exact(sj H2 G' g2 (pok _ ρ' G' (gw _) p)).2.2
 .exact(sj H2 G' g2 (pok _ ρ' G' (a0z hk) p)).1 k hk
 .obtain⟨sm,dk,e1,e2⟩:=(sj H2 G' g2 (pok _ ρ' G' (a0z hk) p)).2.1 k y H3 hk hy;refine⟨ρ',dk,_,s2.mono (.same sm),e2,pst k dk ρ' G' e1 p,λρ2 σ3 s3 q3=>?_⟩;exact⟨ρ2,G',_,s3,g2.same sm,q3,⟨λρ4 G4 σ4 H4 s4 g4 q4=>⟨ρ4,G4,s4,g4,q4⟩,d.rt,d.nx,λρ4 G4 σ4 H4 s4 g4 q4=>⟨ρ4,G4,s4,g4,q4⟩⟩⟩
end
end
section
noncomputable def atZ:D->Bool
 |.bl _=>ak
 |_=>ao
noncomputable def au0:D->Bool
 |.bl b=>b
 |_=>ao
noncomputable def agY:List D->Gp->iG->Prop:=λxs G R=>match xs with
 |[.ref q]=>(match bQ G q with
  |some ds=>ds.all atZ=ak/\R (.bl (ds.all au0)) G
  |none=>False)
 |_=>False
noncomputable def trN(ds:List D)(i:Nat):Bool:=match ds[i]? with
 |some d=>au0 d
 |none=>ao
theorem range_all(ds:List D):(kh ds.length).all (trN ds)=ds.all au0:=by
 rw[Bool.eq_iff_iff,iu,iu];constructor
 .intro h d hd;obtain⟨i,hi⟩:=List.getElem?_of_mem hd;have:=h i (zf.mpr (jf.mp hi).1);simpa[trN,hi]using this
 .intro h i hi;have hi':=zf.mp hi;unfold trN;rw[gq hi'];exact h _ (List.getElem_mem hi')
section
variable{X:Cx}
theorem au1{K:Fg}(r:cH K H ds vs)(v:Vals vs us)(hb:ds.all atZ=ak){i:Nat}(e:us[i]?=aj u):u=.bool (trN ds i):=by
 obtain⟨d,x,h1,h2,h3⟩:=Vals.awV r v e;have hd:atZ d=ak:=iu.mp hb d (uc h1);unfold trN;rw[h1];cases h2 with
 |bl b=>exact h3
 |_=>cases hd
set_option tactic.hygienic true in
theorem aRM(hc:X.calm=ak):dG X (.builtin "all") agY:=by
 intro pins s σ H xs vs us G R Q I rx rv g q k;cases rx with
 |nil=>exact False.elim q
 |cons r1 rr =>
  cases rr with
  |cons _ _=>cases r1<;>exact False.elim q
  |nil =>
   cases r1 with
   |ref a =>
    obtain⟨u,rfl,ru⟩:=vals1 rv;cases ru
    have q':(match bQ G a with
     |some ds=>ds.all atZ=ak/\R (.bl (ds.all au0)) G
     |none=>False):=q
    split at q'
    .rename_i ds e1;obtain⟨ys,hq,r1⟩:=cB g e1;obtain⟨its,rv',p,hz⟩:=I.list hq;refine call_all_walk (a1s p.isList ?_);have ha:a<s.heap.objs.size:=by obtain⟨o,n,e,_⟩:=p;exact gk e
     have fresh:∀b o,s.heap.get? b=aj o->b∉[s.heap.objs.size]:=λb o e z=>by
      have z':b=s.heap.objs.size:=by simpa using z
      exact absurd (gk e) (by rw[z'];exact qu _)
     have hh:X.A.in1.handled=aq:=I.ok.hd hc;refine⟨s.heap.objs.size,_,_,_,_,_,trN ds,rfl,Walks.list (prog:=X.prog) (w:=X.w) hh _ a (mq ha) its.toArray,⟨⟨_,jd _ rfl,rfl,rfl⟩,p.isList.at λo e=>dj _ e⟩,?_,λh' tk kk=>?_⟩
     .intro i v s' Q' E' hv hQ';have:=au1 r1 rv' q'.1 (i:=i) (u:=v) (by simpa using hv);subst this;exact xg hQ'
     .have el:its.toArray.size=ds.length:=by rw[fj,←rv'.length,←r1.length]
      rw[el,range_all];exact⟨.bl _,H,I.kept λb o e=>kk b o (fresh b o e) (dj _ e),rfl,k _ H _ G (.refl H) (.bl _) g q'.2⟩
    .exact q'.elim
   |_=>exact False.elim q
def on2(xs:List D)(f:Int->Int->Prop):Prop:=match xs with
 |[.int i,.int j]=>f i j
 |_=>False
noncomputable def aGC:List D->Gp->iG->Prop:=λxs G R=>on2 xs λi j=>R (.int (if j<i then j else i)) G
noncomputable def aGD:List D->Gp->iG->Prop:=λxs G R=>on2 xs λi j=>R (.int (if i<j then j else i)) G
set_option tactic.hygienic true in
theorem alK{K:Fg}(r:cH K H xs vs){f:Int->Int->Prop}(h:on2 xs f):∃i j,xs=[.int i,.int j]/\vs=[.int i,.int j]/\f i j:=by
 unfold on2 at h;split at h
 .rename_i i j;cases r with
  |cons r1 r =>
  cases r with
  |cons r2 r =>
  cases r;cases r1;cases r2;exact⟨i,j,rfl,rfl,h⟩
 .exact h.elim
theorem aRN(hc:X.calm=ak):dG X (.builtin "min") aGC:=dG.of (at8 hc) λH xs vs G R Q rx g q k=>by
 obtain⟨i,j,rfl,rfl,q'⟩:=alK (f:=λi j=>R (.int (if j<i then j else i)) G) rx q;exact⟨i,j,rfl,λ_=>k _ H _ G (.refl H) (.int _) g q'⟩
theorem aRO(hc:X.calm=ak):dG X (.builtin "max") aGD:=dG.of (at7 hc) λH xs vs G R Q rx g q k=>by
 obtain⟨i,j,rfl,rfl,q'⟩:=alK (f:=λi j=>R (.int (if i<j then j else i)) G) rx q;exact⟨i,j,rfl,λ_=>k _ H _ G (.refl H) (.int _) g q'⟩
noncomputable def a86:List D->Option (List Str)
 |[]=>aj []
 |.str z::r=>(a86 r).map (z:: ·)
 |_=>aq
noncomputable def jK:RM3:=λx xs G R=>match x,xs with
 |.str z,[.ref q]=>(match (bQ G q).bind a86 with
  |some ys=>(ys.map (·.length)).sum+ys.length*z.length<=16777216/\R (.str (Txt.join z ys)) G
  |none=>False)
 |_,_=>False
theorem alL{K:Fg}:∀{ds:List D}{vs:List V}{us:List au}{ys:List Str},cH K H ds vs->Vals vs us->a86 ds=aj ys->StrsAre us ys
 |[],_,_,_,.nil,.nil,e=>by cases e;exact .nil
 |.str z::r,_,_,ys,.cons (.str _) rr,.cons hu hr,e=>by
  unfold a86 at e;cases q:a86 r with
  |none=>rw[q]at e;cases e
  |some zs =>
   rw[q]at e;cases e;obtain⟨t,rfl⟩:=hu;exact .cons z t (alL rr hr q)
 |.non::_,_,_,_,_,_,e=>by cases e
 |.bl _::_,_,_,_,_,_,e=>by cases e
 |.int _::_,_,_,_,_,_,e=>by cases e
 |.tup _::_,_,_,_,_,_,e=>by cases e
 |.ref _::_,_,_,_,_,_,e=>by cases e
 |.ty _::_,_,_,_,_,_,e=>by cases e
set_option tactic.hygienic true in
theorem axC:a9F X "str.join" jK:=λpins s σ H x xs vx vs u us G R Q I rx rs ru rv g q k=>by
 cases rx with
 |str z =>
  cases rs with
  |nil=>exact False.elim q
  |cons r rr =>
   cases rr with
   |cons _ _=>cases r<;>exact False.elim q
   |nil =>
    cases r with
    |ref a =>
     obtain⟨t,rfl⟩:=ru;obtain⟨u2,rfl,ru2⟩:=vals1 rv;cases ru2
     have q':(match (bQ G a).bind a86 with
      |some ys=>(ys.map (·.length)).sum+ys.length*z.length<=16777216/\R (.str (Txt.join z ys)) G
      |none=>False):=q
     split at q'
     .rename_i ys e1;obtain⟨ds,e2,e3⟩:=Option.bind_eq_some_iff.mp e1;obtain⟨ws,hq,r1⟩:=cB g e2;obtain⟨its,rv',p,hz⟩:=I.list hq;exact join_list p.isList (alL r1 rv' e3) q'.1 λt' kk=>⟨.str _,H,I.tok kk,⟨t',rfl⟩,k _ H _ G (.refl H) (.str _) g q'.2⟩
     .exact q'.elim
    |_=>exact False.elim q
 |_ =>
  cases rs with
  |nil=>exact False.elim q
  |cons r rr=>cases rr<;>cases r<;>exact False.elim q
end
end
variable{zs:List (Int×Tok)}{ns:List Int}
section
section
variable{X:Cx}{pos:Pos}
noncomputable def aiH(is:List Nat)(te:dB):aZ:=λF ρ G=>te ρ G λd G1=>acO is d ρ λρ2=>F.nx ρ2 G1
theorem aJN{k:Nat}{tp:Pos}(hg:PG3 X (.Tuple es k tp) (acO is))(he:dR X e te)(hs:swapsWithSole [.Tuple es k tp] e pos.line X.env=pure ao)(hw:swappedStores [.Tuple es k tp] e X.env=pure aq)
  (h1:(zu [.Tuple es k tp] X.env).map (·.2)=[assign (.Tuple es k tp) X.env]):PS3 X (.Assign [.Tuple es k tp] e pos) (aiH is te):=PS.imp (aw0 he hg hs hw h1) λF σ H h=>by
 obtain⟨ρ,G,E,s,g,q,d⟩:=h;exact⟨ρ,G,_,s,g,q,λv H' x G' t1 r g1 h=>⟨ρ,x,_,s.mono t1,r,h,λρ' σ' s' q'=>d.nx ρ' G' σ' H' s' g1 q'⟩⟩
end
theorem ints_of{K:Fg}:∀{ns:List Int}{vs:List V}{us:List au},cH K H (ns.map D.int) vs->Vals vs us->∃ys:List (Int×Tok),us=ys.map (λp=>au.int p.1 p.2)/\ys.map (·.1)=ns
 |[],_,_,r,v=>by cases r;cases v;exact⟨[],rfl,rfl⟩
 |n::ns,_,_,r,v=>by
  cases r with
  |cons h r =>
   cases h with
   |int i =>
    cases v with
    |cons hu v =>
     obtain⟨t,rfl⟩:=hu;obtain⟨ys,e1,e2⟩:=ints_of r v;exact⟨(n,t)::ys,by rw[e1];rfl,by rw[jj,e2]⟩
def aJO(xs:List D)(G:Gp)(P:List D->Prop)(O:Prop):Prop:=match xs with
 |[.ref q]=>(match bQ G q with
  |some ds=>P ds
  |none=>False)
 |_=>O
variable{s:cg}
section
variable{X:Cx}
set_option tactic.hygienic true in
theorem aRP{P:List D->Prop}(I:Inv X pins σ H s)(rx:cH X.K H xs vs)(rv:Vals vs us)(g:HR X.K H G)
  (h:aJO xs G P O):(∃a ds ys its,us=[.ref a]/\cH X.K H ds ys/\Vals ys its/\s.heap.IsList a its.toArray/\P ds)∨O:=by
 cases rx with
 |nil=>exact .inr h
 |cons r1 rr =>
  cases rr with
  |cons _ _=>cases r1<;>exact .inr h
  |nil =>
   cases r1 with
   |ref a =>
    obtain⟨u,rfl,ru⟩:=vals1 rv;cases ru
    have q':(match bQ G a with
     |some ds=>P ds
     |none=>False):=h
    split at q'
    .rename_i ds e1;obtain⟨ys,hq,r1⟩:=cB g e1;obtain⟨its,rv',p,hz⟩:=I.list hq;exact .inl ⟨a,ds,ys,its,rfl,r1,rv',p.isList,q'⟩
    .exact q'.elim
   |_=>exact .inr h
theorem int_list(p:s.heap.IsList a (zs.map λp=>au.int p.1 p.2).toArray):s.heap.IsList a (intItems zs.toArray):=by
 have:intItems zs.toArray=(zs.map λp=>au.int p.1 p.2).toArray:=by simp[intItems]
 rw[this];exact p
noncomputable def a72:List D->Gp->iG->Prop:=λxs G R=>aJO xs G (λds=>∃ns:List Int,ds=ns.map D.int/\ns≠[]/\∀M,M∈ns->(∀a∈ns,a<=M)->R (.int M) G) (aGD xs G R)
noncomputable def aiI:List D->Gp->iG->Prop:=λxs G R=>aJO xs G (λds=>∃ns:List Int,ds=ns.map D.int/\ns≠[]/\∀M,M∈ns->(∀a∈ns,M<=a)->R (.int M) G) (aGC xs G R)
theorem axD(e2:zs.map (·.1)=ns)(h:j<zs.toArray.size):numAt zs.toArray j∈ns:=by
 rw[numAt_eq,←e2];exact getD_mem (by simpa using h)
theorem axE(e2:zs.map (·.1)=ns){a:Int}(h:a∈ns):∃j,j<zs.toArray.size/\numAt zs.toArray j=a:=by
 rw[←e2]at h;obtain⟨j,hj,rfl⟩:=mem_getD h;exact⟨j,by simpa using hj,by rw[numAt_eq]⟩
theorem aJP(hc:X.calm=ak):dG X (.builtin "max") a72:=by
 intro pins s σ H xs vs us G R Q I rx rv g q k;rcases aRP I rx rv g q with⟨a,ds,ys,its,rfl,r1,rv',p,ns,rfl,hne,q'⟩|z
 .obtain⟨zs,rfl,e2⟩:=ints_of r1 rv'
  have hsz:0<zs.toArray.size:=by
   cases zs with
   |nil=>exact absurd e2.symm hne
   |cons _ _=>simp
  refine max_intList (I.ok.hd hc) (int_list p) hsz λv h' tk hv kk=>?_;obtain⟨t,rfl⟩:=intItems_at hv;obtain⟨h1,h2⟩:=argBest_gt (numAt zs.toArray) (zs.toArray.size - 1);refine⟨.int _,H,I.kept kk,⟨t,rfl⟩,k _ H _ G (.refl H) (.int _) g (q' _ (axD e2 (by omega)) λa ha=>?_)⟩;obtain⟨j,hj,rfl⟩:=axE e2 ha;exact h2 j (by omega)
 .exact aRO hc pins s σ H _ vs us G R Q I rx rv g z k
theorem aJQ(hc:X.calm=ak):dG X (.builtin "min") aiI:=by
 intro pins s σ H xs vs us G R Q I rx rv g q k;rcases aRP I rx rv g q with⟨a,ds,ys,its,rfl,r1,rv',p,ns,rfl,hne,q'⟩|z
 .obtain⟨zs,rfl,e2⟩:=ints_of r1 rv'
  have hsz:0<zs.toArray.size:=by
   cases zs with
   |nil=>exact absurd e2.symm hne
   |cons _ _=>simp
  refine min_intList (I.ok.hd hc) (int_list p) hsz λv h' tk hv kk=>?_;obtain⟨t,rfl⟩:=intItems_at hv;obtain⟨h1,h2⟩:=argBest_lt (numAt zs.toArray) (zs.toArray.size - 1);refine⟨.int _,H,I.kept kk,⟨t,rfl⟩,k _ H _ G (.refl H) (.int _) g (q' _ (axD e2 (by omega)) λa ha=>?_)⟩;obtain⟨j,hj,rfl⟩:=axE e2 ha;exact h2 j (by omega)
 .exact aRN hc pins s σ H _ vs us G R Q I rx rv g z k
end
end
variable{x:D}
section
noncomputable def ok2(G:Gp)(x y:D):Bool:=match x,y with
 |.ref p,.ref q=>(match bQ G p,bQ G q with
  |some xs,aj ys=>xs.all (bW 17)&&ys.all (bW 17)
  |_,_=>ao)
 |x,y=>bW 18 x&&bW 18 y
section
def ar3(x:D)(G:Gp)(f:bx->List D->Prop):Prop:=match x with
 |.ref p=>(match G p with
  |some (.lst ds)=>f p ds
  |_=>False)
 |_=>False
set_option tactic.hygienic true in
theorem axF{K:Fg}{f:bx->List D->Prop}(rx:RD K H x vx)(g:HR K H G)(h:ar3 x G f):∃p ds xs,x=.ref p/\vx=.ref p/\G p=aj (.lst ds)/\H p=aj (.lst xs)/\cH K H ds xs/\f p ds:=by
 unfold ar3 at h;split at h
 .rename_i p;split at h
  .rename_i ds e;cases rx;obtain⟨xs,e1,r⟩:=g p _ e;exact⟨p,ds,xs,rfl,rfl,e,e1,r,h⟩
  .exact h.elim
 .exact h.elim
end
end
variable{G:Gp}
section
variable{s:cg}
section
variable{X:Cx}{C:bx}{bmB bmN:List au}{B Bn newId nid initId inN:String}{x:Str}{t:wL}
noncomputable def axG(C:bx)(t:wL):dB:=λρ G R=>t ρ G λds G1=>ds.length<=cj/\∀x,G1 x=aq->R (.ref x) (aJ G1 x (.exn C))
theorem axH{x:bx}(I:Inv X pins σ H s)(hm:a2j s.heap h' x (.ref C) us) :
  ∃o vs,H x=aq/\Inv X pins σ (upd H x (.frz o (.ext (sE C x)))) {s with heap:=h' }/\o.data=.fields vs/\vs[2]?=aj .none:=by
 obtain⟨t,e1,_,_⟩:=hm.there;have nxH:H x=aq:=acD I.hok hm.new;refine⟨{cls:=.ref C,data:=.fields #[.ref t,.none,.none,.none,.bool ao,.none]},#[.ref t,.none,.none,.none,.bool ao,.none],nxH,?_,rfl,rfl⟩;generalize ho:({cls:=.ref C,data:=.fields #[.ref t,.none,.none,.none,.bool ao,.none]}:Obj)=o at e1;have sn:Same H (upd H x (.frz o (.ext (sE C x)))):=bO nxH;have nst:∀b u,s.heap.get? b=aj u->b≠x:=λb u e z=>by subst z;rw[hm.new]at e;cases e
 refine I.call' (ch:=[]) (s':={s with heap:=h' }) rfl ⟨λb u e n _ _=>hm.keeps b u e,λb u e n _ _=>⟨u.slots,hm.keeps b u e⟩,λb u e n _=>by rw[bT (nst b u e)];exact n,λb u e _=>⟨u,hm.keeps b u e⟩,λb xs z=>sn _ _ z,λb u v z=>sn _ _ z,λb ps z=>⟨#[],by rw[Array.append_empty];exact sn _ _ z⟩⟩ (λb u e=>?_) I.bare λb z=>absurd z (by simp);by_cases hb:b=x
 .subst hb;rw[aP]at e;cases e;exact⟨e1,⟨o,_,e1,by rw[←ho],by rw[←ho]⟩,⟨o,e1⟩,λh1 h2 ⟨o1,w1,e1,e2,e3⟩ k=>⟨o1,w1,k _ e1,e2,e3⟩⟩
 .rw[bT hb]at e;exact((I.hok.kept hm.keeps) b u e).stay (λ_ _ _ z=>z) (λc z=>sn _ _ z) λc xs z=>sn _ _ z
theorem alM{σ:St}{H:Hp}{us:List au}{Q:VK}(Fn:a0l Bn newId inN bmN)(hBn:bmB.contains (.type Bn)=ak)(FB:a0l B nid initId bmB)(hq:yp X.K C bmB newId=ak)(I:Inv X pins σ H s)(g:HR X.K H G)(hl:us.length<=cj)(q:∀x,G x=aq->R (.ref x) (aJ G x (.exn C)))
  (k:∀v H' d G',Ts H H'->RD X.K H' d v->HR X.K H' G'->R d G'->Q v H'):dh (dz X.prog X.w) X.A (call (.ref C) us) (EP X pins σ Q) X.xe s:=by
 obtain⟨tl,N,nm,q',bs,hdct,sn,sub,ab,col,dd',k0,k1,k2,k3,k5,mN,hC,hN,hni,T⟩:=aaT I.mod.kin hq;obtain⟨h,g0,d0,t0,os0⟩:=s;refine wpAny_call_exc_subU (hrest:=hl) Fn hBn FB (T.keeps I.bk) (I.bk _ _ hC) (hN.keeps I.bk) hni λh' x hm=>?_;obtain⟨o,vs,nx,J,d1,d2⟩:=axH I hm;have sn:Same H (upd H x (.frz o (.ext (sE C x)))):=bO nx;exact⟨.ref x,_,J,rfl,k _ _ _ _ (.same sn) (.ref x) (g.put (u:=.exn C) nx ⟨o,vs,aP,d1,d2⟩) (q x (uX (K:=X.K) g nx (yC (X:=X) J)))⟩
theorem aRQ(Fn:a0l Bn newId inN bmN)(hBn:bmB.contains (.type Bn)=ak)(FB:a0l B nid initId bmB)(hg:Gl X x)(hm:X.mg x=aj (.ref C))(hq:yp X.K C bmB newId=ak)(ha:PA3 X (e::es) t)(hd:(x==("__debug__":Str))=ao)
  (he:jm (e::es) X.env=(ao,eval e X.env)::jm es X.env)(hpl:(yx cpos (jm es X.env)).any (·.1)=ao):dR X (.Call (.Name x np) (e::es) [] cpos) (axG C t):=by
 intro pins s σ H Q I h;obtain⟨ρ,G,R,sr,g,q,kk⟩:=h;obtain⟨tl,N,nm,q',bs,hdct,sn,sub,ab,col,dd',k0,k1,k2,k3,k5,mN,hC,hN,hni,T⟩:=aaT I.mod.kin hq;refine wpAny_Call_ofName (oJ I hg hm ?_ hd);unfold callWith;have hA:=ha cpos pins s σ H (λvs H1=>Ts H H1/\∃ds G1,cH X.K H1 ds vs/\HR X.K H1 G1/\ds.length<=cj/\∀x,G1 x=aq->R (.ref x) (aJ G1 x (.exn C))) I ⟨ρ,G,_,sr,g,q,λvs H1 ds G1 t1 r1 g1 q1=>⟨t1,ds,G1,r1,g1,q1.1,q1.2⟩⟩;have hp2:(yx cpos (jm (e::es) X.env)).any (·.1)=ao:=by rw[he];show(ao||(yx cpos (jm es X.env)).any (·.1))=ao;rw[hpl];rfl
 rw[he]at hA hp2 ⊢;refine bw (za (Calls.evalArgs_plain (eU hA λus s2 ⟨vs,H2,I2,r2,t1,ds,G1,r1,g1,hl,q1⟩=>bw (a1J ?_))));have hl2:us.length<=cj:=by rw[←r2.length,←r1.length];exact hl
 simp only[hp2];obtain⟨h0,g0,d0,t0,os0⟩:=s2;refine bw (wpAny_keeperOf_exc (I2.bk _ _ hC) ?_);refine bw (eU (alM Fn hBn FB hq I2 g1 hl2 q1 λv H' d G' t3=>kk v H' d G' (t1.trans t3)) λv s3 q3=>bw (za (wpAny_point (gV q3))))
theorem aJR(Fn:a0l Bn newId inN bmN)(hBn:bmB.contains (.type Bn)=ak)(FB:a0l B nid initId bmB)(hg:Gl X x)(hm:X.mg x=aj (.ref C))(hq:yp X.K C bmB newId=ak)(hd:(x==("__debug__":Str))=ao):dR X (.Call (.Name x np) [] [] cpos) (axG C aC):=by
 intro pins s σ H Q I h;obtain⟨ρ,G,R,sr,g,⟨hl,q⟩,kk⟩:=h;obtain⟨tl,N,nm,q',bs,hdct,sn,sub,ab,col,dd',k0,k1,k2,k3,k5,mN,hC,hN,hni,T⟩:=aaT I.mod.kin hq;refine wpAny_Call_ofName (oJ I hg hm ?_ hd);unfold callWith;refine bw (za (PySem.evalArgs_none (bw (a1J ?_))));obtain⟨h0,g0,d0,t0,os0⟩:=s;refine bw (wpAny_keeperOf_exc (I.bk _ _ hC) ?_);refine bw (eU (alM (us:=[]) Fn hBn FB hq I g (yh _) q kk) λv s3 q3=>bw (za (wpAny_point (gV q3))))
end
end
section
noncomputable def alN(f:Str)(d:D):List (Str×D)->List (Str×D)
 |[]=>[(f,d)]
 |(g,x)::r=>if g=f then(g,d)::r else(g,x)::alN f d r
theorem ar4{K:Fg}(h:RD K H d v):∀{fs:List (Str×D)}{vs:List (Str×V)},Two (λp q=>p.1=q.1/\RD K H p.2 q.2) fs vs->Two (λp q=>p.1=q.1/\RD K H p.2 q.2) (alN f d fs) (wR f v vs)
 |_,_,.nil=>.cons ⟨rfl,h⟩ .nil
 |(g,x)::fs,(g',y)::vs,.cons q r=>by
  obtain⟨rfl,q2⟩:=q;unfold alN wR;by_cases c:g=f
  .rw[if_pos c,if_pos c];exact .cons ⟨rfl,h⟩ r
  .rw[if_neg c,if_neg c];exact .cons ⟨rfl,q2⟩ (ar4 h r)
section
variable{X:Cx}{f:Str}{C:bx}{pos:Pos}{ta tv:dB}
def alO(C:bx)(f:Str)(x y:D)(F:cD)(ρ:aL)(G:Gp):Prop:=match x with
 |.ref a=>(match G a with
  |some (.ins C' fs)=>C'=C/\fs.length<1000/\F.nx ρ (aJ G a (.ins C (alN f y fs)))
  |_=>False)
 |_=>False
noncomputable def fH(C:bx)(ta tv:dB)(f:Str):aZ:=λF ρ G=>tv ρ G λy G1=>ta ρ G1 λx G2=>alO C f x y F ρ G2
set_option tactic.hygienic true in
theorem aJS(ha:dR X o ta)(hv:dR X value tv)(c:Cls X.K C)(n:eV X.K C f)(hs:a0s value (aj (.Attribute o f pos')) pos.line X.env=pure ao):PS3 X (.Assign [.Attribute o f pos'] value pos) (fH C ta tv f):=by
 refine PS.imp (aHX ha hv hs) λF σ H h=>?_;obtain⟨ρ,G,E,s,g,t,u⟩:=h;refine⟨ρ,G,_,s,g,t,λy H1 d G1 t1 ry g1 t'=>?_⟩;refine⟨ρ,G1,_,s.mono t1,g1,t',λv H2 x G2 t2 rx g2 t''=>?_⟩;unfold alO at t'';split at t''
 .rename_i a;split at t''
  .rename_i C' fs e1;obtain⟨rfl,hl,t''⟩:=t'';obtain⟨dx,vs,e3,r⟩:=g2 a _ e1;have ry2:=ry.mono t2;have tt:Ts H2 (upd H2 a (.ins C' dx (wR f y vs))):=Ts.turn e3 (λ_ z=>by cases z) (λ_ _ z=>by cases z);cases rx;refine⟨a,_,dx,vs,rfl,e3,c,n,by rw[←r.length];exact hl,u.nx ρ _ σ _ ((s.mono t1).mono t2 |>.mono tt) (HR.turn g2 tt ?_) t''⟩;exact⟨dx,_,aP,(ar4 ry2 r).imp λ_ _ q=>⟨q.1,q.2.mono tt⟩⟩
  .exact t''.elim
 .exact t''.elim
end
section
variable{X:Cx}{qt:Bool}{k:Nat}{f C:bx}{fd:jo}{ps:List Str}{sp:mR}{EX:aL->aO}{x:Str}{t:wL}{dd:List D}{dvs:List V}{ds:List au}
noncomputable def gQ(C:bx)(sp:mR)(dd:List D)(EX:aL->aO)(t:wL):dB:=λρ G R=>t ρ G λds G1=>∀x,G1 x=aq->sp (.ref x::(ds++dd)) (aJ G1 x (.ins C [])) (λv G2=>v=.non/\R (.ref x) G2) (EX ρ)
set_option tactic.hygienic true in
theorem agZ{σ:St}{H:Hp}{s:cg}{Q:VK}{us:List au}{vs:List V}{ds2:List D}{ρ:aL}(M:Mk X.K C f)(F:bU qt X.prog X.w X.K X.mg X.base (j4 X.prog X.w) k f fd ps (cC X.K sp))(hr:mF qt (k+1) X.A)(hb:Binds X.K fd ps ds)(hd:Vals dvs ds)(hdd:∀H,cH X.K H dd dvs)(hx:Cat X EX)
  (I:Inv X pins σ H s)(sr:SR X.K H ρ σ)(g:HR X.K H G)(r:Vals vs us)(r2:cH X.K H ds2 vs)(h:∀x,G x=aq->sp (.ref x::(ds2++dd)) (aJ G x (.ins C [])) (λv G2=>v=.non/\R (.ref x) G2) (EX ρ))
  (hQ:∀v H' d G',Ts H H'->RD X.K H' d v->HR X.K H' G'->R d G'->Q v H'):dh (dz X.prog X.w) X.A (call (.ref C) us) (EP X pins σ Q) X.xe s:=by
 have n1:H (s.heap.objs.size+1)=aq:=I.hok.fresh (Nat.le_succ _);have n0:H s.heap.objs.size=aq:=I.hok.fresh (gw _);have ne:s.heap.objs.size+1≠s.heap.objs.size:=Nat.succ_ne_self _;have I2:=Inv.made (C:=C) I
 have kl:X.K.lookup (s.heap.objs.size+1)=aq:=by
  cases q:X.K.lookup (s.heap.objs.size+1)with
  |none=>rfl
  |some u=>have:=yC I2 _ u q;rw[aP]at this;cases this
 have gn:G (s.heap.objs.size+1)=aq:=uX (o:=.ins C s.heap.objs.size []) g n1 λb u e=>by
  by_cases c:b=s.heap.objs.size+1
  .subst c;rw[kl]at e;cases e
  .rw[bT c];exact yC I b u e
 have t1:Ts H (upd H s.heap.objs.size (.own (s.heap.objs.size+1))):=.same (bO n0);have n1':upd H s.heap.objs.size (.own (s.heap.objs.size+1)) (s.heap.objs.size+1)=aq:=by rw[bT ne];exact n1
 have t2:Ts (upd H s.heap.objs.size (.own (s.heap.objs.size+1))) (upd (upd H s.heap.objs.size (.own (s.heap.objs.size+1))) (s.heap.objs.size+1) (.ins C s.heap.objs.size [])):=.same (bO n1');have g1:HR X.K (upd H s.heap.objs.size (.own (s.heap.objs.size+1))) G:=g.same (bO n0);have g2:HR X.K (upd (upd H s.heap.objs.size (.own (s.heap.objs.size+1))) (s.heap.objs.size+1) (.ins C s.heap.objs.size [])) (aJ G (s.heap.objs.size+1) (.ins C [])):=g1.put n1' ⟨s.heap.objs.size,[],aP,.nil⟩
 have hq:cC X.K sp (V.ref (s.heap.objs.size+1)::(vs++dvs)) (upd (upd H s.heap.objs.size (.own (s.heap.objs.size+1))) (s.heap.objs.size+1) (.ins C s.heap.objs.size [])) (λv H'=>v=.non/\∃G',HR X.K H' G'/\R (.ref (s.heap.objs.size+1)) G') (zR X.K (EX ρ)) :=
  ⟨.ref (s.heap.objs.size+1)::(ds2++dd),_,_,EX ρ,.cons (.ref _) (((r2.mono t1).mono t2).append (hdd _)),g2,h _ gn,λv H' d G' r3 g3 q3=>by
   obtain⟨rfl,q3⟩:=q3;cases r3;exact⟨rfl,G',g3,q3⟩,λC H' G' g' q'=>⟨C,G',rfl,g',q'⟩⟩
 have rr:Vals (V.ref (s.heap.objs.size+1)::(vs++dvs)) (au.ref (s.heap.objs.size+1)::(us++ds)):=.cons rfl (r.append hd)
 have hl:(au.ref (s.heap.objs.size+1)::us++ds).length=ps.length:=by
  have e:=rr.length;rw[F.len _ _ _ _ hq]at e;exact e.symm
 refine wpAny_call (aw8 (f:=f) I.kIn M.makes M.init (beq_iff_eq.mp M.fn) (codeAny_mono (F.run _ X.stack _ _ ⟨au.ref (s.heap.objs.size+1)::us,[]⟩ (au.ref (s.heap.objs.size+1)::(us++ds)) _ _ _ (hr.make C us [])
  (I2.env0.make C us []) (hb _ (au.ref (s.heap.objs.size+1)::us) I2.kIn hl) rr hq) λr s' hq'=>?_))
 cases r with
 |error e=>exact hx.acB pins σ _ _ ρ e s' I2 ((sr.mono t1).mono t2) hq'
 |ok fl =>
  cases fl with
  |ret u =>
   obtain⟨v,H',os,bare,un,hok,rv,ev,G',g3,q3⟩:=hq';subst ev;exact⟨rv,⟨V.ref (s.heap.objs.size+1),H',I2.call' (ch:=[]) os un hok bare (λb z=>absurd z (by simp)),rfl,hQ _ H' (.ref _) G' ((t1.trans t2).trans ⟨un.tups,un.lA⟩) (.ref _) g3 q3⟩⟩
  |next=>exact False.elim hq'
  |brk=>exact False.elim hq'
  |cont=>exact False.elim hq'
theorem aCO(M:Mk X.K C f)(F:bU qt X.prog X.w X.K X.mg X.base (j4 X.prog X.w) k f fd ps (cC X.K sp))(hr:mF qt (k+1) X.A)(hg:Gl X x)(hm:X.mg x=aj (.ref C))(hb:Binds X.K fd ps ds)(hd:Vals dvs ds)(hdd:∀H,cH X.K H dd dvs)(hx:Cat X EX)
  (ha:PA3 X (e::es) t)(hdb:(x==("__debug__":Str))=ao)(he:jm (e::es) X.env=(ao,eval e X.env)::jm es X.env)(hpl:(yx pos (jm es X.env)).any (·.1)=ao) :
  dR X (.Call (.Name x p) (e::es) [] pos) (gQ C sp dd EX t):=by
 intro pins s σ H Q I h;obtain⟨ρ,G,R,sr,g,q,kk⟩:=h;refine a0b (oJ I hg hm ?_ hdb);refine PySem.W.callWith_K (h₀:=X.base) I.ok.mod.kin M.kp (eU (ha pos pins s σ H (λvs H1=>Ts H H1/\∃ds G1,cH X.K H1 ds vs/\HR X.K H1 G1/\∀x,G1 x=aq->sp (.ref x::(ds++dd)) (aJ G1 x (.ins C [])) (λv G2=>v=.non/\R (.ref x) G2) (EX ρ)) I ⟨ρ,G,_,sr,g,q,λvs H1 ds G1 t1 r1 g1 q1=>⟨t1,ds,G1,r1,g1,q1⟩⟩) λus s1 ⟨vs,H1,I1,r,t1,ds,G1,r1,g1,q1⟩=>⟨I1.kIn,?_⟩) he hpl;exact agZ M F hr hb hd hdd hx I1 (sr.mono t1) g1 r r1 q1 λv H' d G' t2=>kk v H' d G' (t1.trans t2)
theorem axI(M:Mk X.K C f)(F:bU qt X.prog X.w X.K X.mg X.base (j4 X.prog X.w) k f fd ps (cC X.K sp))(hr:mF qt (k+1) X.A)(hg:Gl X x)(hm:X.mg x=aj (.ref C))(hb:Binds X.K fd ps ds)(hd:Vals dvs ds)(hdd:∀H,cH X.K H dd dvs)(hx:Cat X EX)
  (hdb:(x==("__debug__":Str))=ao):dR X (.Call (.Name x p) [] [] pos) (gQ C sp dd EX aC):=by
 intro pins s σ H Q I h;obtain⟨ρ,G,R,sr,g,q,kk⟩:=h;refine a0b (oJ I hg hm ?_ hdb);exact PySem.W.callWith_K0 I.kIn M.kp (agZ (us:=[]) (vs:=[]) (ds2:=[]) M F hr hb hd hdd hx I sr g .nil .nil q λv H' d G' t2=>kk v H' d G' t2)
end
end
variable{b:jt}{ch:List bx}{t' kt:Nat}
section
section
variable{X:Cx}{pins:List (bx×Obj)}{σ:St}{H:Hp}{s:cg}{h':jq}
theorem Inv.ar5(I:Inv X pins σ H s)(k:∀b u,b∉ch->s.heap.get? b=aj u->h'.get? b=aj u)(hc:∀b∈ch,wQ X pins H b):Inv X pins σ H {s with heap:=h',toks:=t' }:=by
 have nit:∀b u,H b=aj u->b∉ch:=λb u e z=>by rw[(hc b z).1]at e;cases e
 refine I.step (g':=s.gens) (d':=s.drawn) (ch:=ch) (λb hb=>?_) (λb o _ _ hn e _=>k b o hn e) (λb o _ _ hn e _=>⟨o.slots,k b o hn e⟩) (λ_ _ _ _ n=>n) (λb o hn e=>⟨o,k b o hn e⟩) (λ_ _ e=>e) (λ_ _ _ e=>e) (λb ps e=>⟨#[],by rw[e];simp⟩) (λm hm=>?_) (λb u e=>?_) I.bare
 .obtain⟨_,f1,_,f3,f4,f5⟩:=hc b hb;exact⟨f3,f1,f4,f5⟩
 .obtain⟨o,es,ep,ho,r⟩:=hm;exact⟨o,es,ep,k _ o (λz=>(hc _ z).2.1 rfl) ho,r⟩
 .refine(I.hok b u e).stay (λc v hcc q=>k c v ?_ q) (λ_ q=>q) λ_ _ q=>q;rcases hcc with z|z
  .rw[z];exact nit b u e
  .exact nit c _ z
theorem Inv.ah0{a:bx}{o:HO}(I:Inv X pins σ H s)(k:∀b u,b∉ch->s.heap.get? b=aj u->h'.get? b=aj u)(hc:∀b∈ch,wQ X pins H b)(ha:s.heap.objs.size<=a)(new:qX X.prog X.w (upd H a o) h' a o):Inv X pins σ (upd H a o) {s with heap:=h',toks:=t' }:=by
 have nit:∀b u,H b=aj u->b∉ch:=λb u e z=>by rw[(hc b z).1]at e;cases e
 have fr:H a=aq:=I.hok.fresh ha;have sn:Same H (upd H a o):=bO fr;have na:∀b u,s.heap.get? b=aj u->b≠a:=λb u e z=>absurd (ju (gk e) (z ▸ ha)) (qu _);refine I.step (g':=s.gens) (d':=s.drawn) (ch:=ch) (λb hb=>?_) (λb o _ _ hn e _=>k b o hn e) (λb o _ _ hn e _=>⟨o.slots,k b o hn e⟩) (λb u _ e n=>by rw[bT (na b u e)];exact n) (λb o hn e=>⟨o,k b o hn e⟩) (λb xs e=>sn _ _ e) (λb o u e=>sn _ _ e) (λb ps e=>⟨#[],by rw[sn _ _ e];simp⟩) (λm hm=>?_) (λb u e=>?_) I.bare
 .obtain⟨_,f1,_,f3,f4,f5⟩:=hc b hb;exact⟨f3,f1,f4,f5⟩
 .obtain⟨o,es,ep,ho,r⟩:=hm;exact⟨o,es,ep,k _ o (λz=>(hc _ z).2.1 rfl) ho,r⟩
 .by_cases hb:b=a
  .subst hb;rw[aP]at e;cases e;exact new
  .rw[bT hb]at e;refine(I.hok b u e).stay (λc v hcc q=>k c v ?_ q) (λ_ q=>sn _ _ q) λ_ _ q=>sn _ _ q;rcases hcc with z|z
   .rw[z];exact nit b u e
   .exact nit c _ z
end
noncomputable def Itz(K:Fg)(a b:bx):It :=
 ⟨λi H=>∃xs ys x y,zL K H a xs/\zN K H b ys/\xs[i]?=aj x/\ys[i]?=aj y,
  λi H v H'=>∃p x y,H p=aq/\v=.ref p/\H'=upd H p (.tup [x,y])/\(∀xs,zL K H a xs->xs[i]?=aj x)/\∀ys,zN K H b ys->ys[i]?=aj y,
  λi H=>∃xs,zL K H a xs/\xs.length=i⟩
def aRR(z TI TO i1 i2 l1 l2:bx)(i:Nat)(h:jq):Prop:=IsZip h z TI TO .none/\IsPair h TI (.ref i1) (.ref i2)/\(∃a b,IsPair h TO a b)/\h.IsTupleIter i1 l1 i/\h.IsListIter i2 l2 i
theorem axJ{K:Fg}{pt:Pos}{TI TO l1 l2:bx}(D:Zap z TI TO i1 i2 [i1,l1] [i2,l2])(n1:l1≠i1)(n2:l2≠i2):Turn ak tl P w K (.Tuple es kt pt) (Itz K l1 l2) [z,TI,TO,i1,i2] z (aRR z TI TO i1 i2 l1 l2) where
 mem:=by simp
 obj:=λi h st b hb=>by
  obtain⟨hz,hTI,⟨a,c,hTO⟩,⟨o1,e1,_,d1⟩,⟨o2,e2,_,d2⟩⟩:=st;simp only[jc,rm,or_false]at hb;rcases hb with rfl|rfl|rfl|rfl|rfl
  .exact⟨_,hz,λv z=>nomatch z⟩
  .exact⟨_,hTI,λv z=>nomatch z⟩
  .exact⟨_,hTO,λv z=>nomatch z⟩
  .exact⟨o1,e1,λv z=>by rw[d1]at z;cases z⟩
  .exact⟨o2,e2,λv z=>by rw[d2]at z;cases z⟩
 keep:=λi h h' st k=>by
  obtain⟨hz,hTI,⟨a,c,hTO⟩,s1,s2⟩:=st;exact⟨k z (by simp) _ hz,k TI (by simp) _ hTI,⟨a,c,k TO (by simp) _ hTO⟩,s1.at λo e=>k i1 (by simp) o e,s2.at λo e=>k i2 (by simp) o e⟩
 item:=by
  intro X hP hw hK hcm ht i pins s σ H E I hf st hg;subst hP hw hK;obtain⟨hz,hTI,⟨a,c,hTO⟩,s1,s2⟩:=st;obtain⟨xs,ys,x,y,q1,q2,e1,e2⟩:=hg;obtain⟨us,r1,p1,_⟩:=I.tuple q1;obtain⟨ws,r2,p2,_⟩:=I.list q2;obtain⟨u,hu,ru⟩:=r1.get e1;obtain⟨v,hv,rv⟩:=r2.get e2;have fr:=I.hok.fresh (gw s.heap.objs.size);have lt:∀{c o},s.heap.get? c=aj o->s.heap.objs.size≠c:=λe=>a0k (gk e);have m1:s.heap.objs.size≠i1:=by obtain⟨_,e,_⟩:=s1;exact lt e
  have m2:s.heap.objs.size≠i2:=by obtain⟨_,e,_⟩:=s2;exact lt e
  have D1:=agN (prog:=X.prog) (w:=X.w) (A:=X.A.in1) (I.ok.hd (hcm rfl)) i1 l1 n1 us.toArray;have D2:=Draws.list (prog:=X.prog) (w:=X.w) (A:=X.A.in1) (I.ok.hd (hcm rfl)) i2 l2 n2 ws.toArray;refine aC4 D D1 D2 (by simpa using(jf.mp hu).1) (by simpa using(jf.mp hv).1) hz hTI hTO ⟨s1,p1⟩ ⟨s2,p2.isList⟩ λx' y' h' tk b1 b2 a1 a2 a3 a4 a5 kk=>?_;have ex:x'=u:=by simpa[hu]using b1.symm
  have ey:y'=v:=by simpa[hv]using b2.symm
  subst ex;subst ey;refine⟨_,rfl,wpAny_letOwnedTupleGo_zip (s:={s with heap:=h',toks:=tk}) a1 λh2 b1 sb=>?_⟩
  have k2:∀b o,b∉[z,TO,i1,i2]->s.heap.get? b=aj o->h2.get? b=aj o:=λb o hb e =>
   sb.extBut _ _ (λq=>hb (by simp[q])) (kk b o (λq=>hb (by simp[q])) (λq=>hb (by simp[q])) (λq=>hb (by simp[q])) (λq=>hb (by simp[q])) e)
  have sub:∀b∈[z,TO,i1,i2],b∈[z,TI,TO,i1,i2]:=λb hb=>by
   simp only[jc,rm,or_false]at hb ⊢;rcases hb with e|e|e|e<;>simp[e]
  obtain⟨⟨d1,d2,d3,d4⟩,⟨d5,d6,d7,d8,d9,d10⟩,_,_⟩:=D
  refine⟨.ref s.heap.objs.size,upd H s.heap.objs.size (.tup [x,y]),I.ah0 (t':=tk) (ch:=[z,TO,i1,i2]) k2 (λb hb=>hf b (sub b hb)) (gw _) ⟨show 2<=cj by decide,[x',y'],.cons ru (.cons rv .nil),⟨_,sb.extBut _ _ (lt hz) a5,rfl,_,rfl⟩⟩,rfl,
   ⟨_,x,y,fr,rfl,rfl,λxs' q=>by rw[I.a1Q q q1];exact e1,λys' q=>by rw[I.ac2 q q2];exact e2⟩,
   ⟨b1,sb.extBut _ _ d1 (kk _ _ d1 d8 d9 d10 hTI),⟨_,_,sb.extBut _ _ d2 a2⟩,a3.1.extBut sb.extBut d3,a4.1.extBut sb.extBut d4⟩,λb hb=>?_⟩
  have hb2:=hb;simp only[jc,rm,or_false]at hb2;rw[bT]
  .exact(hf b hb).1
  .intro q;rcases hb2 with e|e|e|e|e
   .exact lt hz (q.symm.trans e)
   .exact lt hTI (q.symm.trans e)
   .exact lt hTO (q.symm.trans e)
   .exact m1 (q.symm.trans e)
   .exact m2 (q.symm.trans e)
 done:=by
  intro X hP hw hK hcm ht i pins s σ H E I hf st hg;subst hP hw hK;obtain⟨hz,hTI,⟨a,c,hTO⟩,s1,s2⟩:=st;obtain⟨xs,q1,le⟩:=hg;obtain⟨us,r1,p1,_⟩:=I.tuple q1;have hn:us.toArray.size=i:=by rw[fj,←r1.length];exact le
  have sub:∀b∈[z,TO,i1,i2],b∈[z,TI,TO,i1,i2]:=λb hb=>by
   simp only[jc,rm,or_false]at hb ⊢;rcases hb with e|e|e|e<;>simp[e]
  have D1:=agN (prog:=X.prog) (w:=X.w) (A:=X.A.in1) (I.ok.hd (hcm rfl)) i1 l1 n1 us.toArray;refine aC5 D D1 hz hTI ⟨hn ▸ s1,p1⟩ λh' kk=>⟨rfl,?_⟩;exact I.ar5 (t':=s.toks) (ch:=[z,TO,i1,i2]) (λb o hb e=>kk b o (λq=>hb (by simp[q])) (λq=>hb (by simp[q])) (λq=>hb (by simp[q])) (λq=>hb (by simp[q])) e) λb hb=>hf b (sub b hb)
 self:=λ_ _ _ _ _ st h=>wpAny_pyIter_zip st.1 h
theorem aCP{l1 l2:Nat}(a1:l1<n)(a2:l2<n):Zap (n+4) (n+2) (n+3) n (n+1) [n,l1] [n+1,l2]:=by
 have ne:∀{a b:Nat},a≠b->∀{c:Nat},c≠b->b∉[a,c]:=λh1 _ h2 z=>by
  rcases jc.mp z with e|z
  .exact h1 e.symm
  .exact h2 (uf.mp z).symm
 refine⟨⟨?_,?_,?_,?_⟩,⟨?_,?_,?_,?_,?_,?_⟩,⟨ne ?_ ?_,ne ?_ ?_,ne ?_ ?_⟩,⟨ne ?_ ?_,ne ?_ ?_,ne ?_ ?_⟩⟩
 all_goals (intro(e:(_:Nat)=_);omega)
theorem aCQ{i:Nat}(h1:xs[i]?=aj x)(h2:ys[i]?=aj y):(prs xs ys)[i]?=aj (.tup [x,y]):=by
 unfold prs;rw[zx,(List.getElem?_zip_eq_some (z:=(x,y))).mpr ⟨h1,h2⟩];rfl
theorem aCR{xs ys:List D}:(prs xs ys).length=min xs.length ys.length:=by simp[prs]
theorem alP{K:Fg}:alI K (.zip p q xs ys) (Itz K p q):=λH2 G2 g ok=>by
 obtain⟨ok1,ok2,ok3⟩:G2 p=aj (.tpl xs)/\bQ G2 q=aj ys/\xs.length=ys.length:=ok;obtain⟨vs,hq1,rv1⟩:=g p _ ok1;obtain⟨ws,hq2,rv2⟩:=cB g ok2;have l1:=rv1.length;have l2:=rv2.length;have hl:(Src.zip p q xs ys).items.length=min xs.length ys.length:=aCR;refine⟨λi hi=>?_,λi v H' hi hy=>?_,⟨vs,hq1,by rw[hl];omega⟩⟩
 .rw[hl]at hi;obtain⟨x,e1,_⟩:=rv1.get (gq (show i<xs.length by omega));obtain⟨y,e2,_⟩:=rv2.get (gq (show i<ys.length by omega));exact⟨vs,ws,x,y,hq1,hq2,e1,e2⟩
 .obtain⟨a,x,y,fr,rfl,rfl,h1,h2⟩:=hy;obtain⟨d1,e1,f1⟩:=rv1.aoD (h1 vs hq1);obtain⟨d2,e2,f2⟩:=rv2.aoD (h2 ws hq2);have sn:Same H2 (upd H2 a (.tup [x,y])):=bO fr;exact⟨sn,.tup [d1,d2],aCQ e1 e2,.tup (zL.of aP) (.cons (f1.mono (.same sn)) (.cons (f2.mono (.same sn)) .nil)) (atJ aP)⟩
theorem axK{K:Fg}{H1:Hp}:a9G K H1 (.zip p q xs ys) (Itz K p q):=λH2 G2 _ g ok=>alP H2 G2 g ok
def aJT(ds:List D)(G1:Gp)(R:Src->Gp->Prop):Prop:=∃xs q ys,ds=[.tup xs,.ref q]/\bQ G1 q=aj ys/\xs.length=ys.length/\xs.all scD=ak/\∀a,(G1 a=aq∨G1 a=aj (.tpl xs))->R (.zip a q xs ys) (aJ G1 a (.tpl xs))
noncomputable def acP(ta:wL):TI3:=λρ G R=>ta ρ G λds G1=>aJT ds G1 R
section
variable{X:Cx}{es:List jt}{kt:Nat}{pt:Pos}
theorem axL{a:jt}{ta:wL}{p pos:Pos}{SJ:Hp->Src->It->Prop}(hc:X.calm=ak)(hg:Gl X "zip")(hm:X.mg "zip"=aq)(hv:jz "zip"=aj (.type "zip"))(ha:PA3 X [a,b] ta)(hs:jm [a,b] X.env=[(ao,eval a X.env),(ao,eval b X.env)])(hs2:jm [b] X.env=[(ao,eval b X.env)])
  (hSJ:∀H p q xs ys,SJ H (.zip p q xs ys) (Itz X.K p q)):PI X (.Tuple es kt pt) (.Call (.Name "zip" p) [a,b] [] pos) (λσ H Q=>∃ρ G R,SR X.K H ρ σ/\HR X.K H G/\acP ta ρ G R/\∀src J H' G',Ts H H'->HR X.K H' G'->SJ H' src J->R src G'->Q J H'):=by
 intro pins s σ H R I h;obtain⟨ρ,G,R3,sr,g,q,k⟩:=h;refine Call_ (a6R I hg hm hv (PyProof.Rows.callWith_type1 (eU (ha pos pins s σ H (λvs H1=>Ts H H1/\∃ds G1,cH X.K H1 ds vs/\HR X.K H1 G1/\aJT ds G1 R3) I ⟨ρ,G,_,sr,g,q,λvs H1 ds G1 t1 r1 g1 q1=>⟨t1,ds,G1,r1,g1,q1⟩⟩) λus s1 ⟨vs,H1,I1,rr,t1,ds,G1,r1,g1,q1⟩=>?_) (by rw[hs,hs2]) (by rw[hs2];rfl)));obtain⟨xs,l2,ys,rfl,e2,_,sc,q1⟩:=q1;cases r1 with
 |cons ra rb =>
 cases rb with
 |cons rb rc =>
 cases rc;cases rb;cases ra with
 |@tup l1 zs1 _ hq rv =>
 cases rr with
 |cons ra rb =>
 cases rb with
 |cons rb rc =>
 cases rc;cases ra;cases rb;obtain⟨its,rv',pp,_⟩:=I1.tuple hq;obtain⟨hG,g2⟩:=ar0 I1 g1 hq rv sc;obtain⟨zs2,hz2,_⟩:=cB g1 e2;obtain⟨u2,_,p2,_⟩:=I1.list hz2;have a1:l1<s1.heap.objs.size:=pp.lt;have a2:l2<s1.heap.objs.size:=by obtain⟨_,e,_⟩:=p2.isList;exact gk e
 refine aC6 (show s1.heap.IsTuple l1 its.toArray from pp) p2.isList λh' hz hTI hTO hi1 hi2 kk=>wpAny_pyIter_zip (s:={s1 with heap:=h' }) hz ?_;have up:∀j,s1.heap.objs.size<=s1.heap.objs.size+j:=λj=>Nat.le_add_right _ j;have ap:=aCP a1 a2;refine⟨_,_,_,_,H1,rfl,I1.kept (t':=s1.toks) kk,(show Turn X.calm X.tp X.prog X.w X.K (.Tuple es kt pt) _ _ _ _ from hc ▸ axJ ap (mq a1) (mq (a0w a2))),⟨hz,hTI,⟨_,_,hTO⟩,hi1,hi2⟩,λb hb=>?_,k _ _ H1 _ t1 g2 (hSJ H1 l1 l2 xs ys) (q1 l1 hG)⟩
 have hb':s1.heap.objs.size<=b:=by
  simp only[jc,rm,or_false]at hb;rcases hb with e|e|e|e|e<;>rw[e]
  .exact up 4
  .exact up 2
  .exact up 3
  .exact gw _
  .exact up 1
 exact I1.ac3 hb' (I1.hok.fresh hb')
theorem aRT(hc:X.calm=ak)(hg:Gl X "zip")(hm:X.mg "zip"=aq)(hv:jz "zip"=aj (.type "zip"))(ha:PA3 X [a,b] ta)(hs:jm [a,b] X.env=[(ao,eval a X.env),(ao,eval b X.env)])(hs2:jm [b] X.env=[(ao,eval b X.env)]):PI3 X (.Tuple es kt pt) (.Call (.Name "zip" p) [a,b] [] pos) (acP ta) :=
 axL (SJ:=a9G X.K) hc hg hm hv ha hs hs2 λ_ _ _ _ _=>axK
theorem aJU(hc:X.calm=ak)(hg:Gl X "zip")(hm:X.mg "zip"=aq)(hv:jz "zip"=aj (.type "zip"))(ha:PA3 X [a,b] ta)(hs:jm [a,b] X.env=[(ao,eval a X.env),(ao,eval b X.env)])(hs2:jm [b] X.env=[(ao,eval b X.env)]):PIS X (.Tuple es kt pt) (.Call (.Name "zip" p) [a,b] [] pos) (acP ta) :=
 axL (SJ:=λ_=>alI X.K) hc hg hm hv ha hs hs2 λ_ _ _ _ _=>alP
end
section
end
section
end
end
section
section
variable{κ:Type}[DecidableEq κ]
end
section
variable{κ:Type}[DecidableEq κ]
end
section
end
end
section
section
variable{K:Type}[DecidableEq K]
end
section
end
end
section
open PySem.W
section
end
section
end
def aRU(a b:Int×Int):Prop:=a.1<b.1∨(a.1=b.1/\a.2<b.2)
instance (a b:Int×Int):Decidable (aRU a b):=by unfold aRU;infer_instance
section
end
end
section
open PySem.W
section
end
end
section
open PySem.W
section
end
end
section
open PySem.W
section
end
theorem ar6{K:Fg}:∀{ds:List D}{vs:List V},cH K H ds vs->cH K H ds.reverse vs.reverse
 |_,_,.nil=>.nil
 |d::ds,v::vs,.cons h r=>by rw[a1r,a1r];exact cH.append (ar6 r) (.cons h .nil)
section
variable{X:Cx}
theorem alQ{s:cg}{sl:bx}{xs:List V}{Q:VK}(I:Inv X pins σ H s)(hx:zN X.K H a xs)(hs:s.heap.IsSliceOf sl .none .none vk)(pk:IsPart vk (aj (-1)))(q:∀p,H p=aq->KF X.K (upd H p (.lst xs.reverse))->Q (.ref p) (upd H p (.lst xs.reverse))) :
  s.TypeIs (.ref a) "list"/\dh (dz X.prog X.w) X.A (getItem (.ref a) (.ref sl)) (EP X pins σ Q) X.xe s:=by
 obtain⟨its,r,ht,hz⟩:=I.list hx;have hlen:=r.length;refine⟨ht.isList.typeIs,?_⟩;refine wpAny_getItem_list_slice ht.isList hs .none .none pk (by decide) ?_ (by rw[fj]<;>omega);rw[krv_pick];have J:=I.laid (t':=s.toks) (o:=.lst xs.reverse) (h':=s.heap.push {cls:=.type "list",data:=.seq its.reverse.toArray}) (λb ob q=>dj _ q) (gw _) ⟨by rw[List.length_reverse];exact hz,_,0,r.reverse,jd _ rfl⟩;exact⟨.ref s.heap.objs.size,_,J,rfl,q _ (I.hok.fresh (gw _)) (yC J)⟩
def ah1(x:D)(G:Gp)(R:iG):Prop:=match x with
 |.ref a=>(match bQ G a with
  |some ds=>∀q,G q=aq->R (.ref q) (aJ G q (.lst ds.reverse))
  |none=>False)
 |_=>False
noncomputable def ar7(te:dB)(tk:TO3):dB:=λρ G R=>te ρ G λx G1=>tk ρ G1 λo G2=>o=aj (-1)/\ah1 x G2 R
set_option tactic.hygienic true in
theorem aRV{tk:TO3}{p2:Pos}(he:dR X e te)(hk:PO3 X (aj k) tk):dR X (.Subscript e (.Slice aq aq (aj k) p2) pos) (ar7 te tk):=by
 intro pins s σ H Q I h;obtain⟨ρ,G,R,sr,g,q,kk⟩:=h;refine Subscript_ (eU (he pins s σ H (λvx H1=>Ts H H1/\∃x G1,RD X.K H1 x vx/\HR X.K H1 G1/\tk ρ G1 λo G2=>o=aj (-1)/\ah1 x G2 R) I ⟨ρ,G,_,sr,g,q,λv H1 x G1 t1 r1 g1 q1=>⟨t1,x,G1,r1,g1,q1⟩⟩) ?_);rintro v s1 ⟨vx,H1,I1,r1,t1,x,G1,rx,g1,q1⟩;refine wpAny_Slice ?_;rw[evalPart_none];refine gV ?_;refine gV ?_;refine eU (hk pins s1 σ H1 (λo H2=>Ts H1 H2/\∃G2,HR X.K H2 G2/\o=aj (-1)/\ah1 x G2 R) I1 ⟨ρ,G1,_,sr.mono t1,g1,q1,λo H2 G2 t2 g2 q2=>⟨t2,G2,g2,q2⟩⟩) ?_;rintro vk s3 ⟨o,H3,I3,pk,t3,G3,g3,eo,q3⟩;subst eo;have I4:Inv X pins σ H3 {s3 with heap:=s3.heap.push {cls:=.type "slice",data:=.fields #[.none,.none,vk]}}:=I3.kept (t':=s3.toks) λb ob q=>dj _ q;cases rx with
 |ref a =>
  have q3':(match bQ G3 a with
   |some ds=>∀q,G3 q=aq->R (.ref q) (aJ G3 q (.lst ds.reverse))
   |none=>False):=q3
  split at q3'
  .rename_i ds e1;obtain⟨xs,hq,ra⟩:=cB g3 e1;cases r1
   obtain⟨ht,hg⟩:=alQ (s:={s3 with heap:=s3.heap.push {cls:=.type "slice",data:=.fields #[.none,.none,vk]}}) (Q:=Q) I4 hq (Heap.IsSliceOf.new ..) pk λp hp kf=>by
    have sn:Same H3 (upd H3 p (.lst xs.reverse)):=bO hp;have rr:cH X.K H3 ds.reverse xs.reverse:=ar6 ra;exact kk _ _ _ _ ((t1.trans t3).trans (.same sn)) (.ref p) (g3.put (u:=.lst ds.reverse) hp ⟨_,aP,rr.mono (.same sn)⟩) (q3' p (uX g3 hp kf))
   show dh (dz X.prog X.w) X.A (subscriptTail e (.Slice aq aq (aj k) p2) (.ref a) (.ref s3.heap.objs.size)) (EP X pins σ Q) X.xe {s3 with heap:=s3.heap.push {cls:=.type "slice",data:=.fields #[.none,.none,vk]}};exact tail_any (ops:=[.ref a,.ref s3.heap.objs.size]) ht slot_list_getitem.lookup hg (by with_unfolding_all rfl)
  .exact q3'.elim
 |_=>exact False.elim q3
end
end
section
open PySem.W
section
end
end
section
open PySem.W
section
end
end
section
noncomputable abbrev afE(X:Cx)(i:Nat)(nm:Str):Cx:={X with N:=X.N.set i nm}
section
variable{X:Cx}{pins:List (bx×Obj)}{i:Nat}{nm:Str}
theorem aJV(ok:X.Ok):(afE X i nm).Ok:=⟨ok.mod,ok.kind,ok.glob,ok.blt,ok.above,ok.inj,ok.has,ok.cab,ok.hd,ok.frames,ok.stk,ok.exf,ok.bs,ok.bsz,ok.a9A,ok.abZ,ok.vR,ok.frf⟩
theorem aJW(ok:(afE X i nm).Ok):X.Ok:=⟨ok.mod,ok.kind,ok.glob,ok.blt,ok.above,ok.inj,ok.has,ok.cab,ok.hd,ok.frames,ok.stk,ok.exf,ok.bs,ok.bsz,ok.a9A,ok.abZ,ok.vR,ok.frf⟩
theorem axM(I:Inv X pins σ H s):Inv (afE X i nm) pins (wV σ i) H s :=
 ⟨aJV I.ok,I.os,I.bare,I.base,let⟨m,hn,hl⟩:=I.loc;⟨m,hn,λj x v e1 e2 e3=>by
  obtain⟨n,e4⟩:=a5A σ i j v e2;have e1':(X.N.set i nm)[j]?=aj x:=e1;rw[vd (Ne.symm n)]at e1';exact hl j x v e1' e4 e3⟩,I.cell,I.free,I.lB,I.pin,I.hok,by rw[a4Z,I.len];simp,I.hnd,I.tup⟩
theorem sI(I:Inv (afE X i nm) pins σ H s):Inv X pins (wV σ i) H s :=
 ⟨aJW I.ok,I.os,I.bare,I.base,let⟨m,hn,hl⟩:=I.loc;⟨m,hn,λj x v e1 e2 e3=>by
  obtain⟨n,e4⟩:=a5A σ i j v e2;exact hl j x v (by show(X.N.set i nm)[j]?=aj x;rw[vd (Ne.symm n)];exact e1) e4 e3⟩,I.cell,I.free,I.lB,I.pin,I.hok,by rw[a4Z,I.len];simp,I.hnd,I.tup⟩
end
noncomputable def aRW(F:cD)(i:Nat):cD:={nx:=λρ G=>F.nx (pC ρ i) G,rt:=F.rt,bk:=λρ G=>F.bk (pC ρ i) G,ct:=λρ G=>F.ct (pC ρ i) G}
noncomputable def ar8(i:Nat)(t:aZ):aZ:=λF ρ G=>t (aRW F i) (pC ρ i) G
variable{i:Nat}
set_option tactic.hygienic true in
theorem aJX{X:Cx}{nm:Str}{st:mj}{t:aZ}(h:PS3 (afE X i nm) st t):PS3 X st (ar8 i t):=by
 intro pins s σ H F I q;obtain⟨ρ,G,E,sr,g,q,u⟩:=q;refine eU (h pins s (wV σ i) H {nx:=λσ H=>F.nx (wV σ i) H,rt:=F.rt,bk:=λσ H=>F.bk (wV σ i) H,ct:=λσ H=>F.ct (wV σ i) H} (axM I) ⟨pC ρ i,G,aRW E i,sr.clr i,g,q,⟨λρ G σ H' a b c=>u.nx _ _ _ _ (a.clr i) b c,u.rt,λρ G σ H' a b c=>u.bk _ _ _ _ (a.clr i) b c,λρ G σ H' a b c=>u.ct _ _ _ _ (a.clr i) b c⟩⟩) λf s' z=>?_;cases f with
 |next=>obtain⟨σ',H',I',z⟩:=z;exact⟨_,H',sI I',z⟩
 |brk=>obtain⟨σ',H',I',z⟩:=z;exact⟨_,H',sI I',z⟩
 |cont=>obtain⟨σ',H',I',z⟩:=z;exact⟨_,H',sI I',z⟩
 |ret v=>obtain⟨v,σ',H',I',r,z⟩:=z;exact⟨v,_,H',sI I',r,z⟩
variable{EX:aL->aO}
theorem axN{nm:Str}(c:Cat X EX):Cat (afE X i nm) (λρ=>EX (pC ρ i)):=⟨λpins σ H s ρ e s' I sr q=>c.acB pins _ H s _ e s' (sI I) (sr.clr i) q⟩
theorem axO{nm:Str}(c:Thr X EX):Thr (afE X i nm) (λρ=>EX (pC ρ i)):=⟨λpins σ H s ρ C e us h' I sr m q=>c.made pins _ H s _ C e us h' (sI I) (sr.clr i) m q⟩
theorem acQ{nm:Str}:∀{N:List Str}{i:Nat},N.Nodup->nm∉N->(N.set i nm).Nodup
 |[],_,h,_=>h
 |x::r,0,h,n=>by
  rw[yw]at h;show(nm::r).Nodup;rw[yw];exact⟨λz=>n (.tail _ z),h.2⟩
 |x::r,i+1,h,n=>by
  rw[yw]at h;show(x::r.set i nm).Nodup;rw[yw];refine⟨λz=>?_,acQ h.2 λz=>n (.tail _ z)⟩;rcases a1k z with z|z
  .exact h.1 z
  .exact n (z ▸ .head _)
end
section
open PySem.W
section
end
section
end
end
section
open Builtin.Str
section
variable{prog:lq}{w:jg}{A:qb}{E:au->cg->Prop}{s:cg}
theorem aCS{x y:Str}{Q:au->cg->Prop}(hy:(y.length==0)=ao)(hsz:x.length+2<=cj)
  (h:∀l k,l.map (·.1)=Txt.split x y->Q (.ref s.heap.objs.size) {s with heap:=s.heap.push {cls:=.type "list",data:=.seq (strValues l).toArray},toks:=k}):dh (dz prog w) A (call (.builtin "str.split") [.str x t,.str y u]) Q E s:=by
 have hn:(partsBetween x (occurrences x y 0 x.length (x.length+1)) y.length).length<=cj:=by
  have e1:=StrLaws.occ_length_le x y 0 x.length (x.length+1);rw[length_partsBetween];omega
 cases h1:(decide (x.length<y.length)||decide (strKind x<strKind y))
 .cases hf:(occurrences x y 0 x.length (x.length+1)).isEmpty
  .refine call_meets F.slot_str_split (typeIs_str _ _ _) F.entry_str_split (F.args_str_split_2 _ _) (meets_str_split_sep x y t u h1 hy hf (by omega) hn) ?_;show wants Q E _ {s with toks:=_,heap:=s.heap.push {cls:=.type "list",data:=.seq (strsFrom s.toks (partsBetween x (occurrences x y 0 x.length (x.length+1)) y.length)).toArray}};rw[strsFrom_eq];exact h (numbered s.toks _) _ ((numbered_texts _ _).trans ((if_neg (ne_true_of_eq_false h1)).trans (if_neg (ne_true_of_eq_false hf))).symm)
  .exact call_meets F.slot_str_split (typeIs_str _ _ _) F.entry_str_split (F.args_str_split_2 _ _) (meets_str_split_not_found x y t u h1 hy hf)
    (h [(x,t)] s.toks ((if_neg (ne_true_of_eq_false h1)).trans (if_pos hf)).symm)
 .exact call_meets F.slot_str_split (typeIs_str _ _ _) F.entry_str_split (F.args_str_split_2 _ _) (meets_str_split_cannot_occur x y t u h1) (h [(x,t)] s.toks (if_pos h1).symm)
end
theorem ah2:∀l:List (Str×Tok),Vals ((l.map (·.1)).map V.str) (strValues l)
 |[]=>.nil
 |p::r=>.cons ⟨p.2,rfl⟩ (ah2 r)
theorem alR{K:Fg}:∀l:List Str,cH K H (l.map D.str) (l.map V.str)
 |[]=>.nil
 |x::r=>.cons (.str x) (alR r)
section
noncomputable def a1T:RM3:=λx xs G R=>match x,xs with
 |.str a,[.str b]=>(b.length==0)=ao/\a.length+2<=cj/\(Txt.split a b).length<=cj/\∀q,G q=aq->R (.ref q) (aJ G q (.lst ((Txt.split a b).map D.str)))
 |_,_=>False
theorem m_split:a9F X "str.split" a1T:=λpins s σ H x xs vx vs u us G R Q I rx rs ru rv g q k=>by
 cases rx with
 |str j =>
  cases rs with
  |nil=>exact False.elim q
  |cons r rr =>
   cases rr with
   |cons _ _=>cases r<;>exact False.elim q
   |nil =>
    cases r with
    |str i =>
     obtain⟨t,rfl⟩:=ru;obtain⟨u2,rfl,t2,rfl⟩:=vals1 rv;obtain⟨q1,q2,q3,q4⟩:=q;refine aCS q1 q2 λl tk e=>?_;have fr:H s.heap.objs.size=aq:=I.hok.fresh (gw _);have sn:Same H (upd H s.heap.objs.size (.lst ((Txt.split j i).map V.str))):=bO fr
     have J:Inv X pins σ (upd H s.heap.objs.size (.lst ((Txt.split j i).map V.str))) {s with heap:=s.heap.push {cls:=.type "list",data:=.seq (strValues l).toArray},toks:=tk} :=
      I.laid (t':=tk) (o:=.lst _) (λb o e=>dj _ e) (gw _) ⟨by rw[dg];exact q3,_,0,by rw[←e];exact ah2 l,jd _ rfl⟩
     exact⟨.ref s.heap.objs.size,_,J,rfl,k _ _ (.ref _) _ (.same sn) (.ref _) (g.put (u:=.lst _) fr ⟨_,aP,alR _⟩) (q4 _ (uX g fr (yC J)))⟩
    |_=>exact False.elim q
 |_ =>
  cases rs with
  |nil=>exact False.elim q
  |cons r rr=>cases rr<;>cases r<;>exact False.elim q
noncomputable def ah3:List D->Gp->iG->Prop:=λxs G R=>match xs with
 |[.int i]=>i.natAbs.log2<1920/\R (.str (toString i)) G
 |[.str z]=>R (.str z) G
 |_=>False
theorem aiJ:xY X (.type "str") (λxs H Q=>(∃i,xs=[.int i]/\i.natAbs.log2<1920/\Q (.str (toString i)) H)∨∃z,xs=[.str z]/\Q (.str z) H):=by
 intro pins s σ H xs us Q I r h;rcases h with⟨i,rfl,hz,q⟩|⟨z,rfl,q⟩
 .obtain⟨u,rfl,t,rfl⟩:=vals1 r;exact PySem.P.str_of_int hz ⟨.str _,H,I.tok _,⟨_,rfl⟩,q⟩
 .obtain⟨u,rfl,t,rfl⟩:=vals1 r;exact PySem.P.str_of_str ⟨.str _,H,I,⟨_,rfl⟩,q⟩
theorem aRX:dG X (.type "str") ah3:=dG.of aiJ λH xs vs G R Q rx g q k=>by
 cases rx with
 |nil=>exact False.elim q
 |cons r rr =>
  cases rr with
  |cons _ _=>cases r<;>exact False.elim q
  |nil =>
   cases r with
   |int i=>exact .inl ⟨i,rfl,q.1,λ_=>k _ H _ G (.refl H) (.str _) g q.2⟩
   |str z=>exact .inr ⟨z,rfl,λ_=>k _ H _ G (.refl H) (.str _) g q⟩
   |_=>exact False.elim q
noncomputable def cZ:List D->Gp->iG->Prop:=λxs G R=>match xs with
 |[.ref q]=>(match bQ G q with
  |some ds=>R (.tup ds) G
  |none=>False)
 |_=>False
set_option tactic.hygienic true in
theorem aCT:dG X (.type "tuple") cZ:=dG.of af6 λH xs vs G R Q rx g q k=>by
 cases rx with
 |nil=>exact False.elim q
 |cons r rr =>
  cases rr with
  |cons _ _=>cases r<;>exact False.elim q
  |nil =>
   cases r with
   |ref a =>
    have q':(match bQ G a with
     |some ds=>R (.tup ds) G
     |none=>False):=q
    split at q'
    .rename_i ds e1;obtain⟨xs,h1,r1⟩:=cB g e1;refine⟨a,xs,rfl,.inl ⟨h1,λl hl kf=>?_⟩⟩;have sn:Same H (upd H l (.tup xs)):=bO hl;exact k _ _ _ _ (.same sn) (.tup (zL.of aP) (r1.mono (.same sn)) (atJ aP)) (g.same sn) q'
    .exact q'.elim
   |_=>exact False.elim q
end
end
section
section
end
end
section
open PySem.W
section
end
section
end
end
section
open PySem.W
section
end
section
end
end
section
open PySem.W
section
end
section
end
end
section
open PySem.W
section
section
variable{κ:Type}[DecidableEq κ]
end
end
section
end
end
section
open PySem.W
section
end
end
section
open PySem.W
section
end
section
end
section
end
section
end
section
end
end
section
open PySem.W
section
end
section
end
section
end
end
section
open PySem.W
section
end
end
section
noncomputable def Ite(K:Fg)(a:bx):It :=
 ⟨λi H=>∃xs x,zN K H a xs/\xs[i]?=aj x,
  λi H v H'=>∃p x,H p=aq/\v=.ref p/\H'=upd H p (.tup [.int i,x])/\∀xs,zN K H a xs->xs[i]?=aj x,
  λi H=>∃xs,zN K H a xs/\xs.length=i⟩
def aX3(e it l:bx)(i:Nat)(h:jq):Prop:=(∃old,IsEnum h e it i old)/\h.IsListIter it l i
theorem au2{K:Fg}{pt:Pos}(hei:e≠it)(hl:l≠it)(hle:e≠l):Turn ak tl P w K (.Tuple es kt pt) (Ite K l) [e,it] e (aX3 e it l) where
 mem:=by simp
 obj:=λi h st b hb=>by
  obtain⟨⟨old,he⟩,⟨o,e1,_,d1⟩⟩:=st;simp only[jc,rm,or_false]at hb;rcases hb with rfl|rfl
  .exact⟨_,he,λv z=>nomatch z⟩
  .exact⟨o,e1,λv z=>by rw[d1]at z;cases z⟩
 keep:=λi h h' st k=>by
  obtain⟨⟨old,he⟩,s1⟩:=st;exact⟨⟨old,k e (by simp) _ he⟩,s1.at λo x=>k it (by simp) o x⟩
 item:=by
  intro X hP hw hK hcm ht i pins s σ H E I hf st hg;subst hP hw hK;obtain⟨⟨old,he⟩,hit⟩:=st;obtain⟨xs,x,q,ex⟩:=hg;obtain⟨us,r,p,_⟩:=I.list q;obtain⟨u,hu,ru⟩:=r.get ex;have hlt:i<us.toArray.size:=by simpa using(jf.mp hu).1
  have fr:=I.hok.fresh (gw s.heap.objs.size);have lt:∀{c o},s.heap.get? c=aj o->s.heap.objs.size≠c:=λe=>a0k (gk e);have n1:s.heap.objs.size≠it:=by obtain⟨_,e,_⟩:=hit;exact lt e
  have D:=Draws.list (prog:=X.prog) (w:=X.w) (A:=X.A.in1) (I.ok.hd (hcm rfl)) it l hl us.toArray;refine wpAny_pyNext_enum_itemD D he ⟨hit,p.isList⟩ hlt hei (by simp[hei,hle]) λx' h' tk hx' ho st' hT hsz hk=>?_;have ex':x'=u:=by simpa[hu]using hx'.symm
  subst ex';refine⟨_,rfl,wpAny_letOwnedTupleGo_enum (s:={s with heap:=h',toks:=tk+1}) ho λh2 he2 sb=>?_⟩
  have k2:∀b o,b∉[e,it]->s.heap.get? b=aj o->h2.get? b=aj o:=λb o hb q =>
   sb.extBut _ _ (λz=>hb (by simp[z])) (hk b o (λz=>hb (by simp[z])) (λz=>hb (by simp[z])) q)
  refine⟨.ref s.heap.objs.size,upd H s.heap.objs.size (.tup [.int i,x]),I.ah0 (t':=tk+1) (ch:=[e,it]) k2 hf (gw _) ⟨show 2<=cj by decide,[.int i tk,x'],.cons ⟨tk,rfl⟩ (.cons ru .nil),⟨_,sb.extBut _ _ (lt he) hT,rfl,_,rfl⟩⟩,rfl,
   ⟨_,x,fr,rfl,rfl,λxs' q'=>by rw[I.ac2 q' q];exact ex⟩,⟨⟨x',by simpa using he2⟩,st'.1.extBut sb.extBut (Ne.symm hei)⟩,λb hb=>?_⟩
  have hb2:=hb;simp only[jc,rm,or_false]at hb2;rw[bT]
  .exact(hf b hb).1
  .intro q;rcases hb2 with e|e
   .exact lt he (q.symm.trans e)
   .exact n1 (q.symm.trans e)
 done:=by
  intro X hP hw hK hcm ht i pins s σ H E I hf st hg;subst hP hw hK;obtain⟨⟨old,he⟩,hit⟩:=st;obtain⟨xs,q,hl2⟩:=hg;obtain⟨us,r,p,_⟩:=I.list q;have hn:us.toArray.size=i:=by rw[fj,←r.length];exact hl2
  have D:=Draws.list (prog:=X.prog) (w:=X.w) (A:=X.A.in1) (I.ok.hd (hcm rfl)) it l hl us.toArray;exact wpAny_pyNext_enum_endD D he ⟨hn ▸ hit,p.isList⟩ λh' hx=>⟨rfl,I.ar5 (t':=s.toks) (ch:=[e,it]) (λb o hb q=>hx b o (λz=>hb (by simp[z])) q) hf⟩
 self:=λ_ _ _ _ _ st h=>wpAny_pyIter_enum st.1.choose_spec h
theorem a1U{xs:List D}:(enm xs).length=xs.length:=by simp[enm]
theorem aiK{i:Nat}(h:xs[i]?=aj x):(enm xs)[i]?=aj (.tup [.int i,x]):=by
 unfold enm;rw[zx,List.getElem?_zipIdx,h];simp
theorem axP{K:Fg}:alI K (.enu p xs) (Ite K p):=λH2 G2 g ok=>by
 obtain⟨vs,hq,rv⟩:=cB g ok;have hl:(Src.enu p xs).items.length=xs.length:=a1U;refine⟨λi hi=>?_,λi v H' hi hy=>?_,⟨vs,hq,by rw[hl];exact rv.length.symm⟩⟩
 .rw[hl]at hi;obtain⟨y,e1,_⟩:=rv.get (gq hi);exact⟨vs,y,hq,e1⟩
 .obtain⟨a,x,fr,rfl,rfl,h1⟩:=hy;obtain⟨d,e1,e2⟩:=rv.aoD (h1 vs hq);have sn:Same H2 (upd H2 a (.tup [.int i,x])):=bO fr;exact⟨sn,.tup [.int i,d],aiK e1,.tup (zL.of aP) (.cons (.int i) (.cons (e2.mono (.same sn)) .nil)) (atJ aP)⟩
noncomputable def a73(ta:wL):TI3:=λρ G R=>ta ρ G λxs G1=>match xs with
 |[.ref a]=>(match bQ G1 a with
  |some ds=>R (.enu a ds) G1
  |none=>False)
 |_=>False
section
variable{X:Cx}{kt:Nat}{pt:Pos}
set_option tactic.hygienic true in
theorem ar9(hc:X.calm=ak)(hg:Gl X "enumerate")(hm:X.mg "enumerate"=aq)(hv:jz "enumerate"=aj (.type "enumerate"))(ha:PA3 X [a] ta)(hs:jm [a] X.env=[(ao,eval a X.env)]):PIS X (.Tuple es kt pt) (.Call (.Name "enumerate" p) [a] [] pos) (a73 ta):=by
 intro pins s σ H R I h;obtain⟨ρ,G,R3,sr,g,q,k⟩:=h
 refine Call_ (a6R I hg hm hv (PyProof.Rows.callWith_type1 (eU (ha pos pins s σ H (λvs H1=>Ts H H1/\∃ds G1,cH X.K H1 ds vs/\HR X.K H1 G1/\(match ds with
  |[.ref a]=>(match bQ G1 a with
   |some ds=>R3 (.enu a ds) G1
   |none=>False)
  |_=>False)) I ⟨ρ,G,_,sr,g,q,λvs H1 ds G1 t1 r1 g1 q1=>⟨t1,ds,G1,r1,g1,q1⟩⟩) λus s1 ⟨vs,H1,I1,rr,t1,ds,G1,r1,g1,q1⟩=>?_) hs rfl))
 split at q1
 .rename_i l;split at q1
  .rename_i ds e1;cases r1 with
   |cons ra rb =>
    cases rb;cases ra;cases rr with
    |cons ru rn =>
     cases rn;cases ru;obtain⟨xs,hq,rv⟩:=cB g1 e1;obtain⟨its,rv',pp,hz⟩:=I1.list hq
     have al:l<s1.heap.objs.size:=by
      obtain⟨o,ho,_⟩:=pp.isList;exact gk ho
     refine call_enumerate_list pp.isList λh' he hi hsz kk=>wpAny_pyIter_enum (s:={s1 with heap:=h' }) he ?_;refine⟨_,_,_,_,H1,rfl,I1.kept (t':=s1.toks) kk,(show Turn X.calm X.tp X.prog X.w X.K (.Tuple es kt pt) _ _ _ _ from hc ▸ au2 (e:=s1.heap.objs.size+1) (it:=s1.heap.objs.size) (l:=l) (Nat.succ_ne_self _) (mq al) (a0k (a0w al))),⟨⟨_,he⟩,hi⟩,λb hb=>?_,k _ _ H1 _ t1 g1 axP q1⟩
     have hb':s1.heap.objs.size<=b:=by
      simp only[jc,rm,or_false]at hb;rcases hb with e|e<;>rw[e]
      .exact Nat.le_add_right _ _
      .exact gw _
     exact I1.ac3 hb' (I1.hok.fresh hb')
  .exact q1.elim
 .exact q1.elim
end
end
section
section
open Classical in
end
end
section
open PySem.W
section
noncomputable def a1V:RM3:=λx xs G R=>match x,xs with
 |.str j,[]=>Builtin.Str.tooLong (Txt.upper j).length=ao/\R (.str (Txt.upper j)) G
 |_,_=>False
theorem m_upper:a9F X "str.upper" a1V:=λpins s σ H x xs vx vs u us G R Q I rx rs ru rv g q k=>by
 cases rx with
 |str j =>
  cases rs with
  |cons _ _=>exact False.elim q
  |nil =>
   obtain⟨t,rfl⟩:=ru;cases rv;exact SC.upper q.1 ⟨.str _,H,I.tok _,⟨_,rfl⟩,k _ H _ G (.refl H) (.str _) g q.2⟩
 |_=>cases rs<;>exact False.elim q
end
section
end
end
section
structure HdS where
 cx:Str
 cp:Pos
 Dc:bx
 b0:mj
 suite:List mj
 hpos:Pos
 th:aZ
noncomputable def HdS.ast(h:HdS):ExceptHandler:=.ExceptHandler (aj (.Name h.cx h.cp)) aq (h.b0::h.suite) h.hpos
noncomputable abbrev HdS.pr(h:HdS):bx×aZ:=(h.Dc,h.th)
noncomputable def arA(K:Fg)(F:cD)(C:bx):List (bx×aZ)->aL->Gp->Prop
 |[],_,_=>False
 |h::r,ρ,G=>(um K (.ref C) (.ref h.1)=aj ak/\h.2 F ρ G)∨(um K (.ref C) (.ref h.1)=aj ao/\arA K F C r ρ G)
noncomputable def alS(K:Fg)(tb:(aL->aO)->aZ)(hs:List (bx×aZ)):aZ:=λF ρ G=>tb (λρ1 C G1=>arA K F C hs ρ1 G1) F ρ G
section
variable{X:Cx}
structure aJY(X:Cx)(h:HdS):Prop where
 hg:Gl X h.cx
 hm:X.mg h.cx=aj (.ref h.Dc)
 hc:(ux X.K h.Dc).isSome=ak
 ht:a0a X.K (.ref h.Dc)=aj (.type "type")
 hbx:um X.K (.ref h.Dc) (.type "BaseException")=aj ak
 hh:∀x,a4Y (al4 X x) (h.b0::h.suite) h.th
 hd:(h.cx==("__debug__":Str))=ao
set_option tactic.hygienic true in
theorem aJZ{tb:(aL->aO)->aZ} 
  (hcm:X.calm=ak)(hst:X.stack=X.env::X.outer)(hfn:X.env.frame=aj X.env.locals)(ho:∀h∈h0::hr,aJY X h)
  (hb:∀pn EX,a4Y (awS X pn EX) body (tb EX)) :
  PS3 X (.Try body ((h0::hr).map HdS.ast) [] [] pos) (alS X.K tb ((h0::hr).map HdS.pr)):=by
 intro pins s σ H F I h;obtain⟨ρ,G,E3,sr,g,q,d⟩:=h;refine wpAny_Try_except (kj (hb pins _ [] s σ H F (aqQ I _) ⟨ρ,G,E3,sr,g,q,d⟩) (λf s1 q1=>?_) λe s1 q1=>?_)
 .have q2:=al6 q1;cases f with
  |next=>exact a1i q2
  |brk=>exact q2
  |cont=>exact q2
  |ret u=>exact q2
 .obtain⟨oW,σ1,H1,s0,ρ1,I1,sr1,x,C,H',B,rfl,fl,hok,cov,a2F,un,os,bare,c,G',e2,g',hp⟩:=q1;cases e2;have J1:Inv X pins σ1 H1 s0:=rQ I1;have hn:X.A.handled=aq:=I.ok.hd hcm;have hfr:X.A.frames=aj (X.env::X.outer):=by rw[←hst];exact I.ok.frames
  have fl':Fly B (X.env::X.outer) x (.ref C) s1.heap:=by rw[←hst];exact fl
  refine ahR (B:=B) hfr hfn fl' λh4 awU sm4=>?_;refine wN awU λh5 fl5 sm5=>?_;have hxB:B.get? x=aq:=fl.new;have nxH:H' x=aq:=acD hok hxB
  have track:∀(h6:jq)(oe:Obj)(ws:Array au),Fly B (X.env::X.outer) x (.ref C) h6->s1.heap.UpToSlots h6->h6.get? x=aj oe->oe.cls=.ref C->oe.data=.fields ws ->
    Inv X pins σ1 (upd H' x (.frz oe (.ext (sE C x)))) {s1 with heap:=h6}/\Ts H1 (upd H' x (.frz oe (.ext (sE C x)))):=by
   intro h6 oe ws fl6 sm a6W acE yE;have un6:=awT (P:=X.prog) (w:=X.w) fl cov a2F un fl6.stays sm
   have nx0:s0.heap.get? x=aq:=by
    cases e0:s0.heap.get? x with
    |none=>rfl
    |some o =>
     by_cases hx:x∈frs X.stack
     .obtain⟨_,o',ho',hd'⟩:=fl6.akX.mem (by rw[←hst];exact hx);rw[a6W]at ho';cases ho';exact absurd yE (hd' ws)
     .obtain⟨o',ho'⟩:=a2F x o e0 hx;rw[hxB]at ho';cases ho'
   have sn:Same H' (upd H' x (.frz oe (.ext (sE C x)))):=bO nxH;have nst:∀b o,s0.heap.get? b=aj o->b≠x:=λb o e z=>by subst z;rw[nx0]at e;cases e
   have un7:Un (frs X.stack) [] H1 (upd H' x (.frz oe (.ext (sE C x)))) s0.heap h6:=⟨un6.keep,un6.slot,λb o e n hx=>by rw[bT (nst b o e)];exact un6.free b o e n hx,un6.there,λb xs z=>sn _ _ (un6.tups b xs z),λb o u z=>sn _ _ (un6.lA b o u z),λb ps z=>by
    obtain⟨m,e⟩:=un6.wO b ps z;exact⟨m,sn _ _ e⟩⟩
   have aIW:HOk X.prog X.w (upd H' x (.frz oe (.ext (sE C x)))) h6:=λb o e=>by
    by_cases hb:b=x
    .subst hb;rw[aP]at e;cases e;refine⟨a6W,⟨oe,ws,a6W,acE,yE⟩,⟨oe,a6W⟩,λh1 h2 ⟨o1,w1,e1,e2,e3⟩ k=>⟨o1,w1,k _ e1,e2,e3⟩⟩
    .rw[bT hb]at e;exact((hok.kept fl6.stays) b o e).stay (λ_ _ _ z=>z) (λc z=>sn _ _ z) λc xs z=>sn _ _ z
   exact⟨J1.call' (ch:=[]) (s':={s1 with heap:=h6}) os un7 aIW bare (λb z=>absurd z (by simp)),un7.tups,un7.lA⟩
  obtain⟨oe,ws5,hoe,hoec,hoed,aIX⟩:=fl5.fld;obtain⟨J5,_⟩:=track h5 oe ws5 fl5 (sm4.trans sm5) hoe hoec hoed
  have go:∀hs:List HdS,(∀h∈hs,aJY X h)->arA X.K E3 C (hs.map HdS.pr) ρ1 G'->dh (dz X.prog X.w) X.A (handleBy (.ref x) X.env (hs.map HdS.ast)) (SP X pins F) X.xe {s1 with heap:=h5}:=by
   intro hs
   induction hs with
   |nil=>intro _ z;exact z.elim
   |cons hd r ih =>
    intro ho hp;have k:=ho hd (.head _);show dh _ _ (handleBy (.ref x) X.env (.ExceptHandler (aj (.Name hd.cx hd.cp)) aq (hd.b0::hd.suite) hd.hpos::r.map HdS.ast)) _ _ _;refine wpAny_handleBy_cons (codeAny_handlers_test ?_) (by intro q;cases q);refine oJ (X:=al4 X x) (aaU J5 x (.inr ⟨x,oe,_,ws5,rfl,aP,hoed,aIX⟩)) k.hg k.hm ?_ k.hd;rcases hp with⟨hsub,hth⟩|⟨hsub,hp⟩
    .refine aIS (K:=X.K) J5.kIn hoe hoec k.hc k.ht k.hbx hsub ?_;refine codeAny_handlers_suite ?_;refine wN fl5 λh6 fl6 sm6=>?_;obtain⟨oe6,ws,a6W,acE,yE,aqR⟩:=fl6.fld;obtain⟨J7,tt⟩:=track h6 oe6 ws fl6 ((sm4.trans sm5).trans sm6) a6W acE yE
     refine kj (k.hh x pins {s1 with heap:=h6} _ _ F (aaU J7 x (.inr ⟨x,oe6,_,ws,rfl,aP,yE,aqR⟩))
      ⟨ρ1,G',_,sr1.mono tt,g'.same (bO nxH),hth,d⟩) (λf s9 q9=>?_) λ_ _ z=>z.elim
     cases f with
     |next=>obtain⟨σ2,H2,I2,z⟩:=q9;exact⟨σ2,H2,jQ J7.ok hn I2,z⟩
     |brk=>obtain⟨σ2,H2,I2,z⟩:=q9;exact⟨σ2,H2,jQ J7.ok hn I2,z⟩
     |cont=>obtain⟨σ2,H2,I2,z⟩:=q9;exact⟨σ2,H2,jQ J7.ok hn I2,z⟩
     |ret u=>obtain⟨v,σ2,H2,I2,r2,z⟩:=q9;exact⟨v,σ2,H2,jQ J7.ok hn I2,r2,z⟩
    .exact aIS (K:=X.K) J5.kIn hoe hoec k.hc k.ht k.hbx hsub (ih (λh m=>ho h (.tail _ m)) hp)
  exact go _ ho hp
end
end
variable{Q:Unit->cg->Prop}
section
section
variable{A:qb}{E:au->cg->Prop}{s:cg}{B:jq}{env:Env}{outer:List Env}{x:bx}{fl:au}
theorem aCU{fr:Option bx}(f:zF B l x C fl s.heap)(h:∀h' fl',zF B l x C fl' h'->s.heap.UpToSlots h'->Q () {s with heap:=h' }):dh M A (setFlight (.ref x) fr) Q E s:=by
 obtain⟨st,nw,fu,⟨o,vs,T,oT,ts,e1,e2,e3,e4,e5,e6,e7,e8,e9,e10⟩⟩:=f;unfold setFlight;refine bw (jx e1 e3 e4 ?_);rw[if_pos (by simp)];have l3:3<ts.size:=(wj.mp e10).1;obtain⟨u1,u2,u3,u4⟩:=kY (i:=3) (v:=fr.elim au.none λf=>a0r f) e8 e9;refine vo e8 e9 l3 (h _ (fr.elim au.none λf=>a0r f) ⟨λb u q=>?_,nw,fu.of_keeps λb u q n=>⟨u,(u4 b (oH e8 e9 q n)).trans q,rfl⟩,⟨o,vs,T,_,_,(u4 x (Ne.symm e7)).trans e1,e2,e3,e4,e5,e6,e7,u1,u2,?_⟩⟩ λb u q n=>⟨u.slots,(u4 b (oH e8 e9 q n)).trans q⟩)
 .exact(u4 b λz=>by subst z;rw[e6]at q;cases q).trans (st b u q)
 .simp[l3]
theorem alT(hfr:A.frames=aj (env::outer))(hf:env.frame=aj L)(f:zF B (env::outer) x C fl s.heap)(h:∀h' fl',zF B (env::outer) x C fl' h'->s.heap.UpToSlots h'->Q () {s with heap:=h' }):dh M A (noteFrame (.ref x) env) Q E s:=by
 have f0:=f;obtain⟨st,nw,fu,⟨o,vs,T,oT,ts,e1,e2,e3,e4,e5,e6,e7,e8,e9,e10⟩⟩:=f;unfold noteFrame;simp only[hf];refine bw (jx e1 e3 e4 ?_);rw[if_pos (by simp)];refine bw (jx e8 e9 e10 ?_);by_cases cc:(fl==a0r L)=ak
 .rw[if_pos cc];exact gV (h s.heap fl f0 λb u q n=>⟨u.slots,q⟩)
 rw[if_neg cc];have l3:3<ts.size:=(wj.mp e10).1;obtain⟨u1,u2,u3,u4⟩:=kY (i:=3) (v:=.none) e8 e9;refine bw (vo e8 e9 l3 ?_);refine abY hfr hf (λb u q=>(u4 b λz=>by subst z;rw[e6]at q;cases q).trans (st b u q)) nw (fu.of_keeps λb u q n=>⟨u,(u4 b (oH e8 e9 q n)).trans q,rfl⟩) ((u4 x (Ne.symm e7)).trans e1) e2 e3 (wj.mp e4).1 e5 λh' f' up=>h h' _ f' ?_;exact λb u q n=>up b u ((u4 b (oH e8 e9 q n)).trans q) n
theorem au3(hfr:A.frames=aj (env::outer))(hf:env.frame=aj L)(f:zF B (env::outer) x C fl s.heap)(h:∀h',Fly B outer x C h'->s.heap.UpToSlots h'->Q () {s with heap:=h' }):dh M A (leaving env (.ref x)) Q E s:=by
 unfold leaving;refine bw (alT hfr hf f λh1 fl1 f1 up1=>wN f1 λh2 f2 up2=>?_);exact h h2 f2.tail (up1.trans up2)
end
noncomputable def CXb(P:lq)(w:jg)(Cb:bx):CXT:=λouter H s E e s'=>∃(x C:bx)(H':Hp)(B:jq)(fl:au),e=.ref x/\zF B outer x (.ref C) fl s'.heap/\HOk P w H' B /\
 (∀b o,b≠Cb->s.heap.get? b=aj o->H b=aq->b∉frs outer->B.get? b=aj o)/\(∀b o,b≠Cb->s.heap.get? b=aj o->b∉frs outer->∃o',B.get? b=aj o') /\
 Un (frs outer) [Cb] H H' s.heap s'.heap/\s'.os=s.os/\a1f s'.gens/\E (.ref C) aq H'
section
variable{qt:Bool}{w:jg}{K:Fg}{mg:Str->Option au}{base:jq}{N:List Str}{cd:au}{A:qb}{outer:List Env}{s₀:cg}{H₀:Hp}
theorem aCV{Cb:bx}(h0:s₀.heap.get? Cb=aq)(hE:∀C H',E' C aq H'->E C aq H')(I:Inv (cx1 qt P w K mg base N qual scope f cd A outer s₀ H₀ E) pins σ H s)
  (c:CXb P w Cb (cx1 qt P w K mg base N qual scope f cd A outer s₀ H₀ E).stack H s E' e s'):(cx1 qt P w K mg base N qual scope f cd A outer s₀ H₀ E).xe e s':=by
 obtain⟨x,C,H',B,mk,rfl,fl,hok,cov,a2F,un,os,bare,q⟩:=c;have nC:∀{b:bx}{o:Obj},s₀.heap.get? b=aj o->b≠Cb:=λ{b o} e z=>by rw[z,h0]at e;cases e
 have hst:(cx1 qt P w K mg base N qual scope f cd A outer s₀ H₀ E).stack=(cx1 qt P w K mg base N qual scope f cd A outer s₀ H₀ E).env::outer:=rfl;refine au3 (B:=B) I.ok.frames rfl fl λh2 k1 k4=>?_
 have hfs:∀b∈frs outer,b∈frs (cx1 qt P w K mg base N qual scope f cd A outer s₀ H₀ E).stack:=λb hb=>by
  obtain⟨env,he,hf⟩:=aaS hb;exact a1R (gb _ he) hf
 have hfd:∀b∈frs outer,∀o,s'.heap.get? b=aj o->∀vs,o.data≠.fields vs:=λb hb o e=>by
  obtain⟨_,o',ho',hd⟩:=fl.akX.mem (hfs b hb);rw[e]at ho';cases ho';exact hd
 refine⟨x,C,H',B,rfl,k1,hok,λb o eb nb hb=>?_,λb o eb hb=>?_,⟨λb o eb nb hb _=>?_,λb o eb nb hb _=>?_,λb o eb nb hx=>?_,λb o eb hx=>?_,λb xs z=>un.tups b xs (I.base.tups b xs z),λb o u z=>un.lA b o u (I.base.lA b o u z),λb ps z=>?_⟩,os.trans I.os,bare,hE _ _ q⟩
 .exact cov b o (nC eb) (I.base.keep b o eb nb hb (by simp[jJ])) (I.base.free b o eb nb (by simp[jJ])) (dU I hst rfl eb hb)
 .obtain⟨o',e'⟩:=I.base.there b o eb (by simp[jJ]);exact a2F b o' (nC eb) e' (dU I hst rfl eb hb)
 .exact k1.stays b o (cov b o (nC eb) (I.base.keep b o eb nb hb (by simp[jJ])) (I.base.free b o eb nb (by simp[jJ])) (dU I hst rfl eb hb))
 .obtain⟨sl,e1⟩:=I.base.slot b o eb nb hb (by simp[jJ]);obtain⟨sl2,e2⟩:=un.slot b _ e1 (I.base.free b o eb nb (by simp[jJ])) (hfs b hb) (by simpa using nC eb);obtain⟨sl3,e3⟩:=k4 b _ e2 (hfd b hb _ e2);exact⟨sl3,e3⟩
 .obtain⟨o',e'⟩:=I.base.there b o eb (by simp[jJ]);exact un.free b o' e' (I.base.free b o eb nb (by simp[jJ])) (by simpa using nC eb)
 .obtain⟨o',e'⟩:=I.base.there b o eb (by simp[jJ]);by_cases hb:b∈frs outer
  .obtain⟨o2,e2⟩:=un.there b o' e' (by simpa using nC eb);obtain⟨sl,e3⟩:=k4 b o2 e2 (hfd b hb o2 e2);exact⟨_,e3⟩
  .obtain⟨o2,e2⟩:=a2F b o' (nC eb) e' (dU I hst rfl eb hb);exact⟨o2,k1.stays b o2 e2⟩
 .obtain⟨m1,e1⟩:=I.base.wO b ps z;obtain⟨m2,e2⟩:=un.wO b _ e1;exact⟨m1++m2,by rw[e2,Array.append_assoc]⟩
end
end
section
section
variable{X:Cx}{xs:List Str}{tgt:jt}{dv:D->Option (List D)}{scope:yc}{iter elt:jt}{ifs:List jt}{pos:Pos}{tc:TT3}{te:dB}
noncomputable def xeC(X:Cx)(xs:List Str)(scope:yc)(C:bx)(s₃:cg)(H₃:Hp)(fp:List bx)(pins:List (bx×Obj))(EXk:aO):au->cg->Prop:=λe s5=>∃oW σ' H' s',Inv (dN X xs scope C s₃ H₃ fp pins) oW σ' H' s'/\j4 X.prog X.w X.stack H' s' (zR X.K EXk) e s5
set_option tactic.hygienic true in
theorem aoP{EXk:aO}(c:sH X xs scope)(hT:∀C s H fp pins σ,aoM (dN X xs scope C s H fp pins) tgt xs dv σ)(hdv:∀d ds,dv d=aj ds->ds.length=xs.length)(hc:∀C s H fp pins,alD (dN X xs scope C s H fp pins) ifs tc)(he:∀C s H fp pins,dR ((dN X xs scope C s H fp pins).wish (xeC X xs scope C s H fp pins EXk)) elt te){σ:St}{H H2:Hp}{ρ:aL}{it:bx}{fp:List bx}(sr:SR X.K H ρ σ)(I2:Inv X pins σ H2 s2)(T:Turn X.calm X.tp X.prog X.w X.K tgt J fp it tn)(st2:tn 0 s2.heap)(f2:∀b∈fp,wQ X pins H2 b)(t1:Ts H H2)(g1:HR X.K H2 G1)(sj:a9G X.K H2 src J)
  (hlen:src.items.length<cj)(body:∀p,G1 p=aq->∃P:Nat->List D->Gp->Prop,P 0 [] (aJ G1 p (.lst [])) /\
   (∀k ds G,k<=src.items.length->P k ds G->src.ok G/\G p=aj (.lst ds)/\ds.length<=k) /\
   (∀k d ds G,src.items[k]?=aj d->P k ds G->∃ys,dv d=aj ys/\tc (ys.map aj++ρ) G λb G2=>if b=ak then te (ys.map aj++ρ) G2 λy G3=>G3 p=aj (.lst ds)/\P (k+1) (ds++[y]) (aJ G3 p (.lst (ds++[y])))else P (k+1) ds G2) /\
   ∀ds G,P src.items.length ds G->∃G0,Le G0 G/\R (.ref p) G0)
  (hRX:∀(Da:bx)(s3:cg)(H3:Hp),Inv X pins σ H3 s3->(∀b∈fp,wQ X pins H3 b/\b<s3.heap.objs.size)->∀e s5,xeC X xs scope s3.heap.objs.size s3 H3 fp pins EXk e s5->notedBy (dz X.prog X.w) X.A (compEnvC scope (jR X.env.cells scope.names []) s3.heap.objs.size X.env) (λe s'=>RR (.ref Da) s3.heap.objs.size (.error e) s') e s5)
  (hRR:∀Da C s5 H' G0,Inv X pins σ H' s5->ax2 X pins H' C s5.heap->Ts H H'->HR X.K H' G0->R (.ref Da) G0->RR (.ref Da) C (.ok .next) s5) :
  dh (dz X.prog X.w) X.A (newList []) (λacc s₃=>dh (dz X.prog X.w) X.A (newFunctionEnv scope X.env.globals (jR X.env.cells scope.names []) [] X.env.qual aq .none (aj X.env)) (λcenv s₄ =>
   a0i (dz X.prog X.w) X.A (.compStart (.ListComp elt [⟨tgt,iter,ifs,0⟩] scope pos) 0 (.ref it) acc {cenv with scope:=relabel scope X.env}) (RR acc cenv.locals) s₄) X.xe s₃) X.xe s2:=by
 refine uw ?_;have I3:=I2.aI8 (its:=[]) (ys:=[]) (t':=s2.toks) .nil (by decide);have hD:H2 s2.heap.objs.size=aq:=I2.fresh;have kf:=yC I3;have gD:G1 s2.heap.objs.size=aq:=uX g1 hD kf;obtain⟨P,p0,pok,pst,pend⟩:=body _ gD
 have ltD:∀b∈fp,b<s2.heap.objs.size:=λb hb=>by
  obtain⟨o,e,_⟩:=T.obj 0 _ st2 b hb;exact gk e
 have hsz3:(s2.heap.push {cls:=.type "list",data:=.seq ([]:List au).toArray}).objs.size=s2.heap.objs.size+1:=zj ..
 have hf3:∀b∈fp,wQ X pins (upd H2 s2.heap.objs.size (.lst [])) b/\b<(s2.heap.push {cls:=.type "list",data:=.seq ([]:List au).toArray}).objs.size:=λb hb=>by
  obtain⟨f0,fr⟩:=f2 b hb;exact⟨⟨by rw[bT (mq (ltD b hb))];exact f0,fr⟩,by rw[hsz3];exact a0w (ltD b hb)⟩
 refine wpAny_newFunctionEnv c.aiC (by intro y hy;simp at hy) (λh₁ hns₁ hsb₁=>?_) c.kind;dsimp only at hns₁ hsb₁ ⊢;generalize hH3:s2.heap.push {cls:=.type "list",data:=.seq ([]:List au).toArray}=h3 at *;generalize hDe:s2.heap.objs.size=Da at *;have alF:∀b o,h3.get? b=aj o->h₁.get? b=aj o:=λb o e=>hsb₁.extBut b o (mq (gk e)) (dj _ e)
 show a0i (dz X.prog X.w) X.A (Code.compStart (elt.ListComp [{target:=tgt,iter:=iter,ifs:=ifs,is_async:=0}] scope pos) 0 (au.ref it) (au.ref Da) (compEnvC scope (jR X.env.cells scope.names []) h3.objs.size X.env))
  (RR (.ref Da) h3.objs.size) {s2 with heap:=h₁,toks:=s2.toks+([]:List (Str×au)).length}
 have J0:=ax1 (tk:=s2.toks+([]:List (Str×au)).length) I3 c rfl hf3 hns₁ alF;have st1:tn 0 h₁:=T.keep _ _ _ st2 λb hb o e=>alF b o (by rw[←hH3];exact dj _ e);have g0:HR X.K (upd H2 Da (.lst [])) (aJ G1 Da (.lst [])):=g1.put (u:=.lst []) hD ⟨[],aP,.nil⟩;have ts0:Ts H2 (upd H2 Da (.lst [])):=.same (bO hD)
 have loop:∀s₄:cg,Inv (dN X xs scope h3.objs.size {s2 with heap:=h3,toks:=s2.toks} (upd H2 Da (.lst [])) fp pins) [] (nn xs σ) (upd H2 Da (.lst [])) s₄->tn 0 s₄.heap ->
   a0i (dz X.prog X.w) X.A (.compLoop (.ListComp elt [⟨tgt,iter,ifs,0⟩] scope pos) 0 (.ref it) (.ref Da) (compEnvC scope (jR X.env.cells scope.names []) h3.objs.size X.env)) (RR (.ref Da) h3.objs.size) s₄:=by
  intro s₄ J4 st4
  refine alE (λn s'=>∃i ds H' G',Inv (dN X xs scope h3.objs.size {s2 with heap:=h3,toks:=s2.toks} (upd H2 Da (.lst [])) fp pins) [] (nn xs σ) H' s'/\tn i s'.heap/\(∀b∈fp,H' b=aq)/\HR X.K H' G'/\P i ds G'/\i<=src.items.length/\n=src.items.length - i/\Ts H2 H') (λn s' hI=>?_) src.items.length
   ⟨0,[],_,_,J4,st4,λb hb=>(hf3 b hb).1.1,g0,p0,yh _,by simp,ts0⟩
  obtain⟨i,ds,H',G',J,st,fr,g',p,hi',rfl,ts⟩:=hI;obtain⟨ok,hDl,hdl⟩:=pok i ds G' hi' p;obtain⟨sgo,aJD,ax3⟩:=sj H' G' ts g' ok
  have fpX:∀{H':Hp},(∀b∈fp,H' b=aq)->∀b∈fp,wQ (dN X xs scope h3.objs.size {s2 with heap:=h3,toks:=s2.toks} (upd H2 Da (.lst [])) fp pins) [] H' b:=λhn b hb=>by
   obtain⟨⟨f0,f1,f2',f3,f4,f5⟩,lt⟩:=hf3 b hb;refine⟨hn b hb,mq lt,λhs=>?_,.inl hb,λy d e=>f4 y d (iH e λ_ h=>by simp at h),λp' hp'=>f5 p' (by simpa using hp')⟩;rcases aaZ I3 hs with z|z
   .exact f1 z
   .exact f2' z
  by_cases hlt:i<src.items.length
  .refine kj (T.item (dN X xs scope h3.objs.size {s2 with heap:=h3,toks:=s2.toks} (upd H2 Da (.lst [])) fp pins) rfl rfl rfl (λh=>h) (λ_ h=>h) i [] s' (nn xs σ) H' (λ_ _=>False) J (fpX fr) st (sgo i hlt)) ?_ λ_ _ z=>z.elim;rintro r s5 ⟨u,hr,h5⟩;subst hr
   obtain⟨d0,ys,hd0,ey,aJF⟩:∃d ys,src.items[i]?=aj d/\dv d=aj ys/\tc (ys.map aj++ρ) G' λb G2=>if b=ak then te (ys.map aj++ρ) G2 λy G3=>G3 Da=aj (.lst ds)/\P (i+1) (ds++[y]) (aJ G3 Da (.lst (ds++[y])))else P (i+1) ds G2:=by
    have hd:src.items[i]?=aj src.items[i]:=gq hlt;obtain⟨ys,e,z⟩:=pst i _ ds G' hd p;exact⟨_,ys,hd,e,z⟩
   show dh _ _ (a0t tgt (.ref it) u) _ _ s5;refine kj h5 ?_ λ_ _ z=>z.elim;rintro _ s6 ⟨vx,H6,I6,r6,y6,st6,fr6⟩;obtain⟨sm,d,hd,rd⟩:=aJD i vx H6 hlt y6;have g':=g'.same sm;have ts:=ts.trans (.same sm);obtain rfl:d0=d:=mz.inj (hd0.symm.trans hd);have I6':=I6.pinned (fpX fr6) (T.obj _ _ st6);refine kj (hT _ _ _ _ _ _ _ s6 H6 vx u _ _ I6' r6 rd ey) ?_ λ_ _ z=>z.elim;rintro _ s7 ⟨vs,rvs,I7⟩;have lv:vs.length=xs.length:=by rw[←rvs.length];exact hdv _ _ ey
   have acN:∀{s'':cg}{σ'':St}{H'':Hp},Inv (dN X xs scope h3.objs.size {s2 with heap:=h3,toks:=s2.toks} (upd H2 Da (.lst [])) fp pins) ([]++zO fp s6.heap) σ'' H'' s''->tn (i+1) s''.heap/\∀b∈fp,H'' b=aq:=λI''=>by
    refine⟨T.keep _ _ _ st6 λb hb o e=>(I''.pin (b,o) (nj _ (nj _ (mQ hb e)))).1,λb hb=>?_⟩;obtain⟨o,e,_⟩:=T.obj _ _ st6 b hb;exact(I''.pin (b,o) (nj _ (nj _ (mQ hb e)))).2.1
   have down:∀{s'':cg}{H'':Hp},Inv (dN X xs scope h3.objs.size {s2 with heap:=h3,toks:=s2.toks} (upd H2 Da (.lst [])) fp pins) ([]++zO fp s6.heap) (vs.map aj++σ) H'' s''->Inv (dN X xs scope h3.objs.size {s2 with heap:=h3,toks:=s2.toks} (upd H2 Da (.lst [])) fp pins) [] (nn xs σ) H'' s'':=λI'' =>
    I''.zP.weak (by simp[nn,lv]) λj v e=>by
     obtain⟨j',rfl,e'⟩:=aoL e;rw[←lv,show vs.length=(vs.map aj).length by simp,aiD];exact e'
   have sr7:SR X.K H6 (ys.map aj++ρ) (vs.map aj++σ):=aoN (sr.mono (t1.trans ts)) rvs
   refine kj (hc _ _ _ _ _ _ s7 (vs.map aj++σ) H6 (λb H8=>Ts H6 H8/\∃G8,HR X.K H8 G8/\(if b=ak then te (ys.map aj++ρ) G8 λy G3=>G3 Da=aj (.lst ds)/\P (i+1) (ds++[y]) (aJ G3 Da (.lst (ds++[y])))else P (i+1) ds G8)) I7
    ⟨ys.map aj++ρ,G',_,sr7,g',aJF,λb H8 G8 t8 g8 q8=>⟨t8,G8,g8,q8⟩⟩) (λb s8 ⟨H8,I8,t8,G8,g8,q8⟩=>?_) λ_ _ z=>z.elim
   cases b with
   |false =>
    rw[if_neg (by decide)];have q8':P (i+1) ds G8:=by simpa using q8
    obtain⟨a1,a2⟩:=acN I8;exact⟨src.items.length - (i+1),by omega,i+1,ds,H8,G8,down I8,a1,a2,g8,q8',hlt,rfl,ts.trans t8⟩
   |true =>
    rw[if_pos rfl];have q8':te (ys.map aj++ρ) G8 λy G3=>G3 Da=aj (.lst ds)/\P (i+1) (ds++[y]) (aJ G3 Da (.lst (ds++[y]))):=by simpa using q8
    refine kj (he _ _ _ _ _ _ s8 (vs.map aj++σ) H8 (λvy H9=>Ts H8 H9/\∃y G9,RD X.K H9 y vy/\HR X.K H9 G9/\G9 Da=aj (.lst ds)/\P (i+1) (ds++[y]) (aJ G9 Da (.lst (ds++[y])))) (I8.wish _) ⟨ys.map aj++ρ,G8,_,sr7.mono t8,g8,q8',λvy H9 y G9 t9 r9 g9 q9=>⟨t9,y,G9,r9,g9,q9⟩⟩) ?_ λee ss z=>hRX Da {s2 with heap:=h3,toks:=s2.toks} (upd H2 Da (.lst [])) I3 hf3 ee ss z;rintro uy s9 ⟨vy,H9,I9w,ry,t9,y,G9,ryd,g9,hG9,q9⟩;have I9:=I9w.ahU;obtain⟨ws,hH9,rws⟩:=g9 Da _ hG9;have ax5:ws.length<cj:=by rw[←rws.length];omega
    refine kj (a6V (X:=dN X xs scope h3.objs.size {s2 with heap:=h3,toks:=s2.toks} (upd H2 Da (.lst [])) fp pins) _ s9 (vs.map aj++σ) H9 (.ref Da) [vy] (.ref Da) [uy] (λ_ H10=>H10=upd H9 Da (.lst (ws++[vy]))) I9 rfl (.cons ry .nil) ⟨Da,ws,vy,rfl,rfl,hH9,ax5,rfl⟩) ?_ λ_ _ z=>z.elim;rintro _ s10 ⟨_,H10,I10,_,e10⟩;subst e10;obtain⟨a1,a2⟩:=acN I10;have tt:Ts H9 (upd H9 Da (.lst (ws++[vy]))):=.turn hH9 (λ_ z=>nomatch z) (λ_ _ z=>nomatch z);exact⟨src.items.length - (i+1),by omega,i+1,ds++[y],_,_,down I10,a1,a2,g9.turn (u:=.lst (ds++[y])) tt ⟨_,aP,(rws.append (.cons ryd .nil)).mono tt⟩,q9,hlt,rfl,((ts.trans t8).trans t9).trans tt⟩
  .have ein:i=src.items.length:=by omega
   subst ein;refine kj (T.done (dN X xs scope h3.objs.size {s2 with heap:=h3,toks:=s2.toks} (upd H2 Da (.lst [])) fp pins) rfl rfl rfl (λh=>h) (λ_ h=>h) _ [] s' (nn xs σ) H' (λ_ _=>False) J (fpX fr) st ax3) ?_ λ_ _ z=>z.elim;rintro r s5 ⟨hr,J5⟩;subst hr;obtain⟨m5,hn5,_⟩:=id J5.loc;obtain⟨G0,l0,q0⟩:=pend ds G' p;have I5:Inv X pins σ H' s5:=aiE (tk:=s5.toks) I3 rfl hf3 J5 (yg.refl _ _);refine hRR Da _ s5 H' G0 I5 ⟨⟨m5,hn5⟩,J5.free,a0k I3.lt,I3.sz,λy d e z=>?_,λp hp z=>?_⟩ (t1.trans ts) (g'.le l0) q0
   .obtain⟨w,o,ho,_⟩:=I3.cell y d e;rw[z]at ho;exact absurd (gk ho) (qu _)
   .have:=(I3.pin p hp).1;rw[z]at this;exact absurd (gk this) (qu _)
 exact codeAny_compStart_list (loop _ J0 st1) (T.self X.A 0 _ _ _ st1 (loop _ J0 st1))
end
end
section
structure au4(X:Cx)(EXk:aO):Prop where
 acB:∀pins σ H s Cb e s',Inv X pins σ H s->X.s₀.heap.get? Cb=aq->CXb X.prog X.w Cb X.stack H s (zR X.K EXk) e s'->X.xe e s'
 top:X.stack=X.env::X.outer
 fr:X.env.frame=aj X.env.locals
theorem aRZ{qt:Bool}{K:Fg}{mg:Str->Option au}{base:jq}{cd:au}{outer:List Env}{s₀:cg}{H₀:Hp}(h:UpX K EX E):au4 (cx1 qt P w K mg base N qual scope f cd A outer s₀ H₀ E) EX :=
 ⟨λpins σ H s Cb e s' I h0 c=>aCV (E':=zR K EX) h0 (λC H' q=>acC h q) I c,rfl,rfl⟩
theorem arB{h h' B B':jq}:∀{l:List Env},h.FunFrames B l->(∀b∈frs l,B'.get? b=aq/\h'.get? b=h.get? b)->h'.FunFrames B' l
 |[],_,_=>trivial
 |env::_,⟨hk,⟨L,o,hf,_,ho,hd⟩,hr⟩,hm=>by
  have hL:=hm L (a1R (.head _) hf);refine⟨hk,⟨L,o,hf,hL.1,hL.2.trans ho,hd⟩,arB hr λb hb=>?_⟩;obtain⟨e,he,hf'⟩:=aaS hb;exact hm b (a1R (.tail _ he) hf')
section
variable{X:Cx}{xs:List Str}{dv:D->Option (List D)}{scope:yc}{ifs:List jt}{ti:TI3}{tc:TT3}
theorem aK0(hB:au4 X EXk){s3:cg}{H3:Hp}{Q:au->cg->Prop}(I3:Inv X pins σ H3 s3)(hf3:∀b∈fp,wQ X pins H3 b/\b<s3.heap.objs.size)(z:xeC X xs scope s3.heap.objs.size s3 H3 fp pins EXk e s5) :
  notedBy (dz X.prog X.w) X.A (compEnvC scope (jR X.env.cells scope.names []) s3.heap.objs.size X.env) (λe s'=>compPost (dz X.prog X.w) X.A X.xe aq Q acc s3.heap.objs.size (.error e) s') e s5:=by
 obtain⟨oW,σ',H',s',J,x,C1,H1,B,rfl,fl,hok,cov,a2F,un,os,bare,q⟩:=z;have fl0:zF B (X.env::X.outer) x (.ref C1) .none s5.heap:=hB.top ▸ fl;have hfr:X.A.frames=aj (X.env::X.outer):=I3.ok.frames.trans (by rw[hB.top])
 have nst:s3.heap.objs.size∉frs X.stack:=λhb=>by
  obtain⟨_,o,ho,_⟩:=I3.stack.mem hb;exact absurd (gk ho) (qu _)
 have I:Inv X pins σ H' s':=aiE (tk:=s'.toks) I3 rfl hf3 J (yg.refl _ _);obtain⟨m,⟨o,es,ep,e1,e2,e3⟩,_⟩:=J.loc;have hC:B.get? s3.heap.objs.size=aj o:=cov _ o e1 J.free nst;have h1C:H1 s3.heap.objs.size=aq:=un.free _ o e1 J.free (by simp)
 have h0:X.s₀.heap.get? s3.heap.objs.size=aq:=by
  cases q:X.s₀.heap.get? s3.heap.objs.size with
  |none=>rfl
  |some u =>
   exact absurd (ju (gk q) I3.sz) (qu _)
 generalize s3.heap.objs.size=C at *;show dh _ X.A (noteFrame (.ref x) X.env) _ _ s5;refine alT hfr hB.fr fl0 λh2 fl2 f2 up2=>?_;have hC2:h2.get? C=aj o:=f2.stays C o hC;refine⟨m,⟨o,es,ep,hC2,e2,e3⟩,λh' hs' cenv hl=>?_⟩;obtain⟨ox,vs,T,oT,ts,g1,g2,g3,g4,g5,g6,g7,g8,g9,g10⟩:=f2.tr.ex;have xC:x≠C:=λz=>by have:=f2.new;rw[z,hC]at this;cases this
 have TC:T≠C:=λz=>by rw[z,hC]at g6;cases g6
 have hid:∀{b},B.get? b=aq->(yu B [C]).get? b=aq:=λ{b} hb=>by
  cases q:(yu B [C]).get? b with
  |none=>rfl
  |some u=>rw[a1m _ q]at hb;cases hb
 have f3:zF (yu B [C]) (X.env::X.outer) x (.ref C1) fl2 h':=by
  refine⟨λb u q=>?_,hid f2.new,arB f2.akX λb hb=>⟨hid (f2.akX.mem hb).1,hs'.2 b λz=>nst (by rw[hB.top,←z];exact hb)⟩,⟨ox,vs,T,oT,ts,(hs'.2 x xC).trans g1,g2,g3,g4,g5,hid g6,g7,(hs'.2 T TC).trans g8,g9,g10⟩⟩;have nb:b≠C:=λz=>by rw[z,PySem.W.hideAll_none _ (by simp)]at q;cases q
  exact(hs'.2 b nb).trans (f2.stays b u (a1m _ q))
 unfold PySem.passOn;refine bw (jx (s:={s5 with heap:=h' }) ((hs'.2 x xC).trans g1) g3 g4 ?_);rw[if_neg (by simp)];refine bw (aCU (s:={s5 with heap:=h' }) f3 λh4 fl4 f4 up4=>?_);refine wpAny_throw ?_;have toB:∀{b u},b≠C->B.get? b=aj u->(yu B [C]).get? b=aj u:=λ{b u} n q=>a2f _ q (by simpa using n)
 have nfl:∀b∈frs X.stack,∀(h:jq)(fl:au),zF B (X.env::X.outer) x (.ref C1) fl h->∀o,h.get? b=aj o->∀vs,o.data≠.fields vs:=λb hb h fl f o e=>by
  obtain⟨_,o',ho',hd⟩:=f.akX.mem (show b∈(X.env::X.outer).filterMap (·.frame)from by rw[hB.top]at hb;exact hb);rw[e]at ho';cases ho';exact hd
 refine hB.acB pins σ H' s' C _ _ I h0 ⟨x,C1,H1,yu B [C],fl4,rfl,by rw[hB.top];exact f4,λb u hb=>?_,λb u n e h f=>toB n (cov b u e h f),λb u n e f=>?_,⟨λb u e nb hb hx=>?_,λb u e nb hb hx=>?_,λb u e nb hx=>un.free b u e nb (by simp),λb u e hx=>?_,un.tups,un.lA,un.wO⟩,os,bare,q⟩
 .refine(hok b u hb).stay (λc v hc ev=>toB (λz=>?_) ev) (λ_ z=>z) λ_ _ z=>z;subst z;rcases hc with rfl|hc
  .rw[hb]at h1C;cases h1C
  .rw[hc]at h1C;cases h1C
 .obtain⟨o',h⟩:=a2F b u e f;exact⟨o',toB n h⟩
 .have n:b≠C:=by simpa using hx
  exact f4.stays b u (toB n (cov b u e nb hb))
 .have n:b≠C:=by simpa using hx
  obtain⟨sl1,z1⟩:=un.slot b u e nb hb (by simp);obtain⟨sl2,z2⟩:=up2 b _ z1 (nfl b hb _ _ fl0 _ z1);have z3:h'.get? b=_:=(hs'.2 b n).trans z2;obtain⟨sl3,z4⟩:=up4 b _ z3 (nfl b hb _ _ f2 _ z2);exact⟨sl3,z4⟩
 .have n:b≠C:=by simpa using hx
  by_cases hb:b∈frs X.stack
  .obtain⟨u1,z1⟩:=un.there b u e (by simp);obtain⟨sl2,z2⟩:=up2 b _ z1 (nfl b hb _ _ fl0 _ z1);have z3:h'.get? b=_:=(hs'.2 b n).trans z2;obtain⟨sl3,z4⟩:=up4 b _ z3 (nfl b hb _ _ f2 _ z2);exact⟨_,z4⟩
  .obtain⟨o',h⟩:=a2F b u e hb;exact⟨o',f4.stays b o' (toB n h)⟩
theorem axQ(hB:au4 X EXk)(c:sH X xs scope)(hT:∀C s H fp pins σ,aoM (dN X xs scope C s H fp pins) tgt xs dv σ)(hdv:∀d ds,dv d=aj ds->ds.length=xs.length)(hi:PI3 X tgt iter ti)(hc:∀C s H fp pins,alD (dN X xs scope C s H fp pins) ifs tc)(he:∀C s H fp pins,dR ((dN X xs scope C s H fp pins).wish (xeC X xs scope C s H fp pins EXk)) elt te)
  (hs:∀y,a0e iter X.env y=pure y):dR X (.ListComp elt [⟨tgt,iter,ifs,0⟩] scope pos) (a1S dv ti tc te):=by
 intro pins s σ H Q I h;obtain⟨ρ,G,R,sr,g,q,kk⟩:=h;rw[eval_ListComp];refine a1p (use:=none) rfl hs (mV λy hy hf=>I.ok.has y.1 (c.frees y hy hf)) c.kind c.locs ?_
 refine eU (hi pins s σ H (λJ H1=>Ts H H1/\∃src G1,HR X.K H1 G1/\a9G X.K H1 src J/\(src.items.length<cj/\∀p,G1 p=aq->∃P:Nat->List D->Gp->Prop,P 0 [] (aJ G1 p (.lst [])) /\
   (∀k ds G,k<=src.items.length->P k ds G->src.ok G/\G p=aj (.lst ds)/\ds.length<=k) /\
   (∀k d ds G,src.items[k]?=aj d->P k ds G->∃ys,dv d=aj ys/\tc (ys.map aj++ρ) G λb G2=>if b=ak then te (ys.map aj++ρ) G2 λy G3=>G3 p=aj (.lst ds)/\P (k+1) (ds++[y]) (aJ G3 p (.lst (ds++[y])))else P (k+1) ds G2) /\
   ∀ds G,P src.items.length ds G->∃G0,Le G0 G/\R (.ref p) G0)) I ⟨ρ,G,_,sr,g,q,λsrc J H' G' t1 g1 sj q1=>⟨t1,src,G',g1,sj,q1⟩⟩) λv s1 h1=>eU h1 λitv s2 hz=>?_
 obtain⟨it,fp,tn,J,H2,e,I2,T,st2,f2,t1,src,G1,g1,sj,hlen,body⟩:=hz;subst e
 exact aoP (EXk:=EXk) (RR:=λacc C=>compPost (dz X.prog X.w) X.A X.xe aq (EP X pins σ Q) acc C) c hT hdv hc he sr I2 T st2 f2 t1 g1 sj hlen body (λDa s3 H3 I3 hf3 e s5 z=>aK0 hB I3 hf3 z) λDa C s5 H' G0 I5 o ts g0 q0=>by
  obtain⟨m,hn⟩:=o.ns;exact⟨m,hn,λh' hs'=>⟨.ref Da,H',o.turn I5 hs',rfl,kk _ H' _ G0 ts (.ref Da) g0 q0⟩⟩
end
end
section
noncomputable abbrev Tb:=List (Str×List Str)
noncomputable def afF(ks:List Str):D:=.tup (ks.map D.str)
def CDi(P:lq)(w:jg)(K:Fg)(a:bx)(tb:Tb):Prop:=(a==sysModules)=ao/\∃f:Key->Option au,(∀h,K.In h->h.MapOf (kZ P w) a f) /\
 ∀z,(∀ks,tb.lookup z=aj ks->∃b,f (.inr z)=aj (.ref b)/\∀H,RD K H (afF ks) (.ref b))/\(tb.lookup z=aq->f (.inr z)=aq)
def aCW(tb:Tb)(y:D)(G:Gp)(R:iG):Prop:=∃z ks,y=.str z/\tb.lookup z=aj ks/\R (afF ks) G
noncomputable def axR(tb:Tb)(ti:dB):dB:=λρ G R=>ti ρ G λy G1=>aCW tb y G1 R
noncomputable def axS(a:bx)(tb:Tb):R3:=λx y G R=>∃z,x=.str z/\y=.ref a/\R (.bl (!(tb.lookup z).isSome)) G
section
variable{X:Cx}{x:Str}
theorem aS0(hg:Gl X x)(hm:X.mg x=aj (.ref a))(hd:(x==("__debug__":Str))=ao)(c:CDi X.prog X.w X.K a tb)(hi:dR X i ti)(hs:aQ2 i):dR X (.Subscript (.Name x p) i pos) (axR tb ti):=by
 intro pins s σ H Q I h;obtain⟨ρ,G,R,sr,g,q,kk⟩:=h;obtain⟨_,f,hM,hf⟩:=c;refine aBR PySem.F.slot_dict_getitem.lookup hs (eU ((aqE (v:=.ref a) (pos:=p) hg hm rfl hd) pins s σ H (λv H1=>v=.ref a/\H1=H) I ⟨rfl,rfl⟩) ?_);rintro u s1 ⟨v1,H1,I1,r1,e1,e2⟩;subst e1;subst e2;obtain rfl:u=au.ref a:=r1;refine eU (hi pins s1 σ H1 (λv H2=>Ts H1 H2/\∃y G2,RD X.K H2 y v/\HR X.K H2 G2/\aCW tb y G2 R) I1 ⟨ρ,G,_,sr,g,q,λv H2 y G2 t2 r2 g2 q2=>⟨t2,y,G2,r2,g2,q2⟩⟩) ?_;rintro iv s2 ⟨vy,H2,I2,ry,t2,y,G2,rd,g2,q2⟩;obtain⟨z,ks,rfl,el,q2⟩:=q2;cases rd;obtain⟨b,eb,rb⟩:=(hf z).1 ks el;have hm2:=hM s2.heap I2.kIn;refine⟨hm2.typeIs,wpAny_getItem_of (aw9 (k:=.inr z) ry) hm2 eb ⟨.ref b,H2,I2.tok _,rfl,kk (.ref b) H2 (afF ks) G2 t2 (rb H2) g2 q2⟩⟩
theorem aS1(c:CDi X.prog X.w X.K a tb):zH X (ni .NotIn) (axS a tb):=ai9 λpins s σ H x y vx vy u v G R Q I rx ry ru rv g q k=>by
 obtain⟨z,rfl,rfl,q⟩:=q;obtain⟨hd,f,hM,hf⟩:=c;cases rx;cases ry;obtain rfl:v=au.ref a:=rv;refine wpAny_notIn_of (aw9 (k:=.inr z) ru) hd (hM _ I.kIn) ?_
 have e:(f (.inr z)).isSome=(tb.lookup z).isSome:=by
  cases el:tb.lookup z with
  |none=>rw[(hf z).2 el];rfl
  |some ks=>obtain⟨b,eb,_⟩:=(hf z).1 ks el;rw[eb];rfl
 rw[e];exact⟨.bl _,H,I.tok _,rfl,k _ H (.bl _) G (.refl H) (.bl _) g q⟩
end
noncomputable def a3W:List D->Gp->iG->Prop:=λxs G R=>match xs with
 |[.str z]=>∃n,PySem.intText? z=aj n/\z.length<=640/\R (.int n) G
 |xs=>aqV xs G R
set_option tactic.hygienic true in
theorem aK2:dG X (.type "int") a3W:=by
 intro pins s σ H xs vs us G R Q I rx rv g q k;unfold a3W at q;split at q
 .rename_i z;obtain⟨n,e1,e2,q⟩:=q;cases rx with
  |cons r1 rr =>
  cases rr;cases r1;cases rv with
  |cons rv rr =>
  cases rr;obtain⟨t,rfl⟩:=rv;exact PySem.W.KIN.call_text e1 e2 ⟨.int n,H,I.tok _,⟨_,rfl⟩,k _ H _ G (.refl H) (.int n) g q⟩
 .exact aRC pins s σ H xs vs us G R Q I rx rv g q k
structure OwC(K:Fg)(C:bx):Prop where
 cl:Cls K C
 ha:dw K (.ref C) "__class__"=aj (aj (.builtin "object.__class__"))
 hn:PySem.W.specialIn K (.builtin "object.__class__") "__get__"=aj (aj (.builtin "getset_descriptor.__get__"))
 tk:PySem.W.takesIn K (.builtin "object.__class__")=aj ak
 hm:qy K C (.type "object")=aj ak
noncomputable def cM(K:Fg):List D->Gp->iG->Prop:=λxs G R=>match xs with
 |[.ref a,.ref C']=>(match G a with
  |some (.ins C _)=>∃b,OwC K C/\cu K (.ref C) (.ref C')=aj b/\R (.bl b) G
  |_=>aY K [.ref a,.ref C'] G R)
 |xs=>aY K xs G R
set_option tactic.hygienic true in
theorem aS2{X:Cx}:dG X (.builtin "isinstance") (cM X.K):=by
 intro pins s σ H xs vs us G R Q I rx rv g q k;unfold cM at q;split at q
 .rename_i a C';split at q
  .rename_i C fs e1;obtain⟨b,oc,hk,q⟩:=q;cases rx with
   |cons r1 rr =>
   cases rr with
   |cons r2 rr =>
   cases rr;cases r1;cases r2;cases rv with
   |cons v1 rr =>
   cases rr with
   |cons v2 rr =>
   cases rr;cases v1;cases v2;obtain⟨dx,ws,e3,_⟩:=g a _ e1;obtain⟨mA,O,_⟩:=aqG I.hok e3;obtain⟨od,J,_⟩:=O.look;exact vq (PySem.W.kitx_own (oc.cl.get _) oc.cl.hd oc.ha oc.hn oc.tk oc.hm) I.kIn J hk (λz=>nomatch z) λtk=>⟨.bl b,H,I.tok tk,rfl,k _ H _ G (.refl H) (.bl b) g q⟩
  .exact a5C pins s σ H _ vs us G R Q I rx rv g q k
 .exact a5C pins s σ H xs vs us G R Q I rx rv g q k
end
section
open PySem.W
theorem arC{K:Fg}(h:RD K H d v):∀{ds:List D}{xs:List V}(j:Nat),cH K H ds xs->cH K H (ds.take j++d::ds.drop j) (xs.take j++v::xs.drop j)
 |[],_,j,.nil=>by simpa using cH.cons h .nil
 |_::_,_,0,r=>by simpa using cH.cons h r
 |_::_,_,j+1,.cons a r=>by simpa using cH.cons a (arC h j r)
theorem alU(h:RelV v u):∀{xs:List V}{us:List au}(j:Nat),Vals xs us->Vals (xs.take j++v::xs.drop j) (us.take j++u::us.drop j)
 |[],_,j,.nil=>by simpa using Paired.cons h .nil
 |_::_,_,0,r=>by simpa using Paired.cons h r
 |_::_,_,j+1,.cons a r=>by simpa using Paired.cons a (alU h j r)
section
noncomputable def vV:RM3:=λx xs G R=>match xs with
 |[.int i,z]=>ar3 x G λp ds=>∃j:Nat,i=(j:Int)/\j<=ds.length/\ds.length<cj/\R .non (aJ G p (.lst (ds.take j++z::ds.drop j)))
 |_=>False
set_option tactic.hygienic true in
theorem alV:a9F X "list.insert" vV:=λpins s σ H x xs vx vs u us G R Q I rx rs ru rv g q k=>by
 have big:cj<2^62:=by decide
 unfold vV at q;split at q
 .rename_i i z;obtain⟨p,ds,ys,rfl,rfl,e,e1,r,j,ei,hj,hlt,q⟩:=axF rx g q;cases rs with
  |cons r1 rr =>
  cases rr with
  |@cons _ vz _ _ rz rr =>
  cases rr;cases r1;obtain rfl:u=au.ref p:=ru;cases rv with
  |cons rv1 rv =>
  cases rv with
  |@cons _ uz _ _ rv2 rv =>
  cases rv;obtain⟨t2,rfl⟩:=rv1;obtain⟨hz,its,n,rvs,ho⟩:=(show qX X.prog X.w H s.heap p (.lst ys)from I.hok p _ e1);have hl:ds.length=ys.length:=r.length;have hl2:ys.length=its.length:=rvs.length
  have hf:Builtin.List.listFitsIndex i=ak:=by
   rw[ei];unfold Builtin.List.listFitsIndex;simp;omega
  have hz':its.toArray.size<=cj:=by rw[fj,←hl2];exact hz
  have mt:=PySem.AutoListH.list_insert_list_int_val_1 p its.toArray n i t2 uz (by rw[hf];decide) hz';refine call_meets PySem.F.slot_list_insert ⟨_,ho,rfl⟩ PySem.F.entry_list_insert (PySem.F.args_list_insert_3 _ _ _) mt ⟨ho,?_⟩;have hs:=yg.update s.heap p (Obj.mapSeq λxs=>have k:=if i<0 then(i+((xs.size:Nat):Int)).toNat else min i.toNat xs.size;(xs.extract 0 k).push uz++xs.extract k)
  obtain⟨n',ho'⟩:∃n',(s.heap.update p (Obj.mapSeq λxs=>have k:=if i<0 then(i+((xs.size:Nat):Int)).toNat else min i.toNat xs.size;(xs.extract 0 k).push uz++xs.extract k)).get? p=aj (seqObj "list" (its.take j++uz::its.drop j).toArray n'):=by
   have:=get?_update_seq ho λxs=>have k:=if i<0 then(i+((xs.size:Nat):Int)).toNat else min i.toNat xs.size;(xs.extract 0 k).push uz++xs.extract k
   have ek:(if i<0 then(i+((its.toArray.size:Nat):Int)).toNat else min i.toNat its.toArray.size)=j:=by
    rw[ei,if_neg (by omega),fj];simp;omega
   have e:((its.toArray.extract 0 j).push uz++its.toArray.extract j)=(its.take j++uz::its.drop j).toArray:=by
    apply Array.toList_inj.mp;simp
    first
     |done
     |exact a1y (by simp)
   rw[ek,e]at this;exact⟨_,this⟩
  have le:(ys.take j++vz::ys.drop j).length<=cj:=by
   simp;omega
  have tt:Ts H (upd H p (.lst (ys.take j++vz::ys.drop j))):=.turn e1 (λ_ z=>nomatch z) (λ_ _ z=>nomatch z);exact⟨.non,_,I.write (t':=s.toks) (x:=p) (e:=p) (o:=.lst (ys.take j++vz::ys.drop j)) (by rw[e1];exact True.intro) (.inl rfl) (λb o hb z=>(hs.2 b hb).trans z) ⟨_,ho'⟩ ⟨le,_,n',alU rv2 j rvs,ho'⟩,rfl,k _ _ _ _ tt .non (g.turn (u:=.lst _) tt ⟨_,aP,(arC rz j r).mono tt⟩) q⟩
 .exact q.elim
noncomputable def a87:R3:=λx y G R=>∃z n,x=.str z/\y=.int n/\MulOk z n/\R (.str (Txt.mul z n)) G
theorem aK3:a9D X (vp .Mult) a87:=by
 refine⟨λx y H Q=>∃z n,x=.str z/\y=.int n/\MulOk z n/\Q (.str (Txt.mul z n)) H,?_,λH x y vx vy G R Q rx ry gh h k=>?_⟩
 .intro pins s σ H x y v u Q I rv ru h;obtain⟨z,n,rfl,rfl,ok,q⟩:=h;obtain⟨t,rfl⟩:=rv;obtain⟨t2,rfl⟩:=ru;refine SB.mul ok λt' k=>?_;exact⟨.str _,H,I.tok _,⟨t',rfl⟩,q⟩
 .obtain⟨z,n,rfl,rfl,ok,h⟩:=h;cases rx;cases ry;exact⟨z,n,rfl,rfl,ok,λ_=>k _ H _ G (.refl H) (.str _) gh h⟩
end
end
end L2
namespace L4
open PySem PySem.Spec PyProof.Rows L2
inductive BF where
 |len|isi|all|min|max
 deriving DecidableEq
inductive MK where
 |append|index|lower|join|split|upper|insert
 deriving DecidableEq
inductive GT where
 |con (d:D)|cls (a:bx)|fn (sp:mR) (n:Nat) (qt:Bool)|bf (b:BF)|bt (n:String)|kl (C:bx) (sp:mR) (dd:List D)|me (C:bx) (m:Str) (sp:mR) (dd:List D)|fl (C:bx) (f:Str)|cdc (a:bx) (tb:Tb)
structure SI where
 N:List Str
 fl:List Bool
 lc:List Bool
 ce:List Bool
 gl:List (Str×GT)
 gv:List Bool
 calm:Bool
mutual
inductive CE where
 |var (i:Nat)|con (d:D)|glo (k:Nat)|neg (a:CE)|aCX (a:CE)|bin (o:Operator) (a b:CE)|cmp (o:CmpOp) (a b:CE)|chain (o o':CmpOp) (a b c:CE)
 |au5 (es:CEs)|tup (es:CEs)|lst (es:CEs)|ix (a b:CE)|sl (a:CE) (lo hi:CO)|call (k:Nat) (es:CEs)|meth (m:MK) (o:CE) (es:CEs)
 |comp (fl gv:List Bool) (ci:CI) (cc:CC) (e:CE)|rev (a k:CE)|smul (a b:CE)|cix (k:Nat) (e:CE)
inductive CEs where
 |nil|cons (e:CE) (r:CEs)
inductive CT where
 |cmp (o:CmpOp) (a b:CE)|chain (o o':CmpOp) (a b c:CE)|not (t:CT)|and (ts:CTs)|or (ts:CTs)|val (e:CE)|cni (k:Nat) (e:CE)
inductive CTs where
 |nil|cons (t:CT) (r:CTs)
inductive CO where
 |none|some (e:CE)
inductive CI where
 |any (e:CE)|aiM (e:CE)|zip (a b:CE)|enu (e:CE)
inductive CC where
 |none|some (t:CT)
end
noncomputable abbrev SI.cmp(S:SI)(xs:List Str)(fl gv:List Bool):SI:=⟨xs++S.N,xs.map (λ_=>ak)++fl,xs.map (λ_=>ak)++S.N.map (λ_=>ao),xs.map (λ_=>ao)++fl,S.gl,gv,S.calm⟩
noncomputable def aoQ:dB:=λ_ _ _=>False
noncomputable def arD:TT3:=λ_ _ _=>False
noncomputable def cdT(T:List (Str×GT))(k:Nat):Option (bx×Tb):=match T[k]? with
 |some (_,.cdc a tb)=>aj (a,tb)
 |_=>aq
noncomputable def cdB(S:SI)(k:Nat)(x:Str):Bool:=match S.gl[k]? with
 |some (y,.cdc _ _)=>y==x&&S.gv[k]?==aj ak
 |_=>ao
noncomputable def cdY(S:SI)(k:Nat):jt->Bool
 |.Name y _=>cdB S k y
 |_=>ao
noncomputable def NoX:aL->aO:=λ_ _ _=>False
noncomputable def aGF:Operator->R3
 |.Add=>bB
 |.Sub=>a2L
 |.Mult=>qY
 |.FloorDiv=>bI
 |.Mod=>bA
 |.Pow=>agO
 |_=>λ_ _ _ _=>False
noncomputable def acS:CmpOp->R3
 |.Eq=>dF
 |.NotEq=>al9
 |.Lt=>acA
 |.LtE=>awK
 |.Gt=>awJ
 |.In=>a5E
 |.NotIn=>uF
 |_=>λ_ _ _ _=>False
noncomputable def aS3(K:Fg):BF->List D->Gp->iG->Prop
 |.len=>fO
 |.isi=>cM K
 |.all=>agY
 |.min=>aiI
 |.max=>a72
noncomputable def aK4(n:String):List D->Gp->iG->Prop:=if n="int" then a3W else if n="str" then ah3 else if n="tuple" then cZ else λ_ _ _=>False
noncomputable def mkT:MK->String
 |.append=>"list"
 |.index=>"str"
 |.lower=>"str"
 |.join=>"str"
 |.split=>"str"
 |.upper=>"str"
 |.insert=>"list"
noncomputable def mkR:MK->RM3
 |.append=>vU
 |.index=>wX
 |.lower=>aaX
 |.join=>jK
 |.split=>a1T
 |.upper=>a1V
 |.insert=>vV
noncomputable def mkN:MK->Str
 |.append=>"append"
 |.index=>"index"
 |.lower=>"lower"
 |.join=>"join"
 |.split=>"split"
 |.upper=>"upper"
 |.insert=>"insert"
noncomputable def aK5(T:List (Str×GT))(k:Nat):dB:=match T[k]? with
 |some (_,.con d)=>aG d
 |some (_,.cls a)=>aG (.ref a)
 |some (_,.bt n)=>aG (.ty n)
 |_=>aoQ
noncomputable def aK6(T:List (Str×GT))(K:Fg)(ex:aL->aO)(k:Nat)(t:wL):dB:=match T[k]? with
 |some (_,.fn sp _ _)=>aQ sp ex t
 |some (_,.cls a)=>axG a t
 |some (_,.bf b)=>bR (aS3 K b) t
 |some (_,.bt n)=>bR (aK4 n) t
 |some (_,.kl C sp dd)=>gQ C sp dd ex t
 |_=>aoQ
mutual
noncomputable def mE(T:List (Str×GT))(K:Fg)(ex:aL->aO):CE->dB
 |.var i=>aB i
 |.con d=>aG d
 |.glo k=>aK5 T k
 |.neg a=>aqS (mE T K ex a)
 |.aCX a=>ai6 (mE T K ex a)
 |.bin o a b=>aD (aGF o) (mE T K ex a) (mE T K ex b)
 |.smul a b=>aD a87 (mE T K ex a) (mE T K ex b)
 |.cix k c=>(match cdT T k with
  |some (_,tb)=>axR tb (mE T K ex c)
  |none=>aoQ)
 |.cmp o a b=>aD (acS o) (mE T K ex a) (mE T K ex b)
 |.chain o o' a b c=>uE (acS o) (acS o') (mE T K ex a) (mE T K ex b) (mE T K ex c)
 |.au5 es=>aK7 T K ex es
 |.tup es=>dO (mA T K ex es)
 |.lst es=>bL (mA T K ex es)
 |.ix a b=>aD bN (mE T K ex a) (mE T K ex b)
 |.sl a lo hi=>cF (mE T K ex a) (mO T K ex lo) (mO T K ex hi)
 |.call k es=>aK6 T K ex k (mA T K ex es)
 |.meth m o .nil=>aiB (mkT m) (mkR m) (mE T K ex o)
 |.meth m o (.cons e r)=>tM3 (mkT m) (mkR m) (mE T K ex o) (aA (mE T K ex e) (mA T K ex r))
 |.comp _ _ ci cc e=>a6Z (mI T K ex ci) (mC T K cc) (mE T K NoX e)
 |.rev a k=>ar7 (mE T K ex a) (cY (mE T K ex k))
noncomputable def mA(T:List (Str×GT))(K:Fg)(ex:aL->aO):CEs->wL
 |.nil=>aC
 |.cons e r=>aA (mE T K ex e) (mA T K ex r)
noncomputable def aK7(T:List (Str×GT))(K:Fg)(ex:aL->aO):CEs->dB
 |.nil=>aoQ
 |.cons e .nil=>mE T K ex e
 |.cons e (.cons e' r)=>wU (mE T K ex e) (aK7 T K ex (.cons e' r))
noncomputable def mOr(T:List (Str×GT))(K:Fg)(ex:aL->aO):CEs->dB
 |.nil=>aoQ
 |.cons e .nil=>mE T K ex e
 |.cons e (.cons e' r)=>aG4 (mE T K ex e) (mOr T K ex (.cons e' r))
noncomputable def mT(T:List (Str×GT))(K:Fg)(ex:aL->aO):CT->TT3
 |.cmp o a b=>aK (aD (acS o) (mE T K ex a) (mE T K ex b))
 |.chain o o' a b c=>aK (uE (acS o) (acS o') (mE T K ex a) (mE T K ex b) (mE T K ex c))
 |.not t=>yD (mT T K ex t)
 |.and ts=>axT T K ex ts
 |.or ts=>aK8 T K ex ts
 |.val e=>aK (mE T K ex e)
 |.cni k c=>(match cdT T k with
  |some (a,tb)=>aK (aD (axS a tb) (mE T K ex c) (aG (.ref a)))
  |none=>arD)
noncomputable def axT(T:List (Str×GT))(K:Fg)(ex:aL->aO):CTs->TT3
 |.nil=>arD
 |.cons e .nil=>mT T K ex e
 |.cons e (.cons e' r)=>ac8 (mT T K ex e) (axT T K ex (.cons e' r))
noncomputable def aK8(T:List (Str×GT))(K:Fg)(ex:aL->aO):CTs->TT3
 |.nil=>arD
 |.cons e .nil=>mT T K ex e
 |.cons e (.cons e' r)=>aoG (mT T K ex e) (aK8 T K ex (.cons e' r))
noncomputable def mO(T:List (Str×GT))(K:Fg)(ex:aL->aO):CO->TO3
 |.none=>bV
 |.some e=>cY (mE T K ex e)
noncomputable def mI(T:List (Str×GT))(K:Fg)(ex:aL->aO):CI->TI3
 |.any e=>acK (mE T K ex e)
 |.aiM e=>wY (aA (mE T K ex e) aC)
 |.zip a b=>acP (aA (mE T K ex a) (aA (mE T K ex b) aC))
 |.enu e=>a73 (aA (mE T K ex e) aC)
noncomputable def mC(T:List (Str×GT))(K:Fg):CC->TT3
 |.none=>pD
 |.some t=>mT T K NoX t
end
noncomputable def isStar:jt->Bool
 |.Starred ..=>ak
 |_=>ao
noncomputable def isSlice:jt->Bool
 |.Slice ..=>ak
 |_=>ao
noncomputable def vW:jt->Bool
 |.Call (.Name id _) [] [] _=>id !=("super":Str)
 |_=>ak
noncomputable def isSet:jt->Bool
 |.Set ..=>ak
 |_=>ao
noncomputable def aK9:BF->String
 |.len=>"len"
 |.isi=>"isinstance"
 |.all=>"all"
 |.min=>"min"
 |.max=>"max"
noncomputable def aGG:BF->au
 |b=>.builtin (aK9 b)
noncomputable def aoR:BF->Bool
 |.len=>ak
 |.isi=>ak
 |_=>ao
noncomputable def a5F(S:SI):Bool:=(kh S.gl.length).any λk=>S.gv[k]?==aj ak&&match S.gl[k]? with
 |some (y,.bt n)=>y==("range":Str)&&n=="range"
 |_=>ao
noncomputable def alW(S:SI):Bool:=(kh S.gl.length).any λk=>S.gv[k]?==aj ak&&match S.gl[k]? with
 |some (y,.bt n)=>y==("zip":Str)&&n=="zip"
 |_=>ao
noncomputable def acT(S:SI):Bool:=(kh S.gl.length).any λk=>S.gv[k]?==aj ak&&match S.gl[k]? with
 |some (y,.bt n)=>y==("enumerate":Str)&&n=="enumerate"
 |_=>ao
noncomputable def aKA(S:SI)(y:Str):Bool:=(kh S.N.length).any λi=>S.N[i]?==aj y&&S.ce[i]?==aj ak
noncomputable def aiN:List Str->Bool
 |[]=>ak
 |x::r=>!r.contains x&&aiN r
noncomputable def zW:List jt->Option (List Str)
 |[]=>aj []
 |.Name x _::r=>(zW r).map (x:: ·)
 |_=>aq
noncomputable def vX(S:SI)(xs:List Str)(scope:yc)(fl gv:List Bool):Bool :=
 scope.kind==.function&&scope.names.all (λy=>y.2 !=.cell&&(y.2 !=.local||scope.names.lookup y.1==aj .local)&&(y.2 !=.free||aKA S y.1)) &&
 xs.all (λx=>scope.names.lookup x==aj .local&&!S.N.contains x&&x !=("__debug__":Str)&&x !=("__classdict__":Str))&&aiN xs &&
 S.N.all (λy=>scope.names.lookup y !=aj .local) &&
 (kh S.N.length).all (λi=>fl[i]? !=aj ak||(S.fl[i]?==aj ak&&match S.N[i]? with
  |some y=>scope.names.lookup y==aj .free
  |none=>ao)) &&
 (kh S.gl.length).all (λk=>gv[k]? !=aj ak||match S.gl[k]? with
  |some (y,_)=>scope.names.lookup y==aj .globalImplicit
  |none=>ao)
noncomputable def aGH:D->Const->Bool
 |.int i,.int j=>i==j
 |.str s,.str t=>s==t
 |.bl b,.bool c=>b==c
 |.non,.none=>ak
 |_,_=>ao
noncomputable def plainT:jt->Bool
 |.UnaryOp .Not _ _=>ao
 |.BoolOp ..=>ao
 |.IfExp ..=>ao
 |.Compare ..=>ao
 |_=>ak
noncomputable def axU(S:SI)(k:Nat)(x:Str):Bool:=match S.gl[k]? with
 |some (y,.con _)=>y==x
 |some (y,.cls _)=>y==x
 |some (y,.bt _)=>y==x
 |_=>ao
noncomputable def arE(S:SI)(k:Nat)(x:Str)(e:Bool):Bool:=match S.gl[k]? with
 |some (y,.fn _ _ qt)=>y==x&&(qt||S.calm)
 |some (y,.cls _)=>y==x
 |some (y,.bf b)=>y==x&&e&&(S.calm||aoR b)
 |some (y,.bt _)=>y==x&&e
 |some (y,.kl _ _ _)=>y==x&&S.calm
 |_=>ao
noncomputable def aCY(S:SI)(k:Nat)(x:Str):Bool:=match S.gl[k]? with
 |some (_,.fl _ f)=>f==x
 |_=>ao
noncomputable def wZ:jt->Option (Str×jt)
 |.Call (.Name x _) [z] [] _=>aj (x,z)
 |_=>aq
mutual
noncomputable def kE(S:SI):CE->jt->Bool
 |.var i,.Name x _=>S.N[i]?==aj x&&S.fl[i]?==aj ak
 |.con d,.Constant c _ _=>aGH d c
 |.glo k,.Name x _=>S.gv[k]?==aj ak&&axU S k x
 |.neg a,.UnaryOp .USub e _=>kE S a e
 |.aCX a,.UnaryOp .Not e _=>kE S a e
 |.bin o a b,.BinOp x o' y _=>o==o'&&kE S a x&&kE S b y
 |.smul a b,.BinOp x .Mult y _=>kE S a x&&kE S b y
 |.cix k c,.Subscript (.Name x _) i _=>cdB S k x&&!isSlice i&&kE S c i
 |.cmp o a b,.Compare x [o'] [y] _=>o==o'&&!behindInMarks o' y&&kE S a x&&kE S b y
 |.chain o o' a b c,.Compare x [p,p'] [y,z] _=>o==p&&o'==p'&&!lastMarks [p,p'] [y,z]&&kE S a x&&kE S b y&&kE S c z
 |.au5 es,.BoolOp .And xs _=>kEs S es xs
 |.tup es,.Tuple xs _ _=>kEs S es xs
 |.lst es,.List xs _=>kEs S es xs
 |.ix a b,.Subscript x y _=>!isSlice y&&kE S a x&&kE S b y
 |.sl a lo hi,.Subscript x (.Slice l h aq _) _=>kE S a x&&kO S lo l&&kO S hi h
 |.call k es,.Call (.Name x _) xs [] _=>kEs S es xs&&S.gv[k]?==aj ak&&arE S k x (!xs.isEmpty)
 |.meth m o es,.Call (.Attribute y n ap) xs [] cp=>n==mkN m&&vW y&&ap.endLine==cp.line&&decide (xs.length<30)&&kE S o y&&kEs S es xs
 |.comp fl gv ci cc e,.ListComp elt [⟨.Name x _,iter,ifs,a⟩] scope _=>a==0&&vX S [x] scope fl gv&&!isSet iter&&kI S ao ci iter&&kC (S.cmp [x] fl gv) cc ifs&&kE (S.cmp [x] fl gv) e elt
 |.rev a k,.Subscript x (.Slice aq aq (aj y) _) _=>kE S a x&&kE S k y
 |_,_=>ao
noncomputable def kEs(S:SI):CEs->List jt->Bool
 |.nil,[]=>ak
 |.cons e r,x::xs=>!isStar x&&kE S e x&&kEs S r xs
 |_,_=>ao
noncomputable def kT(S:SI):CT->jt->Bool
 |.cmp o a b,.Compare x [o'] [y] _=>o==o'&&!behindInMarks o' y&&kE S a x&&kE S b y
 |.chain o o' a b c,.Compare x [p,p'] [y,z] _=>o==p&&o'==p'&&!lastMarks [p,p'] [y,z]&&kE S a x&&kE S b y&&kE S c z
 |.not t,.UnaryOp .Not e _=>kT S t e
 |.and ts,.BoolOp .And xs _=>kTs S ts xs
 |.or ts,.BoolOp .Or xs _=>kTs S ts xs
 |.cni k c,.Compare x [o'] [y] _=>o'==CmpOp.NotIn&&cdY S k y&&!behindInMarks o' y&&kE S c x
 |.val e,x=>plainT x&&kE S e x
 |_,_=>ao
noncomputable def kTs(S:SI):CTs->List jt->Bool
 |.nil,[]=>ak
 |.cons e r,x::xs=>kT S e x&&kTs S r xs
 |_,_=>ao
noncomputable def kO(S:SI):CO->Option jt->Bool
 |.none,aq=>ak
 |.some e,aj x=>kE S e x
 |_,_=>ao
noncomputable def kI(S:SI)(tt:Bool):CI->jt->Bool
 |.any e,x=>kE S e x
 |.aiM e,.Call (.Name r _) [y] [] _=>r==("range":Str)&&a5F S&&!isStar y&&kE S e y
 |.zip a b,.Call (.Name r _) [y,z] [] _=>tt&&r==("zip":Str)&&alW S&&!isStar y&&!isStar z&&kE S a y&&kE S b z
 |.enu e,x=>tt&&(match wZ x with
  |some (r,y)=>r==("enumerate":Str)&&acT S&&!isStar y&&kE S e y
  |none=>ao)
 |_,_=>ao
noncomputable def kC(S:SI):CC->List jt->Bool
 |.none,[]=>ak
 |.some t,[x]=>kT S t x
 |_,_=>ao
end
end L4
namespace L4
open PySem PySem.Spec PyProof.Rows L2
variable{env:Env}
theorem bC(h:isStar e=ao):jm (e::es) env=(ao,eval e env)::jm es env:=by
 cases e<;>first|rfl|(exact absurd (show ak=ao from h) (by decide))
theorem zX{env:Env}:∀{cs:CEs}{xs:List jt},kEs S cs xs=ak->(yx pos (jm xs env)).any (·.1)=ao
 |.nil,[],_=>rfl
 |.nil,_::_,h=>absurd (show ao=ak from h) (by decide)
 |.cons _ _,[],h=>absurd (show ao=ak from h) (by decide)
 |.cons e r,x::xs,h=>by
  have h':(!isStar x&&kE S e x&&kEs S r xs)=ak:=h;simp only[bh,gj]at h';rw[bC h'.1.1];show(ao||(yx pos (jm xs env)).any (·.1))=ao;rw[zX h'.2];rfl
theorem gJ(h:vW o=ak):attributeBase o n env (eval o env)=eval o env:=by
 cases o with
 |Call f args kws pos =>
  cases f with
  |Name id p =>
   cases args with
   |nil =>
    cases kws with
    |nil =>
     have h':(id !=("super":Str))=ak:=h;unfold attributeBase;simp only[h',Bool.true_or,if_true]
    |cons _ _=>rfl
   |cons _ _=>cases kws<;>rfl
  |_=>rfl
 |_=>rfl
noncomputable abbrev BMv:List au:=[.type "ValueError",.type "Exception",.type "BaseException",.type "object"]
noncomputable def aS5(X:Cx)(cm:Bool)(x:Str):GT->Prop
 |.con d=>∃u v,X.mg x=aj u/\RelV v u/\∀H,RD X.K H d v
 |.cls a=>X.mg x=aj (.ref a)/\yp X.K a BMv "ValueError.__new__"=ak
 |.fn sp n qt=>(qt=ak∨cm=ak)->∃k f fd ps,bU qt X.prog X.w X.K X.mg X.base (j4 X.prog X.w) k f fd ps (cC X.K sp)/\mF qt k X.A/\X.mg x=aj (.ref f)/\jy X.K (.ref f)=ak/\Binds X.K fd ps []
 |.bf b=>X.mg x=aq/\jz x=aj (aGG b)
 |.bt n=>X.mg x=aq/\jz x=aj (.type n)
 |.kl C sp dd=>cm=ak->∃k f fd ps ds dvs,Mk X.K C f/\bU ao X.prog X.w X.K X.mg X.base (j4 X.prog X.w) k f fd ps (cC X.K sp)/\mF ao (k+1) X.A/\X.mg x=aj (.ref C)/\Binds X.K fd ps ds/\Vals dvs ds/\∀H,cH X.K H dd dvs
 |.me C m sp dd=>cm=ak->∃k f fd ps ds dvs,Cls X.K C/\Meth X.K C m f/\bU ao X.prog X.w X.K X.mg X.base (j4 X.prog X.w) k f fd ps (cC X.K sp)/\mF ao k X.A/\Binds X.K fd ps ds/\Vals dvs ds/\∀H,cH X.K H dd dvs
 |.fl C f=>Cls X.K C/\eV X.K C f
 |.cdc a tb=>X.mg x=aj (.ref a)/\CDi X.prog X.w X.K a tb
structure kW(X:Cx)(S:SI)(ex:aL->aO):Prop where
 N:X.N=S.N
 nd:X.N.Nodup
 vis:∀(i:Nat)(x:Str),S.N[i]?=aj x->S.fl[i]?=aj ak->Vis X.env.scope x/\(x==("__debug__":Str))=ao/\(x==("__classdict__":Str))=ao
 ce:∀(i:Nat)(x:Str),S.N[i]?=aj x->S.ce[i]?=aj ak->X.env.kindOf x=aj .cell∨X.env.kindOf x=aj .free
 gm:∀(k:Nat)(x:Str)(g:GT),S.gl[k]?=aj (x,g)->(S.gv[k]?=aj ak->Gl X x)/\(x==("__debug__":Str))=ao/\x≠"__name__"/\aS5 X S.calm x g
 hu:X.A.units+64<yd
 cm:S.calm=ak->X.calm=ak
 cat:Cat X ex
theorem kW.gl{S:SI}{ex:aL->aO}(Q:kW X S ex)(k:Nat)(x:Str)(g:GT)(h:S.gl[k]?=aj (x,g))(hv:S.gv[k]?=aj ak):Gl X x/\(x==("__debug__":Str))=ao/\x≠"__name__"/\aS5 X S.calm x g :=
 ⟨(Q.gm k x g h).1 hv,(Q.gm k x g h).2⟩
section
variable{X:Cx}{ex:aL->aO}
theorem axV:dR X e aoQ:=λ_ _ _ _ _ _ ⟨_,_,_,_,_,z,_⟩=>z.elim
theorem aCZ:a9D X (vp o) (aGF o):=by
 have no:∀{f:au->au->Sem au},a9D X f (λ_ _ _ _=>False):=λ{f}=>⟨λ_ _ _ _=>False,λ_ _ _ _ _ _ _ _ _ _ _ _ h=>h.elim,λ_ _ _ _ _ _ _ _ _ _ _ h _=>h.elim⟩;exact match o with
 |.Add=>aQY
 |.Sub=>aQU
 |.Mult=>aQV
 |.FloorDiv=>aIK
 |.Mod=>aQW
 |.Pow=>aQX
 |.MatMult=>no
 |.Div=>no
 |.LShift=>no
 |.RShift=>no
 |.BitOr=>no
 |.BitXor=>no
 |.BitAnd=>no
theorem a1X(hu:X.A.units+64<yd):zH X (ni o) (acS o):=by
 have no:∀{f:au->au->Sem au},zH X f (λ_ _ _ _=>False):=λ{f}=>ai9 λ_ _ _ _ _ _ _ _ _ _ _ _ _ _ _ _ _ _ _ h _=>h.elim;exact match o with
 |.Eq=>aWM hu
 |.NotEq=>aWN hu
 |.Lt=>aW5
 |.LtE=>aW7
 |.Gt=>aW6
 |.GtE=>no
 |.Is=>no
 |.IsNot=>no
 |.In=>aWP hu
 |.NotIn=>aCF hu
set_option tactic.hygienic true in
theorem aS6{n:String}:dG X (.type n) (aK4 n):=by
 unfold aK4;split
 ·rename_i h;subst h;exact aK2
 .skip
  split
  ·rename_i h;subst h;exact aRX
  .skip
   split
   ·rename_i h;subst h;exact aCT
   .skip
    exact λ_ _ _ _ _ _ _ _ _ _ _ _ _ _ h _=>h.elim
theorem axW{qt:Bool}{k:Nat}{x:Str}(F:bU qt X.prog X.w X.K X.mg X.base (j4 X.prog X.w) k f fd ps (cC X.K sp))(hr:mF qt k X.A)(hg:Gl X x)(hm:X.mg x=aj (.ref f))(hk:jy X.K (.ref f)=ak)(hb:Binds X.K fd ps [])(hx:Cat X ex)
  (hdb:(x==("__debug__":Str))=ao):dR X (.Call (.Name x p) [] [] pos) (aQ sp ex aC):=by
 intro pins s σ H Q I h;obtain⟨ρ,G,R,sr,g,q,kk⟩:=h;refine a0b (oJ I hg hm ?_ hdb);refine PySem.W.callWith_K0 I.kIn hk ?_;exact aqP (E:=zR X.K (ex ρ)) F hr hb (λe s' c=>hx.acB pins σ H s ρ e s' I sr c) I .nil (Q:=λv H'=>∃d G',RD X.K H' d v/\HR X.K H' G'/\R d G') ⟨[],G,R,ex ρ,.nil,g,q,λv H' d G' r2 g2 q2=>⟨d,G',r2,g2,q2⟩,λC H' G' g' q'=>⟨C,G',rfl,g',q'⟩⟩ (by rintro v H' t2 ⟨d,G',r2,g2,q2⟩;exact kk v H' d G' t2 r2 g2 q2)
theorem a3Y{xs:List jt}{cs:CEs}{cp:Pos}(h:kEs S cs xs=ak)(hl:xs.length<30):((yx cp (jm xs X.env)).all (λx=>!x.1)&&(backToKw cp (keywordEach [] X.env)).all (λx=>x.1.isSome)
   &&decide (xs.length+([]:List Keyword).length+(if([]:List Keyword).isEmpty then 0 else 1)<30))=ak:=by
 have h1:(yx cp (jm xs X.env)).all (λx=>!x.1)=ak:=by
  rw[iu];intro y hy;have:=zX (env:=X.env) (pos:=cp) h;rw[List.any_eq_false]at this;have:=this y hy;simpa using this
 have h2:(decide (xs.length+([]:List Keyword).length+(if([]:List Keyword).isEmpty then 0 else 1)<30))=ak:=decide_eq_true (by simpa using hl);rw[h1,h2];rfl
end
end L4
namespace L4
open PySem PySem.Spec PyProof.Rows L2
variable{j:Nat}{x:Str}{m:MK}{env:Env}
section
variable{X:Cx}{S:SI}{ex:aL->aO}
theorem aKB(h:aGH d c=ak):dR X (.Constant c j pos) (aG d):=by
 cases d<;>cases c<;>first|exact absurd (show ao=ak from h) (by decide)|skip
 .exact aQE
 .have:=beq_iff_eq.mp h;subst this;exact aW2
 .have:=beq_iff_eq.mp h;subst this;exact aQD
 .have:=beq_iff_eq.mp h;subst this;exact aQF
theorem aKC{e:jt}(h:plainT e=ak):∀whole,isTrue e X.env whole=(do let v ←whole;standAt e.pos;a1a [v] (truthy v)):=by
 cases e with
 |UnaryOp op x p=>cases op<;>first|exact absurd (show ao=ak from h) (by decide)|(intro _;rfl)
 |BoolOp _ _ _=>exact absurd (show ao=ak from h) (by decide)
 |IfExp _ _ _ _=>exact absurd (show ao=ak from h) (by decide)
 |Compare _ _ _ _=>exact absurd (show ao=ak from h) (by decide)
 |_=>intro _;rfl
theorem aGI(h:isSlice e=ao):ahZ e:=by
 cases e with
 |Slice _ _ _ _=>exact absurd (show ak=ao from h) (by decide)
 |_=>intro _ _;rfl
theorem aS7(Q:kW X S ex){k:Nat}{b:BF}(hk:S.gl[k]?=aj (x,.bf b))(hv:S.gv[k]?=aj ak)(hc:(S.calm||aoR b)=ak)(ha:PA3 X (e::es) t)(he:isStar e=ao)(hp:(yx pos (jm es X.env)).any (·.1)=ao):dR X (.Call (.Name x p) (e::es) [] pos) (bR (aS3 X.K b) t):=by
 obtain⟨h1,h2,h3,h4⟩:=Q.gl _ _ _ hk hv
 have cm:aoR b=ao->X.calm=ak:=λz=>by
  rw[z,Bool.or_false]at hc;exact Q.cm hc
 cases b with
 |len=>exact a5B aRB h1 h4.1 h4.2 ha h3 h2 (bC he) hp
 |isi=>exact a5B aS2 h1 h4.1 h4.2 ha h3 h2 (bC he) hp
 |all=>exact a5B (aRM (cm rfl)) h1 h4.1 h4.2 ha h3 h2 (bC he) hp
 |min=>exact a5B (aJQ (cm rfl)) h1 h4.1 h4.2 ha h3 h2 (bC he) hp
 |max=>exact a5B (aJP (cm rfl)) h1 h4.1 h4.2 ha h3 h2 (bC he) hp
theorem aD0{to:dB}{ap cp:Pos}(ho:dR X o to)(hb:vW o=ak)(hl:(ap.endLine==cp.line)=ak):dR X (.Call (.Attribute o (mkN m) ap) [] [] cp) (aiB (mkT m) (mkR m) to):=by
 cases m with
 |append=>exact acH PySem.F.plainAttrs_list PySem.F.slot_list_append PySem.F.type_list_append alA ho (gJ hb) hl
 |index=>exact acH PySem.F.plainAttrs_str PySem.F.slot_str_index PySem.F.type_str_index aqW ho (gJ hb) hl
 |lower=>exact acH PySem.F.plainAttrs_str PySem.F.slot_str_lower PySem.F.type_str_lower m_lower ho (gJ hb) hl
 |join=>exact acH PySem.F.plainAttrs_str PySem.F.slot_str_join PySem.F.type_str_join axC ho (gJ hb) hl
 |split=>exact acH PySem.F.plainAttrs_str PySem.F.slot_str_split PySem.F.type_str_split m_split ho (gJ hb) hl
 |upper=>exact acH PySem.F.plainAttrs_str PySem.F.slot_str_upper PySem.F.type_str_upper m_upper ho (gJ hb) hl
 |insert=>exact acH PySem.F.plainAttrs_list PySem.F.slot_list_insert PySem.F.type_list_insert alV ho (gJ hb) hl
theorem axX{to:dB}{cs:CEs}{ap cp:Pos}(ho:dR X o to)(ha:PA3 X (e::es) t)(hb:vW o=ak)(hl:(ap.endLine==cp.line)=ak)(hk:kEs S cs (e::es)=ak)(hn:(e::es).length<30) :
  dR X (.Call (.Attribute o (mkN m) ap) (e::es) [] cp) (tM3 (mkT m) (mkR m) to t):=by
 have he:isStar e=ao:=by
  cases cs with
  |nil=>exact absurd (show ao=ak from hk) (by decide)
  |cons c r =>
   have h':(!isStar e&&kE S c e&&kEs S r es)=ak:=hk;simp only[bh,gj]at h';exact h'.1.1
 have hp:(yx cp (jm es X.env)).any (·.1)=ao:=by
  have:=zX (env:=X.env) (pos:=cp) hk;rw[bC he]at this;have z:(ao||(yx cp (jm es X.env)).any (·.1))=ao:=this;simpa using z
 cases m with
 |append=>exact aoJ PySem.F.plainAttrs_list PySem.F.slot_list_append PySem.F.type_list_append alA ho ha (gJ hb) (a3Y hk hn) hl (bC he) hp
 |index=>exact aoJ PySem.F.plainAttrs_str PySem.F.slot_str_index PySem.F.type_str_index aqW ho ha (gJ hb) (a3Y hk hn) hl (bC he) hp
 |lower=>exact aoJ PySem.F.plainAttrs_str PySem.F.slot_str_lower PySem.F.type_str_lower m_lower ho ha (gJ hb) (a3Y hk hn) hl (bC he) hp
 |join=>exact aoJ PySem.F.plainAttrs_str PySem.F.slot_str_join PySem.F.type_str_join axC ho ha (gJ hb) (a3Y hk hn) hl (bC he) hp
 |split=>exact aoJ PySem.F.plainAttrs_str PySem.F.slot_str_split PySem.F.type_str_split m_split ho ha (gJ hb) (a3Y hk hn) hl (bC he) hp
 |upper=>exact aoJ PySem.F.plainAttrs_str PySem.F.slot_str_upper PySem.F.type_str_upper m_upper ho ha (gJ hb) (a3Y hk hn) hl (bC he) hp
 |insert=>exact aoJ PySem.F.plainAttrs_list PySem.F.slot_list_insert PySem.F.type_list_insert alV ho ha (gJ hb) (a3Y hk hn) hl (bC he) hp
local macro_rules| `(tactic| walk_at "off")=>`(tactic| exact absurd (show ao=ak from by assumption) (by decide))
set_option tactic.hygienic true in
theorem aKD(Q:kW X S ex){k:Nat}(h:kE S (.glo k) (.Name x p)=ak):dR X (.Name x p) (aK5 S.gl k):=by
 have h':(S.gv[k]?==aj ak&&axU S k x)=ak:=h;rw[bh]at h';obtain⟨hv,h⟩:=h';have hv:=beq_iff_eq.mp hv;unfold axU at h;unfold aK5;split at h
 .rename_i y d hk;have:=beq_iff_eq.mp h;subst this;obtain⟨h1,h2,h3,u,v,h4,h5,h6⟩:=Q.gl _ _ _ hk hv;exact aoE h1 h4 h5 h6 h2
 .rename_i y d hk;have:=beq_iff_eq.mp h;subst this;obtain⟨h1,h2,h3,h4⟩:=Q.gl _ _ _ hk hv;exact aoE h1 h4.1 (v:=.ref d) rfl (λ_=>.ref _) h2
 .rename_i y d hk;have:=beq_iff_eq.mp h;subst this;obtain⟨h1,h2,h3,h4⟩:=Q.gl _ _ _ hk hv;exact aIF h1 h4.1 h4.2 h3 h2
 .exact absurd h (by decide)
set_option tactic.hygienic true in
theorem aD1(Q:kW X S ex){k:Nat}{xs:List jt}(ha:PA3 X xs (mA S.gl X.K ex es))(hk:kEs S es xs=ak)(hv:S.gv[k]?=aj ak)(h:arE S k x (!xs.isEmpty)=ak):dR X (.Call (.Name x p) xs [] pos) (aK6 S.gl X.K ex k (mA S.gl X.K ex es)):=by
 unfold arE at h;unfold aK6
 have one:∀{e:jt}{r:List jt},xs=e::r->isStar e=ao/\(yx pos (jm r X.env)).any (·.1)=ao:=λ{e r} z=>by
  subst z;cases es with
  |nil=>exact absurd (show ao=ak from hk) (by decide)
  |cons c cr =>
   have h':(!isStar e&&kE S c e&&kEs S cr r)=ak:=hk;simp only[bh,gj]at h';exact⟨h'.1.1,zX h'.2⟩
 split at h
 .rename_i y sp n qt hg;rw[bh]at h;obtain⟨h,hc⟩:=h;have:=beq_iff_eq.mp h;subst this;obtain⟨h1,h2,h3,h4⟩:=Q.gl _ _ _ hg hv;obtain⟨j,f,fd,ps,F,hr,hm,hkp,hb⟩:=h4 (a1l _ _ |>.mp hc);cases xs with
  |nil =>
   cases es with
   |nil=>exact axW F hr h1 hm hkp hb Q.cat h2
   |cons _ _=>exact absurd (show ao=ak from hk) (by decide)
  |cons e r=>exact aCC F hr h1 hm hkp hb Q.cat ha h2 (bC (one rfl).1) (one rfl).2
 .rename_i y a hg;have:=beq_iff_eq.mp h;subst this;obtain⟨h1,h2,h3,h4,h5⟩:=Q.gl _ _ _ hg hv;cases xs with
  |nil =>
   cases es with
   |nil=>exact aJR PySem.F.excBase_ValueError (by decide) PySem.F.excBase_ValueError h1 h4 h5 h2
   |cons _ _=>exact absurd (show ao=ak from hk) (by decide)
  |cons e r=>exact aRQ PySem.F.excBase_ValueError (by decide) PySem.F.excBase_ValueError h1 h4 h5 ha h2 (bC (one rfl).1) (one rfl).2
 .rename_i y b hg;rw[bh,bh]at h;obtain⟨⟨h,hc⟩,hcm⟩:=h;have:=beq_iff_eq.mp h;subst this;cases xs with
  |nil=>exact absurd (show ao=ak from hc) (by decide)
  |cons e r=>exact aS7 Q hg hv hcm ha (one rfl).1 (one rfl).2
 .rename_i y n hg;rw[bh]at h;obtain⟨h,hc⟩:=h;have:=beq_iff_eq.mp h;subst this;obtain⟨h1,h2,h3,h4⟩:=Q.gl _ _ _ hg hv;cases xs with
  |nil=>exact absurd (show ao=ak from hc) (by decide)
  |cons e r=>exact awW aS6 h1 h4.1 h4.2 ha h3 h2 (bC (one rfl).1) (one rfl).2
 .rename_i y C sp dd hg;rw[bh]at h;obtain⟨h,hc⟩:=h;have:=beq_iff_eq.mp h;subst this;obtain⟨h1,h2,h3,h4⟩:=Q.gl _ _ _ hg hv;obtain⟨kk,f,fd,ps,ds,dvs,q1,q2,q3,q4,q5,q6,q7⟩:=h4 hc;cases xs with
  |nil =>
   cases es with
   |nil=>exact axI q1 q2 q3 h1 q4 q5 q6 q7 Q.cat h2
   |cons _ _=>exact absurd (show ao=ak from hk) (by decide)
  |cons e r=>exact aCO q1 q2 q3 h1 q4 q5 q6 q7 Q.cat ha h2 (bC (one rfl).1) (one rfl).2
 .exact absurd h (by decide)
theorem sJ{names:List (Str×wg)}(h:names.lookup y=aj k) :
  (names.map λ(n,k)=>if(k==.free&&env.scope.kind==.function&&env.kindOf n==aj .cell)then(n,.cell)else(n,k)).lookup y=aj k ∨
  (k=.free/\(names.map λ(n,k)=>if(k==.free&&env.scope.kind==.function&&env.kindOf n==aj .cell)then(n,.cell)else(n,k)).lookup y=aj .cell):=by
 induction names with
 |nil=>simp at h
 |cons p r ih =>
  obtain⟨n,kd⟩:=p;rw[qz]at h;show zp y ((if(kd==.free&&env.scope.kind==.function&&env.kindOf n==aj .cell)=ak then(n,wg.cell)else(n,kd))::_)=aj k∨(k=.free/\zp y ((if(kd==.free&&env.scope.kind==.function&&env.kindOf n==aj .cell)=ak then(n,wg.cell)else(n,kd))::_)=aj .cell);cases hx:y==n with
  |true =>
   rw[hx]at h;have hkd:kd=k:=by simpa using h
   subst hkd;by_cases hc:(kd==.free&&env.scope.kind==.function&&env.kindOf n==aj .cell)=ak
   .rw[if_pos hc,qz,hx];refine .inr ⟨?_,rfl⟩;simp only[bh,beq_iff_eq]at hc;exact hc.1.1
   .rw[if_neg hc,qz,hx];exact .inl rfl
  |false =>
   rw[hx]at h;have z:=ih h;by_cases hc:(kd==.free&&env.scope.kind==.function&&env.kindOf n==aj .cell)=ak
   .rw[if_pos hc,qz,hx];exact z
   .rw[if_neg hc,qz,hx];exact z
theorem ah4:∀{xs:List Str},aiN xs=ak->xs.Nodup
 |[],_=>List.nodup_nil
 |x::r,h=>by
  have h':(!r.contains x&&aiN r)=ak:=h;rw[bh]at h';exact yw.mpr ⟨by simpa using h'.1,ah4 h'.2⟩
theorem a88{xs:List Str}{scope:yc}{fl gv:List Bool}(h:vX S xs scope fl gv=ak) :
  scope.kind=.function/\(∀y∈scope.names,y.2≠.cell/\(y.2=.local->scope.names.lookup y.1=aj .local)/\(y.2=.free->aKA S y.1=ak)) /\
  (∀x∈xs,scope.names.lookup x=aj .local/\x∉S.N/\(x==("__debug__":Str))=ao/\(x==("__classdict__":Str))=ao)/\xs.Nodup/\(∀y∈S.N,scope.names.lookup y≠aj .local) /\
  (∀(i:Nat)(y:Str),S.N[i]?=aj y->fl[i]?=aj ak->S.fl[i]?=aj ak/\scope.names.lookup y=aj .free) /\
  ∀(k:Nat)(y:Str)(g:GT),S.gl[k]?=aj (y,g)->gv[k]?=aj ak->scope.names.lookup y=aj .globalImplicit:=by
 unfold vX at h;simp only[bh]at h;obtain⟨⟨⟨⟨⟨⟨h1,h2⟩,h3⟩,h4⟩,h5⟩,h8⟩,h9⟩:=h;refine⟨beq_iff_eq.mp h1,λy hy=>?_,λx hx=>?_,ah4 h4,λy hy=>?_,λi y e1 e2=>?_,λk y g e1 e2=>?_⟩
 .have z:=iu.mp h2 y hy;simp only[bh,bne_iff_ne,ne_eq,a1l,beq_iff_eq]at z;obtain⟨⟨z1,z2⟩,z3⟩:=z;exact⟨z1,λe=>z2.resolve_left λn=>n e,λe=>z3.resolve_left λn=>n e⟩
 .have z:=iu.mp h3 x hx;simp only[bh]at z;obtain⟨⟨⟨z1,z2⟩,z3⟩,z4⟩:=z;exact⟨beq_iff_eq.mp z1,by simpa using z2,by simpa using z3,by simpa using z4⟩
 .have z:=iu.mp h5 y hy;simpa using z
 .have z:=iu.mp h8 i (zf.mpr (jf.mp e1).1);rw[e2,e1]at z;simpa using z
 .have z:=iu.mp h9 k (zf.mpr (jf.mp e1).1);rw[e2,e1]at z;simpa using z
theorem iI(Q:kW X S ex){fl gv:List Bool}(h:vX S xs scope fl gv=ak):sH X xs scope:=by
 obtain⟨h1,h2,h3,h4,h5,h8,h9⟩:=a88 h;refine⟨h1,λy hy=>(h2 y hy).1,λy hy=>(h2 y hy).2.1,λx hx=>(h3 x hx).1,λy hy e=>?_,λx hx=>by rw[Q.N];exact(h3 x hx).2.1,h4,by rw[Q.N];exact h5⟩;have z:=(h2 y hy).2.2 e;unfold aKA at z;obtain⟨i,_,z⟩:=a1P.mp z;rw[bh]at z;exact Q.ce i y.1 (beq_iff_eq.mp z.1) (beq_iff_eq.mp z.2)
theorem axY{X:Cx}:Cat X NoX:=⟨by rintro _ _ _ _ _ _ _ _ _ ⟨_,_,_,_,_,_,_,_,_,_,_,_,_,_,_,_,z⟩;exact z.elim⟩
theorem ah5{α:Type}{xs ys:List α}{i:Nat}{y:α}(h:(xs++ys)[i]?=aj y):(i<xs.length/\y∈xs)∨∃j,i=xs.length+j/\ys[j]?=aj y:=by
 by_cases c:i<xs.length
 .rw[a0g c]at h;exact .inl ⟨c,uc h⟩
 .rw[zc (by omega)]at h;exact .inr ⟨i - xs.length,by omega,h⟩
theorem arF{α β:Type}{xs:List α}{f:α->β}{ys:List β}:(xs.map f++ys)[xs.length+j]?=ys[j]?:=by
 rw[zc (by simp)];congr 1;simp
theorem kW.cmp(Q:kW X S ex){fl gv:List Bool}(h:vX S xs scope fl gv=ak)(C:bx)(s:cg)(H:Hp)(fp:List bx)(pins:List (bx×Obj)):kW (dN X xs scope C s H fp pins) (S.cmp xs fl gv) NoX:=by
 obtain⟨h1,h2,h3,h4,h5,h8,h9⟩:=a88 h;refine⟨by show xs++X.N=xs++S.N;rw[Q.N],aoO (iI Q h) Q.nd,λi y e1 e2=>?_,λi y e1 e2=>?_,λk y g e1=>?_,Q.hu,Q.cm,axY⟩
 .rcases ah5 e1 with⟨_,m⟩|⟨j,rfl,e1'⟩
  .obtain⟨a1,a2,a3,a4⟩:=h3 y m;exact⟨.inl (a0h a1),a3,a4⟩
  .have e2':fl[j]?=aj ak:=arF.symm.trans e2;obtain⟨a1,a2⟩:=h8 j y e1' e2';obtain⟨_,b2,b3⟩:=Q.vis j y e1' a1;refine⟨?_,b2,b3⟩;rcases sJ (env:=X.env) a2 with z|⟨_,z⟩
   .exact .inr (.inr z)
   .exact .inr (.inl z)
 .rcases ah5 e1 with⟨c,m⟩|⟨j,rfl,e1'⟩
  .have e2':(xs.map (λ_=>ao)++fl)[i]?=aj ak:=e2;rw[a0g (by simpa using c)]at e2';simp at e2'
  .have e2':fl[j]?=aj ak:=arF.symm.trans e2;obtain⟨a1,a2⟩:=h8 j y e1' e2';rcases sJ (env:=X.env) a2 with z|⟨_,z⟩
   .exact .inr z
   .exact .inl z
 .obtain⟨b1,b2,b3,b4⟩:=Q.gm k y g e1;refine⟨λe2=>?_,b2,b3,?_⟩
  .rcases sJ (env:=X.env) (h9 k y g e1 e2)with z|⟨z,_⟩
   .exact z
   .cases z
  .cases g<;>exact b4
theorem acU:∀{es:List jt}{xs:List Str},zW es=aj xs->Two (λe x=>∃p,e=jt.Name x p) es xs
 |[],xs,h=>by
  have:xs=[]:=by simpa[zW]using h.symm
  subst this;exact .nil
 |e::es,xs,h=>by
  cases e with
  |Name x p =>
   have h':(zW es).map (x:: ·)=aj xs:=h;cases q:zW es with
   |none=>rw[q]at h';cases h'
   |some r =>
    rw[q]at h';have:xs=x::r:=by simpa using h'.symm
    subst this;exact .cons ⟨p,rfl⟩ (acU q)
  |_=>exact absurd (show(aq:Option (List Str))=aj xs from h) (λz=>nomatch z)
set_option tactic.hygienic true in
theorem alX(Q:kW X S ex)(h:a5F S=ak):Gl X "range"/\X.mg "range"=aq:=by
 unfold a5F at h;obtain⟨k,_,h⟩:=a1P.mp h;rw[bh]at h;obtain⟨hv,h⟩:=h;split at h
 .rename_i y n e;rw[bh]at h;have:=beq_iff_eq.mp h.1;subst this;obtain⟨g1,g2,g3,g4⟩:=Q.gl _ _ _ e (beq_iff_eq.mp hv);exact⟨g1,g4.1⟩
 .exact absurd h (by decide)
set_option tactic.hygienic true in
theorem aD2{k:Nat}(h:aCY S k x=ak):∃y C,S.gl[k]?=aj (y,.fl C x):=by
 unfold aCY at h;split at h
 .rename_i y C f e;have:=beq_iff_eq.mp h;subst this;exact⟨y,C,e⟩
 .exact absurd h (by decide)
set_option tactic.hygienic true in
theorem axZ(Q:kW X S ex)(h:alW S=ak):Gl X "zip"/\X.mg "zip"=aq/\jz "zip"=aj (.type "zip"):=by
 unfold alW at h;obtain⟨k,_,h⟩:=a1P.mp h;rw[bh]at h;obtain⟨hv,h⟩:=h;split at h
 .rename_i y n e;rw[bh]at h;have e1:=beq_iff_eq.mp h.1;have e2:=beq_iff_eq.mp h.2;subst e1;subst e2;obtain⟨g1,g2,g3,g4⟩:=Q.gl _ _ _ e (beq_iff_eq.mp hv);exact⟨g1,g4.1,g4.2⟩
 .exact absurd h (by decide)
set_option tactic.hygienic true in
theorem arG(Q:kW X S ex)(h:acT S=ak):Gl X "enumerate"/\X.mg "enumerate"=aq/\jz "enumerate"=aj (.type "enumerate"):=by
 unfold acT at h;obtain⟨k,_,h⟩:=a1P.mp h;rw[bh]at h;obtain⟨hv,h⟩:=h;split at h
 .rename_i y n e;rw[bh]at h;have e1:=beq_iff_eq.mp h.1;have e2:=beq_iff_eq.mp h.2;subst e1;subst e2;obtain⟨g1,g2,g3,g4⟩:=Q.gl _ _ _ e (beq_iff_eq.mp hv);exact⟨g1,g4.1,g4.2⟩
 .exact absurd h (by decide)
theorem acV{w:jt}(h:wZ w=aj (x,z)):∃p q,w=.Call (.Name x p) [z] [] q:=by
 unfold wZ at h;split at h
 .cases h;exact⟨_,_,rfl⟩
 .cases h
theorem alY(h:isSet e=ao):∀x,a0e e env x=pure x:=by
 cases e<;>first|(intro _;rfl)|exact absurd (show ak=ao from h) (by decide)
end
end L4
namespace L4
open PySem PySem.Spec PyProof.Rows L2
theorem aR{P:Prop}(h:ao=ak):P:=absurd h (by decide)
theorem aKE{t:TI3}(h:PIS X tg e t):PI3 X tg e t:=PI.imp h λσ H Q ⟨ρ,G,R,sr,g,q,k⟩=>⟨ρ,G,R,sr,g,q,λsrc J H' G' t1 g1 sS r=>k src J H' G' t1 g1 (λH2 G2 _ g2 ok=>sS H2 G2 g2 ok) r⟩
variable{k:Nat}
theorem aKF(h:cdY S k e=ak):∃y q,e=.Name y q/\cdB S k y=ak:=by
 cases e with
 |Name y q=>exact⟨y,q,rfl,h⟩
 |_=>exact aR h
set_option tactic.hygienic true in
theorem ay0{X:Cx}{S:SI}{ex:aL->aO}(Q:kW X S ex){x:Str}(h:cdB S k x=ak):∃a tb,cdT S.gl k=aj (a,tb)/\Gl X x/\X.mg x=aj (.ref a)/\(x==("__debug__":Str))=ao/\CDi X.prog X.w X.K a tb:=by
 unfold cdB at h;split at h
 .rename_i y a tb hk;rw[bh]at h;have:=beq_iff_eq.mp h.1;subst this;obtain⟨h1,h2,h3,h4⟩:=Q.gl _ _ _ hk (beq_iff_eq.mp h.2);exact⟨a,tb,by unfold cdT;rw[hk],h1,h4.1,h2,h4.2⟩
 .exact aR h
mutual
theorem mJ{X:Cx}{S:SI}{ex:aL->aO}(Q:kW X S ex):∀(c:CE)(e:jt),kE S c e=ak->dR X e (mE S.gl X.K ex c)
 |.var i,e,h=>by
  cases e with
  |Name x p =>
   have h':(S.N[i]?==aj x&&S.fl[i]?==aj ak)=ak:=h;rw[bh]at h';have e1:=beq_iff_eq.mp h'.1;obtain⟨v1,v2,v3⟩:=Q.vis i x e1 (beq_iff_eq.mp h'.2);exact aQC i (by rw[Q.N];exact e1) v1 v2 v3
  |_=>exact aR h
 |.con d,e,h=>by
  cases e with
  |Constant c j p=>exact aKB h
  |_=>exact aR h
 |.glo k,e,h=>by
  cases e with
  |Name x p=>exact aKD Q h
  |_=>exact aR h
 |.neg a,e,h=>by
  cases e with
  |UnaryOp op x p =>
   cases op with
   |USub=>exact aR9 (mJ Q a x h)
   |_=>exact aR h
  |_=>exact aR h
 |.aCX a,e,h=>by
  cases e with
  |UnaryOp op x p =>
   cases op with
   |Not=>exact aQP (mJ Q a x h)
   |_=>exact aR h
  |_=>exact aR h
 |.bin o a b,e,h=>by
  cases e with
  |BinOp x o' y p =>
   have h':(o==o'&&kE S a x&&kE S b y)=ak:=h;simp only[bh]at h';have:=beq_iff_eq.mp h'.1.1;subst this;exact aQH aCZ (mJ Q a x h'.1.2) (mJ Q b y h'.2)
  |_=>exact aR h
 |.cmp o a b,e,h=>by
  cases e with
  |Compare x ops ys p =>
   match ops,ys,h with
   |[o'],[y],h =>
    have h':(o==o'&&!behindInMarks o' y&&kE S a x&&kE S b y)=ak:=h;simp only[bh,gj]at h';have:=beq_iff_eq.mp h'.1.1.1;subst this;exact aQI (a1X Q.hu) (mJ Q a x h'.1.2) (mJ Q b y h'.2) h'.1.1.2
   |[],_,h=>exact aR h
   |_::_::_,_,h=>exact aR h
   |[_],[],h=>exact aR h
   |[_],_::_::_,h=>exact aR h
  |_=>exact aR h
 |.chain o o' a b c,e,h=>by
  cases e with
  |Compare x ops ys p =>
   match ops,ys,h with
   |[p1,p2],[y,z],h =>
    have h':(o==p1&&o'==p2&&!lastMarks [p1,p2] [y,z]&&kE S a x&&kE S b y&&kE S c z)=ak:=h;simp only[bh,gj]at h';have e1:=beq_iff_eq.mp h'.1.1.1.1.1;have e2:=beq_iff_eq.mp h'.1.1.1.1.2;subst e1;subst e2;exact aC7 (a1X Q.hu) (a1X Q.hu) (mJ Q a x h'.1.1.2) (mJ Q b y h'.1.2) (mJ Q c z h'.2) h'.1.1.1.2
   |[],_,h=>exact aR h
   |[_],_,h=>exact aR h
   |_::_::_::_,_,h=>exact aR h
   |[_,_],[],h=>exact aR h
   |[_,_],[_],h=>exact aR h
   |[_,_],_::_::_::_,h=>exact aR h
  |_=>exact aR h
 |.au5 es,e,h=>by
  cases e with
  |BoolOp op xs p =>
   cases op with
   |And=>exact aGJ Q es xs p h
   |Or=>exact aR h
  |_=>exact aR h
 |.tup es,e,h=>by
  cases e with
  |Tuple xs j p=>exact aQQ (okA Q es xs h)
  |_=>exact aR h
 |.lst es,e,h=>by
  cases e with
  |List xs p=>exact aQR (okA Q es xs h)
  |_=>exact aR h
 |.ix a b,e,h=>by
  cases e with
  |Subscript x y p =>
   have h':(!isSlice y&&kE S a x&&kE S b y)=ak:=h;simp only[bh,gj]at h';exact aW8 (mJ Q a x h'.1.2) (mJ Q b y h'.2) (aGI h'.1.1)
  |_=>exact aR h
 |.sl a lo hi,e,h=>by
  cases e with
  |Subscript x y p =>
   cases y with
   |Slice l u st q =>
    cases st with
    |none =>
     have h':(kE S a x&&kO S lo l&&kO S hi u)=ak:=h;simp only[bh]at h';exact aCG (mJ Q a x h'.1.1) (okO Q lo l h'.1.2) (okO Q hi u h'.2)
    |some _=>exact aR h
   |_=>exact aR h
  |_=>exact aR h
 |.call k es,e,h=>by
  cases e with
  |Call f xs kws p =>
   cases f with
   |Name x q =>
    cases kws with
    |nil =>
     have h':(kEs S es xs&&S.gv[k]?==aj ak&&arE S k x (!xs.isEmpty))=ak:=h;simp only[bh]at h';exact aD1 Q (okA Q es xs h'.1.1) h'.1.1 (beq_iff_eq.mp h'.1.2) h'.2
    |cons _ _=>exact aR h
   |_=>exact aR h
  |_=>exact aR h
 |.meth m o .nil,e,h=>by
  cases e with
  |Call f xs kws p =>
   cases f with
   |Attribute y n ap =>
    cases kws with
    |nil =>
     have h':(n==mkN m&&vW y&&ap.endLine==p.line&&decide (xs.length<30)&&kE S o y&&kEs S .nil xs)=ak:=h;simp only[bh]at h';obtain⟨⟨⟨⟨⟨h1,h2⟩,h3⟩,h4⟩,h5⟩,h6⟩:=h';have:=beq_iff_eq.mp h1;subst this;cases xs with
     |nil=>exact aD0 (mJ Q o y h5) h2 h3
     |cons _ _=>exact aR h6
    |cons _ _=>exact aR h
   |_=>exact aR h
  |_=>exact aR h
 |.meth m o (.cons c r),e,h=>by
  cases e with
  |Call f xs kws p =>
   cases f with
   |Attribute y n ap =>
    cases kws with
    |nil =>
     have h':(n==mkN m&&vW y&&ap.endLine==p.line&&decide (xs.length<30)&&kE S o y&&kEs S (.cons c r) xs)=ak:=h;simp only[bh]at h';obtain⟨⟨⟨⟨⟨h1,h2⟩,h3⟩,h4⟩,h5⟩,h6⟩:=h';have:=beq_iff_eq.mp h1;subst this;cases xs with
     |nil=>exact aR h6
     |cons x xs =>
      have h7:(!isStar x&&kE S c x&&kEs S r xs)=ak:=h6;simp only[bh,gj]at h7;exact axX (mJ Q o y h5) (sG (mJ Q c x h7.1.2) (okA Q r xs h7.2) (bC h7.1.1)) h2 h3 h6 (of_decide_eq_true h4)
    |cons _ _=>exact aR h
   |_=>exact aR h
  |_=>exact aR h
 |.comp fl gv ci cc c,e,h=>by
  cases e with
  |ListComp elt gens scope p =>
   cases gens with
   |nil=>exact aR h
   |cons g gr =>
    cases gr with
    |cons _ _=>obtain⟨tg,it,ifs,a⟩:=g;cases tg<;>exact aR h
    |nil =>
     obtain⟨tg,it,ifs,a⟩:=g;cases tg with
     |Name x px =>
      have h':(a==0&&vX S [x] scope fl gv&&!isSet it&&kI S ao ci it&&kC (S.cmp [x] fl gv) cc ifs&&kE (S.cmp [x] fl gv) c elt)=ak:=h;simp only[bh,gj]at h';obtain⟨⟨⟨⟨⟨h2,h3⟩,h4⟩,h5⟩,h6⟩,h7⟩:=h';have:=beq_iff_eq.mp h2;subst this;exact aqY (iI Q h3) (λC s H fp pins σ=>ax6 (iI Q h3) Q.nd) alH (okI (tt:=false) Q (λz=>nomatch z) ci it h5) (λC s H fp pins=>okC (Q.cmp h3 C s H fp pins) cc ifs h6) (λC s H fp pins=>mJ (Q.cmp h3 C s H fp pins) c elt h7) (alY h4)
     |_=>exact aR h
  |_=>exact aR h
 |.smul a b,e,h=>by
  cases e with
  |BinOp x o' y p =>
   cases o' with
   |Mult =>
    have h':(kE S a x&&kE S b y)=ak:=h;simp only[bh]at h';exact aQH aK3 (mJ Q a x h'.1) (mJ Q b y h'.2)
   |_=>exact aR h
  |_=>exact aR h
 |.cix k c,e,h=>by
  cases e with
  |Subscript x y p =>
   cases x with
   |Name x q =>
    have h':(cdB S k x&&!isSlice y&&kE S c y)=ak:=h;simp only[bh,gj]at h';obtain⟨a,tb,e1,e2,e3,e4,e5⟩:=ay0 Q h'.1.1
    show dR X _ (match cdT S.gl k with
     |some (_,tb)=>axR tb (mE S.gl X.K ex c)
     |none=>aoQ)
    rw[e1];exact aS0 e2 e3 e4 e5 (mJ Q c y h'.2) (aGI h'.1.2)
   |_=>exact aR h
  |_=>exact aR h
 |.rev a k,e,h=>by
  cases e with
  |Subscript x y p =>
   cases y with
   |Slice l u st q =>
    match l,u,st,h with
    |none,aq,aj z,h =>
     have h':(kE S a x&&kE S k z)=ak:=h;simp only[bh]at h';exact aRV (mJ Q a x h'.1) (awO (mJ Q k z h'.2))
    |some _,_,_,h=>exact aR h
    |none,aj _,_,h=>exact aR h
    |none,aq,aq,h=>exact aR h
   |_=>exact aR h
  |_=>exact aR h
theorem okA{X:Cx}{S:SI}{ex:aL->aO}(Q:kW X S ex):∀(c:CEs)(es:List jt),kEs S c es=ak->PA3 X es (mA S.gl X.K ex c)
 |.nil,es,h=>by
  cases es with
  |nil=>exact ac9
  |cons _ _=>exact aR h
 |.cons c r,es,h=>by
  cases es with
  |nil=>exact aR h
  |cons x xs =>
   have h7:(!isStar x&&kE S c x&&kEs S r xs)=ak:=h;simp only[bh,gj]at h7;exact sG (mJ Q c x h7.1.2) (okA Q r xs h7.2) (bC h7.1.1)
theorem aGJ{X:Cx}{S:SI}{ex:aL->aO}(Q:kW X S ex):∀(c:CEs)(es:List jt)(p:Pos),kEs S c es=ak->dR X (.BoolOp .And es p) (aK7 S.gl X.K ex c)
 |.nil,es,p,h=>axV
 |.cons c .nil,es,p,h=>by
  match es,h with
  |[],h=>exact aR h
  |[x],h =>
   have h7:(!isStar x&&kE S c x&&kEs S .nil [])=ak:=h;simp only[bh,gj]at h7;exact aG5 (mJ Q c x h7.1.2)
  |x::y::ys,h =>
   have h7:(!isStar x&&kE S c x&&kEs S .nil (y::ys))=ak:=h;simp only[bh,gj]at h7;exact aR h7.2
 |.cons c (.cons c' r),es,p,h=>by
  match es,h with
  |[],h=>exact aR h
  |[x],h =>
   have h7:(!isStar x&&kE S c x&&kEs S (.cons c' r) [])=ak:=h;simp only[bh,gj]at h7;exact aR h7.2
  |x::y::ys,h =>
   have h7:(!isStar x&&kE S c x&&kEs S (.cons c' r) (y::ys))=ak:=h;simp only[bh,gj]at h7;exact aQO (mJ Q c x h7.1.2) (aGJ Q (.cons c' r) (y::ys) p h7.2)
theorem aX6{X:Cx}{S:SI}{ex:aL->aO}(Q:kW X S ex):∀(c:CEs)(es:List jt)(p:Pos),kEs S c es=ak->dR X (.BoolOp .Or es p) (mOr S.gl X.K ex c)
 |.nil,es,p,h=>axV
 |.cons c .nil,es,p,h=>by
  match es,h with
  |[],h=>exact aR h
  |[x],h =>
   have h7:(!isStar x&&kE S c x&&kEs S .nil [])=ak:=h;simp only[bh,gj]at h7;exact aG5 (mJ Q c x h7.1.2)
  |x::y::ys,h =>
   have h7:(!isStar x&&kE S c x&&kEs S .nil (y::ys))=ak:=h;simp only[bh,gj]at h7;exact aR h7.2
 |.cons c (.cons c' r),es,p,h=>by
  match es,h with
  |[],h=>exact aR h
  |[x],h =>
   have h7:(!isStar x&&kE S c x&&kEs S (.cons c' r) [])=ak:=h;simp only[bh,gj]at h7;exact aR h7.2
  |x::y::ys,h =>
   have h7:(!isStar x&&kE S c x&&kEs S (.cons c' r) (y::ys))=ak:=h;simp only[bh,gj]at h7;exact aW4 (mJ Q c x h7.1.2) (aX6 Q (.cons c' r) (y::ys) p h7.2)
theorem okT{X:Cx}{S:SI}{ex:aL->aO}(Q:kW X S ex):∀(c:CT)(e:jt),kT S c e=ak->PT3 X e (mT S.gl X.K ex c)
 |.cmp o a b,e,h=>by
  cases e with
  |Compare x ops ys p =>
   match ops,ys,h with
   |[o'],[y],h =>
    have h':(o==o'&&!behindInMarks o' y&&kE S a x&&kE S b y)=ak:=h;simp only[bh,gj]at h';have:=beq_iff_eq.mp h'.1.1.1;subst this;exact aG3 (a1X Q.hu) (mJ Q a x h'.1.2) (mJ Q b y h'.2) h'.1.1.2
   |[],_,h=>exact aR h
   |_::_::_,_,h=>exact aR h
   |[_],[],h=>exact aR h
   |[_],_::_::_,h=>exact aR h
  |_=>exact aR h
 |.chain o o' a b c,e,h=>by
  cases e with
  |Compare x ops ys p =>
   match ops,ys,h with
   |[p1,p2],[y,z],h =>
    have h':(o==p1&&o'==p2&&!lastMarks [p1,p2] [y,z]&&kE S a x&&kE S b y&&kE S c z)=ak:=h;simp only[bh,gj]at h';have e1:=beq_iff_eq.mp h'.1.1.1.1.1;have e2:=beq_iff_eq.mp h'.1.1.1.1.2;subst e1;subst e2;exact aC8 (a1X Q.hu) (a1X Q.hu) (mJ Q a x h'.1.1.2) (mJ Q b y h'.1.2) (mJ Q c z h'.2) h'.1.1.1.2
   |[],_,h=>exact aR h
   |[_],_,h=>exact aR h
   |_::_::_::_,_,h=>exact aR h
   |[_,_],[],h=>exact aR h
   |[_,_],[_],h=>exact aR h
   |[_,_],_::_::_::_,h=>exact aR h
  |_=>exact aR h
 |.not t,e,h=>by
  cases e with
  |UnaryOp op x p =>
   cases op with
   |Not=>exact aQN (okT Q t x h)
   |_=>exact aR h
  |_=>exact aR h
 |.and ts,e,h=>by
  cases e with
  |BoolOp op xs p =>
   cases op with
   |And=>exact PW.pt (ay1 Q ts xs p h)
   |Or=>exact aR h
  |_=>exact aR h
 |.or ts,e,h=>by
  cases e with
  |BoolOp op xs p =>
   cases op with
   |Or=>exact PW.pt (aGK Q ts xs p h)
   |And=>exact aR h
  |_=>exact aR h
 |.cni k c,e,h=>by
  cases e with
  |Compare x ops ys p =>
   match ops,ys,h with
   |[o'],[y],h =>
    have h':(o'==CmpOp.NotIn&&cdY S k y&&!behindInMarks o' y&&kE S c x)=ak:=h;simp only[bh,gj]at h';have e:=beq_iff_eq.mp h'.1.1.1;subst e;obtain⟨yn,q,rfl,hy⟩:=aKF h'.1.1.2;obtain⟨a,tb,e1,e2,e3,e4,e5⟩:=ay0 Q hy
    show PT3 X _ (match cdT S.gl k with
     |some (a,tb)=>aK (aD (axS a tb) (mE S.gl X.K ex c) (aG (.ref a)))
     |none=>arD)
    rw[e1];exact aG3 (aS1 e5) (mJ Q c x h'.2) (aoE e2 e3 (v:=.ref a) rfl (λ_=>.ref _) e4) h'.1.2
   |[],_,h=>exact aR h
   |_::_::_,_,h=>exact aR h
   |[_],[],h=>exact aR h
   |[_],_::_::_,h=>exact aR h
  |_=>exact aR h
 |.val c,e,h=>by
  have h':(plainT e&&kE S c e)=ak:=h;rw[bh]at h';exact aQJ (mJ Q c e h'.2) (aKC h'.1)
theorem ay1{X:Cx}{S:SI}{ex:aL->aO}(Q:kW X S ex):∀(c:CTs)(es:List jt)(p:Pos),kTs S c es=ak->PW3 X (.BoolOp .And es p) (axT S.gl X.K ex c)
 |.nil,es,p,h=>λ_ _ _ _ _ _ _ ⟨_,_,_,_,_,z,_⟩=>z.elim
 |.cons c .nil,es,p,h=>by
  match es,h with
  |[],h=>exact aR h
  |[x],h =>
   have h7:(kT S c x&&kTs S .nil [])=ak:=h;simp only[bh]at h7;exact aIH (okT Q c x h7.1)
  |x::y::ys,h =>
   have h7:(kT S c x&&kTs S .nil (y::ys))=ak:=h;simp only[bh]at h7;exact aR h7.2
 |.cons c (.cons c' r),es,p,h=>by
  match es,h with
  |[],h=>exact aR h
  |[x],h =>
   have h7:(kT S c x&&kTs S (.cons c' r) [])=ak:=h;simp only[bh]at h7;exact aR h7.2
  |x::y::ys,h =>
   have h7:(kT S c x&&kTs S (.cons c' r) (y::ys))=ak:=h;simp only[bh]at h7;exact aQM (okT Q c x h7.1) (ay1 Q (.cons c' r) (y::ys) p h7.2)
theorem aGK{X:Cx}{S:SI}{ex:aL->aO}(Q:kW X S ex):∀(c:CTs)(es:List jt)(p:Pos),kTs S c es=ak->PW3 X (.BoolOp .Or es p) (aK8 S.gl X.K ex c)
 |.nil,es,p,h=>λ_ _ _ _ _ _ _ ⟨_,_,_,_,_,z,_⟩=>z.elim
 |.cons c .nil,es,p,h=>by
  match es,h with
  |[],h=>exact aR h
  |[x],h =>
   have h7:(kT S c x&&kTs S .nil [])=ak:=h;simp only[bh]at h7;exact aQL (okT Q c x h7.1)
  |x::y::ys,h =>
   have h7:(kT S c x&&kTs S .nil (y::ys))=ak:=h;simp only[bh]at h7;exact aR h7.2
 |.cons c (.cons c' r),es,p,h=>by
  match es,h with
  |[],h=>exact aR h
  |[x],h =>
   have h7:(kT S c x&&kTs S (.cons c' r) [])=ak:=h;simp only[bh]at h7;exact aR h7.2
  |x::y::ys,h =>
   have h7:(kT S c x&&kTs S (.cons c' r) (y::ys))=ak:=h;simp only[bh]at h7;exact aW3 (okT Q c x h7.1) (aGK Q (.cons c' r) (y::ys) p h7.2)
theorem okO{X:Cx}{S:SI}{ex:aL->aO}(Q:kW X S ex):∀(c:CO)(e:Option jt),kO S c e=ak->PO3 X e (mO S.gl X.K ex c)
 |.none,e,h=>by
  cases e with
  |none=>exact aIL
  |some _=>exact aR h
 |.some c,e,h=>by
  cases e with
  |none=>exact aR h
  |some x=>exact awO (mJ Q c x h)
theorem okI{X:Cx}{S:SI}{ex:aL->aO}(Q:kW X S ex){tg:jt}{tt:Bool}(htt:tt=ak->X.calm=ak/\∃es kt pt,tg=.Tuple es kt pt):∀(c:CI)(e:jt),kI S tt c e=ak->PI3 X tg e (mI S.gl X.K ex c)
 |.any c,e,h=>aRE (mJ Q c e h)
 |.aiM c,e,h=>by
  cases e with
  |Call f as ks p =>
   cases f with
   |Name r q =>
    cases as with
    |nil=>exact aR h
    |cons y yr =>
     cases yr with
     |cons _ _=>exact aR h
     |nil =>
      cases ks with
      |cons _ _=>exact aR h
      |nil =>
       have h':(r==("range":Str)&&a5F S&&!isStar y&&kE S c y)=ak:=h;simp only[bh,gj]at h';obtain⟨⟨⟨h1,h2⟩,h3⟩,h4⟩:=h';have:=beq_iff_eq.mp h1;subst this;obtain⟨g1,g2⟩:=alX Q h2;exact aJA g1 g2 (sG (mJ Q c y h4) ac9 (bC h3)) (bC h3)
   |_=>exact aR h
  |_=>exact aR h
 |.zip a b,e,h=>by
  cases e with
  |Call f as ks p =>
   cases f with
   |Name r q =>
    match as,ks,h with
    |[],_,h=>exact aR h
    |[_],_,h=>exact aR h
    |_::_::_::_,_,h=>exact aR h
    |[_,_],_::_,h=>exact aR h
    |[y,z],[],h =>
     have h':(tt&&r==("zip":Str)&&alW S&&!isStar y&&!isStar z&&kE S a y&&kE S b z)=ak:=h;simp only[bh,gj]at h';obtain⟨⟨⟨⟨⟨⟨h0,h1⟩,h2⟩,h3⟩,h4⟩,h5⟩,h6⟩:=h';have:=beq_iff_eq.mp h1;subst this;obtain⟨g1,g2,g3⟩:=axZ Q h2;obtain⟨hc,es,kt,pt,rfl⟩:=htt h0;exact aRT hc g1 g2 g3 (sG (mJ Q a y h5) (sG (mJ Q b z h6) ac9 (bC h4)) (bC h3)) (by rw[bC h3,bC h4];rfl) (bC h4)
   |_=>exact aR h
  |_=>exact aR h
 |.enu c,e,h=>by
  have h':(tt&&(match wZ e with
   |some (r,y)=>r==("enumerate":Str)&&acT S&&!isStar y&&kE S c y
   |none=>ao))=ak:=h
  rw[bh]at h';obtain⟨h0,h4⟩:=h';cases q2:wZ e with
  |none=>rw[q2]at h4;exact aR h4
  |some z =>
   obtain⟨r,y⟩:=z;rw[q2]at h4;simp only[bh,gj]at h4;obtain⟨⟨⟨h5,h6⟩,h7⟩,h8⟩:=h4;have e5:=beq_iff_eq.mp h5;subst e5;obtain⟨p,pos,rfl⟩:=acV q2;obtain⟨g1,g2,g3⟩:=arG Q h6;obtain⟨hc,es,kt,pt,rfl⟩:=htt h0;exact aKE (ar9 hc g1 g2 g3 (sG (mJ Q c y h8) ac9 (bC h7)) (bC h7))
theorem okC{X:Cx}{S:SI}(Q:kW X S NoX):∀(c:CC)(es:List jt),kC S c es=ak->alD X es (mC S.gl X.K c)
 |.none,es,h=>by
  cases es with
  |nil=>exact aCH
  |cons _ _=>exact aR h
 |.some t,es,h=>by
  match es,h with
  |[],h=>exact aR h
  |[x],h=>exact aCI (okT Q t x h)
  |_::_::_,h=>exact aR h
end
end L4
namespace L4
open PySem PySem.Spec PyProof.Rows L2
inductive CTg where
 |nm (i:Nat)|tup (is:List Nat)
mutual
inductive CS where
 |ret (e:CE)|aD3 (n:Nat) (fl gv:List Bool) (ci:CI) (e:CE)|expr (e:CE)|ifs (t:CT) (a b:CB)|set (i:Nat) (e:CE)|aD4 (o i e:CE)
 |raise (k:Nat) (e:CE) (es:CEs)|aD5 (k i:Nat) (b h:CB)|aD6 (b:CB) (hs:CH)|pass
 |setC (i:Nat) (fl gv:List Bool) (ci:CI) (cc:CC) (e:CE)|aoS (ci:CI) (tg:CTg) (b:CB)
 |arH (i n:Nat) (fl gv:List Bool) (ci:CI) (cc:CC) (e:CE)|aD7 (is:List Nat) (e:CE)|a2G (k:Nat) (o e:CE)|hid (i:Nat) (nm:Str) (s:CS)
inductive CB where
 |nil|cons (s:CS) (r:CB)
inductive CH where
 |nil
 |cons (k:Nat) (b:CB) (r:CH)
end
noncomputable def ay2:aZ:=λ_ _ _=>False
noncomputable abbrev SI.han(S:SI):SI:={S with calm:=false}
noncomputable abbrev SI.hid(S:SI)(i:Nat)(nm:Str):SI:={S with N:=S.N.set i nm,fl:=S.fl.set i ao,lc:=S.lc.set i ao,ce:=S.ce.set i ao}
noncomputable def mIS(T:List (Str×GT))(K:Fg)(ex:aL->aO):CI->TI3
 |.any e=>aCM (mE T K ex e)
 |.aiM e=>wY (aA (mE T K ex e) aC)
 |.zip a b=>acP (aA (mE T K ex a) (aA (mE T K ex b) aC))
 |.enu e=>a73 (aA (mE T K ex e) aC)
noncomputable def mG:CTg->TG3
 |.nm i=>a70 i
 |.tup is=>acO is
noncomputable def aD8(T:List (Str×GT))(ex:aL->aO)(k:Nat)(t:wL):aZ:=match T[k]? with
 |some (_,.cls a)=>oK ex a t
 |_=>ay2
noncomputable def aD9(T:List (Str×GT))(K:Fg)(k i:Nat)(tb:(aL->aO)->aZ)(th:aZ):aZ:=match T[k]? with
 |some (_,.cls a)=>al5 K a i tb th
 |_=>ay2
noncomputable def aKH(T:List (Str×GT))(k:Nat)(to te:dB):aZ:=match T[k]? with
 |some (_,.fl C f)=>fH C to te f
 |_=>ay2
noncomputable def aKI(T:List (Str×GT))(k:Nat):bx:=match T[k]? with
 |some (_,.cls a)=>a
 |_=>0
noncomputable def a89(S:SI)(k:Nat)(x:Str):Bool:=match S.gl[k]? with
 |some (z,.cls _)=>z==x
 |_=>ao
mutual
noncomputable def mS(T:List (Str×GT))(K:Fg)(ex:aL->aO):CS->aZ
 |.ret e=>aU (mE T K ex e)
 |.aD3 n _ _ ci e=>aU (ab0 n (mI T K ex ci) pD (mE T K ex e))
 |.expr e=>a3S (mE T K ex e)
 |.ifs t a b=>bF (mT T K ex t) (mB T K ex a) (mB T K ex b)
 |.set i e=>bJ i (mE T K ex e)
 |.aD4 o i e=>ai7 (mE T K ex o) (mE T K ex i) (mE T K ex e)
 |.raise k e es=>aD8 T ex k (aA (mE T K ex e) (mA T K ex es))
 |.aD5 k i b h=>aD9 T K k i (λEX2=>mB T K EX2 b) (mB T K NoX h)
 |.aD6 b hs=>alS K (λEX2=>mB T K EX2 b) (mH T K hs)
 |.setC i _ _ ci cc e=>bJ i (a6Z (mI T K ex ci) (mC T K cc) (mE T K NoX e))
 |.aoS ci tg b=>a3V (mIS T K ex ci) (mG tg) (mB T K ex b)
 |.arH i n _ _ ci cc e=>bJ i (ab0 n (mI T K ex ci) (mC T K cc) (mE T K NoX e))
 |.aD7 is e=>aiH is (mE T K ex e)
 |.a2G k o e=>aKH T k (mE T K ex o) (mE T K ex e)
 |.hid i _ s=>ar8 i (mS T K (λρ=>ex (pC ρ i)) s)
 |.pass=>aN
noncomputable def mB(T:List (Str×GT))(K:Fg)(ex:aL->aO):CB->aZ
 |.nil=>aN
 |.cons s .nil=>mS T K ex s
 |.cons s (.cons s' r)=>aH (mS T K ex s) (mB T K ex (.cons s' r))
noncomputable def mH(T:List (Str×GT))(K:Fg):CH->List (bx×aZ)
 |.nil=>[]
 |.cons k b r=>(aKI T k,mB T K NoX b)::mH T K r
end
noncomputable def isTup:jt->Bool
 |.Tuple ..=>ak
 |_=>ao
noncomputable def pF:jt->Bool
 |.ListComp ..=>ak
 |.SetComp ..=>ak
 |.DictComp ..=>ak
 |_=>ao
noncomputable def kTg(S:SI):CTg->jt->Bool
 |.nm i,.Name x _=>S.N[i]?==aj x&&S.fl[i]?==aj ak
 |.tup is,.Tuple es _ _=>kNs S is es
 |_,_=>ao
where
 kNs (S:SI):List Nat->List jt->Bool
 |[],[]=>ak
 |i::is,.Name x _::es=>S.N[i]?==aj x&&S.fl[i]?==aj ak&&kNs S is es
 |_,_=>ao
noncomputable def aKK(S:SI):CTg->Bool
 |.nm _=>ak
 |.tup _=>S.calm
mutual
noncomputable def kS(S:SI)(lv:Nat):CS->mj->Bool
 |.ret e,.Return (aj x) _=>kE S e x
 |.aD3 n fl gv ci e,.Return (aj (.ListComp elt [⟨.Tuple es _ _,iter,[],a⟩] scope _)) _=>lv==0&&S.calm&&a==0&&(match zW es with
  |some xs=>xs.length==n&&vX S xs scope fl gv&&!isSet iter&&kI S ak ci iter&&kE (S.cmp xs fl gv) e elt
  |none=>ao)
 |.expr e,.Expr x _=>!pF x&&kE S e x
 |.ifs t a b,.If x y z _=>kT S t x&&kB S lv a y&&kB S lv b z
 |.set i e,.Assign [.Name x _] y _=>S.N[i]?==aj x&&S.fl[i]?==aj ak&&!pF y&&kE S e y
 |.aD4 o i e,.Assign [.Subscript x y _] z _=>!isSlice y&&!pF z&&kE S o x&&kE S i y&&kE S e z
 |.raise k e es,.Raise (aj (.Call (.Name x _) (y::ys) [] _)) aq _=>lv==0&&S.calm&&!isStar y&&kE S e y&&kEs S es ys&&S.gv[k]?==aj ak&&a89 S k x
 |.aD5 k i b h,.Try y [.ExceptHandler (aj (.Name x _)) (aj n) (z::zs) _] [] [] _=>lv==0&&S.calm&&S.N[i]?==aj n&&S.lc[i]?==aj ak&&kB S 1 b y&&kB S.han 2 h (z::zs)&&S.gv[k]?==aj ak&&a89 S k x
 |.aD6 b hs,.Try y (z::zs) [] [] _=>lv==0&&S.calm&&kB S 1 b y&&kH S hs (z::zs)
 |.setC i fl gv ci cc e,.Assign [.Name y _] (.ListComp elt [⟨.Name x _,iter,ifs,a⟩] scope _) _=>S.N[i]?==aj y&&S.fl[i]?==aj ak&&a==0&&vX S [x] scope fl gv&&!isSet iter&&kI S ao ci iter&&kC (S.cmp [x] fl gv) cc ifs&&kE (S.cmp [x] fl gv) e elt
 |.arH i n fl gv ci cc e,.Assign [.Name y _] (.ListComp elt [⟨.Tuple es _ _,iter,ifs,a⟩] scope _) _=>S.calm&&S.N[i]?==aj y&&S.fl[i]?==aj ak&&a==0&&(match zW es with
  |some xs=>xs.length==n&&vX S xs scope fl gv&&!isSet iter&&kI S ak ci iter&&kC (S.cmp xs fl gv) cc ifs&&kE (S.cmp xs fl gv) e elt
  |none=>ao)
 |.aD7 is e,.Assign [.Tuple es _ _] y _=>S.calm&&!isTup y&&!pF y&&kTg.kNs S is es&&kE S e y
 |.a2G k o e,.Assign [.Attribute x n _] z _=>aCY S k n&&!pF z&&kE S o x&&kE S e z
 |.hid i nm s,st=>!S.N.contains nm&&kS (S.hid i nm) lv s st
 |.aoS ci tg b,.For tgt iter body [] _=>lv !=1&&aKK S tg&&!isSet iter&&kTg S tg tgt&&kI S (isTup tgt&&S.calm) ci iter&&kB S lv b body
 |.pass,.Pass _=>ak
 |_,_=>ao
noncomputable def kB(S:SI)(lv:Nat):CB->List mj->Bool
 |.nil,[]=>ak
 |.cons s r,x::xs=>kS S lv s x&&kB S lv r xs
 |_,_=>ao
noncomputable def kH(S:SI):CH->List ExceptHandler->Bool
 |.nil,[]=>ak
 |.cons k b r,.ExceptHandler (aj (.Name x _)) aq (z::zs) _::hs=>kB S.han 2 b (z::zs)&&S.gv[k]?==aj ak&&a89 S k x&&kH S r hs
 |_,_=>ao
end
structure a5G(X:Cx)(S:SI)(ex:aL->aO)(lv:Nat):Prop where
 si:kW X S ex
 loc:∀(i:Nat)(x:Str),S.N[i]?=aj x->S.fl[i]?=aj ak->Loc X.env.scope x
 lcl:∀(i:Nat)(x:Str),S.N[i]?=aj x->S.lc[i]?=aj ak->X.env.kindOf x=aj .local
 fn:∀x,X.fn x=ak
 cls:∀(k:Nat)(x:Str)(a:bx),S.gl[k]?=aj (x,.cls a)->S.gv[k]?=aj ak->yp X.K a BMv "ValueError.__new__"=ak/\(ux X.K a).isSome=ak/\a0a X.K (.ref a)=aj (.type "type")/\um X.K (.ref a) (.type "BaseException")=aj ak
 l0:lv≠1->PassesOwn (dz X.prog X.w) X.A X.env X.xe
 rz:lv=0->S.calm=ak->Thr X ex
 stk:X.stack=X.env::X.outer
 frm:X.env.frame=aj X.env.locals
 cb:lv=0->∃EXk,(∀ρ,ex ρ=EXk)/\au4 X EXk
variable{n:Nat}{env:Env}
theorem alZ(h:pF e=ao):a0s e t n env=pure ao:=by
 cases e<;>first|rfl|exact absurd (show ak=ao from h) (by decide)
theorem aDA(h:isSlice i=ao):∀v,assign (.Subscript o i p) env v=(do
   let ov ←a1a [v] (eval o env)
   let iv ←a1a [v,ov] (eval i env)
   standAt p
   a1a [v,ov,iv] (setItem ov iv v)
   release [v,ov,iv] []):=by
 cases i<;>first|(intro _;rfl)|exact absurd (show ak=ao from h) (by decide)
variable{k:Nat}
theorem aKM{tp:Pos}(h:isTup e=ao):swappedStores [.Tuple es k tp] e env=pure aq:=by
 cases e<;>first|rfl|exact absurd (show ak=ao from h) (by decide)
theorem aDB:swappedStores [.Subscript o i p] e env=pure aq:=by cases e<;>rfl
theorem aDC(h:pF e=ao):swapsWithSole [.Subscript o i p] e n env=pure ao:=by
 show a0s e (aj (.Subscript o i p)) n env=pure ao;exact alZ h
variable{ex:aL->aO}
theorem kW.aX7{S:SI}(Q:kW X S ex){fl gv:List Bool}(h:vX S xs scope fl gv=ak)(C:bx)(s:cg)(H:Hp)(fp:List bx)(pins:List (bx×Obj))(hex:∀ρ,ex ρ=EXk):kW ((dN X xs scope C s H fp pins).wish (xeC X xs scope C s H fp pins EXk)) (S.cmp xs fl gv) ex:=by
 have Z:=Q.cmp h C s H fp pins;refine⟨Z.N,Z.nd,Z.vis,Z.ce,λk x g e=>?_,Z.hu,Z.cm,⟨λoW σ' H' s' ρ' e s5 I _ c=>⟨oW,σ',H',s',I.ahU,by rw[hex]at c;exact c⟩⟩⟩;obtain⟨h1,h2,h3,h4⟩:=Z.gm k x g e;refine⟨h1,h2,h3,?_⟩;cases g<;>exact h4
variable{lv:Nat}
theorem a5G.tr(Q:a5G X S ex lv)(pn:List (bx×Obj))(EX:aL->aO):a5G (awS X pn EX) S EX 1 where
 si:=⟨Q.si.N,Q.si.nd,Q.si.vis,Q.si.ce,λk x g h=>by
  obtain⟨h1,h2,h3,h4⟩:=Q.si.gm k x g h;refine⟨h1,h2,h3,?_⟩;cases g<;>exact h4,Q.si.hu,Q.si.cm,aWD pn EX⟩
 loc:=Q.loc
 lcl:=Q.lcl
 fn:=Q.fn
 cls:=Q.cls
 l0:=λz=>absurd rfl z
 rz:=λz=>absurd z (by decide)
 stk:=Q.stk
 frm:=Q.frm
 cb:=λz=>absurd z (by decide)
theorem a5G.ha{S:SI}(Q:a5G X S ex lv)(x:bx):a5G (al4 X x) S.han NoX 2 where
 si:=⟨Q.si.N,Q.si.nd,Q.si.vis,Q.si.ce,λk y g h=>by
  obtain⟨h1,h2,h3,h4⟩:=Q.si.gm k y g h;refine⟨h1,h2,h3,?_⟩;cases g with
  |fn sp n qt =>
   intro z;have hq:qt=ak:=z.resolve_right (show ¬ (ao=ak) by decide);subst hq;obtain⟨k,f,fd,ps,F,hr,r⟩:=h4 (.inl rfl);exact⟨k,f,fd,ps,F,⟨(λz=>nomatch z),hr.dp,hr.un⟩,r⟩
  |kl C sp dd=>exact λz=>nomatch z
  |me C m sp dd=>exact λz=>nomatch z
  |_=>exact h4,Q.si.hu,λz=>absurd (show ao=ak from z) (by decide),axY⟩
 loc:=Q.loc
 lcl:=Q.lcl
 fn:=Q.fn
 cls:=Q.cls
 l0:=λ_=>PassesOwn.never
 rz:=λz=>absurd z (by decide)
 stk:=Q.stk
 frm:=Q.frm
 cb:=λz=>absurd z (by decide)
variable{x:Str}
set_option tactic.hygienic true in
theorem acW{S:SI}(h:a89 S k x=ak):∃a,S.gl[k]?=aj (x,.cls a):=by
 unfold a89 at h;split at h
 .rename_i z a hg;have:=beq_iff_eq.mp h;subst this;exact⟨a,hg⟩
 .exact aR h
theorem aDD(h:T[k]?=aj (x,.cls a)):aD8 T ex k t=oK ex a t:=by unfold aD8;rw[h]
variable{i:Nat}
theorem aDE{K:Fg}{tb:(aL->aO)->aZ}{th:aZ}(h:T[k]?=aj (x,.cls a)):aD9 T K k i tb th=al5 K a i tb th:=by unfold aD9;rw[h]
theorem ay4{X:Cx}{S:SI}(Q:a5G X S ex lv){cp:Pos}(h:kS S lv (.raise k e es) (.Raise (aj (.Call (.Name x np) (y::ys) [] cp)) aq pos)=ak) :
  PS3 X (.Raise (aj (.Call (.Name x np) (y::ys) [] cp)) aq pos) (aD8 S.gl ex k (aA (mE S.gl X.K ex e) (mA S.gl X.K ex es))):=by
 have h':(lv==0&&S.calm&&!isStar y&&kE S e y&&kEs S es ys&&S.gv[k]?==aj ak&&a89 S k x)=ak:=h;simp only[bh,gj]at h';obtain⟨⟨⟨⟨⟨⟨h0,hcm⟩,h1⟩,h2⟩,h3⟩,hv⟩,h⟩:=h';have hv:=beq_iff_eq.mp hv;obtain⟨a,hg⟩:=acW h;rw[aDD hg];have l1:=Q.si.cm hcm;have l2:=Q.rz (beq_iff_eq.mp h0) hcm;obtain⟨g1,g2,g3,g4,g5⟩:=Q.si.gl _ _ _ hg hv;exact aCD l1 PySem.F.excBase_ValueError (by decide) PySem.F.excBase_ValueError g1 g4 (Q.cls _ _ _ hg hv).1 l2 (sG (mJ Q.si e y h2) (okA Q.si es ys h3) (bC h1)) g2 (bC h1) (zX h3)
theorem aoT{ex:aL->aO}{lv:Nat}(Q:a5G X S ex lv):∀{is:List Nat}{es:List jt},kTg.kNs S is es=ak->Two (aCL X) es is
 |[],[],_=>.nil
 |[],_::_,h=>by exact aR h
 |_::_,[],h=>by exact aR h
 |i::is,e::es,h=>by
  cases e with
  |Name x p =>
   have h':(S.N[i]?==aj x&&S.fl[i]?==aj ak&&kTg.kNs S is es)=ak:=h;simp only[bh]at h';have e1:=beq_iff_eq.mp h'.1.1;exact .cons ⟨x,p,rfl,by rw[Q.si.N];exact e1,Q.loc i x e1 (beq_iff_eq.mp h'.1.2),.inl (Q.fn x)⟩ (aoT Q h'.2)
  |_=>exact aR h
theorem aS9(Q:a5G X S ex lv):∀{c:CTg}{e:jt},aKK S c=ak->kTg S c e=ak->PG3 X e (mG c)
 |.nm i,e,_,h=>by
  cases e with
  |Name x p =>
   have h':(S.N[i]?==aj x&&S.fl[i]?==aj ak)=ak:=h;simp only[bh]at h';have e1:=beq_iff_eq.mp h'.1;exact aJI Q.si.nd (by rw[Q.si.N];exact e1) (Q.loc i x e1 (beq_iff_eq.mp h'.2)) (.inl (Q.fn x))
  |_=>exact aR h
 |.tup is,e,hc,h=>by
  cases e with
  |Tuple es k p=>exact aGB Q.si.nd (Q.si.cm hc) (aoT Q h)
  |_=>exact aR h
theorem aX8{X:Cx}{S:SI}(Q:kW X S ex){tt:Bool}(htt:tt=ak->X.calm=ak/\∃es kt pt,tg=.Tuple es kt pt):∀(c:CI)(e:jt),kI S tt c e=ak->PIS X tg e (mIS S.gl X.K ex c)
 |.any c,e,h=>aJL (mJ Q c e h)
 |.aiM c,e,h=>by
  cases e with
  |Call f as ks p =>
   cases f with
   |Name r q =>
    cases as with
    |nil=>exact aR h
    |cons y yr =>
     cases yr with
     |cons _ _=>exact aR h
     |nil =>
      cases ks with
      |cons _ _=>exact aR h
      |nil =>
       have h':(r==("range":Str)&&a5F S&&!isStar y&&kE S c y)=ak:=h;simp only[bh,gj]at h';obtain⟨⟨⟨h1,h2⟩,h3⟩,h4⟩:=h';have:=beq_iff_eq.mp h1;subst this;obtain⟨g1,g2⟩:=alX Q h2;exact aCN g1 g2 (sG (mJ Q c y h4) ac9 (bC h3)) (bC h3)
   |_=>exact aR h
  |_=>exact aR h
 |.zip a b,e,h=>by
  cases e with
  |Call f as ks p =>
   cases f with
   |Name r q =>
    match as,ks,h with
    |[],_,h=>exact aR h
    |[_],_,h=>exact aR h
    |_::_::_::_,_,h=>exact aR h
    |[_,_],_::_,h=>exact aR h
    |[y,z],[],h =>
     have h':(tt&&r==("zip":Str)&&alW S&&!isStar y&&!isStar z&&kE S a y&&kE S b z)=ak:=h;simp only[bh,gj]at h';obtain⟨⟨⟨⟨⟨⟨h0,h1⟩,h2⟩,h3⟩,h4⟩,h5⟩,h6⟩:=h';have:=beq_iff_eq.mp h1;subst this;obtain⟨g1,g2,g3⟩:=axZ Q h2;obtain⟨hc,es,kt,pt,rfl⟩:=htt h0;exact aJU hc g1 g2 g3 (sG (mJ Q a y h5) (sG (mJ Q b z h6) ac9 (bC h4)) (bC h3)) (by rw[bC h3,bC h4];rfl) (bC h4)
   |_=>exact aR h
  |_=>exact aR h
 |.enu c,e,h=>by
  have h':(tt&&(match wZ e with
   |some (r,y)=>r==("enumerate":Str)&&acT S&&!isStar y&&kE S c y
   |none=>ao))=ak:=h
  rw[bh]at h';obtain⟨h0,h4⟩:=h';cases q2:wZ e with
  |none=>rw[q2]at h4;exact aR h4
  |some z =>
   obtain⟨r,y⟩:=z;rw[q2]at h4;simp only[bh,gj]at h4;obtain⟨⟨⟨h5,h6⟩,h7⟩,h8⟩:=h4;have e5:=beq_iff_eq.mp h5;subst e5;obtain⟨p,pos,rfl⟩:=acV q2;obtain⟨g1,g2,g3⟩:=arG Q h6;obtain⟨hc,es,kt,pt,rfl⟩:=htt h0;exact ar9 hc g1 g2 g3 (sG (mJ Q c y h8) ac9 (bC h7)) (bC h7)
theorem aiO{j:Nat}{l:List Bool}(h:(l.set i ao)[j]?=aj ak):i≠j/\l[j]?=aj ak:=by
 by_cases c:i=j
 .subst c;by_cases k:i<l.length
  .rw[a0v k]at h;cases h
  .rw[List.getElem?_eq_none (by rw[a2d];omega)]at h;cases h
 .rw[vd c]at h;exact⟨c,h⟩
theorem aKN{S:SI}{nm:Str}(Q:kW X S ex)(n:nm∉S.N):kW (afE X i nm) (S.hid i nm) (λρ=>ex (pC ρ i)) where
 N:=by show X.N.set i _=S.N.set i _;rw[Q.N]
 nd:=acQ Q.nd (by rw[Q.N];exact n)
 vis:=λj x e1 e2=>by
  obtain⟨c,e2⟩:=aiO e2;have e1:(S.N.set i nm)[j]?=aj x:=e1;rw[vd c]at e1;exact Q.vis j x e1 e2
 ce:=λj x e1 e2=>by
  obtain⟨c,e2⟩:=aiO e2;have e1:(S.N.set i nm)[j]?=aj x:=e1;rw[vd c]at e1;exact Q.ce j x e1 e2
 gm:=λk x g e=>by
  obtain⟨a,b,c,d⟩:=Q.gm k x g e;refine⟨a,b,c,?_⟩;cases g<;>exact d
 hu:=Q.hu
 cm:=Q.cm
 cat:=axN Q.cat
theorem au7{nm:Str}(h:au4 X EXk):au4 (afE X i nm) EXk:=⟨λpins σ H s Cb e s' I h0 c=>h.acB pins _ H s Cb e s' (sI I) h0 c,h.top,h.fr⟩
theorem aKO{S:SI}{nm:Str}(Q:a5G X S ex lv)(n:nm∉S.N):a5G (afE X i nm) (S.hid i nm) (λρ=>ex (pC ρ i)) lv where
 si:=aKN Q.si n
 loc:=λj x e1 e2=>by
  obtain⟨c,e2⟩:=aiO e2;have e1:(S.N.set i nm)[j]?=aj x:=e1;rw[vd c]at e1;exact Q.loc j x e1 e2
 lcl:=λj x e1 e2=>by
  obtain⟨c,e2⟩:=aiO e2;have e1:(S.N.set i nm)[j]?=aj x:=e1;rw[vd c]at e1;exact Q.lcl j x e1 e2
 fn:=Q.fn
 cls:=Q.cls
 l0:=Q.l0
 rz:=λa b=>axO (Q.rz a b)
 stk:=Q.stk
 frm:=Q.frm
 cb:=λz=>(Q.cb z).imp λ_ h=>⟨λρ=>h.1 _,au7 h.2⟩
theorem ay5(h:isTup e=ak):∃es kt pt,e=.Tuple es kt pt:=by
 cases e<;>first|exact⟨_,_,_,rfl⟩|exact aR h
set_option tactic.hygienic true in
mutual
theorem okS:∀(c:CS){X:Cx}{S:SI}{ex:aL->aO}{lv:Nat},a5G X S ex lv->∀(st:mj),kS S lv c st=ak->PS3 X st (mS S.gl X.K ex c)
 |.hid i nm c,X,S,ex,lv,Q,st,h=>by
  have h':(!S.N.contains nm&&kS (S.hid i nm) lv c st)=ak:=by
   cases st<;>exact h
  rw[bh,gj]at h'
  exact aJX (okS c (aKO Q (by
   intro z;rw[List.contains_iff_mem.mpr z]at h';cases h'.1)) st h'.2)
 |.aD3 n fl gv ci c,X,S,ex,lv,Q,st,h=>by
  cases st with
  |Return v p =>
   cases v with
   |none=>exact aR h
   |some x =>
    cases x with
    |ListComp elt gens scope pp =>
     cases gens with
     |nil=>exact aR h
     |cons g gr =>
      obtain⟨tg,it,ifs,a⟩:=g;cases tg with
      |Tuple es k tp =>
       match ifs,gr,h with
       |[],[],h =>
        have h':(lv==0&&S.calm&&a==0&&(match zW es with
         |some xs=>xs.length==n&&vX S xs scope fl gv&&!isSet it&&kI S ak ci it&&kE (S.cmp xs fl gv) c elt
         |none=>ao))=ak:=h
        rw[bh,bh,bh]at h';obtain⟨⟨⟨h0,h1⟩,h2⟩,h'⟩:=h';have:=beq_iff_eq.mp h2;subst this;obtain⟨EXk,hex,hB⟩:=Q.cb (beq_iff_eq.mp h0);cases q:zW es with
        |none=>rw[q]at h';exact aR h'
        |some xs =>
         rw[q]at h';simp only[bh,gj]at h';obtain⟨⟨⟨⟨hn,h3⟩,h4⟩,h5⟩,h7⟩:=h';have:=beq_iff_eq.mp hn;subst this;exact aG6 (axQ hB (iI Q.si h3) (λC s H fp pins σ=>ax7 (iI Q.si h3) Q.si.nd (Q.si.cm h1) (acU q)) (λd ds e=>(aiF e).2) (okI (tt:=true) Q.si (λ_=>⟨Q.si.cm h1,_,_,_,rfl⟩) ci it h5) (λC s H fp pins=>okC (Q.si.cmp h3 C s H fp pins) .none [] rfl) (λC s H fp pins=>mJ (Q.si.aX7 h3 C s H fp pins hex) c elt h7) (alY h4))
       |_::_,_,h=>exact aR h
       |[],_::_,h=>exact aR h
      |_=>exact aR h
    |_=>exact aR h
  |_=>exact aR h
 |.ret e,X,S,ex,lv,Q,st,h=>by
  cases st with
  |Return v p =>
   cases v with
   |some x=>exact aG6 (mJ Q.si e x h)
   |none=>exact aR h
  |_=>exact aR h
 |.expr e,X,S,ex,lv,Q,st,h=>by
  cases st with
  |Expr x p =>
   have h':(!pF x&&kE S e x)=ak:=h;simp only[bh,gj]at h';exact aIP (mJ Q.si e x h'.2) (alZ h'.1)
  |_=>exact aR h
 |.ifs t a b,X,S,ex,lv,Q,st,h=>by
  cases st with
  |If x y z p =>
   have h':(kT S t x&&kB S lv a y&&kB S lv b z)=ak:=h;simp only[bh]at h';exact aW9 (okT Q.si t x h'.1.1) (okB a Q y h'.1.2) (okB b Q z h'.2)
  |_=>exact aR h
 |.set i e,X,S,ex,lv,Q,st,h=>by
  cases st with
  |Assign ts y p =>
   cases ts with
   |nil=>exact aR h
   |cons t r =>
    cases r with
    |cons _ _=>cases t<;>exact aR h
    |nil =>
     cases t with
     |Name x q =>
      have h':(S.N[i]?==aj x&&S.fl[i]?==aj ak&&!pF y&&kE S e y)=ak:=h;simp only[bh,gj]at h';have e1:=beq_iff_eq.mp h'.1.1.1;exact aG7 (i:=i) Q.si.nd (by rw[Q.si.N];exact e1) (Q.loc i x e1 (beq_iff_eq.mp h'.1.1.2)) (mJ Q.si e y h'.2) (alZ h'.1.2) (.inl (Q.fn x))
     |_=>exact aR h
  |_=>exact aR h
 |.a2G k o e,X,S,ex,lv,Q,st,h=>by
  cases st with
  |Assign ts z p =>
   cases ts with
   |nil=>exact aR h
   |cons t r =>
    cases r with
    |cons _ _=>cases t<;>exact aR h
    |nil =>
     cases t with
     |Attribute x n q =>
      have h':(aCY S k n&&!pF z&&kE S o x&&kE S e z)=ak:=h;simp only[bh,gj]at h';obtain⟨y,C,hg⟩:=aD2 h'.1.1.1;obtain⟨_,_,_,g⟩:=Q.si.gm _ _ _ hg;show PS3 X _ (aKH S.gl k _ _);unfold aKH;rw[hg];exact aJS (mJ Q.si o x h'.1.2) (mJ Q.si e z h'.2) g.1 g.2 (alZ h'.1.1.2)
     |_=>exact aR h
  |_=>exact aR h
 |.aD4 o i e,X,S,ex,lv,Q,st,h=>by
  cases st with
  |Assign ts z p =>
   cases ts with
   |nil=>exact aR h
   |cons t r =>
    cases r with
    |cons _ _=>cases t<;>exact aR h
    |nil =>
     cases t with
     |Subscript x y q =>
      have h':(!isSlice y&&!pF z&&kE S o x&&kE S i y&&kE S e z)=ak:=h;simp only[bh,gj]at h';obtain⟨⟨⟨⟨h1,h2⟩,h3⟩,h4⟩,h5⟩:=h';exact aIQ (mJ Q.si o x h3) (mJ Q.si i y h4) (mJ Q.si e z h5) (aDA h1) (aDC h2) aDB rfl
     |_=>exact aR h
  |_=>exact aR h
 |.raise k e es,X,S,ex,lv,Q,st,h=>by
  cases st with
  |Raise a b p =>
   cases a with
   |none=>exact aR h
   |some a =>
    cases a with
    |Call f as ks q =>
     cases f with
     |Name x np =>
      cases as with
      |nil=>exact aR h
      |cons y ys =>
       cases ks with
       |cons _ _=>exact aR h
       |nil =>
        cases b with
        |some _=>exact aR h
        |none=>exact ay4 Q h
     |_=>exact aR h
    |_=>exact aR h
  |_=>exact aR h
 |.aD5 k i b hb,X,S,ex,lv,Q,st,h=>by
  cases st with
  |Try y hs el fin p =>
   cases hs with
   |nil=>exact aR h
   |cons hd tl =>
    obtain⟨ty,nm,suite,hp⟩:=hd;cases tl with
    |cons _ _=>cases ty<;>first|exact aR h|(rename_i ty;cases ty<;>cases nm<;>cases suite<;>exact aR h)
    |nil =>
     cases ty with
     |none=>exact aR h
     |some ty =>
      cases ty with
      |Name x cp =>
       cases nm with
       |none=>exact aR h
       |some n =>
        cases suite with
        |nil=>exact aR h
        |cons z zs =>
         cases el with
         |cons _ _=>exact aR h
         |nil =>
          cases fin with
          |cons _ _=>exact aR h
          |nil =>
           have h':(lv==0&&S.calm&&S.N[i]?==aj n&&S.lc[i]?==aj ak&&kB S 1 b y&&kB S.han 2 hb (z::zs)&&S.gv[k]?==aj ak&&a89 S k x)=ak:=h;simp only[bh]at h';obtain⟨⟨⟨⟨⟨⟨⟨h0,hcm⟩,h1⟩,h2⟩,h3⟩,h4⟩,hv⟩,h⟩:=h';have hv:=beq_iff_eq.mp hv;obtain⟨a,hg⟩:=acW h;show PS3 X _ (aD9 S.gl X.K k i (λEX2=>mB S.gl X.K EX2 b) (mB S.gl X.K NoX hb));rw[aDE hg];have e1:=beq_iff_eq.mp h1;obtain⟨g1,g2,g3,g4,g5⟩:=Q.si.gl _ _ _ hg hv;obtain⟨c1,c2,c3,c4⟩:=Q.cls _ _ _ hg hv;exact aR3 (i:=i) (Q.si.cm hcm) Q.si.nd (by rw[Q.si.N];exact e1) (Q.lcl i n e1 (beq_iff_eq.mp h2)) Q.stk Q.frm g1 g4 c2 c3 c4 (λpn EX=>okB b (Q.tr pn EX) y h3) (λxx=>okB hb (Q.ha xx) (z::zs) h4) g2
      |_=>exact aR h
  |_=>exact aR h
 |.aD6 b hs,X,S,ex,lv,Q,st,h=>by
  cases st with
  |Try y hd el fin p =>
   cases hd with
   |nil=>exact aR h
   |cons z zs =>
    cases el with
    |cons _ _=>exact aR h
    |nil =>
     cases fin with
     |cons _ _=>exact aR h
     |nil =>
      have h':(lv==0&&S.calm&&kB S 1 b y&&kH S hs (z::zs))=ak:=h;simp only[bh]at h';obtain⟨⟨⟨h0,hcm⟩,h3⟩,h4⟩:=h';obtain⟨l,e1,e2,e3⟩:=okH hs Q (z::zs) h4;cases l with
      |nil=>cases e1
      |cons a r =>
       show PS3 X _ (alS X.K (λEX2=>mB S.gl X.K EX2 b) (mH S.gl X.K hs));rw[e1,e2];exact aJZ (Q.si.cm hcm) Q.stk Q.frm e3 λpn EX=>okB b (Q.tr pn EX) y h3
  |_=>exact aR h
 |.setC i fl gv ci cc c,X,S,ex,lv,Q,st,h=>by
  cases st with
  |Assign ts z p =>
   cases ts with
   |nil=>exact aR h
   |cons t r =>
    cases r with
    |cons _ _=>cases t<;>exact aR h
    |nil =>
     cases t with
     |Name y q =>
      cases z with
      |ListComp elt gens scope pp =>
       cases gens with
       |nil=>exact aR h
       |cons g gr =>
        cases gr with
        |cons _ _=>obtain⟨tg,it,ifs,a⟩:=g;cases tg<;>exact aR h
        |nil =>
         obtain⟨tg,it,ifs,a⟩:=g;cases tg with
         |Name x px =>
          have h':(S.N[i]?==aj y&&S.fl[i]?==aj ak&&a==0&&vX S [x] scope fl gv&&!isSet it&&kI S ao ci it&&kC (S.cmp [x] fl gv) cc ifs&&kE (S.cmp [x] fl gv) c elt)=ak:=h;simp only[bh,gj]at h';obtain⟨⟨⟨⟨⟨⟨⟨hy,hy2⟩,h2⟩,h3⟩,h4⟩,h5⟩,h6⟩,h7⟩:=h';have:=beq_iff_eq.mp h2;subst this;have e1:=beq_iff_eq.mp hy;exact aqZ (i:=i) (iI Q.si h3) (λC s H fp pins σ=>ax6 (iI Q.si h3) Q.si.nd) alH Q.si.nd (by rw[Q.si.N];exact e1) (Q.loc i y e1 (beq_iff_eq.mp hy2)) (Q.fn y) (okI (tt:=false) Q.si (λz=>nomatch z) ci it h5) (λC s H fp pins=>okC (Q.si.cmp h3 C s H fp pins) cc ifs h6) (λC s H fp pins=>mJ (Q.si.cmp h3 C s H fp pins) c elt h7) (alY h4)
         |_=>exact aR h
      |_=>exact aR h
     |_=>exact aR h
  |_=>exact aR h
 |.arH i n fl gv ci cc c,X,S,ex,lv,Q,st,h=>by
  cases st with
  |Assign ts z p =>
   cases ts with
   |nil=>exact aR h
   |cons t r =>
    cases r with
    |cons _ _=>cases t<;>exact aR h
    |nil =>
     cases t with
     |Name y q =>
      cases z with
      |ListComp elt gens scope pp =>
       cases gens with
       |nil=>exact aR h
       |cons g gr =>
        cases gr with
        |cons _ _=>obtain⟨tg,it,ifs,a⟩:=g;cases tg<;>exact aR h
        |nil =>
         obtain⟨tg,it,ifs,a⟩:=g;cases tg with
         |Tuple es k tp =>
          have h':(S.calm&&S.N[i]?==aj y&&S.fl[i]?==aj ak&&a==0&&(match zW es with
           |some xs=>xs.length==n&&vX S xs scope fl gv&&!isSet it&&kI S ak ci it&&kC (S.cmp xs fl gv) cc ifs&&kE (S.cmp xs fl gv) c elt
           |none=>ao))=ak:=h
          rw[bh,bh,bh,bh]at h';obtain⟨⟨⟨⟨h1,hy⟩,hy2⟩,h2⟩,h'⟩:=h';have:=beq_iff_eq.mp h2;subst this;have e1:=beq_iff_eq.mp hy;cases qn:zW es with
          |none=>rw[qn]at h';exact aR h'
          |some xs =>
           rw[qn]at h';simp only[bh,gj]at h';obtain⟨⟨⟨⟨⟨h0,h3⟩,h4⟩,h5⟩,h6⟩,h7⟩:=h';have:=beq_iff_eq.mp h0;subst this;exact aqZ (i:=i) (iI Q.si h3) (λC s H fp pins σ=>ax7 (iI Q.si h3) Q.si.nd (Q.si.cm h1) (acU qn)) (λd ds e=>(aiF e).2) Q.si.nd (by rw[Q.si.N];exact e1) (Q.loc i y e1 (beq_iff_eq.mp hy2)) (Q.fn y) (okI (tt:=true) Q.si (λ_=>⟨Q.si.cm h1,_,_,_,rfl⟩) ci it h5) (λC s H fp pins=>okC (Q.si.cmp h3 C s H fp pins) cc ifs h6) (λC s H fp pins=>mJ (Q.si.cmp h3 C s H fp pins) c elt h7) (alY h4)
         |_=>exact aR h
      |_=>exact aR h
     |_=>exact aR h
  |_=>exact aR h
 |.aD7 is e,X,S,ex,lv,Q,st,h=>by
  cases st with
  |Assign ts y p =>
   cases ts with
   |nil=>exact aR h
   |cons t r =>
    cases r with
    |cons _ _=>cases t<;>exact aR h
    |nil =>
     cases t with
     |Tuple es k tp =>
      have h':(S.calm&&!isTup y&&!pF y&&kTg.kNs S is es&&kE S e y)=ak:=h;simp only[bh,gj]at h';obtain⟨⟨⟨⟨h1,h2⟩,h3⟩,h4⟩,h5⟩:=h';exact aJN (aGB Q.si.nd (Q.si.cm h1) (aoT Q h4)) (mJ Q.si e y h5) (show a0s y (aj (.Tuple es k tp)) p.line X.env=pure ao from alZ h3) (aKM h2) rfl
     |_=>exact aR h
  |_=>exact aR h
 |.aoS ci tg b,X,S,ex,lv,Q,st,h=>by
  cases st with
  |For tgt it body el p =>
   cases el with
   |cons _ _=>exact aR h
   |nil =>
    have h':(lv !=1&&aKK S tg&&!isSet it&&kTg S tg tgt&&kI S (isTup tgt&&S.calm) ci it&&kB S lv b body)=ak:=h;simp only[bh,gj]at h';obtain⟨⟨⟨⟨⟨h1,hg⟩,h2⟩,h3⟩,h4⟩,h5⟩:=h';exact aJM (Q.l0 (bne_iff_ne.mp h1)) (aX8 Q.si (λz=>by rw[bh]at z;exact⟨Q.si.cm z.2,ay5 z.1⟩) ci it h4) (aS9 Q hg h3) (okB b Q body h5) (alY h2)
  |_=>exact aR h
 |.pass,X,S,ex,lv,Q,st,h=>by
  cases st with
  |Pass _=>exact aIO
  |_=>exact aR h
theorem okB:∀(c:CB){X:Cx}{S:SI}{ex:aL->aO}{lv:Nat},a5G X S ex lv->∀(st:List mj),kB S lv c st=ak->a4Y X st (mB S.gl X.K ex c)
 |.nil,X,S,ex,lv,Q,st,h=>by
  cases st with
  |nil=>exact aQZ
  |cons _ _=>exact aR h
 |.cons s .nil,X,S,ex,lv,Q,st,h=>by
  match st,h with
  |[],h=>exact aR h
  |[x],h =>
   have h':(kS S lv s x&&kB S lv .nil [])=ak:=h;rw[bh]at h';exact aR0 (okS s Q x h'.1)
  |x::y::ys,h =>
   have h':(kS S lv s x&&kB S lv .nil (y::ys))=ak:=h;rw[bh]at h';exact aR h'.2
 |.cons s (.cons s' r),X,S,ex,lv,Q,st,h=>by
  match st,h with
  |[],h=>exact aR h
  |x::ys,h =>
   have h':(kS S lv s x&&kB S lv (.cons s' r) ys)=ak:=h;rw[bh]at h';exact aIN (okS s Q x h'.1) (okB (.cons s' r) Q ys h'.2)
theorem okH:∀(c:CH){X:Cx}{S:SI}{ex:aL->aO}{lv:Nat},a5G X S ex lv->∀(hd:List ExceptHandler),kH S c hd=ak->∃l:List HdS,hd=l.map HdS.ast/\mH S.gl X.K c=l.map HdS.pr/\∀h∈l,aJY X h
 |.nil,X,S,ex,lv,Q,hd,h=>by
  cases hd with
  |nil=>exact⟨[],rfl,rfl,λh m=>nomatch m⟩
  |cons _ _=>exact aR h
 |.cons k b r,X,S,ex,lv,Q,hd,h=>by
  cases hd with
  |nil=>exact aR h
  |cons z zs =>
   obtain⟨ty,nm,suite,hp⟩:=z;cases ty with
   |none=>exact aR h
   |some ty =>
    cases ty with
    |Name x cp =>
     cases nm with
     |some _=>exact aR h
     |none =>
      cases suite with
      |nil=>exact aR h
      |cons u us =>
       have h':(kB S.han 2 b (u::us)&&S.gv[k]?==aj ak&&a89 S k x&&kH S r zs)=ak:=h;simp only[bh]at h';obtain⟨⟨⟨h1,hv⟩,hc⟩,h2⟩:=h';have hv:=beq_iff_eq.mp hv;obtain⟨a,hg⟩:=acW hc;obtain⟨g1,g2,g3,g4,g5⟩:=Q.si.gl _ _ _ hg hv;obtain⟨c1,c2,c3,c4⟩:=Q.cls _ _ _ hg hv;obtain⟨l,e1,e2,e3⟩:=okH r Q zs h2;refine⟨⟨x,cp,a,u,us,hp,mB S.gl X.K NoX b⟩::l,by rw[e1];rfl,?_,λh m=>?_⟩
       .show(aKI S.gl k,mB S.gl X.K NoX b)::mH S.gl X.K r=_;rw[e2];unfold aKI;rw[hg];rfl
       .rcases jc.mp m with rfl|m
        .exact⟨g1,g4,c2,c3,c4,λxx=>okB b (Q.ha xx) (u::us) h1,g2⟩
        .exact e3 h m
    |_=>exact aR h
end
end L4
namespace L4
open PySem PySem.Spec PyProof.Rows L2
noncomputable def bH(R:iG):iG:=λd G'=>∃G0,Le G0 G'/\R d G0
noncomputable def iW(EX:aO):aO:=λC G'=>∃G0,Le G0 G'/\EX C G0
noncomputable def uD(n m:Nat)(tb:aO->aZ):mR:=λds G R EX=>ds.length=m/\tb (iW EX) ⟨λ_ G'=>bH R .non G',bH R,λ_ _=>False,λ_ _=>False⟩ (ai4 n ds) G
theorem bH.here(h:R d G):bH R d G:=⟨G,.refl G,h⟩
theorem iW.here(h:R d G):iW R d G:=⟨G,.refl G,h⟩
theorem ay6{K:Fg}(h:UpX K EX E):UpX K (iW EX) E:=λC H' G' g ⟨G0,l,q⟩=>h C H' G0 (g.le l) q
variable{qt:Bool}{P:lq}{w:jg}{mg:Str->Option au}{base:jq}{x qual:Str}{st:mj}{f:bx}{fd:jo}{ps:List Str}{k:Nat}
theorem aDG{K:Fg}{N:List Str}{tb:aO->aZ}(F:Fun K x qual st f fd)(S:aW N ps (bM st))
  (hbody:∀(cdv:au)(A:qb)(outer:List Env)(s:cg)(H:Hp)(E:XK)(EX:aO),mF qt k (A.deeper (envOfC qual (bM st) s.heap.objs.size f cdv))->UpX K EX E ->
   a4Y (cx1 qt P w K mg base N qual (bM st) f cdv A outer s H E) (cX st) (tb EX)):bU qt P w K mg base (j4 P w) (k+1) f fd ps (cC K (uD N.length ps.length tb)):=by
 refine(aIR F S hbody).imp ?_;rintro vs H Q E ⟨ds,G,R,EX,r,g,⟨hl,q⟩,kk,hE⟩;exact⟨ds,G,bH R,iW EX,r,g,⟨hl,q⟩,(by rintro v H' d G' r1 g1 ⟨G0,l,q⟩;exact kk v H' d G0 r1 (g1.le l) q),ay6 hE⟩
noncomputable def GTs(P:lq)(w:jg)(K:Fg)(mg:Str->Option au)(base:jq)(k:Nat)(x:Str):GT->Prop
 |.con d=>∃u v,mg x=aj u/\RelV v u/\∀H,RD K H d v
 |.cls a=>mg x=aj (.ref a)/\yp K a BMv "ValueError.__new__"=ak/\(ux K a).isSome=ak/\a0a K (.ref a)=aj (.type "type")/\um K (.ref a) (.type "BaseException")=aj ak
 |.fn sp n qt=>∃f fd ps,bU qt P w K mg base (j4 P w) k f fd ps (cC K sp)/\mg x=aj (.ref f)/\jy K (.ref f)=ak/\Binds K fd ps []
 |.bf b=>mg x=aq/\jz x=aj (aGG b)
 |.bt n=>mg x=aq/\jz x=aj (.type n)
 |.kl C sp dd=>∃j f fd ps ds dvs,j+1=k/\Mk K C f/\bU ao P w K mg base (j4 P w) j f fd ps (cC K sp)/\mg x=aj (.ref C)/\Binds K fd ps ds/\Vals dvs ds/\∀H,cH K H dd dvs
 |.me C m sp dd=>∃f fd ps ds dvs,Cls K C/\Meth K C m f/\bU ao P w K mg base (j4 P w) k f fd ps (cC K sp)/\Binds K fd ps ds/\Vals dvs ds/\∀H,cH K H dd dvs
 |.fl C f=>Cls K C/\eV K C f
 |.cdc a tb=>mg x=aj (.ref a)/\CDi P w K a tb
noncomputable def aKP(sc:yc)(x:Str):Bool:=match sc.names.lookup x with
 |some .local=>ak
 |some .cell=>ak
 |_=>ao
noncomputable def aKQ(sc:yc)(x:Str):Bool:=match sc.names.lookup x with
 |some .local=>ak
 |_=>ao
noncomputable def aKR(sc:yc)(x:Str):Bool:=match sc.names.lookup x with
 |some .globalImplicit=>ak
 |_=>ao
noncomputable def aKS(sc:yc)(x:Str):Bool:=match sc.names.lookup x with
 |some .cell=>ak
 |_=>ao
set_option tactic.hygienic true in
theorem aDH{sc:yc}(h:aKS sc x=ak):sc.names.lookup x=aj .cell:=by
 unfold aKS at h;split at h
 .rename_i e;exact e
 .exact aR h
noncomputable def ah6(S:SI)(sc:yc):Bool:=(kh S.N.length).all (λi=>match S.N[i]? with
  |none=>ao
  |some x=>x !=("__debug__":Str)&&x !=("__classdict__":Str)&&(S.fl[i]? !=aj ak||aKP sc x)&&(S.lc[i]? !=aj ak||aKQ sc x)&&(S.ce[i]? !=aj ak||aKS sc x)) &&
 (kh S.gl.length).all (λk=>match S.gl[k]? with
  |none=>ao
  |some (y,_)=>(S.gv[k]? !=aj ak||aKR sc y)&&y !=("__debug__":Str)&&y !=("__name__":Str))
set_option tactic.hygienic true in
theorem aDI(h:aKP sc x=ak):Loc sc x:=by
 unfold aKP at h;split at h
 .rename_i e;exact .inl e
 .rename_i e;exact .inr e
 .exact aR h
theorem aDJ(h:Loc sc x):Vis sc x:=h.elim .inl λz=>.inr (.inl z)
set_option tactic.hygienic true in
theorem aDK{sc:yc}(h:aKQ sc x=ak):sc.names.lookup x=aj .local:=by
 unfold aKQ at h;split at h
 .rename_i e;exact e
 .exact aR h
set_option tactic.hygienic true in
theorem aDL{sc:yc}(h:aKR sc x=ak):sc.names.lookup x=aj .globalImplicit:=by
 unfold aKR at h;split at h
 .rename_i e;exact e
 .exact aR h
variable{S:SI}
theorem ab1{sc:yc}(h:ah6 S sc=ak){i:Nat}(e:S.N[i]?=aj x) :
  (x==("__debug__":Str))=ao/\(x==("__classdict__":Str))=ao/\(S.fl[i]?=aj ak->Loc sc x)/\(S.lc[i]?=aj ak->sc.names.lookup x=aj .local)/\(S.ce[i]?=aj ak->sc.names.lookup x=aj .cell):=by
 unfold ah6 at h;rw[bh]at h;have hi:i<S.N.length:=(jf.mp e).1;have q:=iu.mp h.1 i (zf.mpr hi);rw[e]at q;simp only[bh,bne_iff_ne,ne_eq,a1l]at q;obtain⟨⟨⟨⟨q1,q2⟩,q3⟩,q4⟩,q5⟩:=q;refine⟨beq_eq_false_iff_ne.mpr q1,beq_eq_false_iff_ne.mpr q2,λz=>?_,λz=>?_,λz=>?_⟩
 .rcases q3 with q|q
  .exact absurd z q
  .exact aDI q
 .rcases q4 with q|q
  .exact absurd z q
  .exact aDK q
 .rcases q5 with q|q
  .exact absurd z q
  .exact aDH q
theorem aDM{sc:yc}(h:ah6 S sc=ak){g:GT}(e:S.gl[k]?=aj (x,g)):(S.gv[k]?=aj ak->sc.names.lookup x=aj .globalImplicit)/\(x==("__debug__":Str))=ao/\x≠"__name__":=by
 unfold ah6 at h;rw[bh]at h;have q:=iu.mp h.2 k (zf.mpr (jf.mp e).1);rw[e]at q;simp only[bh,bne_iff_ne,ne_eq,a1l]at q;exact⟨λz=>aDL (q.1.1.resolve_left λn=>n z),beq_eq_false_iff_ne.mpr q.1.2,q.2⟩
theorem ay7{K:Fg}{c:CB}(F:Fun K x qual st f fd)(hS:aW S.N ps (bM st))
  (hc:S.calm=!qt)(hv:ah6 S (bM st)=ak)(hk:kB S 0 c (cX st)=ak)(hg:∀(j:Nat)(y:Str)(g:GT),S.gl[j]?=aj (y,g)->GTs P w K mg base k y g) :
  bU qt P w K mg base (j4 P w) (k+1) f fd ps (cC K (uD S.N.length ps.length λEX=>mB S.gl K (λ_=>EX) c)):=by
 refine aDG F hS λcdv A outer s H E EX hr hE=>?_;refine okB c (X:=cx1 qt P w K mg base S.N qual (bM st) f cdv A outer s H E) (S:=S) (ex:=λ_=>EX) (lv:=0) ?_ (cX st) hk;refine⟨⟨rfl,hS.nd,λi y e1 e2=>?_,λi y e1 e2=>.inl ((ab1 hv e1).2.2.2.2 e2),λj y g e=>?_,hr.units,λz=>hc.symm.trans z,aWB hE⟩,λi y e1 e2=>?_,λi y e1 e2=>?_,λ_=>rfl,λj y a e _=>?_,λ_=>own1,λ_ _=>aWC hE,rfl,rfl,λ_=>⟨EX,λ_=>rfl,aRZ hE⟩⟩
 .obtain⟨a1,a2,a3,a4⟩:=ab1 hv e1;exact⟨aDJ (a3 e2),a1,a2⟩
 .obtain⟨a1,a2,a3⟩:=aDM hv e;have z:=hg j y g e;refine⟨a1,a2,a3,?_⟩;cases g with
  |con d=>exact z
  |cls a=>exact⟨z.1,z.2.1⟩
  |fn sp n q2 =>
   intro hz;obtain⟨f',fd',ps',F',m',k',b'⟩:=z;refine⟨k,f',fd',ps',F',⟨λe=>hr.hd ?_,hr.dp,hr.un⟩,m',k',b'⟩;have hs:S.calm=ak:=hz.resolve_left (by rw[e];decide);rw[hc]at hs;simpa using hs
  |bf b=>exact z
  |bt n=>exact z
  |kl C sp dd =>
   intro hs;obtain⟨j',f',fd',ps',ds,dvs,rfl,q1,q2,q3,q4,q5,q6⟩:=z;rw[hc]at hs;exact⟨j',f',fd',ps',ds,dvs,q1,q2,⟨λ_=>hr.hd (by simpa using hs),hr.dp,hr.un⟩,q3,q4,q5,q6⟩
  |me C m sp dd =>
   intro hs;obtain⟨f',fd',ps',ds,dvs,q1,q2,q3,q4,q5,q6⟩:=z;rw[hc]at hs;exact⟨k,f',fd',ps',ds,dvs,q1,q2,q3,⟨λ_=>hr.hd (by simpa using hs),hr.dp,hr.un⟩,q4,q5,q6⟩
  |fl C f=>exact z
  |cdc a tb=>exact z
 .exact(ab1 hv e1).2.2.1 e2
 .exact(ab1 hv e1).2.2.2.1 e2
 .have z:=hg j y _ e;exact z.2
end L4
namespace L4
open PySem PySem.Spec PyProof.Rows L2
theorem wM{P:Str->GT->Prop}:∀(j:Nat)(y:Str)(g:GT),([]:List (Str×GT))[j]?=aj (y,g)->P y g:=λj y g h=>by simp at h
theorem bY{P:Str->GT->Prop}{x:Str}{g:GT}{l:List (Str×GT)}(h:P x g)(r:∀(j:Nat)(y:Str)(g:GT),l[j]?=aj (y,g)->P y g):∀(j:Nat)(y:Str)(g':GT),((x,g)::l)[j]?=aj (y,g')->P y g'
 |0,y,g',e=>by simp at e;obtain⟨e1,e2⟩:=e;subst e1;subst e2;exact h
 |j+1,y,g',e=>r j y g' (by simpa using e)
section
variable{w:jg}{K:Fg}{mg:Str->Option au}{base:jq}{k:Nat}{x:Str}
theorem gcS(h:∃t,mg x=aj (.str z t)):GTs P w K mg base k x (.con (.str z)):=by
 obtain⟨t,h⟩:=h;exact⟨_,.str z,h,⟨t,rfl⟩,λ_=>.str z⟩
theorem gcI{z:Int}(h:∃t,mg x=aj (.int z t)):GTs P w K mg base k x (.con (.int z)):=by
 obtain⟨t,h⟩:=h;exact⟨_,.int z,h,⟨t,rfl⟩,λ_=>.int z⟩
end
theorem mW{K:Fg}{its:Array au}{n:Nat}{sl:Array (Option au)}(h:K.lookup a=aj ⟨.type "tuple",od,.seq its n,sl⟩)(hz:its.size<=cj)(v:Vals xs its.toList)(r:∀H,cH K H ds xs)(H:Hp):RD K H (.tup ds) (.ref a) :=
 .tup (.inr ⟨_,its,n,h,rfl,rfl,hz,v⟩) (r H) trivial
theorem a5H:jz "enumerate"=aj (.type "enumerate"):=by decide+kernel
theorem acX:jz "range"=aj (.type "range"):=by decide+kernel
theorem aKT:jz "zip"=aj (.type "zip"):=by decide+kernel
end L4
namespace L4
open PySem PySem.Spec PyProof.Rows L2
theorem arI{K:Fg}{ps:List Str}(h:∀us:List au,us.length=ps.length->a0d fd ⟨us,[]⟩=pure (ps.zip us)):Binds K fd ps []:=Binds.all h
end L4
namespace L4
open PySem PySem.Spec PyProof.Rows L2
inductive au8(w:jg)(K:Fg):List DictEntry->Tb->Prop
 |nil:au8 w K [] []
 |cons {z:Str} {ks:List Str} {t:Tok} {b:bx} {es:List DictEntry} {tb:Tb}:(∀H,RD K H (afF ks) (.ref b))->au8 w K es tb->au8 w K ({hash:=PyData.keyHash w.params z,key:=.str z t,val:=.ref b}::es) ((z,ks)::tb)
variable{w:jg}{tb:Tb}
theorem au8.of{K:Fg}(h:au8 w K es tb):∃kvs:List (Key×au),(∀e∈es,∃k,(kZ P w).is k e.key=ak/\e.hash=(kZ P w).hash k)/\Pairs (kZ P w) es kvs/\kvs.map (·.1)=tb.map (λp=>Sum.inr p.1) /\
  ∀z,(∀ks,tb.lookup z=aj ks->∃b,valueAt kvs (.inr z)=aj (.ref b)/\∀H,RD K H (afF ks) (.ref b))/\(tb.lookup z=aq->valueAt kvs (.inr z)=aq):=by
 induction h with
 |nil=>exact⟨[],(λ_ h=>nomatch h),.nil,rfl,λz=>⟨(λ_ h=>nomatch h),λ_=>rfl⟩⟩
 |@cons z ks t b es tb r _ ih =>
  obtain⟨kvs,h1,h2,h3,h4⟩:=ih;have hk:(kZ P w).is (.inr z) (.str z t)=ak:=aw9 (k:=.inr z) ⟨t,rfl⟩;refine⟨(.inr z,.ref b)::kvs,λe he=>?_,.cons hk rfl h2,by rw[jj,jj,h3],λy=>?_⟩
  .rcases jc.mp he with rfl|he
   .exact⟨.inr z,hk,rfl⟩
   .exact h1 e he
  .have ev:valueAt ((.inr z,.ref b)::kvs) (.inr y)=if z=y then aj (.ref b)else valueAt kvs (.inr y):=by
    unfold valueAt;rw[List.find?_cons];by_cases c:z=y
    .simp[c]
    .have:¬ (Sum.inr z:Key)=.inr y:=λe=>c (Sum.inr.inj e);simp[c,this]
   rw[ev,qz];by_cases c:z=y
   .subst c;rw[if_pos rfl,beq_self_eq_true];exact⟨λks' e=>by cases e;exact⟨b,rfl,r⟩,λe=>nomatch e⟩
   .rw[if_neg c,show(y==z)=ao from beq_eq_false_iff_ne.mpr λe=>c e.symm];exact h4 y
theorem aSB{K:Fg}{es:Array DictEntry}{ep:Nat}(h:K.lookup a=aj ⟨.type "dict",aq,.dict es ep,#[]⟩)(hs:(a==sysModules)=ao)(e:au8 w K es.toList tb)(nd:(tb.map (·.1)).Nodup):CDi P w K a tb:=by
 obtain⟨kvs,h1,h2,h3,h4⟩:=e.of (P:=P);refine⟨hs,valueAt kvs,λg kin=>Heap.DictOf.mapOf ⟨_,es,ep,kin a _ h,⟨rfl,rfl,rfl⟩,rfl,λe he=>h1 e (by simpa using he),h2,?_⟩,h4⟩;rw[h3];have:(tb.map (λp=>(Sum.inr p.1:Key)))=(tb.map (·.1)).map Sum.inr:=by rw[a0m];rfl
 rw[this];exact List.pairwise_map.mpr (nd.imp λh e=>h (Sum.inr.inj e))
end L4
namespace L5
open PySem PySem.Spec PyProof.Rows L2 L4
def onB(x:D)(f:Bool->Prop):Prop:=match x with
 |.bl k=>f k
 |_=>False
def onI(x:D)(f:Int->Prop):Prop:=match x with
 |.int k=>f k
 |_=>False
theorem aKU{k:Bool}{f:Bool->Prop}:onB (.bl k) f=f k:=rfl
theorem aDN{k:Int}{f:Int->Prop}:onI (.int k) f=f k:=rfl
def yF(xs:List D):Prop:=xs.length<=cj
theorem aKV:yF []=True:=eq_true (show 0<=cj by decide)
theorem aKW:yF [a0]=True:=eq_true (show 1<=cj by decide)
variable{a1:D}
theorem aKX:yF [a0,a1]=True:=eq_true (show 2<=cj by decide)
variable{a2:D}
theorem aKY:yF [a0,a1,a2]=True:=eq_true (show 3<=cj by decide)
theorem aKZ:yF [a0,a1,a2,a3]=True:=eq_true (show 4<=cj by decide)
theorem aL0:yF [a0,a1,a2,a3,a4]=True:=eq_true (show 5<=cj by decide)
theorem aL1:yF [a0,a1,a2,a3,a4,a5]=True:=eq_true (show 6<=cj by decide)
theorem aL2:yF [a0,a1,a2,a3,a4,a5,a6]=True:=eq_true (show 7<=cj by decide)
theorem aL3:yF [a0,a1,a2,a3,a4,a5,a6,a7]=True:=eq_true (show 8<=cj by decide)
variable{n c:Nat}{r:RM3}{T:String}{ds:List D}{b:Bool}
section
variable{F:cD}{G:Gp}{R:iG}{tt tt':TT3}{K:Fg}
theorem aSD:aH t u F ρ G=t {F with nx:=u F} ρ G:=rfl
theorem aL4:aN F ρ G=F.nx ρ G:=rfl
theorem aL5:a3S te F ρ G=te ρ G λ_ G1=>F.nx ρ G1:=rfl
theorem aSE:aU te F ρ G=te ρ G F.rt:=rfl
theorem aSF:bF tt t u F ρ G=tt ρ G λb G1=>if b=ak then t F ρ G1 else u F ρ G1:=rfl
theorem aSG{i:Nat}:bJ i te F ρ G=te ρ G λx G1=>F.nx (a2E ρ i x) G1:=rfl
theorem x_raise{EX:aL->aO}:oK EX C tA F ρ G=tA ρ G λds G1=>yF ds/\EX ρ C G1:=rfl
theorem aSH{i:Nat}{bd:(aL->aO)->aZ}:al5 K C i bd t F ρ G=bd (λρ1 C' G1=>um K (.ref C') (.ref C)=aj ak/\∀x,G1 x=aq->t {nx:=λρ2 G2=>F.nx (pC ρ2 i) G2,rt:=F.rt,bk:=λρ2 G2=>F.bk (pC ρ2 i) G2,ct:=λρ2 G2=>F.ct (pC ρ2 i) G2} (a2E ρ1 i (.ref x)) (aJ G1 x (.exn C'))) F ρ G:=rfl
theorem x_c:aG d ρ G R=R d G:=rfl
theorem aL6:aB 0 (aj d::ρ) G R=R d G:=rfl
theorem aL7:aB (n+1) (o::ρ) G R=aB n ρ G R:=rfl
theorem aoU:a2E (o::ρ) 0 d=aj d::ρ:=rfl
theorem aoV:a2E (o::ρ) (n+1) d=o::a2E ρ n d:=rfl
theorem ay8:pC (o::ρ) 0=aq::ρ:=rfl
theorem ay9:pC (o::ρ) (n+1)=o::pC ρ n:=rfl
theorem aXB{r:R3}:aD r ta tb ρ G R=ta ρ G λx G1=>tb ρ G1 λy G2=>r x y G2 R:=rfl
theorem aL8{Q:Bool->Gp->Prop}:aK te ρ G Q=te ρ G λx G1=>onB x λk=>Q k G1:=rfl
theorem aDO{r r':R3}:uE r r' ta tb tc ρ G R=ta ρ G λx G1=>tb ρ G1 λy G2=>r x y G2 λz G3=>onB z λk=>if k=ak then tc ρ G3 λw G4=>r' y w G4 R else R (.bl ao) G3:=by
 unfold uE;congr 1;funext x G1;congr 1;funext y G2;congr 1;funext z G3;cases z with
 |bl k=>cases k<;>rfl
 |_=>rfl
theorem aSI{Q:Bool->Gp->Prop}:ac8 tt tt' ρ G Q=tt ρ G λc G1=>if c=ak then tt' ρ G1 Q else Q ao G1:=rfl
theorem aXC{Q:Bool->Gp->Prop}:aoG tt tt' ρ G Q=tt ρ G λc G1=>if c=ak then Q ak G1 else tt' ρ G1 Q:=rfl
theorem aSJ{Q:Bool->Gp->Prop}:yD tt ρ G Q=tt ρ G λc G1=>Q (!c) G1:=rfl
theorem aL9:wU ta tb ρ G R=ta ρ G λx G1=>onB x λk=>if k=ak then tb ρ G1 R else R (.bl ao) G1:=by
 unfold wU;congr 1;funext x G1;cases x with
 |bl k=>cases k<;>rfl
 |_=>rfl
theorem aLA:ai6 ta ρ G R=ta ρ G λx G1=>onB x λk=>R (.bl (!k)) G1:=rfl
theorem aSK:aqS ta ρ G R=ta ρ G λx G1=>onI x λk=>R (.int (-k)) G1:=rfl
theorem aSL:aC ρ G Q=Q [] G:=rfl
theorem aLB{Q:List D->Gp->Prop}:aA te tA ρ G Q=te ρ G λx G1=>tA ρ G1 λxs G2=>Q (x::xs) G2:=rfl
theorem aSM:dO tA ρ G R=tA ρ G λxs G1=>yF xs/\R (.tup xs) G1:=rfl
theorem aSN:bL tA ρ G R=tA ρ G λxs G1=>yF xs/\∀p,G1 p=aq->R (.ref p) (aJ G1 p (.lst xs)):=rfl
theorem x_call{ex:aL->aO}:aQ sp ex tA ρ G R=tA ρ G λds G1=>sp ds G1 R (ex ρ):=rfl
theorem aXD{r:List D->Gp->iG->Prop}:bR r tA ρ G R=tA ρ G λxs G1=>r xs G1 R:=rfl
theorem x_m:tM3 T r te tA ρ G R=te ρ G λx G1=>afB T G1 x/\tA ρ G1 λxs G2=>r x xs G2 R:=rfl
theorem aXE:aiB T r te ρ G R=te ρ G λx G1=>afB T G1 x/\r x [] G1 R:=rfl
theorem aDP:afB "str" G (.str z)=True:=eq_true rfl
theorem aiP:afB "list" G (.ref p)=((bQ G p).isSome=ak):=by unfold afB;simp
variable{Q:Option Int->Gp->Prop}
theorem ayA:bV ρ G Q=Q aq G:=rfl
theorem aLC:cY te ρ G Q=te ρ G λx G1=>onI x λk=>Q (aj k) G1:=rfl
theorem aDQ{tl th:TO3}:cF te tl th ρ G R=te ρ G λx G1=>tl ρ G1 λlo G2=>th ρ G2 λhi G3=>aiA x lo hi G3 R:=rfl
theorem ayB{i j:Int}:bB (.int i) (.int j) G R=R (.int (i+j)) G:=rfl
theorem ayC{i j:Str}:bB (.str i) (.str j) G R=(i.length+j.length<=cj/\R (.str (i++j)) G):=rfl
theorem aSO{i j:Int}:a2L (.int i) (.int j) G R=R (.int (i - j)) G:=rfl
theorem aGL{i j:Int}:qY (.int i) (.int j) G R=(aw2 i j/\R (.int (i*j)) G):=rfl
theorem aLD{i j:Int}:bI (.int i) (.int j) G R=(aHP i j/\R (.int (i / j)) G):=rfl
theorem aSP{i j:Int}:bA (.int i) (.int j) G R=(0<j/\R (.int (i%j)) G):=rfl
theorem aSQ{i j:Int}:agO (.int i) (.int j) G R=(aHQ i j/\R (.int (i^j.toNat)) G):=rfl
theorem x_lt{i j:Int}:acA (.int i) (.int j) G R=R (.bl (decide (i<j))) G:=rfl
theorem aXF{i j:Int}:awJ (.int i) (.int j) G R=R (.bl (decide (j<i))) G:=rfl
theorem aXG{i j:Int}:awK (.int i) (.int j) G R=R (.bl (decide (i<=j))) G:=rfl
theorem aDR{j:Str}:a5E (.str i) (.str j) G R=R (.bl (!(Builtin.Str.occurrences j i 0 j.length 1).isEmpty)) G:=rfl
theorem aDS{i j:Int}:dF (.int i) (.int j) G R=R (.bl (i==j)) G:=by
 show(bW 20 (.int i)=ak/\bW 20 (.int j)=ak/\_)=_;simp[bW,eqP]
theorem aDT{i j:Int}:al9 (.int i) (.int j) G R=R (.bl (!(i==j))) G:=by
 show(bW 20 (.int i)=ak/\bW 20 (.int j)=ak/\_)=_;simp[bW,eqP]
theorem aDU:dF (.str i) (.str j) G R=R (.bl (i==j)) G:=by
 show(bW 20 (.str i)=ak/\bW 20 (.str j)=ak/\_)=_;simp[bW,eqP]
theorem aDV:al9 (.str i) (.str j) G R=R (.bl (!(i==j))) G:=by
 show(bW 20 (.str i)=ak/\bW 20 (.str j)=ak/\_)=_;simp[bW,eqP]
theorem aDW{z:Str}:fO [.str z] G R=(z.length<=cj/\R (.int z.length) G):=rfl
theorem aDX:fO [.tup ds] G R=R (.int ds.length) G:=rfl
theorem lD(h:bQ G q=aj ds):fO [.ref q] G R=R (.int ds.length) G:=by unfold fO;simp only[h]
theorem aDY:aqV [.bl b] G R=R (.int (if b then 1 else 0)) G:=rfl
theorem ayD{i:Int}(h:atI xs i=aj d):bN (.tup xs) (.int i) G R=R d G:=by unfold bN;simp only[h]
theorem aoW{z:Str}{i:Int}(h:atI z.cps.toList i=aj c):bN (.str z) (.int i) G R=(z.length<=cj/\R (.str ⟨#[c]⟩) G):=by unfold bN;simp only[h]
theorem xA{i:Int}(e:bQ G p=aj xs)(h:atI xs i=aj d):bN (.ref p) (.int i) G R=R d G:=by unfold bN;simp only[e,h]
theorem am0:aY K [.non,.ty "str"] G R=R (.bl ao) G:=by
 show("str"∈lC/\R (.bl (L2.subB "NoneType" "str")) G)=_;rw[show L2.subB "NoneType" "str"=ao from by decide];simp[lC]
theorem aoX:aY K [(.bl b),.ty "str"] G R=R (.bl ao) G:=by
 show("str"∈lC/\R (.bl (L2.subB "bool" "str")) G)=_;rw[show L2.subB "bool" "str"=ao from by decide];simp[lC]
theorem am1{i:Int}:aY K [(.int i),.ty "int"] G R=R (.bl ak) G:=by
 show("int"∈lC/\R (.bl (L2.subB "int" "int")) G)=_;rw[show L2.subB "int" "int"=ak from by decide];simp[lC]
theorem am2{i:Int}:aY K [(.int i),.ty "str"] G R=R (.bl ao) G:=by
 show("str"∈lC/\R (.bl (L2.subB "int" "str")) G)=_;rw[show L2.subB "int" "str"=ao from by decide];simp[lC]
theorem afG{i:Int}:aY K [(.int i),.ty "tuple"] G R=R (.bl ao) G:=by
 show("tuple"∈lC/\R (.bl (L2.subB "int" "tuple")) G)=_;rw[show L2.subB "int" "tuple"=ao from by decide];simp[lC]
theorem am3:aY K [(.str z),.ty "int"] G R=R (.bl ao) G:=by
 show("int"∈lC/\R (.bl (L2.subB "str" "int")) G)=_;rw[show L2.subB "str" "int"=ao from by decide];simp[lC]
theorem am4:aY K [(.str z),.ty "str"] G R=R (.bl ak) G:=by
 show("str"∈lC/\R (.bl (L2.subB "str" "str")) G)=_;rw[show L2.subB "str" "str"=ak from by decide];simp[lC]
theorem afH:aY K [(.str z),.ty "tuple"] G R=R (.bl ao) G:=by
 show("tuple"∈lC/\R (.bl (L2.subB "str" "tuple")) G)=_;rw[show L2.subB "str" "tuple"=ao from by decide];simp[lC]
theorem am5:aY K [(.tup xs),.ty "int"] G R=R (.bl ao) G:=by
 show("int"∈lC/\R (.bl (L2.subB "tuple" "int")) G)=_;rw[show L2.subB "tuple" "int"=ao from by decide];simp[lC]
theorem am6:aY K [(.tup xs),.ty "str"] G R=R (.bl ao) G:=by
 show("str"∈lC/\R (.bl (L2.subB "tuple" "str")) G)=_;rw[show L2.subB "tuple" "str"=ao from by decide];simp[lC]
theorem afI:aY K [(.tup xs),.ty "tuple"] G R=R (.bl ak) G:=by
 show("tuple"∈lC/\R (.bl (L2.subB "tuple" "tuple")) G)=_;rw[show L2.subB "tuple" "tuple"=ak from by decide];simp[lC]
theorem aaW{q C C':bx}(h:G q=aj (.exn C))(e:ExC K C)(k:cu K (.ref C) (.ref C')=aj b)(z:R (.bl b) G):aY K [.ref q,.ref C'] G R:=by
 unfold aY;simp only[exD,h];exact⟨b,e,k,z⟩
theorem aDZ{n:String}(h:G q=aj (.exn C))(e:ExC K C)(k:cu K (.ref C) (.type n)=aj b)(z:R (.bl b) G):aY K [.ref q,.ty n] G R:=by
 unfold aY;simp only[exD,tyD,h];exact⟨b,e,k,z⟩
end
theorem aM(h:G p=aj (.lst xs)):bQ G p=aj xs:=by unfold bQ;rw[h]
theorem zY(h:G p=aj (.rol xs)):bQ G p=aj xs:=by unfold bQ;rw[h]
theorem oY:bQ (aJ G p (.lst xs)) p=aj xs:=aM aF
def kn(G:Gp)(d:D):Prop:=(tyD G d).isSome=ak
theorem aLE(h:kn G (.ref q)):tyD G (.ref q)=aj "list" ∨ tyD G (.ref q)=aj "dict":=by
 unfold kn at h
 have e:tyD G (.ref q)=(match G q with
  |some (.lst _)=>aj "list"
  |some (.rol _)=>aj "list"
  |some (.dic _ _)=>aj "dict"
  |_=>aq):=rfl
 rw[e]at h ⊢;split at h
 .exact .inl rfl
 .exact .inl rfl
 .exact .inr rfl
 .simp at h
theorem aLF:kn G .non:=rfl
theorem aSR:kn G (.bl b):=rfl
theorem aLG{b:Int}:kn G (.int b):=rfl
theorem aLH{b:List D}:kn G (.tup b):=rfl
theorem aLI(h:G p=aj (.lst xs)):kn G (.ref p):=by unfold kn tyD;simp[h]
variable{l:List Nat}
section
variable{K:Fg}
theorem aLJ{x:D}{n:String}(e:tyD G x=aj T)(hn:n∈lC):aY K [x,.ty n] G R=R (.bl (L2.subB T n)) G:=by
 show(match tyD G x with
  |some T=>n∈lC/\R (.bl (L2.subB T n)) G
  |none=>_)=_
 rw[e];exact propext ⟨λh=>h.2,λh=>⟨hn,h⟩⟩
theorem aoY(h:kn G (.ref q)):aY K [.ref q,.ty "str"] G R=R (.bl ao) G:=by
 rcases aLE h with e|e<;>rw[aLJ e (by decide)]<;>rfl
theorem at0{α:Type}{a:α}{xs:List α}:atI (a::xs) 0=aj a:=by
 unfold atI ixN;simp
theorem atS{α:Type}{a:α}{xs:List α}:atI (a::xs) ((n+1:Nat):Int)=atI xs (n:Int):=by
 unfold atI ixN;have h0:(0:Int)<=((n+1:Nat):Int):=by omega
 have h1:(0:Int)<=(n:Int):=by omega
 rw[if_pos h0,if_pos h1];by_cases h:n<xs.length
 .have a1:((n+1:Nat):Int)<((a::xs).length:Int):=by simp;omega
  have a2:(n:Int)<(xs.length:Int):=by omega
  rw[if_pos a1,if_pos a2];simp
 .have a1:¬ ((n+1:Nat):Int)<((a::xs).length:Int):=by simp;omega
  have a2:¬ (n:Int)<(xs.length:Int):=by omega
  rw[if_neg a1,if_neg a2];rfl
theorem uZ{α:Type}{xs:List α}:atI xs (n:Int)=xs[n]?:=by
 unfold atI ixN;rw[if_pos (by omega)];by_cases h:n<xs.length
 .rw[if_pos (by omega)];simp
 .rw[if_neg (by omega)];simp at h;simp[h]
theorem aE0:bN (.tup (a::xs)) (.int 0) G R=R a G:=ayD at0
theorem aE1{b:D}:bN (.tup (a::b::xs)) (.int 1) G R=R b G:=ayD (i:=((1:Nat):Int)) (by rw[atS,uZ];rfl)
theorem str_len:(⟨l.toArray⟩:Str).length=l.length:=by
 show l.toArray.size=l.length;simp
theorem aE2{i:Int}(h:atI l i=aj c)(hl:l.length<=cj):bN (.str ⟨l.toArray⟩) (.int i) G R=R (.str ⟨#[c]⟩) G:=by
 rw[aoW (c:=c) (by simpa using h)];exact propext ⟨λh=>h.2,λh=>⟨by rw[str_len];exact hl,h⟩⟩
end
theorem ah7(x:Str){a b:Nat}(hab:a<=b)(hb:b<=x.length):Txt.slice x (aj (a:Int)) (aj (b:Int))=⟨((x.cps.toList.drop a).take (b - a)).toArray⟩:=by
 exact PySem.StrLaws.sliceText_nat x hab hb
theorem a3Z(x:Str){a:Nat}(h:a<=x.length):Txt.slice x (aj (a:Int)) aq=⟨(x.cps.toList.drop a).toArray⟩:=by
 have e:Txt.slice x (aj (a:Int)) aq=Txt.slice x (aj (a:Int)) (aj (x.length:Int)):=by
  unfold Txt.slice;rw[PySem.StrLaws.sliceIdx_none_hi]
 rw[e,ah7 x h (gw _)];congr 2;apply a1y;simp[Str.length]
theorem acY(x:Str){b:Nat}(h:b<=x.length):Txt.slice x aq (aj (b:Int))=⟨(x.cps.toList.take b).toArray⟩:=by
 have e:Txt.slice x aq (aj (b:Int))=Txt.slice x (aj ((0:Nat):Int)) (aj (b:Int)):=by
  unfold Txt.slice;rw[PySem.StrLaws.sliceIdx_none_lo];rfl
 rw[e,ah7 x (yh _) h];simp
section
end
variable{xs:List D}
section
theorem aoZ{b:bx}{ys:List D}(h1:bQ G a=aj xs)(h2:bQ G b=aj ys)(s1:xs.all (bW 20)=ak)(s2:ys.all (bW 20)=ak):dF (.ref a) (.ref b) G R=R (.bl (u9 xs ys)) G:=by
 show eqG G (.ref a) (.ref b) (λb=>R (.bl b) G)=_;unfold eqG;simp only[h1,h2,s1,s2,true_and]
end
section
variable{i j:Int}
theorem aLK(h:-18446744073709551616<i/\i<18446744073709551616):qY (.int i) (.int j) G R=R (.int (i*j)) G:=by
 rw[aGL];exact propext ⟨λz=>z.2,λz=>⟨.inl ⟨by have:=h.1;omega,by have:=h.2;omega⟩,z⟩⟩
theorem aLL(h:-18446744073709551616<j/\j<18446744073709551616):qY (.int i) (.int j) G R=R (.int (i*j)) G:=by
 rw[aGL];exact propext ⟨λz=>z.2,λz=>⟨.inr ⟨by have:=h.1;omega,by have:=h.2;omega⟩,z⟩⟩
theorem aE3(h:0<j/\j<1073741824):bI (.int i) (.int j) G R=R (.int (i / j)) G:=by
 rw[aLD];exact propext ⟨λz=>z.2,λz=>⟨h,z⟩⟩
theorem aLM(h:0<j):bA (.int i) (.int j) G R=R (.int (i%j)) G:=by
 rw[aSP];exact propext ⟨λz=>z.2,λz=>⟨h,z⟩⟩
theorem aLN(h:0<=j/\j<=1000000/\i.natAbs<18446744073709551616):agO (.int i) (.int j) G R=R (.int (i^j.toNat)) G:=by
 rw[aSQ];exact propext ⟨λz=>z.2,λz=>⟨⟨h.1,h.2.1,h.2.2⟩,z⟩⟩
end
section
variable{i j:Int}
theorem ayE{α:Type}{xs:List α}{i:Int}(h0:0<=i)(h1:i<(xs.length:Int)):∃d,atI xs i=aj d/\d∈xs:=by
 obtain⟨n,rfl⟩:=ou h0;have hn:n<xs.length:=by omega
 exact⟨xs[n],by rw[uZ];simp[hn],List.getElem_mem hn⟩
theorem ap0(e:bQ G p=aj xs)(h0:0<=i)(h1:i<(xs.length:Int))(h:∀d∈xs,R d G):bN (.ref p) (.int i) G R:=by
 obtain⟨d,h2,h3⟩:=ayE h0 h1;rw[xA e h2];exact h d h3
theorem iY{m:Int}(hm:m=(xs.length:Int))(h0:0<m)(h:∀d∈xs,R d (aJ G p (.lst xs))):bN (.ref p) (.int (j%m)) (aJ G p (.lst xs)) R:=by
 refine ap0 oY (vg _ (by omega)) ?_ h;have:=qx j h0;omega
variable{P:D->Prop}
theorem all_nil:∀d∈([]:List D),P d:=λ_ h=>by simp at h
theorem all_cons{a:D}{r:List D}(h1:P a)(h2:∀d∈r,P d):∀d∈a::r,P d:=λd h=>by
 rcases jc.mp h with rfl|h
 .exact h1
 .exact h2 d h
end
section
variable{b:Bool}{α:Type}{l:List α}
theorem ap1:(True/\P)=P:=true_and P
theorem ap2:(P/\True)=P:=and_true P
theorem ap3:(!true)=ao:=rfl
theorem am7:(!false)=ak:=rfl
theorem ayF:((!b)=ak)=(b=ao):=by cases b<;>simp
theorem au9:(if True then P else Q)=P:=if_true ..
theorem ap4:(if False then P else Q)=Q:=if_false ..
theorem aSS:(ao=ak)=False:=by simp
theorem aST:(ak=ao)=False:=by simp
theorem ap5:(a::l).length=l.length+1:=ig
theorem auA{β:Type}{f:α->β}:(l.map f).length=l.length:=dg ..
end
end L5
namespace L6
open PySem PySem.Spec PyProof.Rows L2 L4 L5
def aE4(x:D)(G:Gp)(Q:Src->Gp->Prop):Prop:=match x with
 |.ref p=>(match bQ G p with
  |some xs=>Q (.lst p xs) G
  |none=>False)
 |.tup xs=>Q (.imm xs) G
 |.str z=>Q (.imm (signs z)) G
 |_=>False
def ayG(x:D)(G:Gp)(Q:Src->Gp->Prop):Prop:=match x with
 |.ref p=>(match bQ G p with
  |some xs=>Q (.lst p xs) G
  |none=>False)
 |.str z=>Q (.imm (signs z)) G
 |.tup xs=>xs.all scD=ak/\∀a,(G a=aq∨G a=aj (.tpl xs))->Q (.tpl a xs) (aJ G a (.tpl xs))
 |_=>False
def aGM(xs:List D)(G:Gp)(Q:Src->Gp->Prop):Prop:=match xs with
 |[.int j]=>-(2^62)<=j/\j<2^62/\Q (.imm (oX 0 j)) G
 |_=>False
abbrev aSU(xs:List D)(G:Gp)(Q:Src->Gp->Prop):Prop:=aJT xs G Q
section
variable{Q:Src->Gp->Prop}{xs:List D}{j:Int}
theorem aE5:acK te ρ G Q=te ρ G λx G1=>aE4 x G1 Q:=rfl
theorem aSV:aCM te ρ G Q=te ρ G λx G1=>ayG x G1 Q:=rfl
theorem aLO:wY ta ρ G Q=ta ρ G λxs G1=>aGM xs G1 Q:=rfl
theorem aSW:acP ta ρ G Q=ta ρ G λxs G1=>aSU xs G1 Q:=rfl
theorem ayH(h:bQ G p=aj xs):aE4 (.ref p) G Q=Q (.lst p xs) G:=by unfold aE4;simp only[h]
theorem aE6{ys:List D}(h':bQ G q=aj ys)(hl:xs.length=ys.length)(sc:xs.all scD=ak)(h:∀a,(G a=aq∨G a=aj (.tpl xs))->Q (.zip a q xs ys) (aJ G a (.tpl xs))):aSU [.tup xs,.ref q] G Q:=⟨xs,q,ys,rfl,h',hl,sc,h⟩
theorem ayI:aE4 (.str z) G Q=Q (.imm (signs z)) G:=rfl
theorem auB(h:bQ G p=aj xs):ayG (.ref p) G Q=Q (.lst p xs) G:=by unfold ayG;simp only[h]
theorem aE7(h:-4611686018427387904<=j/\j<4611686018427387904):aGM [.int j] G Q=Q (.imm (oX 0 j)) G:=by
 show(_/\_/\_)=_;exact propext ⟨λz=>z.2.2,λz=>⟨by omega,by omega,z⟩⟩
end
def ah8(dv:D->Option (List D))(src:Src)(tc:TT3)(te:dB)(ρ:aL)(G1:Gp)(R:iG):Prop:=src.items.length<cj/\∀p,G1 p=aq->∃P:Nat->List D->Gp->Prop,P 0 [] (aJ G1 p (.lst [])) /\
 (∀k ds G,k<=src.items.length->P k ds G->src.ok G/\G p=aj (.lst ds)/\ds.length<=k) /\
 (∀k d ds G,src.items[k]?=aj d->P k ds G->∃ys,dv d=aj ys/\tc (ys.map aj++ρ) G λb G2=>if b=ak then te (ys.map aj++ρ) G2 λy G3=>G3 p=aj (.lst ds)/\P (k+1) (ds++[y]) (aJ G3 p (.lst (ds++[y])))else P (k+1) ds G2) /\
 ∀ds G,P src.items.length ds G->∃G0,Le G0 G/\R (.ref p) G0
variable{dv:D->Option (List D)}{tc:TT3}
theorem aLP{ti:TI3}:a1S dv ti tc te ρ G R=ti ρ G λsrc G1=>ah8 dv src tc te ρ G1 R:=rfl
set_option tactic.hygienic true in
theorem ab2(l:Le G G')(h:bQ G p=aj xs):bQ G' p=aj xs:=by
 unfold bQ at h ⊢;split at h
 .rename_i e;rw[l _ _ e];exact h
 .rename_i e;rw[l _ _ e];exact h
 .cases h
variable{src:Src}
theorem ayJ(l:Le G G')(h:src.ok G):src.ok G':=by
 cases src with
 |lst p xs=>exact ab2 l h
 |imm xs=>trivial
 |zip p q xs ys=>exact⟨l _ _ h.1,ab2 l h.2.1,h.2.2⟩
 |itm p o kvs=>exact l _ _ h
 |key p o t kvs=>exact l _ _ h
 |tpl p xs=>exact l _ _ h
 |enu p xs=>exact ab2 l h
theorem ap6(l:Le (aJ G p o) G'):Le (aJ G p o') (aJ G' p o'):=λa u e=>by
 by_cases h:a=p
 .subst h;rw[aF]at e ⊢;exact e
 .rw[jD h]at e ⊢;exact l a u (by rw[jD h];exact e)
theorem ayK(v:D->List D)(c:D->Bool)(f:D->D)(hl:src.items.length<cj)(hok:src.ok G)(hv:∀d∈src.items,dv d=aj (v d))
  (hc:∀d∈src.items,∀G',Le G G'->∀Q:Bool->Gp->Prop,(∀G'',Le G' G''->Q (c d) G'')->tc ((v d).map aj++ρ) G' Q)
  (he:∀d∈src.items,c d=ak->∀G',Le G G'->∀Q:D->Gp->Prop,(∀G'',Le G' G''->Q (f d) G'')->te ((v d).map aj++ρ) G' Q)
  (h:∀p,G p=aq->R (.ref p) (aJ G p (.lst ((src.items.filter c).map f)))):ah8 dv src tc te ρ G R:=by
 refine⟨hl,λp hp=>⟨λk ds G'=>ds=((src.items.take k).filter c).map f/\Le (aJ G p (.lst ds)) G',⟨rfl,.refl _⟩,λk ds G' hk ⟨e,l⟩=>?_,λk d ds G' hd ⟨e,l⟩=>?_,λds G' ⟨e,l⟩=>?_⟩⟩
 .refine⟨ayJ ((Le.new hp).trans l) hok,l p _ aF,?_⟩;rw[e,dg];exact qj (List.length_filter_le _ _) (by rw[pq];omega)
 .have hm:d∈src.items:=uc hd
  have ht:src.items.take (k+1)=src.items.take k++[d]:=by
   rw[a2l,hd];rfl
  refine⟨v d,hv d hm,hc d hm G' ((Le.new hp).trans l) _ λG2 l2=>?_⟩;cases hcd:c d with
  |true =>
   rw[if_pos rfl];refine he d hm hcd G2 (((Le.new hp).trans l).trans l2) _ λG3 l3=>?_;have l4:=(l.trans l2).trans l3;refine⟨l4 p _ aF,?_,ap6 l4⟩;rw[ht,List.filter_append,oh,←e];simp[hcd]
  |false =>
   rw[if_neg (by decide)];refine⟨?_,l.trans l2⟩;rw[ht,List.filter_append,oh,←e];simp[hcd]
 .rw[a1W]at e;subst e;exact⟨_,l,h p hp⟩
theorem aiQ(c:D->Bool)(f:D->D)(hl:src.items.length<cj)(hok:src.ok G)
  (hc:∀d∈src.items,∀G',Le G G'->∀Q:Bool->Gp->Prop,(∀G'',Le G' G''->Q (c d) G'')->tc (aj d::ρ) G' Q)
  (he:∀d∈src.items,c d=ak->∀G',Le G G'->∀Q:D->Gp->Prop,(∀G'',Le G' G''->Q (f d) G'')->te (aj d::ρ) G' Q)
  (h:∀p,G p=aq->R (.ref p) (aJ G p (.lst ((src.items.filter c).map f)))):ah8 alG src tc te ρ G R:=ayK (λd=>[d]) c f hl hok (λ_ _=>rfl) hc he h
theorem comp_map(f:D->D)(hl:src.items.length<cj)(hok:src.ok G)
  (he:∀d∈src.items,∀G',Le G G'->∀Q:D->Gp->Prop,(∀G'',Le G' G''->Q (f d) G'')->te (aj d::ρ) G' Q)
  (h:∀p,G p=aq->R (.ref p) (aJ G p (.lst (src.items.map f)))):ah8 alG src pD te ρ G R :=
 aiQ (λ_=>ak) f hl hok (λd _ G' _ Q h=>h G' (.refl _)) (λd hd _=>he d hd) λp hp=>by
  have:src.items.filter (λ_=>ak)=src.items:=List.filter_eq_self.mpr λ_ _=>rfl;rw[this];exact h p hp
def arJ(src:Src)(tg:TG3)(tb:aZ)(F:cD)(ρ:aL)(G1:Gp):Prop:=∃P:Nat->aL->Gp->Prop,P 0 ρ G1/\(∀k ρ G,k<=src.items.length->P k ρ G->src.ok G) /\
 (∀k d ρ G,src.items[k]?=aj d->P k ρ G->tg d ρ λρ2=>tb {F with nx:=P (k+1),ct:=P (k+1),bk:=F.nx} ρ2 G)/\∀ρ G,P src.items.length ρ G->F.nx ρ G
variable{tg:TG3}{F:cD}
theorem aLQ{ti:TI3}:a3V ti tg tb F ρ G=ti ρ G λsrc G1=>arJ src tg tb F ρ G1:=rfl
variable{i:Nat}{Q:aL->Prop}
theorem aE8:a70 i d ρ Q=Q (a2E ρ i d):=rfl
theorem ayL{is:List Nat}{ds:List D}(h:ds.length=is.length):acO is (.tup ds) ρ Q=Q (a85 ρ is ds):=propext ⟨λz=>z.2,λz=>⟨h,z⟩⟩
theorem arK:a85 ρ is []=ρ:=by cases is<;>rfl
theorem aiR:a85 ρ (i::is) (d::ds)=a85 (a2E ρ i d) is ds:=rfl
variable{j:Int}
theorem am8(P:Nat->aL->Gp->Prop)(h0:P 0 ρ G)
  (hb:∀(k:Nat) ρ G,(k:Int)<j->P k ρ G->tg (.int k) ρ λρ2=>tb {F with nx:=P (k+1),ct:=P (k+1),bk:=F.nx} ρ2 G)(he:∀ρ G,P j.toNat ρ G->F.nx ρ G):arJ (.imm (oX 0 j)) tg tb F ρ G:=by
 have hlen:(Src.imm (oX 0 j)).items.length=j.toNat:=by simp[Src.items,oX]
 refine⟨P,h0,λ_ _ _ _ _=>trivial,λk d ρ G hd p=>?_,λρ G p=>he ρ G (hlen ▸ p)⟩;have hk:k<j.toNat:=by rw[←hlen];exact(jf.mp hd).1
 have e:d=.int k:=by
  have:(oX 0 j)[k]?=aj d:=hd;unfold oX at this;rw[zx,List.getElem?_range (by omega)]at this;simp at this;exact this.symm
 subst e;exact hb k ρ G (by omega) p
variable{xs:List D}
theorem ayM(P:Nat->aL->Gp->Prop)(h0:P 0 ρ G)(hs:∀k ρ G,P k ρ G->bQ G q=aj xs)
  (hb:∀k d ρ G,xs[k]?=aj d->P k ρ G->tg d ρ λρ2=>tb {F with nx:=P (k+1),ct:=P (k+1),bk:=F.nx} ρ2 G)(he:∀ρ G,P xs.length ρ G->F.nx ρ G):arJ (.lst q xs) tg tb F ρ G :=
 ⟨P,h0,λk ρ G _ p=>hs k ρ G p,hb,he⟩
section
variable{ds:List D}
theorem aE9(h:bQ G q=aj ds)(hb:ds.all atZ=ak):agY [.ref q] G R=R (.bl (ds.all au0)) G:=by
 unfold agY;simp only[h,hb,true_and]
variable{i:Int}
theorem aSX:aiI [.int i,.int j] G R=R (.int (if j<i then j else i)) G:=rfl
theorem aSY:a72 [.int i,.int j] G R=R (.int (if i<j then j else i)) G:=rfl
theorem am9(h:G p=aj (.lst ds))(hl:ds.length<cj):vU (.ref p) [d] G R=R .non (aJ G p (.lst (ds++[d]))):=by
 unfold vU;simp only[h,hl,true_and]
theorem a2M{b:bx}{es:List D}(h:G p=aj (.lst ds))(h2:G b=aj (.lst es))(hl:ds.length+es.length<=cj):bB (.ref p) (.ref b) G R=∀q,G q=aq->R (.ref q) (aJ G q (.lst (ds++es))):=by
 unfold bB;simp only[h,h2,hl,true_and]
end
theorem len_app{x y:Str}:(x++y).length=x.length+y.length:=by
 show(x.cps++y.cps).size=x.cps.size+y.cps.size;simp
theorem cA{i j:Str}(h:i.length+j.length<=cj):bB (.str i) (.str j) G R=R (.str (i++j)) G:=by
 rw[ayC];exact propext ⟨λz=>z.2,λz=>⟨h,z⟩⟩
theorem auC(P:D->Prop)(hl:src.items.length<cj)(hok:src.ok G)
  (he:∀d∈src.items,∀G',Le G G'->∀Q:D->Gp->Prop,(∀y G'',P y->Le G' G''->Q y G'')->te (aj d::ρ) G' Q)
  (h:∀p ds,G p=aq->ds.length=src.items.length->(∀y∈ds,P y)->R (.ref p) (aJ G p (.lst ds))):ah8 alG src pD te ρ G R:=by
 refine⟨hl,λp hp=>⟨λk ds G'=>ds.length=k/\(∀y∈ds,P y)/\Le (aJ G p (.lst ds)) G',⟨rfl,λy h=>by simp at h,.refl _⟩,λk ds G' hk ⟨e,a,l⟩=>?_,λk d ds G' hd ⟨e,a,l⟩=>?_,λds G' ⟨e,a,l⟩=>?_⟩⟩
 .exact⟨ayJ ((Le.new hp).trans l) hok,l p _ aF,by omega⟩
 .refine⟨[d],rfl,?_⟩;rw[show ∀{ρ:aL}{G:Gp}{Q:Bool->Gp->Prop},pD ρ G Q=Q ak G from rfl,if_pos rfl];refine he d (uc hd) G' ((Le.new hp).trans l) _ λy G3 hy l3=>?_;have l4:=l.trans l3;refine⟨l4 p _ aF,by simp[e],λz hz=>?_,ap6 l4⟩;rcases qm.mp hz with m|m
  .exact a z m
  .rw[uf.mp m];exact hy
 .exact⟨_,l,h p ds hp e a⟩
def ayN(o i v:D)(F:cD)(ρ:aL)(G3:Gp):Prop:=match o,i with
 |.ref p,.int k=>(match G3 p with
  |some (.lst xs)=>(match ixN xs.length k with
   |some j=>F.nx ρ (aJ G3 p (.lst (xs.set j v)))
   |none=>False)
  |_=>False)
 |_,_=>False
theorem aLR{to:dB}:ai7 to ti te F ρ G=te ρ G λv G1=>to ρ G1 λo G2=>ti ρ G2 λi G3=>ayN o i v F ρ G3:=rfl
theorem ayO{k:Int}(h:G p=aj (.lst xs))(h0:0<=k)(h1:k<(xs.length:Int)):ayN (.ref p) (.int k) v F ρ G=F.nx ρ (aJ G p (.lst (xs.set k.toNat v))):=by
 unfold ayN;have e:ixN xs.length k=aj k.toNat:=by unfold ixN;rw[if_pos h0,if_pos h1]
 simp only[h,e]
noncomputable def sgD(c:Nat):D:=.str ⟨#[c]⟩
theorem arL(h:d∈oX 0 j):∃k:Nat,d=.int (k:Int)/\(k:Int)<j:=by
 unfold oX at h;obtain⟨i,hi,rfl⟩:=vh.mp h;have:=zf.mp hi;exact⟨i,by simp,by omega⟩
theorem arM{i:Int}:(oX i j).length=(j - i).toNat:=by simp[oX]
section
variable{F:cD}
theorem aLS:aiH is te F ρ G=te ρ G λd G1=>acO is d ρ λρ2=>F.nx ρ2 G1:=rfl
end
end L6
namespace L7
open PySem PySem.Spec PyProof.Rows L2 L4 L5 L6
section
variable{F:cD}
theorem aSZ{tk:TO3}:ar7 te tk ρ G R=te ρ G λx G1=>tk ρ G1 λo G2=>o=aj (-1)/\ah1 x G2 R:=rfl
theorem aT0{ds:List D}(h:bQ G p=aj ds):ah1 (.ref p) G R=∀q,G q=aq->R (.ref q) (aJ G q (.lst ds.reverse)):=by
 unfold L2.ah1;simp only[h]
theorem aT1{i:Nat}:ar8 i t F ρ G=t {nx:=λρ G=>F.nx (pC ρ i) G,rt:=F.rt,bk:=λρ G=>F.bk (pC ρ i) G,ct:=λρ G=>F.ct (pC ρ i) G} (pC ρ i) G:=rfl
end
end L7
namespace L8
open PySem PySem.Spec PyProof.Rows L2 L4 L5 L6 L7
section
variable{F:cD}{fs:List (Str×D)}
theorem aLT:fH C ta tv f F ρ G=tv ρ G λy G1=>ta ρ G1 λx G2=>alO C f x y F ρ G2:=rfl
theorem aEA(h:G p=aj (.ins C fs))(hl:fs.length<1000):alO C f (.ref p) y F ρ G=F.nx ρ (aJ G p (.ins C (alN f y fs))):=by
 unfold L2.alO;simp only[h];exact propext ⟨λz=>z.2.2,λz=>⟨trivial,hl,z⟩⟩
theorem aEB{EX:aL->aO}:gQ C sp dd EX t ρ G R=t ρ G λds G1=>∀x,G1 x=aq->sp (.ref x::(ds++dd)) (aJ G1 x (.ins C [])) (λv G2=>v=.non/\R (.ref x) G2) (EX ρ):=rfl
end
end L8
namespace L9
open PySem PySem.Spec PyProof.Rows L2 L4 L5 L6 L7 L8
section
end
end L9
namespace L10
open PySem PySem.Spec PyProof.Rows L2 L4 L5 L6
section
end
end L10
namespace L11
open PySem PySem.Spec PyProof.Rows L2 L4 L5 L6
def ayP(xs:List D)(G1:Gp)(R:Src->Gp->Prop):Prop:=match xs with
 |[.ref a]=>(match bQ G1 a with
  |some ds=>R (.enu a ds) G1
  |none=>False)
 |_=>False
section
variable{F:cD}{xs:List D}{Q:Src->Gp->Prop}{tg:TG3}
theorem ayQ:a73 ta ρ G Q=ta ρ G λxs G1=>ayP xs G1 Q:=rfl
theorem amA(hp:bQ G p=aj xs)(h:Q (.enu p xs) G):ayP [.ref p] G Q:=by
 unfold ayP;simp only[hp];exact h
theorem ayR(P:Nat->aL->Gp->Prop)(h0:P 0 ρ G)(hs:∀k ρ G,P k ρ G->bQ G p=aj xs)
  (hb:∀k d ρ G,xs[k]?=aj d->P k ρ G->tg (.tup [.int k,d]) ρ λρ2=>tb {F with nx:=P (k+1),ct:=P (k+1),bk:=F.nx} ρ2 G)(he:∀ρ G,P xs.length ρ G->F.nx ρ G):arJ (.enu p xs) tg tb F ρ G:=by
 refine⟨P,h0,λk ρ G _ q=>hs k ρ G q,λk d ρ G e q=>?_,λρ G q=>he ρ G (by rw[←a1U];exact q)⟩
 have hk:k<xs.length:=by
  have:=(jf.mp e).1;rw[show(Src.enu p xs).items=enm xs from rfl,a1U]at this;exact this
 have e2:=aiK (gq hk);rw[show(Src.enu p xs).items=enm xs from rfl,e2]at e;cases e;exact hb k _ ρ G (gq hk) q
end
end L11
namespace L12
open PySem PySem.Spec PyProof.Rows L2 L4 L5 L6
section
theorem aEC:a1V (.str j) [] G R=(Builtin.Str.tooLong (Txt.upper j).length=ao/\R (.str (Txt.upper j)) G):=rfl
theorem strs_map:∀(ys:List Str),a86 (ys.map D.str)=aj ys
 |[]=>rfl
 |y::r=>by
  show(a86 (r.map D.str)).map (y:: ·)=_;rw[strs_map r];rfl
end
end L12
namespace L19
open PySem PySem.Spec PyProof.Rows L2 L4 L5 L6
section
variable{K:Fg}{F:cD}{tb:(aL->aO)->aZ}
theorem aLU:alS K tb hs F ρ G=tb (λρ1 C G1=>arA K F C hs ρ1 G1) F ρ G:=rfl
theorem ayS{n:Int}:a87 (.str z) (.int n) G R=(MulOk z n/\R (.str (Txt.mul z n)) G):=propext ⟨λ⟨_,_,e1,e2,ok,h⟩=>by cases e1;cases e2;exact⟨ok,h⟩,λ⟨ok,h⟩=>⟨_,_,rfl,rfl,ok,h⟩⟩
variable{tb:Tb}
theorem aT2:axR tb ti ρ G R=ti ρ G λy G1=>aCW tb y G1 R:=rfl
theorem aT3:axS a tb (.str z) (.ref a) G R=R (.bl (!(tb.lookup z).isSome)) G:=propext ⟨λ⟨_,e,_,h⟩=>by cases e;exact h,λh=>⟨_,rfl,rfl,h⟩⟩
theorem aLV(e:tb.lookup z=aj ks)(h:R (afF ks) G):aCW tb (.str z) G R:=⟨_,_,rfl,e,h⟩
theorem aT4{x:D}{n:String}:cM K [x,.ty n] G R=aY K [x,.ty n] G R:=by cases x<;>rfl
theorem ap7{b:Bool}:a3W [.bl b] G R=aqV [.bl b] G R:=rfl
end
end L19
namespace Law
open PySem PySem.Spec PyProof.Rows L2 L4
noncomputable def top(i:Nat):mj:=PySem.Challenge.pw_depot_k83_rows_that_are_none.main.body.getD i (.Pass ⟨0,0,0,0⟩)
noncomputable def bK:Tb:=[("come",["ware","number","bin","number"]),("go",["number","bin","number"]),("move",["number","bin","bin","number"]),("count",["number","bin","number"]),("day",[]),("promise",["ware","number","number"]),("drop",["number"]),("free",["ware","number"]),("keep",["number","rule"]),("wave",["rule"]),("walk",["rule"]),("in",["bin"]),("of",["ware"])]
noncomputable abbrev zZ:mj:=top 51
noncomputable abbrev acZ:mj:=top 52
noncomputable abbrev a8A:mj:=top 54
noncomputable abbrev a5I:mj:=top 56
noncomputable abbrev a8B:mj:=top 55
noncomputable abbrev a8C:mj:=top 57
noncomputable abbrev a2N:mj:=top 58
noncomputable abbrev a2O:mj:=top 59
noncomputable abbrev a8D:mj:=top 60
noncomputable abbrev a8E:mj:=top 53
noncomputable abbrev uG:mj:=top 61
noncomputable abbrev a01:mj:=top 62
noncomputable abbrev ad0:mj:=top 26
noncomputable abbrev a8F:mj:=top 27
noncomputable abbrev a8G:mj:=top 28
noncomputable abbrev ah9:mj:=top 21
noncomputable abbrev amB:mj:=top 22
noncomputable abbrev ahA:mj:=top 29
noncomputable abbrev ad1:mj:=top 30
noncomputable abbrev amC:mj:=top 31
noncomputable abbrev a8H:mj:=top 32
noncomputable abbrev yG:mj:=inClass (top 34) 0
noncomputable abbrev a2P:mj:=inClass (top 34) 0
noncomputable abbrev yH:mj:=inClass (top 34) 0
noncomputable abbrev vY:mj:=inClass (top 34) 0
noncomputable abbrev a02:mj:=inClass (top 34) 0
noncomputable abbrev sO:mj:=inClass (top 34) 0
noncomputable abbrev yI:mj:=inClass (top 34) 0
noncomputable abbrev yJ:mj:=inClass (top 34) 0
noncomputable abbrev yK:mj:=inClass (top 34) 0
noncomputable abbrev yL:mj:=inClass (top 34) 0
noncomputable abbrev yM:mj:=inClass (top 34) 0
noncomputable abbrev a2Q:mj:=inClass (top 34) 0
noncomputable abbrev a2R:mj:=inClass (top 34) 0
noncomputable abbrev ahB:mj:=top 48
noncomputable abbrev ahC:mj:=top 49
noncomputable abbrev a03:mj:=top 63
noncomputable abbrev a04:mj:=top 64
noncomputable abbrev a2S:mj:=top 65
noncomputable abbrev amD:mj:=top 66
set_option genInjectivity false in
structure aV where
 a05:bx
 lE:jo
 ad2:bx
 xB:jo
 a8I:bx
 uH:jo
 a5J:bx
 rE:jo
 a8J:bx
 uI:jo
 a8K:bx
 uJ:jo
 a2T:bx
 oM:jo
 a2U:bx
 oN:jo
 a8L:bx
 uK:jo
 a8M:bx
 uL:jo
 uM:bx
 gK:jo
 a06:bx
 lF:jo
 ad3:bx
 xD:jo
 a8N:bx
 uN:jo
 a8O:bx
 uO:jo
 ahD:bx
 a1Y:jo
 amE:bx
 a5K:jo
 ahE:bx
 a1Z:jo
 ad4:bx
 xE:jo
 amF:bx
 a5L:jo
 a8P:bx
 uP:jo
 cP:bx
 fP:jo
 eG:bx
 j5:jo
 cQ:bx
 fQ:jo
 cI:bx
 eY:jo
 dI:bx
 gR:jo
 c7:bx
 dJ:jo
 cR:bx
 fU:jo
 cT:bx
 fV:jo
 cU:bx
 fW:jo
 cV:bx
 fX:jo
 cW:bx
 fY:jo
 eH:bx
 j6:jo
 eN:bx
 j7:jo
 ahF:bx
 a2A:jo
 ahG:bx
 a2B:jo
 a07:bx
 lG:jo
 a08:bx
 lH:jo
 a2V:bx
 oO:jo
 ad5:bx
 aGO:jo
 iJ:bx
 a09:bx
 a5M:bx
 a0A:bx
 a5N:bx
 a5O:bx
 ab3:bx
 xF:bx
 a5P:bx
 uQ:bx
 a5Q:bx
 uR:bx
 a5R:bx
 xG:bx
 uT:bx
 bG:bx
 gG:bx
 mX:bx
 a74:bx
 mY:bx
 iK:bx
 vZ:bx
 dD:bx
 mZ:bx
 nA:bx
 nD:bx
 nF:bx
 nG:bx
 a75:bx
 a76:bx
 rF:bx
noncomputable def w5(K:Fg)(A:aV)(ex:aL->aO):aZ :=
  (aU (aD bA (aD bB (aD qY (aB 2) (aB 2)) (aD qY (aG (.int 48271)) (aB 1))) (aG (.int 2147483629))))
noncomputable def w6(K:Fg)(A:aV)(ex:aL->aO):aZ :=
  aH (bJ 2 (aD bA (aD bB (aD qY (aD bN (aB 0) (aD bA (aB 1) (bR fO (aA (aB 0) aC)))) (aG (.int 48271))) (aD qY (aB 1) (aG (.int 104729)))) (aG (.int 2147483647)))) (w5 K A ex)
noncomputable def wA(K:Fg)(A:aV)(ex:aL->aO):aZ :=
  aH (bF (aK (aD dF (bR fO (aA (aB 0) aC)) (aG (.int 0)))) (aU (aG (.int 0))) aN) (w6 K A ex)
noncomputable def sU(K:Fg)(A:aV)(ex:aL->aO):aZ :=
  aH (bF (aK (aD acA (aB 1) (bR fO (aA (aB 0) aC)))) (aU (aD bN (aB 0) (aB 1))) aN) (wA K A ex)
noncomputable def bZ(K:Fg)(A:aV):mR:=uD 3 2 λEX=>sU K A (λ_=>EX)
noncomputable def ad6:CB:=(.cons (.ifs (.cmp .Lt (.var 1) (.call 0 (.cons (.var 0) .nil))) (.cons (.ret (.ix (.var 0) (.var 1))) .nil) .nil) (.cons (.ifs (.cmp .Eq (.call 0 (.cons (.var 0) .nil)) (.con (.int 0))) (.cons (.ret (.con (.int 0))) .nil) .nil) (.cons (.set 2 (.bin .Mod (.bin .Add (.bin .Mult (.ix (.var 0) (.bin .Mod (.var 1) (.call 0 (.cons (.var 0) .nil)))) (.con (.int 48271))) (.bin .Mult (.var 1) (.con (.int 104729)))) (.con (.int 2147483647)))) (.cons (.ret (.bin .Mod (.bin .Add (.bin .Mult (.var 2) (.var 2)) (.bin .Mult (.con (.int 48271)) (.var 1))) (.con (.int 2147483629)))) .nil))))
noncomputable def ad7(K:Fg)(A:aV):SI:=⟨["_law_script","_law_k","_law_more"],[ak,ak,ak],[ak,ak,ak],[ao,ao,ao],[("len",.bf .len)],[ak],ak⟩
noncomputable def a5S(K:Fg)(A:aV)(ex:aL->aO):aZ :=
  (aU (aD bA (aD bB (aD bB (aD qY (aB 2) (aB 2)) (aD qY (aG (.int 48271)) (aB 1))) (aB 2)) (aG (.int 2147483629))))
noncomputable def a4A(K:Fg)(A:aV)(ex:aL->aO):aZ :=
  aH (bJ 2 (aD bA (aD bB (aD bB (aD qY (aB 0) (aG (.int 48271))) (aD qY (aB 1) (aG (.int 104729)))) (aG (.int 11))) (aG (.int 2147483647)))) (a5S K A ex)
noncomputable def aX(K:Fg)(A:aV):mR:=uD 3 2 λEX=>a4A K A (λ_=>EX)
noncomputable def ap8:CB:=(.cons (.set 2 (.bin .Mod (.bin .Add (.bin .Add (.bin .Mult (.var 0) (.con (.int 48271))) (.bin .Mult (.var 1) (.con (.int 104729)))) (.con (.int 11))) (.con (.int 2147483647)))) (.cons (.ret (.bin .Mod (.bin .Add (.bin .Add (.bin .Mult (.var 2) (.var 2)) (.bin .Mult (.con (.int 48271)) (.var 1))) (.var 2)) (.con (.int 2147483629)))) .nil))
noncomputable def ap9(K:Fg)(A:aV):SI:=⟨["_law_number_here","_law_k","_law_more"],[ak,ak,ak],[ak,ak,ak],[ao,ao,ao],[],[],ak⟩
noncomputable def a0B(K:Fg)(A:aV)(ex:aL->aO):aZ :=
  (aU (dO (aA (aB 1) (aA (aB 2) (aA (aD bB (aG (.int 1)) (aD bA (aD bI (aB 0) (aG (.int 80))) (aG (.int 20)))) aC)))))
noncomputable def a2W(K:Fg)(A:aV)(ex:aL->aO):aZ :=
  (aU (dO (aA (aD bB (aG (.int 1)) (aD bA (aD bI (aB 0) (aG (.int 5))) (aG (.int 4)))) (aA (aD bB (aG (.int 1)) (aD bA (aD bI (aB 0) (aG (.int 20))) (aG (.int 5)))) (aA (aD bB (aG (.int 1)) (aD bA (aD bI (aB 0) (aG (.int 100))) (aG (.int 20)))) aC)))))
noncomputable def a0C(K:Fg)(A:aV)(ex:aL->aO):aZ :=
  aH (bF (aK (aD dF (aD bA (aB 0) (aG (.int 5))) (aG (.int 1)))) (aH (aiH [1,2] (aD bN (bL (aA (dO (aA (aG (.int 1)) (aA (aG (.int 1)) aC))) (aA (dO (aA (aG (.int 26)) (aA (aG (.int 4)) aC))) (aA (dO (aA (aG (.int 2)) (aA (aG (.int 99)) aC))) (aA (dO (aA (aG (.int 3)) (aA (aG (.int 12)) aC))) aC))))) (aD bA (aD bI (aB 0) (aG (.int 5))) (aG (.int 4))))) (a0B K A ex)) aN) (a2W K A ex)
noncomputable def rG(K:Fg)(A:aV):mR:=uD 3 1 λEX=>a0C K A (λ_=>EX)
noncomputable def amG:CB:=(.cons (.ifs (.cmp .Eq (.bin .Mod (.var 0) (.con (.int 5))) (.con (.int 1))) (.cons (.aD7 [1,2] (.ix (.lst (.cons (.tup (.cons (.con (.int 1)) (.cons (.con (.int 1)) .nil))) (.cons (.tup (.cons (.con (.int 26)) (.cons (.con (.int 4)) .nil))) (.cons (.tup (.cons (.con (.int 2)) (.cons (.con (.int 99)) .nil))) (.cons (.tup (.cons (.con (.int 3)) (.cons (.con (.int 12)) .nil))) .nil))))) (.bin .Mod (.bin .FloorDiv (.var 0) (.con (.int 5))) (.con (.int 4))))) (.cons (.ret (.tup (.cons (.var 1) (.cons (.var 2) (.cons (.bin .Add (.con (.int 1)) (.bin .Mod (.bin .FloorDiv (.var 0) (.con (.int 80))) (.con (.int 20)))) .nil))))) .nil)) .nil) (.cons (.ret (.tup (.cons (.bin .Add (.con (.int 1)) (.bin .Mod (.bin .FloorDiv (.var 0) (.con (.int 5))) (.con (.int 4)))) (.cons (.bin .Add (.con (.int 1)) (.bin .Mod (.bin .FloorDiv (.var 0) (.con (.int 20))) (.con (.int 5)))) (.cons (.bin .Add (.con (.int 1)) (.bin .Mod (.bin .FloorDiv (.var 0) (.con (.int 100))) (.con (.int 20)))) .nil))))) .nil))
noncomputable def amH(K:Fg)(A:aV):SI:=⟨["_law_cell","_law_wide","_law_long"],[ak,ak,ak],[ak,ak,ak],[ao,ao,ao],[],[],ak⟩
noncomputable def yN(K:Fg)(A:aV)(ex:aL->aO):aZ :=
  (bJ 1 (aD bB (aB 1) (aD bN (aG (.str "abcdefghijklmnopqrstuvwxyz")) (aD bA (aQ (aX K A) ex (aA (aB 0) (aA (aD bB (aG (.int 30)) (aB 2)) aC))) (aG (.int 26))))))
noncomputable def a0D(K:Fg)(A:aV)(ex:aL->aO):aZ :=
  (aU (bL (aA (aB 1) (aA (aD bB (aD bB (cF (aB 1) bV (cY (aB 3))) (aD bN (aB 5) (aB 4))) (cF (aB 1) (cY (aB 3)) bV)) (aA (aD bB (aD bB (aD bN (aB 5) (aB 4)) (aB 1)) (aD bN (aB 5) (aB 4))) aC)))))
noncomputable def a0E(K:Fg)(A:aV)(ex:aL->aO):aZ :=
  aH (bF (aK (aD dF (aD bA (aD bI (aB 0) (aG (.int 90))) (aG (.int 2))) (aG (.int 0)))) (ar8 2 (aU (a6Z (wY (aA (aG (.int 3)) aC)) pD (aD bB (aD bB (cF (aB 2) bV (cY (aB 4))) (aD bN (aB 6) (aD bA (aD bB (aB 5) (aB 0)) (aG (.int 26))))) (cF (aB 2) (cY (aB 4)) bV))))) aN) (a0D K A ex)
noncomputable def a0F(K:Fg)(A:aV)(ex:aL->aO):aZ :=
  aH (bJ 5 (aG (.str "abcdefghijklmnopqrstuvwxyz"))) (a0E K A ex)
noncomputable def a0G(K:Fg)(A:aV)(ex:aL->aO):aZ :=
  aH (bJ 4 (aD bA (aQ (aX K A) ex (aA (aB 0) (aA (aG (.int 40)) aC))) (aG (.int 26)))) (a0F K A ex)
noncomputable def a0H(K:Fg)(A:aV)(ex:aL->aO):aZ :=
  aH (bJ 3 (aD bA (aD bI (aB 0) (aG (.int 9))) (aD bB (aG (.int 1)) (bR fO (aA (aB 1) aC))))) (a0G K A ex)
noncomputable def a0I(K:Fg)(A:aV)(ex:aL->aO):aZ :=
  aH (a3V (wY (aA (aD bB (aG (.int 1)) (aD bA (aB 0) (aG (.int 9)))) aC)) (a70 2) (yN K A ex)) (a0H K A ex)
noncomputable def xH(K:Fg)(A:aV)(ex:aL->aO):aZ :=
  aH (bJ 1 (aG (.str ""))) (a0I K A ex)
noncomputable def oR(K:Fg)(A:aV):mR:=uD 6 1 λEX=>xH K A (λ_=>EX)
noncomputable def aiS:CB:=(.cons (.set 1 (.con (.str ""))) (.cons (.aoS (.aiM (.bin .Add (.con (.int 1)) (.bin .Mod (.var 0) (.con (.int 9))))) (.nm 2) (.cons (.set 1 (.bin .Add (.var 1) (.ix (.con (.str "abcdefghijklmnopqrstuvwxyz")) (.bin .Mod (.call 1 (.cons (.var 0) (.cons (.bin .Add (.con (.int 30)) (.var 2)) .nil))) (.con (.int 26)))))) .nil)) (.cons (.set 3 (.bin .Mod (.bin .FloorDiv (.var 0) (.con (.int 9))) (.bin .Add (.con (.int 1)) (.call 2 (.cons (.var 1) .nil))))) (.cons (.set 4 (.bin .Mod (.call 1 (.cons (.var 0) (.cons (.con (.int 40)) .nil))) (.con (.int 26)))) (.cons (.set 5 (.con (.str "abcdefghijklmnopqrstuvwxyz"))) (.cons (.ifs (.cmp .Eq (.bin .Mod (.bin .FloorDiv (.var 0) (.con (.int 90))) (.con (.int 2))) (.con (.int 0))) (.cons (.hid 2 "-" (.ret (.comp [ao,ak,ao,ak,ak,ak] [ao,ao,ao] (.aiM (.con (.int 3))) .none (.bin .Add (.bin .Add (.sl (.var 2) .none (.some (.var 4))) (.ix (.var 6) (.bin .Mod (.bin .Add (.var 5) (.var 0)) (.con (.int 26))))) (.sl (.var 2) (.some (.var 4)) .none))))) .nil) .nil) (.cons (.ret (.lst (.cons (.var 1) (.cons (.bin .Add (.bin .Add (.sl (.var 1) .none (.some (.var 3))) (.ix (.var 5) (.var 4))) (.sl (.var 1) (.some (.var 3)) .none)) (.cons (.bin .Add (.bin .Add (.ix (.var 5) (.var 4)) (.var 1)) (.ix (.var 5) (.var 4))) .nil))))) .nil)))))))
noncomputable def aiT(K:Fg)(A:aV):SI:=⟨["_law_cell","_law_root","_law_k","_law_at","_law_sign","_law_signs"],[ak,ak,ak,ak,ak,ak],[ak,ao,ak,ao,ao,ao],[ao,ak,ao,ak,ak,ak],[("range",.bt "range"),("_law_mix",.fn (aX K A) 2 ao),("len",.bf .len)],[ak,ak,ak],ak⟩
noncomputable def a2X(K:Fg)(A:aV)(ex:aL->aO):aZ :=
  (aU (dO (aA (aD bA (aD bI (aB 1) (aG (.int 23))) (aD bN (aB 0) (aG (.int 0)))) (aA (aD bB (aG (.int 1)) (aD bA (aD bI (aB 1) (aG (.int 1009))) (aD bN (aB 0) (aG (.int 1))))) aC))))
noncomputable def a2Y(K:Fg)(A:aV)(ex:aL->aO):aZ :=
  aH (bF (aK (aD acA (aD bA (aB 1) (aG (.int 23))) (aG (.int 9)))) (aU (aD bN (bL (aA (dO (aA (aG (.int 0)) (aA (aG (.int 1)) aC))) (aA (dO (aA (aD a2L (aD bN (aB 0) (aG (.int 0))) (aG (.int 1))) (aA (aD bN (aB 0) (aG (.int 1))) aC))) (aA (dO (aA (aG (.int 0)) (aA (aD bN (aB 0) (aG (.int 1))) aC))) aC)))) (aD bA (aD bI (aB 1) (aG (.int 23))) (aG (.int 3))))) aN) (a2X K A ex)
noncomputable def a0J(K:Fg)(A:aV)(ex:aL->aO):aZ :=
  aH (bF (aK (aD dF (aD bA (aB 1) (aG (.int 23))) (aG (.int 1)))) (aU (dO (aA (aD bA (aD bI (aB 1) (aG (.int 23))) (aG (.int 26))) (aA (aD bB (aG (.int 1)) (aD bA (aD bI (aB 1) (aG (.int 598))) (aG (.int 99)))) aC)))) aN) (a2Y K A ex)
noncomputable def lJ(K:Fg)(A:aV):mR:=uD 2 2 λEX=>a0J K A (λ_=>EX)
noncomputable def amI:CB:=(.cons (.ifs (.cmp .Eq (.bin .Mod (.var 1) (.con (.int 23))) (.con (.int 1))) (.cons (.ret (.tup (.cons (.bin .Mod (.bin .FloorDiv (.var 1) (.con (.int 23))) (.con (.int 26))) (.cons (.bin .Add (.con (.int 1)) (.bin .Mod (.bin .FloorDiv (.var 1) (.con (.int 598))) (.con (.int 99)))) .nil)))) .nil) .nil) (.cons (.ifs (.cmp .Lt (.bin .Mod (.var 1) (.con (.int 23))) (.con (.int 9))) (.cons (.ret (.ix (.lst (.cons (.tup (.cons (.con (.int 0)) (.cons (.con (.int 1)) .nil))) (.cons (.tup (.cons (.bin .Sub (.ix (.var 0) (.con (.int 0))) (.con (.int 1))) (.cons (.ix (.var 0) (.con (.int 1))) .nil))) (.cons (.tup (.cons (.con (.int 0)) (.cons (.ix (.var 0) (.con (.int 1))) .nil))) .nil)))) (.bin .Mod (.bin .FloorDiv (.var 1) (.con (.int 23))) (.con (.int 3))))) .nil) .nil) (.cons (.ret (.tup (.cons (.bin .Mod (.bin .FloorDiv (.var 1) (.con (.int 23))) (.ix (.var 0) (.con (.int 0)))) (.cons (.bin .Add (.con (.int 1)) (.bin .Mod (.bin .FloorDiv (.var 1) (.con (.int 1009))) (.ix (.var 0) (.con (.int 1))))) .nil)))) .nil)))
noncomputable def amJ(K:Fg)(A:aV):SI:=⟨["_law_plan_here","_law_cell"],[ak,ak],[ak,ak],[ao,ao],[],[],ak⟩
noncomputable def v7(K:Fg)(A:aV)(ex:aL->aO):aZ :=
  (aU (tM3 "str" jK (aG (.str " ")) (aA (aB 4) aC)))
noncomputable def v8(K:Fg)(A:aV)(ex:aL->aO):aZ :=
  aH (bF (aK (aD dF (aD bA (aD bI (aB 0) (aG (.int 180))) (aG (.int 11))) (aG (.int 1)))) (bJ 4 (aD bN (bL (aA (aD bB (aB 4) (bL (aA (aD bN (aB 4) (aG (.int 0))) aC))) (aA (bL (aA (aG (.str "dew")) aC)) (aA (aD bB (aB 4) (bL (aA (aD bB (aG (.str "-")) (aD bN (aB 3) (aG (.int 0)))) aC))) (aA (bL (aA (aG (.str "--due")) aC)) aC))))) (aD bA (aD bI (aB 0) (aG (.int 1980))) (aG (.int 4))))) aN) (v7 K A ex)
noncomputable def oU(K:Fg)(A:aV)(ex:aL->aO):aZ :=
  aH (bJ 4 (ab0 2 (a73 (aA (aB 3) aC)) pD (aD bB (aD bN (bL (aA (aG (.str "")) (aA (aG (.str "-")) aC))) (aD bA (aQ (aX K A) NoX (aA (aB 2) (aA (aD bB (aG (.int 50)) (aB 0)) aC))) (aG (.int 2)))) (aB 1)))) (v8 K A ex)
noncomputable def a2Z(K:Fg)(A:aV)(ex:aL->aO):aZ :=
  aH (bF (aK (aD dF (aD bA (aD bI (aB 0) (aG (.int 36))) (aG (.int 5))) (aG (.int 1)))) (bJ 3 (aB 1)) aN) (oU K A ex)
noncomputable def v9(K:Fg)(A:aV)(ex:aL->aO):aZ :=
  aH (bJ 3 (cF (aB 1) bV (cY (aD bB (aG (.int 1)) (aD bA (aD bI (aB 0) (aG (.int 12))) (aG (.int 3))))))) (a2Z K A ex)
noncomputable def a3A(K:Fg)(A:aV)(ex:aL->aO):aZ :=
  aH (bF (aK (aD dF (aD bA (aD bI (aB 0) (aG (.int 6))) (aG (.int 2))) (aG (.int 1)))) (bJ 1 (ar7 (aB 1) (cY (aqS (aG (.int 1)))))) aN) (v9 K A ex)
noncomputable def a3B(K:Fg)(A:aV)(ex:aL->aO):aZ :=
  aH (bJ 1 (aD bB (cF (aB 1) (cY (aB 2)) bV) (cF (aB 1) bV (cY (aB 2))))) (a3A K A ex)
noncomputable def a3C(K:Fg)(A:aV)(ex:aL->aO):aZ :=
  aH (bJ 2 (aD bA (aB 0) (aG (.int 6)))) (a3B K A ex)
noncomputable def a0K(K:Fg)(A:aV)(ex:aL->aO):aZ :=
  aH (bJ 1 (bL (aA (aG (.str "due")) (aA (aG (.str "came")) (aA (aG (.str "amount")) (aA (aG (.str "aisle")) (aA (aG (.str "place")) (aA (aG (.str "lot")) aC)))))))) (a3C K A ex)
noncomputable def iM(K:Fg)(A:aV):mR:=uD 5 1 λEX=>a0K K A (λ_=>EX)
noncomputable def amK:CB:=(.cons (.set 1 (.lst (.cons (.con (.str "due")) (.cons (.con (.str "came")) (.cons (.con (.str "amount")) (.cons (.con (.str "aisle")) (.cons (.con (.str "place")) (.cons (.con (.str "lot")) .nil)))))))) (.cons (.set 2 (.bin .Mod (.var 0) (.con (.int 6)))) (.cons (.set 1 (.bin .Add (.sl (.var 1) (.some (.var 2)) .none) (.sl (.var 1) .none (.some (.var 2))))) (.cons (.ifs (.cmp .Eq (.bin .Mod (.bin .FloorDiv (.var 0) (.con (.int 6))) (.con (.int 2))) (.con (.int 1))) (.cons (.set 1 (.rev (.var 1) (.neg (.con (.int 1))))) .nil) .nil) (.cons (.set 3 (.sl (.var 1) .none (.some (.bin .Add (.con (.int 1)) (.bin .Mod (.bin .FloorDiv (.var 0) (.con (.int 12))) (.con (.int 3))))))) (.cons (.ifs (.cmp .Eq (.bin .Mod (.bin .FloorDiv (.var 0) (.con (.int 36))) (.con (.int 5))) (.con (.int 1))) (.cons (.set 3 (.var 1)) .nil) .nil) (.cons (.arH 4 2 [ak,ao,ao,ao,ao] [ao,ak] (.enu (.var 3)) .none (.bin .Add (.ix (.lst (.cons (.con (.str "")) (.cons (.con (.str "-")) .nil))) (.bin .Mod (.call 1 (.cons (.var 2) (.cons (.bin .Add (.con (.int 50)) (.var 0)) .nil))) (.con (.int 2)))) (.var 1))) (.cons (.ifs (.cmp .Eq (.bin .Mod (.bin .FloorDiv (.var 0) (.con (.int 180))) (.con (.int 11))) (.con (.int 1))) (.cons (.set 4 (.ix (.lst (.cons (.bin .Add (.var 4) (.lst (.cons (.ix (.var 4) (.con (.int 0))) .nil))) (.cons (.lst (.cons (.con (.str "dew")) .nil)) (.cons (.bin .Add (.var 4) (.lst (.cons (.bin .Add (.con (.str "-")) (.ix (.var 3) (.con (.int 0)))) .nil))) (.cons (.lst (.cons (.con (.str "--due")) .nil)) .nil))))) (.bin .Mod (.bin .FloorDiv (.var 0) (.con (.int 1980))) (.con (.int 4))))) .nil) .nil) (.cons (.ret (.meth .join (.con (.str " ")) (.cons (.var 4) .nil))) .nil)))))))))
noncomputable def amL(K:Fg)(A:aV):SI:=⟨["_law_cell","_law_names","_law_turn","_law_some","_law_words"],[ak,ak,ak,ak,ak],[ao,ak,ak,ak,ak],[ak,ao,ao,ao,ao],[("enumerate",.bt "enumerate"),("_law_mix",.fn (aX K A) 2 ao)],[ak,ao],ak⟩
noncomputable def yO(K:Fg)(A:aV)(ex:aL->aO):aZ :=
  (aU (aD bA (aD bI (aB 0) (aG (.int 4))) (aD bB (aB 1) (aG (.int 1)))))
noncomputable def vA(K:Fg)(A:aV)(ex:aL->aO):aZ :=
  aH (bF (aK (aD dF (aD bA (aB 0) (aG (.int 4))) (aG (.int 0)))) (aU (aD bN (bL (aA (aG (.int 0)) (aA (aG (.int 1)) (aA (aB 1) (aA (aD bB (aB 1) (aG (.int 1))) aC))))) (aD bA (aD bI (aB 0) (aG (.int 4))) (aG (.int 4))))) aN) (yO K A ex)
noncomputable def gU(K:Fg)(A:aV):mR:=uD 2 2 λEX=>vA K A (λ_=>EX)
noncomputable def afJ:CB:=(.cons (.ifs (.cmp .Eq (.bin .Mod (.var 0) (.con (.int 4))) (.con (.int 0))) (.cons (.ret (.ix (.lst (.cons (.con (.int 0)) (.cons (.con (.int 1)) (.cons (.var 1) (.cons (.bin .Add (.var 1) (.con (.int 1))) .nil))))) (.bin .Mod (.bin .FloorDiv (.var 0) (.con (.int 4))) (.con (.int 4))))) .nil) .nil) (.cons (.ret (.bin .Mod (.bin .FloorDiv (.var 0) (.con (.int 4))) (.bin .Add (.var 1) (.con (.int 1))))) .nil))
noncomputable def afK(K:Fg)(A:aV):SI:=⟨["_law_cell","_law_most"],[ak,ak],[ak,ak],[ao,ao],[],[],ak⟩
noncomputable def yP(K:Fg)(A:aV)(ex:aL->aO):aZ :=
  (aU (aD bB (aG (.int 1)) (aD bA (aD bI (aB 0) (aG (.int 8))) (bR aiI (aA (aB 1) (aA (aG (.int 12)) aC))))))
noncomputable def vB(K:Fg)(A:aV)(ex:aL->aO):aZ :=
  aH (bF (aK (aD dF (aD bA (aB 0) (aG (.int 8))) (aG (.int 1)))) (aU (aD bN (bL (aA (aG (.int 0)) (aA (aB 1) (aA (aD bB (aB 1) (aG (.int 1))) (aA (aD agO (aG (.int 10)) (aG (.int 6))) (aA (aD bB (aD agO (aG (.int 10)) (aG (.int 6))) (aG (.int 1))) (aA (aG (.int 9999999)) aC))))))) (aD bA (aD bI (aB 0) (aG (.int 8))) (aG (.int 6))))) aN) (yP K A ex)
noncomputable def lK(K:Fg)(A:aV):mR:=uD 2 2 λEX=>vB K A (λ_=>EX)
noncomputable def afL:CB:=(.cons (.ifs (.cmp .Eq (.bin .Mod (.var 0) (.con (.int 8))) (.con (.int 1))) (.cons (.ret (.ix (.lst (.cons (.con (.int 0)) (.cons (.var 1) (.cons (.bin .Add (.var 1) (.con (.int 1))) (.cons (.bin .Pow (.con (.int 10)) (.con (.int 6))) (.cons (.bin .Add (.bin .Pow (.con (.int 10)) (.con (.int 6))) (.con (.int 1))) (.cons (.con (.int 9999999)) .nil))))))) (.bin .Mod (.bin .FloorDiv (.var 0) (.con (.int 8))) (.con (.int 6))))) .nil) .nil) (.cons (.ret (.bin .Add (.con (.int 1)) (.bin .Mod (.bin .FloorDiv (.var 0) (.con (.int 8))) (.call 0 (.cons (.var 1) (.cons (.con (.int 12)) .nil)))))) .nil))
noncomputable def afM(K:Fg)(A:aV):SI:=⟨["_law_cell","_law_room"],[ak,ak],[ak,ak],[ao,ao],[("min",.bf .min)],[ak],ak⟩
noncomputable def a0L(K:Fg)(A:aV)(ex:aL->aO):aZ :=
  (aU (dO (aA (aG (.str "of")) (aA (bL (aA (aB 9) aC)) aC))))
noncomputable def a0M(K:Fg)(A:aV)(ex:aL->aO):aZ :=
  aH (bF (aK (aD dF (aB 7) (aG (.int 22)))) (aU (dO (aA (aG (.str "in")) (aA (bL (aA (aB 10) aC)) aC)))) aN) (a0L K A ex)
noncomputable def a0N(K:Fg)(A:aV)(ex:aL->aO):aZ :=
  aH (bF (aK (aD dF (aB 7) (aG (.int 21)))) (aU (dO (aA (aG (.str "walk")) (aA (bL (aA (aQ (iM K A) ex (aA (aQ (aX K A) ex (aA (aB 0) (aA (aG (.int 8)) aC))) aC)) aC)) aC)))) aN) (a0M K A ex)
noncomputable def a0O(K:Fg)(A:aV)(ex:aL->aO):aZ :=
  aH (bF (aK (aD dF (aB 7) (aG (.int 20)))) (aU (dO (aA (aG (.str "wave")) (aA (bL (aA (aQ (iM K A) ex (aA (aQ (aX K A) ex (aA (aB 0) (aA (aG (.int 8)) aC))) aC)) aC)) aC)))) aN) (a0N K A ex)
noncomputable def a0P(K:Fg)(A:aV)(ex:aL->aO):aZ :=
  aH (bF (aK (aD dF (aB 7) (aG (.int 19)))) (aU (dO (aA (aG (.str "keep")) (aA (bL (aA (aB 14) (aA (aQ (iM K A) ex (aA (aQ (aX K A) ex (aA (aB 0) (aA (aG (.int 8)) aC))) aC)) aC))) aC)))) aN) (a0O K A ex)
noncomputable def a0Q(K:Fg)(A:aV)(ex:aL->aO):aZ :=
  aH (bF (aK (aD dF (aB 7) (aG (.int 18)))) (aU (dO (aA (aG (.str "free")) (aA (bL (aA (aB 9) (aA (aB 13) aC))) aC)))) aN) (a0P K A ex)
noncomputable def a0R(K:Fg)(A:aV)(ex:aL->aO):aZ :=
  aH (bF (aK (aD dF (aB 7) (aG (.int 17)))) (aU (aD bN (bL (aA (dO (aA (aG (.str "drop")) (aA (bL (aA (aB 14) aC)) aC))) (aA (dO (aA (aG (.str "free")) (aA (bL (aA (aB 9) (aA (aB 13) aC))) aC))) aC))) (aD bA (aD bI (aB 8) (aG (.int 261))) (aG (.int 2))))) aN) (a0Q K A ex)
noncomputable def a0S(K:Fg)(A:aV)(ex:aL->aO):aZ :=
  aH (bF (aK (aD acA (aB 7) (aG (.int 17)))) (aU (dO (aA (aG (.str "promise")) (aA (bL (aA (aB 9) (aA (aB 11) (aA (aB 13) aC)))) aC)))) aN) (a0R K A ex)
noncomputable def a0T(K:Fg)(A:aV)(ex:aL->aO):aZ :=
  aH (bF (aK (aD dF (aB 7) (aG (.int 12)))) (aU (dO (aA (aG (.str "day")) (aA (bL aC) aC)))) aN) (a0S K A ex)
noncomputable def a0U(K:Fg)(A:aV)(ex:aL->aO):aZ :=
  aH (bF (aK (aD dF (aB 7) (aG (.int 11)))) (aU (dO (aA (aG (.str "count")) (aA (bL (aA (aB 12) (aA (aB 10) (aA (aD qY (aD bA (aB 11) (aG (.int 13))) (aD bA (aD bA (aD bI (aB 8) (aG (.int 261))) (aG (.int 3))) (aG (.int 2)))) aC)))) aC)))) aN) (a0T K A ex)
noncomputable def a0V(K:Fg)(A:aV)(ex:aL->aO):aZ :=
  aH (bF (aK (aD acA (aB 7) (aG (.int 11)))) (aU (dO (aA (aG (.str "move")) (aA (bL (aA (aB 12) (aA (aB 10) (aA (aQ (lJ K A) ex (aA (aB 1) (aA (aQ (aX K A) ex (aA (aB 0) (aA (aG (.int 7)) aC))) aC))) (aA (aB 11) aC))))) aC)))) aN) (a0U K A ex)
noncomputable def a0W(K:Fg)(A:aV)(ex:aL->aO):aZ :=
  aH (bF (aK (aD acA (aB 7) (aG (.int 9)))) (aU (dO (aA (aG (.str "go")) (aA (bL (aA (aB 12) (aA (aB 10) (aA (aB 11) aC)))) aC)))) aN) (a0V K A ex)
noncomputable def sV(K:Fg)(A:aV)(ex:aL->aO):aZ :=
  aH (bF (aK (aD acA (aB 7) (aG (.int 7)))) (aU (dO (aA (aG (.str "come")) (aA (bL (aA (aB 9) (aA (aB 13) (aA (aB 10) (aA (aB 11) aC))))) aC)))) aN) (a0W K A ex)
noncomputable def sW(K:Fg)(A:aV)(ex:aL->aO):aZ :=
  aH (bJ 14 (aQ (gU K A) ex (aA (aQ (aX K A) ex (aA (aB 0) (aA (aG (.int 6)) aC))) (aA (bR a72 (aA (aG (.int 0)) (aA (aD a2L (aB 5) (aG (.int 1))) aC))) aC)))) (sV K A ex)
noncomputable def a3D(K:Fg)(A:aV)(ex:aL->aO):aZ :=
  aH (bF (aK (aD dF (aD bA (aD bI (aQ (aX K A) ex (aA (aB 0) (aA (aG (.int 5)) aC))) (aG (.int 5))) (aG (.int 13))) (aG (.int 1)))) (bJ 13 (aD bN (bL (aA (aG (.int 0)) (aA (aG (.int 9999)) (aA (aG (.int 10000)) (aA (bR a72 (aA (aG (.int 0)) (aA (aD a2L (aB 6) (aG (.int 1))) aC))) aC))))) (aD bA (aD bI (aQ (aX K A) ex (aA (aB 0) (aA (aG (.int 5)) aC))) (aG (.int 65))) (aG (.int 4))))) aN) (sW K A ex)
noncomputable def a3E(K:Fg)(A:aV)(ex:aL->aO):aZ :=
  aH (bJ 13 (aD bB (aB 6) (aD bA (aQ (aX K A) ex (aA (aB 0) (aA (aG (.int 5)) aC))) (aG (.int 5))))) (a3D K A ex)
noncomputable def a3F(K:Fg)(A:aV)(ex:aL->aO):aZ :=
  aH (bJ 12 (aQ (gU K A) ex (aA (aQ (aX K A) ex (aA (aB 0) (aA (aG (.int 4)) aC))) (aA (bR a72 (aA (aG (.int 0)) (aA (aD a2L (aB 4) (aG (.int 1))) aC))) aC)))) (a3E K A ex)
noncomputable def a3G(K:Fg)(A:aV)(ex:aL->aO):aZ :=
  aH (bJ 11 (aQ (lK K A) ex (aA (aQ (aX K A) ex (aA (aB 0) (aA (aG (.int 3)) aC))) (aA (aB 2) aC)))) (a3F K A ex)
noncomputable def oV(K:Fg)(A:aV)(ex:aL->aO):aZ :=
  aH (bJ 10 (aQ (lJ K A) ex (aA (aB 1) (aA (aQ (aX K A) ex (aA (aB 0) (aA (aG (.int 2)) aC))) aC)))) (a3G K A ex)
noncomputable def a3H(K:Fg)(A:aV)(ex:aL->aO):aZ :=
  aH (bF (aK (aD dF (aD bA (aD bI (aB 8) (aG (.int 3))) (aG (.int 29))) (aG (.int 1)))) (bJ 9 (aD bN (bL (aA (aG (.str "a1")) (aA (aD a87 (aG (.str "x")) (aG (.int 13))) (aA (aG (.str "a.b")) aC)))) (aD bA (aD bI (aB 8) (aG (.int 87))) (aG (.int 3))))) aN) (oV K A ex)
noncomputable def a3I(K:Fg)(A:aV)(ex:aL->aO):aZ :=
  aH (bJ 9 (aD bN (aB 3) (aD bA (aB 8) (aG (.int 3))))) (a3H K A ex)
noncomputable def a3J(K:Fg)(A:aV)(ex:aL->aO):aZ :=
  aH (bJ 8 (aQ (aX K A) ex (aA (aB 0) (aA (aG (.int 1)) aC)))) (a3I K A ex)
noncomputable def a0X(K:Fg)(A:aV)(ex:aL->aO):aZ :=
  aH (bJ 7 (aD bA (aB 0) (aG (.int 24)))) (a3J K A ex)
noncomputable def rH(K:Fg)(A:aV):mR:=uD 15 7 λEX=>a0X K A (λ_=>EX)
noncomputable def amM:CB:=(.cons (.set 7 (.bin .Mod (.var 0) (.con (.int 24)))) (.cons (.set 8 (.call 0 (.cons (.var 0) (.cons (.con (.int 1)) .nil)))) (.cons (.set 9 (.ix (.var 3) (.bin .Mod (.var 8) (.con (.int 3))))) (.cons (.ifs (.cmp .Eq (.bin .Mod (.bin .FloorDiv (.var 8) (.con (.int 3))) (.con (.int 29))) (.con (.int 1))) (.cons (.set 9 (.ix (.lst (.cons (.con (.str "a1")) (.cons (.smul (.con (.str "x")) (.con (.int 13))) (.cons (.con (.str "a.b")) .nil)))) (.bin .Mod (.bin .FloorDiv (.var 8) (.con (.int 87))) (.con (.int 3))))) .nil) .nil) (.cons (.set 10 (.call 1 (.cons (.var 1) (.cons (.call 0 (.cons (.var 0) (.cons (.con (.int 2)) .nil))) .nil)))) (.cons (.set 11 (.call 2 (.cons (.call 0 (.cons (.var 0) (.cons (.con (.int 3)) .nil))) (.cons (.var 2) .nil)))) (.cons (.set 12 (.call 4 (.cons (.call 0 (.cons (.var 0) (.cons (.con (.int 4)) .nil))) (.cons (.call 3 (.cons (.con (.int 0)) (.cons (.bin .Sub (.var 4) (.con (.int 1))) .nil))) .nil)))) (.cons (.set 13 (.bin .Add (.var 6) (.bin .Mod (.call 0 (.cons (.var 0) (.cons (.con (.int 5)) .nil))) (.con (.int 5))))) (.cons (.ifs (.cmp .Eq (.bin .Mod (.bin .FloorDiv (.call 0 (.cons (.var 0) (.cons (.con (.int 5)) .nil))) (.con (.int 5))) (.con (.int 13))) (.con (.int 1))) (.cons (.set 13 (.ix (.lst (.cons (.con (.int 0)) (.cons (.con (.int 9999)) (.cons (.con (.int 10000)) (.cons (.call 3 (.cons (.con (.int 0)) (.cons (.bin .Sub (.var 6) (.con (.int 1))) .nil))) .nil))))) (.bin .Mod (.bin .FloorDiv (.call 0 (.cons (.var 0) (.cons (.con (.int 5)) .nil))) (.con (.int 65))) (.con (.int 4))))) .nil) .nil) (.cons (.set 14 (.call 4 (.cons (.call 0 (.cons (.var 0) (.cons (.con (.int 6)) .nil))) (.cons (.call 3 (.cons (.con (.int 0)) (.cons (.bin .Sub (.var 5) (.con (.int 1))) .nil))) .nil)))) (.cons (.ifs (.cmp .Lt (.var 7) (.con (.int 7))) (.cons (.ret (.tup (.cons (.con (.str "come")) (.cons (.lst (.cons (.var 9) (.cons (.var 13) (.cons (.var 10) (.cons (.var 11) .nil))))) .nil)))) .nil) .nil) (.cons (.ifs (.cmp .Lt (.var 7) (.con (.int 9))) (.cons (.ret (.tup (.cons (.con (.str "go")) (.cons (.lst (.cons (.var 12) (.cons (.var 10) (.cons (.var 11) .nil)))) .nil)))) .nil) .nil) (.cons (.ifs (.cmp .Lt (.var 7) (.con (.int 11))) (.cons (.ret (.tup (.cons (.con (.str "move")) (.cons (.lst (.cons (.var 12) (.cons (.var 10) (.cons (.call 1 (.cons (.var 1) (.cons (.call 0 (.cons (.var 0) (.cons (.con (.int 7)) .nil))) .nil))) (.cons (.var 11) .nil))))) .nil)))) .nil) .nil) (.cons (.ifs (.cmp .Eq (.var 7) (.con (.int 11))) (.cons (.ret (.tup (.cons (.con (.str "count")) (.cons (.lst (.cons (.var 12) (.cons (.var 10) (.cons (.bin .Mult (.bin .Mod (.var 11) (.con (.int 13))) (.bin .Mod (.bin .Mod (.bin .FloorDiv (.var 8) (.con (.int 261))) (.con (.int 3))) (.con (.int 2)))) .nil)))) .nil)))) .nil) .nil) (.cons (.ifs (.cmp .Eq (.var 7) (.con (.int 12))) (.cons (.ret (.tup (.cons (.con (.str "day")) (.cons (.lst .nil) .nil)))) .nil) .nil) (.cons (.ifs (.cmp .Lt (.var 7) (.con (.int 17))) (.cons (.ret (.tup (.cons (.con (.str "promise")) (.cons (.lst (.cons (.var 9) (.cons (.var 11) (.cons (.var 13) .nil)))) .nil)))) .nil) .nil) (.cons (.ifs (.cmp .Eq (.var 7) (.con (.int 17))) (.cons (.ret (.ix (.lst (.cons (.tup (.cons (.con (.str "drop")) (.cons (.lst (.cons (.var 14) .nil)) .nil))) (.cons (.tup (.cons (.con (.str "free")) (.cons (.lst (.cons (.var 9) (.cons (.var 13) .nil))) .nil))) .nil))) (.bin .Mod (.bin .FloorDiv (.var 8) (.con (.int 261))) (.con (.int 2))))) .nil) .nil) (.cons (.ifs (.cmp .Eq (.var 7) (.con (.int 18))) (.cons (.ret (.tup (.cons (.con (.str "free")) (.cons (.lst (.cons (.var 9) (.cons (.var 13) .nil))) .nil)))) .nil) .nil) (.cons (.ifs (.cmp .Eq (.var 7) (.con (.int 19))) (.cons (.ret (.tup (.cons (.con (.str "keep")) (.cons (.lst (.cons (.var 14) (.cons (.call 5 (.cons (.call 0 (.cons (.var 0) (.cons (.con (.int 8)) .nil))) .nil)) .nil))) .nil)))) .nil) .nil) (.cons (.ifs (.cmp .Eq (.var 7) (.con (.int 20))) (.cons (.ret (.tup (.cons (.con (.str "wave")) (.cons (.lst (.cons (.call 5 (.cons (.call 0 (.cons (.var 0) (.cons (.con (.int 8)) .nil))) .nil)) .nil)) .nil)))) .nil) .nil) (.cons (.ifs (.cmp .Eq (.var 7) (.con (.int 21))) (.cons (.ret (.tup (.cons (.con (.str "walk")) (.cons (.lst (.cons (.call 5 (.cons (.call 0 (.cons (.var 0) (.cons (.con (.int 8)) .nil))) .nil)) .nil)) .nil)))) .nil) .nil) (.cons (.ifs (.cmp .Eq (.var 7) (.con (.int 22))) (.cons (.ret (.tup (.cons (.con (.str "in")) (.cons (.lst (.cons (.var 10) .nil)) .nil)))) .nil) .nil) (.cons (.ret (.tup (.cons (.con (.str "of")) (.cons (.lst (.cons (.var 9) .nil)) .nil)))) .nil)))))))))))))))))))))))
noncomputable def amN(K:Fg)(A:aV):SI:=⟨["_law_cell","_law_plan_here","_law_room","_law_wares_here","_law_lots","_law_asked","_law_today","_law_kind","_law_more","_law_ware","_law_spot_here","_law_amount_here","_law_lot","_law_day","_law_number_here"],[ak,ak,ak,ak,ak,ak,ak,ak,ak,ak,ak,ak,ak,ak,ak],[ak,ak,ak,ak,ak,ak,ak,ak,ak,ak,ak,ak,ak,ak,ak],[ao,ao,ao,ao,ao,ao,ao,ao,ao,ao,ao,ao,ao,ao,ao],[("_law_mix",.fn (aX K A) 2 ao),("_law_spot",.fn (lJ K A) 2 ao),("_law_amount",.fn (lK K A) 2 ao),("max",.bf .max),("_law_number",.fn (gU K A) 2 ao),("_law_rule",.fn (iM K A) 1 ao)],[ak,ak,ak,ak,ak,ak],ak⟩
noncomputable def vC(K:Fg)(A:aV)(ex:aL->aO):aZ :=
  (aU (aD bB (aD bN (aG (.str "ABCDEFGHIJKLMNOPQRSTUVWXYZ")) (aD bN (aB 0) (aG (.int 0)))) (aB 1)))
noncomputable def a3K(K:Fg)(A:aV)(ex:aL->aO):aZ :=
  aH (bF (aK (aD dF (bR fO (aA (aB 1) aC)) (aG (.int 1)))) (bJ 1 (aD bB (aG (.str "0")) (aB 1))) aN) (vC K A ex)
noncomputable def a0Y(K:Fg)(A:aV)(ex:aL->aO):aZ :=
  aH (bJ 1 (bR ah3 (aA (aD bN (aB 0) (aG (.int 1))) aC))) (a3K K A ex)
noncomputable def rJ(K:Fg)(A:aV):mR:=uD 2 1 λEX=>a0Y K A (λ_=>EX)
noncomputable def amO:CB:=(.cons (.set 1 (.call 0 (.cons (.ix (.var 0) (.con (.int 1))) .nil))) (.cons (.ifs (.cmp .Eq (.call 1 (.cons (.var 1) .nil)) (.con (.int 1))) (.cons (.set 1 (.bin .Add (.con (.str "0")) (.var 1))) .nil) .nil) (.cons (.ret (.bin .Add (.ix (.con (.str "ABCDEFGHIJKLMNOPQRSTUVWXYZ")) (.ix (.var 0) (.con (.int 0)))) (.var 1))) .nil)))
noncomputable def amP(K:Fg)(A:aV):SI:=⟨["_law_spot_here","_law_figures"],[ak,ak],[ak,ak],[ao,ao],[("str",.bt "str"),("len",.bf .len)],[ak,ak],ak⟩
noncomputable def qZ(K:Fg)(A:aV)(ex:aL->aO):aZ :=
  (aU (aB 0))
noncomputable def rA(K:Fg)(A:aV)(ex:aL->aO):aZ :=
  aH (bF (aK (aD dF (aD bA (aB 1) (aG (.int 4))) (aG (.int 2)))) (aU (aiB "str" aaX (aB 0))) aN) (qZ K A ex)
noncomputable def rB(K:Fg)(A:aV)(ex:aL->aO):aZ :=
  aH (bF (aK (aD dF (aD bA (aB 1) (aG (.int 4))) (aG (.int 1)))) (aU (aD bB (aiB "str" a1V (cF (aB 0) bV (cY (aG (.int 1))))) (cF (aB 0) (cY (aG (.int 1))) bV))) aN) (rA K A ex)
noncomputable def lM(K:Fg)(A:aV)(ex:aL->aO):aZ :=
  aH (bF (aK (aD dF (aD bA (aB 1) (aG (.int 4))) (aG (.int 0)))) (aU (aiB "str" a1V (aB 0))) aN) (rB K A ex)
noncomputable def fJ(K:Fg)(A:aV):mR:=uD 2 2 λEX=>lM K A (λ_=>EX)
noncomputable def a5T:CB:=(.cons (.ifs (.cmp .Eq (.bin .Mod (.var 1) (.con (.int 4))) (.con (.int 0))) (.cons (.ret (.meth .upper (.var 0) .nil)) .nil) .nil) (.cons (.ifs (.cmp .Eq (.bin .Mod (.var 1) (.con (.int 4))) (.con (.int 1))) (.cons (.ret (.bin .Add (.meth .upper (.sl (.var 0) .none (.some (.con (.int 1)))) .nil) (.sl (.var 0) (.some (.con (.int 1))) .none))) .nil) .nil) (.cons (.ifs (.cmp .Eq (.bin .Mod (.var 1) (.con (.int 4))) (.con (.int 2))) (.cons (.ret (.meth .lower (.var 0) .nil)) .nil) .nil) (.cons (.ret (.var 0)) .nil))))
noncomputable def a5U(K:Fg)(A:aV):SI:=⟨["_law_text","_law_cell"],[ak,ak],[ak,ak],[ao,ao],[],[],ak⟩
noncomputable def cN(K:Fg)(A:aV)(ex:aL->aO):aZ :=
  (bF (aK (bR (cM K) (aA (aB 3) (aA (aG (.ty "tuple")) aC)))) (a3S (tM3 "list" vU (aB 2) (aA (aQ (rJ K A) ex (aA (aB 3) aC)) aC))) (bF (aK (bR (cM K) (aA (aB 3) (aA (aG (.ty "int")) aC)))) (a3S (tM3 "list" vU (aB 2) (aA (aD bB (aD a87 (aG (.str "0")) (aD qY (aD bA (aD bI (aB 1) (aG (.int 7))) (aG (.int 3))) (bR a3W (aA (aD acA (aB 3) (aG (.int 10000))) aC)))) (bR ah3 (aA (aB 3) aC))) aC))) (bJ 2 (aD bB (aB 2) (tM3 "str" a1T (aB 3) (aA (aG (.str " ")) aC))))))
noncomputable def rC(K:Fg)(A:aV)(ex:aL->aO):aZ :=
  (bJ 4 (aD bB (aD bB (aB 4) (aQ (fJ K A) ex (aA (aB 6) (aA (aQ (aX K A) ex (aA (aB 1) (aA (aD bB (aG (.int 20)) (aB 5)) aC))) aC)))) (aB 7)))
noncomputable def lN(K:Fg)(A:aV)(ex:aL->aO):aZ :=
  aH (bJ 7 (aD a87 (aG (.str " ")) (aD bB (aG (.int 1)) (aD bI (aD bA (aQ (aX K A) ex (aA (aB 1) (aA (aB 5) aC))) (aG (.int 5))) (aG (.int 3)))))) (rC K A ex)
noncomputable def wB(K:Fg)(A:aV)(ex:aL->aO):aZ :=
  (aU (aB 4))
noncomputable def wC(K:Fg)(A:aV)(ex:aL->aO):aZ :=
  aH (bF (aK (aD dF (aD bA (aD bI (aB 1) (aG (.int 126))) (aG (.int 2))) (aG (.int 0)))) (aU (cF (aB 4) bV (cY (aD a2L (bR fO (aA (aB 4) aC)) (aG (.int 1)))))) aN) (wB K A ex)
noncomputable def iQ(K:Fg)(A:aV)(ex:aL->aO):aZ :=
  aH (a3V (a73 (aA (aB 2) aC)) (acO [5,6]) (lN K A ex)) (wC K A ex)
noncomputable def nH(K:Fg)(A:aV)(ex:aL->aO):aZ :=
  aH (bJ 4 (aD a87 (aD bN (bL (aA (aG (.str " ")) (aA (aG (.str "  ")) (aA (aG (.str "   ")) aC)))) (aD bA (aD bI (aB 1) (aG (.int 21))) (aG (.int 3)))) (aD bA (aD bI (aB 1) (aG (.int 63))) (aG (.int 2))))) (iQ K A ex)
noncomputable def nJ(K:Fg)(A:aV)(ex:aL->aO):aZ :=
  aH (a3V (aCM (aD bN (aB 0) (aG (.int 1)))) (a70 3) (cN K A ex)) (nH K A ex)
noncomputable def sX(K:Fg)(A:aV)(ex:aL->aO):aZ :=
  aH (bJ 2 (bL (aA (aD bN (aB 0) (aG (.int 0))) aC))) (nJ K A ex)
noncomputable def dW(K:Fg)(A:aV):mR:=uD 8 2 λEX=>sX K A (λ_=>EX)
noncomputable def ad8:CB:=(.cons (.set 2 (.lst (.cons (.ix (.var 0) (.con (.int 0))) .nil))) (.cons (.aoS (.any (.ix (.var 0) (.con (.int 1)))) (.nm 3) (.cons (.ifs (.val (.call 1 (.cons (.var 3) (.cons (.glo 0) .nil)))) (.cons (.expr (.meth .append (.var 2) (.cons (.call 2 (.cons (.var 3) .nil)) .nil))) .nil) (.cons (.ifs (.val (.call 1 (.cons (.var 3) (.cons (.glo 3) .nil)))) (.cons (.expr (.meth .append (.var 2) (.cons (.bin .Add (.smul (.con (.str "0")) (.bin .Mult (.bin .Mod (.bin .FloorDiv (.var 1) (.con (.int 7))) (.con (.int 3))) (.call 3 (.cons (.cmp .Lt (.var 3) (.con (.int 10000))) .nil)))) (.call 4 (.cons (.var 3) .nil))) .nil))) .nil) (.cons (.set 2 (.bin .Add (.var 2) (.meth .split (.var 3) (.cons (.con (.str " ")) .nil)))) .nil)) .nil)) .nil)) (.cons (.set 4 (.smul (.ix (.lst (.cons (.con (.str " ")) (.cons (.con (.str "  ")) (.cons (.con (.str "   ")) .nil)))) (.bin .Mod (.bin .FloorDiv (.var 1) (.con (.int 21))) (.con (.int 3)))) (.bin .Mod (.bin .FloorDiv (.var 1) (.con (.int 63))) (.con (.int 2))))) (.cons (.aoS (.enu (.var 2)) (.tup [5,6]) (.cons (.set 7 (.smul (.con (.str " ")) (.bin .Add (.con (.int 1)) (.bin .FloorDiv (.bin .Mod (.call 6 (.cons (.var 1) (.cons (.var 5) .nil))) (.con (.int 5))) (.con (.int 3)))))) (.cons (.set 4 (.bin .Add (.bin .Add (.var 4) (.call 7 (.cons (.var 6) (.cons (.call 6 (.cons (.var 1) (.cons (.bin .Add (.con (.int 20)) (.var 5)) .nil))) .nil)))) (.var 7))) .nil))) (.cons (.ifs (.cmp .Eq (.bin .Mod (.bin .FloorDiv (.var 1) (.con (.int 126))) (.con (.int 2))) (.con (.int 0))) (.cons (.ret (.sl (.var 4) .none (.some (.bin .Sub (.call 8 (.cons (.var 4) .nil)) (.con (.int 1)))))) .nil) .nil) (.cons (.ret (.var 4)) .nil))))))
noncomputable def ad9(K:Fg)(A:aV):SI:=⟨["_law_deed_here","_law_cell","_law_words","_law_thing","_law_text","_law_k","_law_word","_law_blanks"],[ak,ak,ak,ak,ak,ak,ak,ak],[ak,ak,ak,ak,ak,ak,ak,ak],[ao,ao,ao,ao,ao,ao,ao,ao],[("tuple",.bt "tuple"),("isinstance",.bf .isi),("_law_name",.fn (rJ K A) 1 ao),("int",.bt "int"),("str",.bt "str"),("enumerate",.bt "enumerate"),("_law_mix",.fn (aX K A) 2 ao),("_law_mixed_case",.fn (fJ K A) 2 ao),("len",.bf .len)],[ak,ak,ak,ak,ak,ak,ak,ak,ak],ak⟩
noncomputable def a4B(K:Fg)(A:aV)(ex:aL->aO):aZ :=
  (aU (a6Z (acK (tM3 "str" a1T (aiB "str" aaX (aB 0)) (aA (aG (.str " ")) aC))) (aK (aD al9 (aB 0) (aG (.str "")))) (aB 0)))
noncomputable def uU(K:Fg)(A:aV):mR:=uD 1 1 λEX=>a4B K A (λ_=>EX)
noncomputable def apA:CB:=(.cons (.ret (.comp [ao] [] (.any (.meth .split (.meth .lower (.var 0) .nil) (.cons (.con (.str " ")) .nil))) (.some (.cmp .NotEq (.var 0) (.con (.str "")))) (.var 0))) .nil)
noncomputable def apB(K:Fg)(A:aV):SI:=⟨["text"],[ak],[ak],[ao],[],[],ak⟩
noncomputable def a0Z(K:Fg)(A:aV)(ex:aL->aO):aZ :=
  (aU (wU (uE awK awK (aG (.int 1)) (bR fO (aA (aB 0) aC)) (aG (.int 7))) (bR agY (aA (a6Z (acK (aB 0)) pD (aD a5E (aB 0) (aG (.str "0123456789")))) aC))))
noncomputable def rK(K:Fg)(A:aV):mR:=uD 1 1 λEX=>a0Z K A (λ_=>EX)
noncomputable def amQ:CB:=(.cons (.ret (.au5 (.cons (.chain .LtE .LtE (.con (.int 1)) (.call 0 (.cons (.var 0) .nil)) (.glo 1)) (.cons (.call 3 (.cons (.comp [ao] [ao,ao,ak,ao] (.any (.var 0)) .none (.cmp .In (.var 0) (.glo 2))) .nil)) .nil)))) .nil)
noncomputable def amR(K:Fg)(A:aV):SI:=⟨["word"],[ak],[ak],[ao],[("len",.bf .len),("MOST_FIGURES",.con (.int 7)),("FIGURES",.con (.str "0123456789")),("all",.bf .all)],[ak,ak,ao,ak],ak⟩
noncomputable def a3L(K:Fg)(A:aV)(ex:aL->aO):aZ :=
  (aU (bR a3W (aA (aB 0) aC)))
noncomputable def a1A(K:Fg)(A:aV)(ex:aL->aO):aZ :=
  aH (bF (yD (aK (aQ (rK K A) ex (aA (aB 0) aC)))) (oK ex A.bG (aA (aG (.str "1 to 7 figures are wanted where a number is")) aC)) aN) (a3L K A ex)
noncomputable def rM(K:Fg)(A:aV):mR:=uD 1 1 λEX=>a1A K A (λ_=>EX)
noncomputable def amS:CB:=(.cons (.ifs (.not (.val (.call 0 (.cons (.var 0) .nil)))) (.cons (.raise 1 (.con (.str "1 to 7 figures are wanted where a number is")) .nil) .nil) .nil) (.cons (.ret (.call 2 (.cons (.var 0) .nil))) .nil))
noncomputable def amT(K:Fg)(A:aV):SI:=⟨["word"],[ak],[ak],[ao],[("is_number",.fn (rK K A) 1 ao),("NoRow",.cls A.bG),("int",.bt "int")],[ak,ak,ak],ak⟩
noncomputable def a8Q(K:Fg)(A:aV)(ex:aL->aO):aZ :=
  (aU (wU (aD a5E (aD bN (aB 0) (aG (.int 0))) (aG (.str "ABCDEFGHIJKLMNOPQRSTUVWXYZ"))) (wU (aD a5E (aD bN (aB 0) (aG (.int 1))) (aG (.str "0123456789"))) (wU (aD a5E (aD bN (aB 0) (aG (.int 2))) (aG (.str "0123456789"))) (aD al9 (cF (aB 0) (cY (aG (.int 1))) bV) (aG (.str "00")))))))
noncomputable def a77(K:Fg)(A:aV)(ex:aL->aO):aZ :=
  aH (bF (aoG (yD (aK (bR (cM K) (aA (aB 0) (aA (aG (.ty "str")) aC))))) (aK (aD al9 (bR fO (aA (aB 0) aC)) (aG (.int 3))))) (aU (aG (.bl ao))) aN) (a8Q K A ex)
noncomputable def nM(K:Fg)(A:aV):mR:=uD 1 1 λEX=>a77 K A (λ_=>EX)
noncomputable def auD:CB:=(.cons (.ifs (.or (.cons (.not (.val (.call 1 (.cons (.var 0) (.cons (.glo 0) .nil))))) (.cons (.cmp .NotEq (.call 2 (.cons (.var 0) .nil)) (.con (.int 3))) .nil))) (.cons (.ret (.con (.bl ao))) .nil) .nil) (.cons (.ret (.au5 (.cons (.cmp .In (.ix (.var 0) (.con (.int 0))) (.glo 3)) (.cons (.cmp .In (.ix (.var 0) (.con (.int 1))) (.glo 4)) (.cons (.cmp .In (.ix (.var 0) (.con (.int 2))) (.glo 4)) (.cons (.cmp .NotEq (.sl (.var 0) (.some (.con (.int 1))) .none) (.con (.str "00"))) .nil)))))) .nil))
noncomputable def auE(K:Fg)(A:aV):SI:=⟨["thing"],[ak],[ak],[ao],[("str",.bt "str"),("isinstance",.bf .isi),("len",.bf .len),("LETTERS",.con (.str "ABCDEFGHIJKLMNOPQRSTUVWXYZ")),("FIGURES",.con (.str "0123456789"))],[ak,ak,ak,ak,ak],ak⟩
noncomputable def adA(K:Fg)(A:aV)(ex:aL->aO):aZ :=
  (aU (dO (aA (tM3 "str" wX (aG (.str "ABCDEFGHIJKLMNOPQRSTUVWXYZ")) (aA (aD bN (aB 0) (aG (.int 0))) aC)) (aA (aD bB (aD qY (aG (.int 10)) (tM3 "str" wX (aG (.str "0123456789")) (aA (aD bN (aB 0) (aG (.int 1))) aC))) (tM3 "str" wX (aG (.str "0123456789")) (aA (aD bN (aB 0) (aG (.int 2))) aC))) aC))))
noncomputable def adB(K:Fg)(A:aV)(ex:aL->aO):aZ :=
  aH (bF (yD (aK (aQ (nM K A) ex (aA (aB 0) aC)))) (oK ex A.a5M (aA (aG (.str "a letter A to Z and two figures, not 00, are wanted")) aC)) aN) (adA K A ex)
noncomputable def a2C(K:Fg)(A:aV):mR:=uD 1 1 λEX=>adB K A (λ_=>EX)
noncomputable def ayT:CB:=(.cons (.ifs (.not (.val (.call 0 (.cons (.var 0) .nil)))) (.cons (.raise 1 (.con (.str "a letter A to Z and two figures, not 00, are wanted")) .nil) .nil) .nil) (.cons (.ret (.tup (.cons (.meth .index (.glo 2) (.cons (.ix (.var 0) (.con (.int 0))) .nil)) (.cons (.bin .Add (.bin .Mult (.con (.int 10)) (.meth .index (.glo 3) (.cons (.ix (.var 0) (.con (.int 1))) .nil))) (.meth .index (.glo 3) (.cons (.ix (.var 0) (.con (.int 2))) .nil))) .nil)))) .nil))
noncomputable def ayU(K:Fg)(A:aV):SI:=⟨["text"],[ak],[ak],[ao],[("is_name",.fn (nM K A) 1 ao),("NoName",.cls A.a5M),("LETTERS",.con (.str "ABCDEFGHIJKLMNOPQRSTUVWXYZ")),("FIGURES",.con (.str "0123456789"))],[ak,ak,ak,ak],ak⟩
noncomputable def a8R(K:Fg)(A:aV)(ex:aL->aO):aZ :=
  (aU (aQ (a2C K A) ex (aA (aB 1) aC)))
noncomputable def a8S(K:Fg)(A:aV)(ex:aL->aO):aZ :=
  aH (bF (yD (aK (aQ (nM K A) ex (aA (aB 1) aC)))) (oK ex A.bG (aA (aG (.str "a bin's name is wanted where a bin is")) aC)) aN) (a8R K A ex)
noncomputable def a78(K:Fg)(A:aV)(ex:aL->aO):aZ :=
  aH (bJ 1 (aiB "str" a1V (aB 0))) (a8S K A ex)
noncomputable def xJ(K:Fg)(A:aV):mR:=uD 2 1 λEX=>a78 K A (λ_=>EX)
noncomputable def auF:CB:=(.cons (.set 1 (.meth .upper (.var 0) .nil)) (.cons (.ifs (.not (.val (.call 0 (.cons (.var 1) .nil)))) (.cons (.raise 1 (.con (.str "a bin's name is wanted where a bin is")) .nil) .nil) .nil) (.cons (.ret (.call 2 (.cons (.var 1) .nil))) .nil)))
noncomputable def auG(K:Fg)(A:aV):SI:=⟨["word","name"],[ak,ak],[ak,ak],[ao,ao],[("is_name",.fn (nM K A) 1 ao),("NoRow",.cls A.bG),("bin_of",.fn (a2C K A) 1 ao)],[ak,ak,ak],ak⟩
noncomputable def a5V(K:Fg)(A:aV)(ex:aL->aO):aZ :=
  (aU (aB 1))
noncomputable def a5W(K:Fg)(A:aV)(ex:aL->aO):aZ :=
  aH (bF (aK (aD dF (aB 0) (aG (.str "bin")))) (aU (aQ (xJ K A) ex (aA (aB 1) aC))) aN) (a5V K A ex)
noncomputable def a4C(K:Fg)(A:aV)(ex:aL->aO):aZ :=
  aH (bF (aK (aD dF (aB 0) (aG (.str "number")))) (aU (aQ (rM K A) ex (aA (aB 1) aC))) aN) (a5W K A ex)
noncomputable def uV(K:Fg)(A:aV):mR:=uD 2 2 λEX=>a4C K A (λ_=>EX)
noncomputable def apC:CB:=(.cons (.ifs (.cmp .Eq (.var 0) (.con (.str "number"))) (.cons (.ret (.call 0 (.cons (.var 1) .nil))) .nil) .nil) (.cons (.ifs (.cmp .Eq (.var 0) (.con (.str "bin"))) (.cons (.ret (.call 1 (.cons (.var 1) .nil))) .nil) .nil) (.cons (.ret (.var 1)) .nil)))
noncomputable def apD(K:Fg)(A:aV):SI:=⟨["kind","word"],[ak,ak],[ak,ak],[ao,ao],[("number_of",.fn (rM K A) 1 ao),("spot_of",.fn (xJ K A) 1 ao)],[ak,ak],ak⟩
noncomputable def a4D(K:Fg)(A:aV)(ex:aL->aO):aZ :=
  (aU (aB 1))
noncomputable def adC(K:Fg)(A:aV)(ex:aL->aO):aZ :=
  aH (bF (ac8 (aK (aD a5E (aG (.str "rule")) (aB 0))) (aK (aD awJ (bR fO (aA (aB 1) aC)) (bR fO (aA (aB 0) aC))))) (aU (aD bB (cF (aB 1) bV (cY (aB 2))) (bL (aA (tM3 "str" jK (aG (.str " ")) (aA (cF (aB 1) (cY (aB 2)) bV) aC)) aC)))) aN) (a4D K A ex)
noncomputable def adD(K:Fg)(A:aV)(ex:aL->aO):aZ :=
  aH (bJ 2 (aD a2L (bR fO (aA (aB 0) aC)) (aG (.int 1)))) (adC K A ex)
noncomputable def a2D(K:Fg)(A:aV):mR:=uD 3 2 λEX=>adD K A (λ_=>EX)
noncomputable def ayV:CB:=(.cons (.set 2 (.bin .Sub (.call 0 (.cons (.var 0) .nil)) (.con (.int 1)))) (.cons (.ifs (.and (.cons (.cmp .In (.con (.str "rule")) (.var 0)) (.cons (.cmp .Gt (.call 0 (.cons (.var 1) .nil)) (.call 0 (.cons (.var 0) .nil))) .nil))) (.cons (.ret (.bin .Add (.sl (.var 1) .none (.some (.var 2))) (.lst (.cons (.meth .join (.con (.str " ")) (.cons (.sl (.var 1) (.some (.var 2)) .none) .nil)) .nil)))) .nil) .nil) (.cons (.ret (.var 1)) .nil)))
noncomputable def ayW(K:Fg)(A:aV):SI:=⟨["form","words","last"],[ak,ak,ak],[ak,ak,ak],[ao,ao,ao],[("len",.bf .len)],[ak],ak⟩
noncomputable def a3M(K:Fg)(A:aV)(ex:aL->aO):aZ :=
  (aU (ab0 2 (acP (aA (aB 0) (aA (aB 2) aC))) pD (aQ (uV K A) ex (aA (aB 0) (aA (aB 1) aC)))))
noncomputable def a3N(K:Fg)(A:aV)(ex:aL->aO):aZ :=
  aH (bF (aK (aD al9 (bR fO (aA (aB 2) aC)) (bR fO (aA (aB 0) aC)))) (oK ex A.bG (aA (aG (.str "too few words or too many")) aC)) aN) (a3M K A ex)
noncomputable def a1B(K:Fg)(A:aV)(ex:aL->aO):aZ :=
  aH (bJ 2 (aQ (a2D K A) ex (aA (aB 0) (aA (aB 1) aC)))) (a3N K A ex)
noncomputable def rN(K:Fg)(A:aV):mR:=uD 3 2 λEX=>a1B K A (λ_=>EX)
noncomputable def amU:CB:=(.cons (.set 2 (.call 0 (.cons (.var 0) (.cons (.var 1) .nil)))) (.cons (.ifs (.cmp .NotEq (.call 1 (.cons (.var 2) .nil)) (.call 1 (.cons (.var 0) .nil))) (.cons (.raise 2 (.con (.str "too few words or too many")) .nil) .nil) .nil) (.cons (.aD3 2 [ao,ao,ao] [ao,ao,ao,ao,ak] (.zip (.var 0) (.var 2)) (.call 4 (.cons (.var 0) (.cons (.var 1) .nil)))) .nil)))
noncomputable def amV(K:Fg)(A:aV):SI:=⟨["form","words","parts"],[ak,ak,ak],[ak,ak,ak],[ao,ao,ao],[("joined",.fn (a2D K A) 2 ao),("len",.bf .len),("NoRow",.cls A.bG),("zip",.bt "zip"),("thing_of",.fn (uV K A) 2 ao)],[ak,ak,ak,ak,ao],ak⟩
noncomputable def a9H(K:Fg)(A:aV)(ex:aL->aO):aZ :=
  (fH A.mX (aB 0) (bR cZ (aA (aB 1) aC)) "things")
noncomputable def nO(K:Fg)(A:aV):mR:=uD 2 2 λEX=>a9H K A (λ_=>EX)
noncomputable def a9I:CB:=(.cons (.a2G 1 (.var 0) (.call 0 (.cons (.var 1) .nil))) .nil)
noncomputable def a9J(K:Fg)(A:aV):SI:=⟨["self","things"],[ak,ak],[ak,ak],[ao,ao],[("tuple",.bt "tuple"),("Come.things",.fl A.mX "things")],[ak,ao],ak⟩
noncomputable def afN(K:Fg)(A:aV)(ex:aL->aO):aZ :=
  (fH A.a74 (aB 0) (bR cZ (aA (aB 1) aC)) "things")
noncomputable def sY(K:Fg)(A:aV):mR:=uD 2 2 λEX=>afN K A (λ_=>EX)
noncomputable def afO:CB:=(.cons (.a2G 1 (.var 0) (.call 0 (.cons (.var 1) .nil))) .nil)
noncomputable def afP(K:Fg)(A:aV):SI:=⟨["self","things"],[ak,ak],[ak,ak],[ao,ao],[("tuple",.bt "tuple"),("Go.things",.fl A.a74 "things")],[ak,ao],ak⟩
noncomputable def a9K(K:Fg)(A:aV)(ex:aL->aO):aZ :=
  (fH A.mY (aB 0) (bR cZ (aA (aB 1) aC)) "things")
noncomputable def nP(K:Fg)(A:aV):mR:=uD 2 2 λEX=>a9K K A (λ_=>EX)
noncomputable def a9L:CB:=(.cons (.a2G 1 (.var 0) (.call 0 (.cons (.var 1) .nil))) .nil)
noncomputable def a9M(K:Fg)(A:aV):SI:=⟨["self","things"],[ak,ak],[ak,ak],[ao,ao],[("tuple",.bt "tuple"),("Move.things",.fl A.mY "things")],[ak,ao],ak⟩
noncomputable def a79(K:Fg)(A:aV)(ex:aL->aO):aZ :=
  (fH A.iK (aB 0) (bR cZ (aA (aB 1) aC)) "things")
noncomputable def lO(K:Fg)(A:aV):mR:=uD 2 2 λEX=>a79 K A (λ_=>EX)
noncomputable def a7A:CB:=(.cons (.a2G 1 (.var 0) (.call 0 (.cons (.var 1) .nil))) .nil)
noncomputable def a7B(K:Fg)(A:aV):SI:=⟨["self","things"],[ak,ak],[ak,ak],[ao,ao],[("tuple",.bt "tuple"),("Count.things",.fl A.iK "things")],[ak,ao],ak⟩
noncomputable def adE(K:Fg)(A:aV)(ex:aL->aO):aZ :=
  (fH A.vZ (aB 0) (bR cZ (aA (aB 1) aC)) "things")
noncomputable def pG(K:Fg)(A:aV):mR:=uD 2 2 λEX=>adE K A (λ_=>EX)
noncomputable def adF:CB:=(.cons (.a2G 1 (.var 0) (.call 0 (.cons (.var 1) .nil))) .nil)
noncomputable def adG(K:Fg)(A:aV):SI:=⟨["self","things"],[ak,ak],[ak,ak],[ao,ao],[("tuple",.bt "tuple"),("Day.things",.fl A.vZ "things")],[ak,ao],ak⟩
noncomputable def a4E(K:Fg)(A:aV)(ex:aL->aO):aZ :=
  (fH A.dD (aB 0) (bR cZ (aA (aB 1) aC)) "things")
noncomputable def iZ(K:Fg)(A:aV):mR:=uD 2 2 λEX=>a4E K A (λ_=>EX)
noncomputable def a4F:CB:=(.cons (.a2G 1 (.var 0) (.call 0 (.cons (.var 1) .nil))) .nil)
noncomputable def a4G(K:Fg)(A:aV):SI:=⟨["self","things"],[ak,ak],[ak,ak],[ao,ao],[("tuple",.bt "tuple"),("Promise.things",.fl A.dD "things")],[ak,ao],ak⟩
noncomputable def a9N(K:Fg)(A:aV)(ex:aL->aO):aZ :=
  (fH A.mZ (aB 0) (bR cZ (aA (aB 1) aC)) "things")
noncomputable def nQ(K:Fg)(A:aV):mR:=uD 2 2 λEX=>a9N K A (λ_=>EX)
noncomputable def a9O:CB:=(.cons (.a2G 1 (.var 0) (.call 0 (.cons (.var 1) .nil))) .nil)
noncomputable def a9P(K:Fg)(A:aV):SI:=⟨["self","things"],[ak,ak],[ak,ak],[ao,ao],[("tuple",.bt "tuple"),("Drop.things",.fl A.mZ "things")],[ak,ao],ak⟩
noncomputable def a9Q(K:Fg)(A:aV)(ex:aL->aO):aZ :=
  (fH A.nA (aB 0) (bR cZ (aA (aB 1) aC)) "things")
noncomputable def nR(K:Fg)(A:aV):mR:=uD 2 2 λEX=>a9Q K A (λ_=>EX)
noncomputable def a9R:CB:=(.cons (.a2G 1 (.var 0) (.call 0 (.cons (.var 1) .nil))) .nil)
noncomputable def a9S(K:Fg)(A:aV):SI:=⟨["self","things"],[ak,ak],[ak,ak],[ao,ao],[("tuple",.bt "tuple"),("Free.things",.fl A.nA "things")],[ak,ao],ak⟩
noncomputable def a9T(K:Fg)(A:aV)(ex:aL->aO):aZ :=
  (fH A.nD (aB 0) (bR cZ (aA (aB 1) aC)) "things")
noncomputable def nT(K:Fg)(A:aV):mR:=uD 2 2 λEX=>a9T K A (λ_=>EX)
noncomputable def a9U:CB:=(.cons (.a2G 1 (.var 0) (.call 0 (.cons (.var 1) .nil))) .nil)
noncomputable def a9V(K:Fg)(A:aV):SI:=⟨["self","things"],[ak,ak],[ak,ak],[ao,ao],[("tuple",.bt "tuple"),("Keep.things",.fl A.nD "things")],[ak,ao],ak⟩
noncomputable def a9W(K:Fg)(A:aV)(ex:aL->aO):aZ :=
  (fH A.nF (aB 0) (bR cZ (aA (aB 1) aC)) "things")
noncomputable def nU(K:Fg)(A:aV):mR:=uD 2 2 λEX=>a9W K A (λ_=>EX)
noncomputable def a9X:CB:=(.cons (.a2G 1 (.var 0) (.call 0 (.cons (.var 1) .nil))) .nil)
noncomputable def a9Y(K:Fg)(A:aV):SI:=⟨["self","things"],[ak,ak],[ak,ak],[ao,ao],[("tuple",.bt "tuple"),("Wave.things",.fl A.nF "things")],[ak,ao],ak⟩
noncomputable def a9Z(K:Fg)(A:aV)(ex:aL->aO):aZ :=
  (fH A.nG (aB 0) (bR cZ (aA (aB 1) aC)) "things")
noncomputable def nW(K:Fg)(A:aV):mR:=uD 2 2 λEX=>a9Z K A (λ_=>EX)
noncomputable def aa0:CB:=(.cons (.a2G 1 (.var 0) (.call 0 (.cons (.var 1) .nil))) .nil)
noncomputable def aa2(K:Fg)(A:aV):SI:=⟨["self","things"],[ak,ak],[ak,ak],[ao,ao],[("tuple",.bt "tuple"),("Walk.things",.fl A.nG "things")],[ak,ao],ak⟩
noncomputable def afQ(K:Fg)(A:aV)(ex:aL->aO):aZ :=
  (fH A.a75 (aB 0) (bR cZ (aA (aB 1) aC)) "things")
noncomputable def sZ(K:Fg)(A:aV):mR:=uD 2 2 λEX=>afQ K A (λ_=>EX)
noncomputable def afR:CB:=(.cons (.a2G 1 (.var 0) (.call 0 (.cons (.var 1) .nil))) .nil)
noncomputable def afS(K:Fg)(A:aV):SI:=⟨["self","things"],[ak,ak],[ak,ak],[ao,ao],[("tuple",.bt "tuple"),("In.things",.fl A.a75 "things")],[ak,ao],ak⟩
noncomputable def afT(K:Fg)(A:aV)(ex:aL->aO):aZ :=
  (fH A.a76 (aB 0) (bR cZ (aA (aB 1) aC)) "things")
noncomputable def tD(K:Fg)(A:aV):mR:=uD 2 2 λEX=>afT K A (λ_=>EX)
noncomputable def afU:CB:=(.cons (.a2G 1 (.var 0) (.call 0 (.cons (.var 1) .nil))) .nil)
noncomputable def afV(K:Fg)(A:aV):SI:=⟨["self","things"],[ak,ak],[ak,ak],[ao,ao],[("tuple",.bt "tuple"),("Of.things",.fl A.a76 "things")],[ak,ao],ak⟩
noncomputable def a5X(K:Fg)(A:aV)(ex:aL->aO):aZ :=
  (aU (gQ A.a76 (tD K A) [] ex (aA (aB 1) aC)))
noncomputable def a5Y(K:Fg)(A:aV)(ex:aL->aO):aZ :=
  aH (bF (aK (aD dF (aB 0) (aG (.str "in")))) (aU (gQ A.a75 (sZ K A) [] ex (aA (aB 1) aC))) aN) (a5X K A ex)
noncomputable def a5Z(K:Fg)(A:aV)(ex:aL->aO):aZ :=
  aH (bF (aK (aD dF (aB 0) (aG (.str "walk")))) (aU (gQ A.nG (nW K A) [] ex (aA (aB 1) aC))) aN) (a5Y K A ex)
noncomputable def a65(K:Fg)(A:aV)(ex:aL->aO):aZ :=
  aH (bF (aK (aD dF (aB 0) (aG (.str "wave")))) (aU (gQ A.nF (nU K A) [] ex (aA (aB 1) aC))) aN) (a5Z K A ex)
noncomputable def a8T(K:Fg)(A:aV)(ex:aL->aO):aZ :=
  aH (bF (aK (aD dF (aB 0) (aG (.str "keep")))) (aU (gQ A.nD (nT K A) [] ex (aA (aB 1) aC))) aN) (a65 K A ex)
noncomputable def a8U(K:Fg)(A:aV)(ex:aL->aO):aZ :=
  aH (bF (aK (aD dF (aB 0) (aG (.str "free")))) (aU (gQ A.nA (nR K A) [] ex (aA (aB 1) aC))) aN) (a8T K A ex)
noncomputable def a8V(K:Fg)(A:aV)(ex:aL->aO):aZ :=
  aH (bF (aK (aD dF (aB 0) (aG (.str "drop")))) (aU (gQ A.mZ (nQ K A) [] ex (aA (aB 1) aC))) aN) (a8U K A ex)
noncomputable def a8W(K:Fg)(A:aV)(ex:aL->aO):aZ :=
  aH (bF (aK (aD dF (aB 0) (aG (.str "promise")))) (aU (gQ A.dD (iZ K A) [] ex (aA (aB 1) aC))) aN) (a8V K A ex)
noncomputable def a8X(K:Fg)(A:aV)(ex:aL->aO):aZ :=
  aH (bF (aK (aD dF (aB 0) (aG (.str "day")))) (aU (gQ A.vZ (pG K A) [] ex (aA (aB 1) aC))) aN) (a8W K A ex)
noncomputable def a8Y(K:Fg)(A:aV)(ex:aL->aO):aZ :=
  aH (bF (aK (aD dF (aB 0) (aG (.str "count")))) (aU (gQ A.iK (lO K A) [] ex (aA (aB 1) aC))) aN) (a8X K A ex)
noncomputable def a8Z(K:Fg)(A:aV)(ex:aL->aO):aZ :=
  aH (bF (aK (aD dF (aB 0) (aG (.str "move")))) (aU (gQ A.mY (nP K A) [] ex (aA (aB 1) aC))) aN) (a8Y K A ex)
noncomputable def a90(K:Fg)(A:aV)(ex:aL->aO):aZ :=
  aH (bF (aK (aD dF (aB 0) (aG (.str "go")))) (aU (gQ A.a74 (sY K A) [] ex (aA (aB 1) aC))) aN) (a8Z K A ex)
noncomputable def a7C(K:Fg)(A:aV)(ex:aL->aO):aZ :=
  aH (bF (aK (aD dF (aB 0) (aG (.str "come")))) (aU (gQ A.mX (nO K A) [] ex (aA (aB 1) aC))) aN) (a90 K A ex)
noncomputable def xK(K:Fg)(A:aV):mR:=uD 2 2 λEX=>a7C K A (λ_=>EX)
noncomputable def auH:CB:=(.cons (.ifs (.cmp .Eq (.var 0) (.con (.str "come"))) (.cons (.ret (.call 0 (.cons (.var 1) .nil))) .nil) .nil) (.cons (.ifs (.cmp .Eq (.var 0) (.con (.str "go"))) (.cons (.ret (.call 1 (.cons (.var 1) .nil))) .nil) .nil) (.cons (.ifs (.cmp .Eq (.var 0) (.con (.str "move"))) (.cons (.ret (.call 2 (.cons (.var 1) .nil))) .nil) .nil) (.cons (.ifs (.cmp .Eq (.var 0) (.con (.str "count"))) (.cons (.ret (.call 3 (.cons (.var 1) .nil))) .nil) .nil) (.cons (.ifs (.cmp .Eq (.var 0) (.con (.str "day"))) (.cons (.ret (.call 4 (.cons (.var 1) .nil))) .nil) .nil) (.cons (.ifs (.cmp .Eq (.var 0) (.con (.str "promise"))) (.cons (.ret (.call 5 (.cons (.var 1) .nil))) .nil) .nil) (.cons (.ifs (.cmp .Eq (.var 0) (.con (.str "drop"))) (.cons (.ret (.call 6 (.cons (.var 1) .nil))) .nil) .nil) (.cons (.ifs (.cmp .Eq (.var 0) (.con (.str "free"))) (.cons (.ret (.call 7 (.cons (.var 1) .nil))) .nil) .nil) (.cons (.ifs (.cmp .Eq (.var 0) (.con (.str "keep"))) (.cons (.ret (.call 8 (.cons (.var 1) .nil))) .nil) .nil) (.cons (.ifs (.cmp .Eq (.var 0) (.con (.str "wave"))) (.cons (.ret (.call 9 (.cons (.var 1) .nil))) .nil) .nil) (.cons (.ifs (.cmp .Eq (.var 0) (.con (.str "walk"))) (.cons (.ret (.call 10 (.cons (.var 1) .nil))) .nil) .nil) (.cons (.ifs (.cmp .Eq (.var 0) (.con (.str "in"))) (.cons (.ret (.call 11 (.cons (.var 1) .nil))) .nil) .nil) (.cons (.ret (.call 12 (.cons (.var 1) .nil))) .nil)))))))))))))
noncomputable def auI(K:Fg)(A:aV):SI:=⟨["word","things"],[ak,ak],[ak,ak],[ao,ao],[("Come",.kl A.mX (nO K A) []),("Go",.kl A.a74 (sY K A) []),("Move",.kl A.mY (nP K A) []),("Count",.kl A.iK (lO K A) []),("Day",.kl A.vZ (pG K A) []),("Promise",.kl A.dD (iZ K A) []),("Drop",.kl A.mZ (nQ K A) []),("Free",.kl A.nA (nR K A) []),("Keep",.kl A.nD (nT K A) []),("Wave",.kl A.nF (nU K A) []),("Walk",.kl A.nG (nW K A) []),("In",.kl A.a75 (sZ K A) []),("Of",.kl A.a76 (tD K A) [])],[ak,ak,ak,ak,ak,ak,ak,ak,ak,ak,ak,ak,ak],ak⟩
noncomputable def a91(K:Fg)(A:aV)(ex:aL->aO):aZ :=
  (aU (aQ (xK K A) ex (aA (aD bN (aB 1) (aG (.int 0))) (aA (aQ (rN K A) ex (aA (axR bK (aD bN (aB 1) (aG (.int 0)))) (aA (cF (aB 1) (cY (aG (.int 1))) bV) aC))) aC))))
noncomputable def a92(K:Fg)(A:aV)(ex:aL->aO):aZ :=
  aH (bF (aoG (aK (aD dF (bR fO (aA (aB 1) aC)) (aG (.int 0)))) (aK (aD (axS A.rF bK) (aD bN (aB 1) (aG (.int 0))) (aG (.ref A.rF))))) (oK ex A.bG (aA (aG (.str "one of the thirteen words is wanted first")) aC)) aN) (a91 K A ex)
noncomputable def a93(K:Fg)(A:aV)(ex:aL->aO):aZ :=
  aH (bJ 1 (aQ (uU K A) ex (aA (aB 0) aC))) (a92 K A ex)
noncomputable def rR(K:Fg)(A:aV)(ex:aL->aO):aZ :=
  aH (bF (yD (aK (bR (cM K) (aA (aB 0) (aA (aG (.ty "str")) aC))))) (oK ex A.bG (aA (aG (.str "a text is wanted")) aC)) aN) (a93 K A ex)
noncomputable def jL(K:Fg)(A:aV):mR:=uD 2 1 λEX=>rR K A (λ_=>EX)
noncomputable def auJ:CB:=(.cons (.ifs (.not (.val (.call 1 (.cons (.var 0) (.cons (.glo 0) .nil))))) (.cons (.raise 2 (.con (.str "a text is wanted")) .nil) .nil) .nil) (.cons (.set 1 (.call 3 (.cons (.var 0) .nil))) (.cons (.ifs (.or (.cons (.cmp .Eq (.call 4 (.cons (.var 1) .nil)) (.con (.int 0))) (.cons (.cni 5 (.ix (.var 1) (.con (.int 0)))) .nil))) (.cons (.raise 2 (.con (.str "one of the thirteen words is wanted first")) .nil) .nil) .nil) (.cons (.ret (.call 7 (.cons (.ix (.var 1) (.con (.int 0))) (.cons (.call 6 (.cons (.cix 5 (.ix (.var 1) (.con (.int 0)))) (.cons (.sl (.var 1) (.some (.con (.int 1))) .none) .nil))) .nil)))) .nil))))
noncomputable def auK(K:Fg)(A:aV):SI:=⟨["text","words"],[ak,ak],[ak,ak],[ao,ao],[("str",.bt "str"),("isinstance",.bf .isi),("NoRow",.cls A.bG),("words_in",.fn (uU K A) 1 ao),("len",.bf .len),("FORMS",.cdc A.rF bK),("things_of",.fn (rN K A) 2 ao),("deed_by",.fn (xK K A) 2 ao)],[ak,ak,ak,ak,ak,ak,ak,ak],ak⟩
noncomputable def lQ(K:Fg)(A:aV)(ex:aL->aO):aZ :=
  (aU (wU (bR (cM K) (aA (aB 1) (aA (aG (.ref A.bG)) aC))) (aD uF (aG (.bl ak)) (aB 2))))
noncomputable def lR(K:Fg)(A:aV)(ex:aL->aO):aZ :=
  aH (bJ 2 (aD bB (aB 2) (bL (aA (bR (cM K) (aA (aB 1) (aA (aG (.ref A.xG)) aC))) (aA (bR (cM K) (aA (aB 1) (aA (aG (.ref A.uT)) aC))) (aA (ai6 (bR (cM K) (aA (aB 1) (aA (aG (.ty "ValueError")) aC)))) aC)))))) (lQ K A NoX)
noncomputable def lU(K:Fg)(A:aV)(ex:aL->aO):aZ :=
  aH (bJ 2 (aD bB (aB 2) (bL (aA (bR (cM K) (aA (aB 1) (aA (aG (.ref A.uQ)) aC))) (aA (bR (cM K) (aA (aB 1) (aA (aG (.ref A.uR)) aC))) (aA (bR (cM K) (aA (aB 1) (aA (aG (.ref A.a5R)) aC))) aC)))))) (lR K A NoX)
noncomputable def gM(K:Fg)(A:aV)(ex:aL->aO):aZ :=
  aH (bJ 2 (aD bB (aB 2) (bL (aA (bR (cM K) (aA (aB 1) (aA (aG (.ref A.ab3)) aC))) (aA (bR (cM K) (aA (aB 1) (aA (aG (.ref A.xF)) aC))) (aA (bR (cM K) (aA (aB 1) (aA (aG (.ref A.a5P)) aC))) (aA (bR (cM K) (aA (aB 1) (aA (aG (.ref A.a5Q)) aC))) aC))))))) (lU K A NoX)
noncomputable def a7D(K:Fg)(A:aV)(ex:aL->aO):aZ :=
  (aU (aG (.bl ao)))
noncomputable def tE(K:Fg)(A:aV)(ex:aL->aO):aZ :=
  aH (al5 K A.iJ 1 (λEX2=>(a3S (aQ (jL K A) EX2 (aA (aB 0) aC)))) (aH (bJ 2 (bL (aA (bR (cM K) (aA (aB 1) (aA (aG (.ref A.a09)) aC))) (aA (bR (cM K) (aA (aB 1) (aA (aG (.ref A.a0A)) aC))) (aA (bR (cM K) (aA (aB 1) (aA (aG (.ref A.a5N)) aC))) (aA (bR (cM K) (aA (aB 1) (aA (aG (.ref A.a5O)) aC))) aC)))))) (gM K A NoX))) (a7D K A ex)
noncomputable def fZ(K:Fg)(A:aV):mR:=uD 3 1 λEX=>tE K A (λ_=>EX)
noncomputable def adH:CB:=(.cons (.aD5 0 1 (.cons (.expr (.call 1 (.cons (.var 0) .nil))) .nil) (.cons (.set 2 (.lst (.cons (.call 3 (.cons (.var 1) (.cons (.glo 2) .nil))) (.cons (.call 3 (.cons (.var 1) (.cons (.glo 4) .nil))) (.cons (.call 3 (.cons (.var 1) (.cons (.glo 5) .nil))) (.cons (.call 3 (.cons (.var 1) (.cons (.glo 6) .nil))) .nil)))))) (.cons (.set 2 (.bin .Add (.var 2) (.lst (.cons (.call 3 (.cons (.var 1) (.cons (.glo 7) .nil))) (.cons (.call 3 (.cons (.var 1) (.cons (.glo 8) .nil))) (.cons (.call 3 (.cons (.var 1) (.cons (.glo 9) .nil))) (.cons (.call 3 (.cons (.var 1) (.cons (.glo 10) .nil))) .nil))))))) (.cons (.set 2 (.bin .Add (.var 2) (.lst (.cons (.call 3 (.cons (.var 1) (.cons (.glo 11) .nil))) (.cons (.call 3 (.cons (.var 1) (.cons (.glo 12) .nil))) (.cons (.call 3 (.cons (.var 1) (.cons (.glo 13) .nil))) .nil)))))) (.cons (.set 2 (.bin .Add (.var 2) (.lst (.cons (.call 3 (.cons (.var 1) (.cons (.glo 14) .nil))) (.cons (.call 3 (.cons (.var 1) (.cons (.glo 15) .nil))) (.cons (.aCX (.call 3 (.cons (.var 1) (.cons (.glo 16) .nil)))) .nil)))))) (.cons (.ret (.au5 (.cons (.call 3 (.cons (.var 1) (.cons (.glo 17) .nil))) (.cons (.cmp .NotIn (.con (.bl ak)) (.var 2)) .nil)))) .nil)))))) (.cons (.ret (.con (.bl ao))) .nil))
noncomputable def adI(K:Fg)(A:aV):SI:=⟨["_law_text","e","_law_some"],[ak,ak,ak],[ak,ak,ak],[ao,ao,ao],[("DepotError",.cls A.iJ),("deed_of",.fn (jL K A) 1 ao),("NoPlan",.cls A.a09),("isinstance",.bf .isi),("NoWare",.cls A.a0A),("NoDay",.cls A.a5N),("NoBin",.cls A.a5O),("NoLot",.cls A.ab3),("NoAmount",.cls A.xF),("NoRoom",.cls A.a5P),("NoRule",.cls A.a5Q),("TooLittle",.cls A.uQ),("NoPromise",.cls A.uR),("Broken",.cls A.a5R),("NotToday",.cls A.xG),("StillOpen",.cls A.uT),("ValueError",.bt "ValueError"),("NoRow",.cls A.bG)],[ak,ak,ak,ak,ak,ak,ak,ak,ak,ak,ak,ak,ak,ak,ak,ak,ak,ak],ak⟩
noncomputable def tG(K:Fg)(A:aV)(ex:aL->aO):aZ :=
  (alS K (λEX2=>(aU (bR (cM K) (aA (aQ (jL K A) EX2 (aA (aB 0) aC)) (aA (aG (.ref A.gG)) aC))))) [(A.iJ,(aU (aG (.bl ao))))])
noncomputable def jE(K:Fg)(A:aV):mR:=uD 1 1 λEX=>tG K A (λ_=>EX)
noncomputable def adJ:CB:=(.cons (.aD6 (.cons (.ret (.call 2 (.cons (.call 0 (.cons (.var 0) .nil)) (.cons (.glo 1) .nil)))) .nil) (.cons 3 (.cons (.ret (.con (.bl ao))) .nil) .nil)) .nil)
noncomputable def adK(K:Fg)(A:aV):SI:=⟨["_law_text"],[ak],[ak],[ao],[("deed_of",.fn (jL K A) 1 ao),("Deed",.con (.ref A.gG)),("isinstance",.bf .isi),("DepotError",.cls A.iJ)],[ak,ak,ak,ak],ak⟩
noncomputable def tH(K:Fg)(A:aV)(ex:aL->aO):aZ :=
  (aU (tM3 "str" jK (aG (.str " ")) (aA (aB 2) aC)))
noncomputable def tK(K:Fg)(A:aV)(ex:aL->aO):aZ :=
  (aU (tM3 "str" jK (aG (.str " ")) (aA (aD bB (cF (aB 2) bV (cY (aB 4))) (cF (aB 2) (cY (aD bB (aB 4) (aG (.int 1)))) bV)) aC)))
noncomputable def fK(K:Fg)(A:aV)(ex:aL->aO):aZ :=
  aH (bF (aK (aD a5E (aD bN (aB 0) (aG (.int 0))) (bL (aA (aG (.str "keep")) (aA (aG (.str "wave")) (aA (aG (.str "walk")) aC)))))) (aU (tM3 "str" jK (aG (.str " ")) (aA (cF (cF (aB 2) bV (cY (aB 4))) bV (cY (aG (.int 2)))) aC))) aN) (tK K A ex)
noncomputable def wD(K:Fg)(A:aV)(ex:aL->aO):aZ :=
  (aU (tM3 "str" jK (aG (.str " ")) (aA (aB 2) aC)))
noncomputable def iR(K:Fg)(A:aV)(ex:aL->aO):aZ :=
  aH (ai7 (aB 2) (aD bB (aG (.int 1)) (aB 4)) (aB 6)) (wD K A ex)
noncomputable def nY(K:Fg)(A:aV)(ex:aL->aO):aZ :=
  aH (bF (aK (bR (cM K) (aA (aD bN (aD bN (aB 0) (aG (.int 1))) (aB 4)) (aA (aG (.ty "tuple")) aC)))) (bJ 6 (aD bN (bL (aA (aG (.str "a00")) (aA (aG (.str "a1")) (aA (aG (.str "a001")) (aA (aG (.str "101")) (aA (aG (.str "aa1")) (aA (aG (.str "a1b")) (aA (aG (.str "b07#")) (aA (aG (.str "a-1")) aC))))))))) (aD bA (aD bI (aB 1) (aG (.int 45))) (aG (.int 8))))) aN) (iR K A ex)
noncomputable def pH(K:Fg)(A:aV)(ex:aL->aO):aZ :=
  aH (bJ 6 (aD bN (bL (aA (aG (.str "1a")) (aA (aG (.str "-3")) (aA (aG (.str "12345678")) (aA (aG (.str "+4")) (aA (aG (.str "3.")) (aA (aG (.str "x")) (aA (aG (.str "00000001")) (aA (aG (.str "1_0")) aC))))))))) (aD bA (aD bI (aB 1) (aG (.int 45))) (aG (.int 8))))) (nY K A ex)
noncomputable def yQ(K:Fg)(A:aV)(ex:aL->aO):aZ :=
  aH (bJ 4 (aD bN (aB 5) (aD bA (aD bI (aB 1) (aG (.int 5))) (bR fO (aA (aB 5) aC))))) (pH K A ex)
noncomputable def pI(K:Fg)(A:aV)(ex:aL->aO):aZ :=
  aH (bF (aK (aD dF (aB 5) (bL aC))) (aU (aD bN (bL (aA (aG (.str "")) (aA (aG (.str "   ")) (aA (aD bB (aG (.str "# ")) (tM3 "str" jK (aG (.str " ")) (aA (aB 2) aC))) (aA (aG (.str "#")) aC))))) (aD bA (aD bI (aB 1) (aG (.int 5))) (aG (.int 4))))) aN) (yQ K A ex)
noncomputable def jF(K:Fg)(A:aV)(ex:aL->aO):aZ :=
  aH (bJ 5 (a6Z (wY (aA (bR fO (aA (aD bN (aB 0) (aG (.int 1))) aC)) aC)) (yD (aK (bR (cM K) (aA (aD bN (aD bN (aB 1) (aG (.int 1))) (aB 0)) (aA (aG (.ty "str")) aC))))) (aB 0))) (pI K A ex)
noncomputable def jG(K:Fg)(A:aV)(ex:aL->aO):aZ :=
  aH (bF (ac8 (aK (aD acA (aB 3) (aG (.int 3)))) (aK (aD awJ (bR fO (aA (aB 2) aC)) (aG (.int 1))))) (aH (bJ 4 (aD bN (bL (aA (aD bB (aG (.int 1)) (aD bA (aD bI (aB 1) (aG (.int 5))) (aD a2L (bR fO (aA (aB 2) aC)) (aG (.int 1))))) (aA (aG (.int 1)) aC))) (bR a3W (aA (aD a5E (aD bN (aB 0) (aG (.int 0))) (bL (aA (aG (.str "wave")) (aA (aG (.str "walk")) aC)))) aC)))) (fK K A ex)) aN) (jF K A ex)
noncomputable def pJ(K:Fg)(A:aV)(ex:aL->aO):aZ :=
  aH (bF (ac8 (aK (aD dF (aB 3) (aG (.int 1)))) (aK (aD uF (aD bN (aB 0) (aG (.int 0))) (bL (aA (aG (.str "keep")) (aA (aG (.str "wave")) (aA (aG (.str "walk")) aC))))))) (aH (a3S (tM3 "list" vV (aB 2) (aA (aD bB (aG (.int 1)) (aD bA (aD bI (aB 1) (aG (.int 5))) (bR fO (aA (aB 2) aC)))) (aA (aD bN (bL (aA (aG (.str "7")) (aA (aG (.str "A01")) (aA (aG (.str "x")) (aA (aG (.str "#")) (aA (aG (.str "#x")) (aA (aG (.str "# x")) aC))))))) (aD bA (aD bI (aB 1) (aG (.int 45))) (aG (.int 6)))) aC)))) (tH K A ex)) aN) (jG K A ex)
noncomputable def pK(K:Fg)(A:aV)(ex:aL->aO):aZ :=
  aH (bF (aK (aD dF (aB 3) (aG (.int 0)))) (aU (tM3 "str" jK (aG (.str " ")) (aA (aD bB (bL (aA (aD bN (bL (aA (aG (.str "comes")) (aA (aG (.str "goo")) (aA (aG (.str "x")) (aA (aG (.str "days")) (aA (aG (.str "#day")) (aA (aG (.str "no")) (aA (aG (.str "wawe")) aC)))))))) (aD bA (aD bI (aB 1) (aG (.int 5))) (aG (.int 7)))) aC)) (cF (aB 2) (cY (aG (.int 1))) bV)) aC))) aN) (pJ K A ex)
noncomputable def yR(K:Fg)(A:aV)(ex:aL->aO):aZ :=
  aH (bJ 3 (aD bA (aB 1) (aG (.int 5)))) (pK K A ex)
noncomputable def vD(K:Fg)(A:aV)(ex:aL->aO):aZ :=
  aH (bJ 2 (tM3 "str" a1T (aQ (dW K A) ex (aA (aB 0) (aA (aG (.int 0)) aC))) (aA (aG (.str " ")) aC))) (yR K A ex)
noncomputable def lV(K:Fg)(A:aV):mR:=uD 7 2 λEX=>vD K A (λ_=>EX)
noncomputable def afW:CB:=(.cons (.set 2 (.meth .split (.call 0 (.cons (.var 0) (.cons (.con (.int 0)) .nil))) (.cons (.con (.str " ")) .nil))) (.cons (.set 3 (.bin .Mod (.var 1) (.con (.int 5)))) (.cons (.ifs (.cmp .Eq (.var 3) (.con (.int 0))) (.cons (.ret (.meth .join (.con (.str " ")) (.cons (.bin .Add (.lst (.cons (.ix (.lst (.cons (.con (.str "comes")) (.cons (.con (.str "goo")) (.cons (.con (.str "x")) (.cons (.con (.str "days")) (.cons (.con (.str "#day")) (.cons (.con (.str "no")) (.cons (.con (.str "wawe")) .nil)))))))) (.bin .Mod (.bin .FloorDiv (.var 1) (.con (.int 5))) (.con (.int 7)))) .nil)) (.sl (.var 2) (.some (.con (.int 1))) .none)) .nil))) .nil) .nil) (.cons (.ifs (.and (.cons (.cmp .Eq (.var 3) (.con (.int 1))) (.cons (.cmp .NotIn (.ix (.var 0) (.con (.int 0))) (.lst (.cons (.con (.str "keep")) (.cons (.con (.str "wave")) (.cons (.con (.str "walk")) .nil))))) .nil))) (.cons (.expr (.meth .insert (.var 2) (.cons (.bin .Add (.con (.int 1)) (.bin .Mod (.bin .FloorDiv (.var 1) (.con (.int 5))) (.call 1 (.cons (.var 2) .nil)))) (.cons (.ix (.lst (.cons (.con (.str "7")) (.cons (.con (.str "A01")) (.cons (.con (.str "x")) (.cons (.con (.str "#")) (.cons (.con (.str "#x")) (.cons (.con (.str "# x")) .nil))))))) (.bin .Mod (.bin .FloorDiv (.var 1) (.con (.int 45))) (.con (.int 6)))) .nil)))) (.cons (.ret (.meth .join (.con (.str " ")) (.cons (.var 2) .nil))) .nil)) .nil) (.cons (.ifs (.and (.cons (.cmp .Lt (.var 3) (.con (.int 3))) (.cons (.cmp .Gt (.call 1 (.cons (.var 2) .nil)) (.con (.int 1))) .nil))) (.cons (.set 4 (.ix (.lst (.cons (.bin .Add (.con (.int 1)) (.bin .Mod (.bin .FloorDiv (.var 1) (.con (.int 5))) (.bin .Sub (.call 1 (.cons (.var 2) .nil)) (.con (.int 1))))) (.cons (.con (.int 1)) .nil))) (.call 2 (.cons (.cmp .In (.ix (.var 0) (.con (.int 0))) (.lst (.cons (.con (.str "wave")) (.cons (.con (.str "walk")) .nil)))) .nil)))) (.cons (.ifs (.cmp .In (.ix (.var 0) (.con (.int 0))) (.lst (.cons (.con (.str "keep")) (.cons (.con (.str "wave")) (.cons (.con (.str "walk")) .nil))))) (.cons (.ret (.meth .join (.con (.str " ")) (.cons (.sl (.sl (.var 2) .none (.some (.var 4))) .none (.some (.con (.int 2)))) .nil))) .nil) .nil) (.cons (.ret (.meth .join (.con (.str " ")) (.cons (.bin .Add (.sl (.var 2) .none (.some (.var 4))) (.sl (.var 2) (.some (.bin .Add (.var 4) (.con (.int 1)))) .none)) .nil))) .nil))) .nil) (.cons (.setC 5 [ak,ao,ao,ao,ao,ao,ao] [ao,ao,ao,ao,ak,ak,ao] (.aiM (.call 1 (.cons (.ix (.var 0) (.con (.int 1))) .nil))) (.some (.not (.val (.call 5 (.cons (.ix (.ix (.var 1) (.con (.int 1))) (.var 0)) (.cons (.glo 4) .nil)))))) (.var 0)) (.cons (.ifs (.cmp .Eq (.var 5) (.lst .nil)) (.cons (.ret (.ix (.lst (.cons (.con (.str "")) (.cons (.con (.str "   ")) (.cons (.bin .Add (.con (.str "# ")) (.meth .join (.con (.str " ")) (.cons (.var 2) .nil))) (.cons (.con (.str "#")) .nil))))) (.bin .Mod (.bin .FloorDiv (.var 1) (.con (.int 5))) (.con (.int 4))))) .nil) .nil) (.cons (.set 4 (.ix (.var 5) (.bin .Mod (.bin .FloorDiv (.var 1) (.con (.int 5))) (.call 1 (.cons (.var 5) .nil))))) (.cons (.set 6 (.ix (.lst (.cons (.con (.str "1a")) (.cons (.con (.str "-3")) (.cons (.con (.str "12345678")) (.cons (.con (.str "+4")) (.cons (.con (.str "3.")) (.cons (.con (.str "x")) (.cons (.con (.str "00000001")) (.cons (.con (.str "1_0")) .nil))))))))) (.bin .Mod (.bin .FloorDiv (.var 1) (.con (.int 45))) (.con (.int 8))))) (.cons (.ifs (.val (.call 5 (.cons (.ix (.ix (.var 0) (.con (.int 1))) (.var 4)) (.cons (.glo 6) .nil)))) (.cons (.set 6 (.ix (.lst (.cons (.con (.str "a00")) (.cons (.con (.str "a1")) (.cons (.con (.str "a001")) (.cons (.con (.str "101")) (.cons (.con (.str "aa1")) (.cons (.con (.str "a1b")) (.cons (.con (.str "b07#")) (.cons (.con (.str "a-1")) .nil))))))))) (.bin .Mod (.bin .FloorDiv (.var 1) (.con (.int 45))) (.con (.int 8))))) .nil) .nil) (.cons (.aD4 (.var 2) (.bin .Add (.con (.int 1)) (.var 4)) (.var 6)) (.cons (.ret (.meth .join (.con (.str " ")) (.cons (.var 2) .nil))) .nil))))))))))))
noncomputable def afX(K:Fg)(A:aV):SI:=⟨["_law_deed_here","_law_cell","_law_words","_law_kind","_law_at","_law_places","_law_bad"],[ak,ak,ak,ak,ak,ak,ak],[ao,ak,ak,ak,ak,ak,ak],[ak,ao,ao,ao,ao,ao,ao],[("_law_written",.fn (dW K A) 2 ao),("len",.bf .len),("int",.bt "int"),("range",.bt "range"),("str",.bt "str"),("isinstance",.bf .isi),("tuple",.bt "tuple")],[ak,ak,ak,ak,ao,ak,ak],ak⟩
noncomputable def amW(K:Fg)(A:aV)(ex:aL->aO):aZ :=
  (bF (aoG (yD (aK (aQ (jE K A) ex (aA (aB 4) aC)))) (yD (aK (aQ (fZ K A) ex (aA (aB 5) aC))))) (aU (aG (.bl ao))) aN)
noncomputable def arN(K:Fg)(A:aV)(ex:aL->aO):aZ :=
  (aU (aG (.bl ak)))
noncomputable def aiU(K:Fg)(A:aV)(ex:aL->aO):aZ :=
  aH (a3V (wY (aA (aG (.int 2)) aC)) (a70 6) (amW K A ex)) (arN K A ex)
noncomputable def arO(K:Fg)(A:aV)(ex:aL->aO):aZ :=
  aH (bF (yD (aK (aQ (fZ K A) ex (aA (aD bN (bL (aA (aG .non) (aA (aG (.int 7)) (aA (bL (aA (aG (.str "day")) aC)) (aA (aG (.bl ak)) (aA (dO (aA (aG (.str "day")) aC)) aC)))))) (aD bA (aQ (bZ K A) ex (aA (aB 0) (aA (aG (.int 4)) aC))) (aG (.int 5)))) aC)))) (aU (aG (.bl ao))) aN) (aiU K A ex)
noncomputable def arP(K:Fg)(A:aV)(ex:aL->aO):aZ :=
  aH (bJ 5 (aQ (lV K A) ex (aA (aB 3) (aA (aQ (aX K A) ex (aA (aQ (bZ K A) ex (aA (aB 0) (aA (aG (.int 4)) aC))) (aA (aG (.int 3)) aC))) aC)))) (arO K A ex)
noncomputable def arQ(K:Fg)(A:aV)(ex:aL->aO):aZ :=
  aH (bJ 4 (aQ (dW K A) ex (aA (aB 3) (aA (aQ (bZ K A) ex (aA (aB 0) (aA (aG (.int 3)) aC))) aC)))) (arP K A ex)
noncomputable def arR(K:Fg)(A:aV)(ex:aL->aO):aZ :=
  aH (bJ 3 (aQ (rH K A) ex (aA (aQ (bZ K A) ex (aA (aB 0) (aA (aG (.int 2)) aC))) (aA (aB 1) (aA (aG (.int 50)) (aA (aB 2) (aA (aG (.int 9)) (aA (aG (.int 9)) (aA (aG (.int 3)) aC))))))))) (arQ K A ex)
noncomputable def arS(K:Fg)(A:aV)(ex:aL->aO):aZ :=
  aH (bJ 2 (aQ (oR K A) ex (aA (aQ (bZ K A) ex (aA (aB 0) (aA (aG (.int 1)) aC))) aC))) (arR K A ex)
noncomputable def ayX(K:Fg)(A:aV)(ex:aL->aO):aZ :=
  aH (bJ 1 (aQ (rG K A) ex (aA (aQ (bZ K A) ex (aA (aB 0) (aA (aG (.int 0)) aC))) aC))) (arS K A ex)
noncomputable def apE(K:Fg)(A:aV):mR:=uD 7 1 λEX=>ayX K A (λ_=>EX)
noncomputable def amX:CB:=(.cons (.set 1 (.call 1 (.cons (.call 0 (.cons (.var 0) (.cons (.con (.int 0)) .nil))) .nil))) (.cons (.set 2 (.call 2 (.cons (.call 0 (.cons (.var 0) (.cons (.con (.int 1)) .nil))) .nil))) (.cons (.set 3 (.call 3 (.cons (.call 0 (.cons (.var 0) (.cons (.con (.int 2)) .nil))) (.cons (.var 1) (.cons (.con (.int 50)) (.cons (.var 2) (.cons (.con (.int 9)) (.cons (.con (.int 9)) (.cons (.con (.int 3)) .nil))))))))) (.cons (.set 4 (.call 4 (.cons (.var 3) (.cons (.call 0 (.cons (.var 0) (.cons (.con (.int 3)) .nil))) .nil)))) (.cons (.set 5 (.call 6 (.cons (.var 3) (.cons (.call 5 (.cons (.call 0 (.cons (.var 0) (.cons (.con (.int 4)) .nil))) (.cons (.con (.int 3)) .nil))) .nil)))) (.cons (.ifs (.not (.val (.call 7 (.cons (.ix (.lst (.cons (.con .non) (.cons (.con (.int 7)) (.cons (.lst (.cons (.con (.str "day")) .nil)) (.cons (.con (.bl ak)) (.cons (.tup (.cons (.con (.str "day")) .nil)) .nil)))))) (.bin .Mod (.call 0 (.cons (.var 0) (.cons (.con (.int 4)) .nil))) (.con (.int 5)))) .nil)))) (.cons (.ret (.con (.bl ao))) .nil) .nil) (.cons (.aoS (.aiM (.con (.int 2))) (.nm 6) (.cons (.ifs (.or (.cons (.not (.val (.call 9 (.cons (.var 4) .nil)))) (.cons (.not (.val (.call 7 (.cons (.var 5) .nil)))) .nil))) (.cons (.ret (.con (.bl ao))) .nil) .nil) .nil)) (.cons (.ret (.con (.bl ak))) .nil))))))))
noncomputable def aT5(K:Fg)(A:aV):SI:=⟨["_law_script","_law_plan_here","_law_wares_here","_law_deed_here","_law_text","_law_bad","_law_turn"],[ak,ak,ak,ak,ak,ak,ak],[ak,ak,ak,ak,ak,ak,ak],[ao,ao,ao,ao,ao,ao,ao],[("_law_cell_at",.fn (bZ K A) 2 ao),("_law_plan",.fn (rG K A) 1 ao),("_law_wares",.fn (oR K A) 1 ao),("_law_deed",.fn (rH K A) 7 ao),("_law_written",.fn (dW K A) 2 ao),("_law_mix",.fn (aX K A) 2 ao),("_law_spoilt",.fn (lV K A) 2 ao),("_law_refused",.fn (fZ K A) 1 ao),("range",.bt "range"),("_law_is_deed",.fn (jE K A) 1 ao)],[ak,ak,ak,ak,ak,ak,ak,ak,ak,ak],ak⟩
structure FnT(K:Fg)(mg:Str->Option au)(x:Str)(st:mj)(f:bx)(d:jo)(ps:List Str):Prop where
 F:Fun K x x st f d
 B:Binds K d ps []
 m:mg x=aj (.ref f)
structure ExT(K:Fg)(mg:Str->Option au)(x:Str)(c:bx):Prop where
 m:mg x=aj (.ref c)
 x:yp K c BMv "ValueError.__new__"=ak
 cs:(ux K c).isSome=ak
 ty:a0a K (.ref c)=aj (.type "type")
 be:um K (.ref c) (.type "BaseException")=aj ak
structure Txt(w:jg)(K:Fg)(mg:Str->Option au)(A:aV):Prop where
 eZ:FnT K mg "_law_cell_at" zZ A.a05 A.lE ["_law_script","_law_k"]
 eO:FnT K mg "_law_mix" acZ A.ad2 A.xB ["_law_number_here","_law_k"]
 jT:FnT K mg "_law_plan" a8A A.a8I A.uH ["_law_cell"]
 iT:FnT K mg "_law_wares" a5I A.a5J A.rE ["_law_cell"]
 jU:FnT K mg "_law_spot" a8B A.a8J A.uI ["_law_plan_here","_law_cell"]
 jV:FnT K mg "_law_rule" a8C A.a8K A.uJ ["_law_cell"]
 gB:FnT K mg "_law_number" a2N A.a2T A.oM ["_law_cell","_law_most"]
 gC:FnT K mg "_law_amount" a2O A.a2U A.oN ["_law_cell","_law_room"]
 jW:FnT K mg "_law_deed" a8D A.a8L A.uK ["_law_cell","_law_plan_here","_law_room","_law_wares_here","_law_lots","_law_asked","_law_today"]
 jX:FnT K mg "_law_name" a8E A.a8M A.uL ["_law_spot_here"]
 cO:FnT K mg "_law_mixed_case" uG A.uM A.gK ["_law_text","_law_cell"]
 dM:FnT K mg "_law_written" a01 A.a06 A.lF ["_law_deed_here","_law_cell"]
 nZ:FnT K mg "words_in" ad0 A.ad3 A.xD ["text"]
 jY:FnT K mg "is_number" a8F A.a8N A.uN ["word"]
 jZ:FnT K mg "number_of" a8G A.a8O A.uO ["word"]
 o7:FnT K mg "is_name" ah9 A.ahD A.a1Y ["thing"]
 wF:FnT K mg "bin_of" amB A.amE A.a5K ["text"]
 rT:FnT K mg "spot_of" ahA A.ahE A.a1Z ["word"]
 o8:FnT K mg "thing_of" ad1 A.ad4 A.xE ["kind","word"]
 wG:FnT K mg "joined" amC A.amF A.a5L ["form","words"]
 kJ:FnT K mg "things_of" a8H A.a8P A.uP ["form","words"]
 pL:Fun K "__init__" "Deed.__init__" yG A.cP A.fP
 pN:Binds K A.fP ["self","things"] []
 avH:Meth K A.mX "__init__" A.cP
 vG:Fun K "__init__" "Deed.__init__" a2P A.eG A.j5
 vH:Binds K A.j5 ["self","things"] []
 aB2:Meth K A.a74 "__init__" A.eG
 pO:Fun K "__init__" "Deed.__init__" yH A.cQ A.fQ
 pP:Binds K A.fQ ["self","things"] []
 avI:Meth K A.mY "__init__" A.cQ
 o9:Fun K "__init__" "Deed.__init__" vY A.cI A.eY
 oA:Binds K A.eY ["self","things"] []
 auL:Meth K A.iK "__init__" A.cI
 tL:Fun K "__init__" "Deed.__init__" a02 A.dI A.gR
 tM:Binds K A.gR ["self","things"] []
 ayY:Meth K A.vZ "__init__" A.dI
 jM:Fun K "__init__" "Deed.__init__" sO A.c7 A.dJ
 jN:Binds K A.dJ ["self","things"] []
 apF:Meth K A.dD "__init__" A.c7
 pQ:Fun K "__init__" "Deed.__init__" yI A.cR A.fU
 pR:Binds K A.fU ["self","things"] []
 avJ:Meth K A.mZ "__init__" A.cR
 pU:Fun K "__init__" "Deed.__init__" yJ A.cT A.fV
 pW:Binds K A.fV ["self","things"] []
 avK:Meth K A.nA "__init__" A.cT
 pX:Fun K "__init__" "Deed.__init__" yK A.cU A.fW
 pY:Binds K A.fW ["self","things"] []
 avL:Meth K A.nD "__init__" A.cU
 pZ:Fun K "__init__" "Deed.__init__" yL A.cV A.fX
 qC:Binds K A.fX ["self","things"] []
 avM:Meth K A.nF "__init__" A.cV
 qD:Fun K "__init__" "Deed.__init__" yM A.cW A.fY
 qF:Binds K A.fY ["self","things"] []
 avN:Meth K A.nG "__init__" A.cW
 vI:Fun K "__init__" "Deed.__init__" a2Q A.eH A.j6
 vJ:Binds K A.j6 ["self","things"] []
 aB3:Meth K A.a75 "__init__" A.eH
 vK:Fun K "__init__" "Deed.__init__" a2R A.eN A.j7
 vL:Binds K A.j7 ["self","things"] []
 aB4:Meth K A.a76 "__init__" A.eN
 rW:FnT K mg "deed_by" ahB A.ahF A.a2A ["word","things"]
 oE:FnT K mg "deed_of" ahC A.ahG A.a2B ["text"]
 f9:FnT K mg "_law_refused" a03 A.a07 A.lG ["_law_text"]
 fB:FnT K mg "_law_is_deed" a04 A.a08 A.lH ["_law_text"]
 gF:FnT K mg "_law_spoilt" a2S A.a2V A.oO ["_law_deed_here","_law_cell"]
 aT6:FnT K mg "law" amD A.ad5 A.aGO ["_law_script"]
 aED:mg "Deed"=aj (.ref A.gG)
 aEE:OwC K A.mX
 aEF:cu K (.ref A.mX) (.ref A.gG)=aj ak
 aEG:Cls K A.mX
 aEH:Mk K A.mX A.cP
 aEI:mg "Come"=aj (.ref A.mX)
 aT7:OwC K A.a74
 aT8:cu K (.ref A.a74) (.ref A.gG)=aj ak
 aT9:Cls K A.a74
 aTA:Mk K A.a74 A.eG
 aTB:mg "Go"=aj (.ref A.a74)
 aEJ:OwC K A.mY
 aEK:cu K (.ref A.mY) (.ref A.gG)=aj ak
 aEL:Cls K A.mY
 aEM:Mk K A.mY A.cQ
 aEN:mg "Move"=aj (.ref A.mY)
 ayZ:OwC K A.iK
 az0:cu K (.ref A.iK) (.ref A.gG)=aj ak
 az1:Cls K A.iK
 az2:Mk K A.iK A.cI
 az3:mg "Count"=aj (.ref A.iK)
 aLW:OwC K A.vZ
 aLX:cu K (.ref A.vZ) (.ref A.gG)=aj ak
 aLY:Cls K A.vZ
 aLZ:Mk K A.vZ A.dI
 aM0:mg "Day"=aj (.ref A.vZ)
 apG:OwC K A.dD
 apH:cu K (.ref A.dD) (.ref A.gG)=aj ak
 apI:Cls K A.dD
 apJ:Mk K A.dD A.c7
 apK:mg "Promise"=aj (.ref A.dD)
 aEO:OwC K A.mZ
 aEP:cu K (.ref A.mZ) (.ref A.gG)=aj ak
 aEQ:Cls K A.mZ
 aER:Mk K A.mZ A.cR
 aES:mg "Drop"=aj (.ref A.mZ)
 aET:OwC K A.nA
 aEU:cu K (.ref A.nA) (.ref A.gG)=aj ak
 aEV:Cls K A.nA
 aEW:Mk K A.nA A.cT
 aEX:mg "Free"=aj (.ref A.nA)
 aEY:OwC K A.nD
 aEZ:cu K (.ref A.nD) (.ref A.gG)=aj ak
 aF0:Cls K A.nD
 aF1:Mk K A.nD A.cU
 aF2:mg "Keep"=aj (.ref A.nD)
 aF3:OwC K A.nF
 aF4:cu K (.ref A.nF) (.ref A.gG)=aj ak
 aF5:Cls K A.nF
 aF6:Mk K A.nF A.cV
 aF7:mg "Wave"=aj (.ref A.nF)
 aF8:OwC K A.nG
 aF9:cu K (.ref A.nG) (.ref A.gG)=aj ak
 aFA:Cls K A.nG
 aFB:Mk K A.nG A.cW
 aFC:mg "Walk"=aj (.ref A.nG)
 aTC:OwC K A.a75
 aTD:cu K (.ref A.a75) (.ref A.gG)=aj ak
 aTE:Cls K A.a75
 aTF:Mk K A.a75 A.eH
 aTG:mg "In"=aj (.ref A.a75)
 aTH:OwC K A.a76
 aTI:cu K (.ref A.a76) (.ref A.gG)=aj ak
 aTJ:Cls K A.a76
 aTK:Mk K A.a76 A.eN
 aTL:mg "Of"=aj (.ref A.a76)
 adL:eV K A.mX "things"
 aa3:eV K A.iK "things"
 afY:eV K A.vZ "things"
 adM:eV K A.mZ "things"
 adN:eV K A.nA "things"
 aiW:eV K A.a74 "things"
 aiX:eV K A.a75 "things"
 adO:eV K A.nD "things"
 adP:eV K A.mY "things"
 aiY:eV K A.a76 "things"
 a67:eV K A.dD "things"
 adQ:eV K A.nG "things"
 adR:eV K A.nF "things"
 iU:ExT K mg "DepotError" A.iJ
 a1C:ExT K mg "NoPlan" A.a09
 a1D:ExT K mg "NoName" A.a5M
 a1E:ExT K mg "NoWare" A.a0A
 a68:ExT K mg "NoDay" A.a5N
 a69:ExT K mg "NoBin" A.a5O
 a6A:ExT K mg "NoLot" A.ab3
 tO:ExT K mg "NoAmount" A.xF
 a1F:ExT K mg "NoRoom" A.a5P
 oZ:ExT K mg "TooLittle" A.uQ
 a1G:ExT K mg "NoRule" A.a5Q
 p8:ExT K mg "NoPromise" A.uR
 a1H:ExT K mg "Broken" A.a5R
 tQ:ExT K mg "NotToday" A.xG
 pA:ExT K mg "StillOpen" A.uT
 lW:ExT K mg "NoRow" A.bG
 fL:ExC K A.bG
 a1I:cu K (.ref A.bG) (.type "ValueError")=aj ak
 gW:cu K (.ref A.bG) (.ref A.a5R)=aj ao
 cJ:um K (.ref A.bG) (.ref A.iJ)=aj ak
 fC:cu K (.ref A.bG) (.ref A.xF)=aj ao
 j8:cu K (.ref A.bG) (.ref A.a5O)=aj ao
 j9:cu K (.ref A.bG) (.ref A.a5N)=aj ao
 jA:cu K (.ref A.bG) (.ref A.ab3)=aj ao
 gY:cu K (.ref A.bG) (.ref A.a09)=aj ao
 dZ:cu K (.ref A.bG) (.ref A.uR)=aj ao
 gZ:cu K (.ref A.bG) (.ref A.a5P)=aj ao
 jB:cu K (.ref A.bG) (.ref A.bG)=aj ak
 iB:cu K (.ref A.bG) (.ref A.a5Q)=aj ao
 iC:cu K (.ref A.bG) (.ref A.a0A)=aj ao
 fD:cu K (.ref A.bG) (.ref A.xG)=aj ao
 eE:cu K (.ref A.bG) (.ref A.uT)=aj ao
 eF:cu K (.ref A.bG) (.ref A.uQ)=aj ao
 rY:∃t,mg "LETTERS"=aj (.str "ABCDEFGHIJKLMNOPQRSTUVWXYZ" t)
 oF:∃t,mg "FIGURES"=aj (.str "0123456789" t)
 iD:∃t,mg "MOST_FIGURES"=aj (.int 7 t)
 a6B:mg "FORMS"=aj (.ref A.rF)
 aFD:∀P,CDi P w K A.rF bK
 aiZ:mg "ValueError"=aq
 aTM:mg "all"=aq
 a94:mg "enumerate"=aq
 az4:mg "int"=aq
 iV:mg "isinstance"=aq
 a3O:mg "len"=aq
 aTN:mg "max"=aq
 aTO:mg "min"=aq
 aj0:mg "range"=aq
 amY:mg "str"=aq
 fM:mg "tuple"=aq
 aTP:mg "zip"=aq
end Law
namespace Law
open PySem PySem.Spec PyProof.Rows L2 L4 L5 L6
local macro_rules| `(tactic| walk_at "wp")=>`(tactic| first|(simp(maxSteps:=2000000) (implicitDefEqProofs:=false) (disch:=first|rfl|decide|assumption|omega) only[L5.aSD,L5.aL4,L5.aL5,L5.aSE,L5.aSF,L5.aSG,L5.x_raise,L5.x_c,L5.aL6,L5.aL7,L5.aXB,L5.aL8,L5.aDO,L5.aSI,L5.aXC,L5.aSJ,L5.aL9,L5.aLA,L5.aSK,L5.aSL,L5.aLB,L5.aSM,L5.aSN,L5.x_call,L5.aXD,L5.x_m,L5.aXE,L5.aDP,L5.ayA,L5.aLC,L5.aDQ,L5.aSH,L5.aKU,L5.aDN,L5.ayB,L5.aSO,L5.aLK,L5.aLL,L5.aE3,L5.aLM,L5.aLN,L5.x_lt,L5.aXF,L5.aXG,L5.aDR,L5.aDS,L5.aDT,L5.aDU,L5.aDV,L5.aDW,L5.aDX,L5.aDY,L5.oY,L5.aE0,L5.aE1,L5.aKV,L5.aKW,L5.aKX,L5.aKY,L5.aKZ,L5.aL0,L5.aL1,L5.aL2,L5.aL3,L5.am0,L5.aoX,L5.am1,L5.am2,L5.afG,L5.am3,L5.am4,L5.afH,L5.am5,L5.am6,L5.afI,L5.ap1,L5.ap2,L5.ap3,L5.am7,L5.ayF,L5.au9,L5.ap4,L5.aSS,L5.aST,L5.ap5,L5.auA,L6.aE5,L6.aSV,L6.aLO,L6.ayI,L6.aE7,L6.aLP,L6.aLQ,L6.aE8,L6.ayL,L6.arK,L6.aSX,L6.aSY,L6.aLS,L6.aSW,L8.aLT,L8.aEB,L12.aEC,L19.aLU,L19.ayS,L19.aT2,L19.aT3,L19.aT4,L19.ap7,L11.ayQ,L7.aSZ,L7.aT1,reduceIte,reduceCtorEq];try dsimp only[L5.aoU,L5.aoV,L5.ay8,L5.ay9,L6.aiR])|dsimp only[L5.aoU,L5.aoV,L5.ay8,L5.ay9,L6.aiR])
local macro_rules| `(tactic| exists $ls,*)=>`(tactic| (simp(implicitDefEqProofs:=false) only[$[$ls:term],*];repeat (first|(walk_at "wp")|(simp(implicitDefEqProofs:=false) only[$[$ls:term],*]))))
local macro_rules| `(tactic| walk_at "wr")=>`(tactic| repeat (walk_at "wp"))
variable{j m:Nat}{c n i:Int}{b x:Str}{lo:Option Int}{ys:List Str}{F:cD}{ex:aL->aO}
section
variable{K:Fg}{A:aV}{G:Gp}{R:iG}{mg:Str->Option au}
open L7 L8 L9 L10 L11 L12 L19
variable{w:jg}
noncomputable def pts:List Nat->List (List Nat)
 |[]=>[[]]
 |c::r=>if c=32 then[]::pts r else(c::(pts r).headD [])::(pts r).tail
noncomputable def wds(l:List Nat):List (List Nat):=(pts l).filter (λz=>!z.isEmpty)
theorem aj1:∀l,pts l=(pts l).headD []::(pts l).tail
 |[]=>rfl
 |c::r=>by
  unfold pts;split<;>rfl
theorem wH:∀{w:List Nat},(∀c∈w,c≠32)->pts w=[w]
 |[],_=>rfl
 |c::r,h=>by
  have e:=wH λx hx=>h x (gb _ hx);unfold pts;rw[if_neg (h c (iz ..)),e];rfl
theorem a6C:∀a b:List Nat,pts (a++32::b)=pts a++pts b
 |[],b=>by
  show(if 32=32 then[]::pts b else _)=_;rw[if_pos rfl];rfl
 |c::r,b=>by
  show pts (c::(r++32::b))=_;rw[pts,pts,a6C r b];split
  ·rfl
  .rw[aj1 r];rfl
theorem ab4(a b:List Nat):wds (a++32::b)=wds a++wds b:=by
 unfold wds;rw[a6C,List.filter_append]
theorem arT{w:List Nat}(h:∀c∈w,c≠32)(hn:w≠[]):wds w=[w]:=by
 unfold wds;rw[wH h];cases w with
 |nil=>exact absurd rfl hn
 |cons c r=>rfl
theorem aFE:wds []=[]:=rfl
theorem aM1(l:List Nat):wds (l++[32])=wds l:=by
 rw[ab4,aFE,uh]
noncomputable abbrev fG:Str:=Str.ofString " "
theorem lX(x y:Str):(x++y).cps.toList=x.cps.toList++y.cps.toList:=Array.toList_append
theorem adS:∀(p:Str)(ps:List Str),(∀q∈p::ps,32∉q.cps.toList)->pts (Str.join fG (p::ps)).cps.toList=(p::ps).map (·.cps.toList)
 |p,[],h=>by
  show pts p.cps.toList=_;exact wH λc hc e=>h p (iz ..) (e ▸ hc)
 |p,q::r,h=>by
  have ih:=adS q r λx hx=>h x (gb _ hx);show pts (p++fG++Str.join fG (q::r)).cps.toList=_;rw[lX,lX,show fG.cps.toList=[32] by decide,su];show pts (p.cps.toList++32::(Str.join fG (q::r)).cps.toList)=_;rw[a6C,ih,wH λc hc e=>h p (iz ..) (e ▸ hc)];rfl
theorem auM(x:Str):(Txt.split x fG).map (·.cps.toList)=pts x.cps.toList:=by
 have e:=StrLaws.join_split x fG;have f:=StrLaws.split_free x 32;have p:=PyProof.Rows.split_pos x fG;rw[show(⟨#[32]⟩:Str)=fG by decide]at f;cases q:Txt.split x fG with
 |nil=>rw[q]at p;simp at p
 |cons a r =>
  rw[q]at e f;rw[←adS a r f,e]
noncomputable abbrev mkS(l:List Nat):Str:=⟨l.toArray⟩
theorem rO(x:Str):mkS x.cps.toList=x:=by
 obtain⟨⟨l⟩⟩:=x;rfl
theorem a1L(x:Str):Txt.split x fG=(pts x.cps.toList).map mkS:=by
 rw[←auM,a0m];have:(mkS∘λx:Str=>x.cps.toList)=id:=funext λx=>rO x;rw[this,a1z]
theorem aM2(l:List Nat):(!(mkS l==Str.ofString ""))=!l.isEmpty:=by
 cases l with
 |nil=>decide
 |cons c r =>
  have:mkS (c::r)≠Str.ofString "":=λe=>by
   have:=congrArg (λz:Str=>z.cps.toList.length) e;have e0:(Str.ofString "").cps.toList.length=0:=by decide
   rw[e0]at this;cases this
  rw[beq_eq_false_iff_ne.mpr this];rfl
theorem ahH(x:Str):(Txt.split x fG).filter (λz=>!(z==Str.ofString ""))=(wds x.cps.toList).map mkS:=by
 rw[a1L,List.filter_map];unfold wds;congr 1;exact List.filter_congr λl _=>aM2 l
theorem apL{z:Str}(hz:z.length<=20000)(h:∀p,∀G',Le G G'->G p=aq->G' p=aj (.lst (((wds (Txt.lower z).cps.toList).map mkS).map D.str))->R (.ref p) G'):uU K A [.str z] G R EX:=by
 have ll:=PyProof.Rows.len_lower z;have big:100000<cj:=by decide
 refine⟨rfl,?_⟩;show a4B K A _ _ [aj (.str z)] G;exists a4B;refine⟨PyProof.Rows.fit_lower (by omega),?_⟩;refine⟨rfl,?_⟩;have hs:=PyProof.Rows.split_le (Txt.lower z) fG;refine⟨by decide,by omega,by show(Txt.split (Txt.lower z) fG).length<=_;omega,λq hq=>?_⟩;walk_at "wr";rw[ayH oY];refine aiQ (λd=>match d with|.str u=>!(u==Str.ofString "")|_=>ao) id (by show((Txt.split (Txt.lower z) fG).map D.str).length<_;rw[dg];omega) oY (λd hd G' l Q h=>?_) (λd hd _ G' l Q h=>?_) λp hp=>?_
 .obtain⟨u,_,rfl⟩:=vh.mp hd;walk_at "wr";exact h _ (.refl _)
 .walk_at "wr";exact h _ (.refl _)
 .refine bH.here (h p _ ((Le.new hq).trans (.new hp)) ((Le.new hq).free hp) ?_);rw[aF];congr 2;rw[←ahH,a1z];show((Txt.split (Txt.lower z) fG).map D.str).filter _=_;rw[List.filter_map];rfl
noncomputable def zJ(c:Nat):Bool:=decide (48<=c)&&decide (c<=57)
theorem apM(c:Nat):(!(Builtin.Str.occurrences (Str.ofString "0123456789") ⟨#[c]⟩ 0 (Str.ofString "0123456789").length 1).isEmpty)=zJ c:=by
 rw[StrLaws.found_one,show(Str.ofString "0123456789").cps.toList=[48,49,50,51,52,53,54,55,56,57] by decide];unfold zJ;rw[←Bool.decide_and];apply decide_eq_decide.mpr;simp only[jc,rm,or_false];omega
theorem adT{cs:List Nat}:L2.signs ⟨cs.toArray⟩=cs.map sgD:=by
 unfold L2.signs;show List.map _ cs.toArray.toList=_;rfl
noncomputable def noB(z:Str):Bool:=decide (1<=z.length)&&(decide (z.length<=7)&&z.cps.toList.all zJ)
theorem an0{z:Str}(hl:z.length<=100000)(h:∀G',Le G G'->R (.bl (noB z)) G'):rK K A [.str z] G R EX:=by
 obtain⟨⟨cs⟩⟩:=z;have hln:(⟨cs.toArray⟩:Str).length=cs.length:=str_len;refine⟨rfl,?_⟩;have big:100000<cj:=by decide
 show a0Z K A _ _ [aj (.str _)] G;exists a0Z;refine⟨by omega,?_⟩;rw[hln];unfold noB at h;rw[hln]at h;by_cases c1:(1:Int)<=(cs.length:Int)
 .simp only[c1,decide_true,if_true];by_cases c2:(cs.length:Int)<=7
  .simp only[c2,decide_true,if_true];walk_at "wr";refine comp_map (λd=>match d with|.str z=>.bl (z.cps.toList.all zJ)|_=>.non) ?_ trivial (λd hd G' l Q hQ=>?_) λp hp=>?_
   .show(L2.signs _).length<_;rw[adT,dg];omega
   .have hd:d∈L2.signs _:=hd;rw[adT]at hd;obtain⟨c,hc,rfl⟩:=vh.mp hd;unfold sgD at hQ ⊢;walk_at "wr";rw[apM];have q:=hQ G' (.refl _);simp only[yj,List.all_nil,Bool.and_true]at q;exact q
   .show agY _ _ _
    have e1:((Src.imm (L2.signs ⟨cs.toArray⟩)).items.map λd=>match d with|D.str z=>D.bl (z.cps.toList.all zJ)|_=>D.non)=cs.map λc=>.bl (zJ c):=by
     show(L2.signs ⟨cs.toArray⟩).map _=_;rw[adT,a0m];apply a0o;intro c _;simp[sgD]
    rw[e1];rw[aE9 oY (by simp[atZ])]
    have e2:(cs.map λc=>D.bl (zJ c)).all au0=cs.all zJ:=by
     rw[a1c];rfl
    rw[e2];have c1':1<=cs.length:=by omega
    have c2':cs.length<=7:=by omega
    simp only[c1',c2',decide_true,Bool.true_and]at h;exact bH.here (h _ (.new hp))
  .simp only[c2,decide_false];walk_at "wr";have c2':¬ cs.length<=7:=by omega
   simp only[c2',decide_false,Bool.false_and,a2k]at h;exact bH.here (h _ (.refl _))
 .simp only[c1,decide_false];walk_at "wr";have c1':¬ 1<=cs.length:=by omega
  simp only[c1',decide_false,Bool.false_and]at h;exact bH.here (h _ (.refl _))
theorem az5{z:Str}(h:noB z=ak):∃n,PySem.intText? z=aj n/\z.length<=640:=by
 unfold noB at h;simp only[bh,decide_eq_true_eq]at h;obtain⟨h1,h2,h3⟩:=h;refine⟨_,PySem.intText_digits (λc hc=>?_) (λe=>?_) (by omega),by omega⟩
 .have:=iu.mp h3 c hc;unfold zJ at this;simpa using this
 .have:z.length=z.cps.toList.length:=by obtain⟨⟨l⟩⟩:=z;rfl
  rw[e]at this;simp at this;omega
theorem an1{z:Str}(hl:z.length<=100000)(h0:noB z=ao->∀G',Le G G'->EX A.bG G')(h1:noB z=ak->∀n G',Le G G'->R (.int n) G'):rM K A [.str z] G R EX:=by
 refine⟨rfl,?_⟩;show a1A K A _ _ [aj (.str z)] G;exists a1A;refine an0 hl λG1 l1=>?_;walk_at "wr";refine cL (λe=>?_) λe=>?_
 .exact iW.here (h0 (by simpa using e) _ l1)
 .have e:noB z=ak:=by simpa using e
  obtain⟨n,e1,e2⟩:=az5 e;exists a3L;exact⟨n,e1,e2,bH.here (h1 e n _ l1)⟩
theorem aM3{j:Str}{c:Nat}(h:(Builtin.Str.occurrences j ⟨#[c]⟩ 0 j.length 1).isEmpty=ao):∃k r,Builtin.Str.occurrences j ⟨#[c]⟩ 0 j.length 1=k::r:=by
 cases e:Builtin.Str.occurrences j ⟨#[c]⟩ 0 j.length 1 with
 |nil=>rw[e]at h;cases h
 |cons k r=>exact⟨k,r,rfl⟩
noncomputable def az6(j:Str)(c:Nat):Int:=match Builtin.Str.occurrences j ⟨#[c]⟩ 0 j.length 1 with
 |k::_=>k
 |[]=>0
theorem aj2{j:Str}{c:Nat}(h:(Builtin.Str.occurrences j ⟨#[c]⟩ 0 j.length 1).isEmpty=ao):wX (.str j) [.str ⟨#[c]⟩] G R=R (.int (az6 j c)) G:=by
 obtain⟨k,r,e⟩:=aM3 h;unfold wX az6;simp only[e]
theorem aM4{a b c:Nat}{k:Nat}{z:Nat}(h:([a,b,c]:List Nat)[k]?=aj z):bN (.str ⟨#[a,b,c]⟩) (.int (k:Int)) G R=R (.str ⟨#[z]⟩) G :=
 aE2 (l:=[a,b,c]) (by rw[uZ];exact h) (show 3<=cj by decide)
theorem aGP{a b c:Nat}:bN (.str ⟨#[a,b,c]⟩) (.int 0) G R=R (.str ⟨#[a]⟩) G:=aM4 (k:=0) rfl
theorem aGQ{a b c:Nat}:bN (.str ⟨#[a,b,c]⟩) (.int 1) G R=R (.str ⟨#[b]⟩) G:=aM4 (k:=1) rfl
theorem aGR{a b c:Nat}:bN (.str ⟨#[a,b,c]⟩) (.int 2) G R=R (.str ⟨#[c]⟩) G:=aM4 (k:=2) rfl
theorem aTQ{a b c:Nat}:aiA (.str ⟨#[a,b,c]⟩) (aj 1) aq G R=R (.str ⟨#[b,c]⟩) G:=by
 show(_/\R (.str (Txt.slice ⟨#[a,b,c]⟩ (aj 1) aq)) G)=_;rw[show Txt.slice ⟨#[a,b,c]⟩ (aj 1) aq=⟨#[b,c]⟩from a3Z (x:=⟨#[a,b,c]⟩) (a:=1) (show 1<=3 by decide)];exact propext ⟨λh=>h.2,λh=>⟨show 3<=cj by decide,h⟩⟩
noncomputable def inB(j:Str)(c:Nat):Bool:=!(Builtin.Str.occurrences j ⟨#[c]⟩ 0 j.length 1).isEmpty
noncomputable def nmB(a b c:Nat):Bool:=inB "ABCDEFGHIJKLMNOPQRSTUVWXYZ" a&&(inB "0123456789" b&&(inB "0123456789" c&&!((⟨#[b,c]⟩:Str)==("00":Str))))
theorem aXJ{z:Str}(h:z.length=3):∃a b c,z=⟨#[a,b,c]⟩:=by
 obtain⟨⟨l⟩⟩:=z
 match l,h with
 |[a,b,c],_=>exact⟨a,b,c,rfl⟩
theorem ahI{z:Str}(hz:z.length<=cj)(h0:z.length≠3->R (.bl ao) G)(h1:∀a b c,z=⟨#[a,b,c]⟩->R (.bl (nmB a b c)) G):nM K A [.str z] G R EX:=by
 refine⟨rfl,?_⟩;show a77 K A _ _ [aj (.str z)] G;exists a77;refine⟨hz,?_⟩;refine cL (λe=>bH.here (h0 ?_)) λe=>?_
 .intro z3;rw[z3]at e;simp at e
 .obtain⟨a,b,c,rfl⟩:=aXJ (z:=z) (by simp at e;omega);replace h1:=bH.here (h1 a b c rfl);exists a8Q,aGP,aGQ,aGR,aTQ;unfold nmB inB at h1;generalize (Builtin.Str.occurrences (Str.ofString "ABCDEFGHIJKLMNOPQRSTUVWXYZ") {cps:=#[a]} 0 (Str.ofString "ABCDEFGHIJKLMNOPQRSTUVWXYZ").length 1).isEmpty=x1 at *;generalize (Builtin.Str.occurrences (Str.ofString "0123456789") {cps:=#[b]} 0 (Str.ofString "0123456789").length 1).isEmpty=x2 at *;generalize (Builtin.Str.occurrences (Str.ofString "0123456789") {cps:=#[c]} 0 (Str.ofString "0123456789").length 1).isEmpty=x3 at *;cases x1<;>cases x2<;>cases x3<;>simpa using h1
theorem aM5{a b c:Nat}(h:nmB a b c=ak):(Builtin.Str.occurrences ("ABCDEFGHIJKLMNOPQRSTUVWXYZ":Str) ⟨#[a]⟩ 0 ("ABCDEFGHIJKLMNOPQRSTUVWXYZ":Str).length 1).isEmpty=ao/\(Builtin.Str.occurrences ("0123456789":Str) ⟨#[b]⟩ 0 ("0123456789":Str).length 1).isEmpty=ao/\(Builtin.Str.occurrences ("0123456789":Str) ⟨#[c]⟩ 0 ("0123456789":Str).length 1).isEmpty=ao/\((⟨#[b,c]⟩:Str)==("00":Str))=ao:=by
 unfold nmB inB at h;simp only[bh,gj]at h;exact⟨h.1,h.2.1,h.2.2.1,h.2.2.2⟩
noncomputable def pr(a b c:Nat):D:=.tup [.int (az6 "ABCDEFGHIJKLMNOPQRSTUVWXYZ" a),.int (10*az6 "0123456789" b+az6 "0123456789" c)]
theorem az8{z:Str}(hz:z.length<=cj)(h0:(∀a b c,z=⟨#[a,b,c]⟩->nmB a b c=ao)->EX A.a5M G)(h1:∀a b c,z=⟨#[a,b,c]⟩->nmB a b c=ak->R (pr a b c) G):a2C K A [.str z] G R EX:=by
 refine⟨rfl,?_⟩;show adB K A _ _ [aj (.str z)] G;exists adB;refine ahI hz (λe=>?_) λa b c e=>?_
 .walk_at "wr";exact iW.here (h0 λa b c e'=>by subst e';exact absurd rfl e)
 .subst e;walk_at "wr";refine cL (λe=>?_) λe=>?_
  .exact iW.here (h0 λa' b' c' e'=>by cases e';exact e)
  .have e':nmB a b c=ak:=by simpa using e
   obtain⟨e1,e2,e3,e4⟩:=aM5 e';exists adA,aGP,aGQ,aGR,aj2 e1,aj2 e2,aj2 e3;exact bH.here (h1 a b c rfl e')
noncomputable def nameB(z:Str):Bool:=match z.cps.toList with
 |[a,b,c]=>nmB a b c
 |_=>ao
theorem arU{a b c:Nat}:nameB ⟨#[a,b,c]⟩=nmB a b c:=rfl
set_option tactic.hygienic true in
theorem az9{z:Str}(h:z.length≠3):nameB z=ao:=by
 obtain⟨⟨l⟩⟩:=z;unfold nameB;split
 ·rename_i e;refine absurd ?_ h;show l.length=3;have e:l=_:=e;rw[e];rfl
 .rfl
theorem auN{z:Str}(hl:z.length<=20000)(h0:nameB (Txt.upper z)=ao->EX A.bG G)(h1:nameB (Txt.upper z)=ak->∀i j,R (.tup [.int i,.int j]) G):xJ K A [.str z] G R EX:=by
 have lu:=PyProof.Rows.len_upper z;have big:100000<cj:=by decide
 refine⟨rfl,?_⟩;show a78 K A _ _ [aj (.str z),aq] G;exists a78;refine⟨PyProof.Rows.fit_upper (by omega),?_⟩;exists a8S;refine ahI (by omega) (λe=>?_) λa b c e=>?_
 .walk_at "wr";exact iW.here (h0 (az9 e))
 .rw[e]at h0 h1 ⊢;rw[arU]at h0 h1;walk_at "wr";refine cL (λq=>iW.here (h0 (by simpa using q))) λq=>?_;have q:nmB a b c=ak:=by simpa using q
  exists a8R;refine az8 (show 3<=cj by decide) (λq2=>absurd (q.symm.trans (q2 a b c rfl)) (by decide)) λa' b' c' e' _=>?_;exact bH.here (h1 q _ _)
noncomputable def gT(k z:Str):Bool:=if k==Str.ofString "number" then noB z else if k==Str.ofString "bin" then nameB (Txt.upper z)else ak
theorem apO{z:Str}(hl:z.length<=20000)(h0:gT k z=ao->∀G',Le G G'->EX A.bG G')(h1:gT k z=ak->∀d G',Le G G'->R d G'):uV K A [.str k,.str z] G R EX:=by
 refine⟨rfl,?_⟩;show a4C K A _ _ [aj (.str k),aj (.str z)] G;unfold gT at h0 h1;exists a4C;refine cL (λe=>?_) λe=>?_
 .rw[if_pos e]at h0 h1;exact an1 (by omega) (λq G' l=>iW.here (h0 q G' l)) λq n G' l=>bH.here (h1 q _ G' l)
 .rw[if_neg e]at h0 h1;exists a5W;refine cL (λe=>?_) λe=>?_
  .rw[if_pos e]at h0 h1;exact auN hl (λq=>iW.here (h0 q G (.refl _))) λq i j=>bH.here (h1 q _ G (.refl _))
  .rw[if_neg e]at h0 h1;exists a5V;exact bH.here (h1 rfl _ G (.refl _))
theorem adU{α:Type}{xs:List α}{k:Nat}(h:k<=xs.length):cutD xs (aj (k:Int)) aq=xs.drop k:=by
 unfold L2.cutD;rw[HT.ahX,HT.ac5,a0u h,a1y];rw[uq];exact gw _
theorem apP{α:Type}{xs:List α}{k:Nat}(h:k<=xs.length):cutD xs aq (aj (k:Int))=xs.take k:=by
 unfold L2.cutD;rw[HT.ahX,HT.ac5,a0u h,List.drop_zero,Nat.sub_zero]
theorem tR{p:bx}{xs:List D}{hi:Option Int}(h:bQ G p=aj xs):aiA (.ref p) lo hi G R=∀q,G q=aq->R (.ref q) (aJ G q (.lst (cutD xs lo hi))):=by
 unfold aiA;simp only[h]
theorem ab5(h:bQ G q=aj (ys.map D.str))(hl:(ys.map (·.length)).sum+ys.length<=16777216)(k:R (.str (Txt.join fG ys)) G):jK (.str fG) [.ref q] G R:=by
 unfold jK;simp only[h,Option.bind_some,L12.strs_map];refine⟨?_,k⟩;rw[show fG.length=1 by decide];omega
noncomputable def wsum(ws:List Str):Nat:=(ws.map (·.length)).sum
theorem wI(a b:List Str):wsum (a++b)=wsum a+wsum b:=by
 unfold wsum;rw[oh,List.sum_append]
theorem adV:∀{ws:List Str}{x:Str},x∈ws->x.length<=wsum ws
 |y::r,x,h=>by
  show x.length<=(List.map _ (y::r)).sum;rw[jj,qg];rcases jc.mp h with rfl|h
  .omega
  .have:=adV h;unfold wsum at this;omega
theorem join_le:∀(ws:List Str),(Str.join fG ws).length<=wsum ws+ws.length
 |[]=>yh _
 |[x]=>by
  show x.length<=(List.map _ [x]).sum+1;simp
 |x::y::r=>by
  have ih:=join_le (y::r);show(x++fG++Str.join fG (y::r)).length<=(List.map _ (x::y::r)).sum+_;rw[len_app,len_app,show fG.length=1 by decide];rw[jj,qg,ig];unfold wsum at ih;omega
theorem adW:∀(ws:List Str),Txt.join fG ws=Str.join fG ws
 |[]=>rfl
 |x::r=>StrLaws.glued_cons fG r x
noncomputable def a1M(ks:List Str):Bool:=ks.any (· ==Str.ofString "rule")
noncomputable def jn(ks ws:List Str):List Str:=if a1M ks=ak/\ks.length<ws.length then ws.take (ks.length - 1)++[Txt.join fG (ws.drop (ks.length - 1))]else ws
def Sml(ws:List Str):Prop:=wsum ws+ws.length<=10000
theorem azA{ks ws:List Str}(hk:ks.length<=10)(hq:G q=aj (.lst (ws.map D.str)))(hs:Sml ws)(h:∀p G',Le G G'->G' p=aj (.lst ((jn ks ws).map D.str))->R (.ref p) G'):a2D K A [afF ks,.ref q] G R EX:=by
 have big:100000<cj:=by decide
 refine⟨rfl,?_⟩;show adD K A _ _ [aj (.tup (ks.map D.str)),aj (.ref q),aq] G;have hk1:(ks.map D.str).length=ks.length:=dg ..;exists adD;exists adC;have ea:((ks.map D.str).any λy=>eqP y (.str (Str.ofString "rule")))=a1M ks:=by rw[List.any_map];rfl
 refine⟨rfl,by rw[a1c];exact iu.mpr λ_ _=>rfl,?_⟩;rw[ea];walk_at "wr";refine cL (λe=>?_) λe=>?_
 .rw[lD (aM hq),dg];walk_at "wr";refine cL (λe2=>?_) λe2=>?_
  .have e2:ks.length<ws.length:=by simpa using e2
   have k0:0<ks.length:=by
    cases ks with
    |nil=>cases e
    |cons a r=>exact Nat.succ_pos _
   have ej:jn ks ws=ws.take (ks.length - 1)++[Txt.join fG (ws.drop (ks.length - 1))]:=by
    unfold jn;rw[if_pos ⟨e,e2⟩]
   rw[show(ks.length:Int) - 1=((ks.length - 1:Nat):Int) by omega];rw[tR (aM hq)];intro a ha;have q1:aJ G a (.lst (cutD (ws.map D.str) aq (aj ((ks.length - 1:Nat):Int)))) q=aj (.lst (ws.map D.str)):=bD hq ha;have l1:=Le.new (o:=GO.lst (cutD (ws.map D.str) aq (aj ((ks.length - 1:Nat):Int)))) ha
   have a1:aJ G a (.lst (cutD (ws.map D.str) aq (aj ((ks.length - 1:Nat):Int)))) a=aj (.lst ((ws.take (ks.length - 1)).map D.str)):=by
    rw[aF,apP (by rw[dg];omega),zy]
   generalize aJ G a _=G1 at q1 l1 a1 ⊢;rw[tR (aM q1)];intro b hb;have l2:=l1.trans (Le.new (o:=GO.lst (cutD (ws.map D.str) (aj ((ks.length - 1:Nat):Int)) aq)) hb);have a2:=Le.new (o:=GO.lst (cutD (ws.map D.str) (aj ((ks.length - 1:Nat):Int)) aq)) hb _ _ a1
   have b2:aJ G1 b (.lst (cutD (ws.map D.str) (aj ((ks.length - 1:Nat):Int)) aq)) b=aj (.lst ((ws.drop (ks.length - 1)).map D.str)):=by
    rw[aF,adU (by rw[dg];omega),a1K]
   generalize aJ G1 b _=G2 at l2 a2 b2 ⊢;refine ab5 (aM b2) ?_ ?_
   .have s:=wI (ws.take (ks.length - 1)) (ws.drop (ks.length - 1));rw[ur]at s;have l3:(ws.drop (ks.length - 1)).length<=ws.length:=by rw[uq];omega
    unfold Sml at hs;show wsum _+_<=_;omega
   .intro c hc;rw[a2M (bD a2 hc) aF (by rw[dg,pq];unfold Sml at hs;show _+1<=_;omega)];intro d hd;refine bH.here (h d _ ((l2.trans (.new hc)).trans (.new hd)) ?_);rw[aF,ej,oh];rfl
  .have e2:¬ ks.length<ws.length:=by simpa using e2
   exists a4D;refine bH.here (h q G (.refl _) ?_);rw[hq];unfold jn;rw[if_neg λz=>e2 z.2]
 .exists a4D;refine bH.here (h q G (.refl _) ?_);rw[hq];unfold jn;rw[if_neg λz=>e z.1]
theorem azB(hs:Sml ws):∀z∈jn ks ws,z.length<=20000:=λz hz=>by
 unfold Sml at hs;unfold jn at hz;split at hz
 .rcases qm.mp hz with m|m
  .have:=adV (ud m);omega
  .rw[uf]at m;rw[m,adW];have s:=wI (ws.take (ks.length - 1)) (ws.drop (ks.length - 1));rw[ur]at s;have l3:(ws.drop (ks.length - 1)).length<=ws.length:=by rw[uq];omega
   have:=join_le (ws.drop (ks.length - 1));omega
 .have:=adV hz;omega
theorem an2{dv:D->Option (List D)}{src:Src}(v:D->List D)(g:D->Bool)(P:D->Prop)(hl:src.items.length<cj)(hok:src.ok G)(hv:∀d∈src.items,dv d=aj (v d))
  (he:∀d∈src.items,∀G',Le G G'->∀Q:D->Gp->Prop,(g d=ak->∀y G'',P y->Le G' G''->Q y G'')->te ((v d).map aj++ρ) G' Q)
  (h:src.items.all g=ak->∀p ds,G p=aq->ds.length=src.items.length->(∀y∈ds,P y)->R (.ref p) (aJ G p (.lst ds))):ah8 dv src pD te ρ G R:=by
 refine⟨hl,λp hp=>⟨λk ds G'=>ds.length=k/\(src.items.take k).all g=ak/\(∀y∈ds,P y)/\Le (aJ G p (.lst ds)) G',⟨rfl,rfl,(λy h=>nomatch h),.refl _⟩,λk ds G' hk ⟨e,a,b,l⟩=>?_,λk d ds G' hd ⟨e,a,b,l⟩=>?_,λds G' ⟨e,a,b,l⟩=>?_⟩⟩
 .exact⟨ayJ ((Le.new hp).trans l) hok,l p _ aF,by omega⟩
 .have hm:d∈src.items:=uc hd;refine⟨v d,hv d hm,?_⟩;rw[show ∀{ρ:aL}{G:Gp}{Q:Bool->Gp->Prop},pD ρ G Q=Q ak G from rfl,if_pos rfl];refine he d hm G' ((Le.new hp).trans l) _ λhg y G3 py l3=>?_;have l4:=l.trans l3;refine⟨l4 p _ aF,by simp[e],?_,λz hz=>?_,ap6 l4⟩
  .rw[a2l,hd,List.all_append,a];simp[hg]
  .rcases qm.mp hz with m|m
   .exact b z m
   .rw[uf]at m;exact m ▸ py
 .rw[a1W]at a;exact⟨_,l,h a p ds hp e b⟩
noncomputable def gP(d:D):Bool:=match d with
 |.tup [.str k,.str z]=>gT k z
 |_=>ao
noncomputable def zK(ks ws:List Str):Bool:=decide ((jn ks ws).length=ks.length)&&(ks.zip (jn ks ws)).all λz=>gT z.1 z.2
theorem aFG(xs ys:List Str):prs (xs.map D.str) (ys.map D.str)=(xs.zip ys).map λz=>D.tup [.str z.1,.str z.2]:=by
 unfold prs;rw[List.zip_map,a0m];rfl
theorem an3{ks ws:List Str}(hk:ks.length<=10)(hq:G q=aj (.lst (ws.map D.str)))(hs:Sml ws)(h0:zK ks ws=ao->∀G',Le G G'->EX A.bG G')(h1:zK ks ws=ak->∀p ds G',Le G G'->G' p=aj (.lst ds)->R (.ref p) G'):rN K A [afF ks,.ref q] G R EX:=by
 have big:100000<cj:=by decide
 refine⟨rfl,?_⟩;show a1B K A _ _ [aj (afF ks),aj (.ref q),aq] G;exists a1B;refine azA hk hq hs λp G1 l1 hp=>?_;exists a3N;rw[lD (aM hp),dg];rw[show afF ks=.tup (ks.map D.str)from rfl];walk_at "wr";refine cL (λe=>?_) λe=>?_
 .have e:¬ (jn ks ws).length=ks.length:=λz=>by rw[z]at e;simp at e
  refine iW.here (h0 ?_ _ l1);unfold zK;simp[e]
 .have e:(jn ks ws).length=ks.length:=by
   have:((jn ks ws).length:Int)=(ks.length:Int):=by simpa using e
   omega
  exists a3M;refine aE6 (ys:=(jn ks ws).map D.str) (aM hp) (by rw[dg,dg,e]) (by rw[a1c];exact iu.mpr λ_ _=>rfl) λa ha=>?_
  have la:Le G1 (aJ G1 a (.tpl (ks.map D.str))):=λb u hb=>by
   by_cases n:b=a
   .subst n;rcases ha with z|z
    .rw[z]at hb;cases hb
    .rw[aF,←z,hb]
   .rw[jD n];exact hb
  have it:(Src.zip a p (ks.map D.str) ((jn ks ws).map D.str)).items=(ks.zip (jn ks ws)).map λz=>D.tup [.str z.1,.str z.2]:=aFG _ _
  have ok:((ks.zip (jn ks ws)).map λz=>D.tup [.str z.1,.str z.2]).all gP=zK ks ws:=by
   rw[a1c];unfold zK;rw[decide_eq_true e,Bool.true_and];rfl
  refine an2 (λd=>match d with|.tup xs=>xs|_=>[]) gP (λ_=>True) ?_ ⟨aF,ab2 la (aM hp),by rw[dg,dg,e]⟩ (λd hd=>?_) (λd hd G' l Q hQ=>?_) λhg p2 ds hp2 _ _=>?_
  .rw[it,dg,List.length_zip];omega
  .rw[it]at hd;obtain⟨z,_,rfl⟩:=vh.mp hd;rfl
  .rw[it]at hd;obtain⟨z,hz,rfl⟩:=vh.mp hd;walk_at "wr";have l2:=(l1.trans la).trans l;refine apO (azB hs _ (a2c (show(z.1,z.2)∈_ from hz)).2) (λhb G2 l3=>?_) λhb d G2 l3=>hQ hb d G2 trivial l3;refine iW.here (h0 ?_ G2 (l2.trans l3));rw[←ok];cases q:List.all _ gP with
   |false=>rfl
   |true=>exact absurd ((iu.mp q _ hd).symm.trans hb) (by decide)
  .rw[it,ok]at hg;exact bH.here (h1 hg p2 ds _ ((l1.trans la).trans (.new hp2)) aF)
theorem aTR{x:bx}(hp:G p=aj (.lst ds))(hx:G x=aq)(h:∀G' fs,Le G G'->G' x=aj (.ins C fs)->R (.ref x) G'):uD 2 2 (λ_=>fH C (aB 0) (bR cZ (aA (aB 1) aC)) "things") [.ref x,.ref p] (aJ G x (.ins C [])) (λv G2=>v=.non/\R (.ref x) G2) EX:=by
 refine⟨rfl,?_⟩;show fH C (aB 0) (bR cZ (aA (aB 1) aC)) "things" _ [aj (.ref x),aj (.ref p)] (aJ G x (.ins C []));walk_at "wr";unfold cZ;simp only[aM (bD hp hx)];walk_at "wr";rw[aEA aF (by decide)];show bH (λv G2=>v=.non/\R (.ref x) G2) .non _;refine bH.here ⟨rfl,h _ _ (λq u e=>?_) aF⟩;have n:q≠x:=λz=>by rw[z,hx]at e;cases e
 rw[jD n,jD n];exact e
noncomputable def ahJ(A:aV):List bx:=[A.mX,A.a74,A.mY,A.iK,A.vZ,A.dD,A.mZ,A.nA,A.nD,A.nF,A.nG,A.a75,A.a76]
theorem auO(hp:G p=aj (.lst ds))(h:∀x C fs G',C∈ahJ A->Le G G'->G' x=aj (.ins C fs)->R (.ref x) G'):xK K A [.str z,.ref p] G R EX:=by
 refine⟨rfl,?_⟩;show a7C K A _ _ [aj (.str z),aj (.ref p)] G;have mk:∀C∈ahJ A,∀x,G x=aq->uD 2 2 (λ_=>fH C (aB 0) (bR cZ (aA (aB 1) aC)) "things") [.ref x,.ref p] (aJ G x (.ins C [])) (λv G2=>v=.non/\bH R (.ref x) G2) (iW EX):=λC hC x hx=>aTR hp hx λG' fs l e=>bH.here (h x C fs G' hC l e);unfold ahJ at mk;exists a7C;refine cL (λ_=>mk A.mX (by simp)) λ_=>?_;exists a90;refine cL (λ_=>mk A.a74 (by simp)) λ_=>?_;exists a8Z;refine cL (λ_=>mk A.mY (by simp)) λ_=>?_;exists a8Y;refine cL (λ_=>mk A.iK (by simp)) λ_=>?_;exists a8X;refine cL (λ_=>mk A.vZ (by simp)) λ_=>?_;exists a8W;refine cL (λ_=>mk A.dD (by simp)) λ_=>?_;exists a8V;refine cL (λ_=>mk A.mZ (by simp)) λ_=>?_;exists a8U;refine cL (λ_=>mk A.nA (by simp)) λ_=>?_;exists a8T;refine cL (λ_=>mk A.nD (by simp)) λ_=>?_;exists a65;refine cL (λ_=>mk A.nF (by simp)) λ_=>?_;exists a5Z;refine cL (λ_=>mk A.nG (by simp)) λ_=>?_;exists a5Y;refine cL (λ_=>mk A.a75 (by simp)) λ_=>?_;exists a5X;exact mk A.a76 (by simp)
theorem azC:∀{tb:List (Str×List Str)}{z:Str}{ks:List Str},tb.lookup z=aj ks->∃k,(k,ks)∈tb
 |(k,v)::r,z,ks,h=>by
  rw[qz]at h;split at h
  .cases h;exact⟨k,iz ..⟩
  .obtain⟨k',m⟩:=azC h;exact⟨k',gb _ m⟩
theorem aM6:∀p∈bK,p.2.length<=10:=by decide+kernel
noncomputable def okW(ws:List Str):Bool:=match ws with
 |[]=>ao
 |a::r=>match bK.lookup a with
  |none=>ao
  |some ks=>zK ks r
noncomputable def jC(z:Str):List Str:=(wds (Txt.lower z).cps.toList).map mkS
theorem lY:∀{a b:List Str},a.Sublist b->wsum a+a.length<=wsum b+b.length
 |_,_,.slnil=>gw _
 |_,_,.cons x h=>by
  have:=lY h;unfold wsum at this ⊢;rw[jj,qg,ig];omega
 |_,_,.cons₂ x h=>by
  have:=lY h;unfold wsum at this ⊢;rw[jj,qg,ig,jj,qg,ig];omega
theorem apQ{z:Str}(hz:z.length<=3000):Sml (jC z):=by
 have ll:=PyProof.Rows.len_lower z;have e:=ahH (Txt.lower z);have s:=lY (List.filter_sublist (p:=λz=>!(z==Str.ofString "")) (l:=Txt.split (Txt.lower z) fG));rw[e]at s;have t:=PyProof.Rows.split_weight (Txt.lower z) fG (by decide);unfold Sml jC;have t:wsum (Txt.split (Txt.lower z) fG)+_<=_:=t;omega
theorem ahK{z:Str}(hz:z.length<=3000)(h0:okW (jC z)=ao->∀G',Le G G'->EX A.bG G')(h1:okW (jC z)=ak->∀x C fs G',C∈ahJ A->Le G G'->G' x=aj (.ins C fs)->R (.ref x) G'):jL K A [.str z] G R EX:=by
 refine⟨rfl,?_⟩;show rR K A _ _ [aj (.str z),aq] G;exists rR;exists a93;refine apL (by omega) λq G1 l1 _ hq=>?_;have sm:=apQ hz;have hq:G1 q=aj (.lst ((jC z).map D.str)):=hq;generalize jC z=ws at h0 h1 sm hq;exists a92;rw[lD (aM hq),dg];walk_at "wr";cases ws with
 |nil=>exact iW.here (h0 rfl _ l1)
 |cons a r =>
  rw[if_neg (by simp;omega)];have i0:∀{R:iG},bN (.ref q) (.int 0) G1 R=R (.str a) G1:=xA (aM hq) (by rw[show(0:Int)=((0:Nat):Int)from rfl,uZ];rfl);rw[i0];walk_at "wr";unfold okW at h0 h1;cases lk:bK.lookup a with
  |none =>
   simp only[lk]at h0;exact iW.here (h0 trivial _ l1)
  |some ks =>
   simp only[lk]at h0 h1
   have k10:ks.length<=10:=by
    obtain⟨k,m⟩:=azC lk;exact aM6 _ m
   have sr:Sml r:=qj (lY (List.sublist_cons_self a r)) sm;rw[if_neg (show ¬ (aj ks).isSome=ao from λz=>nomatch z)];exists a91;rw[i0];walk_at "wr";rw[i0];refine aLV lk ?_;rw[tR (aM hq)];intro b hb
   have e:aJ G1 b (.lst (cutD ((a::r).map D.str) (aj 1) aq)) b=aj (.lst (r.map D.str)):=by
    rw[aF,show(1:Int)=((1:Nat):Int)from rfl,adU (by simp)];rfl
   refine an3 k10 e sr (λhn G' l=>iW.here (h0 hn G' ((l1.trans (.new hb)).trans l))) λhy p ds G' l hp=>?_;refine auO hp λx C fs G2 hC l2 hx=>?_;exact bH.here (h1 hy x C fs G2 hC (((l1.trans (.new hb)).trans l).trans l2) hx)
set_option tactic.hygienic true in
theorem auQ(hd:kn G d)(hn:∀z,d≠.str z)(h:EX A.bG G):jL K A [d] G R EX:=by
 refine⟨rfl,?_⟩;replace h:=iW.here h;show rR K A _ _ [aj d,aq] G;cases d
 case ref q=>exists rR,aoY hd;exact h
 case ty n=>simp[kn,tyD]at hd
 case str z=>exact absurd rfl (hn z)
 all_goals exists rR
 all_goals exact h
noncomputable def cellAt(ns:List Int)(k:Nat):Int:=if k<ns.length then ns.getD k 0 else if ns=[]then 0 else
 let m:=(ns.getD (k%ns.length) 0*48271+k*104729)%2147483647
 (m*m+48271*k)%2147483629
theorem a7E{ns:List Int}(hG:G a=aj (.rol (ns.map D.int))){k:Nat}(hk:k<1000)(h:R (.int (cellAt ns k)) G):bZ K A [.ref a,.int (k:Int)] G R EX:=by
 refine⟨rfl,?_⟩;replace h:=bH.here h;show sU K A _ _ [aj (.ref a),aj (.int k),aq] G;exists sU,lD (zY hG);by_cases c:k<ns.length
 .rw[if_pos (decide_eq_true (by omega))];have e:atI (ns.map D.int) (k:Int)=aj (.int (ns.getD k 0)):=by rw[uZ];simp[c,List.getD]
  rw[xA (zY hG) e];rw[show cellAt ns k=ns.getD k 0 by unfold cellAt;rw[if_pos c]]at h;exact h
 .rw[if_neg (by simp;omega)];exists wA,lD (zY hG);by_cases hn:ns=[]
  .subst hn;rw[show cellAt [] k=0 by unfold cellAt;simp]at h;exact h
  .have h0:0<(ns.length:Int):=by cases ns with
    |nil=>exact absurd rfl hn
    |cons n r=>simp
   have e0:((ns.length:Int)==0)=ao:=by simp;exact hn
   rw[e0];exists w6,lD (zY hG);have hm:k%ns.length<ns.length:=Nat.mod_lt _ (by omega)
   have e2:atI (ns.map D.int) ((k:Int)%(ns.length:Int))=aj (.int (ns.getD (k%ns.length) 0)):=by
    rw[←Int.natCast_emod,uZ];simp[hm,List.getD]
   rw[xA (zY hG) e2];exists w5
   have ec:cellAt ns k=((ns.getD (k%ns.length) 0*48271+(k:Int)*104729)%2147483647*((ns.getD (k%ns.length) 0*48271+(k:Int)*104729)%2147483647)+48271*(k:Int))%2147483629:=by
    unfold cellAt;rw[if_neg c,if_neg hn]
   rw[←ec];exact h
noncomputable def aa4(n k:Int):Int:=((n*48271+k*104729+11)%2147483647*((n*48271+k*104729+11)%2147483647)+48271*k+(n*48271+k*104729+11)%2147483647)%2147483629
theorem mK{k:Int}(h:R (.int (aa4 n k)) G):aX K A [.int n,.int k] G R EX:=by
 refine⟨rfl,?_⟩;replace h:=bH.here h;show a4A K A _ _ [aj (.int n),aj (.int k),aq] G;exists a4A,a5S;exact h
def Pl(d:D):Prop:=∃x y g:Int,d=.tup [.int x,.int y,.int g]/\1<=x/\x<=26/\1<=y/\y<=99
theorem aM7(h:∀d G',Pl d->Le G G'->R d G'):rG K A [.int c] G R EX:=by
 refine⟨rfl,?_⟩;have h':∀d G',Pl d->Le G G'->bH R d G':=λd G' p l=>bH.here (h d G' p l);clear h;show a0C K A _ _ [aj (.int c),aq,aq] G;exists a0C;refine cL (λ_=>?_) λ_=>?_
 .intro p hp;refine iY rfl (by decide) ?_;refine all_cons ?_ (all_cons ?_ (all_cons ?_ (all_cons ?_ all_nil)))
  all_goals
   exists a0B;exact h' _ _ ⟨_,_,_,rfl,by decide,by decide,by decide,by decide⟩ (.new hp)
 .exists a2W;exact h' _ _ ⟨_,_,_,rfl,by omega,by omega,by omega,by omega⟩ (.refl _)
def Bn(d:D):Prop:=∃a b:Int,d=.tup [.int a,.int b]/\(0<=a/\a<=25)/\(1<=b/\b<=99)
theorem azD(hd:Pl d)(h:∀d G',Bn d->Le G G'->R d G'):lJ K A [d,.int c] G R EX:=by
 obtain⟨x,y,g,rfl,x0,x1,y0,y1⟩:=hd;refine⟨rfl,?_⟩;have h':∀d G',Bn d->Le G G'->bH R d G':=λd G' p l=>bH.here (h d G' p l);clear h;show a0J K A _ _ [aj (.tup [.int x,.int y,.int g]),aj (.int c)] G;exists a0J;refine cL (λ_=>?_) λ_=>?_
 .exact h' _ _ ⟨_,_,rfl,by omega,by omega⟩ (.refl _)
 .exists a2Y;refine cL (λ_=>?_) λ_=>?_
  .intro p hp;refine iY rfl (by decide) ?_;exact all_cons (h' _ _ ⟨_,_,rfl,by decide,by decide⟩ (.new hp)) (all_cons (h' _ _ ⟨_,_,rfl,by omega,by omega⟩ (.new hp)) (all_cons (h' _ _ ⟨_,_,rfl,by decide,by omega⟩ (.new hp)) all_nil))
  .have nx:x≠0:=by omega
   have ny:y≠0:=by omega
   exists a2X;have a1:=vg (c / 23) nx;have a2:=qx (c / 23) (show 0<x by omega);have b1:=vg (c / 1009) ny;have b2:=qx (c / 1009) (show 0<y by omega);exact h' _ _ ⟨_,_,rfl,by omega,by omega⟩ (.refl _)
def Nb(d:D):Prop:=∃n:Int,d=.int n/\0<=n/\n<=9999999
theorem an4{m:Int}(m0:0<=m)(m1:m<=100)(h:∀d G',Nb d->Le G G'->R d G'):gU K A [.int c,.int m] G R EX:=by
 refine⟨rfl,?_⟩;have h':∀d G',Nb d->Le G G'->bH R d G':=λd G' p l=>bH.here (h d G' p l);clear h;show vA K A _ _ [aj (.int c),aj (.int m)] G;exists vA;refine cL (λ_=>?_) λ_=>?_
 .intro p hp;refine iY rfl (by decide) ?_;exact all_cons (h' _ _ ⟨_,rfl,by omega,by omega⟩ (.new hp)) (all_cons (h' _ _ ⟨_,rfl,by omega,by omega⟩ (.new hp)) (all_cons (h' _ _ ⟨_,rfl,by omega,by omega⟩ (.new hp)) (all_cons (h' _ _ ⟨_,rfl,by omega,by omega⟩ (.new hp)) all_nil)))
 .have nm:m+1≠0:=by omega
  exists yO;have a1:=vg (c / 4) nm;have a2:=qx (c / 4) (show 0<m+1 by omega);exact h' _ _ ⟨_,rfl,by omega,by omega⟩ (.refl _)
theorem azE(h:∀d G',Nb d->Le G G'->R d G'):lK K A [.int c,.int 50] G R EX:=by
 refine⟨rfl,?_⟩;have h':∀d G',Nb d->Le G G'->bH R d G':=λd G' p l=>bH.here (h d G' p l);clear h;show vB K A _ _ [aj (.int c),aj (.int 50)] G;exists vB;refine cL (λ_=>?_) λ_=>?_
 .intro p hp;refine iY rfl (by decide) ?_;exact all_cons (h' _ _ ⟨_,rfl,by decide,by decide⟩ (.new hp)) (all_cons (h' _ _ ⟨_,rfl,by decide,by decide⟩ (.new hp)) (all_cons (h' _ _ ⟨_,rfl,by decide,by decide⟩ (.new hp)) (all_cons (h' _ _ ⟨_,rfl,by decide,by decide⟩ (.new hp)) (all_cons (h' _ _ ⟨_,rfl,by decide,by decide⟩ (.new hp)) (all_cons (h' _ _ ⟨_,rfl,by decide,by decide⟩ (.new hp)) all_nil)))))
 .exists yP;rw[if_pos (by decide)];walk_at "wr";exact h' _ _ ⟨_,rfl,by omega,by omega⟩ (.refl _)
def Low(c:Nat):Prop:=(97<=c/\c<=122)∨(48<=c/\c<=57)∨c=45∨c=46
def Ls(z:Str):Prop:=∀c∈z.cps.toList,Low c
structure Wrd(z:Str):Prop where
 l1:1<=z.length
 l2:z.length<=20
 lo:Ls z
theorem Ls.app(a:Ls x)(b:Ls y):Ls (x++y):=λc hc=>by
 rw[lX]at hc;exact(qm.mp hc).elim (a c) (b c)
theorem Ls.from(a:Ls x){k:Nat}(h:k<=x.length):Ls (Txt.slice x (aj (k:Int)) aq)/\(Txt.slice x (aj (k:Int)) aq).length=x.length - k:=by
 rw[a3Z x h];refine⟨λc hc=>a c (yq (by simpa using hc)),?_⟩;show((x.cps.toList.drop k).toArray).size=_;simp;rfl
theorem Ls.to(a:Ls x){k:Nat}(h:k<=x.length):Ls (Txt.slice x aq (aj (k:Int)))/\(Txt.slice x aq (aj (k:Int))).length=k:=by
 rw[acY x h];refine⟨λc hc=>a c (ud (by simpa using hc)),?_⟩;show((x.cps.toList.take k).toArray).size=_;have:x.length=x.cps.size:=rfl;simp;omega
theorem apR{z:Str}(hz:z.length<=cj)(h:R (.str (Txt.slice z lo hi)) G):aiA (.str z) lo hi G R:=⟨hz,h⟩
theorem adX{j:Int}(h:∀z:Str,Ls z->z.length=1->R (.str z) G):bN (.str "abcdefghijklmnopqrstuvwxyz") (.int (j%26)) G R:=by
 have j0:=vg j (show(26:Int)≠0 by decide);have j1:=qx j (show(0:Int)<26 by decide);obtain⟨n,e⟩:=ou j0;have z:∀n:Fin 26,∃c:Fin 123,97<=c.val/\atI ("abcdefghijklmnopqrstuvwxyz":Str).cps.toList ((n.val:Nat):Int)=aj c.val:=by decide+kernel
 obtain⟨c,c1,c2⟩:=z ⟨n,by omega⟩;rw[e,aoW (c:=c.val) c2];refine⟨by decide+kernel,h _ (λd hd=>?_) rfl⟩;have:d=c.val:=by simpa using hd
 subst this;exact .inl ⟨c1,by omega⟩
theorem aj3{P:Str->Prop}:∀{ds:List D},(∀y∈ds,∃w,y=.str w/\P w)->∃ws:List Str,ds=ws.map D.str/\∀w∈ws,P w
 |[],_=>⟨[],rfl,λw h=>nomatch h⟩
 |d::r,h=>by
  obtain⟨w,rfl,hw⟩:=h _ (iz ..);obtain⟨ws,rfl,hs⟩:=aj3 λy hy=>h y (gb _ hy);exact⟨w::ws,rfl,λx hx=>(jc.mp hx).elim (λe=>e ▸ hw) (hs x)⟩
theorem aFH(h:∀p (ws:List Str) G',ws.length=3->(∀w∈ws,Wrd w)->Le G G'->G' p=aj (.lst (ws.map D.str))->R (.ref p) G'):oR K A [.int c] G R EX:=by
 have big:10000<cj:=by decide
 refine⟨rfl,?_⟩;have h':∀p (ws:List Str) G',ws.length=3->(∀w∈ws,Wrd w)->Le G G'->G' p=aj (.lst (ws.map D.str))->bH R (.ref p) G':=λp ws G' a b l e=>bH.here (h p ws G' a b l e);clear h;show xH K A _ _ [aj (.int c),aq,aq,aq,aq,aq] G;exists xH;exists a0I;have c0:=vg c (show(9:Int)≠0 by decide);have c1:=qx c (show(0:Int)<9 by decide);refine am8 (λk ρ G'=>∃z r2,ρ=[aj (.int c),aj (.str z),r2,aq,aq,aq]/\z.length=k/\Ls z/\G'=G) ⟨_,_,rfl,rfl,(λc hc=>nomatch hc),rfl⟩ (λk ρ G' hk ⟨z,_,e1,e2,e3,e4⟩=>?_) λρ G' ⟨z,_,e1,e2,e3,e4⟩=>?_
 .subst e1 e4;exists yN;refine mK ?_;walk_at "wr";refine adX λu lu l1=>?_;rw[cA (by omega)];walk_at "wr";exact⟨_,_,rfl,by rw[len_app];omega,e3.app lu⟩
 .subst e1 e4;have z1:1<=z.length:=by omega
  have z9:z.length<=9:=by omega
  exists a0H;refine⟨by omega,?_⟩;have nz:(1:Int)+(z.length:Int)≠0:=by omega
  walk_at "wr";have a0:=vg (c / 9) nz;have a1:=qx (c / 9) (show(0:Int)<1+(z.length:Int) by omega);obtain⟨k,ek⟩:=ou a0;rw[ek];have k1:k<=z.length:=by omega
  have hf:=e3.from k1;have ht:=e3.to k1;exists a0G;refine mK ?_;exists a0F,a0E;refine cL (λ_=>?_) λ_=>?_
  .refine auC (λy=>∃w,y=.str w/\Wrd w) (by show(oX 0 3).length<_;decide+kernel) trivial (λd hd G2 l Q hQ=>?_) λp ds hp hl hd=>?_
   .obtain⟨i,rfl⟩:∃i:Int,d=.int i:=by
     have hd:d∈oX 0 3:=hd;unfold oX at hd;obtain⟨i,_,rfl⟩:=vh.mp hd;exact⟨_,rfl⟩
    walk_at "wr";refine apR (by omega) ?_;refine adX λu lu l1=>?_;have lt:=ht.2;have lf:=hf.2;rw[cA (by omega)];refine apR (by omega) ?_;rw[cA (by rw[len_app];omega)];exact hQ _ _ ⟨_,rfl,⟨by rw[len_app,len_app];omega,by rw[len_app,len_app];omega,(ht.1.app lu).app hf.1⟩⟩ (.refl _)
   .obtain⟨ws,rfl,hw⟩:=aj3 hd;rw[dg]at hl;exact h' p ws _ hl hw (.new hp) aF
  .exists a0D;have lt:=ht.2;have lf:=hf.2;refine apR (by omega) ?_;refine adX λu lu l1=>?_;rw[cA (by omega)];refine apR (by omega) ?_;rw[cA (by rw[len_app];omega)];refine adX λv lv v1=>?_;rw[cA (by omega)];refine adX λv2 lv2 v21=>?_;rw[cA (by rw[len_app];omega)];intro p hp;refine h' p [_,_,_] _ rfl (λw hw=>?_) (.new hp) aF;simp only[jc,rm,or_false]at hw;rcases hw with rfl|rfl|rfl
   .exact⟨z1,by omega,e3⟩
   .exact⟨by rw[len_app,len_app];omega,by rw[len_app,len_app];omega,(ht.1.app lu).app hf.1⟩
   .exact⟨by rw[len_app,len_app];omega,by rw[len_app,len_app];omega,(lv.app e3).app lv2⟩
def Rul(ws:List Str):Prop:=ws≠[]/\ws.length<=8/\∀w∈ws,Wrd w
theorem Rul.sum:∀{ws:List Str},(∀w∈ws,Wrd w)->wsum ws<=20*ws.length
 |[],_=>yh _
 |x::r,h=>by
  have a:=Rul.sum λw hw=>h w (gb _ hw);have b:=(h x (iz ..)).l2;unfold wsum at a ⊢;rw[jj,qg,ig];omega
theorem adY{ws:List Str}(hl:G l=aj (.lst (ws.map D.str)))(hr:Rul ws)(h:F.rt (.str (Txt.join fG ws)) G):v7 K A ex F [r0,r1,r2,r3,aj (.ref l)] G:=by
 have s:=Rul.sum hr.2.2;have n:=hr.2.1;exists v7;refine ab5 (aM hl) ?_ h;show wsum ws+_<=_;omega
theorem aGS(h:G p=aj (.lst ((x::xs).map D.str))):bN (.ref p) (.int 0) G R=R (.str x) G:=xA (aM h) (by rw[show(0:Int)=((0:Nat):Int)from rfl,uZ];rfl)
theorem a6D{s:Str}(h1:1<=s.length)(h2:s.length<=20)(h3:(s.cps.toList.all λc=>(decide (97<=c)&&decide (c<=122))||c==45)=ak):Wrd s:=⟨h1,h2,λc hc=>by
 have:=iu.mp h3 c hc;simp only[a1l,bh,decide_eq_true_eq,beq_iff_eq]at this;unfold Low;omega⟩
theorem aM8(h3:G l3=aj (.lst ((x::xs).map D.str)))(h4:G l4=aj (.lst ((y::ys).map D.str)))(hx:Wrd x/\x.length<=10)(hy:Rul (y::ys))(hn:ys.length<=6)(h:∀ws G',Rul ws->Le G G'->F.rt (.str (Txt.join fG ws)) G'):v8 K A ex F [aj (.int c),r1,r2,aj (.ref l3),aj (.ref l4)] G:=by
 have big:10000<cj:=by decide
 exists v8;refine cL (λ_=>?_) λ_=>?_
 .rw[aGS h4];intro p1 n1;have g4:=bD (o:=.lst [D.str y]) h4 n1;have g3:=bD (o:=.lst [D.str y]) h3 n1;have l1:=Le.new (o:=.lst [D.str y]) n1;have q1:aJ G p1 (.lst [D.str y]) p1=aj (.lst ([y].map D.str)):=aF;generalize aJ G p1 _=G1 at g4 g3 l1 q1 ⊢;rw[a2M g4 q1 (by rw[dg,dg];simp;omega)];intro p2 n2;rw[show(y::ys).map D.str++[y].map D.str=(y::(ys++[y])).map D.str by simp];have k4:=bD (o:=.lst ((y::(ys++[y])).map D.str)) g4 n2;have k3:=bD (o:=.lst ((y::(ys++[y])).map D.str)) g3 n2;have l2:=l1.trans (Le.new (o:=.lst ((y::(ys++[y])).map D.str)) n2);have q2:aJ G1 p2 (.lst ((y::(ys++[y])).map D.str)) p2=aj (.lst ((y::(ys++[y])).map D.str)):=aF;generalize aJ G1 p2 _=G2 at k4 k3 l2 q2 ⊢;walk_at "wr";intro p3 n3;have e3:aJ G2 p3 (.lst [D.str "dew"]) p3=aj (.lst ([Str.ofString "dew"].map D.str)):=aF;have m3:=Le.new (o:=.lst [D.str "dew"]) n3;generalize aJ G2 p3 _=G3 at e3 m3 ⊢;walk_at "wr";rw[aGS (m3 _ _ k3),cA (by rw[show(Str.ofString "-").length=1 by decide];omega)];intro p4 n4;have e4:aJ G3 p4 (.lst [D.str (Str.ofString "-"++x)]) p4=aj (.lst ([Str.ofString "-"++x].map D.str)):=aF;have m4:=Le.new (o:=.lst [D.str (Str.ofString "-"++x)]) n4;generalize aJ G3 p4 _=G4 at e4 m4 ⊢;rw[a2M (m4 _ _ (m3 _ _ k4)) e4 (by rw[dg,dg];simp;omega)];intro p5 n5;rw[show(y::ys).map D.str++[Str.ofString "-"++x].map D.str=(y::(ys++[Str.ofString "-"++x])).map D.str by simp];have e5:aJ G4 p5 (.lst ((y::(ys++[Str.ofString "-"++x])).map D.str)) p5=aj (.lst ((y::(ys++[Str.ofString "-"++x])).map D.str)):=aF;have m5:=Le.new (o:=.lst ((y::(ys++[Str.ofString "-"++x])).map D.str)) n5;generalize aJ G4 p5 _=G5 at e5 m5 ⊢;intro p6 n6;have e6:aJ G5 p6 (.lst [D.str (Str.ofString "--due")]) p6=aj (.lst ([Str.ofString "--due"].map D.str)):=aF;have m6:=Le.new (o:=.lst [D.str (Str.ofString "--due")]) n6;generalize aJ G5 p6 _=G6 at e6 m6 ⊢;intro p7 n7;have m7:=Le.new (o:=.lst [D.ref p2,.ref p3,.ref p5,.ref p6]) n7;have m35:=(m3.trans m4).trans m5;have m57:=m6.trans m7;have lz:=((l2.trans m35).trans m57);refine iY rfl (by decide) ?_
  have add:∀z,Wrd z->Rul (y::(ys++[z])):=λz hz=>⟨(λe=>nomatch e),by simp;omega,λw hw=>by
   rcases jc.mp hw with e|hw
   .exact hy.2.2 w (e ▸ iz ..)
   .rcases qm.mp hw with hw|hw
    .exact hy.2.2 w (gb _ hw)
    .rw[uf]at hw;exact hw ▸ hz⟩
  have one:∀z,Wrd z->Rul [z]:=λz hz=>⟨(λe=>nomatch e),by show 1<=8;decide,λw hw=>by rw[uf]at hw;exact hw ▸ hz⟩;have r2:=add y (hy.2.2 y (iz ..));have r3:=one (Str.ofString "dew") (a6D (by decide) (by decide) (by decide));have r5:=add (Str.ofString "-"++x) ⟨by rw[len_app];have:=hx.1.l1;omega,by rw[len_app,show(Str.ofString "-").length=1 by decide];omega,(a6D (s:=Str.ofString "-") (by decide) (by decide) (by decide)).lo.app hx.1.lo⟩;have r6:=one (Str.ofString "--due") (a6D (by decide) (by decide) (by decide));exact all_cons (adY (m57 _ _ (m35 _ _ q2)) r2 (h _ _ r2 lz)) (all_cons (adY (m57 _ _ (m5 _ _ (m4 _ _ e3))) r3 (h _ _ r3 lz)) (all_cons (adY (m57 _ _ e5) r5 (h _ _ r5 lz)) (all_cons (adY (m7 _ _ e6) r6 (h _ _ r6 lz)) all_nil)))
 .exact adY h4 hy (h _ _ hy (.refl _))
variable{xs:List Str}
theorem aM9(h3:G l3=aj (.lst ((x::xs).map D.str)))(hx:∀z∈x::xs,Wrd z/\z.length<=10)(hn:xs.length<=5)(h:∀ws G',Rul ws->Le G G'->F.rt (.str (Txt.join fG ws)) G'):oU K A ex F [aj (.int c),r1,r2,aj (.ref l3),r4] G:=by
 have big:10000<cj:=by decide
 exists oU;refine amA (aM h3) ?_
 have en:∀d∈(Src.enu l3 ((x::xs).map D.str)).items,∃(k:Nat)(z:Str),d=.tup [.int k,.str z]/\z∈x::xs:=λd hd=>by
  obtain⟨k,hk⟩:=List.mem_iff_getElem?.mp hd
  have kl:k<((x::xs).map D.str).length:=by
   have:=(jf.mp hk).1;rw[show(Src.enu l3 ((x::xs).map D.str)).items=enm ((x::xs).map D.str)from rfl,a1U]at this;exact this
  have e2:=aiK (gq kl);have e3:=hk.symm.trans e2;obtain⟨z,hz,ez⟩:=vh.mp (List.getElem_mem kl);rw[←ez]at e3;exact⟨k,z,mz.inj e3,hz⟩
 refine an2 (λd=>match d with|.tup xs=>xs|_=>[]) (λ_=>ak) (λy=>∃w,y=.str w/\Wrd w/\w.length<=11) ?_ (aM h3) (λd hd=>?_) (λd hd G' l Q hQ=>?_) λ_ p ds hp hl hd=>?_
 .show(enm _).length<_;rw[a1U,dg,ig];omega
 .obtain⟨k,z,rfl,_⟩:=en d hd;rfl
 .obtain⟨k,z,rfl,hz⟩:=en d hd;have wz:=hx z hz;walk_at "wr";intro q hq;refine mK ?_;walk_at "wr";refine iY rfl (by decide) (all_cons ?_ (all_cons ?_ all_nil))
  .show bB (.str (Str.ofString "")) (.str z) _ Q;rw[cA (by rw[show(Str.ofString "").length=0 by decide];omega)];exact hQ rfl _ _ ⟨_,rfl,⟨by rw[len_app];have:=wz.1.l1;omega,by rw[len_app,show(Str.ofString "").length=0 by decide];omega,Ls.app (λc hc=>nomatch hc) wz.1.lo⟩,by rw[len_app,show(Str.ofString "").length=0 by decide];omega⟩ (.new hq)
  .show bB (.str (Str.ofString "-")) (.str z) _ Q;rw[cA (by rw[show(Str.ofString "-").length=1 by decide];omega)];exact hQ rfl _ _ ⟨_,rfl,⟨by rw[len_app];have:=wz.1.l1;omega,by rw[len_app,show(Str.ofString "-").length=1 by decide];omega,(a6D (s:=Str.ofString "-") (by decide) (by decide) (by decide)).lo.app wz.1.lo⟩,by rw[len_app,show(Str.ofString "-").length=1 by decide];omega⟩ (.new hq)
 .obtain⟨ws,rfl,hw⟩:=aj3 hd;rw[dg,show(Src.enu l3 ((x::xs).map D.str)).items.length=(enm ((x::xs).map D.str)).length from rfl,a1U,dg,ig]at hl;cases ws with
  |nil=>simp at hl
  |cons y ys =>
   rw[ig]at hl;exact aM8 (bD h3 hp) aF (hx x (iz ..)) ⟨(λe=>nomatch e),by rw[ig];omega,λw m=>(hw w m).1⟩ (by omega) λws G' r l=>h ws G' r ((Le.new hp).trans l)
def Nms(ws:List Str):Prop:=ws.length=6/\∀z∈ws,Wrd z/\z.length<=10
theorem azF{ws:List Str}(hl:G l=aj (.lst (ws.map D.str)))(hw:Nms ws)(h:∀ws G',Rul ws->Le G G'->F.rt (.str (Txt.join fG ws)) G'):v9 K A ex F [aj (.int c),aj (.ref l),r2,r3,r4] G:=by
 exists v9;have k0:=vg (c / 12) (show(3:Int)≠0 by decide);have k1:=qx (c / 12) (show(0:Int)<3 by decide);obtain⟨k,ek⟩:=ou k0;rw[ek,show(1:Int)+(k:Int)=((1+k:Nat):Int) by omega,tR (aM hl)];intro p hp;rw[apP (by rw[dg,hw.1];omega),←zy]
 have fin:∀{G':Gp}{q:bx}{vs:List Str}{r1 r2 r4:Option D},Le G G'->G' q=aj (.lst (vs.map D.str))->vs≠[]->vs.length<=6->(∀z∈vs,Wrd z/\z.length<=10)->oU K A ex F [aj (.int c),r1,r2,aj (.ref q),r4] G':=λ{G' q vs _ _ _} l e n m w=>by
  cases vs with
  |nil=>exact absurd rfl n
  |cons x xs=>exact aM9 e w (by simpa using m) λws G2 r l2=>h ws G2 r (l.trans l2)
 exists a2Z;have nn:ws≠[]:=λe=>by have:=hw.1;rw[e]at this;cases this
 refine cL (λ_=>?_) λ_=>?_
 .exact fin (.new hp) (bD hl hp) nn (by rw[hw.1];decide) hw.2
 .refine fin (.new hp) aF (λe=>?_) (by rw[pq,hw.1];omega) λz hz=>hw.2 z (ud hz);have:=congrArg wk e;rw[pq,hw.1]at this;simp at this
theorem apS(h:∀ws G',Rul ws->Le G G'->R (.str (Txt.join fG ws)) G'):iM K A [.int c] G R EX:=by
 have big:10000<cj:=by decide
 refine⟨rfl,?_⟩;have h':∀ws G',Rul ws->Le G G'->bH R (.str (Txt.join fG ws)) G':=λws G' r l=>bH.here (h ws G' r l);clear h;show a0K K A _ _ [aj (.int c),aq,aq,aq,aq] G;exists a0K;intro p hp
 have nm:Nms [Str.ofString "due",Str.ofString "came",Str.ofString "amount",Str.ofString "aisle",Str.ofString "place",Str.ofString "lot"]:=⟨rfl,λz hz=>by
  simp only[jc,rm,or_false]at hz;rcases hz with rfl|rfl|rfl|rfl|rfl|rfl<;>exact⟨a6D (by decide) (by decide) (by decide),by decide⟩⟩
 have e0:aJ G p (.lst [D.str "due",D.str "came",D.str "amount",D.str "aisle",D.str "place",D.str "lot"]) p=aj (.lst ([Str.ofString "due",Str.ofString "came",Str.ofString "amount",Str.ofString "aisle",Str.ofString "place",Str.ofString "lot"].map D.str)):=aF;have l0:=Le.new (o:=.lst [D.str "due",D.str "came",D.str "amount",D.str "aisle",D.str "place",D.str "lot"]) hp;generalize aJ G p _=G1 at e0 l0 ⊢;generalize [Str.ofString "due",Str.ofString "came",Str.ofString "amount",Str.ofString "aisle",Str.ofString "place",Str.ofString "lot"]=ns at nm e0;exists a3C;have k0:=vg c (show(6:Int)≠0 by decide);have k1:=qx c (show(0:Int)<6 by decide);obtain⟨k,ek⟩:=ou k0;rw[ek];have kl:k<=(ns.map D.str).length:=by rw[dg,nm.1];omega
 exists a3B;rw[tR (aM e0)];intro a ha;have ea:aJ G1 a (.lst (cutD (ns.map D.str) (aj (k:Int)) aq)) a=aj (.lst ((ns.drop k).map D.str)):=by rw[aF,adU kl,←a1K]
 have la:=l0.trans (Le.new (o:=.lst (cutD (ns.map D.str) (aj (k:Int)) aq)) ha);have e1:=bD (o:=.lst (cutD (ns.map D.str) (aj (k:Int)) aq)) e0 ha;generalize aJ G1 a _=G2 at ea la e1 ⊢;rw[tR (aM e1)];intro b hb;have eb:aJ G2 b (.lst (cutD (ns.map D.str) aq (aj (k:Int)))) b=aj (.lst ((ns.take k).map D.str)):=by rw[aF,apP kl,←zy]
 have lb:=la.trans (Le.new (o:=.lst (cutD (ns.map D.str) aq (aj (k:Int)))) hb);have ea2:=bD (o:=.lst (cutD (ns.map D.str) aq (aj (k:Int)))) ea hb;generalize aJ G2 b _=G3 at eb lb ea2 ⊢;rw[a2M ea2 eb (by rw[dg,dg,uq,pq,nm.1];omega)];intro d hd;rw[←oh];have n2:Nms (ns.drop k++ns.take k):=⟨by rw[je,uq,pq,nm.1];omega,λz hz=>nm.2 z ((qm.mp hz).elim yq ud)⟩;exists a3A;refine cL (λ_=>?_) λ_=>?_
 .rw[aT0 oY];intro q hq;rw[←List.map_reverse];exact azF aF ⟨by rw[List.length_reverse];exact n2.1,λz hz=>n2.2 z (List.mem_reverse.mp hz)⟩ λws G' r l=>h' ws G' r (((lb.trans (.new hd)).trans (.new hq)).trans l)
 .exact azF aF n2 λws G' r l=>h' ws G' r ((lb.trans (.new hd)).trans l)
def Thk(k:Str)(d:D):Prop:=(k=Str.ofString "number"/\Nb d)∨(k=Str.ofString "bin"/\Bn d)∨(k=Str.ofString "ware"/\∃z,d=.str z/\Wrd z)∨(k=Str.ofString "rule"/\∃ws,d=.str (Txt.join fG ws)/\Rul ws)
noncomputable def Tks:List Str->List D->Prop
 |[],[]=>True
 |k::ks,d::ds=>Thk k d/\Tks ks ds
 |_,_=>False
def DD(wd:Str)(ds:List D):Prop:=∃ks,bK.lookup wd=aj ks/\Tks ks ds
instance {c:Nat}:Decidable (Low c):=by unfold Low;infer_instance
instance {z:Str}:Decidable (Ls z):=by unfold Ls;infer_instance
theorem k_n(h:Nb d):Thk (Str.ofString "number") d:=.inl ⟨rfl,h⟩
theorem k_b(h:Bn d):Thk (Str.ofString "bin") d:=.inr (.inl ⟨rfl,h⟩)
theorem k_w(h:Wrd z):Thk (Str.ofString "ware") (.str z):=.inr (.inr (.inl ⟨rfl,z,rfl,h⟩))
theorem k_r(h:Rul ws):Thk (Str.ofString "rule") (.str (Txt.join fG ws)):=.inr (.inr (.inr ⟨rfl,ws,rfl,h⟩))
theorem apT{t m8 n11 n12 n13 n14:Int}(hp:Pl pl)(hz:Wrd z)(h10:Bn d10)(h11:Nb (.int n11))(h12:Nb (.int n12))(h13:Nb (.int n13))(h14:Nb (.int n14))
  (h:∀wd ds p G',DD wd ds->Le G G'->G' p=aj (.lst ds)->F.rt (.tup [.str wd,.ref p]) G'):sV K A ex F [aj (.int c),aj pl,r2,r3,r4,r5,r6,aj (.int t),aj (.int m8),aj (.str z),aj d10,aj (.int n11),aj (.int n12),aj (.int n13),aj (.int n14)] G:=by
 have one:∀{wd:Str}{ds:List D}{G':Gp},DD wd ds->Le G G'->∀p,G' p=aq->F.rt (.tup [.str wd,.ref p]) (aJ G' p (.lst ds)):=λ{wd ds G'} a l p hp=>h wd ds p _ a (l.trans (.new hp)) aF;exists sV;refine cL (λ_=>one ⟨_,rfl,k_w hz,k_n h13,k_b h10,k_n h11,trivial⟩ (.refl _)) λ_=>?_;exists a0W;refine cL (λ_=>one ⟨_,rfl,k_n h12,k_b h10,k_n h11,trivial⟩ (.refl _)) λ_=>?_;exists a0V;refine cL (λ_=>?_) λ_=>?_
 .refine mK ?_;refine azD hp λd G1 hd l1=>?_;walk_at "wr";exact one ⟨_,rfl,k_n h12,k_b h10,k_b hd,k_n h11,trivial⟩ l1
 exists a0U;refine cL (λ_=>?_) λ_=>?_
 .refine one ⟨_,rfl,k_n h12,k_b h10,k_n ⟨_,rfl,?_,?_⟩,trivial⟩ (.refl _)
  all_goals rcases(show m8 / 261%3%2=0∨m8 / 261%3%2=1 by omega)with e|e<;>rw[e]<;>omega
 exists a0T;refine cL (λ_=>one ⟨_,rfl,trivial⟩ (.refl _)) λ_=>?_;exists a0S;refine cL (λ_=>one ⟨_,rfl,k_w hz,k_n h11,k_n h13,trivial⟩ (.refl _)) λ_=>?_;exists a0R;refine cL (λ_=>?_) λ_=>?_
 .intro p1 n1 p2 n2 p3 n3;refine iY rfl (by decide) ?_;have l12:=(Le.new (o:=.lst [D.int n14]) n1).trans (.new (o:=.lst [D.str z,D.int n13]) n2);have l3:=Le.new (o:=.lst [D.tup [.str (Str.ofString "drop"),.ref p1],.tup [.str (Str.ofString "free"),.ref p2]]) n3;exact all_cons (h _ [.int n14] p1 _ ⟨_,rfl,k_n h14,trivial⟩ (l12.trans l3) (l3 _ _ (bD aF n2))) (all_cons (h _ [.str z,.int n13] p2 _ ⟨_,rfl,k_w hz,k_n h13,trivial⟩ (l12.trans l3) (l3 _ _ aF)) all_nil)
 exists a0Q;refine cL (λ_=>one ⟨_,rfl,k_w hz,k_n h13,trivial⟩ (.refl _)) λ_=>?_;exists a0P;refine cL (λ_=>?_) λ_=>?_
 .refine mK ?_;refine apS λws G1 r l1=>?_;walk_at "wr";exact one ⟨_,rfl,k_n h14,k_r r,trivial⟩ l1
 exists a0O;refine cL (λ_=>?_) λ_=>?_
 .refine mK ?_;refine apS λws G1 r l1=>?_;walk_at "wr";exact one ⟨_,rfl,k_r r,trivial⟩ l1
 exists a0N;refine cL (λ_=>?_) λ_=>?_
 .refine mK ?_;refine apS λws G1 r l1=>?_;walk_at "wr";exact one ⟨_,rfl,k_r r,trivial⟩ l1
 exists a0M;refine cL (λ_=>one ⟨_,rfl,k_b h10,trivial⟩ (.refl _)) λ_=>?_;exists a0L;exact one ⟨_,rfl,k_w hz,trivial⟩ (.refl _)
theorem ahL{t m8:Int}(hp:Pl pl)(hz:Wrd z)
  (h:∀wd ds p G',DD wd ds->Le G G'->G' p=aj (.lst ds)->F.rt (.tup [.str wd,.ref p]) G'):oV K A ex F [aj (.int c),aj pl,aj (.int 50),r3,aj (.int 9),aj (.int 9),aj (.int 3),aj (.int t),aj (.int m8),aj (.str z),aq,aq,aq,aq,aq] G:=by
 exists oV;refine mK ?_;refine azD hp λd10 G1 h10 l1=>?_;exists a3G;refine mK ?_;refine azE λd G2 h11 l2=>?_;obtain⟨n11,rfl,b11⟩:=h11;exists a3F;refine mK ?_;walk_at "wr";rw[if_pos (by decide)];walk_at "wr";refine an4 (by decide) (by decide) λd G3 h12 l3=>?_;obtain⟨n12,rfl,b12⟩:=h12;exists a3E;refine mK ?_;exists a3D;refine mK ?_;walk_at "wr"
 have b13:∀n13:Int,0<=n13/\n13<=9999999->∀G4,Le G G4->sW K A ex F [aj (.int c),aj pl,aj (.int 50),r3,aj (.int 9),aj (.int 9),aj (.int 3),aj (.int t),aj (.int m8),aj (.str z),aj d10,aj (.int n11),aj (.int n12),aj (.int n13),aq] G4:=λn13 b13 G4 l4=>by
  exists sW;refine mK ?_;walk_at "wr";rw[if_pos (by decide)];walk_at "wr";refine an4 (by decide) (by decide) λd G5 h14 l5=>?_;obtain⟨n14,rfl,b14⟩:=h14;walk_at "wr";exact apT hp hz h10 ⟨_,rfl,b11⟩ ⟨_,rfl,b12⟩ ⟨_,rfl,b13⟩ ⟨_,rfl,b14⟩ λwd ds p G' a l e=>h wd ds p G' a ((l4.trans l5).trans l) e
 have lz:=(l1.trans l2).trans l3;refine cL (λ_=>?_) λ_=>?_
 .intro p hp;refine mK ?_;walk_at "wr";refine iY rfl (by decide) ?_;have lw:=lz.trans (Le.new (o:=.lst [D.int 0,D.int 9999,D.int 10000,D.int (if(0:Int)<3 - 1 then 3 - 1 else 0)]) hp);exact all_cons (b13 _ (by decide) _ lw) (all_cons (b13 _ (by decide) _ lw) (all_cons (b13 _ (by decide) _ lw) (all_cons (b13 _ (by decide) _ lw) all_nil)))
 .exact b13 _ (by omega) _ lz
theorem aMC{ws:List Str}(hp:Pl pl)(hr:G r=aj (.lst (ws.map D.str)))(hl:ws.length=3)(hw:∀w∈ws,Wrd w)
  (h:∀wd ds p G',DD wd ds->Le G G'->G' p=aj (.lst ds)->R (.tup [.str wd,.ref p]) G'):rH K A [.int c,pl,.int 50,.ref r,.int 9,.int 9,.int 3] G R EX:=by
 refine⟨rfl,?_⟩;have h':∀wd ds p G',DD wd ds->Le G G'->G' p=aj (.lst ds)->bH R (.tup [.str wd,.ref p]) G':=λwd ds p G' a l e=>bH.here (h wd ds p G' a l e);clear h;show a0X K A _ _ [aj (.int c),aj pl,aj (.int 50),aj (.ref r),aj (.int 9),aj (.int 9),aj (.int 3),aq,aq,aq,aq,aq,aq,aq,aq] G;exists a0X;exists a3J;refine mK ?_;generalize aa4 c 1=m8;exists a3I;refine ap0 (aM hr) (by omega) (by rw[dg,hl];omega) λd hd=>?_;obtain⟨z,hz,rfl⟩:=vh.mp hd;exists a3H;refine cL (λ_=>?_) λ_=>?_
 .refine⟨by unfold MulOk;decide,λq hq=>?_⟩;refine iY rfl (by decide) ?_;have go:∀{o:GO}{z:Str},Wrd z->oV K A (λ_=>iW EX) {nx:=λ_ G'=>bH R D.non G',rt:=bH R} [aj (.int c),aj pl,aj (.int 50),aj (.ref r),aj (.int 9),aj (.int 9),aj (.int 3),aj (.int (c%24)),aj (.int m8),aj (.str z),aq,aq,aq,aq,aq] (aJ G q o):=λhz=>ahL hp hz λwd ds p G' a l e=>h' wd ds p G' a ((Le.new hq).trans l) e;exact all_cons (go ⟨by decide,by decide,by decide⟩) (all_cons (go ⟨by decide,by decide,by decide⟩) (all_cons (go ⟨by decide,by decide,by decide⟩) all_nil))
 .exact ahL hp (hw z hz) h'
noncomputable def a4H(i:Int):Str:=Str.ofString (toString i)
noncomputable def aMD(p:Int):Str:=if(a4H p).length=1 then Str.ofString "0"++a4H p else a4H p
noncomputable def aME(a:Int):Str:=⟨#[(Str.ofString "ABCDEFGHIJKLMNOPQRSTUVWXYZ").cps.toList.getD a.toNat 0]⟩
noncomputable def ahM(a p:Int):Str:=aME a++aMD p
theorem azG(h:i.natAbs<10^7):(a4H i).length<=8:=by
 have:=PySem.int_text_length_le10 (a:=i) (k:=7) (by omega) h;unfold a4H;rw[PySem.ofString_length];omega
theorem ahN(h:i.natAbs<10^7):i.natAbs.log2<1920:=by
 by_cases z:i.natAbs=0
 .rw[z];decide
 .rw[Nat.log2_lt z];exact Nat.lt_trans h (by decide+kernel)
theorem aMF{a p:Int}(ha:0<=a/\a<=25)(hp:1<=p/\p<=99)(h:R (.str (ahM a p)) G):rJ K A [.tup [.int a,.int p]] G R EX:=by
 have big:10000<cj:=by decide
 refine⟨rfl,?_⟩;replace h:=bH.here h;show a0Y K A _ _ [aj (.tup [.int a,.int p]),aq] G;have tl:=azG (i:=p) (by omega);have hs:∀{R:iG},ah3 [.int p] G R=R (.str (a4H p)) G:=λ{R}=>propext ⟨λz=>z.2,λz=>⟨ahN (by omega),z⟩⟩;exists a0Y,hs
 have nm:∀z:Str,z.length<=9->bH R (.str (aME a++z)) G->vC K A (λ_=>iW EX) {nx:=λ_ G'=>bH R D.non G',rt:=bH R} [aj (.tup [.int a,.int p]),aj (.str z)] G:=by
  intro z zl hz;exists vC
  have hx:atI (Str.ofString "ABCDEFGHIJKLMNOPQRSTUVWXYZ").cps.toList a=aj ((Str.ofString "ABCDEFGHIJKLMNOPQRSTUVWXYZ").cps.toList.getD a.toNat 0):=by
   obtain⟨n,rfl⟩:∃n:Nat,a=(n:Int):=⟨a.toNat,by omega⟩
   have hn:n<(Str.ofString "ABCDEFGHIJKLMNOPQRSTUVWXYZ").cps.toList.length:=by
    rw[show(Str.ofString "ABCDEFGHIJKLMNOPQRSTUVWXYZ").cps.toList.length=26 by decide];omega
   rw[uZ,List.getD_eq_getElem?_getD,show(n:Int).toNat=n by omega,gq hn];rfl
  rw[aoW hx];refine⟨by rw[show(Str.ofString "ABCDEFGHIJKLMNOPQRSTUVWXYZ").length=26 by decide];omega,?_⟩;rw[cA (by rw[show(⟨#[(Str.ofString "ABCDEFGHIJKLMNOPQRSTUVWXYZ").cps.toList.getD a.toNat 0]⟩:Str).length=1 from rfl];omega)];exact hz
 exists a3K;unfold ahM aMD at h;by_cases c:(a4H p).length=1
 .rw[if_pos c]at h;refine⟨by omega,?_⟩;rw[if_pos (by simp[c])];rw[cA (by rw[show(Str.ofString "0").length=1 from rfl];omega)];exact nm _ (by rw[len_app,show(Str.ofString "0").length=1 from rfl];omega) h
 .rw[if_neg c]at h;refine⟨by omega,?_⟩;rw[if_neg (by simp;omega)];exact nm _ (by omega) h
theorem aMG:∀p:Fin 100,1<=p.val->aMD ((p.val:Nat):Int)=⟨#[48+p.val / 10,48+p.val%10]⟩:=by decide+kernel
theorem aMH:∀a:Fin 26,aME ((a.val:Nat):Int)=⟨#[65+a.val]⟩:=by decide+kernel
theorem arW{a p:Int}(ha:0<=a/\a<=25)(hp:1<=p/\p<=99):ahM a p=⟨#[65+a.toNat,48+p.toNat / 10,48+p.toNat%10]⟩:=by
 obtain⟨m,rfl⟩:=ou ha.1;obtain⟨n,rfl⟩:=ou (show 0<=p by omega);unfold ahM;rw[aMH ⟨m,by omega⟩,aMG ⟨n,by omega⟩ (by show 1<=n;omega)];rfl
theorem auR{a p:Int}(ha:0<=a/\a<=25)(hp:1<=p/\p<=99):nameB (Txt.upper (Txt.lower (ahM a p)))=ak:=by
 rw[arW ha hp];obtain⟨m,rfl⟩:=ou ha.1;obtain⟨n,rfl⟩:=ou (show 0<=p by omega);show nameB (Txt.upper (Txt.lower ⟨#[65+m,48+n / 10,48+n%10]⟩))=ak;have m25:m<=25:=by omega
 have n99:n<=99:=by omega
 have n1:1<=n:=by omega
 rw[PyProof.Rows.lower_ascii (by intro c hc;simp at hc;omega)]
 have e:(⟨(⟨#[65+m,48+n / 10,48+n%10]⟩:Str).cps.map PyProof.Rows.lo1⟩:Str)=⟨#[97+m,48+n / 10,48+n%10]⟩:=by
  rw[show(⟨(⟨#[65+m,48+n / 10,48+n%10]⟩:Str).cps.map PyProof.Rows.lo1⟩:Str)=⟨#[PyProof.Rows.lo1 (65+m),PyProof.Rows.lo1 (48+n / 10),PyProof.Rows.lo1 (48+n%10)]⟩ by simp];unfold PyProof.Rows.lo1;rw[if_pos (by omega),if_neg (by omega),if_neg (by omega),show 65+m+32=97+m by omega]
 rw[e,PyProof.Rows.upper_ascii (by intro c hc;simp at hc;omega)]
 have e2:(⟨(⟨#[97+m,48+n / 10,48+n%10]⟩:Str).cps.map PyProof.Rows.up1⟩:Str)=⟨#[65+m,48+n / 10,48+n%10]⟩:=by
  rw[show(⟨(⟨#[97+m,48+n / 10,48+n%10]⟩:Str).cps.map PyProof.Rows.up1⟩:Str)=⟨#[PyProof.Rows.up1 (97+m),PyProof.Rows.up1 (48+n / 10),PyProof.Rows.up1 (48+n%10)]⟩ by simp];unfold PyProof.Rows.up1;rw[if_pos (by omega),if_neg (by omega),if_neg (by omega),show 97+m - 32=65+m by omega]
 rw[e2,arU];unfold nmB inB;rw[show(!(Builtin.Str.occurrences (Str.ofString "0123456789") ⟨#[48+n / 10]⟩ 0 (Str.ofString "0123456789").length 1).isEmpty)=zJ (48+n / 10)from apM _];rw[show(!(Builtin.Str.occurrences (Str.ofString "0123456789") ⟨#[48+n%10]⟩ 0 (Str.ofString "0123456789").length 1).isEmpty)=zJ (48+n%10)from apM _];rw[StrLaws.found_one]
 have b0:((⟨#[48+n / 10,48+n%10]⟩:Str)==Str.ofString "00")=ao:=by
  refine beq_eq_false_iff_ne.mpr λz=>?_;have z':(#[48+n / 10,48+n%10]:Array Nat)=#[48,48]:=congrArg Str.cps z;simp at z';omega
 have m0:∀m:Fin 26,65+m.val∈(Str.ofString "ABCDEFGHIJKLMNOPQRSTUVWXYZ").cps.toList:=by decide+kernel
 rw[decide_eq_true (m0 ⟨m,by omega⟩)];unfold zJ;rw[decide_eq_true (show 48<=48+n / 10 by omega),decide_eq_true (show 48+n / 10<=57 by omega),decide_eq_true (show 48<=48+n%10 by omega),decide_eq_true (show 48+n%10<=57 by omega)];rw[b0];rfl
theorem arX{k:Nat}(k0:0<k)(h:m<10^k):(a4H ((m:Nat):Int)).length<=k/\1<=(a4H ((m:Nat):Int)).length/\(a4H ((m:Nat):Int)).cps.toList.all zJ=ak:=by
 have e:=PySem.W.KIN.signs_num m
 have l:(a4H ((m:Nat):Int)).length=(Nat.toDigits 10 m).length:=by
  have:=congrArg wk e;rw[dg]at this;exact this
 refine⟨by rw[l];exact(Nat.length_toDigits_le_iff (by decide) k0).mpr h,?_,?_⟩
 .rw[l];exact Nat.length_toDigits_pos
 .unfold a4H;rw[e,a1c,iu];intro c hc;have:=Nat.isDigit_of_mem_toDigits (b:=10) (by decide) (by decide) hc;have r:=PyProof.Rows.digit_range this;show zJ c.toNat=ak;unfold zJ;rw[decide_eq_true r.1,decide_eq_true r.2];rfl
theorem aMI{k:Nat}(h:m<=9999999)(hk:k=0∨(m<10000/\k<=2)):noB (Txt.mul (Str.ofString "0") ((k:Nat):Int)++a4H ((m:Nat):Int))=ak:=by
 have z:∀k:Fin 3,(Txt.mul (Str.ofString "0") ((k.val:Nat):Int)).length=k.val/\(Txt.mul (Str.ofString "0") ((k.val:Nat):Int)).cps.toList.all zJ=ak:=by decide+kernel
 obtain⟨z1,z2⟩:=z ⟨k,by omega⟩;unfold noB;rw[len_app,lX,List.all_append,z1,z2];show(decide (1<=k+_)&&(decide (k+_<=7)&&_))=ak;rcases hk with rfl|⟨a,b⟩
 .obtain⟨l1,l2,l3⟩:=arX (m:=m) (k:=7) (by decide) (by omega);rw[l3,decide_eq_true (by omega),decide_eq_true (by omega)];rfl
 .obtain⟨l1,l2,l3⟩:=arX (m:=m) (k:=4) (by decide) (by omega);rw[l3,decide_eq_true (by omega),decide_eq_true (by omega)];rfl
open PyProof.Rows (lo1 up1)
def Nbl(u:Str):Prop:=∀c∈u.cps.toList,c≠32/\c<128
noncomputable def zM(u:Str):List Nat:=u.cps.toList.map lo1
structure Wx(u:Str):Prop where
 l1:1<=u.length
 l2:u.length<=20
 nb:Nbl u
theorem adZ:∀c,c<128->lo1 (up1 c)=lo1 c/\lo1 (lo1 c)=lo1 c/\up1 c<128/\lo1 c<128/\(c≠32->up1 c≠32/\lo1 c≠32):=by decide+kernel
theorem arY{u v:Str}{f:Nat->Nat}(hu:Nbl u)(e:v=⟨u.cps.map f⟩)(h:∀c,c<128->c≠32->lo1 (f c)=lo1 c/\f c<128/\f c≠32):v.length=u.length/\Nbl v/\zM v=zM u:=by
 subst e;refine⟨Array.size_map ..,λc hc=>?_,?_⟩
 .have hc:c∈(u.cps.map f).toList:=hc;rw[a0n]at hc;obtain⟨d,hd,rfl⟩:=vh.mp hc;have a:=hu d hd;have b:=h d a.2 a.1;exact⟨b.2.2,b.2.1⟩
 .unfold zM;show(u.cps.map f).toList.map lo1=_;rw[a0n,a0m];exact a0o λc hc=>(h c (hu c hc).2 (hu c hc).1).1
theorem aGT{u:Str}(hu:Nbl u):(Txt.upper u).length=u.length/\Nbl (Txt.upper u)/\zM (Txt.upper u)=zM u:=arY hu (PyProof.Rows.upper_ascii λc hc=>(hu c hc).2) λc a b=>⟨(adZ c a).1,(adZ c a).2.2.1,((adZ c a).2.2.2.2 b).1⟩
theorem aTT{u:Str}(hu:Nbl u):(Txt.lower u).length=u.length/\Nbl (Txt.lower u)/\zM (Txt.lower u)=zM u:=arY hu (PyProof.Rows.lower_ascii λc hc=>(hu c hc).2) λc a b=>⟨(adZ c a).2.1,(adZ c a).2.2.2.1,((adZ c a).2.2.2.2 b).2⟩
theorem arZ(x y:Str):zM (x++y)=zM x++zM y:=by
 unfold zM;rw[lX,oh]
theorem Nbl.app(a:Nbl x)(b:Nbl y):Nbl (x++y):=λc hc=>by
 rw[lX]at hc;exact(qm.mp hc).elim (a c) (b c)
theorem aFI(hu:Wx u)(h:∀v,Wx v->zM v=zM u->R (.str v) G):fJ K A [.str u,.int c] G R EX:=by
 have big:10000<cj:=by decide
 have l1:=hu.l1;have l2:=hu.l2;refine⟨rfl,?_⟩;have h':∀v:Str,v.length=u.length/\Nbl v/\zM v=zM u->bH R (.str v) G:=λv ⟨a,b,e⟩=>bH.here (h v ⟨by omega,by omega,b⟩ e);clear h;show lM K A _ _ [aj (.str u),aj (.int c)] G;exists lM;refine cL (λ_=>⟨PyProof.Rows.fit_upper (by omega),h' _ (aGT hu.nb)⟩) λ_=>?_;exists rB;refine cL (λ_=>?_) λ_=>?_
 .refine apR (by omega) ?_;rw[show(1:Int)=((1:Nat):Int)from rfl,acY u l1]
  have e:mkS (u.cps.toList.take 1)++mkS (u.cps.toList.drop 1)=u:=by
   rw[←rO (mkS (u.cps.toList.take 1)++mkS (u.cps.toList.drop 1)),lX];show mkS (u.cps.toList.take 1++u.cps.toList.drop 1)=u;rw[ur,rO]
  have n1:Nbl (mkS (u.cps.toList.take 1)):=λc hc=>hu.nb c (ud hc);have n2:Nbl (mkS (u.cps.toList.drop 1)):=λc hc=>hu.nb c (yq hc);have a:=aGT n1;have le:=congrArg Str.length e;rw[len_app]at le;refine⟨rfl,PyProof.Rows.fit_upper (by show(mkS (u.cps.toList.take 1)).length<=_;omega),?_⟩;refine apR (by omega) ?_;rw[a3Z u l1];rw[cA (by show(Txt.upper (mkS (u.cps.toList.take 1))).length+(mkS (u.cps.toList.drop 1)).length<=_;omega)];refine h' _ ⟨?_,a.2.1.app n2,?_⟩
  .show(Txt.upper (mkS (u.cps.toList.take 1))++mkS (u.cps.toList.drop 1)).length=_;rw[len_app];omega
  .show zM (Txt.upper (mkS (u.cps.toList.take 1))++mkS (u.cps.toList.drop 1))=_;rw[arZ,a.2.2,←arZ,e]
 .exists rA;refine cL (λ_=>⟨PyProof.Rows.fit_lower (by omega),h' _ (aTT hu.nb)⟩) λ_=>?_;exists qZ;exact h' _ ⟨rfl,hu.nb,rfl⟩
def Tu(k:Str)(us:List Str):Prop:=(k=Str.ofString "number"/\∃u,us=[u]/\noB u=ak)∨(k=Str.ofString "bin"/\∃a p:Int,(0<=a/\a<=25)/\(1<=p/\p<=99)/\us=[ahM a p])∨(k=Str.ofString "ware"/\∃u,us=[u]/\Wrd u)∨(k=Str.ofString "rule"/\Rul us)
noncomputable def Tus:List Str->List Str->Prop
 |[],us=>us=[]
 |k::ks,us=>∃a b,us=a++b/\Tu k a/\Tus ks b
theorem Tus.snoc:∀{ks us k a},Tus ks us->Tu k a->Tus (ks++[k]) (us++a)
 |[],us,k,a,h,t=>by
  have h:us=[]:=h;subst h;exact⟨a,[],by simp,t,rfl⟩
 |k0::ks,us,k,a,⟨x,y,e,t0,h⟩,t=>⟨x,y++a,by rw[e,su],t0,Tus.snoc h t⟩
theorem Tks.at:∀{ks:List Str}{ds:List D},Tks ks ds->ks.length=ds.length/\∀(i:Nat) k d,ks[i]?=aj k->ds[i]?=aj d->Thk k d
 |[],[],_=>⟨rfl,λi k d h=>by simp at h⟩
 |k::ks,d::ds,⟨h1,h2⟩=>by
  obtain⟨a,b⟩:=Tks.at h2;refine⟨by simp[a],λi k' d' e1 e2=>?_⟩;cases i with
  |zero=>simp at e1 e2;subst e1 e2;exact h1
  |succ i=>exact b i k' d' (by simpa using e1) (by simpa using e2)
theorem low_ne{z:Str}(h:Ls z):∀c∈z.cps.toList,c≠32:=λc hc=>by
 have:=h c hc;unfold Low at this;omega
theorem auS(h:Wrd z):Txt.split z fG=[z]:=by
 rw[a1L,wH (low_ne h.lo)];show[mkS z.cps.toList]=[z];rw[rO]
theorem apU(h:Rul ws):Txt.split (Txt.join fG ws) fG=ws:=by
 rw[adW,a1L];cases ws with
 |nil=>exact absurd rfl h.1
 |cons p ps =>
  rw[adS p ps λq hq z=>low_ne (h.2.2 q hq).lo 32 z rfl,a0m];have:(mkS∘λx:Str=>x.cps.toList)=id:=funext λx=>rO x;rw[this,a1z]
theorem aFJ{us:List Str}(hl:G l=aj (.lst (us.map D.str)))(n:us.length<=100)(hd:Thk k d)
  (h:∀l' a G',Tu k a->G' l'=aj (.lst ((us++a).map D.str))->(l'=l∨G l'=aq)->(∀q u,q≠l->G q=aj u->G' q=aj u)->F.nx [r0,aj (.int c),aj (.ref l'),aj d,r4,r5,r6,r7] G'):cN K A ex F [r0,aj (.int c),aj (.ref l),aj d,r4,r5,r6,r7] G:=by
 have big:100000<cj:=by decide
 have app:∀u:Str,Tu k [u]->F.nx [r0,aj (.int c),aj (.ref l),aj d,r4,r5,r6,r7] (aJ G l (.lst (us.map D.str++[.str u]))):=λu hu=>h l [u] _ hu (by rw[aF,oh];rfl) (.inl rfl) λq v nq e=>by rw[jD nq];exact e
 have cat:∀{z:Str}{a:List Str},z.length<=1000->Txt.split z fG=a->a.length<=10->Tu k a->d=.str z->(a1T (.str z) [.str fG] G λx G1=>bB (.ref l) x G1 λy G2=>F.nx [r0,aj (.int c),aj y,aj d,r4,r5,r6,r7] G2):=λ{z a} hz ea la ta ed=>by
  refine⟨by decide,by omega,by rw[ea];omega,λq hq=>?_⟩;rw[ea];dsimp only;rw[a2M (bD hl hq) aF (by rw[dg,dg];omega)];intro p hp;refine h p a _ ta (by rw[aF,oh]) (.inr ((Le.new hq).free hp)) λb u nb e=>bD (bD e hq) hp
 rcases hd with⟨rfl,m,rfl,m0,m1⟩|⟨rfl,a,b,rfl,ha,hb⟩|⟨rfl,z,rfl,hz⟩|⟨rfl,ws,rfl,hr⟩
 .obtain⟨j,rfl⟩:=ou m0;have hs:∀{R:iG},ah3 [.int (j:Int)] G R=R (.str (a4H (j:Int))) G:=λ{R}=>propext ⟨λz=>z.2,λz=>⟨ahN (by omega),z⟩⟩;exists cN,hs;rw[aiP,aM hl];refine⟨rfl,?_⟩
  obtain⟨k,ek,hk⟩:∃k:Nat,(c / 7%3*if decide ((j:Int)<10000)=ak then 1 else 0)=(k:Int)/\(k=0∨(j<10000/\k<=2)):=by
   by_cases q:(j:Int)<10000
   .rw[if_pos (decide_eq_true q)];exact⟨(c / 7%3).toNat,by omega,.inr ⟨by omega,by omega⟩⟩
   .rw[if_neg (by simpa using q)];exact⟨0,by omega,.inl rfl⟩
  rw[ek];have mo:∀k:Fin 3,MulOk (Str.ofString "0") ((k.val:Nat):Int):=by unfold MulOk;decide
  have no:=aMI (m:=j) (by omega) hk
  have ll:(Txt.mul (Str.ofString "0") ((k:Nat):Int)++a4H ((j:Nat):Int)).length<=7:=by
   unfold noB at no;simp only[bh,decide_eq_true_eq]at no;exact no.2.1
  rw[len_app]at ll;refine⟨mo ⟨k,by omega⟩,?_⟩;rw[cA (by omega),am9 hl (by rw[dg];omega)];exact app _ (.inl ⟨rfl,_,rfl,no⟩)
 .exists cN;rw[aiP,aM hl];refine⟨rfl,aMF ha hb ?_⟩;walk_at "wr";rw[am9 hl (by rw[dg];omega)];exact app _ (.inr (.inl ⟨rfl,a,b,ha,hb,rfl⟩))
 .exists cN;exact cat (by have:=hz.l2;omega) (auS hz) (by show 1<=10;decide) (.inr (.inr (.inl ⟨rfl,z,rfl,hz⟩))) rfl
 .exists cN;have s:=Rul.sum hr.2.2;have jl:=join_le ws;have n8:=hr.2.1;exact cat (by rw[adW];omega) (apU hr) (by omega) (.inr (.inr (.inr ⟨rfl,hr⟩))) rfl
theorem Tu.len{us:List Str}(h:Tu k us):us.length<=8:=by
 rcases h with⟨_,u,rfl,_⟩|⟨_,a,p,_,_,rfl⟩|⟨_,u,rfl,_⟩|⟨_,r⟩
 .show 1<=8;decide
 .show 1<=8;decide
 .show 1<=8;decide
 .exact r.2.1
theorem Tus.len:∀{ks us},Tus ks us->us.length<=8*ks.length
 |[],us,h=>by
  have h:us=[]:=h;rw[h];exact yh _
 |k::ks,us,⟨a,b,e,t,h⟩=>by
  have x:=t.len;have y:=Tus.len h;rw[e,je,ig];omega
theorem azH{ks:List Str}(hp:G p=aj (.lst ds))(hk:Tks ks ds)(kn:ks.length<=10)(hl:G l=aj (.lst ([wd].map D.str)))(np:p≠l)
  (h:∀l' us r3 G',Tus ks us->G' l'=aj (.lst ((wd::us).map D.str))->(∀q u,q≠l->G q=aj u->G' q=aj u)->nH K A ex F [aj (.tup [.str wd,.ref p]),aj (.int c),aj (.ref l'),r3,r4,r5,r6,r7] G'):nJ K A ex F [aj (.tup [.str wd,.ref p]),aj (.int c),aj (.ref l),r3,r4,r5,r6,r7] G:=by
 obtain⟨kl,ka⟩:=hk.at;exists nJ;rw[auB (aM hp)];refine ayM (λi ρ G'=>∃l' us r3,ρ=[aj (.tup [.str wd,.ref p]),aj (.int c),aj (.ref l'),r3,r4,r5,r6,r7]/\Tus (ks.take i) us/\G' l'=aj (.lst ((wd::us).map D.str))/\(l'=l∨G l'=aq)/\∀q u,q≠l->G q=aj u->G' q=aj u) ⟨l,[],r3,rfl,rfl,hl,.inl rfl,λ_ _ _ e=>e⟩ (λi ρ G' ⟨l',us,_,e1,e2,e3,e4,e5⟩=>aM (e5 p _ np hp)) (λi d ρ G' hd ⟨l',us,_,e1,e2,e3,e4,e5⟩=>?_) λρ G' ⟨l',us,_,e1,e2,e3,e4,e5⟩=>?_
 .subst e1;have il:i<ks.length:=by rw[kl];exact(jf.mp hd).1
  have ul:=e2.len;rw[pq]at ul;walk_at "wr";refine aFJ e3 (by rw[ig];omega) (ka i _ d (gq il) hd) λl2 a G2 ta g1 g2 g3=>?_;refine⟨l2,us++a,_,rfl,?_,g1,?_,λq u nq e=>?_⟩
  .rw[a2l,gq il];exact e2.snoc ta
  .rcases g2 with rfl|g2
   .exact e4
   .by_cases z:l2=l
    .exact .inl z
    .refine .inr ?_;cases hq:G l2 with
     |none=>rfl
     |some u=>rw[e5 l2 u z hq]at g2;cases g2
  .refine g3 q u (λz=>?_) (e5 q u nq e);subst z;rcases e4 with z|z
   .exact nq z
   .rw[z]at e;cases e
 .subst e1;refine h l' us _ G' ?_ e3 e5;rw[←kl,a1W]at e2;exact e2
open PyProof.Rows (lo1 up1)
noncomputable def Flt(c:Int):Nat->List Str->List Nat
 |_,[]=>[]
 |i,v::vs=>v.cps.toList++(ji (1+(aa4 c (i:Int)%5 / 3).toNat) 32++Flt c (i+1) vs)
theorem Flt.snoc{c:Int}{v:Str}:∀{vs:List Str}{i:Nat},Flt c i (vs++[v])=Flt c i vs++(v.cps.toList++ji (1+(aa4 c ((i+vs.length:Nat):Int)%5 / 3).toNat) 32)
 |[],i=>by
  show v.cps.toList++(ji _ 32++[])=[]++_;rw[uh,List.nil_append];rfl
 |u::vs,i=>by
  show u.cps.toList++(_++Flt c (i+1) (vs++[v]))=(u.cps.toList++(_++Flt c (i+1) vs))++_;rw[Flt.snoc,su,su,ig,show i+1+vs.length=i+(vs.length+1) by omega]
theorem aj4(l:List Nat):∀m,wds (ji m 32++l)=wds l
 |0=>rfl
 |m+1=>by
  rw[List.replicate_succ];show wds ([]++32::(ji m 32++l))=_;rw[ab4,aj4 l m];rfl
theorem an6(h:Nbl v):∀c∈zM v,c≠32:=λc hc=>by
 obtain⟨d,hd,rfl⟩:=vh.mp hc;exact((adZ d (h d hd).2).2.2.2.2 (h d hd).1).2
theorem as3{c:Int}:∀{vs:List Str}{i:Nat},(∀v∈vs,Wx v)->wds ((Flt c i vs).map lo1)=vs.map zM
 |[],i,_=>rfl
 |v::vs,i,h=>by
  have hv:=h v (iz ..);have ih:=as3 (c:=c) (vs:=vs) (i:=i+1) λu hu=>h u (gb _ hu);show wds (List.map lo1 (v.cps.toList++(ji (1+_) 32++Flt c (i+1) vs)))=zM v::vs.map zM;rw[oh,oh,List.map_replicate,show lo1 32=32 by decide,Nat.add_comm 1,List.replicate_succ];show wds (zM v++32::(ji _ 32++_))=_;rw[ab4,aj4,ih,arT (an6 hv.nb) λe=>?_]
  .rfl
  .have:=congrArg wk e;unfold zM at this;rw[dg]at this;have l1:=hv.l1;have:v.length=0:=this;omega
theorem Flt.last{c:Int}:∀{vs:List Str}{i:Nat},vs≠[]->∃l,Flt c i vs=l++[32]
 |[],_,h=>absurd rfl h
 |[v],i,_=>⟨v.cps.toList++ji (aa4 c (i:Int)%5 / 3).toNat 32,by
  show v.cps.toList++(ji (1+_) 32++[])=_;rw[uh,Nat.add_comm 1,List.replicate_succ',su]⟩
 |v::u::vs,i,_=>by
  obtain⟨l,e⟩:=Flt.last (c:=c) (vs:=u::vs) (i:=i+1) λz=>nomatch z;refine⟨v.cps.toList++(ji (1+(aa4 c (i:Int)%5 / 3).toNat) 32++l),?_⟩;show v.cps.toList++(_++Flt c (i+1) (u::vs))=_;rw[e,su,su]
def Vs(us vs:List Str):Prop:=(∀v∈vs,Wx v)/\vs.map zM=us.map zM
theorem a6E{c:Int}:∀{vs:List Str}{i:Nat},(∀v∈vs,Wx v)->(Flt c i vs).length<=22*vs.length
 |[],_,_=>yh _
 |v::vs,i,h=>by
  have ih:=a6E (c:=c) (vs:=vs) (i:=i+1) λu hu=>h u (gb _ hu);have l2:=(h v (iz ..)).l2;have l2:v.cps.toList.length<=20:=l2;show(v.cps.toList++(ji _ 32++_)).length<=_;rw[je,je,xu,ig];omega
theorem aMJ:∀k:Fin 2,MulOk fG (1+(k.val:Int))/\(Txt.mul fG (1+(k.val:Int))).cps.toList=ji (1+k.val) 32:=by
 unfold MulOk;decide
theorem aFK{i:Nat}{z:Str}(hz:z.length<=5000)(hu:Wx u)(h:∀v y r7,Wx v->zM v=zM u->y.cps.toList=z.cps.toList++(v.cps.toList++ji (1+(aa4 c (i:Int)%5 / 3).toNat) 32)->F.nx [r0,aj (.int c),r2,r3,aj (.str y),aj (.int (i:Int)),aj (.str u),r7] G):lN K A ex F [r0,aj (.int c),r2,r3,aj (.str z),aj (.int (i:Int)),aj (.str u),r7] G:=by
 have big:10000<cj:=by decide
 exists lN;refine mK ?_;walk_at "wr";obtain⟨k,ek⟩:∃k:Fin 2,aa4 c (i:Int)%5 / 3=(k.val:Int):=⟨⟨(aa4 c (i:Int)%5 / 3).toNat,by omega⟩,by show _=((aa4 c (i:Int)%5 / 3).toNat:Int);omega⟩;obtain⟨m1,m2⟩:=aMJ k;rw[ek]at h ⊢;refine⟨m1,?_⟩
 have ml:(Txt.mul fG (1+(k.val:Int))).length<=2:=by
  show(Txt.mul fG (1+(k.val:Int))).cps.toList.length<=2;rw[m2,xu];omega
 exists rC;refine mK ?_;refine aFI hu λv hv e=>?_;have l2:=hv.l2;rw[cA (by omega),cA (by rw[len_app];show _+(Txt.mul fG (1+(k.val:Int))).length<=_;omega)];walk_at "wr";refine h v _ _ hv e ?_;rw[lX,lX,su];show _++(_++(Txt.mul fG (1+(k.val:Int))).cps.toList)=_;rw[m2];rfl
def Wrt(c:Int)(us:List Str)(z:Str):Prop:=∃(m:Nat)(vs:List Str),Vs us vs/\m<=3/\(c=0->m=0)/\((c / 126%2≠0/\z.cps.toList=ji m 32++Flt c 0 vs)∨(c / 126%2=0/\z.cps.toList++[32]=ji m 32++Flt c 0 vs))
theorem aFL{us:List Str}{z0:Str}(hl:G l=aj (.lst (us.map D.str)))(hu:∀u∈us,Wx u)(n0:us≠[])(n1:us.length<=100)(hm:m<=3)(hc:c=0->m=0)(hz:z0.cps.toList=ji m 32)
  (h:∀z,Wrt c us z->F.rt (.str z) G):iQ K A ex F [r0,aj (.int c),aj (.ref l),r3,aj (.str z0),r5,r6,r7] G:=by
 have big:10000<cj:=by decide
 exists iQ;refine amA (aM hl) ?_;refine ayR (λi ρ G'=>∃vs z r5 r6 r7,ρ=[r0,aj (.int c),aj (.ref l),r3,aj (.str z),r5,r6,r7]/\vs.length=i/\Vs (us.take i) vs/\z.cps.toList=ji m 32++Flt c 0 vs/\G'=G) ⟨[],z0,r5,r6,r7,rfl,rfl,⟨(λv hv=>nomatch hv),rfl⟩,by rw[hz];show _=_++[];rw[uh],rfl⟩ (λi ρ G' ⟨vs,z,_,_,_,e1,e2,e3,e4,e5⟩=>by rw[e5];exact aM hl) (λi d ρ G' hd ⟨vs,z,_,_,_,e1,e2,e3,e4,e5⟩=>?_) λρ G' ⟨vs,z,_,_,_,e1,e2,e3,e4,e5⟩=>?_
 .subst e1 e5;rw[zx]at hd;cases hq:us[i]? with
  |none=>rw[hq]at hd;cases hd
  |some u =>
   rw[hq]at hd;cases hd;have il:i<us.length:=(jf.mp hq).1
   have zl:z.length<=5000:=by
    have a:=congrArg wk e4;have b:=a6E (c:=c) (i:=0) e3.1;rw[je,xu]at a;have a:z.length=_:=a;omega
   rw[ayL rfl];dsimp only[aiR,arK,aoU,aoV];refine aFK zl (hu u (uc hq)) λv y r7 hv ev ey=>?_;refine⟨vs++[v],y,_,_,_,rfl,by rw[je,e2];rfl,⟨λx hx=>?_,?_⟩,?_,rfl⟩
   .rcases qm.mp hx with hx|hx
    .exact e3.1 x hx
    .rw[uf]at hx;exact hx ▸ hv
   .rw[a2l,hq,oh,oh,e3.2];show _++[zM v]=_++[zM u];rw[ev]
   .rw[ey,e4,Flt.snoc,su,e2,Nat.zero_add]
 .subst e1 e5;rw[dg,a1W]at e3;rw[dg]at e2;have nv:vs≠[]:=λz=>by rw[z]at e2;exact n0 (List.length_eq_zero_iff.mp e2.symm)
  have zl:z.length<=5000:=by
   have a:=congrArg wk e4;have b:=a6E (c:=c) (i:=0) e3.1;rw[je,xu]at a;have a:z.length=_:=a;omega
  exists wC;refine cL (λe=>?_) λe=>?_
  .refine⟨by omega,apR (by omega) ?_⟩;obtain⟨x,ex⟩:=Flt.last (c:=c) (i:=0) nv;have ez:z.cps.toList=(ji m 32++x)++[32]:=by rw[e4,ex,su]
   have el:z.length=(ji m 32++x).length+1:=by
    have:=congrArg wk ez;rw[je]at this;exact this
   rw[show(z.length:Int) - 1=((z.length - 1:Nat):Int) by omega,acY z (Nat.sub_le _ _)];refine h _ ⟨m,vs,e3,hm,hc,.inr ⟨by simpa using e,?_⟩⟩;show z.cps.toList.take (z.length - 1)++[32]=_;rw[ez,show z.length - 1=(ji m 32++x).length by omega,List.take_left,←ez,e4]
  .exists wB;exact h z ⟨m,vs,e3,hm,hc,.inl ⟨by simpa using e,e4⟩⟩
theorem azI(h:Ls z):Nbl z:=λc hc=>by
 have:=h c hc;unfold Low at this;omega
theorem Tu.wx(h:Tu k us):∀u∈us,Wx u:=λx hx=>by
 rcases h with⟨_,u,rfl,hn⟩|⟨_,a,p,ha,hp,rfl⟩|⟨_,u,rfl,hw⟩|⟨_,r⟩
 .rw[uf]at hx;subst hx;unfold noB at hn;simp only[bh,decide_eq_true_eq]at hn;refine⟨hn.1,by omega,λc hc=>?_⟩;have:=iu.mp hn.2.2 c hc;unfold zJ at this;simp at this;omega
 .rw[uf]at hx;subst hx;rw[arW ha hp];refine⟨by show 1<=3;decide,by show 3<=20;decide,λc hc=>?_⟩;simp at hc;omega
 .rw[uf]at hx;subst hx;exact⟨hw.l1,hw.l2,azI hw.lo⟩
 .have hw:=r.2.2 x hx;exact⟨hw.l1,hw.l2,azI hw.lo⟩
theorem Tus.wx:∀{ks us},Tus ks us->∀u∈us,Wx u
 |[],us,h=>λu hu=>by
  have h:us=[]:=h;rw[h]at hu;cases hu
 |k::ks,us,⟨a,b,e,t,h⟩=>λu hu=>by
  rw[e]at hu;exact(qm.mp hu).elim (t.wx u) (Tus.wx h u)
theorem azJ:∀p∈bK,1<=p.1.length/\p.1.length<=20/\p.1.cps.toList.all (λc=>decide (c≠32)&&decide (c<128))=ak/\p.2.length<=10:=by decide+kernel
set_option tactic.hygienic true in
theorem rP:∀{tb:List (Str×List Str)}{z:Str}{ks:List Str},tb.lookup z=aj ks->(z,ks)∈tb
 |(k,v)::r,z,ks,h=>by
  rw[qz]at h;split at h
  .rename_i e;cases h;rw[beq_iff_eq]at e;subst e;exact iz ..
  .exact gb _ (rP h)
theorem ahO(hp:G p=aj (.lst ds))(hd:DD wd ds)(h:∀ks us z G',bK.lookup wd=aj ks->Tus ks us->Wrt c (wd::us) z->Le G G'->R (.str z) G'):dW K A [.tup [.str wd,.ref p],.int c] G R EX:=by
 obtain⟨ks,lk,tk⟩:=hd;obtain⟨w1,w2,w3,w4⟩:=azJ _ (rP lk)
 have wx:Wx wd:=⟨w1,w2,λc hc=>by
  have:=iu.mp w3 c hc;simpa using this⟩
 refine⟨rfl,?_⟩;have h':∀us z G',Tus ks us->Wrt c (wd::us) z->Le G G'->bH R (.str z) G':=λus z G' a b l=>bH.here (h ks us z G' lk a b l);clear h;show sX K A _ _ [aj (.tup [.str wd,.ref p]),aj (.int c),aq,aq,aq,aq,aq,aq] G;exists sX;intro l hl;have np:p≠l:=λz=>by rw[←z,hp]at hl;cases hl
 refine azH (bD hp hl) tk w4 aF np λl' us r3 G1 tu g1 g2=>?_;have lg:Le G G1:=λq u e=>g2 q u (λz=>by rw[z,hl]at e;cases e) (bD e hl);have ul:=tu.len;have w4:ks.length<=10:=w4;exists nH;intro q hq;refine iY rfl (by decide) ?_
 have go:∀(x:Str)(m0:Nat),m0<=3->(∀k:Fin 2,MulOk x (k.val:Int)/\(Txt.mul x (k.val:Int)).cps.toList=ji (m0*k.val) 32)->∀{o:GO},a87 (.str x) (.int (c / 63%2)) (aJ G1 q o) λv G2=>iQ K A (λ_=>iW EX) {nx:=λ_ G'=>bH R D.non G',rt:=bH R} [aj (.tup [.str wd,.ref p]),aj (.int c),aj (.ref l'),r3,aj v,aq,aq,aq] G2:=λx m0 m3 hk o=>by
  obtain⟨k,ek⟩:∃k:Fin 2,c / 63%2=(k.val:Int):=⟨⟨(c / 63%2).toNat,by omega⟩,by show _=((c / 63%2).toNat:Int);omega⟩;obtain⟨k1,k2⟩:=hk k;rw[ek,ayS];refine⟨k1,?_⟩;have kk:k.val=0∨k.val=1:=by omega
  refine aFL (m:=m0*k.val) (bD g1 hq) (λu hu=>(jc.mp hu).elim (λe=>e ▸ wx) (tu.wx u)) (λz=>nomatch z) (by rw[ig];omega) ?_ (λz=>?_) k2 λz wz=>h' us z _ tu wz (lg.trans (.new hq))
  .rcases kk with e|e<;>rw[e]<;>omega
  .subst z;rcases kk with e|e
   .rw[e];rfl
   .rw[e]at ek;exact absurd ek (by decide)
 exact all_cons (go _ 1 (by decide) (by unfold MulOk;decide)) (all_cons (go _ 2 (by decide) (by unfold MulOk;decide)) (all_cons (go _ 3 (by decide) (by unfold MulOk;decide)) all_nil))
open PyProof.Rows (lo1 up1)
theorem aj5{c:Int}:∀{vs:List Str}{i:Nat},(∀v∈vs,Wx v)->∀x∈Flt c i vs,x<128
 |[],_,_,x,hx=>nomatch hx
 |v::vs,i,h,x,hx=>by
  rcases qm.mp (show x∈v.cps.toList++(ji _ 32++Flt c (i+1) vs)from hx)with m|m
  .exact((h v (iz ..)).nb x m).2
  .rcases qm.mp m with m|m
   .rw[(List.mem_replicate.mp m).2];decide
   .exact aj5 (λu hu=>h u (gb _ hu)) x m
theorem as4(h:Nbl u):mkS (zM u)=Txt.lower u:=by
 rw[PyProof.Rows.lower_ascii λc hc=>(h c hc).2,←rO (⟨u.cps.map lo1⟩:Str)];show _=mkS (u.cps.map lo1).toList;rw[a0n];rfl
theorem azK{us:List Str}{z:Str}(hu:∀u∈us,Wx u)(n:us.length<=100)(h:Wrt c us z):z.length<=3000/\jC z=us.map Txt.lower:=by
 obtain⟨m,vs,v1,m3,_,hz⟩:=h;have vl:vs.length=us.length:=by have:=congrArg wk v1.2;simpa using this
 have fl:=a6E (c:=c) (i:=0) v1.1
 have asc:∀x∈ji m 32++Flt c 0 vs,x<128:=λx hx=>by
  rcases qm.mp hx with q|q
  .rw[(List.mem_replicate.mp q).2];decide
  .exact aj5 v1.1 x q
 have w0:wds ((ji m 32++Flt c 0 vs).map lo1)=us.map zM:=by
  rw[oh,List.map_replicate,show lo1 32=32 by decide,aj4,as3 v1.1,v1.2]
 have key:z.cps.toList.length<=3000/\(∀x∈z.cps.toList,x<128)/\wds (z.cps.toList.map lo1)=us.map zM:=by
  rcases hz with⟨_,e⟩|⟨_,e⟩
  .rw[e];exact⟨by rw[je,xu];omega,asc,w0⟩
  .refine⟨?_,λx hx=>asc x (e ▸ a0f _ hx),?_⟩
   .have:=congrArg wk e;rw[je,je,xu]at this;simp at this;have q:z.cps.size=z.cps.toList.length:=rfl;omega
   .rw[←w0,←e,oh];show _=wds (_++[32]);rw[aM1]
 refine⟨key.1,?_⟩;unfold jC;rw[PyProof.Rows.lower_ascii key.2.1];show(wds (z.cps.map lo1).toList).map mkS=_;rw[a0n,key.2.2,a0m];exact a0o λu hh=>as4 (hu u hh).nb
open PyProof.Rows (lo1 up1)
theorem aMK(h:noB u=ak):Txt.lower u=u:=by
 unfold noB at h;simp only[bh,decide_eq_true_eq]at h
 have d:∀c∈u.cps.toList,48<=c/\c<=57:=λc hc=>by
  have:=iu.mp h.2.2 c hc;unfold zJ at this;simpa using this
 rw[PyProof.Rows.lower_ascii λc hc=>by have:=d c hc;omega,←rO (⟨u.cps.map lo1⟩:Str)];show mkS (u.cps.map lo1).toList=u;rw[a0n,a0o (g:=id) λc hc=>?_,a1z,rO];have:=d c hc;unfold lo1;rw[if_neg (by omega)];rfl
theorem azL(z:Str):gT (Str.ofString "number") z=noB z:=by
 unfold gT;rw[if_pos (by decide)]
theorem aXM(z:Str):gT (Str.ofString "bin") z=nameB (Txt.upper z):=by
 unfold gT;rw[if_neg (by decide),if_pos (by decide)]
theorem aXN(z:Str):gT (Str.ofString "ware") z=ak:=by
 unfold gT;rw[if_neg (by decide),if_neg (by decide)]
theorem aFM(z:Str):gT (Str.ofString "rule") z=ak:=by
 unfold gT;rw[if_neg (by decide),if_neg (by decide)]
theorem Tu.good(h:Tu k us)(n:(k==Str.ofString "rule")=ao):∃u,us=[u]/\gT k (Txt.lower u)=ak:=by
 rcases h with⟨rfl,u,rfl,hn⟩|⟨rfl,a,p,ha,hp,rfl⟩|⟨rfl,u,rfl,hw⟩|⟨rfl,r⟩
 .exact⟨u,rfl,by rw[azL,aMK hn,hn]⟩
 .exact⟨_,rfl,by rw[aXM,auR ha hp]⟩
 .exact⟨_,rfl,aXN _⟩
 .exact absurd n (by decide)
theorem Tus.good:∀{ks us},Tus ks us->a1M ks=ao->us.length=ks.length/\(ks.zip (us.map Txt.lower)).all (λz=>gT z.1 z.2)=ak
 |[],us,h,_=>by
  have h:us=[]:=h;subst h;exact⟨rfl,rfl⟩
 |k::ks,us,⟨a,b,e,t,h⟩,n=>by
  unfold a1M at n;rw[a0q,Bool.or_eq_false_iff]at n;obtain⟨u,rfl,g⟩:=t.good n.1;obtain⟨l,r⟩:=Tus.good h n.2;subst e;refine⟨by rw[je,l,ig];simp[Nat.add_comm],?_⟩;show((k,Txt.lower u)::ks.zip (b.map Txt.lower)).all _=ak;rw[yj,r,Bool.and_true];exact g
theorem a6F:∀p∈bK,Txt.lower p.1=p.1/\p.2.length<=4/\((a1M p.2=ao/\p.1≠Str.ofString "keep"/\p.1≠Str.ofString "wave"/\p.1≠Str.ofString "walk")∨(p.2=[Str.ofString "rule"]/\(p.1=Str.ofString "wave" ∨ p.1=Str.ofString "walk"))∨(p.2=[Str.ofString "number",Str.ofString "rule"]/\p.1=Str.ofString "keep")):=by decide+kernel
theorem azM(h:a1M ks=ao):jn ks ws=ws:=by
 unfold jn;rw[if_neg λz=>by rw[h]at z;exact nomatch z.1]
theorem aXO{w:Str}:zK [Str.ofString "rule"] (w::ws)=ak:=by
 unfold zK jn;cases ws with
 |nil =>
  rw[if_neg λz=>absurd z.2 (by simp)];simp[aFM]
 |cons x r =>
  rw[if_pos ⟨by decide,by simp⟩];simp[aFM]
theorem aGU{w:Str}:zK [Str.ofString "number",Str.ofString "rule"] (u::w::ws)=noB u:=by
 unfold zK jn;cases ws with
 |nil =>
  rw[if_neg λz=>absurd z.2 (by simp)];simp[aFM,azL]
 |cons x r =>
  rw[if_pos ⟨by decide,by simp⟩];simp[aFM,azL]
theorem ae0(lk:bK.lookup wd=aj ks):okW (wd::r)=zK ks r:=by
 unfold okW;simp only[lk]
theorem aFN(lk:bK.lookup wd=aj ks)(h:Tus ks us):okW ((wd::us).map Txt.lower)=ak:=by
 obtain⟨e,_,c⟩:=a6F _ (rP lk);rw[jj,show Txt.lower wd=wd from e,ae0 lk];rcases c with c|c|c
 .unfold zK;obtain⟨l,g⟩:=h.good c.1;rw[azM c.1,g,dg,decide_eq_true l];rfl
 .have c:=c.1;subst c;obtain⟨a,b,e,t,h2⟩:=h;have h2:b=[]:=h2;subst h2 e;rw[uh];rcases t with⟨z,_⟩|⟨z,_⟩|⟨z,_⟩|⟨_,r⟩
  .exact absurd z (by decide)
  .exact absurd z (by decide)
  .exact absurd z (by decide)
  .cases a with
   |nil=>exact absurd rfl r.1
   |cons x xs=>exact aXO
 .have c:=c.1;subst c;obtain⟨a,b,e,t,a2,b2,e2,t2,h2⟩:=h;have h2:b2=[]:=h2;subst h2 e2 e;rw[uh];obtain⟨u,rfl,g⟩:=t.good (by decide);rw[azL]at g;rcases t2 with⟨z,_⟩|⟨z,_⟩|⟨z,_⟩|⟨_,r⟩
  .exact absurd z (by decide)
  .exact absurd z (by decide)
  .exact absurd z (by decide)
  .cases a2 with
   |nil=>exact absurd rfl r.1
   |cons x xs =>
    show zK _ (Txt.lower u::Txt.lower x::xs.map Txt.lower)=ak;rw[aGU,g]
open PyProof.Rows (lo1 up1)
theorem aXP:∀i:Fin 5,(aa4 0 ((i.val:Nat):Int)%5 / 3).toNat=0:=by decide+kernel
theorem as5:∀{vs:List Str}{i:Nat},(∀v∈vs,Wx v)->∃Y,pts (Flt 0 i vs)=(vs.take (5 - i)).map (·.cps.toList)++Y/\Y≠[]/\(vs.length<=5 - i->Y=[[]])
 |[],i,_=>⟨[[]],by simp;rfl,(λz=>nomatch z),λ_=>rfl⟩
 |v::vs,i,h=>by
  by_cases c:i<5
  .obtain⟨Y,e,n,k⟩:=as5 (vs:=vs) (i:=i+1) λu hu=>h u (gb _ hu);refine⟨Y,?_,n,λz=>k ?_⟩
   .show pts (v.cps.toList++(ji (1+(aa4 0 (i:Int)%5 / 3).toNat) 32++Flt 0 (i+1) vs))=_;rw[aXP ⟨i,c⟩];show pts (v.cps.toList++32::Flt 0 (i+1) vs)=_;rw[a6C,e,wH λc hc=>((h v (iz ..)).nb c hc).1,show 5 - i=5 - (i+1)+1 by omega,a1h];rfl
   .rw[ig]at z;omega
  .refine⟨pts (Flt 0 i (v::vs)),?_,?_,λz=>?_⟩
   .rw[show 5 - i=0 by omega];rfl
   .rw[aj1];exact λz=>nomatch z
   .rw[ig]at z;omega
set_option tactic.hygienic true in
theorem xM:∀{l:List Nat}{p:List Nat},p∈pts l->∀c∈p,c∈l/\c≠32
 |[],p,h,c,hc=>by
  have h:p∈[([]:List Nat)]:=h;rw[uf]at h;rw[h]at hc;cases hc
 |x::r,p,h,c,hc=>by
  unfold pts at h;split at h
  .rcases jc.mp h with e|h
   .rw[e]at hc;cases hc
   .exact⟨gb _ (xM h c hc).1,(xM h c hc).2⟩
  .rename_i nx;rcases jc.mp h with e|h
   .rw[e]at hc;rcases jc.mp hc with e|hc
    .rw[e];exact⟨iz ..,nx⟩
    .have m:(pts r).headD []∈pts r:=by
      have e:=aj1 r;revert e;generalize pts r=L;cases L with
      |nil=>intro e;cases e
      |cons a b=>intro _;exact iz ..
     exact⟨gb _ (xM m c hc).1,(xM m c hc).2⟩
   .have m:p∈pts r:=by
     rw[aj1 r];exact gb _ h
    exact⟨gb _ (xM m c hc).1,(xM m c hc).2⟩
structure Sw(wd:Str)(us ws:List Str)(v:Str)(vs Y:List Str):Prop where
 eq:ws=v::(vs++Y)
 hd:Txt.lower v=wd
 tl:vs.map Txt.lower=(us.take 4).map Txt.lower
 y0:us.length<=4->Y=[]
 wx:∀x∈v::vs,Wx x
 nb:∀x∈ws,Nbl x
 sm:wsum ws+ws.length<=2500
theorem aGV:∀{us vs:List Str},(∀v∈vs,Wx v)->(∀u∈us,Wx u)->vs.map zM=us.map zM->vs.map Txt.lower=us.map Txt.lower
 |[],[],_,_,_=>rfl
 |u::us,v::vs,hv,hu,e=>by
  rw[jj,jj]at e ⊢;have a:=(List.cons.inj e).1;have b:=aGV (λx hx=>hv x (gb _ hx)) (λx hx=>hu x (gb _ hx)) (List.cons.inj e).2;rw[b,←as4 (hv v (iz ..)).nb,←as4 (hu u (iz ..)).nb,a]
 |[],v::vs,_,_,e=>nomatch e
 |u::us,[],_,_,e=>nomatch e
theorem aTV{us:List Str}(ww:Wx wd)(lw:Txt.lower wd=wd)(hu:∀u∈us,Wx u)(n:us.length<=80)(h:Wrt 0 (wd::us) z):∃v vs Y,Sw wd us (Txt.split z fG) v vs Y:=by
 obtain⟨m,vs,v1,_,m0,hz⟩:=h;have m0:=m0 rfl;subst m0
 have e:z.cps.toList++[32]=Flt 0 0 vs:=by
  rcases hz with⟨c,_⟩|⟨_,e⟩
  .exact absurd rfl c
  .exact e
 have vl:vs.length=us.length+1:=by have:=congrArg wk v1.2;simpa using this
 have fl:=a6E (c:=0) (i:=0) v1.1
 have zl:z.length<=2000:=by
  have:=congrArg wk e;rw[je,List.length_singleton]at this;have q:z.length=z.cps.toList.length:=rfl;omega
 obtain⟨Y,e1,n1,k1⟩:=as5 (vs:=vs) (i:=0) v1.1
 have e2:pts z.cps.toList++[[]]=(vs.take 5).map (·.cps.toList)++Y:=by
  rw[←e1,←e,a6C];rfl
 have e3:Y=Y.dropLast++[Y.getLast n1]:=(List.dropLast_concat_getLast n1).symm
 have e4:pts z.cps.toList=(vs.take 5).map (·.cps.toList)++Y.dropLast:=by
  rw[e3,←su]at e2;exact(List.append_inj' e2 rfl).1
 have e5:Txt.split z fG=vs.take 5++Y.dropLast.map mkS:=by
  rw[a1L,e4,oh,a0m];have:(mkS∘λx:Str=>x.cps.toList)=id:=funext λx=>rO x;rw[this,a1z]
 have lo:=aGV v1.1 (λu hh=>(jc.mp hh).elim (λe=>e ▸ ww) (hu u)) v1.2;cases vs with
 |nil=>cases vl
 |cons v vs =>
  rw[jj,jj]at lo;refine⟨v,vs.take 4,Y.dropLast.map mkS,⟨e5,(List.cons.inj lo).1.trans lw,by rw[zy,zy,(List.cons.inj lo).2],λq=>?_,λx hx=>v1.1 x ?_,λx hx=>?_,?_⟩⟩
  .rw[k1 (by omega)];rfl
  .exact(jc.mp hx).elim (λe=>e ▸ iz ..) λm=>gb _ (ud m)
  .rw[a1L]at hx;obtain⟨p,hp,rfl⟩:=vh.mp hx;intro c hc;have q:=xM hp c hc;refine⟨q.2,aj5 (c:=0) (i:=0) v1.1 c ?_⟩;rw[←e];exact a0f _ q.1
  .have t:=PyProof.Rows.split_weight z fG (by decide);have t:wsum (Txt.split z fG)+_<=_:=t;omega
open PyProof.Rows (lo1 up1)
def Asc(z:Str):Prop:=∀c∈z.cps.toList,c<128
theorem auT{z:Str}(h:Asc z):jC z=(wds (z.cps.toList.map lo1)).map mkS:=by
 unfold jC;rw[PyProof.Rows.lower_ascii h];show(wds (z.cps.map lo1).toList).map mkS=_;rw[a0n]
theorem as6:∀{ws:List Str},(∀x∈ws,Asc x)->Asc (Str.join fG ws)/\jC (Str.join fG ws)=ws.flatMap jC
 |[],_=>by
  have a:Asc (Str.join fG []):=λc hc=>nomatch hc;exact⟨a,by rw[auT a];rfl⟩
 |[x],h=>⟨h x (iz ..),by show jC x=[x].flatMap jC;simp⟩
 |x::y::r,h=>by
  obtain⟨a,e⟩:=as6 (ws:=y::r) λu hu=>h u (gb _ hu);have hx:=h x (iz ..)
  have l:(Str.join fG (x::y::r)).cps.toList=x.cps.toList++32::(Str.join fG (y::r)).cps.toList:=by
   show(x++fG++Str.join fG (y::r)).cps.toList=_;rw[lX,lX,show fG.cps.toList=[32] by decide,su];rfl
  have b:Asc (Str.join fG (x::y::r)):=λc hc=>by
   rw[l]at hc;rcases qm.mp hc with m|m
   .exact hx c m
   .rcases jc.mp m with m|m
    .rw[m];decide
    .exact a c m
  refine⟨b,?_⟩;rw[auT b,l,oh,jj,show lo1 32=32 by decide,ab4,oh,←auT hx,←auT a,e];rfl
theorem Wx.asc(h:Wx u):Asc u:=λc hc=>(h.nb c hc).2
theorem ahP{u:Str}(h:Nbl u)(n:1<=u.length):jC u=[Txt.lower u]:=by
 rw[auT λc hc=>(h c hc).2];show(wds (zM u)).map mkS=_;rw[arT (an6 h) λe=>?_]
 .show[mkS (zM u)]=_;rw[as4 h]
 .have:=congrArg wk e;unfold zM at this;rw[dg]at this;have:u.length=0:=this;omega
theorem aTW(h:Nbl u):(jC u).length<=1:=by
 by_cases n:1<=u.length
 .rw[ahP h n];exact gw _
 .rw[auT λc hc=>(h c hc).2,List.length_eq_zero_iff.mp (show u.cps.toList.length=0 from(show u.length=0 by omega))];exact yh _
theorem a7F:∀{vs:List Str},(∀v∈vs,Wx v)->vs.flatMap jC=vs.map Txt.lower
 |[],_=>rfl
 |v::vs,h=>by
  rw[vm,a7F λu hu=>h u (gb _ hu),ahP (h v (iz ..)).nb (h v (iz ..)).l1];rfl
def Bad(z:Str):Prop:=z.length<=3000/\okW (jC z)=ao
theorem wJ{ws:List Str}(a:∀x∈ws,Asc x)(s:wsum ws+ws.length<=3000)(h:okW (ws.flatMap jC)=ao):Bad (Txt.join fG ws):=by
 rw[adW];exact⟨qj (join_le ws) s,by rw[(as6 a).2,h]⟩
noncomputable def aj6(b:Str):Bool:=decide (1<=b.length)&&(decide (b.length<=20)&&b.cps.toList.all λc=>decide (c≠32)&&decide (c<128))
theorem a7G(h:aj6 b=ak):Wx b:=by
 unfold aj6 at h;simp only[bh,decide_eq_true_eq]at h;refine⟨h.1,h.2.1,λc hc=>?_⟩;have:=iu.mp h.2.2 c hc;simpa using this
theorem a6G{ks r:List Str}(h:a1M ks=ao∨r.length<=ks.length)(n:r.length≠ks.length):zK ks r=ao:=by
 have j:jn ks r=r:=by
  rcases h with h|h
  .exact azM h
  .unfold jn;rw[if_neg λz=>absurd z.2 (by omega)]
 unfold zK;rw[j,decide_eq_false n];rfl
theorem azN(h:bK.lookup b=aq):okW (b::r)=ao:=by
 unfold okW;simp only[h]
section
variable{ks us ws:List Str}{vs Y:List Str}
theorem Sw.asc(s:Sw wd us ws v vs Y):∀x∈ws,Asc x:=λx hx c hc=>(s.nb x hx c hc).2
theorem Sw.wv(s:Sw wd us ws v vs Y):jC v=[wd]:=by
 have h:=s.wx v (iz ..);rw[ahP h.nb h.l1,s.hd]
theorem Sw.vl(s:Sw wd us ws v vs Y):vs.length=min 4 us.length:=by
 have:=congrArg wk s.tl;rw[dg,dg,pq]at this;exact this
theorem aTX(s:Sw wd us ws v vs Y)(hb:aj6 b=ak)(hn:bK.lookup (Txt.lower b)=aq):Bad (Txt.join fG (b::ws.drop 1)):=by
 have w:=a7G hb;have q:=lY (a1t 1 ws);have sm:=s.sm;refine wJ (λx hx=>(jc.mp hx).elim (λe=>e ▸ w.asc) λm=>s.asc x (yq m)) ?_ ?_
 .unfold wsum at q sm ⊢;have:=w.l2;rw[jj,qg,ig];omega
 .rw[vm,ahP w.nb w.l1];exact azN hn
theorem aTY(s:Sw wd us ws v vs Y)(lk:bK.lookup wd=aj ks)(hr:a1M ks=ao)(hu:us.length=ks.length)(h4:us.length<=4)(hx:Asc x)(xl:x.length<=20)(x1:1<=(jC x).length)(j1:1<=j)(j2:j<=ws.length):Bad (Txt.join fG (ws.take j++x::ws.drop j)):=by
 have sm:=s.sm;have vl:=s.vl;have q:=wI (ws.take j) (ws.drop j);have ql:(ws.take j).length+(ws.drop j).length=ws.length:=by rw[←je,ur]
 rw[ur]at q;refine wJ (λy hy=>?_) ?_ ?_
 .rcases qm.mp hy with m|m
  .exact s.asc y (ud m)
  .rcases jc.mp m with m|m
   .exact m ▸ hx
   .exact s.asc y (yq m)
 .rw[wI,je,ig];have e:wsum (x::ws.drop j)=x.length+wsum (ws.drop j):=by unfold wsum;rw[jj,qg]
  omega
 .obtain⟨i,rfl⟩:∃i,j=i+1:=⟨j - 1,by omega⟩;have e:ws=v::vs:=by rw[s.eq,s.y0 h4,uh]
  rw[e,a1h,List.drop_succ_cons,List.cons_append,vm,s.wv,a0c];rw[ae0 lk];have wv:∀y∈vs,Wx y:=λy hy=>s.wx y (gb _ hy);refine a6G (.inl hr) ?_;rw[a2i,vm,a7F λy hy=>wv y (ud hy),a7F λy hy=>wv y (yq hy),je,je,dg,dg,pq,uq];have:i<=vs.length:=by rw[e,ig]at j2;omega
  omega
theorem aTZ(s:Sw wd us ws v vs Y)(lk:bK.lookup wd=aj ks)(hr:a1M ks=ao)(hu:us.length=ks.length)(h4:us.length<=4)(j1:1<=j)(j2:j<ws.length):Bad (Txt.join fG (ws.take j++ws.drop (j+1))):=by
 have sm:=s.sm;have vl:=s.vl
 have sub:(ws.take j++ws.drop (j+1)).Sublist ws:=by
  conv=>rhs;rw[←ur j ws]
  refine List.Sublist.append (.refl _) ?_;rw[←List.drop_drop];exact a1t _ _
 refine wJ (λy hy=>s.asc y (sub.subset hy)) (qj (lY sub) (by omega)) ?_
 .obtain⟨i,rfl⟩:∃i,j=i+1:=⟨j - 1,by omega⟩;have e:ws=v::vs:=by rw[s.eq,s.y0 h4,uh]
  rw[e,a1h,List.drop_succ_cons,List.cons_append,vm,s.wv,a0c];rw[ae0 lk];have wv:∀y∈vs,Wx y:=λy hy=>s.wx y (gb _ hy);refine a6G (.inl hr) ?_;rw[a2i,a7F λy hy=>wv y (ud hy),a7F λy hy=>wv y (yq hy),je,dg,dg,pq,uq];have:i+1<vs.length+1:=by rw[e,ig]at j2;omega
  omega
theorem azO:∀{xs:List Str},(∀x∈xs,Nbl x)->(xs.flatMap jC).length<=xs.length
 |[],_=>gw _
 |x::r,h=>by
  have a:=aTW (h x (iz ..));have b:=azO λu hu=>h u (gb _ hu);rw[vm,je,ig];omega
theorem aU0(s:Sw wd us ws v vs Y)(lk:bK.lookup wd=aj ks)(j1:1<=j)(hj:min 2 j<=ks.length):Bad (Txt.join fG ((ws.take j).take 2)):=by
 have sm:=s.sm;have sub:((ws.take j).take 2).Sublist ws:=(a0x ..).trans (a0x ..);refine wJ (λy hy=>s.asc y (sub.subset hy)) (qj (lY sub) (by omega)) ?_;rw[List.take_take]at sub ⊢;obtain⟨i,ei⟩:∃i,min 2 j=i+1:=⟨min 2 j - 1,by omega⟩;rw[ei]at sub hj ⊢;rw[s.eq,a1h,vm,s.wv,a0c];rw[ae0 lk];have few:=azO (xs:=(vs++Y).take i) λx hx=>s.nb x (by rw[s.eq];exact gb _ (ud hx));rw[pq]at few;exact a6G (.inr (by omega)) (by omega)
theorem aGW(s:Sw wd us ws v vs Y)(lk:bK.lookup wd=aj ks)(hw:aj6 b=ak)(hv:j<vs.length)(hb:zK ks ((vs.set j b).flatMap jC++Y.flatMap jC)=ao):Bad (Txt.join fG (ws.set (j+1) b)):=by
 have w:=a7G hw;have sm:=s.sm;have e:ws.set (j+1) b=v::(vs.set j b++Y):=by rw[s.eq,List.set_cons_succ,List.set_append_left _ _ hv]
 rw[e];refine wJ (λy hy=>?_) ?_ ?_
 .rw[←e]at hy;rcases a1k hy with m|m
  .exact s.asc y m
  .rw[m];exact w.asc
 .rw[←e,a2d]
  have q:wsum (ws.set (j+1) b)<=wsum ws+20:=by
   have:=w.l2;clear hb e hv sm s lk;generalize j+1=i
   induction ws generalizing i with
   |nil=>exact yh _
   |cons x r ih =>
    cases i with
    |zero =>
     rw[List.set_cons_zero];unfold wsum;rw[jj,qg,jj,qg];omega
    |succ i =>
     have:=ih i;rw[List.set_cons_succ];unfold wsum at this ⊢;rw[jj,qg,jj,qg];omega
  omega
 .rw[vm,s.wv,a2i,a0c];rw[ae0 lk,hb]
theorem as7:∀{ks r:List Str}{j:Nat}{k b:Str},ks[j]?=aj k->r[j]?=aj b->gT k b=ao->(ks.zip r).all (λz=>gT z.1 z.2)=ao
 |a::ks,c::r,0,k,b,h1,h2,h3=>by
  simp at h1 h2;subst h1 h2;rw[List.zip_cons_cons,yj,h3];rfl
 |a::ks,c::r,j+1,k,b,h1,h2,h3=>by
  rw[List.zip_cons_cons,yj,as7 (j:=j) (by simpa using h1) (by simpa using h2) h3,a2k]
 |[],_,_,_,_,h1,_,_=>by simp at h1
 |_::_,[],_,_,_,_,h2,_=>by simp at h2
theorem aU1(s:Sw wd us ws v vs Y)(lk:bK.lookup wd=aj ks)(tu:Tus ks us)(hw:aj6 b=ak)(hk:ks[j]?=aj k)(nk:(k==Str.ofString "rule")=ao)(g:gT k (Txt.lower b)=ao):Bad (Txt.join fG (ws.set (j+1) b)):=by
 obtain⟨_,l4,c⟩:=a6F _ (rP lk);have l4:ks.length<=4:=l4;have vl:=s.vl;have jl:j<ks.length:=(jf.mp hk).1;have w:=a7G hw
 have wv:∀(j:Nat),∀y∈vs.set j b,Wx y:=λj y hy=>by
  rcases a1k hy with m|m
  .exact s.wx y (gb _ m)
  .rw[m];exact w
 rcases c with c|c|c
 .obtain⟨ul,_⟩:=tu.good c.1;refine aGW s lk hw (by omega) ?_;rw[s.y0 (by omega),a7F (wv j)];unfold zK;rw[azM c.1]
  have:(ks.zip ((vs.set j b).map Txt.lower++List.flatMap jC [])).all (λz=>gT z.1 z.2)=ao:=by
   refine as7 hk ?_ g;have c1:a1M ks=ao:=c.1;rw[List.flatMap_nil,uh,zx,a0v (by omega)];rfl
  rw[this,a2k]
 .have c:=c.1;have c:ks=_:=c;subst c;have:j=0:=by simp at jl;omega
  subst this;simp at hk;rw[←hk]at nk;exact absurd nk (by decide)
 .have c:=c.1;have c:ks=_:=c;subst c
  have:j=0:=by
   have:j=0∨j=1:=by simp at jl;omega
   rcases this with e|e
   .exact e
   .subst e;simp at hk;rw[←hk]at nk;exact absurd nk (by decide)
  subst this;have:k=Str.ofString "number":=by simp at hk;exact hk.symm
  subst this;rw[azL]at g;obtain⟨a,b0,e,t,a2,b2,e2,t2,h2⟩:=tu;obtain⟨u,rfl,_⟩:=t.good (by decide);have ul:1<=us.length:=by rw[e,je];simp
  cases vs with
  |nil=>simp at vl;omega
  |cons v1 vr =>
   refine aGW s lk hw (by simp) ?_;rw[List.set_cons_zero,vm,ahP w.nb w.l1];generalize List.flatMap jC vr=R1;show zK _ (Txt.lower b::(R1++List.flatMap jC Y))=ao;cases R1++List.flatMap jC Y with
   |nil=>exact a6G (.inr (by simp)) (by simp)
   |cons x r=>rw[aGU,g]
end
def Off(l:bx)(G G':Gp):Prop:=∀q u,q≠l->G q=aj u->G' q=aj u
theorem Off.le{G:Gp}(a:Le G G')(b:Off l G' G2):Off l G G2:=λq u n e=>b q u n (a q u e)
theorem a6H{F:cD}{ws:List Str}(hl:G l=aj (.lst (ws.map D.str)))(b:Bad (Txt.join fG ws))(s:wsum ws+ws.length<=5000)(h:∀z,Bad z->R (.str z) G):jK (.str fG) [.ref l] G R :=
 ab5 (aM hl) (by show wsum ws+_<=_;omega) (h _ b)
theorem aML{ws:List Str}(hl:G l=aj (.lst (ws.map D.str)))(jl:j+1<ws.length)(bad:Bad (Txt.join fG (ws.set (j+1) b)))(s:wsum (ws.set (j+1) b)+ws.length<=5000)(h:∀z G',Bad z->Off l G G'->F.rt (.str z) G'):iR K A ex F [r0,r1,aj (.ref l),r3,aj (.int (j:Int)),r5,aj (.str b)] G:=by
 exists iR,aLR;rw[ayO hl (by omega) (by rw[dg];omega)];exists wD
 have e:((ws.map D.str).set (1+(j:Int)).toNat (.str b))=(ws.set (j+1) b).map D.str:=by
  rw[show(1+(j:Int)).toNat=j+1 by omega,List.map_set]
 rw[e];refine a6H (F:=F) aF bad (by rw[a2d];exact s) λz hz=>h z _ hz λq u n e=>?_;rw[jD n];exact e
noncomputable def auU:List Str:=["1a","-3","12345678","+4","3.","x","00000001","1_0"]
noncomputable def aMM:List Str:=["a00","a1","a001","101","aa1","a1b","b07#","a-1"]
theorem as8:∀b∈auU,aj6 b=ak/\gT (Str.ofString "number") (Txt.lower b)=ao:=by decide+kernel
theorem as9:∀b∈aMM,aj6 b=ak/\gT (Str.ofString "bin") (Txt.lower b)=ao:=by decide+kernel
theorem asA{b:Str}(hb:b.length<=20):∀{ws:List Str}{i:Nat},wsum (ws.set i b)<=wsum ws+20
 |[],_=>yh _
 |x::r,0=>by
  rw[List.set_cons_zero];unfold wsum;rw[jj,qg,jj,qg];omega
 |x::r,i+1=>by
  have:=asA hb (ws:=r) (i:=i);rw[List.set_cons_succ];unfold wsum at this ⊢;rw[jj,qg,jj,qg];omega
section
variable{ws:List Str}{F:cD}{ex:aL->aO}{c:Int}
theorem aU2(s:Sw wd us ws v vs Y)(lk:bK.lookup wd=aj ks)(tu:Tus ks us)(hl:G l=aj (.lst (ws.map D.str)))(hp:G p=aj (.lst ds))(hk:ks[j]?=aj k)(hd:ds[j]?=aj d)(kd:(k=Str.ofString "number"/\Nb d)∨(k=Str.ofString "bin"/\Bn d))(jl:j+1<ws.length)(h:∀z G',Bad z->Off l G G'->F.rt (.str z) G'):pH K A ex F [aj (.tup [.str wd,.ref p]),aj (.int c),aj (.ref l),r3,aj (.int (j:Int)),r5,r6] G:=by
 have sm:=s.sm
 have go:∀b:Str,aj6 b=ak->gT k (Txt.lower b)=ao->∀{G':Gp},Le G G'->iR K A ex F [aj (.tup [.str wd,.ref p]),aj (.int c),aj (.ref l),r3,aj (.int (j:Int)),r5,aj (.str b)] G':=λb hb hg G' le=>by
  have q:=asA (a7G hb).l2 (ws:=ws) (i:=j+1);refine aML (le _ _ hl) jl (aU1 s lk tu hb hk ?_ hg) (by omega) λz G2 hz o=>h z G2 hz (.le le o);rcases kd with⟨rfl,_⟩|⟨rfl,_⟩<;>decide
 exists pH;intro q hq;refine iY rfl (by decide) λe he=>?_
 obtain⟨b,hb,rfl⟩:∃b∈auU,e=.str b:=by
  obtain⟨b,hb,eb⟩:=vh.mp (show e∈auU.map D.str from he);exact⟨b,hb,eb.symm⟩
 have l1:=Le.new (o:=.lst (auU.map D.str)) hq;have hp1:=l1 _ _ hp;show nY K A ex F [aj (.tup [.str wd,.ref p]),aj (.int c),aj (.ref l),r3,aj (.int (j:Int)),r5,aj (.str b)] (aJ G q (.lst (auU.map D.str)));generalize aJ G q (.lst (auU.map D.str))=G1 at l1 hp1 ⊢;have ix:∀{R:iG},bN (.ref p) (.int (j:Int)) G1 R=R d G1:=xA (aM hp1) (by rw[uZ];exact hd);exists nY,ix;rcases kd with⟨rfl,n,rfl,_⟩|⟨rfl,a,b',rfl,_⟩
 .walk_at "wr";exact go b (as8 b hb).1 (as8 b hb).2 l1
 .walk_at "wr";intro q2 hq2;refine iY rfl (by decide) λe he=>?_
  obtain⟨b,hb,rfl⟩:∃b∈aMM,e=.str b:=by
   obtain⟨b,hb,eb⟩:=vh.mp (show e∈aMM.map D.str from he);exact⟨b,hb,eb.symm⟩
  walk_at "wr";exact go b (as9 b hb).1 (as9 b hb).2 (l1.trans (.new hq2))
end
noncomputable def nst(ds:List D)(d:D):Bool:=match d with
 |.int i=>(match ds[i.toNat]? with
  |some (.str _)=>ao
  |_=>ak)
 |_=>ao
theorem aXQ:Bad (Str.ofString ""):=⟨by decide,by decide+kernel⟩
theorem aXR:Bad (Str.ofString "   "):=⟨by decide,by decide+kernel⟩
theorem aXS:Bad (Str.ofString "#"):=⟨by decide,by decide+kernel⟩
section
variable{ws:List Str}{F:cD}{ex:aL->aO}{c:Int}
theorem aXT(s:Sw wd us ws v vs Y):Bad (Str.ofString "# "++Txt.join fG ws):=by
 have e:Str.ofString "# "++Txt.join fG ws=Txt.join fG (Str.ofString "#"::ws):=by
  rw[adW,adW,s.eq,show Str.ofString "# "=Str.ofString "#"++fG by decide];rfl
 have sm:=s.sm;rw[e];have w:Wx (Str.ofString "#"):=a7G (by decide);refine wJ (λx hx=>(jc.mp hx).elim (λe=>e ▸ w.asc) (s.asc x)) ?_ ?_
 .rw[ig];have:wsum (Str.ofString "#"::ws)=1+wsum ws:=by unfold wsum;rw[jj,qg];rfl
  omega
 .rw[vm,ahP w.nb w.l1,a0c];exact azN (by decide+kernel)
theorem aGX(s:Sw wd us ws v vs Y)(lk:bK.lookup wd=aj ks)(tu:Tus ks us)(tk:Tks ks ds)(hl:G l=aj (.lst (ws.map D.str)))(hp:G p=aj (.lst ds))(h:∀z G',Bad z->Off l G G'->F.rt (.str z) G'):jF K A ex F [aj (.tup [.str wd,.ref p]),aj (.int c),aj (.ref l),r3,r4,r5,r6] G:=by
 obtain⟨kl,ka⟩:=tk.at;have big:100000<cj:=by decide
 obtain⟨_,l4,cs⟩:=a6F _ (rP lk);have l4:ks.length<=4:=l4;have sm:=s.sm;exists jF;rw[lD (aM hp)];walk_at "wr";refine aiQ (nst ds) id (by show(oX 0 (ds.length:Int)).length<_;rw[arM];omega) trivial (λd hd G' le Q hQ=>?_) (λd hd _ G' le Q hQ=>?_) λa ha=>?_
 .obtain⟨j,rfl,jl⟩:=arL hd;have jl:j<ds.length:=by omega
  have ix:∀{R:iG},bN (.ref p) (.int (j:Int)) G' R=R ds[j] G':=xA (aM (le _ _ hp)) (by rw[uZ];exact gq jl);have jk:j<ks.length:=by omega
  have t:=ka j _ _ (gq jk) (gq jl);have q:=hQ G' (.refl _);unfold nst at q;simp only[wu,gq jl]at q;walk_at "wr";rw[ix];generalize ds[j]=e at t q ⊢;rcases t with⟨_,n,rfl,_⟩|⟨_,x,y,rfl,_⟩|⟨_,z,rfl,_⟩|⟨_,w,rfl,_⟩
  all_goals
   walk_at "wr";exact q
 .walk_at "wr";exact hQ G' (.refl _)
 .rw[a1z];have l1:=Le.new (o:=.lst ((oX 0 (ds.length:Int)).filter (nst ds))) ha
  have mem:∀d∈(oX 0 (ds.length:Int)).filter (nst ds),∃(j:Nat)(k:Str)(e:D),d=.int (j:Int)/\ks[j]?=aj k/\ds[j]?=aj e/\((k=Str.ofString "number"/\Nb e)∨(k=Str.ofString "bin"/\Bn e)):=λd hd=>by
   obtain⟨hd,hn⟩:=List.mem_filter.mp hd;obtain⟨j,rfl,jl⟩:=arL hd;have jl:j<ds.length:=by omega
   have jk:j<ks.length:=by omega
   have t:=ka j _ _ (gq jk) (gq jl);refine⟨j,_,_,rfl,gq jk,gq jl,?_⟩;unfold nst at hn;simp only[wu,gq jl]at hn;generalize ds[j]=e at t hn ⊢;rcases t with t|t|⟨_,z,rfl,_⟩|⟨_,w,rfl,_⟩
   .exact .inl t
   .exact .inr t
   .cases hn
   .cases hn
  show pI K A ex F [aj (.tup [.str wd,.ref p]),aj (.int c),aj (.ref l),r3,r4,aj (.ref a),r6] (aJ G a (.lst ((oX 0 (ds.length:Int)).filter (nst ds))));have a1:aJ G a (.lst ((oX 0 (ds.length:Int)).filter (nst ds))) a=aj (.lst ((oX 0 (ds.length:Int)).filter (nst ds))):=aF;have hl1:=l1 _ _ hl;have hp1:=l1 _ _ hp;generalize aJ G a _=G1 at l1 a1 hl1 hp1 ⊢
  have fl:((oX 0 (ds.length:Int)).filter (nst ds)).length<=4:=by
   have:=List.length_filter_le (nst ds) (oX 0 (ds.length:Int));rw[arM]at this;omega
  generalize (oX 0 (ds.length:Int)).filter (nst ds)=xs at mem a1 fl;exists pI;intro b hb
  have sx:xs.all (bW 20)=ak:=iu.mpr λd hd=>by
   obtain⟨j,k,e,rfl,_⟩:=mem d hd;rfl
  rw[aoZ (aM (bD a1 hb)) oY sx rfl];have l2:=l1.trans (Le.new (o:=.lst []) hb);have hl2:=Le.new (o:=.lst []) hb _ _ hl1;have hp2:=Le.new (o:=.lst []) hb _ _ hp1;have a2:=Le.new (o:=.lst []) hb _ _ a1;generalize aJ G1 b _=G2 at l2 hl2 hp2 a2 ⊢;cases xs with
  |nil =>
   rw[show L2.u9 [] []=ak from rfl];walk_at "wr";refine ab5 (aM hl2) (by show wsum ws+_<=_;omega) ?_;have jl:=join_le ws;rw[←adW]at jl;rw[cA (by rw[show(Str.ofString "# ").length=2 by decide];omega)];intro e he;refine iY rfl (by decide) ?_;have o:∀{u:GO},Off l G (aJ G2 e u):=λ{u}=>λq u n e2=>(Le.new he) q u (l2 q u e2);exact all_cons (h _ _ aXQ o) (all_cons (h _ _ aXR o) (all_cons (h _ _ (aXT s) o) (all_cons (h _ _ aXS o) all_nil)))
  |cons x xr =>
   rw[show L2.u9 (x::xr) []=ao from by simp[L2.u9]];exists yQ;rw[lD (aM a2)];have nz:((x::xr).length:Int)≠0:=by rw[ig];omega
   walk_at "wr";refine ap0 (aM a2) (vg _ nz) (qx _ (by omega)) λd hd=>?_;obtain⟨j,k,e,rfl,hk,he,t⟩:=mem d hd;walk_at "wr";refine aU2 s lk tu hl2 hp2 hk he t ?_ λz G' hz o=>h z G' hz (.le l2 o);have jk:j<ks.length:=(jf.mp hk).1;have vl:=s.vl;rw[s.eq,ig,je];rcases cs with cs|cs|cs
   .have:=(tu.good cs.1).1;omega
   .have cs:ks=_:=cs.1;subst cs;have:j=0:=by simp at jk;omega
    subst this;simp at hk;subst hk;rcases t with⟨t,_⟩|⟨t,_⟩<;>exact absurd t (by decide)
   .have cs:ks=_:=cs.1;subst cs
    have:j=0:=by
     have:j=0∨j=1:=by simp at jk;omega
     rcases this with e|e
     .exact e
     .subst e;simp at hk;subst hk;rcases t with⟨t,_⟩|⟨t,_⟩<;>exact absurd t (by decide)
    subst this;obtain⟨a,b0,e,t,_⟩:=tu;obtain⟨u,rfl,_⟩:=t.good (by decide);have ul:1<=us.length:=by rw[e,je];simp
    omega
end
noncomputable def auV:List Str:=["7","A01","x","#","#x","# x"]
noncomputable def auW:List Str:=["comes","goo","x","days","#day","no","wawe"]
theorem aFP:∀b∈auW,aj6 b=ak/\bK.lookup (Txt.lower b)=aq:=by decide+kernel
theorem aFQ:∀b∈auV,b.cps.toList.all (λc=>decide (c<128))=ak/\b.length<=20/\1<=(jC b).length:=by decide+kernel
theorem aMN{b:bx}(hb:G b=aj (.lst (xs.map D.str))):a5E (.str wd) (.ref b) G R=R (.bl (xs.any (· ==wd))) G/\uF (.str wd) (.ref b) G R=R (.bl (!xs.any (· ==wd))) G:=by
 unfold a5E uF inG;simp only[aM hb];rw[List.any_map,a1c];have e:((λy=>eqP y (D.str wd))∘D.str)=λk=>k==wd:=rfl;rw[e];have s:xs.all (scD∘D.str)=ak:=iu.mpr λ_ _=>rfl;exact⟨propext ⟨λh=>h.2.2,λh=>⟨rfl,s,h⟩⟩,propext ⟨λh=>h.2.2,λh=>⟨rfl,s,h⟩⟩⟩
theorem aj7{α:Type}{xs:List α}{k:Nat}:cutD xs aq (aj (k:Int))=xs.take k:=by
 unfold L2.cutD;rw[HT.ahX,HT.ac5,List.drop_zero,Nat.sub_zero,←List.take_eq_take_min]
section
variable{ks ws:List Str}{F:cD}{ex:aL->aO}{c:Int}
theorem kww(lk:bK.lookup wd=aj ks):((a1M ks=ao/\([Str.ofString "keep",Str.ofString "wave",Str.ofString "walk"].any (· ==wd))=ao/\([Str.ofString "wave",Str.ofString "walk"].any (· ==wd))=ao)∨(([Str.ofString "keep",Str.ofString "wave",Str.ofString "walk"].any (· ==wd))=ak/\([Str.ofString "wave",Str.ofString "walk"].any (· ==wd))=ak/\ks.length=1)∨(([Str.ofString "keep",Str.ofString "wave",Str.ofString "walk"].any (· ==wd))=ak/\([Str.ofString "wave",Str.ofString "walk"].any (· ==wd))=ao/\ks.length=2))/\ks.length<=4:=by
 obtain⟨_,l4,cs⟩:=a6F _ (rP lk);refine⟨?_,l4⟩;rcases cs with⟨c1,c2,c3,c4⟩|⟨c1,c2⟩|⟨c1,c2⟩
 .have b2:=beq_eq_false_iff_ne.mpr (Ne.symm c2);have b3:=beq_eq_false_iff_ne.mpr (Ne.symm c3);have b4:=beq_eq_false_iff_ne.mpr (Ne.symm c4);refine .inl ⟨c1,?_,?_⟩
  .simp only[a0q,List.any_nil,Bool.or_false,b2,b3,b4,Bool.or_self]
  .simp only[a0q,List.any_nil,Bool.or_false,b3,b4,Bool.or_self]
 .have c1:ks=_:=c1;subst c1;rcases c2 with c2|c2
  .have c2:wd=_:=c2;subst c2;exact .inr (.inl ⟨by decide,by decide,rfl⟩)
  .have c2:wd=_:=c2;subst c2;exact .inr (.inl ⟨by decide,by decide,rfl⟩)
 .have c1:ks=_:=c1;have c2:wd=_:=c2;subst c1 c2;exact .inr (.inr ⟨by decide,by decide,rfl⟩)
theorem aMO(s:Sw wd us ws v vs Y)(lk:bK.lookup wd=aj ks)(tu:Tus ks us){r0:Option D}(hl:G l=aj (.lst (ws.map D.str)))(j1:1<=j)(jw:j<ws.length)(hj:([Str.ofString "wave",Str.ofString "walk"].any (· ==wd))=ak->j=1)(h:∀z G',Bad z->Off l G G'->F.rt (.str z) G'):fK K A ex F [aj (.tup [.str wd,.ref p]),aj (.int c),aj (.ref l),r3,aj (.int (j:Int)),r5,r6] G:=by
 obtain⟨kc,l4⟩:=kww lk;have sm:=s.sm;have vl:=s.vl;have big:100000<cj:=by decide
 exists fK;intro q hq;have hl1:=Le.new (o:=.lst ([Str.ofString "keep",Str.ofString "wave",Str.ofString "walk"].map D.str)) hq _ _ hl;have l1:=Le.new (o:=.lst ([Str.ofString "keep",Str.ofString "wave",Str.ofString "walk"].map D.str)) hq;have q1:aJ G q (.lst ([Str.ofString "keep",Str.ofString "wave",Str.ofString "walk"].map D.str)) q=aj (.lst ([Str.ofString "keep",Str.ofString "wave",Str.ofString "walk"].map D.str)):=aF;show a5E (.str wd) (.ref q) (aJ G q (.lst ([Str.ofString "keep",Str.ofString "wave",Str.ofString "walk"].map D.str))) _;generalize aJ G q _=G1 at hl1 l1 q1 ⊢;rw[(aMN q1).1]
 have fin:∀{ys:List Str}{b:bx}{G2:Gp},Le G1 G2->G2 b=aj (.lst (ys.map D.str))->ys.Sublist ws->Bad (Txt.join fG ys)->jK (.str fG) [.ref b] G2 F.rt:=λ{ys b G2} le hb sub bad=>by
  have:=lY sub;exact a6H (F:=F) hb bad (by omega) λz hz=>h z _ hz λx u _ e=>le x u (l1 x u e)
 have cut:∀(k:([Str.ofString "keep",Str.ofString "wave",Str.ofString "walk"].any (· ==wd))=ak)(hm:min 2 j<=ks.length),aiA (.ref l) aq (aj (j:Int)) G1 λx G2=>aiA x aq (aj 2) G2 λx G3=>jK (.str fG) [x] G3 F.rt:=λk hm=>by
  rw[tR (aM hl1)];intro a ha;rw[aj7,←zy];rw[tR oY];intro b hb;rw[show(2:Int)=((2:Nat):Int)from rfl,aj7,←zy];exact fin ((Le.new ha).trans (.new hb)) aF ((a0x ..).trans (a0x ..)) (aU0 s lk j1 hm)
 rcases kc with⟨k1,k2,k3⟩|⟨k1,k2,k3⟩|⟨k1,k2,k3⟩
 .rw[k2];exists tK;obtain⟨ul,_⟩:=tu.good k1;rw[tR (aM hl1)];intro a ha;rw[aj7,←zy];rw[show(j:Int)+1=((j+1:Nat):Int) by omega,tR (aM (bD hl1 ha))];intro b hb;rw[adU (by rw[dg];omega),←a1K];rw[a2M (bD aF hb) aF (by rw[dg,dg,pq,uq];omega)];intro e he;rw[←oh];refine fin (((Le.new ha).trans (.new hb)).trans (.new he)) aF ?_ (aTZ s lk k1 ul (by omega) j1 jw)
  conv=>rhs;rw[←ur j ws]
  refine List.Sublist.append (.refl _) ?_;rw[←List.drop_drop];exact a1t _ _
 .have c:=cut k1 (by rw[hj k2,k3];decide);rw[k1];walk_at "wr";exact c
 .have c:=cut k1 (by rw[k3];omega);rw[k1];walk_at "wr";exact c
theorem aGY(s:Sw wd us ws v vs Y)(lk:bK.lookup wd=aj ks)(tu:Tus ks us)(tk:Tks ks ds)(hl:G l=aj (.lst (ws.map D.str)))(hp:G p=aj (.lst ds))(h:∀z G',Bad z->Off l G G'->F.rt (.str z) G'):jG K A ex F [aj (.tup [.str wd,.ref p]),aj (.int c),aj (.ref l),aj (.int n),r4,r5,r6] G:=by
 obtain⟨kc,l4⟩:=kww lk;have sm:=s.sm;have big:100000<cj:=by decide
 exists jG;refine cL (λ_=>?_) λ_=>aGX s lk tu tk hl hp h;rw[lD (aM hl),dg];walk_at "wr";refine cL (λe=>?_) λ_=>aGX s lk tu tk hl hp h
 have wl:1<ws.length:=by
  have:(1:Int)<(ws.length:Int):=by simpa using e
  omega
 rw[lD (aM hl),dg];have nz:(ws.length:Int) - 1≠0:=by omega
 walk_at "wr";have a0:=vg (c / 5) nz;have a1:=qx (c / 5) (show(0:Int)<(ws.length:Int) - 1 by omega);obtain⟨k,ek⟩:=ou a0;rw[ek]at a1 ⊢;intro q hq b hb;show a5E (.str wd) (.ref b) (aJ (aJ G q (.lst [.int (1+(k:Int)),.int 1])) b (.lst ([Str.ofString "wave",Str.ofString "walk"].map D.str))) _;rw[(aMN aF).1];have l1:=(Le.new (o:=.lst [D.int (1+(k:Int)),.int 1]) hq).trans (Le.new (o:=.lst ([Str.ofString "wave",Str.ofString "walk"].map D.str)) hb);have q2:=bD (o:=.lst ([Str.ofString "wave",Str.ofString "walk"].map D.str)) (aF (G:=G) (a:=q) (o:=.lst [D.int (1+(k:Int)),.int 1])) hb;have hl2:=l1 _ _ hl;generalize aJ (aJ G q _) b _=G2 at l1 q2 hl2 ⊢;have go:∀j:Nat,1<=j->j<ws.length->(([Str.ofString "wave",Str.ofString "walk"].any (· ==wd))=ak->j=1)->fK K A ex {nx:=jF K A ex F,rt:=F.rt,bk:=F.bk,ct:=F.ct} [aj (.tup [.str wd,.ref p]),aj (.int c),aj (.ref l),aj (.int n),aj (.int (j:Int)),r5,r6] G2:=λj j1 j2 j3=>aMO (r0:=none) s lk tu hl2 j1 j2 j3 λz G' hz o=>h z G' hz (.le l1 o);cases eb:([Str.ofString "wave",Str.ofString "walk"].any (· ==wd))with
 |true =>
  rw[eb]at go;rw[ap7];walk_at "wr";rw[xA (aM q2) (show atI [D.int (1+(k:Int)),.int 1] 1=aj (.int 1)from rfl)];exact go 1 (gw _) (by omega) λ_=>rfl
 |false =>
  rw[eb]at go;rw[ap7];walk_at "wr";rw[xA (aM q2) (show atI [D.int (1+(k:Int)),.int 1] 0=aj (.int (1+(k:Int)))from rfl)];rw[show(1:Int)+(k:Int)=((1+k:Nat):Int) by omega];exact go (1+k) (by omega) (by omega) λz=>nomatch z
theorem aU3(s:Sw wd us ws v vs Y)(lk:bK.lookup wd=aj ks)(tu:Tus ks us)(tk:Tks ks ds)(hl:G l=aj (.lst (ws.map D.str)))(hp:G p=aj (.lst ds))(h:∀z G',Bad z->Off l G G'->F.rt (.str z) G'):pJ K A ex F [aj (.tup [.str wd,.ref p]),aj (.int c),aj (.ref l),aj (.int n),r4,r5,r6] G:=by
 obtain⟨kc,l4⟩:=kww lk;have sm:=s.sm;have big:100000<cj:=by decide
 exists pJ;refine cL (λ_=>?_) λ_=>aGY s lk tu tk hl hp h;intro q hq;have l1:=Le.new (o:=.lst ([Str.ofString "keep",Str.ofString "wave",Str.ofString "walk"].map D.str)) hq;have q1:aJ G q (.lst ([Str.ofString "keep",Str.ofString "wave",Str.ofString "walk"].map D.str)) q=aj (.lst ([Str.ofString "keep",Str.ofString "wave",Str.ofString "walk"].map D.str)):=aF;have hl1:=l1 _ _ hl;have hp1:=l1 _ _ hp;show uF (.str wd) (.ref q) (aJ G q (.lst ([Str.ofString "keep",Str.ofString "wave",Str.ofString "walk"].map D.str))) _;generalize aJ G q _=G1 at hl1 hp1 l1 q1 ⊢;rw[(aMN q1).2];have s5:jG K A ex F [aj (.tup [.str wd,.ref p]),aj (.int c),aj (.ref l),aj (.int n),r4,r5,r6] G1:=aGY s lk tu tk hl1 hp1 λz G' hz o=>h z G' hz (.le l1 o);rcases kc with⟨k1,k2,k3⟩|⟨k1,k2,k3⟩|⟨k1,k2,k3⟩
 .rw[k2];obtain⟨ul,_⟩:=tu.good k1;walk_at "wr";rw[aiP,aM hl1];refine⟨rfl,?_⟩;rw[lD (aM hl1),dg];have w0:0<ws.length:=by rw[s.eq];exact Nat.succ_pos _
  have nz:(ws.length:Int)≠0:=by omega
  walk_at "wr";have a0:=vg (c / 5) nz;have a1:=qx (c / 5) (show(0:Int)<(ws.length:Int) by omega);obtain⟨k,ek⟩:=ou a0;rw[ek]at a1 ⊢;intro b hb;refine iY rfl (by decide) λe he=>?_
  obtain⟨x,hx,rfl⟩:∃x∈auV,e=.str x:=by
   obtain⟨x,hx,ex⟩:=vh.mp (show e∈auV.map D.str from he);exact⟨x,hx,ex.symm⟩
  obtain⟨x1,x2,x3⟩:=aFQ x hx;have l2:=l1.trans (Le.new (o:=.lst (auV.map D.str)) hb);have hl2:=Le.new (o:=.lst (auV.map D.str)) hb _ _ hl1;show vV (.ref l) _ (aJ G1 b (.lst (auV.map D.str))) _;generalize aJ G1 b _=G2 at l2 hl2 ⊢;unfold vV ar3;simp only[hl2];refine⟨1+k,by omega,by rw[dg];omega,by rw[dg];omega,?_⟩;exists tH
  have ee:(ws.map D.str).take (1+k)++D.str x::(ws.map D.str).drop (1+k)=(ws.take (1+k)++x::ws.drop (1+k)).map D.str:=by
   rw[oh,jj,zy,a1K]
  rw[ee];refine a6H (F:=F) aF (aTY s lk k1 ul (by omega) (λc hc=>by simpa using iu.mp x1 c hc) x2 x3 (by omega) (by omega)) ?_ λz hz=>h z _ hz λy u n e=>?_
  .have q:=wI (ws.take (1+k)) (ws.drop (1+k));rw[ur]at q;rw[wI,je,ig,pq,uq];have e:wsum (x::ws.drop (1+k))=x.length+wsum (ws.drop (1+k)):=by unfold wsum;rw[jj,qg]
   omega
  .rw[jD n];exact l2 y u e
 .rw[k1];walk_at "wr";exact s5
 .rw[k1];walk_at "wr";exact s5
theorem aU4(s:Sw wd us ws v vs Y)(lk:bK.lookup wd=aj ks)(tu:Tus ks us)(tk:Tks ks ds)(hl:G l=aj (.lst (ws.map D.str)))(hp:G p=aj (.lst ds))(h:∀z G',Bad z->Off l G G'->F.rt (.str z) G'):pK K A ex F [aj (.tup [.str wd,.ref p]),aj (.int c),aj (.ref l),aj (.int n),r4,r5,r6] G:=by
 have sm:=s.sm;have big:100000<cj:=by decide
 exists pK;refine cL (λ_=>?_) λ_=>aU3 s lk tu tk hl hp h;intro q hq;refine iY rfl (by decide) λe he=>?_
 obtain⟨x,hx,rfl⟩:∃x∈auW,e=.str x:=by
  obtain⟨x,hx,ex⟩:=vh.mp (show e∈auW.map D.str from he);exact⟨x,hx,ex.symm⟩
 obtain⟨x1,x2⟩:=aFP x hx;have l1:=Le.new (o:=.lst (auW.map D.str)) hq;have hl1:=l1 _ _ hl;show ∀a,aJ G q (.lst (auW.map D.str)) a=aq->aiA (.ref l) (aj 1) aq (aJ (aJ G q (.lst (auW.map D.str))) a (.lst [.str x])) _;generalize aJ G q _=G1 at hl1 l1 ⊢;intro a ha;rw[tR (aM (bD hl1 ha))];intro b hb;have w0:0<ws.length:=by rw[s.eq];exact Nat.succ_pos _
 rw[show(1:Int)=((1:Nat):Int)from rfl,adU (by rw[dg];omega),←a1K];rw[a2M (bD aF hb) aF (by rw[dg,uq];show 1+_<=_;omega)];intro e he;have q2:=lY (a1t 1 ws);have e3:wsum (x::ws.drop 1)=x.length+wsum (ws.drop 1):=by unfold wsum;rw[jj,qg]
 have xl:=(a7G x1).l2;refine a6H (F:=F) (ws:=x::ws.drop 1) aF (aTX s x1 x2) (by rw[ig];omega) λz hz=>h z _ hz λy u n e4=>?_;exact(((Le.new ha).trans (.new hb)).trans (.new he)) y u (l1 y u e4)
end
theorem azP(hp:G p=aj (.lst ds))(hd:DD wd ds)(h:∀z G',Bad z->Le G G'->R (.str z) G'):lV K A [.tup [.str wd,.ref p],.int c] G R EX:=by
 have big:100000<cj:=by decide
 refine⟨rfl,?_⟩;have h':∀z G',Bad z->Le G G'->bH R (.str z) G':=λz G' a l=>bH.here (h z G' a l);clear h;show vD K A _ _ [aj (.tup [.str wd,.ref p]),aj (.int c),aq,aq,aq,aq,aq] G;exists vD;have hd0:=hd;refine ahO hp hd λks us z G1 lk tu wz l1=>?_;obtain⟨ks',lk',tk⟩:=hd0;have ek:ks'=ks:=mz.inj (lk'.symm.trans lk);subst ek;obtain⟨w1,w2,w3,w4⟩:=azJ _ (rP lk)
 have wx:Wx wd:=⟨w1,w2,λc hc=>by
  have:=iu.mp w3 c hc;simpa using this⟩
 have ul:=tu.len;have w4:ks'.length<=10:=w4;have zl:=(azK (c:=0) (us:=wd::us) (z:=z) (λu hu=>(jc.mp hu).elim (λe=>e ▸ wx) (tu.wx u)) (by rw[ig];omega) wz).1;obtain⟨v,vs,Y,s⟩:=aTV wx (a6F _ (rP lk)).1 tu.wx (by omega) wz;have sm:=s.sm;have sl:(Txt.split z fG).length<=cj:=by omega
 refine⟨rfl,by decide,by omega,sl,λq hq=>?_⟩;exists yR;refine aU4 s lk' tu tk aF (bD (l1 _ _ hp) hq) λy G2 hy o=>h' y G2 hy λb u e=>?_;have e1:=l1 _ _ e;exact o b u (λn=>by rw[n,hq]at e1;cases e1) (bD e1 hq)
variable{b:Bool}
theorem gO(h:G q=aj (.exn C))(e:ExC K C)(k:cu K (.ref C) (.ref C')=aj b)(z:R (.bl b) G):cM K [.ref q,.ref C'] G R:=by
 unfold cM;simp only[h];exact aaW h e k z
noncomputable def aR(n:Nat):List D:=ji n (.bl ao)
theorem azQ(T:Txt w K mg A){r2:Option D}{x:bx}(hx:G x=aj (.exn A.bG))(h:∀G',Le G G'->F.rt (.bl ak) G'):∀p,G p=aj (.lst (aR 4))->gM K A ex F [r0,aj (.ref x),aj (.ref p)] G:=λp hp=>by
 have big:10000<cj:=by decide
 exists gM;refine gO hx T.fL T.jA ?_;walk_at "wr";refine gO hx T.fL T.fC ?_;walk_at "wr";refine gO hx T.fL T.gZ ?_;walk_at "wr";refine gO hx T.fL T.iB ?_;walk_at "wr";intro a ha;show bB (.ref p) (.ref a) (aJ G a (.lst (aR 4))) _;rw[a2M (es:=aR 4) (bD hp ha) aF (by show 4+4<=_;omega)];intro b hb;have l1:=(Le.new (o:=.lst (aR 4)) ha).trans (Le.new (o:=.lst (aR 8)) hb);have b1:aJ (aJ G a (.lst (aR 4))) b (.lst (aR 8)) b=aj (.lst (aR 8)):=aF;have x1:=l1 _ _ hx;show lU K A _ F [r0,aj (.ref x),aj (.ref b)] (aJ (aJ G a (.lst (aR 4))) b (.lst (aR 8)));generalize aJ (aJ G a _) b _=G1 at l1 b1 x1 ⊢;exists lU;refine gO x1 T.fL T.eF ?_;walk_at "wr";refine gO x1 T.fL T.dZ ?_;walk_at "wr";refine gO x1 T.fL T.gW ?_;walk_at "wr";intro c hc;show bB (.ref b) (.ref c) (aJ G1 c (.lst (aR 3))) _;rw[a2M (es:=aR 3) (bD b1 hc) aF (by show 8+3<=_;omega)];intro d hd;have l2:=l1.trans ((Le.new (o:=.lst (aR 3)) hc).trans (Le.new (o:=.lst (aR 11)) hd));have d2:aJ (aJ G1 c (.lst (aR 3))) d (.lst (aR 11)) d=aj (.lst (aR 11)):=aF;have x2:=l2 _ _ hx;show lR K A _ F [r0,aj (.ref x),aj (.ref d)] (aJ (aJ G1 c (.lst (aR 3))) d (.lst (aR 11)));generalize aJ (aJ G1 c _) d _=G2 at l2 d2 x2 ⊢;exists lR;refine gO x2 T.fL T.fD ?_;walk_at "wr";refine gO x2 T.fL T.eE ?_;walk_at "wr";refine aDZ x2 T.fL T.a1I ?_;walk_at "wr";intro e he;show bB (.ref d) (.ref e) (aJ G2 e (.lst (aR 3))) _;rw[a2M (es:=aR 3) (bD d2 he) aF (by show 11+3<=_;omega)];intro f hf;have l3:=l2.trans ((Le.new (o:=.lst (aR 3)) he).trans (Le.new (o:=.lst (aR 14)) hf));have f3:aJ (aJ G2 e (.lst (aR 3))) f (.lst (aR 14)) f=aj (.lst (aR 14)):=aF;have x3:=l3 _ _ hx;show lQ K A _ F [r0,aj (.ref x),aj (.ref f)] (aJ (aJ G2 e (.lst (aR 3))) f (.lst (aR 14)));generalize aJ (aJ G2 e _) f _=G3 at l3 f3 x3 ⊢;exists lQ;refine gO x3 T.fL T.jB ?_;walk_at "wr";unfold uF inG;simp only[aM f3];exact⟨rfl,by decide,h G3 l3⟩
theorem an7(T:Txt w K mg A){x:bx}(hx:G x=aj (.exn A.bG))(h:∀G',Le G G'->F.rt (.bl ak) G'):cM K [.ref x,.ref A.a09] G λx1 G1=>cM K [.ref x,.ref A.a0A] G1 λx2 G1=>cM K [.ref x,.ref A.a5N] G1 λx3 G1=>cM K [.ref x,.ref A.a5O] G1 λx4 G1=>∀p,G1 p=aq->gM K A ex F [r0,aj (.ref x),aj (.ref p)] (aJ G1 p (.lst [x1,x2,x3,x4])):=by
 refine gO hx T.fL T.gY ?_;refine gO hx T.fL T.iC ?_;refine gO hx T.fL T.j9 ?_;refine gO hx T.fL T.j8 ?_;intro p hp;exact azQ T (r2:=none) (bD hx hp) (λG' l=>h G' ((Le.new hp).trans l)) p aF
theorem ahQ(T:Txt w K mg A)(hd:(∃z,d=.str z/\Bad z)∨(kn G d/\∀z,d≠.str z))(h:∀G',Le G G'->R (.bl ak) G'):fZ K A [d] G R EX:=by
 refine⟨rfl,?_⟩;have h':∀G',Le G G'->bH R (.bl ak) G':=λG' l=>bH.here (h G' l);clear h;show tE K A _ _ [aj d,aq,aq] G;exists tE;rcases hd with⟨z,rfl,zb⟩|⟨k,n⟩
 .refine ahK zb.1 (λ_ G1 l1=>?_) λe=>absurd (e.symm.trans zb.2) (by decide);refine⟨T.cJ,λx hx=>?_⟩;refine an7 T aF λG' l=>?_;exact h' G' ((l1.trans (.new hx)).trans l)
 .refine auQ k n ?_;refine⟨T.cJ,λx hx=>?_⟩;refine an7 T aF λG' l=>?_;exact h' G' ((Le.new hx).trans l)
theorem aFR{fs}(h:G q=aj (.ins C fs))(e:OwC K C)(k:cu K (.ref C) (.ref C')=aj b)(z:R (.bl b) G):cM K [.ref q,.ref C'] G R:=by
 unfold cM;simp only[h];exact⟨b,e,k,z⟩
theorem aMP(T:Txt w K mg A)(h:C∈ahJ A):OwC K C/\cu K (.ref C) (.ref A.gG)=aj ak:=by
 unfold ahJ at h;simp only[jc,rm,or_false]at h;rcases h with rfl|rfl|rfl|rfl|rfl|rfl|rfl|rfl|rfl|rfl|rfl|rfl|rfl
 .exact⟨T.aEE,T.aEF⟩
 .exact⟨T.aT7,T.aT8⟩
 .exact⟨T.aEJ,T.aEK⟩
 .exact⟨T.ayZ,T.az0⟩
 .exact⟨T.aLW,T.aLX⟩
 .exact⟨T.apG,T.apH⟩
 .exact⟨T.aEO,T.aEP⟩
 .exact⟨T.aET,T.aEU⟩
 .exact⟨T.aEY,T.aEZ⟩
 .exact⟨T.aF3,T.aF4⟩
 .exact⟨T.aF8,T.aF9⟩
 .exact⟨T.aTC,T.aTD⟩
 .exact⟨T.aTH,T.aTI⟩
theorem auX(T:Txt w K mg A){z:Str}(hz:z.length<=3000)(ok:okW (jC z)=ak)(h:∀G',Le G G'->R (.bl ak) G'):jE K A [.str z] G R EX:=by
 refine⟨rfl,?_⟩;have h':∀G',Le G G'->bH R (.bl ak) G':=λG' l=>bH.here (h G' l);clear h;show tG K A _ _ [aj (.str z)] G;exists tG;refine ahK hz (λe=>absurd (e.symm.trans ok) (by decide)) λ_ x C fs G1 hC l1 hx=>?_;walk_at "wr";obtain⟨o1,o2⟩:=aMP T hC;exact aFR hx o1 o2 (h' G1 l1)
theorem aU5(T:Txt w K mg A){z:Str}(hz:z.length<=3000)(ok:okW (jC z)=ak)(hy:Bad y)(hF:∀G',F.rt (.bl ak) G'):aiU K A ex F [r0,r1,r2,r3,aj (.str z),aj (.str y),r6] G:=by
 exists aiU;refine am8 (λk ρ G'=>∃r6,ρ=[r0,r1,r2,r3,aj (.str z),aj (.str y),r6]/\Le G G') ⟨_,rfl,.refl _⟩ (λk ρ G' hk ⟨_,e1,l1⟩=>?_) λρ G' ⟨_,e1,l1⟩=>?_
 .subst e1;exists amW;refine auX T hz ok λG2 l2=>?_;walk_at "wr";refine ahQ T (.inl ⟨y,rfl,hy⟩) λG3 l3=>?_;walk_at "wr";exact⟨_,rfl,(l1.trans l2).trans l3⟩
 .subst e1;exists arN;exact hF _
theorem main(T:Txt w K mg A)(a:bx)(ns:List Int)(hl:ns.length<=63)(G:Gp)(hG:G a=aj (.rol (ns.map D.int))):apE K A [.ref a] G (λd _=>d=.bl ak) (λ_ _=>False):=by
 refine⟨rfl,?_⟩;have hR:∀G':Gp,bH (λd _=>d=.bl ak) (.bl ak) G':=λG'=>bH.here (R:=λd _=>d=.bl ak) rfl;show ayX K A _ _ [aj (.ref a),aq,aq,aq,aq,aq,aq] G;exists ayX;refine a7E (k:=0) hG (by decide) ?_;generalize cellAt ns 0=c0;refine aM7 λpl G1 hp l1=>?_;exists arS;refine a7E (k:=1) (l1 _ _ hG) (by decide) ?_;generalize cellAt ns 1=c1;refine aFH λr ws G2 wl hw l2 hr=>?_;have l2:=l1.trans l2;exists arR;refine a7E (k:=2) (l2 _ _ hG) (by decide) ?_;generalize cellAt ns 2=c2;refine aMC hp hr wl hw λwd ds p G3 hd l3 hpp=>?_;have l3:=l2.trans l3;exists arQ;refine a7E (k:=3) (l3 _ _ hG) (by decide) ?_;generalize cellAt ns 3=c3;refine ahO hpp hd λks us z G4 lk tu wz l4=>?_;have hp4:=l4 _ _ hpp;have l4:=l3.trans l4;obtain⟨w1,w2,w3,w4⟩:=azJ _ (rP lk)
 have wx:Wx wd:=⟨w1,w2,λc hc=>by
  have:=iu.mp w3 c hc;simpa using this⟩
 have ul:=tu.len;have w4:ks.length<=10:=w4;obtain⟨zl,zw⟩:=azK (c:=c3) (us:=wd::us) (z:=z) (λu hu=>(jc.mp hu).elim (λe=>e ▸ wx) (tu.wx u)) (by rw[ig];omega) wz;have ok:okW (jC z)=ak:=by rw[zw];exact aFN lk tu
 exists arP;refine a7E (k:=4) (l4 _ _ hG) (by decide) ?_;refine mK ?_;refine azP hp4 hd λy G5 hy l5=>?_;have l5:=l4.trans l5;exists arO;intro b hb;have l6:=l5.trans (Le.new (o:=.lst [D.str (Str.ofString "day")]) hb);have hb1:aJ G5 b (.lst [D.str (Str.ofString "day")]) b=aj (.lst [D.str (Str.ofString "day")]):=aF;generalize aJ G5 b _=G6 at l6 hb1 ⊢;intro e he;have l7:=l6.trans (Le.new (o:=.lst [D.non,.int 7,.ref b,.bl ak,.tup [.str (Str.ofString "day")]]) he);have hb2:=bD (o:=.lst [D.non,.int 7,.ref b,.bl ak,.tup [.str (Str.ofString "day")]]) hb1 he;refine a7E (k:=4) (l7 _ _ hG) (by decide) ?_;walk_at "wr";refine iY rfl (by decide) λd hdd=>?_;refine ahQ T (.inr ?_) λG8 l8=>?_
 .simp only[jc,rm,or_false]at hdd;rcases hdd with rfl|rfl|rfl|rfl|rfl
  .exact⟨aLF,λz e=>nomatch e⟩
  .exact⟨aLG,λz e=>nomatch e⟩
  .exact⟨aLI hb2,λz e=>nomatch e⟩
  .exact⟨aSR,λz e=>nomatch e⟩
  .exact⟨aLH,λz e=>nomatch e⟩
 .walk_at "wr";exact aU5 T zl ok hy λG'=>hR G'
end
end Law
namespace Law
open PySem PySem.Spec PyProof.Rows L2 L4
variable{qt:Bool}{k:Nat}{x:Str}{st:mj}{f:bx}{ps:List Str}
section
variable{P:lq}{w:jg}{K:Fg}{mg:Str->Option au}{base:jq}{A:aV}
local macro_rules| `(tactic| walk_at "sc")=>`(tactic| exact⟨rfl,rfl,rfl,by decide+kernel,rfl,by decide+kernel,by decide+kernel⟩)
theorem gfn{j:Nat}{d:jo}{sp:mR}{n:Nat}(h:bU qt P w K mg base (j4 P w) j f d ps (cC K sp))(t:FnT K mg x st f d ps)(hj:j<=k:=by decide):GTs P w K mg base k x (.fn sp n qt):=⟨_,_,_,h.mono hj,t.m,t.F.kp,t.B⟩
theorem ExT.g(t:ExT K mg x c):GTs P w K mg base k x (.cls c):=⟨t.m,t.x,t.cs,t.ty,t.be⟩
theorem dc{qual:Str}{fd:jo}{S:SI}{c:CB}{tb:aO->aZ}(F:Fun K x qual st f fd)(hS:aW S.N ps (bM st))(hc:S.calm=!qt)(hv:ah6 S (bM st)=ak)(hk:kB S 0 c (cX st)=ak)(he:(λEX=>mB S.gl K (λ_=>EX) c)=tb)(hg:∀(j:Nat)(y:Str)(g:GT),S.gl[j]?=aj (y,g)->GTs P w K mg base k y g):bU qt P w K mg base (j4 P w) (k+1) f fd ps (cC K (uD S.N.length ps.length tb)):=by
 rw[←he];exact ay7 F hS hc hv hk hg
theorem aa5(T:Txt w K mg A):bU ao P w K mg base (j4 P w) 1 A.a05 A.lE ["_law_script","_law_k"] (cC K (bZ K A)) :=
 dc (S:=ad7 K A) (c:=ad6) T.eZ.F (show aW ["_law_script","_law_k","_law_more"] ["_law_script","_law_k"] _ from by walk_at "sc") rfl (by kernel_rfl) (by kernel_rfl) (by kernel_rfl) (bY ⟨T.a3O,uY⟩ wM)
theorem pB(T:Txt w K mg A):bU ao P w K mg base (j4 P w) 1 A.ad2 A.xB ["_law_number_here","_law_k"] (cC K (aX K A)) :=
 dc (S:=ap9 K A) (c:=ap8) T.eO.F (show aW ["_law_number_here","_law_k","_law_more"] ["_law_number_here","_law_k"] _ from by walk_at "sc") rfl (by kernel_rfl) (by kernel_rfl) (by kernel_rfl) wM
theorem aj8(T:Txt w K mg A):bU ao P w K mg base (j4 P w) 1 A.a8I A.uH ["_law_cell"] (cC K (rG K A)) :=
 dc (S:=amH K A) (c:=amG) T.jT.F (show aW ["_law_cell","_law_wide","_law_long"] ["_law_cell"] _ from by walk_at "sc") rfl (by kernel_rfl) (by kernel_rfl) (by kernel_rfl) wM
theorem ag1(T:Txt w K mg A):bU ao P w K mg base (j4 P w) 2 A.a5J A.rE ["_law_cell"] (cC K (oR K A)) :=
 dc (S:=aiT K A) (c:=aiS) T.iT.F (show aW ["_law_cell","_law_root","_law_k","_law_at","_law_sign","_law_signs"] ["_law_cell"] _ from by walk_at "sc") rfl (by kernel_rfl) (by kernel_rfl) (by kernel_rfl) (bY ⟨T.aj0,acX⟩ (bY (gfn (pB T) T.eO) (bY ⟨T.a3O,uY⟩ wM)))
theorem aj9(T:Txt w K mg A):bU ao P w K mg base (j4 P w) 1 A.a8J A.uI ["_law_plan_here","_law_cell"] (cC K (lJ K A)) :=
 dc (S:=amJ K A) (c:=amI) T.jU.F (show aW ["_law_plan_here","_law_cell"] ["_law_plan_here","_law_cell"] _ from by walk_at "sc") rfl (by kernel_rfl) (by kernel_rfl) (by kernel_rfl) wM
theorem ajA(T:Txt w K mg A):bU ao P w K mg base (j4 P w) 2 A.a8K A.uJ ["_law_cell"] (cC K (iM K A)) :=
 dc (S:=amL K A) (c:=amK) T.jV.F (show aW ["_law_cell","_law_names","_law_turn","_law_some","_law_words"] ["_law_cell"] _ from by walk_at "sc") rfl (by kernel_rfl) (by kernel_rfl) (by kernel_rfl) (bY ⟨T.a94,a5H⟩ (bY (gfn (pB T) T.eO) wM))
theorem ae1(T:Txt w K mg A):bU ao P w K mg base (j4 P w) 1 A.a2T A.oM ["_law_cell","_law_most"] (cC K (gU K A)) :=
 dc (S:=afK K A) (c:=afJ) T.gB.F (show aW ["_law_cell","_law_most"] ["_law_cell","_law_most"] _ from by walk_at "sc") rfl (by kernel_rfl) (by kernel_rfl) (by kernel_rfl) wM
theorem ae2(T:Txt w K mg A):bU ao P w K mg base (j4 P w) 1 A.a2U A.oN ["_law_cell","_law_room"] (cC K (lK K A)) :=
 dc (S:=afM K A) (c:=afL) T.gC.F (show aW ["_law_cell","_law_room"] ["_law_cell","_law_room"] _ from by walk_at "sc") rfl (by kernel_rfl) (by kernel_rfl) (by kernel_rfl) (bY ⟨T.aTO,aJ6⟩ wM)
theorem ajB(T:Txt w K mg A):bU ao P w K mg base (j4 P w) 3 A.a8L A.uK ["_law_cell","_law_plan_here","_law_room","_law_wares_here","_law_lots","_law_asked","_law_today"] (cC K (rH K A)) :=
 dc (S:=amN K A) (c:=amM) T.jW.F (show aW ["_law_cell","_law_plan_here","_law_room","_law_wares_here","_law_lots","_law_asked","_law_today","_law_kind","_law_more","_law_ware","_law_spot_here","_law_amount_here","_law_lot","_law_day","_law_number_here"] ["_law_cell","_law_plan_here","_law_room","_law_wares_here","_law_lots","_law_asked","_law_today"] _ from by walk_at "sc") rfl (by kernel_rfl) (by kernel_rfl) (by kernel_rfl) (bY (gfn (pB T) T.eO) (bY (gfn (aj9 T) T.jU) (bY (gfn (ae2 T) T.gC) (bY ⟨T.aTN,aJ7⟩ (bY (gfn (ae1 T) T.gB) (bY (gfn (ajA T) T.jV) wM))))))
theorem ajC(T:Txt w K mg A):bU ao P w K mg base (j4 P w) 1 A.a8M A.uL ["_law_spot_here"] (cC K (rJ K A)) :=
 dc (S:=amP K A) (c:=amO) T.jX.F (show aW ["_law_spot_here","_law_figures"] ["_law_spot_here"] _ from by walk_at "sc") rfl (by kernel_rfl) (by kernel_rfl) (by kernel_rfl) (bY ⟨T.amY,acI⟩ (bY ⟨T.a3O,uY⟩ wM))
theorem a4I(T:Txt w K mg A):bU ao P w K mg base (j4 P w) 1 A.uM A.gK ["_law_text","_law_cell"] (cC K (fJ K A)) :=
 dc (S:=a5U K A) (c:=a5T) T.cO.F (show aW ["_law_text","_law_cell"] ["_law_text","_law_cell"] _ from by walk_at "sc") rfl (by kernel_rfl) (by kernel_rfl) (by kernel_rfl) wM
theorem yS(T:Txt w K mg A):bU ao P w K mg base (j4 P w) 2 A.a06 A.lF ["_law_deed_here","_law_cell"] (cC K (dW K A)) :=
 dc (S:=ad9 K A) (c:=ad8) T.dM.F (show aW ["_law_deed_here","_law_cell","_law_words","_law_thing","_law_text","_law_k","_law_word","_law_blanks"] ["_law_deed_here","_law_cell"] _ from by walk_at "sc") rfl (by kernel_rfl) (by kernel_rfl) (by kernel_rfl) (bY ⟨T.fM,dH⟩ (bY ⟨T.iV,gA⟩ (bY (gfn (ajC T) T.jX) (bY ⟨T.az4,aoK⟩ (bY ⟨T.amY,acI⟩ (bY ⟨T.a94,a5H⟩ (bY (gfn (pB T) T.eO) (bY (gfn (a4I T) T.cO) (bY ⟨T.a3O,uY⟩ wM)))))))))
theorem an8(T:Txt w K mg A):bU ao P w K mg base (j4 P w) 1 A.ad3 A.xD ["text"] (cC K (uU K A)) :=
 dc (S:=apB K A) (c:=apA) T.nZ.F (show aW ["text"] ["text"] _ from by walk_at "sc") rfl (by kernel_rfl) (by kernel_rfl) (by kernel_rfl) wM
theorem ajD(T:Txt w K mg A):bU ao P w K mg base (j4 P w) 1 A.a8N A.uN ["word"] (cC K (rK K A)) :=
 dc (S:=amR K A) (c:=amQ) T.jY.F (show aW ["word"] ["word"] _ from by walk_at "sc") rfl (by kernel_rfl) (by kernel_rfl) (by kernel_rfl) (bY ⟨T.a3O,uY⟩ (bY (gcI T.iD) (bY (gcS T.oF) (bY ⟨T.aTM,aJ8⟩ wM))))
theorem ajE(T:Txt w K mg A):bU ao P w K mg base (j4 P w) 2 A.a8O A.uO ["word"] (cC K (rM K A)) :=
 dc (S:=amT K A) (c:=amS) T.jZ.F (show aW ["word"] ["word"] _ from by walk_at "sc") rfl (by kernel_rfl) (by kernel_rfl) (by kernel_rfl) (bY (gfn (ajD T) T.jY) (bY T.lW.g (bY ⟨T.az4,aoK⟩ wM)))
theorem ae3(T:Txt w K mg A):bU ao P w K mg base (j4 P w) 1 A.ahD A.a1Y ["thing"] (cC K (nM K A)) :=
 dc (S:=auE K A) (c:=auD) T.o7.F (show aW ["thing"] ["thing"] _ from by walk_at "sc") rfl (by kernel_rfl) (by kernel_rfl) (by kernel_rfl) (bY ⟨T.amY,acI⟩ (bY ⟨T.iV,gA⟩ (bY ⟨T.a3O,uY⟩ (bY (gcS T.rY) (bY (gcS T.oF) wM)))))
theorem auY(T:Txt w K mg A):bU ao P w K mg base (j4 P w) 2 A.amE A.a5K ["text"] (cC K (a2C K A)) :=
 dc (S:=ayU K A) (c:=ayT) T.wF.F (show aW ["text"] ["text"] _ from by walk_at "sc") rfl (by kernel_rfl) (by kernel_rfl) (by kernel_rfl) (bY (gfn (ae3 T) T.o7) (bY T.a1D.g (bY (gcS T.rY) (bY (gcS T.oF) wM))))
theorem apV(T:Txt w K mg A):bU ao P w K mg base (j4 P w) 3 A.ahE A.a1Z ["word"] (cC K (xJ K A)) :=
 dc (S:=auG K A) (c:=auF) T.rT.F (show aW ["word","name"] ["word"] _ from by walk_at "sc") rfl (by kernel_rfl) (by kernel_rfl) (by kernel_rfl) (bY (gfn (ae3 T) T.o7) (bY T.lW.g (bY (gfn (auY T) T.wF) wM)))
theorem an9(T:Txt w K mg A):bU ao P w K mg base (j4 P w) 4 A.ad4 A.xE ["kind","word"] (cC K (uV K A)) :=
 dc (S:=apD K A) (c:=apC) T.o8.F (show aW ["kind","word"] ["kind","word"] _ from by walk_at "sc") rfl (by kernel_rfl) (by kernel_rfl) (by kernel_rfl) (bY (gfn (ajE T) T.jZ) (bY (gfn (apV T) T.rT) wM))
theorem auZ(T:Txt w K mg A):bU ao P w K mg base (j4 P w) 1 A.amF A.a5L ["form","words"] (cC K (a2D K A)) :=
 dc (S:=ayW K A) (c:=ayV) T.wG.F (show aW ["form","words","last"] ["form","words"] _ from by walk_at "sc") rfl (by kernel_rfl) (by kernel_rfl) (by kernel_rfl) (bY ⟨T.a3O,uY⟩ wM)
theorem ajF(T:Txt w K mg A):bU ao P w K mg base (j4 P w) 5 A.a8P A.uP ["form","words"] (cC K (rN K A)) :=
 dc (S:=amV K A) (c:=amU) T.kJ.F (show aW ["form","words","parts"] ["form","words"] _ from by walk_at "sc") rfl (by kernel_rfl) (by kernel_rfl) (by kernel_rfl) (bY (gfn (auZ T) T.wG) (bY ⟨T.a3O,uY⟩ (bY T.lW.g (bY ⟨T.aTP,aKT⟩ (bY (gfn (an9 T) T.o8) wM)))))
theorem a7H(T:Txt w K mg A):bU ao P w K mg base (j4 P w) 1 A.cP A.fP ["self","things"] (cC K (nO K A)) :=
 dc (S:=a9J K A) (c:=a9I) T.pL (show aW ["self","things"] ["self","things"] _ from by walk_at "sc") rfl (by kernel_rfl) (by kernel_rfl) (by kernel_rfl) (bY ⟨T.fM,dH⟩ (bY ⟨T.aEG,T.adL⟩ wM))
theorem ae4(T:Txt w K mg A):bU ao P w K mg base (j4 P w) 1 A.eG A.j5 ["self","things"] (cC K (sY K A)) :=
 dc (S:=afP K A) (c:=afO) T.vG (show aW ["self","things"] ["self","things"] _ from by walk_at "sc") rfl (by kernel_rfl) (by kernel_rfl) (by kernel_rfl) (bY ⟨T.fM,dH⟩ (bY ⟨T.aT9,T.aiW⟩ wM))
theorem a7I(T:Txt w K mg A):bU ao P w K mg base (j4 P w) 1 A.cQ A.fQ ["self","things"] (cC K (nP K A)) :=
 dc (S:=a9M K A) (c:=a9L) T.pO (show aW ["self","things"] ["self","things"] _ from by walk_at "sc") rfl (by kernel_rfl) (by kernel_rfl) (by kernel_rfl) (bY ⟨T.fM,dH⟩ (bY ⟨T.aEL,T.adP⟩ wM))
theorem a6I(T:Txt w K mg A):bU ao P w K mg base (j4 P w) 1 A.cI A.eY ["self","things"] (cC K (lO K A)) :=
 dc (S:=a7B K A) (c:=a7A) T.o9 (show aW ["self","things"] ["self","things"] _ from by walk_at "sc") rfl (by kernel_rfl) (by kernel_rfl) (by kernel_rfl) (bY ⟨T.fM,dH⟩ (bY ⟨T.az1,T.aa3⟩ wM))
theorem aa6(T:Txt w K mg A):bU ao P w K mg base (j4 P w) 1 A.dI A.gR ["self","things"] (cC K (pG K A)) :=
 dc (S:=adG K A) (c:=adF) T.tL (show aW ["self","things"] ["self","things"] _ from by walk_at "sc") rfl (by kernel_rfl) (by kernel_rfl) (by kernel_rfl) (bY ⟨T.fM,dH⟩ (bY ⟨T.aLY,T.afY⟩ wM))
theorem a2I(T:Txt w K mg A):bU ao P w K mg base (j4 P w) 1 A.c7 A.dJ ["self","things"] (cC K (iZ K A)) :=
 dc (S:=a4G K A) (c:=a4F) T.jM (show aW ["self","things"] ["self","things"] _ from by walk_at "sc") rfl (by kernel_rfl) (by kernel_rfl) (by kernel_rfl) (bY ⟨T.fM,dH⟩ (bY ⟨T.apI,T.a67⟩ wM))
theorem a7J(T:Txt w K mg A):bU ao P w K mg base (j4 P w) 1 A.cR A.fU ["self","things"] (cC K (nQ K A)) :=
 dc (S:=a9P K A) (c:=a9O) T.pQ (show aW ["self","things"] ["self","things"] _ from by walk_at "sc") rfl (by kernel_rfl) (by kernel_rfl) (by kernel_rfl) (bY ⟨T.fM,dH⟩ (bY ⟨T.aEQ,T.adM⟩ wM))
theorem a7K(T:Txt w K mg A):bU ao P w K mg base (j4 P w) 1 A.cT A.fV ["self","things"] (cC K (nR K A)) :=
 dc (S:=a9S K A) (c:=a9R) T.pU (show aW ["self","things"] ["self","things"] _ from by walk_at "sc") rfl (by kernel_rfl) (by kernel_rfl) (by kernel_rfl) (bY ⟨T.fM,dH⟩ (bY ⟨T.aEV,T.adN⟩ wM))
theorem a7L(T:Txt w K mg A):bU ao P w K mg base (j4 P w) 1 A.cU A.fW ["self","things"] (cC K (nT K A)) :=
 dc (S:=a9V K A) (c:=a9U) T.pX (show aW ["self","things"] ["self","things"] _ from by walk_at "sc") rfl (by kernel_rfl) (by kernel_rfl) (by kernel_rfl) (bY ⟨T.fM,dH⟩ (bY ⟨T.aF0,T.adO⟩ wM))
theorem a7M(T:Txt w K mg A):bU ao P w K mg base (j4 P w) 1 A.cV A.fX ["self","things"] (cC K (nU K A)) :=
 dc (S:=a9Y K A) (c:=a9X) T.pZ (show aW ["self","things"] ["self","things"] _ from by walk_at "sc") rfl (by kernel_rfl) (by kernel_rfl) (by kernel_rfl) (bY ⟨T.fM,dH⟩ (bY ⟨T.aF5,T.adR⟩ wM))
theorem a7N(T:Txt w K mg A):bU ao P w K mg base (j4 P w) 1 A.cW A.fY ["self","things"] (cC K (nW K A)) :=
 dc (S:=aa2 K A) (c:=aa0) T.qD (show aW ["self","things"] ["self","things"] _ from by walk_at "sc") rfl (by kernel_rfl) (by kernel_rfl) (by kernel_rfl) (bY ⟨T.fM,dH⟩ (bY ⟨T.aFA,T.adQ⟩ wM))
theorem ae5(T:Txt w K mg A):bU ao P w K mg base (j4 P w) 1 A.eH A.j6 ["self","things"] (cC K (sZ K A)) :=
 dc (S:=afS K A) (c:=afR) T.vI (show aW ["self","things"] ["self","things"] _ from by walk_at "sc") rfl (by kernel_rfl) (by kernel_rfl) (by kernel_rfl) (bY ⟨T.fM,dH⟩ (bY ⟨T.aTE,T.aiX⟩ wM))
theorem ae6(T:Txt w K mg A):bU ao P w K mg base (j4 P w) 1 A.eN A.j7 ["self","things"] (cC K (tD K A)) :=
 dc (S:=afV K A) (c:=afU) T.vK (show aW ["self","things"] ["self","things"] _ from by walk_at "sc") rfl (by kernel_rfl) (by kernel_rfl) (by kernel_rfl) (bY ⟨T.fM,dH⟩ (bY ⟨T.aTJ,T.aiY⟩ wM))
theorem apW(T:Txt w K mg A):bU ao P w K mg base (j4 P w) 3 A.ahF A.a2A ["word","things"] (cC K (xK K A)) :=
 dc (S:=auI K A) (c:=auH) T.rW.F (show aW ["word","things"] ["word","things"] _ from by walk_at "sc") rfl (by kernel_rfl) (by kernel_rfl) (by kernel_rfl) (bY (⟨_,_,_,_,[],[],rfl,T.aEH,(a7H T).mono (by decide),T.aEI,T.pN,.nil,λ_=>.nil⟩) (bY (⟨_,_,_,_,[],[],rfl,T.aTA,(ae4 T).mono (by decide),T.aTB,T.vH,.nil,λ_=>.nil⟩) (bY (⟨_,_,_,_,[],[],rfl,T.aEM,(a7I T).mono (by decide),T.aEN,T.pP,.nil,λ_=>.nil⟩) (bY (⟨_,_,_,_,[],[],rfl,T.az2,(a6I T).mono (by decide),T.az3,T.oA,.nil,λ_=>.nil⟩) (bY (⟨_,_,_,_,[],[],rfl,T.aLZ,(aa6 T).mono (by decide),T.aM0,T.tM,.nil,λ_=>.nil⟩) (bY (⟨_,_,_,_,[],[],rfl,T.apJ,(a2I T).mono (by decide),T.apK,T.jN,.nil,λ_=>.nil⟩) (bY (⟨_,_,_,_,[],[],rfl,T.aER,(a7J T).mono (by decide),T.aES,T.pR,.nil,λ_=>.nil⟩) (bY (⟨_,_,_,_,[],[],rfl,T.aEW,(a7K T).mono (by decide),T.aEX,T.pW,.nil,λ_=>.nil⟩) (bY (⟨_,_,_,_,[],[],rfl,T.aF1,(a7L T).mono (by decide),T.aF2,T.pY,.nil,λ_=>.nil⟩) (bY (⟨_,_,_,_,[],[],rfl,T.aF6,(a7M T).mono (by decide),T.aF7,T.qC,.nil,λ_=>.nil⟩) (bY (⟨_,_,_,_,[],[],rfl,T.aFB,(a7N T).mono (by decide),T.aFC,T.qF,.nil,λ_=>.nil⟩) (bY (⟨_,_,_,_,[],[],rfl,T.aTF,(ae5 T).mono (by decide),T.aTG,T.vJ,.nil,λ_=>.nil⟩) (bY (⟨_,_,_,_,[],[],rfl,T.aTK,(ae6 T).mono (by decide),T.aTL,T.vL,.nil,λ_=>.nil⟩) wM)))))))))))))
theorem ae7(T:Txt w K mg A):bU ao P w K mg base (j4 P w) 6 A.ahG A.a2B ["text"] (cC K (jL K A)) :=
 dc (S:=auK K A) (c:=auJ) T.oE.F (show aW ["text","words"] ["text"] _ from by walk_at "sc") rfl (by kernel_rfl) (by kernel_rfl) (by kernel_rfl) (bY ⟨T.amY,acI⟩ (bY ⟨T.iV,gA⟩ (bY T.lW.g (bY (gfn (an8 T) T.nZ) (bY ⟨T.a3O,uY⟩ (bY ⟨T.a6B,T.aFD P⟩ (bY (gfn (ajF T) T.kJ) (bY (gfn (apW T) T.rW) wM))))))))
theorem aa7(T:Txt w K mg A):bU ao P w K mg base (j4 P w) 7 A.a07 A.lG ["_law_text"] (cC K (fZ K A)) :=
 dc (S:=adI K A) (c:=adH) T.f9.F (show aW ["_law_text","e","_law_some"] ["_law_text"] _ from by walk_at "sc") rfl (by kernel_rfl) (by kernel_rfl) (by kernel_rfl) (bY T.iU.g (bY (gfn (ae7 T) T.oE) (bY T.a1C.g (bY ⟨T.iV,gA⟩ (bY T.a1E.g (bY T.a68.g (bY T.a69.g (bY T.a6A.g (bY T.tO.g (bY T.a1F.g (bY T.a1G.g (bY T.oZ.g (bY T.p8.g (bY T.a1H.g (bY T.tQ.g (bY T.pA.g (bY ⟨T.aiZ,afD⟩ (bY T.lW.g wM))))))))))))))))))
theorem aa8(T:Txt w K mg A):bU ao P w K mg base (j4 P w) 7 A.a08 A.lH ["_law_text"] (cC K (jE K A)) :=
 dc (S:=adK K A) (c:=adJ) T.fB.F (show aW ["_law_text"] ["_law_text"] _ from by walk_at "sc") rfl (by kernel_rfl) (by kernel_rfl) (by kernel_rfl) (bY (gfn (ae7 T) T.oE) (bY ⟨_,.ref A.gG,T.aED,rfl,λ_=>.ref _⟩ (bY ⟨T.iV,gA⟩ (bY T.iU.g wM))))
theorem ae8(T:Txt w K mg A):bU ao P w K mg base (j4 P w) 3 A.a2V A.oO ["_law_deed_here","_law_cell"] (cC K (lV K A)) :=
 dc (S:=afX K A) (c:=afW) T.gF.F (show aW ["_law_deed_here","_law_cell","_law_words","_law_kind","_law_at","_law_places","_law_bad"] ["_law_deed_here","_law_cell"] _ from by walk_at "sc") rfl (by kernel_rfl) (by kernel_rfl) (by kernel_rfl) (bY (gfn (yS T) T.dM) (bY ⟨T.a3O,uY⟩ (bY ⟨T.az4,aoK⟩ (bY ⟨T.aj0,acX⟩ (bY ⟨T.amY,acI⟩ (bY ⟨T.iV,gA⟩ (bY ⟨T.fM,dH⟩ wM)))))))
theorem aMQ(T:Txt w K mg A):bU ao P w K mg base (j4 P w) 8 A.ad5 A.aGO ["_law_script"] (cC K (apE K A)) :=
 dc (S:=aT5 K A) (c:=amX) T.aT6.F (show aW ["_law_script","_law_plan_here","_law_wares_here","_law_deed_here","_law_text","_law_bad","_law_turn"] ["_law_script"] _ from by walk_at "sc") rfl (by kernel_rfl) (by kernel_rfl) (by kernel_rfl) (bY (gfn (aa5 T) T.eZ) (bY (gfn (aj8 T) T.jT) (bY (gfn (ag1 T) T.iT) (bY (gfn (ajB T) T.jW) (bY (gfn (yS T) T.dM) (bY (gfn (pB T) T.eO) (bY (gfn (ae8 T) T.gF) (bY (gfn (aa7 T) T.f9) (bY ⟨T.aj0,acX⟩ (bY (gfn (aa8 T) T.fB) wM))))))))))
end
noncomputable def asB(K:Fg):Sp:=λvs H Q _=>∃(a:bx)(ns:List Int),vs=[.ref a]/\zN K H a (ns.map V.int)/\ns.length<=63/\∀H',Q (.bl ak) H'
variable{mg:Str->Option au}
theorem aFS{K:Fg}{A:aV}(T:Txt w K mg A):∀vs H Q E,asB K vs H Q E->cC K (apE K A) vs H Q E:=by
 rintro vs H Q E ⟨a,ns,rfl,hS,hl,k⟩;refine⟨[.ref a],λb=>if b=a then aj (.rol (ns.map D.int))else aq,λd _=>d=.bl ak,λ_ _=>False,.cons (.ref a) .nil,λb o e=>?_,main T a ns hl _ (if_pos rfl),λv H' d G' r g e=>?_,λC H' G' g z=>z.elim⟩
 .have e2:(if b=a then aj (GO.rol (ns.map D.int))else aq)=aj o:=e;by_cases hb:b=a
  .subst hb;rw[if_pos rfl]at e2;cases e2;exact⟨_,hS,cH.ints ns⟩
  .rw[if_neg hb]at e2;cases e2
 .subst e;cases r;exact k H'
def Cb(K:Fg)(x q:Str)(st:mj)(f:bx):Prop:=∃oc kV dc pm cd ct od an sl,K.lookup f=aj ⟨oc,od,.func (uo x q (gH st) (cX st) (bM st) .none kV dc pm an cd ct),sl⟩/\a1q K cd q=ak/\jy K (.ref f)=ak
theorem Cb.get{K:Fg}{q:Str}(b:Cb K x q st f)(ps:List Str)(h:∀kV dc pm an cd ct,∀us:List au,us.length=ps.length->a0d (uo x q (gH st) (cX st) (bM st) .none kV dc pm an cd ct) ⟨us,[]⟩=pure (ps.zip us)):∃d,Fun K x q st f d/\Binds K d ps []/\jy K (.ref f)=ak:=by
 obtain⟨oc,kV,dc,pm,cd,ct,od,an,sl,l,c,k⟩:=b;exact⟨_,awG (st:=st) l c k,arI (h _ _ _ _ _ _),k⟩
def Fb(K:Fg)(x:Str)(st:mj)(f:bx):Prop:=jr K iy x=aj (aj (.ref f))/\Cb K x x st f
theorem a7O{us:List au}(h:us.length=2)(k:∀a b,a0d fd ⟨[a,b],[]⟩=pure (ps.zip [a,b])):a0d fd ⟨us,[]⟩=pure (ps.zip us):=match us,h with|[a,b],_=>k a b
theorem len1{q:Str}(k:∀kV dc pm an cd ct a,a0d (uo q q (gH st) (cX st) (bM st) .none kV dc pm an cd ct) ⟨[a],[]⟩=pure (ps.zip [a])):∀kV dc pm an cd ct,∀us:List au,us.length=1->a0d (uo q q (gH st) (cX st) (bM st) .none kV dc pm an cd ct) ⟨us,[]⟩=pure (ps.zip us):=λ_ _ _ _ _ _ us h=>by
 rcases us with _|⟨a,_|⟨_,_⟩⟩<;>first|exact k _ _ _ _ _ _ a|simp at h
theorem len2{q:Str}(k:∀kV dc pm an cd ct a b,a0d (uo q q (gH st) (cX st) (bM st) .none kV dc pm an cd ct) ⟨[a,b],[]⟩=pure (ps.zip [a,b])):∀kV dc pm an cd ct,∀us:List au,us.length=2->a0d (uo q q (gH st) (cX st) (bM st) .none kV dc pm an cd ct) ⟨us,[]⟩=pure (ps.zip us):=λ_ _ _ _ _ _ us h=>by
 rcases us with _|⟨a,_|⟨b,_|⟨_,_⟩⟩⟩<;>first|exact k _ _ _ _ _ _ a b|simp at h
theorem aXV{q:Str}(k:∀kV dc pm an cd ct a b c d e f g,a0d (uo q q (gH st) (cX st) (bM st) .none kV dc pm an cd ct) ⟨[a,b,c,d,e,f,g],[]⟩=pure (ps.zip [a,b,c,d,e,f,g])):∀kV dc pm an cd ct,∀us:List au,us.length=7->a0d (uo q q (gH st) (cX st) (bM st) .none kV dc pm an cd ct) ⟨us,[]⟩=pure (ps.zip us):=λ_ _ _ _ _ _ us h=>by
 rcases us with _|⟨a,_|⟨b,_|⟨c,_|⟨d,_|⟨e,_|⟨f,_|⟨g,_|⟨_,_⟩⟩⟩⟩⟩⟩⟩⟩<;>first|exact k _ _ _ _ _ _ a b c d e f g|simp at h
theorem Fb.get{K:Fg}{q:Str}{st:mj}{f:bx}{h:jq}{mg:Str->Option au}(b:Fb K q st f)(XK:K.In h)(GG:h.Ns iy mg)(ps:List Str)(h:∀kV dc pm an cd ct,∀us:List au,us.length=ps.length->a0d (uo q q (gH st) (cX st) (bM st) .none kV dc pm an cd ct) ⟨us,[]⟩=pure (ps.zip us)):∃d,FnT K mg q st f d ps:=by
 obtain⟨d,F,B,_⟩:=b.2.get ps h;exact⟨d,F,B,nu XK GG b.1⟩
def Mb(K:Fg)(c:bx)(x q:Str)(st:mj)(f:bx):Prop:=dw K (.ref c) x=aj (aj (.ref f))/\PySem.W.isFn K (.ref f)=ak/\Cb K x q st f
theorem Mb.get{K:Fg}{c:bx}{x q:Str}{st:mj}{f:bx}(b:Mb K c x q st f)(ps:List Str)(h:∀kV dc pm an cd ct,∀us:List au,us.length=ps.length->a0d (uo x q (gH st) (cX st) (bM st) .none kV dc pm an cd ct) ⟨us,[]⟩=pure (ps.zip us)):∃d,Fun K x q st f d/\Binds K d ps []/\dw K (.ref c) x=aj (aj (.ref f))/\PySem.W.isFn K (.ref f)=ak/\jy K (.ref f)=ak:=by
 obtain⟨d,F,B,k⟩:=b.2.2.get ps h;exact⟨d,F,B,b.1,b.2.1,k⟩
structure Eb(K:Fg)(x:Str)(c:bx):Prop where
 b:jr K iy x=aj (aj (.ref c))
 x:yp K c [.type "ValueError",.type "Exception",.type "BaseException",.type "object"] "ValueError.__new__"=ak
 cs:(ux K c).isSome=ak
 ty:a0a K (.ref c)=aj (.type "type")
 be:um K (.ref c) (.type "BaseException")=aj ak
variable{h:jq}
theorem Eb.gt{K:Fg}(e:Eb K x c)(XK:K.In h)(GG:h.Ns iy mg):ExT K mg x c:=⟨nu XK GG e.b,e.x,e.cs,e.ty,e.be⟩
variable{l:PySem.W.OpenLaw}
theorem all_mk{w:jg}{K:Fg}{fa:bx}(XK:K.In h)(GG:h.Ns iy mg)(hfa:mg "law"=aj (.ref fa))
  (eZ:Fb K "_law_cell_at" zZ ae9)
  (eO:Fb K "_law_mix" acZ apY)
  (jT:Fb K "_law_plan" a8A anA)
  (iT:Fb K "_law_wares" a5I ajG)
  (jU:Fb K "_law_spot" a8B anB)
  (jV:Fb K "_law_rule" a8C anC)
  (gB:Fb K "_law_number" a2N ag2)
  (gC:Fb K "_law_amount" a2O ag3)
  (jW:Fb K "_law_deed" a8D anD)
  (jX:Fb K "_law_name" a8E anE)
  (cO:Fb K "_law_mixed_case" uG a6J)
  (dM:Fb K "_law_written" a01 aeA)
  (nZ:Fb K "words_in" ad0 apZ)
  (jY:Fb K "is_number" a8F anF)
  (jZ:Fb K "number_of" a8G anG)
  (o7:Fb K "is_name" ah9 av0)
  (wF:Fb K "bin_of" amB azR)
  (rT:Fb K "spot_of" ahA av1)
  (o8:Fb K "thing_of" ad1 aq0)
  (wG:Fb K "joined" amC azS)
  (kJ:Fb K "things_of" a8H anH)
  (qG:Mb K qH "__init__" "Deed.__init__" yG aa9)
  (vM:Mb K aaA "__init__" "Deed.__init__" a2P ag4)
  (qI:Mb K qJ "__init__" "Deed.__init__" yH aaB)
  (oG:Mb K jH "__init__" "Deed.__init__" vY a7P)
  (tU:Mb K yU "__init__" "Deed.__init__" a02 aeB)
  (jO:Mb K dX "__init__" "Deed.__init__" sO a4J)
  (qK:Mb K qL "__init__" "Deed.__init__" yI aaC)
  (qM:Mb K qN "__init__" "Deed.__init__" yJ aaD)
  (qO:Mb K qP "__init__" "Deed.__init__" yK aaE)
  (qQ:Mb K qR "__init__" "Deed.__init__" yL aaF)
  (qT:Mb K qU "__init__" "Deed.__init__" yM aaG)
  (vN:Mb K aaH "__init__" "Deed.__init__" a2Q ag5)
  (vO:Mb K aaI "__init__" "Deed.__init__" a2R ag6)
  (rW:Fb K "deed_by" ahB av2)
  (oE:Fb K "deed_of" ahC av3)
  (f9:Fb K "_law_refused" a03 aeC)
  (fB:Fb K "_law_is_deed" a04 aeD)
  (gF:Fb K "_law_spoilt" a2S ag7)
  (ad5:jr K iy "law"=aj (aj (.ref azT)))
  (azU:K.lookup azT=aj ⟨aXW,aXX,.func (uo "law" "law" (gH amD) (cX amD) (bM amD) .none aXY aXZ aY0 aY1 aMR aY2),aY3⟩)
  (amX:a1q K aMR "law"=ak)
  (azV:jy K (.ref azT)=ak)
  (ajH:jr K iy "Deed"=aj (aj (.ref lZ)))
  (w2:PySem.W.specialIn K (.builtin "object.__class__") "__get__"=aj (aj (.builtin "getset_descriptor.__get__")))
  (w3:PySem.W.takesIn K (.builtin "object.__class__")=aj ak)
  (ajI:dw K (.ref qH) "__class__"=aj (aj (.builtin "object.__class__")))
  (ajJ:qy K qH (.type "object")=aj ak)
  (ajK:cu K (.ref qH) (.ref lZ)=aj ak)
  (ajL:jr K iy "Come"=aj (aj (.ref qH)))
  (ab6:qp K qH Str.empty=ak)
  (ab7:qe K qH=ak)
  (ab8:qd K qH=ak)
  (ab9:dw K (.ref qH) "__setattr__"=aj (aj (.builtin "object.__setattr__")))
  (ajM:qw K qH=ak)
  (ajN:jy K (.ref qH)=ak)
  (azW:dw K (.ref aaA) "__class__"=aj (aj (.builtin "object.__class__")))
  (azX:qy K aaA (.type "object")=aj ak)
  (azY:cu K (.ref aaA) (.ref lZ)=aj ak)
  (azZ:jr K iy "Go"=aj (aj (.ref aaA)))
  (asC:qp K aaA Str.empty=ak)
  (asD:qe K aaA=ak)
  (asF:qd K aaA=ak)
  (asG:dw K (.ref aaA) "__setattr__"=aj (aj (.builtin "object.__setattr__")))
  (aA0:qw K aaA=ak)
  (aA1:jy K (.ref aaA)=ak)
  (ajO:dw K (.ref qJ) "__class__"=aj (aj (.builtin "object.__class__")))
  (ajP:qy K qJ (.type "object")=aj ak)
  (ajQ:cu K (.ref qJ) (.ref lZ)=aj ak)
  (ajR:jr K iy "Move"=aj (aj (.ref qJ)))
  (abA:qp K qJ Str.empty=ak)
  (abB:qe K qJ=ak)
  (abC:qd K qJ=ak)
  (abD:dw K (.ref qJ) "__setattr__"=aj (aj (.builtin "object.__setattr__")))
  (ajS:qw K qJ=ak)
  (ajT:jy K (.ref qJ)=ak)
  (aeE:dw K (.ref jH) "__class__"=aj (aj (.builtin "object.__class__")))
  (aeF:qy K jH (.type "object")=aj ak)
  (aeG:cu K (.ref jH) (.ref lZ)=aj ak)
  (aeH:jr K iy "Count"=aj (aj (.ref jH)))
  (a6K:qp K jH Str.empty=ak)
  (a6L:qe K jH=ak)
  (a6M:qd K jH=ak)
  (a6N:dw K (.ref jH) "__setattr__"=aj (aj (.builtin "object.__setattr__")))
  (aeI:qw K jH=ak)
  (aeJ:jy K (.ref jH)=ak)
  (aq1:dw K (.ref yU) "__class__"=aj (aj (.builtin "object.__class__")))
  (aq2:qy K yU (.type "object")=aj ak)
  (aq3:cu K (.ref yU) (.ref lZ)=aj ak)
  (aq4:jr K iy "Day"=aj (aj (.ref yU)))
  (ajU:qp K yU Str.empty=ak)
  (ajV:qe K yU=ak)
  (ajW:qd K yU=ak)
  (ajX:dw K (.ref yU) "__setattr__"=aj (aj (.builtin "object.__setattr__")))
  (aq5:qw K yU=ak)
  (aq6:jy K (.ref yU)=ak)
  (a4K:dw K (.ref dX) "__class__"=aj (aj (.builtin "object.__class__")))
  (a4L:qy K dX (.type "object")=aj ak)
  (a4M:cu K (.ref dX) (.ref lZ)=aj ak)
  (a4N:jr K iy "Promise"=aj (aj (.ref dX)))
  (xO:qp K dX Str.empty=ak)
  (xP:qe K dX=ak)
  (xQ:qd K dX=ak)
  (xR:dw K (.ref dX) "__setattr__"=aj (aj (.builtin "object.__setattr__")))
  (a4O:qw K dX=ak)
  (a4P:jy K (.ref dX)=ak)
  (ajY:dw K (.ref qL) "__class__"=aj (aj (.builtin "object.__class__")))
  (ajZ:qy K qL (.type "object")=aj ak)
  (ak0:cu K (.ref qL) (.ref lZ)=aj ak)
  (ak1:jr K iy "Drop"=aj (aj (.ref qL)))
  (abE:qp K qL Str.empty=ak)
  (abF:qe K qL=ak)
  (abG:qd K qL=ak)
  (abH:dw K (.ref qL) "__setattr__"=aj (aj (.builtin "object.__setattr__")))
  (ak2:qw K qL=ak)
  (ak3:jy K (.ref qL)=ak)
  (ak4:dw K (.ref qN) "__class__"=aj (aj (.builtin "object.__class__")))
  (ak5:qy K qN (.type "object")=aj ak)
  (ak6:cu K (.ref qN) (.ref lZ)=aj ak)
  (ak7:jr K iy "Free"=aj (aj (.ref qN)))
  (abI:qp K qN Str.empty=ak)
  (abJ:qe K qN=ak)
  (abK:qd K qN=ak)
  (abL:dw K (.ref qN) "__setattr__"=aj (aj (.builtin "object.__setattr__")))
  (ak8:qw K qN=ak)
  (ak9:jy K (.ref qN)=ak)
  (akA:dw K (.ref qP) "__class__"=aj (aj (.builtin "object.__class__")))
  (akB:qy K qP (.type "object")=aj ak)
  (akC:cu K (.ref qP) (.ref lZ)=aj ak)
  (akD:jr K iy "Keep"=aj (aj (.ref qP)))
  (abM:qp K qP Str.empty=ak)
  (abN:qe K qP=ak)
  (abO:qd K qP=ak)
  (abP:dw K (.ref qP) "__setattr__"=aj (aj (.builtin "object.__setattr__")))
  (akE:qw K qP=ak)
  (akF:jy K (.ref qP)=ak)
  (akG:dw K (.ref qR) "__class__"=aj (aj (.builtin "object.__class__")))
  (akH:qy K qR (.type "object")=aj ak)
  (akI:cu K (.ref qR) (.ref lZ)=aj ak)
  (akJ:jr K iy "Wave"=aj (aj (.ref qR)))
  (abQ:qp K qR Str.empty=ak)
  (abR:qe K qR=ak)
  (abS:qd K qR=ak)
  (abT:dw K (.ref qR) "__setattr__"=aj (aj (.builtin "object.__setattr__")))
  (akK:qw K qR=ak)
  (akL:jy K (.ref qR)=ak)
  (akM:dw K (.ref qU) "__class__"=aj (aj (.builtin "object.__class__")))
  (akN:qy K qU (.type "object")=aj ak)
  (akO:cu K (.ref qU) (.ref lZ)=aj ak)
  (akP:jr K iy "Walk"=aj (aj (.ref qU)))
  (abU:qp K qU Str.empty=ak)
  (abV:qe K qU=ak)
  (abW:qd K qU=ak)
  (abX:dw K (.ref qU) "__setattr__"=aj (aj (.builtin "object.__setattr__")))
  (akQ:qw K qU=ak)
  (akR:jy K (.ref qU)=ak)
  (aA2:dw K (.ref aaH) "__class__"=aj (aj (.builtin "object.__class__")))
  (aA3:qy K aaH (.type "object")=aj ak)
  (aA4:cu K (.ref aaH) (.ref lZ)=aj ak)
  (aA5:jr K iy "In"=aj (aj (.ref aaH)))
  (asH:qp K aaH Str.empty=ak)
  (asI:qe K aaH=ak)
  (asJ:qd K aaH=ak)
  (asK:dw K (.ref aaH) "__setattr__"=aj (aj (.builtin "object.__setattr__")))
  (aA6:qw K aaH=ak)
  (aA7:jy K (.ref aaH)=ak)
  (aA8:dw K (.ref aaI) "__class__"=aj (aj (.builtin "object.__class__")))
  (aA9:qy K aaI (.type "object")=aj ak)
  (aAA:cu K (.ref aaI) (.ref lZ)=aj ak)
  (aAB:jr K iy "Of"=aj (aj (.ref aaI)))
  (asL:qp K aaI Str.empty=ak)
  (asM:qe K aaI=ak)
  (asN:qd K aaI=ak)
  (asO:dw K (.ref aaI) "__setattr__"=aj (aj (.builtin "object.__setattr__")))
  (aAC:qw K aaI=ak)
  (aAD:jy K (.ref aaI)=ak)
  (tV:dw K (.ref qH) "things"=aj aq)
  (qW:dw K (.ref jH) "things"=aj aq)
  (vP:dw K (.ref yU) "things"=aj aq)
  (tW:dw K (.ref qL) "things"=aj aq)
  (tX:dw K (.ref qN) "things"=aj aq)
  (xT:dw K (.ref aaA) "things"=aj aq)
  (xU:dw K (.ref aaH) "things"=aj aq)
  (tY:dw K (.ref qP) "things"=aj aq)
  (tZ:dw K (.ref qJ) "things"=aj aq)
  (xV:dw K (.ref aaI) "things"=aj aq)
  (m9:dw K (.ref dX) "things"=aj aq)
  (u0:dw K (.ref qU) "things"=aj aq)
  (u5:dw K (.ref qR) "things"=aj aq)
  (iU:Eb K "DepotError" a6O)
  (a1C:Eb K "NoPlan" anI)
  (a1D:Eb K "NoName" aAE)
  (a1E:Eb K "NoWare" anJ)
  (a68:Eb K "NoDay" asQ)
  (a69:Eb K "NoBin" asR)
  (a6A:Eb K "NoLot" asS)
  (tO:Eb K "NoAmount" aeK)
  (a1F:Eb K "NoRoom" anK)
  (oZ:Eb K "TooLittle" a97)
  (a1G:Eb K "NoRule" anL)
  (p8:Eb K "NoPromise" a98)
  (a1H:Eb K "Broken" anM)
  (tQ:Eb K "NotToday" aeL)
  (pA:Eb K "StillOpen" a99)
  (lW:Eb K "NoRow" cG)
  (aeM:dw K (.ref cG) "__getattribute__"=aj (aj (.builtin "BaseException.__getattribute__")))
  (aeN:dw K (.ref cG) "__getattr__"=aj aq)
  (aeO:dw K (.ref cG) "__class__"=aj (aj (.builtin "object.__class__")))
  (aeP:qy K cG (.type "object")=aj ak)
  (a1I:cu K (.ref cG) (.type "ValueError")=aj ak)
  (gW:cu K (.ref cG) (.ref anM)=aj ao)
  (cJ:um K (.ref cG) (.ref a6O)=aj ak)
  (fC:cu K (.ref cG) (.ref aeK)=aj ao)
  (j8:cu K (.ref cG) (.ref asR)=aj ao)
  (j9:cu K (.ref cG) (.ref asQ)=aj ao)
  (jA:cu K (.ref cG) (.ref asS)=aj ao)
  (gY:cu K (.ref cG) (.ref anI)=aj ao)
  (dZ:cu K (.ref cG) (.ref a98)=aj ao)
  (gZ:cu K (.ref cG) (.ref anK)=aj ao)
  (jB:cu K (.ref cG) (.ref cG)=aj ak)
  (iB:cu K (.ref cG) (.ref anL)=aj ao)
  (iC:cu K (.ref cG) (.ref anJ)=aj ao)
  (fD:cu K (.ref cG) (.ref aeL)=aj ao)
  (eE:cu K (.ref cG) (.ref a99)=aj ao)
  (eF:cu K (.ref cG) (.ref a97)=aj ao)
  (rY:jr K iy "LETTERS"=aj (aj (.str "ABCDEFGHIJKLMNOPQRSTUVWXYZ" av4)))
  (oF:jr K iy "FIGURES"=aj (aj (.str "0123456789" av5)))
  (iD:jr K iy "MOST_FIGURES"=aj (aj (.int 7 aeQ)))
  (a6B:jr K iy "FORMS"=aj (aj (.ref rF)))
  (aeR:(rF==sysModules)=ao)
  (aeS:K.lookup rF=aj ⟨.type "dict",aq,.dict #[{hash:=PyData.keyHash w.params "come",key:=.str "come" aU6,val:=.ref aAF},{hash:=PyData.keyHash w.params "go",key:=.str "go" aU7,val:=.ref aAG},{hash:=PyData.keyHash w.params "move",key:=.str "move" aU8,val:=.ref aAH},{hash:=PyData.keyHash w.params "count",key:=.str "count" aU9,val:=.ref aAI},{hash:=PyData.keyHash w.params "day",key:=.str "day" aUA,val:=.ref aAJ},{hash:=PyData.keyHash w.params "promise",key:=.str "promise" aUB,val:=.ref aAK},{hash:=PyData.keyHash w.params "drop",key:=.str "drop" aUC,val:=.ref aAL},{hash:=PyData.keyHash w.params "free",key:=.str "free" aUD,val:=.ref aAM},{hash:=PyData.keyHash w.params "keep",key:=.str "keep" aUE,val:=.ref aAN},{hash:=PyData.keyHash w.params "wave",key:=.str "wave" aUF,val:=.ref aAO},{hash:=PyData.keyHash w.params "walk",key:=.str "walk" aO9,val:=.ref av6},{hash:=PyData.keyHash w.params "in",key:=.str "in" aOA,val:=.ref av7},{hash:=PyData.keyHash w.params "of",key:=.str "of" aOB,val:=.ref av8}] aUG,#[]⟩)
  (a4Q:K.lookup av8=aj ⟨.type "tuple",aMS,.seq #[.str "ware" aGZ] aMT,aMU⟩)
  (a4R:K.lookup av7=aj ⟨.type "tuple",aMV,.seq #[.str "bin" aH0] aMW,aMX⟩)
  (a4S:K.lookup av6=aj ⟨.type "tuple",aMY,.seq #[.str "rule" aH1] aMZ,aN0⟩)
  (a7Q:K.lookup aAO=aj ⟨.type "tuple",aOC,.seq #[.str "rule" aN1] aOD,aOE⟩)
  (a7R:K.lookup aAN=aj ⟨.type "tuple",aOF,.seq #[.str "number" aN2,.str "rule" aN3] aOG,aOH⟩)
  (a7S:K.lookup aAM=aj ⟨.type "tuple",aOI,.seq #[.str "ware" aN4,.str "number" aN5] aOJ,aOK⟩)
  (a7T:K.lookup aAL=aj ⟨.type "tuple",aOL,.seq #[.str "number" aN6] aOM,aON⟩)
  (a7U:K.lookup aAK=aj ⟨.type "tuple",aOO,.seq #[.str "ware" aN7,.str "number" aN8,.str "number" aN9] aOP,aOQ⟩)
  (a7V:K.lookup aAJ=aj ⟨.type "tuple",aOR,.seq #[] aOS,aOT⟩)
  (a7W:K.lookup aAI=aj ⟨.type "tuple",aOU,.seq #[.str "number" aNA,.str "bin" aNB,.str "number" aNC] aOV,aOW⟩)
  (a7X:K.lookup aAH=aj ⟨.type "tuple",aOX,.seq #[.str "number" aND,.str "bin" aNE,.str "bin" aNF,.str "number" aNG] aOY,aOZ⟩)
  (a7Y:K.lookup aAG=aj ⟨.type "tuple",aP0,.seq #[.str "number" aNH,.str "bin" aNI,.str "number" aNJ] aP1,aP2⟩)
  (a7Z:K.lookup aAF=aj ⟨.type "tuple",aP3,.seq #[.str "ware" aNK,.str "number" aNL,.str "bin" aNM,.str "number" aNN] aP4,aP5⟩)
  (xW:jr K iy "ValueError"=aj aq)
  (aAP:jr K iy "all"=aj aq)
  (a1N:jr K iy "enumerate"=aj aq)
  (aAQ:jr K iy "int"=aj aq)
  (xX:jr K iy "isinstance"=aj aq)
  (aAR:jr K iy "len"=aj aq)
  (aAS:jr K iy "max"=aj aq)
  (aAT:jr K iy "min"=aj aq)
  (akS:jr K iy "range"=aj aq)
  (aAU:jr K iy "str"=aj aq)
  (akT:jr K iy "tuple"=aj aq)
  (aAV:jr K iy "zip"=aj aq) :
  ∃fd:jo,(∀(s:cg)(v:au),BindsTo s fd ⟨[v],[]⟩ [("_law_script",v)])/\∀base:jq,K.In base->base.Ns iy mg->bU ao l.prog w K mg base (j4 l.prog w) 8 fa fd ["_law_script"] (asB K):=by
 have e:=hfa.symm.trans (nu XK GG ad5);cases e;obtain⟨lE,aeT⟩:=eZ.get XK GG ["_law_script","_law_k"] (len2 λ_ _ _ _ _ _ _ _=>rfl);obtain⟨xB,aq7⟩:=eO.get XK GG ["_law_number_here","_law_k"] (len2 λ_ _ _ _ _ _ _ _=>rfl);obtain⟨uH,anN⟩:=jT.get XK GG ["_law_cell"] (len1 λ_ _ _ _ _ _ _=>rfl);obtain⟨rE,akU⟩:=iT.get XK GG ["_law_cell"] (len1 λ_ _ _ _ _ _ _=>rfl);obtain⟨uI,anO⟩:=jU.get XK GG ["_law_plan_here","_law_cell"] (len2 λ_ _ _ _ _ _ _ _=>rfl);obtain⟨uJ,anP⟩:=jV.get XK GG ["_law_cell"] (len1 λ_ _ _ _ _ _ _=>rfl);obtain⟨oM,ag8⟩:=gB.get XK GG ["_law_cell","_law_most"] (len2 λ_ _ _ _ _ _ _ _=>rfl);obtain⟨oN,ag9⟩:=gC.get XK GG ["_law_cell","_law_room"] (len2 λ_ _ _ _ _ _ _ _=>rfl);obtain⟨uK,anQ⟩:=jW.get XK GG ["_law_cell","_law_plan_here","_law_room","_law_wares_here","_law_lots","_law_asked","_law_today"] (aXV λ_ _ _ _ _ _ _ _ _ _ _ _ _=>rfl);obtain⟨uL,anR⟩:=jX.get XK GG ["_law_spot_here"] (len1 λ_ _ _ _ _ _ _=>rfl);obtain⟨gK,a6P⟩:=cO.get XK GG ["_law_text","_law_cell"] (len2 λ_ _ _ _ _ _ _ _=>rfl);obtain⟨lF,aeU⟩:=dM.get XK GG ["_law_deed_here","_law_cell"] (len2 λ_ _ _ _ _ _ _ _=>rfl);obtain⟨xD,aq8⟩:=nZ.get XK GG ["text"] (len1 λ_ _ _ _ _ _ _=>rfl);obtain⟨uN,anS⟩:=jY.get XK GG ["word"] (len1 λ_ _ _ _ _ _ _=>rfl);obtain⟨uO,anT⟩:=jZ.get XK GG ["word"] (len1 λ_ _ _ _ _ _ _=>rfl);obtain⟨a1Y,av9⟩:=o7.get XK GG ["thing"] (len1 λ_ _ _ _ _ _ _=>rfl);obtain⟨a5K,aAW⟩:=wF.get XK GG ["text"] (len1 λ_ _ _ _ _ _ _=>rfl);obtain⟨a1Z,avA⟩:=rT.get XK GG ["word"] (len1 λ_ _ _ _ _ _ _=>rfl);obtain⟨xE,aq9⟩:=o8.get XK GG ["kind","word"] (len2 λ_ _ _ _ _ _ _ _=>rfl);obtain⟨a5L,aAX⟩:=wG.get XK GG ["form","words"] (len2 λ_ _ _ _ _ _ _ _=>rfl);obtain⟨uP,anU⟩:=kJ.get XK GG ["form","words"] (len2 λ_ _ _ _ _ _ _ _=>rfl);obtain⟨fP,pL,pN,cP,yV,aaJ⟩:=qG.get ["self","things"] λ_ _ _ _ _ _ us hl=>a7O hl λ_ _=>rfl;obtain⟨j5,vG,vH,eG,a3P,agA⟩:=vM.get ["self","things"] λ_ _ _ _ _ _ us hl=>a7O hl λ_ _=>rfl;obtain⟨fQ,pO,pP,cQ,yW,aaK⟩:=qI.get ["self","things"] λ_ _ _ _ _ _ us hl=>a7O hl λ_ _=>rfl;obtain⟨eY,o9,oA,cI,wK,a80⟩:=oG.get ["self","things"] λ_ _ _ _ _ _ us hl=>a7O hl λ_ _=>rfl;obtain⟨gR,tL,tM,dI,a1O,aeV⟩:=tU.get ["self","things"] λ_ _ _ _ _ _ us hl=>a7O hl λ_ _=>rfl;obtain⟨dJ,jM,jN,c7,u6,a4T⟩:=jO.get ["self","things"] λ_ _ _ _ _ _ us hl=>a7O hl λ_ _=>rfl;obtain⟨fU,pQ,pR,cR,yX,aaL⟩:=qK.get ["self","things"] λ_ _ _ _ _ _ us hl=>a7O hl λ_ _=>rfl;obtain⟨fV,pU,pW,cT,yZ,aaM⟩:=qM.get ["self","things"] λ_ _ _ _ _ _ us hl=>a7O hl λ_ _=>rfl;obtain⟨fW,pX,pY,cU,zA,aaN⟩:=qO.get ["self","things"] λ_ _ _ _ _ _ us hl=>a7O hl λ_ _=>rfl;obtain⟨fX,pZ,qC,cV,zB,aaO⟩:=qQ.get ["self","things"] λ_ _ _ _ _ _ us hl=>a7O hl λ_ _=>rfl;obtain⟨fY,qD,qF,cW,zE,aaP⟩:=qT.get ["self","things"] λ_ _ _ _ _ _ us hl=>a7O hl λ_ _=>rfl;obtain⟨j6,vI,vJ,eH,a3Q,agB⟩:=vN.get ["self","things"] λ_ _ _ _ _ _ us hl=>a7O hl λ_ _=>rfl;obtain⟨j7,vK,vL,eN,a3R,agC⟩:=vO.get ["self","things"] λ_ _ _ _ _ _ us hl=>a7O hl λ_ _=>rfl;obtain⟨a2A,avB⟩:=rW.get XK GG ["word","things"] (len2 λ_ _ _ _ _ _ _ _=>rfl);obtain⟨a2B,avC⟩:=oE.get XK GG ["text"] (len1 λ_ _ _ _ _ _ _=>rfl);obtain⟨lG,aeW⟩:=f9.get XK GG ["_law_text"] (len1 λ_ _ _ _ _ _ _=>rfl);obtain⟨lH,aeX⟩:=fB.get XK GG ["_law_text"] (len1 λ_ _ _ _ _ _ _=>rfl);obtain⟨oO,agD⟩:=gF.get XK GG ["_law_deed_here","_law_cell"] (len2 λ_ _ _ _ _ _ _ _=>rfl);have Z:=λ{x:Str}(h:jr K iy x=aj aq)=>PySem.W.mg_none_of XK GG h;have T:Txt w K mg ⟨ae9,lE,apY,xB,anA,uH,ajG,rE,anB,uI,anC,uJ,ag2,oM,ag3,oN,anD,uK,anE,uL,a6J,gK,aeA,lF,apZ,xD,anF,uN,anG,uO,av0,a1Y,azR,a5K,av1,a1Z,aq0,xE,azS,a5L,anH,uP,aa9,fP,ag4,j5,aaB,fQ,a7P,eY,aeB,gR,a4J,dJ,aaC,fU,aaD,fV,aaE,fW,aaF,fX,aaG,fY,ag5,j6,ag6,j7,av2,a2A,av3,a2B,aeC,lG,aeD,lH,ag7,oO,azT,_,a6O,anI,aAE,anJ,asQ,asR,asS,aeK,anK,a97,anL,a98,anM,aeL,a99,cG,lZ,qH,aaA,qJ,jH,yU,dX,qL,qN,qP,qR,qU,aaH,aaI,rF⟩:=⟨aeT,aq7,anN,akU,anO,anP,ag8,ag9,anQ,anR,a6P,aeU,aq8,anS,anT,av9,aAW,avA,aq9,aAX,anU,pL,pN,⟨cP,yV,aaJ⟩,vG,vH,⟨eG,a3P,agA⟩,pO,pP,⟨cQ,yW,aaK⟩,o9,oA,⟨cI,wK,a80⟩,tL,tM,⟨dI,a1O,aeV⟩,jM,jN,⟨c7,u6,a4T⟩,pQ,pR,⟨cR,yX,aaL⟩,pU,pW,⟨cT,yZ,aaM⟩,pX,pY,⟨cU,zA,aaN⟩,pZ,qC,⟨cV,zB,aaO⟩,qD,qF,⟨cW,zE,aaP⟩,vI,vJ,⟨eH,a3Q,agB⟩,vK,vL,⟨eN,a3R,agC⟩,avB,avC,aeW,aeX,agD,⟨awG (st:=amD) azU amX azV,arI (ps:=["_law_script"]) (λus hl=>match us,hl with|[_],_=>rfl),nu XK GG ad5⟩,nu XK GG ajH,⟨⟨ab6,ab7,ab8,ab9⟩,ajI,w2,w3,ajJ⟩,ajK,⟨ab6,ab7,ab8,ab9⟩,⟨ajM,cP,yV,ajN⟩,nu XK GG ajL,⟨⟨asC,asD,asF,asG⟩,azW,w2,w3,azX⟩,azY,⟨asC,asD,asF,asG⟩,⟨aA0,eG,a3P,aA1⟩,nu XK GG azZ,⟨⟨abA,abB,abC,abD⟩,ajO,w2,w3,ajP⟩,ajQ,⟨abA,abB,abC,abD⟩,⟨ajS,cQ,yW,ajT⟩,nu XK GG ajR,⟨⟨a6K,a6L,a6M,a6N⟩,aeE,w2,w3,aeF⟩,aeG,⟨a6K,a6L,a6M,a6N⟩,⟨aeI,cI,wK,aeJ⟩,nu XK GG aeH,⟨⟨ajU,ajV,ajW,ajX⟩,aq1,w2,w3,aq2⟩,aq3,⟨ajU,ajV,ajW,ajX⟩,⟨aq5,dI,a1O,aq6⟩,nu XK GG aq4,⟨⟨xO,xP,xQ,xR⟩,a4K,w2,w3,a4L⟩,a4M,⟨xO,xP,xQ,xR⟩,⟨a4O,c7,u6,a4P⟩,nu XK GG a4N,⟨⟨abE,abF,abG,abH⟩,ajY,w2,w3,ajZ⟩,ak0,⟨abE,abF,abG,abH⟩,⟨ak2,cR,yX,ak3⟩,nu XK GG ak1,⟨⟨abI,abJ,abK,abL⟩,ak4,w2,w3,ak5⟩,ak6,⟨abI,abJ,abK,abL⟩,⟨ak8,cT,yZ,ak9⟩,nu XK GG ak7,⟨⟨abM,abN,abO,abP⟩,akA,w2,w3,akB⟩,akC,⟨abM,abN,abO,abP⟩,⟨akE,cU,zA,akF⟩,nu XK GG akD,⟨⟨abQ,abR,abS,abT⟩,akG,w2,w3,akH⟩,akI,⟨abQ,abR,abS,abT⟩,⟨akK,cV,zB,akL⟩,nu XK GG akJ,⟨⟨abU,abV,abW,abX⟩,akM,w2,w3,akN⟩,akO,⟨abU,abV,abW,abX⟩,⟨akQ,cW,zE,akR⟩,nu XK GG akP,⟨⟨asH,asI,asJ,asK⟩,aA2,w2,w3,aA3⟩,aA4,⟨asH,asI,asJ,asK⟩,⟨aA6,eH,a3Q,aA7⟩,nu XK GG aA5,⟨⟨asL,asM,asN,asO⟩,aA8,w2,w3,aA9⟩,aAA,⟨asL,asM,asN,asO⟩,⟨aAC,eN,a3R,aAD⟩,nu XK GG aAB,tV,qW,vP,tW,tX,xT,xU,tY,tZ,xV,m9,u0,u5,iU.gt XK GG,a1C.gt XK GG,a1D.gt XK GG,a1E.gt XK GG,a68.gt XK GG,a69.gt XK GG,a6A.gt XK GG,tO.gt XK GG,a1F.gt XK GG,oZ.gt XK GG,a1G.gt XK GG,p8.gt XK GG,a1H.gt XK GG,tQ.gt XK GG,pA.gt XK GG,lW.gt XK GG,⟨aeM,aeN,aeO,lW.be,aeP,lW.cs⟩,a1I,gW,cJ,fC,j8,j9,jA,gY,dZ,gZ,jB,iB,iC,fD,eE,eF,⟨av4,nu XK GG rY⟩,⟨av5,nu XK GG oF⟩,⟨aeQ,nu XK GG iD⟩,nu XK GG a6B,λP=>aSB aeS aeR (.cons (mW (xs:=[.str "ware",.str "number",.str "bin",.str "number"]) a7Z (show 4<=cj by decide) (.cons ⟨_,rfl⟩ (.cons ⟨_,rfl⟩ (.cons ⟨_,rfl⟩ (.cons ⟨_,rfl⟩ .nil)))) λ_=>(.cons (.str _) (.cons (.str _) (.cons (.str _) (.cons (.str _) .nil))))) (.cons (mW (xs:=[.str "number",.str "bin",.str "number"]) a7Y (show 3<=cj by decide) (.cons ⟨_,rfl⟩ (.cons ⟨_,rfl⟩ (.cons ⟨_,rfl⟩ .nil))) λ_=>(.cons (.str _) (.cons (.str _) (.cons (.str _) .nil)))) (.cons (mW (xs:=[.str "number",.str "bin",.str "bin",.str "number"]) a7X (show 4<=cj by decide) (.cons ⟨_,rfl⟩ (.cons ⟨_,rfl⟩ (.cons ⟨_,rfl⟩ (.cons ⟨_,rfl⟩ .nil)))) λ_=>(.cons (.str _) (.cons (.str _) (.cons (.str _) (.cons (.str _) .nil))))) (.cons (mW (xs:=[.str "number",.str "bin",.str "number"]) a7W (show 3<=cj by decide) (.cons ⟨_,rfl⟩ (.cons ⟨_,rfl⟩ (.cons ⟨_,rfl⟩ .nil))) λ_=>(.cons (.str _) (.cons (.str _) (.cons (.str _) .nil)))) (.cons (mW (xs:=[]) a7V (show 0<=cj by decide) .nil λ_=>.nil) (.cons (mW (xs:=[.str "ware",.str "number",.str "number"]) a7U (show 3<=cj by decide) (.cons ⟨_,rfl⟩ (.cons ⟨_,rfl⟩ (.cons ⟨_,rfl⟩ .nil))) λ_=>(.cons (.str _) (.cons (.str _) (.cons (.str _) .nil)))) (.cons (mW (xs:=[.str "number"]) a7T (show 1<=cj by decide) (.cons ⟨_,rfl⟩ .nil) λ_=>(.cons (.str _) .nil)) (.cons (mW (xs:=[.str "ware",.str "number"]) a7S (show 2<=cj by decide) (.cons ⟨_,rfl⟩ (.cons ⟨_,rfl⟩ .nil)) λ_=>(.cons (.str _) (.cons (.str _) .nil))) (.cons (mW (xs:=[.str "number",.str "rule"]) a7R (show 2<=cj by decide) (.cons ⟨_,rfl⟩ (.cons ⟨_,rfl⟩ .nil)) λ_=>(.cons (.str _) (.cons (.str _) .nil))) (.cons (mW (xs:=[.str "rule"]) a7Q (show 1<=cj by decide) (.cons ⟨_,rfl⟩ .nil) λ_=>(.cons (.str _) .nil)) (.cons (mW (xs:=[.str "rule"]) a4S (show 1<=cj by decide) (.cons ⟨_,rfl⟩ .nil) λ_=>(.cons (.str _) .nil)) (.cons (mW (xs:=[.str "bin"]) a4R (show 1<=cj by decide) (.cons ⟨_,rfl⟩ .nil) λ_=>(.cons (.str _) .nil)) (.cons (mW (xs:=[.str "ware"]) a4Q (show 1<=cj by decide) (.cons ⟨_,rfl⟩ .nil) λ_=>(.cons (.str _) .nil)) .nil))))))))))))) (by decide+kernel),Z xW,Z aAP,Z a1N,Z aAQ,Z xX,Z aAR,Z aAS,Z aAT,Z akS,Z aAU,Z akT,Z aAV⟩;exact⟨_,λs v=>.of_eq rfl,λbase _ _=>(aMQ T).imp (aFS T)⟩
theorem walk{XP:(Str->Option au)->jq->Prop}{YP:jg->jq->Prop}{d:DefRec}{K:Params->iw}(hn:l.most=aj 63)(hdf:d.params.defaults=[])
  (hY:∀(w:jg)(h:jq),YP w h->(K w.params).In h)
  (F:∀(w:jg)(mg:Str->Option au)(fa:bx)(h:jq),(K w.params).In h->h.Ns iy mg->mg d.name=aj (.ref fa) ->
   ∃fd:jo,(∀(s:cg)(u:au),BindsTo s fd ⟨[u],[]⟩ [("_law_script",u)])/\∀base:jq,(K w.params).In base->base.Ns iy mg->bU ao l.prog w (K w.params) mg base (j4 l.prog w) 8 fa fd ["_law_script"] (asB (K w.params))) :
  PySem.W.WalkO q loose XP YP l.row.toRowW d [] (λf vs=>PySem.call f vs) :=
 L2.aC1 (n:=63) (k:=8) (x:="_law_script") (CX:=λw=>j4 l.prog w) (sp:=λw=>asB (K w.params)) hn (by decide) hdf ⟨λ_=>rfl,by decide,by decide⟩ hY F (λ_ _ a ns hl _ hS=>⟨a,ns,rfl,hS,hl,λ_=>rfl⟩) (by rintro _ _ _ _ _ ⟨_,_,_,_,_,_,_,_,_,_,_,_,z⟩;exact z)
end Law
open PySem PySem.W PyProof.Rows
set_option tactic.hygienic true in
theorem PySem.Challenge.cw_depot_k83_rows_that_are_none_holds : PySem.Challenge.rw_depot_k83_rows_that_are_none.Holds := by
 w_on;refine PySem.W.holds_law Law.frW λsaid=>?_;o_head (PySem.W.kHook Law.frK.heap_1 Law.frA Law.frE)
 case hl=>exact Law.frL
 case hw=>w_witness2
 k_fill
 refine Law.walk (l:=PySem.Challenge.rw_depot_k83_rows_that_are_none) rfl rfl (λw h Y=>PySem.W.kIn_of Y) ?F
 case F =>
  intro w mg fa h KX G hmg;refine' Law.all_mk KX G hmg ?eZ ?eO ?jT ?iT ?jU ?jV ?gB ?gC ?jW ?jX ?cO ?dM ?nZ ?jY ?jZ ?o7 ?wF ?rT ?o8 ?wG ?kJ ?qG ?vM ?qI ?oG ?tU ?jO ?qK ?qM ?qO ?qQ ?qT ?vN ?vO ?rW ?oE ?f9 ?fB ?gF ?ad5 ?azU ?amX ?azV ?ajH ?w2 ?w3 ?ajI ?ajJ ?ajK ?ajL ?ab6 ?ab7 ?ab8 ?ab9 ?ajM ?ajN ?azW ?azX ?azY ?azZ ?asC ?asD ?asF ?asG ?aA0 ?aA1 ?ajO ?ajP ?ajQ ?ajR ?abA ?abB ?abC ?abD ?ajS ?ajT ?aeE ?aeF ?aeG ?aeH ?a6K ?a6L ?a6M ?a6N ?aeI ?aeJ ?aq1 ?aq2 ?aq3 ?aq4 ?ajU ?ajV ?ajW ?ajX ?aq5 ?aq6 ?a4K ?a4L ?a4M ?a4N ?xO ?xP ?xQ ?xR ?a4O ?a4P ?ajY ?ajZ ?ak0 ?ak1 ?abE ?abF ?abG ?abH ?ak2 ?ak3 ?ak4 ?ak5 ?ak6 ?ak7 ?abI ?abJ ?abK ?abL ?ak8 ?ak9 ?akA ?akB ?akC ?akD ?abM ?abN ?abO ?abP ?akE ?akF ?akG ?akH ?akI ?akJ ?abQ ?abR ?abS ?abT ?akK ?akL ?akM ?akN ?akO ?akP ?abU ?abV ?abW ?abX ?akQ ?akR ?aA2 ?aA3 ?aA4 ?aA5 ?asH ?asI ?asJ ?asK ?aA6 ?aA7 ?aA8 ?aA9 ?aAA ?aAB ?asL ?asM ?asN ?asO ?aAC ?aAD ?tV ?qW ?vP ?tW ?tX ?xT ?xU ?tY ?tZ ?xV ?m9 ?u0 ?u5 ?iU ?a1C ?a1D ?a1E ?a68 ?a69 ?a6A ?tO ?a1F ?oZ ?a1G ?p8 ?a1H ?tQ ?pA ?lW ?aeM ?aeN ?aeO ?aeP ?a1I ?gW ?cJ ?fC ?j8 ?j9 ?jA ?gY ?dZ ?gZ ?jB ?iB ?iC ?fD ?eE ?eF ?rY ?oF ?iD ?a6B ?aeR ?aeS ?a4Q ?a4R ?a4S ?a7Q ?a7R ?a7S ?a7T ?a7U ?a7V ?a7W ?a7X ?a7Y ?a7Z ?xW ?aAP ?a1N ?aAQ ?xX ?aAR ?aAS ?aAT ?akS ?aAU ?akT ?aAV
  case ajH|ajL|azZ|ajR|aeH|aq4|a4N|ak1|ak7|akD|akJ|akP|aA5|aAB=>k_is
  case eZ|eO|jT|iT|jU|jV|gB|gC|jW|jX|cO|dM|nZ|jY|jZ|o7|wF|rT|o8|wG|kJ=>exact⟨by k_is,_,_,_,_,_,_,_,_,_,by k_is,by k_is,by k_is⟩
  case iU|a1C|a1D|a1E|a68|a69|a6A|tO|a1F|oZ|a1G|p8|a1H|tQ|pA|lW=>exact⟨by k_is,by k_exc,by kernel_rfl,by k_is,by k_is⟩
  case qG|vM|qI|oG|tU|jO|qK|qM|qO|qQ|qT|vN|vO=>exact⟨by k_is,by k_is,_,_,_,_,_,_,_,_,_,by k_is,by k_is,by k_is⟩
  case rW|oE|f9|fB|gF=>exact⟨by k_is,_,_,_,_,_,_,_,_,_,by k_is,by k_is,by k_is⟩
  case ad5|azU|amX|azV|w2|w3|ajI|ajJ|ab6|ab7|ab8|ab9|ajM|ajN|azW|azX|asC|asD|asF|asG|aA0|aA1|ajO|ajP|abA|abB|abC|abD|ajS|ajT|aeE|aeF|a6K|a6L|a6M|a6N|aeI|aeJ|aq1|aq2|ajU|ajV|ajW|ajX|aq5|aq6|a4K|a4L|xO|xP|xQ|xR|a4O|a4P|ajY|ajZ|abE|abF|abG|abH|ak2|ak3|ak4|ak5|abI|abJ|abK|abL|ak8|ak9|akA|akB|abM|abN|abO|abP|akE|akF|akG|akH|abQ|abR|abS|abT|akK|akL|akM|akN|abU|abV|abW|abX|akQ|akR|aA2|aA3|asH|asI|asJ|asK|aA6|aA7|aA8|aA9|asL|asM|asN|asO|aAC|aAD|tV|qW|vP|tW|tX|xT|xU|tY|tZ|xV|m9|u0|u5|aeM|aeN|aeO|aeP|cJ|rY|oF|iD|a6B|aeS|a4Q|a4R|a4S|a7Q|a7R|a7S|a7T|a7U|a7V|a7W|a7X|a7Y|a7Z|xW|aAP|a1N|aAQ|xX|aAR|aAS|aAT|akS|aAU|akT|aAV=>k_is
  case aeR=>rfl
  case ajK|azY|ajQ|aeG|aq3|a4M|ak0|ak6|akC|akI|akO|aA4|aAA|a1I|gW|fC|j8|j9|jA|gY|dZ|gZ|jB|iB|iC|fD|eE|eF=>kit_is
