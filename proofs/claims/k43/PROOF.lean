import PyProof.Rows.All
import Wide.All
import OpenK.KLine
import OpenK.KOwn
import Wide.FinOn
import Lean
import PyProof.EqAt
import PyProof.EqKinds
import PyProof.TupleCall
import KE.KMinKey
import KE.KSortTup
import KE.KRevSl
import KE.KStateDown
import PyProof.Rows.Range3
import KE.KDictOf
import PyProof.AttrMissSeq
import KE.KRevIter
import KE.KItemsList
import KE.KPairComp
import KE.KEqDict
import KE.KDictSum
import KE.RegKIsAll
import KE.KNest
import KE.KClos
import PyProof.Draws
import PyProof.EnumMake
import PyProof.StrBlock2
import PyProof.DictRoadsH
import PySem.Challenge.RW_depot_k43_pieces_of_a_house
set_option Elab.async false
set_option linter.all false
set_option maxRecDepth 100000
set_option maxHeartbeats 4000000
set_option compiler.extract_closed false
def oP_ : Nat → Lean.Syntax → Lean.MacroM (Lean.TSyntax `rcasesPat)
  | 0, _ => Lean.Macro.throwUnsupported
  | n + 1, s => if s.isOfKind ``Lean.Parser.Term.anonymousCtor then do
      let xs ← s[1].getSepArgs.mapM (oP_ n)
      `(rcasesPat| ⟨$[$xs],*⟩)
    else if s.isIdent then `(rcasesPat| $(⟨s⟩):ident)
    else if s.isOfKind ``Lean.Parser.Term.hole then `(rcasesPat| _)
    else Lean.Macro.throwUnsupported
local macro_rules|`(⋯)=>`(by omega)
local macro_rules|`(∅)=>`(by kernel_rfl)
local macro_rules|`(tactic|let $p:term:=$e)=>do
  let q ← oP_ 9 p
  `(tactic|obtain $q:rcasesPat:=$e)
local macro_rules|`(command|abbrev $i:declId $s:optDeclSig $v:declVal)=>`(command|noncomputable def $i:declId $s:optDeclSig $v:declVal)
local macro_rules|`(command|@[simp]def $i:declId $s:optDeclSig $v:declVal)=>`(command|noncomputable abbrev $i:declId $s:optDeclSig $v:declVal)
local macro_rules|`(command|def $i:declId $s:optDeclSig $v:declVal)=>`(command|theorem $i:declId $(⟨Lean.mkNode ``Lean.Parser.Command.declSig #[s.raw[0],s.raw[1][0]]⟩):declSig $v:declVal)
local macro_rules|`(command|private theorem $i:declId $s:declSig $v:declVal)=>`(command|set_option tactic.hygienic true in theorem $i:declId $s:declSig $v:declVal)
local macro_rules|`(tactic|nofun)=>`(tactic|kernel_rfl)
open Option renaming some->aj,none->au,some->jt,map_eq_some_iff->ug,isSome_map->GP,none->Br
open Bool renaming true->ak,false->ao,and_eq_true->cg,not_eq_true'->iw,false_ne_true->qg,false_eq_true->um,not_true->wb,false_or->DD,and_true->DC,or_eq_true->GI,false_and->GW
open PySem renaming wpAny_bind->aq,Value->bh,Addr->bx,wpAny_pure->cu,Shared->dg,sizeLine->dh,wpAny->dj,model->dz,Expr->je,FuncData->jf,starEach->jg,World->ji,mainGlobals->jj,Stmt->jo,Heap->kh,Program->lg,Around->lu,bootBuiltins->mq,compareOp->nj,wpAny_mono->qu,wpAny_newObj_type->qw,wpAny_field->qx,cLine->qy,backTo->uc,wpAny_holding->ud,attributeBase->uf,bindArgs->uh,sysModules->ur,wpAny_call_entry->vm,NameKind->vp,wpAny_setField->xq,wpAny_truthy_bool->yd,wpAny_dictEntries->yh,binaryOp->yj,wpAny_Call_Name_kw->yx,wpAny_callSpecial?_slot->zf,Scope->zq,DictEntry->iX,tupleKind_room_in1->zl,pyNext->eW,wpAny_typeNameOfWhole_keyiter->Hi,keywordEach->pw,rawInt->fA,wpAny_passesOwn->zi,Keyword->ip,ExcBaseFacts->vT,wpAny_typeNameOf_keyiter->Hu,wpAny_getItem_str_slice->Hb,wpAny_Call_method0_late->Ha,wpAny_rule->se,wpAny_execs_nil->By,assignEach->rX,foldedSetIterable->DP,codeAny->k9,tupleKind->rV,swapsWith->rS,PassesOwn->vS,wpAny_attempt->Bv,behindInMarks->Bu,sliceBounds->y8,letOwnedTupleGo->DH,firstArgMember->Mx,wpAny_seqItems->DE,wpAny_pyIter_list->GN
open PySem.Heap renaming get?_push_of_some->cj,lt_size->gk,get?_push_size->ig,SameBut->jr,get?_update_self->GZ,ExtBut->y9,size_push->DF,MadeExcOf->GX
open Nat renaming le_refl->fj,ne_of_lt->jl,lt_of_lt_of_le->ju,le_trans->qd,lt_irrefl->vg,le_of_lt->wk,zero_le->xu,min_eq_left->zh,lt_trichotomy->BB,le_succ->sf,lt_succ_of_lt->DQ,le_succ_of_le->DN,ne_of_gt->zb,le_of_eq->Bs
open List renaming length_map->gw,size_toArray->gV,getElem?_eq_some_iff->iz,getElem?_eq_getElem->jd,mem_cons->jm,all_eq_true->jq,mem_map->jw,map_cons->kj,mem_of_getElem?->lq,range->ou,mem_cons_of_mem->qj,getElem?_map->ql,map_append->qz,mem_append_right->uo,length_cons->uq,length_append->uw,mem_singleton->ux,getD->vf,pairwise_iff_getElem->vq,length_take->wu,lookup_cons->wz,map_map->xg,mem_range->xr,mem_append->yp,nodup_cons->yq,mem_cons_self->yw,lookup->za,nodup_append->zj,mem_filter->zm,getElem?_append_right->zu,all_cons->zx,filter_cons->zy,getElem_mem->wo,length_filter_le->BC,take_length->zk,getElem?_eq_none->DR,pairwise_map->BA,getElem?_append_left->Hh,replicate->zg,getElem?_cons_zero->G7,any_cons->zd,append_nil->Bx,find?_cons->Bw,mem_iff_getElem?->GY,not_mem_nil->DL,Pairwise->Bt,map_congr_left->GU,mem_filterMap->GS,take_add_one->GL,mem_append_left->Mw,filterMap_cons->Mv,filter_sublist->Mz,length->DJ
open PySem.W renaming Frag->jc,findIn->jk,kitOne->ni,nsIn->oh,subIn->qe,fnOf->qm,keepIn->tu,Looks->vh,clsIn->vo,mg_of->wj,emptyDict->yg,kia_one->yt,excIn->zc,instObj->wm,typeIn->we,codeIn->wc,plainGet->Bz,isFn->v5,hasDictIn->DO,plainOver->GQ,Hook->DB,hideAll->GK,makesIn->GJ,plainGet_of->Mu,callWith_K0->Mt,lookIn->GV,callWith_K->Mo
open PyProof.Rows renaming seqObj->qb,get?_update_seq->DG
open Array renaming length_toList->qp,getElem?_eq_getElem->wg,getElem?_toList->yu,getElem?_eq_some_iff->zp,getD->y7
open Int renaming toNat_natCast->yc,le_refl->mn,emod_lt_of_pos->GR,emod_nonneg->GH
namespace Law
open PySem PySem.W PyProof.Rows
abbrev xF(n:Nat):jo:=PySem.Challenge.pw_depot_k43_pieces_of_a_house.main.body.getD n (.Pass ⟨0,0,0,0⟩)
abbrev xp:lg:={PySem.Challenge.pw_depot_k43_pieces_of_a_house with main:={PySem.Challenge.pw_depot_k43_pieces_of_a_house.main with body:=[xF 0,xF 2,xF 3,xF 4,xF 5,xF 6,xF 7,xF 8,xF 9,xF 10,xF 12,xF 13,xF 14,xF 15,xF 16,xF 17,xF 18,xF 19,xF 20,xF 21,xF 23,xF 24,xF 25,xF 26,xF 28,xF 29,xF 30,xF 31,xF 32,xF 34,xF 36,xF 37,xF 38,xF 39,xF 41,xF 43,xF 44,xF 45,xF 46,xF 47,xF 48,xF 49,xF 50,xF 51]}}
abbrev Ge(tb:String->Option Builtin)(p:lg)(w:ji)(mP:Nat)(ann:Option bh):Nat->SharedT->Thread->Option SharedT
 |0,_,_=>au
 |n+1,s,t=>match through t with
  |true=>aj s
  |false=>match stepOk mP ann t with
   |false=>au
   |true=>match stepT (denote tb) p w s t with
    |some (s',t')=>Ge tb p w mP ann n s' t'
    |none=>au
def Pu{w:ji}{mP:Nat}:∀(n:Nat)(s r:SharedT)(t:Thread),Ge tb p w mP ann n s t=aj r->topRun tb p w mP ann n s.abs t=aj r.abs
 |0,_,_,_,h=>by cases h
 |n+1,s,r,t,h=>by
  unfold Ge at h;unfold topRun;split at h
  .rename_i e;rw[e];cases h;rfl
  .rename_i e;rw[e];split at h
   .cases h
   .rename_i e2;rw[e2];split at h
    .rename_i s' t' e3;dsimp only;rw[stepT_spec e3];exact Pu n _ _ _ h
    .cases h
abbrev Xj(P:Params):BT:=((boot_heap P).objs.toList.foldl (λ(z:BT×Nat) o=>(z.1.ins z.2 o,z.2+1)) (BT.nil,0)).1
abbrev frs(w:ji)(os:OsState):SharedT:=⟨Xj w.params,11,(boot_heap w.params).life,#[],boot_drawn,boot_toks,os⟩
def Xk(w:ji)(os:OsState):(frs w os).abs=⟨boot_heap w.params,#[],boot_drawn,boot_toks,os⟩:=by nofun
abbrev Lm(p:lg)(h₀:kh)(af:dg):Bool:=staticsOk (importedModules p.main.body) h₀ af.heap&&namesBound p af.heap&&gensDone af&&laidKept h₀ af.heap
def Xm{p:lg}{α:Type}{Yf:dg->α}{Ya:ji->α}{N:Nat}{g0:Bool} 
  (e:opening p=plainProg p.main.scope.names)(hN:Nat.ble 600 N=ak)(f:∀s,fenceModules? p s=aj s)
  (ha:∀P,(boot_heap P).nsMap jj "__annotations__"=ann)(hi:∀P,(boot_heap P).isNs jj=ak)
  (h:∀(w:ji)(os:OsState),(Ge treeTable p w 11 ann N (frs w os) (topStub p)).map (λs=>(Lm p (boot_heap w.params) s.abs,openSeen q loose (importedModules p.main.body) Xt g0 s.abs,Yf s.abs))=aj (ak,openGood q loose,Ya w)) :
  LeftO p q loose Xt Yf Ya N g0:=λw=>by
 let⟨⟨h1,gs,d,k,os⟩,e1,e'⟩:=ug.mp (boot_open e hN f w);obtain⟨rfl,rfl,rfl,rfl⟩:h1=boot_heap w.params/\gs=#[]/\d=boot_drawn/\k=boot_toks:=by simpa using e'
 unfold openEnds;rw[e1];let⟨r,e2,e3⟩:=ug.mp (h w os);have e4:=Pu _ _ _ _ e2;rw[Xk]at e4;obtain⟨a1,a2,a3⟩:Lm p (boot_heap w.params) r.abs=ak/\openSeen q loose (importedModules p.main.body) Xt g0 r.abs=openGood q loose/\Yf r.abs=Ya w:=by simpa using e3
 show(topFrom treeTable p w N ⟨boot_heap w.params,#[],boot_drawn,boot_toks,os⟩).map _=_;unfold topFrom;have c:(dg.mk (boot_heap w.params) #[] boot_drawn boot_toks os).heap.isNs jj=ak:=hi w.params;have s0:((dg.mk (boot_heap w.params) #[] boot_drawn boot_toks os).gens.size==0)=ak:=rfl;rw[c,s0];show((topRun treeTable p w 11 ((boot_heap w.params).nsMap jj "__annotations__") N ⟨boot_heap w.params,#[],boot_drawn,boot_toks,os⟩ (topStub p)).bind _).map _=_;rw[ha,e4];unfold Lm at a1
 show Option.map _ (match staticsOk (importedModules p.main.body) (boot_heap w.params) r.abs.heap&&namesBound p r.abs.heap&&gensDone r.abs&&laidKept (boot_heap w.params) r.abs.heap with
   |true=>aj r.abs
   |false=>au)=_
 rw[a1];show aj (_,_)=aj (_,_);rw[a2,a3]
@[simp]def II:dg->Bool:=λs=>xlAt xp [] s&&recOk (RowW.records (OpenRow.toRowW (OpenLaw.row PySem.Challenge.rw_depot_k43_pieces_of_a_house))) s
end Law
local macro_rules
 | `(tactic| o_head $H)=>`(tactic| refine PySem.W.holds_open (q:=Law.xp) (loose:=[]) (Xt:=Law.II) (XP:=PySem.W.XL Law.xp []) (Yf:=DB.obs $H) (Ya:=DB.val $H)
     (YP:=DB.says $H) (N:=8322) ?hl (DB.of $H) (DB.keeps $H) (λs e=>PySem.W.xl_of s (Bool.and_eq_true_iff.mp e).1) PySem.W.XL.keeps (by rfl) (by rfl) (by rfl)
     (λs e=>PySem.W.recFacts_of (Bool.and_eq_true_iff.mp e).2) (by rfl) (by first|assumption|decide+kernel) (by decide+kernel) ⟨rfl,rfl,rfl,rfl,rfl,by decide+kernel⟩ ?hw ?hc)
open PySem PySem.W in
def Law.Oj:OpenLaw.wellSaid PySem.Challenge.rw_depot_k43_pieces_of_a_house=ak:=by nofun
open PySem PySem.W in
def Law.E0(h0:∀{α:Type}(Yf:dg->α)(Ya:ji->α),LeftO (OpenLaw.row PySem.Challenge.rw_depot_k43_pieces_of_a_house).prog Law.xp [] Law.II Yf Ya 8322)
  (h1:∀YP d,WalkO Law.xp [] (XL Law.xp []) YP (OpenRow.toRowW (OpenLaw.row PySem.Challenge.rw_depot_k43_pieces_of_a_house)) d [] (λf vs=>PySem.call f vs)):OpenLaw.Holds PySem.Challenge.rw_depot_k43_pieces_of_a_house:=by
 w_on;refine PySem.W.holds_law Law.Oj λM9=>?_;k_head
 case hl=>exact h0 _ _
 case hw=>w_witness2
 exact h1 _ _
@[simp]def Law.E1:List Nat:=[2,3,15,17,18,20,21,22,29,30,31,32,35,42,43,44,47,54,55,56,59,66,67,68,71,78,79,80,83,90,91,92,95,102,103,104,107,114,115,116,119,126,127,128,131,133,134,136,137,138,140,141,143,144,145,148,149,150,152,153,155,156,157,159,160,162,163,164,166,167,169,170,171,173,174,176,177,178,180,181,183,184,185,187,188,190,191,192,194,195,197,198,199,201,202,204,205,206,208,209,211,212,213,215,216,218,219,220,222,223,225,226,227,229,230,232,233,234,236,237,239,240,248,249,251,252,254,255,256,258,259,261,262,263,265,266,268,269,270,272,273,275,276,277,279,280,282,283,284,286,287,289,290,291,293,294,296,297,298,301,302,303,305,306,308,309,310,312,313,315,316,317,319,320,322,323,324,325,326,327,328,338,339,341,342,344,345,346,348,349,351,352,353,355,356,358,359,360,362,363,365,366,367,369,370,372,373,374,376,377,379,380,381,383,384,386,387,388,390,391,393,394,395,397,398,400,401,402,404,405,407,408,409,411,412,414,415,416,418,419,421,422,423,425,426,428,429,430,432,433,435,436,437,438,440,441,443,444,445,447,448,450,451,452,453,454,455,456,459,461,462,464,465,466,468,469,471,472,473,475,476,478,479,480,482,483,485,486,487,489,490,492,493,494,496,497,499,500,501,503,504,506,507,508,510,511,513,514,515,518,519]
def Law.IJ:∀P,Law.E1=(Law.E0.heap_1 P).map (·.1):=λ_=>by nofun
open PySem PySem.W in
def Law.Xl:LeftO (OpenLaw.row PySem.Challenge.rw_depot_k43_pieces_of_a_house).prog Law.xp [] Law.II (Hook.obs (kHook Law.E0.heap_1 Law.E1 Law.IJ)) (Hook.val (kHook Law.E0.heap_1 Law.E1 Law.IJ)) 8322 :=
 Law.Xm (by nofun) (by nofun) (λs=>by nofun) (ann:=some (.ref 6)) (λP=>by nofun) (λP=>by nofun) (λw os=>by nofun)
local macro_rules|`(tactic|omega)=>`(tactic|first|lia|omega (config := {}))
set_option tactic.hygienic false
namespace L2
open PySem PySem.Spec PyProof.Rows
variable{h:kh}{o:Obj}{b l:bx}{x:Str}
section
structure Tr(B:kh)(x:bx)(C fl:bh)(h:kh):Prop where
 ex:∃(o:Obj)(vs:Array bh)(T:bx)(oT:Obj)(ts:Array bh),h.get? x=aj o/\o.cls=C/\o.data=.fields vs/\vs[1]?=aj (.ref T)/\vs[2]?=aj .none/\B.get? T=au/\T≠x/\h.get? T=aj oT/\oT.data=.fields ts/\ts[3]?=aj fl
structure rp(B:kh)(l:List Env)(x:bx)(C fl:bh)(h:kh):Prop where
 stays:B.StaysIn h
 new:B.get? x=au
 Gd:h.FunFrames B l
 tr:Tr B x C fl h
@[simp]def mr(B:kh)(l:List Env)(x:bx)(C:bh)(h:kh):Prop:=rp B l x C .none h
variable{i:Nat}{v:bh}
section
variable{M:Model}{A:lu}{s:dg}{B:kh}{l:List Env}{env:Env}{outer:List Env}{x:bx}{fl:bh}
def rp.fld(f:rp B l x C fl h):∃o vs,h.get? x=aj o/\o.cls=C/\o.data=.fields vs/\vs[2]?=aj .none:=by
 let⟨o,vs,_,_,_,h1,h2,h3,_,h5,_⟩:=f.tr.ex;exact⟨o,vs,h1,h2,h3,h5⟩
def uK{vs:Array bh}(e:h.get? a=aj o)(d:o.data=.fields vs) :
  (h.update a (Obj.mapFields (·.setIfInBounds i v))).get? a=aj (Obj.mapFields (·.setIfInBounds i v) o)/\(Obj.mapFields (·.setIfInBounds i v) o).data=.fields (vs.setIfInBounds i v)/\(Obj.mapFields (·.setIfInBounds i v) o).cls=o.cls /\
  (∀b,b≠a->(h.update a (Obj.mapFields (·.setIfInBounds i v))).get? b=h.get? b):=by
 have d':=Obj.data_mapFields d (·.setIfInBounds i v);exact⟨GZ _ e (Obj.isFreed_of_fields d'),d',Obj.cls_mapFields _ _,λb hb=>Heap.get?_update_other _ _ (Ne.symm hb)⟩
def Bq{u:Obj}(e:h.get? a=aj o)(d:o.data=.fields vs)(e2:h.get? b=aj u)(n:∀ws,u.data≠.fields ws):b≠a:=λq=>by
 subst q;rw[e]at e2;cases e2;exact n vs d
def Bp(f:rp B l x C fl s.heap)(h:∀h',mr B l x C h'->s.heap.UpToSlots h'->Q () {s with heap:=h' }):dj M A (setFlight (.ref x) au) Q E s:=by
 let⟨st,nw,fu,⟨o,vs,T,oT,ts,e1,e2,e3,e4,e5,e6,e7,e8,e9,AI⟩⟩:=f;unfold setFlight;refine aq (qx e1 e3 e4 ?_);rw[if_pos (by simp)];have l3:3<ts.size:=(zp.mp AI).1;let⟨u1,u2,u3,u4⟩:=uK (i:=3) (v:=(au:Option bx).elim bh.none λf=>fA f) e8 e9;refine xq e8 e9 l3 (h _ ⟨λb u q=>?_,nw,fu.of_keeps λb u q n=>⟨u,(u4 b (Bq e8 e9 q n)).trans q,rfl⟩,⟨o,vs,T,_,_,(u4 x (Ne.symm e7)).trans e1,e2,e3,e4,e5,e6,e7,u1,u2,?_⟩⟩ λb u q n=>⟨u.slots,(u4 b (Bq e8 e9 q n)).trans q⟩)
 .exact(u4 b λz=>by subst z;rw[e6]at q;cases q).trans (st b u q)
 .simp[l3]
def Qx{sM:Bool}{vs:Array bh}(iL:A.frames=aj (env::outer))(hf:env.frame=aj L)(st:B.StaysIn s.heap)(nw:B.get? x=au)(fu:s.heap.FunFrames B (env::outer))(e1:s.heap.get? x=aj o)(e2:o.cls=C)(e3:o.data=.fields vs)(e4:1<vs.size)(e5:vs[2]?=aj .none)
  (h:∀h',rp B (env::outer) x C (fA L) h'->s.heap.UpToSlots h'->Q () {s with heap:=h' }) :
  dj M A (do let a ←frameOf env;let pl ←entryPlaceOf L sM;let b ←EntryCells.newEntry head a .none (fA L) .none pl;setField (.ref x) 1 b) Q E s:=by
 have nf:x∉(env::outer).filterMap (·.frame):=λm=>by
  let⟨_,u,hu,hn⟩:=fu.mem m;rw[e1]at hu;cases hu;exact hn vs e3
 refine aq (wpAny_frameOf_fun iL fu hf λk so=>aq (wpAny_entryPlaceOf λpl gX=>?_));unfold EntryCells.newEntry newFields;refine aq (qw ?_ (gX.sizeOk5 _ _ _ _ _));have k1:k.get? x=aj o:=(so.2.1 x nf).trans e1;have Nm:k.objs.size≠x:=λz=>absurd (gk k1) (by rw[z];exact vg _);have kB:∀b u,B.get? b=aj u->k.get? b=aj u:=λb u q=>(so.2.1 b λm=>by rw[(fu.mem m).1]at q;cases q).trans (st b u q);generalize hT:({cls:=.type "traceback",dict:=none,data:=.fields ([head,.ref L,.none,fA L,.none]++(if pl.isEmpty then zg 6 bh.none else pl)).toArray}:Obj)=oT;have p1:(k.push oT).get? x=aj o:=cj _ k1;let⟨u1,u2,u3,u4⟩:=uK (i:=1) (v:=.ref k.objs.size) p1 e3;have keep:∀b u,b≠x->k.get? b=aj u->((k.push oT).update x (Obj.mapFields (·.setIfInBounds 1 (.ref k.objs.size)))).get? b=aj u:=λb u n q=>(u4 b n).trans (cj _ q)
 have pT:(k.push oT).get? k.objs.size=aj oT:=by
  subst hT;exact ig k rfl
 refine xq p1 e3 e4 (h _ ⟨λb u q=>keep b u (λz=>by subst z;rw[nw]at q;cases q) (kB b u q),nw,fu.of_keeps λb u q n=>?_,⟨_,_,k.objs.size,oT,_,u1,u3.trans e2,u2,?_,?_,?_,Nm,(u4 _ Nm).trans pT,by rw[←hT],?_⟩⟩ λb u q n=>?_)
 .obtain⟨sl,z⟩:=so.2.2 b u q;exact⟨_,keep b _ (Bq e1 e3 q n) z,rfl⟩
 .simp[e4]
 .rw[Array.getElem?_setIfInBounds_ne (by decide)];exact e5
 .cases q:B.get? k.objs.size with
  |none=>rfl
  |some u=>exact absurd (gk (kB _ u q)) (vg _)
 .first|(simp;done)|(rcases gX with rfl|⟨_,_,_,_,_,_,_,rfl⟩<;>simp)
 .obtain⟨sl,z⟩:=so.2.2 b u q;exact⟨sl,keep b _ (Bq e1 e3 q n) z⟩
def JM(iL:A.frames=aj (env::outer))(hf:env.frame=aj L)(f:mr B (env::outer) x C s.heap)(h:∀h',rp B (env::outer) x C (fA L) h'->s.heap.UpToSlots h'->Q () {s with heap:=h' }):dj M A (noteFrame (.ref x) env) Q E s:=by
 let⟨st,nw,fu,⟨o,vs,T,oT,ts,e1,e2,e3,e4,e5,e6,e7,e8,e9,AI⟩⟩:=f;unfold noteFrame;simp only[hf];refine aq (qx e1 e3 e4 ?_);rw[if_pos (by simp)];refine aq (qx e8 e9 AI ?_);rw[if_neg (by simp[fA])];have l3:3<ts.size:=(zp.mp AI).1;let⟨u1,u2,u3,u4⟩:=uK (i:=3) (v:=.none) e8 e9;refine aq (xq e8 e9 l3 ?_);refine Qx iL hf (λb u q=>(u4 b λz=>by subst z;rw[e6]at q;cases q).trans (st b u q)) nw (fu.of_keeps λb u q n=>⟨u,(u4 b (Bq e8 e9 q n)).trans q,rfl⟩) ((u4 x (Ne.symm e7)).trans e1) e2 e3 (zp.mp e4).1 e5 λh' f' up=>h h' f' ?_;exact λb u q n=>up b u ((u4 b (Bq e8 e9 q n)).trans q) n
def rp.tail(f:rp B (env::outer) x C fl h):rp B outer x C fl h:=by
 let⟨st,nw,⟨_,_,fu⟩,tr⟩:=f;exact⟨st,nw,fu,tr⟩
def aA4(iL:A.frames=aj (env::outer))(hf:env.frame=aj L)(f:mr B (env::outer) x C s.heap)(h:∀h',mr B outer x C h'->s.heap.UpToSlots h'->Q () {s with heap:=h' }):dj M A (leaving env (.ref x)) Q E s:=by
 unfold leaving;refine aq (JM iL hf f λh1 f1 up1=>Bp f1 λh2 f2 HD=>?_);exact h h2 f2.tail (up1.trans HD)
def ZH{h0:kh}(iL:A.frames=aj (env::outer))(hf:env.frame=aj L)(st:B.StaysIn h0)(fu:h0.FunFrames B (env::outer))(hm:GX h0 s.heap x C us)(h:∀h',mr B outer x C h'->s.heap.UpToSlots h'->Q () {s with heap:=h' }):dj M A (leaving env (.ref x)) Q E s:=by
 let⟨t,e1,_,_⟩:=hm.there;unfold leaving noteFrame;simp only[hf];refine aq (aq (qx (vs:=#[.ref t,.none,.none,.none,.bool ao,.none]) (i:=1) e1 rfl rfl ?_));rw[if_neg (by simp)]
 have nw:B.get? x=au:=by
  cases q:B.get? x with
  |none=>rfl
  |some u=>have:=st x u q;rw[hm.new]at this;cases this
 refine Qx iL hf (λb u q=>hm.keeps b u (st b u q)) nw (fu.of_keeps λb u q _=>⟨u,hm.keeps b u q,rfl⟩) e1 rfl rfl (by simp) rfl λh1 f1 up1=>Bp f1 λh2 f2 HD=>?_;exact h h2 f2.tail (up1.trans HD)
end
abbrev pf(A:lu)(h:kh):Prop:=A.handled=au∨∃x o vs,A.handled=aj (.ref x)/\h.get? x=aj o/\o.data=.fields vs/\vs[2]?=aj .none
def ahL:entryFor table "proto.unchain"=aj Builtin.«proto.unchain» :=entryFor_of_fast (by nofun)
section
variable{prog:lg}{w:ji}{A:lu}{E:bh->dg->Prop}{s:dg}
def Yx{α:Type}{Q:α->dg->Prop}{a:bx}{oa:Obj}{ws:Array bh}(hq:pf A s.heap)(ea:s.heap.get? a=aj oa)(da:oa.data=.fields ws)(la:2<ws.size)(na:∀x,A.handled=aj (.ref x)->x≠a)
  (h:∀h',(∀b,b≠a->h'.get? b=s.heap.get? b)->(∃o,h'.get? a=aj o/\o.cls=oa.cls)->E (.ref a) {s with heap:=h' }):dj (dz prog w) A (raiseNew (.ref a):Sem α) Q E s:=by
 unfold raiseNew;refine aq (wpAny_handled ?_);rcases hq with hn|⟨x,o,vs,hx,ex,dx,vx⟩
 .rw[hn];exact aq (cu (wpAny_throw (h s.heap (λ_ _=>rfl) ⟨oa,ea,rfl⟩)))
 .rw[hx];have ne:=na x hx;show dj (dz prog w) _ (if((bh.ref x)!=(bh.ref a))=ak then _ else _) _ _ _;rw[if_pos (by simpa using ne)];refine aq (ud (wpAny_runValue (codeAny_builtin ahL ?_)));show dj (dz prog w) _ (field (.ref x) 2 >>= _) _ _ _;refine aq (qx ex dx vx ?_);show dj (dz prog w) _ (if((bh.none:bh)==bh.none)=ak then _ else _) _ _ _;rw[if_pos (by decide)];refine aq (cu (cu ?_));let⟨u1,u2,u3,u4⟩:=uK (i:=2) (v:=.ref x) ea da;show dj (dz prog w) _ (setField (.ref a) 2 (.ref x) >>= _) _ _ _;exact aq (xq ea da la (wpAny_throw (h _ u4 ⟨_,u1,u3⟩)))
def vH{α:Type}{Q:α->dg->Prop}(hq:pf A s.heap)(h:∀a h',(∀b o,s.heap.get? b=aj o->h'.get? b=aj o)->(∃o,h'.get? a=aj o/\o.cls=.type "StopIteration")->E (.ref a) {s with heap:=h' }) :
  dj (dz prog w) A (newExc (.type "StopIteration") [] >>= λe=>(raiseNew e:Sem α)) Q E s:=by
 refine aq ?_;unfold newExc newTuple;refine aq (qw (aq (wpAny_of_eq (a:=Value.none) (by simp only[Mx];rfl) (qw ?_ (by size_fits)))) (by size_fits));generalize hh:s.heap.push {cls:=.type "tuple",data:=.seq ([]:List bh).toArray}=h1;generalize ho:({cls:=.type "StopIteration",data:=.fields (#[.ref s.heap.objs.size,.none,.none,.none,.bool ao,.none]++ownMembersOf (.type "StopIteration") [])}:Obj)=o1;have k1:∀b o,s.heap.get? b=aj o->(h1.push o1).get? b=aj o:=λb o e=>cj _ (hh ▸ cj _ e)
 have ea:(h1.push o1).get? h1.objs.size=aj o1:=by
  subst ho;exact ig h1 rfl
 have old:∀b o,s.heap.get? b=aj o->b≠h1.objs.size:=λb o e z=>by
  have l1:b<h1.objs.size:=by
   rw[←hh,DF];exact DQ (gk e)
  exact absurd l1 (by rw[z];exact vg _)
 refine Yx (ws:=#[.ref s.heap.objs.size,.none,.none,.none,.bool ao,.none]++ownMembersOf (.type "StopIteration") []) ?_ ea (by rw[←ho]) (by simp[ownMembersOf]) (λx hx=>?_) λh' k c=>h h1.objs.size h' (λb o e=>(k b (old b o e)).trans (k1 b o e)) ?_
 .rcases hq with z|⟨x,o,vs,a1,a2,a3⟩
  .exact .inl z
  .exact .inr ⟨x,o,vs,a1,k1 _ _ a2,a3⟩
 .rcases hq with z|⟨x',o,vs,a1,a2,a3⟩
  .rw[z]at hx;cases hx
  .rw[a1]at hx;cases hx;exact old _ _ a2
 .obtain⟨o,e,c⟩:=c;exact⟨o,e,by rw[c,←ho]⟩
def zJ{T id:String}{b:Builtin}(slot:Slot T (Str.ofString "__next__") id)(entry:entryFor table id=aj b)(hT:s.TypeIs (.ref it) T)(args:argsOk id ⟨[.ref it],[]⟩)
  (hb:dj (dz prog w) A.in1 (b ⟨[.ref it],[]⟩) (λ_ _=>False) (λe s'=>∃a o,e=.ref a/\s'.heap.get? a=aj o/\o.cls=.type "StopIteration"/\Q au s') s):dj (dz prog w) A (eW (.ref it)) Q E s:=by
 unfold eW;refine aq (Bv (zf hT slot (vm slot hT entry (qu hb (λ_ _ z=>z.elim) λe s' z=>?_) args)));let⟨a,o,rfl,e1,e2,q⟩:=z;exact aq (wpAny_isInstance (T:="StopIteration") (b:=true) ⟨o,e1,e2⟩ isSubtype_stop (cu q))
def FY(hq:pf A s.heap)(e:s.heap.get? it=aj o)(d:o.data=.fields vs)(l:vs[2]?≠aj .none):pf A (s.heap.update it (Obj.mapFields (·.setIfInBounds i v))):=by
 rcases hq with z|⟨x,ox,ws,a1,a2,a3,a4⟩
 .exact .inl z
 .refine .inr ⟨x,ox,ws,a1,?_,a3,a4⟩
  have ne:x≠it:=λz=>by
   subst z;rw[e]at a2;cases a2;rw[d]at a3;cases a3;exact l a4
  exact((uK e d).2.2.2 x ne).trans a2
def Yw{items:Array bh}(hq:pf A s.heap)(hit:s.heap.IsListIter it l i)(hl:s.heap.IsList l items)(hx:items[i]?=au)
  (h:∀h',y9 it s.heap h'->Q au {s with heap:=h' }):dj (dz prog w) A (eW (.ref it)) Q E s:=by
 let⟨o,e1,c1,d1⟩:=id hit;let⟨ol,e2,_,nl,d2⟩:=hl;refine zJ slot_listiter_next entry_listiter_next hit.typeIs (args_listiter_next _) ?_;show dj (dz prog w) _ (field (.ref it) 0 >>= _) _ _ s;refine aq (qx e1 d1 (x:=.ref l) rfl ?_);show dj (dz prog w) _ (field (.ref it) 1 >>= _) _ _ s;refine aq (qx e1 d1 (x:=.int i 0) rfl ?_);show dj (dz prog w) _ (seqItems? (.ref l) >>= _) _ _ s;refine aq (DE e2 d2 ?_);simp only[hx,yc];refine aq (se (aq (xq e1 d1 (by simp) ?_)));refine vH (A:=A.in1) (FY hq e1 d1 (by simp)) λa h' k c=>?_;let⟨oa,ea,ca⟩:=c;exact⟨a,oa,rfl,ea,ca,h h' λb ob n e=>k b ob (((uK e1 d1).2.2.2 b n).trans e)⟩
def aA5{items:Array bh}(hq:pf A s.heap)(hit:s.heap.IsTupleIter it l i)(hl:s.heap.IsTuple l items)(hx:items[i]?=au)
  (h:∀h',y9 it s.heap h'->Q au {s with heap:=h' }):dj (dz prog w) A (eW (.ref it)) Q E s:=by
 let⟨o,e1,c1,d1⟩:=id hit;let⟨ol,e2,_,nl,d2⟩:=hl;refine zJ F.slot_tuple_iterator_next F.entry_tuple_iterator_next hit.typeIs (F.args_tuple_iterator_next_1 _) ?_;show dj (dz prog w) _ (field (.ref it) 0 >>= _) _ _ s;refine aq (qx e1 d1 (x:=.ref l) rfl ?_);show dj (dz prog w) _ (field (.ref it) 1 >>= _) _ _ s;refine aq (qx e1 d1 (x:=.int i 0) rfl ?_);show dj (dz prog w) _ (seqItems? (.ref l) >>= _) _ _ s;refine aq (DE e2 d2 ?_);simp only[hx,yc];refine aq (se (aq (xq e1 d1 (by simp) ?_)));refine vH (A:=A.in1) (FY hq e1 d1 (by simp)) λa h' k c=>?_;let⟨oa,ea,ca⟩:=c;exact⟨a,oa,rfl,ea,ca,h h' λb ob n e=>k b ob (((uK e1 d1).2.2.2 b n).trans e)⟩
def aA6{x left step:Int}(hq:pf A s.heap)(hit:IsRangeIter s.heap it x left step)(Ec:left<=0)
  (h:∀h',y9 it s.heap h'->Q au {s with heap:=h' }):dj (dz prog w) A (eW (.ref it)) Q E s:=by
 refine zJ F.slot_range_iterator_next F.entry_range_iterator_next ⟨_,hit,rfl⟩ (F.args_range_iterator_next_1 _) ?_;show dj (dz prog w) _ (field (.ref it) 0 >>= _) _ _ s;refine aq (qx hit rfl (i:=0) rfl ?_);show dj (dz prog w) _ (field (.ref it) 1 >>= _) _ _ s;refine aq (qx hit rfl (i:=1) rfl ?_);show dj (dz prog w) _ (field (.ref it) 2 >>= _) _ _ s;refine aq (qx hit rfl (i:=2) rfl ?_);show dj (dz prog w) _ (if left<=0 then _ else _) _ _ s;rw[if_pos Ec];refine aq (se (aq ?_));refine vH (A:=A.in1) hq λa h' k c=>?_;let⟨oa,ea,ca⟩:=c;exact⟨a,oa,rfl,ea,ca,h h' λb ob n e=>k b ob e⟩
def Yv{t:Tok}(hq:pf A s.heap)(hit:s.heap.IsStrIter it "str_ascii_iterator" x t i)(hx:x.cps[i]?=au)
  (h:∀h',y9 it s.heap h'->Q au {s with heap:=h' }):dj (dz prog w) A (eW (.ref it)) Q E s:=by
 let⟨o,e1,c1,d1⟩:=id hit;refine zJ F.slot_str_ascii_iterator_next F.entry_str_ascii_iterator_next hit.typeIs (F.args_str_ascii_iterator_next_1 _) ?_;show dj (dz prog w) _ (field (.ref it) 0 >>= _) _ _ s;refine aq (qx e1 d1 (x:=.str x t) rfl ?_);show dj (dz prog w) _ (field (.ref it) 1 >>= _) _ _ s;refine aq (qx e1 d1 (x:=.int i 0) rfl ?_);simp only[hx,yc];refine aq (se (aq (xq e1 d1 (by simp) (aq (wpAny_letGo ?_)))));refine vH (A:=A.in1) (FY hq e1 d1 (by simp)) λa h' k c=>?_;let⟨oa,ea,ca⟩:=c;exact⟨a,oa,rfl,ea,ca,h h' λb ob n e=>k b ob (((uK e1 d1).2.2.2 b n).trans e)⟩
def Yu{t:Tok}(hq:pf A s.heap)(hit:s.heap.IsStrIter it "str_iterator" x t i)(hx:x.cps[i]?=au)
  (h:∀h',y9 it s.heap h'->Q au {s with heap:=h' }):dj (dz prog w) A (eW (.ref it)) Q E s:=by
 let⟨o,e1,c1,d1⟩:=id hit;refine zJ F.slot_str_iterator_next F.entry_str_iterator_next hit.typeIs (F.args_str_iterator_next_1 _) ?_;show dj (dz prog w) _ (field (.ref it) 0 >>= _) _ _ s;refine aq (qx e1 d1 (x:=.str x t) rfl ?_);show dj (dz prog w) _ (field (.ref it) 1 >>= _) _ _ s;refine aq (qx e1 d1 (x:=.int i 0) rfl ?_);simp only[hx,yc];refine aq (se (aq (xq e1 d1 (by simp) (aq (wpAny_letGo ?_)))));refine vH (A:=A.in1) (FY hq e1 d1 (by simp)) λa h' k c=>?_;let⟨oa,ea,ca⟩:=c;exact⟨a,oa,rfl,ea,ca,h h' λb ob n e=>k b ob (((uK e1 d1).2.2.2 b n).trans e)⟩
end
end
section
@[simp]def Key:=Sum Int Str
abbrev vj:Key->bh->Bool
 |.inl k,v=>bh.isInt k v
 |.inr x,v=>bh.isStrOf x v
abbrev aWU(w:ji):Key->Int
 |.inl k=>hashInt k
 |.inr x=>hashStr w x
def dO:∀{k:Key}{v:bh},vj k v=ak->(∃i t,k=Sum.inl i/\v=bh.int i t)∨(∃x t,k=Sum.inr x/\v=bh.str x t)
 |.inl i,v,h=>by
  let⟨t,e⟩:=Value.isInt_shape (k:=i) (v:=v) h;exact .inl ⟨i,t,rfl,e⟩
 |.inr x,v,h=>by
  let⟨t,e⟩:=Value.isStrOf_shape (x:=x) (v:=v) h;exact .inr ⟨x,t,rfl,e⟩
def Yt(i:Int)(t:Tok):vj (.inl i) (.int i t)=ak:=by simp[vj,bh.isInt]
def Ys(x:Str)(t:Tok):vj (.inr x) (.str x t)=ak:=by simp[vj,bh.isStrOf]
def aM2(a b:Int):decide ((Sum.inl a:Key)=Sum.inl b)=(a==b):=by
 by_cases e:a=b
 .subst e;simp
 .have h:¬ (Sum.inl a:Key)=Sum.inl b:=λq=>e (Sum.inl.inj q);rw[decide_eq_false h];exact(beq_eq_false_iff_ne.mpr e).symm
def aM3(a b:Str):decide ((Sum.inr a:Key)=Sum.inr b)=decide (a=b):=by
 by_cases e:a=b
 .subst e;simp
 .have h:¬ (Sum.inr a:Key)=Sum.inr b:=λq=>e (Sum.inr.inj q);rw[decide_eq_false h,decide_eq_false e]
def aM4(a:Int)(b:Str):decide ((Sum.inl a:Key)=Sum.inr b)=ao:=decide_eq_false (λq=>nomatch q)
def aM5(a:Str)(b:Int):decide ((Sum.inr a:Key)=Sum.inl b)=ao:=decide_eq_false (λq=>nomatch q)
abbrev aQ(prog:lg)(w:ji):PySem.KeyKind prog w Key where
 is:=vj
 hash:=aWU w
 inj:=λv a b ha hb=>by
  rcases dO ha with⟨i,t,rfl,rfl⟩|⟨x,t,rfl,rfl⟩
  .rcases dO hb with⟨j,u,rfl,e⟩|⟨y,u,rfl,e⟩
   .injection e with e1 _;rw[e1]
   .exact nomatch e
  .rcases dO hb with⟨j,u,rfl,e⟩|⟨y,u,rfl,e⟩
   .exact nomatch e
   .injection e with e1 _;rw[e1]
 byValue:=λk v h=>by
  rcases dO h with⟨i,t,rfl,rfl⟩|⟨x,t,rfl,rfl⟩<;>rfl
 pyHash:=λhv h=>by
  rcases dO hv with⟨i,t,rfl,rfl⟩|⟨x,t,rfl,rfl⟩
  .exact wpAny_pyHash_int h
  .exact wpAny_pyHash_str h
 eqBool:=λhu hv h=>by
  rcases dO hu with⟨i,t,rfl,rfl⟩|⟨x,t,rfl,rfl⟩
  .rcases dO hv with⟨j,u,rfl,rfl⟩|⟨y,u,rfl,rfl⟩
   .rw[aM2]at h;exact wpAny_eqBool_int h
   .rw[aM4]at h;exact SeqAt.EqAt.int_str i t y u _ _ _ _ h
  .rcases dO hv with⟨j,u,rfl,rfl⟩|⟨y,u,rfl,rfl⟩
   .rw[aM5]at h;exact SeqAt.EqAt.str_int x t j u _ _ _ _ h
   .rw[aM3]at h;exact wpAny_eqBool_str h
 «strs» :=λk x t v h=>by
  rcases dO h with⟨i,u,rfl,e⟩|⟨y,u,rfl,e⟩
  .exact nomatch e
  .injection e with e1 _;subst e1;cases v<;>rfl
def R9(prog:lg)(w:ji)(i:Int)(t:Tok):(aQ prog w).is (.inl i) (.int i t)=ak:=Yt i t
def θ(prog:lg)(w:ji)(x:Str)(t:Tok):(aQ prog w).is (.inr x) (.str x t)=ak:=Ys x t
end
section
inductive V where
 |ae|bl (b:Bool)|int (i:Int)|str (x:Str)|E6 (b:Array UInt8)|E2 (b:UInt64)|ref (a:bx)|ty (n:String)
 deriving DecidableEq
abbrev RelV:V->bh->Prop
 |.ae,u=>u=bh.none
 |.bl b,u=>u=bh.bool b
 |.int i,u=>∃t,u=bh.int i t
 |.str x,u=>∃t,u=bh.str x t
 |.E6 b,u=>∃t,u=bh.bytes b t
 |.E2 b,u=>∃t,u=bh.float b t
 |.ref a,u=>u=bh.ref a
 |.ty n,u=>u=bh.type n
@[simp]def Vals:List V->List bh->Prop:=Paired RelV
def Vals.length{xs:List V}{us:List bh}(r:Vals xs us):xs.length=us.length:=Paired.length r
def Vals.get:∀{xs:List V}{us:List bh}{i:Nat}{x:V},Vals xs us->xs[i]?=aj x->∃u,us[i]?=aj u/\RelV x u
 |_,_,_,_,.nil,e=>by simp at e
 |_,_,0,_,.cons r _,e=>by simp at e;subst e;exact⟨_,rfl,r⟩
 |_,_,i+1,x,.cons _ t,e=>by
  let⟨u,h1,h2⟩:=Vals.get (i:=i) (x:=x) t (by simpa using e);exact⟨u,by simpa using h1,h2⟩
def Vals.append:∀{xs ys:List V}{us ws:List bh},Vals xs us->Vals ys ws->Vals (xs++ys) (us++ws)
 |_,_,_,_,.nil,s=>s
 |_,_,_,_,.cons r t,s=>.cons r (Vals.append t s)
def Vals.take:∀{xs:List V}{us:List bh}(n:Nat),Vals xs us->Vals (xs.take n) (us.take n)
 |_,_,0,_=>.nil
 |_,_,_+1,.nil=>.nil
 |_,_,n+1,.cons r t=>.cons r (Vals.take n t)
def Vals.drop:∀{xs:List V}{us:List bh}(n:Nat),Vals xs us->Vals (xs.drop n) (us.drop n)
 |_,_,0,r=>r
 |_,_,_+1,.nil=>.nil
 |_,_,n+1,.cons _ t=>Vals.drop n t
abbrev fi:Option V->Option bh->Prop
 |some v,aj u=>RelV v u
 |none,au=>True
 |_,_=>False
abbrev KV{κ:Type}:List (κ×V)->List (κ×bh)->Prop:=Paired λ(p:κ×V)(q:κ×bh)=>p.1=q.1/\RelV p.2 q.2
abbrev kV:Key->V
 |.inl i=>.int i
 |.inr x=>.str x
inductive HO where
 |lst (xs:List V)
 |tup (xs:List V)
 |dK (kvs:List (Key×V))|dT (kvs:List (List Key×V))
 |set (S:Int->Bool) (n:Nat)
 |ins (C dx:bx) (fs:List (Str×V))
 |own (x:bx)
 |xd (fs:List (Str×V))
 |met (f x:bx)
 |Eo (lo hi:Int)
 |lH (o:Obj) (u:HO)
 |iA (ps:Array bh)
 |ext (φ:kh->Prop)
@[simp]def Hp:=Addr->Option HO
abbrev upd(H:Hp)(a:bx)(o:HO):Hp:=λb=>if b=a then aj o else H b
def aL{o:HO}:upd H a o a=aj o:=by unfold upd;rw[if_pos rfl]
def bD{o:HO}(h:b≠a):upd H a o b=H b:=by unfold upd;rw[if_neg h]
def LR{H:Hp}{a:bx}{o u:HO}(h:H a=aj o)(h':H b=aj u)(d:o≠u):a≠b:=by
 intro e;subst e;rw[h]at h';exact d (jt.inj h')
def pX{H:Hp}{a:bx}{o:HO}(h:H a=aj o)(h':H b=au):a≠b:=by
 intro e;subst e;rw[h]at h';cases h'
section
variable(P:lg)(w:ji)
abbrev iZ(H:Hp)(h:kh)(a:bx):HO->Prop
 |.lst xs=>xs.length<=dh/\∃(its:List bh)(n:Nat),Vals xs its/\h.get? a=aj {cls:=.type "list",data:=.seq its.toArray n}
 |.tup xs=>xs.length<=dh/\∃its:List bh,Vals xs its/\IsTup h a its.toArray
 |.dK kvs=>kvs.length<=dh/\(a==ur)=ao/\∃vs,KV kvs vs/\h.DictOf (aQ P w) a vs
 |.dT kvs=>kvs.length<=dh/\(a==ur)=ao/\∃xs:List (List Key×bx×bh),
   Paired (λ(p:List Key×V)(q:List Key×bx×bh)=>p.1=q.1/\H q.2.1=aj (.tup (p.1.map kV))/\RelV p.2 q.2.2) kvs xs /\
   ∃o es ep,h.get? a=aj o/\o.ExactDict/\o.data=.dict es ep/\es.toList=xs.map (entryOfKey (rV (aQ P w)))/\(xs.map (·.1)).Nodup
 |.set S n=>h.SetOf (intKind P w) a S n
 |.ins C dx fs=>H dx=aj (.own a)/\fs.length<=1000/\dx≠a/\h.get? a=aj (wm C dx) /\
   ∃mA,h.Ns1 dx mA/\(∀f,fi (fs.lookup f) (mA f))/\PySem.Within mA (fs.map (·.1))
 |.own _=>∃o,h.get? a=aj o
 |.xd fs=>∃mA,h.Ns1 a mA/\∀f,fi (fs.lookup f) (mA f)
 |.Eo lo hi=>∃t u v,h.get? a=aj {cls:=.type "range",data:=.fields #[.int lo t,.int hi u,.int 1 v]}
 |.lH o u=>h.get? a=aj o/\iZ H h a u
 |.iA ps=>h.get? a=aj {cls:=.none,data:=.fields ps}
 |.met f x=>h.get? a=aj (PySem.W.methodObj (.ref f) (.ref x))
 |.ext φ=>φ h/\(∃o,h.get? a=aj o)/\∀h1 h2:kh,φ h1->(∀o,h1.get? a=aj o->h2.get? a=aj o)->φ h2
abbrev bz(H:Hp)(h:kh):Prop:=∀a o,H a=aj o->iZ P w H h a o
end
section
variable{w:ji}{h h':kh}{a:bx}{o:HO}
def iZ.lt(x:iZ P w H h a o):a<h.objs.size:=by
 cases o with
 |lst xs=>let⟨_,_,_,_,e⟩:=x;exact gk e
 |tup xs=>let⟨_,_,_,p⟩:=x;exact p.lt
 |dK kvs=>let⟨_,_,_,_,o,_,_,e,_⟩:=x;exact gk e
 |dT kvs=>let⟨_,_,_,_,o,_,_,e,_⟩:=x;exact gk e
 |set S n=>let⟨o,_,_,_,e,_⟩:=x;exact gk e
 |ins C dx fs=>let⟨_,_,_,e,_⟩:=x;exact gk e
 |own y=>let⟨_,e⟩:=x;exact gk e
 |xd fs=>let⟨_,⟨_,_,_,e,_⟩,_⟩:=x;exact gk e
 |Eo lo hi=>let⟨_,_,_,e⟩:=x;exact gk e
 |lH ob u=>let⟨e,_⟩:=x;exact gk e
 |iA ps=>exact gk (show h.get? a=aj _ from x)
 |met f y=>exact gk (show h.get? a=aj _ from x)
 |ext φ=>let⟨_,⟨_,e⟩,_⟩:=x;exact gk e
def Paired.Gb{α β:Type}{F G:α->β->Prop}:∀{D2:List α}{D1:List β},Paired F D2 D1->(∀a b,F a b->G a b)->Paired G D2 D1
 |_,_,.nil,_=>.nil
 |_,_,.cons r t,f=>.cons (f _ _ r) (Paired.Gb t f)
def iZ.bP(x:iZ P w H h a o)(k:∀b u,(b=a∨H b=aj (.own a))->h.get? b=aj u->h'.get? b=aj u)
  (ho:∀b,H b=aj (.own a)->H' b=aj (.own a))(ht:∀b xs,H b=aj (.tup xs)->H' b=aj (.tup xs)):iZ P w H' h' a o:=by
 induction o with
 |lst xs=>let⟨z,its,n,r,e⟩:=x;exact⟨z,its,n,r,k _ _ (.inl rfl) e⟩
 |tup xs=>let⟨z,its,r,ob,e,c⟩:=x;exact⟨z,its,r,ob,k _ _ (.inl rfl) e,c⟩
 |dK kvs=>let⟨z,y,vs,r,ob,es,ep,e,c⟩:=x;exact⟨z,y,vs,r,ob,es,ep,k _ _ (.inl rfl) e,c⟩
 |dT kvs =>
  let⟨z,y,xs,r,ob,es,ep,e,c⟩:=x;exact⟨z,y,xs,Paired.Gb r λp q z=>⟨z.1,ht _ _ z.2.1,z.2.2⟩,ob,es,ep,k _ _ (.inl rfl) e,c⟩
 |set S n=>let⟨ob,es,ep,t,e,c⟩:=x;exact⟨ob,es,ep,t,k _ _ (.inl rfl) e,c⟩
 |ins C dx fs =>
  let⟨d,z,ne,e,mA,⟨od,es,ep,e2,c⟩,r⟩:=x;exact⟨ho _ d,z,ne,k _ _ (.inl rfl) e,mA,⟨od,es,ep,k _ _ (.inr d) e2,c⟩,r⟩
 |own y=>let⟨ob,e⟩:=x;exact⟨ob,k _ _ (.inl rfl) e⟩
 |xd fs=>let⟨mA,⟨od,es,ep,e,c⟩,r⟩:=x;exact⟨mA,⟨od,es,ep,k _ _ (.inl rfl) e,c⟩,r⟩
 |Eo lo hi=>let⟨t,u,v,e⟩:=x;exact⟨t,u,v,k _ _ (.inl rfl) e⟩
 |lH ob u ih=>let⟨e,q⟩:=x;exact⟨k _ _ (.inl rfl) e,ih q⟩
 |iA ps =>
  have e:h.get? a=aj {cls:=.none,data:=.fields ps}:=x;show h'.get? a=aj {cls:=.none,data:=.fields ps};exact k a _ (.inl rfl) e
 |met f y =>
  have e:h.get? a=aj (PySem.W.methodObj (.ref f) (.ref y)):=x;show h'.get? a=aj (PySem.W.methodObj (.ref f) (.ref y));exact k a _ (.inl rfl) e
 |ext φ=>let⟨p,⟨o,e⟩,st⟩:=x;exact⟨st _ _ p λo q=>k _ _ (.inl rfl) q,⟨o,k _ _ (.inl rfl) e⟩,st⟩
def bz.lt(x:bz P w H h)(e:H a=aj o):a<h.objs.size:=(x a o e).lt
def bz.fresh(x:bz P w H h)(e:h.objs.size<=a):H a=au:=by
 cases q:H a with
 |none=>rfl
 |some u=>exact absurd (ju (x.lt q) e) (vg _)
def bz.kept(x:bz P w H h)(k:∀b u,h.get? b=aj u->h'.get? b=aj u):bz P w H h':=λa o e =>
 (x a o e).bP (λb u _ q=>k b u q) (λ_ q=>q) λ_ _ q=>q
def bz.laid(x:bz P w H h)(k:∀b u,h.get? b=aj u->h'.get? b=aj u)(hp:h.objs.size<=a)(new:iZ P w (upd H a o) h' a o):bz P w (upd H a o) h':=λb u e=>by
 have hn:=x.fresh hp;by_cases hb:b=a
 .subst hb;rw[aL]at e;cases e;exact new
 .rw[bD hb]at e;exact(x b u e).bP (λc v _ q=>k c v q) (λc q=>by rw[bD (pX q hn)];exact q) λc xs q=>by rw[bD (pX q hn)];exact q
end
abbrev Rd(H:Hp)(a:bx)(u:HO):Prop:=H a=aj u∨∃o,H a=aj (.lH o u)
def Rd.of(h:H a=aj u):Rd H a u:=.inl h
def Rd.ok{w:ji}(r:Rd H a u)(x:bz P w H h):iZ P w H h a u:=by
 rcases r with r|⟨o,r⟩
 .exact x a u r
 .obtain⟨_,q⟩:=x a _ r;exact q
abbrev DV:Option HO->Prop
 |some (.lst _)=>True
 |some (.dK _)=>True
 |some (.dT _)=>True
 |some (.set _ _)=>True
 |some (.ins _ _ _)=>True
 |some (.ext _)=>True
 |_=>False
section
variable{w:ji}{h h':kh}{x:bx}
def bz.write(ok:bz P w H h)(mu:DV (H x))(he:e=x∨H e=aj (.own x))(k:∀b u,b≠e->h.get? b=aj u->h'.get? b=aj u)(AD:∃u,h'.get? e=aj u)
  (new:iZ P w (upd H x o') h' x o'):bz P w (upd H x o') h':=λb u q=>by
 have Sy:∀c y,H c=aj (.own y)->c≠x:=λc y r z=>by subst z;rw[r]at mu;exact mu
 have aWV:∀c xs,H c=aj (.tup xs)->c≠x:=λc xs r z=>by subst z;rw[r]at mu;exact mu
 by_cases hb:b=x
 .subst hb;rw[aL]at q;cases q;exact new
 .rw[bD hb]at q;by_cases xn:b=e
  .have q':H b=aj (.own x):=by
    rcases he with z|z
    .exact absurd (xn.trans z) hb
    .rw[xn];exact z
   rw[q]at q';cases q';let⟨v,hv⟩:=AD;exact⟨v,by rw[xn];exact hv⟩
  .refine(ok b u q).bP (λc v hc r=>k c v ?_ r) (λc r=>by rw[bD (Sy c b r)];exact r) λc xs r=>by rw[bD (aWV c xs r)];exact r
   rcases hc with rfl|hc
   .exact xn
   .rintro rfl;rcases he with z|z
    .exact Sy c b hc z
    .rw[hc]at z;cases z;exact hb rfl
end
structure Un(fs ex:List bx)(H H':Hp)(h h':kh):Prop where
 keep:∀b o,h.get? b=aj o->H b=au->b∉fs->b∉ex->h'.get? b=aj o
 slot:∀b o,h.get? b=aj o->H b=au->b∈fs->b∉ex->∃sl,h'.get? b=aj {o with slots:=sl}
 free:∀b o,h.get? b=aj o->H b=au->b∉ex->H' b=au
 there:∀b o,h.get? b=aj o->b∉ex->∃o',h'.get? b=aj o'
 az:∀b xs,H b=aj (.tup xs)->H' b=aj (.tup xs)
 oM:∀b o u,H b=aj (.lH o u)->H' b=aj (.lH o u)
 fh:∀b ps,H b=aj (.iA ps)->∃more,H' b=aj (.iA (ps++more))
section
variable{fs ex:List bx}{h h1 h':kh}{x:bx}{o:HO}
def Un.any(u:Un fs ex H H1 h h1){ob:Obj}(q:h.get? b=aj ob)(n:H b=au)(hx:b∉ex):∃sl,h1.get? b=aj {ob with slots:=sl}:=by
 by_cases hb:b∈fs
 .exact u.slot b ob q n hb hx
 .exact⟨ob.slots,u.keep b ob q n hb hx⟩
def Un.kept(k:∀b u,h.get? b=aj u->h'.get? b=aj u):Un fs ex H H h h' :=
 ⟨λb ob q _ _ _=>k b ob q,λb ob q _ _ _=>⟨ob.slots,k b ob q⟩,λ_ _ _ n _=>n,λb ob q _=>⟨ob,k b ob q⟩,λ_ _ q=>q,λ_ _ _ q=>q,λ_ ps q=>⟨#[],by rw[q];simp⟩⟩
def Un.refl:Un fs ex H H h h:=Un.kept λ_ _ q=>q
def Un.laid(k:∀b u,h.get? b=aj u->h'.get? b=aj u)(hp:h.objs.size<=a)(hn:H a=au):Un fs ex H (upd H a o) h h' where
 keep:=λb u q _ _ _=>k b u q
 slot:=λb u q _ _ _=>⟨u.slots,k b u q⟩
 free:=λb u q n _=>by rw[bD (jl (ju (gk q) hp))];exact n
 there:=λb u q _=>⟨u,k b u q⟩
 az:=λb xs q=>by rw[bD (pX q hn)];exact q
 oM:=λb u xs q=>by rw[bD (pX q hn)];exact q
 fh:=λb ps q=>⟨#[],by rw[bD (pX q hn),q];simp⟩
def Un.write(mu:DV (H x))(he:e=x∨H e=aj (.own x))(k:∀b u,b≠e->h.get? b=aj u->h'.get? b=aj u)(AD:∃u,h'.get? e=aj u):Un fs ex H (upd H x o) h h':=by
 have hx:∀b,H b=au->b≠x:=λb n z=>by subst z;rw[n]at mu;exact mu
 have hb:∀b,H b=au->b≠e:=λb n z=>by
  subst z;rcases he with r|r
  .exact hx b n r
  .rw[n]at r;cases r
 have hm:∀b u,H b=aj u->¬ DV (aj u)->b≠x:=λb u q nm z=>by subst z;rw[q]at mu;exact nm mu
 refine⟨λb u q n _ _=>k b u (hb b n) q,λb u q n _ _=>⟨u.slots,k b u (hb b n) q⟩,λb u q n _=>by rw[bD (hx b n)];exact n,λb u q _=>?_,
  λb xs q=>by rw[bD (hm b _ q λz=>z)];exact q,λb u xs q=>by rw[bD (hm b _ q λz=>z)];exact q,λb ps q=>⟨#[],by rw[bD (hm b _ q λz=>z),q];simp⟩⟩
 by_cases xn:b=e
 .subst xn;exact AD
 .exact⟨u,k b u xn q⟩
end
abbrev Ek(h:kh)(H:Hp):List bx:=(ou h.objs.size).filter λa=>(H a).isSome
abbrev rn(h:kh)(H:Hp):kh:=GK h (Ek h H)
def Yr(h:kh)(H:Hp):(rn h H).objs.size=h.objs.size:=PySem.W.hideAll_size _ _
def aA8(e:h.get? b=aj o)(n:H b=au):(rn h H).get? b=aj o :=
 PySem.W.hideAll_get _ e λhm=>by
  have q:(H b).isSome=ak:=(zm.mp hm).2;rw[n]at q;simp at q
def aGC(e:(rn h H).get? b=aj o):h.get? b=aj o/\H b=au:=by
 have e':h.get? b=aj o:=PySem.W.of_hideAll (Ek h H) e;refine⟨e',?_⟩;cases q:H b with
 |none=>rfl
 |some x =>
  have hm:b∈Ek h H:=zm.mpr ⟨xr.mpr (gk e'),by simp[q]⟩;have z:(rn h H).get? b=au:=PySem.W.hideAll_none (Ek h H) hm;rw[z]at e;cases e
abbrev aGD(g h:kh)(L:bx):List (bx×Obj):=(ou h.objs.size).filterMap λa=>if a=L∨(g.get? a).isSome=ak then au else(h.get? a).map λo=>(a,o)
abbrev rest(g h:kh)(L d:bx):List (bx×Obj):=(aGD g h L).filter λp=>decide (p.1≠d)
end
variable{v:V}{A:lu}{t':Nat}{N:List Str}{M:Model}
section
structure Mod(K:jc)(mg:Str->Option bh)(base:kh):Prop where
 oq:K.In base
 glob:base.Ns jj mg
 blt:∃mb,base.Ns builtinsNs mb/\∀x:Str,x≠"__name__"->mb x=mq x
 nolimit:base.NoLimit
structure Cx where
 prog:lg
 w:ji
 K:jc
 mg:Str->Option bh
 base:kh
 A:lu
 N:List Str
 ai:dg
 aw:Hp
 env:Env
 outer:List Env
 stack:List Env
 ex:List bx
 fn:Str->Bool
 calm:Bool
 pn:List (bx×Obj)
 tp:List (bx×List V)
 xe:bh->dg->Prop
abbrev frs(l:List Env):List bx:=l.filterMap (·.frame)
@[simp]def Cx.fs(X:Cx):List bx:=frs X.outer
abbrev BK(sc:zq)(x:Str):Prop:=sc.names.lookup x=aj .local∨sc.names.lookup x=aj .cell∨sc.names.lookup x=aj .free
abbrev Loc(sc:zq)(x:Str):Prop:=sc.names.lookup x=aj .local∨sc.names.lookup x=aj .cell
abbrev Look(env:Env)(h:kh)(m:Str->Option bh)(x:Str)(u:bh):Prop :=
 (env.kindOf x=aj .local/\m x=aj u)∨((env.kindOf x=aj .cell∨env.kindOf x=aj .free)/\∃c,env.cells.lookup x=aj c/\h.IsCell c (aj u))
structure Cx.Ok(X:Cx):Prop where
 mod:Mod X.K X.mg X.base
 kind:X.env.scope.kind=.function
 glob:X.env.globals=jj
 blt:X.env.builtins=builtinsNs
 above:X.ai.heap.objs.size<=X.env.locals
 inj:∀x y c,X.env.cells.lookup x=aj c->X.env.cells.lookup y=aj c->x=y
 has:∀x,(X.env.kindOf x=aj .cell∨X.env.kindOf x=aj .free)->∃c,X.env.cells.lookup x=aj c
 tN:∀x c,X.fn x=ak->X.env.cells.lookup x=aj c->X.ai.heap.objs.size<=c
 hd:X.calm=ak->X.A.handled=au
 frames:X.A.frames=aj X.stack
 iE:X.stack=X.outer∨(X.stack=X.env::X.outer/\X.env.frame=aj X.env.locals)
 Cp:∀b∈X.ex,b≠X.env.locals/\∀x c,X.env.cells.lookup x=aj c->c≠b
 bs:∀b o,X.base.get? b=aj o->X.ai.heap.get? b=aj o/\X.aw b=au
 kQ:X.base.objs.size<=X.ai.heap.objs.size
 uA:∀b o,X.base.get? b=aj o->b∉X.ex
 yf:∀b∈X.ex,b∉X.fs
 hW:X.ai.heap.FunFrames X.base X.outer
 oC:∀b∈X.fs,X.aw b=au
abbrev w4(A:lu)(H:Hp):Prop:=A.handled=au∨∃x o u vs,A.handled=aj (.ref x)/\H x=aj (.lH o u)/\o.data=.fields vs/\vs[2]?=aj .none
def w4.mono(h:w4 A H)(f:∀b o u,H b=aj (.lH o u)->H' b=aj (.lH o u)):w4 A H':=by
 rcases h with z|⟨x,o,u,vs,a,b,c⟩
 .exact .inl z
 .exact .inr ⟨x,o,u,vs,a,f _ _ _ b,c⟩
def w4.heap{w:ji}(q:w4 A H)(aa:bz P w H h):pf A h:=by
 rcases q with z|⟨x,o,u,vs,a,b,c⟩
 .exact .inl z
 .exact .inr ⟨x,o,vs,a,(aa x _ b).1,c⟩
structure Inv(X:Cx)(ψ:List (bx×Obj))(σ:List (Option V))(H:Hp)(s:dg):Prop where
 ok:X.Ok
 os:s.os=X.ai.os
 bare:AllBare s.gens
 base:Un X.fs X.ex X.aw H X.ai.heap s.heap
 loc:∃m,s.heap.Ns X.env.locals m/\∀(i:Nat)(x:Str)(v:V),X.N[i]?=aj x->σ[i]?=aj (aj v)->BK X.env.scope x->∃u,RelV v u/\Look X.env s.heap m x u
 cell:∀x c,X.env.cells.lookup x=aj c->∃v,s.heap.IsCell c v
 free:H X.env.locals=au
 rY:∀x c,X.env.cells.lookup x=aj c->H c=au
 pin:∀p∈X.pn++ψ,s.heap.get? p.1=aj p.2/\H p.1=au/\p.1≠X.env.locals/\p.1∉X.fs/\∀v,p.2.data≠.cell v
 aa:bz X.prog X.w H s.heap
 len:σ.length=X.N.length
 dy:w4 X.A H
 tup:∀p∈X.tp,H p.1=aj (.tup p.2)
variable{i:Nat}
section
variable{X:Cx}{ψ:List (bx×Obj)}{σ:List (Option V)}{H H':Hp}{s:dg}{h':kh}
def Cx.Ok.aWW(ok:X.Ok)(e:X.base.get? b=aj o):b∉X.fs:=λhb=>by
 have:=(ok.hW.mem hb).1;rw[e]at this;cases this
def Inv.bs(I:Inv X ψ σ H s):∀b o,X.base.get? b=aj o->s.heap.get? b=aj o/\H b=au:=λb o e =>
 ⟨I.base.keep b o (I.ok.bs b o e).1 (I.ok.bs b o e).2 (I.ok.aWW e) (I.ok.uA b o e),I.base.free b o (I.ok.bs b o e).1 (I.ok.bs b o e).2 (I.ok.uA b o e)⟩
def Inv.bk(I:Inv X ψ σ H s):∀b o,X.base.get? b=aj o->s.heap.get? b=aj o:=λb o e=>(I.bs b o e).1
def Inv.mod(I:Inv X ψ σ H s):Mod X.K X.mg X.base:=I.ok.mod
def Inv.cz(I:Inv X ψ σ H s):X.K.In s.heap:=I.ok.mod.oq.keeps I.bk
def Inv.lt(I:Inv X ψ σ H s):X.env.locals<s.heap.objs.size:=let⟨_,hn,_⟩:=I.loc;hn.lt
def Inv.sz(I:Inv X ψ σ H s):X.ai.heap.objs.size<=s.heap.objs.size:=qd I.ok.above (wk I.lt)
def Inv.aWX(I:Inv X ψ σ H s)(h:s.heap.objs.size<=a):a∉X.fs:=λhb=>by
 let⟨_,o,ho,_⟩:=I.ok.hW.mem hb;exact absurd (ju (gk ho) (qd I.sz h)) (vg _)
def Inv.l9(I:Inv X ψ σ H s):∀x c,X.env.cells.lookup x=aj c->c≠X.env.locals:=λx c e z=>by
 let⟨v,o,ho,hd⟩:=I.cell x c e;let⟨m,⟨o',es,ep,bq,g7,_⟩,_⟩:=I.loc;rw[z,bq]at ho;cases ho;rw[g7]at hd;cases hd
def Inv.hW(I:Inv X ψ σ H s):s.heap.FunFrames X.base X.outer:=by
 have all:∀(l:List Env),(∀b∈frs l,b∈X.fs)->X.ai.heap.FunFrames X.base l->s.heap.FunFrames X.base l:=by
  intro l
  induction l with
  |nil=>intro _ _;trivial
  |cons env r ih =>
   intro hs hl;let⟨hk,⟨L,o,hf,hn,ho,hd⟩,hr⟩:=hl;have hL:L∈X.fs:=hs L (by unfold frs;rw[Mv,hf];exact yw);let⟨sl,e⟩:=I.base.slot L o ho (I.ok.oC L hL) hL λz=>I.ok.yf L z hL;exact⟨hk,⟨L,_,hf,hn,e,hd⟩,ih (λb hb=>hs b (by unfold frs;rw[Mv,hf];exact qj _ hb)) hr⟩
 exact all X.outer (λ_ hb=>hb) I.ok.hW
def Inv.stack(I:Inv X ψ σ H s):s.heap.FunFrames X.base X.stack:=by
 rcases I.ok.iE with e|⟨e,hf⟩
 .rw[e];exact I.hW
 .rw[e];let⟨m,hn,_⟩:=I.loc;refine .cons (by rw[I.ok.kind];decide) hf hn ?_ I.hW;exact Heap.get?_none_of_le (qd I.ok.kQ I.ok.above)
def Inv.Jm(I:Inv X ψ σ H s):∀b∈frs X.stack,b∈X.env.locals::X.fs:=λb hb=>by
 rcases I.ok.iE with e|⟨e,hf⟩
 .rw[e]at hb;exact qj _ hb
 .rw[e]at hb;unfold frs at hb;rw[Mv,hf]at hb;exact hb
def Inv.JL(I:Inv X ψ σ H s):∀b∈frs X.stack,H b=au:=λb hb=>by
 rcases jm.mp (I.Jm b hb)with e|hb
 .rw[e];exact I.free
 .obtain⟨_,o,ho,_⟩:=I.ok.hW.mem hb;exact I.base.free b o ho (I.ok.oC b hb) λz=>I.ok.yf b z hb
def Inv.step{g':Array GenState}{d':Drawn}{ch:List bx}(I:Inv X ψ σ H s)
  (oB:∀b∈ch,(b∈X.ex∨X.ai.heap.objs.size<=b)/\b≠X.env.locals/\(∀x c,X.env.cells.lookup x=aj c->c≠b)/\∀p∈X.pn++ψ,p.1≠b)
  (keep:∀b o,b≠X.env.locals->b∉X.fs->b∉ch->s.heap.get? b=aj o->H b=au->h'.get? b=aj o)
  (slot:∀b o,b≠X.env.locals->b∈X.fs->b∉ch->s.heap.get? b=aj o->H b=au->∃sl,h'.get? b=aj {o with slots:=sl})(free:∀b o,b∉ch->s.heap.get? b=aj o->H b=au->H' b=au)
  (there:∀b o,b∉ch->s.heap.get? b=aj o->∃o',h'.get? b=aj o')
  (az:∀b xs,H b=aj (.tup xs)->H' b=aj (.tup xs))(oM:∀b o u,H b=aj (.lH o u)->H' b=aj (.lH o u))(fh:∀b ps,H b=aj (.iA ps)->∃more,H' b=aj (.iA (ps++more)))
  (ns:∀m,s.heap.Ns X.env.locals m->h'.Ns X.env.locals m)(aa:bz X.prog X.w H' h')(hg:AllBare g') :
  Inv X ψ σ H' {s with heap:=h',gens:=g',drawn:=d',toks:=t' }:=by
 have NG:∀b o,X.ai.heap.get? b=aj o->b≠X.env.locals:=λb o e=>jl (ju (gk e) I.ok.above)
 have Ew:∀b o,X.ai.heap.get? b=aj o->b∉X.ex->b∉ch:=λb o e hx hb=>by
  rcases(oB b hb).1 with z|z
  .exact hx z
  .exact absurd (ju (gk e) z) (vg _)
 have cellK:∀x c,X.env.cells.lookup x=aj c->∀v,s.heap.IsCell c v->h'.IsCell c v:=λx c e v ⟨o,ho,hd⟩=>by
  have B5:c∉ch:=λz=>(oB c z).2.2.1 x c e rfl;by_cases hc:c∈X.fs
  .obtain⟨sl,q⟩:=slot c o (I.l9 x c e) hc B5 ho (I.rY x c e);exact⟨_,q,hd⟩
  .exact⟨o,keep c o (I.l9 x c e) hc B5 ho (I.rY x c e),hd⟩
 refine⟨I.ok,I.os,hg,⟨λb o e n hb hx=>?_,λb o e n hb hx=>?_,λb o e n hx=>?_,λb o e hx=>?_,λb xs e=>az b xs (I.base.az b xs e),λb o xs e=>oM b o xs (I.base.oM b o xs e),λb ps e=>?_⟩,?_,λx c e=>?_,?_,λx c e=>?_,λp hp=>?_,aa,I.len,I.dy.mono oM,λp hp=>az _ _ (I.tup p hp)⟩
 .exact keep b o (NG b o e) hb (Ew b o e hx) (I.base.keep b o e n hb hx) (I.base.free b o e n hx)
 .obtain⟨sl,e1⟩:=I.base.slot b o e n hb hx;let⟨Wg,e2⟩:=slot b _ (NG b o e) hb (Ew b o e hx) e1 (I.base.free b o e n hx);exact⟨Wg,e2⟩
 .obtain⟨o',e1⟩:=I.base.there b o e hx;exact free b o' (Ew b o e hx) e1 (I.base.free b o e n hx)
 .obtain⟨o',e1⟩:=I.base.there b o e hx;exact there b o' (Ew b o e hx) e1
 .obtain⟨m1,e1⟩:=I.base.fh b ps e;let⟨m2,e2⟩:=fh b _ e1;exact⟨m1++m2,by rw[e2,Array.append_assoc]⟩
 .obtain⟨m,hn,hl⟩:=I.loc;refine⟨m,ns m hn,λi x v e1 e2 e3=>?_⟩;let⟨u,r,l⟩:=hl i x v e1 e2 e3;refine⟨u,r,?_⟩;rcases l with l|⟨k,c,e,z⟩
  .exact .inl l
  .exact .inr ⟨k,c,e,cellK x c e _ z⟩
 .obtain⟨v,z⟩:=I.cell x c e;exact⟨v,cellK x c e v z⟩
 .obtain⟨m,⟨o,_,_,ho,_⟩,_⟩:=I.loc;exact free _ o (λz=>(oB _ z).2.1 rfl) ho I.free
 .obtain⟨v,o,ho,hd⟩:=I.cell x c e;exact free c o (λz=>(oB c z).2.2.1 x c e rfl) ho (I.rY x c e)
 .obtain⟨e,n,ne,nf,d⟩:=I.pin p hp;have B5:p.1∉ch:=λz=>(oB p.1 z).2.2.2 p hp rfl;exact⟨keep p.1 p.2 ne nf B5 e n,free p.1 p.2 B5 e n,ne,nf,d⟩
def Inv.un(I:Inv X ψ σ H s)(u:Un X.fs [] H H' s.heap h')(aa:bz X.prog X.w H' h'):Inv X ψ σ H' {s with heap:=h',toks:=t' }:=by
 let⟨m,⟨o,es,ep,ho,r⟩,_⟩:=id I.loc;let⟨sl,hL⟩:=u.any ho I.free (by simp)
 exact I.step (g':=s.gens) (d':=s.drawn) (ch:=[]) (λ_ z=>nomatch z) (λb o _ hb _ e n=>u.keep b o e n hb (by simp)) (λb o _ hb _ e n=>u.slot b o e n hb (by simp)) (λb o _ e n=>u.free b o e n (by simp)) (λb o _ e=>u.there b o e (by simp)) u.az u.oM u.fh (λm' hm=>by
  let⟨o',IM,IP,bq,r'⟩:=hm;rw[ho]at bq;cases bq;exact⟨_,IM,IP,hL,r'⟩) aa I.bare
def Inv.call(I:Inv X ψ σ H s)(u:Un (frs X.stack) ch H H' s.heap h')(aa:bz X.prog X.w H' h')(hg:AllBare g')
  (oB:∀b∈ch,(b∈X.ex∨X.ai.heap.objs.size<=b)/\b≠X.env.locals/\(∀x c,X.env.cells.lookup x=aj c->c≠b)/\∀p∈X.pn++ψ,p.1≠b) :
  Inv X ψ σ H' {s with heap:=h',gens:=g',drawn:=d',toks:=t' }:=by
 let⟨m,⟨o,es,ep,ho,r⟩,_⟩:=id I.loc;let⟨sl,hL⟩:=u.any ho I.free λz=>(oB _ z).2.1 rfl
 exact I.step (ch:=ch) oB (λb o hL hb hc e n=>u.keep b o e n (λz=>(jm.mp (I.Jm b z)).elim hL hb) hc) (λb o _ _ hc e n=>u.any e n hc) (λb o hc e n=>u.free b o e n hc) (λb o hc e=>u.there b o e hc) u.az u.oM u.fh (λm' hm=>by
  let⟨o',IM,IP,bq,r'⟩:=hm;rw[ho]at bq;cases bq;exact⟨_,IM,IP,hL,r'⟩) aa hg
def Inv.turned(I:Inv X ψ σ H s)(k:∀b o,b≠it->s.heap.get? b=aj o->h'.get? b=aj o)(hn:H it=au)(hL:it≠X.env.locals)
  (h1:it∈X.ex∨X.ai.heap.objs.size<=it)(h2:∀x c,X.env.cells.lookup x=aj c->c≠it)(h3:∀p∈X.pn++ψ,p.1≠it):Inv X ψ σ H {s with heap:=h',toks:=t' }:=by
 have lT:∀b u,H b=aj u->b≠it:=λb u e z=>by rw[z,hn]at e;cases e
 refine I.step (g':=s.gens) (d':=s.drawn) (ch:=[it]) (λb hb=>?_) (λb o _ _ hc e _=>k b o (λz=>hc (by simp[z])) e) (λb o _ _ hc e _=>⟨o.slots,k b o (λz=>hc (by simp[z])) e⟩) (λ_ _ _ _ n=>n)
  (λb o hc e=>⟨o,k b o (λz=>hc (by simp[z])) e⟩) (λ_ _ e=>e) (λ_ _ _ e=>e) (λb ps e=>⟨#[],by rw[e];simp⟩) (λm hm=>?_) (λb u e=>?_) I.bare
 .have e:b=it:=by simpa using hb
  subst e;exact⟨h1,hL,h2,h3⟩
 .obtain⟨o,es,ep,ho,r⟩:=hm;exact⟨o,es,ep,k _ o (Ne.symm hL) ho,r⟩
 .refine(I.aa b u e).bP (λc v hc q=>k c v ?_ q) (λ_ q=>q) λ_ _ q=>q;rcases hc with z|z
  .rw[z];exact lT b u e
  .exact lT c _ z
def Inv.tok(I:Inv X ψ σ H s)(t:Nat):Inv X ψ σ H {s with toks:=t}:=I.un (h':=s.heap) (t':=t) Un.refl I.aa
def Inv.kept{t':Nat}(I:Inv X ψ σ H s)(k:∀b u,s.heap.get? b=aj u->h'.get? b=aj u):Inv X ψ σ H {s with heap:=h',toks:=t' }:=I.un (Un.kept k) (I.aa.kept k)
def Inv.laid{o:HO}{t':Nat}(I:Inv X ψ σ H s)(k:∀b u,s.heap.get? b=aj u->h'.get? b=aj u)(hp:s.heap.objs.size<=a)(new:iZ X.prog X.w (upd H a o) h' a o) :
  Inv X ψ σ (upd H a o) {s with heap:=h',toks:=t' }:=I.un (Un.laid k hp (I.aa.fresh hp)) (I.aa.laid k hp new)
def Inv.write{x:bx}{o:HO}{t':Nat}(I:Inv X ψ σ H s)(mu:DV (H x))(he:e=x∨H e=aj (.own x))(k:∀b u,b≠e->s.heap.get? b=aj u->h'.get? b=aj u)(AD:∃u,h'.get? e=aj u)
  (new:iZ X.prog X.w (upd H x o) h' x o):Inv X ψ σ (upd H x o) {s with heap:=h',toks:=t' }:=I.un (Un.write mu he k AD) (I.aa.write mu he k AD new)
def Inv.weak{av:List (Option V)}(I:Inv X ψ σ H s)(hl:av.length=σ.length)(w:∀(i:Nat) v,av[i]?=aj (aj v)->σ[i]?=aj (aj v)):Inv X ψ av H s :=
 ⟨I.ok,I.os,I.bare,I.base,let⟨m,hn,WV⟩:=I.loc;⟨m,hn,λi x v e1 e2 e3=>WV i x v e1 (w i v e2) e3⟩,I.cell,I.free,I.rY,I.pin,I.aa,hl.trans I.len,I.dy,I.tup⟩
def Inv.Pt(I:Inv X ψ σ H s)(h:∀p∈y4,s.heap.get? p.1=aj p.2/\H p.1=au/\p.1≠X.env.locals/\p.1∉X.fs/\∀v,p.2.data≠.cell v):Inv X y4 σ H s :=
 ⟨I.ok,I.os,I.bare,I.base,I.loc,I.cell,I.free,I.rY,λp hp=>(yp.mp hp).elim (λz=>I.pin p (Mw _ z)) (h p),I.aa,I.len,I.dy,I.tup⟩
def Ku(hN:N.Nodup){j:Nat}(a:N[i]?=aj x)(b:N[j]?=aj x):i=j:=by
 let⟨h1,e1⟩:=iz.mp a;let⟨h2,e2⟩:=iz.mp b;exact(List.getElem_inj hN).mp (e1.trans e2.symm)
def Yq(I:Inv X ψ σ H s)(hN:X.N.Nodup)(hi:X.N[i]?=aj x)(hx:Loc X.env.scope x)(r:RelV v u)
  (h:∀s',Inv X ψ (σ.set i (aj v)) H s'->(∃a,jr a s.heap s'.heap/\(a=X.env.locals∨X.env.cells.lookup x=aj a))->Q () s')(hf:X.fn x=ak∨X.env.scope.names.lookup x=aj .local:=by first|exact .inl rfl|exact .inr rfl|assumption):dj M A (storeName X.env x u) Q E s:=by
 let⟨m,hn,hl⟩:=id I.loc;have Ag:(X.env.scope.kind==.class||(X.env.scope.kind==.module&&X.env.locals !=X.env.globals))=ao:=by rw[I.ok.kind];rfl
 have D4:i<σ.length:=by rw[I.len];exact(iz.mp hi).1
 have l9:=I.l9
 have tracked:∀{a:bx}{h':kh},(∃o,s.heap.get? a=aj o/\H a=au)->jr a s.heap h'->bz X.prog X.w H h':=λ{a h'} ha hs b ob e=>by
  let⟨_,_,b7⟩:=ha;refine(I.aa b ob e).bP (λc w' hc q=>(hs.2 c ?_).trans q) (λ_ q=>q) λ_ _ q=>q;rintro rfl;rcases hc with rfl|hc
  .rw[b7]at e;cases e
  .rw[b7]at hc;cases hc
 rcases hx with hk|hk
 .refine wpAny_storeName_local hk hn (λh' EL hs=>?_) Ag;let⟨oL,_,_,N3,_⟩:=id hn;refine h _ ⟨I.ok,I.os,I.bare,⟨λb o e n hb hx=>?_,λb o e n hb hx=>?_,I.base.free,λb o e hx=>?_,I.base.az,I.base.oM,I.base.fh⟩,⟨_,EL,λj y v' e1 e2 e3=>?_⟩,λy c e=>?_,I.free,I.rY,λp hp=>?_,tracked ⟨oL,N3,I.free⟩ hs,by simpa using I.len,I.dy,I.tup⟩ ⟨_,hs,.inl rfl⟩
  .exact(hs.2 b (jl (ju (gk e) I.ok.above))).trans (I.base.keep b o e n hb hx)
  .obtain⟨sl,e1⟩:=I.base.slot b o e n hb hx;exact⟨sl,(hs.2 b (jl (ju (gk e) I.ok.above))).trans e1⟩
  .obtain⟨o',e1⟩:=I.base.there b o e hx;exact⟨o',(hs.2 b (jl (ju (gk e) I.ok.above))).trans e1⟩
  .by_cases hj:j=i
   .subst hj;rw[hi]at e1;cases e1;rw[List.getElem?_set_self D4]at e2;cases e2;exact⟨u,r,.inl ⟨hk,by simp⟩⟩
   .rw[List.getElem?_set_ne (Ne.symm hj)]at e2;let⟨u',r',q⟩:=hl j y v' e1 e2 e3;refine⟨u',r',?_⟩;rcases q with⟨k,e⟩|⟨k,c,e,z⟩
    .refine .inl ⟨k,?_⟩;have:y≠x:=λe=>hj (Ku hN e1 (e ▸ hi));simp[this,e]
    .exact .inr ⟨k,c,e,z.sameBut hs (l9 y c e)⟩
  .obtain⟨w',z⟩:=I.cell y c e;exact⟨w',z.sameBut hs (l9 y c e)⟩
  .obtain⟨e,n,ne,nf,d⟩:=I.pin p hp;exact⟨(hs.2 p.1 ne).trans e,n,ne,nf,d⟩
 .have xm:X.fn x=ak:=by
   rcases hf with z|z
   .exact z
   .rw[z]at hk;cases hk
  let⟨c,hc⟩:=I.ok.has x (.inl hk);let⟨w',z⟩:=I.cell x c hc;refine wpAny_storeName_cell I.ok.kind hk hc z (λh' Oc hs=>?_);let⟨oc,N2,aWY⟩:=id z;refine h {s with heap:=h' } ⟨I.ok,I.os,I.bare,⟨λb o e n hb hx=>?_,λb o e n hb hx=>?_,I.base.free,λb o e hx=>?_,I.base.az,I.base.oM,I.base.fh⟩,⟨m,hn.sameBut hs (Ne.symm (l9 x c hc)),λj y v' e1 e2 e3=>?_⟩,λy c' e=>?_,I.free,I.rY,λp hp=>?_,tracked ⟨oc,N2,I.rY x c hc⟩ hs,by simpa using I.len,I.dy,I.tup⟩ ⟨c,hs,.inr hc⟩
  .exact(hs.2 b (jl (ju (gk e) (I.ok.tN x c xm hc)))).trans (I.base.keep b o e n hb hx)
  .obtain⟨sl,e1⟩:=I.base.slot b o e n hb hx;exact⟨sl,(hs.2 b (jl (ju (gk e) (I.ok.tN x c xm hc)))).trans e1⟩
  .obtain⟨o',e1⟩:=I.base.there b o e hx;exact⟨o',(hs.2 b (jl (ju (gk e) (I.ok.tN x c xm hc)))).trans e1⟩
  .by_cases hj:j=i
   .subst hj;rw[hi]at e1;cases e1;rw[List.getElem?_set_self D4]at e2;cases e2;exact⟨u,r,.inr ⟨.inl hk,c,hc,Oc⟩⟩
   .rw[List.getElem?_set_ne (Ne.symm hj)]at e2;let⟨u',r',q⟩:=hl j y v' e1 e2 e3;refine⟨u',r',?_⟩;rcases q with q|⟨k,c',e,z'⟩
    .exact .inl q
    .refine .inr ⟨k,c',e,z'.sameBut hs ?_⟩;rintro rfl;exact hj (Ku hN e1 (I.ok.inj _ _ _ e hc ▸ hi))
  .by_cases EW:c'=c
   .subst EW;exact⟨_,Oc⟩
   .obtain⟨w2,z2⟩:=I.cell y c' e;exact⟨w2,z2.sameBut hs EW⟩
  .obtain⟨e,n,ne,nf,d⟩:=I.pin p hp;refine⟨(hs.2 p.1 ?_).trans e,n,ne,nf,d⟩;intro q;rw[q,N2]at e;have q':oc=p.2:=jt.inj e;exact d w' (by rw[←q'];exact aWY)
def Kt(I:Inv X ψ σ H s)(hN:X.N.Nodup)(hi:X.N[i]?=aj x)(hx:Loc X.env.scope x)(r:RelV v u)
  (h:∀s',Inv X ψ (σ.set i (aj v)) H s'->Q () s')(hf:X.fn x=ak∨X.env.scope.names.lookup x=aj .local:=by first|exact .inl rfl|exact .inr rfl|assumption):dj M A (storeName X.env x u) Q E s :=
 Yq I hN hi hx r (λs' I' _=>h s' I') hf
def Inv.d4{s':dg}(I:Inv X ψ σ H s)(ho:s'.os=s.os)(u:Un (frs X.stack) ch H H' s.heap s'.heap)(aa:bz X.prog X.w H' s'.heap)(hg:AllBare s'.gens)
  (oB:∀b∈ch,(b∈X.ex∨X.ai.heap.objs.size<=b)/\b≠X.env.locals/\(∀x c,X.env.cells.lookup x=aj c->c≠b)/\∀p∈X.pn++ψ,p.1≠b):Inv X ψ σ H' s':=by
 let⟨h',g',d',t',o'⟩:=s';have e:o'=s.os:=ho;subst e;exact I.call (g':=g') (t':=t') (d':=d') u aa hg oB
end
@[simp]def XK:=Value->Option bx->Hp->Prop
@[simp]def St:=List (Option V)
@[simp]def VK:=V->Hp->Prop
@[simp]def TE:=St->Hp->VK->Prop
@[simp]def TT:=St->Hp->(Bool->Hp->Prop)->Prop
@[simp]def TA:=St->Hp->(List V->Hp->Prop)->Prop
structure Ends where
 nx:St->Hp->Prop
 rt:VK
 bk:St->Hp->Prop:=λ_ _=>False
 ct:St->Hp->Prop:=λ_ _=>False
@[simp]def TS:=Ends->St->Hp->Prop
abbrev EP(X:Cx)(ψ:List (bx×Obj))(σ:St)(Q:VK)(u:bh)(s':dg):Prop:=∃v H',Inv X ψ σ H' s'/\RelV v u/\Q v H'
abbrev TP(X:Cx)(ψ:List (bx×Obj))(σ:St)(Q:Bool->Hp->Prop)(b:Bool)(s':dg):Prop:=∃H',Inv X ψ σ H' s'/\Q b H'
abbrev AP(X:Cx)(ψ:List (bx×Obj))(σ:St)(Q:List V->Hp->Prop)(us:List bh)(s':dg):Prop:=∃vs H',Inv X ψ σ H' s'/\Vals vs us/\Q vs H'
set_option tactic.hygienic true in
abbrev SP(X:Cx)(ψ:List (bx×Obj))(D:Ends)(f:Flow)(s':dg):Prop :=
 match f with
 |.next=>∃av H',Inv X ψ av H' s'/\D.nx av H'
 |.brk=>∃av H',Inv X ψ av H' s'/\D.bk av H'
 |.cont=>∃av H',Inv X ψ av H' s'/\D.ct av H'
 |.ret u=>∃v av H',Inv X ψ av H' s'/\RelV v u/\D.rt v H'
abbrev PE(X:Cx)(e:je)(t:TE):Prop :=
 ∀(ψ:List (bx×Obj))(s:dg)(σ:St)(H:Hp)(Q:VK),Inv X ψ σ H s->t σ H Q->dj (dz X.prog X.w) X.A (eval e X.env) (EP X ψ σ Q) X.xe s
abbrev PT(X:Cx)(e:je)(t:TT):Prop :=
 ∀(ψ:List (bx×Obj))(s:dg)(σ:St)(H:Hp)(Q:Bool->Hp->Prop),Inv X ψ σ H s->t σ H Q->dj (dz X.prog X.w) X.A (isTrue e X.env (eval e X.env)) (TP X ψ σ Q) X.xe s
abbrev PW(X:Cx)(e:je)(t:TT):Prop :=
 ∀(whole:Sem bh)(ψ:List (bx×Obj))(s:dg)(σ:St)(H:Hp)(Q:Bool->Hp->Prop),Inv X ψ σ H s->t σ H Q->dj (dz X.prog X.w) X.A (isTrue e X.env whole) (TP X ψ σ Q) X.xe s
def PW.pt{t:TT}(h:PW X e t):PT X e t:=h _
abbrev PA(X:Cx)(es:List je)(t:TA):Prop :=
 ∀(pos:Pos)(ψ:List (bx×Obj))(s:dg)(σ:St)(H:Hp)(Q:List V->Hp->Prop),Inv X ψ σ H s->t σ H Q->dj (dz X.prog X.w) X.A (spliced (uc pos (jg es X.env))) (AP X ψ σ Q) X.xe s
abbrev PS(X:Cx)(st:jo)(t:TS):Prop :=
 ∀(ψ:List (bx×Obj))(s:dg)(σ:St)(H:Hp)(D:Ends),Inv X ψ σ H s->t D σ H->dj (dz X.prog X.w) X.A (exec st X.env) (SP X ψ D) X.xe s
abbrev iq(X:Cx)(st:List jo)(t:TS):Prop :=
 ∀(ψ:List (bx×Obj))(s:dg)(σ:St)(H:Hp)(D:Ends),Inv X ψ σ H s->t D σ H->dj (dz X.prog X.w) X.A (execs st X.env) (SP X ψ D) X.xe s
def fW{α:Type}{t:Sem α}{Q Q':α->dg->Prop}{E:bh->dg->Prop}{s:dg}(h:dj M A t Q E s)(hQ:∀a s,Q a s->Q' a s):dj M A t Q' E s:=wpAny_mono h hQ λ_ _ x=>x
end
variable{ψ:List (bx×Obj)}{pos:Pos}
section
section
variable{X:Cx}
def bin{a b:je}{ta tb:TE}(ha:PE X a ta)(hb:PE X b tb){s:dg}{σ:St}{H:Hp}{R:V->V->Hp->Prop}(I:Inv X ψ σ H s)(h:ta σ H λx H1=>tb σ H1 λy H2=>R x y H2)
  {α:Type}{Q:α->dg->Prop}{f:bh->bh->Sem α}
  (hf:∀v u s2 x y H2,Inv X ψ σ H2 s2->RelV x v->RelV y u->R x y H2->dj (dz X.prog X.w) X.A (f v u) Q X.xe s2) :
  dj (dz X.prog X.w) X.A (eval a X.env) (λv af=>dj (dz X.prog X.w) X.A (eval b X.env) (λu fR=>dj (dz X.prog X.w) X.A (f v u) Q X.xe fR) X.xe af) X.xe s:=by
 refine fW (ha ψ s σ H _ I h) ?_;rintro v s1 ⟨x,H1,I1,r1,q1⟩;refine fW (hb ψ s1 σ H1 _ I1 q1) ?_;rintro u s2 ⟨y,H2,I2,r2,q2⟩;exact hf v u s2 x y H2 I2 r1 r2 q2
abbrev Sx(i:Nat):TE:=λσ H Q=>∃v,σ[i]?=aj (aj v)/\Q v H
abbrev tC(v:V):TE:=λ_ H Q=>Q v H
def aM6{i:Nat}(hN:X.N[i]?=aj x)(hv:BK X.env.scope x)(hd:(x==("__debug__":Str))=ao:=by decide)(fw:(x==("__classdict__":Str))=ao:=by decide):PE X (.Name x pos) (Sx i):=by
 intro ψ s σ H Q I h;let⟨v,e,h⟩:=h;let⟨m,hn,hl⟩:=I.loc;let⟨u,r,l⟩:=hl i x v hN e hv;have fin:EP X ψ σ Q u s:=⟨v,H,I,r,h⟩;rcases l with⟨hk,hm⟩|⟨hk,c,hc,ja⟩
 .exact wpAny_Name (wpAny_loadName_local I.ok.kind hk hn hm fin) hd
 .rcases hk with hk|hk
  .exact wpAny_Name (wpAny_loadName_cell I.ok.kind hk hc ja fin) hd
  .exact wpAny_Name (wpAny_loadName_free I.ok.kind hk hc ja fin fw) hd
def aM7{i j pos}:PE X (.Constant (.int i) j pos) (tC (.int i)):=λ_ _ _ H _ I h=>wpAny_Constant_int ⟨.int i,H,I.tok _,⟨_,rfl⟩,h⟩
def aS4{b j pos}:PE X (.Constant (.bool b) j pos) (tC (.bl b)):=λ_ _ _ H _ I h=>Constant_bool ⟨.bl b,H,I,rfl,h⟩
def aM8{j pos}:PE X (.Constant .none j pos) (tC .ae):=λ_ _ _ H _ I h=>Constant_none ⟨.ae,H,I,rfl,h⟩
def aM9{x j pos}:PE X (.Constant (.str x) j pos) (tC (.str x)):=λ_ _ _ H _ I h=>Calls.Constant_str ⟨.str x,H,I.tok _,⟨_,rfl⟩,h⟩
abbrev Gl(X:Cx)(x:Str):Prop:=X.env.kindOf x=aj .globalImplicit
def rA(I:Inv X ψ σ H s)(hg:Gl X x)(hm:X.mg x=aj u)(h:Q u s)
  (hd:(x==("__debug__":Str))=ao:=by decide):dj (dz X.prog X.w) X.A (eval (.Name x pos) X.env) Q E s :=
 Calls.Name_function_global I.ok.kind hg (Calls.loadGlobal_global (by rw[I.ok.glob];exact I.mod.glob.keeps I.bk) hm h) hd
def Bh(I:Inv X ψ σ H s)(hg:Gl X x)(hm:X.mg x=au)(hv:mq x=aj u)(h:Q u s)
  (hn:x≠"__name__":=by decide)(hd:(x==("__debug__":Str))=ao:=by decide):dj (dz X.prog X.w) X.A (eval (.Name x pos) X.env) Q E s:=by
 let⟨mb,h1,h2⟩:=I.mod.blt;exact Calls.Name_function_global I.ok.kind hg (Calls.loadGlobal_builtin (by rw[I.ok.glob];exact I.mod.glob.keeps I.bk) hm (by rw[I.ok.blt];exact h1.keeps I.bk) ((h2 x hn).trans hv) h) hd
def aGE(hg:Gl X x)(hm:X.mg x=aj u)(r:RelV v u)(hd:(x==("__debug__":Str))=ao:=by decide):PE X (.Name x pos) (tC v) :=
 λ_ _ _ H _ I h=>rA I hg hm ⟨v,H,I,r,h⟩ hd
def aGF(hg:Gl X x)(hm:X.mg x=au)(hv:mq x=aj u)(r:RelV v u)(hn:x≠"__name__":=by decide)(hd:(x==("__debug__":Str))=ao:=by decide):PE X (.Name x pos) (tC v) :=
 λ_ _ _ H _ I h=>Bh I hg hm hv ⟨v,H,I,r,h⟩ hn hd
variable{b:je}{ta tb:TE}{pos:Pos}
abbrev tB(t:TE):TT:=λσ H Q=>t σ H λx H1=>∃c,x=.bl c/\Q c H1
def aMA{e:je}{t:TE}(h:PE X e t)(he:∀whole,isTrue e X.env whole=(do let v ←whole;standAt e.pos;holding [v] (truthy v)):=by intro _;rfl):PT X e (tB t):=by
 intro ψ s σ H Q I hw;refine isTrue_plain (fW (h ψ s σ H _ I hw) ?_) (he _);rintro v s1 ⟨x,H1,I1,r1,q1⟩;let⟨d,rfl,q⟩:=q1;cases r1;exact yd ⟨H1,I1,q⟩
variable{rest:List je}
abbrev Sw(t u:TT):TT:=λσ H Q=>t σ H λc H1=>if c=ak then u σ H1 Q else Q ao H1
abbrev Np(t u:TT):TT:=λσ H Q=>t σ H λc H1=>if c=ak then Q ak H1 else u σ H1 Q
abbrev aWZ(t:TT):TT:=λσ H Q=>t σ H λc H1=>Q (!c) H1
def aGG(ha:PT X a tA):PW X (.BoolOp .And [a] pos) tA:=by
 intro wh ψ s σ H Q I h;refine isTrue_and (fW (ha ψ s σ H Q I h) λc s1 e=>?_);cases c with
 |true=>exact isTrue_and_nil e
 |false=>exact e
def aMB(ha:PT X a tA):PW X (.BoolOp .Or [a] pos) tA:=by
 intro wh ψ s σ H Q I h;refine isTrue_or (fW (ha ψ s σ H Q I h) λc s1 e=>?_);cases c with
 |false=>exact isTrue_or_nil e
 |true=>exact e
def aMC(ha:PT X a tA)(hb:PW X (.BoolOp .And (b::rest) pos) HF):PW X (.BoolOp .And (a::b::rest) pos) (Sw tA HF):=by
 intro wh ψ s σ H Q I h;refine isTrue_and (fW (ha ψ s σ H _ I h) ?_);rintro c s1 ⟨H1,I1,q1⟩;cases c with
 |true=>exact hb wh ψ s1 σ H1 Q I1 q1
 |false=>exact⟨H1,I1,q1⟩
def aS6(ha:PT X a tA)(hb:PW X (.BoolOp .Or (b::rest) pos) HF):PW X (.BoolOp .Or (a::b::rest) pos) (Np tA HF):=by
 intro wh ψ s σ H Q I h;refine isTrue_or (fW (ha ψ s σ H _ I h) ?_);rintro c s1 ⟨H1,I1,q1⟩;cases c with
 |true=>exact⟨H1,I1,q1⟩
 |false=>exact hb wh ψ s1 σ H1 Q I1 q1
def aMD(ha:PT X a tA):PT X (.UnaryOp .Not a pos) (aWZ tA):=by
 intro ψ s σ H Q I h;exact isTrue_not (ha ψ s σ H (λc H1=>Q (!c) H1) I h)
abbrev aS7(ta tb:TE):TE:=λσ H Q=>ta σ H λx H1=>∃c,x=.bl c/\if c=ak then tb σ H1 Q else Q (.bl ao) H1
abbrev aX0(ta tb:TE):TE:=λσ H Q=>ta σ H λx H1=>∃c,x=.bl c/\if c=ak then Q (.bl ak) H1 else tb σ H1 Q
abbrev aS8(ta:TE):TE:=λσ H Q=>ta σ H λx H1=>∃c,x=.bl c/\Q (.bl (!c)) H1
def aME{op}{t:TE}(h:PE X a t):PE X (.BoolOp op [a] pos) t:=λψ s σ H Q I hw=>BoolOp_one (h ψ s σ H Q I hw)
def aMF(ha:PE X a ta)(hb:PE X (.BoolOp .And (b::rest) pos) tb):PE X (.BoolOp .And (a::b::rest) pos) (aS7 ta tb):=by
 intro ψ s σ H Q I h;refine BoolOp_and (fW (ha ψ s σ H _ I h) ?_);rintro v s1 ⟨x,H1,I1,r1,q1⟩;let⟨c,rfl,q1⟩:=q1;cases r1;refine yd ?_;cases c with
 |true=>exact hb ψ s1 σ H1 Q I1 q1
 |false=>exact⟨.bl ao,H1,I1,rfl,q1⟩
def aS9(ha:PE X a ta)(hb:PE X (.BoolOp .Or (b::rest) pos) tb):PE X (.BoolOp .Or (a::b::rest) pos) (aX0 ta tb):=by
 intro ψ s σ H Q I h;refine BoolOp_or (fW (ha ψ s σ H _ I h) ?_);rintro v s1 ⟨x,H1,I1,r1,q1⟩;let⟨c,rfl,q1⟩:=q1;cases r1;refine yd ?_;cases c with
 |false=>exact hb ψ s1 σ H1 Q I1 q1
 |true=>exact⟨.bl ak,H1,I1,rfl,q1⟩
def aMG(ha:PE X a ta):PE X (.UnaryOp .Not a pos) (aS8 ta):=by
 intro ψ s σ H Q I h;refine UnaryOp_ (fW (ha ψ s σ H _ I h) ?_);rintro v s1 ⟨x,H1,I1,r1,q1⟩;let⟨c,rfl,q1⟩:=q1;cases r1;exact not_of (yd ⟨.bl (!c),H1,I1,rfl,q1⟩)
end
end
variable{c:je}{n:Nat}{cm:Bool}
section
abbrev cS(K:jc)(H:Hp)(a:bx)(xs:List V):Prop :=
 Rd H a (.lst xs) ∨
  ∃(o:Obj)(its:Array bh)(n:Nat),K.lookup a=aj o/\o.cls=.type "list"/\o.dict=au/\o.data=.seq its n/\its.size<=dh/\Vals xs its.toList
abbrev br(K:jc)(H:Hp)(a:bx)(xs:List V):Prop :=
 Rd H a (.tup xs) ∨
  ∃(o:Obj)(its:Array bh)(n:Nat),K.lookup a=aj o/\o.cls=.type "tuple"/\o.data=.seq its n/\its.size<=dh/\Vals xs its.toList
abbrev aX1:bh->Option V
 |.none=>aj .ae
 |.bool b=>aj (.bl b)
 |.int i _=>aj (.int i)
 |.str x _=>aj (.str x)
 |.bytes b _=>aj (.E6 b)
 |.float b _=>aj (.E2 b)
 |.ref a=>aj (.ref a)
 |.type n=>aj (.ty n)
 |_=>au
def RelV.abs{x:V}(r:RelV x u):aX1 u=aj x:=by
 cases x with
 |ae=>cases r;rfl
 |bl _=>cases r;rfl
 |int _=>let⟨t,rfl⟩:=r;rfl
 |str _=>let⟨t,rfl⟩:=r;rfl
 |E6 _=>let⟨t,rfl⟩:=r;rfl
 |E2 _=>let⟨t,rfl⟩:=r;rfl
 |ref _=>cases r;rfl
 |ty _=>cases r;rfl
def RelV.inj{x:V}(r:RelV x u)(q:RelV y u):x=y:=jt.inj (r.abs.symm.trans q.abs)
def Vals.inj:∀{xs ys:List V}{us:List bh},Vals xs us->Vals ys us->xs=ys
 |_,_,_,.nil,.nil=>rfl
 |_,_,_,.cons r t,.cons r' t'=>by rw[r.inj r',Vals.inj t t']
section
variable{X:Cx}{ψ:List (bx×Obj)}{s:dg}{xs:List V}
def cS.of{K:jc}(h:H a=aj (.lst xs)):cS K H a xs:=.inl (.inl h)
def br.of{K:jc}(h:H a=aj (.tup xs)):br K H a xs:=.inl (.inl h)
def Inv.list(I:Inv X ψ σ H s)(h:cS X.K H a xs):∃its:List bh,Vals xs its/\PlainL s.heap a its.toArray/\xs.length<=dh:=by
 rcases h with h|⟨o,its,n,hk,hc,hd,hs,hz,r⟩
 .obtain⟨z,its,n,r,e⟩:=h.ok I.aa;exact⟨its,r,⟨_,n,e,rfl,rfl,rfl⟩,z⟩
 .refine⟨its.toList,r,⟨o,n,I.cz a o hk,hc,hd,by simpa using hs⟩,?_⟩;have e:=r.length;simp only[qp]at e;omega
def Inv.tuple(I:Inv X ψ σ H s)(h:br X.K H a xs):∃its:List bh,Vals xs its/\IsTup s.heap a its.toArray/\xs.length<=dh:=by
 rcases h with h|⟨o,its,n,hk,hc,hs,hz,r⟩
 .obtain⟨z,its,r,p⟩:=h.ok I.aa;exact⟨its,r,p,z⟩
 .refine⟨its.toList,r,⟨o,I.cz a o hk,hc,n,by simpa using hs⟩,?_⟩;have e:=r.length;simp only[qp]at e;omega
def Inv.aAB(I:Inv X ψ σ H s)(h:cS X.K H a xs)(h':cS X.K H a ys):xs=ys:=by
 let⟨its,r,⟨o,n,e,_,_,d⟩,_⟩:=I.list h;let⟨its',r',⟨o',n',e',_,_,d'⟩,_⟩:=I.list h';rw[e]at e';cases e';rw[d]at d';injection d' with d1 _;have:its=its':=by simpa using congrArg Array.toList d1
 subst this;exact r.inj r'
def Inv.KI(I:Inv X ψ σ H s)(h:br X.K H a xs)(h':br X.K H a ys):xs=ys:=by
 let⟨its,r,⟨o,e,_,n,d⟩,_⟩:=I.tuple h;let⟨its',r',⟨o',e',_,n',d'⟩,_⟩:=I.tuple h';rw[e]at e';cases e';rw[d]at d';injection d' with d1 _;have:its=its':=by simpa using congrArg Array.toList d1
 subst this;exact r.inj r'
end
section
end
section
variable{X:Cx}{st:jo}{rest:List jo}{t u:TS}{te:TE}{pos:Pos}
abbrev Tb:TS:=λD σ H=>D.nx σ H
abbrev Sv(t u:TS):TS:=λD σ H=>t {D with nx:=u D} σ H
def aGH:iq X [] Tb:=λ_ _ σ H _ I h=>By ⟨σ,H,I,h⟩
private theorem aAC(h1:PS X st t)(h2:iq X rest u):iq X (st::rest) (Sv t u):=by
 intro ψ s σ H D I h;refine wpAny_execs_cons (fW (h1 ψ s σ H {D with nx:=u D} I h) λf s1 q=>?_);cases f with
 |next =>
  let⟨av,H',I',q⟩:=q;exact h2 ψ s1 av H' D I' q
 |ret v=>exact q
 |brk=>exact q
 |cont=>exact q
private theorem aGI(h1:PS X st t):iq X [st] t:=by
 intro ψ s σ H D I h;refine wpAny_execs_cons (fW (h1 ψ s σ H D I h) λf s1 q=>?_);cases f with
 |next=>exact By q
 |ret v=>exact q
 |brk=>exact q
 |cont=>exact q
abbrev aSB:TS:=λD σ H=>D.ct σ H
def aGJ:PS X (.Pass pos) Tb:=λ_ _ σ H _ I h=>wpAny_Pass ⟨σ,H,I,h⟩
def η:PS X (.Continue pos) aSB:=λ_ _ σ H _ I h=>wpAny_Continue ⟨σ,H,I,h⟩
def Inv.quiet(I:Inv X ψ σ H s):interactive X.env=ao:=by simp[interactive,I.ok.kind]
abbrev aSC(te:TE):TS:=λD σ H=>te σ H λ_ H1=>D.nx σ H1
def aGK(he:PE X e te)(hs:rS e au pos.line X.env=pure ao:=by rfl):PS X (.Expr e pos) (aSC te):=by
 intro ψ s σ H D I h;exact wpAny_Expr_any (fW (he ψ s σ H _ I h) (by rintro v s1 ⟨x,H1,I1,r1,q1⟩;exact⟨σ,H1,I1,q1⟩)) I.quiet hs
abbrev aX2(te:TE):TS:=λD σ H=>te σ H D.rt
def aMH(he:PE X e te):PS X (.Return (aj e) pos) (aX2 te):=by
 intro ψ s σ H D I h;exact wpAny_Return_some (fW (he ψ s σ H _ I h) (by rintro v s1 ⟨x,H1,I1,r1,q1⟩;exact⟨x,σ,H1,I1,r1,q1⟩))
abbrev aX3(c:TT)(t u:TS):TS:=λD σ H=>c σ H λb H1=>if b=ak then t D σ H1 else u D σ H1
def aSD{b:List jo}(hc:PT X c tc)(ha:iq X a t)(hb:iq X b u):PS X (.If c a b pos) (aX3 tc t u):=by
 intro ψ s σ H D I h;refine wpAny_If (fW (hc ψ s σ H _ I h) ?_);rintro d s1 ⟨H1,I1,q1⟩;cases d with
 |true=>exact ha ψ s1 σ H1 D I1 q1
 |false=>exact hb ψ s1 σ H1 D I1 q1
end
@[simp]def TG:=V->St->Hp->(St->Hp->Prop)->Prop
@[simp]def zw:=List V->St->Hp->(St->Hp->Prop)->Prop
abbrev PG(X:Cx)(target:je)(t:TG):Prop :=
 ∀(ψ:List (bx×Obj))(s:dg)(σ:St)(H:Hp)(v:V)(u:bh)(Q:St->Hp->Prop),Inv X ψ σ H s->RelV v u->t v σ H Q ->
  dj (dz X.prog X.w) X.A (assign target X.env u) (λ_ s'=>∃av H',Inv X ψ av H' s'/\Q av H') X.xe s
abbrev DT(X:Cx)(ts:List je)(t:zw):Prop :=
 ∀(ψ:List (bx×Obj))(s:dg)(σ:St)(H:Hp)(vs:List V)(us:List bh)(Q:St->Hp->Prop),Inv X ψ σ H s->Vals vs us->t vs σ H Q ->
  dj (dz X.prog X.w) X.A (assignInOrder ((rX ts X.env).map (·.2)) us) (λ_ s'=>∃av H',Inv X ψ av H' s'/\Q av H') X.xe s
variable{i:Nat}
section
variable{X:Cx}{pos:Pos}
abbrev Fp(i:Nat):TG:=λv σ H Q=>Q (σ.set i (aj v)) H
def JK(hN:X.N.Nodup)(hi:X.N[i]?=aj x)(hx:Loc X.env.scope x)(hf:X.fn x=ak∨X.env.scope.names.lookup x=aj .local:=by first|exact .inl rfl|exact .inr rfl|assumption):PG X (.Name x pos) (Fp i):=by
 intro ψ s σ H v u Q I r h;exact wpAny_assign_Name (Kt I hN hi hx r (λs' I'=>⟨_,H,I',h⟩) hf)
abbrev Su:zw:=λvs σ H Q=>vs=[]/\Q σ H
abbrev Ta(t:TG)(u:zw):zw:=λvs σ H Q=>∃v r,vs=v::r/\t v σ H λav H'=>u r av H' Q
def aGL:DT X [] Su:=by
 intro ψ s σ H vs us Q I r h;let⟨e,h⟩:=h;subst e;cases r;exact assignInOrder_nil ⟨σ,H,I,h⟩
def aAD{t:TG}(h1:PG X e t)(h2:DT X es u)
  (hs:(rX (e::es) X.env).map (·.2)=assign e X.env::(rX es X.env).map (·.2):=by rfl):DT X (e::es) (Ta t u):=by
 intro ψ s σ H vs us Q I r h;let⟨v,vr,e1,h⟩:=h;subst e1;cases r with
 |cons r rr =>
  rw[hs];refine assignInOrder_cons (fW (h1 ψ s σ H _ _ _ I r h) ?_);rintro _ s1 ⟨jn,H1,I1,q1⟩;exact h2 ψ s1 jn H1 _ _ Q I1 rr q1
abbrev aX4(K:jc)(n:Nat)(t:zw):TG:=λv σ H Q=>∃a xs,v=.ref a/\br K H a xs/\xs.length=n/\t xs σ H Q
def aMI{k:Nat}{t:zw}(hc:X.calm=ak)(h:DT X es t)
  (hn:(rX es X.env).length=n:=by rfl)(b9:(rX es X.env).findIdx? (·.1)=au:=by rfl):PG X (.Tuple es k pos) (aX4 X.K n t):=by
 intro ψ s σ H v u Q I r hw;let⟨a,xs,e1,hq,hl,hw⟩:=hw;subst e1;cases r;let⟨its,rv,ht,hz⟩:=I.tuple hq;refine assign_Tuple_tuple (I.ok.hd hc) ht (by simp[hn,←hl,rv.length]) b9 λh' hx=>?_;have I1:Inv X ψ σ H {s with heap:=h' }:=I.kept (t':=s.toks) λb o e=>hx b o (jl (gk e)) e;exact h ψ _ σ H xs _ Q I1 (by simpa using rv) hw
abbrev aX5(te:TE)(g:TG):TS:=λD σ H=>te σ H λx H1=>g x σ H1 D.nx
def aMJ(hN:X.N.Nodup)(hi:X.N[i]?=aj x)(hx:Loc X.env.scope x)(he:PE X e te)(hs:rS e (aj (.Name x pos')) pos.line X.env=pure ao:=by rfl)(hf:X.fn x=ak∨X.env.scope.names.lookup x=aj .local:=by first|exact .inl rfl|exact .inr rfl|assumption) :
  PS X (.Assign [.Name x pos'] e pos) (aX5 te (Fp i)):=by
 intro ψ s σ H D I h;refine wpAny_Assign_Name (fW (he ψ s σ H _ I h) ?_) hs;rintro v s1 ⟨y,H1,I1,r1,q1⟩;exact Kt I1 hN hi hx r1 (λs2 I2=>⟨_,H1,I2,q1⟩) hf
end
section
variable{X:Cx}{pos:Pos}
abbrev aMK(c:TT)(tb:TS):TS:=λD σ H=>∃W:Nat->St->Hp->Prop,(∃m,W m σ H)/\∀m σ H,W m σ H ->
 c σ H λb H1=>if b=ak then ∃N:St->Hp->Prop,(∀av H',N av H'->∃m',m'<m/\W m' av H')/\tb {D with nx:=N,ct:=N,bk:=D.nx} σ H1 else D.nx σ H1
private theorem aAE(hp:vS (dz X.prog X.w) X.A X.env X.xe)(hc:PT X c tc)(hb:iq X body tb):PS X (.While c body [] pos) (aMK tc tb):=by
 intro ψ s σ H D I h;let⟨W,⟨m0,w0⟩,turn⟩:=h;refine wpAny_While (codeAny_whileLoop (λn s'=>∃av H',Inv X ψ av H' s'/\W n av H') ?_ m0 ⟨σ,H,I,w0⟩);rintro n s1 ⟨jn,H1,I1,w1⟩;refine zi hp (fW (hc ψ s1 jn H1 _ I1 (turn n jn H1 w1)) ?_);rintro b s2 ⟨H2,I2,q2⟩;cases b with
 |true =>
  let⟨N,hN,q2⟩:=q2;rw[if_pos rfl];refine zi hp (fW (hb ψ s2 jn H2 _ I2 q2) λf s3 q3=>?_);cases f with
  |next =>
   let⟨jb,H3,I3,n3⟩:=q3;let⟨m',hm,w3⟩:=hN jb H3 n3;exact⟨m',hm,jb,H3,I3,w3⟩
  |cont =>
   let⟨jb,H3,I3,n3⟩:=q3;let⟨m',hm,w3⟩:=hN jb H3 n3;exact⟨m',hm,jb,H3,I3,w3⟩
  |brk=>exact q3
  |ret v=>exact q3
 |false =>
  rw[if_neg qg];exact By ⟨jn,H2,I2,q2⟩
end
structure It where
 go:Nat->Hp->Prop
 Al:Nat->Hp->V->Hp->Prop
 stop:Nat->Hp->Prop
abbrev km(X:Cx)(ψ:List (bx×Obj))(H:Hp)(b:bx):Prop :=
 H b=au/\b≠X.env.locals/\b∉X.fs/\(b∈X.ex∨X.ai.heap.objs.size<=b)/\(∀x c,X.env.cells.lookup x=aj c->c≠b)/\∀p∈X.pn++ψ,p.1≠b
variable{s:dg}
def Inv.mf(I:Inv X ψ σ H s)(hb:s.heap.objs.size<=b)(hn:H' b=au):km X ψ H' b:=by
 refine⟨hn,zb (ju I.lt hb),I.aWX hb,.inr (qd I.sz hb),λx c e z=>?_,λp hp z=>?_⟩
 .obtain⟨v,q⟩:=I.cell x c e;exact absurd (ju q.lt (by rw[z];exact hb)) (vg _)
 .exact absurd (ju (gk (I.pin p hp).1) (by rw[z];exact hb)) (vg _)
structure Turn(cm:Bool)(tl:List (bx×List V))(P:lg)(w:ji)(K:jc)(tg:je)(J:It)(fp:List bx)(it:bx)(tn:Nat->kh->Prop):Prop where
 mem:it∈fp
 obj:∀i h,tn i h->∀b∈fp,∃o,h.get? b=aj o/\∀v,o.data≠.cell v
 keep:∀i h h',tn i h->(∀b∈fp,∀o,h.get? b=aj o->h'.get? b=aj o)->tn i h'
 item:∀(X:Cx),X.prog=P->X.w=w->X.K=K->(cm=ak->X.calm=ak)->(∀p∈tl,p∈X.tp)->∀(i:Nat)(ψ:List (bx×Obj))(s:dg)(σ:St)(H:Hp)(E:bh->dg->Prop),Inv X ψ σ H s->(∀b∈fp,km X ψ H b)->tn i s.heap->J.go i H ->
  dj (dz P w) X.A (eW (.ref it)) (λr s1=>∃u,r=aj u /\
   dj (dz P w) X.A (DH tg (.ref it) u) (λ_ s2=>∃x H',Inv X ψ σ H' s2/\RelV x u/\J.Al i H x H'/\tn (i+1) s2.heap/\∀b∈fp,H' b=au) E s1) E s
 done:∀(X:Cx),X.prog=P->X.w=w->X.K=K->(cm=ak->X.calm=ak)->(∀p∈tl,p∈X.tp)->∀(i:Nat)(ψ:List (bx×Obj))(s:dg)(σ:St)(H:Hp)(E:bh->dg->Prop),Inv X ψ σ H s->(∀b∈fp,km X ψ H b)->tn i s.heap->J.stop i H ->
  dj (dz P w) X.A (eW (.ref it)) (λr s1=>r=au/\Inv X ψ σ H s1) E s
 self:∀(A:lu)(i:Nat)(s:dg)(Q:bh->dg->Prop)(E:bh->dg->Prop),tn i s.heap->Q (.ref it) s->dj (dz P w) A (pyIter (.ref it)) Q E s
@[simp]def TI:=St->Hp->(It->Hp->Prop)->Prop
abbrev M0(X:Cx)(ψ:List (bx×Obj))(σ:St)(tg:je)(R:It->Hp->Prop)(Ih:bh)(s2:dg):Prop :=
 ∃(it:bx)(fp:List bx)(tn:Nat->kh->Prop)(J:It)(H':Hp),Ih=.ref it/\Inv X ψ σ H' s2/\Turn X.calm X.tp X.prog X.w X.K tg J fp it tn/\tn 0 s2.heap/\(∀b∈fp,km X ψ H' b)/\R J H'
abbrev PI(X:Cx)(tg iter:je)(wi:TI):Prop :=
 ∀(ψ:List (bx×Obj))(s:dg)(σ:St)(H:Hp)(R:It->Hp->Prop),Inv X ψ σ H s->wi σ H R ->
  dj (dz X.prog X.w) X.A (eval iter X.env) (λv s1=>dj (dz X.prog X.w) X.A (pyIter v) (M0 X ψ σ tg R) X.xe s1) X.xe s
def CJ{n:String}(ho:s.heap.get? it=aj o)(hc:o.cls=.type n)(hd:o.data=.fields vs)
  (hn:["enumerate","zip","dict_itemiterator","dict_reverseitemiterator","odict_iterator","itertools.zip_longest","itertools.pairwise"].contains n=ao)(hQ:Q () s):dj M A (DH tg (.ref it) u) Q E s:=by
 unfold DH
 cases tg<;>first
  |exact cu hQ
  |(cases u<;>first
    |exact cu hQ
    |(refine aq (wpAny_load ho ?_)
      rw[hc,hd];show dj M A (if(["enumerate","zip","dict_itemiterator","dict_reverseitemiterator","odict_iterator","itertools.zip_longest","itertools.pairwise"].contains n&&vs[0]?==aj (fA _))=ak then _ else _) Q E s;rw[if_neg (by intro h;rw[hn,GW]at h;cases h)];exact cu hQ))
abbrev M5(K:jc)(a:bx):It :=
 ⟨λi H=>∃xs x,cS K H a xs/\xs[i]?=aj x,λi H x H'=>H'=H/\∀xs,cS K H a xs->xs[i]?=aj x,λi H=>∃xs,cS K H a xs/\xs.length<=i⟩
abbrev M4(K:jc)(a:bx):It :=
 ⟨λi H=>∃xs x,br K H a xs/\xs[i]?=aj x,λi H x H'=>H'=H/\∀xs,br K H a xs->xs[i]?=aj x,λi H=>∃xs,br K H a xs/\xs.length<=i⟩
abbrev DW(lo:Int)(n:Nat):It:=⟨λi _=>i<n,λi H x H'=>H'=H/\x=.int (lo+i),λi _=>n<=i⟩
def Q8{w:ji}{K:jc}(a it:bx):Turn cm tl P w K tg (M5 K a) [it] it (λi h=>h.IsListIter it a i) where
 mem:=by simp
 obj:=λi h st b hb=>by
  have e:b=it:=by simpa using hb
  subst e;let⟨o,e,c,d⟩:=st;exact⟨o,e,λv z=>by rw[d]at z;cases z⟩
 keep:=λi h h' st k=>st.at λo e=>k it (by simp) o e
 item:=by
  intro X hP hw hK hc ht i ψ s σ H E I hf st hg;subst hP hw hK;let⟨xs,x,hq,hx⟩:=hg;let⟨its,rv,p,hz⟩:=I.list hq;let⟨u,hu,ru⟩:=rv.get hx;let⟨f0,f1,f2,f3,f4,f5⟩:=hf it (by simp);refine wpAny_pyNext_list_item st p.isList (x:=u) (by simpa using hu) λh' fm sb=>?_;have I1:Inv X ψ σ H {s with heap:=h' }:=I.turned (t':=s.toks) (λb o hb e=>(sb.2 b hb).trans e) f0 f1 f3 f4 f5;let⟨o,e,c,d⟩:=id fm;exact⟨u,rfl,CJ (s:={s with heap:=h' }) e c d (by decide) ⟨x,H,I1,ru,⟨rfl,λys hy=>by rw[I.aAB hy hq];exact hx⟩,fm,λb hb=>(hf b hb).1⟩⟩
 done:=by
  intro X hP hw hK hc ht i ψ s σ H E I hf st hg;subst hP hw hK;let⟨xs,hq,hx⟩:=hg;let⟨its,rv,p,hz⟩:=I.list hq;let⟨f0,f1,f2,f3,f4,f5⟩:=hf it (by simp);have hl:=rv.length;exact Yw (I.dy.heap I.aa) st p.isList (by simp;omega) λh' eb=>⟨rfl,I.turned (t':=s.toks) (λb o hb e=>eb b o hb e) f0 f1 f3 f4 f5⟩
 self:=λ_ _ _ _ _ st h=>wpAny_pyIter_listiter st h
def RE{w:ji}{K:jc}(a it:bx):Turn cm tl P w K tg (M4 K a) [it] it (λi h=>h.IsTupleIter it a i) where
 mem:=by simp
 obj:=λi h st b hb=>by
  have e:b=it:=by simpa using hb
  subst e;let⟨o,e,c,d⟩:=st;exact⟨o,e,λv z=>by rw[d]at z;cases z⟩
 keep:=λi h h' st k=>st.at λo e=>k it (by simp) o e
 item:=by
  intro X hP hw hK hc ht i ψ s σ H E I hf st hg;subst hP hw hK;let⟨xs,x,hq,hx⟩:=hg;let⟨its,rv,p,hz⟩:=I.tuple hq;let⟨u,hu,ru⟩:=rv.get hx;let⟨f0,f1,f2,f3,f4,f5⟩:=hf it (by simp);refine wpAny_pyNext_tuple_item st (show s.heap.IsTuple a its.toArray from p) (x:=u) (by simpa using hu) λh' fm sb=>?_;have I1:Inv X ψ σ H {s with heap:=h' }:=I.turned (t':=s.toks) (λb o hb e=>(sb.2 b hb).trans e) f0 f1 f3 f4 f5;let⟨o,e,c,d⟩:=id fm;exact⟨u,rfl,CJ (s:={s with heap:=h' }) e c d (by decide) ⟨x,H,I1,ru,⟨rfl,λys hy=>by rw[I.KI hy hq];exact hx⟩,fm,λb hb=>(hf b hb).1⟩⟩
 done:=by
  intro X hP hw hK hc ht i ψ s σ H E I hf st hg;subst hP hw hK;let⟨xs,hq,hx⟩:=hg;let⟨its,rv,p,hz⟩:=I.tuple hq;let⟨f0,f1,f2,f3,f4,f5⟩:=hf it (by simp);have hl:=rv.length;exact aA5 (I.dy.heap I.aa) st (show s.heap.IsTuple a its.toArray from p) (by simp;omega) λh' eb=>⟨rfl,I.turned (t':=s.toks) (λb o hb e=>eb b o hb e) f0 f1 f3 f4 f5⟩
 self:=λ_ _ _ _ _ st h=>wpAny_pyIter_tupleiter st h
def ZG{w:ji}{K:jc}(it:bx)(lo:Int)(n:Nat):Turn cm tl P w K tg (DW lo n) [it] it (λi h=>IsRangeIter h it (lo+(i:Nat)*1) ((n:Int) - (i:Nat)) 1) where
 mem:=by simp
 obj:=λi h st b hb=>by
  have e:b=it:=by simpa using hb
  subst e
  exact⟨_,st,λv z=>by
   have z':Data.fields _=Data.cell v:=z;cases z'⟩
 keep:=λi h h' st k=>k it (by simp) _ st
 item:=by
  intro X hP hw hK hc ht i ψ s σ H E I hf st hg;subst hP hw hK;let⟨f0,f1,f2,f3,f4,f5⟩:=hf it (by simp);have hi:i<n:=hg;refine wpAny_pyNext_range_item st ⋯ λh' fm kk=>?_;have I1:Inv X ψ σ H {s with heap:=h',toks:=s.toks+1}:=I.turned (λb o hb e=>(kk.2 b hb).trans e) f0 f1 f3 f4 f5
  have pV:IsRangeIter h' it (lo+((i+1:Nat):Int)*1) ((n:Int) - ((i+1:Nat):Int)) 1:=by
   have e1:lo+((i:Nat):Int)*1+1=lo+((i+1:Nat):Int)*1:=by omega
   have e2:(n:Int) - ((i:Nat):Int) - 1=(n:Int) - ((i+1:Nat):Int):=by omega
   rw[←e1,←e2];exact fm
  refine⟨_,rfl,CJ (s:={s with heap:=h',toks:=s.toks+1}) (n:="range_iterator") pV rfl rfl (by decide) ⟨.int (lo+i),H,I1,⟨s.toks,?_⟩,⟨rfl,rfl⟩,pV,λb hb=>(hf b hb).1⟩⟩;rw[Int.mul_one]
 done:=by
  intro X hP hw hK hc ht i ψ s σ H E I hf st hg;subst hP hw hK;let⟨f0,f1,f2,f3,f4,f5⟩:=hf it (by simp);exact aA6 (I.dy.heap I.aa) st (by have:n<=i:=hg;omega) λh' eb=>⟨rfl,I.turned (t':=s.toks) (λb o hb e=>eb b o hb e) f0 f1 f3 f4 f5⟩
 self:=λ_ _ _ _ _ st h=>wpAny_pyIter_rangeiter st h
end
section
section
variable{X:Cx}
def aAF{s:dg}{lo hi:Int}{t v:Tok}{tk:Nat}(I:Inv X ψ σ H s)(h1:-(2^62)<=lo)(h2:lo<2^62)(h3:-(2^62)<=hi)(h4:hi<2^62)
  (q:R (DW lo (hi - lo).toNat) H):dj (dz X.prog X.w) X.A (pyIter (.ref s.heap.objs.size)) (M0 X ψ σ tg R) E {s with heap:=s.heap.push {cls:=.type "range",data:=.fields #[.int lo t,.int hi u,.int 1 v]},toks:=tk}:=by
 refine wpAny_pyIter_range (IsRange.new ..) (small_one h1 h2 h3 h4) ?_;have I1:Inv X ψ σ H {s with heap:=s.heap.push {cls:=.type "range",data:=.fields #[.int lo t,.int hi u,.int 1 v]},toks:=tk}:=I.kept λb o e=>cj _ e
 refine⟨(s.heap.push {cls:=.type "range",data:=.fields #[.int lo t,.int hi u,.int 1 v]}).objs.size,[(s.heap.push {cls:=.type "range",data:=.fields #[.int lo t,.int hi u,.int 1 v]}).objs.size],_,_,H,rfl,
  I1.kept (t':=tk) λb o e=>cj _ e,ZG _ lo (hi - lo).toNat,?_,λb hb=>?_,q⟩
 .have e1:lo+((0:Nat):Int)*1=lo:=by simp
  have e2:(((hi - lo).toNat:Nat):Int) - ((0:Nat):Int)=Builtin.Range.rangeSize lo hi 1:=by rw[rangeSize_one];split<;>omega
  show IsRangeIter _ _ (lo+((0:Nat):Int)*1) ((((hi - lo).toNat:Nat):Int) - ((0:Nat):Int)) 1;rw[e1,e2];exact ig _ rfl
 .have e:b=(s.heap.push {cls:=.type "range",data:=.fields #[.int lo t,.int hi u,.int 1 v]}).objs.size:=by simpa using hb
  subst e;exact I1.mf (fj _) (I1.aa.fresh (fj _))
abbrev aSH(ta:TA):TI:=λσ H R=>ta σ H λvs H1=>∃j:Int,vs=[.int j]/\-(2^62)<=j/\j<2^62/\R (DW 0 j.toNat) H1
def Q7(hg:Gl X "range")(hm:X.mg "range"=au)(ha:PA X [a] ta)(hs:jg [a] X.env=[(ao,eval a X.env)]:=by rfl):PI X tg (.Call (.Name "range" p) [a] [] pos) (aSH ta):=by
 intro ψ s σ H R I h;refine Call_ (Bh I hg hm boot_range (PyProof.Rows.callWith_type1 (fW (ha pos ψ s σ H _ I h) ?_) hs rfl));rintro us s1 ⟨vs,H1,I1,r1,q1⟩;let⟨j,e,q1,q2,q⟩:=q1;subst e;cases r1 with
 |cons r rr =>
  cases rr;let⟨t,rfl⟩:=r;exact call_range_1 (aAF I1 ⋯ ⋯ q1 q2 (by simpa using q))
abbrev aX8(wi:TI)(g:TG)(tb:TS):TS:=λD σ H=>wi σ H λJ H1=>∃W:Nat->Nat->St->Hp->Prop,(∃m,W 0 m σ H1)/\∀i m σ H,W i m σ H ->
 (J.stop i H/\D.nx σ H)∨(J.go i H/\∃N:St->Hp->Prop,(∀av H',N av H'->∃m',m'<m/\W (i+1) m' av H')/\∀x H',J.Al i H x H'->g x σ H' λbb H2=>tb {D with nx:=N,ct:=N,bk:=D.nx} bb H2)
abbrev Bg(fp:List bx)(h:kh):List (bx×Obj):=fp.filterMap λb=>(h.get? b).map λo=>(b,o)
def Ht(hb:b∈fp)(e:h.get? b=aj o):(b,o)∈Bg fp h:=GS.mpr ⟨b,hb,by rw[e];rfl⟩
def Yp{p:bx×Obj}(hp:p∈Bg fp h):p.1∈fp/\h.get? p.1=aj p.2:=by
 let⟨b,hb,e⟩:=GS.mp hp;cases q:h.get? b with
 |none=>rw[q]at e;cases e
 |some o =>
  rw[q]at e;have e':(b,o)=p:=jt.inj e;subst e';exact⟨hb,q⟩
def Inv.pinned{s:dg}(I:Inv X ψ σ H s)(hf:∀b∈fp,km X ψ H b)(ho:∀b∈fp,∃o,s.heap.get? b=aj o/\∀v,o.data≠.cell v):Inv X (ψ++Bg fp s.heap) σ H s :=
 I.Pt λp hp=>(yp.mp hp).elim (λz=>I.pin p (uo _ z)) λz=>by
  let⟨hb,e⟩:=Yp z;let⟨f0,f1,f2,_⟩:=hf p.1 hb;let⟨o,e',d⟩:=ho p.1 hb;rw[e]at e';cases e';exact⟨e,f0,f1,f2,d⟩
def Inv.Gx(I:Inv X (ψ++pl) σ H s):Inv X ψ σ H s:=I.Pt λp hp=>I.pin p (uo _ (Mw _ hp))
private theorem Ug{g:TG}(hp:vS (dz X.prog X.w) X.A X.env X.xe)(hi:PI X tg iter wi)(hg:PG X tg g)(hb:iq X body tb)
  (hs:∀x,DP iter X.env x=pure x:=by intro _;rfl):PS X (.For tg iter body [] pos) (aX8 wi g tb):=by
 intro ψ s σ H D I h;refine wpAny_For (fW (hi ψ s σ H _ I h) λv s1 h1=>fW h1 λIh s2 h2=>?_) hs;let⟨it,fp,tn,J,H2,e,I2,T,pV,f2,W,⟨m0,w0⟩,turn⟩:=h2;subst e;have zI:∀{H':Hp},(∀b∈fp,H' b=au)->∀b∈fp,km X ψ H' b:=λhn b hb=>⟨hn b hb,(f2 b hb).2⟩;refine codeAny_forLoop_any (λn s'=>∃i av H',Inv X ψ av H' s'/\tn i s'.heap/\(∀b∈fp,H' b=au)/\W i n av H') ?_ m0 ⟨0,σ,H2,I2,pV,λb hb=>(f2 b hb).1,w0⟩;rintro n s3 ⟨i,jb,H3,I3,Nq,Ol,w3⟩;rcases turn i n jb H3 w3 with⟨stop,qn⟩|⟨go,N,hN,step⟩
 .refine zi hp (fW (T.done X rfl rfl rfl (λh=>h) (λ_ h=>h) i ψ s3 jb H3 X.xe I3 (zI Ol) Nq stop) ?_);rintro r s4 ⟨hr,I4⟩;subst hr;exact By ⟨jb,H3,I4,qn⟩
 .refine zi hp (fW (T.item X rfl rfl rfl (λh=>h) (λ_ h=>h) i ψ s3 jb H3 X.xe I3 (zI Ol) Nq go) ?_);rintro r s4 ⟨u,hr,h4⟩;subst hr;refine zi hp (fW h4 λ_ s5 ⟨x,H5,I5,r5,y5,HI,Xo⟩=>?_);have I5':=I5.pinned (zI Xo) (T.obj _ _ HI);refine zi hp (fW (hg _ s5 jb H5 x u _ I5' r5 (step x H5 y5)) λ_ s6 ⟨VZ,H6,I6,q6⟩=>?_);refine zi hp (fW (hb _ s6 VZ H6 _ I6 q6) λf s7 q7=>?_)
  have again:∀{lx:St}{H7:Hp},Inv X (ψ++Bg fp s5.heap) lx H7 s7->N lx H7->∃m,m<n/\∃i av H',Inv X ψ av H' s7/\tn i s7.heap/\(∀b∈fp,H' b=au)/\W i m av H':=λ{lx H7} I7 n7=>by
   let⟨m',hm,w7⟩:=hN lx H7 n7;refine⟨m',hm,i+1,lx,H7,I7.Gx,T.keep _ _ _ HI λb hb o e=>(I7.pin (b,o) (uo _ (uo _ (Ht hb e)))).1,λb hb=>?_,w7⟩;let⟨o,e,d⟩:=T.obj _ _ HI b hb;exact(I7.pin (b,o) (uo _ (uo _ (Ht hb e)))).2.1
  cases f with
  |next=>let⟨lx,H7,I7,n7⟩:=q7;exact again I7 n7
  |cont=>let⟨lx,H7,I7,n7⟩:=q7;exact again I7 n7
  |brk=>let⟨lx,H7,I7,q7⟩:=q7;exact⟨lx,H7,I7.Gx,q7⟩
  |ret v=>let⟨x7,lx,H7,I7,r7,q7⟩:=q7;exact⟨x7,lx,H7,I7.Gx,r7,q7⟩
end
end
section
@[simp]def R2:=V->V->Hp->VK->Prop
abbrev bu(X:Cx)(f:bh->bh->Sem bh)(r:R2):Prop :=
 ∀(ψ:List (bx×Obj))(s:dg)(σ:St)(H:Hp)(x y:V)(v u:bh)(Q:VK),Inv X ψ σ H s->RelV x v->RelV y u->r x y H Q ->
  dj (dz X.prog X.w) X.A (f v u) (EP X ψ σ Q) X.xe s
abbrev MY(X:Cx)(f:bh->Sem bh)(r:V->Hp->VK->Prop):Prop :=
 ∀(ψ:List (bx×Obj))(s:dg)(σ:St)(H:Hp)(x:V)(v:bh)(Q:VK),Inv X ψ σ H s->RelV x v->r x H Q ->
  dj (dz X.prog X.w) X.A (f v) (EP X ψ σ Q) X.xe s
abbrev pv(X:Cx)(f:bh)(r:List V->Hp->VK->Prop):Prop :=
 ∀(ψ:List (bx×Obj))(s:dg)(σ:St)(H:Hp)(xs:List V)(us:List bh)(Q:VK),Inv X ψ σ H s->Vals xs us->r xs H Q ->
  dj (dz X.prog X.w) X.A (call f us) (EP X ψ σ Q) X.xe s
abbrev Ao(r:R2)(ta tb:TE):TE:=λσ H Q=>ta σ H λx H1=>tb σ H1 λy H2=>r x y H2 Q
abbrev Wa(r:V->Hp->VK->Prop)(ta:TE):TE:=λσ H Q=>ta σ H λx H1=>r x H1 Q
abbrev rI(C:Int->Int->Prop)(g:Int->Int->V):R2:=λx y H Q=>∃i j,x=.int i/\y=.int j/\C i j/\Q (g i j) H
abbrev oi(g:Int->Int->V):R2:=λx y H Q=>∃i j,x=.int i/\y=.int j/\Q (g i j) H
abbrev rU(g:Int->V):V->Hp->VK->Prop:=λx H Q=>∃i,x=.int i/\Q (g i) H
variable{r:R2}
section
variable{X:Cx}{a b:je}{ta tb:TE}{pos:Pos}
def Ll(ha:PE X a ta)(hb:PE X b tb){s:dg}{σ:St}{H:Hp}{R:V->V->Hp->Prop}(I:Inv X ψ σ H s)
  (h:ta σ H λx H1=>tb σ H1 λy H2=>R x y H2){Q:bh->dg->Prop}{f:bh->bh->Sem bh}
  (hf:∀v u s2 x y H2,Inv X ψ σ H2 s2->RelV x v->RelV y u->R x y H2->dj (dz X.prog X.w) X.A (f v u) Q X.xe s2) :
  dj (dz X.prog X.w) X.A (eval a X.env) (λv af=>dj (dz X.prog X.w) X.A (eval b X.env) (λu fR=>dj (dz X.prog X.w) X.A (f v u) Q X.xe fR) X.xe af) X.xe s:=by
 refine fW (ha ψ s σ H _ I h) ?_;rintro v s1 ⟨x,H1,I1,r1,q1⟩;refine fW (hb ψ s1 σ H1 _ I1 q1) ?_;rintro u s2 ⟨y,H2,I2,r2,q2⟩;exact hf v u s2 x y H2 I2 r1 r2 q2
def aSI(ho:bu X (yj op) r)(ha:PE X a ta)(hb:PE X b tb):PE X (.BinOp a op b pos) (Ao r ta tb):=by
 intro ψ s σ H Q I h;exact wpAny_BinOp (Ll ha hb I h λv u s2 x y H2 I2 rx ry q=>ho ψ s2 σ H2 x y v u Q I2 rx ry q)
def aSJ{r:V->Hp->VK->Prop}(ho:MY X (unaryOp op) r)(ha:PE X a ta):PE X (.UnaryOp op a pos) (Wa r ta):=by
 intro ψ s σ H Q I h;exact UnaryOp_ (fW (ha ψ s σ H _ I h) (by rintro v s1 ⟨x,H1,I1,r1,q1⟩;exact ho ψ s1 σ H1 x v Q I1 r1 q1))
def HW{g:Int->Int->Int}
  (rule:∀(i j:Int)(t u:Tok)(s:dg)(Q:bh->dg->Prop)(E:bh->dg->Prop),C i j->Q (.int (g i j) s.toks) {s with toks:=s.toks+1}->dj (dz X.prog X.w) X.A (f (.int i t) (.int j u)) Q E s) :
  bu X f (rI C λi j=>.int (g i j)):=by
 intro ψ s σ H x y v u Q I rx ry h;let⟨i,j,rfl,rfl,hc,q⟩:=h;let⟨t,rfl⟩:=rx;let⟨t',rfl⟩:=ry;exact rule i j t t' s _ _ hc ⟨.int (g i j),H,I.tok _,⟨_,rfl⟩,q⟩
def Ss{g:Int->Int->Int}
  (rule:∀(i j:Int)(t u:Tok)(s:dg)(Q:bh->dg->Prop)(E:bh->dg->Prop),Q (.int (g i j) s.toks) {s with toks:=s.toks+1}->dj (dz X.prog X.w) X.A (f (.int i t) (.int j u)) Q E s) :
  bu X f (oi λi j=>.int (g i j)):=by
 intro ψ s σ H x y v u Q I rx ry h;let⟨i,j,rfl,rfl,q⟩:=h;let⟨t,rfl⟩:=rx;let⟨t',rfl⟩:=ry;exact rule i j t t' s _ _ ⟨.int (g i j),H,I.tok _,⟨_,rfl⟩,q⟩
def Ga{g:Int->Int->Bool}
  (rule:∀(i j:Int)(t u:Tok)(s:dg)(Q:bh->dg->Prop)(E:bh->dg->Prop),Q (.bool (g i j)) s->dj (dz X.prog X.w) X.A (f (.int i t) (.int j u)) Q E s) :
  bu X f (oi λi j=>.bl (g i j)):=by
 intro ψ s σ H x y v u Q I rx ry h;let⟨i,j,rfl,rfl,q⟩:=h;let⟨t,rfl⟩:=rx;let⟨t',rfl⟩:=ry;exact rule i j t t' s _ _ ⟨.bl (g i j),H,I,rfl,q⟩
abbrev Lk(i j:Int):Prop:=0<j/\j<1073741824
abbrev Dd(i j:Int):Prop:=(-(2^64)<i/\i<2^64)∨(-(2^64)<j/\j<2^64)
def Dd.ok{i j:Int}(h:Dd i j):IntMulOk i j:=by
 rcases h with⟨h1,h2⟩|⟨h1,h2⟩
 .exact .of_left (intBits_le_64 h1 h2)
 .exact .of_right (intBits_le_64 h1 h2)
def aMN:bu X (yj .Add) (oi λi j=>.int (i+j)):=Ss λ_ _ _ _ _ _ _ q=>add_int q
def aMO:bu X (yj .Sub) (oi λi j=>.int (i - j)):=Ss λ_ _ _ _ _ _ _ q=>sub_int q
def aMP:bu X (yj .Mult) (rI Dd λi j=>.int (i*j)):=HW λ_ _ _ _ _ _ _ hc q=>mul_int q hc.ok
def aGN:bu X (yj .FloorDiv) (rI Lk λi j=>.int (i / j)):=HW λi j _ _ _ _ _ hc q=>by
 have h1:(0:Int)<j:=hc.1;have h2:j<1073741824:=hc.2;exact floordiv_int ⋯ (by rw[Int.fdiv_eq_ediv_of_nonneg i ⋯];exact q) (.inl (PyProof.noPylong_small ⋯))
def aMQ:bu X (yj .Mod) (rI (λ_ j=>0<j) λi j=>.int (i%j)):=HW λi j _ _ _ _ _ hc q=>by
 have h1:(0:Int)<j:=hc;exact mod_int' ⋯ (by rw[Int.fmod_eq_emod_of_nonneg i ⋯];exact q)
def V8{g:Int->Int}
  (rule:∀(i:Int)(t:Tok)(s:dg)(Q:bh->dg->Prop)(E:bh->dg->Prop),Q (.int (g i) s.toks) {s with toks:=s.toks+1}->dj (dz X.prog X.w) X.A (f (.int i t)) Q E s) :
  MY X f (rU λi=>.int (g i)):=by
 intro ψ s σ H x v Q I rx h;let⟨i,rfl,q⟩:=h;let⟨t,rfl⟩:=rx;exact rule i t s _ _ ⟨.int (g i),H,I.tok _,⟨_,rfl⟩,q⟩
def aMR:MY X (unaryOp .USub) (rU λi=>.int (-i)):=V8 λ_ _ _ _ _ q=>neg_int q
end
variable{x:V}
section
variable{X:Cx}{b c:je}{ta tb tc:TE}{pos:Pos}
def aMS{Q:VK}{k k':Bool}(I:Inv X ψ σ H s)(q:Q (.bl k) H)(e:k=k'):EP X ψ σ Q (.bool k') s:=by
 subst e;exact⟨.bl k,H,I,rfl,q⟩
def aSL:bu X (nj .Lt) (oi λi j=>.bl (decide (i<j))):=Ga λ_ _ _ _ _ _ _ q=>lt_int q
def aSM:bu X (nj .LtE) (oi λi j=>.bl (decide (i<=j))):=Ga λ_ _ _ _ _ _ _ q=>le_int q
def aSN:bu X (nj .Gt) (oi λi j=>.bl (decide (j<i))):=Ga λ_ _ _ _ _ _ _ q=>gt_int q
def aSO:bu X (nj .GtE) (oi λi j=>.bl (decide (j<=i))):=Ga λ_ _ _ _ _ _ _ q=>ge_int q
def akO:bu X (nj .NotIn) (λx y H Q=>∃i j,x=.str i/\y=.str j/\Q (.bl (!(!(Builtin.Str.occurrences j i 0 j.length 1).isEmpty))) H):=by
 intro ψ s σ H x y v u Q I rx ry h;let⟨i,j,rfl,rfl,q⟩:=h;let⟨t,rfl⟩:=rx;let⟨t',rfl⟩:=ry;exact notIn_str (aMS I q rfl)
def bu.or(h:bu X f r)(h':bu X f r'):bu X f (λx y H Q=>r x y H Q∨r' x y H Q):=by
 intro ψ s σ H x y v u Q I rx ry q;rcases q with q|q
 .exact h ψ s σ H x y v u Q I rx ry q
 .exact h' ψ s σ H x y v u Q I rx ry q
def aXC(b:je)(h:op≠.In:=by decide)(h2:op≠.NotIn:=by decide):Bu op b=ao:=by
 have e1:(op==CmpOp.In)=ao:=by cases op<;>first|rfl|exact absurd rfl h
 have e2:(op==CmpOp.NotIn)=ao:=by cases op<;>first|rfl|exact absurd rfl h2
 cases b<;>simp[Bu,e1,e2]
def aGO(ho:bu X (nj op) r)(ha:PE X a ta)(hb:PE X b tb)(hm:Bu op b=ao):PE X (.Compare a [op] [b] pos) (Ao r ta tb):=by
 intro ψ s σ H Q I h;exact wpAny_Compare1 (Ll ha hb I h λv u s2 x y H2 I2 rx ry q=>ho ψ s2 σ H2 x y v u Q I2 rx ry q) hm
abbrev LQ(t:TE):TT:=λσ H Q=>t σ H λx H'=>∃k,x=.bl k/\Q k H'
def aGP(ho:bu X (nj op) r)(ha:PE X a ta)(hb:PE X b tb)(hm:Bu op b=ao):PT X (.Compare a [op] [b] pos) (LQ (Ao r ta tb)):=by
 intro ψ s σ H Q I h
 refine wpAny_isTrue_Compare1 (fW (ha ψ s σ H _ I h) λv s1 ⟨x,H1,I1,r1,q1⟩=>fW (hb ψ s1 σ H1 _ I1 q1) λu s2 ⟨y,H2,I2,r2,q2⟩ =>
  fW (ho ψ s2 σ H2 x y v u _ I2 r1 r2 q2) λc s3 ⟨z,H3,I3,r3,k,e,q3⟩=>?_) hm
 subst e;cases r3;exact yd ⟨H3,I3,q3⟩
abbrev Jl(r r':R2)(ta tb tc:TE):TE:=λσ H Q=>ta σ H λx H1=>tb σ H1 λy H2=>r x y H2 λz H3=>∃k,z=.bl k /\
 (if k=ak then tc σ H3 λw' H4=>r' y w' H4 Q else Q (.bl ao) H3)
def aAJ(ho:bu X (nj op) r)(bq:bu X (nj lL) r')(ha:PE X a ta)(hb:PE X b tb)(hc:PE X c tc)
  (hm:lastMarks [op,lL] [b,c]=ao:=by with_unfolding_all rfl):PE X (.Compare a [op,lL] [b,c] pos) (Jl r r' ta tb tc):=by
 intro ψ s σ H Q I h
 refine Compare_chain (fW (ha ψ s σ H _ I h) λv s1 ⟨x,H1,I1,r1,q1⟩=>chain_link (fW (hb ψ s1 σ H1 _ I1 q1) λu s2 ⟨y,H2,I2,r2,q2⟩ =>
  fW (ho ψ s2 σ H2 x y v u _ I2 r1 r2 q2) λd s3 ⟨z,H3,I3,r3,k,e,q3⟩=>?_)) hm
 subst e;cases r3;refine yd ?_;cases k with
 |false=>exact ite_ff ⟨.bl ao,H3,I3,rfl,q3⟩
 |true=>exact ite_tt (chain_last (fW (hc ψ s3 σ H3 _ I3 q3) λw' s4 ⟨z',H4,I4,r4,q4⟩=>bq ψ s4 σ H4 y z' u w' Q I4 r2 r4 q4))
def aAK(ho:bu X (nj op) r)(bq:bu X (nj lL) r')(ha:PE X a ta)(hb:PE X b tb)(hc:PE X c tc)
  (hm:lastMarks [op,lL] [b,c]=ao:=by with_unfolding_all rfl):PT X (.Compare a [op,lL] [b,c] pos) (LQ (Jl r r' ta tb tc)):=by
 intro ψ s σ H Q I h
 refine isTrue_chain (fW (ha ψ s σ H _ I h) λv s1 ⟨x,H1,I1,r1,q1⟩=>test_link (fW (hb ψ s1 σ H1 _ I1 q1) λu s2 ⟨y,H2,I2,r2,q2⟩ =>
  fW (ho ψ s2 σ H2 x y v u _ I2 r1 r2 q2) λd s3 ⟨z,H3,I3,r3,k,e,q3⟩=>?_)) hm
 subst e;cases r3;refine yd ?_;cases k with
 |false =>
  let⟨k',e',q'⟩:=q3;cases e';exact ite_ff ⟨H3,I3,q'⟩
 |true =>
  refine ite_tt (test_last (fW (hc ψ s3 σ H3 _ I3 q3) λw' s4 ⟨z',H4,I4,r4,q4⟩=>fW (bq ψ s4 σ H4 y z' u w' _ I4 r2 r4 q4) ?_));rintro d' s5 ⟨z2,H5,I5,r5,k2,e2,q5⟩;subst e2;cases r5;exact yd ⟨H5,I5,q5⟩
def C3:(dh:Nat)<2^63:=by rw[sizeLine_eq];decide
def ZF:bu X (yj .Add) (λx y H Q=>∃i j,x=.str i/\y=.str j/\i.length+j.length<=dh/\Q (.str (i++j)) H):=by
 intro ψ s σ H x y v u Q I rx ry h;let⟨i,j,rfl,rfl,hz,q⟩:=h;let⟨t,rfl⟩:=rx;let⟨t',rfl⟩:=ry;exact add_str (λt' tk=>⟨.str (i++j),H,I.tok _,⟨_,rfl⟩,q⟩) hz
def vals1(r:Vals [x] us):∃u,us=[u]/\RelV x u:=by
 cases r with
 |cons r1 r2=>cases r2;exact⟨_,rfl,r1⟩
def vals2(r:Vals [x,y] us):∃u w',us=[u,w']/\RelV x u/\RelV y w':=by
 cases r with
 |cons r1 r2 =>
  cases r2 with
  |cons r3 r4=>cases r4;exact⟨_,_,rfl,r1,r3⟩
def Yo(hc:X.calm=ak):pv X (.builtin "min") (λxs H Q=>∃i j,xs=[.int i,.int j]/\Q (.int (if j<i then j else i)) H):=by
 intro ψ s σ H xs us Q I r h;let⟨i,j,rfl,q⟩:=h;let⟨u,w',rfl,⟨t,rfl⟩,⟨t',rfl⟩⟩:=vals2 r;refine min_two_ints (I.ok.hd hc) λh' tk k=>⟨_,H,I.kept k,?_,q⟩;by_cases hj:j<i
 .rw[if_pos hj,if_pos hj];exact⟨_,rfl⟩
 .rw[if_neg hj,if_neg hj];exact⟨_,rfl⟩
def Yn:pv X (.type "int") (λxs H Q=>(∃i,xs=[.int i]/\Q (.int i) H)∨∃k,xs=[.bl k]/\Q (.int (if k then 1 else 0)) H):=by
 intro ψ s σ H xs us Q I r h;rcases h with⟨i,rfl,q⟩|⟨k,rfl,q⟩
 .obtain⟨u,rfl,t,rfl⟩:=vals1 r;exact call_int_int ⟨.int i,H,I,⟨_,rfl⟩,q⟩
 .obtain⟨u,rfl,r1⟩:=vals1 r;cases r1;exact call_int_bool ⟨.int (if k then 1 else 0),H,I.tok _,⟨_,rfl⟩,q⟩
end
end
variable{env:Env}
section
structure ye(h:kh)(x dx C:bx)(mA:Str->Option bh):Prop where
 obj:h.get? x=aj (wm C dx)
 ns:h.Ns1 dx mA
 ne:dx≠x
private theorem Ym{mA:Str->Option bh}(n:h.Ns1 dx mA):∃od,h.get? dx=aj od/\∀name,GV name od=aj (mA name):=by
 let⟨o,es,ep,ho,hd,hk,_,hm⟩:=n;refine⟨o,ho,λname=>?_⟩;have e:=hm name;unfold nsFind findBy at e;rw[←Array.find?_toList]at e;unfold GV;rw[hd];dsimp only;split
 ·rename_i y q;rw[q]at e;exact congrArg aj e
 .rename_i q;rw[q]at e
  have a:es.toList.any (·.refKey)=ao:=by
   rw[List.any_eq_false];intro y hy;let⟨z,t,bp⟩:=hk y (Array.mem_toList_iff.mp hy);simp[iX.refKey,bp]
  have a':¬ es.toList.any (·.refKey)=ak:=by rw[a];exact qg
  rw[if_neg a'];exact congrArg aj e
def ye.look{x:bx}{mA:Str->Option bh}(I:ye h x dx C mA):∃od,PySem.W.InstAt h x (wm C dx) C (aj od)/\∀name,GV name od=aj (mA name) :=
 let⟨od,ho,hl⟩:=Ym I.ns
 ⟨od,⟨I.obj,rfl,rfl,ho⟩,hl⟩
section
variable{prog:lg}{w:ji}{A:lu}{s:dg}{K:jc}{x:bx}{mA:Str->Option bh}{v:bh}
def get_map{expr:Bool}(X:K.In s.heap)(I:ye s.heap x dx C mA)(hg:Bz K C name=ak)(hh:DO K C=ak)
  (ha:jk K (.ref C) name=aj au)(hv:mA name=aj v)(WM:PySem.W.handedIn v=ak)(h:Q v {s with toks:=s.toks+1}) :
  dj (dz prog w) A (getAttr (.ref x) name expr) Q E s:=by
 let⟨od,J,hl⟩:=I.look;exact PySem.W.get_value X J (Mu hg).1 (PySem.W.findObj_own hh ha rfl (by rw[hl,hv])) WM h
def aAL(X:K.In s.heap)(I:ye s.heap x dx C mA)(hg:Bz K C name=ak)
  (hf:jk K (.ref C) name=aj (aj (.ref f)))(ht:v5 K (.ref f)=ak)(hv:mA name=au)(h:Q (.ref f,[.ref x]) s) :
  dj (dz prog w) A (getMethod (.ref x) name pl) Q E s:=by
 let⟨od,J,hl⟩:=I.look;exact PySem.W.method_fn X J (Mu hg).1 (Mu hg).2 hf (beq_iff_eq.mp ht) (by show(GV name od).map (·.isSome)=aj ao;rw[hl,hv];rfl) h
def aGQ{ns:List Str}(X:K.In s.heap)(I:ye s.heap x dx C mA)
  (hs:jk K (.ref C) "__setattr__"=aj (aj (.builtin "object.__setattr__")))(hp:GQ K C=ak)(ht:PySem.W.takerIn K C name=aj au)(hh:DO K C=ak)
  (hw:PySem.Within mA ns)(hsz:ns.length<=dh)
  (h:∀h',ye h' x dx C (λy=>if y=name then aj v else mA y)->jr dx s.heap h'->Q () {s with heap:=h',toks:=s.toks+2}) :
  dj (dz prog w) A (setAttr (.ref x) name v) Q E s:=by
 let⟨od,J,hl⟩:=I.look;refine PySem.W.set_plain X J hs (PySem.W.osa_open (s:={s with toks:=s.toks+1}) (r:=none) X J hp ht λb=>?_);let⟨cd,hc,g7⟩:=PySem.W.any_some hh;have hx:s.heap.get? x=aj ⟨.ref C,aj dx,.plain,#[]⟩:=I.obj;refine aq (cu (aq (aq (wpAny_loadPart hx (aq (vh.here (s:={s with toks:=s.toks+1}) (PySem.W.looks_clsIn X hc) ?_))))));rw[g7];refine cu (a:=some dx) (aq (cu (aq ?_)));refine wpAny_nsSet1 (s:={s with toks:=s.toks+1}) I.ns λh' EK Ay=>?_;let⟨oD,esD,epD,WT,W5,W8⟩:=EK.count (PySem.Within.cons name v hw);refine aq (wpAny_lookBehind WT (by rw[W5];exact pastItsLine_dict (qd W8 (by rw[uq];omega))) ?_);exact cu (h _ ⟨(Ay.2 _ (Ne.symm I.ne)).trans I.obj,EK,I.ne⟩ Ay)
def aAM(X:K.In s.heap)(hm:GJ K C=ak)
  (hi:jk K (.ref C) "__init__"=aj (aj (.ref f)))(hf:we K (.ref f)=aj (.type "function"))
  (h:k9 (dz prog w) (A.under (.builtin "type.__call__" ⟨.ref C::vs,kw⟩)) (.call (.ref f) ⟨.ref (s.heap.objs.size+1)::vs,kw⟩) (PySem.W.InitBack (s.heap.objs.size+1) R)
   {s with heap:=(s.heap.push yg).push (wm C s.heap.objs.size)}) :
  k9 (dz prog w) A (.call (.ref C) ⟨vs,kw⟩) R s:=by
 let⟨hh,g,d,t,os⟩:=s;exact PySem.W.make_core (PySem.W.makes_of X hm) (PySem.W.looks_findIn X hi) (λself=>PySem.W.bind_fn X self hf) (.inl rfl) h
end
abbrev fg(f:Str)(v:V):List (Str×V)->List (Str×V)
 |[]=>[(f,v)]
 |(g,x)::r=>if g=f then(g,v)::r else(g,x)::fg f v r
def R8(f g:Str)(v:V):∀fs:List (Str×V),(fg f v fs).lookup g=if g=f then aj v else fs.lookup g
 |[]=>by
  show za g [(f,v)]=_;by_cases h:g=f
  .have hb:(g==f)=ak:=beq_iff_eq.mpr h;simp only[za,hb,if_pos h]
  .have hb:(g==f)=ao:=beq_eq_false_iff_ne.mpr h;simp only[za,hb,if_neg h]
 |(k,x)::r=>by
  have ih:=R8 f g v r;rw[show fg f v ((k,x)::r)=(if k=f then(k,v)::r else(k,x)::fg f v r)from rfl];by_cases hk:k=f
  .rw[if_pos hk];by_cases h:g=k
   .have hb:(g==k)=ak:=beq_iff_eq.mpr h;simp only[za,hb,if_pos (h.trans hk)]
   .have hb:(g==k)=ao:=beq_eq_false_iff_ne.mpr h;simp only[za,hb,if_neg (λe:g=f=>h (e.trans hk.symm))]
  .rw[if_neg hk];by_cases h:g=k
   .have hb:(g==k)=ak:=beq_iff_eq.mpr h;simp only[za,hb,if_neg (λe:g=f=>hk (h.symm.trans e))]
   .have hb:(g==k)=ao:=beq_eq_false_iff_ne.mpr h;simp only[za,hb];exact ih
def KH(f:Str)(v:V):∀fs:List (Str×V),f∈(fg f v fs).map (·.1)/\∀g,g∈fs.map (·.1)->g∈(fg f v fs).map (·.1)
 |[]=>⟨by simp[fg],λg h=>by simp at h⟩
 |(k,x)::r=>by
  let⟨i1,i2⟩:=KH f v r;rw[show fg f v ((k,x)::r)=(if k=f then(k,v)::r else(k,x)::fg f v r)from rfl];by_cases hk:k=f
  .rw[if_pos hk];subst hk;exact⟨by simp,λg h=>by simpa using h⟩
  .rw[if_neg hk];refine⟨?_,λg h=>?_⟩
   .rw[kj];exact qj _ i1
   .rw[kj]at h ⊢;rcases jm.mp h with e|e
    .exact jm.mpr (.inl e)
    .exact qj _ (i2 g e)
def R7(f:Str)(v:V):∀fs:List (Str×V),(fg f v fs).length<=fs.length+1
 |[]=>by simp[fg]
 |(k,x)::r=>by
  have ih:=R7 f v r;rw[show fg f v ((k,x)::r)=(if k=f then(k,v)::r else(k,x)::fg f v r)from rfl];by_cases hk:k=f
  .rw[if_pos hk,uq,uq];omega
  .rw[if_neg hk,uq,uq];omega
variable{o:Option bh}
def fi.some_of(r:fi (aj v) o):∃u,o=aj u/\RelV v u:=by
 cases o with
 |none=>exact(show False from r).elim
 |some u=>exact⟨u,rfl,r⟩
def fi.none_of(r:fi au o):o=au:=by
 cases o with
 |none=>rfl
 |some u=>exact(show False from r).elim
def Yl(r:RelV v u):PySem.W.handedIn u=ak:=by
 cases v with
 |ae=>cases(show u=bh.none from r);rfl
 |bl b=>cases(show u=bh.bool b from r);rfl
 |int i=>let⟨t,e⟩:=(show ∃t,u=bh.int i t from r);cases e;rfl
 |str x=>let⟨t,e⟩:=(show ∃t,u=bh.str x t from r);cases e;rfl
 |E6 b=>let⟨t,e⟩:=(show ∃t,u=bh.bytes b t from r);cases e;rfl
 |E2 b=>let⟨t,e⟩:=(show ∃t,u=bh.float b t from r);cases e;rfl
 |ref a=>cases(show u=bh.ref a from r);rfl
 |ty n=>cases(show u=bh.type n from r);rfl
section
variable{w:ji}{h:kh}{fs:List (Str×V)}
def JJ(aa:bz P w H h)(e:H a=aj (.ins C dx fs)):∃mA,ye h a dx C mA/\(∀f,fi (fs.lookup f) (mA f))/\PySem.Within mA (fs.map (·.1))/\fs.length<=1000/\H dx=aj (.own a):=by
 let⟨d,z,ne,ob,mA,n,r,q⟩:=(show iZ P w H h a (.ins C dx fs)from aa a _ e);exact⟨mA,⟨ob,n,ne⟩,r,q,z,d⟩
end
structure fN(K:jc)(C:bx):Prop where
 pg:Bz K C Str.empty=ak
 hd:DO K C=ak
 po:GQ K C=ak
 sa:jk K (.ref C) "__setattr__"=aj (aj (.builtin "object.__setattr__"))
def fN.get{K:jc}(c:fN K C)(f:Str):Bz K C f=ak:=c.pg
abbrev jF(K:jc)(C:bx)(f:Str):Prop:=jk K (.ref C) f=aj au
def jF.D8{K:jc}(n:jF K C f):PySem.W.takerIn K C f=aj au:=by
 unfold PySem.W.takerIn;rw[show jk K (.ref C) f=aj au from n];rfl
structure Meth(K:jc)(C:bx)(m:Str)(f:bx):Prop where
 at_:jk K (.ref C) m=aj (aj (.ref f))
 fn:v5 K (.ref f)=ak
 kp:tu K (.ref f)=ak
section
variable{X:Cx}{ψ:List (bx×Obj)}{s:dg}{fs:List (Str×V)}{v:V}{A:lu}
def ZE{b:Bool}(I:Inv X ψ σ H s)(e:H a=aj (.ins C dx fs))(c:fN X.K C)(n:jF X.K C f)(l:fs.lookup f=aj v)
  (h:∀u s',Inv X ψ σ H s'->RelV v u->Q u s'):dj (dz X.prog X.w) A (getAttr (.ref a) f b) Q E s:=by
 let⟨mA,O,r,_,_,_⟩:=JJ I.aa e;let⟨u,hu,ru⟩:=fi.some_of (v:=v) (o:=mA f) (by rw[←l];exact r f);exact get_map I.cz O (c.get f) c.hd n hu (Yl ru) (h u _ (I.tok _) ru)
def RC{m:Str}{g:bx}(I:Inv X ψ σ H s)(e:H a=aj (.ins C dx fs))(c:fN X.K C)(k:Meth X.K C m g)(l:fs.lookup m=au)
  (h:Q (.ref g,[.ref a]) s):dj (dz X.prog X.w) A (getMethod (.ref a) m pl) Q E s:=by
 let⟨mA,O,r,_,_,_⟩:=JJ I.aa e;have hn:mA m=au:=fi.none_of (by rw[←l];exact r m);exact aAL I.cz O (c.get m) k.at_ k.fn hn h
def ZD(I:Inv X ψ σ H s)(e:H a=aj (.ins C dx fs))(c:fN X.K C)(n:jF X.K C f)(hl:fs.length<1000)(ry:RelV y u)
  (h:∀s',Inv X ψ σ (upd H a (.ins C dx (fg f y fs))) s'->Q () s'):dj (dz X.prog X.w) A (setAttr (.ref a) f u) Q E s:=by
 let⟨mA,O,r,wi,_,ho⟩:=JJ I.aa e;have hz:(fs.map (·.1)).length<=dh:=by rw[gw,sizeLine_eq];omega
 refine aGQ I.cz O c.sa c.po n.D8 c.hd wi hz λh' O' sb=>h _ ?_;have hd:∃o,h'.get? dx=aj o:=let⟨o,_,_,e',_⟩:=O'.ns;⟨o,e'⟩
 refine I.write (x:=a) (e:=dx) (by rw[e];exact True.intro) (.inr ho) (λb q hb z=>(sb.2 b hb).trans z) hd ?_;refine⟨by rw[bD O.ne];exact ho,?_,O.ne,O'.obj,_,O'.ns,λg=>?_,λg hg=>?_⟩
 .have:=R7 f y fs;omega
 .show fi ((fg f y fs).lookup g) (if g=f then aj u else mA g);rw[R8];by_cases q:g=f
  .rw[if_pos q,if_pos q];exact ry
  .rw[if_neg q,if_neg q];exact r g
 .by_cases q:g=f
  .rw[q];exact(KH f y fs).1
  .refine(KH f y fs).2 g (wi g λz=>hg ?_);show(if g=f then aj u else mA g)=au;rw[if_neg q];exact z
def Inv.made(I:Inv X ψ σ H s):Inv X ψ σ (upd (upd H s.heap.objs.size (.own (s.heap.objs.size+1))) (s.heap.objs.size+1) (.ins C s.heap.objs.size []))
  {s with heap:=(s.heap.push yg).push (wm C s.heap.objs.size)}:=by
 have e1:(s.heap.push yg).get? s.heap.objs.size=aj yg:=ig s.heap rfl
 have e2:((s.heap.push yg).push (wm C s.heap.objs.size)).get? (s.heap.objs.size+1)=aj (wm C s.heap.objs.size):=by
  have:=ig (s.heap.push yg) (o:=wm C s.heap.objs.size) rfl
  rwa [DF]at this
 have e3:(s.heap.push yg).Ns s.heap.objs.size (λ_=>au):=⟨yg,#[],_,e1,rfl,(λe he=>absurd he (by simp)),λ_=>rfl⟩;have I1:=I.laid (a:=s.heap.objs.size) (o:=.own (s.heap.objs.size+1)) (h':=s.heap.push yg) (t':=s.toks) (λb u q=>cj _ q) (fj _) ⟨_,e1⟩;refine I1.laid (a:=s.heap.objs.size+1) (o:=.ins C s.heap.objs.size []) (t':=s.toks) (λb u q=>cj _ q) (Bs (DF _ _)) ?_;have ne:s.heap.objs.size≠s.heap.objs.size+1:=jl (Nat.lt_succ_self _);refine⟨by rw[bD ne,aL],xu _,ne,e2,λ_=>au,(Heap.Ns1.of_empty e3).at λo q=>cj _ q,λ_=>True.intro,λy hy=>absurd rfl hy⟩
def aGR{prog:lg}{w:ji}{f:Str}{s:dg}(hb:uf e f env (eval e env)=eval e env)
  (h:dj (dz prog w) A (eval e env) (λo af=>dj (dz prog w) A (getAttr o f ak) Q E af) E s):dj (dz prog w) A (eval (.Attribute e f pos) env) Q E s :=
 Attribute_any_ h (by rw[arm_eval_Attribute,hb])
end
abbrev aXD(K:jc)(ta:TE)(f:Str):TE:=λσ H Q=>ta σ H λx H1=>∃a C dx fs v,x=.ref a/\H1 a=aj (.ins C dx fs)/\fN K C/\jF K C f/\fs.lookup f=aj v/\Q v H1
abbrev aXE(K:jc)(ta tv:TE)(f:Str):TS:=λD σ H=>tv σ H λy H1=>ta σ H1 λx H2=>∃a C dx fs,x=.ref a/\H2 a=aj (.ins C dx fs)/\fN K C/\jF K C f/\fs.length<1000 /\
 D.nx σ (upd H2 a (.ins C dx (fg f y fs)))
section
variable{X:Cx}{o:je}{pos:Pos}
def aMT(he:PE X e ta)(hb:uf e f X.env (eval e X.env)=eval e X.env):PE X (.Attribute e f pos) (aXD X.K ta f):=by
 intro ψ s σ H Q I h;refine aGR hb (fW (he ψ s σ H _ I h) ?_);rintro u s1 ⟨x,H1,I1,rx,a,C,dx,fs,v,ex,ea,c,n,l,q⟩;subst ex;obtain rfl:u=bh.ref a:=rx;exact ZE I1 ea c n l λu' s2 I2 ru=>⟨v,H1,I2,ru,q⟩
def aMU(ha:PE X o ta)(hv:PE X value tv)(hs:rS value (aj (.Attribute o f pos')) pos.line X.env=pure ao):PS X (.Assign [.Attribute o f pos'] value pos) (aXE X.K ta tv f):=by
 intro ψ s σ H D I h;refine plainObj_wpAny_Assign_Attribute (fW (hv ψ s σ H _ I h) λu s1 ⟨y,H1,I1,ry,q⟩=>fW (ha ψ s1 σ H1 _ I1 q) ?_) hs;rintro ov s2 ⟨x,H2,I2,rx,a,C,dx,fs,ex,ea,c,n,l,q2⟩;subst ex;obtain rfl:ov=bh.ref a:=rx;exact ZD I2 ea c n l ry λs3 I3=>⟨σ,_,I3,q2⟩
end
section
end
end
variable{mg:Str->Option bh}{base:kh}{outer:List Env}
section
structure nO(qt:Bool)(k:Nat)(A:lu):Prop where
 hd:qt=ao->A.handled=au
 dp:A.depth+3*k+5<recursionLimit
 un:A.units+16*k+200<qy
def nO.mono{j k:Nat}(r:nO qt k A)(h:j<=k):nO qt j A:=⟨r.hd,by have:=r.dp;omega,by have:=r.un;omega⟩
def nO.deeper{k:Nat}(r:nO qt (k+1) A)(env:Env):nO qt k (A.deeper env) :=
 ⟨r.hd,by have:=r.dp;show A.depth+1+3*k+5<_;omega,by have:=r.un;show A.units+3+16*k+200<_;omega⟩
def ZC:(A.under (.builtin "type.__call__" ⟨.ref C::us,kw⟩)).depth=A.depth+1:=by
 first|rfl|simp[lu.under,Code.weight,Code.isCreation,Code.isGuard,Code.isCaller,Code.frames,Code.isFrame,guardIds]
def ZB:(A.under (.builtin "type.__call__" ⟨.ref C::us,kw⟩)).units=A.units+1:=by
 first|rfl|simp[lu.under,Code.cUnits,Code.frames,Code.isFrame]
def nO.make{k:Nat}(r:nO qt (k+1) A)(C:bx)(us:List bh)(kw:List (Str×bh)):nO qt k (A.under (.builtin "type.__call__" ⟨.ref C::us,kw⟩)) :=
 ⟨r.hd,by have:=r.dp;rw[ZC];omega,by have:=r.un;rw[ZB];omega⟩
def nO.depth{k:Nat}(r:nO qt k A):A.depth<recursionLimit:=by have:=r.dp;omega
def nO.units{k:Nat}(r:nO qt k A):A.units+64<qy:=by have:=r.un;omega
abbrev aXF:TA:=λ_ H Q=>Q [] H
abbrev aSP(ta:TE)(tr:TA):TA:=λσ H Q=>ta σ H λx H1=>tr σ H1 λxs H2=>Q (x::xs) H2
section
variable{X:Cx}{t:TA}{pos:Pos}
def aMV:PA X [] aXF:=λ_ _ _ _ H Q I h=>Calls.spliced_nil ⟨[],H,I,.nil,h⟩
def aGS(ha:PE X e te)(hr:PA X es t)(hs:jg (e::es) X.env=(ao,eval e X.env)::jg es X.env:=by rfl):PA X (e::es) (aSP te t):=by
 intro pos ψ s σ H Q I h;rw[hs];show dj _ _ (spliced ((ao,eval e X.env)::uc pos (jg es X.env))) _ _ s;refine Calls.spliced_cons (fW (ha ψ s σ H _ I h) ?_);rintro u s1 ⟨x,H1,I1,r1,q1⟩;exact fW (hr pos ψ s1 σ H1 _ I1 q1) (by rintro us s2 ⟨xs,H2,I2,r2,q2⟩;exact⟨x::xs,H2,I2,.cons r1 r2,q2⟩)
abbrev aXG(t:TA):TE:=λσ H Q=>t σ H λxs H1=>xs.length<=dh/\∀p,H1 p=au->Q (.ref p) (upd H1 p (.tup xs))
abbrev aXH(t:TA):TE:=λσ H Q=>t σ H λxs H1=>xs.length<=dh/\∀p,H1 p=au->Q (.ref p) (upd H1 p (.lst xs))
def aMW{x1}(h:PA X es t):PE X (.Tuple es x1 pos) (aXG t):=by
 intro ψ s σ H Q I hq;refine wpAny_Tuple_spliced (fW (h pos ψ s σ H _ I hq) λus s1 ⟨xs,H1,I1,r,z,q⟩=>⟨by rw[←r.length];exact z,?_⟩);have hf:H1 s1.heap.objs.size=au:=I1.aa.fresh (fj _);refine⟨.ref s1.heap.objs.size,upd H1 s1.heap.objs.size (.tup xs),I1.laid (t':=s1.toks) (λb u e=>cj _ e) (fj _) ?_,rfl,q _ hf⟩;exact⟨z,us,r,⟨_,ig _ rfl,rfl,_,rfl⟩⟩
def aMX(h:PA X es t):PE X (.List es pos) (aXH t):=by
 intro ψ s σ H Q I hq;refine wpAny_List_spliced (fW (h pos ψ s σ H _ I hq) λus s1 ⟨xs,H1,I1,r,z,q⟩=>⟨by rw[←r.length];exact z,?_⟩);have hf:H1 s1.heap.objs.size=au:=I1.aa.fresh (fj _);refine⟨.ref s1.heap.objs.size,upd H1 s1.heap.objs.size (.lst xs),I1.laid (t':=s1.toks) (λb u e=>cj _ e) (fj _) ?_,rfl,q _ hf⟩;exact⟨z,us,0,r,ig _ rfl⟩
end
@[simp]def Sp:=List V->Hp->VK->XK->Prop
@[simp]def D0:=List Env->Hp->dg->XK->bh->dg->Prop
structure yb(P:lg)(w:ji)(K:jc)(mg:Str->Option bh)(base:kh)(A:lu)(outer:List Env)(s:dg)(H:Hp):Prop where
 frames:A.frames=aj outer
 mod:Mod K mg base
 bs:∀b o,base.get? b=aj o->s.heap.get? b=aj o/\H b=au
 kQ:base.objs.size<=s.heap.objs.size
 hW:s.heap.FunFrames base outer
 oC:∀b∈frs outer,H b=au
 aa:bz P w H s.heap
 bare:AllBare s.gens
 dy:w4 A H
abbrev CE(outer:List Env)(P:lg)(w:ji)(H:Hp)(s:dg)(Q:VK)(u:bh)(s':dg):Prop :=
 ∃v H',s'.os=s.os/\AllBare s'.gens/\Un (frs outer) [] H H' s.heap s'.heap/\bz P w H' s'.heap/\RelV v u/\Q v H'
abbrev CR(CX:D0)(outer:List Env)(P:lg)(w:ji)(H:Hp)(s:dg)(Q:VK)(E:XK)(r:Result)(s':dg):Prop :=
 match r with
 |.ok (.ret u)=>CE outer P w H s Q u s'
 |.ok _=>False
 |.error e=>CX outer H s E e s'
structure bQ(qt:Bool)(P:lg)(w:ji)(K:jc)(mg:Str->Option bh)(base:kh)(CX:D0)(k:Nat)(f:bx)(fd:jf)(ps:List Str)(sp:Sp):Prop where
 len:∀vs H Q E,sp vs H Q E->vs.length=ps.length
 run:∀(A:lu)(outer:List Env)(s:dg)(H:Hp)(args:Args)(us:List bh)(vs:List V)(Q:VK)(E:XK),nO qt k A->yb P w K mg base A outer s H->BindsTo s fd args (ps.zip us)->Vals vs us->sp vs H Q E ->
  k9 (dz P w) A (.call (.ref f) args) (CR CX outer P w H s Q E) s
def bQ.mono{w:ji}{K:jc}{mg:Str->Option bh}{base:kh}{j k:Nat}(F:bQ qt P w K mg base CX j f fd ps sp)(h:j<=k) :
  bQ qt P w K mg base CX k f fd ps sp:=⟨F.len,λA outer s H args us vs Q E hr=>F.run A outer s H args us vs Q E (hr.mono h)⟩
def bQ.imp{w:ji}{K:jc}{k:Nat}(F:bQ qt P w K mg base CX k f fd ps sp)
  (h:∀vs H Q E,We vs H Q E->sp vs H Q E):bQ qt P w K mg base CX k f fd ps We :=
 ⟨λvs H Q E q=>F.len vs H Q E (h _ _ _ _ q),λA outer s H args us vs Q E hr he hb hv hs=>F.run A outer s H args us vs Q E hr he hb hv (h _ _ _ _ hs)⟩
def yb.make{w:ji}{K:jc}(e:yb P w K mg base A outer s H)(C:bx)(us:List bh)(kw:List (Str×bh)) :
  yb P w K mg base (A.under (.builtin "type.__call__" ⟨.ref C::us,kw⟩)) outer s H:=⟨by first|exact e.frames|(simpa[lu.under,Code.envs,Code.isFrame,pushEnvs]using e.frames),e.mod,e.bs,e.kQ,e.hW,e.oC,e.aa,e.bare,e.dy⟩
section
variable{X:Cx}{ψ:List (bx×Obj)}
def Inv.Ai(I:Inv X ψ σ H s):yb X.prog X.w X.K X.mg X.base X.A X.stack s H :=
 ⟨I.ok.frames,I.ok.mod,I.bs,qd I.ok.kQ I.sz,I.stack,I.JL,I.aa,I.bare,I.dy⟩
end
abbrev Binds(K:jc)(fd:jf)(ps:List Str)(ds:List bh):Prop :=
 ∀(s:dg)(us:List bh),K.In s.heap->(us++ds).length=ps.length->BindsTo s fd ⟨us,[]⟩ (ps.zip (us++ds))
variable{ps:List Str}
def Binds.all{K:jc}(h:∀us:List bh,us.length=ps.length->uh fd ⟨us,[]⟩=pure (ps.zip us)):Binds K fd ps []:=λs us _ hl=>by
 rw[Bx]at hl ⊢;exact .of_eq (h us hl)
section
variable{f C:bx}
structure Mk(K:jc)(C f:bx):Prop where
 makes:GJ K C=ak
 init:jk K (.ref C) "__init__"=aj (aj (.ref f))
 fn:v5 K (.ref f)=ak
 kp:tu K (.ref C)=ak
end
section
end
structure aO(N P:List Str)(sc:zq):Prop where
 kind:sc.kind=.function
 co:sc.isCoroutine=ao
 gen:sc.isGenerator=ao
 nd:N.Nodup
 pre:N.take P.length=P
 par:∀x∈P,sc.names.lookup x=aj .local∨sc.names.lookup x=aj .cell
 aMY:∀y∈sc.names,y.2≠.free
def Q6{kindOf:Str->Option vp}{x:Str}:∀{binds:List (Str×bh)}{m:Str->Option bh},(∀v,(x,v)∉binds)->bindL kindOf binds m x=m x
 |[],_,_=>rfl
 |(n,v)::r,m,h=>by
  unfold bindL;rw[Q6 λw hw=>h w (qj _ hw)];split
  ·have:x≠n:=by rintro rfl;exact h v yw
   simp[this]
  .rfl
def Q5{kindOf:Str->Option vp}{x:Str}:∀{binds:List (Str×bh)}{m:Str->Option bh},(∀v,(x,v)∉binds)->bindC kindOf binds m x=m x
 |[],_,_=>rfl
 |(n,v)::r,m,h=>by
  unfold bindC;rw[Q5 λw hw=>h w (qj _ hw)];split
  ·rfl
  .have:x≠n:=by rintro rfl;exact h v yw
   simp[this]
def Q4{kindOf:Str->Option vp}{x:Str}{v:bh}:∀{P:List Str}{vs:List bh}{i:Nat}{m:Str->Option bh},P.Nodup->P[i]?=aj x->vs[i]?=aj v->kindOf x=aj .local ->
  bindL kindOf (P.zip vs) m x=aj v
 |[],_,_,_,_,h,_,_=>by simp at h
 |_::_,[],_,_,_,_,h,_=>by simp at h
 |p::P,w::vs,0,m,nd,h1,h2,hk=>by
  simp at h1 h2;subst h1;subst h2;show bindL kindOf ((p,w)::P.zip vs) m p=_;unfold bindL;rw[Q6 λv hv=>(yq.mp nd).1 (List.of_mem_zip hv).1,if_pos hk];simp
 |p::P,w::vs,i+1,m,nd,h1,h2,hk=>by
  show bindL kindOf ((p,w)::P.zip vs) m x=_;unfold bindL;exact Q4 (i:=i) (yq.mp nd).2 (by simpa using h1) (by simpa using h2) hk
def Q3{kindOf:Str->Option vp}{x:Str}{v:bh}:∀{P:List Str}{vs:List bh}{i:Nat}{m:Str->Option bh},P.Nodup->P[i]?=aj x->vs[i]?=aj v->kindOf x≠aj .local ->
  bindC kindOf (P.zip vs) m x=aj v
 |[],_,_,_,_,h,_,_=>by simp at h
 |_::_,[],_,_,_,_,h,_=>by simp at h
 |p::P,w::vs,0,m,nd,h1,h2,hk=>by
  simp at h1 h2;subst h1;subst h2;show bindC kindOf ((p,w)::P.zip vs) m p=_;unfold bindC;rw[Q5 λv hv=>(yq.mp nd).1 (List.of_mem_zip hv).1,if_neg hk];simp
 |p::P,w::vs,i+1,m,nd,h1,h2,hk=>by
  show bindC kindOf ((p,w)::P.zip vs) m x=_;unfold bindC;exact Q3 (i:=i) (yq.mp nd).2 (by simpa using h1) (by simpa using h2) hk
abbrev start(N:List Str)(vs:List V):St:=vs.map aj++zg (N.length - vs.length) au
abbrev yM(qt:Bool)(CX:D0)(P:lg)(w:ji)(K:jc)(mg:Str->Option bh)(base:kh)(N:List Str)(qual:Str)(scope:zq)(f:bx)(cd:bh)(A:lu)(outer:List Env)(s:dg)(H:Hp)(E:XK):Cx where
 prog:=P
 w:=w
 K:=K
 mg:=mg
 base:=base
 A:=A.deeper (envOfC qual scope s.heap.objs.size f cd)
 N:=N
 ai:=s
 aw:=H
 env:=envOfC qual scope s.heap.objs.size f cd
 outer:=outer
 stack:=envOfC qual scope s.heap.objs.size f cd::outer
 ex:=[]
 calm:=!qt
 fn:=λ_=>ak
 pn:=[]
 tp:=[]
 xe:=λe s'=>dj (dz P w) (A.deeper (envOfC qual scope s.heap.objs.size f cd)) (leaving (envOfC qual scope s.heap.objs.size f cd) e) (λ_ qc=>CX outer H s E e qc) (λe' qc=>CX outer H s E e' qc) s'
def Qw{sc:zq}(h:sc.names.lookup x=aj .cell):∃c,(cellsFrom n sc.names []).lookup x=aj c:=by
 have q:=PySem.W.cellsFrom_some sc.names n [] (.inl h);exact Option.isSome_iff_exists.mp q
def Yk{w:ji}{K:jc}{scope:zq}{s s1:dg}{vs:List V}
  (S:aO N ps scope)(hd:qt=ao->A.handled=au)(e0:yb P w K mg base A outer s H)(hl:vs.length=ps.length)(r:Vals vs us)
  (x:InCallC s s.heap.objs.size (bindL (envOfC qual scope s.heap.objs.size f cd).kindOf (ps.zip us) λ_=>au) (cellsFrom (s.heap.objs.size+1) scope.names []) (bindC (envOfC qual scope s.heap.objs.size f cd).kindOf (ps.zip us) λ_=>au) s1) :
  Inv (yM qt CX P w K mg base N qual scope f cd A outer s H E) [] (start N vs) H s1:=by
 have gX:ps.length<=N.length:=by have:=congrArg DJ S.pre;rw[wu]at this;omega
 let⟨h1,tk,rfl,hk⟩:=x.done;have B2:∀b:bx,b∉(yM qt CX P w K mg base N qual scope f cd A outer s H E).ex:=λb z=>absurd (show b∈([]:List bx)from z) (by simp)
 refine⟨⟨e0.mod,S.kind,rfl,rfl,fj _,λy z c h1 h2=>?_,λy hy=>?_,λy c _ h=>?_,λz=>hd (by cases qt with|false=>rfl|true=>cases z),lu.frames_deeper e0.frames,.inr ⟨rfl,rfl⟩,λb z=>absurd z (B2 b),e0.bs,e0.kQ,λb _ _=>B2 b,λb z=>absurd z (B2 b),e0.hW,e0.oC⟩,
  rfl,e0.bare,Un.kept hk,⟨_,x.toInCall.ns,λi y v h1 h2 h3=>?_⟩,λy c h=>⟨_,x.cell y c h⟩,e0.aa.fresh (fj _),λy c h=>?_,λp hp=>absurd (show p∈([]:List (bx×Obj))from hp) (by simp),e0.aa.kept hk,?_,e0.dy,λp hp=>absurd (show p∈([]:List (bx×List V))from hp) (by simp)⟩
 .exact name_of_addr x.apart (PySem.mem_of_lookup h1) (PySem.mem_of_lookup h2)
 .have hy:scope.names.lookup y=aj .cell∨scope.names.lookup y=aj .free:=hy;rcases hy with hy|hy
  .exact Qw hy
  .exact absurd rfl (S.aMY _ (PySem.mem_of_lookup hy))
 .exact wk (x.above y c (PySem.mem_of_lookup h))
 .have hi:i<vs.length:=by
   unfold start at h2;by_cases hi:i<vs.length
   .exact hi
   .rw[zu (by simpa using hi)]at h2;rw[List.getElem?_replicate]at h2;split at h2<;>cases h2
  have ha:vs[i]?=aj v:=by
   unfold start at h2;rw[Hh (by simpa using hi),ql]at h2;cases e:vs[i]? with
   |none=>rw[e]at h2;cases h2
   |some a=>rw[e]at h2;cases h2;rfl
  let⟨u,hu,rv⟩:=r.get ha
  have hp:ps[i]?=aj y:=by
   rw[←S.pre,List.getElem?_take_of_lt ⋯];exact h1
  have NI:ps.Nodup:=by rw[←S.pre];exact S.nd.sublist (List.take_sublist _ _)
  refine⟨u,rv,?_⟩;rcases S.par y (lq hp)with k|k
  .exact .inl ⟨k,Q4 NI hp hu k⟩
  .obtain⟨c,e⟩:=Qw (n:=s.heap.objs.size+1) k;refine .inr ⟨.inl k,c,e,?_⟩;have q:=x.cell y c e;rw[Q3 NI hp hu (by show scope.names.lookup y≠_;rw[k];decide)]at q;exact q
 .exact e0.aa.fresh (wk (x.above y c (PySem.mem_of_lookup h)))
 .unfold start;show _=N.length;rw[uw,gw,List.length_replicate];omega
private theorem aSR{w:ji}{K:jc}{k:Nat}{kV ct:bh}{an:Option bx}(lk:K.lookup f=aj ⟨oc,od,.func (qm name qual params body scope dV kV doc pm an dE ct),Av⟩)(fw:wc K dE qual=ak)(S:aO N ps scope)
  (len:∀vs H Q E,sp vs H Q E->vs.length=ps.length)
  (gu:∀(A:lu)(outer:List Env)(s:dg)(H:Hp)(vs:List V)(Q:VK)(E:XK),nO qt k (A.deeper (envOfC qual scope s.heap.objs.size f dE))->sp vs H Q E ->
   ∃t,iq (yM qt CX P w K mg base N qual scope f dE A outer s H E) body t/\t {nx:=λ_ H'=>Q .ae H',rt:=Q} (start N vs) H) :
  bQ qt P w K mg base CX (k+1) f (qm name qual params body scope dV kV doc pm an dE ct) ps sp:=by
 refine⟨len,λA outer s H args us vs Q E hr e0 hb r sT=>?_⟩;have hl:=len _ _ _ _ sT;have KX:K.In s.heap:=e0.mod.oq.keeps λb o e=>(e0.bs b o e).1;have lim:s.heap.NoLimit:=e0.mod.nolimit.keeps λb o e=>(e0.bs b o e).1
 have Ee:∀y∈ps.zip us,scope.names.lookup y.1=aj .local∨(scope.names.lookup y.1=aj .cell/\((cellsFrom (s.heap.objs.size+1) scope.names []).lookup y.1).isSome=ak):=λ⟨n,v⟩ hy=>by
  rcases S.par n (List.of_mem_zip hy).1 with q|q
  .exact .inl q
  .exact .inr ⟨q,PySem.W.cellsFrom_some _ _ _ (.inl q)⟩
 refine codeAny_call_function hr.depth (KX _ _ lk) rfl S.co S.gen rfl (PySem.W.codeRec_of KX fw) (hb _ _ _ _ ?_);refine wpAny_newFunctionEnv_cells S.kind Ee λenv he s1 x=>?_;subst he;refine⟨lim.keeps x.toInCall.keep,codeAny_func ?_⟩;let⟨t,ht,hq⟩:=gu A outer s H vs Q E (hr.deeper _) sT;have I:Inv (yM qt CX P w K mg base N qual scope f dE A outer s H E) [] (start N vs) H s1:=Yk S hr.hd e0 hl r x;refine qu (ht [] s1 (start N vs) H _ I hq) (λfl s' hs=>?_) λe s' hs=>hs
 have fin:∀{av:St}{H':Hp}{v:V}{u:bh},Inv (yM qt CX P w K mg base N qual scope f dE A outer s H E) [] av H' s'->RelV v u->Q v H'->CE outer P w H s Q u s' :=
  λ{av H' v u} J rv q=>⟨v,H',J.os,J.bare,J.base,J.aa,rv,q⟩
 cases fl with
 |ret u =>
  let⟨v,av,H',J,rv,q⟩:=hs;exact fin J rv q
 |next =>
  let⟨av,H',J,q⟩:=hs;exact fin (v:=V.ae) (u:=Value.none) J rfl q
 |brk =>
  let⟨_,_,_,q⟩:=hs;exact False.elim q
 |cont =>
  let⟨_,_,_,q⟩:=hs;exact False.elim q
end
section
section
end
end
variable{h':kh}
section
variable{o:Option V}
section
variable{κ:Type}[DecidableEq κ]
abbrev hV(kvs:List (κ×V))(k:κ):Option V:=(kvs.find? λkv=>decide (kv.1=k)).map (·.2)
abbrev putK(kvs:List (κ×V))(k:κ)(v:V):List (κ×V) :=
 if(kvs.any λkv=>decide (kv.1=k))=ak then kvs.map (λkv=>if kv.1=k then(kv.1,v)else kv)else kvs++[(k,v)]
abbrev ml(kvs:List (κ×V))(k:κ):List (κ×V):=kvs.filter λkv=>decide (kv.1≠k)
def Gw{p:κ×V}{r:List (κ×V)}{k:κ}(e:p.1=k):hV (p::r) k=aj p.2:=by simp[hV,Bw,e]
def Gv{p:κ×V}{r:List (κ×V)}{k:κ}(e:¬ p.1=k):hV (p::r) k=hV r k:=by simp[hV,Bw,e]
def Ks(k:κ):∀kvs:List (κ×V),(kvs.any λkv=>decide (kv.1=k))=(hV kvs k).isSome
 |[]=>rfl
 |p::r=>by
  rw[zd];by_cases e:p.1=k
  .simp only[Gw e,decide_eq_true e,Bool.true_or,Option.isSome_some]
  .rw[Gv e,decide_eq_false e,DD];exact Ks k r
def My(kvs:List (κ×V))(k:κ)(v:V):(putK kvs k v).length<=kvs.length+1:=by
 unfold putK;split
 ·rw[gw];omega
 .rw[uw,uq,List.length_nil];omega
def fi.zK{u:Option bh}(r:fi o u):o.isSome=u.isSome:=by
 cases o with
 |none=>cases u with
  |none=>rfl
  |some _=>exact(show False from r).elim
 |some _=>cases u with
  |none=>exact(show False from r).elim
  |some _=>rfl
def fi.getD{u:Option bh}{d:V}(r:fi o u)(rd:RelV d d'):RelV (o.getD d) (u.getD d'):=by
 cases o with
 |none=>cases u with
  |none=>exact rd
  |some _=>exact(show False from r).elim
 |some _=>cases u with
  |none=>exact(show False from r).elim
  |some _=>exact r
def KV.val(r:KV kvs vs)(k:κ):fi (hV kvs k) (valueAt vs k):=by
 unfold KV at r
 induction r with
 |nil=>exact True.intro
 |@cons p q ps qs h t ih =>
  let⟨h1,h2⟩:=h;by_cases e:p.1=k
  .have e':q.1=k:=h1.symm.trans e;have b:valueAt (q::qs) k=aj q.2:=by simp[valueAt,Bw,e']
   rw[Gw e,b];exact h2
  .have e':¬ q.1=k:=λz=>e (h1.trans z);have b:valueAt (q::qs) k=valueAt qs k:=by simp[valueAt,Bw,e']
   rw[Gv e,b];exact ih
def KV.any{kvs:List (κ×V)}{vs:List (κ×bh)}(r:KV kvs vs)(k:κ):(kvs.any λkv=>decide (kv.1=k))=vs.any λkv=>decide (kv.1=k):=by
 unfold KV at r
 induction r with
 |nil=>rfl
 |cons h t ih=>rw[zd,zd,ih,h.1]
def KV.zS{kvs:List (κ×V)}{vs:List (κ×bh)}(r:KV kvs vs)(k:κ)(ry:RelV y u) :
  KV (kvs.map λkv=>if kv.1=k then(kv.1,y)else kv) (vs.map λkv=>if kv.1=k then(kv.1,u)else kv):=by
 unfold KV at r ⊢
 induction r with
 |nil=>exact .nil
 |@cons p q ps qs h t ih =>
  rw[kj,kj];refine .cons ?_ ih;let⟨h1,h2⟩:=h;by_cases e:p.1=k
  .rw[if_pos e,if_pos (h1.symm.trans e)];exact⟨h1,ry⟩
  .rw[if_neg e,if_neg (λz=>e (h1.trans z))];exact⟨h1,h2⟩
def KV.put(r:KV kvs vs)(k:κ)(ry:RelV y u):KV (putK kvs k y) (stored vs k u):=by
 unfold putK stored;rw[r.any k];by_cases e:(vs.any λkv=>decide (kv.1=k))=ak
 .rw[if_pos e,if_pos e];exact r.zS k ry
 .rw[if_neg e,if_neg e];exact Paired.snoc r ⟨rfl,ry⟩
def KV.drop(r:KV kvs vs)(k:κ):KV (ml kvs k) (without vs k):=by
 unfold KV at r ⊢;unfold ml without
 induction r with
 |nil=>exact .nil
 |@cons p q ps qs h t ih =>
  let⟨h1,h2⟩:=h;rw[zy,zy];by_cases e:p.1=k
  .have a:¬ decide (p.1≠k)=ak:=by simp[e]
   have b:¬ decide (q.1≠k)=ak:=by simp[h1.symm.trans e]
   rw[if_neg a,if_neg b];exact ih
  .have e':¬ q.1=k:=λz=>e (h1.trans z);have a:decide (p.1≠k)=ak:=by simp[e]
   have b:decide (q.1≠k)=ak:=by simp[e']
   rw[if_pos a,if_pos b];exact .cons ⟨h1,h2⟩ ih
def KV.length{kvs:List (κ×V)}{vs:List (κ×bh)}(r:KV kvs vs):kvs.length=vs.length:=Paired.length r
def Qv(kvs:List (κ×V))(k:κ):(ml kvs k).length<=kvs.length:=BC _ _
end
def ve{w:ji}{k:Key}(r:RelV (kV k) u):(aQ P w).is k u=ak:=by
 cases k with
 |inl i=>let⟨t,e⟩:=(show ∃t,u=bh.int i t from r);subst e;exact R9 P w i t
 |inr x=>let⟨t,e⟩:=(show ∃t,u=bh.str x t from r);subst e;exact θ P w x t
def Q2{w:ji}:∀{ks:List Key}{us:List bh},Vals (ks.map kV) us->ItemsAre (aQ P w) ks us
 |[],_,r=>by rw[List.map_nil]at r;cases r;exact .nil
 |k::ks,_,r=>by
  rw[kj]at r;cases r with
  |cons h t=>exact .cons (ve h) (Q2 t)
@[simp]def KT(H:Hp):List (List Key×V)->List (List Key×bx×bh)->Prop:=Paired λp q=>p.1=q.1/\H q.2.1=aj (.tup (p.1.map kV))/\RelV p.2 q.2.2
def KT.val(r:KT H kvs xs)(k:List Key):fi (hV kvs k) ((atKey xs k).map (·.2)):=by
 induction r with
 |nil=>exact True.intro
 |@cons p q ps qs h t ih =>
  let⟨h1,_,h2⟩:=h;by_cases e:p.1=k
  .have e':q.1=k:=h1.symm.trans e;have b:atKey (q::qs) k=aj q.2:=by simp[atKey,Bw,e']
   rw[Gw e,b];exact h2
  .have e':¬ q.1=k:=λz=>e (h1.trans z);have b:atKey (q::qs) k=atKey qs k:=by simp[atKey,Bw,e']
   rw[Gv e,b];exact ih
def KT.zS{kvs:List (List Key×V)}{xs:List (List Key×bx×bh)}(r:KT H kvs xs)(k:List Key)(ry:RelV y u) :
  KT H (kvs.map λkv=>if kv.1=k then(kv.1,y)else kv) (xs.map (putAt k u)):=by
 induction r with
 |nil=>exact .nil
 |@cons p q ps qs h t ih =>
  rw[kj,kj];refine .cons ?_ ih;let⟨h1,h2,h3⟩:=h;unfold putAt;by_cases e:p.1=k
  .rw[if_pos e,if_pos (h1.symm.trans e)];exact⟨h1,h2,ry⟩
  .rw[if_neg e,if_neg (λz=>e (h1.trans z))];exact⟨h1,h2,h3⟩
def KT.put(r:KT H kvs xs)(k:List Key)(hb:H b=aj (.tup (k.map kV)))(ry:RelV y u) :
  KT H (putK kvs k y) (storedH xs k b u):=by
 have e:(kvs.any λkv=>decide (kv.1=k))=(atKey xs k).isSome:=by
  rw[Ks,(r.val k).zK,GP]
 unfold putK storedH;rw[e];by_cases q:(atKey xs k).isSome=ak
 .rw[if_pos q,if_pos q];exact r.zS k ry
 .rw[if_neg q,if_neg q];exact Paired.snoc r ⟨rfl,hb,ry⟩
def KT.keeps(r:KT H kvs xs)(ht:∀b ys,H b=aj (.tup ys)->H' b=aj (.tup ys)):KT H' kvs xs :=
 Paired.Gb r λ_ _ z=>⟨z.1,ht _ _ z.2.1,z.2.2⟩
section
variable{w:ji}{h:kh}
def S9(ok:bz P w H h)(e:Rd H a u):iZ P w H h a u:=e.ok ok
def pk{kvs:List (Key×V)}(ok:bz P w H h)(e:Rd H a (.dK kvs)):kvs.length<=dh/\(a==ur)=ao/\∃vs,KV kvs vs/\h.DictOf (aQ P w) a vs :=
 show iZ P w H h a (.dK kvs)from S9 ok e
def A6{kvs:List (Key×V)}(ok:bz P w H h)(e:H a=aj (.dK kvs)):kvs.length<=dh/\(a==ur)=ao/\∃vs,KV kvs vs/\h.DictOf (aQ P w) a vs:=pk ok (.inl e)
def vF{ks:List Key}(ok:bz P w H h)(e:H a=aj (.tup (ks.map kV))):(rV (aQ P w)).is h ks a:=by
 let⟨_,its,r,o,h1,h2,n,h3⟩:=(show iZ P w H h a (.tup (ks.map kV))from ok a _ e);exact⟨o,its.toArray,n,h1,h2,h3,by simpa using Q2 r⟩
variable{kvs:List (List Key×V)}
def rL(ok:bz P w H h)(e:Rd H a (.dT kvs)):kvs.length<=dh/\(a==ur)=ao /\
  ∃xs,KT H kvs xs/\h.DictOfH (rV (aQ P w)) a xs:=by
 let⟨z,y,xs,r,o,es,ep,h1,h2,h3,h4,h5⟩:=(show iZ P w H h a (.dT kvs)from S9 ok e);refine⟨z,y,xs,r,o,es,ep,h1,h2,h3,h4,λx hx=>?_,h5⟩
 have all:∀{l:List (List Key×V)}{m:List (List Key×bx×bh)},KT H l m->∀x∈m,(rV (aQ P w)).is h x.1 x.2.1:=by
  intro l m q
  induction q with
  |nil=>intro x hx;exact nomatch hx
  |@cons p q ps qs hq t ih =>
   intro x hx;rcases jm.mp hx with e|hx
   .subst e;exact vF ok (by rw[←hq.1];exact hq.2.1)
   .exact ih x hx
 exact all r x hx
def CG(ok:bz P w H h)(e:H a=aj (.dT kvs)):kvs.length<=dh/\(a==ur)=ao /\
  ∃xs,KT H kvs xs/\h.DictOfH (rV (aQ P w)) a xs:=rL ok (.inl e)
end
abbrev il(H:Hp)(a:bx)(y:V)(r:Option V):Prop :=
 (∃kvs k,Rd H a (.dK kvs)/\y=kV k/\r=hV kvs k)∨∃kvs k b,Rd H a (.dT kvs)/\y=.ref b/\H b=aj (.tup (k.map kV))/\r=hV kvs k
abbrev ya(H:Hp)(a:bx)(y v:V)(H':Hp):Prop :=
 (∃kvs k,H a=aj (.dK kvs)/\y=kV k/\kvs.length<dh/\H'=upd H a (.dK (putK kvs k v))) ∨
 ∃kvs k b,H a=aj (.dT kvs)/\y=.ref b/\H b=aj (.tup (k.map kV))/\kvs.length<dh/\H'=upd H a (.dT (putK kvs k v))
def il.k{k:Key}(e:H a=aj (.dK kvs)):il H a (kV k) (hV kvs k):=.inl ⟨kvs,k,.inl e,rfl,rfl⟩
def il.t{k:List Key}(e:H a=aj (.dT kvs))(eb:H b=aj (.tup (k.map kV))):il H a (.ref b) (hV kvs k):=.inr ⟨kvs,k,b,.inl e,rfl,eb,rfl⟩
def ya.k{kvs:List (Key×V)}{k:Key}{v:V}(e:H a=aj (.dK kvs))(hl:kvs.length<dh):ya H a (kV k) v (upd H a (.dK (putK kvs k v))):=.inl ⟨kvs,k,e,rfl,hl,rfl⟩
def ya.t{kvs:List (List Key×V)}{k:List Key}(e:H a=aj (.dT kvs))(eb:H b=aj (.tup (k.map kV)))(hl:kvs.length<dh) :
  ya H a (.ref b) v (upd H a (.dT (putK kvs k v))):=.inr ⟨kvs,k,b,e,rfl,eb,hl,rfl⟩
section
variable{X:Cx}{ψ:List (bx×Obj)}{s:dg}{v:V}{r:bh}{o:Option V}{A:lu}
def Inv.big(I:Inv X ψ σ H s):ur<s.heap.objs.size:=by
 have h:jj<s.heap.objs.size:=(I.mod.glob.keeps I.bk).lt;exact Nat.lt_trans (by decide) h
def Yj(hu:A.units+1<qy)(I:Inv X ψ σ H s)(g:il H a y (aj v))(ry:RelV y u)(h:∀w' s',Inv X ψ σ H s'->RelV v w'->Q w' s') :
  dj (dz X.prog X.w) A (getItem (.ref a) u) Q E s:=by
 rcases g with⟨kvs,k,e,ey,l⟩|⟨kvs,k,b,e,ey,eb,l⟩
 .subst ey;let⟨z,hd,vs,rel,dd⟩:=pk I.aa e;let⟨w',hw,fE⟩:=fi.some_of (v:=v) (o:=valueAt vs k) (by rw[l];exact rel.val k);exact wpAny_getItem_of (ve ry) dd.mapOf hw (h w' _ (I.tok _) fE)
 .subst ey;cases(show u=bh.ref b from ry);let⟨z,hd,xs,rel,dd⟩:=rL I.aa e;let⟨w',hw,fE⟩:=fi.some_of (v:=v) (o:=(atKey xs k).map (·.2)) (by rw[l];exact rel.val k);let⟨p,hp,ie⟩:=ug.mp hw;refine wpAny_getItem_heap (zl hu) (vF I.aa eb) dd hp ?_;rw[ie];exact h w' _ (I.tok _) fE
def aXI(hu:A.units+1<qy)(I:Inv X ψ σ H s)(g:il H a y o)(ry:RelV y u)(h:∀s',Inv X ψ σ H s'->Q (.bool o.isSome) s') :
  dj (dz X.prog X.w) A (nj .In u (.ref a)) Q E s:=by
 rcases g with⟨kvs,k,e,ey,l⟩|⟨kvs,k,b,e,ey,eb,l⟩
 .subst ey;let⟨z,hd,vs,rel,dd⟩:=pk I.aa e;refine wpAny_in_of (ve ry) hd dd.mapOf ?_;rw[←(rel.val k).zK,←l];exact h _ (I.tok _)
 .subst ey;cases(show u=bh.ref b from ry);let⟨z,hd,xs,rel,dd⟩:=rL I.aa e;refine wpAny_in_heap (zl hu) (vF I.aa eb) hd dd ?_;have q:=(rel.val k).zK;rw[GP]at q;rw[←q,←l];exact h _ (I.tok _)
def aGT(hu:A.units+1<qy)(I:Inv X ψ σ H s)(g:il H a y o)(ry:RelV y u)(h:∀s',Inv X ψ σ H s'->Q (.bool (!o.isSome)) s') :
  dj (dz X.prog X.w) A (nj .NotIn u (.ref a)) Q E s:=by
 rcases g with⟨kvs,k,e,ey,l⟩|⟨kvs,k,b,e,ey,eb,l⟩
 .subst ey;let⟨z,hd,vs,rel,dd⟩:=pk I.aa e;refine wpAny_notIn_of (ve ry) hd dd.mapOf ?_;rw[←(rel.val k).zK,←l];exact h _ (I.tok _)
 .subst ey;cases(show u=bh.ref b from ry);let⟨z,hd,xs,rel,dd⟩:=rL I.aa e;refine wpAny_notIn_heap (zl hu) (vF I.aa eb) hd dd ?_;have q:=(rel.val k).zK;rw[GP]at q;rw[←q,←l];exact h _ (I.tok _)
def Dr{ob:HO}(I:Inv X ψ σ H s)(mu:DV (H a))(hs:jr a s.heap h')(he:∃q,h'.get? a=aj q)(new:iZ X.prog X.w (upd H a ob) h' a ob) :
  Inv X ψ σ (upd H a ob) {s with heap:=h',toks:=t' } :=
 I.write (x:=a) (e:=a) mu (.inl rfl) (λb q hb z=>(hs.2 b hb).trans z) he new
def Ue{w:ji}{kvs:List (Key×V)}(z:kvs.length<=dh)(hd:(a==ur)=ao)(rel:KV kvs vs)(dd:h'.DictOf (aQ P w) a vs) :
  iZ P w H' h' a (.dK kvs):=⟨z,hd,vs,rel,dd⟩
def Yi(hu:A.units+1<qy)(I:Inv X ψ σ H s)(g:ya H a y v H')(ry:RelV y u)(rv:RelV v r)(h:∀s',Inv X ψ σ H' s'->Q () s') :
  dj (dz X.prog X.w) A (setItem (.ref a) u r) Q E s:=by
 rcases g with⟨kvs,k,e,ey,l,eH⟩|⟨kvs,k,b,e,ey,eb,l,eH⟩
 .subst ey eH;let⟨z,hd,vs,rel,dd⟩:=A6 I.aa e;have hz:vs.length<=dh:=by rw[←rel.length];exact z
  have hl:(putK kvs k v).length<=dh:=by have:=My kvs k v;omega
  refine wpAny_setItem_pairs (hsz:=hz) (ve ry) dd λh' kP hs=>h _ ?_;have he:∃q,h'.get? a=aj q:=let⟨q,_,_,hq,_⟩:=kP;⟨q,hq⟩
  exact Dr I (by rw[e];exact True.intro) hs he (Ue hl hd (rel.put k rv) kP)
 .subst ey eH;cases(show u=bh.ref b from ry);let⟨z,hd,xs,rel,dd⟩:=CG I.aa e;have hz:xs.length<=dh:=by rw[←Paired.length rel];exact z
  have hl:(putK kvs k v).length<=dh:=by have:=My kvs k v;omega
  refine wpAny_setItem_heap (hsz:=hz) (zl hu) (vF I.aa eb) dd λh' kP hs=>h _ ?_;let⟨q,es,ep,hq,h2,h3,h4,_,h5⟩:=kP;refine Dr I (by rw[e];exact True.intro) hs ⟨q,hq⟩ ⟨hl,hd,_,(rel.put k eb rv).keeps λc ys ec=>?_,q,es,ep,hq,h2,h3,h4,h5⟩;rw[bD (LR ec e (λz=>nomatch z))];exact ec
end
section
variable{X:Cx}{ψ:List (bx×Obj)}{kvs:List (Key×V)}{k:Key}{A:lu}
def aSS(I:Inv X ψ σ H s)(e:H a=aj (.dK kvs))(ry:RelV (kV k) u)(l:hV kvs k=aj v)(hm:more=[]∨∃x,more=[x])
  (h:∀w' s',Inv X ψ σ (upd H a (.dK (ml kvs k))) s'->RelV v w'->Q w' s'):dj (dz X.prog X.w) A (call (.builtin "dict.pop") (.ref a::u::more)) Q E s:=by
 let⟨z,hd,vs,rel,dd⟩:=A6 I.aa e;let⟨w',hw,fE⟩:=fi.some_of (v:=v) (o:=valueAt vs k) (by rw[←l];exact rel.val k)
 have hp:(keyPart u).isSome=ak:=by
  cases k with
  |inl i=>let⟨t,q⟩:=(show ∃t,u=bh.int i t from ry);subst q;rfl
  |inr x=>let⟨t,q⟩:=(show ∃t,u=bh.str x t from ry);subst q;rfl
 have ha:argsOk "dict.pop" ⟨.ref a::u::more,[]⟩:=by
  rcases hm with q|⟨x,q⟩
  .subst q;exact PySem.F.args_dict_pop_2 _ _
  .subst q;exact PySem.F.args_dict_pop_3 _ _ _
 refine call_meetsIn PySem.F.slot_dict_pop dd.typeIs PySem.F.entry_dict_pop ha (meets_dict_pop_there (aQ X.prog X.w) a (ve ry) more hm hp)
  ⟨vs,w',dd,by rw[←rel.length];exact z,hw,λh' kP hs=>h w' _ ?_ fE⟩
 have he:∃q,h'.get? a=aj q:=let⟨q,_,_,hq,_⟩:=kP;⟨q,hq⟩
 exact Dr I (by rw[e];exact True.intro) hs he (Ue (qd (Qv kvs k) z) hd (rel.drop k) kP)
def aST(I:Inv X ψ σ H s)(e:Rd H a (.dK kvs))(h:∀t s',Inv X ψ σ H s'->Q (.int kvs.length t) s'):dj (dz X.prog X.w) A (call (.builtin "len") [.ref a]) Q E s:=by
 let⟨z,hd,vs,rel,dd⟩:=pk I.aa e;refine call_len_dict hd dd (by rw[←rel.length];rw[sizeLine_eq]at z;omega) ?_;rw[←rel.length];exact h _ _ (I.tok _)
end
abbrev Lj(i:je):Prop:=∀ov iv,subscripted i ao ov iv=operate [ov,iv] (getItem ov iv)
def aGU{prog:lg}{w:ji}{T id:String} 
  (hl:typeLookup (.type T) "__getitem__"=pure (aj (.builtin id)))(hs:Lj slice)
  (h:dj (dz prog w) A (eval value env) (λo af=>dj (dz prog w) A (eval slice env) (λi fR=>fR.TypeIs o T/\dj (dz prog w) A (getItem o i) Q E fR) E af) E s) :
  dj (dz prog w) A (eval (.Subscript value slice pos) env) Q E s:=by
 refine Subscript_ (qu h (λo af bc=>qu bc (λi fR eQ=>?_) λ_ _ x=>x) λ_ _ x=>x);let⟨hT,eQ⟩:=eQ;unfold subscriptTail;refine aq ?_;rw[getitemInPython_of_ne hT.not_modules];refine aq (wpAny_specialOf hT hl ?_)
 have fin:dj (dz prog w) A (subscripted slice ao o i) (λr kz=>dj (dz prog w) A (letTemporaryGo value o r >>= λ_=>pure r) Q E kz) E fR:=by
  rw[hs o i];exact wpAny_operating (qu eQ (λr kz ng=>aq (wpAny_letTemporaryGo (cu ng))) λ_ _ x=>x)
 first
  |exact cu (aq fin)
  |exact aq (cu (aq fin))
  |exact aq fin
def ζ{s:dg}(I:Inv X ψ σ H s)(g:il H a y o):s.TypeIs (.ref a) "dict":=by
 rcases g with⟨kvs,k,e,_,_⟩|⟨kvs,k,b,e,_,_,_⟩
 .obtain⟨_,_,vs,_,dd⟩:=pk I.aa e;exact dd.typeIs
 .obtain⟨_,_,xs,_,dd⟩:=rL I.aa e;exact dd.typeIs
abbrev aSU(td ty:TE):TE:=λσ H Q=>td σ H λx H1=>ty σ H1 λy H2=>∃a v,x=.ref a/\il H2 a y (aj v)/\Q v H2
abbrev aSV(td ty tv:TE):TS:=λD σ H=>tv σ H λv H1=>td σ H1 λx H2=>ty σ H2 λy H3=>∃a H4,x=.ref a/\ya H3 a y v H4/\D.nx σ H4
section
variable{X:Cx}{o:je}{pos:Pos}{ty:TE}
def aGV(hu:X.A.units+1<qy)(ho:PE X o td)(hi:PE X i ty)(hs:Lj i):PE X (.Subscript o i pos) (aSU td ty):=by
 intro ψ s σ H Q I h;refine aGU PySem.F.slot_dict_getitem.lookup hs (fW (ho ψ s σ H _ I h) λu s1 ⟨x,H1,I1,rx,q1⟩=>fW (hi ψ s1 σ H1 _ I1 q1) ?_);rintro iv s2 ⟨y,H2,I2,ry,a,v,ex,g,q2⟩;subst ex;obtain rfl:u=bh.ref a:=rx;exact⟨ζ I2 g,Yj hu I2 g ry λw' s3 I3 fE=>⟨v,H2,I3,fE,q2⟩⟩
def aGW(hu:X.A.units+1<qy)(ho:PE X o td)(hi:PE X i ty)(hv:PE X value tv)(hs:rS value (aj (.Subscript o i pos')) pos.line X.env=pure ao) :
  PS X (.Assign [.Subscript o i pos'] value pos) (aSV td ty tv):=by
 intro ψ s σ H D I h;refine wpAny_Assign_Subscript (fW (hv ψ s σ H _ I h) λr s1 ⟨v,H1,I1,rv,q1⟩=>fW (ho ψ s1 σ H1 _ I1 q1) λu s2 ⟨x,H2,I2,rx,q2⟩=>fW (hi ψ s2 σ H2 _ I2 q2) ?_) hs;rintro iv s3 ⟨y,H3,I3,ry,a,H4,ex,g,q3⟩;subst ex;obtain rfl:u=bh.ref a:=rx;exact Yi hu I3 g ry rv λs4 I4=>⟨σ,H4,I4,q3⟩
end
def aAO{w:ji}(h:kh)(hb:ur<h.objs.size):iZ P w H (h.push {cls:=.type "dict",data:=.dict #[]}) h.objs.size (.dK []) :=
 ⟨xu _,beq_eq_false_iff_ne.mpr (Ne.symm (jl hb)),[],.nil,Heap.DictOf.new h⟩
def aAP{w:ji}(h:kh)(hb:ur<h.objs.size):iZ P w H (h.push {cls:=.type "dict",data:=.dict #[]}) h.objs.size (.dT []) :=
 ⟨xu _,beq_eq_false_iff_ne.mpr (Ne.symm (jl hb)),[],.nil,_,#[],0,ig _ rfl,⟨rfl,rfl,rfl⟩,rfl,rfl,List.nodup_nil⟩
abbrev aN0:TE:=λ_ H Q=>∀p,H p=au->Q (.ref p) (upd H p (.dK []))
abbrev aN1:TE:=λ_ H Q=>∀p,H p=au->Q (.ref p) (upd H p (.dT []))
section
variable{pos:Pos}
def aAQ:PE X (.Dict [] [] pos) aN0:=λψ s σ H Q I h =>
 wpAny_Dict_empty ⟨.ref s.heap.objs.size,_,I.laid (a:=s.heap.objs.size) (o:=.dK []) (t':=s.toks) (λ_ _ q=>cj _ q) (fj _) (aAO s.heap I.big),rfl,h _ (I.aa.fresh (fj _))⟩
def aAR:PE X (.Dict [] [] pos) aN1:=λψ s σ H Q I h =>
 wpAny_Dict_empty ⟨.ref s.heap.objs.size,_,I.laid (a:=s.heap.objs.size) (o:=.dT []) (t':=s.toks) (λ_ _ q=>cj _ q) (fj _) (aAP s.heap I.big),rfl,h _ (I.aa.fresh (fj _))⟩
end
structure M1(X:Cx)(o:je)(m:Str)(apos:Pos)(e:je)(ah:Pos):Prop where
 base:uf o m X.env (eval o X.env)=eval o X.env
 Oo:((uc ah (jg [e] X.env)).all (λx=>!x.1)&&(backToKw ah (pw [] X.env)).all (λx=>x.1.isSome)
  &&decide (([e]:List je).length+([]:List ip).length+(if([]:List ip).isEmpty then 0 else 1)<30))=ak
 line:(apos.endLine==ah.line)=ak
 trees:uc ah (jg [e] X.env)=[(ao,eval e X.env)]
structure M2(X:Cx)(o:je)(m:Str)(apos:Pos)(e f:je)(ah:Pos):Prop where
 base:uf o m X.env (eval o X.env)=eval o X.env
 Oo:((uc ah (jg [e,f] X.env)).all (λx=>!x.1)&&(backToKw ah (pw [] X.env)).all (λx=>x.1.isSome)
  &&decide (([e,f]:List je).length+([]:List ip).length+(if([]:List ip).isEmpty then 0 else 1)<30))=ak
 line:(apos.endLine==ah.line)=ak
 trees:uc ah (jg [e,f] X.env)=[(ao,eval e X.env),(ao,eval f X.env)]
abbrev pE(H:Hp)(a:bx):Prop:=(∃kvs,Rd H a (.dK kvs))∨∃kvs,Rd H a (.dT kvs)
def C2{s:dg}(I:Inv X ψ σ H s)(d:pE H a) :
  s.TypeIs (.ref a) "dict"/\(∀b,bh.ref a=.ref b->∃ob,s.heap.get? b=aj ob/\ob.dict=au)/\(a==ur)=ao:=by
 rcases d with⟨kvs,e⟩|⟨kvs,e⟩
 .obtain⟨_,hd,vs,_,dd⟩:=pk I.aa e;refine⟨dd.typeIs,λb q=>?_,hd⟩;cases q;let⟨ob,_,_,h1,h2,_⟩:=dd;exact⟨ob,h1,h2.2.1⟩
 .obtain⟨_,hd,xs,_,dd⟩:=rL I.aa e;refine⟨dd.typeIs,λb q=>?_,hd⟩;cases q;let⟨ob,_,_,h1,h2,_⟩:=dd;exact⟨ob,h1,h2.2.1⟩
section
variable{X:Cx}{ψ:List (bx×Obj)}{d:V}{r:bh}{o:Option V}{A:lu}
def aN2(hu:A.units+1<qy)(I:Inv X ψ σ H s)(g:il H a y o)(ry:RelV y u)(rd:RelV d r)(h:∀w' s',Inv X ψ σ H s'->RelV (o.getD d) w'->Q w' s') :
  dj (dz X.prog X.w) A (call (.builtin "dict.get") [.ref a,u,r]) Q E s:=by
 rcases g with⟨kvs,k,e,ey,l⟩|⟨kvs,k,b,e,ey,eb,l⟩
 .subst ey;let⟨z,hd,vs,rel,dd⟩:=pk I.aa e;refine call_meetsIn PySem.F.slot_dict_get dd.typeIs PySem.F.entry_dict_get (PySem.F.args_dict_get_3 _ _ _) (meets_dict_get_default (aQ X.prog X.w) a (ve ry) hd r) ⟨_,dd.mapOf,h _ _ (I.tok _) ?_⟩;rw[l];exact(rel.val k).getD rd
 .subst ey;cases(show u=bh.ref b from ry);let⟨z,hd,xs,rel,dd⟩:=rL I.aa e;refine call_meetsIn PySem.F.slot_dict_get dd.typeIs PySem.F.entry_dict_get (PySem.F.args_dict_get_3 _ _ _) (meetsH_dict_get_default (rV (aQ X.prog X.w)) a b hd r) ⟨zl hu,k,xs,vF I.aa eb,dd,h _ _ (I.tok _) ?_⟩;rw[l];exact(rel.val k).getD rd
end
abbrev aN3(td ty tx:TE):TE:=λσ H Q=>td σ H λx H1=>∃a,x=.ref a/\pE H1 a/\ty σ H1 λy H2=>tx σ H2 λz H3=>∃o,il H3 a y o/\Q (o.getD z) H3
section
variable{X:Cx}{o:je}{ty:TE}
def aAS(hu:X.A.units+1<qy)(ho:PE X o td)(he:PE X e ty)(hf:PE X f tx)(m:M2 X o "get" apos e f ah):PE X (.Call (.Attribute o "get" apos) [e,f] [] ah) (aN3 td ty tx):=by
 intro ψ s σ H Q I h;refine wpAny_Call_method m.base m.Oo m.line PySem.F.plainAttrs_dict PySem.F.slot_dict_get PySem.F.type_dict_get (fW (ho ψ s σ H _ I h) ?_);rintro u s1 ⟨x,H1,I1,rx,a,ex,d,q1⟩;subst ex;obtain rfl:u=bh.ref a:=rx;let⟨t1,t2,_⟩:=C2 I1 d;refine⟨t1,t2,?_⟩;rw[m.trees]
 refine Calls.callWith_builtin rfl (Calls.evalArgs_plain (Calls.spliced_cons (fW (he ψ s1 σ H1 _ I1 q1) λiv s2 ⟨y,H2,I2,ry,q2⟩ =>
  Calls.spliced_cons (fW (hf ψ s2 σ H2 _ I2 q2) λfv s3 ⟨z,H3,I3,rz,ov,g,q3⟩=>Calls.spliced_nil ?_))))
 exact aN2 hu I3 g ry rz λw' s4 I4 fE=>⟨_,H3,I4,fE,q3⟩
end
section
end
section
end
end
end L2
namespace HT
open PySem PyProof.Rows
section
open PySem.SeqAt
open PySem.AutoSeq1 (wpAny_loadPart')
open PySem.MeetsSeq PySem.MeetsSeq2 PySem.MeetsSeq3
end
variable{sl:bx}
section
variable{prog:lg}{w:ji}{A:lu}{E:bh->dg->Prop}{s:dg}
def aGX{t b:bx}{vs ws:List bh}(ht:IsTup s.heap t vs.toArray)(hb:IsTup s.heap b ws.toArray)(hv:vs≠[])
  (h1:ws=[]->Q (.ref t) s)(h2:ws≠[]->Q (.ref s.heap.objs.size) {s with heap:=s.heap.push {cls:=.type "tuple",data:=.seq (vs++ws).toArray}})
  (hsz:vs.length+ws.length<=dh):dj (dz prog w) A (yj .Add (.ref t) (.ref b)) Q E s:=by
 let⟨⟨cls,dd,data,sl⟩,ho,hc,n,hd⟩:=id ht;let⟨⟨Nh,E5,data2,p9⟩,xl,Cj,n2,qv⟩:=id hb;simp only at hc hd Cj qv;subst hc hd Cj qv;have e:vs.toArray++ws.toArray=(vs++ws).toArray:=by simp
 by_cases hw:ws=[]
 .exact concat_meets ⟨_,ho,rfl⟩ ⟨_,xl,rfl⟩ noFill_tuple_add seq_tuple_add PySem.F.slot_tuple_add PySem.F.entry_tuple_add (PySem.F.args_tuple_add_2 _ _)
   (tuple_addW1 t b vs.toArray ws.toArray n n2 dd E5 sl p9 (by simpa using hv) (by simp[hw])) ⟨ho,xl,h1 hw⟩
 .refine concat_meets ⟨_,ho,rfl⟩ ⟨_,xl,rfl⟩ noFill_tuple_add seq_tuple_add PySem.F.slot_tuple_add PySem.F.entry_tuple_add (PySem.F.args_tuple_add_2 _ _)
   (tuple_addW2 t b vs.toArray ws.toArray n n2 dd E5 sl p9 (by simpa using hv) (by simpa using hw) (by rw[gV,gV];exact hsz)) ⟨ho,xl,?_⟩
  rw[e];exact h2 hw
abbrev pQ(n d:Nat):Option Int->Nat
 |none=>d
 |some v=>if v<0 then(v+(n:Int)).toNat else min v.toNat n
def Qu(n d:Nat):pQ n d au=d:=rfl
def Pr(n d k:Nat):pQ n d (aj (k:Int))=min k n:=by
 show(if(k:Int)<0 then((k:Int)+(n:Int)).toNat else min (k:Int).toNat n)=min k n;rw[if_neg ⋯,yc]
def aN4(n d:Nat)(hd:d<=n)(o:Option Int):pQ n d o<=n:=by
 cases o with
 |none=>exact hd
 |some v =>
  show(if v<0 then(v+(n:Int)).toNat else min v.toNat n)<=n;by_cases hv:v<0
  .rw[if_pos hv];omega
  .rw[if_neg hv];exact Nat.min_le_right _ _
def Pq(v:Int)(n d:Nat):(if v<0 then max (v+(n:Int)) 0 else min v (n:Int))=((pQ n d (aj v):Nat):Int):=by
 show(if v<0 then max (v+(n:Int)) 0 else min v (n:Int))=(((if v<0 then(v+(n:Int)).toNat else min v.toNat n):Nat):Int);by_cases hv:v<0
 .simp only[if_pos hv];omega
 .simp only[if_neg hv];omega
def ZA(lo hi:Option Int)(n:Nat):Builtin.Slice.sliceAdjust lo hi 1 (n:Int)=(((pQ n 0 lo:Nat):Int),((pQ n n hi:Nat):Int)):=by
 have h1:¬ ((1:Int)<0):=by omega
 unfold Builtin.Slice.sliceAdjust;simp only[h1,if_false];refine Prod.ext ?_ ?_
 .cases lo with
  |none=>rfl
  |some v=>exact Pq v n 0
 .cases hi with
  |none=>rfl
  |some v=>exact Pq v n n
def Zz(i j:Nat):Builtin.Slice.slicePlaces (i:Int) (j:Int) 1=j - i:=by
 unfold Builtin.Slice.slicePlaces;have h1:(1:Int)>0:=by omega
 simp only[h1,if_true,Int.ediv_one];split<;>omega
def RB{v:bh}{o:Option Int}(p:IsPart v o)(h:Q o s):dj (dz prog w) A (Builtin.Slice.slicePartIndex v) Q E s:=by
 cases p with
 |none=>exact slicePart_none h
 |int i t=>exact slicePart_int h
def aa5{vl vu:bh}{lo hi:Option Int}{n:Nat}{Q:Int×Int×Nat->dg->Prop}(hs:s.heap.IsSliceOf sl vl vu .none)(pl:IsPart vl lo)(pu:IsPart vu hi)
  (h:Q (((pQ n 0 lo:Nat):Int),1,pQ n n hi - pQ n 0 lo) s):dj (dz prog w) A (Builtin.Slice.sliceApplied (.ref sl) (pure (n:Int))) Q E s:=by
 let⟨os,Ce,EV,EU⟩:=id hs;unfold Builtin.Slice.sliceApplied Builtin.Slice.sliceFields;refine aq (aq (qx Ce EU (x:=vl) rfl (aq (qx Ce EU (x:=vu) rfl (aq (qx Ce EU (x:=.none) rfl (cu ?_)))))));refine aq (slicePart_none ?_);show dj _ _ (if((1:Int)==0)=ak then _ else _) _ _ s;rw[if_neg (by decide)];refine aq (RB pl (aq (RB pu (aq (cu ?_)))));show dj _ _ (match Builtin.Slice.sliceAdjust lo hi 1 (n:Int)with|(lo,hi)=>pure (lo,(1:Int),Builtin.Slice.slicePlaces lo hi 1)) _ _ s;rw[ZA lo hi n];show dj _ _ (pure (((pQ n 0 lo:Nat):Int),(1:Int),Builtin.Slice.slicePlaces ((pQ n 0 lo:Nat):Int) ((pQ n n hi:Nat):Int) 1)) _ _ s;rw[Zz];exact cu h
def aAT(xs:Array bh)(i k:Nat):((ou k).filterMap λ(m:Nat)=>xs[((i:Int)+(m:Int)*1).toNat]?).toArray=((xs.toList.drop i).take k).toArray:=by
 have e:(λ(m:Nat)=>xs[((i:Int)+(m:Int)*1).toNat]?)=λm=>xs[i+m]?:=by
  funext m;have:((i:Int)+(m:Int)*1).toNat=i+m:=by omega
  rw[this]
 rw[e];have:=pick_run xs i k;rw[List.filterMap_map]at this;have e2:((λx=>xs[x]?)∘λx=>i+x)=λm=>xs[i+m]?:=rfl;rw[e2]at this;rw[this]
def a86{t:bx}{items:Array bh}{vl vu:bh}{lo hi:Option Int}{Q:bh->dg->Prop}(ht:IsTup s.heap t items)(hs:s.heap.IsSliceOf sl vl vu .none)(pl:IsPart vl lo)(pu:IsPart vu hi)
  (hw:¬ (pQ items.size 0 lo=0/\pQ items.size items.size hi=items.size))
  (h:Q (.ref s.heap.objs.size) {s with heap:=s.heap.push {cls:=.type "tuple",data:=.seq ((items.toList.drop (pQ items.size 0 lo)).take (pQ items.size items.size hi - pQ items.size 0 lo)).toArray}})
  (hsz:items.size<=dh):dj (dz prog w) A (getItem (.ref t) (.ref sl)) Q E s:=by
 have Fo:sizeOk (.seq ((items.toList.drop (pQ items.size 0 lo)).take (pQ items.size items.size hi - pQ items.size 0 lo)).toArray):=by
  show((items.toList.drop (pQ items.size 0 lo)).take (pQ items.size items.size hi - pQ items.size 0 lo)).toArray.size<=dh;rw[gV,wu,List.length_drop,qp];omega
 have hj:pQ items.size items.size hi<=items.size:=aN4 _ _ (fj _) hi;let⟨os,Ce,EV,EU⟩:=id hs;have Xd:s.TypeIs (.ref sl) "slice":=⟨os,Ce,EV⟩;unfold getItem
 try with_reducible refine ud ?_
 first|refine aq (cu ?_)|skip
 refine aq (wpAny_sequenceKey ht.typeIs (by decide) ?_)
 refine aq (zf (name:=Str.ofString "__getitem__") ht.typeIs PyProof.Rows.slot_tuple_getitem
  (vm PyProof.Rows.slot_tuple_getitem ht.typeIs entry_tuple_getitem ?_ (args_tuple_getitem _ _)))
 show dj _ _ (Builtin.Tuple.tupleItemsOf (.ref t) >>= _) _ _ s;refine aq (tupleItemsOf_ ht ?_);refine aq (wpAny_typeOf Xd ?_);rw[if_pos (by decide)];refine aq (aa5 hs pl pu ?_)
 have qr:¬ ((((pQ items.size 0 lo:Nat):Int)==0&&(1:Int)==1&&(pQ items.size items.size hi - pQ items.size 0 lo)==items.size)=ak):=by
  intro q;rw[cg,cg]at q;have q1:((pQ items.size 0 lo:Nat):Int)=0:=eq_of_beq q.1.1;have q2:pQ items.size items.size hi - pQ items.size 0 lo=items.size:=eq_of_beq q.2;exact hw ⟨⋯,⋯⟩
 show dj _ _ (if(((pQ items.size 0 lo:Nat):Int)==0&&(1:Int)==1&&(pQ items.size items.size hi - pQ items.size 0 lo)==items.size)=ak then _ else _) _ _ s;rw[if_neg qr,aAT]
 first
  |exact aq (m:=Builtin.Tuple.tupleExact _) (qw (cu ⟨_,rfl,cu h⟩) Fo)
  |exact aq (m:=Builtin.Tuple.tupleExact _) (qw (aq (cu (cu ⟨_,rfl,cu h⟩))) Fo)
  |exact aq (aq (m:=Builtin.Tuple.tupleExact _) (qw (cu (cu ⟨_,rfl,cu h⟩)) Fo))
  |exact aq (aq (m:=Builtin.Tuple.tupleExact _) (qw (cu ⟨_,rfl,cu h⟩) Fo))
end
end HT
namespace L2
open PySem PySem.Spec PyProof.Rows
variable{r:V->Option Int->Option Int->Hp->VK->Prop}
section
@[simp]def TO:=St->Hp->(Option Int->Hp->Prop)->Prop
abbrev PO(X:Cx)(e:Option je)(t:TO):Prop :=
 ∀(ψ:List (bx×Obj))(s:dg)(σ:St)(H:Hp)(Q:Option Int->Hp->Prop),Inv X ψ σ H s->t σ H Q ->
  dj (dz X.prog X.w) X.A (evalPart e X.env) (λu s'=>∃o H',Inv X ψ σ H' s'/\IsPart u o/\Q o H') X.xe s
abbrev aGY:TO:=λ_ H Q=>Q au H
abbrev aSW(t:TE):TO:=λσ H Q=>t σ H λx H1=>∃i,x=.int i/\Q (aj i) H1
section
variable{X:Cx}{te:TE}{lo hi:Option je}{tl th:TO}{pos:Pos}
def aGZ:PO X au aGY:=by
 intro ψ s σ H Q I h;rw[evalPart_none];exact cu ⟨au,H,I,.none,h⟩
def aH0(h:PE X e te):PO X (aj e) (aSW te):=by
 intro ψ s σ H Q I hw;rw[evalPart_some];refine fW (h ψ s σ H _ I hw) ?_;rintro u s1 ⟨x,H1,I1,r1,q1⟩;let⟨i,rfl,q⟩:=q1;let⟨t,rfl⟩:=r1;exact⟨aj i,H1,I1,.int i t,q⟩
abbrev wx(X:Cx)(r:V->Option Int->Option Int->Hp->VK->Prop):Prop :=
 ∀(ψ:List (bx×Obj))(s:dg)(σ:St)(H:Hp)(x:V)(v vl vu:bh)(lo hi:Option Int)(sl:bx)(Q:VK),Inv X ψ σ H s->RelV x v->s.heap.IsSliceOf sl vl vu .none->IsPart vl lo->IsPart vu hi->r x lo hi H Q ->
  ∃T id,typeLookup (.type T) "__getitem__"=pure (aj (.builtin id))/\s.TypeIs v T/\dj (dz X.prog X.w) X.A (getItem v (.ref sl)) (EP X ψ σ Q) X.xe s
def wx.or(h:wx X r)(h':wx X r'):wx X (λx lo hi H Q=>r x lo hi H Q∨r' x lo hi H Q):=by
 intro ψ s σ H x v vl vu lo hi sl Q I rx hs pl pu q;rcases q with q|q
 .exact h ψ s σ H x v vl vu lo hi sl Q I rx hs pl pu q
 .exact h' ψ s σ H x v vl vu lo hi sl Q I rx hs pl pu q
abbrev Wb(r:V->Option Int->Option Int->Hp->VK->Prop)(te:TE)(tl th:TO):TE:=λσ H Q=>te σ H λx H1=>tl σ H1 λl H2=>th σ H2 λu H3=>r x l u H3 Q
def aAU(hr:wx X r)(he:PE X e te)(hl:PO X lo tl)(hu:PO X hi th):PE X (.Subscript e (.Slice lo hi au p2) pos) (Wb r te tl th):=by
 intro ψ s σ H Q I h;refine Subscript_ (fW (he ψ s σ H _ I h) ?_);rintro v s1 ⟨x,H1,I1,r1,q1⟩;refine wpAny_Slice (fW (hl ψ s1 σ H1 _ I1 q1) λvl s2 ⟨l,H2,I2,pl,q2⟩=>fW (hu ψ s2 σ H2 _ I2 q2) ?_);rintro vu s3 ⟨u,H3,I3,pu,q3⟩;rw[evalPart_none];refine cu ?_;have I4:Inv X ψ σ H3 {s3 with heap:=s3.heap.push {cls:=.type "slice",data:=.fields #[vl,vu,.none]}}:=I3.kept (t':=s3.toks) λb ob q=>cj _ q;let⟨T,id,hT,ht,hg⟩:=hr ψ {s3 with heap:=s3.heap.push {cls:=.type "slice",data:=.fields #[vl,vu,.none]}} σ H3 x v vl vu l u s3.heap.objs.size Q I4 r1 (Heap.IsSliceOf.new ..) pl pu q3;show dj (dz X.prog X.w) X.A (subscriptTail e (.Slice lo hi au p2) v (.ref s3.heap.objs.size)) (EP X ψ σ Q) X.xe {s3 with heap:=s3.heap.push {cls:=.type "slice",data:=.fields #[vl,vu,.none]}};exact tail_any (ops:=[.ref s3.heap.objs.size,v]) ht hT hg (by with_unfolding_all rfl)
abbrev pe(xs:List V)(lo hi:Option Int):List V:=(xs.drop (HT.pQ xs.length 0 lo)).take (HT.pQ xs.length xs.length hi - HT.pQ xs.length 0 lo)
def R6(xs:List V)(lo hi:Option Int):(pe xs lo hi).length<=xs.length:=by
 unfold pe;rw[wu,List.length_drop];omega
abbrev aXJ(K:jc):V->Option Int->Option Int->Hp->VK->Prop:=λx lo hi H Q=>∃a xs,x=.ref a/\br K H a xs /\
 ¬ (HT.pQ xs.length 0 lo=0/\HT.pQ xs.length xs.length hi=xs.length)/\∀p,H p=au->Q (.ref p) (upd H p (.tup (pe xs lo hi)))
def aN5:wx X (aXJ X.K):=by
 intro ψ s σ H x v vl vu lo hi sl Q I rx hs pl pu h;let⟨a,xs,rfl,hx,hw,q⟩:=h;cases rx;let⟨its,r,ht,hz⟩:=I.tuple hx;have hlen:its.toArray.size=xs.length:=by rw[gV];exact r.length.symm
 refine⟨"tuple",_,PyProof.Rows.slot_tuple_getitem.lookup,ht.typeIs,?_⟩;refine HT.a86 ht hs pl pu (by rw[hlen];exact hw) ?_ (by rw[hlen];exact hz);rw[hlen];refine⟨.ref s.heap.objs.size,_,I.laid (t':=s.toks) (o:=.tup (pe xs lo hi)) (λb ob q=>cj _ q) (fj _) ?_,rfl,q _ (I.aa.fresh (fj _))⟩;exact⟨qd (R6 xs lo hi) hz,_,(r.drop (HT.pQ xs.length 0 lo)).take (HT.pQ xs.length xs.length hi - HT.pQ xs.length 0 lo),IsTup.new _ _⟩
abbrev aSX(K:jc):R2:=λx y H Q=>∃a b xs ys,x=.ref a/\y=.ref b/\br K H a xs/\br K H b ys/\xs≠[]/\xs.length+ys.length<=dh /\
 (ys=[]->Q (.ref a) H)/\(ys≠[]->∀p,H p=au->Q (.ref p) (upd H p (.tup (xs++ys))))
def Vals.Dq(r:Vals xs us):us=[]↔xs=[]:=by
 cases r with
 |nil=>simp
 |cons _ _=>simp
def aH1:bu X (yj .Add) (aSX X.K):=by
 intro ψ s σ H x y v u Q I rx ry h;let⟨a,b,xs,ys,rfl,rfl,ha,hb,hx,hz,q1,q2⟩:=h;cases rx;cases ry;let⟨its,r1,p1,_⟩:=I.tuple ha;let⟨bS,r2,p2,_⟩:=I.tuple hb;refine HT.aGX p1 p2 (λz=>hx (r1.Dq.mp z)) (λz=>⟨.ref a,H,I,rfl,q1 (r2.Dq.mp z)⟩) (λz=>?_) (by rw[←r1.length,←r2.length];exact hz);refine⟨.ref s.heap.objs.size,_,I.laid (t':=s.toks) (o:=.tup (xs++ys)) (λb ob q=>cj _ q) (fj _) ?_,rfl,q2 (λw=>z (r2.Dq.mpr w)) _ (I.aa.fresh (fj _))⟩;exact⟨by rw[uw];exact hz,_,r1.append r2,IsTup.new _ _⟩
end
end
variable{n:Nat}{i:Int}{x:V}{v:bh}
section
abbrev sR(n:Nat)(i:Int):Option Nat:=if 0<=i then(if i<n then aj i.toNat else au)else if -(n:Int)<=i then aj (i+n).toNat else au
abbrev c9{α:Type}(xs:List α)(i:Int):Option α:=(sR xs.length i).bind λj=>xs[j]?
def aH2{j:Nat}(h:sR n i=aj j):seqIndex? i n=aj j/\j<n/\-(n:Int)<=i/\i<n:=by
 unfold sR at h;by_cases h0:0<=i
 .rw[if_pos h0]at h;by_cases h1:i<n
  .rw[if_pos h1]at h;have e:i.toNat=j:=jt.inj h;exact⟨by rw[seqIndex_of h0 h1,e],⋯,⋯,h1⟩
  .rw[if_neg h1]at h;cases h
 .rw[if_neg h0]at h;by_cases h1:-(n:Int)<=i
  .rw[if_pos h1]at h;have e:(i+n).toNat=j:=jt.inj h;exact⟨by rw[seqIndex_neg ⋯ h1,e],⋯,h1,⋯⟩
  .rw[if_neg h1]at h;cases h
def JI{α:Type}{xs:List α}{v:α}(h:c9 xs i=aj v):∃j,seqIndex? i xs.length=aj j/\xs[j]?=aj v/\j<xs.length/\-(xs.length:Int)<=i/\i<xs.length:=by
 unfold c9 at h;cases e:sR xs.length i with
 |none=>rw[e]at h;cases h
 |some j =>
  rw[e]at h;let⟨h1,h2,h3,h4⟩:=aH2 e;exact⟨j,h1,h,h2,h3,h4⟩
abbrev JH(b:je):Prop:=∀o i,subscripted b ao o i=operate [o,i] (getItem o i)
abbrev sD(X:Cx)(r:R2):Prop :=
 ∀(value slice:je)(ψ:List (bx×Obj))(s:dg)(σ:St)(H:Hp)(x y:V)(v u:bh)(Q:VK),Inv X ψ σ H s->RelV x v->RelV y u->r x y H Q ->
  subscripted slice ao v u=operate [v,u] (getItem v u)->dj (dz X.prog X.w) X.A (subscriptTail value slice v u) (EP X ψ σ Q) X.xe s
abbrev MtR(X:Cx)(id:String)(r:V->List V->Hp->VK->Prop):Prop :=
 ∀(ψ:List (bx×Obj))(s:dg)(σ:St)(H:Hp)(x:V)(xs:List V)(v:bh)(us:List bh)(Q:VK),Inv X ψ σ H s->RelV x v->Vals xs us->r x xs H Q ->
  dj (dz X.prog X.w) X.A (call (.builtin id) (v::us)) (EP X ψ σ Q) X.xe s
variable{r:R2}
section
variable{X:Cx}{a b:je}{pos:Pos}
def sD.or(h:sD X r)(h':sD X r'):sD X (λx y H Q=>r x y H Q∨r' x y H Q):=by
 intro value slice ψ s σ H x y v u Q I rx ry q hs;rcases q with q|q
 .exact h value slice ψ s σ H x y v u Q I rx ry q hs
 .exact h' value slice ψ s σ H x y v u Q I rx ry q hs
def aSY(hr:sD X r)(ha:PE X a ta)(hb:PE X b tb)(hs:JH b):PE X (.Subscript a b pos) (Ao r ta tb):=by
 intro ψ s σ H Q I h;exact Subscript_ (Ll ha hb I h λv u s2 x y H2 I2 rx ry q=>hr a b ψ s2 σ H2 x y v u Q I2 rx ry q (hs _ _))
abbrev Sr(K:jc):R2:=λx y H Q=>∃p xs i v,x=.ref p/\y=.int i/\cS K H p xs/\c9 xs i=aj v/\Q v H
abbrev Sq(K:jc):R2:=λx y H Q=>∃p xs i v,x=.ref p/\y=.int i/\br K H p xs/\c9 xs i=aj v/\Q v H
abbrev So:R2:=λx y H Q=>∃z i c,x=.str z/\y=.int i/\z.length<=dh/\c9 z.cps.toList i=aj c/\Q (.str ⟨#[c]⟩) H
def aH4:sD X (Sr X.K):=by
 intro value slice ψ s σ H x y v u Q I rx ry h hs;let⟨p,xs,i,z,rfl,rfl,hq,he,q⟩:=h;cases rx;let⟨t,rfl⟩:=ry;let⟨its,r,pl,hz⟩:=I.list hq;let⟨j,h1,h2,h3,h4,h5⟩:=JI he;let⟨w,ew,fE⟩:=r.get h2;have hl:=r.length;have hn:=C3;have fin:EP X ψ σ Q w s:=⟨z,H,I,fE,q⟩;by_cases h0:0<=i
 .have hj:i.toNat=j:=by
   rw[seqIndex_of h0 h5]at h1;exact jt.inj h1
  exact item_listR pl.isList h0 ⋯ (by rw[hj];simpa using ew) fin hs
 .have hj:(i+(its.toArray.size:Int)).toNat=j:=by
   rw[seqIndex_neg ⋯ h4]at h1;rw[gV,←hl];exact jt.inj h1
  exact subscriptTail_builtinR (x:=w) pl.isList.typeIs slot_list_getitem.lookup
   (wpAny_getItem_list_neg (Q:=λr s'=>r=w/\EP X ψ σ Q r s') pl.isList ⋯ (by rw[gV]<;>omega) ⋯ (by rw[hj];simpa using ew) ⟨rfl,fin⟩) hs
def aN6:sD X (Sq X.K):=by
 intro value slice ψ s σ H x y v u Q I rx ry h hs;let⟨p,xs,i,z,rfl,rfl,hq,he,q⟩:=h;cases rx;let⟨t,rfl⟩:=ry;let⟨its,r,pl,hz⟩:=I.tuple hq;let⟨j,h1,h2,h3,h4,h5⟩:=JI he;let⟨w,ew,fE⟩:=r.get h2;have hl:=r.length;have hn:=C3;have fin:EP X ψ σ Q w s:=⟨z,H,I,fE,q⟩
 exact subscriptTail_builtinR (x:=w) pl.typeIs slot_tuple_getitem.lookup
  (getItem_tuple (j:=j) (Q:=λr s'=>r=w/\EP X ψ σ Q r s') pl ⋯ ⋯ (by rw[gV,←hl];exact h1) (by simpa using ew) ⟨rfl,fin⟩) hs
def aN7:sD X So:=by
 intro value slice ψ s σ H x y v u Q I rx ry h hs;let⟨z,i,c,rfl,rfl,hz,he,q⟩:=h;let⟨t,rfl⟩:=rx;let⟨t',rfl⟩:=ry;let⟨j,h1,h2,h3,h4,h5⟩:=JI he;have hl:z.cps.toList.length=z.length:=by simp[Str.length]
 rw[hl]at h1 h4 h5;have hn:=C3
 exact tail_any (typeIs_str s z t) slot_str_getitem.lookup (getItem_str (c:=c) (by
  have e1:decide (i< -(2^63:Int))=ao:=decide_eq_false ⋯;have e2:decide (i≥2^63)=ao:=decide_eq_false ⋯;rw[e1,e2,Bool.or_false]) (by rw[h1];simpa using h2) ⟨.str ⟨#[c]⟩,H,I.tok _,⟨_,rfl⟩,q⟩) hs
abbrev Wn(K:jc):R2:=λx y H Q=>Sr K x y H Q∨Sq K x y H Q∨So x y H Q
def aN8:sD X (Wn X.K):=aH4.or (aN6.or aN7)
def akS(lo hi:Option Int)(n:Nat):(y8 lo hi au n).1=((HT.pQ n 0 lo:Nat):Int)/\(y8 lo hi au n).2.1=((HT.pQ n n hi:Nat):Int)/\(y8 lo hi au n).2.2=1:=by
 refine⟨?_,?_,rfl⟩
 .cases lo with
  |none=>simp[y8,HT.pQ]
  |some i =>
   simp only[y8,HT.pQ,Option.getD_none,show(1:Int)>0 by decide,if_true];by_cases h:i<0
   .simp only[h,if_true]<;>omega
   .simp only[h,if_false]<;>omega
 .cases hi with
  |none=>simp[y8,HT.pQ]
  |some i =>
   simp only[y8,HT.pQ,Option.getD_none,show(1:Int)>0 by decide,if_true];by_cases h:i<0
   .simp only[h,if_true]<;>omega
   .simp only[h,if_false]<;>omega
def ahN(its:List bh)(lo hi:Option Int):slicePick its.toArray lo hi au=((its.drop (HT.pQ its.length 0 lo)).take (HT.pQ its.length its.length hi - HT.pQ its.length 0 lo)).toArray:=by
 let⟨h1,h2,h3⟩:=akS lo hi its.toArray.size;unfold slicePick;rw[h1,h2,h3];simp only[sliceRange_one,pick_run,gV]<;>rfl
abbrev aXK(K:jc):V->Option Int->Option Int->Hp->VK->Prop:=λx lo hi H Q=>∃a xs,x=.ref a/\cS K H a xs/\∀p,H p=au->Q (.ref p) (upd H p (.lst (pe xs lo hi)))
def aH5:wx X (aXK X.K):=by
 intro ψ s σ H x v vl vu lo hi sl Q I rx hs pl pu h;let⟨a,xs,rfl,hx,q⟩:=h;cases rx;let⟨its,r,ht,hz⟩:=I.list hx;have hlen:=r.length;refine⟨"list",_,slot_list_getitem.lookup,ht.isList.typeIs,?_⟩;refine wpAny_getItem_list_slice ht.isList hs pl pu .none (by simp) ?_ (by rw[gV]<;>omega);rw[ahN,←hlen];refine⟨.ref s.heap.objs.size,_,I.laid (t':=s.toks) (o:=.lst (pe xs lo hi)) (λb ob q=>cj _ q) (fj _) ?_,rfl,q _ (I.aa.fresh (fj _))⟩;exact⟨qd (R6 xs lo hi) hz,_,0,(r.drop (HT.pQ xs.length 0 lo)).take (HT.pQ xs.length xs.length hi - HT.pQ xs.length 0 lo),ig _ rfl⟩
abbrev k8:V->Bool
 |.ae=>ak
 |.bl _=>ak
 |.int _=>ak
 |.str _=>ak
 |_=>ao
abbrev kM:V->V->Bool
 |.ae,.ae=>ak
 |.bl a,.bl b=>a==b
 |.bl a,.int b=>(if a then 1 else 0)==b
 |.int a,.bl b=>a==(if b then 1 else 0)
 |.int a,.int b=>a==b
 |.str a,.str b=>a==b
 |_,_=>ao
def Ud{A:lu}(ry:RelV y u)(rx:RelV x v)(fy:k8 y=ak)(fx:k8 x=ak):SeqAt.EqAt A s u v (kM y x):=by
 cases y with
 |ae =>
  cases ry;cases x with
  |ae=>cases rx;exact SeqAt.EqAt.same _
  |bl b=>cases rx;exact SeqAt.EqAt.none_bool b
  |int b=>let⟨t,rfl⟩:=rx;exact SeqAt.EqAt.none_int b t
  |str b=>let⟨t,rfl⟩:=rx;exact SeqAt.EqAt.none_str b t
  |_=>exact absurd (show ao=ak from fx) qg
 |bl a =>
  cases ry;cases x with
  |ae=>cases rx;exact SeqAt.EqAt.bool_none a
  |bl b=>cases rx;exact SeqAt.EqAt.bool_bool a b
  |int b=>let⟨t,rfl⟩:=rx;exact SeqAt.EqAt.bool_int a b t
  |str b=>let⟨t,rfl⟩:=rx;exact SeqAt.EqAt.bool_str a b t
  |_=>exact absurd (show ao=ak from fx) qg
 |int a =>
  let⟨t',rfl⟩:=ry;cases x with
  |ae=>cases rx;exact SeqAt.EqAt.int_none a t'
  |bl b=>cases rx;exact SeqAt.EqAt.int_bool a t' b
  |int b=>let⟨t,rfl⟩:=rx;exact SeqAt.EqAt.int_int a t' b t
  |str b=>let⟨t,rfl⟩:=rx;exact SeqAt.EqAt.int_str a t' b t
  |_=>exact absurd (show ao=ak from fx) qg
 |str a =>
  let⟨t',rfl⟩:=ry;cases x with
  |ae=>cases rx;exact SeqAt.EqAt.str_none a t'
  |bl b=>cases rx;exact SeqAt.EqAt.str_bool a t' b
  |int b=>let⟨t,rfl⟩:=rx;exact SeqAt.EqAt.str_int a t' b t
  |str b=>let⟨t,rfl⟩:=rx;exact SeqAt.EqAt.str_str a t' b t
  |_=>exact absurd (show ao=ak from fx) qg
 |_=>exact absurd (show ao=ak from fy) qg
abbrev qB(x:V)(u:bh):Bool:=match u with
 |.none=>kM .ae x
 |.bool b=>kM (.bl b) x
 |.int i _=>kM (.int i) x
 |.str z _=>kM (.str z) x
 |_=>ao
def Uc(r:RelV y u)(f:k8 y=ak):qB x u=kM y x:=by
 cases y with
 |ae=>cases r;rfl
 |bl b=>cases r;rfl
 |int i=>let⟨t,rfl⟩:=r;rfl
 |str z=>let⟨t,rfl⟩:=r;rfl
 |_=>exact absurd (show ao=ak from f) qg
def JG{x:V}:∀{xs:List V}{us:List bh},Vals xs us->xs.all k8=ak->us.any (qB x)=xs.any λy=>kM y x
 |_,_,.nil,_=>rfl
 |y::xs,u::us,.cons r t,f=>by
  rw[zx,cg]at f;rw[zd,zd,Uc r f.1,JG t f.2]
def Kr{A:lu}{x:V}{v:bh}(rx:RelV x v)(fx:k8 x=ak):∀{xs:List V}{us:List bh},Vals xs us->xs.all k8=ak->∀u∈us,SeqAt.EqAt A s u v (qB x u)
 |_,_,.nil,_=>λu hu=>by cases hu
 |y::xs,u::us,.cons r t,f=>λu' hu=>by
  rw[zx,cg]at f;rcases jm.mp hu with rfl|hu
  .rw[Uc r f.1];exact Ud r rx f.1 fx
  .exact Kr rx fx t f.2 u' hu
abbrev EC(x:V)(xs:List V):Bool:=xs.any λy=>kM y x
abbrev Wo(K:jc)(neg:Bool):R2:=λx y H Q=>∃p xs,y=.ref p/\(cS K H p xs∨br K H p xs)/\k8 x=ak/\xs.all k8=ak/\Q (.bl (if neg then !EC x xs else EC x xs)) H
def akU:bu X (nj .NotIn) (Wo X.K ak):=by
 intro ψ s σ H x y v u Q I rx ry h;let⟨p,xs,rfl,hq,fx,fs,q⟩:=h;cases ry;rcases hq with hq|hq
 .obtain⟨its,r,pl,hz⟩:=I.list hq;refine SeqAt.notIn_listAt (qB x) pl.isList (λw hw=>Kr rx fx r fs w (by simpa using hw)) ⟨.bl _,H,I,rfl,?_⟩;rw[show its.toArray.any (qB x)=its.any (qB x) by simp,JG r fs];exact q
 .obtain⟨its,r,pl,hz⟩:=I.tuple hq;refine SeqAt.notIn_tupleAt (qB x) pl (λw hw=>Kr rx fx r fs w (by simpa using hw)) ⟨.bl _,H,I,rfl,?_⟩;rw[show its.toArray.any (qB x)=its.any (qB x) by simp,JG r fs];exact q
def akV:pv X (.builtin "len") (λxs H Q=>∃p ys,xs=[.ref p]/\(cS X.K H p ys∨br X.K H p ys)/\Q (.int ys.length) H):=by
 intro ψ s σ H xs us Q I r h;let⟨p,ys,rfl,hq,q⟩:=h;let⟨u,rfl,rx⟩:=vals1 r;cases rx;have hn:=C3;rcases hq with hq|hq
 .obtain⟨its,r',pl,hz⟩:=I.list hq;have hlen:=r'.length;exact Calls.call_len_list pl.isList (by simp only[gV]<;>omega) ⟨.int ys.length,H,I.tok _,⟨s.toks+1,by rw[gV,hlen]⟩,q⟩
 .obtain⟨its,r',pl,hz⟩:=I.tuple hq;have hlen:=r'.length;exact len_tuple pl (by simp only[gV]<;>omega) ⟨.int ys.length,H,I.tok _,⟨s.toks+1,by rw[gV,hlen]⟩,q⟩
def akW:pv X (.builtin "len") (λxs H Q=>∃z,xs=[.str z]/\z.length<=dh/\Q (.int z.length) H):=by
 intro ψ s σ H xs us Q I r h;let⟨z,rfl,hz,q⟩:=h;let⟨u,rfl,t,rfl⟩:=vals1 r;have hn:=C3;exact len_str ⋯ ⟨.int z.length,H,I.tok _,⟨_,rfl⟩,q⟩
def pv.or{r:List V->Hp->VK->Prop}(h:pv X f r)(h':pv X f r'):pv X f (λxs H Q=>r xs H Q∨r' xs H Q):=by
 intro ψ s σ H xs us Q I rs q;rcases q with q|q
 .exact h ψ s σ H xs us Q I rs q
 .exact h' ψ s σ H xs us Q I rs q
def akX:pv X (.type "list") (λxs H Q=>∃p ys,xs=[.ref p]/\(cS X.K H p ys∨br X.K H p ys)/\∀l,H l=au->Q (.ref l) (upd H l (.lst ys))):=by
 intro ψ s σ H xs us Q I r h;let⟨p,ys,rfl,hq,q⟩:=h;let⟨u,rfl,rx⟩:=vals1 r;cases rx
 have fin:∀(its:List bh),Vals ys its->ys.length<=dh->∀(h':kh)(c':Nat),(∀b o',s.heap.get? b=aj o'->h'.get? b=aj o') ->
   h'.get? s.heap.objs.size=aj {cls:=.type "list",dict:=none,data:=.seq its.toArray c',slots:=#[]}->EP X ψ σ Q (.ref s.heap.objs.size) {s with heap:=h' }:=λits r' hz h' c' kp e =>
  ⟨.ref s.heap.objs.size,_,I.laid (t':=s.toks) kp (fj _) (show iZ X.prog X.w _ h' _ (.lst ys)from⟨hz,its,c',r',e⟩),rfl,q _ (I.aa.fresh (fj _))⟩
 rcases hq with hq|hq
 .obtain⟨its,r',pl,hz⟩:=I.list hq;have hlen:=r'.length;let⟨o,ho,hc,n,hd⟩:=pl.isList;exact call_list_seq p (.inl rfl) ho hc hd (λh' c' kp e=>fin its r' hz h' c' kp e) (by simp only[gV]<;>omega)
 .obtain⟨its,r',pl,hz⟩:=I.tuple hq;have hlen:=r'.length;let⟨o,ho,hc,n,hd⟩:=pl;exact call_list_seq p (.inr rfl) ho hc hd (λh' c' kp e=>fin its r' hz h' c' kp e) (by simp only[gV]<;>omega)
abbrev Nl(K:jc)(T:String)(x:V)(H:Hp):Prop:=match x with
 |.str _=>T="str"
 |.int _=>T="int"
 |.ref p=>(T="list"/\∃xs,cS K H p xs)∨(T="tuple"/\∃o,K.lookup p=aj o/\o.cls=.type "tuple"/\o.dict=au) ∨
   (T="dict"/\((∃kvs,H p=aj (.dK kvs))∨∃kvs,H p=aj (.dT kvs)))∨(T="set"/\∃S n,H p=aj (.set S n))
 |_=>False
def Ub{ψ:List (bx×Obj)}{s:dg}{T:String}(I:Inv X ψ σ H s)(r:RelV x v)(ty:Nl X.K T x H) :
  s.TypeIs v T/\∀a,v=.ref a->∃ob,s.heap.get? a=aj ob/\ob.dict=au:=by
 cases x with
 |str z =>
  let⟨t,rfl⟩:=r;cases(show T="str" from ty);exact⟨typeIs_str s z t,λ_ e=>nomatch e⟩
 |int i =>
  let⟨t,rfl⟩:=r;cases(show T="int" from ty);exact⟨typeIs_int s i t,λ_ e=>nomatch e⟩
 |ref p =>
  cases r;rcases ty with⟨rfl,xs,hq⟩|⟨rfl,o,hk,hc,hd⟩|⟨rfl,hk⟩|⟨rfl,S,n,hk⟩
  .obtain⟨its,_,pl,_⟩:=I.list hq;refine⟨pl.isList.typeIs,λa e=>?_⟩;cases e;let⟨o,n,e,c,hd,_⟩:=pl;exact⟨o,e,hd⟩
  .refine⟨⟨o,I.cz p o hk,hc⟩,λa e=>?_⟩;cases e;exact⟨o,I.cz _ o hk,hd⟩
  .have z:∃o,s.heap.get? p=aj o/\o.ExactDict:=by
    rcases hk with⟨kvs,hk⟩|⟨kvs,hk⟩
    .obtain⟨_,_,_,_,o,_,_,e,ex,_⟩:=I.aa p _ hk;exact⟨o,e,ex⟩
    .obtain⟨_,_,_,_,o,_,_,e,ex,_⟩:=I.aa p _ hk;exact⟨o,e,ex⟩
   let⟨o,e,ex⟩:=z;refine⟨⟨o,e,ex.1⟩,λa e2=>?_⟩;cases e2;exact⟨o,e,ex.2.1⟩
  .obtain⟨o,_,_,_,e,ex,_⟩:=I.aa p _ hk;refine⟨⟨o,e,ex.1⟩,λa e2=>?_⟩;cases e2;exact⟨o,e,ex.2.1⟩
 |_=>exact False.elim ty
end
end
variable{its:List bh}{t':Nat}
section
abbrev MtM(X:Cx)(id:String)(r:V->List V->Hp->VK->Prop):Prop :=
 ∀(ψ:List (bx×Obj))(s:dg)(σ:St)(H:Hp)(x:V)(xs:List V)(v:bh)(us:List bh)(Q:VK),Inv X ψ σ H s->RelV x v->Vals xs us->r x xs H Q ->
  dj (dz X.prog X.w) X.A (call (.builtin id) (v::us)) (EP X ψ σ Q) X.xe s
def Vals.one(h:Vals [x] us):∃u,us=[u]/\RelV x u:=by
 cases h with
 |cons r h=>cases h;exact⟨_,rfl,r⟩
section
variable{ψ:List (bx×Obj)}{s:dg}{l:bx}{xs ys:List V}
def Inv.aXL{its':List bh}(I:Inv X ψ σ H s)(hH:H l=aj (.lst xs))
  (e:s.heap.get? l=aj {cls:=.type "list",data:=.seq its.toArray n})(hf:f its.toArray=its'.toArray)(hv:Vals ys its')(hz:ys.length<=dh) :
  Inv X ψ σ (upd H l (.lst ys)) {s with heap:=s.heap.update l (Obj.mapSeq f),toks:=t' }:=by
 have q:=PySem.IsL.update e f;rw[hf]at q;refine I.write (x:=l) (e:=l) (by rw[hH];exact trivial) (.inl rfl) (λb' u hb hu=>(Heap.get?_update_other s.heap (Obj.mapSeq f) (Ne.symm hb)).trans hu) ⟨_,q⟩ ?_;exact⟨hz,its',_,hv,q⟩
def Inv.Sn(I:Inv X ψ σ H s)(hv:Vals ys its)(hz:ys.length<=dh) :
  Inv X ψ σ (upd H s.heap.objs.size (.lst ys)) {s with heap:=s.heap.push {cls:=.type "list",data:=.seq its.toArray},toks:=t' } :=
 I.laid (λ_ _ q=>cj _ q) (fj _) ⟨hz,its,0,hv,ig _ rfl⟩
def Inv.fresh(I:Inv X ψ σ H s):H s.heap.objs.size=au:=I.aa.fresh (fj _)
def Inv.Li(I:Inv X ψ σ H s)(hH:H l=aj (.lst xs)):xs.length<=dh/\∃(its:List bh)(n:Nat),Vals xs its/\xs.length=its.length/\s.heap.get? l=aj {cls:=.type "list",data:=.seq its.toArray n}:=by
 let⟨z,its,n,r,e⟩:=I.aa l _ hH;exact⟨z,its,n,r,r.length,e⟩
end
section
abbrev aH7:V->List V->Hp->VK->Prop:=λx vs H Q=>∃l xs y,x=.ref l/\vs=[y]/\H l=aj (.lst xs)/\xs.length<dh/\Q .ae (upd H l (.lst (xs++[y])))
def Q1:MtM X "list.append" aH7:=by
 intro ψ s σ H x vs v us Q I rx rv h;let⟨l,xs,y,rfl,rfl,hH,hz,q⟩:=h;cases rx;let⟨u,rfl,ru⟩:=rv.one;let⟨z,its,n,r,hl,e⟩:=I.Li hH;refine call_meets F.slot_list_append ⟨_,e,rfl⟩ F.entry_list_append (F.args_list_append_2 _ _) (PySem.list_append l its.toArray n u (by rw[gV];omega)) ⟨e,?_⟩;refine⟨.ae,_,I.aXL (its':=its++[u]) hH e (by simp) (r.append (.cons ru .nil)) ?_,rfl,q⟩;rw[uw,List.length_singleton];omega
abbrev aXM:R2:=λx y H Q=>∃l b xs zs,x=.ref l/\y=.ref b/\H l=aj (.lst xs)/\H b=aj (.lst zs)/\xs.length+zs.length<=dh/\∀p,H p=au->Q (.ref p) (upd H p (.lst (xs++zs)))
def aNA:bu X (yj .Add) aXM:=by
 intro ψ s σ H x y v u Q I rx ry h;let⟨l,b,xs,zs,rfl,rfl,hH,hB,hz,q⟩:=h;cases rx;cases ry;let⟨z,its,n,r,hl,e⟩:=I.Li hH;let⟨z2,bS,n2,r2,EO,e2⟩:=I.Li hB;refine PySem.P.add_list e e2 ?_ (by rw[gV,gV];omega);have ea:its.toArray++bS.toArray=(its++bS).toArray:=by simp
 rw[ea];exact⟨.ref _,_,I.Sn (t':=s.toks) (r.append r2) (by rw[uw];omega),rfl,q _ I.fresh⟩
end
section
end
section
end
end
end L2
namespace VY
open PySem PySem.W PySem.Calls PyProof.Rows
variable{h:kh}
def acO:∀(ns:List Int)(vs:List bh),WellAll P h vs (ns.map WData.int)->IntsAre vs ns:=by
 intro ns
 induction ns with
 |nil =>
  intro vs w;rw[List.map_nil]at w;cases w;exact .nil
 |cons n ns ih =>
  intro vs w;rw[kj]at w;cases w with
  |cons a b =>
   cases a;exact .cons _ _ (ih _ b)
variable{l:OpenLaw}{n:Nat}
def Yh(hn:l.most=aj n) 
  (sF:l.row.toRowW.claim.pre args=ak)(Io:WellAll P h vals args) :
  ∃a vs ns,vals=[bh.ref a]/\args=[WData.list (ns.map WData.int)]/\h.get? a=aj {cls:=.type "list",data:=.seq vs.toArray}/\IntsAre vs ns/\ns.length<=n:=by
 have EH:WShape.hasAll [] args [.list .int]=ak:=(pre_splitW sF).1;have hc:l.pre.holds [] {args:=args}=ak:=(pre_splitW sF).2;let⟨d,r,rfl,h1,h2⟩:=hasAllW_cons EH;obtain rfl:=hasAllW_nil h2;let⟨xs,rfl,h3⟩:=hasW_list h1;let⟨ns,rfl⟩:=items_int h3
 have hlen:ns.length<=n:=by
  unfold OpenLaw.pre at hc
  have h4:(WTm.not (.lt (.lit (.int (n:Int))) (.len (.arg 0)))).holds [] {args:=[.list (ns.map .int)]}=ak:=by
   have h4:=(holds_andW hc).1;rw[hn]at h4;exact h4
  have h5:=condW_of h4 (w_not (w_lt w_lit (w_len_list (w_arg rfl))));rw[gw]at h5;refine Nat.le_of_not_lt λq=>?_;have q':(n:Int)<((ns.length:Nat):Int):=by omega
  first
   |(rw[decide_eq_true q']at h5;exact absurd h5 (by decide))
   |(simp at h5;omega)
 cases Io with
 |cons w1 w2 =>
  cases w2;cases w1 with
  |list ho eR=>exact⟨_,_,ns,rfl,rfl,ho,acO ns _ eR,hlen⟩
def Yg(l:OpenLaw)(args:List WData):l.row.toRowW.claim.post args (.bool ak) args=ak :=
 postW_of (r:=l.row.toRowW) (X:=(ak==ak))
  (show WShape.has [] (.bool ak) .bool=ak by first|rfl|decide|simp[WShape.has,WShape.arms,WShape.armsAll])
  (show(WTm.eq .res (.lit (.bool ak))).value [] {args:=args,res:=some (.bool ak),after:=args}=aj (.bool (ak==ak))from w_eq_bool (w_res rfl) w_lit) rfl
def ε{d:DefRec}
  (hn:l.most=aj n)(Ch:d.params.defaults=[])
  (call:∀(w:ji)(ai af:dg)(mg mb:Str->Option bh)(fa:bx)(o:Obj)(pm cd doc:bh)(a:bx)(vs:List bh)(ns:List Int),
   Ground q loose [] XP w ai mg mb af.heap->YP w af.heap ->
   af.heap.get? fa=aj o->o.data=.func (docDef d.name d.params d.body d.scope pm cd doc)->af.heap.CodeRec cd d.name->mg d.name=aj (.ref fa) ->
   af.heap.get? a=aj {cls:=.type "list",data:=.seq vs.toArray}->IntsAre vs ns->ns.length<=n->af.gens=#[] ->
   k9 (dz l.prog w) callerA (.call (.ref fa) ⟨[.ref a],[]⟩) (λr s'=>r=.ok (.ret (.bool ak))/\OldK af.heap s'.heap/\s'.os=af.os/\AllBare s'.gens) af) :
  WalkO q loose XP YP l.row.toRowW d [] (λf vs=>PySem.call f vs):=by
 intro w ai af mg mb G Y fa o pm cd doc dV kV ho hd fw hD Cf hg args vals as sF hlay hrd Io EN;obtain rfl:dV=.none:=Dflts.none hD Ch;obtain rfl:kV=.none:=Dflts.noKw hD;let⟨a,vs,ns,rfl,rfl,Ad,hints,hlen⟩:=Yh hn sF Io;refine enter_call (codeAny_mono (call w ai af mg mb fa o pm cd doc a vs ns G Y ho (fd_plain hd) fw Cf Ad hints hlen hg) λr s' hq=>?_);let⟨rfl,h2,h3,h4⟩:=hq;exact⟨.inl ⟨.bool ak,.bool ak,[],rfl,λ_=>rfl,.bool ak,Yg l _,λ_=>⟨Bt.nil,λ_ hm=>(nomatch hm)⟩⟩,h2,h3,h4⟩
section
abbrev ledger(h:kh)(L d:bx):List (bx×Obj):=(ou h.objs.size).filterMap λa=>if a=L∨a=d then au else(h.get? a).map λo=>(a,o)
end
end VY
namespace L2
open PySem PySem.Spec PyProof.Rows
variable{mg:Str->Option bh}{x:Str}
section
def Q0:∀{vs:List bh}{ns:List Int},IntsAre vs ns->Vals (ns.map V.int) vs
 |_,_,.nil=>.nil
 |_,_,.cons n t h=>.cons ⟨t,rfl⟩ (Q0 h)
abbrev Aj(H:Hp):Prop:=∀b,H b=au∨∃o xs,H b=aj (.lH o (.lst xs))
private theorem aAY{w:ji}{K:jc}{k:Nat}{af:dg}{vs:List bh}{ns:List Int}
  (KX:K.In af.heap)(N5:af.heap.Ns jj mg)(hb:af.heap.Ns builtinsNs mb)(W9:∀x:Str,x≠"__name__"->mb x=mq x)(Ng:af.heap.NoLimit)(hg:af.gens=#[])
  (ha:af.heap.get? a=aj {cls:=.type "list",data:=.seq vs.toArray})(hi:IntsAre vs ns)(hl:ns.length<=dh)(hr:nO qt k callerA)
  (F:∀base:kh,K.In base->base.Ns jj mg->bQ qt P w K mg base CX k fa fd [x] sp)(Eh:∀(s:dg)(u:bh),BindsTo s fd ⟨[u],[]⟩ [(x,u)])
  (sT:∀H:Hp,Aj H->cS K H a (ns.map V.int)->sp [.ref a] H (λv _=>v=.bl ak) λ_ _ _=>False)
  (IH:∀H e s',CX [] H af (λ_ _ _=>False) e s'->False) :
  k9 (dz P w) callerA (.call (.ref fa) ⟨[.ref a],[]⟩) (λr s'=>r=.ok (.ret (.bool ak))/\OldK af.heap s'.heap/\s'.os=af.os/\AllBare s'.gens) af:=by
 have rv:=Q0 hi;have Nb:=hi.length
 have core:∀H:Hp,Aj H->cS K H a (ns.map V.int)->bz P w H af.heap->(∀b,H b≠au->b=a)->(H a≠au->K.lookup a=au) ->
   k9 (dz P w) callerA (.call (.ref fa) ⟨[.ref a],[]⟩) (λr s'=>r=.ok (.ret (.bool ak))/\OldK af.heap s'.heap/\s'.os=af.os/\AllBare s'.gens) af:=by
  intro H hO hS aa hA hK;have Pp:∀{b:bx}{o:Obj},af.heap.get? b=aj o->H b=au->(rn af.heap H).get? b=aj o:=λe n=>aA8 e n
  have B2:∀{b:bx}{o:Obj}{es:Array iX}{ep:Nat},af.heap.get? b=aj o->o.data=.dict es ep->H b=au:=λ{b o es ep} e d=>by
   cases q:H b with
   |none=>rfl
   |some u =>
    have e':b=a:=hA b (by rw[q];simp);subst e';rw[ha]at e;cases e;have d':Data.seq vs.toArray _=Data.dict es ep:=d;cases d'
  have Es:∀{b:bx}{m:Str->Option bh},af.heap.Ns b m->(rn af.heap H).Ns b m:=λ{b m} ⟨o,es,ep,e,d,r⟩=>⟨o,es,ep,Pp e (B2 e d),d,r⟩
  have Of:K.In (rn af.heap H):=λb o e=>Pp (KX b o e) (by
   cases q:H b with
   |none=>rfl
   |some u =>
    have e':b=a:=hA b (by rw[q];simp);subst e';rw[hK (by rw[q];simp)]at e;cases e)
  have hM:Mod K mg (rn af.heap H):=⟨Of,Es N5,⟨mb,Es hb,W9⟩,let⟨mc,h1,h2⟩:=Ng;⟨mc,Es h1,h2⟩⟩;have e0:yb P w K mg (rn af.heap H) callerA [] af H:=⟨rfl,hM,λb o e=>aGC e,Bs (Yr _ _),trivial,λb hb=>absurd (show b∈([]:List bx)from hb) (by simp),aa,.of_eq hg,.inl rfl⟩;refine codeAny_mono ((F _ Of (Es N5)).run callerA [] af H ⟨[.ref a],[]⟩ [.ref a] [.ref a] _ _ hr e0 (Eh af (.ref a)) (.cons rfl .nil) (sT H hO hS)) λr s' h=>?_;cases r with
  |error e=>exact(IH H e s' h).elim
  |ok fl =>
   cases fl with
   |next=>exact False.elim h
   |brk=>exact False.elim h
   |cont=>exact False.elim h
   |ret u =>
    let⟨v,H',os,bare,un,Nf,r',q⟩:=h;have q':v=.bl ak:=q;subst q';obtain rfl:u=bh.bool ak:=r';refine⟨rfl,OldK.of_keep λb o e=>?_,os,bare⟩;cases q:H b with
    |none=>exact un.keep b o e q (by intro z;exact absurd (show b∈([]:List bx)from z) (by simp)) (by simp)
    |some u =>
     rcases hO b with z|⟨ob,xs,z⟩
     .rw[q]at z;cases z
     .have z2:=un.oM b ob _ z;let⟨e1,_⟩:=aa b _ z;let⟨e2,_⟩:=Nf b _ z2;rw[e]at e1;cases e1;exact e2
 cases hk:K.lookup a with
 |some o =>
  have e:=KX a o hk;rw[ha]at e;cases e;refine core (λ_=>au) (λ_=>.inl rfl) (.inr ⟨_,vs.toArray,_,hk,rfl,rfl,rfl,by rw[gV,Nb];exact hl,by simpa using rv⟩) (λb u z=>by have z':(au:Option HO)=aj u:=z;cases z') (λb z=>absurd rfl z) λz=>absurd rfl z
 |none =>
  refine core (λb=>if b=a then aj (.lH {cls:=.type "list",data:=.seq vs.toArray} (.lst (ns.map V.int)))else au) (λb=>?_) (.inl (.inr ⟨{cls:=.type "list",data:=.seq vs.toArray},if_pos rfl⟩)) (λb u z=>?_) (λb z=>?_) λ_=>hk
  .by_cases hb:b=a
   .exact .inr ⟨_,_,if_pos hb⟩
   .exact .inl (if_neg hb)
  .by_cases hb:b=a
   .have z':=(if_pos hb).symm.trans z;cases z';subst hb;exact⟨ha,by rw[gw];exact hl,vs,_,rv,ha⟩
   .have z':=(if_neg hb).symm.trans z;cases z'
  .by_cases hb:b=a
   .exact hb
   .exact absurd (if_neg hb) z
end
variable{n:Nat}
section
def aH8{l:PySem.W.OpenLaw}{k:Nat}{q:lg}{loose:List Str}{XP:(Str->Option bh)->kh->Prop}{YP:ji->kh->Prop}{d:DefRec}{K:Params->jc}{CX:ji->D0}{sp:ji->Sp}
  (hn:l.most=aj n)(EK:n<=dh)(Ch:d.params.defaults=[])(hr:nO qt k callerA)
  (hY:∀(w:ji)(h:kh),YP w h->(K w.params).In h)
  (F:∀(w:ji)(mg:Str->Option bh)(fa:bx)(h:kh),(K w.params).In h->h.Ns jj mg->mg d.name=aj (.ref fa) ->
   ∃fd:jf,(∀(s:dg)(u:bh),BindsTo s fd ⟨[u],[]⟩ [(x,u)]) /\
    ∀base:kh,(K w.params).In base->base.Ns jj mg->bQ qt l.prog w (K w.params) mg base (CX w) k fa fd [x] (sp w))
  (sT:∀(w:ji)(H:Hp)(a:bx)(ns:List Int),ns.length<=n->Aj H->cS (K w.params) H a (ns.map V.int)->sp w [.ref a] H (λv _=>v=.bl ak) λ_ _ _=>False)
  (IH:∀(w:ji)(H:Hp)(s:dg)(e:bh)(s':dg),CX w [] H s (λ_ _ _=>False) e s'->False) :
  PySem.W.WalkO q loose XP YP l.row.toRowW d [] (λf vs=>PySem.call f vs):=by
 refine VY.ε hn Ch λw ai af mg mb fa o pm cd doc a vs ns G Y ho hd fw Cf Ad hints hlen hg=>?_;have KX:=hY w _ Y;let⟨fd,hb,hF⟩:=F w mg fa _ KX G.T.g Cf;exact aAY KX G.T.g G.T.b G.T.builtins G.T.nolimit hg Ad hints (qd hlen EK) hr hF hb (λH hO hS=>sT w H a ns hlen hO hS) λH e s'=>IH w H af e s'
end
variable{st:jo}
section
abbrev inClass(s:jo)(j:Nat):jo:=match s with
 |.ClassDef _ _ _ body _ _ _ _ _ _ _=>body.getD j (.Pass ⟨0,0,0,0⟩)
 |_=>.Pass ⟨0,0,0,0⟩
abbrev dM(s:jo):Arguments:=match s with
 |.FunctionDef _ a _ _ _ _ _ _ _ _=>a
 |_=>{posonlyargs:=[],args:=[],vararg:=none,kwonlyargs:=[],kw_defaults:=[],kwarg:=none,defaults:=[]}
abbrev cN(s:jo):List jo:=match s with
 |.FunctionDef _ _ b _ _ _ _ _ _ _=>b
 |_=>[]
abbrev bI(s:jo):zq:=match s with
 |.FunctionDef _ _ _ _ _ _ sc _ _ _=>sc
 |_=>{kind:=.function,names:=[],isGenerator:=false,isCoroutine:=false}
structure bE(K:jc)(x qual:Str)(st:jo)(f:bx)(fd:jf):Prop where
 ex:∃(oc:bh)(od:Option bx)(dV kV doc pm:bh)(an:Option bx)(dE ct:bh)(Av:Array (Option bh)),
  fd=qm x qual (dM st) (cN st) (bI st) dV kV doc pm an dE ct/\K.lookup f=aj ⟨oc,od,.func fd,Av⟩/\wc K dE qual=ak
 kp:tu K (.ref f)=ak
section
variable{K:jc}
def C1{qual:Str}{f:bx}{oc:bh}{od an:Option bx}{Av:Array (Option bh)}{dV kV doc pm dE ct:bh}(l:K.lookup f=aj ⟨oc,od,.func (qm x qual (dM st) (cN st) (bI st) dV kV doc pm an dE ct),Av⟩)
  (c:wc K dE qual=ak)(k:tu K (.ref f)=ak):bE K x qual st f (qm x qual (dM st) (cN st) (bI st) dV kV doc pm an dE ct):=⟨⟨oc,od,dV,kV,doc,pm,an,dE,ct,Av,rfl,l,c⟩,k⟩
end
section
end
def rl{c A B:Prop}[Decidable c](h1:c->A)(h2:¬ c->B):if c then A else B:=by
 by_cases h:c
 .rw[if_pos h];exact h1 h
 .rw[if_neg h];exact h2 h
abbrev aE(H H':Hp):Prop:=∀b o,H b=aj o->H' b=aj o
def aE.refl(H:Hp):aE H H:=λ_ _ h=>h
section
end
section
variable{κ:Type}[DecidableEq κ]
end
end
variable{h:kh}{b:bx}
section
@[simp]def NK:=List Int×Int
abbrev pd(h:kh)(k:NK)(a:bx):Prop:=∃o b t n,h.get? a=aj o/\o.cls=.type "tuple"/\o.data=.seq #[.ref b,.int k.2 t] n/\∀(P:lg)(w:ji),IsTupleKey (aQ P w) h (k.1.map Sum.inl) b
def Po{x y:List Int}(h:x.map (Sum.inl:Int->Key)=y.map Sum.inl):x=y:=by
 induction x generalizing y with
 |nil=>cases y with
  |nil=>rfl
  |cons _ _=>cases h
 |cons a r ih=>cases y with
  |nil=>cases h
  |cons b q =>
   rw[kj,kj]at h;injection h with h1 h2;injection h1 with h1;rw[h1,ih h2]
variable{x:NK}
def Ua{P:lg}{w:ji}(hx:pd h x a)(hy:pd h y a):x=y:=by
 let⟨o,b,t,n,e1,e2,e3,e4⟩:=hx;let⟨o',b',t',n',g1,g2,g3,g4⟩:=hy;rw[e1]at g1;cases g1;rw[e3]at g3;simp only[Data.seq.injEq,Array.mk.injEq,List.cons.injEq,bh.ref.injEq,bh.int.injEq,and_true]at g3;let⟨⟨rfl,h2,_⟩,_⟩:=g3;have:=Po ((e4 P w).inj (g4 P w));exact Prod.ext this h2
def aB0{P:lg}{w:ji}{k:NK}{d:bx}{o:Obj}{es ep}(x:pd h k a)(ho:h.get? d=aj o)(hd:o.data=.dict es ep)(hs:jr d h h'):pd h' k a:=by
 let⟨o',b,t,n,e1,e2,e3,e4⟩:=x
 have l8:a≠d:=by
  rintro rfl;rw[e1]at ho;cases ho;rw[hd]at e3;exact nomatch e3
 exact⟨o',b,t,n,(hs.2 a l8).trans e1,e2,e3,λP w=>(e4 P w).keeps ho hd hs⟩
section
variable{prog:lg}{w:ji}{A:lu}{s:dg}
abbrev Jk(prog:lg)(w:ji)(k:NK):Int:=reduceHash (Builtin.Tuple.tupleHashOf [tupleKeyHash (aQ prog w) (k.1.map Sum.inl),(aQ prog w).hash (.inl k.2)])
def Pn{k:NK}(x:pd s.heap k a):s.TypeIs (.ref a) "tuple":=let⟨o,_,_,_,ho,hc,_⟩:=x;⟨o,ho,hc⟩
def Ye{k:NK}(hu:A.units+8<qy)(hk:pd s.heap k a)(h:Q (Jk prog w k) {s with toks:=s.toks+(k.1.length+1+1+1)}) :
  dj (dz prog w) A (pyHash (.ref a)) Q E s:=by
 have hT:=Pn hk;let⟨o,b,t,n,ho,hc,hd,hi⟩:=hk;unfold pyHash
 first|unfold pyHashByItsType|skip
 first|refine aq (wpAny_cRoomFor_or (.inr ⋯) ?_)|skip
 refine aq (wpAny_specialOf hT PySem.F.slot_tuple_hash.lookup ?_);show dj _ _ (if(aj (bh.builtin "tuple.__hash__")==aj bh.none)=ak then _ else _) Q E s;rw[if_neg (by rw[beq_builtin_none];exact qg)];refine aq (wpAny_specialOf hT PySem.F.slot_tuple_hash.lookup ?_);show dj _ _ (callSpecialIfBoundUnlessNone? (.ref a) "__hash__" _ >>= _) Q E s;refine aq (wpAny_callSpecialIfBoundUnlessNone?_slot hT PySem.F.slot_tuple_hash (vm PySem.F.slot_tuple_hash hT PySem.F.entry_tuple_hash ?_ (PySem.F.args_tuple_hash_1 _)));show dj _ _ (Builtin.Tuple.tupleItemsOf (.ref a) >>= _) _ _ s;refine aq (wpAny_tupleItemsOf ho hd ?_);refine aq ?_;rw[←Array.forIn_toList];have hl:(k.1.map (Sum.inl:Int->Key)).length=k.1.length:=gw ..
 refine wpAny_forIn_list _
  (λrest (acc:Array Int) s'=>(rest=[bh.ref b,.int k.2 t]/\acc=#[]/\s'=s)∨(rest=[bh.int k.2 t]/\acc=#[tupleKeyHash (aQ prog w) (k.1.map Sum.inl)]/\s'={s with toks:=s.toks+(k.1.length+1)})∨(rest=[]/\acc=#[tupleKeyHash (aQ prog w) (k.1.map Sum.inl),(aQ prog w).hash (.inl k.2)]/\s'={s with toks:=s.toks+(k.1.length+1+1)}))
  _ ?_ ?_ _ _ (.inl ⟨rfl,rfl,rfl⟩)
 .rintro x rest acc s' (⟨hr,rfl,rfl⟩|⟨hr,rfl,rfl⟩|⟨hr,_⟩)
  .injection hr with h1 h2;subst h1 h2;refine aq (wpAny_pyHash_tuple (knd:=aQ prog w) (by show A.units+1<qy;omega) (hi prog w) ?_);rw[hl]
   first
    |exact cu (.inr (.inl ⟨rfl,rfl,rfl⟩))
    |exact aq (cu (cu (.inr (.inl ⟨rfl,rfl,rfl⟩))))
  .injection hr with h1 h2;subst h1 h2;refine aq ((aQ prog w).pyHash (R9 prog w k.2 t) ?_)
   first
    |exact cu (.inr (.inr ⟨rfl,rfl,rfl⟩))
    |exact aq (cu (cu (.inr (.inr ⟨rfl,rfl,rfl⟩))))
  .cases hr
 .rintro acc s' (⟨hr,_⟩|⟨hr,_⟩|⟨_,rfl,rfl⟩)
  .cases hr
  .cases hr
  .show dj _ _ (retInt (Builtin.Tuple.tupleHashOf [tupleKeyHash (aQ prog w) (k.1.map Sum.inl),(aQ prog w).hash (.inl k.2)])) _ _ _;refine wpAny_ret_mkInt ?_;show dj _ _ (if(decide (-(2:Int)^63<=Builtin.Tuple.tupleHashOf [tupleKeyHash (aQ prog w) (k.1.map Sum.inl),(aQ prog w).hash (.inl k.2)])&&decide (Builtin.Tuple.tupleHashOf [tupleKeyHash (aQ prog w) (k.1.map Sum.inl),(aQ prog w).hash (.inl k.2)]<2^63))=ak then _ else _) Q E _;unfold Jk reduceHash at h;by_cases hr:(decide (-(2:Int)^63<=Builtin.Tuple.tupleHashOf [tupleKeyHash (aQ prog w) (k.1.map Sum.inl),(aQ prog w).hash (.inl k.2)])&&decide (Builtin.Tuple.tupleHashOf [tupleKeyHash (aQ prog w) (k.1.map Sum.inl),(aQ prog w).hash (.inl k.2)]<2^63))=ak
   .rw[if_pos hr];rw[if_pos hr]at h;exact cu (by simpa[Nat.add_assoc]using h)
   .rw[if_neg hr];rw[if_neg hr]at h;exact aq (se (cu (by simpa[Nat.add_assoc]using h)))
def aH9(P:lg)(w0:ji)(hu:A.units+8<qy)(hx:pd s.heap x a)(hy:pd s.heap y b):SeqAt.EqAt A s (.ref a) (.ref b) (decide (x=y)):=by
 by_cases Cm:a=b
 .subst Cm;have e:x=y:=Ua (P:=P) (w:=w0) hx hy;subst e;rw[decide_eq_true rfl];exact SeqAt.EqAt.same _
 .obtain⟨o,b1,t,n,e1,e2,e3,e4⟩:=hx;let⟨o',b2,t',n',g1,g2,g3,g4⟩:=hy;refine SeqAt.EqAt.of_refs Cm ?_
  have z:=SeqAt.RcAt.tuples (A:=A) (s:=s) (e:=λj=>if j=0 then decide (x.1=y.1)else decide (x.2=y.2)) (show s.heap.IsTuple a #[.ref b1,.int x.2 t]from⟨o,e1,e2,n,e3⟩) (show s.heap.IsTuple b #[.ref b2,.int y.2 t']from⟨o',g1,g2,n',g3⟩) ⋯ (λj h1 h2=>by
   match j,h1,h2 with
   |0,_,_ =>
    rw[if_pos rfl];intro i8 w' E' Q' hq
    have e:decide (x.1.map (Sum.inl:Int->Key)=y.1.map Sum.inl)=decide (x.1=y.1):=by
     rw[decide_eq_decide];exact⟨Po,λz=>by rw[z]⟩
    exact wpAny_eqBool_tuple (knd:=aQ i8 w') (by show A.units+1<qy;omega) (e4 i8 w') (g4 i8 w') (by rw[e];exact hq)
   |1,_,_ =>
    rw[if_neg (by decide)];intro i8 w' E' Q' hq
    exact wpAny_eqBool_int (by
     have e:(x.2==y.2)=decide (x.2=y.2):=rfl
     first
      |exact hq
      |(rw[e];exact hq))
   |j+2,h1,_=>exact absurd h1 (by simp))
  have e:((ou (min (#[bh.ref b1,.int x.2 t]:Array bh).size (#[bh.ref b2,.int y.2 t']:Array bh).size)).all (λj=>if j=0 then decide (x.1=y.1)else decide (x.2=y.2))&&(#[bh.ref b1,.int x.2 t]:Array bh).size==(#[bh.ref b2,.int y.2 t']:Array bh).size)=decide (x=y):=by
   show((ou 2).all _&&ak)=_;rw[show ou 2=[0,1]from rfl];simp only[zx,List.all_nil,DC,if_true,Nat.one_ne_zero,if_false];rw[Bool.eq_iff_iff,cg,decide_eq_true_eq,decide_eq_true_eq,decide_eq_true_eq];exact⟨λz=>Prod.ext z.1 z.2,λz=>by rw[z];exact⟨rfl,rfl⟩⟩
  rw[e]at z;exact z
def Zy{m:Nat}{ks:List Key}(hk:IsTupleKey (aQ prog w) s.heap ks a)(h:Q ak s):dj (dz prog w) A (eqIsQuiet (m+1) (.ref a)) Q E s:=by
 have hT:=hk.typeIs;let⟨o,items,n,ho,_,hd,hi⟩:=hk;unfold eqIsQuiet;refine aq (wpAny_specialOf hT PySem.F.slot_tuple_eq.lookup ?_);show dj _ _ (isInstance (.ref a) (.type "tuple") >>= _) _ _ s;refine aq (wpAny_isInstance hT isSubtype_tuple_tuple ?_);simp only[wb,um,if_false];refine aq (DE ho hd ?_);refine aq ?_;show dj _ _ (forIn items _ _) _ _ s;rw[←Array.forIn_toList];refine wpAny_forIn_list _ (λrest r s'=>r.1=au/\s'=s/\∀v∈rest,carriedByValue v=ak) _ ?_ ?_ _ _ ⟨rfl,rfl,hi.byValue⟩
 .rintro v rest r s' ⟨hr,rfl,eR⟩;rw[eqIsQuiet_byValue _ (eR v yw)];refine aq (cu ?_);simp only[wb,um,if_false];exact cu ⟨rfl,rfl,λu qk=>eR u (qj _ qk)⟩
 .rintro⟨r1,r2⟩ s' ⟨hr,rfl,_⟩;simp only at hr;subst hr;exact cu h
def aB1{k:NK}(hk:pd s.heap k a)(h:Q ak s):dj (dz prog w) A (eqIsQuiet 8 (.ref a)) Q E s:=by
 have hT:=Pn hk;let⟨o,b,t,n,ho,_,hd,hi⟩:=hk;unfold eqIsQuiet;refine aq (wpAny_specialOf hT PySem.F.slot_tuple_eq.lookup ?_);show dj _ _ (isInstance (.ref a) (.type "tuple") >>= _) _ _ s;refine aq (wpAny_isInstance hT isSubtype_tuple_tuple ?_);simp only[wb,um,if_false];refine aq (DE ho hd ?_);refine aq ?_;rw[←Array.forIn_toList];refine wpAny_forIn_list _ (λrest r s'=>r.1=au/\s'=s/\∀v∈rest,v=.ref b∨v=.int k.2 t) _ ?_ ?_ _ _ ⟨rfl,rfl,λv hv=>by simpa using hv⟩
 .rintro v rest r s' ⟨hr,rfl,eR⟩;rcases eR v yw with rfl|rfl
  .refine aq (Zy (m:=6) (hi prog w) ?_);simp only[wb,um,if_false];exact cu ⟨rfl,rfl,λu qk=>eR u (qj _ qk)⟩
  .rw[eqIsQuiet_byValue _ rfl];refine aq (cu ?_);simp only[wb,um,if_false];exact cu ⟨rfl,rfl,λu qk=>eR u (qj _ qk)⟩
 .rintro⟨r1,r2⟩ s' ⟨hr,rfl,_⟩;simp only at hr;subst hr;exact cu h
end
abbrev aNB(prog:lg)(w:ji):HeapKind prog w NK where
 is:=pd
 hash:=Jk prog w
 draws:=λk=>k.1.length+1+1+1
 room:=λA=>A.units+8<qy
 inj:=λhx hy=>Ua (P:=prog) (w:=w) hx hy
 keeps:=λx ho hd hs=>aB0 (P:=prog) (w:=w) x ho hd hs
 pyHash:=λhu hk h=>Ye hu hk h
 eqBool:=λhu hx hy h=>aH9 prog w hu hx hy prog w _ _ h
 quiet:=λhk h=>aB1 hk h
end
variable{o:HO}{ψ:List (bx×Obj)}{i:Nat}{v:V}{pos:Pos}{r:R2}
section
inductive D where
 |ae|bl (b:Bool)|int (i:Int)|str (x:Str)|tup (xs:List D)|ref (a:bx)|ty (n:String)
@[simp]def Fg:=jc
@[simp]def rj(H:Hp)(a:bx)(xs:List V):Prop:=H a=aj (.tup xs)
def uv(h:H a=aj (.tup xs)):rj H a xs:=h
mutual
inductive RD(K:Fg)(H:Hp):D->V->Prop where
 |ae:RD K H .ae .ae
 |bl (b:Bool):RD K H (.bl b) (.bl b)
 |int (i:Int):RD K H (.int i) (.int i)
 |str (x:Str):RD K H (.str x) (.str x)
 |ty (n:String):RD K H (.ty n) (.ty n)
 |ref (a:bx):RD K H (.ref a) (.ref a)
 |tup {a:bx} {xs:List V} {ds:List D}:br K H a xs->cZ K H ds xs->rj H a xs->RD K H (.tup ds) (.ref a)
inductive cZ(K:Fg)(H:Hp):List D->List V->Prop where
 |nil:cZ K H [] []
 |cons {d:D} {v:V} {ds:List D} {vs:List V}:RD K H d v->cZ K H ds vs->cZ K H (d::ds) (v::vs)
end
structure Ts(H H':Hp):Prop where
 az:∀a xs,H a=aj (.tup xs)->H' a=aj (.tup xs)
 oM:∀a o u,H a=aj (.lH o u)->H' a=aj (.lH o u)
def Ts.refl(H:Hp):Ts H H:=⟨λ_ _ h=>h,λ_ _ _ h=>h⟩
def Ts.trans(a:Ts H H1)(b:Ts H1 H2):Ts H H2:=⟨λc xs h=>b.az c xs (a.az c xs h),λc o u h=>b.oM c o u (a.oM c o u h)⟩
def Ts.same(s:aE H H'):Ts H H':=⟨λa _ h=>s a _ h,λa _ _ h=>s a _ h⟩
def Ts.rd(t:Ts H H')(h:Rd H a (.tup xs)):Rd H' a (.tup xs):=by
 rcases h with h|⟨o,h⟩
 .exact .inl (t.az _ _ h)
 .exact .inr ⟨o,t.oM _ _ _ h⟩
def Ts.Ap{K:Fg}(t:Ts H H')(h:br K H a xs):br K H' a xs:=h.elim (λq=>.inl (t.rd q)) .inr
def rj.mono(t:Ts H H')(h:rj H a xs):rj H' a xs:=t.az _ _ h
def bM(h:H p=au):aE H (upd H p o):=λb u e=>by
 rw[bD (pX e h)];exact e
mutual
theorem RD.mono{K:Fg}{H H':Hp}(t:Ts H H'):∀{d:D}{v:V},RD K H d v->RD K H' d v
 |_,_,.ae=>.ae
 |_,_,.bl b=>.bl b
 |_,_,.int i=>.int i
 |_,_,.str x=>.str x
 |_,_,.ty n=>.ty n
 |_,_,.ref a=>.ref a
 |_,_,.tup h r e=>.tup (t.Ap h) (cZ.mono t r) (e.mono t)
theorem cZ.mono{K:Fg}{H H':Hp}(t:Ts H H'):∀{ds:List D}{vs:List V},cZ K H ds vs->cZ K H' ds vs
 |_,_,.nil=>.nil
 |_,_,.cons h r=>.cons (RD.mono t h) (cZ.mono t r)
end
section
variable{K:Fg}
def cZ.length:∀{ds:List D}{vs:List V},cZ K H ds vs->ds.length=vs.length
 |_,_,.nil=>rfl
 |_,_,.cons _ r=>congrArg (·+1) (cZ.length r)
def cZ.append:∀{ds:List D}{vs:List V}{es:List D}{ws:List V},cZ K H ds vs->cZ K H es ws->cZ K H (ds++es) (vs++ws)
 |_,_,_,_,.nil,s=>s
 |_,_,_,_,.cons h r,s=>.cons h (cZ.append r s)
def cZ.get:∀{ds:List D}{vs:List V}{i:Nat}{d:D},cZ K H ds vs->ds[i]?=aj d->∃v,vs[i]?=aj v/\RD K H d v
 |_,_,_,_,.nil,e=>by simp at e
 |_,_,0,_,.cons r _,e=>by simp at e;subst e;exact⟨_,rfl,r⟩
 |_,_,i+1,d,.cons _ t,e=>by
  let⟨u,h1,h2⟩:=cZ.get (i:=i) (d:=d) t (by simpa using e);exact⟨u,by simpa using h1,h2⟩
def cZ.F9:∀{ds:List D}{vs:List V}{i:Nat}{v:V},cZ K H ds vs->vs[i]?=aj v->∃d,ds[i]?=aj d/\RD K H d v
 |_,_,_,_,.nil,e=>by simp at e
 |_,_,0,_,.cons r _,e=>by simp at e;subst e;exact⟨_,rfl,r⟩
 |_,_,i+1,d,.cons _ t,e=>by
  let⟨u,h1,h2⟩:=cZ.F9 (i:=i) (v:=d) t (by simpa using e);exact⟨u,by simpa using h1,h2⟩
def cZ.drop:∀{ds:List D}{vs:List V}(n:Nat),cZ K H ds vs->cZ K H (ds.drop n) (vs.drop n)
 |_,_,0,r=>r
 |_,_,_+1,.nil=>.nil
 |_,_,n+1,.cons _ t=>cZ.drop n t
def cZ.take:∀{ds:List D}{vs:List V}(n:Nat),cZ K H ds vs->cZ K H (ds.take n) (vs.take n)
 |_,_,0,_=>.nil
 |_,_,_+1,.nil=>.nil
 |_,_,n+1,.cons r t=>.cons r (cZ.take n t)
def cZ.ints(ns:List Int):cZ K H (ns.map D.int) (ns.map V.int):=by
 induction ns with
 |nil=>exact .nil
 |cons n r ih=>exact .cons (.int n) ih
def cZ.Dq(r:cZ K H ds vs):vs=[]↔ds=[]:=by
 cases r<;>simp
end
@[simp]def DK:=Key ⊕ List Key
inductive GO where
 |lst (ds:List D)|fc (ds:List D)|cX (t:Bool) (kvs:List (DK×D))|ins (C:bx) (fs:List (Str×D))|ej (C:bx)|eA (o:Obj) (t:Bool) (kvs:List (DK×D))|dt (ds:List D)|B3 (kvs:List (NK×Int))|Aq (o:Obj) (kvs:List (NK×Int))
@[simp]def Gp:=Addr->Option GO
abbrev aM(G:Gp)(a:bx)(o:GO):Gp:=λb=>if b=a then aj o else G b
def aJ{o:GO}:aM G a o a=aj o:=by unfold aM;rw[if_pos rfl]
def aR{o:GO}(h:b≠a):aM G a o b=G b:=by unfold aM;rw[if_neg h]
def fG{o:GO}(h:G b=aj u)(n:G a=au):aM G a o b=aj u:=by
 rw[aR];exact h;intro e;subst e;rw[h]at n;cases n
abbrev Le(G G':Gp):Prop:=∀a o,G a=aj o->G' a=aj o
def Le.refl(G:Gp):Le G G:=λ_ _ h=>h
def Le.trans(a:Le G G1)(b:Le G1 G2):Le G G2:=λc o h=>b c o (a c o h)
def Le.new{o:GO}(n:G a=au):Le G (aM G a o):=λ_ _ h=>fG h n
abbrev kD:Key->D
 |.inl i=>.int i
 |.inr x=>.str x
abbrev dQ:DK->D
 |.inl k=>kD k
 |.inr ks=>.tup (ks.map kD)
inductive dP{α β:Type}(P:α->β->Prop):List α->List β->Prop where
 |nil:dP P [] []
 |cons {a:α} {b:β} {as:List α} {bs:List β}:P a b->dP P as bs->dP P (a::as) (b::bs)
def dP.imp{α β:Type}{P Q:α->β->Prop}(f:∀a b,P a b->Q a b):∀{as:List α}{bs:List β},dP P as bs->dP Q as bs
 |_,_,.nil=>.nil
 |_,_,.cons h r=>.cons (f _ _ h) (dP.imp f r)
def dP.length{α β:Type}{P:α->β->Prop}:∀{as:List α}{bs:List β},dP P as bs->as.length=bs.length
 |_,_,.nil=>rfl
 |_,_,.cons _ r=>congrArg (·+1) (dP.length r)
abbrev vI(C a:bx)(h:kh):Prop:=∃o vs,h.get? a=aj o/\o.cls=.ref C/\o.data=.fields vs
abbrev NF(k:NK):D:=.tup [.tup (k.1.map D.int),.int k.2]
abbrev aXO(P:lg)(w:ji)(a:bx)(xs:List (NK×bx×bh))(h:kh):Prop:=(a==ur)=ao/\∃o es ep,h.get? a=aj o/\o.ExactDict/\o.data=.dict es ep/\es.toList=xs.map (entryOfKey (aNB P w))/\(xs.map (·.1)).Nodup
abbrev aXP(K:Fg)(H:Hp)(p:NK×Int)(x:NK×bx×bh):Prop:=x.1=p.1/\RD K H (NF p.1) (.ref x.2.1)/\∃t,x.2.2=bh.int p.2 t
abbrev zz(K:Fg)(H:Hp)(a:bx)(kvs:List (NK×Int))(o:HO):Prop:=(kvs=[]/\o=.dT [])∨∃(P:lg)(w:ji)(xs:List (NK×bx×bh)),o=.ext (aXO P w a xs)/\Paired (aXP K H) kvs xs
def zz.imp{K:Fg}{o:HO}(h:zz K H a kvs o)(f:∀d v,RD K H d v->RD K H' d v):zz K H' a kvs o:=Or.imp id (λ⟨P,w,xs,e,r⟩=>⟨P,w,xs,e,Paired.Gb r λ_ _ z=>⟨z.1,f _ _ z.2.1,z.2.2⟩⟩) h
def zz.no{K:Fg}(h:zz K H a kvs o):(∀xs,o≠.tup xs)/\(∀ob w,o≠.lH ob w)/\(∀ps,o≠.iA ps)/\∀x,o≠.own x:=by
 rcases h with⟨_,rfl⟩|⟨P,w,xs,rfl,_⟩<;>exact⟨(λ_ z=>nomatch z),(λ_ _ z=>nomatch z),(λ_ z=>nomatch z),(λ_ z=>nomatch z)⟩
abbrev OR(K:Fg)(H:Hp)(a:bx):GO->Prop
 |.lst ds=>∃xs,H a=aj (.lst xs)/\cZ K H ds xs
 |.fc ds=>∃xs,cS K H a xs/\cZ K H ds xs
 |.cX t kvs=>(t=ao/\∃xs:List (Key×V),H a=aj (.dK xs)/\dP (λp q=>p.1=.inl q.1/\RD K H p.2 q.2) kvs xs) ∨
   (t=ak/\∃xs:List (List Key×V),H a=aj (.dT xs)/\dP (λp q=>p.1=.inr q.1/\RD K H p.2 q.2) kvs xs)
 |.ins C fs=>∃(dx:bx)(vs:List (Str×V)),H a=aj (.ins C dx vs)/\dP (λp q=>p.1=q.1/\RD K H p.2 q.2) fs vs
 |.eA o t kvs=>(t=ao/\∃xs:List (Key×V),H a=aj (.lH o (.dK xs))/\dP (λp q=>p.1=.inl q.1/\RD K H p.2 q.2) kvs xs) ∨
   (t=ak/\∃xs:List (List Key×V),H a=aj (.lH o (.dT xs))/\dP (λp q=>p.1=.inr q.1/\RD K H p.2 q.2) kvs xs)
 |.dt ds=>∃xs,br K H a xs/\cZ K H ds xs
 |.B3 kvs=>∃o,H a=aj o/\zz K H a kvs o
 |.Aq ob kvs=>∃o,H a=aj (.lH ob o)/\zz K H a kvs o
 |.ej C=>∃o vs,H a=aj (.lH o (.ext (vI C a)))/\o.data=.fields vs/\vs[2]?=aj .none
abbrev HR(K:Fg)(H:Hp)(G:Gp):Prop:=∀a o,G a=aj o->OR K H a o
def OR.keep{K:Fg}{o:GO}(t:Ts H H')(h:OR K H a o)(k:∀u,H a=aj u->H' a=aj u):OR K H' a o:=by
 cases o with
 |lst ds=>let⟨xs,e,r⟩:=h;exact⟨xs,k _ e,r.mono t⟩
 |fc ds =>
  let⟨xs,e,r⟩:=h;refine⟨xs,?_,r.mono t⟩;rcases e with(e|⟨o,e⟩)|e
  .exact .inl (.inl (k _ e))
  .exact .inl (.inr ⟨o,k _ e⟩)
  .exact .inr e
 |cX b kvs =>
  rcases h with⟨z,xs,e,r⟩|⟨z,xs,e,r⟩
  .exact .inl ⟨z,xs,k _ e,r.imp λ_ _ q=>⟨q.1,q.2.mono t⟩⟩
  .exact .inr ⟨z,xs,k _ e,r.imp λ_ _ q=>⟨q.1,q.2.mono t⟩⟩
 |ins C fs=>let⟨dx,vs,e,r⟩:=h;exact⟨dx,vs,k _ e,r.imp λ_ _ q=>⟨q.1,q.2.mono t⟩⟩
 |eA ob b kvs =>
  rcases h with⟨z,xs,e,r⟩|⟨z,xs,e,r⟩
  .exact .inl ⟨z,xs,k _ e,r.imp λ_ _ q=>⟨q.1,q.2.mono t⟩⟩
  .exact .inr ⟨z,xs,k _ e,r.imp λ_ _ q=>⟨q.1,q.2.mono t⟩⟩
 |ej C=>let⟨o,vs,e,r⟩:=h;exact⟨o,vs,k _ e,r⟩
 |dt ds=>let⟨xs,e,r⟩:=h;exact⟨xs,t.Ap e,r.mono t⟩
 |B3 kvs=>let⟨o,e,r⟩:=h;exact⟨o,k _ e,r.imp λ_ _ z=>z.mono t⟩
 |Aq ob kvs=>let⟨o,e,r⟩:=h;exact⟨o,k _ e,r.imp λ_ _ z=>z.mono t⟩
def HR.same{K:Fg}(h:HR K H G)(s:aE H H'):HR K H' G:=λa o e=>(h a o e).keep (.same s) λu q=>s a u q
def HR.le{K:Fg}(h:HR K H G')(l:Le G G'):HR K H G:=λa o e=>h a o (l a o e)
def HR.put{K:Fg}(h:HR K H G)(n:H p=au)(new:OR K (upd H p o) p u):HR K (upd H p o) (aM G p u):=λa v e=>by
 by_cases q:a=p
 .subst q;rw[aJ]at e;cases e;exact new
 .rw[aR q]at e;exact(h a v e).keep (.same (bM n)) λw z=>bM n a w z
def HR.turn{K:Fg}(h:HR K H G)(t:Ts H (upd H p o))(new:OR K (upd H p o) p u):HR K (upd H p o) (aM G p u):=λa v e=>by
 by_cases q:a=p
 .subst q;rw[aJ]at e;cases e;exact new
 .rw[aR q]at e;exact(h a v e).keep t λw z=>by rw[bD q];exact z
def Ts.turn(e:H p=aj u)(h1:∀xs,u≠.tup xs)(h2:∀ob w,u≠.lH ob w):Ts H (upd H p o):=by
 refine⟨λa xs q=>?_,λa ob w q=>?_⟩
 .rw[bD];exact q;intro z;subst z;rw[e]at q;exact h1 xs (jt.inj q)
 .rw[bD];exact q;intro z;subst z;rw[e]at q;exact h2 ob w (jt.inj q)
@[simp]def aN:=List (Option D)
@[simp]def jC:=D->Gp->Prop
@[simp]def d7:=aN->Gp->jC->Prop
@[simp]def de:=aN->Gp->(Bool->Gp->Prop)->Prop
@[simp]def bo:=aN->Gp->(List D->Gp->Prop)->Prop
abbrev tP:aN->Nat->Option D
 |[],_=>au
 |x::_,0=>x
 |_::r,n+1=>tP r n
abbrev iS:aN->Nat->D->aN
 |[],_,_=>[]
 |_::r,0,d=>aj d::r
 |x::r,n+1,d=>x::iS r n d
inductive SR(K:Fg)(H:Hp):aN->St->Prop where
 |nil:SR K H [] []
 |none {ρ:aN} {σ:St} {v:Option V}:SR K H ρ σ->SR K H (Br::ρ) (v::σ)
 |some {ρ:aN} {σ:St} {d:D} {v:V}:RD K H d v->SR K H ρ σ->SR K H (jt d::ρ) (jt v::σ)
def SR.mono{K:Fg}(t:Ts H H'):∀{ρ:aN}{σ:St},SR K H ρ σ->SR K H' ρ σ
 |_,_,.nil=>.nil
 |_,_,.none r=>.none (SR.mono t r)
 |_,_,.some h r=>.some (h.mono t) (SR.mono t r)
def SR.get{K:Fg}:∀{ρ:aN}{σ:St}{i:Nat}{d:D},SR K H ρ σ->tP ρ i=jt d->∃v,σ[i]?=jt (jt v)/\RD K H d v
 |_,_,_,_,.nil,e=>by simp[tP]at e
 |_,_,0,_,.none _,e=>by simp[tP]at e
 |_,_,0,_,.some h _,e=>by simp[tP]at e;subst e;exact⟨_,rfl,h⟩
 |_,_,i+1,_,.none r,e=>by
  let⟨v,h1,h2⟩:=SR.get (i:=i) r (by simpa[tP]using e);exact⟨v,by simpa using h1,h2⟩
 |_,_,i+1,_,.some _ r,e=>by
  let⟨v,h1,h2⟩:=SR.get (i:=i) r (by simpa[tP]using e);exact⟨v,by simpa using h1,h2⟩
def SR.set{K:Fg}{d:D}{v:V}(q:RD K H d v):∀{ρ:aN}{σ:St}(i:Nat),SR K H ρ σ->SR K H (iS ρ i d) (σ.set i (jt v))
 |_,_,_,.nil=>.nil
 |_,_,0,.none r=>.some q r
 |_,_,0,.some _ r=>.some q r
 |_,_,i+1,.none r=>.none (SR.set q i r)
 |_,_,i+1,.some h r=>.some h (SR.set q i r)
abbrev FG(n:Nat)(ds:List D):aN:=ds.map jt++zg (n - ds.length) Br
def SR.w9{K:Fg}:∀n:Nat,SR K H (zg n Br) (zg n Br)
 |0=>.nil
 |n+1=>.none (SR.w9 n)
def SR.entry{K:Fg}{k:Nat}:∀{ds:List D}{vs:List V},cZ K H ds vs->SR K H (ds.map jt++zg k Br) (vs.map jt++zg k Br)
 |_,_,.nil=>SR.w9 k
 |_,_,.cons h r=>.some h (SR.entry r)
abbrev ir(K:Fg)(t:d7):TE:=λσ H Q=>∃ρ G R,SR K H ρ σ/\HR K H G/\t ρ G R/\∀v H' d G',Ts H H'->RD K H' d v->HR K H' G'->R d G'->Q v H'
abbrev n9(K:Fg)(t:de):TT:=λσ H Q=>∃ρ G R,SR K H ρ σ/\HR K H G/\t ρ G R/\∀b H' G',Ts H H'->HR K H' G'->R b G'->Q b H'
abbrev V7(K:Fg)(t:bo):TA:=λσ H Q=>∃ρ G R,SR K H ρ σ/\HR K H G/\t ρ G R/\∀vs H' ds G',Ts H H'->cZ K H' ds vs->HR K H' G'->R ds G'->Q vs H'
@[simp]def dJ(X:Cx)(e:je)(t:d7):Prop:=PE X e (ir X.K t)
@[simp]def ku(X:Cx)(e:je)(t:de):Prop:=PT X e (n9 X.K t)
@[simp]def wy(X:Cx)(e:je)(t:de):Prop:=PW X e (n9 X.K t)
@[simp]def eM(X:Cx)(es:List je)(t:bo):Prop:=PA X es (V7 X.K t)
structure eF where
 nx:aN->Gp->Prop
 rt:jC
 bk:aN->Gp->Prop:=λ_ _=>False
 ct:aN->Gp->Prop:=λ_ _=>False
@[simp]def bB:=eF->aN->Gp->Prop
structure VR(K:Fg)(E:eF)(F:Ends):Prop where
 nx:∀ρ G σ H',SR K H' ρ σ->HR K H' G->E.nx ρ G->F.nx σ H'
 rt:∀d G v H',RD K H' d v->HR K H' G->E.rt d G->F.rt v H'
 bk:∀ρ G σ H',SR K H' ρ σ->HR K H' G->E.bk ρ G->F.bk σ H'
 ct:∀ρ G σ H',SR K H' ρ σ->HR K H' G->E.ct ρ G->F.ct σ H'
abbrev BU(K:Fg)(t:bB):TS:=λF σ H=>∃ρ G E,SR K H ρ σ/\HR K H G/\t E ρ G/\VR K E F
@[simp]def eL(X:Cx)(st:jo)(t:bB):Prop:=PS X st (BU X.K t)
@[simp]def hU(X:Cx)(st:List jo)(t:bB):Prop:=iq X st (BU X.K t)
section
variable{X:Cx}
def PE.imp{t:TE}(h:PE X e t)(k:∀σ H Q,t' σ H Q->t σ H Q):PE X e t':=λψ s σ H Q I q=>h ψ s σ H Q I (k _ _ _ q)
def PT.imp{t:TT}(h:PT X e t)(k:∀σ H Q,t' σ H Q->t σ H Q):PT X e t':=λψ s σ H Q I q=>h ψ s σ H Q I (k _ _ _ q)
def PW.imp{t:TT}(h:PW X e t)(k:∀σ H Q,t' σ H Q->t σ H Q):PW X e t':=λwh ψ s σ H Q I q=>h wh ψ s σ H Q I (k _ _ _ q)
def PA.imp{t:TA}(h:PA X e t)(k:∀σ H Q,t' σ H Q->t σ H Q):PA X e t':=λp ψ s σ H Q I q=>h p ψ s σ H Q I (k _ _ _ q)
def PS.imp{t:TS}(h:PS X e t)(k:∀F σ H,t' F σ H->t F σ H):PS X e t':=λψ s σ H F I q=>h ψ s σ H F I (k _ _ _ q)
abbrev KF(K:Fg)(H:Hp):Prop:=∀b o,K.lookup b=aj o->H b=au
def vJ(I:Inv X ψ σ H s):KF X.K H:=λb o e=>(I.bs b o (I.ok.mod.oq b o e)).2
def PE.kf{t:TE}(h:PE X e t):PE X e (λσ H Q=>t σ H λv H'=>KF X.K H'->Q v H'):=λψ s σ H Q I q =>
 fW (h ψ s σ H _ I q) λ_ _ ⟨v,H',I',r,q'⟩=>⟨v,H',I',r,q' (vJ I')⟩
def iq.imp{t:TS}(h:iq X e t)(k:∀F σ H,t' F σ H->t F σ H):iq X e t':=λψ s σ H F I q=>h ψ s σ H F I (k _ _ _ q)
end
def jL{K:Fg}(g:HR K H G)(n:H p=au)(k:KF K (upd H p o)):G p=au:=by
 have kn:K.lookup p=au:=by
  cases q:K.lookup p with
  |none=>rfl
  |some u=>have:=k p u q;rw[aL]at this;cases this
 cases q:G p with
 |none=>rfl
 |some u =>
  have z:=g p u q;cases u with
  |lst ds=>let⟨xs,e,_⟩:=z;rw[n]at e;cases e
  |fc ds =>
   let⟨xs,e,_⟩:=z;rcases e with(e|⟨o,e⟩)|⟨o,_,_,e,_⟩
   .rw[n]at e;cases e
   .rw[n]at e;cases e
   .rw[kn]at e;cases e
  |cX tt kvs =>
   rcases z with⟨_,xs,e,_⟩|⟨_,xs,e,_⟩
   .rw[n]at e;cases e
   .rw[n]at e;cases e
  |eA ob tt kvs =>
   rcases z with⟨_,xs,e,_⟩|⟨_,xs,e,_⟩
   .rw[n]at e;cases e
   .rw[n]at e;cases e
  |ins C fs=>let⟨dx,vs,e,_⟩:=z;rw[n]at e;cases e
  |ej C=>let⟨o,vs,e,_⟩:=z;rw[n]at e;cases e
  |B3 kvs=>let⟨_,e,_⟩:=z;rw[n]at e;cases e
  |Aq ob kvs=>let⟨_,e,_⟩:=z;rw[n]at e;cases e
  |dt ds =>
   let⟨xs,e,_⟩:=z;rcases e with(e|⟨o,e⟩)|⟨o,_,_,e,_⟩
   .rw[n]at e;cases e
   .rw[n]at e;cases e
   .rw[kn]at e;cases e
variable{d:D}
section
variable{X:Cx}{b c:je}{ta tb tc:d7}{pos:Pos}
abbrev aB(i:Nat):d7:=λρ G R=>match tP ρ i with
 |some d=>R d G
 |none=>False
abbrev aW(d:D):d7:=λ_ G R=>R d G
private theorem aND{K:Fg}{Q:VK}(h:ir K (aB i) σ H Q):Sx i σ H Q:=by
 let⟨ρ,G,R,s,g,t,k⟩:=h;unfold aB at t;split at t
 .rename_i d e;let⟨v,h1,h2⟩:=s.get e;exact⟨v,h1,k v H d G (.refl H) h2 g t⟩
 .exact t.elim
def AX{K:Fg}(r:∀H,RD K H d v){Q:VK}(h:ir K (aW d) σ H Q):tC v σ H Q:=by
 let⟨ρ,G,R,s,g,t,k⟩:=h;exact k v H d G (.refl H) (r H) g t
def aT5(i:Nat)(hN:X.N[i]?=aj x:=by rfl)(hv:BK X.env.scope x:=by first|exact Or.inl rfl|exact Or.inr (Or.inl rfl)|exact Or.inr (Or.inr rfl))(hd:(x==("__debug__":Str))=ao:=by decide)
  (fw:(x==("__classdict__":Str))=ao:=by decide):dJ X (.Name x pos) (aB i):=PE.imp (aM6 hN hv hd fw) λ_ _ _ h=>aND h
def aT6{i j pos}:dJ X (.Constant (.int i) j pos) (aW (.int i)):=PE.imp aM7 λ_ _ _ h=>AX (λ_=>.int i) h
def aXQ{b j pos}:dJ X (.Constant (.bool b) j pos) (aW (.bl b)):=PE.imp aS4 λ_ _ _ h=>AX (λ_=>.bl b) h
def aT7{j pos}:dJ X (.Constant .none j pos) (aW .ae):=PE.imp aM8 λ_ _ _ h=>AX (λ_=>.ae) h
def aT8{x j pos}:dJ X (.Constant (.str x) j pos) (aW (.str x)):=PE.imp aM9 λ_ _ _ h=>AX (λ_=>.str x) h
def T9(hg:Gl X x)(hm:X.mg x=aj u)(r:RelV v u)(rd:∀H,RD X.K H d v)(hd:(x==("__debug__":Str))=ao:=by decide):dJ X (.Name x pos) (aW d) :=
 PE.imp (aGE hg hm r hd) λ_ _ _ h=>AX rd h
def aNE{n:String}(hg:Gl X x)(hm:X.mg x=au)(hv:mq x=aj (.type n))(hn:x≠"__name__":=by decide)(hd:(x==("__debug__":Str))=ao:=by decide):dJ X (.Name x pos) (aW (.ty n)) :=
 PE.imp (aGF hg hm hv (v:=.ty n) rfl hn hd) λ_ _ _ h=>AX (λ_=>.ty n) h
@[simp]def R3:=D->D->Gp->jC->Prop
abbrev VT(K:Fg)(r:R2)(r3:R3):Prop:=∀(H:Hp)(x y:D)(vx vy:V)(G:Gp)(R:jC)(Q:VK),RD K H x vx->RD K H y vy->HR K H G->r3 x y G R->(∀v H' d G',Ts H H'->RD K H' d v->HR K H' G'->R d G'->Q v H')->r vx vy H λv H'=>KF K H'->Q v H'
abbrev md(X:Cx)(f:bh->bh->Sem bh)(r3:R3):Prop:=∃r,bu X f r/\VT X.K r r3
abbrev Hw(K:Fg)(r:R2)(r3:R3):Prop:=∀(H:Hp)(x y:D)(vx vy:V)(G:Gp)(R:jC)(Q:VK),RD K H x vx->RD K H y vy->HR K H G->r3 x y G R->(∀v H' d G',Ts H H'->RD K H' d v->HR K H' G'->R d G'->Q v H')->r vx vy H Q
abbrev zL(X:Cx)(f:bh->bh->Sem bh)(r3:R3):Prop:=∃r,bu X f r/\Hw X.K r r3
abbrev aH(r:R3)(ta tb:d7):d7:=λρ G R=>ta ρ G λx G1=>tb ρ G1 λy G2=>r x y G2 R
variable{r3:R3}
def aT9{K:Fg}(o:VT K r r3){Q:VK}(h:ir K (aH r3 ta tb) σ H Q):Ao r (ir K ta) (ir K tb) σ H λv H'=>KF K H'->Q v H':=by
 let⟨ρ,G,R,s,g,t,k⟩:=h;refine⟨ρ,G,_,s,g,t,λvx H1 x G1 t1 rx g1 t'=>?_⟩;refine⟨ρ,G1,_,s.mono t1,g1,t',λvy H2 y G2 t2 ry g2 eS=>?_⟩;exact o H2 x y vx vy G2 R Q (rx.mono t2) ry g2 eS λv H' d G' t3=>k v H' d G' ((t1.trans t2).trans t3)
def Jj{K:Fg}(o:Hw K r r3){Q:VK}(h:ir K (aH r3 ta tb) σ H Q):Ao r (ir K ta) (ir K tb) σ H Q:=by
 let⟨ρ,G,R,s,g,t,k⟩:=h;refine⟨ρ,G,_,s,g,t,λvx H1 x G1 t1 rx g1 t'=>?_⟩;refine⟨ρ,G1,_,s.mono t1,g1,t',λvy H2 y G2 t2 ry g2 eS=>?_⟩;exact o H2 x y vx vy G2 R Q (rx.mono t2) ry g2 eS λv H' d G' t3=>k v H' d G' ((t1.trans t2).trans t3)
def Sm(o:md X (yj op) r3)(ha:dJ X a ta)(hb:dJ X b tb):dJ X (.BinOp a op b pos) (aH r3 ta tb):=by
 let⟨r,o1,o2⟩:=o;exact PE.imp (PE.kf (aSI o1 ha hb)) λ_ _ _ h=>aT9 o2 h
def S8(o:zL X (nj op) r3)(ha:dJ X a ta)(hb:dJ X b tb)(hm:Bu op b=ao):dJ X (.Compare a [op] [b] pos) (aH r3 ta tb):=by
 let⟨r,o1,o2⟩:=o;exact PE.imp (aGO o1 ha hb hm) λ_ _ _ h=>Jj o2 h
abbrev aY(t:d7):de:=λρ G R=>t ρ G λx G1=>match x with
 |.bl k=>R k G1
 |_=>False
def JF{K:Fg}{t:TE}(f:∀σ H Q,ir K t3 σ H Q->t σ H Q)(h:n9 K (aY t3) σ H Q):LQ t σ H Q:=by
 let⟨ρ,G,R,s,g,u,k⟩:=h;refine f _ _ _ ⟨ρ,G,_,s,g,u,λv H' d G' t1 r g1 q=>?_⟩;cases r with
 |bl b=>exact⟨b,rfl,k b H' G' t1 g1 q⟩
 |_=>exact q.elim
def S7(o:zL X (nj op) r3)(ha:dJ X a ta)(hb:dJ X b tb)(hm:Bu op b=ao):ku X (.Compare a [op] [b] pos) (aY (aH r3 ta tb)):=by
 let⟨r,o1,o2⟩:=o;exact PT.imp (aGP o1 ha hb hm) λ_ _ _ h=>JF (λ_ _ _=>Jj o2) h
def aTB{e:je}{t:d7}(h:dJ X e t)(he:∀whole,isTrue e X.env whole=(do let v ←whole;standAt e.pos;holding [v] (truthy v)):=by intro _;rfl):ku X e (aY t) :=
 PT.imp (aMA h he) λ_ _ _ h=>JF (λ_ _ _ q=>q) h
abbrev rB(r r':R3)(ta tb tc:d7):d7:=λρ G R=>ta ρ G λx G1=>tb ρ G1 λy G2=>r x y G2 λz G3=>match z with
 |.bl ak=>tc ρ G3 λw G4=>r' y w G4 R
 |.bl ao=>R (.bl ao) G3
 |_=>False
variable{As:R3}
def Qt{K:Fg}(o:Hw K r r3)(o':Hw K r' As){Q:VK}(h:ir K (rB r3 As ta tb tc) σ H Q):Jl r r' (ir K ta) (ir K tb) (ir K tc) σ H Q:=by
 let⟨ρ,G,R,s,g,t,k⟩:=h;refine⟨ρ,G,_,s,g,t,λvx H1 x G1 t1 rx g1 t'=>?_⟩;refine⟨ρ,G1,_,s.mono t1,g1,t',λvy H2 y G2 t2 ry g2 eS=>?_⟩;refine o H2 x y vx vy G2 _ _ (rx.mono t2) ry g2 eS λv H3 d G3 t3 rd g3 q=>?_;cases rd with
 |bl b =>
  refine⟨b,rfl,?_⟩;cases b with
  |true =>
   rw[if_pos rfl];refine⟨ρ,G3,_,s.mono ((t1.trans t2).trans t3),g3,q,λvw H4 w G4 t4 fE g4 q'=>?_⟩;exact o' H4 y w vy vw G4 R Q (ry.mono (t3.trans t4)) fE g4 q' λv H' d G' t5=>k v H' d G' (((t1.trans t2).trans t3).trans (t4.trans t5))
  |false =>
   rw[if_neg qg];exact k _ H3 _ G3 ((t1.trans t2).trans t3) (.bl ao) g3 q
 |_=>exact q.elim
def aHB(o:zL X (nj op) r3)(o':zL X (nj lL) As)(ha:dJ X a ta)(hb:dJ X b tb)(hc:dJ X c tc)
  (hm:lastMarks [op,lL] [b,c]=ao:=by with_unfolding_all rfl):dJ X (.Compare a [op,lL] [b,c] pos) (rB r3 As ta tb tc):=by
 let⟨r,o1,o2⟩:=o;let⟨r',Ia,H0⟩:=o';exact PE.imp (aAJ o1 Ia ha hb hc hm) λ_ _ _ h=>Qt o2 H0 h
def aHC(o:zL X (nj op) r3)(o':zL X (nj lL) As)(ha:dJ X a ta)(hb:dJ X b tb)(hc:dJ X c tc)
  (hm:lastMarks [op,lL] [b,c]=ao:=by with_unfolding_all rfl):ku X (.Compare a [op,lL] [b,c] pos) (aY (rB r3 As ta tb tc)):=by
 let⟨r,o1,o2⟩:=o;let⟨r',Ia,H0⟩:=o';exact PT.imp (aAK o1 Ia ha hb hc hm) λ_ _ _ h=>JF (λ_ _ _=>Qt o2 H0) h
variable{sa sb:de}{rest:List je}
abbrev u7(t u:de):de:=λρ G R=>t ρ G λc G1=>if c=ak then u ρ G1 R else R ao G1
abbrev ki(t u:de):de:=λρ G R=>t ρ G λc G1=>if c=ak then R ak G1 else u ρ G1 R
abbrev oR(t:de):de:=λρ G R=>t ρ G λc G1=>R (!c) G1
def aNF{K:Fg}(h:n9 K (u7 sa sb) σ H Q):Sw (n9 K sa) (n9 K sb) σ H Q:=by
 let⟨ρ,G,R,s,g,t,k⟩:=h;refine⟨ρ,G,_,s,g,t,λc H1 G1 t1 g1 q=>?_⟩;cases c with
 |true=>exact⟨ρ,G1,R,s.mono t1,g1,q,λb H' G' t2=>k b H' G' (t1.trans t2)⟩
 |false=>exact k ao H1 G1 t1 g1 q
def aTC{K:Fg}(h:n9 K (ki sa sb) σ H Q):Np (n9 K sa) (n9 K sb) σ H Q:=by
 let⟨ρ,G,R,s,g,t,k⟩:=h;refine⟨ρ,G,_,s,g,t,λc H1 G1 t1 g1 q=>?_⟩;cases c with
 |false=>exact⟨ρ,G1,R,s.mono t1,g1,q,λb H' G' t2=>k b H' G' (t1.trans t2)⟩
 |true=>exact k ak H1 G1 t1 g1 q
def aNG(ha:ku X a sa):wy X (.BoolOp .And [a] pos) sa:=aGG ha
def aTD(ha:ku X a sa):wy X (.BoolOp .Or [a] pos) sa:=aMB ha
def aTE(ha:ku X a sa)(hb:wy X (.BoolOp .And (b::rest) pos) sb):wy X (.BoolOp .And (a::b::rest) pos) (u7 sa sb):=PW.imp (aMC ha hb) λ_ _ _ h=>aNF h
def aXR(ha:ku X a sa)(hb:wy X (.BoolOp .Or (b::rest) pos) sb):wy X (.BoolOp .Or (a::b::rest) pos) (ki sa sb):=PW.imp (aS6 ha hb) λ_ _ _ h=>aTC h
def aTF(ha:ku X a sa):ku X (.UnaryOp .Not a pos) (oR sa):=PT.imp (aMD ha) λσ H Q h=>by
 let⟨ρ,G,R,s,g,t,k⟩:=h;exact⟨ρ,G,_,s,g,t,λc H1 G1 t1 g1 q=>k (!c) H1 G1 t1 g1 q⟩
abbrev nP(ta tb:d7):d7:=λρ G R=>ta ρ G λx G1=>match x with
 |.bl ak=>tb ρ G1 R
 |.bl ao=>R (.bl ao) G1
 |_=>False
abbrev S6(ta tb:d7):d7:=λρ G R=>ta ρ G λx G1=>match x with
 |.bl ak=>R (.bl ak) G1
 |.bl ao=>tb ρ G1 R
 |_=>False
abbrev C0(ta:d7):d7:=λρ G R=>ta ρ G λx G1=>match x with
 |.bl c=>R (.bl (!c)) G1
 |_=>False
def S5{op}(h:dJ X a ta):dJ X (.BoolOp op [a] pos) ta:=aME h
def aTG(ha:dJ X a ta)(hb:dJ X (.BoolOp .And (b::rest) pos) tb):dJ X (.BoolOp .And (a::b::rest) pos) (nP ta tb):=PE.imp (aMF ha hb) λσ H Q h=>by
 let⟨ρ,G,R,s,g,t,k⟩:=h;refine⟨ρ,G,_,s,g,t,λv H1 x G1 t1 r g1 q=>?_⟩;cases r with
 |bl c =>
  refine⟨c,rfl,?_⟩;cases c with
  |true=>exact⟨ρ,G1,R,s.mono t1,g1,q,λb H' d G' t2=>k b H' d G' (t1.trans t2)⟩
  |false=>exact k _ H1 _ G1 t1 (.bl ao) g1 q
 |_=>exact q.elim
def aXS(ha:dJ X a ta)(hb:dJ X (.BoolOp .Or (b::rest) pos) tb):dJ X (.BoolOp .Or (a::b::rest) pos) (S6 ta tb):=PE.imp (aS9 ha hb) λσ H Q h=>by
 let⟨ρ,G,R,s,g,t,k⟩:=h;refine⟨ρ,G,_,s,g,t,λv H1 x G1 t1 r g1 q=>?_⟩;cases r with
 |bl c =>
  refine⟨c,rfl,?_⟩;cases c with
  |false=>exact⟨ρ,G1,R,s.mono t1,g1,q,λb H' d G' t2=>k b H' d G' (t1.trans t2)⟩
  |true=>exact k _ H1 _ G1 t1 (.bl ak) g1 q
 |_=>exact q.elim
def aTH(ha:dJ X a ta):dJ X (.UnaryOp .Not a pos) (C0 ta):=PE.imp (aMG ha) λσ H Q h=>by
 let⟨ρ,G,R,s,g,t,k⟩:=h;refine⟨ρ,G,_,s,g,t,λv H1 x G1 t1 r g1 q=>?_⟩;cases r with
 |bl c=>exact⟨c,rfl,k _ H1 _ G1 t1 (.bl _) g1 q⟩
 |_=>exact q.elim
end
section
variable{X:Cx}{t:bo}{pos:Pos}
abbrev aF:bo:=λ_ G R=>R [] G
abbrev aA(ta:d7)(tr:bo):bo:=λρ G R=>ta ρ G λx G1=>tr ρ G1 λxs G2=>R (x::xs) G2
def LP:eM X [] aF:=PA.imp aMV λσ H Q h=>by
 let⟨ρ,G,R,s,g,t,k⟩:=h;exact k [] H [] G (.refl H) .nil g t
def yY(ha:dJ X e te)(hr:eM X es t)(hs:jg (e::es) X.env=(ao,eval e X.env)::jg es X.env:=by rfl):eM X (e::es) (aA te t):=PA.imp (aGS ha hr hs) λσ H Q h=>by
 let⟨ρ,G,R,s,g,t,k⟩:=h;refine⟨ρ,G,_,s,g,t,λv H1 x G1 t1 r g1 q=>?_⟩;refine⟨ρ,G1,_,s.mono t1,g1,q,λvs H2 xs G2 t2 rs g2 q'=>?_⟩;exact k (v::vs) H2 (x::xs) G2 (t1.trans t2) (.cons (r.mono t2) rs) g2 q'
abbrev o7(t:bo):d7:=λρ G R=>t ρ G λxs G1=>xs.length<=dh/\R (.tup xs) G1
abbrev vK(t:bo):d7:=λρ G R=>t ρ G λxs G1=>xs.length<=dh/\∀p,G1 p=au->R (.ref p) (aM G1 p (.lst xs))
def aTI{x1}(h:eM X es t):dJ X (.Tuple es x1 pos) (o7 t):=PE.imp (aMW h) λσ H Q h=>by
 let⟨ρ,G,R,s,g,t,k⟩:=h;refine⟨ρ,G,_,s,g,t,λvs H1 xs G1 t1 r g1 q=>?_⟩;refine⟨by rw[←r.length];exact q.1,λp hp=>?_⟩;have sn:aE H1 (upd H1 p (.tup vs)):=bM hp;exact k (.ref p) _ (.tup xs) G1 (t1.trans (.same sn)) (.tup (br.of aL) (r.mono (.same sn)) (uv aL)) (g1.same sn) q.2
def aTJ(h:eM X es t):dJ X (.List es pos) (vK t):=PE.imp (PE.kf (aMX h)) λσ H Q h=>by
 let⟨ρ,G,R,s,g,t,k⟩:=h;refine⟨ρ,G,_,s,g,t,λvs H1 xs G1 t1 r g1 q=>?_⟩;refine⟨by rw[←r.length];exact q.1,λp hp kf=>?_⟩;have sn:aE H1 (upd H1 p (.lst vs)):=bM hp;exact k (.ref p) _ (.ref p) _ (t1.trans (.same sn)) (.ref p) (g1.put (u:=.lst xs) hp ⟨vs,aL,r.mono (.same sn)⟩) (q.2 p (jL g1 hp kf))
end
end
section
section
variable{X:Cx}{a b c:je}{pos:Pos}
abbrev Ep(C:Int->Int->Prop)(g:Int->Int->Int):R3:=λx y G R=>match x,y with
 |.int i,.int j=>C i j/\R (.int (g i j)) G
 |_,_=>False
abbrev Sl(g:Int->Int->Int):R3:=λx y G R=>match x,y with
 |.int i,.int j=>R (.int (g i j)) G
 |_,_=>False
abbrev F8(g:Int->Int->Bool):R3:=λx y G R=>match x,y with
 |.int i,.int j=>R (.bl (g i j)) G
 |_,_=>False
def LO{g:Int->Int->Int}(h:bu X f (rI C λi j=>.int (g i j))):md X f (Ep C g):=by
 refine⟨_,h,λH x y vx vy G R Q rx ry gh h k=>?_⟩;cases rx with
 |int i =>
  cases ry with
  |int j=>exact⟨i,j,rfl,rfl,h.1,λ_=>k _ H _ G (.refl H) (.int _) gh h.2⟩
  |_=>exact False.elim h
 |_=>exact False.elim h
def aNH{g:Int->Int->Int}(h:bu X f (oi λi j=>.int (g i j))):md X f (Sl g):=by
 refine⟨_,h,λH x y vx vy G R Q rx ry gh h k=>?_⟩;cases rx with
 |int i =>
  cases ry with
  |int j=>exact⟨i,j,rfl,rfl,λ_=>k _ H _ G (.refl H) (.int _) gh h⟩
  |_=>exact False.elim h
 |_=>exact False.elim h
def Ji{g:Int->Int->Bool}(h:bu X f (oi λi j=>.bl (g i j))):zL X f (F8 g):=by
 refine⟨_,h,λH x y vx vy G R Q rx ry gh h k=>?_⟩;cases rx with
 |int i =>
  cases ry with
  |int j=>exact⟨i,j,rfl,rfl,k _ H _ G (.refl H) (.bl _) gh h⟩
  |_=>exact False.elim h
 |_=>exact False.elim h
abbrev rq:R3:=Sl λi j=>i - j
abbrev k7:R3:=Ep Dd λi j=>i*j
abbrev d8:R3:=Ep Lk λi j=>i / j
abbrev cR:R3:=Ep (λ_ j=>0<j) λi j=>i%j
def aTL:md X (yj .Sub) rq:=aNH aMO
def aTM:md X (yj .Mult) k7:=LO aMP
def aNI:md X (yj .FloorDiv) d8:=LO aGN
def aTN:md X (yj .Mod) cR:=LO aMQ
abbrev ue:R3:=F8 λi j=>decide (i<j)
abbrev x9:R3:=F8 λi j=>decide (j<i)
abbrev x8:R3:=F8 λi j=>decide (j<=i)
def aXT:zL X (nj .Lt) ue:=Ji aSL
def aXU:zL X (nj .Gt) x9:=Ji aSN
def aXV:zL X (nj .GtE) x8:=Ji aSO
abbrev kX:R3:=λx y G R=>match x,y with
 |.int i,.int j=>R (.bl (decide (i<=j))) G
 |.str i,.str j=>R (.bl (!decide (j.cps.toList<i.cps.toList))) G
 |_,_=>False
def Yd:bu X (nj .LtE) (λx y H Q=>∃i j,x=.str i/\y=.str j/\Q (.bl (!decide (j.cps.toList<i.cps.toList))) H):=by
 intro ψ s σ H x y v u Q I rx ry h;let⟨i,j,rfl,rfl,q⟩:=h;let⟨t,rfl⟩:=rx;let⟨t',rfl⟩:=ry;exact PySem.P.le_str ⟨.bl _,H,I,rfl,q⟩
def aXW:zL X (nj .LtE) kX:=by
 refine⟨_,aSM.or Yd,λH x y vx vy G R Q rx ry gh h k=>?_⟩;cases rx with
 |int i =>
  cases ry with
  |int j=>exact .inl ⟨i,j,rfl,rfl,k _ H _ G (.refl H) (.bl _) gh h⟩
  |_=>exact False.elim h
 |str i =>
  cases ry with
  |str j=>exact .inr ⟨i,j,rfl,rfl,k _ H _ G (.refl H) (.bl _) gh h⟩
  |_=>exact False.elim h
 |_=>exact False.elim h
abbrev gG:R3:=λx y G R=>match x,y with
 |.int i,.int j=>R (.int (i+j)) G
 |.str i,.str j=>i.length+j.length<=dh/\R (.str (i++j)) G
 |.tup xs,.tup ys=>xs.length+ys.length<=dh/\R (.tup (xs++ys)) G
 |.ref l,.ref m=>match G l,G m with
  |some (.lst xs),aj (.lst ys)=>xs.length+ys.length<=dh/\∀p,G p=au->R (.ref p) (aM G p (.lst (xs++ys)))
  |_,_=>False
 |_,_=>False
def aB5:bu X (yj .Add) (λx y H Q=>∃a b ys,x=.ref a/\y=.ref b/\br X.K H a []/\br X.K H b ys/\Q (.ref b) H):=by
 intro ψ s σ H x y v u Q I rx ry h;let⟨a,b,ys,rfl,rfl,ha,hb,q⟩:=h;cases rx;cases ry;let⟨its,r1,p1,_⟩:=I.tuple ha;let⟨bS,r2,p2,_⟩:=I.tuple hb;cases r1;let⟨⟨cls,dd,data,sl⟩,ho,hc,n,hd⟩:=id p1;let⟨⟨Nh,E5,data2,p9⟩,xl,Cj,n2,qv⟩:=id p2;simp only at hc hd Cj qv;subst hc hd Cj qv
 exact concat_meets ⟨_,ho,rfl⟩ ⟨_,xl,rfl⟩ noFill_tuple_add seq_tuple_add PySem.F.slot_tuple_add PySem.F.entry_tuple_add (PySem.F.args_tuple_add_2 _ _)
   (tuple_addW0 a b #[] bS.toArray n n2 dd E5 sl p9 (by simp)) ⟨ho,xl,⟨.ref b,H,I,rfl,q⟩⟩
private theorem aTO:md X (yj .Add) gG:=by
 refine⟨_,aMN.or (ZF.or (aH1.or (aB5.or aNA))),λH x y vx vy G R Q rx ry gh h k=>?_⟩;cases rx with
 |int i =>
  cases ry with
  |int j=>exact .inl ⟨i,j,rfl,rfl,λ_=>k _ H _ G (.refl H) (.int _) gh h⟩
  |_=>exact False.elim h
 |str i =>
  cases ry with
  |str j=>exact .inr (.inl ⟨i,j,rfl,rfl,h.1,λ_=>k _ H _ G (.refl H) (.str _) gh h.2⟩)
  |_=>exact False.elim h
 |@tup a xs ds ha ra ea =>
  cases ry with
  |@tup b ys es hb rb eb =>
   by_cases hn:ds=[]
   .subst hn;cases ra;exact .inr (.inr (.inr (.inl ⟨a,b,ys,rfl,rfl,ha,hb,λ_=>k _ H _ G (.refl H) (.tup hb rb eb) gh h.2⟩)))
   .refine .inr (.inr (.inl ⟨a,b,xs,ys,rfl,rfl,ha,hb,λz=>hn (ra.Dq.mp z),by rw[←ra.length,←rb.length];exact h.1,λz _=>?_,λ_ p hp _=>?_⟩))
    .subst z;cases rb;have h2:=h.2;rw[Bx]at h2;exact k _ H _ G (.refl H) (.tup ha ra ea) gh h2
    .have sn:aE H (upd H p (.tup (xs++ys))):=bM hp;exact k _ _ _ G (.same sn) (.tup (br.of aL) ((ra.append rb).mono (.same sn)) (uv aL)) (gh.same sn) h.2
  |_=>exact False.elim h
 |ref l =>
  cases ry with
  |ref m =>
   have h':(match G l,G m with
    |some (.lst xs),aj (.lst ys)=>xs.length+ys.length<=dh/\∀p,G p=au->R (.ref p) (aM G p (.lst (xs++ys)))
    |_,_=>False):=h
   split at h'
   .rename_i xs ys e1 e2;let⟨xv,f1,r1⟩:=gh l _ e1;let⟨yv,f2,r2⟩:=gh m _ e2;refine .inr (.inr (.inr (.inr ⟨l,m,xv,yv,rfl,rfl,f1,f2,by rw[←r1.length,←r2.length];exact h'.1,λp hp kf=>?_⟩)));have sn:aE H (upd H p (.lst (xv++yv))):=bM hp;exact k _ _ _ _ (.same sn) (.ref p) (gh.put (u:=.lst (xs++ys)) hp ⟨_,aL,(r1.append r2).mono (.same sn)⟩) (h'.2 p (jL gh hp kf))
   .exact h'.elim
  |_=>exact False.elim h
 |_=>exact False.elim h
abbrev cO(G:Gp)(a:bx):Option (List D):=match G a with
 |some (.lst ds)=>aj ds
 |some (.fc ds)=>aj ds
 |_=>au
private theorem dZ{K:Fg}(g:HR K H G){a:bx}(e:cO G a=aj ds):∃xs,cS K H a xs/\cZ K H ds xs:=by
 unfold cO at e;split at e
 .rename_i AJ q;cases e;let⟨xs,h1,h2⟩:=g a _ q;exact⟨xs,cS.of h1,h2⟩
 .rename_i AJ q;cases e;exact g a _ q
 .cases e
abbrev eU:R3:=λx y G R=>match x,y with
 |.tup xs,.int i=>match c9 xs i with
  |some d=>R d G
  |none=>False
 |.str z,.int i=>z.length<=dh/\match c9 z.cps.toList i with
  |some c=>R (.str ⟨#[c]⟩) G
  |none=>False
 |.ref p,.int i=>match cO G p with
  |some xs=>(match c9 xs i with
   |some d=>R d G
   |none=>False)
  |none=>False
 |_,_=>False
def T8{K:Fg}(r:cZ K H ds xs){i:Int}{d:D}(e:c9 ds i=aj d):∃v,c9 xs i=aj v/\RD K H d v:=by
 unfold c9 at e ⊢;rw[←r.length];cases q:sR ds.length i with
 |none=>rw[q]at e;cases e
 |some j =>
  rw[q]at e;exact r.get e
private theorem aXX(ha:dJ X a ta)(hb:dJ X b tb)(hs:JH b):dJ X (.Subscript a b pos) (aH eU ta tb):=by
 refine PE.imp (aSY aN8 ha hb hs) λ_ _ _ h=>Jj ?_ h;intro H x y vx vy G R Q rx ry gh h k;cases rx with
 |@tup p xs ds hp r =>
  cases ry with
  |int i =>
   have h':(match c9 ds i with
    |some d=>R d G
    |none=>False):=h
   split at h'
   .rename_i d e;let⟨v,e1,e2⟩:=T8 r e;exact .inr (.inl ⟨p,xs,i,v,rfl,rfl,hp,e1,k v H d G (.refl H) e2 gh h'⟩)
   .exact h'.elim
  |_=>exact False.elim h
 |str z =>
  cases ry with
  |int i =>
   have h':z.length<=dh/\(match c9 z.cps.toList i with
    |some c=>R (.str ⟨#[c]⟩) G
    |none=>False):=h
   let⟨hz,h'⟩:=h';split at h'
   .rename_i d e;exact .inr (.inr ⟨z,i,d,rfl,rfl,hz,e,k _ H _ G (.refl H) (.str _) gh h'⟩)
   .exact h'.elim
  |_=>exact False.elim h
 |ref p =>
  cases ry with
  |int i =>
   have h':(match cO G p with
    |some xs=>(match c9 xs i with
     |some d=>R d G
     |none=>False)
    |none=>False):=h
   split at h'
   .rename_i ds e;let⟨xs,hp,r⟩:=dZ gh e;split at h'
    .rename_i d e';let⟨v,e1,e2⟩:=T8 r e';exact .inl ⟨p,xs,i,v,rfl,rfl,hp,e1,k v H d G (.refl H) e2 gh h'⟩
    .exact h'.elim
   .exact h'.elim
  |_=>exact False.elim h
 |_=>exact False.elim h
@[simp]def wt:=aN->Gp->(Option Int->Gp->Prop)->Prop
abbrev V4(K:Fg)(t:wt):TO:=λσ H Q=>∃ρ G R,SR K H ρ σ/\HR K H G/\t ρ G R/\∀i H' G',Ts H H'->HR K H' G'->R i G'->Q i H'
@[simp]def DS(X:Cx)(e:Option je)(t:wt):Prop:=PO X e (V4 X.K t)
def PO.imp{t:TO}(h:PO X e t)(k:∀σ H Q,t' σ H Q->t σ H Q):PO X e t':=λψ s σ H Q I q=>h ψ s σ H Q I (k _ _ _ q)
abbrev DI:wt:=λ_ G R=>R au G
abbrev CZ(t:d7):wt:=λρ G R=>t ρ G λx G1=>match x with
 |.int i=>R (aj i) G1
 |_=>False
def aNJ:DS X au DI:=PO.imp aGZ λσ H Q h=>by
 let⟨ρ,G,R,s,g,t,k⟩:=h;exact k au H G (.refl H) g t
def aNK(h:dJ X e te):DS X (aj e) (CZ te):=PO.imp (aH0 h) λσ H Q h=>by
 let⟨ρ,G,R,s,g,t,k⟩:=h;refine⟨ρ,G,_,s,g,t,λv H1 x G1 t1 r g1 q=>?_⟩;cases r with
 |int i=>exact⟨i,rfl,k _ H1 G1 t1 g1 q⟩
 |_=>exact False.elim q
abbrev cutD{α:Type}(xs:List α)(lo hi:Option Int):List α:=(xs.drop (HT.pQ xs.length 0 lo)).take (HT.pQ xs.length xs.length hi - HT.pQ xs.length 0 lo)
end
end
variable{F:Ends}
section
section
variable{X:Cx}{st:jo}{rest:List jo}{t u:bB}{te:d7}{pos:Pos}
abbrev bT:bB:=λF ρ G=>F.nx ρ G
abbrev aK(t u:bB):bB:=λF ρ G=>t {F with nx:=u F} ρ G
def aTQ:hU X [] bT:=iq.imp aGH λF σ H h=>by
 let⟨ρ,G,E,s,g,q,d⟩:=h;exact d.nx ρ G σ H s g q
def aNL{K:Fg}(h:BU K (aK t u) F σ H):Sv (BU K t) (BU K u) F σ H:=by
 let⟨ρ,G,E,s,g,q,d⟩:=h;exact⟨ρ,G,_,s,g,q,⟨λa9 G' av H' s1 g1 h=>⟨a9,G',E,s1,g1,h,d⟩,d.rt,d.bk,d.ct⟩⟩
def aNM(h1:eL X st t)(h2:hU X rest u):hU X (st::rest) (aK t u):=iq.imp (aAC h1 h2) λ_ _ _ h=>aNL h
def aTR(h1:eL X st t):hU X [st] t:=aGI h1
abbrev vE:bB:=λF ρ G=>F.ct ρ G
def aNN:eL X (.Pass pos) bT:=PS.imp aGJ λF σ H h=>by
 let⟨ρ,G,E,s,g,q,d⟩:=h;exact d.nx ρ G σ H s g q
def Zx:eL X (.Continue pos) vE:=PS.imp η λF σ H h=>by
 let⟨ρ,G,E,s,g,q,d⟩:=h;exact d.ct ρ G σ H s g q
abbrev aX(te:d7):bB:=λF ρ G=>te ρ G λ_ G1=>F.nx ρ G1
def aNO(he:dJ X e te)(hs:rS e au pos.line X.env=pure ao:=by rfl):eL X (.Expr e pos) (aX te):=PS.imp (aGK he hs) λF σ H h=>by
 let⟨ρ,G,E,s,g,q,d⟩:=h;exact⟨ρ,G,_,s,g,q,λv H' x G' t1 r g1 h=>d.nx ρ G' σ H' (s.mono t1) g1 h⟩
abbrev cA(te:d7):bB:=λF ρ G=>te ρ G F.rt
def aTS(he:dJ X e te):eL X (.Return (aj e) pos) (cA te):=PS.imp (aMH he) λF σ H h=>by
 let⟨ρ,G,E,s,g,q,d⟩:=h;exact⟨ρ,G,_,s,g,q,λv H' x G' t1 r g1 h=>d.rt x G' v H' r g1 h⟩
abbrev cV(c:de)(t u:bB):bB:=λF ρ G=>c ρ G λb G1=>if b=ak then t F ρ G1 else u F ρ G1
def aXY{c:je}{b:List jo}{tc:de}(hc:ku X c tc)(ha:hU X a t)(hb:hU X b u):eL X (.If c a b pos) (cV tc t u):=PS.imp (aSD hc ha hb) λF σ H h=>by
 let⟨ρ,G,E,s,g,q,d⟩:=h;refine⟨ρ,G,_,s,g,q,λb H' G' t1 g1 h=>?_⟩;cases b with
 |true=>exact⟨ρ,G',E,s.mono t1,g1,h,d⟩
 |false=>exact⟨ρ,G',E,s.mono t1,g1,h,d⟩
abbrev cT(i:Nat)(te:d7):bB:=λF ρ G=>te ρ G λx G1=>F.nx (iS ρ i x) G1
def aTT(hN:X.N.Nodup)(hi:X.N[i]?=aj x)(hx:Loc X.env.scope x)(he:dJ X e te)(hs:rS e (aj (.Name x pos')) pos.line X.env=pure ao:=by rfl)(hf:X.fn x=ak∨X.env.scope.names.lookup x=aj .local:=by first|exact .inl rfl|exact .inr rfl|assumption) :
  eL X (.Assign [.Name x pos'] e pos) (cT i te):=PS.imp (aMJ hN hi hx he hs hf) λF σ H h=>by
 let⟨ρ,G,E,s,g,q,d⟩:=h;exact⟨ρ,G,_,s,g,q,λv H' x G' t1 r g1 h=>d.nx _ G' _ H' ((s.mono t1).set r i) g1 h⟩
end
section
def Qs{K:Fg}{J:It}{g:TG}{tb:TS}(Pv:Nat->St->Hp->Prop)(h0:Pv 0 σ H)
  (stop:∀σ H,Pv n σ H->J.stop n H)(go:∀i σ H,i<n->Pv i σ H->J.go i H)
  (hs:∀i x σ H H',i<n->Pv i σ H->J.Al i H x H'->g x σ H' λbb H2=>tb {F with nx:=Pv (i+1),ct:=Pv (i+1),bk:=F.nx} bb H2)(hd:∀σ H,Pv n σ H->F.nx σ H) :
  ∃W:Nat->Nat->St->Hp->Prop,(∃m,W 0 m σ H)/\∀i m σ H,W i m σ H ->
   (J.stop i H/\F.nx σ H)∨(J.go i H/\∃N:St->Hp->Prop,(∀av H',N av H'->∃m',m'<m/\W (i+1) m' av H')/\∀x H',J.Al i H x H'->g x σ H' λbb H2=>tb {F with nx:=N,ct:=N,bk:=F.nx} bb H2):=by
 refine⟨λi m σ H=>m=n - i/\i<=n/\Pv i σ H,⟨n,by simp,xu _,h0⟩,?_⟩;rintro i m σ H ⟨rfl,hi,p⟩;by_cases iF:i<n
 .exact .inr ⟨go i σ H iF p,Pv (i+1),λav H' p'=>⟨n - (i+1),⋯,rfl,iF,p'⟩,λx H' y=>hs i x σ H H' iF p y⟩
 .have e:i=n:=by omega
  subst e;exact .inl ⟨stop σ H p,hd σ H p⟩
end
@[simp]def aV:=Addr->Gp->Prop
@[simp]def lJ:=List D->Gp->jC->aV->Prop
abbrev wq(K:Fg)(EX:aV)(E:XK):Prop:=∀C H' G',HR K H' G'->EX C G'->E (.ref C) au H'
abbrev bV(K:Fg)(sp:lJ):Sp:=λvs H Q E=>∃ds G R EX,cZ K H ds vs/\HR K H G/\sp ds G R EX/\(∀v H' d G',RD K H' d v->HR K H' G'->R d G'->Q v H')/\wq K EX E
section
variable{EX:aV}
abbrev aXZ(n m:Nat)(tb:aV->bB):lJ:=λds G R EX=>ds.length=m/\tb EX ⟨λ_ G'=>R .ae G',R,λ_ _=>False,λ_ _=>False⟩ (FG n ds) G
end
end
variable{l:List Env}
section
abbrev iH(P:lg)(w:ji):D0:=λouter H s E e s'=>∃(x C:bx)(H':Hp)(B:kh),e=.ref x/\mr B outer x (.ref C) s'.heap/\bz P w H' B /\
 (∀b o,s.heap.get? b=aj o->H b=au->b∉frs outer->B.get? b=aj o)/\(∀b o,s.heap.get? b=aj o->b∉frs outer->∃o',B.get? b=aj o') /\
 Un (frs outer) [] H H' s.heap s'.heap/\s'.os=s.os/\AllBare s'.gens/\E (.ref C) au H'
def Pl(h:b∈frs l):∃env∈l,env.frame=aj b:=GS.mp h
def JE{env:Env}(h:env∈l)(e:env.frame=aj b):b∈frs l:=GS.mpr ⟨env,h,e⟩
section
variable{qt:Bool}{P:lg}{w:ji}{K:Fg}{mg:Str->Option bh}{base:kh}{N:List Str}{qual:Str}{scope:zq}{f:bx}{cd:bh}{A:lu}{outer:List Env}{ai:dg}{aw:Hp}{E:XK}
@[simp]def dC(qt:Bool)(P:lg)(w:ji)(K:Fg)(mg:Str->Option bh)(base:kh)(N:List Str)(qual:Str)(scope:zq)(f:bx)(cd:bh)(A:lu)(outer:List Env)(ai:dg)(aw:Hp)(E:XK):Cx:=yM qt (iH P w) P w K mg base N qual scope f cd A outer ai aw E
def o8{X:Cx}(I:Inv X ψ σ H s)(b9:X.stack=X.env::X.outer)(hf:X.env.frame=aj X.env.locals){o:Obj}(e:X.ai.heap.get? b=aj o)(n:b∉frs X.outer):b∉frs X.stack:=λhb=>by
 let⟨env,he,iL⟩:=Pl hb;rw[b9]at he;rcases jm.mp he with rfl|he
 .have z:X.env.locals=b:=jt.inj (hf.symm.trans iL);have h1:=I.ok.above;have h2:=gk e;rw[z]at h1;exact absurd (ju h2 h1) (vg _)
 .exact n (JE he iL)
def aHE{s:dg}(I:Inv (dC qt P w K mg base N qual scope f cd A outer ai aw E) ψ σ H s)(hm:GX s.heap h' e (.ref C) us)(q:E (.ref C) au H) :
  (dC qt P w K mg base N qual scope f cd A outer ai aw E).xe (.ref e) {s with heap:=h' }:=by
 have b9:(dC qt P w K mg base N qual scope f cd A outer ai aw E).stack=(dC qt P w K mg base N qual scope f cd A outer ai aw E).env::outer:=rfl;have ft:∀env∈(dC qt P w K mg base N qual scope f cd A outer ai aw E).stack,∀b,env.frame=aj b->b∈frs (dC qt P w K mg base N qual scope f cd A outer ai aw E).stack:=λenv he b hb=>JE he hb;have hB:∀b o,(GK s.heap (frs (dC qt P w K mg base N qual scope f cd A outer ai aw E).stack)).get? b=aj o->s.heap.get? b=aj o:=λb o e=>PySem.W.of_hideAll _ e;have BV:∀b o,s.heap.get? b=aj o->b∉frs (dC qt P w K mg base N qual scope f cd A outer ai aw E).stack->(GK s.heap (frs (dC qt P w K mg base N qual scope f cd A outer ai aw E).stack)).get? b=aj o:=λb o e n=>PySem.W.hideAll_get _ e n;have fr:=PySem.W.funFrames_hide I.stack ft;refine ZH (B:=GK s.heap (frs (dC qt P w K mg base N qual scope f cd A outer ai aw E).stack)) (h0:=s.heap) I.ok.frames rfl hB fr hm λh2 k1 k4=>?_;have up:∀b o,s.heap.get? b=aj o->(∀vs,o.data≠.fields vs)->∃sl,h2.get? b=aj {o with slots:=sl}:=λb o e nd=>k4 b o (hm.keeps b o e) nd
 have tF:∀b∈frs outer,∀o,s.heap.get? b=aj o->∀vs,o.data≠.fields vs:=λb hb o e=>by
  let⟨_,o',bq,hd⟩:=I.hW.mem hb;rw[e]at bq;cases bq;exact hd
 refine⟨e,C,H,_,rfl,k1,?_,λb o eb nb hb=>?_,λb o eb hb=>?_,⟨λb o eb nb hb _=>?_,λb o eb nb hb _=>?_,λb o eb nb hx=>I.base.free b o eb nb hx,λb o eb hx=>?_,I.base.az,I.base.oM,I.base.fh⟩,I.os,I.bare,q⟩
 .intro b o hb;refine(I.aa b o hb).bP (λc u hc eu=>BV c u eu λhz=>?_) (λ_ z=>z) λ_ _ z=>z;have n:=I.JL c hz;rcases hc with rfl|hc
  .rw[hb]at n;cases n
  .rw[hc]at n;cases n
 .exact BV b o (I.base.keep b o eb nb hb (by simp[yM])) (o8 I b9 rfl eb hb)
 .obtain⟨o',e'⟩:=I.base.there b o eb (by simp[yM]);exact⟨o',BV b o' e' (o8 I b9 rfl eb hb)⟩
 .exact k1.stays b o (BV b o (I.base.keep b o eb nb hb (by simp[yM])) (o8 I b9 rfl eb hb))
 .obtain⟨sl,e1⟩:=I.base.slot b o eb nb hb (by simp[yM]);let⟨p9,e2⟩:=up b _ e1 (tF b hb _ e1);exact⟨p9,e2⟩
 .obtain⟨o',e'⟩:=I.base.there b o eb (by simp[yM]);by_cases hb:b∈frs outer
  .obtain⟨sl,e1⟩:=up b o' e' (tF b hb o' e');exact⟨_,e1⟩
  .exact⟨o',k1.stays b o' (BV b o' e' (o8 I b9 rfl eb hb))⟩
def aHF(hE:∀C H',E' C au H'->E C au H')(I:Inv (dC qt P w K mg base N qual scope f cd A outer ai aw E) ψ σ H s)
  (c:iH P w (dC qt P w K mg base N qual scope f cd A outer ai aw E).stack H s E' e s'):(dC qt P w K mg base N qual scope f cd A outer ai aw E).xe e s':=by
 let⟨x,C,H',B,rfl,fl,aa,tJ,pb,un,os,bare,q⟩:=c;have b9:(dC qt P w K mg base N qual scope f cd A outer ai aw E).stack=(dC qt P w K mg base N qual scope f cd A outer ai aw E).env::outer:=rfl;refine aA4 (B:=B) I.ok.frames rfl fl λh2 k1 k4=>?_
 have Oa:∀b∈frs outer,b∈frs (dC qt P w K mg base N qual scope f cd A outer ai aw E).stack:=λb hb=>by
  let⟨env,he,hf⟩:=Pl hb;exact JE (qj _ he) hf
 have tF:∀b∈frs outer,∀o,s'.heap.get? b=aj o->∀vs,o.data≠.fields vs:=λb hb o e=>by
  let⟨_,o',bq,hd⟩:=fl.Gd.mem (Oa b hb);rw[e]at bq;cases bq;exact hd
 refine⟨x,C,H',B,rfl,k1,aa,λb o eb nb hb=>?_,λb o eb hb=>?_,⟨λb o eb nb hb _=>?_,λb o eb nb hb _=>?_,λb o eb nb hx=>?_,λb o eb hx=>?_,λb xs z=>un.az b xs (I.base.az b xs z),λb o u z=>un.oM b o u (I.base.oM b o u z),λb ps z=>?_⟩,os.trans I.os,bare,hE _ _ q⟩
 .exact tJ b o (I.base.keep b o eb nb hb (by simp[yM])) (I.base.free b o eb nb (by simp[yM])) (o8 I b9 rfl eb hb)
 .obtain⟨o',e'⟩:=I.base.there b o eb (by simp[yM]);exact pb b o' e' (o8 I b9 rfl eb hb)
 .exact k1.stays b o (tJ b o (I.base.keep b o eb nb hb (by simp[yM])) (I.base.free b o eb nb (by simp[yM])) (o8 I b9 rfl eb hb))
 .obtain⟨sl,e1⟩:=I.base.slot b o eb nb hb (by simp[yM]);let⟨p9,e2⟩:=un.slot b _ e1 (I.base.free b o eb nb (by simp[yM])) (Oa b hb) (by simp);let⟨Wf,e3⟩:=k4 b _ e2 (tF b hb _ e2);exact⟨Wf,e3⟩
 .obtain⟨o',e'⟩:=I.base.there b o eb (by simp[yM]);exact un.free b o' e' (I.base.free b o eb nb (by simp[yM])) (by simp)
 .obtain⟨o',e'⟩:=I.base.there b o eb (by simp[yM]);by_cases hb:b∈frs outer
  .obtain⟨o2,e2⟩:=un.there b o' e' (by simp);let⟨sl,e3⟩:=k4 b o2 e2 (tF b hb o2 e2);exact⟨_,e3⟩
  .obtain⟨o2,e2⟩:=pb b o' e' (o8 I b9 rfl eb hb);exact⟨o2,k1.stays b o2 e2⟩
 .obtain⟨m1,e1⟩:=I.base.fh b ps z;let⟨m2,e2⟩:=un.fh b _ e1;exact⟨m1++m2,by rw[e2,Array.append_assoc]⟩
end
abbrev pj(K:Fg)(EX:aV):XK:=λC _ H'=>∃c G',C=.ref c/\HR K H' G'/\EX c G'
structure mM(X:Cx)(EX:aN->aV):Prop where
 CF:∀ψ σ H s ρ e s',Inv X ψ σ H s->SR X.K H ρ σ->iH X.prog X.w X.stack H s (pj X.K (EX ρ)) e s'->X.xe e s'
structure MZ(X:Cx)(EX:aN->aV):Prop where
 made:∀ψ σ H s ρ C e us h',Inv X ψ σ H s->SR X.K H ρ σ->GX s.heap h' e (.ref C) us->pj X.K (EX ρ) (.ref C) au H->X.xe (.ref e) {s with heap:=h' }
section
variable{qt:Bool}{w:ji}{K:Fg}{mg:Str->Option bh}{base:kh}{N:List Str}{A:lu}{outer:List Env}{ai:dg}{aw:Hp}
def Qr(h:wq K EX E)(q:pj K EX C au H'):E C au H':=by
 let⟨c,G',rfl,g,q⟩:=q;exact h c H' G' g q
def aY1(h:wq K EX E):mM (dC qt P w K mg base N qual scope f cd A outer ai aw E) (λ_=>EX) :=
 ⟨λψ σ H s ρ e s' I _ c=>aHF (E':=pj K EX) (λC H' q=>Qr h q) I c⟩
def aY2(h:wq K EX E):MZ (dC qt P w K mg base N qual scope f cd A outer ai aw E) (λ_=>EX) :=
 ⟨λψ σ H s ρ C e us h' I _ hm q=>aHE I hm (Qr h q)⟩
def Na:vS (dz P w) (dC qt P w K mg base N qual scope f cd A outer ai aw E).A (dC qt P w K mg base N qual scope f cd A outer ai aw E).env (dC qt P w K mg base N qual scope f cd A outer ai aw E).xe:=PassesOwn.leaving
end
section
variable{X:Cx}{k:Nat}{sp:lJ}{EX:aN->aV}{x:Str}{pos:Pos}{t:bo}
abbrev aP(sp:lJ)(EX:aN->aV)(t:bo):d7:=λρ G R=>t ρ G λds G1=>sp ds G1 R (EX ρ)
private theorem Pk{Q Q':VK}(F:bQ qt X.prog X.w X.K X.mg X.base (iH X.prog X.w) k f fd ps (bV X.K sp))(hr:nO qt k X.A)(hb:Binds X.K fd ps [])
  (hx:∀e s',iH X.prog X.w X.stack H s E e s'->X.xe e s')
  (I:Inv X ψ σ H s)(r:Vals vs us)(h:bV X.K sp vs H Q E)(hQ:∀v H',Ts H H'->Q v H'->Q' v H'):dj (dz X.prog X.w) X.A (call (.ref f) us) (EP X ψ σ Q') X.xe s:=by
 have hl:(us++[]).length=ps.length:=by rw[Bx,←r.length];exact F.len _ _ _ _ h
 refine wpAny_call (codeAny_mono (F.run X.A X.stack s H ⟨us,[]⟩ (us++[]) vs Q E hr I.Ai (hb s us I.cz hl) (by rw[Bx];exact r) h) λr s' hq=>?_);cases r with
 |error e=>exact hx e s' hq
 |ok fl =>
  cases fl with
  |ret u =>
   let⟨v,H',os,bare,un,aa,r,q⟩:=hq;exact⟨v,H',I.d4 (ch:=[]) os un aa bare (λb z=>absurd z (by simp)),r,hQ v H' ⟨un.az,un.oM⟩ q⟩
  |next=>exact False.elim hq
  |brk=>exact False.elim hq
  |cont=>exact False.elim hq
def aHG(F:bQ qt X.prog X.w X.K X.mg X.base (iH X.prog X.w) k f fd ps (bV X.K sp))(hr:nO qt k X.A)(hg:Gl X x)(hm:X.mg x=aj (.ref f))(hk:tu X.K (.ref f)=ak)(hb:Binds X.K fd ps [])(hx:mM X EX)
  (ha:eM X (e::es) t)(ij:(x==("__debug__":Str))=ao:=by decide)(he:jg (e::es) X.env=(ao,eval e X.env)::jg es X.env:=by rfl)(gX:(uc pos (jg es X.env)).any (·.1)=ao:=by rfl) :
  dJ X (.Call (.Name x p) (e::es) [] pos) (aP sp EX t):=by
 intro ψ s σ H Q I h;let⟨ρ,G,R,sr,g,q,kk⟩:=h;refine yx (rA I hg hm ?_ ij);refine Mo (h₀:=X.base) I.ok.mod.oq hk (fW (ha pos ψ s σ H (λvs H1=>Ts H H1/\∃ds G1,cZ X.K H1 ds vs/\HR X.K H1 G1/\sp ds G1 R (EX ρ)) I ⟨ρ,G,_,sr,g,q,λvs H1 ds G1 t1 r1 g1 q1=>⟨t1,ds,G1,r1,g1,q1⟩⟩) λus s1 ⟨vs,H1,I1,r,t1,ds,G1,r1,g1,q1⟩=>⟨I1.cz,?_⟩) he gX;refine Pk (E:=pj X.K (EX ρ)) F hr hb (λe s' c=>hx.CF ψ σ H1 s1 ρ e s' I1 (sr.mono t1) c) I1 r (Q:=λv H'=>∃d G',RD X.K H' d v/\HR X.K H' G'/\R d G') ⟨ds,G1,R,EX ρ,r1,g1,q1,λv H' d G' r2 g2 q2=>⟨d,G',r2,g2,q2⟩,λC H' G' g' q'=>⟨C,G',rfl,g',q'⟩⟩ (by rintro v H' t2 ⟨d,G',r2,g2,q2⟩;exact kk v H' d G' (t1.trans t2) r2 g2 q2)
def aNP{qt:Bool}{P:lg}{w:ji}{K:Fg}{base:kh}{qual:Str}{f:bx}{fd:jf}{N ps:List Str}{k:Nat}{tb:aV->bB}(F:bE K x qual st f fd)(S:aO N ps (bI st))
  (gu:∀(dE:bh)(A:lu)(outer:List Env)(s:dg)(H:Hp)(E:XK)(EX:aV),nO qt k (A.deeper (envOfC qual (bI st) s.heap.objs.size f dE))->wq K EX E ->
   hU (dC qt P w K mg base N qual (bI st) f dE A outer s H E) (cN st) (tb EX)):bQ qt P w K mg base (iH P w) (k+1) f fd ps (bV K (aXZ N.length ps.length tb)):=by
 let⟨oc,od,dV,kV,doc,pm,an,dE,ct,Av,rfl,lk,fw⟩:=F.ex;have gX:ps.length<=N.length:=by have:=congrArg DJ S.pre;rw[wu]at this;omega
 refine aSR lk fw S (λvs H Q E h=>?_) λA outer s H vs Q E hr sT=>?_
 .obtain⟨ds,G,R,EX,r,g,⟨hl,q⟩,_⟩:=h;rw[←r.length,hl]
 .obtain⟨ds,G,R,EX,r,g,⟨hl,q⟩,kk,hE⟩:=sT;refine⟨_,gu dE A outer s H E EX hr hE,FG N.length ds,G,_,?_,g,q,⟨λρ G' av H' s1 g1 q1=>kk .ae H' .ae G' .ae g1 q1,λd G' v H' r1 g1 q1=>kk v H' d G' r1 g1 q1,λ_ _ _ _ _ _ z=>z.elim,λ_ _ _ _ _ _ z=>z.elim⟩⟩;unfold FG start;rw[r.length];exact SR.entry r
end
section
variable{X:Cx}{C:bx}{ik:List bh}{B Bn newId B4 d5 B8:String}{EX:aN->aV}{x:Str}{pos:Pos}{t:bo}
private theorem FX{K:Fg}(XK:K.In h)(q:zc K C ik newId=ak):∃bm N nm q bs hdct sn sub ab col dd k0 k1 k2 k3 k5 mN,h.get? C=aj (excClassObj nm q C N bs bm hdct sn sub ab col dd k0 k1 k2 k3 k5 newId)/\h.Ns N mN/\mN "__init__"=au/\OwnTail h ik bm:=by
 unfold zc at q;split at q
 .rename_i dd cd sl ho;split at q
  .rename_i C' bm k0 k1 k2 k3 n k5 hm hs;simp only[cg,beq_iff_eq,iw]at q;let⟨⟨⟨⟨⟨rfl,rfl⟩,D5⟩,ht⟩,aa⟩,tj⟩:=q;let⟨nm,bs,mro,ns,qn,hd,sn,sub,ab,col,del⟩:=cd;dsimp only at hm D5 aa tj;subst hm D5
   have WO:sl=#[k0,k1,k2,k3,aj (.builtin n),k5]:=by
    let⟨l⟩:=sl;simp only at hs;rw[hs]
   subst WO;exact⟨bm,ns,nm,qn,bs,hd,sn,sub,ab,col,dd,k0,k1,k2,k3,k5,_,XK _ _ ho,.of_isNs (PySem.W.isNs_of_in XK aa),PySem.W.nsMap_none_of_in XK aa tj,PySem.W.tail_of_in XK ht⟩
  .cases q
 .cases q
abbrev iK(EX:aN->aV)(C:bx)(t:bo):bB:=λ_ ρ G=>t ρ G λds G1=>ds.length<=dh/\EX ρ C G1
def aHH(hc:X.calm=ak)(Fn:vT Bn newId B8 E7)(xo:ik.contains (.type Bn)=ak)(FB:vT B B4 d5 ik)(hg:Gl X x)(hm:X.mg x=aj (.ref C))(hq:zc X.K C ik newId=ak)(hT:MZ X EX)
  (ha:eM X (e::es) t)(hd:(x==("__debug__":Str))=ao:=by decide)
  (he:jg (e::es) X.env=(ao,eval e X.env)::jg es X.env:=by rfl)(d6:(uc ah (jg es X.env)).any (·.1)=ao:=by rfl) :
  eL X (.Raise (aj (.Call (.Name x np) (e::es) [] ah)) au pos) (iK EX C t):=by
 intro ψ s σ H F I h;let⟨ρ,G,E3,sr,g,q,dd⟩:=h;let⟨tl,N,nm,q',bs,hdct,sn,sub,ab,col,kP,k0,k1,k2,k3,k5,mN,hC,hN,tj,T⟩:=FX I.mod.oq hq
 refine wpAny_Raise_call_subU (C:=C) (nm:=nm) (q:=q') (N:=N) (bs:=bs) (bm:=tl) (hdct:=hdct) (sn:=sn) (sub:=sub) (ab:=ab) (col:=col) (dd:=kP) (k0:=k0) (k1:=k1) (k2:=k2) (k3:=k3) (k5:=k5)
  Fn xo FB (mN:=mN) (T.hasType FB.hasBase) (I.ok.hd hc) (by rw[he];show(ao||(uc ah (jg es X.env)).any (·.1))=ao;rw[d6];rfl) tj (rA I hg hm ⟨rfl,?_⟩ hd)
 have hA:=ha ah ψ s σ H (λvs H1=>Ts H H1/\∃ds G1,cZ X.K H1 ds vs/\HR X.K H1 G1/\ds.length<=dh/\EX ρ C G1) I ⟨ρ,G,_,sr,g,q,λvs H1 ds G1 t1 r1 g1 q1=>⟨t1,ds,G1,r1,g1,q1.1,q1.2⟩⟩;rw[he]at hA ⊢;refine Calls.evalArgs_plain (fW hA ?_);rintro us s2 ⟨vs,H2,I2,r2,t1,ds,G1,r1,g1,hl,q1⟩;exact⟨rfl,by rw[←r2.length,←r1.length];exact hl,I2.bk _ _ hC,hN.keeps I2.bk,T.keeps I2.bk,λh' e' Iy=>hT.made ψ σ H2 s2 ρ C e' us h' I2 (sr.mono t1) Iy ⟨C,G1,rfl,g1,q1⟩⟩
end
end
variable{A:lu}{B:kh}{M:Model}{Dc:bx}
section
abbrev ma:aN->Nat->aN
 |[],_=>[]
 |_::r,0=>au::r
 |x::r,n+1=>x::ma r n
abbrev kg:St->Nat->St
 |[],_=>[]
 |_::r,0=>au::r
 |x::r,n+1=>x::kg r n
def SR.Cq{K:Fg}:∀{ρ:aN}{σ:St}(i:Nat),SR K H ρ σ->SR K H (ma ρ i) (kg σ i)
 |_,_,_,.nil=>.nil
 |_,_,0,.none r=>.none r
 |_,_,0,.some _ r=>.none r
 |_,_,i+1,.none r=>.none (SR.Cq i r)
 |_,_,i+1,.some h r=>.some h (SR.Cq i r)
def Qq:∀(σ:St)(i:Nat),(kg σ i).length=σ.length
 |[],_=>rfl
 |_::_,0=>rfl
 |_::r,i+1=>congrArg (·+1) (Qq r i)
def Qp:∀(σ:St)(i j:Nat)(v:V),(kg σ i)[j]?=aj (aj v)->j≠i/\σ[j]?=aj (aj v)
 |[],_,_,_,h=>by simp[kg]at h
 |_::_,0,0,_,h=>by simp[kg]at h
 |_::_,0,j+1,_,h=>⟨⋯,by simpa[kg]using h⟩
 |_::_,i+1,0,_,h=>⟨⋯,by simpa[kg]using h⟩
 |_::r,i+1,j+1,v,h=>by
  let⟨a,b⟩:=Qp r i j v (by simpa[kg]using h);exact⟨⋯,by simpa using b⟩
variable{x:bx}{n:Str}
section
variable{X:Cx}
abbrev V0(X:Cx)(EX:aN->aV):bh->dg->Prop:=λe s'=>∃ψ σ H s ρ,Inv X ψ σ H s/\SR X.K H ρ σ/\iH X.prog X.w X.stack H s (pj X.K (EX ρ)) e s'
@[simp]def C9(X:Cx)(pn:List (bx×Obj))(EX:aN->aV):Cx:={X with pn:=X.pn++pn,xe:=V0 {X with pn:=X.pn++pn} EX}
@[simp]def ub(X:Cx)(x:bx):Cx:={X with A:=X.A.mark (aj (.ref x)),calm:=false,xe:=λ_ _=>False}
def aTV(ok:X.Ok)(pn:List (bx×Obj))(E:bh->dg->Prop):({X with pn:=pn,xe:=E}:Cx).Ok :=
 ⟨ok.mod,ok.kind,ok.glob,ok.blt,ok.above,ok.inj,ok.has,ok.tN,ok.hd,ok.frames,ok.iE,ok.Cp,ok.bs,ok.kQ,ok.uA,ok.yf,ok.hW,ok.oC⟩
def Pj(I:Inv X ψ σ H s)(E:bh->dg->Prop):Inv ({X with pn:=X.pn++ψ,xe:=E}:Cx) [] σ H s :=
 ⟨aTV I.ok _ _,I.os,I.bare,I.base,I.loc,I.cell,I.free,I.rY,λp hp=>I.pin p (by simpa using hp),I.aa,I.len,I.dy,I.tup⟩
def v8(I:Inv ({X with pn:=X.pn++ψ,xe:=E}:Cx) y4 σ H s):Inv X ψ σ H s :=
 ⟨⟨I.ok.mod,I.ok.kind,I.ok.glob,I.ok.blt,I.ok.above,I.ok.inj,I.ok.has,I.ok.tN,I.ok.hd,I.ok.frames,I.ok.iE,I.ok.Cp,I.ok.bs,I.ok.kQ,I.ok.uA,I.ok.yf,I.ok.hW,I.ok.oC⟩,I.os,I.bare,I.base,I.loc,I.cell,I.free,I.rY,λp hp=>I.pin p (Mw _ hp),I.aa,I.len,I.dy,I.tup⟩
def FW(I:Inv X ψ σ H s)(x:bx)(q:w4 (X.A.mark (aj (.ref x))) H):Inv (ub X x) ψ σ H s :=
 ⟨⟨I.ok.mod,I.ok.kind,I.ok.glob,I.ok.blt,I.ok.above,I.ok.inj,I.ok.has,I.ok.tN,(λz=>nomatch z),I.ok.frames,I.ok.iE,I.ok.Cp,I.ok.bs,I.ok.kQ,I.ok.uA,I.ok.yf,I.ok.hW,I.ok.oC⟩,I.os,I.bare,I.base,I.loc,I.cell,I.free,I.rY,I.pin,I.aa,I.len,q,I.tup⟩
def o9(ok:X.Ok)(hn:X.A.handled=au)(I:Inv (ub X x) ψ σ H s):Inv X ψ σ H s :=
 ⟨ok,I.os,I.bare,I.base,I.loc,I.cell,I.free,I.rY,I.pin,I.aa,I.len,.inl hn,I.tup⟩
def aY3(pn:List (bx×Obj))(EX:aN->aV):mM (C9 X pn EX) EX:=⟨λψ σ H s ρ e s' I sr c =>
 ⟨ψ,σ,H,s,ρ,⟨⟨I.ok.mod,I.ok.kind,I.ok.glob,I.ok.blt,I.ok.above,I.ok.inj,I.ok.has,I.ok.tN,I.ok.hd,I.ok.frames,I.ok.iE,I.ok.Cp,I.ok.bs,I.ok.kQ,I.ok.uA,I.ok.yf,I.ok.hW,I.ok.oC⟩,I.os,I.bare,I.base,I.loc,I.cell,I.free,I.rY,I.pin,I.aa,I.len,I.dy,I.tup⟩,sr,c⟩⟩
def T7{P:lg}{w:ji}{s s':dg}(fl:mr B l x (.ref C) s'.heap)(tJ:∀b o,s.heap.get? b=aj o->H b=au->b∉frs l->B.get? b=aj o)
  (pb:∀b o,s.heap.get? b=aj o->b∉frs l->∃o',B.get? b=aj o')(un:Un (frs l) [] H H' s.heap s'.heap)(st:B.StaysIn h2)(up:s'.heap.UpToSlots h2):Un (frs l) [] H H' s.heap h2:=by
 have tF:∀b∈frs l,∀o,s'.heap.get? b=aj o->∀vs,o.data≠.fields vs:=λb hb o e=>by
  let⟨_,o',bq,hd⟩:=fl.Gd.mem hb;rw[e]at bq;cases bq;exact hd
 refine⟨λb o eb nb hb _=>st b o (tJ b o eb nb hb),λb o eb nb hb hx=>?_,un.free,λb o eb hx=>?_,un.az,un.oM,un.fh⟩
 .obtain⟨sl,e1⟩:=un.slot b o eb nb hb hx;let⟨p9,e2⟩:=up b _ e1 (tF b hb _ e1);exact⟨p9,e2⟩
 .by_cases hb:b∈frs l
  .obtain⟨o2,e2⟩:=un.there b o eb hx;let⟨sl,e3⟩:=up b o2 e2 (tF b hb o2 e2);exact⟨_,e3⟩
  .obtain⟨o2,e2⟩:=pb b o eb hb;exact⟨o2,st b o2 e2⟩
def FV(I:Inv X ψ σ H s)(hN:X.N.Nodup)(hi:X.N[i]?=aj n)(hl:X.env.kindOf n=aj .local)
  (h:∀s',Inv X ψ (kg σ i) H s'->Q () s'):dj M A (do bindName X.env n .none;unbindBehindTheSuite X.env n pos) Q E s:=by
 let⟨m,hn,EN⟩:=id I.loc;have l9:=I.l9;refine wpAny_nameGoes_keeps hl hn (by rw[I.ok.kind];rfl) λh' v EL hs=>?_;let⟨oL,_,_,N3,_⟩:=id hn;refine h _ ⟨I.ok,I.os,I.bare,⟨λb o e n hb hx=>?_,λb o e n hb hx=>?_,I.base.free,λb o e hx=>?_,I.base.az,I.base.oM,I.base.fh⟩,⟨_,EL,λj y v' e1 e2 e3=>?_⟩,λy c e=>?_,I.free,I.rY,λp hp=>?_,λb ob e=>?_,(Qq σ i).trans I.len,I.dy,I.tup⟩
 .exact(hs.2 b (jl (ju (gk e) I.ok.above))).trans (I.base.keep b o e n hb hx)
 .obtain⟨sl,e1⟩:=I.base.slot b o e n hb hx;exact⟨sl,(hs.2 b (jl (ju (gk e) I.ok.above))).trans e1⟩
 .obtain⟨o',e1⟩:=I.base.there b o e hx;exact⟨o',(hs.2 b (jl (ju (gk e) I.ok.above))).trans e1⟩
 .obtain⟨hj,oP⟩:=Qp σ i j v' e2;let⟨u',r',q⟩:=EN j y v' e1 oP e3;refine⟨u',r',?_⟩;rcases q with⟨k,e⟩|⟨k,c,e,z⟩
  .refine .inl ⟨k,?_⟩;have:y≠n:=λe=>hj (Ku hN e1 (e ▸ hi));simp[this,e]
  .exact .inr ⟨k,c,e,z.sameBut hs (l9 y c e)⟩
 .obtain⟨w',z⟩:=I.cell y c e;exact⟨w',z.sameBut hs (l9 y c e)⟩
 .obtain⟨e,n,ne,nf,d⟩:=I.pin p hp;exact⟨(hs.2 p.1 ne).trans e,n,ne,nf,d⟩
 .refine(I.aa b ob e).bP (λc w' hc q=>(hs.2 c ?_).trans q) (λ_ q=>q) λ_ _ q=>q;rintro rfl;have b7:=I.free;rcases hc with z|hc
  .rw[z,e]at b7;cases b7
  .rw[b7]at hc;cases hc
private theorem Lh{K:Fg}{s:dg}{oe:Obj}{b:Bool}(KX:K.In s.heap)(he:s.heap.get? x=aj oe)(Ag:oe.cls=.ref C)
  (hc:(vo K Dc).isSome=ak)(ht:we K (.ref Dc)=aj (.type "type"))(hb:qe K (.ref Dc) (.type "BaseException")=aj ak)(hs:qe K (.ref C) (.ref Dc)=aj b)(h:Q b s):dj M A (excMatches (.ref x) (.ref Dc)) Q E s:=by
 have l1:vh M s.heap (typeOf (.ref Dc)) (.type "type"):=PySem.W.looks_typeIn KX ht;have l2:vh M s.heap (isSubtype (.ref Dc) (.type "BaseException")) ak:=PySem.W.looks_subIn KX hb;have l3:vh M s.heap (isSubtype (.ref C) (.ref Dc)) b:=PySem.W.looks_subIn KX hs
 have l4:vh M s.heap (typeOf (.ref x)) (.ref C):=by
  have z:=(vh.ld (M:=M) (part:=none) he).andThen (f:=λo=>pure o.cls) (b:=.ref C) (by rw[Ag];exact .now);exact z
 have l0:vh M s.heap (isSubtype (.type "type") (.type "tuple")) ao:=.of_pure tc_notTuple
 have lt:vh M s.heap (isType (.ref Dc)) ak:=by
  intro A' Q' E' s' k q;cases eK:vo K Dc with
  |none=>rw[eK]at hc;cases hc
  |some cd =>
   unfold vo at eK;split at eK
   .rename_i ho;unfold isType loadHead;exact aq (wpAny_loadPart (k _ _ (KX _ _ ho)) (cu q))
   .cases eK
 unfold excMatches isInstance isExcClass
 repeat (first|with_reducible refine vh.here l0 ?_|with_reducible refine vh.here l1 ?_|with_reducible refine vh.here l2 ?_|with_reducible refine vh.here l3 ?_|with_reducible refine vh.here l4 ?_|with_reducible refine vh.here lt ?_|wp_step)
 cases b<;>(wp_walk;exact h)
abbrev CD(K:Fg)(Dc:bx)(i:Nat)(tb:(aN->aV)->bB)(th:bB):bB:=λF ρ G =>
 tb (λgy C G1=>qe K (.ref C) (.ref Dc)=aj ak/\∀x,G1 x=au->th {nx:=λb8 G2=>F.nx (ma b8 i) G2,rt:=F.rt,bk:=λb8 G2=>F.bk (ma b8 i) G2,ct:=λb8 G2=>F.ct (ma b8 i) G2} (iS gy i (.ref x)) (aM G1 x (.ej C))) F ρ G
private theorem Qo(h:SP (C9 X ψ EX) [] F f s):SP X ψ F f s:=by
 cases f with
 |next=>let⟨av,H',I,q⟩:=h;exact⟨av,H',v8 I,q⟩
 |brk=>let⟨av,H',I,q⟩:=h;exact⟨av,H',v8 I,q⟩
 |cont=>let⟨av,H',I,q⟩:=h;exact⟨av,H',v8 I,q⟩
 |ret u=>let⟨v,av,H',I,r,q⟩:=h;exact⟨v,av,H',v8 I,r,q⟩
def Kq{w:ji}(aa:bz P w H B)(n:B.get? x=au):H x=au:=by
 cases e0:H x with
 |none=>rfl
 |some o =>
  have lt:=(aa x o e0)
  obtain⟨o',bq⟩:∃o',B.get? x=aj o':=by
   cases o with
   |lst xs=>let⟨_,_,_,_,e⟩:=lt;exact⟨_,e⟩
   |tup xs=>let⟨_,_,_,o,e,_⟩:=lt;exact⟨_,e⟩
   |dK kvs=>let⟨_,_,_,_,o,_,_,e,_⟩:=lt;exact⟨_,e⟩
   |dT kvs=>let⟨_,_,_,_,o,_,_,e,_⟩:=lt;exact⟨_,e⟩
   |set S n=>let⟨o,_,_,_,e,_⟩:=lt;exact⟨_,e⟩
   |ins C dx fs=>let⟨_,_,_,e,_⟩:=lt;exact⟨_,e⟩
   |own y=>let⟨_,e⟩:=lt;exact⟨_,e⟩
   |xd fs=>let⟨_,⟨_,_,_,e,_⟩,_⟩:=lt;exact⟨_,e⟩
   |Eo lo hi=>let⟨_,_,_,e⟩:=lt;exact⟨_,e⟩
   |lH ob u=>let⟨e,_⟩:=lt;exact⟨_,e⟩
   |iA ps=>exact⟨_,(show B.get? x=aj _ from lt)⟩
   |met f y=>exact⟨_,(show B.get? x=aj _ from lt)⟩
   |ext φ=>let⟨_,⟨_,e⟩,_⟩:=lt;exact⟨_,e⟩
  rw[n]at bq;cases bq
private theorem aTW{ba:List jo}{cx:Str}{th:bB}{cp kA:Pos}
  (ef:X.calm=ak)(hN:X.N.Nodup)(hi:X.N[i]?=aj n)(hl:X.env.kindOf n=aj .local)(b9:X.stack=X.env::X.outer)(xm:X.env.frame=aj X.env.locals)
  (hg:Gl X cx)(hm:X.mg cx=aj (.ref Dc))(hc:(vo X.K Dc).isSome=ak)(ht:we X.K (.ref Dc)=aj (.type "type"))(EY:qe X.K (.ref Dc) (.type "BaseException")=aj ak)
  (hb:∀pn EX,hU (C9 X pn EX) body (tb EX))(hh:∀x,hU (ub X x) (Ni::ba) th)(hd:(cx==("__debug__":Str))=ao:=by decide) :
  eL X (.Try body [.ExceptHandler (aj (.Name cx cp)) (aj n) (Ni::ba) kA] [] [] pos) (CD X.K Dc i tb th):=by
 intro ψ s σ H F I h;let⟨ρ,G,E3,sr,g,q,d⟩:=h;refine wpAny_Try_except (qu (hb ψ _ [] s σ H F (Pj I _) ⟨ρ,G,E3,sr,g,q,d⟩) (λf s1 q1=>?_) λe s1 q1=>?_)
 .have q2:=Qo q1;cases f with
  |next=>exact By q2
  |brk=>exact q2
  |cont=>exact q2
  |ret u=>exact q2
 .obtain⟨y4,jn,H1,s0,gy,I1,HL,x,C,H',B,rfl,fl,aa,tJ,pb,un,os,bare,c,G',e2,g',nh,Ir⟩:=q1;cases e2;have J1:Inv X ψ jn H1 s0:=v8 I1;have hn:X.A.handled=au:=I.ok.hd ef;have iL:X.A.frames=aj (X.env::X.outer):=by rw[←b9];exact I.ok.frames
  have IL:mr B (X.env::X.outer) x (.ref C) s1.heap:=by rw[←b9];exact fl
  refine JM (B:=B) iL xm IL λh4 LN BX=>?_;refine Bp LN λh5 xt BW=>?_;have B9:B.get? x=au:=fl.new;have qh:H' x=au:=Kq aa B9
  have fS:∀(h6:kh)(oe:Obj)(ws:Array bh),mr B (X.env::X.outer) x (.ref C) h6->s1.heap.UpToSlots h6->h6.get? x=aj oe->oe.cls=.ref C->oe.data=.fields ws ->
    Inv X ψ jn (upd H' x (.lH oe (.ext (vI C x)))) {s1 with heap:=h6}/\Ts H1 (upd H' x (.lH oe (.ext (vI C x)))):=by
   intro h6 oe ws j2 sm kc yy k6;have hZ:=T7 (P:=X.prog) (w:=X.w) fl tJ pb un j2.stays sm
   have Ib:s0.heap.get? x=au:=by
    cases e0:s0.heap.get? x with
    |none=>rfl
    |some o =>
     by_cases hx:x∈frs X.stack
     .obtain⟨_,o',bq,g7⟩:=j2.Gd.mem (by rw[←b9];exact hx);rw[kc]at bq;cases bq;exact absurd k6 (g7 ws)
     .obtain⟨o',bq⟩:=pb x o e0 hx;rw[B9]at bq;cases bq
   have sn:aE H' (upd H' x (.lH oe (.ext (vI C x)))):=bM qh;have ib:∀b o,s0.heap.get? b=aj o->b≠x:=λb o e z=>by subst z;rw[Ib]at e;cases e
   have xb:Un (frs X.stack) [] H1 (upd H' x (.lH oe (.ext (vI C x)))) s0.heap h6:=⟨hZ.keep,hZ.slot,λb o e n hx=>by rw[bD (ib b o e)];exact hZ.free b o e n hx,hZ.there,λb xs z=>sn _ _ (hZ.az b xs z),λb o u z=>sn _ _ (hZ.oM b o u z),λb ps z=>by
    let⟨m,e⟩:=hZ.fh b ps z;exact⟨m,sn _ _ e⟩⟩
   have Lg:bz X.prog X.w (upd H' x (.lH oe (.ext (vI C x)))) h6:=λb o e=>by
    by_cases hb:b=x
    .subst hb;rw[aL]at e;cases e;refine⟨kc,⟨oe,ws,kc,yy,k6⟩,⟨oe,kc⟩,λh1 h2 ⟨o1,w1,e1,e2,e3⟩ k=>⟨o1,w1,k _ e1,e2,e3⟩⟩
    .rw[bD hb]at e;exact((aa.kept j2.stays) b o e).bP (λ_ _ _ z=>z) (λc z=>sn _ _ z) λc xs z=>sn _ _ z
   exact⟨J1.d4 (ch:=[]) (s':={s1 with heap:=h6}) os xb Lg bare (λb z=>absurd z (by simp)),xb.az,xb.oM⟩
  let⟨oe,BS,Az,kF,nt,Lf⟩:=xt.fld;let⟨J5,_⟩:=fS h5 oe BS xt (BX.trans BW) Az kF nt;refine wpAny_handleBy_cons (codeAny_handlers_test ?_) (by intro q;cases q);refine rA (X:=ub X x) (FW J5 x (.inr ⟨x,oe,_,BS,rfl,aL,nt,Lf⟩)) hg hm ?_ hd;refine Lh (K:=X.K) J5.cz Az kF hc ht EY nh ?_;refine codeAny_handlers_suite_as ?_;refine Bp xt λh6 j2 HM=>?_;let⟨Aw,ws,kc,yy,k6,Fm⟩:=j2.fld;let⟨J7,tt⟩:=fS h6 Aw ws j2 ((BX.trans BW).trans HM) kc yy k6;have gx:G' x=au:=jL (K:=X.K) g' qh (vJ (X:=X) J7);refine Kt (X:=ub X x) (FW J7 x (.inr ⟨x,Aw,_,ws,rfl,aL,k6,Fm⟩)) hN hi (.inl hl) (v:=.ref x) (u:=.ref x) rfl (λs8 J8=>?_) (.inr hl);have q8:=Ir x gx
  refine qu (hh x ψ s8 _ _ {nx:=λbb H2=>F.nx (kg bb i) H2,rt:=F.rt,bk:=λbb H2=>F.bk (kg bb i) H2,ct:=λbb H2=>F.ct (kg bb i) H2} J8
   ⟨iS gy i (.ref x),aM G' x (.ej C),_,(HL.mono tt).set (.ref x) i,g'.put (u:=.ej C) qh ⟨Aw,ws,aL,k6,Fm⟩,q8,⟨λb8 G2 bb H2 s2 g2 z=>d.nx _ G2 _ H2 (s2.Cq i) g2 z,d.rt,λb8 G2 bb H2 s2 g2 z=>d.bk _ G2 _ H2 (s2.Cq i) g2 z,λb8 G2 bb H2 s2 g2 z=>d.ct _ G2 _ H2 (s2.Cq i) g2 z⟩⟩) (λf s9 q9=>?_) λ_ _ z=>z.elim
  cases f with
  |next=>let⟨bb,H2,I2,z⟩:=q9;exact FV (o9 J7.ok hn I2) hN hi hl λEm pM=>⟨_,H2,pM,z⟩
  |brk=>let⟨bb,H2,I2,z⟩:=q9;exact FV (o9 J7.ok hn I2) hN hi hl λEm pM=>⟨_,H2,pM,z⟩
  |cont=>let⟨bb,H2,I2,z⟩:=q9;exact FV (o9 J7.ok hn I2) hN hi hl λEm pM=>⟨_,H2,pM,z⟩
  |ret u=>let⟨v,bb,H2,I2,r2,z⟩:=q9;exact FV (o9 J7.ok hn I2) hN hi hl λEm pM=>⟨v,_,H2,pM,r2,z⟩
end
end
section
variable{x:D}
section
variable{X:Cx}{a b c:je}{pos:Pos}
abbrev CA(t:d7):d7:=λρ G R=>t ρ G λx G1=>match x with
 |.int i=>R (.int (-i)) G1
 |_=>False
def aU1(ha:dJ X a ta):dJ X (.UnaryOp .USub a pos) (CA ta):=PE.imp (aSJ aMR ha) λσ H Q h=>by
 let⟨ρ,G,R,s,g,t,k⟩:=h;refine⟨ρ,G,_,s,g,t,λv H1 x G1 t1 r g1 q=>?_⟩;cases r with
 |int i=>exact⟨i,rfl,k _ H1 _ G1 t1 (.int _) g1 q⟩
 |_=>exact False.elim q
abbrev bY:Nat->D->Bool
 |0,.tup _=>ao
 |n+1,.tup xs=>xs.all (bY n)
 |_,.ref _=>ao
 |_,.ty _=>ao
 |_,_=>ak
mutual
noncomputable def a8:D->D->Bool
 |.ae,.ae=>ak
 |.bl a,.bl b=>a==b
 |.bl a,.int b=>(if a then 1 else 0)==b
 |.int a,.bl b=>a==(if b then 1 else 0)
 |.int a,.int b=>a==b
 |.str a,.str b=>a==b
 |.tup xs,.tup ys=>xE xs ys
 |_,_=>ao
noncomputable def xE:List D->List D->Bool
 |[],[]=>ak
 |x::xs,y::ys=>a8 x y&&xE xs ys
 |_,_=>ao
end
abbrev ff(xs ys:List D)(j:Nat):Bool:=match xs[j]?,ys[j]? with
 |some a,aj b=>a8 a b
 |_,_=>ao
def aeF(n:Nat)(e:Nat->Bool):(ou (n+1)).all e=(e 0&&(ou n).all λj=>e (j+1)):=by
 rw[List.range_succ_eq_map,zx,List.all_map];rfl
def pY:∀(xs ys:List D),xE xs ys=((ou (min xs.length ys.length)).all (ff xs ys)&&xs.length==ys.length)
 |[],[]=>rfl
 |[],y::ys=>by simp[xE]
 |x::xs,[]=>by simp[xE]
 |x::xs,y::ys=>by
  have ih:=pY xs ys;have e:min (x::xs).length (y::ys).length=min xs.length ys.length+1:=by simp only[uq];omega
  rw[xE,ih,e,aeF];have e0:ff (x::xs) (y::ys) 0=a8 x y:=rfl
  have e1:(λj=>ff (x::xs) (y::ys) (j+1))=ff xs ys:=by
   funext j;simp[ff]
  have e2:((x::xs).length==(y::ys).length)=(xs.length==ys.length):=by
   simp only[uq];by_cases h:xs.length=ys.length
   .simp[h]
   .have h':¬ (xs.length+1=ys.length+1):=by omega
    simp[h,h']
  rw[e0,e1,e2,Bool.and_assoc]
def Qn{xs ys:List D}(h:(xs.length !=ys.length)=ak):xE xs ys=ao:=by
 rw[pY];have:(xs.length==ys.length)=ao:=by simpa using h
 rw[this,Bool.and_false]
def QZ{xs ys:List D}(h:xs.length=ys.length):xE xs ys=(ou xs.length).all (ff xs ys):=by
 rw[pY,h];simp
def cZ.aU2{K:Fg}(ih:∀{x y:D}{v:V},bY n x=ak->bY n y=ak->RD K H x v->RD K H y v->x=y):∀{xs ys:List D},(∀x∈xs,bY n x=ak)->(∀y∈ys,bY n y=ak)->cZ K H xs vs->cZ K H ys vs->xs=ys:=by
 induction vs with
 |nil=>intro xs ys _ _ h1 h2;cases h1;cases h2;rfl
 |cons v vs jh =>
  intro xs ys hx hy h1 h2;cases h1 with
  |cons a r =>
  cases h2 with
  |cons b t=>rw[ih (hx _ (yw ..)) (hy _ (yw ..)) a b,jh (λx m=>hx x (qj _ m)) (λy m=>hy y (qj _ m)) r t]
def RD.inj(I:Inv X ψ σ H s):∀{x y:D}{v:V},bY n x=ak->bY n y=ak->RD X.K H x v->RD X.K H y v->x=y:=by
 induction n with
 |zero=>intro x y v hx hy h1 h2;cases h1<;>cases h2<;>first|rfl|cases hx|cases hy
 |succ n ih =>
  intro x y v hx hy h1 h2;cases h1 with
  |tup s1 r1 _ =>
   cases h2 with
   |tup s2 r2 _ =>
    have e:=I.KI s1 s2;subst e;rw[cZ.aU2 ih (by simpa[bY]using hx) (by simpa[bY]using hy) r1 r2]
   |ref=>cases hy
  |ref=>cases hx
  |_=>cases h2;rfl
mutual
theorem Gu:∀{n:Nat}{x:D},bY n x=ak->a8 x x=ak
 |_,.ae,_=>rfl
 |_,.bl b,_=>by simp[a8]
 |_,.int b,_=>by simp[a8]
 |_,.str b,_=>by simp[a8]
 |n,.ref _,h=>by cases n<;>simp[bY]at h
 |n,.ty _,h=>by cases n<;>simp[bY]at h
 |0,.tup _,h=>by simp[bY]at h
 |n+1,.tup xs,h=>by rw[a8];exact v9 (n:=n) (by simpa[bY]using h)
theorem v9:∀{n:Nat}{xs:List D},(∀x∈xs,bY n x=ak)->xE xs xs=ak
 |_,[],_=>rfl
 |n,x::xs,h=>by rw[xE,Gu (h x (by simp)),v9 λy m=>h y (by simp[m])];rfl
end
def Vals.LM{K:Fg}(r:cZ K H ds xs)(v:Vals xs us){j:Nat}(e:us[j]?=aj u):∃d x,ds[j]?=aj d/\RD K H d x/\RelV x u:=by
 have hj:j<us.length:=(iz.mp e).1;have ES:j<xs.length:=by rw[v.length];exact hj
 have ex:xs[j]?=aj xs[j]:=jd ES;let⟨u',e1,r1⟩:=v.get ex;rw[e]at e1;cases e1;let⟨d,e2,r2⟩:=r.F9 ex;exact⟨d,_,e2,r2,r1⟩
def DA{K:Fg}{n:Nat}{us ws:List bh}(rx:cZ K H xs vx)(ry:cZ K H ys vy)(V3:Vals vx us)(V2:Vals vy ws)
  (ih:∀x∈xs,∀y∈ys,∀(v w:V)(u t:bh),RD K H x v->RD K H y w->RelV v u->RelV w t->SeqAt.EqAt A s u t (a8 x y)) :
  ∀j (h1:j<us.toArray.size) (h2:j<ws.toArray.size),SeqAt.EqAt A s us.toArray[j] ws.toArray[j] (ff xs ys j):=by
 intro j h1 h2;have e1:us[j]?=aj us.toArray[j]:=by simp[jd (show j<us.length by simpa using h1)]
 have e2:ws[j]?=aj ws.toArray[j]:=by simp[jd (show j<ws.length by simpa using h2)]
 let⟨d,x,f1,f2,f3⟩:=Vals.LM rx V3 e1;let⟨d',y,g1,g2,g3⟩:=Vals.LM ry V2 e2;have e:ff xs ys j=a8 d d':=by simp[ff,f1,g1]
 rw[e];exact ih d (lq f1) d' (lq g1) x y _ _ f2 g2 f3 g3
abbrev fq:D->Bool
 |.ae=>ak
 |.bl _=>ak
 |.int _=>ak
 |.str _=>ak
 |_=>ao
def Ph{K:Fg}{v:bh}(hx:fq x=ak)(hy:fq y=ak)(rx:RD K H x vx)(ry:RD K H y vy)(ru:RelV vx u)(rv:RelV vy v):SeqAt.EqAt A s u v (a8 x y):=by
 have fx:k8 vx=ak:=by cases rx<;>first|rfl|cases hx
 have fy:k8 vy=ak:=by cases ry<;>first|rfl|cases hy
 have e:kM vx vy=a8 x y:=by cases rx<;>cases ry<;>first|(simp[kM,a8];done)|cases hx|cases hy
 rw[←e];exact Ud ru rv fx fy
def Dz(h:A.units+(n+1)<qy):A.in1.units+n<qy:=by
 show A.units+1+n<qy;omega
inductive Vw(X:Cx)(H:Hp)(s:dg):D->bh->Prop where
 |ae:Vw X H s .ae .none
 |bl (b:Bool):Vw X H s (.bl b) (.bool b)
 |int (i:Int) (t:Nat):Vw X H s (.int i) (.int i t)
 |str (z:Str) (t:Nat):Vw X H s (.str z) (.str z t)
 |tup {a:bx} {vs:List V} {ds:List D} {its:List bh} (q:br X.K H a vs) (r:cZ X.K H ds vs) (c:rj H a vs) (w:Vals vs its) (p:s.heap.IsTuple a its.toArray):Vw X H s (.tup ds) (.ref a)
def vw(I:Inv X ψ σ H s)(hx:bY n x=ak)(rx:RD X.K H x vx)(ru:RelV vx u):Vw X H s x u:=by
 cases rx with
 |ae=>cases ru;exact .ae
 |bl b=>cases ru;exact .bl b
 |int i=>let⟨t,rfl⟩:=ru;exact .int i t
 |str z=>let⟨t,rfl⟩:=ru;exact .str z t
 |tup q r c=>cases ru;let⟨its,w,p,_⟩:=I.tuple q;exact .tup q r c w p
 |_=>cases n<;>simp[bY]at hx
def FF(I:Inv X ψ σ H s):∀(n:Nat)(A:lu)(x y:D)(vx vy:V)(u v:bh),A.units+n<qy->bY n x=ak->bY n y=ak->RD X.K H x vx->RD X.K H y vy->RelV vx u->RelV vy v->SeqAt.EqAt A s u v (a8 x y):=by
 intro n
 induction n with
 |zero =>
  intro A x y vx vy u v hu hx hy rx ry ru rv;have sx:fq x=ak:=by cases x<;>first|rfl|(simp[bY]at hx)
  have sy:fq y=ak:=by cases y<;>first|rfl|(simp[bY]at hy)
  exact Ph sx sy rx ry ru rv
 |succ n ih =>
  intro A x y vx vy u v hu hx hy rx ry ru rv;have aI:A.units<qy:=by omega
  cases vw I hx rx ru with
  |@tup ax xs ds its Xb HS Xx vv px =>
   cases vw I hy ry rv with
   |@tup ay ys es NQ Xa HQ Xw ww py =>
    by_cases Cm:ax=ay
    .subst Cm;have e:=RD.inj I (n:=n+1) hx hy (.tup Xb HS Xx) (.tup Xa HQ Xw);rw[e,Gu hy];exact SeqAt.EqAt.same _
    .refine SeqAt.EqAt.of_refs Cm ?_
     have z:=SeqAt.RcAt.tuples (e:=ff ds es) px py aI (DA (n:=n) HS HQ vv ww λx mx y my v w u t r1 r2 r3 r4 =>
      ih A.in1 x y v w u t (Dz hu) (jq.mp (by simpa[bY]using hx) x mx) (jq.mp (by simpa[bY]using hy) y my) r1 r2 r3 r4)
     have e:((ou (min its.toArray.size NQ.toArray.size)).all (ff ds es)&&its.toArray.size==NQ.toArray.size)=a8 (.tup ds) (.tup es):=by
      rw[a8,pY,gV,gV,←vv.length,←ww.length,←HS.length,←HQ.length]
     rw[e]at z;exact z
   |_=>simp only[a8];with_reducible first|exact SeqAt.EqAt.tuple_none px aI|exact SeqAt.EqAt.tuple_bool _ px aI|exact SeqAt.EqAt.tuple_int _ _ px aI|exact SeqAt.EqAt.tuple_str _ _ px aI
  |_ =>
   cases vw I hy ry rv with
   |tup _ _ _ _ py=>simp only[a8];with_reducible first|exact SeqAt.EqAt.none_tuple py aI|exact SeqAt.EqAt.bool_tuple _ py aI|exact SeqAt.EqAt.int_tuple _ _ py aI|exact SeqAt.EqAt.str_tuple _ _ py aI
   |_=>exact Ph rfl rfl rx ry ru rv
end
end
variable{a1:bx}
section
section
variable{X:Cx}
local macro_rules| `(tactic| walk_at "rc")=>`(tactic| first|exact SeqAt.RcAt.none_none|exact SeqAt.RcAt.none_bool _|exact SeqAt.RcAt.none_int _ _|exact SeqAt.RcAt.none_str _ _|exact SeqAt.RcAt.bool_none _|exact SeqAt.RcAt.bool_bool _ _|exact SeqAt.RcAt.bool_int _ _ _|exact SeqAt.RcAt.bool_str _ _ _|exact SeqAt.RcAt.int_none _ _|exact SeqAt.RcAt.int_bool _ _ _|exact SeqAt.RcAt.int_int _ _ _ _|exact SeqAt.RcAt.int_str _ _ _ _|exact SeqAt.RcAt.str_none _ _|exact SeqAt.RcAt.str_bool _ _ _|exact SeqAt.RcAt.str_int _ _ _ _|exact SeqAt.RcAt.str_str _ _ _ _)
def aY9(I:Inv X ψ σ H s)(n:Nat)(A:lu)(x y:D)(vx vy:V)(u v:bh)(hu:A.units+(n+1)<qy)(hx:bY (n+1) x=ak)(hy:bY (n+1) y=ak)(rx:RD X.K H x vx)(ry:RD X.K H y vy)(ru:RelV vx u)(rv:RelV vy v):SeqAt.RcAt A s u v (a8 x y):=by
 have aI:A.units<qy:=by omega
 cases vw I hx rx ru with
 |@tup a1 BR dA ka h1 r1 _ hX p1 =>
  cases vw I hy ry rv with
  |@tup a2 BQ ds2 bS h2 r2 _ js p2 =>
   have z:=SeqAt.RcAt.tuples (e:=ff dA ds2) p1 p2 aI (DA (n:=n) r1 r2 hX js λx mx y my v w u t q1 q2 q3 q4 =>
      FF I n A.in1 x y v w u t (Dz hu) (jq.mp (by simpa[bY]using hx) x mx) (jq.mp (by simpa[bY]using hy) y my) q1 q2 q3 q4)
   have e:((ou (min ka.toArray.size bS.toArray.size)).all (ff dA ds2)&&ka.toArray.size==bS.toArray.size)=a8 (.tup dA) (.tup ds2):=by
    rw[a8,pY,gV,gV,←hX.length,←js.length,←r1.length,←r2.length]
   rw[e]at z;exact z
  |_=>simp only[a8];with_reducible first|exact SeqAt.RcAt.tuple_none p1 aI|exact SeqAt.RcAt.tuple_bool _ p1 aI|exact SeqAt.RcAt.tuple_int _ _ p1 aI|exact SeqAt.RcAt.tuple_str _ _ p1 aI
 |_ =>
  cases vw I hy ry rv with
  |tup _ _ _ _ p2=>simp only[a8];with_reducible first|exact SeqAt.RcAt.none_tuple p2 aI|exact SeqAt.RcAt.bool_tuple _ p2 aI|exact SeqAt.RcAt.int_tuple _ _ p2 aI|exact SeqAt.RcAt.str_tuple _ _ p2 aI
  |_=>simp only[a8];with_reducible walk_at "rc"
def aYA(I:Inv X ψ σ H s)(n:Nat)(A:lu)(hl:cS X.K H a1 xs)(y:D)(vy:V)(v:bh)(aI:A.units<qy)(hy:bY n y=ak)(ry:RD X.K H y vy)(rv:RelV vy v):SeqAt.RcAt A s (.ref a1) v ao:=by
 let⟨its,vv,pl,_⟩:=I.list hl;cases vw I hy ry rv with
 |tup _ _ _ _ p2=>exact SeqAt.RcAt.list_tuple pl.isList p2 aI
 |_=>with_reducible first|exact SeqAt.RcAt.list_none pl.isList aI|exact SeqAt.RcAt.list_bool _ pl.isList aI|exact SeqAt.RcAt.list_int _ _ pl.isList aI|exact SeqAt.RcAt.list_str _ _ pl.isList aI
def aYB(I:Inv X ψ σ H s)(n:Nat)(A:lu)(hl:cS X.K H a2 xs)(y:D)(vy:V)(v:bh)(aI:A.units<qy)(hy:bY n y=ak)(ry:RD X.K H y vy)(rv:RelV vy v):SeqAt.RcAt A s v (.ref a2) ao:=by
 let⟨its,vv,pl,_⟩:=I.list hl;cases vw I hy ry rv with
 |tup _ _ _ _ p2=>exact SeqAt.RcAt.tuple_list p2 pl.isList aI
 |_=>with_reducible first|exact SeqAt.RcAt.none_list pl.isList aI|exact SeqAt.RcAt.bool_list _ pl.isList aI|exact SeqAt.RcAt.int_list _ _ pl.isList aI|exact SeqAt.RcAt.str_list _ _ pl.isList aI
def aYC(I:Inv X ψ σ H s)(n:Nat)(A:lu){dA ds2:List D}(h1:cS X.K H a1 BR)(h2:cS X.K H a2 BQ)(r1:cZ X.K H dA BR)(r2:cZ X.K H ds2 BQ)
  (hu:A.units+(n+1)<qy)(hx:dA.all (bY n)=ak)(hy:ds2.all (bY n)=ak):SeqAt.RcAt A s (.ref a1) (.ref a2) (xE dA ds2):=by
 have aI:A.units<qy:=by omega
 let⟨ka,hX,q1,_⟩:=I.list h1;let⟨bS,js,q2,_⟩:=I.list h2;have p1:=q1.isList;have p2:=q2.isList;by_cases hl:dA.length=ds2.length
 .have hsz:ka.toArray.size=bS.toArray.size:=by rw[gV,gV,←hX.length,←js.length,←r1.length,←r2.length];exact hl
  have z:=SeqAt.RcAt.lists (e:=ff dA ds2) p1 p2 hsz aI (DA (n:=n) r1 r2 hX js λx mx y my v w u t q1 q2 q3 q4 =>
      FF I n A.in1 x y v w u t (Dz hu) (jq.mp hx x mx) (jq.mp hy y my) q1 q2 q3 q4)
  have e:(ou ka.toArray.size).all (ff dA ds2)=xE dA ds2:=by rw[QZ hl,gV,←hX.length,←r1.length]
  rw[e]at z;exact z
 .have l8:(ka.toArray.size !=bS.toArray.size)=ak:=by rw[gV,gV,←hX.length,←js.length,←r1.length,←r2.length];simpa using hl
  have e:xE dA ds2=ao:=Qn (by simpa using hl);rw[e];exact SeqAt.RcAt.lists_lengths p1 p2 l8 aI
local macro_rules| `(tactic| walk_at "rc")=>`(tactic| first|exact SeqAt.RcNeAt.none_none|exact SeqAt.RcNeAt.none_bool _|exact SeqAt.RcNeAt.none_int _ _|exact SeqAt.RcNeAt.none_str _ _|exact SeqAt.RcNeAt.bool_none _|exact SeqAt.RcNeAt.bool_bool _ _|exact SeqAt.RcNeAt.bool_int _ _ _|exact SeqAt.RcNeAt.bool_str _ _ _|exact SeqAt.RcNeAt.int_none _ _|exact SeqAt.RcNeAt.int_bool _ _ _|exact SeqAt.RcNeAt.int_int _ _ _ _|exact SeqAt.RcNeAt.int_str _ _ _ _|exact SeqAt.RcNeAt.str_none _ _|exact SeqAt.RcNeAt.str_bool _ _ _|exact SeqAt.RcNeAt.str_int _ _ _ _|exact SeqAt.RcNeAt.str_str _ _ _ _)
def aNV(I:Inv X ψ σ H s)(n:Nat)(A:lu)(x y:D)(vx vy:V)(u v:bh)(hu:A.units+(n+1)<qy)(hx:bY (n+1) x=ak)(hy:bY (n+1) y=ak)(rx:RD X.K H x vx)(ry:RD X.K H y vy)(ru:RelV vx u)(rv:RelV vy v):SeqAt.RcNeAt A s u v (!a8 x y):=by
 have aI:A.units<qy:=by omega
 cases vw I hx rx ru with
 |@tup a1 BR dA ka h1 r1 _ hX p1 =>
  cases vw I hy ry rv with
  |@tup a2 BQ ds2 bS h2 r2 _ js p2 =>
   have z:=SeqAt.RcNeAt.tuples (e:=ff dA ds2) p1 p2 aI (DA (n:=n) r1 r2 hX js λx mx y my v w u t q1 q2 q3 q4 =>
      FF I n A.in1 x y v w u t (Dz hu) (jq.mp (by simpa[bY]using hx) x mx) (jq.mp (by simpa[bY]using hy) y my) q1 q2 q3 q4)
   have e:((ou (min ka.toArray.size bS.toArray.size)).all (ff dA ds2)&&ka.toArray.size==bS.toArray.size)=a8 (.tup dA) (.tup ds2):=by
    rw[a8,pY,gV,gV,←hX.length,←js.length,←r1.length,←r2.length]
   rw[e]at z;exact z
  |_=>simp only[a8,Bool.not_false,wb];with_reducible first|exact SeqAt.RcNeAt.tuple_none p1 aI|exact SeqAt.RcNeAt.tuple_bool _ p1 aI|exact SeqAt.RcNeAt.tuple_int _ _ p1 aI|exact SeqAt.RcNeAt.tuple_str _ _ p1 aI
 |_ =>
  cases vw I hy ry rv with
  |tup _ _ _ _ p2=>simp only[a8,Bool.not_false,wb];with_reducible first|exact SeqAt.RcNeAt.none_tuple p2 aI|exact SeqAt.RcNeAt.bool_tuple _ p2 aI|exact SeqAt.RcNeAt.int_tuple _ _ p2 aI|exact SeqAt.RcNeAt.str_tuple _ _ p2 aI
  |_=>simp only[a8,Bool.not_false,wb];with_reducible walk_at "rc"
def aNW(I:Inv X ψ σ H s)(n:Nat)(A:lu)(hl:cS X.K H a1 xs)(y:D)(vy:V)(v:bh)(aI:A.units<qy)(hy:bY n y=ak)(ry:RD X.K H y vy)(rv:RelV vy v):SeqAt.RcNeAt A s (.ref a1) v ak:=by
 let⟨its,vv,pl,_⟩:=I.list hl;cases vw I hy ry rv with
 |tup _ _ _ _ p2=>exact SeqAt.RcNeAt.list_tuple pl.isList p2 aI
 |_=>with_reducible first|exact SeqAt.RcNeAt.list_none pl.isList aI|exact SeqAt.RcNeAt.list_bool _ pl.isList aI|exact SeqAt.RcNeAt.list_int _ _ pl.isList aI|exact SeqAt.RcNeAt.list_str _ _ pl.isList aI
def aNX(I:Inv X ψ σ H s)(n:Nat)(A:lu)(hl:cS X.K H a2 xs)(y:D)(vy:V)(v:bh)(aI:A.units<qy)(hy:bY n y=ak)(ry:RD X.K H y vy)(rv:RelV vy v):SeqAt.RcNeAt A s v (.ref a2) ak:=by
 let⟨its,vv,pl,_⟩:=I.list hl;cases vw I hy ry rv with
 |tup _ _ _ _ p2=>exact SeqAt.RcNeAt.tuple_list p2 pl.isList aI
 |_=>with_reducible first|exact SeqAt.RcNeAt.none_list pl.isList aI|exact SeqAt.RcNeAt.bool_list _ pl.isList aI|exact SeqAt.RcNeAt.int_list _ _ pl.isList aI|exact SeqAt.RcNeAt.str_list _ _ pl.isList aI
def aNY(I:Inv X ψ σ H s)(n:Nat)(A:lu){dA ds2:List D}(h1:cS X.K H a1 BR)(h2:cS X.K H a2 BQ)(r1:cZ X.K H dA BR)(r2:cZ X.K H ds2 BQ)
  (hu:A.units+(n+1)<qy)(hx:dA.all (bY n)=ak)(hy:ds2.all (bY n)=ak):SeqAt.RcNeAt A s (.ref a1) (.ref a2) (!xE dA ds2):=by
 have aI:A.units<qy:=by omega
 let⟨ka,hX,q1,_⟩:=I.list h1;let⟨bS,js,q2,_⟩:=I.list h2;have p1:=q1.isList;have p2:=q2.isList;by_cases hl:dA.length=ds2.length
 .have hsz:ka.toArray.size=bS.toArray.size:=by rw[gV,gV,←hX.length,←js.length,←r1.length,←r2.length];exact hl
  have z:=SeqAt.RcNeAt.lists (e:=ff dA ds2) p1 p2 hsz aI (DA (n:=n) r1 r2 hX js λx mx y my v w u t q1 q2 q3 q4 =>
      FF I n A.in1 x y v w u t (Dz hu) (jq.mp hx x mx) (jq.mp hy y my) q1 q2 q3 q4)
  have e:(ou ka.toArray.size).all (ff dA ds2)=xE dA ds2:=by rw[QZ hl,gV,←hX.length,←r1.length]
  rw[e]at z;exact z
 .have l8:(ka.toArray.size !=bS.toArray.size)=ak:=by rw[gV,gV,←hX.length,←js.length,←r1.length,←r2.length];simpa using hl
  have e:xE dA ds2=ao:=Qn (by simpa using hl);rw[e];exact SeqAt.RcNeAt.lists_lengths p1 p2 l8 aI
abbrev tI(G:Gp)(x y:D)(k:Bool->Prop):Prop:=match x,y with
 |.ref a,.ref b=>(match cO G a,cO G b with
  |some xs,aj ys=>xs.all (bY 20)=ak/\ys.all (bY 20)=ak/\k (xE xs ys)
  |_,_=>False)
 |.ref a,y=>(match cO G a with
  |some _=>bY 20 y=ak/\k ao
  |none=>False)
 |x,.ref b=>(match cO G b with
  |some _=>bY 20 x=ak/\k ao
  |none=>False)
 |x,y=>bY 20 x=ak/\bY 20 y=ak/\k (a8 x y)
abbrev mJ:R3:=λx y G R=>tI G x y λb=>R (.bl b) G
abbrev o6:R3:=λx y G R=>tI G x y λb=>R (.bl (!b)) G
def CY{r3:R3}(h:∀(ψ:List (bx×Obj))(s:dg)(σ:St)(H:Hp)(x y:D)(vx vy:V)(u v:bh)(G:Gp)(R:jC)(Q:VK),Inv X ψ σ H s->RD X.K H x vx->RD X.K H y vy->RelV vx u->RelV vy v->HR X.K H G->r3 x y G R ->
   (∀w H' d G',Ts H H'->RD X.K H' d w->HR X.K H' G'->R d G'->Q w H')->dj (dz X.prog X.w) X.A (f u v) (EP X ψ σ Q) X.xe s):zL X f r3 :=
 ⟨λvx vy H Q=>∃x y G R,RD X.K H x vx/\RD X.K H y vy/\HR X.K H G/\r3 x y G R/\∀w H' d G',Ts H H'->RD X.K H' d w->HR X.K H' G'->R d G'->Q w H',
  λψ s σ H vx vy u v Q I ru rv ⟨x,y,G,R,rx,ry,g,q,k⟩=>h ψ s σ H x y vx vy u v G R Q I rx ry ru rv g q k,λH x y vx vy G R Q rx ry g q k=>⟨x,y,G,R,rx,ry,g,q,k⟩⟩
private theorem Pg(hu:X.A.units+64<qy){neg:Bool}(N1:op=if neg then .NotEq else .Eq){x:D}{v:bh}{k:Bool->Prop}{Q:VK}(I:Inv X ψ σ H s)(rx:RD X.K H x vx)(ry:RD X.K H y vy)(ru:RelV vx u)(rv:RelV vy v)(g:HR X.K H G)
  (h:tI G x y k)(hk:∀b,k b->EP X ψ σ Q (.bool (neg ^^ b)) s):dj (dz X.prog X.w) X.A (nj op u v) (EP X ψ σ Q) X.xe s:=by
 have fin:∀{b:Bool},(if neg then SeqAt.RcNeAt X.A s u v (!b)else SeqAt.RcAt X.A s u v b)->k b->dj (dz X.prog X.w) X.A (nj op u v) (EP X ψ σ Q) X.xe s:=λ{b} z kb=>by
  have e:=hk b kb;cases neg with
  |true =>
   subst N1;rw[Bool.true_xor]at e;exact z X.prog X.w X.xe _ e
  |false =>
   subst N1;rw[Bool.false_xor]at e;exact z X.prog X.w X.xe _ e
 have NX:X.A.units+(20+1)<qy:=by omega
 have NW:X.A.units+(19+1)<qy:=by omega
 have aI:X.A.units<qy:=by omega
 have plain:bY 20 x=ak->bY 20 y=ak->k (a8 x y)->dj (dz X.prog X.w) X.A (nj op u v) (EP X ψ σ Q) X.xe s:=λhx hy kk=>fin (b:=a8 x y) (by
  cases neg with
  |true=>exact aNV I 19 X.A x y vx vy u v NW hx hy rx ry ru rv
  |false=>exact aY9 I 19 X.A x y vx vy u v NW hx hy rx ry ru rv) kk
 have left:∀a xs,x=.ref a->cO G a=aj xs->bY 20 y=ak->k ao->dj (dz X.prog X.w) X.A (nj op u v) (EP X ψ σ Q) X.xe s:=λa xs e1 e2 hy kk=>by
  subst e1;cases rx;cases ru;let⟨zs,hz,_⟩:=dZ g e2;refine fin (b:=false) ?_ kk;cases neg with
  |true=>exact aNW I 20 X.A hz y vy v aI hy ry rv
  |false=>exact aYA I 20 X.A hz y vy v aI hy ry rv
 have right:∀a xs,y=.ref a->cO G a=aj xs->bY 20 x=ak->k ao->dj (dz X.prog X.w) X.A (nj op u v) (EP X ψ σ Q) X.xe s:=λa xs e1 e2 hy kk=>by
  subst e1;cases ry;cases rv;let⟨zs,hz,_⟩:=dZ g e2;refine fin (b:=false) ?_ kk;cases neg with
  |true=>exact aNX I 20 X.A hz x vx u aI hy rx ru
  |false=>exact aYB I 20 X.A hz x vx u aI hy rx ru
 unfold tI at h;split at h
 .rename_i a b;split at h
  .rename_i xs ys e1 e2;cases rx;cases ry;cases ru;cases rv;let⟨zs1,NS,q1⟩:=dZ g e1;let⟨zs2,NR,q2⟩:=dZ g e2;refine fin (b:=xE xs ys) ?_ h.2.2;cases neg with
   |true=>exact aNY I 20 X.A NS NR q1 q2 NX h.1 h.2.1
   |false=>exact aYC I 20 X.A NS NR q1 q2 NX h.1 h.2.1
  .exact h.elim
 .rename_i a _;split at h
  .rename_i xs e1;exact left a xs rfl e1 h.1 h.2
  .exact h.elim
 .rename_i b _;split at h
  .rename_i xs e1;exact right b xs rfl e1 h.1 h.2
  .exact h.elim
 .exact plain h.1 h.2.1 h.2.2
def aYD(hu:X.A.units+64<qy):zL X (nj .Eq) mJ:=CY λψ s σ H x y vx vy u v G R Q I rx ry ru rv g q k =>
 Pg (neg:=false) hu rfl I rx ry ru rv g q λb kb=>⟨.bl b,H,I,by rw[Bool.false_xor];rfl,k _ H (.bl b) G (.refl H) (.bl b) g kb⟩
def aYE(hu:X.A.units+64<qy):zL X (nj .NotEq) o6:=CY λψ s σ H x y vx vy u v G R Q I rx ry ru rv g q k =>
 Pg (neg:=true) hu rfl I rx ry ru rv g q λb kb=>⟨.bl (!b),H,I,by rw[Bool.true_xor];rfl,k _ H (.bl (!b)) G (.refl H) (.bl (!b)) g kb⟩
end
end
section
open PySem.W PySem.Calls
open PySem.Builtin PySem.Builtin.ObjectAttr PySem.Builtin.Getset_descriptor
section
variable{prog:lg}{w:ji}{A:lu}{s:dg}{K:Fg}{x:bx}{o:Obj}
def ahU{tp:bh}(X:K.In s.heap)(hx:s.heap.get? x=aj o)(hc:o.cls=.ref C)(hm:mroIn K C (.type "object")=aj ak)
  (h:R (.ok (.ret (.ref C))) s):k9 (dz prog w) A (.call (.builtin "getset_descriptor.__get__") ⟨[.builtin "object.__class__",.ref x,tp],[]⟩) R s:=by
 let⟨hh,g,dr,t,os⟩:=s;have L0:Looks (dz prog w) hh (typeOf (.ref x)) (.ref C):=hc ▸ (Looks.ld hx).andThen .now;have L1:=looks_mroIn (M:=model prog w) X hm;refine codeAny_call_builtin KF.slot_gs.plain KF.entry_gs (KF.slot_gs.check _ _ _ _ _ _ _ _ KF.type_class (KF.args_gs _ _ _) ?_);unfold Builtin.«getset_descriptor.__get__» descrGet;rw[dga_obj];refine aq (cu ?_);unfold descrGetter descrCheckInstance descrNameAndClass isInstance;simp only[KF.owner_class]
 repeat lk
 refine⟨Code.quiet_builtin _ (by decide+kernel),codeAny_builtin KF.entry_class ?_⟩;unfold Builtin.«object.__class__» shownTypeOf
 repeat lk
 exact h
def Yc(X:K.In s.heap)(hx:s.heap.get? x=aj o)(hc:o.cls=.ref C)
  (W0:findIn K (.ref C) "__getattribute__"=aj (aj (.builtin "BaseException.__getattribute__")))(WZ:findIn K (.ref C) "__getattr__"=aj au)(ha:findIn K (.ref C) "__class__"=aj (aj (.builtin "object.__class__")))
  (hb:subIn K (.ref C) (.type "BaseException")=aj ak)(hm:mroIn K C (.type "object")=aj ak)(h:Q (aj (.ref C)) {s with toks:=s.toks+1}):dj (dz prog w) A (getAttr? (.ref x) "__class__") Q E s:=by
 let⟨hh,g,d,t,os⟩:=s;have L0:Looks (dz prog w) hh (typeOf (.ref x)) (.ref C):=hc ▸ (Looks.ld hx).andThen .now;have L1:=looks_findIn (M:=model prog w) X W0;have VU:=looks_findIn (M:=model prog w) X WZ;have L3:=looks_findIn (M:=model prog w) X ha;have L4:=looks_subIn (M:=model prog w) X hb;unfold getAttr? getAttrBy? getAttrBy;refine aq (wpAny_mkText (aq (Bv (ud (aq (L0.at (aq (L1.at ?_))))))));have hx2:(bh.builtin "BaseException.__getattribute__"==bh.builtin "object.__getattribute__")=ao:=by decide+kernel
 have f3:=PySem.F.attr_ValueError.ga.bind (.ref x);have hk:builtinKind "BaseException.__getattribute__"=aj .slot:=by decide+kernel
 have Ak:splitId "BaseException.__getattribute__"=aj ("BaseException","__getattribute__"):=by decide+kernel
 have ha2:=PySem.F.args_bexc_ga (.ref x) (.str "__class__" t)
 repeat (first|with_reducible refine L0.at ?_|with_reducible refine L1.at ?_|with_reducible refine VU.at ?_|with_reducible refine L3.at ?_|with_reducible refine L4.at ?_|wp_step)
 refine codeAny_call_builtin PySem.F.attr_ValueError.ga.plain PySem.F.entry_bexc_ga ?_;simp only[checkBuiltinCall,hk,Ak];unfold isInstance;have f5:=PySem.F.typeOf_object_class;have f6:=PySem.F.slot_gs_get.lookup;have f7:=PySem.F.slot_gs_set.lookup
 repeat (any_goals (first|assumption|with_reducible refine L0.at ?_|with_reducible refine L1.at ?_|with_reducible refine VU.at ?_|with_reducible refine L3.at ?_|with_reducible refine L4.at ?_|wp_step))
 refine ahU X hx hc hm ?_
 repeat (any_goals (first|assumption|wp_step))
end
end
variable{T:String}{σ:St}{R:jC}
section
variable{n:String}{s:dg}{H:Hp}{Q:VK}
section
variable{X:Cx}{x:Str}{pos:Pos}{e:je}{t:bo}{id T:String}{r3:List D->Gp->jC->Prop}
abbrev eV(X:Cx)(f:bh)(r3:List D->Gp->jC->Prop):Prop :=
 ∀(ψ:List (bx×Obj))(s:dg)(σ:St)(H:Hp)(xs:List D)(vs:List V)(us:List bh)(G:Gp)(R:jC)(Q:VK),Inv X ψ σ H s->cZ X.K H xs vs->Vals vs us->HR X.K H G->r3 xs G R ->
  (∀v H' d G',Ts H H'->RD X.K H' d v->HR X.K H' G'->R d G'->Q v H')->dj (dz X.prog X.w) X.A (call f us) (EP X ψ σ Q) X.xe s
def eV.of{r:List V->Hp->VK->Prop}(h:pv X f r)(i:∀(H:Hp)(xs:List D)(vs:List V)(G:Gp)(R:jC)(Q:VK),cZ X.K H xs vs->HR X.K H G->r3 xs G R ->
  (∀v H' d G',Ts H H'->RD X.K H' d v->HR X.K H' G'->R d G'->Q v H')->r vs H λv H'=>KF X.K H'->Q v H'):eV X f r3:=λψ s σ H xs vs us G R Q I rx rv g q k =>
 fW (h ψ s σ H vs us _ I rv (i H xs vs G R Q rx g q k)) λ_ _ ⟨v,H',I',r,q'⟩=>⟨v,H',I',r,q' (vJ I')⟩
abbrev fU(r3:List D->Gp->jC->Prop)(t:bo):d7:=λρ G R=>t ρ G λxs G1=>r3 xs G1 R
def xG(hc:eV X (.builtin id) r3)(hg:Gl X x)(hm:X.mg x=au)(hv:mq x=aj (.builtin id))(ha:eM X (e::es) t)(hn:x≠"__name__":=by decide)(ij:(x==("__debug__":Str))=ao:=by decide)
  (he:jg (e::es) X.env=(ao,eval e X.env)::jg es X.env:=by rfl)(gX:(uc pos (jg es X.env)).any (·.1)=ao:=by rfl):dJ X (.Call (.Name x p) (e::es) [] pos) (fU r3 t):=by
 intro ψ s σ H Q I h;let⟨ρ,G,R,sr,g,q,kk⟩:=h;refine yx (Bh I hg hm hv ?_ hn ij)
 exact PyProof.Rows.callWith_builtin1 (fW (ha pos ψ s σ H (λvs H1=>Ts H H1/\∃ds G1,cZ X.K H1 ds vs/\HR X.K H1 G1/\r3 ds G1 R) I ⟨ρ,G,_,sr,g,q,λvs H1 ds G1 t1 r1 g1 q1=>⟨t1,ds,G1,r1,g1,q1⟩⟩) λus s1 ⟨vs,H1,I1,r,t1,ds,G1,r1,g1,q1⟩ =>
  hc ψ s1 σ H1 ds vs us G1 R Q I1 r1 r g1 q1 λv H' d G' t2=>kk v H' d G' (t1.trans t2)) he gX
def Ko(hc:eV X (.type T) r3)(hg:Gl X x)(hm:X.mg x=au)(hv:mq x=aj (.type T))(ha:eM X (e::es) t)(hn:x≠"__name__":=by decide)(ij:(x==("__debug__":Str))=ao:=by decide)
  (he:jg (e::es) X.env=(ao,eval e X.env)::jg es X.env:=by rfl)(gX:(uc pos (jg es X.env)).any (·.1)=ao:=by rfl):dJ X (.Call (.Name x p) (e::es) [] pos) (fU r3 t):=by
 intro ψ s σ H Q I h;let⟨ρ,G,R,sr,g,q,kk⟩:=h;refine yx (Bh I hg hm hv ?_ hn ij)
 exact PyProof.Rows.callWith_type1 (fW (ha pos ψ s σ H (λvs H1=>Ts H H1/\∃ds G1,cZ X.K H1 ds vs/\HR X.K H1 G1/\r3 ds G1 R) I ⟨ρ,G,_,sr,g,q,λvs H1 ds G1 t1 r1 g1 q1=>⟨t1,ds,G1,r1,g1,q1⟩⟩) λus s1 ⟨vs,H1,I1,r,t1,ds,G1,r1,g1,q1⟩ =>
  hc ψ s1 σ H1 ds vs us G1 R Q I1 r1 r g1 q1 λv H' d G' t2=>kk v H' d G' (t1.trans t2)) he gX
abbrev pR:List D->Gp->jC->Prop:=λxs G R=>match xs with
 |[.str z]=>z.length<=dh/\R (.int z.length) G
 |[.tup ds]=>R (.int ds.length) G
 |[.ref q]=>(match cO G q with
  |some ds=>R (.int ds.length) G
  |none=>False)
 |_=>False
private theorem aU3:eV X (.builtin "len") pR:=eV.of (akV.or akW) λH xs vs G R Q rx g q k=>by
 cases rx with
 |nil=>exact False.elim q
 |cons r rr =>
  cases rr with
  |cons _ _=>cases r<;>exact False.elim q
  |nil =>
   cases r with
   |str z=>exact .inr ⟨z,rfl,q.1,λ_=>k _ H _ G (.refl H) (.int _) g q.2⟩
   |@tup a xs ds ha ra=>exact .inl ⟨a,xs,rfl,.inr ha,λ_=>by rw[←ra.length];exact k _ H _ G (.refl H) (.int _) g q⟩
   |ref a =>
    have q':(match cO G a with
     |some ds=>R (.int ds.length) G
     |none=>False):=q
    split at q'
    .rename_i ds e1;let⟨xs,h1,r1⟩:=dZ g e1;exact .inl ⟨a,xs,rfl,.inl h1,λ_=>by rw[←r1.length];exact k _ H _ G (.refl H) (.int _) g q'⟩
    .exact q'.elim
   |_=>exact False.elim q
abbrev Fl:List D->Gp->jC->Prop:=λxs G R=>match xs with
 |[.int i]=>R (.int i) G
 |[.bl b]=>R (.int (if b then 1 else 0)) G
 |_=>False
def aU4:eV X (.type "int") Fl:=eV.of Yn λH xs vs G R Q rx g q k=>by
 cases rx with
 |nil=>exact False.elim q
 |cons r rr =>
  cases rr with
  |cons _ _=>cases r<;>exact False.elim q
  |nil =>
   cases r with
   |int i=>exact .inl ⟨i,rfl,λ_=>k _ H _ G (.refl H) (.int _) g q⟩
   |bl b=>exact .inr ⟨b,rfl,λ_=>k _ H _ G (.refl H) (.int _) g q⟩
   |_=>exact False.elim q
abbrev Bf:List D->Gp->jC->Prop:=λxs G R=>match xs with
 |[.tup ds]=>∀l,G l=au->R (.ref l) (aM G l (.lst ds))
 |[.ref q]=>(match cO G q with
  |some ds=>∀l,G l=au->R (.ref l) (aM G l (.lst ds))
  |none=>False)
 |_=>False
private theorem aNZ:eV X (.type "list") Bf:=eV.of akX λH xs vs G R Q rx g q k=>by
 cases rx with
 |nil=>exact False.elim q
 |cons r rr =>
  cases rr with
  |cons _ _=>cases r<;>exact False.elim q
  |nil =>
   cases r with
   |@tup a xs ds ha ra =>
    refine⟨a,xs,rfl,.inr ha,λl hl kf=>?_⟩;have sn:aE H (upd H l (.lst xs)):=bM hl;exact k _ _ _ _ (.same sn) (.ref l) (g.put (u:=.lst ds) hl ⟨_,aL,ra.mono (.same sn)⟩) (q l (jL g hl kf))
   |ref a =>
    have q':(match cO G a with
     |some ds=>∀l,G l=au->R (.ref l) (aM G l (.lst ds))
     |none=>False):=q
    split at q'
    .rename_i ds e1;let⟨xs,h1,r1⟩:=dZ g e1;refine⟨a,xs,rfl,.inl h1,λl hl kf=>?_⟩;have sn:aE H (upd H l (.lst xs)):=bM hl;exact k _ _ _ _ (.same sn) (.ref l) (g.put (u:=.lst ds) hl ⟨_,aL,r1.mono (.same sn)⟩) (q' l (jL g hl kf))
    .exact q'.elim
   |_=>exact False.elim q
abbrev gz(G:Gp):D->Option String
 |.ae=>aj "NoneType"
 |.bl _=>aj "bool"
 |.int _=>aj "int"
 |.str _=>aj "str"
 |.tup _=>aj "tuple"
 |.ref q=>(match G q with
  |some (.lst _)=>aj "list"
  |some (.fc _)=>aj "list"
  |some (.cX _ _)=>aj "dict"
  |_=>au)
 |.ty _=>au
abbrev xw(G:Gp):D->Option bx
 |.ref q=>(match G q with
  |some (.ej C)=>aj C
  |_=>au)
 |_=>au
abbrev subB(T n:String):Bool:=T==n||(T=="bool"&&n=="int")
abbrev Sk:List String:=["NoneType","bool","int","str","list","tuple","dict"]
abbrev fH:List String:=["int","bool","str","list","tuple","dict","ValueError"]
def aO1:∀T∈Sk,∀n∈fH,ni [] (.type T) (.type n)=aj (subB T n):=by decide+kernel
def uL(K:Fg)(h1:T∈Sk)(h2:n∈fH):ni K (.type T) (.type n)=aj (subB T n):=aO1 T h1 n h2
structure mw(K:Fg)(C:bx):Prop where
 ga:jk K (.ref C) "__getattribute__"=aj (aj (.builtin "BaseException.__getattribute__"))
 gn:jk K (.ref C) "__getattr__"=aj au
 cl:jk K (.ref C) "__class__"=aj (aj (.builtin "object.__class__"))
 be:qe K (.ref C) (.type "BaseException")=aj ak
 ob:PySem.W.mroIn K C (.type "object")=aj ak
 cs:(vo K C).isSome=ak
private theorem aBD{K:Fg}(c:mw K C):PySem.W.KitX K (.ref a) (.ref C) (vI C a) where
 ty:=λM h X ⟨o,vs,h1,h2,_⟩=>h2 ▸ (vh.ld h1).andThen .now
 it:=λM h X _=>by
  intro A' Q' E' s' k q;cases eK:vo K C with
  |none=>have:=c.cs;rw[eK]at this;cases this
  |some cd =>
   unfold vo at eK;split at eK
   .rename_i ho;unfold isType loadHead;exact aq (wpAny_loadPart (k _ _ (X _ _ ho)) (cu q))
   .cases eK
 ne:=λh tp dd its n sl X WN=>by
  refine Bool.eq_false_iff.mpr λq=>?_;have e:C=tp:=Value.ref.inj (beq_iff_eq.mp q);subst e;cases eK:vo K C with
  |none=>have:=c.cs;rw[eK]at this;cases this
  |some cd =>
   unfold vo at eK;split at eK
   .rename_i ho;have z:=(X _ _ ho).symm.trans WN;cases z
   .cases eK
 ca:=λX ⟨o,vs,h1,h2,_⟩ k=>Yc X h1 h2 c.ga c.gn c.cl c.be c.ob k
abbrev aG(K:Fg):List D->Gp->jC->Prop:=λxs G R=>match xs with
 |[x,.ty n]=>(match gz G x with
  |some T=>n∈fH/\R (.bl (subB T n)) G
  |none=>(match xw G x with
   |some C=>∃b,mw K C/\ni K (.ref C) (.type n)=aj b/\R (.bl b) G
   |none=>False))
 |[x,.ref C']=>(match xw G x with
  |some C=>∃b,mw K C/\ni K (.ref C) (.ref C')=aj b/\R (.bl b) G
  |none=>False)
 |_=>False
private theorem T6{x:D}(h:xw G x=aj C):∃a,x=.ref a/\G a=aj (.ej C):=by
 cases x with
 |ref q =>
  refine⟨q,rfl,?_⟩
  have h':(match G q with
   |some (.ej C)=>aj C
   |_=>au)=aj C:=h
  split at h'
  .rename_i e1;cases h';exact e1
  .cases h'
 |_=>cases h
variable{G:Gp}
def zv{a C:bx}{c:bh}{b:Bool}(I:Inv X ψ σ H s)(g:HR X.K H G)(e:G a=aj (.ej C))(hc:mw X.K C)(hk:ni X.K (.ref C) c=aj b)(q:R (.bl b) G)
  (k:∀v H' d G',Ts H H'->RD X.K H' d v->HR X.K H' G'->R d G'->Q v H'):dj (dz X.prog X.w) X.A (call (.builtin "isinstance") [.ref a,c]) (EP X ψ σ Q) X.xe s:=by
 let⟨o0,vs0,z,_⟩:=g a _ e;let⟨_,z1,_,_⟩:=I.aa a _ z;exact yt (aBD hc) I.cz z1 hk (λz=>nomatch z) λtk=>⟨.bl b,H,I.tok tk,rfl,k _ H _ G (.refl H) (.bl b) g q⟩
private theorem aO2{x:D}{vx:V}{u:bh}(I:Inv X ψ σ H s)(rx:RD X.K H x vx)(ru:RelV vx u)(g:HR X.K H G)(e:gz G x=aj T)(hn:n∈fH)(q:R (.bl (subB T n)) G)
  (k:∀v H' d G',Ts H H'->RD X.K H' d v->HR X.K H' G'->R d G'->Q v H'):dj (dz X.prog X.w) X.A (call (.builtin "isinstance") [u,.type n]) (EP X ψ σ Q) X.xe s:=by
 have fin:∀tk,EP X ψ σ Q (.bool (subB T n)) {s with toks:=tk}:=λtk=>⟨.bl _,H,I.tok tk,rfl,k _ H _ G (.refl H) (.bl _) g q⟩;cases rx with
 |ae=>cases ru;cases e;exact yt PySem.W.kitx_none I.cz True.intro (uL _ (by decide) hn) (λz=>nomatch z) fin
 |bl b=>cases ru;cases e;exact yt PySem.W.kitx_bool I.cz True.intro (uL _ (by decide) hn) (λz=>nomatch z) fin
 |int i=>let⟨t,rfl⟩:=ru;cases e;exact yt PySem.W.kitx_int I.cz True.intro (uL _ (by decide) hn) (λz=>nomatch z) fin
 |str i=>let⟨t,rfl⟩:=ru;cases e;exact yt PySem.W.kitx_str I.cz True.intro (uL _ (by decide) hn) (λz=>nomatch z) fin
 |ty n=>cases e
 |@tup a xs ds ha ra =>
  cases ru;cases e;let⟨its,_,p,_⟩:=I.tuple ha;let⟨o,h1,h2,_⟩:=p;exact yt PySem.W.kitx_tuple I.cz ⟨o,h1,h2⟩ (uL _ (by decide) hn) (λz=>nomatch z) fin
 |ref a =>
  cases ru
  have e':(match G a with
   |some (.lst _)=>aj "list"
   |some (.fc _)=>aj "list"
   |some (.cX _ _)=>aj "dict"
   |_=>au)=aj T:=e
  split at e'
  .rename_i ds e1;cases e';let⟨xs,h1,_⟩:=dZ g (show cO G a=aj ds by unfold cO;rw[e1]);let⟨its,_,p,_⟩:=I.list h1;let⟨o,n',h1,h2,_⟩:=p;exact yt PySem.W.kitx_list I.cz ⟨o,h1,h2⟩ (uL _ (by decide) hn) (λz=>nomatch z) fin
  .rename_i ds e1;cases e';let⟨xs,h1,_⟩:=dZ g (show cO G a=aj ds by unfold cO;rw[e1]);let⟨its,_,p,_⟩:=I.list h1;let⟨o,n',h1,h2,_⟩:=p;exact yt PySem.W.kitx_list I.cz ⟨o,h1,h2⟩ (uL _ (by decide) hn) (λz=>nomatch z) fin
  .rename_i kvs e1;cases e';rcases g a _ e1 with⟨_,xs,h1,_⟩|⟨_,xs,h1,_⟩
   .obtain⟨_,_,vs,_,o,es,ep,h1,h2,_⟩:=I.aa a _ h1;exact yt PySem.W.kitx_dict I.cz ⟨o,h1,h2.1⟩ (uL _ (by decide) hn) (λz=>nomatch z) fin
   .obtain⟨_,_,xs,_,o,es,ep,h1,h2,_⟩:=I.aa a _ h1;exact yt PySem.W.kitx_dict I.cz ⟨o,h1,h2.1⟩ (uL _ (by decide) hn) (λz=>nomatch z) fin
  .cases e'
private theorem al5:eV X (.builtin "isinstance") (aG X.K):=by
 intro ψ s σ H xs vs us G R Q I rx rv g q k;cases rx with
 |nil=>exact False.elim q
 |@cons x v ds ws r1 rr =>
  cases rr with
  |nil=>cases r1<;>exact False.elim q
  |@cons y v2 ds2 ws2 r2 Wl =>
   cases Wl with
   |cons _ _=>cases r2<;>exact False.elim q
   |nil =>
    let⟨u1,u2,rfl,HN,Ny⟩:=vals2 rv;cases r2 with
    |ty n =>
     cases Ny
     have q':(match gz G x with
      |some T=>n∈fH/\R (.bl (subB T n)) G
      |none=>(match xw G x with
       |some C=>∃b,mw X.K C/\ni X.K (.ref C) (.type n)=aj b/\R (.bl b) G
       |none=>False)):=q
     split at q'
     .rename_i T eT;exact aO2 I r1 HN g eT q'.1 q'.2 k
     .split at q'
      .rename_i C eC;let⟨a,rfl,ea⟩:=T6 eC;let⟨b,hc,hk,q'⟩:=q';cases r1;cases HN;exact zv I g ea hc hk q' k
      .exact q'.elim
    |ref C' =>
     cases Ny
     have q':(match xw G x with
      |some C=>∃b,mw X.K C/\ni X.K (.ref C) (.ref C')=aj b/\R (.bl b) G
      |none=>False):=q
     split at q'
     .rename_i C eC;let⟨a,rfl,ea⟩:=T6 eC;let⟨b,hc,hk,q'⟩:=q';cases r1;cases HN;exact zv I g ea hc hk q' k
     .exact q'.elim
    |_=>exact False.elim q
end
end
variable{id:String}
section
def Jh{K:Fg}{x:D}(hx:fq x=ak)(rx:RD K H x vx):∀{ys:List D}{vs:List V},cZ K H ys vs->ys.all fq=ak->vs.any (λy=>kM y vx)=ys.any (λy=>a8 y x)
 |_,_,.nil,_=>rfl
 |_,_,.cons h r,hs=>by
  rw[zx,cg]at hs;rw[zd,zd,Jh hx rx r hs.2];congr 1;let⟨h1,_⟩:=hs;cases rx<;>cases h<;>first|(simp[kM,a8];done)|cases hx|cases h1
variable{x:D}
def JD{K:Fg}(hx:fq x=ak)(rx:RD K H x vx):k8 vx=ak:=by cases rx<;>first|rfl|cases hx
def Kn{K:Fg}:∀{ys:List D}{vs:List V},cZ K H ys vs->ys.all fq=ak->vs.all k8=ak
 |_,_,.nil,_=>rfl
 |_,_,.cons h r,hs=>by
  rw[zx,cg]at hs;rw[zx,JD hs.1 h,Kn r hs.2];rfl
abbrev Ij(G:Gp)(x y:D)(k:Bool->Prop):Prop:=match x,y with
 |.str i,.str j=>k (!(Builtin.Str.occurrences j i 0 j.length 1).isEmpty)
 |x,.tup ys=>fq x=ak/\ys.all fq=ak/\k (ys.any λy=>a8 y x)
 |x,.ref p=>(match cO G p with
  |some ys=>fq x=ak/\ys.all fq=ak/\k (ys.any λy=>a8 y x)
  |none=>False)
 |_,_=>False
abbrev FU:R3:=λx y G R=>Ij G x y λb=>R (.bl (!b)) G
variable{o:je}
section
variable{X:Cx}
private theorem aHJ(hu:X.A.units+64<qy):zL X (nj .NotIn) FU:=by
 refine⟨_,akO.or akU,λH x y vx vy G R Q rx ry g h k=>?_⟩;have h':Ij G x y λb=>R (.bl (!b)) G:=h;unfold Ij at h';split at h'
 .cases rx;cases ry;exact .inl ⟨_,_,rfl,rfl,k _ H _ G (.refl H) (.bl _) g h'⟩
 .cases ry with
  |@tup a xs ds ha ra =>
   refine .inr ⟨a,xs,rfl,.inr ha,JD h'.1 rx,Kn ra h'.2.1,?_⟩;have e:EC vx xs=_:=Jh h'.1 rx ra h'.2.1;simp only[if_true];rw[e];exact k _ H _ G (.refl H) (.bl _) g h'.2.2
 .cases ry;split at h'
  .rename_i ys e1;let⟨xs,hq,ra⟩:=dZ g e1;refine .inr ⟨_,xs,rfl,.inl hq,JD h'.1 rx,Kn ra h'.2.1,?_⟩;have e:EC vx xs=_:=Jh h'.1 rx ra h'.2.1;simp only[if_true];rw[e];exact k _ H _ G (.refl H) (.bl _) g h'.2.2
  .exact h'.elim
 .exact h'.elim
abbrev F7(x:D)(lo hi:Option Int)(G:Gp)(R:jC):Prop:=match x with
 |.tup xs=>¬ (HT.pQ xs.length 0 lo=0/\HT.pQ xs.length xs.length hi=xs.length)/\R (.tup (cutD xs lo hi)) G
 |.str z=>z.length<=dh/\R (.str (Txt.slice z lo hi)) G
 |.ref p=>(match cO G p with
  |some xs=>∀q,G q=au->R (.ref q) (aM G q (.lst (cutD xs lo hi)))
  |none=>False)
 |_=>False
def aO3:wx X (λx lo hi H Q=>∃z,x=.str z/\z.length<=dh/\Q (.str (Txt.slice z lo hi)) H):=by
 intro ψ s σ H x v vl vu lo hi sl Q I rx hs pl pu h;let⟨z,rfl,hz,q⟩:=h;let⟨t,rfl⟩:=rx;refine⟨"str",_,F.slot_str_getitem.lookup,typeIs_str _ _ _,?_⟩;have fin:∀t' k,EP X ψ σ Q (.str (Txt.slice z lo hi) t') {s with toks:=k}:=λt' k=>⟨.str _,H,I.tok k,⟨t',rfl⟩,q⟩;cases pl with
 |none =>
  cases pu with
  |none=>exact Hb (l:=none) (u:=none) (st:=none) hs rfl (post_val_or_str ⟨qd (Txt.slice_le z _ _) hz,fin⟩)
  |int j uj=>exact Hb (l:=none) (u:=some (j,uj)) (st:=none) hs rfl (post_val_or_str ⟨qd (Txt.slice_le z _ _) hz,fin⟩)
 |int i ui =>
  cases pu with
  |none=>exact Hb (l:=some (i,ui)) (u:=none) (st:=none) hs rfl (post_val_or_str ⟨qd (Txt.slice_le z _ _) hz,fin⟩)
  |int j uj=>exact Hb (l:=some (i,ui)) (u:=some (j,uj)) (st:=none) hs rfl (post_val_or_str ⟨qd (Txt.slice_le z _ _) hz,fin⟩)
def T5{K:Fg}(r:cZ K H ds xs)(lo hi:Option Int):cZ K H (cutD ds lo hi) (pe xs lo hi):=by
 unfold cutD pe;rw[r.length];exact(r.drop _).take _
abbrev Dp(te:d7)(tl th:wt):d7:=λρ G R=>te ρ G λx G1=>tl ρ G1 λlo G2=>th ρ G2 λhi G3=>F7 x lo hi G3 R
private theorem aHL{e:je}{te:d7}{lo hi:Option je}{tl th:wt}{p2:Pos}(he:dJ X e te)(hl:DS X lo tl)(hu:DS X hi th):dJ X (.Subscript e (.Slice lo hi au p2) pos) (Dp te tl th):=by
 refine PE.imp (PE.kf (aAU (aH5.or (aN5.or aO3)) he hl hu)) λσ H Q h=>?_;let⟨ρ,G,R,s,g,q,k⟩:=h;refine⟨ρ,G,_,s,g,q,λvx H1 x G1 t1 rx g1 q1=>?_⟩;refine⟨ρ,G1,_,s.mono t1,g1,q1,λl H2 G2 t2 g2 q2=>?_⟩;refine⟨ρ,G2,_,s.mono (t1.trans t2),g2,q2,λu H3 G3 t3 g3 q3=>?_⟩;have Wk:=rx.mono (t2.trans t3);have tt:=(t1.trans t2).trans t3;cases Wk with
 |@tup a xs ds ha ra =>
  refine .inr (.inl ⟨a,xs,rfl,ha,by rw[←ra.length];exact q3.1,λp hp _=>?_⟩);have sn:aE H3 (upd H3 p (.tup (pe xs l u))):=bM hp;exact k _ _ _ G3 (tt.trans (.same sn)) (.tup (br.of aL) ((T5 ra l u).mono (.same sn)) (uv aL)) (g3.same sn) q3.2
 |str z=>exact .inr (.inr ⟨z,rfl,q3.1,λ_=>k _ H3 _ G3 tt (.str _) g3 q3.2⟩)
 |ref p =>
  have HV:(match cO G3 p with
   |some xs=>∀q,G3 q=au->R (.ref q) (aM G3 q (.lst (cutD xs l u)))
   |none=>False):=q3
  split at HV
  .rename_i ds e1;let⟨xs,hq,ra⟩:=dZ g3 e1;refine .inl ⟨p,xs,rfl,hq,λb hb kf=>?_⟩;have sn:aE H3 (upd H3 b (.lst (pe xs l u))):=bM hb;exact k _ _ _ _ (tt.trans (.same sn)) (.ref b) (g3.put (u:=.lst (cutD ds l u)) hb ⟨_,aL,(T5 ra l u).mono (.same sn)⟩) (HV b (jL g3 hb kf))
  .exact HV.elim
 |_=>exact False.elim q3
abbrev rh(T:String)(G:Gp):D->Prop
 |.str _=>T="str"
 |.ref p=>T="list"/\(cO G p).isSome=ak
 |_=>False
def T4{K:Fg}(g:HR K H G)(r:RD K H x v)(h:rh T G x):Nl K T v H:=by
 cases r with
 |str z=>exact h
 |ref p =>
  let⟨rfl,h⟩:=h;let⟨ds,e⟩:=Option.isSome_iff_exists.mp h;let⟨xs,hq,_⟩:=dZ g e;exact .inl ⟨rfl,xs,hq⟩
 |_=>exact False.elim h
@[simp]def kr:=D->List D->Gp->jC->Prop
abbrev rg(X:Cx)(id:String)(r3:kr):Prop :=
 ∀(ψ:List (bx×Obj))(s:dg)(σ:St)(H:Hp)(x:D)(xs:List D)(vx:V)(vs:List V)(u:bh)(us:List bh)(G:Gp)(R:jC)(Q:VK),Inv X ψ σ H s->RD X.K H x vx->cZ X.K H xs vs->RelV vx u->Vals vs us->HR X.K H G->r3 x xs G R ->
  (∀v H' d G',Ts H H'->RD X.K H' d v->HR X.K H' G'->R d G'->Q v H')->dj (dz X.prog X.w) X.A (call (.builtin id) (u::us)) (EP X ψ σ Q) X.xe s
variable{r3:kr}
def rg.of{r:V->List V->Hp->VK->Prop}(h:MtR X id r)(i:∀(H:Hp)(x:D)(xs:List D)(vx:V)(vs:List V)(G:Gp)(R:jC)(Q:VK),RD X.K H x vx->cZ X.K H xs vs->HR X.K H G->r3 x xs G R ->
  (∀v H' d G',Ts H H'->RD X.K H' d v->HR X.K H' G'->R d G'->Q v H')->r vx vs H λv H'=>KF X.K H'->Q v H'):rg X id r3:=λψ s σ H x xs vx vs u us G R Q I rx rs ru rv g q k =>
 fW (h ψ s σ H vx vs u us _ I ru rv (i H x xs vx vs G R Q rx rs g q k)) λ_ _ ⟨v,H',I',r,q'⟩=>⟨v,H',I',r,q' (vJ I')⟩
abbrev lI(T:String)(r:kr)(to:d7)(t:bo):d7:=λρ G R=>to ρ G λx G1=>rh T G1 x/\t ρ G1 λxs G2=>r x xs G2 R
abbrev Ld(T:String)(r:kr)(to:d7):d7:=λρ G R=>to ρ G λx G1=>rh T G1 x/\r x [] G1 R
def aYI{t:bo}{apos ah:Pos}(pa:PlainAttrs T)(slot:Slot T name id)(Ca:typeOf (.builtin id)=pure (.type "method_descriptor"))(hm:rg X id r3)(ho:dJ X o to)(ha:eM X (e::es) t)
  (aT:uf o name X.env (eval o X.env)=eval o X.env:=by rfl)
  (Af:((uc ah (jg (e::es) X.env)).all (λx=>!x.1)&&(backToKw ah (pw [] X.env)).all (λx=>x.1.isSome)
   &&decide ((e::es).length+([]:List ip).length+(if([]:List ip).isEmpty then 0 else 1)<30))=ak:=by rfl)
  (aS:(apos.endLine==ah.line)=ak:=by rfl)(hs:jg (e::es) X.env=(ao,eval e X.env)::jg es X.env:=by rfl)(d6:(uc ah (jg es X.env)).any (·.1)=ao:=by rfl) :
  dJ X (.Call (.Attribute o name apos) (e::es) [] ah) (lI T r3 to t):=by
 intro ψ s σ H Q I h;let⟨ρ,G,R,sr,g,q,kk⟩:=h;refine wpAny_Call_method_late aT Af aS rfl (fW (ho ψ s σ H (λvx H1=>Ts H H1/\∃x G1,RD X.K H1 x vx/\HR X.K H1 G1/\rh T G1 x/\t ρ G1 λxs G2=>r3 x xs G2 R) I ⟨ρ,G,_,sr,g,q,λv H1 x G1 t1 r1 g1 q1=>⟨t1,x,G1,r1,g1,q1⟩⟩) ?_);rintro v s1 ⟨vx,H1,I1,r1,t1,x,G1,rx,g1,ty,q1⟩;let⟨h1,h2⟩:=Ub I1 r1 (T4 g1 rx ty);refine⟨T,id,pa,slot,Ca,h1,h2,?_⟩;have hA:=ha ah ψ s1 σ H1 (λvs H2=>Ts H1 H2/\∃xs G2,cZ X.K H2 xs vs/\HR X.K H2 G2/\r3 x xs G2 R) I1 ⟨ρ,G1,_,sr.mono t1,g1,q1,λvs H2 xs G2 t2 r2 g2 q2=>⟨t2,xs,G2,r2,g2,q2⟩⟩;rw[hs]at hA ⊢;refine Calls.callWith_builtin (by show(ao||(uc ah (jg es X.env)).any (·.1))=ao;rw[d6]<;>rfl) (Calls.evalArgs_plain ?_);exact fW hA (by rintro us s2 ⟨vs,H2,I2,r2,t2,xs,G2,rs,g2,q2⟩;exact hm ψ s2 σ H2 x xs vx vs v us G2 R Q I2 (rx.mono t2) rs r1 r2 g2 q2 λv H' d G' t3=>kk v H' d G' ((t1.trans t2).trans t3))
def aU6{apos ah:Pos}(pa:PlainAttrs T)(slot:Slot T name id)(Ca:typeOf (.builtin id)=pure (.type "method_descriptor"))(hm:rg X id r3)(ho:dJ X o to)
  (aT:uf o name X.env (eval o X.env)=eval o X.env:=by rfl)(aS:(apos.endLine==ah.line)=ak:=by rfl):dJ X (.Call (.Attribute o name apos) [] [] ah) (Ld T r3 to):=by
 intro ψ s σ H Q I h;let⟨ρ,G,R,sr,g,q,kk⟩:=h;refine Ha aT aS (fW (ho ψ s σ H (λvx H1=>Ts H H1/\∃x G1,RD X.K H1 x vx/\HR X.K H1 G1/\rh T G1 x/\r3 x [] G1 R) I ⟨ρ,G,_,sr,g,q,λv H1 x G1 t1 r1 g1 q1=>⟨t1,x,G1,r1,g1,q1⟩⟩) ?_);rintro v s1 ⟨vx,H1,I1,r1,t1,x,G1,rx,g1,ty,q1⟩;let⟨h1,h2⟩:=Ub I1 r1 (T4 g1 rx ty);exact⟨T,id,pa,slot,Ca,h1,h2,Calls.callWith_builtin rfl (PySem.evalArgs_none (hm ψ s1 σ H1 x [] vx [] v [] G1 R Q I1 rx .nil r1 .nil g1 q1 λv H' d G' t3=>kk v H' d G' (t1.trans t3)))⟩
abbrev jM:kr:=λx xs G R=>match x,xs with
 |.ref p,[d]=>(match G p with
  |some (.lst ds)=>ds.length<dh/\R .ae (aM G p (.lst (ds++[d])))
  |_=>False)
 |_,_=>False
private theorem Qm:rg X "list.append" jM:=rg.of Q1 λH x xs vx vs G R Q rx rs g q k=>by
 cases rx with
 |ref p =>
  cases rs with
  |nil=>exact False.elim q
  |@cons d v ds ws r rr =>
   cases rr with
   |cons _ _=>exact False.elim q
   |nil =>
    have q':(match G p with
     |some (.lst ds)=>ds.length<dh/\R .ae (aM G p (.lst (ds++[d])))
     |_=>False):=q
    split at q'
    .rename_i ds e1;let⟨ys,f1,r1⟩:=g p _ e1;refine⟨p,ys,v,rfl,rfl,f1,by rw[←r1.length];exact q'.1,λ_=>?_⟩;have tt:Ts H (upd H p (.lst (ys++[v]))):=.turn f1 (λ_ z=>nomatch z) (λ_ _ z=>nomatch z);exact k _ _ _ _ tt .ae (g.turn (u:=.lst (ds++[d])) tt ⟨_,aL,(r1.append (.cons r .nil)).mono tt⟩) q'.2
    .exact q'.elim
 |_=>cases rs<;>exact False.elim q
abbrev yT:d7:=λ_ G R=>∀p,G p=au->R (.ref p) (aM G p (.cX ao []))
def aO5:dJ X (.Dict [] [] pos) yT:=PE.imp (PE.kf aAQ) λσ H Q h=>by
 let⟨ρ,G,R,s,g,q,k⟩:=h;intro p hp kf;have sn:aE H (upd H p (.dK [])):=bM hp;exact k _ _ _ _ (.same sn) (.ref p) (g.put (u:=.cX ao []) hp (.inl ⟨rfl,[],aL,.nil⟩)) (q p (jL g hp kf))
abbrev Dm:d7:=λ_ G R=>∀p,G p=au->R (.ref p) (aM G p (.cX ak []))
def aHM:dJ X (.Dict [] [] pos) Dm:=PE.imp (PE.kf aAR) λσ H Q h=>by
 let⟨ρ,G,R,s,g,q,k⟩:=h;intro p hp kf;have sn:aE H (upd H p (.dT [])):=bM hp;exact k _ _ _ _ (.same sn) (.ref p) (g.put (u:=.cX ak []) hp (.inr ⟨rfl,[],aL,.nil⟩)) (q p (jL g hp kf))
end
end
end L2
namespace L2
open PySem
def fX:mq "isinstance"=aj (.builtin "isinstance"):=by decide+kernel
def yN:mq "len"=aj (.builtin "len"):=by decide+kernel
def T3:mq "min"=aj (.builtin "min"):=by decide+kernel
def aO6:mq "sum"=aj (.builtin "sum"):=by decide+kernel
def zM:mq "sorted"=aj (.builtin "sorted"):=by decide+kernel
def aO7:mq "all"=aj (.builtin "all"):=by decide+kernel
def Jg:mq "int"=aj (.type "int"):=by decide+kernel
def Pf:mq "bool"=aj (.type "bool"):=by decide+kernel
def T2:mq "str"=aj (.type "str"):=by decide+kernel
def Ql:mq "tuple"=aj (.type "tuple"):=by decide+kernel
def FT:mq "list"=aj (.type "list"):=by decide+kernel
def aHN:mq "dict"=aj (.type "dict"):=by decide+kernel
def ahV:mq "ValueError"=aj (.type "ValueError"):=by decide+kernel
end L2
namespace L2
open PySem PySem.Spec PyProof.Rows
variable{cm:Bool}{lo:Int}{n:Nat}{ta:bo}{pos:Pos}
section
abbrev Hz(x:Str):It:=⟨λi _=>i<x.cps.size,λi H v H'=>H'=H/\∃c,x.cps[i]?=aj c/\v=.str ⟨#[c]⟩,λi _=>x.cps.size<=i⟩
def QY{w:ji}{K:jc}(it:bx)(x:Str)(t:Tok):Turn cm tl P w K tg (Hz x) [it] it (λi h=>h.IsStrIter it "str_ascii_iterator" x t (min i x.cps.size)) where
 mem:=by simp
 obj:=λi h st b hb=>by
  have e:b=it:=by simpa using hb
  subst e;let⟨o,e,c,d⟩:=st;exact⟨o,e,λv z=>by rw[d]at z;cases z⟩
 keep:=λi h h' st k=>let⟨o,e,r⟩:=st;⟨o,k it (by simp) o e,r⟩
 item:=by
  intro X hP hw hK ef ht i ψ s σ H E I hf st hg;subst hP hw hK;let⟨f0,f1,f2,f3,f4,f5⟩:=hf it (by simp);have hi:i<x.cps.size:=hg;rw[zh (wk hi)]at st;refine wpAny_pyNext_ascii_item st (c:=x.cps[i]) (by simp[hi]) λh' fm kk=>?_;have I1:Inv X ψ σ H {s with heap:=h',toks:=s.toks+1}:=I.turned (λb o hb e=>(kk.2 b hb).trans e) f0 f1 f3 f4 f5;let⟨o,e1,c1,d1⟩:=id fm;refine⟨_,rfl,CJ (s:={s with heap:=h',toks:=s.toks+1}) e1 c1 d1 (by decide) ⟨.str ⟨#[x.cps[i]]⟩,H,I1,⟨_,rfl⟩,⟨rfl,x.cps[i],by simp[hi],rfl⟩,?_,λb hb=>(hf b hb).1⟩⟩;rw[zh hi];exact fm
 done:=by
  intro X hP hw hK ef ht i ψ s σ H E I hf st hg;subst hP hw hK;let⟨f0,f1,f2,f3,f4,f5⟩:=hf it (by simp);have hi:x.cps.size<=i:=hg;rw[Nat.min_eq_right hi]at st;exact Yv (I.dy.heap I.aa) st (by simp) λh' eb=>⟨rfl,I.turned (t':=s.toks) (λb o hb e=>eb b o hb e) f0 f1 f3 f4 f5⟩
 self:=λ_ _ _ _ _ st h=>wpAny_pyIter_striter_ascii st h
def QX{w:ji}{K:jc}(it:bx)(x:Str)(t:Tok):Turn cm tl P w K tg (Hz x) [it] it (λi h=>h.IsStrIter it "str_iterator" x t (min i x.cps.size)) where
 mem:=by simp
 obj:=λi h st b hb=>by
  have e:b=it:=by simpa using hb
  subst e;let⟨o,e,c,d⟩:=st;exact⟨o,e,λv z=>by rw[d]at z;cases z⟩
 keep:=λi h h' st k=>let⟨o,e,r⟩:=st;⟨o,k it (by simp) o e,r⟩
 item:=by
  intro X hP hw hK ef ht i ψ s σ H E I hf st hg;subst hP hw hK;let⟨f0,f1,f2,f3,f4,f5⟩:=hf it (by simp);have hi:i<x.cps.size:=hg;rw[zh (wk hi)]at st;refine wpAny_pyNext_wide_item st (c:=x.cps[i]) (by simp[hi]) λh' fm kk=>?_;have I1:Inv X ψ σ H {s with heap:=h',toks:=s.toks+1}:=I.turned (λb o hb e=>(kk.2 b hb).trans e) f0 f1 f3 f4 f5;let⟨o,e1,c1,d1⟩:=id fm;refine⟨_,rfl,CJ (s:={s with heap:=h',toks:=s.toks+1}) e1 c1 d1 (by decide) ⟨.str ⟨#[x.cps[i]]⟩,H,I1,⟨_,rfl⟩,⟨rfl,x.cps[i],by simp[hi],rfl⟩,?_,λb hb=>(hf b hb).1⟩⟩;rw[zh hi];exact fm
 done:=by
  intro X hP hw hK ef ht i ψ s σ H E I hf st hg;subst hP hw hK;let⟨f0,f1,f2,f3,f4,f5⟩:=hf it (by simp);have hi:x.cps.size<=i:=hg;rw[Nat.min_eq_right hi]at st;exact Yu (I.dy.heap I.aa) st (by simp) λh' eb=>⟨rfl,I.turned (t':=s.toks) (λb o hb e=>eb b o hb e) f0 f1 f3 f4 f5⟩
 self:=λ_ _ _ _ _ st h=>wpAny_pyIter_striter_wide st h
inductive Src where
 |lst (p:bx) (xs:List D)|dq (xs:List D)|zip (p q:bx) (xs ys:List D)|Ax (p:bx) (o:Obj) (kvs:List (DK×D))|ic (p:bx) (o:Obj) (t:Bool) (kvs:List (DK×D))|key (p:bx) (o:Obj) (t:Bool) (kvs:List (DK×D))|dt (p:bx) (xs:List D)|E4 (p:bx) (xs:List D)|Et (p:bx) (o:Obj) (kvs:List (NK×Int))
abbrev Xs(xs:List D):List D:=xs.zipIdx.map λz=>.tup [.int z.2,z.1]
abbrev Wq(xs ys:List D):List D:=(xs.zip ys).map λz=>.tup [z.1,z.2]
abbrev Src.items:Src->List D
 |.lst _ xs=>xs
 |.dq xs=>xs
 |.zip _ _ xs ys=>Wq xs ys
 |.Ax _ _ kvs=>kvs.map λz=>.tup [dQ z.1,z.2]
 |.ic _ _ _ kvs=>kvs.map λz=>.tup [dQ z.1,z.2]
 |.key _ _ _ kvs=>kvs.map λz=>dQ z.1
 |.dt _ xs=>xs
 |.E4 _ xs=>Xs xs
 |.Et _ _ kvs=>kvs.map λz=>NF z.1
abbrev Src.ok(G:Gp):Src->Prop
 |.lst p xs=>cO G p=aj xs
 |.dq _=>True
 |.zip p q xs ys=>cO G p=aj xs/\cO G q=aj ys
 |.Ax p o kvs=>G p=aj (.eA o ao kvs)
 |.ic p o t kvs=>G p=aj (.eA o t kvs)
 |.key p o t kvs=>G p=aj (.eA o t kvs)
 |.dt p xs=>G p=aj (.dt xs)
 |.E4 p xs=>G p=aj (.dt xs)
 |.Et p o kvs=>G p=aj (.Aq o kvs)
abbrev ua(K:Fg)(H1:Hp)(src:Src)(J:It):Prop:=∀H2 G2,Ts H1 H2->HR K H2 G2->src.ok G2 ->
 (∀i,i<src.items.length->J.go i H2)/\(∀i v H',i<src.items.length->J.Al i H2 v H'->aE H2 H'/\∃d,src.items[i]?=aj d/\RD K H' d v)/\J.stop src.items.length H2
@[simp]def ez:=aN->Gp->(Src->Gp->Prop)->Prop
abbrev V5(K:Fg)(t:ez):TI:=λσ H Q=>∃ρ G R,SR K H ρ σ/\HR K H G/\t ρ G R/\∀src J H' G',Ts H H'->HR K H' G'->ua K H' src J->R src G'->Q J H'
@[simp]def BM(X:Cx)(tg iter:je)(t:ez):Prop:=PI X tg iter (V5 X.K t)
abbrev signs(z:Str):List D:=z.cps.toList.map λc=>.str ⟨#[c]⟩
abbrev Be(te:d7):ez:=λρ G R=>te ρ G λx G1=>match x with
 |.ref p=>(match cO G1 p with
  |some xs=>R (.lst p xs) G1
  |none=>False)
 |.tup xs=>R (.dq xs) G1
 |.str z=>R (.dq (signs z)) G1
 |_=>False
def QW{K:Fg}:ua K H1 (.lst p xs) (M5 K p):=λH2 G2 t g ok=>by
 let⟨vs,hq,rv⟩:=dZ g (show cO G2 p=aj xs from ok);refine⟨λi hi=>?_,λi v H' hi hy=>?_,⟨vs,hq,Bs rv.length.symm⟩⟩
 .have kL:i<xs.length:=hi;let⟨y,e1,_⟩:=rv.get (jd kL);exact⟨vs,y,hq,e1⟩
 .obtain⟨rfl,hy⟩:=hy;let⟨d,e1,e2⟩:=rv.F9 (hy vs hq);exact⟨.refl _,d,e1,e2⟩
def Qk{K:Fg}(hq:br K H1 a vs)(rv:cZ K H1 xs vs):ua K H1 (.dq xs) (M4 K a):=λH2 G2 t g ok=>by
 have Iv:=t.Ap hq;have Nx:=rv.mono t;refine⟨λi hi=>?_,λi v H' hi hy=>?_,⟨vs,Iv,Bs rv.length.symm⟩⟩
 .have kL:i<xs.length:=hi;let⟨y,e1,_⟩:=Nx.get (jd kL);exact⟨vs,y,Iv,e1⟩
 .obtain⟨rfl,hy⟩:=hy;let⟨d,e1,e2⟩:=Nx.F9 (hy vs Iv);exact⟨.refl _,d,e1,e2⟩
def Km{K:Fg}:ua K H1 (.dq (signs z)) (Hz z):=λH2 G2 t g ok=>by
 have hl:(signs z).length=z.cps.size:=by simp[signs]
 refine⟨λi hi=>?_,λi v H' hi hy=>?_,?_⟩
 .have:i<(signs z).length:=hi;rw[hl]at this;exact this
 .obtain⟨rfl,c,hc,rfl⟩:=hy;exact⟨.refl _,.str ⟨#[c]⟩,by simp[Src.items,signs,hc],.str _⟩
 .show z.cps.size<=(signs z).length;rw[hl];exact fj _
def Qj{K:Fg}:ua K H1 (.dq ((ou n).map λ(i:Nat)=>.int (lo+(i:Int)))) (DW lo n):=λH2 G2 t g ok=>by
 refine⟨λi hi=>?_,λi v H' hi hy=>?_,?_⟩
 .have kL:i<n:=by simpa[Src.items]using hi
  exact kL
 .obtain⟨rfl,rfl⟩:=hy;have kL:i<n:=by simpa[Src.items]using hi
  exact⟨.refl _,.int (lo+i),by simp[Src.items,kL],.int _⟩
 .show n<=_;simp[Src.items]
section
variable{X:Cx}
def PI.imp{t:TI}(h:PI X tg e t)(k:∀σ H Q,t' σ H Q->t σ H Q):PI X tg e t':=λψ s σ H Q I q=>h ψ s σ H Q I (k _ _ _ q)
private theorem aU7{l:je}(hl:dJ X l te):BM X tg l (Be te):=by
 intro ψ s σ H R I h;let⟨ρ,G,R3,sr,g,q,k⟩:=h
 refine fW (hl ψ s σ H (λv H1=>Ts H H1/\∃x G1,RD X.K H1 x v/\HR X.K H1 G1/\(match x with
  |.ref p=>(match cO G1 p with
   |some xs=>R3 (.lst p xs) G1
   |none=>False)
  |.tup xs=>R3 (.dq xs) G1
  |.str z=>R3 (.dq (signs z)) G1
  |_=>False)) I ⟨ρ,G,_,sr,g,q,λv H1 x G1 t1 r g1 q1=>⟨t1,x,G1,r,g1,q1⟩⟩) λv s1 ⟨x,H1,I1,r1,t1,d,G1,rd,g1,q1⟩=>?_
 cases rd with
 |ref a =>
  have xf:(match cO G1 a with
   |some xs=>R3 (.lst a xs) G1
   |none=>False):=q1
  split at xf
  .rename_i xs e;cases r1;let⟨vs,hq,rv⟩:=dZ g1 e;let⟨its,og,p,hz⟩:=I1.list hq;refine GN p.isList ?_;refine⟨s1.heap.objs.size,[s1.heap.objs.size],_,_,H1,rfl,I1.kept (t':=s1.toks) λb o e=>cj _ e,Q8 a _,⟨_,ig _ rfl,rfl,rfl⟩,λb hb=>?_,k _ _ H1 G1 t1 g1 QW xf⟩;have e:b=s1.heap.objs.size:=by simpa using hb
   subst e;exact I1.mf (fj _) (I1.aa.fresh (fj _))
  .exact xf.elim
 |@tup a vs xs hq rv =>
  cases r1;let⟨its,og,p,hz⟩:=I1.tuple hq;refine wpAny_pyIter_tuple (show s1.heap.IsTuple a its.toArray from p) ?_;refine⟨s1.heap.objs.size,[s1.heap.objs.size],_,_,H1,rfl,I1.kept (t':=s1.toks) λb o e=>cj _ e,RE a _,⟨_,ig _ rfl,rfl,rfl⟩,λb hb=>?_,k _ _ H1 G1 t1 g1 (Qk hq rv) q1⟩;have e:b=s1.heap.objs.size:=by simpa using hb
  subst e;exact I1.mf (fj _) (I1.aa.fresh (fj _))
 |str z =>
  let⟨t,rfl⟩:=r1;cases ha:z.cps.all (· <128)
  .refine wpAny_pyIter_wide ha ?_;refine⟨s1.heap.objs.size,[s1.heap.objs.size],_,_,H1,rfl,I1.kept (t':=s1.toks) λb o e=>cj _ e,QX _ z t,?_,λb hb=>?_,k _ _ H1 G1 t1 g1 Km q1⟩
   .rw[Nat.zero_min];exact⟨_,ig _ rfl,rfl,rfl⟩
   .have e:b=s1.heap.objs.size:=by simpa using hb
    subst e;exact I1.mf (fj _) (I1.aa.fresh (fj _))
  .refine wpAny_pyIter_ascii ha ?_;refine⟨s1.heap.objs.size,[s1.heap.objs.size],_,_,H1,rfl,I1.kept (t':=s1.toks) λb o e=>cj _ e,QY _ z t,?_,λb hb=>?_,k _ _ H1 G1 t1 g1 Km q1⟩
   .rw[Nat.zero_min];exact⟨_,ig _ rfl,rfl,rfl⟩
   .have e:b=s1.heap.objs.size:=by simpa using hb
    subst e;exact I1.mf (fj _) (I1.aa.fresh (fj _))
 |_=>exact q1.elim
abbrev o5(lo hi:Int):List D:=(ou (hi - lo).toNat).map λ(i:Nat)=>.int (lo+(i:Int))
abbrev yB(ta:bo):ez:=λρ G R=>ta ρ G λxs G1=>match xs with
 |[.int j]=>-(2^62)<=j/\j<2^62/\R (.dq (o5 0 j)) G1
 |_=>False
def aO9(hg:Gl X "range")(hm:X.mg "range"=au)(ha:eM X [a] ta)(hs:jg [a] X.env=[(ao,eval a X.env)]):BM X tg (.Call (.Name "range" p) [a] [] pos) (yB ta) :=
 PI.imp (Q7 hg hm ha hs) λσ H Q h=>by
 let⟨ρ,G,R,s,g,q,k⟩:=h;refine⟨ρ,G,_,s,g,q,λvs H1 ds G1 t1 r g1 h1=>?_⟩;cases r with
 |nil=>exact h1.elim
 |cons r rr =>
  cases rr with
  |cons _ _=>cases r<;>exact False.elim h1
  |nil =>
   cases r with
   |int j =>
    let⟨l1,l2,h1⟩:=h1;refine⟨j,rfl,l1,l2,k _ _ H1 G1 t1 g1 ?_ h1⟩;unfold o5;rw[show(j - 0).toNat=j.toNat by omega];exact Qj
   |_=>exact False.elim h1
end
end
variable{env:Env}{j:Nat}
section
abbrev vL(cells:List (Str×bx)):List (Str×vp)->List (Str×bx)->List (Str×bx)
 |[],cs=>cs
 |(n,k)::r,cs=>vL cells r (if k=.free then(match cells.lookup n with
  |some a=>(n,a)::cs
  |none=>cs)else cs)
def aaC{scope:zq}(h:∀y∈scope.names,y.2=.free->∃c,env.cells.lookup y.1=aj c):closureFor scope env=pure (vL env.cells scope.names []):=by
 unfold closureFor
 have all:∀(l:List (Str×vp))(cs:List (Str×bx)),(∀y∈l,y.2=.free->∃c,env.cells.lookup y.1=aj c) ->
   (forIn l cs λ(x:Str×vp)(r:List (Str×bx))=>(if(x.2==vp.free)=ak then do
    let a ←cellOf env x.1
    pure (ForInStep.yield ((x.1,a)::r))else pure (ForInStep.yield r):Sem (ForInStep (List (Str×bx)))))=(pure (vL env.cells l cs):Sem (List (Str×bx))):=by
  intro l
  induction l with
  |nil=>intro cs _;rfl
  |cons y r ih =>
   intro cs hl;let⟨n,k⟩:=y;rw[List.forIn_cons];by_cases hk:k=.free
   .subst hk;let⟨c,hc⟩:=hl (n,.free) (by simp) rfl;have e:cellOf env n=pure c:=by unfold cellOf;rw[hc]
    simp only[beq_self_eq_true,if_true,e];show(forIn r ((n,c)::cs) _:Sem _)=_;rw[ih _ λy hy=>hl y (by simp[hy])];simp only[vL,if_true,hc]
   .have WW:(k==vp.free)=ao:=by simpa using hk
    simp only[WW,um,if_false];show(forIn r cs _:Sem _)=_;rw[ih _ λy hy=>hl y (by simp[hy])];simp only[vL,if_neg hk]
 have z:=all scope.names [] h;exact congrArg (λm=>m >>= λcs=>pure cs) z
private theorem oA{cells:List (Str×bx)}:∀{l:List (Str×vp)}{cs:List (Str×bx)}{y:Str}{c:bx},(vL cells l cs).lookup y=aj c->(∀c,cs.lookup y=aj c->cells.lookup y=aj c)->cells.lookup y=aj c
 |[],cs,y,c,h,k=>k c h
 |(n,kd)::r,cs,y,c,h,k=>by
  unfold vL at h;refine oA h λc' h'=>?_;by_cases hk:kd=.free
  .rw[if_pos hk]at h';split at h'
   .rename_i a ha;rw[wz]at h';split at h'
    .rename_i e;have e':y=n:=beq_iff_eq.mp e;subst e';rw[ha];exact h'
    .exact k c' h'
   .exact k c' h'
  .rw[if_neg hk]at h';exact k c' h'
def RA{cells:List (Str×bx)}:∀{l:List (Str×vp)}{cs:List (Str×bx)}{y:Str},(∃c,cs.lookup y=aj c)->∃c,(vL cells l cs).lookup y=aj c
 |[],cs,y,h=>h
 |(n,kd)::r,cs,y,h=>by
  unfold vL;refine RA ?_;by_cases hk:kd=.free
  .rw[if_pos hk];split
   ·rw[wz];split
    ·exact⟨_,rfl⟩
    .exact h
   .exact h
  .rw[if_neg hk];exact h
def KG{cells:List (Str×bx)}{c:bx}(hc:cells.lookup y=aj c):∀{l:List (Str×vp)}{cs:List (Str×bx)},(y,vp.free)∈l->∃c,(vL cells l cs).lookup y=aj c
 |[],cs,h=>by simp at h
 |(n,kd)::r,cs,h=>by
  unfold vL;rcases jm.mp h with e|h
  .cases e;refine RA ?_;rw[if_pos rfl,hc];simp
  .exact KG hc h
private theorem mem_of_lookup{α:Type}:∀{l:List (Str×α)}{y:Str}{k:α},l.lookup y=aj k->(y,k)∈l
 |[],_,_,h=>by simp at h
 |(n,kd)::r,y,k,h=>by
  rw[wz]at h;split at h
  .rename_i e;have e':y=n:=beq_iff_eq.mp e;cases h;subst e';simp
  .exact qj _ (mem_of_lookup h)
structure yA(X:Cx)(xs:List Str)(scope:zq):Prop where
 kind:scope.kind=.function
 Jf:∀y∈scope.names,y.2≠.cell
 locs:∀y∈scope.names,y.2=.local->scope.names.lookup y.1=aj .local
 var:∀x∈xs,scope.names.lookup x=aj .local
 frees:∀y∈scope.names,y.2=.free->X.env.kindOf y.1=aj .cell∨X.env.kindOf y.1=aj .free
 out:∀x∈xs,x∉X.N
 nd:xs.Nodup
 only:∀y∈X.N,scope.names.lookup y≠aj .local
@[simp]def yO(X:Cx)(xs:List Str)(scope:zq)(C:bx)(kz:dg)(Nj:Hp)(fp:List bx)(ψ:List (bx×Obj)):Cx :=
 {X with N:=xs++X.N,ai:=kz,aw:=Nj,env:=compEnvC scope (vL X.env.cells scope.names []) C X.env,outer:=X.stack,stack:=X.stack,ex:=fp,fn:=λ_=>ao,pn:=X.pn++ψ,xe:=λ_ _=>False}
abbrev nn(xs:List Str)(σ:St):St:=xs.map (λ_=>au)++σ
def T1{xs:List Str}{i:Nat}{v:V}(h:(nn xs σ)[i]?=aj (aj v)):∃j,i=xs.length+j/\σ[j]?=aj (aj v):=by
 unfold nn at h;by_cases c:i<xs.length
 .rw[Hh (by simpa using c)]at h;simp at h
 .rw[zu (by simpa using c)]at h;exact⟨i - xs.length,⋯,by simpa using h⟩
def Pe{α:Type}{xs ys:List α}:(xs++ys)[xs.length+j]?=ys[j]?:=by
 rw[zu ⋯];congr 1;omega
def gH{env:Env}{k:vp}:∀{names:List (Str×vp)},(names.map λ(n,k)=>if(k==.free&&env.scope.kind==.function&&env.kindOf n==aj .cell)then(n,.cell)else(n,k)).lookup y=aj k ->
  ∃k',names.lookup y=aj k'/\(k=k'∨(k=.cell/\k'=.free))
 |[],h=>by simp at h
 |(n,kd)::r,h=>by
  rw[kj]at h;by_cases hc:(kd==.free&&env.scope.kind==.function&&env.kindOf n==aj .cell)=ak
  .have h':za y ((n,vp.cell)::(r.map λ(n,k)=>if(k==.free&&env.scope.kind==.function&&env.kindOf n==aj .cell)then(n,.cell)else(n,k)))=aj k:=by
    simp only[hc,if_true]at h;exact h
   rw[wz]at h' ⊢;cases hx:y==n with
   |true =>
    rw[hx]at h';cases h';refine⟨kd,rfl,.inr ⟨rfl,?_⟩⟩;simp only[cg,beq_iff_eq]at hc;exact hc.1.1
   |false =>
    rw[hx]at h';exact gH h'
  .have h':za y ((n,kd)::(r.map λ(n,k)=>if(k==.free&&env.scope.kind==.function&&env.kindOf n==aj .cell)then(n,.cell)else(n,k)))=aj k:=by
    simp only[hc,if_false]at h;exact h
   rw[wz]at h' ⊢;cases hx:y==n with
   |true =>
    rw[hx]at h';cases h';exact⟨_,rfl,.inl rfl⟩
   |false =>
    rw[hx]at h';exact gH h'
end
variable{b:bx}{tk:Nat}
section
section
variable{X:Cx}{ψ:List (bx×Obj)}{s:dg}
def JC(I:Inv X ψ σ H s)(hb:b∈frs X.stack):b=X.env.locals∨b∈X.fs:=jm.mp (I.Jm b hb)
def aOA(I:Inv X ψ σ H s)(c:yA X xs scope)(hC:s.heap.objs.size<=C)(hf:∀b∈fp,km X ψ H b/\b<s.heap.objs.size):(yO X xs scope C s H fp ψ).Ok where
 mod:=I.ok.mod
 kind:=c.kind
 glob:=I.ok.glob
 blt:=I.ok.blt
 above:=hC
 inj:=λy z d h1 h2=>I.ok.inj y z d (oA h1 λ_ h=>by simp at h) (oA h2 λ_ h=>by simp at h)
 has:=λy h=>by
  have hy:(y,vp.free)∈scope.names:=by
   rcases h with h|h
   .obtain⟨k',e,z⟩:=gH (env:=X.env) (names:=scope.names) h;rcases z with z|⟨_,z⟩
    .subst z;exact absurd rfl (c.Jf _ (mem_of_lookup e))
    .subst z;exact mem_of_lookup e
   .obtain⟨k',e,z⟩:=gH (env:=X.env) (names:=scope.names) h;rcases z with z|⟨z,_⟩
    .subst z;exact mem_of_lookup e
    .cases z
  let⟨d,hd⟩:=I.ok.has y (c.frees _ hy rfl);exact KG hd hy
 tN:=λ_ _ h=>absurd h (by simp)
 hd:=I.ok.hd
 frames:=I.ok.frames
 iE:=.inl rfl
 Cp:=λb hb=>by
  let⟨⟨f0,f1,f2,f3,f4,f5⟩,lt⟩:=hf b hb;exact⟨jl (ju lt hC),λy d h=>f4 y d (oA h λ_ h=>by simp at h)⟩
 bs:=λb o e=>I.bs b o e
 kQ:=qd I.ok.kQ I.sz
 uA:=λb o e hb=>by
  let⟨⟨f0,f1,f2,f3,f4,f5⟩,lt⟩:=hf b hb;rcases f3 with z|z
  .exact I.ok.uA b o e z
  .exact absurd (ju (gk e) (qd I.ok.kQ z)) (vg _)
 yf:=λb hb hs=>by
  let⟨⟨f0,f1,f2,f3,f4,f5⟩,lt⟩:=hf b hb;rcases JC I hs with z|z
  .exact f1 z
  .exact f2 z
 hW:=I.stack
 oC:=λb hb=>I.JL b hb
def aOB(I:Inv X ψ σ H s)(c:yA X xs scope)(hC:s.heap.objs.size=C)(hf:∀b∈fp,km X ψ H b/\b<s.heap.objs.size){bc:kh}{m:Str->Option bh}(hn:bc.Ns C m)(hk:∀b o,s.heap.get? b=aj o->bc.get? b=aj o) :
  Inv (yO X xs scope C s H fp ψ) [] (nn xs σ) H {s with heap:=bc,toks:=tk}:=by
 have lt:∀b o,s.heap.get? b=aj o->b≠C:=λb o e=>by rw[←hC];exact jl (gk e)
 refine⟨aOA I c (Bs hC) hf,rfl,I.bare,Un.kept hk,⟨m,hn,λi y v e1 e2 e3=>?_⟩,λy d e=>?_,I.aa.fresh (Bs hC),λy d e=>I.rY y d (oA e λ_ h=>by simp at h),λp hp=>?_,I.aa.kept hk,by simp[nn,I.len],I.dy,I.tup⟩
 .obtain⟨i,rfl,oP⟩:=T1 e2
  .have j3:X.N[i]?=aj y:=Pe.symm.trans e1;have hy:y∈X.N:=lq j3
   have free:(y,vp.free)∈scope.names:=by
    have Xy:∃k,(relabel scope X.env).names.lookup y=aj k/\(k=.local∨k=.cell∨k=.free):=by
     rcases e3 with h|h|h
     .exact⟨_,h,.inl rfl⟩
     .exact⟨_,h,.inr (.inl rfl)⟩
     .exact⟨_,h,.inr (.inr rfl)⟩
    let⟨k,h,hk⟩:=Xy;let⟨k',e,z⟩:=gH (env:=X.env) (names:=scope.names) h;rcases z with z|⟨_,z⟩
    .subst z;rcases hk with rfl|rfl|rfl
     .exact absurd e (c.only y hy)
     .exact absurd rfl (c.Jf _ (mem_of_lookup e))
     .exact mem_of_lookup e
    .subst z;exact mem_of_lookup e
   have ER:=c.frees _ free rfl;let⟨m',EL,EN⟩:=I.loc;have Am:BK X.env.scope y:=ER.elim (λz=>.inr (.inl z)) λz=>.inr (.inr z);let⟨u,r,l⟩:=EN i y v j3 oP Am;refine⟨u,r,.inr ⟨?_,?_⟩⟩
   .rcases e3 with h|h|h
    .obtain⟨k',e,z⟩:=gH (env:=X.env) (names:=scope.names) h;rcases z with z|⟨z,_⟩
     .subst z;exact absurd e (c.only y hy)
     .cases z
    .exact .inl h
    .exact .inr h
   .rcases l with⟨hl,_⟩|⟨_,d,hd,ja⟩
    .rcases ER with z|z
     .rw[z]at hl;cases hl
     .rw[z]at hl;cases hl
    .obtain⟨d',g7⟩:=KG (cells:=X.env.cells) (l:=scope.names) (cs:=[]) hd free;have:=oA g7 λ_ h=>by simp at h
     rw[hd]at this;cases this;refine⟨d,g7,?_⟩;let⟨o,ho,eD⟩:=ja;exact⟨o,hk _ _ ho,eD⟩
 .obtain⟨w,o,ho,eD⟩:=I.cell y d (oA e λ_ h=>by simp at h);exact⟨w,o,hk _ _ ho,eD⟩
 .have Iw:p∈X.pn++ψ:=by simpa using hp
  let⟨e,n,ne,nf,d⟩:=I.pin p Iw;refine⟨hk _ _ e,n,lt _ _ e,λz=>?_,d⟩;rcases JC I z with z|z
  .exact ne z
  .exact nf z
def aHO(I:Inv X ψ σ H s)(hC:s.heap.objs.size=C)(hf:∀b∈fp,km X ψ H b/\b<s.heap.objs.size){s':dg}(J:Inv (yO X xs scope C s H fp ψ) y4 av H' s')(hs:jr C s'.heap h') :
  Inv X ψ σ H' {s' with heap:=h',toks:=tk}:=by
 have ne:∀b o,s.heap.get? b=aj o->b≠C:=λb o e=>by rw[←hC];exact jl (gk e)
 have u:Un (frs X.stack) fp H H' s.heap s'.heap:=J.base;have b7:H' C=au:=J.free;refine I.d4 (ch:=fp) J.os ⟨λb o e n hb hx=>?_,λb o e n hb hx=>?_,u.free,λb o e hx=>?_,u.az,u.oM,u.fh⟩ (λb o e=>?_) J.bare (λb hb=>?_)
 .exact(hs.2 b (ne b o e)).trans (u.keep b o e n hb hx)
 .obtain⟨sl,e1⟩:=u.slot b o e n hb hx;exact⟨sl,(hs.2 b (ne b o e)).trans e1⟩
 .obtain⟨o',e1⟩:=u.there b o e hx;exact⟨o',(hs.2 b (ne b o e)).trans e1⟩
 .refine(J.aa b o e).bP (λd w hd q=>(hs.2 d ?_).trans q) (λ_ q=>q) λ_ _ q=>q;rintro rfl;rcases hd with z|z
  .rw[z]at b7;rw[e]at b7;cases b7
  .rw[b7]at z;cases z
 .obtain⟨⟨f0,f1,f2,f3,f4,f5⟩,lt⟩:=hf b hb;exact⟨f3,f1,f4,f5⟩
end
end
variable{c:je}{tc:de}{ψ:List (bx×Obj)}
section
abbrev FE:de:=λ_ G R=>R ak G
abbrev C8(X:Cx)(ifs:List je)(tc:de):Prop :=
 ∀(ψ:List (bx×Obj))(s:dg)(σ:St)(H:Hp)(Q:Bool->Hp->Prop),Inv X ψ σ H s->n9 X.K tc σ H Q ->
  dj (dz X.prog X.w) X.A (forIn ifs ak λc r=>if r=ak then do let ok ←isTrue c X.env (eval c X.env);pure (ForInStep.yield ok)else pure (ForInStep.yield r)) (TP X ψ σ Q) X.xe s
def aHP:C8 X [] FE:=λψ s σ H Q I h=>by
 let⟨ρ,G,R,sr,g,q,k⟩:=h;exact cu ⟨H,I,k ak H G (.refl H) g q⟩
def aHQ(hc:ku X c tc):C8 X [c] tc:=λψ s σ H Q I h=>by
 rw[List.forIn_cons];simp only[if_true];refine aq (aq (fW (hc ψ s σ H Q I h) λb s1 q=>?_));exact cu (cu q)
section
variable{X:Cx}{x:Str}{xs:List Str}{cE:je}{dv:D->Option (List D)}{scope:zq}{iter elt:je}{ifs:List je}{pos:Pos}{ti:ez}{tc:de}{te:d7}
structure Lc(X:Cx)(ψ:List (bx×Obj))(H':Hp)(C:bx)(h:kh):Prop where
 ns:∃m,h.Ns C m
 free:H' C=au
 loc:C≠X.env.locals
 young:X.ai.heap.objs.size<=C
 cells:∀y d,X.env.cells.lookup y=aj d->d≠C
 ψ:∀p∈X.pn++ψ,p.1≠C
def Lc.turn{X:Cx}{s:dg}(o:Lc X ψ H' C s.heap)(I:Inv X ψ σ H' s)(hs:jr C s.heap h'):Inv X ψ σ H' {s with heap:=h' } :=
 I.turned (t':=s.toks) (λb ob hb e=>(hs.2 b hb).trans e) o.free o.loc (.inr o.young) o.cells o.ψ
abbrev Lb(Y:Cx)(cE:je)(xs:List Str)(dv:D->Option (List D))(σ:St):Prop:=∀(ψ:List (bx×Obj))(s:dg)(H:Hp)(v:V)(u:bh)(d:D)(ds:List D),Inv Y ψ (nn xs σ) H s->RelV v u->RD Y.K H d v->dv d=aj ds ->
 dj (dz Y.prog Y.w) Y.A (assign cE Y.env u) (λ_ s'=>∃vs,cZ Y.K H ds vs/\Inv Y ψ (vs.map aj++σ) H s') Y.xe s
def TZ{K:Fg}(s:SR K H ρ σ):∀{ds:List D}{vs:List V},cZ K H ds vs->SR K H (ds.map aj++ρ) (vs.map aj++σ)
 |_,_,.nil=>s
 |_,_,.cons h r=>.some h (TZ s r)
private theorem aBN{prog:lg}{w:ji}{A:lu}{elt iter:je}{ifs:List je}{scope:zq}(J:Nat->dg->Prop)
  (turn:∀n s,J n s->dj (dz prog w) A (eW it) (λr s1=>match r with
   |none=>R (.ok .next) s1
   |some v=>dj (dz prog w) A (DH target it v) (λ_ Nu=>dj (dz prog w) A (assign target env v) (λ_ s2 =>
     dj (dz prog w) A (forIn ifs ak λc r=>if r=ak then do let ok ←isTrue c env (eval c env);pure (ForInStep.yield ok)else pure (ForInStep.yield r)) (λok s3 =>
      if ok=ak then dj (dz prog w) A (eval elt env) (λx s4 =>
         dj (dz prog w) A (call (.builtin "list.append") [acc,x]) (λ_ s5=>∃m,m<n/\J m s5) (notedBy (dz prog w) A env λe s'=>R (.error e) s') s4) (notedBy (dz prog w) A env λe s'=>R (.error e) s') s3
      else ∃m,m<n/\J m s3) (notedBy (dz prog w) A env λe s'=>R (.error e) s') s2) (notedBy (dz prog w) A env λe s'=>R (.error e) s') Nu) (notedBy (dz prog w) A env λe s'=>R (.error e) s') s1) (notedBy (dz prog w) A env λe s'=>R (.error e) s') s)
  (n:Nat)(h:J n s):k9 (dz prog w) A (.compLoop (.ListComp elt [⟨target,iter,ifs,0⟩] scope pos) 0 it acc env) R s:=by
 refine codeAny_loop rfl J (λn s hJ=>?_) n h;show dj _ A ((compTurn (.ListComp elt [⟨target,iter,ifs,0⟩] scope pos) 0 it acc env).onRaise (λz=>do noteFrame z env;theTreesLotGoes z)) _ _ s;refine wpAny_noted ?_;rw[compTurn_list];refine aq (wpAny_standAt (aq (qu (turn n s hJ) (λr s1 h1=>?_) λ_ _ z=>z)));cases r with
 |none=>exact cu h1
 |some v =>
  refine aq (qu h1 (λ_ Nu Xi=>?_) λ_ _ z=>z);refine aq (qu Xi (λ_ s2 h2=>aq (qu h2 (λok s3 h3=>?_) λ_ _ z=>z)) λ_ _ z=>z);cases ok with
  |false=>exact cu ⟨rfl,h3⟩
  |true=>exact aq (aq (qu h3 (λx s4 h4=>aq (qu h4 (λ_ s5 h5=>cu (cu ⟨rfl,h5⟩)) λ_ _ z=>z)) λ_ _ z=>z))
private theorem Yb(c:yA X xs scope)(hT:∀C s H fp ψ σ,Lb (yO X xs scope C s H fp ψ) cE xs dv σ)(Cg:∀d ds,dv d=aj ds->ds.length=xs.length)(hc:∀C s H fp ψ,C8 (yO X xs scope C s H fp ψ) ifs tc)(he:∀C s H fp ψ,dJ (yO X xs scope C s H fp ψ) elt te){s2:dg}{σ:St}{H H2:Hp}{ρ:aN}{G1:Gp}{R:jC}{it:bx}{fp:List bx}{tn:Nat->kh->Prop}{J:It}{src:Src}{RR:bh->bx->Result->dg->Prop}(sr:SR X.K H ρ σ)(I2:Inv X ψ σ H2 s2)(T:Turn X.calm X.tp X.prog X.w X.K cE J fp it tn)(pV:tn 0 s2.heap)(f2:∀b∈fp,km X ψ H2 b)(t1:Ts H H2)(g1:HR X.K H2 G1)(sj:ua X.K H2 src J)
  (hlen:src.items.length<dh)(body:∀p,G1 p=au->∃P:Nat->List D->Gp->Prop,P 0 [] (aM G1 p (.lst [])) /\
   (∀k ds G,k<=src.items.length->P k ds G->src.ok G/\G p=aj (.lst ds)/\ds.length<=k) /\
   (∀k d ds G,src.items[k]?=aj d->P k ds G->∃ys,dv d=aj ys/\tc (ys.map aj++ρ) G λb G2=>if b=ak then te (ys.map aj++ρ) G2 λy G3=>G3 p=aj (.lst ds)/\P (k+1) (ds++[y]) (aM G3 p (.lst (ds++[y])))else P (k+1) ds G2) /\
   ∀ds G,P src.items.length ds G->∃G0,Le G0 G/\R (.ref p) G0)
  (Xe:∀Da C s5 H' G0,Inv X ψ σ H' s5->Lc X ψ H' C s5.heap->Ts H H'->HR X.K H' G0->R (.ref Da) G0->RR (.ref Da) C (.ok .next) s5) :
  dj (dz X.prog X.w) X.A (newList []) (λacc kz=>dj (dz X.prog X.w) X.A (newFunctionEnv scope X.env.globals (vL X.env.cells scope.names []) [] X.env.qual au .none (aj X.env)) (λD7 kx =>
   k9 (dz X.prog X.w) X.A (.compStart (.ListComp elt [⟨cE,iter,ifs,0⟩] scope pos) 0 (.ref it) acc {D7 with scope:=relabel scope X.env}) (RR acc D7.locals) kx) X.xe kz) X.xe s2:=by
 refine qw ?_;have I3:=I2.Sn (its:=[]) (ys:=[]) (t':=s2.toks) .nil (by decide);have hD:H2 s2.heap.objs.size=au:=I2.fresh;have kf:=vJ I3;have gD:G1 s2.heap.objs.size=au:=jL g1 hD kf;let⟨P,p0,oj,BY,pend⟩:=body _ gD
 have gT:∀b∈fp,b<s2.heap.objs.size:=λb hb=>by
  let⟨o,e,_⟩:=T.obj 0 _ pV b hb;exact gk e
 have Nd:(s2.heap.push {cls:=.type "list",data:=.seq ([]:List bh).toArray}).objs.size=s2.heap.objs.size+1:=DF ..
 have ET:∀b∈fp,km X ψ (upd H2 s2.heap.objs.size (.lst [])) b/\b<(s2.heap.push {cls:=.type "list",data:=.seq ([]:List bh).toArray}).objs.size:=λb hb=>by
  let⟨f0,fr⟩:=f2 b hb;exact⟨⟨by rw[bD (jl (gT b hb))];exact f0,fr⟩,by rw[Nd];exact DQ (gT b hb)⟩
 refine wpAny_newFunctionEnv c.Jf (by intro y hy;simp at hy) (λbc nX nV=>?_) c.kind;dsimp only at nX nV ⊢;generalize Xg:s2.heap.push {cls:=.type "list",data:=.seq ([]:List bh).toArray}=h3 at *;generalize hDe:s2.heap.objs.size=Da at *;have S4:∀b o,h3.get? b=aj o->bc.get? b=aj o:=λb o e=>nV.extBut b o (jl (gk e)) (cj _ e)
 show k9 (dz X.prog X.w) X.A (Code.compStart (elt.ListComp [{target:=cE,iter:=iter,ifs:=ifs,is_async:=0}] scope pos) 0 (bh.ref it) (bh.ref Da) (compEnvC scope (vL X.env.cells scope.names []) h3.objs.size X.env))
  (RR (.ref Da) h3.objs.size) {s2 with heap:=bc,toks:=s2.toks+([]:List (Str×bh)).length}
 have J0:=aOB (tk:=s2.toks+([]:List (Str×bh)).length) I3 c rfl ET nX S4;have HJ:tn 0 bc:=T.keep _ _ _ pV λb hb o e=>S4 b o (by rw[←Xg];exact cj _ e);have g0:HR X.K (upd H2 Da (.lst [])) (aM G1 Da (.lst [])):=g1.put (u:=.lst []) hD ⟨[],aL,.nil⟩;have V9:Ts H2 (upd H2 Da (.lst [])):=.same (bM hD)
 have loop:∀kx:dg,Inv (yO X xs scope h3.objs.size {s2 with heap:=h3,toks:=s2.toks} (upd H2 Da (.lst [])) fp ψ) [] (nn xs σ) (upd H2 Da (.lst [])) kx->tn 0 kx.heap ->
   k9 (dz X.prog X.w) X.A (.compLoop (.ListComp elt [⟨cE,iter,ifs,0⟩] scope pos) 0 (.ref it) (.ref Da) (compEnvC scope (vL X.env.cells scope.names []) h3.objs.size X.env)) (RR (.ref Da) h3.objs.size) kx:=by
  intro kx J4 Wc
  refine aBN (λn s'=>∃i ds H' G',Inv (yO X xs scope h3.objs.size {s2 with heap:=h3,toks:=s2.toks} (upd H2 Da (.lst [])) fp ψ) [] (nn xs σ) H' s'/\tn i s'.heap/\(∀b∈fp,H' b=au)/\HR X.K H' G'/\P i ds G'/\i<=src.items.length/\n=src.items.length - i/\Ts H2 H') (λn s' hI=>?_) src.items.length
   ⟨0,[],_,_,J4,Wc,λb hb=>(ET b hb).1.1,g0,p0,xu _,by simp,V9⟩
  let⟨i,ds,H',G',J,st,fr,g',p,kL,rfl,ts⟩:=hI;let⟨ok,hDl,Ob⟩:=oj i ds G' kL p;let⟨Wh,aYJ,aU9⟩:=sj H' G' ts g' ok
  have IK:∀{H':Hp},(∀b∈fp,H' b=au)->∀b∈fp,km (yO X xs scope h3.objs.size {s2 with heap:=h3,toks:=s2.toks} (upd H2 Da (.lst [])) fp ψ) [] H' b:=λhn b hb=>by
   let⟨⟨f0,f1,Xp,f3,f4,f5⟩,lt⟩:=ET b hb;refine⟨hn b hb,jl lt,λhs=>?_,.inl hb,λy d e=>f4 y d (oA e λ_ h=>by simp at h),λp' Iw=>f5 p' (by simpa using Iw)⟩;rcases JC I3 hs with z|z
   .exact f1 z
   .exact Xp z
  by_cases iF:i<src.items.length
  .refine qu (T.item (yO X xs scope h3.objs.size {s2 with heap:=h3,toks:=s2.toks} (upd H2 Da (.lst [])) fp ψ) rfl rfl rfl (λh=>h) (λ_ h=>h) i [] s' (nn xs σ) H' (λ_ _=>False) J (IK fr) st (Wh i iF)) ?_ λ_ _ z=>z.elim;rintro r s5 ⟨u,hr,h5⟩;subst hr
   obtain⟨d0,ys,W7,ey,aYL⟩:∃d ys,src.items[i]?=aj d/\dv d=aj ys/\tc (ys.map aj++ρ) G' λb G2=>if b=ak then te (ys.map aj++ρ) G2 λy G3=>G3 Da=aj (.lst ds)/\P (i+1) (ds++[y]) (aM G3 Da (.lst (ds++[y])))else P (i+1) ds G2:=by
    have hd:src.items[i]?=aj src.items[i]:=jd iF;let⟨ys,e,z⟩:=BY i _ ds G' hd p;exact⟨_,ys,hd,e,z⟩
   show dj _ _ (DH cE (.ref it) u) _ _ s5;refine qu h5 ?_ λ_ _ z=>z.elim;rintro _ s6 ⟨vx,H6,I6,r6,y6,HH,Xn⟩;let⟨sm,d,hd,rd⟩:=aYJ i vx H6 iF y6;have g':=g'.same sm;have ts:=ts.trans (.same sm);obtain rfl:d0=d:=jt.inj (W7.symm.trans hd);have I6':=I6.pinned (IK Xn) (T.obj _ _ HH);refine qu (hT _ _ _ _ _ _ _ s6 H6 vx u _ _ I6' r6 rd ey) ?_ λ_ _ z=>z.elim;rintro _ s7 ⟨vs,Nw,I7⟩;have lv:vs.length=xs.length:=by rw[←Nw.length];exact Cg _ _ ey
   have TY:∀{qc:dg}{M7:St}{DX:Hp},Inv (yO X xs scope h3.objs.size {s2 with heap:=h3,toks:=s2.toks} (upd H2 Da (.lst [])) fp ψ) ([]++Bg fp s6.heap) M7 DX qc->tn (i+1) qc.heap/\∀b∈fp,DX b=au:=λHA=>by
    refine⟨T.keep _ _ _ HH λb hb o e=>(HA.pin (b,o) (uo _ (uo _ (Ht hb e)))).1,λb hb=>?_⟩;let⟨o,e,_⟩:=T.obj _ _ HH b hb;exact(HA.pin (b,o) (uo _ (uo _ (Ht hb e)))).2.1
   have down:∀{qc:dg}{DX:Hp},Inv (yO X xs scope h3.objs.size {s2 with heap:=h3,toks:=s2.toks} (upd H2 Da (.lst [])) fp ψ) ([]++Bg fp s6.heap) (vs.map aj++σ) DX qc->Inv (yO X xs scope h3.objs.size {s2 with heap:=h3,toks:=s2.toks} (upd H2 Da (.lst [])) fp ψ) [] (nn xs σ) DX qc:=λHA =>
    HA.Gx.weak (by simp[nn,lv]) λj v e=>by
     let⟨j',rfl,e'⟩:=T1 e;rw[←lv,show vs.length=(vs.map aj).length by simp,Pe];exact e'
   have Nr:SR X.K H6 (ys.map aj++ρ) (vs.map aj++σ):=TZ (sr.mono (t1.trans ts)) Nw
   refine qu (hc _ _ _ _ _ _ s7 (vs.map aj++σ) H6 (λb H8=>Ts H6 H8/\∃G8,HR X.K H8 G8/\(if b=ak then te (ys.map aj++ρ) G8 λy G3=>G3 Da=aj (.lst ds)/\P (i+1) (ds++[y]) (aM G3 Da (.lst (ds++[y])))else P (i+1) ds G8)) I7
    ⟨ys.map aj++ρ,G',_,Nr,g',aYL,λb H8 G8 t8 g8 q8=>⟨t8,G8,g8,q8⟩⟩) (λb s8 ⟨H8,I8,t8,G8,g8,q8⟩=>?_) λ_ _ z=>z.elim
   cases b with
   |false =>
    rw[if_neg (by decide)];have HU:P (i+1) ds G8:=by simpa using q8
    let⟨a1,a2⟩:=TY I8;exact⟨src.items.length - (i+1),⋯,i+1,ds,H8,G8,down I8,a1,a2,g8,HU,iF,rfl,ts.trans t8⟩
   |true =>
    rw[if_pos rfl];have HU:te (ys.map aj++ρ) G8 λy G3=>G3 Da=aj (.lst ds)/\P (i+1) (ds++[y]) (aM G3 Da (.lst (ds++[y]))):=by simpa using q8
    refine qu (he _ _ _ _ _ _ s8 (vs.map aj++σ) H8 (λvy H9=>Ts H8 H9/\∃y G9,RD X.K H9 y vy/\HR X.K H9 G9/\G9 Da=aj (.lst ds)/\P (i+1) (ds++[y]) (aM G9 Da (.lst (ds++[y])))) I8 ⟨ys.map aj++ρ,G8,_,Nr.mono t8,g8,HU,λvy H9 y G9 t9 r9 g9 q9=>⟨t9,y,G9,r9,g9,q9⟩⟩) ?_ λ_ _ z=>z.elim;rintro uy s9 ⟨vy,H9,I9,ry,t9,y,G9,Wi,g9,Xh,q9⟩;let⟨ws,Og,rws⟩:=g9 Da _ Xh;have aUB:ws.length<dh:=by rw[←rws.length];omega
    refine qu (Q1 (X:=yO X xs scope h3.objs.size {s2 with heap:=h3,toks:=s2.toks} (upd H2 Da (.lst [])) fp ψ) _ s9 (vs.map aj++σ) H9 (.ref Da) [vy] (.ref Da) [uy] (λ_ VX=>VX=upd H9 Da (.lst (ws++[vy]))) I9 rfl (.cons ry .nil) ⟨Da,ws,vy,rfl,rfl,Og,aUB,rfl⟩) ?_ λ_ _ z=>z.elim;rintro _ Em ⟨_,VX,pM,_,AI⟩;subst AI;let⟨a1,a2⟩:=TY pM;have tt:Ts H9 (upd H9 Da (.lst (ws++[vy]))):=.turn Og (λ_ z=>nomatch z) (λ_ _ z=>nomatch z);exact⟨src.items.length - (i+1),⋯,i+1,ds++[y],_,_,down pM,a1,a2,g9.turn (u:=.lst (ds++[y])) tt ⟨_,aL,(rws.append (.cons Wi .nil)).mono tt⟩,q9,iF,rfl,((ts.trans t8).trans t9).trans tt⟩
  .have Xv:i=src.items.length:=by omega
   subst Xv;refine qu (T.done (yO X xs scope h3.objs.size {s2 with heap:=h3,toks:=s2.toks} (upd H2 Da (.lst [])) fp ψ) rfl rfl rfl (λh=>h) (λ_ h=>h) _ [] s' (nn xs σ) H' (λ_ _=>False) J (IK fr) st aU9) ?_ λ_ _ z=>z.elim;rintro r s5 ⟨hr,J5⟩;subst hr;let⟨m5,WU,_⟩:=id J5.loc;let⟨G0,l0,q0⟩:=pend ds G' p;have I5:Inv X ψ σ H' s5:=aHO (tk:=s5.toks) I3 rfl ET J5 (jr.refl _ _);refine Xe Da _ s5 H' G0 I5 ⟨⟨m5,WU⟩,J5.free,zb I3.lt,I3.sz,λy d e z=>?_,λp hp z=>?_⟩ (t1.trans ts) (g'.le l0) q0
   .obtain⟨w,o,ho,_⟩:=I3.cell y d e;rw[z]at ho;exact absurd (gk ho) (vg _)
   .have:=(I3.pin p hp).1;rw[z]at this;exact absurd (gk this) (vg _)
 exact codeAny_compStart_list (loop _ J0 HJ) (T.self X.A 0 _ _ _ HJ (loop _ J0 HJ))
abbrev JB(dv:D->Option (List D))(ti:ez)(tc:de)(te:d7):d7:=λρ G R=>ti ρ G λsrc G1=>src.items.length<dh/\∀p,G1 p=au->∃P:Nat->List D->Gp->Prop,P 0 [] (aM G1 p (.lst [])) /\
 (∀k ds G,k<=src.items.length->P k ds G->src.ok G/\G p=aj (.lst ds)/\ds.length<=k) /\
 (∀k d ds G,src.items[k]?=aj d->P k ds G->∃ys,dv d=aj ys/\tc (ys.map aj++ρ) G λb G2=>if b=ak then te (ys.map aj++ρ) G2 λy G3=>G3 p=aj (.lst ds)/\P (k+1) (ds++[y]) (aM G3 p (.lst (ds++[y])))else P (k+1) ds G2) /\
 ∀ds G,P src.items.length ds G->∃G0,Le G0 G/\R (.ref p) G0
abbrev x6(d:D):Option (List D):=some [d]
@[simp]def FD(ti:ez)(tc:de)(te:d7):d7:=JB x6 ti tc te
def aBP(d:D)(ds:List D)(h:x6 d=aj ds):ds.length=[x].length:=by
 unfold x6 at h;cases h;rfl
def TX(c:yA X xs scope)(dy:X.N.Nodup):(xs++X.N).Nodup:=zj.mpr ⟨c.nd,dy,λa ha b hb e=>c.out a ha (e ▸ hb)⟩
def aOE(c:yA X [x] scope)(dy:X.N.Nodup):Lb (yO X [x] scope C s H fp ψ) (.Name x px) [x] x6 σ:=by
 intro y4 s' H' v u d ds I r rd e;unfold x6 at e;cases e;have Wr:PG (yO X [x] scope C s H fp ψ) (.Name x px) (Fp 0):=JK (TX c dy) rfl (.inl (lookup_relabel_local (c.var x (by simp)))) (.inr (lookup_relabel_local (c.var x (by simp))));refine qu (Wr y4 s' (nn [x] σ) H' v u (λav H2=>av=[v].map aj++σ/\H2=H') I r ⟨rfl,rfl⟩) ?_ λ_ _ z=>z;rintro _ s2 ⟨bb,H2,I2,e2,e3⟩;subst e2;subst e3;exact⟨[v],.cons rd .nil,I2⟩
def aHR(c:yA X xs scope)(hT:∀C s H fp ψ σ,Lb (yO X xs scope C s H fp ψ) cE xs dv σ)(Cg:∀d ds,dv d=aj ds->ds.length=xs.length)(hi:BM X cE iter ti)(hc:∀C s H fp ψ,C8 (yO X xs scope C s H fp ψ) ifs tc)(he:∀C s H fp ψ,dJ (yO X xs scope C s H fp ψ) elt te)
  (hs:∀y,DP iter X.env y=pure y):dJ X (.ListComp elt [⟨cE,iter,ifs,0⟩] scope pos) (JB dv ti tc te):=by
 intro ψ s σ H Q I h;let⟨ρ,G,R,sr,g,q,kk⟩:=h;rw[eval_ListComp];refine wpAny_comprehension_free (use:=none) rfl hs (aaC λy hy hf=>I.ok.has y.1 (c.frees y hy hf)) c.kind c.locs ?_
 refine fW (hi ψ s σ H (λJ H1=>Ts H H1/\∃src G1,HR X.K H1 G1/\ua X.K H1 src J/\(src.items.length<dh/\∀p,G1 p=au->∃P:Nat->List D->Gp->Prop,P 0 [] (aM G1 p (.lst [])) /\
   (∀k ds G,k<=src.items.length->P k ds G->src.ok G/\G p=aj (.lst ds)/\ds.length<=k) /\
   (∀k d ds G,src.items[k]?=aj d->P k ds G->∃ys,dv d=aj ys/\tc (ys.map aj++ρ) G λb G2=>if b=ak then te (ys.map aj++ρ) G2 λy G3=>G3 p=aj (.lst ds)/\P (k+1) (ds++[y]) (aM G3 p (.lst (ds++[y])))else P (k+1) ds G2) /\
   ∀ds G,P src.items.length ds G->∃G0,Le G0 G/\R (.ref p) G0)) I ⟨ρ,G,_,sr,g,q,λsrc J H' G' t1 g1 sj q1=>⟨t1,src,G',g1,sj,q1⟩⟩) λv s1 h1=>fW h1 λIh s2 hz=>?_
 let⟨it,fp,tn,J,H2,e,I2,T,pV,f2,t1,src,G1,g1,sj,hlen,body⟩:=hz;subst e
 exact Yb (RR:=λacc C=>compPost (dz X.prog X.w) X.A X.xe au (EP X ψ σ Q) acc C) c hT Cg hc he sr I2 T pV f2 t1 g1 sj hlen body λDa C s5 H' G0 I5 o ts g0 q0=>by
  let⟨m,hn⟩:=o.ns;exact⟨m,hn,λh' qo=>⟨.ref Da,H',o.turn I5 qo,rfl,kk _ H' _ G0 ts (.ref Da) g0 q0⟩⟩
end
end
variable{ds:List D}{ti:ez}
section
@[simp]def i0:=D->aN->(aN->Prop)->Prop
abbrev V6(K:Fg)(t:i0):TG:=λv σ H Q=>∃ρ d R,SR K H ρ σ/\RD K H d v/\t d ρ R/\∀a9 av,SR K H a9 av->R a9->Q av H
@[simp]def DU(X:Cx)(tg:je)(t:i0):Prop:=PG X tg (V6 X.K t)
abbrev sA(i:Nat):i0:=λd ρ Q=>Q (iS ρ i d)
abbrev uS:aN->List Nat->List D->aN
 |ρ,i::is,d::ds=>uS (iS ρ i d) is ds
 |ρ,_,_=>ρ
abbrev A5(is:List Nat):i0:=λd ρ Q=>match d with
 |.tup ds=>ds.length=is.length/\Q (uS ρ is ds)
 |_=>False
abbrev LL:St->List Nat->List V->St
 |σ,i::is,v::vs=>LL (σ.set i (aj v)) is vs
 |σ,_,_=>σ
def SR.sets{K:Fg}:∀{is:List Nat}{ds:List D}{vs:List V}{ρ:aN}{σ:St},cZ K H ds vs->SR K H ρ σ->SR K H (uS ρ is ds) (LL σ is vs)
 |[],_,_,_,_,_,s=>s
 |_::_,_,_,_,_,.nil,s=>s
 |i::is,_,_,_,_,.cons h r,s=>SR.sets (is:=is) r (s.set h i)
section
variable{X:Cx}
def PG.imp{t:TG}(h:PG X e t)(k:∀v σ H Q,t' v σ H Q->t v σ H Q):PG X e t':=λψ s σ H v u Q I r q=>h ψ s σ H v u Q I r (k _ _ _ _ q)
def aOF{i:Nat}{x:Str}(hN:X.N.Nodup)(hi:X.N[i]?=aj x)(hx:Loc X.env.scope x)(hf:X.fn x=ak∨X.env.scope.names.lookup x=aj .local):DU X (.Name x pos) (sA i) :=
 PG.imp (JK hN hi hx hf) λv σ H Q h=>by
 let⟨ρ,d,R,s,r,q,k⟩:=h;exact k _ _ (s.set r i) q
structure La(X:Cx)(e:je)(i:Nat):Prop where
 ex:∃x pos,e=.Name x pos/\X.N[i]?=aj x/\Loc X.env.scope x/\(X.fn x=ak∨X.env.scope.names.lookup x=aj .local)
abbrev K9:List Nat->zw
 |[]=>Su
 |i::is=>Ta (Fp i) (K9 is)
def Pd:∀{is:List Nat}{vs:List V}{σ:St}{H:Hp}{Q:St->Hp->Prop},vs.length=is.length->Q (LL σ is vs) H->K9 is vs σ H Q
 |[],[],_,_,_,_,q=>⟨rfl,q⟩
 |[],_::_,_,_,_,h,_=>by simp at h
 |_::_,[],_,_,_,h,_=>by simp at h
 |i::is,v::vs,σ,H,Q,h,q=>⟨v,vs,rfl,Pd (is:=is) (by simpa using h) q⟩
def QV(hN:X.N.Nodup):∀{es:List je}{is:List Nat},dP (La X) es is->DT X es (K9 is)/\(rX es X.env).length=is.length/\(rX es X.env).findIdx? (·.1)=au
 |_,_,.nil=>⟨aGL,rfl,rfl⟩
 |_,_,.cons (a:=e) (b:=i) h r=>by
  let⟨x,pos,rfl,h1,h2,h3⟩:=h.ex;let⟨a1,a2,a3⟩:=QV hN r;refine⟨aAD (JK hN h1 h2 h3) a1 rfl,?_,?_⟩
  .show(rX _ X.env).length+1=_;rw[a2];rfl
  .show((ao,assign (.Name x pos) X.env)::rX _ X.env).findIdx? (·.1)=au;rw[List.findIdx?_cons];simp[a3]
def aUD{k:Nat}(hN:X.N.Nodup)(hc:X.calm=ak)(h:dP (La X) es is):DU X (.Tuple es k pos) (A5 is):=by
 let⟨a1,a2,a3⟩:=QV hN h;refine PG.imp (aMI hc a1 a2 a3) λv σ H Q h=>?_;let⟨ρ,d,R,s,r,q,k⟩:=h;cases r with
 |@tup a vs ds hq rv =>
  have q':ds.length=is.length/\R (uS ρ is ds):=q;exact⟨a,vs,rfl,hq,by rw[←rv.length];exact q'.1,Pd (by rw[←rv.length];exact q'.1) (k _ _ (SR.sets rv s) q'.2)⟩
 |_=>exact False.elim q
abbrev rf(K:Fg)(src:Src)(J:It):Prop:=∀H2 G2,HR K H2 G2->src.ok G2 ->
 (∀i,i<src.items.length->J.go i H2)/\(∀i v H',i<src.items.length->J.Al i H2 v H'->aE H2 H'/\∃d,src.items[i]?=aj d/\RD K H' d v)/\J.stop src.items.length H2
abbrev aYO(K:Fg)(t:ez):TI:=λσ H Q=>∃ρ G R,SR K H ρ σ/\HR K H G/\t ρ G R/\∀src J H' G',Ts H H'->HR K H' G'->rf K src J->R src G'->Q J H'
@[simp]def BL(X:Cx)(tg iter:je)(t:ez):Prop:=PI X tg iter (aYO X.K t)
abbrev x5(te:d7):ez:=λρ G R=>te ρ G λx G1=>match x with
 |.ref p=>(match cO G1 p with
  |some xs=>R (.lst p xs) G1
  |none=>False)
 |.str z=>R (.dq (signs z)) G1
 |.tup xs=>xs.all fq=ak/\∀a,(G1 a=au∨G1 a=aj (.dt xs))->R (.dt a xs) (aM G1 a (.dt xs))
 |_=>False
def aUE{K:Fg}{d:D}{v:V}(h:fq d=ak)(r:RD K H d v)(r':RD K H d' v):d'=d:=by
 cases r with
 |ae=>cases r';rfl
 |bl b=>cases r';rfl
 |int i=>cases r';rfl
 |str x=>cases r';rfl
 |_=>exact Bool.noConfusion (show ao=ak from h)
def TV{K:Fg}:∀{ds AJ:List D}{vs:List V},ds.all fq=ak->cZ K H ds vs->cZ K H AJ vs->AJ=ds
 |_,_,_,_,.nil,.nil=>rfl
 |d::ds,d'::AJ,_,h,.cons r rr,.cons r' Wm=>by
  rw[zx,cg]at h;rw[aUE h.1 r r',TV h.2 rr Wm]
def aBT{o:GO}(I:Inv X ψ σ H s)(g:HR X.K H G)(hq:br X.K H a xs)(e:G a=aj o):∃ds,o=.dt ds/\cZ X.K H ds xs:=by
 have no:∀u,H a=aj u->(∀ys,u≠.tup ys)->(∀ob ys,u≠.lH ob (.tup ys))->False:=λu hu h1 h2=>by
  rcases hq with(q|⟨ob,q⟩)|⟨ob,_,_,q,_⟩
  .rw[hu]at q;exact h1 _ (jt.inj q)
  .rw[hu]at q;exact h2 _ _ (jt.inj q)
  .have:=vJ I a ob q;rw[hu]at this;cases this
 have z:=g a o e;cases o with
 |lst ds=>let⟨_,q,_⟩:=z;exact(no _ q (λ_ w=>nomatch w) (λ_ _ w=>nomatch w)).elim
 |fc ds =>
  let⟨_,q,_⟩:=z;let⟨_,_,⟨o1,n1,e1,c1,_⟩,_⟩:=I.list q;let⟨_,_,⟨o2,e2,c2,_⟩,_⟩:=I.tuple hq;rw[e1]at e2;cases e2;rw[c1]at c2;exact absurd c2 (by decide)
 |cX t kvs=>rcases z with⟨_,_,q,_⟩|⟨_,_,q,_⟩<;>exact(no _ q (λ_ w=>nomatch w) (λ_ _ w=>nomatch w)).elim
 |ins C fs=>let⟨_,_,q,_⟩:=z;exact(no _ q (λ_ w=>nomatch w) (λ_ _ w=>nomatch w)).elim
 |ej C=>let⟨_,_,q,_⟩:=z;exact(no _ q (λ_ w=>nomatch w) (λ_ _ w=>nomatch w)).elim
 |B3 kvs=>let⟨_,q,e⟩:=z;exact(no _ q e.no.1 λ_ _ w=>e.no.2.1 _ _ w).elim
 |Aq ob kvs=>let⟨_,q,e⟩:=z;exact(no _ q (λ_ w=>nomatch w) λ_ _ w=>e.no.1 _ (HO.lH.inj w).2).elim
 |eA ob t kvs=>rcases z with⟨_,_,q,_⟩|⟨_,_,q,_⟩<;>exact(no _ q (λ_ w=>nomatch w) (λ_ _ w=>nomatch w)).elim
 |dt ds=>let⟨ys,q,r⟩:=z;exact⟨ds,rfl,by rw[←I.KI q hq];exact r⟩
def aHS(I:Inv X ψ σ H s)(g:HR X.K H G)(hq:br X.K H a xs)(rv:cZ X.K H ds xs)(sc:ds.all fq=ak) :
  (G a=au∨G a=aj (.dt ds))/\HR X.K H (aM G a (.dt ds)):=by
 refine⟨?_,λb o e=>?_⟩
 .cases e:G a with
  |none=>exact .inl rfl
  |some o=>let⟨AJ,rfl,r⟩:=aBT I g hq e;exact .inr (by rw[TV sc rv r])
 .by_cases hb:b=a
  .subst hb;rw[aJ]at e;cases e;exact⟨xs,hq,rv⟩
  .rw[aR hb]at e;exact g b o e
def aBU{K:Fg}:rf K (.dt p xs) (M4 K p):=λH2 G2 g ok=>by
 let⟨vs,hq,rv⟩:=g p _ ok;exact Qk hq rv H2 G2 (.refl _) g trivial
def X9{K:Fg}:rf K (.lst p xs) (M5 K p):=λH2 G2 g ok=>QW (H1:=H2) H2 G2 (.refl _) g ok
def Qi{K:Fg}:rf K (.dq (signs z)) (Hz z):=λH2 G2 g ok=>Km (H1:=H2) H2 G2 (.refl _) g ok
def aBV{K:Fg}:rf K (.dq ((ou n).map λ(i:Nat)=>.int (lo+(i:Int)))) (DW lo n):=λH2 G2 g ok=>Qj (H1:=H2) H2 G2 (.refl _) g ok
def aYP{t:ez}(h:BL X tg e t):BM X tg e t:=PI.imp h λσ H Q ⟨ρ,G,R,sr,g,q,k⟩=>⟨ρ,G,R,sr,g,q,λsrc J H' G' t1 g1 sS r=>k src J H' G' t1 g1 (λH2 G2 _ g2 ok=>sS H2 G2 g2 ok) r⟩
private theorem aOI{l:je}(hl:dJ X l te):BL X tg l (x5 te):=by
 intro ψ s σ H R I h;let⟨ρ,G,R3,sr,g,q,k⟩:=h
 refine fW (hl ψ s σ H (λv H1=>Ts H H1/\∃x G1,RD X.K H1 x v/\HR X.K H1 G1/\(match x with
  |.ref p=>(match cO G1 p with
   |some xs=>R3 (.lst p xs) G1
   |none=>False)
  |.str z=>R3 (.dq (signs z)) G1
  |.tup xs=>xs.all fq=ak/\∀a,(G1 a=au∨G1 a=aj (.dt xs))->R3 (.dt a xs) (aM G1 a (.dt xs))
  |_=>False)) I ⟨ρ,G,_,sr,g,q,λv H1 x G1 t1 r g1 q1=>⟨t1,x,G1,r,g1,q1⟩⟩) λv s1 ⟨x,H1,I1,r1,t1,d,G1,rd,g1,q1⟩=>?_
 cases rd with
 |ref a =>
  have xf:(match cO G1 a with
   |some xs=>R3 (.lst a xs) G1
   |none=>False):=q1
  split at xf
  .rename_i xs e;cases r1;let⟨vs,hq,rv⟩:=dZ g1 e;let⟨its,og,p,hz⟩:=I1.list hq;refine GN p.isList ?_;refine⟨s1.heap.objs.size,[s1.heap.objs.size],_,_,H1,rfl,I1.kept (t':=s1.toks) λb o e=>cj _ e,Q8 a _,⟨_,ig _ rfl,rfl,rfl⟩,λb hb=>?_,k _ _ H1 G1 t1 g1 X9 xf⟩;have e:b=s1.heap.objs.size:=by simpa using hb
   subst e;exact I1.mf (fj _) (I1.aa.fresh (fj _))
  .exact xf.elim
 |str z =>
  let⟨t,rfl⟩:=r1;cases ha:z.cps.all (· <128)
  .refine wpAny_pyIter_wide ha ?_;refine⟨s1.heap.objs.size,[s1.heap.objs.size],_,_,H1,rfl,I1.kept (t':=s1.toks) λb o e=>cj _ e,QX _ z t,?_,λb hb=>?_,k _ _ H1 G1 t1 g1 Qi q1⟩
   .rw[Nat.zero_min];exact⟨_,ig _ rfl,rfl,rfl⟩
   .have e:b=s1.heap.objs.size:=by simpa using hb
    subst e;exact I1.mf (fj _) (I1.aa.fresh (fj _))
  .refine wpAny_pyIter_ascii ha ?_;refine⟨s1.heap.objs.size,[s1.heap.objs.size],_,_,H1,rfl,I1.kept (t':=s1.toks) λb o e=>cj _ e,QY _ z t,?_,λb hb=>?_,k _ _ H1 G1 t1 g1 Qi q1⟩
   .rw[Nat.zero_min];exact⟨_,ig _ rfl,rfl,rfl⟩
   .have e:b=s1.heap.objs.size:=by simpa using hb
    subst e;exact I1.mf (fj _) (I1.aa.fresh (fj _))
 |@tup a vs xs hq rv =>
  cases r1;let⟨its,og,p,hz⟩:=I1.tuple hq;let⟨sc,q1⟩:=q1;let⟨hG,g2⟩:=aHS I1 g1 hq rv sc;refine wpAny_pyIter_tuple (show s1.heap.IsTuple a its.toArray from p) ?_;refine⟨s1.heap.objs.size,[s1.heap.objs.size],_,_,H1,rfl,I1.kept (t':=s1.toks) λb o e=>cj _ e,RE a _,⟨_,ig _ rfl,rfl,rfl⟩,λb hb=>?_,k _ _ H1 _ t1 g2 aBU (q1 a hG)⟩;have e:b=s1.heap.objs.size:=by simpa using hb
  subst e;exact I1.mf (fj _) (I1.aa.fresh (fj _))
 |_=>exact q1.elim
def aHT(hg:Gl X "range")(hm:X.mg "range"=au)(ha:eM X [a] ta)(hs:jg [a] X.env=[(ao,eval a X.env)]):BL X tg (.Call (.Name "range" p) [a] [] pos) (yB ta) :=
 PI.imp (Q7 hg hm ha hs) λσ H Q h=>by
 let⟨ρ,G,R,s,g,q,k⟩:=h;refine⟨ρ,G,_,s,g,q,λvs H1 ds G1 t1 r g1 h1=>?_⟩;cases r with
 |nil=>exact h1.elim
 |cons r rr =>
  cases rr with
  |cons _ _=>cases r<;>exact False.elim h1
  |nil =>
   cases r with
   |int j =>
    let⟨l1,l2,h1⟩:=h1;refine⟨j,rfl,l1,l2,k _ _ H1 G1 t1 g1 ?_ h1⟩;unfold o5;rw[show(j - 0).toNat=j.toNat by omega];exact aBV
   |_=>exact False.elim h1
abbrev sv(ti:ez)(tg:i0)(tb:bB):bB:=λF ρ G=>ti ρ G λsrc G1=>∃P:Nat->aN->Gp->Prop,P 0 ρ G1/\(∀k ρ G,k<=src.items.length->P k ρ G->src.ok G) /\
 (∀k d ρ G,src.items[k]?=aj d->P k ρ G->tg d ρ λb8=>tb {F with nx:=P (k+1),ct:=P (k+1),bk:=F.nx} b8 G)/\∀ρ G,P src.items.length ρ G->F.nx ρ G
def aOJ{tg:i0}(hp:vS (dz X.prog X.w) X.A X.env X.xe)(hi:BL X cE iter ti)(hg:DU X cE tg)(hb:hU X body tb)
  (hs:∀x,DP iter X.env x=pure x):eL X (.For cE iter body [] pos) (sv ti tg tb):=PS.imp (Ug hp hi hg hb hs) λF σ H h=>by
 let⟨ρ,G,E,s,g,q,d⟩:=h
 refine⟨ρ,G,λsrc G1=>∃P:Nat->aN->Gp->Prop,P 0 ρ G1/\(∀k ρ G,k<=src.items.length->P k ρ G->src.ok G) /\
  (∀k d ρ G,src.items[k]?=aj d->P k ρ G->tg d ρ λb8=>tb {E with nx:=P (k+1),ct:=P (k+1),bk:=E.nx} b8 G)/\∀ρ G,P src.items.length ρ G->E.nx ρ G,s,g,q,λsrc J H1 G1 t1 g1 sj ⟨P,p0,oj,BY,pend⟩=>?_⟩
 refine Qs (K:=X.K) (n:=src.items.length) (λk bb H2=>∃a9 G',SR X.K H2 a9 bb/\HR X.K H2 G'/\P k a9 G') ⟨ρ,G1,s.mono t1,g1,p0⟩ (λbb H2 ⟨a9,G',s2,g2,p⟩=>?_) (λk bb H2 hk ⟨a9,G',s2,g2,p⟩=>?_) (λk y bb H2 H3 hk ⟨a9,G',s2,g2,p⟩ hy=>?_)
  (λbb H2 ⟨a9,G',s2,g2,p⟩=>d.nx a9 G' bb H2 s2 g2 (pend a9 G' p))
 .exact(sj H2 G' g2 (oj _ a9 G' (fj _) p)).2.2
 .exact(sj H2 G' g2 (oj _ a9 G' (wk hk) p)).1 k hk
 .obtain⟨sm,dk,e1,e2⟩:=(sj H2 G' g2 (oj _ a9 G' (wk hk) p)).2.1 k y H3 hk hy;refine⟨a9,dk,_,s2.mono (.same sm),e2,BY k dk a9 G' e1 p,λb8 jb s3 q3=>?_⟩;exact⟨b8,G',_,s3,g2.same sm,q3,⟨λpS G4 Ei H4 s4 g4 q4=>⟨pS,G4,s4,g4,q4⟩,d.rt,d.nx,λpS G4 Ei H4 s4 g4 q4=>⟨pS,G4,s4,g4,q4⟩⟩⟩
end
end
section
abbrev AW:D->Bool
 |.bl _=>ak
 |_=>ao
abbrev AV:D->Bool
 |.bl b=>b
 |_=>ao
abbrev A4:List D->Gp->jC->Prop:=λxs G R=>match xs with
 |[.ref q]=>(match cO G q with
  |some ds=>ds.all AW=ak/\R (.bl (ds.all AV)) G
  |none=>False)
 |_=>False
abbrev An(ds:List D)(i:Nat):Bool:=match ds[i]? with
 |some d=>AV d
 |none=>ao
def range_all(ds:List D):(ou ds.length).all (An ds)=ds.all AV:=by
 rw[Bool.eq_iff_iff,jq,jq];constructor
 .intro h d hd;let⟨i,hi⟩:=List.getElem?_of_mem hd;have:=h i (xr.mpr (iz.mp hi).1);simpa[An,hi]using this
 .intro h i hi;have kL:=xr.mp hi;unfold An;rw[jd kL];exact h _ (wo kL)
section
variable{X:Cx}
def X8{K:Fg}(r:cZ K H ds vs)(v:Vals vs us)(hb:ds.all AW=ak){i:Nat}(e:us[i]?=aj u):u=.bool (An ds i):=by
 let⟨d,x,h1,h2,h3⟩:=Vals.LM r v e;have hd:AW d=ak:=jq.mp hb d (lq h1);unfold An;rw[h1];cases h2 with
 |bl b=>exact h3
 |_=>cases hd
private theorem aUF(hc:X.calm=ak):eV X (.builtin "all") A4:=by
 intro ψ s σ H xs vs us G R Q I rx rv g q k;cases rx with
 |nil=>exact False.elim q
 |cons r1 rr =>
  cases rr with
  |cons _ _=>cases r1<;>exact False.elim q
  |nil =>
   cases r1 with
   |ref a =>
    let⟨u,rfl,ru⟩:=vals1 rv;cases ru
    have q':(match cO G a with
     |some ds=>ds.all AW=ak/\R (.bl (ds.all AV)) G
     |none=>False):=q
    split at q'
    .rename_i ds e1;let⟨ys,hq,r1⟩:=dZ g e1;let⟨its,og,p,hz⟩:=I.list hq;refine call_all_walk (GN p.isList ?_);have ha:a<s.heap.objs.size:=by let⟨o,n,e,_⟩:=p;exact gk e
     have fresh:∀b o,s.heap.get? b=aj o->b∉[s.heap.objs.size]:=λb o e z=>by
      have z':b=s.heap.objs.size:=by simpa using z
      exact absurd (gk e) (by rw[z'];exact vg _)
     have hh:X.A.in1.handled=au:=I.ok.hd hc;refine⟨s.heap.objs.size,_,_,_,_,_,An ds,rfl,Walks.list (prog:=X.prog) (w:=X.w) hh _ a (jl ha) its.toArray,⟨⟨_,ig _ rfl,rfl,rfl⟩,p.isList.at λo e=>cj _ e⟩,?_,λh' tk kk=>?_⟩
     .intro i v s' Q' E' hv Xf;have:=X8 r1 og q'.1 (i:=i) (u:=v) (by simpa using hv);subst this;exact yd Xf
     .have el:its.toArray.size=ds.length:=by rw[gV,←og.length,←r1.length]
      rw[el,range_all];exact⟨.bl _,H,I.kept λb o e=>kk b o (fresh b o e) (cj _ e),rfl,k _ H _ G (.refl H) (.bl _) g q'.2⟩
    .exact q'.elim
   |_=>exact False.elim q
abbrev HY(xs:List D)(f:Int->Int->Prop):Prop:=match xs with
 |[.int i,.int j]=>f i j
 |_=>False
abbrev S3:List D->Gp->jC->Prop:=λxs G R=>HY xs λi j=>R (.int (if j<i then j else i)) G
private theorem aBW{K:Fg}(r:cZ K H xs vs)(h:HY xs f):∃i j,xs=[.int i,.int j]/\vs=[.int i,.int j]/\f i j:=by
 unfold HY at h;split at h
 .rename_i i j;cases r with
  |cons r1 r =>
  cases r with
  |cons r2 r =>
  cases r;cases r1;cases r2;exact⟨i,j,rfl,rfl,h⟩
 .exact h.elim
def aUG(hc:X.calm=ak):eV X (.builtin "min") S3:=eV.of (Yo hc) λH xs vs G R Q rx g q k=>by
 let⟨i,j,rfl,rfl,q'⟩:=aBW (f:=λi j=>R (.int (if j<i then j else i)) G) rx q;exact⟨i,j,rfl,λ_=>k _ H _ G (.refl H) (.int _) g q'⟩
end
end
variable{zs:List (Int×Tok)}{ns:List Int}
section
section
variable{X:Cx}{pos:Pos}
abbrev JA(c:de)(tb:bB):bB:=λF ρ G=>∃W:Nat->aN->Gp->Prop,(∃m,W m ρ G)/\∀m ρ G,W m ρ G->c ρ G λb G1=>if b=ak then tb {F with nx:=λa9 G'=>∃m',m'<m/\W m' a9 G',ct:=λa9 G'=>∃m',m'<m/\W m' a9 G',bk:=F.nx} ρ G1 else F.nx ρ G1
def aHU(hp:vS (dz X.prog X.w) X.A X.env X.xe)(hc:ku X c tc)(hb:hU X body tb):eL X (.While c body [] pos) (JA tc tb):=PS.imp (aAE hp hc hb) λF σ H h=>by
 let⟨ρ,G,E,s,g,⟨W,⟨m0,w0⟩,turn⟩,d⟩:=h;refine⟨λm σ H=>∃ρ G,SR X.K H ρ σ/\HR X.K H G/\W m ρ G,⟨m0,ρ,G,s,g,w0⟩,λm jn H1 ⟨gy,G1,s1,g1,w1⟩=>⟨gy,G1,_,s1,g1,turn m gy G1 w1,λb H2 G2 t2 g2 q2=>?_⟩⟩;cases b with
 |true =>
  rw[if_pos rfl];rw[if_pos rfl]at q2;refine⟨λav H'=>∃a9 G',SR X.K H' a9 av/\HR X.K H' G'/\∃m',m'<m/\W m' a9 G',λav H' ⟨a9,G',s',g',m',hm,w'⟩=>⟨m',hm,a9,G',s',g',w'⟩,gy,G2,_,s1.mono t2,g2,q2,?_⟩;exact⟨λa9 G' av H' s' g' q'=>⟨a9,G',s',g',q'⟩,d.rt,d.nx,λa9 G' av H' s' g' q'=>⟨a9,G',s',g',q'⟩⟩
 |false=>exact d.nx _ _ _ _ (s1.mono t2) g2 (by simpa using q2)
end
def ints_of{K:Fg}:∀{ns:List Int}{vs:List V}{us:List bh},cZ K H (ns.map D.int) vs->Vals vs us->∃ys:List (Int×Tok),us=ys.map (λp=>bh.int p.1 p.2)/\ys.map (·.1)=ns
 |[],_,_,r,v=>by cases r;cases v;exact⟨[],rfl,rfl⟩
 |n::ns,_,_,r,v=>by
  cases r with
  |cons h r =>
   cases h with
   |int i =>
    cases v with
    |cons hu v =>
     let⟨t,rfl⟩:=hu;let⟨ys,e1,e2⟩:=ints_of r v;exact⟨(n,t)::ys,by rw[e1];rfl,by rw[kj,e2]⟩
abbrev Sj(xs:List D)(G:Gp)(P:List D->Prop)(O:Prop):Prop:=match xs with
 |[.ref q]=>(match cO G q with
  |some ds=>P ds
  |none=>False)
 |_=>O
variable{s:dg}
section
variable{X:Cx}
private theorem aYR(I:Inv X ψ σ H s)(rx:cZ X.K H xs vs)(rv:Vals vs us)(g:HR X.K H G)
  (h:Sj xs G P O):(∃a ds ys its,us=[.ref a]/\cZ X.K H ds ys/\Vals ys its/\s.heap.IsList a its.toArray/\P ds)∨O:=by
 cases rx with
 |nil=>exact .inr h
 |cons r1 rr =>
  cases rr with
  |cons _ _=>cases r1<;>exact .inr h
  |nil =>
   cases r1 with
   |ref a =>
    let⟨u,rfl,ru⟩:=vals1 rv;cases ru
    have q':(match cO G a with
     |some ds=>P ds
     |none=>False):=h
    split at q'
    .rename_i ds e1;let⟨ys,hq,r1⟩:=dZ g e1;let⟨its,og,p,hz⟩:=I.list hq;exact .inl ⟨a,ds,ys,its,rfl,r1,og,p.isList,q'⟩
    .exact q'.elim
   |_=>exact .inr h
def int_list(p:s.heap.IsList a (zs.map λp=>bh.int p.1 p.2).toArray):s.heap.IsList a (intItems zs.toArray):=by
 have:intItems zs.toArray=(zs.map λp=>bh.int p.1 p.2).toArray:=by simp[intItems]
 rw[this];exact p
abbrev Bd:List D->Gp->jC->Prop:=λxs G R=>Sj xs G (λds=>∃ns:List Int,ds=ns.map D.int/\ns≠[]/\∀M,M∈ns->(∀a∈ns,M<=a)->R (.int M) G) (S3 xs G R)
def aOK(e2:zs.map (·.1)=ns)(h:j<zs.toArray.size):numAt zs.toArray j∈ns:=by
 rw[numAt_eq,←e2];exact getD_mem (by simpa using h)
def aOL(e2:zs.map (·.1)=ns){a:Int}(h:a∈ns):∃j,j<zs.toArray.size/\numAt zs.toArray j=a:=by
 rw[←e2]at h;let⟨j,hj,rfl⟩:=mem_getD h;exact⟨j,by simpa using hj,by rw[numAt_eq]⟩
def aOM(hc:X.calm=ak):eV X (.builtin "min") Bd:=by
 intro ψ s σ H xs vs us G R Q I rx rv g q k;rcases aYR I rx rv g q with⟨a,ds,ys,its,rfl,r1,og,p,ns,rfl,l8,q'⟩|z
 .obtain⟨zs,rfl,e2⟩:=ints_of r1 og
  have hsz:0<zs.toArray.size:=by
   cases zs with
   |nil=>exact absurd e2.symm l8
   |cons _ _=>simp
  refine min_intList (I.ok.hd hc) (int_list p) hsz λv h' tk hv kk=>?_;let⟨t,rfl⟩:=intItems_at hv;let⟨h1,h2⟩:=argBest_lt (numAt zs.toArray) (zs.toArray.size - 1);refine⟨.int _,H,I.kept kk,⟨t,rfl⟩,k _ H _ G (.refl H) (.int _) g (q' _ (aOK e2 ⋯) λa ha=>?_)⟩;let⟨j,hj,rfl⟩:=aOL e2 ha;exact h2 j ⋯
 .exact aUG hc ψ s σ H _ vs us G R Q I rx rv g z k
end
end
section
section
end
end
section
variable{s:dg}
section
variable{X:Cx}{C:bx}{ik E7:List bh}{B Bn newId B4 d5 B8:String}{x:Str}{t:bo}
abbrev LK(C:bx)(t:bo):d7:=λρ G R=>t ρ G λds G1=>ds.length<=dh/\∀x,G1 x=au->R (.ref x) (aM G1 x (.ej C))
def aBY{x:bx}(I:Inv X ψ σ H s)(hm:GX s.heap h' x (.ref C) us) :
  ∃o vs,H x=au/\Inv X ψ σ (upd H x (.lH o (.ext (vI C x)))) {s with heap:=h' }/\o.data=.fields vs/\vs[2]?=aj .none:=by
 let⟨t,e1,_,_⟩:=hm.there;have qh:H x=au:=Kq I.aa hm.new;refine⟨{cls:=.ref C,data:=.fields #[.ref t,.none,.none,.none,.bool ao,.none]},#[.ref t,.none,.none,.none,.bool ao,.none],qh,?_,rfl,rfl⟩;generalize ho:({cls:=.ref C,data:=.fields #[.ref t,.none,.none,.none,.bool ao,.none]}:Obj)=o at e1;have sn:aE H (upd H x (.lH o (.ext (vI C x)))):=bM qh;have ib:∀b u,s.heap.get? b=aj u->b≠x:=λb u e z=>by subst z;rw[hm.new]at e;cases e
 refine I.d4 (ch:=[]) (s':={s with heap:=h' }) rfl ⟨λb u e n _ _=>hm.keeps b u e,λb u e n _ _=>⟨u.slots,hm.keeps b u e⟩,λb u e n _=>by rw[bD (ib b u e)];exact n,λb u e _=>⟨u,hm.keeps b u e⟩,λb xs z=>sn _ _ z,λb u v z=>sn _ _ z,λb ps z=>⟨#[],by rw[Array.append_empty];exact sn _ _ z⟩⟩ (λb u e=>?_) I.bare λb z=>absurd z (by simp);by_cases hb:b=x
 .subst hb;rw[aL]at e;cases e;exact⟨e1,⟨o,_,e1,by rw[←ho],by rw[←ho]⟩,⟨o,e1⟩,λh1 h2 ⟨o1,w1,e1,e2,e3⟩ k=>⟨o1,w1,k _ e1,e2,e3⟩⟩
 .rw[bD hb]at e;exact((I.aa.kept hm.keeps) b u e).bP (λ_ _ _ z=>z) (λc z=>sn _ _ z) λc xs z=>sn _ _ z
def Qh{σ:St}{H:Hp}{us:List bh}{G:Gp}{R:jC}{Q:VK}(Fn:vT Bn newId B8 E7)(xo:ik.contains (.type Bn)=ak)(FB:vT B B4 d5 ik)(hq:zc X.K C ik newId=ak)(I:Inv X ψ σ H s)(g:HR X.K H G)(hl:us.length<=dh)(q:∀x,G x=au->R (.ref x) (aM G x (.ej C)))
  (k:∀v H' d G',Ts H H'->RD X.K H' d v->HR X.K H' G'->R d G'->Q v H'):dj (dz X.prog X.w) X.A (call (.ref C) us) (EP X ψ σ Q) X.xe s:=by
 let⟨tl,N,nm,q',bs,hdct,sn,sub,ab,col,kP,k0,k1,k2,k3,k5,mN,hC,hN,tj,T⟩:=FX I.mod.oq hq;let⟨h,g0,d0,t0,Nz⟩:=s;refine wpAny_call_exc_subU (hrest:=hl) Fn xo FB (T.keeps I.bk) (I.bk _ _ hC) (hN.keeps I.bk) tj λh' x hm=>?_;let⟨o,vs,nx,J,d1,d2⟩:=aBY I hm;have sn:aE H (upd H x (.lH o (.ext (vI C x)))):=bM nx;exact⟨.ref x,_,J,rfl,k _ _ _ _ (.same sn) (.ref x) (g.put (u:=.ej C) nx ⟨o,vs,aL,d1,d2⟩) (q x (jL (K:=X.K) g nx (vJ (X:=X) J)))⟩
def aUI(Fn:vT Bn newId B8 E7)(xo:ik.contains (.type Bn)=ak)(FB:vT B B4 d5 ik)(hg:Gl X x)(hm:X.mg x=aj (.ref C))(hq:zc X.K C ik newId=ak)(ha:eM X (e::es) t)(hd:(x==("__debug__":Str))=ao)
  (he:jg (e::es) X.env=(ao,eval e X.env)::jg es X.env)(gX:(uc ah (jg es X.env)).any (·.1)=ao):dJ X (.Call (.Name x np) (e::es) [] ah) (LK C t):=by
 intro ψ s σ H Q I h;let⟨ρ,G,R,sr,g,q,kk⟩:=h;let⟨tl,N,nm,q',bs,hdct,sn,sub,ab,col,kP,k0,k1,k2,k3,k5,mN,hC,hN,tj,T⟩:=FX I.mod.oq hq;refine wpAny_Call_ofName (rA I hg hm ?_ hd);unfold callWith;have hA:=ha ah ψ s σ H (λvs H1=>Ts H H1/\∃ds G1,cZ X.K H1 ds vs/\HR X.K H1 G1/\ds.length<=dh/\∀x,G1 x=au->R (.ref x) (aM G1 x (.ej C))) I ⟨ρ,G,_,sr,g,q,λvs H1 ds G1 t1 r1 g1 q1=>⟨t1,ds,G1,r1,g1,q1.1,q1.2⟩⟩;have ie:(uc ah (jg (e::es) X.env)).any (·.1)=ao:=by rw[he];show(ao||(uc ah (jg es X.env)).any (·.1))=ao;rw[gX];rfl
 rw[he]at hA ie ⊢;refine aq (ud (Calls.evalArgs_plain (fW hA λus s2 ⟨vs,H2,I2,r2,t1,ds,G1,r1,g1,hl,q1⟩=>aq (wpAny_standAt ?_))));have EO:us.length<=dh:=by rw[←r2.length,←r1.length];exact hl
 simp only[ie];let⟨h0,g0,d0,t0,Nz⟩:=s2;refine aq (wpAny_keeperOf_exc (I2.bk _ _ hC) ?_);refine aq (fW (Qh Fn xo FB hq I2 g1 EO q1 λv H' d G' t3=>kk v H' d G' (t1.trans t3)) λv s3 q3=>aq (ud (wpAny_point (cu q3))))
def aON(Fn:vT Bn newId B8 E7)(xo:ik.contains (.type Bn)=ak)(FB:vT B B4 d5 ik)(hg:Gl X x)(hm:X.mg x=aj (.ref C))(hq:zc X.K C ik newId=ak)(hd:(x==("__debug__":Str))=ao):dJ X (.Call (.Name x np) [] [] ah) (LK C aF):=by
 intro ψ s σ H Q I h;let⟨ρ,G,R,sr,g,⟨hl,q⟩,kk⟩:=h;let⟨tl,N,nm,q',bs,hdct,sn,sub,ab,col,kP,k0,k1,k2,k3,k5,mN,hC,hN,tj,T⟩:=FX I.mod.oq hq;refine wpAny_Call_ofName (rA I hg hm ?_ hd);unfold callWith;refine aq (ud (PySem.evalArgs_none (aq (wpAny_standAt ?_))));let⟨h0,g0,d0,t0,Nz⟩:=s;refine aq (wpAny_keeperOf_exc (I.bk _ _ hC) ?_);refine aq (fW (Qh (us:=[]) Fn xo FB hq I g (xu _) q kk) λv s3 q3=>aq (ud (wpAny_point (cu q3))))
end
end
section
abbrev C7(C:bx)(f:Str)(x:D)(G:Gp)(R:jC):Prop:=match x with
 |.ref a=>(match G a with
  |some (.ins C' fs)=>C'=C/\(match fs.lookup f with
   |some d=>R d G
   |none=>False)
  |_=>False)
 |_=>False
abbrev cB(C:bx)(ta:d7)(f:Str):d7:=λρ G R=>ta ρ G λx G1=>C7 C f x G1 R
private theorem Rz{K:Fg}:∀{fs:List (Str×D)}{vs:List (Str×V)}{d:D},dP (λp q=>p.1=q.1/\RD K H p.2 q.2) fs vs->fs.lookup f=aj d->∃v,vs.lookup f=aj v/\RD K H d v
 |_,_,_,.nil,e=>by cases e
 |(g,x)::fs,(g',y)::vs,d,.cons h r,e=>by
  let⟨rfl,h2⟩:=h;unfold za at e ⊢;split at e
  .rename_i q;rw[q];cases e;exact⟨y,rfl,h2⟩
  .rename_i q;rw[q];exact Rz r e
abbrev yo(f:Str)(d:D):List (Str×D)->List (Str×D)
 |[]=>[(f,d)]
 |(g,x)::r=>if g=f then(g,d)::r else(g,x)::yo f d r
def Pc{K:Fg}{d:D}{v:V}(h:RD K H d v):∀{fs:List (Str×D)}{vs:List (Str×V)},dP (λp q=>p.1=q.1/\RD K H p.2 q.2) fs vs->dP (λp q=>p.1=q.1/\RD K H p.2 q.2) (yo f d fs) (fg f v vs)
 |_,_,.nil=>.cons ⟨rfl,h⟩ .nil
 |(g,x)::fs,(g',y)::vs,.cons q r=>by
  let⟨rfl,q2⟩:=q;unfold yo fg;by_cases c:g=f
  .rw[if_pos c,if_pos c];exact .cons ⟨rfl,h⟩ r
  .rw[if_neg c,if_neg c];exact .cons ⟨rfl,q2⟩ (Pc h r)
section
variable{X:Cx}{o:je}{f:Str}{C:bx}{pos:Pos}{ta tv:d7}
private theorem aUJ(he:dJ X e ta)(c:fN X.K C)(n:jF X.K C f)(hb:uf e f X.env (eval e X.env)=eval e X.env):dJ X (.Attribute e f pos) (cB C ta f):=by
 refine PE.imp (aMT he hb) λσ H Q h=>?_;let⟨ρ,G,R,s,g,t,k⟩:=h;refine⟨ρ,G,_,s,g,t,λv H1 x G1 t1 rx g1 t'=>?_⟩;unfold C7 at t';split at t'
 .rename_i a;split at t'
  .rename_i C' fs e1;let⟨rfl,t'⟩:=t';split at t'
   .rename_i d e2;let⟨dx,vs,e3,r⟩:=g1 a _ e1;let⟨w,e4,rw⟩:=Rz r e2;cases rx;exact⟨a,_,dx,vs,w,rfl,e3,c,n,e4,k w H1 d G1 t1 rw g1 t'⟩
   .exact t'.elim
  .exact t'.elim
 .exact t'.elim
abbrev Cz(C:bx)(f:Str)(x y:D)(F:eF)(ρ:aN)(G:Gp):Prop:=match x with
 |.ref a=>(match G a with
  |some (.ins C' fs)=>C'=C/\fs.length<1000/\F.nx ρ (aM G a (.ins C (yo f y fs)))
  |_=>False)
 |_=>False
abbrev tO(C:bx)(ta tv:d7)(f:Str):bB:=λF ρ G=>tv ρ G λy G1=>ta ρ G1 λx G2=>Cz C f x y F ρ G2
private theorem aOO(ha:dJ X o ta)(hv:dJ X value tv)(c:fN X.K C)(n:jF X.K C f)(hs:rS value (aj (.Attribute o f pos')) pos.line X.env=pure ao):eL X (.Assign [.Attribute o f pos'] value pos) (tO C ta tv f):=by
 refine PS.imp (aMU ha hv hs) λF σ H h=>?_;let⟨ρ,G,E,s,g,t,u⟩:=h;refine⟨ρ,G,_,s,g,t,λy H1 d G1 t1 ry g1 t'=>?_⟩;refine⟨ρ,G1,_,s.mono t1,g1,t',λv H2 x G2 t2 rx g2 eS=>?_⟩;unfold Cz at eS;split at eS
 .rename_i a;split at eS
  .rename_i C' fs e1;let⟨rfl,hl,eS⟩:=eS;let⟨dx,vs,e3,r⟩:=g2 a _ e1;have Wj:=ry.mono t2;have tt:Ts H2 (upd H2 a (.ins C' dx (fg f y vs))):=Ts.turn e3 (λ_ z=>by cases z) (λ_ _ z=>by cases z);cases rx;refine⟨a,_,dx,vs,rfl,e3,c,n,by rw[←r.length];exact hl,u.nx ρ _ σ _ ((s.mono t1).mono t2 |>.mono tt) (HR.turn g2 tt ?_) eS⟩;exact⟨dx,_,aL,(Pc Wj r).imp λ_ _ q=>⟨q.1,q.2.mono tt⟩⟩
  .exact eS.elim
 .exact eS.elim
end
variable{Q:VK}
section
variable{X:Cx}{qt:Bool}{k:Nat}{f C:bx}{fd:jf}{ps:List Str}{sp:lJ}{EX:aN->aV}{x m:Str}{p pos apos:Pos}{o:je}{t:bo}{ta:d7}{dd:List D}{cb:List V}{ds:List bh}
private theorem Qg{Q':VK}(F:bQ qt X.prog X.w X.K X.mg X.base (iH X.prog X.w) k f fd ps (bV X.K sp))(hr:nO qt k X.A)(hb:Binds X.K fd ps ds)(hd:Vals cb ds)
  (hx:∀e s',iH X.prog X.w X.stack H s E e s'->X.xe e s')
  (I:Inv X ψ σ H s)(r:Vals vs us)(h:bV X.K sp (vs++cb) H Q E)(hQ:∀v H',Ts H H'->Q v H'->Q' v H'):dj (dz X.prog X.w) X.A (call (.ref f) us) (EP X ψ σ Q') X.xe s:=by
 have hl:(us++ds).length=ps.length:=by rw[←(r.append hd).length];exact F.len _ _ _ _ h
 refine wpAny_call (codeAny_mono (F.run X.A X.stack s H ⟨us,[]⟩ (us++ds) (vs++cb) Q E hr I.Ai (hb s us I.cz hl) (r.append hd) h) λr s' hq=>?_);cases r with
 |error e=>exact hx e s' hq
 |ok fl =>
  cases fl with
  |ret u =>
   let⟨v,H',os,bare,un,aa,r,q⟩:=hq;exact⟨v,H',I.d4 (ch:=[]) os un aa bare (λb z=>absurd z (by simp)),r,hQ v H' ⟨un.az,un.oM⟩ q⟩
  |next=>exact False.elim hq
  |brk=>exact False.elim hq
  |cont=>exact False.elim hq
abbrev A3(C:bx)(m:Str)(x:D)(G:Gp):Prop:=∃a fs,x=.ref a/\G a=aj (.ins C fs)/\fs.lookup m=au
abbrev cP(C:bx)(m:Str)(sp:lJ)(dd:List D)(EX:aN->aV)(ta:d7)(t:bo):d7:=λρ G R=>ta ρ G λx G1=>A3 C m x G1/\t ρ G1 λds G2=>sp (x::(ds++dd)) G2 R (EX ρ)
private theorem Kl{K:Fg}{f:Str}:∀{fs:List (Str×D)}{vs:List (Str×V)},dP (λp q=>p.1=q.1/\RD K H p.2 q.2) fs vs->fs.lookup f=au->vs.lookup f=au
 |_,_,.nil,e=>rfl
 |(g,x)::fs,(g',y)::vs,.cons h r,e=>by
  let⟨rfl,h2⟩:=h;unfold za at e ⊢;split at e
  .cases e
  .rename_i q;rw[q];exact Kl r e
def aHV(ho:dJ X o ta)(c:fN X.K C)(hm:Meth X.K C m f)(F:bQ qt X.prog X.w X.K X.mg X.base (iH X.prog X.w) k f fd ps (bV X.K sp))(hr:nO qt k X.A)(hb:Binds X.K fd ps ds)(hd:Vals cb ds)(eI:∀H,cZ X.K H dd cb)(hx:mM X EX)
  (ha:eM X (e::es) t)(b9:jg (e::es) X.env=(ao,eval e X.env)::jg es X.env)(gX:(uc pos (jg es X.env)).any (·.1)=ao)
  (ht:eval (.Call (.Attribute o m apos) (e::es) [] pos) X.env=(do
   let ov ←eval o X.env
   standAt apos.atName
   let(f,first) ←holding [ov] (getMethod ov m pl)
   callWith pos f first (uc pos (jg (e::es) X.env)) (backToKw pos (pw [] X.env)))) :
  dJ X (.Call (.Attribute o m apos) (e::es) [] pos) (cP C m sp dd EX ta t):=by
 intro ψ s σ H Q I h;let⟨ρ,G,R,sr,g,q,kk⟩:=h;refine PySem.W.methodCall_KW (pl:=pl) (fW (ho ψ s σ H (λv H1=>∃d G1,Ts H H1/\RD X.K H1 d v/\HR X.K H1 G1/\A3 C m d G1/\t ρ G1 λds G2=>sp (d::(ds++dd)) G2 R (EX ρ)) I ⟨ρ,G,_,sr,g,q,λv H1 d G1 t1 r1 g1 q1=>⟨d,G1,t1,r1,g1,q1⟩⟩) ?_) ht;rintro u s1 ⟨x,H1,I1,rx,d,G1,t1,r1,g1,⟨a,fs,ed,ea,el⟩,q1⟩;subst ed;cases r1;obtain rfl:u=bh.ref a:=rx;let⟨dx,vs,e3,r⟩:=g1 a _ ea;refine RC I1 e3 c hm (Kl r el) ?_;refine Mo (first:=[.ref a]) (h₀:=X.base) I.ok.mod.oq hm.kp (fW (ha pos ψ s1 σ H1 (λvs H2=>Ts H1 H2/\∃ds G2,cZ X.K H2 ds vs/\HR X.K H2 G2/\sp (.ref a::(ds++dd)) G2 R (EX ρ)) I1 ⟨ρ,G1,_,sr.mono t1,g1,q1,λvs H2 ds G2 t2 r2 g2 q2=>⟨t2,ds,G2,r2,g2,q2⟩⟩) λus s2 ⟨vs,H2,I2,r,t2,ds2,G2,r2,g2,q2⟩=>⟨I2.cz,?_⟩) b9 gX;refine Qg (us:=.ref a::us) (vs:=.ref a::vs) (E:=pj X.K (EX ρ)) F hr hb hd (λe s' c=>hx.CF ψ σ H2 s2 ρ e s' I2 ((sr.mono t1).mono t2) c) I2 (.cons rfl r) (Q:=λv H'=>∃d G',RD X.K H' d v/\HR X.K H' G'/\R d G') ⟨.ref a::(ds2++dd),G2,R,EX ρ,.cons (.ref a) (r2.append (eI H2)),g2,q2,λv H' d G' r3 g3 q3=>⟨d,G',r3,g3,q3⟩,λC H' G' g' q'=>⟨C,G',rfl,g',q'⟩⟩ (by rintro v H' t3 ⟨d,G',r3,g3,q3⟩;exact kk v H' d G' ((t1.trans t2).trans t3) r3 g3 q3)
def aC0(ho:dJ X o ta)(c:fN X.K C)(hm:Meth X.K C m f)(F:bQ qt X.prog X.w X.K X.mg X.base (iH X.prog X.w) k f fd ps (bV X.K sp))(hr:nO qt k X.A)(hb:Binds X.K fd ps ds)(hd:Vals cb ds)(eI:∀H,cZ X.K H dd cb)(hx:mM X EX)
  (ht:eval (.Call (.Attribute o m apos) [] [] pos) X.env=(do
   let ov ←eval o X.env
   standAt apos.atName
   let(f,first) ←holding [ov] (getMethod ov m pl)
   callWith pos f first (uc pos (jg [] X.env)) (backToKw pos (pw [] X.env)))) :
  dJ X (.Call (.Attribute o m apos) [] [] pos) (cP C m sp dd EX ta aF):=by
 intro ψ s σ H Q I h;let⟨ρ,G,R,sr,g,q,kk⟩:=h;refine PySem.W.methodCall_KW (pl:=pl) (fW (ho ψ s σ H (λv H1=>∃d G1,Ts H H1/\RD X.K H1 d v/\HR X.K H1 G1/\A3 C m d G1/\aF ρ G1 λds G2=>sp (d::(ds++dd)) G2 R (EX ρ)) I ⟨ρ,G,_,sr,g,q,λv H1 d G1 t1 r1 g1 q1=>⟨d,G1,t1,r1,g1,q1⟩⟩) ?_) ht;rintro u s1 ⟨x,H1,I1,rx,d,G1,t1,r1,g1,⟨a,fs,ed,ea,el⟩,q1⟩;subst ed;cases r1;obtain rfl:u=bh.ref a:=rx;let⟨dx,vs,e3,r⟩:=g1 a _ ea;refine RC I1 e3 c hm (Kl r el) ?_;refine Mt (first:=[.ref a]) I1.cz hm.kp ?_;refine Qg (us:=[.ref a]) (vs:=[.ref a]) (E:=pj X.K (EX ρ)) F hr hb hd (λe s' c=>hx.CF ψ σ H1 s1 ρ e s' I1 (sr.mono t1) c) I1 (.cons rfl .nil) (Q:=λv H'=>∃d G',RD X.K H' d v/\HR X.K H' G'/\R d G') ⟨.ref a::dd,G1,R,EX ρ,.cons (.ref a) (eI H1),g1,q1,λv H' d G' r3 g3 q3=>⟨d,G',r3,g3,q3⟩,λC H' G' g' q'=>⟨C,G',rfl,g',q'⟩⟩ (by rintro v H' t3 ⟨d,G',r3,g3,q3⟩;exact kk v H' d G' (t1.trans t3) r3 g3 q3)
abbrev Bc(C:bx)(sp:lJ)(dd:List D)(EX:aN->aV)(t:bo):d7:=λρ G R=>t ρ G λds G1=>∀x,G1 x=au->sp (.ref x::(ds++dd)) (aM G1 x (.ins C [])) (λv G2=>v=.ae/\R (.ref x) G2) (EX ρ)
private theorem QU{σ:St}{H:Hp}{s:dg}{G:Gp}{R:jC}{us:List bh}{vs:List V}{ds2:List D}{ρ:aN}(M:Mk X.K C f)(F:bQ qt X.prog X.w X.K X.mg X.base (iH X.prog X.w) k f fd ps (bV X.K sp))(hr:nO qt (k+1) X.A)(hb:Binds X.K fd ps ds)(hd:Vals cb ds)(eI:∀H,cZ X.K H dd cb)(hx:mM X EX)
  (I:Inv X ψ σ H s)(sr:SR X.K H ρ σ)(g:HR X.K H G)(r:Vals vs us)(r2:cZ X.K H ds2 vs)(h:∀x,G x=au->sp (.ref x::(ds2++dd)) (aM G x (.ins C [])) (λv G2=>v=.ae/\R (.ref x) G2) (EX ρ))
  (hQ:∀v H' d G',Ts H H'->RD X.K H' d v->HR X.K H' G'->R d G'->Q v H'):dj (dz X.prog X.w) X.A (call (.ref C) us) (EP X ψ σ Q) X.xe s:=by
 have n1:H (s.heap.objs.size+1)=au:=I.aa.fresh (sf _);have n0:H s.heap.objs.size=au:=I.aa.fresh (fj _);have ne:s.heap.objs.size+1≠s.heap.objs.size:=Nat.succ_ne_self _;have I2:=Inv.made (C:=C) I
 have kl:X.K.lookup (s.heap.objs.size+1)=au:=by
  cases q:X.K.lookup (s.heap.objs.size+1)with
  |none=>rfl
  |some u=>have:=vJ I2 _ u q;rw[aL]at this;cases this
 have gn:G (s.heap.objs.size+1)=au:=jL (o:=.ins C s.heap.objs.size []) g n1 λb u e=>by
  by_cases c:b=s.heap.objs.size+1
  .subst c;rw[kl]at e;cases e
  .rw[bD c];exact vJ I b u e
 have t1:Ts H (upd H s.heap.objs.size (.own (s.heap.objs.size+1))):=.same (bM n0);have NJ:upd H s.heap.objs.size (.own (s.heap.objs.size+1)) (s.heap.objs.size+1)=au:=by rw[bD ne];exact n1
 have t2:Ts (upd H s.heap.objs.size (.own (s.heap.objs.size+1))) (upd (upd H s.heap.objs.size (.own (s.heap.objs.size+1))) (s.heap.objs.size+1) (.ins C s.heap.objs.size [])):=.same (bM NJ);have g1:HR X.K (upd H s.heap.objs.size (.own (s.heap.objs.size+1))) G:=g.same (bM n0);have g2:HR X.K (upd (upd H s.heap.objs.size (.own (s.heap.objs.size+1))) (s.heap.objs.size+1) (.ins C s.heap.objs.size [])) (aM G (s.heap.objs.size+1) (.ins C [])):=g1.put NJ ⟨s.heap.objs.size,[],aL,.nil⟩
 have hq:bV X.K sp (V.ref (s.heap.objs.size+1)::(vs++cb)) (upd (upd H s.heap.objs.size (.own (s.heap.objs.size+1))) (s.heap.objs.size+1) (.ins C s.heap.objs.size [])) (λv H'=>v=.ae/\∃G',HR X.K H' G'/\R (.ref (s.heap.objs.size+1)) G') (pj X.K (EX ρ)) :=
  ⟨.ref (s.heap.objs.size+1)::(ds2++dd),_,_,EX ρ,.cons (.ref _) (((r2.mono t1).mono t2).append (eI _)),g2,h _ gn,λv H' d G' r3 g3 q3=>by
   let⟨rfl,q3⟩:=q3;cases r3;exact⟨rfl,G',g3,q3⟩,λC H' G' g' q'=>⟨C,G',rfl,g',q'⟩⟩
 have rr:Vals (V.ref (s.heap.objs.size+1)::(vs++cb)) (bh.ref (s.heap.objs.size+1)::(us++ds)):=.cons rfl (r.append hd)
 have hl:(bh.ref (s.heap.objs.size+1)::us++ds).length=ps.length:=by
  have e:=rr.length;rw[F.len _ _ _ _ hq]at e;exact e.symm
 refine wpAny_call (aAM (f:=f) I.cz M.makes M.init (beq_iff_eq.mp M.fn) (codeAny_mono (F.run _ X.stack _ _ ⟨bh.ref (s.heap.objs.size+1)::us,[]⟩ (bh.ref (s.heap.objs.size+1)::(us++ds)) _ _ _ (hr.make C us [])
  (I2.Ai.make C us []) (hb _ (bh.ref (s.heap.objs.size+1)::us) I2.cz hl) rr hq) λr s' qq=>?_))
 cases r with
 |error e=>exact hx.CF ψ σ _ _ ρ e s' I2 ((sr.mono t1).mono t2) qq
 |ok fl =>
  cases fl with
  |ret u =>
   let⟨v,H',os,bare,un,aa,rv,ev,G',g3,q3⟩:=qq;subst ev;exact⟨rv,⟨V.ref (s.heap.objs.size+1),H',I2.d4 (ch:=[]) os un aa bare (λb z=>absurd z (by simp)),rfl,hQ _ H' (.ref _) G' ((t1.trans t2).trans ⟨un.az,un.oM⟩) (.ref _) g3 q3⟩⟩
  |next=>exact False.elim qq
  |brk=>exact False.elim qq
  |cont=>exact False.elim qq
def aHW(M:Mk X.K C f)(F:bQ qt X.prog X.w X.K X.mg X.base (iH X.prog X.w) k f fd ps (bV X.K sp))(hr:nO qt (k+1) X.A)(hg:Gl X x)(hm:X.mg x=aj (.ref C))(hb:Binds X.K fd ps ds)(hd:Vals cb ds)(eI:∀H,cZ X.K H dd cb)(hx:mM X EX)
  (ha:eM X (e::es) t)(ij:(x==("__debug__":Str))=ao)(he:jg (e::es) X.env=(ao,eval e X.env)::jg es X.env)(gX:(uc pos (jg es X.env)).any (·.1)=ao) :
  dJ X (.Call (.Name x p) (e::es) [] pos) (Bc C sp dd EX t):=by
 intro ψ s σ H Q I h;let⟨ρ,G,R,sr,g,q,kk⟩:=h;refine yx (rA I hg hm ?_ ij);refine Mo (h₀:=X.base) I.ok.mod.oq M.kp (fW (ha pos ψ s σ H (λvs H1=>Ts H H1/\∃ds G1,cZ X.K H1 ds vs/\HR X.K H1 G1/\∀x,G1 x=au->sp (.ref x::(ds++dd)) (aM G1 x (.ins C [])) (λv G2=>v=.ae/\R (.ref x) G2) (EX ρ)) I ⟨ρ,G,_,sr,g,q,λvs H1 ds G1 t1 r1 g1 q1=>⟨t1,ds,G1,r1,g1,q1⟩⟩) λus s1 ⟨vs,H1,I1,r,t1,ds,G1,r1,g1,q1⟩=>⟨I1.cz,?_⟩) he gX;exact QU M F hr hb hd eI hx I1 (sr.mono t1) g1 r r1 q1 λv H' d G' t2=>kk v H' d G' (t1.trans t2)
def aC1(M:Mk X.K C f)(F:bQ qt X.prog X.w X.K X.mg X.base (iH X.prog X.w) k f fd ps (bV X.K sp))(hr:nO qt (k+1) X.A)(hg:Gl X x)(hm:X.mg x=aj (.ref C))(hb:Binds X.K fd ps ds)(hd:Vals cb ds)(eI:∀H,cZ X.K H dd cb)(hx:mM X EX)
  (ij:(x==("__debug__":Str))=ao):dJ X (.Call (.Name x p) [] [] pos) (Bc C sp dd EX aF):=by
 intro ψ s σ H Q I h;let⟨ρ,G,R,sr,g,q,kk⟩:=h;refine yx (rA I hg hm ?_ ij);exact Mt I.cz M.kp (QU (us:=[]) (vs:=[]) (ds2:=[]) M F hr hb hd eI hx I sr g .nil .nil q λv H' d G' t2=>kk v H' d G' t2)
end
end
variable{t':Nat}
section
section
variable{X:Cx}{ψ:List (bx×Obj)}{σ:St}{H:Hp}{s:dg}{h':kh}
def Inv.QT{ch:List bx}{a:bx}{o:HO}(I:Inv X ψ σ H s)(k:∀b u,b∉ch->s.heap.get? b=aj u->h'.get? b=aj u)(hc:∀b∈ch,km X ψ H b)(ha:s.heap.objs.size<=a)(new:iZ X.prog X.w (upd H a o) h' a o):Inv X ψ σ (upd H a o) {s with heap:=h',toks:=t' }:=by
 have lT:∀b u,H b=aj u->b∉ch:=λb u e z=>by rw[(hc b z).1]at e;cases e
 have fr:H a=au:=I.aa.fresh ha;have sn:aE H (upd H a o):=bM fr;have na:∀b u,s.heap.get? b=aj u->b≠a:=λb u e z=>absurd (ju (gk e) (z ▸ ha)) (vg _);refine I.step (g':=s.gens) (d':=s.drawn) (ch:=ch) (λb hb=>?_) (λb o _ _ hn e _=>k b o hn e) (λb o _ _ hn e _=>⟨o.slots,k b o hn e⟩) (λb u _ e n=>by rw[bD (na b u e)];exact n) (λb o hn e=>⟨o,k b o hn e⟩) (λb xs e=>sn _ _ e) (λb o u e=>sn _ _ e) (λb ps e=>⟨#[],by rw[sn _ _ e];simp⟩) (λm hm=>?_) (λb u e=>?_) I.bare
 .obtain⟨_,f1,_,f3,f4,f5⟩:=hc b hb;exact⟨f3,f1,f4,f5⟩
 .obtain⟨o,es,ep,ho,r⟩:=hm;exact⟨o,es,ep,k _ o (λz=>(hc _ z).2.1 rfl) ho,r⟩
 .by_cases hb:b=a
  .subst hb;rw[aL]at e;cases e;exact new
  .rw[bD hb]at e;refine(I.aa b u e).bP (λc v EW q=>k c v ?_ q) (λ_ q=>sn _ _ q) λ_ _ q=>sn _ _ q;rcases EW with z|z
   .rw[z];exact lT b u e
   .exact lT c _ z
end
section
end
section
end
section
end
end
variable{x:D}
section
abbrev LJ:D->Option Key
 |.int i=>aj (.inl i)
 |.str x=>aj (.inr x)
 |_=>au
abbrev CW:List D->Option (List Key)
 |[]=>aj []
 |d::r=>match LJ d,CW r with
  |some k,aj ks=>aj (k::ks)
  |_,_=>au
abbrev iP:D->Option DK
 |.int i=>aj (.inl (.inl i))
 |.str x=>aj (.inl (.inr x))
 |.tup ds=>(match CW ds with
  |some ks=>aj (.inr ks)
  |none=>au)
 |_=>au
abbrev zN:DK->Bool
 |.inl _=>ao
 |.inr _=>ak
section
variable{κ:Type}[DecidableEq κ]{α:Type}
abbrev bC:List (κ×α)->κ->Option α
 |[],_=>au
 |p::r,k=>if p.1=k then aj p.2 else bC r k
abbrev gB(kvs:List (κ×α))(k:κ)(v:α):List (κ×α):=if(bC kvs k).isSome=ak then kvs.map (λkv=>if kv.1=k then(kv.1,v)else kv)else kvs++[(k,v)]
abbrev cD(kvs:List (κ×α))(k:κ):List (κ×α):=kvs.filter λkv=>!decide (kv.1=k)
end
variable{d:D}{v:V}
def Pb{K:Fg}{k:Key}(r:RD K H d v)(e:LJ d=aj k):v=kV k:=by
 cases r<;>first
  |(cases e;rfl)
  |cases e
private theorem Qf{K:Fg}:∀{ds:List D}{vs:List V}{ks:List Key},cZ K H ds vs->CW ds=aj ks->vs=ks.map kV
 |_,_,_,.nil,e=>by cases e;rfl
 |d::ds,v::vs,ks,.cons h r,e=>by
  unfold CW at e;split at e
  .rename_i k ks' e1 e2;cases e;rw[Pb h e1,Qf r e2];rfl
  .cases e
@[simp]def fe{κ:Type}(K:Fg)(H:Hp)(f:κ->DK):List (DK×D)->List (κ×V)->Prop:=dP λp q=>p.1=f q.1/\RD K H p.2 q.2
section
variable{κ:Type}[DecidableEq κ]{K:Fg}
def val_two(hf:∀a b,f a=f b->a=b){k:κ}:∀{kvs:List (DK×D)}{xs:List (κ×V)},fe K H f kvs xs->(∀d,bC kvs (f k)=aj d->∃v,hV xs k=aj v/\RD K H d v)/\(bC kvs (f k)=au->hV xs k=au)
 |_,_,.nil=>⟨λd e=>(nomatch e),λ_=>rfl⟩
 |p::kvs,q::xs,.cons h r=>by
  let⟨h1,h2⟩:=h;by_cases c:q.1=k
  .have c2:p.1=f k:=by rw[h1,c]
   unfold bC;rw[if_pos c2,Gw c];exact⟨λd e=>by cases e;exact⟨_,rfl,h2⟩,λe=>(nomatch e)⟩
  .have c2:¬ p.1=f k:=λz=>c (hf _ _ (h1.symm.trans z));unfold bC;rw[if_neg c2,Gv c];exact val_two hf r
def aC3(hf:∀a b,f a=f b->a=b){k:κ}(t:fe K H f kvs xs):(bC kvs (f k)).isSome=(hV xs k).isSome:=by
 have z:=val_two hf (k:=k) t;cases e:bC kvs (f k)with
 |none=>rw[z.2 e];rfl
 |some d=>let⟨v,e2,_⟩:=z.1 d e;rw[e2];rfl
def Pa{g:DK×D->DK×D}{h:κ×V->κ×V}(gh:∀p q,p.1=f q.1/\RD K H p.2 q.2->(g p).1=f (h q).1/\RD K H (g p).2 (h q).2):∀{kvs:List (DK×D)}{xs:List (κ×V)},fe K H f kvs xs->fe K H f (kvs.map g) (xs.map h)
 |_,_,.nil=>.nil
 |_,_,.cons z r=>.cons (gh _ _ z) (Pa gh r)
def Qe{p:DK×D}{q:κ×V}(z:p.1=f q.1/\RD K H p.2 q.2):∀{kvs:List (DK×D)}{xs:List (κ×V)},fe K H f kvs xs->fe K H f (kvs++[p]) (xs++[q])
 |_,_,.nil=>.cons z .nil
 |_,_,.cons y r=>.cons y (Qe z r)
def FR(hf:∀a b,f a=f b->a=b){k:κ}(rd:RD K H d v)(t:fe K H f kvs xs):fe K H f (gB kvs (f k) d) (putK xs k v):=by
 unfold gB putK;rw[Ks,aC3 hf t];split
 ·refine Pa ?_ t;rintro p q ⟨h1,h2⟩;by_cases c:q.1=k
  .rw[if_pos (show p.1=f k by rw[h1,c]),if_pos c];exact⟨h1,rd⟩
  .rw[if_neg (show ¬ p.1=f k from λz=>c (hf _ _ (h1.symm.trans z))),if_neg c];exact⟨h1,h2⟩
 .exact Qe (p:=(f k,d)) (q:=(k,v)) ⟨rfl,rd⟩ t
end
def rC(a b:Key)(h:(Sum.inl a:DK)=.inl b):a=b:=by cases h;rfl
def uM(a b:List Key)(h:(Sum.inr a:DK)=.inr b):a=b:=by cases h;rfl
abbrev zO(x y:D)(G:Gp)(P:bx->Bool->List (DK×D)->DK->Prop):Prop:=match x with
 |.ref a=>(match G a,iP y with
  |some (.cX t kvs),aj k=>zN k=t/\P a t kvs k
  |_,_=>False)
 |_=>False
abbrev yn(K:Fg)(H:Hp)(a:bx)(vy:V)(kvs:List (DK×D))(k:DK):Prop :=
 (∃k' xs,k=.inl k'/\H a=aj (.dK xs)/\fe K H .inl kvs xs/\vy=kV k')∨∃ks xs b,k=.inr ks/\H a=aj (.dT xs)/\fe K H .inr kvs xs/\vy=.ref b/\H b=aj (.tup (ks.map kV))
private theorem FC{K:Fg}{k:DK}(ry:RD K H y vy)(e:iP y=aj k):(∃k',k=.inl k'/\vy=kV k')∨∃ks b,k=.inr ks/\vy=.ref b/\H b=aj (.tup (ks.map kV)):=by
 cases ry with
 |int i=>cases e;exact .inl ⟨_,rfl,rfl⟩
 |str x=>cases e;exact .inl ⟨_,rfl,rfl⟩
 |@tup a xs ds hq r e0 =>
  have e':(match CW ds with
   |some ks=>aj (Sum.inr ks:DK)
   |none=>au)=aj k:=e
  split at e'
  .rename_i ks e1;cases e';have:=Qf r e1;subst this;exact .inr ⟨ks,a,rfl,rfl,e0⟩
  .cases e'
 |_=>cases e
private theorem zP{K:Fg}(rx:RD K H x vx)(ry:RD K H y vy)(g:HR K H G)(h:zO x y G P) :
  ∃a kvs k,x=.ref a/\vx=.ref a/\G a=aj (.cX (zN k) kvs)/\iP y=aj k/\P a (zN k) kvs k/\yn K H a vy kvs k:=by
 unfold zO at h;split at h
 .rename_i a;split at h
  .rename_i t kvs k e1 e2;let⟨rfl,h⟩:=h;cases rx;refine⟨a,kvs,k,rfl,rfl,e1,e2,h,?_⟩;rcases g a _ e1 with⟨z,xs,e3,r⟩|⟨z,xs,e3,r⟩
   .rcases FC ry e2 with⟨k',rfl,rfl⟩|⟨ks,b,rfl,_⟩
    .exact .inl ⟨k',xs,rfl,e3,r,rfl⟩
    .cases z
   .rcases FC ry e2 with⟨k',rfl,rfl⟩|⟨ks,b,rfl,rfl,eb⟩
    .cases z
    .exact .inr ⟨ks,xs,b,rfl,e3,r,rfl,eb⟩
  .exact h.elim
 .exact h.elim
def yn.get{K:Fg}{k:DK}(h:yn K H a vy kvs k):(∀d,bC kvs k=aj d->∃v,il H a vy (aj v)/\RD K H d v)/\(bC kvs k=au->il H a vy au):=by
 rcases h with⟨k',xs,rfl,e,r,rfl⟩|⟨ks,xs,b,rfl,e,r,rfl,eb⟩
 .have z:=val_two rC (k:=k') r;exact⟨λd e2=>(z.1 d e2).elim λv q=>⟨v,by rw[←q.1];exact .k e,q.2⟩,λe2=>by rw[←z.2 e2];exact .k e⟩
 .have z:=val_two uM (k:=ks) r;exact⟨λd e2=>(z.1 d e2).elim λv q=>⟨v,by rw[←q.1];exact .t e eb,q.2⟩,λe2=>by rw[←z.2 e2];exact .t e eb⟩
def yn.any{K:Fg}{k:DK}(h:yn K H a vy kvs k):∃o,il H a vy o/\o.isSome=(bC kvs k).isSome/\∀d v,RD K H d v->RD K H ((bC kvs k).getD d) (o.getD v):=by
 have z:=h.get;cases e:bC kvs k with
 |none=>exact⟨au,z.2 e,rfl,λd v r=>r⟩
 |some d=>let⟨v,g,r⟩:=z.1 d e;exact⟨aj v,g,rfl,λ_ _ _=>r⟩
def yn.put{K:Fg}{kvs:List (DK×D)}{k:DK}(g:HR K H G)(h:yn K H a vy kvs k)(rv:RD K H d v)(hl:kvs.length<dh):∃H',ya H a vy v H'/\Ts H H'/\HR K H' (aM G a (.cX (zN k) (gB kvs k d))):=by
 rcases h with⟨k',xs,rfl,e,r,rfl⟩|⟨ks,xs,b,rfl,e,r,rfl,eb⟩
 .have tt:Ts H (upd H a (.dK (putK xs k' v))):=.turn e (λ_ z=>nomatch z) (λ_ _ z=>nomatch z);exact⟨_,.k e (by rw[←r.length];exact hl),tt,g.turn (u:=.cX ao _) tt (.inl ⟨rfl,_,aL,(FR rC rv r).imp λ_ _ q=>⟨q.1,q.2.mono tt⟩⟩)⟩
 .have tt:Ts H (upd H a (.dT (putK xs ks v))):=.turn e (λ_ z=>nomatch z) (λ_ _ z=>nomatch z);exact⟨_,.t e eb (by rw[←r.length];exact hl),tt,g.turn (u:=.cX ak _) tt (.inr ⟨rfl,_,aL,(FR uM rv r).imp λ_ _ q=>⟨q.1,q.2.mono tt⟩⟩)⟩
abbrev ym(G:Gp)(a:bx):Option (Bool×List (DK×D)):=match G a with
 |some (.cX t kvs)=>aj (t,kvs)
 |some (.eA _ t kvs)=>aj (t,kvs)
 |_=>au
private theorem aC4{K:Fg}{t:Bool}(g:HR K H G)(e:ym G a=aj (t,kvs)) :
  (t=ao/\∃xs:List (Key×V),Rd H a (.dK xs)/\fe K H .inl kvs xs)∨(t=ak/\∃xs:List (List Key×V),Rd H a (.dT xs)/\fe K H .inr kvs xs):=by
 unfold ym at e;split at e
 .rename_i t' Nc q;cases e;rcases g a _ q with⟨z,xs,e2,tw⟩|⟨z,xs,e2,tw⟩
  .exact .inl ⟨z,xs,.inl e2,tw⟩
  .exact .inr ⟨z,xs,.inl e2,tw⟩
 .rename_i o t' Nc q;cases e;rcases g a _ q with⟨z,xs,e2,tw⟩|⟨z,xs,e2,tw⟩
  .exact .inl ⟨z,xs,.inr ⟨o,e2⟩,tw⟩
  .exact .inr ⟨z,xs,.inr ⟨o,e2⟩,tw⟩
 .cases e
abbrev CU(x y:D)(G:Gp)(P:List (DK×D)->DK->Prop):Prop:=match x with
 |.ref a=>(match ym G a,iP y with
  |some (t,kvs),aj k=>zN k=t/\P kvs k
  |_,_=>False)
 |_=>False
private theorem X7{K:Fg}(rx:RD K H x vx)(ry:RD K H y vy)(g:HR K H G)(h:CU x y G P) :
  ∃a kvs k,x=.ref a/\vx=.ref a/\P kvs k/\∀d,bC kvs k=aj d->∃v,il H a vy (aj v)/\RD K H d v:=by
 unfold CU at h;split at h
 .rename_i a;split at h
  .rename_i t kvs k e1 e2;let⟨rfl,h⟩:=h;cases rx;refine⟨a,kvs,k,rfl,rfl,h,λd ed=>?_⟩;rcases aC4 g e1 with⟨z,xs,e3,r⟩|⟨z,xs,e3,r⟩
   .rcases FC ry e2 with⟨k',rfl,rfl⟩|⟨ks,b,rfl,_⟩
    .obtain⟨v,e4,rv⟩:=(val_two rC (k:=k') r).1 d ed;exact⟨v,.inl ⟨xs,k',e3,rfl,e4.symm⟩,rv⟩
    .cases z
   .rcases FC ry e2 with⟨k',rfl,rfl⟩|⟨ks,b,rfl,rfl,eb⟩
    .cases z
    .obtain⟨v,e4,rv⟩:=(val_two uM (k:=ks) r).1 d ed;exact⟨v,.inr ⟨xs,ks,b,e3,rfl,eb,e4.symm⟩,rv⟩
  .exact h.elim
 .exact h.elim
abbrev nQ:R3:=λx y G R=>CU x y G λkvs k=>match bC kvs k with
 |some d=>R d G
 |none=>False
abbrev LI:R3:=λx y G R=>zO y x G λ_ _ kvs k=>R (.bl (bC kvs k).isSome) G
abbrev TU:R3:=λx y G R=>zO y x G λ_ _ kvs k=>R (.bl (!(bC kvs k).isSome)) G
section
variable{X:Cx}{o:je}{to ti tv te tf:d7}{pos:Pos}
private theorem aUK(hu:X.A.units+64<qy)(ho:dJ X o to)(hi:dJ X i ti)(hs:Lj i):dJ X (.Subscript o i pos) (aH nQ to ti):=by
 refine PE.imp (aGV ⋯ ho hi hs) λσ H Q h=>?_;let⟨ρ,G,R,s,g,t,k⟩:=h;refine⟨ρ,G,_,s,g,t,λvx H1 x G1 t1 rx g1 t'=>?_⟩;refine⟨ρ,G1,_,s.mono t1,g1,t',λvy H2 y G2 t2 ry g2 eS=>?_⟩;let⟨a,kvs,kk,rfl,rfl,q,dd⟩:=X7 (rx.mono t2) ry g2 eS;split at q
 .rename_i d e2;let⟨v,gg,rv⟩:=dd d e2;exact⟨a,v,rfl,gg,k v H2 d G2 (t1.trans t2) rv g2 q⟩
 .exact q.elim
def aUL(hu:X.A.units+64<qy):zL X (nj .In) LI:=CY λψ s σ H x y vx vy u v G R Q I rx ry ru rv g q k=>by
 let⟨a,kvs,kk,rfl,rfl,e1,_,q,dd⟩:=zP ry rx g q;let⟨o,gg,eo,_⟩:=dd.any;obtain rfl:v=bh.ref a:=rv;exact aXI ⋯ I gg ru λs' I'=>⟨.bl o.isSome,H,I',rfl,k _ H (.bl _) G (.refl H) (.bl _) g (by rw[eo];exact q)⟩
def aOP(hu:X.A.units+64<qy):zL X (nj .NotIn) TU:=CY λψ s σ H x y vx vy u v G R Q I rx ry ru rv g q k=>by
 let⟨a,kvs,kk,rfl,rfl,e1,_,q,dd⟩:=zP ry rx g q;let⟨o,gg,eo,_⟩:=dd.any;obtain rfl:v=bh.ref a:=rv;exact aGT ⋯ I gg ru λs' I'=>⟨.bl (!o.isSome),H,I',rfl,k _ H (.bl _) G (.refl H) (.bl _) g (by rw[eo];exact q)⟩
abbrev Fj(x y v:D)(F:eF)(ρ:aN)(G:Gp):Prop:=zO x y G λa t kvs k=>kvs.length<dh/\F.nx ρ (aM G a (.cX t (gB kvs k v)))
abbrev CQ(to ti tv:d7):bB:=λF ρ G=>tv ρ G λv G1=>to ρ G1 λx G2=>ti ρ G2 λy G3=>Fj x y v F ρ G3
def aOQ(hu:X.A.units+64<qy)(ho:dJ X o to)(hi:dJ X i ti)(hv:dJ X value tv)(hs:rS value (aj (.Subscript o i pos')) pos.line X.env=pure ao):eL X (.Assign [.Subscript o i pos'] value pos) (CQ to ti tv):=by
 refine PS.imp (aGW ⋯ ho hi hv hs) λF σ H h=>?_;let⟨ρ,G,E,s,g,t,u⟩:=h;refine⟨ρ,G,_,s,g,t,λv H1 d G1 t1 rv g1 t'=>?_⟩;refine⟨ρ,G1,_,s.mono t1,g1,t',λvx H2 x G2 t2 rx g2 eS=>?_⟩;refine⟨ρ,G2,_,s.mono (t1.trans t2),g2,eS,λvy H3 y G3 t3 ry g3 t4=>?_⟩;let⟨a,kvs,kk,rfl,rfl,e1,_,⟨hl,q⟩,dd⟩:=zP (rx.mono t3) ry g3 t4;let⟨H4,pp,tt,g4⟩:=dd.put g3 (rv.mono (t2.trans t3)) hl;exact⟨a,H4,rfl,pp,u.nx ρ _ σ _ (s.mono (((t1.trans t2).trans t3).trans tt)) g4 q⟩
abbrev yP(x:D)(G:Gp):Prop:=match x with
 |.ref a=>(match G a with
  |some (.cX _ _)=>True
  |_=>False)
 |_=>False
private theorem QS{K:Fg}(rx:RD K H x vx)(g:HR K H G)(h:yP x G):∃a,x=.ref a/\vx=.ref a/\pE H a:=by
 unfold yP at h;split at h
 .rename_i a;split at h
  .rename_i t kvs e;cases rx;rcases g a _ e with⟨_,xs,e2,_⟩|⟨_,xs,e2,_⟩
   .exact⟨a,rfl,rfl,.inl ⟨xs,.inl e2⟩⟩
   .exact⟨a,rfl,rfl,.inr ⟨xs,.inl e2⟩⟩
  .exact h.elim
 .exact h.elim
abbrev xH(to te tf:d7):d7:=λρ G R=>to ρ G λx G1=>yP x G1/\te ρ G1 λy G2=>tf ρ G2 λz G3=>zO x y G3 λ_ _ kvs k=>R ((bC kvs k).getD z) G3
def aHX(hu:X.A.units+64<qy)(ho:dJ X o to)(he:dJ X e te)(hf:dJ X f tf)(m:M2 X o "get" apos e f ah):dJ X (.Call (.Attribute o "get" apos) [e,f] [] ah) (xH to te tf):=by
 refine PE.imp (aAS ⋯ ho he hf m) λσ H Q h=>?_;let⟨ρ,G,R,s,g,t,k⟩:=h;refine⟨ρ,G,_,s,g,t,λvx H1 x G1 t1 rx g1 t'=>?_⟩;let⟨ot,t'⟩:=t';let⟨a,rfl,rfl,ia⟩:=QS rx g1 ot;refine⟨a,rfl,ia,?_⟩;refine⟨ρ,G1,_,s.mono t1,g1,t',λvy H2 y G2 t2 ry g2 eS=>?_⟩;refine⟨ρ,G2,_,s.mono (t1.trans t2),g2,eS,λvz H3 z G3 t3 rz g3 t4=>?_⟩;let⟨a',kvs,kk,e,_,e1,_,q,dd⟩:=zP (rx.mono (t2.trans t3)) (ry.mono t3) g3 t4;cases e;let⟨o,gg,eo,hd⟩:=dd.any;exact⟨o,gg,k _ H3 _ G3 ((t1.trans t2).trans t3) (hd z vz rz) g3 q⟩
end
end
variable{v:bh}{o:je}{apos ah:Pos}
section
section
variable{prog:lg}{w:ji}{K:Type}[DecidableEq K]{knd:HeapKind prog w K}{A:lu}{s:dg}{d:bx}{k:K}{xs:List (K×bx×bh)}
def aOR{xs:List (K×bx×bh)}{o:Obj}{es ep}(bp:knd.is s.heap k a)(ho:s.heap.get? d=aj o)(hc:o.ExactDict)(hd:o.data=.dict es ep)(he:es.toList=xs.map (entryOfKey knd))(oz:∀x∈xs,knd.is s.heap x.1 x.2.1)(hn:(xs.map (·.1)).Nodup)(qr:∀(j:Nat)(p:bx×bh),xs[j]?≠aj (k,p)) :
  (s.heap.update d (Obj.mapDictKeys (·.push ⟨knd.hash k,.ref a,v⟩))).DictOfH knd d (storedH xs k a v):=by
 have nk:k∉xs.map (·.1):=not_mem_keys_of_get qr;refine⟨_,_,ep+1,GZ _ ho (Obj.isFreed_of_dict (Obj.data_mapDictKeys hd _)),hc.mapDictKeys _,Obj.data_mapDictKeys hd _,?_,?_,?_⟩<;>rw[storedH_new (atKey_none_of_get qr)]
 .simp[he,entryOfKey]
 .intro x hx;rcases yp.mp hx with hx|hx
  .exact knd.keeps (oz x hx) ho hd (jr.update ..)
  .rw[ux]at hx;subst hx;exact knd.keeps bp ho hd (jr.update ..)
 .rw[qz,zj];refine⟨hn,by simp,λx hx y hy e=>?_⟩;rw[List.map_singleton,ux]at hy;exact nk (by rw[←show y=k from hy,←e];exact hx)
def aOS(hu:knd.room A)(bp:knd.is s.heap k a)(hm:s.heap.DictOfH knd d xs)(hsz:xs.length<=dh)
  (h1:∀p,atKey xs k=aj p->Q p.2 {s with toks:=s.toks+knd.draws k})
  (h2:atKey xs k=au->∀h',h'.DictOfH knd d (storedH xs k a v)->jr d s.heap h'->Q v {s with heap:=h',toks:=s.toks+knd.draws k}):dj (dz prog w) A (dictSetDefault d (.ref a) v) Q E s:=by
 let⟨o,es,ep,ho,hc,hd,he,oz,hn⟩:=hm;unfold dictSetDefault;refine ud (aq (knd.pyHash hu bp (aq (wpAny_dictFind_heap (s:={s with toks:=s.toks+knd.draws k}) hu bp ho hd he oz hn ?_ ?_))))
 .intro qr;refine aq (se (aq (wpAny_updateDictKeys (s:={s with toks:=s.toks+knd.draws k}) ho hd (cu (h2 (atKey_none_of_get qr) _ (aOR bp ho hc hd he oz hn qr) (jr.update ..))) (hz:=by have e:=size_of_entries he;omega))))
 .intro j p hj;refine aq (yh (s:={s with toks:=s.toks+knd.draws k}) ho hd ?_);rw[entry_at he j,hj];exact aq (se (cu (h1 p (atKey_of_get hn hj))))
def ahX(hu:knd.room A.in1)(bp:knd.is s.heap k a)(hs:(d==ur)=ao)(hm:s.heap.DictOfH knd d xs)(hsz:xs.length<=dh)
  (h1:∀p,atKey xs k=aj p->Q p.2 {s with toks:=s.toks+knd.draws k})
  (h2:atKey xs k=au->∀h',h'.DictOfH knd d (storedH xs k a v)->jr d s.heap h'->Q v {s with heap:=h',toks:=s.toks+knd.draws k}):dj (dz prog w) A (call (.builtin "dict.setdefault") [.ref d,.ref a,v]) Q E s:=by
 refine call_meetsIn (S:=λA' R s'=>knd.room A'.in1/\s'=s/\(∀p,atKey xs k=aj p->R (.ok (.ret p.2)) {s with toks:=s.toks+knd.draws k})/\(atKey xs k=au->∀h',h'.DictOfH knd d (storedH xs k a v)->jr d s.heap h'->R (.ok (.ret v)) {s with heap:=h',toks:=s.toks+knd.draws k})) PySem.F.slot_dict_setdefault hm.typeIs PySem.F.entry_dict_setdefault (PySem.F.args_dict_setdefault_3 _ _ _) (.of_wp ?_) ⟨hu,rfl,h1,h2⟩;rintro A' R s' ⟨qk,e,g1,g2⟩;subst e;unfold Builtin.«dict.setdefault»;refine aq ?_;unfold Builtin.Dict.keyAndDefault;refine aq (wpAny_notOrdered_dict hm.typeIs ?_);show dj _ _ (pure (d,bh.ref a,aj v)) _ _ _;refine cu ?_;show dj _ _ (if(d==ur)=ak then _ else(dictSetDefault d (.ref a) v >>= _)) _ _ _;rw[if_neg (by rw[hs];exact qg)];exact aq (aOS qk bp hm hsz (λp hp=>cu ⟨p.2,rfl,g1 p hp⟩) λhn h' Iy qo=>cu ⟨v,rfl,g2 hn h' Iy qo⟩)
abbrev rZ(xs:List (K×bx×bh))(k:K):List (K×bx×bh):=xs.filter λx=>decide (x.1≠k)
def δ{xs:List (K×bx×bh)}(hn:(xs.map (·.1)).Nodup)(hj:xs[j]?=aj (k,p)):rZ xs k=xs.eraseIdx j:=by
 induction xs generalizing j with
 |nil=>simp at hj
 |cons x r ih =>
  rw[kj,yq]at hn;cases j with
  |zero =>
   simp at hj;subst hj
   have:∀y∈r,decide (y.1≠k)=ak:=λy hy=>by
    simp only[decide_eq_true_eq];intro e;exact hn.1 (jw.mpr ⟨y,hy,e⟩)
   rw[rZ,zy,if_neg (by simp),List.filter_eq_self.mpr this];rfl
  |succ j =>
   have ES:r[j]?=aj (k,p):=by simpa using hj
   have ne:x.1≠k:=λe=>hn.1 (by rw[e];exact jw.mpr ⟨(k,p),lq ES,rfl⟩);have:=ih hn.2 ES;simp[rZ,zy,ne]at this ⊢;exact this
variable{p:bx×bh}
def aHY(hu:knd.room A)(bp:knd.is s.heap k a)(hm:s.heap.DictOfH knd d xs)(hsz:xs.length<=dh)(hp:atKey xs k=aj p)
  (h:∀h' e,e.key=.ref p.1->e.val=p.2->h'.DictOfH knd d (rZ xs k)->jr d s.heap h'->Q (aj e) {s with heap:=h',toks:=s.toks+knd.draws k}):dj (dz prog w) A (Builtin.Dict.takeOut d (.ref a)) Q E s:=by
 let⟨o,es,ep,ho,hc,hd,he,oz,hn⟩:=hm;unfold Builtin.Dict.takeOut;refine ud (aq (knd.pyHash hu bp (aq (wpAny_dictFind_heap (s:={s with toks:=s.toks+knd.draws k}) hu bp ho hd he oz hn ?_ ?_))))
 .intro qr;rw[atKey_none_of_get qr]at hp;cases hp
 .intro j q hj;rw[atKey_of_get hn hj]at hp;cases hp;refine aq (yh (s:={s with toks:=s.toks+knd.draws k}) ho hd ?_);rw[entry_at he j,hj];refine aq (wpAny_updateDictKeys (s:={s with toks:=s.toks+knd.draws k}) ho hd (cu (h _ _ rfl rfl ⟨_,_,ep+1,GZ _ ho (Obj.isFreed_of_dict (Obj.data_mapDictKeys hd _)),hc.mapDictKeys _,Obj.data_mapDictKeys hd _,?_,?_,?_⟩ (jr.update ..))) (hz:=by have e:=size_of_entries he;omega) (hf:=?_))
  .rw[δ hn hj];have WX:j<es.size:=by rw[size_of_entries he];exact(iz.mp hj).1
   have em:∀(l:List (K×bx×bh))(j:Nat),(l.map (entryOfKey knd)).eraseIdx j=(l.eraseIdx j).map (entryOfKey knd):=by
    intro l
    induction l with
    |nil=>intro j;rfl
    |cons x r ih=>intro j;cases j with
     |zero=>rfl
     |succ j=>simp[ih]
   simp[Array.eraseIdxIfInBounds,WX,he,em]
  .intro x hx;exact knd.keeps (oz x (zm.mp hx).1) ho hd (jr.update ..)
  .exact(Mz.map _).nodup hn
  .show(es.eraseIdxIfInBounds j).size<=es.size+1;unfold Array.eraseIdxIfInBounds;split<;>simp<;>omega
def aOT(hu:knd.room A.in1)(bp:knd.is s.heap k a)(hm:s.heap.DictOfH knd d xs)(hsz:xs.length<=dh)(hp:atKey xs k=aj p)
  (h:∀h',h'.DictOfH knd d (rZ xs k)->jr d s.heap h'->Q p.2 {s with heap:=h',toks:=s.toks+knd.draws k}):dj (dz prog w) A (call (.builtin "dict.pop") [.ref d,.ref a]) Q E s:=by
 refine call_meetsIn (S:=λA' R s'=>knd.room A'.in1/\s'=s/\∀h',h'.DictOfH knd d (rZ xs k)->jr d s.heap h'->R (.ok (.ret p.2)) {s with heap:=h',toks:=s.toks+knd.draws k}) PySem.F.slot_dict_pop hm.typeIs PySem.F.entry_dict_pop (PySem.F.args_dict_pop_2 _ _) (.of_wp ?_) ⟨hu,rfl,h⟩;rintro A' R s' ⟨qk,e,g⟩;subst e;have l8:xs≠[]:=λe=>by subst e;cases hp
 let⟨o,es,ep,ho,hc,hd,he,oz,hn⟩:=id hm;unfold Builtin.«dict.pop»;refine aq ?_;unfold Builtin.Dict.keyAndDefault;refine aq (wpAny_notOrdered_dict hm.typeIs ?_);show dj _ _ (pure (d,bh.ref a,au)) _ _ _;refine cu ?_
 have e0:es.isEmpty=ao:=by
  have:=size_of_entries he;rw[Array.isEmpty_eq_false_iff];intro z;subst z;exact l8 (List.length_eq_zero_iff.mp this.symm)
 show dj _ _ (dictEntries d >>= _) _ _ _;refine aq (yh ho hd ?_);rw[e0];refine aq (cu ?_);show dj _ _ (Builtin.Dict.takeOut d (bh.ref a) >>= _) _ _ _;refine aq (aHY qk bp hm hsz hp λh' e e1 e2 dd hs=>?_);refine aq (wpAny_letGo (cu ⟨_,rfl,?_⟩));rw[e2];exact g h' dd hs
end
def KT.drop(r:KT H kvs xs)(k:List Key):KT H (ml kvs k) (rZ xs k):=by
 unfold ml rZ
 induction r with
 |nil=>exact .nil
 |@cons p q ps qs h t ih =>
  rw[zy,zy];by_cases e:p.1=k
  .rw[if_neg (by simp[e]),if_neg (by simp[h.1.symm.trans e])];exact ih
  .rw[if_pos (by simp[e]),if_pos (by simp;exact λz=>e (h.1.trans z))];exact .cons h ih
def Gs{κ:Type}[DecidableEq κ]{K:Fg}{f:κ->DK}(hf:∀a b,f a=f b->a=b){k:κ}:∀{kvs:List (DK×D)}{xs:List (κ×V)},fe K H f kvs xs->fe K H f (cD kvs (f k)) (ml xs k)
 |_,_,.nil=>.nil
 |p::kvs,q::xs,.cons h r=>by
  unfold cD ml;rw[zy,zy];by_cases c:q.1=k
  .rw[if_neg (by simp[show p.1=f k by rw[h.1,c]]),if_neg (by simp[c])];exact Gs hf r
  .rw[if_pos (by simp;exact λz=>c (hf _ _ (h.1.symm.trans z))),if_pos (by simp[c])];exact .cons h (Gs hf r)
abbrev x4(r:kr)(to:d7)(t:bo):d7:=λρ G R=>to ρ G λx G1=>yP x G1/\t ρ G1 λxs G2=>r x xs G2 R
section
variable{X:Cx}
def Si{t:bo}{id:String}{r3:kr}(slot:Slot "dict" name id)(Ca:typeOf (.builtin id)=pure (.type "method_descriptor"))(hm:rg X id r3)(ho:dJ X o to)(ha:eM X (e::es) t)
  (aT:uf o name X.env (eval o X.env)=eval o X.env)
  (Af:((uc ah (jg (e::es) X.env)).all (λx=>!x.1)&&(backToKw ah (pw [] X.env)).all (λx=>x.1.isSome)
   &&decide ((e::es).length+([]:List ip).length+(if([]:List ip).isEmpty then 0 else 1)<30))=ak)
  (aS:(apos.endLine==ah.line)=ak)(hs:jg (e::es) X.env=(ao,eval e X.env)::jg es X.env)(d6:(uc ah (jg es X.env)).any (·.1)=ao) :
  dJ X (.Call (.Attribute o name apos) (e::es) [] ah) (x4 r3 to t):=by
 intro ψ s σ H Q I h;let⟨ρ,G,R,sr,g,q,kk⟩:=h;refine wpAny_Call_method_late aT Af aS rfl (fW (ho ψ s σ H (λvx H1=>Ts H H1/\∃x G1,RD X.K H1 x vx/\HR X.K H1 G1/\yP x G1/\t ρ G1 λxs G2=>r3 x xs G2 R) I ⟨ρ,G,_,sr,g,q,λv H1 x G1 t1 r1 g1 q1=>⟨t1,x,G1,r1,g1,q1⟩⟩) ?_);rintro v s1 ⟨vx,H1,I1,r1,t1,x,G1,rx,g1,ty,q1⟩;let⟨a,rfl,rfl,ia⟩:=QS rx g1 ty;obtain rfl:v=bh.ref a:=r1;let⟨h1,h2,_⟩:=C2 I1 ia;refine⟨"dict",id,PySem.F.plainAttrs_dict,slot,Ca,h1,h2,?_⟩;have hA:=ha ah ψ s1 σ H1 (λvs H2=>Ts H1 H2/\∃xs G2,cZ X.K H2 xs vs/\HR X.K H2 G2/\r3 (.ref a) xs G2 R) I1 ⟨ρ,G1,_,sr.mono t1,g1,q1,λvs H2 xs G2 t2 r2 g2 q2=>⟨t2,xs,G2,r2,g2,q2⟩⟩;rw[hs]at hA ⊢;refine Calls.callWith_builtin (by show(ao||(uc ah (jg es X.env)).any (·.1))=ao;rw[d6]<;>rfl) (Calls.evalArgs_plain ?_);exact fW hA (by rintro us s2 ⟨vs,H2,I2,r2,t2,xs,G2,rs,g2,q2⟩;exact hm ψ s2 σ H2 (.ref a) xs (.ref a) vs (.ref a) us G2 R Q I2 (.ref a) rs rfl r2 g2 q2 λv H' d G' t3=>kk v H' d G' ((t1.trans t2).trans t3))
abbrev uC:kr:=λx xs G R=>match xs with
 |[y,z]=>zO x y G λa t kvs k=>t=ak/\kvs.length<dh/\(match bC kvs k with
  |some d=>R d G
  |none=>R z (aM G a (.cX t (gB kvs k z))))
 |_=>False
private theorem aUN(hu:X.A.units+64<qy):rg X "dict.setdefault" uC:=by
 intro ψ s σ H x xs vx vs u us G R Q I rx rs ru rv g q k;unfold uC at q;split at q
 case h_2=>exact q.elim
 case h_1 y z =>
  cases rs with
  |cons ry rs =>
  cases rs with
  |@cons _ vz _ _ rz rs =>
  cases rs;cases rv with
  |cons En rv =>
  cases rv with
  |cons Nv rv =>
  cases rv;let⟨a,kvs,kk,rfl,rfl,e1,_,⟨ht,hl,q⟩,dd⟩:=zP rx ry g q;obtain rfl:u=bh.ref a:=ru;rcases dd with⟨k',ys,rfl,_⟩|⟨ks,ys,b,rfl,e,r,rfl,eb⟩
  .cases ht
  .cases En;let⟨z1,hd,ws,rel,dc⟩:=CG I.aa e;have hw:=val_two uM (k:=ks) r;have hv:=rel.val ks;have lw:ws.length<=dh:=by rw[←Paired.length rel];exact z1
   refine ahX (zl ⋯) (vF I.aa eb) hd dc lw (λp hp=>?_) λhn h' IS hs=>?_
   .rw[hp]at hv;cases e2:bC kvs (.inr ks)with
    |none=>rw[hw.2 e2]at hv;exact(show False from hv).elim
    |some d =>
     rw[e2]at q;let⟨v,e3,rd⟩:=hw.1 d e2;rw[e3]at hv;exact⟨v,H,I.tok _,hv,k v H d G (.refl H) rd g q⟩
   .rw[hn]at hv;cases e2:bC kvs (.inr ks)with
    |some d =>
     let⟨v,e3,rd⟩:=hw.1 d e2;rw[e3]at hv;exact(show False from hv).elim
    |none =>
     rw[e2]at q;have tt:Ts H (upd H a (.dT (putK ys ks vz))):=.turn e (λ_ z=>nomatch z) (λ_ _ z=>nomatch z);let⟨q0,es,ep,hq,g2,g3,g4,_,g5⟩:=IS;have EO:∀v:V,(putK ys ks v).length<=dh:=λv=>by have:=My ys ks v;rw[←r.length]at this;omega
     refine⟨_,_,Dr (t':=_) (ob:=.dT (putK ys ks vz)) I (by rw[e];exact True.intro) hs ⟨q0,hq⟩ ⟨EO _,hd,_,(rel.put ks eb Nv).keeps λc zs ec=>?_,q0,es,ep,hq,g2,g3,g4,g5⟩,Nv,k _ _ z _ tt (rz.mono tt) (g.turn (u:=.cX ak _) tt (.inr ⟨rfl,_,aL,(FR uM rz r).imp λ_ _ q=>⟨q.1,q.2.mono tt⟩⟩)) q⟩;rw[bD (LR ec e (λz=>nomatch z))];exact ec
abbrev Bb:kr:=λx xs G R=>match xs with
 |[y]=>zO x y G λa t kvs k=>(match bC kvs k with
  |some d=>R d (aM G a (.cX t (cD kvs k)))
  |none=>False)
 |_=>False
private theorem aOU(hu:X.A.units+64<qy):rg X "dict.pop" Bb:=by
 intro ψ s σ H x xs vx vs u us G R Q I rx rs ru rv g q k
 match xs,rs,q with
 |[],_,q=>exact q.elim
 |_::_::_,_,q=>exact q.elim
 |[y],.cons ry .nil,q =>
  cases rv with
  |cons En rv =>
  cases rv;let⟨a,kvs,kk,rfl,rfl,e1,_,q,dd⟩:=zP rx ry g q;obtain rfl:u=bh.ref a:=ru;split at q
  .rename_i d e2;rcases dd with⟨k',ys,rfl,e,r,rfl⟩|⟨ks,ys,b,rfl,e,r,rfl,eb⟩
   .obtain⟨v,e3,rd⟩:=(val_two rC (k:=k') r).1 d e2;have tt:Ts H (upd H a (.dK (ml ys k'))):=.turn e (λ_ z=>nomatch z) (λ_ _ z=>nomatch z);exact aSS I e En e3 (.inl rfl) λw' s' I' fE=>⟨v,_,I',fE,k v _ d _ tt (rd.mono tt) (g.turn (u:=.cX ao _) tt (.inl ⟨rfl,_,aL,(Gs rC r).imp λ_ _ q=>⟨q.1,q.2.mono tt⟩⟩)) q⟩
   .obtain⟨v,e3,rd⟩:=(val_two uM (k:=ks) r).1 d e2;cases En;let⟨z1,hd,ws,rel,dc⟩:=CG I.aa e;have hv:=rel.val ks;rw[e3]at hv;have lw:ws.length<=dh:=by rw[←Paired.length rel];exact z1
    cases hp:atKey ws ks with
    |none=>rw[hp]at hv;exact(show False from hv).elim
    |some p =>
     rw[hp]at hv;have tt:Ts H (upd H a (.dT (ml ys ks))):=.turn e (λ_ z=>nomatch z) (λ_ _ z=>nomatch z);refine aOT (zl ⋯) (vF I.aa eb) dc lw hp λh' IS hs=>?_;let⟨q0,es,ep,hq,g2,g3,g4,_,g5⟩:=IS;refine⟨v,_,Dr (t':=_) (ob:=.dT (ml ys ks)) I (by rw[e];exact True.intro) hs ⟨q0,hq⟩ ⟨qd (Qv ys ks) z1,hd,_,(rel.drop ks).keeps λc zs ec=>?_,q0,es,ep,hq,g2,g3,g4,g5⟩,hv,k v _ d _ tt (rd.mono tt) (g.turn (u:=.cX ak _) tt (.inr ⟨rfl,_,aL,(Gs uM r).imp λ_ _ q=>⟨q.1,q.2.mono tt⟩⟩)) q⟩;rw[bD (LR ec e (λz=>nomatch z))];exact ec
  .exact q.elim
abbrev Ba:List D->Gp->jC->Prop:=λxs G R=>match xs with
 |[.ref a]=>(match G a with
  |some (.cX ao kvs)=>R (.int kvs.length) G
  |_=>False)
 |_=>False
private theorem aOV:eV X (.builtin "len") Ba:=by
 intro ψ s σ H xs vs us G R Q I rx rv g q k;unfold Ba at q;split at q
 .rename_i a;split at q
  .rename_i kvs e1;cases rx with
   |cons r1 rr =>
   cases rr;cases r1;cases rv with
   |cons rv rr =>
   cases rr;cases rv;rcases g a _ e1 with⟨_,ys,e,r⟩|⟨z,_⟩
   .refine aST I (.inl e) λt s' I'=>⟨.int ys.length,H,I',⟨t,rfl⟩,k _ H (.int kvs.length) G (.refl H) (by rw[r.length];exact .int _) g q⟩
   .cases z
  .exact q.elim
 .exact q.elim
end
end
variable{l:bx}{q:Array Nat}{M B:Int}
section
open PySem.W
variable{i:Nat}
section
variable{cmp:Nat->Nat->(Bool->dg->Prop)->dg->Prop}{I:dg->Prop}{kf:Nat->Int}
abbrev ky(kf:Nat->Int)(p:Array Nat)(i:Nat):Int:=kf (p.getD i 0)
abbrev Up(kf:Nat->Int)(p:Array Nat)(k:Nat):Prop:=∀i j,i<=j->j<k->ky kf p i<=ky kf p j
abbrev Down(kf:Nat->Int)(p:Array Nat)(k:Nat):Prop:=∀i j,i<j->j<k->ky kf p j<ky kf p i
abbrev kG(cmp:Nat->Nat->(Bool->dg->Prop)->dg->Prop)(I:dg->Prop)(kf:Nat->Int)(n:Nat):Prop:=∀i j C s,i<n->j<n->I s->(∀s',I s'->C (decide (kf i<kf j)) s')->cmp i j C s
structure Pm(n:Nat)(p:Array Nat):Prop where
 size:p.size=n
 perm:p.toList.Perm (ou n)
def Pm.lt{p:Array Nat}(h:Pm n p)(hi:i<n):p.getD i 0<n:=by
 have hs:i<p.size:=by rw[h.size];exact hi
 have e:p.getD i 0=p[i]:=by simp[y7,hs]
 rw[e];exact xr.mp (h.perm.mem_iff.mp (by simp))
def Pm.inj{p:Array Nat}(h:Pm n p)(hi:i<n)(hj:j<n)(e:p.getD i 0=p.getD j 0):i=j:=by
 have hs:i<p.size:=by rw[h.size];exact hi
 have ht:j<p.size:=by rw[h.size];exact hj
 have nd:p.toList.Nodup:=(h.perm.nodup_iff).mpr List.nodup_range;have e1:p.getD i 0=p[i]:=by simp[y7,hs]
 have e2:p.getD j 0=p[j]:=by simp[y7,ht]
 rw[e1,e2]at e;have key:=vq.mp nd;have qo:i<p.toList.length:=by simpa using hs
 have NY:j<p.toList.length:=by simpa using ht
 rcases BB i j with c|c|c
 .exact absurd (by simpa using e) (key i j qo NY c)
 .exact c
 .exact absurd (by simpa using e.symm) (key j i NY qo c)
def FQ{p:Array Nat}(h:p[i]?=q[j]?):p.getD i 0=q.getD j 0:=by
 rw[Array.getD_eq_getD_getElem?,Array.getD_eq_getD_getElem?,h]
def TR{p:Array Nat}{k:Nat}(hn:n<=p.size)(hk:k<n):ky kf (kas_rev p 0 n) k=ky kf p (n - 1 - k):=by
 unfold ky kas_rev;have e:=getElem?_mirror_all (xs:=p) (i:=0) (j:=n) hn k;rw[if_pos ⟨xu _,hk⟩,Nat.zero_add]at e;rw[FQ e]
def Pm.rev{m:Nat}(h:Pm n p):Pm n (kas_rev p 0 m):=⟨by rw[kas_rev_size];exact h.size,((mirror_perm p 0 m _).toList).trans h.perm⟩
def Down.up{p:Array Nat}(hn:n<=p.size)(h:Down kf p n):Up kf (kas_rev p 0 n) n:=λi j AB hj=>by
 rw[TR hn ⋯,TR hn hj];by_cases c:i=j
 .subst c;exact mn _
 .exact Int.le_of_lt (h (n - 1 - j) (n - 1 - i) ⋯ ⋯)
def Je{n:Nat}(hc:kG cmp I kf n)(P:Pm n p):∀(f a:Nat)(s:dg),1<=a->a+f<=n->Up kf p a->I s->(∀m s',a<=m->m<=a+f->Up kf p m->(m<a+f->ky kf p m<ky kf p (m - 1))->I s'->Q m s')->(kas_asc p f a).kasWp cmp Q s
 |0,a,s,h1,h2,u,i,h=>h a s (fj _) (fj _) u (λz=>absurd z (vg _)) i
 |f+1,a,s,h1,h2,u,i,h=>by
  show cmp (p.getD a 0) (p.getD (a - 1) 0) _ s;refine hc _ _ _ s (P.lt ⋯) (P.lt ⋯) i λs' i'=>?_;by_cases c:kf (p.getD a 0)<kf (p.getD (a - 1) 0)
  .rw[decide_eq_true c];dsimp only;rw[if_pos rfl];exact h a s' (fj _) ⋯ u (λ_=>c) i'
  .rw[decide_eq_false c];dsimp only;rw[if_neg (by decide)];refine Je hc P f (a+1) s' ⋯ ⋯ (λx y xk hy=>?_) i' λm s2 l1 l2 u2 l3 i2=>h m s2 ⋯ ⋯ u2 (λz=>l3 ⋯) i2;by_cases cy:y<a
   .exact u x y xk cy
   .have ey:y=a:=by omega
    subst ey;by_cases cx:x=y
    .subst cx;exact mn _
    .have:=u x (y - 1) ⋯ ⋯;have c':ky kf p (y - 1)<=ky kf p y:=by unfold ky;omega
     omega
def O9{n:Nat}(hc:kG cmp I kf n)(hd:∀i j,i<n->j<n->kf i=kf j->i=j)(P:Pm n p):∀(f a:Nat)(s:dg),2<=a->a+f<=n->Down kf p a->I s->(∀m s',a<=m->m<=a+f->Down kf p m->I s'->Q (p,m,0) s')->(kas_desc f p a 0).kasWp cmp Q s
 |0,a,s,h1,h2,u,i,h=>h a s (fj _) (fj _) u i
 |f+1,a,s,h1,h2,u,i,h=>by
  show cmp (p.getD a 0) (p.getD (a - 1) 0) _ s;refine hc _ _ _ s (P.lt ⋯) (P.lt ⋯) i λs' i'=>?_;by_cases c:kf (p.getD a 0)<kf (p.getD (a - 1) 0)
  .rw[decide_eq_true c];dsimp only;rw[if_pos rfl,if_neg ⋯];refine O9 hc hd P f (a+1) s' ⋯ ⋯ (λx y xk hy=>?_) i' λm s2 l1 l2 u2 i2=>h m s2 ⋯ ⋯ u2 i2;by_cases cy:y<a
   .exact u x y xk cy
   .have ey:y=a:=by omega
    subst ey;have c':ky kf p y<ky kf p (y - 1):=c;by_cases cx:x=y - 1
    .subst cx;exact c'
    .have:=u x (y - 1) ⋯ ⋯;omega
  .rw[decide_eq_false c];dsimp only;rw[if_neg (by decide)];show cmp (p.getD (a - 1) 0) (p.getD a 0) _ s';refine hc _ _ _ s' (P.lt ⋯) (P.lt ⋯) i' λs2 i2=>?_
   have ne:kf (p.getD a 0)≠kf (p.getD (a - 1) 0):=λz=>by
    have:=P.inj (i:=a) (j:=a - 1) ⋯ ⋯ (hd _ _ (P.lt ⋯) (P.lt ⋯) z);omega
   rw[decide_eq_true (show kf (p.getD (a - 1) 0)<kf (p.getD a 0) by omega)];dsimp only;rw[if_pos rfl];exact h a s2 (fj _) ⋯ u i2
def aC8(hc:kG cmp I kf n)(hd:∀i j,i<n->j<n->kf i=kf j->i=j)(h2:2<=n)(P:Pm n p)(i:I s)(h:∀m q s',1<=m->m<=n->Pm n q->Up kf q m->I s'->Q (m,q) s'):(kas_count n p).kasWp cmp Q s:=by
 unfold kas_count;rw[KasT.kasWp_bind];refine Je hc P (n - 1) 1 s (fj _) ⋯ (λx y xk hy=>by have:x=y:=⋯;subst this;exact mn _) i λm s' l1 l2 u l3 i'=>?_;by_cases c:m=n
 .subst c;rw[if_pos (by simp)];exact h m p s' l1 ⋯ P u i'
 .rw[if_neg (by simpa using c)];by_cases c1:m>1
  .rw[if_pos c1];show cmp (p.getD 0 0) (p.getD (m - 1) 0) _ s';refine hc _ _ _ s' (P.lt ⋯) (P.lt ⋯) i' λs2 i2=>?_
   have ne:kf (p.getD 0 0)≠kf (p.getD (m - 1) 0):=λz=>by
    have:=P.inj (i:=0) (j:=m - 1) ⋯ ⋯ (hd _ _ (P.lt ⋯) (P.lt ⋯) z);omega
   have le:ky kf p 0<=ky kf p (m - 1):=u 0 (m - 1) ⋯ ⋯;unfold ky at le;rw[decide_eq_true (show kf (p.getD 0 0)<kf (p.getD (m - 1) 0) by omega)];dsimp only;rw[if_pos rfl];exact h m p s2 l1 ⋯ P u i2
  .rw[if_neg c1];have e1:m=1:=by omega
   subst e1;unfold kas_descPart;rw[KasT.kasWp_bind];refine O9 hc hd P (n - (1+1)) (1+1) s' ⋯ ⋯ (λx y xk hy=>?_) i' λm s2 k1 k2 dn i2=>?_
   .have ex:x=0:=by omega
    have ey:y=1:=by omega
    subst ex;subst ey;exact l3 ⋯
   .dsimp only;rw[if_neg ⋯];unfold kas_tail3;rw[KasT.kasWp_bind];refine Je hc (P.rev (m:=m)) (n - m) m s2 ⋯ ⋯ (dn.up (by rw[P.size];omega)) i2 λk s3 q1 q2 u3 _ i3=>h k _ s3 ⋯ ⋯ P.rev u3 i3
def Kk{n:Nat}(hc:kG cmp I kf n)(P:Pm n p){k:Nat}(hk:k<n)(u:Up kf p k):∀(f l r:Nat)(s:dg),l<=r->r<=k->r - l<=f->(∀x,x<l->ky kf p x<=ky kf p k)->(∀x,r<=x->x<k->ky kf p k<ky kf p x)->I s ->
   (∀m s',m<=k->(∀x,x<m->ky kf p x<=ky kf p k)->(∀x,m<=x->x<k->ky kf p k<ky kf p x)->I s'->Q m s')->(kas_place p k f l r).kasWp cmp Q s
 |0,l,r,s,h1,h2,h3,a,b,i,h=>h l s ⋯ a (λx hx=>b x ⋯) i
 |f+1,l,r,s,h1,h2,h3,a,b,i,h=>by
  unfold kas_place;by_cases c0:l≥r
  .rw[if_pos c0];exact h l s ⋯ a (λx hx=>b x ⋯) i
  .rw[if_neg c0];show cmp (p.getD k 0) (p.getD ((l+r) / 2) 0) _ s;refine hc _ _ _ s (P.lt ⋯) (P.lt ⋯) i λs' i'=>?_;by_cases c:kf (p.getD k 0)<kf (p.getD ((l+r) / 2) 0)
   .rw[decide_eq_true c];dsimp only;rw[if_pos rfl];refine Kk hc P hk u f l ((l+r) / 2) s' ⋯ ⋯ ⋯ a (λx hx WL=>?_) i' h;have:=u ((l+r) / 2) x hx WL;have c':ky kf p k<ky kf p ((l+r) / 2):=c;omega
   .rw[decide_eq_false c];dsimp only;rw[if_neg (by decide)];refine Kk hc P hk u f ((l+r) / 2+1) r s' ⋯ ⋯ ⋯ (λx hx=>?_) b i' h;have:=u x ((l+r) / 2) ⋯ ⋯;have c':ky kf p ((l+r) / 2)<=ky kf p k:=by unfold ky;omega
    omega
def TQ{n:Nat}(hc:kG cmp I kf n):∀(f k:Nat)(p:Array Nat)(s:dg),Pm n p->1<=k->k+f=n->Up kf p k->I s->(∀q s',Pm n q->Up kf q n->I s'->Q q s')->(kas_bin f p k).kasWp cmp Q s
 |0,k,p,s,P,h1,h2,u,i,h=>h p s P (by rw[←h2];exact u) i
 |f+1,k,p,s,P,h1,h2,u,i,h=>by
  unfold kas_bin;rw[KasT.kasWp_bind];refine Kk hc P ⋯ u k 0 k s (xu _) (fj _) ⋯ (λx hx=>absurd hx (Nat.not_lt_zero _)) (λx hx hk=>absurd hx ⋯) i λm s' l1 a b i'=>?_;have hs:k<p.size:=by rw[P.size];omega
  refine TQ hc f (k+1) _ s' ⟨by rw[bubble_size];exact P.size,((bubble_perm p k _).toList).trans P.perm⟩ ⋯ ⋯ (λx y xk hy=>?_) i' h
  have e:∀z,ky kf (bubble p k (k - m)) z=if z=m then ky kf p k else if m<z/\z<=k then ky kf p (z - 1)else ky kf p z:=λz=>by
   have e:=getElem?_bubble hs (k - m) ⋯ z;rw[show k - (k - m)=m by omega]at e;by_cases c:z=m
   .rw[if_pos c]at e ⊢;exact congrArg kf (FQ e)
   .rw[if_neg c]at e ⊢;by_cases c2:m<z/\z<=k
    .rw[if_pos c2]at e ⊢;exact congrArg kf (FQ e)
    .rw[if_neg c2]at e ⊢;exact congrArg kf (FQ e)
  have e1:ky kf (bubble p k (k - m)) m=ky kf p k:=by rw[e,if_pos rfl]
  have e2:∀z,m<z->z<=k->ky kf (bubble p k (k - m)) z=ky kf p (z - 1):=λz h1 h2=>by rw[e,if_neg ⋯,if_pos ⟨h1,h2⟩]
  have e3:∀z,z<m->ky kf (bubble p k (k - m)) z=ky kf p z:=λz h1=>by rw[e,if_neg ⋯,if_neg ⋯]
  rcases BB x m with c|c|c
  .rw[e3 x c];rcases BB y m with d|d|d
   .rw[e3 y d];exact u x y xk ⋯
   .rw[d,e1];exact a x c
   .rw[e2 y d ⋯];exact u x (y - 1) ⋯ ⋯
  .rw[c,e1];by_cases d:y=m
   .rw[d,e1];exact mn _
   .rw[e2 y ⋯ ⋯];exact Int.le_of_lt (b (y - 1) ⋯ ⋯)
  .rw[e2 x c ⋯,e2 y ⋯ ⋯];exact u (x - 1) (y - 1) ⋯ ⋯
def aHZ(hc:kG cmp I kf n)(hd:∀i j,i<n->j<n->kf i=kf j->i=j)(h2:2<=n)(i:I s)(h:∀q s',Pm n q->Up kf q n->I s'->Q q s'):(kas_sort n).kasWp cmp Q s:=by
 unfold kas_sort;rw[KasT.kasWp_bind];refine aC8 hc hd h2 ⟨by simp,by simp⟩ i λm q s' l1 l2 P u i'=>?_;dsimp only;by_cases c:m<n
 .rw[if_pos c];have e:max m 1=m:=by omega
  rw[e];exact TQ hc (n - m) m q s' P l1 ⋯ u i' h
 .rw[if_neg c];have:m=n:=by omega
  subst this;exact h q s' P u i'
end
variable{vs:List bh}
section
variable{prog:lg}{w:ji}{A:lu}{s:dg}
abbrev Cy(prog:lg)(w:ji)(A:lu)(s:dg)(kf:Nat->Int)(vs:List bh)(h':kh):Prop :=
 ∃κ,(∀Q:SortKind->dg->Prop,Q κ {s with heap:=h' }->dj (dz prog w) A (keyKind' vs.toArray) Q (λ_ _=>False) {s with heap:=h' })/\∀i j (C:Bool->dg->Prop),i<vs.length->j<vs.length->C (decide (kf i<kf j)) {s with heap:=h' }->kas_ask prog w A κ vs i j C {s with heap:=h' }
def X6{l:List bh}(h:l.length<2):(l.toArray.zip l.toArray).map (·.2)=((ou l.length).toArray.toList.map λi=>l.getD i bh.none).toArray:=by
 cases l with
 |nil=>simp
 |cons v r =>
  cases r with
  |nil=>simp
  |cons _ _=>simp at h;omega
def Kj{kf:Nat->Int}(ho:s.heap.get? a=aj (qb "list" vs.toArray n))(eJ:vs.length<64)(hd:∀i j,i<vs.length->j<vs.length->kf i=kf j->i=j)
  (hk:2<=vs.length->∀h':kh,(∀b o,b≠a->s.heap.get? b=aj o->h'.get? b=aj o)->Cy prog w A s kf vs h')
  (h:∀q,Pm vs.length q->Up kf q vs.length->P (.done (.ret .none)) {s with heap:=sortedHeap s.heap a vs (q.toList.map λi=>vs.getD i bh.none).toArray}):dj (dz prog w) A (Builtin.«list.sort» ⟨[.ref a],[]⟩) P E s:=by
 have big:1000<dh:=by decide
 have la:a<s.heap.objs.size:=gk ho;rw[list_sort_plain];refine aq (listItems_at ho rfl (aq (listUpdate_at ho rfl ?_ (by rw[gV];omega) (xu _))));obtain⟨e1,N4⟩:∃e1,(s.heap.update a (Obj.mapSeq λ_=>(#[]:Array bh))).get? a=aj (qb "list" #[] e1):=⟨_,DG ho λ_=>#[]⟩;refine aq (seqEpoch_at N4 rfl (aq (wpAny_newTuple ?_ (by show vs.length<=_;omega))));refine aq (wpAny_newList ?_ (xu _));refine ud ?_;have s0:=jr.update s.heap a (Obj.mapSeq λ_=>(#[]:Array bh));have kp:∀b o,b≠a->s.heap.get? b=aj o->(((s.heap.update a (Obj.mapSeq λ_=>(#[]:Array bh))).push (qb "tuple" vs.toArray 0)).push (qb "list" #[] 0)).get? b=aj o:=λb o hb e=>cj _ (cj _ ((s0.2 b hb).trans e));have EJ:(((s.heap.update a (Obj.mapSeq λ_=>(#[]:Array bh))).push (qb "tuple" vs.toArray 0)).push (qb "list" #[] 0)).get? a=aj (qb "list" #[] e1):=cj _ (cj _ N4);show dj (dz prog w) A _ P E {s with heap:=((s.heap.update a (Obj.mapSeq λ_=>(#[]:Array bh))).push (qb "tuple" vs.toArray 0)).push (qb "list" #[] 0)};dsimp only;by_cases c2:vs.toArray.size<2
 .rw[if_pos c2,if_pos c2];refine aq (cu ?_);rw[StateT.run_pure];refine aq (cu ?_);dsimp only;have c3:vs.length<2:=by simpa using c2
  have eo:(arrOf (SortSt.mk' general' (vs.toArray.zip vs.toArray) #[] 7 au)).map (·.2)=((ou vs.length).toArray.toList.map λi=>vs.getD i bh.none).toArray:=by
   show(vs.toArray.zip vs.toArray).map (·.2)=_;exact X6 c3
  refine aq (seqEpoch_at EJ rfl ?_);rw[eo];refine aq (listUpdate_at EJ rfl ?_ (xu _) (by simp;omega));simp only[bne_self_eq_false,um,if_false];exact cu (h (ou vs.length).toArray ⟨by rw[gV,List.length_range],.refl _⟩ λi j AB hj=>by have:i=j:=⋯;subst this;exact mn _)
 .rw[if_neg c2,if_neg c2];have l2:2<=vs.length:=by rw[gV]at c2;omega
  let⟨κ,k1,k2⟩:=hk l2 _ kp;refine aq (qu (k1 (λNk s'=>Nk=κ/\s'={s with heap:=((s.heap.update a (Obj.mapSeq λ_=>(#[]:Array bh))).push (qb "tuple" vs.toArray 0)).push (qb "list" #[] 0)}) ⟨rfl,rfl⟩) (λNk s' ⟨q1,q2⟩=>?_) λ_ _ z=>z.elim);subst q1;subst q2
  refine aq (qu (kat_run (Q:=λfm s'=>s'={s with heap:=((s.heap.update a (Obj.mapSeq λ_=>(#[]:Array bh))).push (qb "tuple" vs.toArray 0)).push (qb "list" #[] 0)}/\failedOf fm=au/\∃q,Pm vs.length q/\Up kf q vs.length/\arrOf fm=q.map (kas_item (vs.toArray.zip vs.toArray)))
   (G:=λq s'=>s'={s with heap:=((s.heap.update a (Obj.mapSeq λ_=>(#[]:Array bh))).push (qb "tuple" vs.toArray 0)).push (qb "list" #[] 0)}/\Pm vs.length q/\Up kf q vs.length) rfl l2 eJ (λp fm s' a1 a2 a3 a4=>⟨a4.1,a3,p,a4.2.1,a4.2.2,a2⟩)
   (aHZ (I:=λs'=>s'={s with heap:=((s.heap.update a (Obj.mapSeq λ_=>(#[]:Array bh))).push (qb "tuple" vs.toArray 0)).push (qb "list" #[] 0)}) (λi j C s' hi hj es hC=>by subst es;exact k2 i j C hi hj (hC _ rfl)) hd l2 rfl λq s' P u es=>⟨es,P,u⟩)) ?_ λ_ _ e=>e)
  rintro⟨⟨⟩,fm⟩ s' ⟨es,hf,q,P,u,Xc⟩;subst es;dsimp only;refine aq (seqEpoch_at EJ rfl ?_);rw[kat_snds rfl Xc];refine aq (listUpdate_at EJ rfl ?_ (xu _) (by rw[gV,gw,qp,P.size];omega));rw[hf];simp only[bne_self_eq_false,um,if_false];exact cu (h q P u)
def Qd{kf:Nat->Int}(hl:s.heap.IsList l vs.toArray)(eJ:vs.length<64)(hd:∀i j,i<vs.length->j<vs.length->kf i=kf j->i=j)
  (hk:2<=vs.length->∀h':kh,(∀b o,s.heap.get? b=aj o->h'.get? b=aj o)->Cy prog w A.in1.in1 s kf vs h')
  (h:∀q,Pm vs.length q->Up kf q vs.length->Q (.ref (s.heap.objs.size+1)) {s with heap:=sortedAll s.heap vs (q.toList.map λi=>vs.getD i bh.none).toArray}):dj (dz prog w) A (call (.builtin "sorted") [.ref l]) Q E s:=by
 have big:1000<dh:=by decide
 refine Calls.call_function_entry kind_sorted plain_sorted entry_sorted (args_sorted1 _) ?_;unfold Builtin.«sorted»;refine aq (m:=checkCount "sorted" 1 1 _) (cu (aq (collect_list hl (aq (wpAny_newList ?_ ⋯)) ⋯)));have sz:((s.heap.push (qb "list" #[] 0)).update s.heap.objs.size (Obj.mapSeq (·++vs.toArray))).objs.size=s.heap.objs.size+1:=by rw[Heap.size_update,size_push']
 have oL:(((s.heap.push (qb "list" #[] 0)).update s.heap.objs.size (Obj.mapSeq (·++vs.toArray))).push (qb "list" vs.toArray 0)).get? (s.heap.objs.size+1)=aj (qb "list" vs.toArray 0):=by rw[←sz];exact ig _ rfl
 have kp:∀b o,s.heap.get? b=aj o->(((s.heap.push (qb "list" #[] 0)).update s.heap.objs.size (Obj.mapSeq (·++vs.toArray))).push (qb "list" vs.toArray 0)).get? b=aj o:=λb o e=>cj _ (((jr.update (s.heap.push (qb "list" #[] 0)) s.heap.objs.size (Obj.mapSeq (·++vs.toArray))).2 b (jl (gk e))).trans (cj _ e));show dj _ _ _ _ _ {s with heap:=((s.heap.push (qb "list" #[] 0)).update s.heap.objs.size (Obj.mapSeq (·++vs.toArray))).push (qb "list" vs.toArray 0)};rw[sz];refine aq (ud (vm slot_list_sort ⟨_,oL,rfl⟩ entry_list_sort (Kj (kf:=kf) oL eJ hd (λl2 h' k'=>?_) λq P u=>⟨_,rfl,cu ⟨_,rfl,h q P u⟩⟩) (args_list_sort _)));exact hk l2 h' λb o e=>k' b o (jl (DQ (gk e))) (kp b o e)
end
abbrev uN(a b:Int×Int):Prop:=a.1<b.1∨(a.1=b.1/\a.2<b.2)
instance (a b:Int×Int):Decidable (uN a b):=by unfold uN;infer_instance
abbrev eX:List (Int×Int)->Prop:=Bt uN
abbrev enc(M:Int)(a:Int×Int):Int:=a.1*M+a.2
def yz(hM:2*B<M){a b:Int×Int}(ha:-B<=a.2/\a.2<=B)(hb:-B<=b.2/\b.2<=B):enc M a<enc M b↔uN a b:=by
 unfold enc uN;have m0:0<=M:=by omega
 rcases Int.lt_trichotomy a.1 b.1 with c|c|c
 .have:a.1*M<=(b.1 - 1)*M:=Int.mul_le_mul_of_nonneg_right ⋯ m0;rw[Int.sub_mul,Int.one_mul]at this;exact⟨λ_=>.inl c,λ_=>by omega⟩
 .rw[c];exact⟨λ_=>.inr ⟨rfl,⋯⟩,λh=>by rcases h with h|h<;>omega⟩
 .have:b.1*M<=(a.1 - 1)*M:=Int.mul_le_mul_of_nonneg_right ⋯ m0;rw[Int.sub_mul,Int.one_mul]at this;exact⟨λ_=>by omega,λh=>by rcases h with h|h<;>omega⟩
def Gr:∀ps:List (Int×Int),∃B:Int,0<=B/\∀p∈ps,-B<=p.2/\p.2<=B
 |[]=>⟨0,mn _,λp h=>by cases h⟩
 |p::r=>by
  let⟨B,b0,h⟩:=Gr r;refine⟨B+p.2.natAbs,⋯,λq hq=>?_⟩;rcases jm.mp hq with rfl|hq
  .omega
  .have:=h q hq;omega
section
variable{prog:lg}{w:ji}{A:lu}
abbrev Dl(h:kh)(ps:List (Int×Int))(vs:List bh):Prop:=vs.length=ps.length/\∀(i:Nat)(p:Int×Int),ps[i]?=aj p->∃(a:bx)(o:Obj)(n:Nat)(x y:Tok),vs[i]?=aj (bh.ref a)/\h.get? a=aj o/\o.cls=bh.type "tuple"/\o.data=.seq #[.int p.1 x,.int p.2 y] n
def Dl.n5{h:kh}:∀{ps:List (Int×Int)}{vs:List bh},Dl h ps vs->∃fs:List bh,KatTups h vs fs/\fs.length=ps.length/\∀v∈fs,∃i t,v=.int i t
 |[],[],_=>⟨[],trivial,rfl,λv h=>by cases h⟩
 |[],_::_,H=>absurd H.1 (by simp)
 |_::_,[],H=>absurd H.1 (by simp)
 |p::ps,v::vs,H=>by
  let⟨a,o,n,x,y,e1,e2,e3,e4⟩:=H.2 0 p rfl;let⟨fs,k1,k2,k3⟩:=Dl.n5 (h:=h) (ps:=ps) (vs:=vs) ⟨by simpa using H.1,λi q hq=>by simpa using H.2 (i+1) q (by simpa using hq)⟩;have j3:v=.ref a:=by simpa using e1
  subst j3;refine⟨.int p.1 x::fs,KatTups.cons e2 e3 e4 rfl k1,by simp[k2],λu hu=>?_⟩;rcases jm.mp hu with rfl|hu
  .exact⟨_,_,rfl⟩
  .exact k3 u hu
def KD{ps:List (Int×Int)}(hM:2*B<M)(hB:∀p∈ps,-B<=p.2/\p.2<=B)(l2:2<=vs.length)(hp:Dl h' ps vs):Cy prog w A s (λi=>enc M (ps.getD i (0,0))) vs h':=by
 let⟨fs,k1,k2,k3⟩:=hp.n5;have len:=hp.1;refine⟨tuples' (bh.type "int"!=bh.type "tuple"),λQ hQ=>kat_kind (s:={s with heap:=h' }) k1 ⋯ (λv hv=>?_) (by simp) hQ,λi j C hi hj hC=>?_⟩
 .obtain⟨i,t,rfl⟩:=k3 v hv;exact .now
 .obtain⟨p,ep⟩:∃p,ps[i]?=aj p:=⟨_,jd ⋯⟩;obtain⟨q,eq⟩:∃q,ps[j]?=aj q:=⟨_,jd ⋯⟩;let⟨a,o,n,x,y,a1,a2,a3,a4⟩:=hp.2 i p ep;let⟨b,o',n',x',y',b1,b2,b3,b4⟩:=hp.2 j q eq;have ga:vs.getD i bh.none=.ref a:=by simp[vf,a1]
  have gb:vs.getD j bh.none=.ref b:=by simp[vf,b1]
  have gp:ps.getD i (0,0)=p:=by simp[vf,ep]
  have gq:ps.getD j (0,0)=q:=by simp[vf,eq]
  have key:=yz hM (hB p (lq ep)) (hB q (lq eq))
  have hC:C (decide (enc M p<enc M q)) {s with heap:=h' }:=by
   have e:decide (enc M (ps.getD i (0,0))<enc M (ps.getD j (0,0)))=decide (enc M p<enc M q):=by rw[decide_eq_decide,gp,gq]
   rw[←e];exact hC
  unfold kas_ask;rw[ga,gb];refine kat_lt (s:={s with heap:=h' }) a2 a4 b2 b4 ?_;refine kat_cons (wpAny_eqBool_int ?_);refine kat_go (λe=>kat_yes (kat_cons (wpAny_eqBool_int (kat_go (λe2=>kat_yes (kat_nil ?_)) λe2=>kat_no (kat_one _ _ ?_))))) λe=>kat_no (oneLt_int ?_)
  .have c1:p.1=q.1:=by simpa using e
   have c2:p.2=q.2:=by simpa using e2
   rw[decide_eq_false (show ¬ enc M p<enc M q from λz=>by rcases key.mp z with z|z<;>omega)]at hC;exact hC
  .have c1:p.1=q.1:=by simpa using e
   have c2:p.2≠q.2:=by simpa using e2
   refine CmpOf.ints_lt (prog:=prog) (w:=w) (A:=A) (P:=λi v=>∃t,v=.int (if i=0 then p.2 else q.2) t) (λi=>if i=0 then p.2 else q.2) (λi v h=>h) 0 1 _ _ _ _ _ ⟨y,rfl⟩ ⟨y',rfl⟩ ?_
   have:decide (enc M p<enc M q)=decide ((if(0:Nat)=0 then p.2 else q.2)<(if(1:Nat)=0 then p.2 else q.2)):=by
    rw[decide_eq_decide,key,if_pos rfl,if_neg (by decide)];unfold uN;omega
   rw[this]at hC;exact(show PySem.W.BoolBack C (.bool _) _ from hC)
  .have c1:p.1≠q.1:=by simpa using e
   have:decide (enc M p<enc M q)=decide (p.1<q.1):=by
    rw[decide_eq_decide,key];unfold uN;omega
   rw[this]at hC;exact hC
end
end
variable{h:kh}
section
open PySem.W
def getD_at{α:Type}{l:List α}{i:Nat}{d:α}(h:i<l.length):l.getD i d=l[i]:=by simp[vf,h]
@[simp]def oN(q:Int×Int):D:=.tup [.int q.1,.int q.2]
def O8{out:Array bh}(e:h.get? b=aj u):(sortedAll h vs out).get? b=aj u:=by
 have lb:b<h.objs.size:=gk e;have n0:b≠h.objs.size:=jl lb;have n1:b≠h.objs.size+1:=jl (DQ lb);unfold sortedAll sortedHeap;rw[(jr.update _ _ _).2 b n1];refine cj _ (cj _ ?_);rw[(jr.update _ _ _).2 b n1];refine cj _ ?_;rw[(jr.update _ _ _).2 b n0];exact cj _ e
def TN{out:Array bh}:∃c,(sortedAll h vs out).get? (h.objs.size+1)=aj (qb "list" out c):=by
 have sz:((h.push (qb "list" #[] 0)).update h.objs.size (Obj.mapSeq (·++vs.toArray))).objs.size=h.objs.size+1:=by rw[Heap.size_update,size_push']
 have oL:(((h.push (qb "list" #[] 0)).update h.objs.size (Obj.mapSeq (·++vs.toArray))).push (qb "list" vs.toArray 0)).get? (h.objs.size+1)=aj (qb "list" vs.toArray 0):=by rw[←sz];exact ig _ rfl
 unfold sortedAll sortedHeap;obtain⟨c1,e1⟩:∃c,((((h.push (qb "list" #[] 0)).update h.objs.size (Obj.mapSeq (·++vs.toArray))).push (qb "list" vs.toArray 0)).update (h.objs.size+1) (Obj.mapSeq λ_=>#[])).get? (h.objs.size+1)=aj (qb "list" #[] c):=⟨_,DG oL λ_=>#[]⟩;exact⟨_,DG (cj _ (cj _ e1)) λ_=>out⟩
variable{s:dg}{ps:List (Int×Int)}
section
variable{X:Cx}
def pairs_at(I:Inv X ψ σ H s)(r:cZ X.K H (ps.map oN) xs)(rv:Vals xs us):Dl s.heap ps us:=by
 refine⟨by rw[←rv.length,←r.length,gw],λi p hp=>?_⟩;let⟨v,e1,rd⟩:=r.get (i:=i) (d:=oN p) (by rw[ql,hp];rfl);let⟨u,e2,ru⟩:=rv.get e1;cases rd with
 |@tup a zs _ hq rz _ =>
  obtain rfl:u=bh.ref a:=ru;let⟨its,vi,⟨o,h1,h2,n,h3⟩,_⟩:=I.tuple hq;cases rz with
  |cons ra rb =>
  cases rb with
  |cons rb rc =>
  cases rc;cases ra;cases rb;cases vi with
  |cons va vb =>
  cases vb with
  |cons vb vc =>
  cases vc;let⟨x,rfl⟩:=va;let⟨y,rfl⟩:=vb;exact⟨a,o,n,x,y,e2,h1,h2,h3⟩
def QR(hM:2*B<M)(hB:∀p∈ps,-B<=p.2/\p.2<=B)(nd:ps.Nodup)(P:Pm ps.length q)(u:Up (λi=>enc M (ps.getD i (0,0))) q ps.length):(q.toList.map λi=>ps.getD i (0,0)).Perm ps/\eX (q.toList.map λi=>ps.getD i (0,0)):=by
 have Ik:(ou ps.length).map (λi=>ps.getD i (0,0))=ps:=by
  apply List.ext_getElem (by simp);intro i h1 h2;simp[h2]
 refine⟨by have:=P.perm.map λi=>ps.getD i (0,0);rw[Ik]at this;exact this,?_⟩;unfold eX;rw[BA,vq];intro i j hi hj AB;have li:i<q.size:=by simpa using hi
 have lj:j<q.size:=by simpa using hj
 have gi:q.toList[i]=q.getD i 0:=by simp[y7,li]
 have gj:q.toList[j]=q.getD j 0:=by simp[y7,lj]
 rw[gi,gj];have bi:=P.lt (i:=i) (by rw[←P.size];exact li);have bj:=P.lt (i:=j) (by rw[←P.size];exact lj);have le:enc M (ps.getD (q.getD i 0) (0,0))<=enc M (ps.getD (q.getD j 0) (0,0)):=u i j (wk AB) (by rw[←P.size];exact lj);have mi:ps.getD (q.getD i 0) (0,0)∈ps:=by rw[getD_at bi];exact wo _
 have mj:ps.getD (q.getD j 0) (0,0)∈ps:=by rw[getD_at bj];exact wo _
 have k1:=yz hM (hB _ mi) (hB _ mj);have k2:=yz hM (hB _ mj) (hB _ mi);refine k1.mp ?_;rcases Int.lt_or_eq_of_le le with z|z
 .exact z
 .exfalso
  have e:ps.getD (q.getD i 0) (0,0)=ps.getD (q.getD j 0) (0,0):=by
   have n1:¬ uN (ps.getD (q.getD i 0) (0,0)) (ps.getD (q.getD j 0) (0,0)):=λw=>absurd (k1.mpr w) ⋯;have n2:¬ uN (ps.getD (q.getD j 0) (0,0)) (ps.getD (q.getD i 0) (0,0)):=λw=>absurd (k2.mpr w) ⋯;unfold uN at n1 n2;exact Prod.ext ⋯ ⋯
  have e2:ps[q.getD i 0]=ps[q.getD j 0]:=by rw[getD_at bi,getD_at bj]at e;exact e
  have key:=vq.mp nd;rcases BB (q.getD i 0) (q.getD j 0)with w|w|w
  .exact key _ _ bi bj w e2
  .have:=P.inj (by rw[←P.size];exact li) (by rw[←P.size];exact lj) w;omega
  .exact key _ _ bj bi w e2.symm
def Ki{K:Fg}{ps:List (Int×Int)}{xs:List V}(r:cZ K H (ps.map oN) xs):∀{l:List Nat},(∀i∈l,i<ps.length)->cZ K H ((l.map λi=>ps.getD i (0,0)).map oN) (l.map λi=>xs.getD i .ae)
 |[],_=>.nil
 |i::l,h=>by
  let⟨v,e1,rd⟩:=r.get (i:=i) (d:=oN (ps.getD i (0,0))) (by have:=h i (by simp);simp[vf,this]);have:xs.getD i .ae=v:=by simp[vf,e1]
  refine .cons ?_ (Ki r λj hj=>h j (by simp[hj]));show RD K H (oN (ps.getD i (0,0))) (xs.getD i .ae);rw[this];exact rd
def GF{xs:List V}{us:List bh}(r:Vals xs us):∀{l:List Nat},(∀i∈l,i<xs.length)->Vals (l.map λi=>xs.getD i .ae) (l.map λi=>us.getD i bh.none)
 |[],_=>.nil
 |i::l,h=>by
  have hi:=h i (by simp);let⟨u,e1,ru⟩:=r.get (jd hi);have e2:xs.getD i .ae=xs[i]:=by simp[vf,hi]
  have e3:us.getD i bh.none=u:=by simp[vf,e1]
  refine .cons ?_ (GF r λj hj=>h j (by simp[hj]));show RelV (xs.getD i .ae) (us.getD i bh.none);rw[e2,e3];exact ru
abbrev S2(ds:List D)(G:Gp)(R:jC):Prop:=∃ps:List (Int×Int),ds=ps.map oN/\ps.Nodup/\ps.length<64/\∀qs:List (Int×Int),qs.Perm ps->eX qs->∀r,G r=au->R (.ref r) (aM G r (.lst (qs.map oN)))
abbrev FP:List D->Gp->jC->Prop:=λxs G R=>match xs with
 |[.ref a]=>(match cO G a with
  |some ds=>S2 ds G R
  |none=>False)
 |_=>False
def aI0{σ:St}{H:Hp}(I:Inv X ψ σ H s){G:Gp}{R:jC}{Q:VK}(g:HR X.K H G){xs:List V}{us:List bh}(r:cZ X.K H (ps.map oN) xs)(rv:Vals xs us)(nd:ps.Nodup)(eJ:ps.length<64)(hM:2*B<M)(hB:∀p∈ps,-B<=p.2/\p.2<=B)
  (k:∀v H' d G',Ts H H'->RD X.K H' d v->HR X.K H' G'->R d G'->Q v H')(h:∀qs:List (Int×Int),qs.Perm ps->eX qs->∀r,G r=au->R (.ref r) (aM G r (.lst (qs.map oN))))(P:Pm us.length q)(u:Up (λi=>enc M (ps.getD i (0,0))) q us.length):EP X ψ σ Q (.ref (s.heap.objs.size+1)) {s with heap:=sortedAll s.heap us (q.toList.map λi=>us.getD i bh.none).toArray}:=by
 have big:1000<dh:=by decide
 have l1:us.length=ps.length:=by rw[←rv.length,←r.length,gw]
 have l2:xs.length=ps.length:=by rw[←r.length,gw]
 rw[l1]at P u;let⟨p1,p2⟩:=QR hM hB nd P u;have ft:∀i∈q.toList,i<ps.length:=λi hi=>xr.mp (P.perm.mem_iff.mp hi);have fr:H (s.heap.objs.size+1)=au:=I.aa.fresh (sf _);have sn:aE H (upd H (s.heap.objs.size+1) (.lst (q.toList.map λi=>xs.getD i .ae))):=bM fr;let⟨c,hc⟩:=TN (h:=s.heap) (vs:=us) (out:=(q.toList.map λi=>us.getD i bh.none).toArray)
 have J:Inv X ψ σ (upd H (s.heap.objs.size+1) (.lst (q.toList.map λi=>xs.getD i .ae))) {s with heap:=sortedAll s.heap us (q.toList.map λi=>us.getD i bh.none).toArray} :=
  I.laid (t':=s.toks) (λb o e=>O8 e) (sf _) ⟨by rw[gw,qp,P.size];omega,_,c,GF rv λi hi=>by rw[l2];exact ft i hi,hc⟩
 have kf:=vJ J;exact⟨.ref (s.heap.objs.size+1),_,J,rfl,k _ _ (.ref _) _ (.same sn) (.ref _) (g.put (u:=.lst _) fr ⟨_,aL,(Ki r ft).mono (.same sn)⟩) (h _ p1 p2 _ (jL g fr kf))⟩
private theorem aI1:eV X (.builtin "sorted") FP:=by
 intro ψ s σ H xs vs us G R Q I rx rv g q k;unfold FP at q;split at q
 .rename_i a;split at q
  .rename_i ds e1;let⟨ps,rfl,nd,eJ,h⟩:=q;cases rx with
   |cons r1 rr =>
   cases rr;cases r1;cases rv with
   |cons rv rr =>
   cases rr;cases rv;let⟨zs,hq,r⟩:=dZ g e1;let⟨its,vi,pl,_⟩:=I.list hq;let⟨B,b0,hB⟩:=Gr ps;have hp:=pairs_at I r vi;have hM:2*B<2*B+1:=by omega
   refine Qd (kf:=λi=>enc (2*B+1) (ps.getD i (0,0))) pl.isList (by rw[hp.1];exact eJ) (λi j hi hj e=>?_) (λl2 h' kp=>KD hM hB l2 ⟨hp.1,λi p ei=>?_⟩) λq P u=>aI0 I g r vi nd eJ hM hB k h P u
   .rw[hp.1]at hi hj;have mi:ps.getD i (0,0)∈ps:=by simp[vf,hi]
    have mj:ps.getD j (0,0)∈ps:=by simp[vf,hj]
    have k1:=yz hM (hB _ mi) (hB _ mj);have k2:=yz hM (hB _ mj) (hB _ mi);have e':enc (2*B+1) (ps.getD i (0,0))=enc (2*B+1) (ps.getD j (0,0)):=e
    have ee:ps.getD i (0,0)=ps.getD j (0,0):=by
     have n1:¬ uN (ps.getD i (0,0)) (ps.getD j (0,0)):=λw=>absurd (k1.mpr w) ⋯;have n2:¬ uN (ps.getD j (0,0)) (ps.getD i (0,0)):=λw=>absurd (k2.mpr w) ⋯;unfold uN at n1 n2;exact Prod.ext ⋯ ⋯
    have e2:ps[i]=ps[j]:=by simpa[vf,hi,hj]using ee
    have key:=vq.mp nd;rcases BB i j with w|w|w
    .exact absurd e2 (key _ _ hi hj w)
    .exact w
    .exact absurd e2.symm (key _ _ hj hi w)
   .obtain⟨a,o,n,x,y,z1,z2,z3,z4⟩:=hp.2 i p ei;exact⟨a,o,n,x,y,z1,kp _ _ z2,z3,z4⟩
  .exact q.elim
 .exact q.elim
end
end
variable{h':kh}{e:iX}
section
open PySem.W
abbrev pU(h:kh)(d:bx)(es:Array iX)(ep:Nat):Prop:=∃o,h.get? d=aj o/\o.ExactDict/\o.data=.dict es ep
section
variable{prog:lg}{w:ji}{A:lu}{s:dg}{d:bx}{es:Array iX}{ep i:Nat}
def pU.typeIs(hm:pU s.heap d es ep):s.TypeIs (.ref d) "dict":=let⟨o,ho,hc,_⟩:=hm;⟨o,ho,hc.1⟩
def pU.lt(hm:pU h d es ep):d<h.objs.size:=let⟨_,ho,_⟩:=hm;gk ho
def pU.at(hm:pU h d es ep)(k:∀o,h.get? d=aj o->h'.get? d=aj o):pU h' d es ep:=let⟨o,ho,r⟩:=hm;⟨o,k o ho,r⟩
def aI2(hd:(d==ur)=ao)(hm:pU s.heap d es ep)(hQ:Q (.ref s.heap.objs.size) {s with heap:=s.heap.push {cls:=.type "dict_keyiterator",data:=.fields #[.ref d,.int 0 0,.int es.size 0,.int ep 0]}}):dj (dz prog w) A (pyIter (.ref d)) Q E s:=by
 have T:=hm.typeIs;let⟨o,ho,hc,bX⟩:=hm;refine wpAny_pyIter_slot T F.slot_dict_iter (vm F.slot_dict_iter T F.entry_dict_iter ?_ (F.args_dict_iter_1 _));unfold Builtin.«dict.__iter__»;refine aq ?_;unfold Builtin.Dict.dictSlotNone;refine aq (wpAny_notOrdered_dict T ?_);show dj _ _ (pure (bh.ref d)) _ _ s;refine cu ?_;show dj _ _ (Builtin.Dict.showsAll d >>= _) _ _ s;unfold Builtin.Dict.showsAll;rw[if_neg (by rw[hd];exact qg)];refine aq (cu (aq (yh ho bX (aq (wpAny_dictEpoch ho bX (aq (qw (cu ⟨_,rfl,"dict_keyiterator",_,⟨_,ig _ rfl,rfl⟩,F.slot_dict_keyiterator_next.lookup,?_⟩))))))));simpa[fA]using hQ
def aI3(hit:s.heap.IsKeyIter it d i es.size ep)(hm:pU s.heap d es ep)(hx:es[i]?=aj e)
  (hQ:∀h',h'.IsKeyIter it d (i+1) es.size ep->jr it s.heap h'->Q (aj e.key) {s with heap:=h' }):dj (dz prog w) A (eW (.ref it)) Q E s:=by
 let⟨o,ho,hc,hd⟩:=id hit;let⟨od,eD,fw,eI⟩:=hm;have lt:i<es.size:=(zp.mp hx).1;unfold eW;refine aq (Bv (zf (name:=Str.ofString "__next__") hit.typeIs F.slot_dict_keyiterator_next (vm F.slot_dict_keyiterator_next hit.typeIs F.entry_dict_keyiterator_next ?_ (F.args_dict_keyiterator_next_1 _))));refine aq (cu ?_);refine aq ?_;refine aq ?_
 (first|refine aq (Hi hit.typeIs (cu ?_))|refine aq (Hu hit.typeIs (cu ?_)));refine aq (wpAny_fieldsOf ho hd ?_)
 have own:Builtin.Dict_items.ownsTuple "dict_keyiterator"=ao:=by decide
 simp only[own,um,if_false];show dj _ _ (if(bh.ref d==bh.none)=ak then _ else _) _ _ s;rw[if_neg (show ¬ ((bh.ref d==bh.none)=ak)from qg)];refine aq (cu (aq (yh eD eI ?_)));rw[if_neg (by simp)];refine aq (cu (aq (wpAny_dictEpoch eD eI ?_)));rw[if_neg (by simp)];refine cu ?_;simp only[show ¬ ((i:Int)<0)from by omega,if_false,yc,hx];refine aq ?_
 (first|refine aq (Hi hit.typeIs (cu ?_))|refine aq (Hu hit.typeIs (cu ?_)));refine aq (wpAny_isOneOf_keyiter hit.typeIs ?_)
 show dj _ _ (setField (.ref it) 1 (fA ((i:Int)+1)) >>= _) _ _ s;refine aq (xq ho hd (by simp) ?_);have sL:(s.heap.update it (Obj.mapFields (·.setIfInBounds 1 (fA ((i:Int)+1))))).IsKeyIter it d (i+1) es.size ep:=⟨_,GZ _ ho (Obj.isFreed_of_fields (Obj.data_mapFields hd _)),(Obj.cls_mapFields ..).trans hc,by rw[Obj.data_mapFields hd];simp[fA]⟩;refine aq (ud (aq (wpAny_isOneOf_keyiter (s:={s with heap:=s.heap.update it (Obj.mapFields (·.setIfInBounds 1 (fA ((i:Int)+1))))}) sL.typeIs ?_)));show dj _ _ (pure e.key) _ _ _;exact cu (cu ⟨_,rfl,cu (hQ _ sL (jr.update ..))⟩)
def aOW(hh:A.handled=au)(hit:s.heap.IsKeyIter it d i es.size ep)(hm:pU s.heap d es ep)(hx:es.size<=i)(hQ:∀h',y9 it s.heap h'->Q au {s with heap:=h' }):dj (dz prog w) A (eW (.ref it)) Q E s:=by
 let⟨o,ho,hc,hd⟩:=id hit;let⟨od,eD,fw,eI⟩:=hm;unfold eW;refine aq (Bv (zf (name:=Str.ofString "__next__") hit.typeIs F.slot_dict_keyiterator_next (vm F.slot_dict_keyiterator_next hit.typeIs F.entry_dict_keyiterator_next ?_ (F.args_dict_keyiterator_next_1 _))));refine aq (cu ?_);refine aq ?_;refine aq ?_
 (first|refine aq (Hi hit.typeIs (cu ?_))|refine aq (Hu hit.typeIs (cu ?_)));refine aq (wpAny_fieldsOf ho hd ?_)
 have own:Builtin.Dict_items.ownsTuple "dict_keyiterator"=ao:=by decide
 simp only[own,um,if_false];show dj _ _ (if(bh.ref d==bh.none)=ak then _ else _) _ _ s;rw[if_neg (show ¬ ((bh.ref d==bh.none)=ak)from qg)];refine aq (cu (aq (yh eD eI ?_)));rw[if_neg (by simp)];refine aq (cu (aq (wpAny_dictEpoch eD eI ?_)));rw[if_neg (by simp)];refine cu ?_;simp only[show ¬ ((i:Int)<0)from by omega,if_false,yc,Array.getElem?_eq_none hx];refine aq ?_
 (first|refine aq (Hi hit.typeIs (cu ?_))|refine aq (Hu hit.typeIs (cu ?_)));show dj _ _ (setField (.ref it) 0 .none >>= _) _ _ s
 refine aq (xq ho hd (by simp) ?_);show dj _ _ (newExc (.type "StopIteration") [] >>= _) _ _ _;refine aq ?_;simp only[newExc,newTuple];refine aq (qw ?_ (by size_fits));refine aq (m:=firstArgMember _ _) (wpAny_of_eq (a:=Value.none) (by first|rfl|(simp only[Mx];rfl)) (qw ?_ (by size_fits)));simp only[raiseNew];refine aq (wpAny_handled ?_);rw[show A.in1.handled=au from hh];refine aq (cu (wpAny_throw ?_));refine aq (wpAny_isInstance (T:="StopIteration") (b:=true) ⟨_,ig _ rfl,rfl⟩ isSubtype_stop ?_);refine cu (hQ _ λb o' hb e=>?_);exact cj _ (cj _ (((jr.update _ _ _).2 b hb).trans e))
def aCB(hh:A.handled=au)(I:bx)(l8:d≠I):Walks prog w A I [I,d] [I] es.size (λi v=>∃e,es[i]?=aj e/\v=e.key) (λi h=>h.IsKeyIter I d i es.size ep/\pU h d es ep) where
 sub:=λb hb=>by simp at hb;simp[hb]
 frame:=λ_ _ _ st hk=>⟨st.1.at λo e=>hk I (by simp) o e,st.2.at λo e=>hk d (by simp) o e⟩
 item:=λi s Q E hi st hQ=>by
  have hx:es[i]?=aj es[i]:=wg hi;exact aI3 st.1 st.2 hx λh' sL qo=>hQ _ h' s.toks ⟨_,hx,rfl⟩ ⟨sL,st.2.at λo e=>qo.extBut _ o l8 e⟩ λb o hb e=>qo.extBut b o (λh=>hb (by simp[h])) e
 done:=λs Q E st hQ=>aOW hh st.1 st.2 (fj _) λh' W3=>hQ h' s.toks λb o hb e=>W3 b o (λh=>hb (by simp[h])) e
 self:=λ_ _ _ _ st hQ=>wpAny_pyIter_keyiter st.1 hQ
def Jd(lo:(d==ur)=ao):KdlSrc prog w "dict" d d es.size (λi v=>∃e,es[i]?=aj e/\v=e.key) (λh=>pU h d es ep) where
 type:=λ_ hm=>hm.typeIs
 there:=λ_ hm=>⟨hm.lt,hm.lt⟩
 keep:=λ_ _ hm hk=>hm.at λo e=>hk d (.inl rfl) o e
 notList:=by decide
 notTuple:=by decide
 hint:=λ_ _ _ _ hm hq=>kdl_hint_dict hm.typeIs hq
 iter:=λ_ s hh hm=>⟨_,_,(λ_ _ hq=>aI2 lo hm hq),aCB hh _ (jl hm.lt),⟨⟨_,ig _ rfl,rfl,rfl⟩,hm.at λo e=>cj _ e⟩⟩
end
end
section
open PySem.W
@[simp]def zD(h:kh)(it d:bx)(i n ep:Nat)(x:bh)(f:Bool)(ok ov:bh):Prop:=h.get? it=aj {cls:=.type "dict_itemiterator",dict:=none,data:=.fields #[x,.bool f,.ref d,.int i 0,.int n 0,.int ep 0,ok,ov],slots:=#[]}
abbrev ISt(h:kh)(it d S:bx)(i n ep:Nat):Prop:=∃x f ok ov,zD h it d i n ep x f ok ov/\(x=.none/\f=ao∨∃a oa,x=fA (a:Nat)/\h.get? a=aj oa/\a≠it/\a≠S)
abbrev BZ(e:iX):Obj:={cls:=.type "tuple",data:=.seq #[e.key,e.val]}
section
variable{prog:lg}{w:ji}{A:lu}{s:dg}{d S:bx}{es:Array iX}{ep i:Nat}
def aOY(hh:A.handled=au)(st:ISt s.heap it d S i es.size ep)(hm:pU s.heap d es ep)(hx:es.size<=i)(hQ:∀h',y9 it s.heap h'->Q au {s with heap:=h' }):dj (dz prog w) A (eW (.ref it)) Q E s:=by
 let⟨x,f,ok,ov,hit,al⟩:=st;let⟨od,eD,fw,eI⟩:=hm;have hT:s.TypeIs (.ref it) "dict_itemiterator":=⟨_,hit,rfl⟩;unfold eW;refine aq (Bv (zf (name:=Str.ofString "__next__") hT F.slot_dict_itemiterator_next (vm F.slot_dict_itemiterator_next hT F.entry_dict_itemiterator_next ?_ (F.args_dict_itemiterator_next_1 _))));refine aq (cu ?_);refine aq ?_;refine aq ?_
 (first|refine aq (wpAny_typeNameOfWhole_itemiter hT (cu ?_))|refine aq (wpAny_typeNameOf_itemiter hT (cu ?_)));refine aq (wpAny_fieldsOf hit rfl ?_)
 have own:Builtin.Dict_items.ownsTuple "dict_itemiterator"=ak:=by decide
 simp only[own,if_true];show dj _ _ (if(bh.ref d==bh.none)=ak then _ else _) _ _ s;rw[if_neg (show ¬ ((bh.ref d==bh.none)=ak)from qg)];refine aq (cu (aq (yh eD eI ?_)));rw[if_neg (by simp)];refine aq (cu (aq (wpAny_dictEpoch eD eI ?_)));rw[if_neg (by simp)];refine cu ?_;simp only[show ¬ ((i:Int)<0)from by omega,if_false,yc,Array.getElem?_eq_none hx];refine aq ?_
 (first|refine aq (wpAny_typeNameOfWhole_itemiter hT (cu ?_))|refine aq (wpAny_typeNameOf_itemiter hT (cu ?_)));show dj _ _ (setField (.ref it) 2 .none >>= _) _ _ s
 refine aq (xq hit rfl (by simp) ?_);show dj _ _ (newExc (.type "StopIteration") [] >>= _) _ _ _;refine aq ?_;simp only[newExc,newTuple];refine aq (qw ?_ (by size_fits));refine aq (m:=firstArgMember _ _) (wpAny_of_eq (a:=Value.none) (by first|rfl|(simp only[Mx];rfl)) (qw ?_ (by size_fits)));simp only[raiseNew];refine aq (wpAny_handled ?_);rw[show A.in1.handled=au from hh];refine aq (cu (wpAny_throw ?_));refine aq (wpAny_isInstance (T:="StopIteration") (b:=true) ⟨_,ig _ rfl,rfl⟩ isSubtype_stop ?_);exact cu (hQ _ (((jr.update ..).extBut.push _).push _))
end
section
variable{prog:lg}{w:ji}{A:lu}{s:dg}{d r:bx}{es:Array iX}{ep:Nat}
def aI4(hv:s.heap.IsItemsView r d)(hm:pU s.heap d es ep)(hQ:Q (.ref s.heap.objs.size) {s with heap:=s.heap.push {cls:=.type "dict_itemiterator",data:=.fields #[.none,.bool ao,.ref d,.int 0 0,.int es.size 0,.int ep 0,.none,.none]}}):dj (dz prog w) A (pyIter (.ref r)) Q E s:=by
 let⟨ov,WS,hcv,Cg⟩:=id hv;let⟨o,ho,hc,bX⟩:=hm;refine wpAny_pyIter_slot hv.typeIs F.slot_dict_items_iter (vm F.slot_dict_items_iter hv.typeIs F.entry_dict_items_iter ?_ (F.args_dict_items_iter_1 _));unfold Builtin.«dict_items.__iter__»;refine aq (cu (aq ?_));unfold Builtin.Dict_items.dictOf;refine aq (qx WS Cg (x:=.ref d) rfl (cu (aq ?_)));unfold Builtin.Dict_items.newIterator;refine aq (yh ho bX (aq (wpAny_dictEpoch ho bX ?_)));simp only[show Builtin.Dict_items.ownsTuple "dict_itemiterator"=ak by decide,if_true];refine qw (cu ⟨_,rfl,"dict_itemiterator",_,⟨_,ig _ rfl,rfl⟩,F.slot_dict_itemiterator_next.lookup,?_⟩) (by simp only[sizeOk,Builtin.Dict_items.ownedTupleFields,gV,uw,uq,List.length_nil,sizeLine_eq];omega);simpa[fA,Builtin.Dict_items.ownedTupleFields]using hQ
end
end
section
open PySem.W
section
end
section
end
end
section
open PySem.W
def aI5:typeLookup (.type "list") "keys"=pure au:=by rw[typeLookup_type,builtinLookup_eq_fast];nofun
section
variable{prog:lg}{w:ji}{A:lu}{s:dg}
def aI6{o:Obj}{k:Nat} 
  (hx:s.heap.get? a=aj o)(hc:o.cls=.type "list")(bX:o.data=.seq xs k)(hd:o.dict=au)(hA:A.handled=au)
  (h:∀h' tk,(∀b o,s.heap.get? b=aj o->h'.get? b=aj o)->Q au {s with heap:=h',toks:=tk}) :
  dj (dz prog w) A (getAttr? (.ref a) "keys") Q E s:=by
 let⟨c,qV,dat,sl⟩:=o;simp only at hc bX hd;subst hc bX hd;let⟨hp,g,d,tk,os⟩:=s;have hT:∀Nn,(⟨hp,g,d,Nn,os⟩:dg).TypeIs (.ref a) "list":=λ_=>⟨_,hx,rfl⟩;have f1:=sub_AttributeError;have f3:=F.slot_list_getattribute.lookup;have f4:=F.slot_list_getattribute.bind (.ref a);have f5:=am_list_getattr_none;unfold getAttr? getAttrBy? getAttrBy
 repeat (any_goals (first|assumption|exact hT _|((with_reducible show dj _ _ (call (bh.builtin "list.__getattribute__") _ _) _ _ _);refine call_meets F.slot_list_getattribute (hT _) am_entry_list_getattribute (F.args_list_getattribute_2 _ _) (meets_getattribute_miss_list a xs k sl "keys" _ aI5 (by decide) (by decide)) ⟨hx,hA,λh' Nn e NT=>?_⟩)|wp_step))
 let⟨t',u',he⟩:=NT.there;show dj _ _ (getattributeRaised _ _ _ _ _ _ _) _ _ _;unfold getattributeRaised
 repeat (any_goals (first|assumption|wp_step))
 exact h _ _ NT.keeps
def Qc:entryFor table "dict.update.loop"=aj Builtin.«dict.update.loop» :=entryFor_of_fast (by nofun)
def Gq:plainId "dict.update.loop"=ak:=by decide+kernel
end
end
section
open PySem.W
section
variable{X:Cx}
def KC{K:Fg}:∀(ks:List Key),cZ K H (ks.map kD) (ks.map kV)
 |[]=>.nil
 |.inl i::r=>.cons (.int i) (KC r)
 |.inr x::r=>.cons (.str x) (KC r)
def Kh{K:Fg}:∀{kvs:List (DK×D)}{ys:List (List Key×V)}{ws:List (List Key×bx×bh)},fe K H .inr kvs ys->KT H ys ws->cZ K H (kvs.map λp=>dQ p.1) (ws.map λx=>.ref x.2.1)
 |_,_,_,.nil,.nil=>.nil
 |p::kvs,q::ys,x::ws,.cons h r,.cons h' r'=>by
  refine .cons ?_ (Kh r r');show RD K H (dQ p.1) (.ref x.2.1);rw[h.1];have e:=h'.2.1;exact .tup (br.of e) (KC _) (uv e)
abbrev FO:List D->Gp->jC->Prop:=λxs G R=>match xs with
 |[.ref a]=>(match G a with
  |some (.cX ak kvs)=>∀l,G l=au->R (.ref l) (aM G l (.lst (kvs.map λp=>dQ p.1)))
  |_=>False)
 |_=>False
private theorem aI7(hc:X.calm=ak):eV X (.type "list") FO:=by
 intro ψ s σ H xs vs us G R Q I rx rv g q k;unfold FO at q;split at q
 .rename_i a;split at q
  .rename_i kvs e1;cases rx with
   |cons r1 rr =>
   cases rr;cases r1;cases rv with
   |cons rv rr =>
   cases rr;cases rv;rcases g a _ e1 with⟨z,_⟩|⟨_,ys,e,r⟩
   .cases z
   .obtain⟨z1,hd,ws,rel,o,es,ep,ho,Ci,bX,he,oz,hn⟩:=CG I.aa e;have lw:es.size=ws.length:=size_of_entries he;have WE:ws.length=ys.length:=(Paired.length rel).symm;refine kdl_call (Jd hd) (I.ok.hd hc) ⟨o,ho,Ci,bX⟩ ⋯ λh' tk acc c kk hS di=>?_;have fr:H s.heap.objs.size=au:=I.aa.fresh (fj _);have sn:aE H (upd H s.heap.objs.size (.lst (ws.map λx=>.ref x.2.1))):=bM fr
    have aUP:acc.toList=ws.map λx=>bh.ref x.2.1:=by
     apply List.ext_getElem?;intro i;by_cases hi:i<ws.length
     .have tm:i<acc.size:=by rw[di.1,lw];exact hi
      let⟨en,e1,e2⟩:=di.2 i acc[i] (wg tm);have e3:es.toList[i]?=aj en:=by rw[yu];exact e1
      rw[he,ql,jd hi]at e3;have e4:entryOfKey (rV (aQ X.prog X.w)) ws[i]=en:=by simpa using e3
      rw[yu,wg tm,e2,←e4,ql,jd hi];rfl
     .rw[DR (by rw[qp,di.1,lw];omega),DR (by simp;omega)]
    have vals:∀l:List (List Key×bx×bh),Vals (l.map λx=>V.ref x.2.1) (l.map λx=>bh.ref x.2.1):=λl=>by
     induction l with
     |nil=>exact .nil
     |cons x r ih=>exact .cons rfl ih
    have J:Inv X ψ σ (upd H s.heap.objs.size (.lst (ws.map λx=>.ref x.2.1))) {s with heap:=h',toks:=tk}:=I.laid (t':=tk) (o:=.lst _) kk (fj _) ⟨by simp;omega,_,c,vals ws,by rw[←aUP];simpa using hS⟩;exact⟨.ref s.heap.objs.size,_,J,rfl,k _ _ (.ref _) _ (.same sn) (.ref _) (g.put (u:=.lst _) fr ⟨_,aL,(Kh r rel).mono (.same sn)⟩) (q _ (jL g fr (vJ J)))⟩
  .exact q.elim
 .exact q.elim
end
end
section
section
end
end
variable{r:bx}{h1:kh}
section
open PySem.W
variable{vs:List bh}
section
variable{prog:lg}{w:ji}{A:lu}{s:dg}
def O7{out:Array bh}(e:h.get? b=aj u):(sortedHeap (h.push (qb "list" vs.toArray 0)) h.objs.size vs out).get? b=aj u:=by
 have n0:b≠h.objs.size:=jl (gk e);unfold sortedHeap;rw[(jr.update _ _ _).2 b n0];refine cj _ (cj _ ?_);rw[(jr.update _ _ _).2 b n0];exact cj _ e
def TM{out:Array bh}:∃c,(sortedHeap (h.push (qb "list" vs.toArray 0)) h.objs.size vs out).get? h.objs.size=aj (qb "list" out c):=by
 have oL:(h.push (qb "list" vs.toArray 0)).get? h.objs.size=aj (qb "list" vs.toArray 0):=ig _ rfl;unfold sortedHeap;obtain⟨c1,e1⟩:∃c,((h.push (qb "list" vs.toArray 0)).update h.objs.size (Obj.mapSeq λ_=>#[])).get? h.objs.size=aj (qb "list" #[] c):=⟨_,DG oL λ_=>#[]⟩;exact⟨_,DG (cj _ (cj _ e1)) λ_=>out⟩
def aI8{kf:Nat->Int} 
  (K8:∀(R:List bh->dg->Prop)(E:bh->dg->Prop),(∀h' tk,(∀b o,s.heap.get? b=aj o->h'.get? b=aj o)->R vs {s with heap:=h',toks:=tk})->dj (dz prog w) A.in1 (collect (.ref r)) R E s)
  (eJ:vs.length<64)(hd:∀i j,i<vs.length->j<vs.length->kf i=kf j->i=j)
  (hk:2<=vs.length->∀(s':dg)(h':kh),(∀b o,s.heap.get? b=aj o->h'.get? b=aj o)->Cy prog w A.in1.in1 s' kf vs h')
  (h:∀(q:Array Nat)(h1:kh)(tk:Nat)(h':kh)(c:Nat),Pm vs.length q->Up kf q vs.length->(∀b o,s.heap.get? b=aj o->h1.get? b=aj o)->(∀b o,h1.get? b=aj o->h'.get? b=aj o)->h'.get? h1.objs.size=aj (qb "list" (q.toList.map λi=>vs.getD i bh.none).toArray c)->Q (.ref h1.objs.size) {s with heap:=h',toks:=tk}):dj (dz prog w) A (call (.builtin "sorted") [.ref r]) Q E s:=by
 have big:1000<dh:=by decide
 refine Calls.call_function_entry kind_sorted plain_sorted entry_sorted (args_sorted1 _) ?_;unfold Builtin.«sorted»;refine aq (m:=checkCount "sorted" 1 1 _) (cu (aq (K8 _ _ λh1 tk k1=>aq (wpAny_newList ?_ ⋯))));have oL:(h1.push (qb "list" vs.toArray 0)).get? h1.objs.size=aj (qb "list" vs.toArray 0):=ig _ rfl;have kp:∀b o,s.heap.get? b=aj o->(h1.push (qb "list" vs.toArray 0)).get? b=aj o:=λb o e=>cj _ (k1 b o e);refine aq (ud (vm (s:={s with heap:=h1.push (qb "list" vs.toArray 0),toks:=tk}) slot_list_sort ⟨_,oL,rfl⟩ entry_list_sort (Kj (kf:=kf) (s:={s with heap:=h1.push (qb "list" vs.toArray 0),toks:=tk}) oL eJ hd (λl2 h' k'=>?_) λq P u=>⟨_,rfl,cu ⟨_,rfl,?_⟩⟩) (args_list_sort _)))
 .exact hk l2 _ h' λb o e=>k' b o (jl (gk (k1 b o e))) (kp b o e)
 .obtain⟨c,hc⟩:=TM (h:=h1) (vs:=vs) (out:=(q.toList.map λi=>vs.getD i bh.none).toArray);exact h q h1 tk _ c P u k1 (λb o e=>O7 e) hc
end
variable{s:dg}{ps:List (Int×Int)}
section
variable{X:Cx}
def Qb{σ:St}{H:Hp}(I:Inv X ψ σ H s){G:Gp}{R:jC}{Q:VK}(g:HR X.K H G){xs:List V}{us:List bh}(r:cZ X.K H (ps.map oN) xs)(rv:Vals xs us)(nd:ps.Nodup)(eJ:ps.length<64)(hM:2*B<M)(hB:∀p∈ps,-B<=p.2/\p.2<=B)
  (k:∀v H' d G',Ts H H'->RD X.K H' d v->HR X.K H' G'->R d G'->Q v H')(h:∀qs:List (Int×Int),qs.Perm ps->eX qs->∀r,G r=au->R (.ref r) (aM G r (.lst (qs.map oN))))(P:Pm us.length q)(u:Up (λi=>enc M (ps.getD i (0,0))) q us.length){c:Nat}(k1:∀b o,s.heap.get? b=aj o->h1.get? b=aj o)(k2:∀b o,h1.get? b=aj o->h'.get? b=aj o)(ho:h'.get? h1.objs.size=aj (qb "list" (q.toList.map λi=>us.getD i bh.none).toArray c)):EP X ψ σ Q (.ref h1.objs.size) {s with heap:=h',toks:=tk}:=by
 have big:1000<dh:=by decide
 have l1:us.length=ps.length:=by rw[←rv.length,←r.length,gw]
 have l2:xs.length=ps.length:=by rw[←r.length,gw]
 rw[l1]at P u;let⟨p1,p2⟩:=QR hM hB nd P u;have ft:∀i∈q.toList,i<ps.length:=λi hi=>xr.mp (P.perm.mem_iff.mp hi);have I1:Inv X ψ σ H {s with heap:=h1,toks:=tk}:=I.kept (t':=tk) k1;have fr:H h1.objs.size=au:=I1.aa.fresh (fj _);have sn:aE H (upd H h1.objs.size (.lst (q.toList.map λi=>xs.getD i .ae))):=bM fr
 have J:Inv X ψ σ (upd H h1.objs.size (.lst (q.toList.map λi=>xs.getD i .ae))) {s with heap:=h',toks:=tk} :=
  I1.laid (t':=tk) (λb o e=>k2 b o e) (fj _) ⟨by rw[gw,qp,P.size];omega,_,c,GF rv λi hi=>by rw[l2];exact ft i hi,ho⟩
 have kf:=vJ J;exact⟨.ref h1.objs.size,_,J,rfl,k _ _ (.ref _) _ (.same sn) (.ref _) (g.put (u:=.lst _) fr ⟨_,aL,(Ki r ft).mono (.same sn)⟩) (h _ p1 p2 _ (jL g fr kf))⟩
def O6(nd:ps.Nodup)(hM:2*B<M)(hB:∀p∈ps,-B<=p.2/\p.2<=B):∀i j,i<ps.length->j<ps.length->enc M (ps.getD i (0,0))=enc M (ps.getD j (0,0))->i=j:=λi j hi hj e'=>by
 have mi:ps.getD i (0,0)∈ps:=by simp[vf,hi]
 have mj:ps.getD j (0,0)∈ps:=by simp[vf,hj]
 have k1:=yz hM (hB _ mi) (hB _ mj);have k2:=yz hM (hB _ mj) (hB _ mi)
 have ee:ps.getD i (0,0)=ps.getD j (0,0):=by
  have n1:¬ uN (ps.getD i (0,0)) (ps.getD j (0,0)):=λw=>absurd (k1.mpr w) ⋯;have n2:¬ uN (ps.getD j (0,0)) (ps.getD i (0,0)):=λw=>absurd (k2.mpr w) ⋯;unfold uN at n1 n2;exact Prod.ext ⋯ ⋯
 have e2:ps[i]=ps[j]:=by simpa[vf,hi,hj]using ee
 have key:=vq.mp nd;rcases BB i j with w|w|w
 .exact absurd e2 (key _ _ hi hj w)
 .exact w
 .exact absurd e2.symm (key _ _ hj hi w)
def aI9(I:Inv X ψ σ H s)(e:H a=aj (.dT ys)):∃(es:Array iX)(ep:Nat)(ws:List (List Key×bx×bh)),(a==ur)=ao/\pU s.heap a es ep/\es.size<=dh/\KT H ys ws/\∀acc:Array bh,ItemsOf (λi v=>∃e,es[i]?=aj e/\v=e.key) acc es.size->acc.toList=ws.map λx=>bh.ref x.2.1:=by
 let⟨z1,hd,ws,rel,o,es,ep,ho,Ci,bX,he,oz,hn⟩:=CG I.aa e;have lw:es.size=ws.length:=size_of_entries he;have WE:ws.length=ys.length:=(Paired.length rel).symm;refine⟨es,ep,ws,hd,⟨o,ho,Ci,bX⟩,⋯,rel,λacc di=>?_⟩;apply List.ext_getElem?;intro i;by_cases hi:i<ws.length
 .have tm:i<acc.size:=by rw[di.1,lw];exact hi
  let⟨en,e1,e2⟩:=di.2 i acc[i] (wg tm);have e3:es.toList[i]?=aj en:=by rw[yu];exact e1
  rw[he,ql,jd hi]at e3;have e4:entryOfKey (rV (aQ X.prog X.w)) ws[i]=en:=by simpa using e3
  rw[yu,wg tm,e2,←e4,ql,jd hi];rfl
 .rw[DR (by rw[qp,di.1,lw];omega),DR (by simp;omega)]
def QQ:∀l:List (List Key×bx×bh),Vals (l.map λx=>V.ref x.2.1) (l.map λx=>bh.ref x.2.1)
 |[]=>.nil
 |_::r=>.cons rfl (QQ r)
abbrev xJ:List D->Gp->jC->Prop:=λxs G R=>match xs with
 |[.ref a]=>(match G a with
  |some (.cX ak kvs)=>S2 (kvs.map λp=>dQ p.1) G R
  |_=>False)
 |_=>False
private theorem aIA(hc:X.calm=ak):eV X (.builtin "sorted") xJ:=by
 intro ψ s σ H xs vs us G R Q I rx rv g q k;unfold xJ at q;split at q
 .rename_i a;split at q
  .rename_i kvs e1;let⟨ps,ep,nd,eJ,h⟩:=q;cases rx with
   |cons r1 rr =>
   cases rr;cases r1;cases rv with
   |cons rv rr =>
   cases rr;cases rv;rcases g a _ e1 with⟨z,_⟩|⟨_,ys,e,r⟩
   .cases z
   .obtain⟨es,epo,ws,jI,raw,hz,rel,eR⟩:=aI9 I e;have Ar:=Kh r rel;rw[ep]at Ar;have vi:=QQ ws;let⟨B,b0,hB⟩:=Gr ps;have hp:=pairs_at I Ar vi;have hM:2*B<2*B+1:=by omega
    refine aI8 (kf:=λi=>enc (2*B+1) (ps.getD i (0,0))) (vs:=ws.map λx=>bh.ref x.2.1) (λR' E' hR=>kdu_collect (Jd jI) (I.ok.hd hc) raw hz λh' tk acc kk di=>?_) (by rw[hp.1];exact eJ) (λi j hi hj e=>?_) (λl2 s' h' kp=>KD hM hB l2 ⟨hp.1,λi p ei=>?_⟩) λq h1 tk h' c P u k1 k2 ho=>Qb I g Ar vi nd eJ hM hB k h P u k1 k2 ho
    .rw[eR acc di];exact hR h' tk kk
    .rw[hp.1]at hi hj;exact O6 nd hM hB i j hi hj e
    .obtain⟨a,o,n,x,y,z1,z2,z3,z4⟩:=hp.2 i p ei;exact⟨a,o,n,x,y,z1,kp _ _ z2,z3,z4⟩
  .exact q.elim
 .exact q.elim
end
end
section
open Builtin.Str
section
end
section
end
end
section
section
end
end
variable{d:bx}{its:Array bh}
section
open PySem.W
variable{x:Key×bh}
section
variable{prog:lg}{w:ji}{A:lu}{s:dg}
abbrev A2(xs ps:List (Key×bh)):List (Key×bh):=ps.foldl (λacc x=>stored acc x.1 x.2) xs
def Jz(hm:h.DictOf (aQ prog w) d xs)(k:∀o,h.get? d=aj o->h'.get? d=aj o):h'.DictOf (aQ prog w) d xs:=by
 let⟨o,es,ep,h1,r⟩:=hm;exact⟨o,es,ep,k _ h1,r⟩
abbrev C6(prog:lg)(w:ji)(I d:bx)(h:kh)(v:bh)(x:Key×bh):Prop:=∃p o n key,v=.ref p/\h.get? p=aj o/\o.cls=.type "tuple"/\o.data=.seq #[key,x.2] n/\(aQ prog w).is x.1 key=ak/\p≠I/\p≠d
def C6.keep(q:C6 prog w I d h v x)(k:∀b o,b≠d->b≠I->h.get? b=aj o->h'.get? b=aj o):C6 prog w I d h' v x:=by
 let⟨p,o,n,key,e,h1,h2,h3,h4,h5,h6⟩:=q;exact⟨p,o,n,key,e,k _ _ h6 h5 h1,h2,h3,h4,h5,h6⟩
variable{ps:List (Key×bh)}
def aCE(hh:A.handled=au)(ID:d≠I)(N6:l≠I)(dD:l≠d)(hlen:its.size=ps.length) :
  ∀(k i:Nat)(s:dg)(xs:List (Key×bh))(j:Int)(t:Tok),ps.length - i=k->i<=ps.length->s.heap.IsListIter I l i->s.heap.IsList l its->s.heap.DictOf (aQ prog w) d xs->xs.length+(ps.length - i)<=dh ->
   (∀(i:Nat)(v:bh)(x:Key×bh),its[i]?=aj v->ps[i]?=aj x->C6 prog w I d s.heap v x) ->
   (∀h' tk,h'.DictOf (aQ prog w) d (A2 xs (ps.drop i))->(∀b o,b≠d->b≠I->s.heap.get? b=aj o->h'.get? b=aj o)->R (.ok (.ret .none)) {s with heap:=h',toks:=tk}) ->
   k9 (dz prog w) A (.builtin "dict.update.loop" ⟨[.ref d,.ref I,.int j t,.none],[]⟩) R s:=by
 intro k
 induction k with
 |zero =>
  intro i s xs j t hk hi b9 hl hd hz hp hR;have ft:i=ps.length:=by omega
  refine codeAny_builtin Qc ?_;rw[lu.under_plainId Gq _];show dj _ A.in1 (eW (.ref I) >>= _) _ _ s;have W:=Walks.list (prog:=prog) (w:=w) (A:=A.in1) hh I l N6 its;refine aq (W.done s _ _ (by rw[hlen,←ft];exact⟨b9,hl⟩) λh' tk kk=>?_);have g7:h'.DictOf (aQ prog w) d xs:=Jz hd (λo e=>kk _ _ (by simpa using ID) e);show dj _ A.in1 (Builtin.Dict.addKeywords d [] >>= _) _ _ _;refine aq (cu (cu ?_));refine hR h' tk (by rw[ft,List.drop_length];exact g7) λb o h1 h2 e=>kk b o (by simpa using h2) e
 |succ k ih =>
  intro i s xs j t hk hi b9 hl hd hz hp hR;have iF:i<ps.length:=by omega
  refine codeAny_builtin Qc ?_;rw[lu.under_plainId Gq _];show dj _ A.in1 (eW (.ref I) >>= _) _ _ s;have W:=Walks.list (prog:=prog) (w:=w) (A:=A.in1) hh I l N6 its;refine aq (W.item i s _ _ ⋯ ⟨b9,hl⟩ λv h' tk hP D3 kk=>?_);obtain⟨x,Im⟩:∃x,ps[i]?=aj x:=⟨_,jd iF⟩;have k1:∀b o,b≠d->b≠I->s.heap.get? b=aj o->h'.get? b=aj o:=λb o _ h2 e=>kk b o (by simpa using h2) e;have g7:h'.DictOf (aQ prog w) d xs:=Jz hd (λo e=>kk _ _ (by simpa using ID) e);let⟨p,o,n,key,rfl,q1,q2,q3,bp,_,_⟩:=(hp i v x hP Im).keep k1;refine aq (ud (aq (wpAny_tryCatch ?_)));unfold Builtin.Dict.pairItems;refine aq (wpAny_typeOf (s:={s with heap:=h',toks:=tk}) (T:="tuple") ⟨o,q1,q2⟩ ?_);rw[if_pos (by decide)];refine aq (DE (s:={s with heap:=h',toks:=tk}) q1 q3 (cu ?_));show dj _ A.in1 (holding [key,x.2] (dictSet d key x.2)) _ _ _;refine ud (wpAny_dictSet_pairs (s:={s with heap:=h',toks:=tk}) bp g7 (λh2 qv Ay=>?_) ⋯);have k2:∀b o,b≠d->b≠I->s.heap.get? b=aj o->h2.get? b=aj o:=λb o h1 hI e=>(Ay.2 b h1).trans (k1 b o h1 hI e);refine cu ⟨plainId_quiet Gq _,ih (i+1) _ (stored xs x.1 x.2) _ _ ⋯ iF (D3.1.at λo e=>(Ay.2 I (Ne.symm ID)).trans e) (D3.2.at λo e=>(Ay.2 l dD).trans e) qv (by have:=stored_length_le xs x.1 x.2;omega) (λi v x e1 e2=>(hp i v x e1 e2).keep k2) λh3 HE IE k3=>?_⟩;refine hR h3 HE ?_ λb o h1 hI e=>k3 b o h1 hI (k2 b o h1 hI e)
  have:ps.drop i=x::ps.drop (i+1):=by
   rw[List.drop_eq_getElem_cons iF];rw[jd iF]at Im;cases Im;rfl
  rw[this];exact IE
abbrev F6(prog:lg)(w:ji)(h:kh)(v:bh)(x:Key×bh):Prop:=∃p o n key,v=.ref p/\h.get? p=aj o/\o.cls=.type "tuple"/\o.data=.seq #[key,x.2] n/\(aQ prog w).is x.1 key=ak
def F6.ok(q:F6 prog w h v x)(hI:h.objs.size<=I)(hd:h.objs.size<=d)(k:∀b o,h.get? b=aj o->h'.get? b=aj o):C6 prog w I d h' v x:=by
 let⟨p,o,n,key,e,h1,h2,h3,h4⟩:=q;have l1:=gk h1;exact⟨p,o,n,key,e,k _ _ h1,h2,h3,h4,jl (ju l1 hI),jl (ju l1 hd)⟩
def aCF{o:Obj}(hh:A.handled=au)(hl:s.heap.get? l=aj o)(hc:o.cls=.type "list")(bX:o.data=.seq its n)(W4:o.dict=au)(hlen:its.size=ps.length)(hz:ps.length<=dh)
  (hp:∀(i:Nat)(v:bh)(x:Key×bh),its[i]?=aj v->ps[i]?=aj x->F6 prog w s.heap v x)
  (h:∀h' tk,h'.DictOf (aQ prog w) s.heap.objs.size (A2 [] ps)->(∀b o,s.heap.get? b=aj o->h'.get? b=aj o)->Q (.ref s.heap.objs.size) {s with heap:=h',toks:=tk}) :
  dj (dz prog w) A (call (.type "dict") [.ref l]) Q E s:=by
 refine callType_codes (Q₁:=λobj af=>obj=.ref s.heap.objs.size/\af={s with heap:=s.heap.push {cls:=.type "dict",data:=.dict #[]}}) F.kt_called_dict (F.kt_typeCall_dict_1 _) F.entry_dict_init (kt_code_dict_new _ ⟨rfl,rfl⟩) ?_;rintro obj af ⟨rfl,rfl⟩;have kp:∀b o,s.heap.get? b=aj o->(s.heap.push {cls:=.type "dict",data:=.dict #[]}).get? b=aj o:=λb o e=>cj _ e;have Ae:(s.heap.push {cls:=.type "dict",data:=.dict #[]}).DictOf (aQ prog w) s.heap.objs.size []:=Heap.DictOf.new s.heap;have Ob:l≠s.heap.objs.size:=jl (gk hl);refine⟨Ae.typeIs,F.args_dict_init_2 _ _,?_⟩;unfold Builtin.«dict.__init__»;refine aq ?_;unfold Builtin.Dict.selfAndRest;refine aq (wpAny_notOrdered_dict Ae.typeIs ?_);show dj _ _ (pure (s.heap.objs.size,[bh.ref l])) _ _ _;refine cu ?_;show dj _ _ (Builtin.Dict.updateFrom "dict.__init__" s.heap.objs.size (.ref l) [] .none) _ _ _;unfold Builtin.Dict.updateFrom;refine aq (wpAny_typeOf (T:="list") ⟨o,kp _ _ hl,hc⟩ ?_);rw[if_pos (by decide)];refine aq (aI6 (kp _ _ hl) hc bX W4 hh λh' tk k1=>?_);rw[if_pos (by rfl)];refine aq (se ?_);have IB:h'.IsList l its:=⟨o,k1 _ _ (kp _ _ hl),hc,n,bX⟩;refine aq (GN (s:={s with heap:=h',toks:=tk}) IB ?_);have k2:∀b o,s.heap.get? b=aj o->(h'.push {cls:=.type "list_iterator",data:=.fields #[.ref l,fA 0]}).get? b=aj o:=λb o e=>cj _ (k1 _ _ (kp _ _ e));have HG:s.heap.objs.size<h'.objs.size:=gk (k1 s.heap.objs.size _ (ig _ rfl));refine cu ⟨plainId_quiet Gq _,aCE (A:=A.in1) (its:=its) (ps:=ps) hh (jl HG) (jl (gk IB.choose_spec.1)) Ob hlen ps.length 0 _ [] _ _ rfl (xu _) ⟨_,ig _ rfl,rfl,rfl⟩ (IB.at λo e=>cj _ e) (Jz Ae (λo e=>cj _ (k1 _ _ e))) (by simp;omega) (λi v x e1 e2=>(hp i v x e1 e2).ok (wk HG) (fj _) k2) λh3 HE IE k3=>?_⟩;exact⟨rfl,h h3 HE IE λb o e=>k3 b o (jl (gk e)) (jl (Nat.lt_trans (gk e) HG)) (k2 b o e)⟩
end
abbrev S1:D->Option (Key×D)
 |.tup [y,z]=>(match LJ y with
  |some k=>aj (k,z)
  |none=>au)
 |_=>au
abbrev A9:List D->Option (List (Key×D))
 |[]=>aj []
 |d::r=>match S1 d,A9 r with
  |some p,aj ps=>aj (p::ps)
  |_,_=>au
abbrev CP(kvs:List (DK×D))(ps:List (Key×D)):List (DK×D):=ps.foldl (λacc p=>gB acc (.inl p.1) p.2) kvs
inductive AU(K:Fg)(H:Hp):List (Key×D)->List (Key×bh)->Prop where
 |nil:AU K H [] []
 |cons {k:Key} {vz:V} {u:bh} {d:D} {kvs:List (Key×D)} {ps:List (Key×bh)}:RD K H d vz->RelV vz u->AU K H kvs ps->AU K H ((k,d)::kvs) ((k,u)::ps)
def X5(ps:List (Key×bh)):∀xs,(A2 xs ps).length<=xs.length+ps.length:=by
 induction ps with
 |nil=>intro xs;simp[A2]
 |cons p r ih =>
  intro xs;have:=ih (stored xs p.1 p.2);have:=stored_length_le xs p.1 p.2;simp only[A2,List.foldl_cons,uq]at *;omega
def AU.fold{K:Fg}(h:AU K H kvs ps):∀{k0:List (DK×D)}{y0:List (Key×V)}{p0:List (Key×bh)},KV y0 p0->fe K H .inl k0 y0->∃ys,KV ys (A2 p0 ps)/\fe K H .inl (CP k0 kvs) ys:=by
 induction h with
 |nil=>intro k0 y0 p0 a b;exact⟨y0,a,b⟩
 |@cons k vz u d kvs ps rd rv _ ih =>
  intro k0 y0 p0 a c;exact ih (KV.put a k rv) (FR rC rd c)
section
variable{X:Cx}
private theorem O5{ψ:List (bx×Obj)}{s:dg}(I:Inv X ψ σ H s):∀{ds:List D}{zs:List V}{its:List bh}{kvs:List (Key×D)},cZ X.K H ds zs->Vals zs its->A9 ds=aj kvs ->
  ∃ps,AU X.K H kvs ps/\its.length=ps.length/\∀(i:Nat)(v:bh)(x:Key×bh),its[i]?=aj v->ps[i]?=aj x->F6 X.prog X.w s.heap v x
 |_,_,_,_,.nil,.nil,e=>by cases e;exact⟨[],.nil,rfl,λi v x e=>by simp at e⟩
 |d::ds,z::zs,u::its,kvs,.cons r rs,.cons v vs,e=>by
  unfold A9 at e;split at e
  .rename_i p sN e1 e2;cases e;let⟨ps,hp,hl,hq⟩:=O5 I rs vs e2;unfold S1 at e1;split at e1
   .rename_i y z';split at e1
    .rename_i k e3;cases e1;cases r with
     |@tup a xs _ sq rr _ =>
     obtain rfl:u=bh.ref a:=v;cases rr with
     |cons r1 rr =>
     cases rr with
     |@cons _ vz _ _ r2 rr =>
     cases rr;have ek:=Pb r1 e3;subst ek;let⟨i2,vi,⟨o,h1,h2,n,h3⟩,_⟩:=I.tuple sq;cases vi with
     |@cons _ uk _ _ va vi =>
     cases vi with
     |@cons _ uz _ _ vb vi =>
     cases vi;refine⟨(k,uz)::ps,.cons r2 vb hp,by simp[hl],λi v x e1 e2=>?_⟩;cases i with
     |zero =>
      simp at e1 e2;subst e1 e2;exact⟨a,o,n,uk,rfl,h1,h2,by simpa using h3,ve va⟩
     |succ i=>exact hq i v x (by simpa using e1) (by simpa using e2)
    .cases e1
   .cases e1
  .cases e
abbrev zt:List D->Gp->jC->Prop:=λxs G R=>match xs with
 |[.ref a]=>(match cO G a with
  |some ds=>(match A9 ds with
   |some kvs=>∀r,G r=au->R (.ref r) (aM G r (.cX ao (CP [] kvs)))
   |none=>False)
  |none=>False)
 |_=>False
private theorem aIC(hc:X.calm=ak):eV X (.type "dict") zt:=by
 intro ψ s σ H xs vs us G R Q I rx rv g q k;unfold zt at q;split at q
 .rename_i a;split at q
  .rename_i ds e1;split at q
   .rename_i kvs e2;cases rx with
    |cons r1 rr =>
    cases rr;cases r1;cases rv with
    |cons rv rr =>
    cases rr;cases rv;let⟨zs,hq,r⟩:=dZ g e1;let⟨its,vi,⟨o,n,h1,h2,h3,h4⟩,hz⟩:=I.list hq;let⟨ps,hp,hl,AE⟩:=O5 I r vi e2;have WR:ps.length<=dh:=by rw[←hl,←vi.length];exact hz
    refine aCF (I.ok.hd hc) h1 h2 h4 h3 (by simpa using hl) WR (λi v x e1 e2=>AE i v x (by simpa using e1) e2) λh' tk hd kk=>?_;let⟨ys,kt,tw⟩:=hp.fold (k0:=[]) (y0:=[]) (p0:=[]) .nil .nil;have fr:H s.heap.objs.size=au:=I.aa.fresh (fj _);have sn:aE H (upd H s.heap.objs.size (.dK ys)):=bM fr;have WK:ys.length<=dh:=by rw[KV.length kt];have:=X5 ps [];simp at this;omega
    have J:Inv X ψ σ (upd H s.heap.objs.size (.dK ys)) {s with heap:=h',toks:=tk}:=I.laid (t':=tk) (o:=.dK ys) kk (fj _) ⟨WK,(by have:=I.big;simp;exact zb this),_,kt,hd⟩;exact⟨.ref s.heap.objs.size,_,J,rfl,k _ _ (.ref _) _ (.same sn) (.ref _) (g.put (u:=.cX ao _) fr (.inl ⟨rfl,ys,aL,tw.imp λ_ _ z=>⟨z.1,z.2.mono (.same sn)⟩⟩)) (q _ (jL g fr (vJ J)))⟩
   .exact q.elim
  .exact q.elim
 .exact q.elim
end
end
section
open PySem.W
section
end
section
end
end
section
open PySem.W
section
variable{prog:lg}{w:ji}{A:lu}{E:bh->dg->Prop}{s:dg}
def aCG{CV:List bh->kh->Prop}{Q:bh->dg->Prop}
  (K8:∀(R:List bh->dg->Prop)(E:bh->dg->Prop),(∀vs h' tk,(∀b o,s.heap.get? b=aj o->h'.get? b=aj o)->CV vs h'->R vs {s with heap:=h',toks:=tk})->dj (dz prog w) A.in1 (collect (.ref r)) R E s)
  (hm:∀vs h1 tk,(∀b o,s.heap.get? b=aj o->h1.get? b=aj o)->CV vs h1->vs.length<64/\∃kf:Nat->Int,(∀i j,i<vs.length->j<vs.length->kf i=kf j->i=j) /\
   (2<=vs.length->∀h':kh,(∀b o,h1.get? b=aj o->h'.get? b=aj o)->Cy prog w A.in1.in1 {s with toks:=tk} kf vs h') /\
   ∀(q:Array Nat)(h':kh)(c:Nat),Pm vs.length q->Up kf q vs.length->(∀b o,h1.get? b=aj o->h'.get? b=aj o)->h'.get? h1.objs.size=aj (qb "list" (q.toList.map λi=>vs.getD i bh.none).toArray c)->Q (.ref h1.objs.size) {s with heap:=h',toks:=tk}):dj (dz prog w) A (call (.builtin "sorted") [.ref r]) Q E s:=by
 have big:1000<dh:=by decide
 refine Calls.call_function_entry kind_sorted plain_sorted entry_sorted (args_sorted1 _) ?_;unfold Builtin.«sorted»;refine aq (m:=checkCount "sorted" 1 1 _) (cu (aq (K8 _ _ λvs h1 tk k1 cv=>?_)));let⟨eJ,kf,hd,hk,h⟩:=hm vs h1 tk k1 cv;refine aq (wpAny_newList ?_ ⋯);have oL:(h1.push (qb "list" vs.toArray 0)).get? h1.objs.size=aj (qb "list" vs.toArray 0):=ig _ rfl;refine aq (ud (vm (s:={s with heap:=h1.push (qb "list" vs.toArray 0),toks:=tk}) slot_list_sort ⟨_,oL,rfl⟩ entry_list_sort (Kj (kf:=kf) (s:={s with heap:=h1.push (qb "list" vs.toArray 0),toks:=tk}) oL eJ hd (λl2 h' k'=>?_) λq P u=>⟨_,rfl,cu ⟨_,rfl,?_⟩⟩) (args_list_sort _)))
 .exact hk l2 h' λb o e=>k' b o (jl (gk e)) (cj _ e)
 .obtain⟨c,hc⟩:=TM (h:=h1) (vs:=vs) (out:=(q.toList.map λi=>vs.getD i bh.none).toArray);exact h q _ c P u (λb o e=>O7 e) hc
end
variable{s:dg}
section
variable{X:Cx}
def Inv.grown(I:Inv X ψ σ H s)(k:∀b u,s.heap.get? b=aj u->h'.get? b=aj u)(hs:aE H H')(hn:∀b u,H' b=aj u->H b=aj u∨(s.heap.objs.size<=b/\iZ X.prog X.w H' h' b u)):Inv X ψ σ H' {s with heap:=h',toks:=t' }:=by
 refine I.un ⟨λb ob q _ _ _=>k b ob q,λb ob q _ _ _=>⟨ob.slots,k b ob q⟩,λb ob q n _=>?_,λb ob q _=>⟨ob,k b ob q⟩,λb xs q=>hs _ _ q,λb o u q=>hs _ _ q,λb ps q=>⟨#[],by rw[hs _ _ q];simp⟩⟩ λa o e=>?_
 .cases z:H' b with
  |none=>rfl
  |some u =>
   rcases hn b u z with w|⟨w,_⟩
   .rw[n]at w;cases w
   .exact absurd (gk q) (Nat.not_lt.mpr w)
 .rcases hn a o e with w|⟨_,w⟩
  .exact(I.aa a o w).bP (λc v _ q=>k c v q) (λc q=>hs _ _ q) λc xs q=>hs _ _ q
  .exact w
variable{σ:St}
def X4{H:Hp}(I:Inv X ψ σ H s)(k:∀b u,s.heap.get? b=aj u->h1.get? b=aj u){as:List bx}{ys:Nat->List V}{us:Nat->List bh}(nd:as.Nodup)(hi:∀a∈as,s.heap.objs.size<=a)
  (ht:∀j a,as[j]?=aj a->Vals (ys j) (us j)/\(ys j).length<=dh/\IsTup h1 a (us j).toArray):∃H1,Inv X ψ σ H1 {s with heap:=h1,toks:=tk}/\aE H H1/\∀j a,as[j]?=aj a->H1 a=aj (.tup (ys j)):=by
 have fr:∀a∈as,H a=au:=λa ha=>I.aa.fresh (hi a ha)
 let H1:Hp:=λb=>if b∈as then aj (.tup (ys (as.idxOf b)))else H b
 have sm:aE H H1:=λb o e=>by
  show(if b∈as then _ else _)=_;rw[if_neg]
  .exact e
  .intro z;rw[fr b z]at e;cases e
 have Fq:∀j a,as[j]?=aj a->H1 a=aj (.tup (ys j)):=λj a e=>by
  let⟨hj,e2⟩:=iz.mp e;show(if a∈as then _ else _)=_;rw[if_pos (lq e),←e2,nd.idxOf_getElem]
 refine⟨H1,I.grown k sm λb u e=>?_,sm,Fq⟩;by_cases z:b∈as
 .right;refine⟨hi b z,?_⟩;let⟨j,hj⟩:=GY.mp z;have e3:=Fq j b hj;rw[e3]at e;cases e;let⟨t1,t2,t3⟩:=ht j b hj;exact⟨t2,us j,t1,t3⟩
 .left;have e':(if b∈as then aj (.tup (ys (as.idxOf b)))else H b)=aj u:=e;rw[if_neg z]at e';exact e'
abbrev uO(p:Int×Int):DK×D:=(.inl (.inl p.1),.int p.2)
def Jc{K:Fg}:∀{ps:List (Int×Int)}{ys:List (Key×V)},fe K H .inl (ps.map uO) ys->ys=ps.map λp=>(.inl p.1,.int p.2)
 |[],_,.nil=>rfl
 |p::ps,y::ys,.cons h r=>by
  let⟨k,v⟩:=y;let⟨h1,h2⟩:=h
  have e1:(Sum.inl p.1:Key)=k:=by
   have:(Sum.inl (Sum.inl p.1):DK)=.inl k:=h1;exact rC _ _ this
  cases h2;rw[Jc r,←e1];rfl
def LH:∀{ps:List (Int×Int)}{vs:List (Key×bh)},KV (ps.map λp=>((.inl p.1:Key),V.int p.2)) vs->vs.length=ps.length/\vs.map (·.1)=ps.map (λp=>(.inl p.1:Key))/\∀(j:Nat)(p:Int×Int),ps[j]?=aj p->∃t,vs[j]?=aj (.inl p.1,bh.int p.2 t)
 |[],_,.nil=>⟨rfl,rfl,λj p e=>by simp at e⟩
 |p::ps,v::vs,.cons h r=>by
  let⟨a1,a2,a3⟩:=LH r;let⟨k,u⟩:=v;let⟨h1,t,h2⟩:=h;cases h1;cases h2;refine⟨by simp[a1],by simp[a2],λj q e=>?_⟩;cases j with
  |zero=>simp at e;subst e;exact⟨t,rfl⟩
  |succ j=>exact a3 j q (by simpa using e)
def Qa{K:Fg}:∀{ps:List (Int×Int)}{as:List bx},as.length=ps.length->(∀(j:Nat)(a:bx)(p:Int×Int),as[j]?=aj a->ps[j]?=aj p->H a=aj (.tup [.int p.1,.int p.2]))->cZ K H (ps.map oN) (as.map V.ref)
 |[],[],_,_=>.nil
 |p::ps,a::as,hl,h=>by
  have e:=h 0 a p rfl rfl;exact .cons (.tup (.inl (.of e)) (.cons (.int _) (.cons (.int _) .nil)) (uv e)) (Qa (by simpa using hl) λj b q e1 e2=>h (j+1) b q (by simpa using e1) (by simpa using e2))
def O4:∀as:List bx,Vals (as.map V.ref) (as.map bh.ref)
 |[]=>.nil
 |_::r=>.cons rfl (O4 r)
def Zw{H:Hp}{G:Gp}{R:jC}{Q:VK}(hc:X.calm=ak)(I:Inv X ψ σ H s)(g:HR X.K H G){a:bx}{ps:List (Int×Int)}(e:G a=aj (.cX ao (ps.map uO)))(eJ:ps.length<64)(hv:s.heap.IsItemsView r a)
  (h:∀qs:List (Int×Int),qs.Perm ps->eX qs->∀r,G r=au->R (.ref r) (aM G r (.lst (qs.map oN))))(k:∀v H' d G',Ts H H'->RD X.K H' d v->HR X.K H' G'->R d G'->Q v H'):dj (dz X.prog X.w) X.A (call (.builtin "sorted") [.ref r]) (EP X ψ σ Q) X.xe s:=by
 have big:1000<dh:=by decide
 rcases g a _ e with⟨_,ys,e1,tw⟩|⟨z,_⟩
 .have ey:=Jc tw;subst ey;let⟨z1,jI,vs,kv,hd⟩:=A6 I.aa e1;let⟨l1,l2,l3⟩:=LH kv;let⟨o,es,ep,q1,q2,q3,q4,q5,q6⟩:=hd;have AE:s.heap.DictAt (aQ X.prog X.w) a vs ep:=⟨o,es,q1,q2,q3,q4,q5,q6⟩;have nk:(ps.map λp=>(.inl p.1:Key)).Nodup:=by rw[←l2];exact q6
  have nd:ps.Nodup:=(BA.mp nk).imp λh z=>h (by rw[z]);refine aCG (CV:=λus h'=>∃as:List bx,us=as.map bh.ref/\as.length=ps.length/\KdxG (aQ X.prog X.w) vs s.heap.objs.size h' as) (λR' E' hR=>kdx_collect (I.ok.hd hc) hv AE ⋯ λh' tk as kk hl hG=>hR _ h' tk kk ⟨as,rfl,hl.trans l1,hG⟩) λus h1 tk k1 cv=>?_;let⟨as,rfl,hl,hG⟩:=cv
  have ex:∀j:Nat,∃uu:List bh,∀b,as[j]?=aj b->Vals [V.int (ps.getD j (0,0)).1,V.int (ps.getD j (0,0)).2] uu/\IsTup h1 b uu.toArray:=λj=>by
   cases ea:as[j]? with
   |none=>exact⟨[],λb z=>by cases z⟩
   |some b =>
    let⟨key,kk,x,p1,p2,p3⟩:=hG.pairs j b ea;have hj:j<ps.length:=by rw[←hl];exact(iz.mp ea).1
    let⟨t,p4⟩:=l3 j ps[j] (jd hj);rw[p4]at p1;cases p1;have gd:ps.getD j (0,0)=ps[j]:=getD_at hj;refine⟨[key,bh.int ps[j].2 t],λb' z=>?_⟩;cases z;rw[gd];refine⟨.cons ?_ (.cons ⟨t,rfl⟩ .nil),⟨_,p3,rfl,_,rfl⟩⟩;rcases dO (show vj (Sum.inl ps[j].1) key=ak from p2)with⟨i,t',e1,e2⟩|⟨i,t',e1,e2⟩
    .cases e1;exact⟨t',e2⟩
    .cases e1
  let⟨us,NV⟩:=Classical.axiomOfChoice ex;let⟨H1,I1,sm,Fq⟩:=X4 (tk:=tk) I k1 (as:=as) (ys:=λj=>[V.int (ps.getD j (0,0)).1,V.int (ps.getD j (0,0)).2]) (us:=us) (hG.rise.imp jl) (λb hb=>wk (hG.above b hb)) λj b e=>⟨(NV j b e).1,by show 2<=dh;omega,(NV j b e).2⟩
  have Ar:cZ X.K H1 (ps.map oN) (as.map V.ref):=Qa hl λj b p e1 e2=>by
   have z:=Fq j b e1;let⟨hj,e3⟩:=iz.mp e2;rw[getD_at hj,e3]at z;exact z
  have vi:=O4 as;let⟨B,b0,hB⟩:=Gr ps;have hp:=pairs_at I1 Ar vi;have hM:2*B<2*B+1:=by omega
  have g1:HR X.K H1 G:=g.same sm;refine⟨by rw[hp.1];exact eJ,λi=>enc (2*B+1) (ps.getD i (0,0)),λi j hi hj e=>?_,λl2 h' kp=>KD hM hB l2 ⟨hp.1,λi p ei=>?_⟩,λq h' c P u k2 ho=>?_⟩
  .rw[hp.1]at hi hj;exact O6 nd hM hB i j hi hj e
  .obtain⟨a,o,n,x,y,z1,z2,z3,z4⟩:=hp.2 i p ei;exact⟨a,o,n,x,y,z1,kp _ _ z2,z3,z4⟩
  .exact Qb (s:={s with heap:=h1,toks:=tk}) (h1:=h1) (tk:=tk) I1 g1 Ar vi nd eJ hM hB (λv H' d G' t=>k v H' d G' ((Ts.same sm).trans t)) h P u (λ_ _ z=>z) k2 ho
 .cases z
abbrev zr(x:D)(G:Gp)(R:jC):Prop:=match x with
 |.ref a=>(match G a with
  |some (.cX ao kvs)=>∃ps:List (Int×Int),kvs=ps.map uO/\ps.length<64/\∀qs:List (Int×Int),qs.Perm ps->eX qs->∀r,G r=au->R (.ref r) (aM G r (.lst (qs.map oN)))
  |_=>False)
 |_=>False
private theorem Zv(h:zr x G R):∃a,∃ps:List (Int×Int),x=.ref a/\G a=aj (.cX ao (ps.map uO))/\ps.length<64/\∀qs:List (Int×Int),qs.Perm ps->eX qs->∀r,G r=au->R (.ref r) (aM G r (.lst (qs.map oN))):=by
 unfold zr at h;split at h
 .split at h
  .rename_i e;let⟨ps,rfl,h1,h2⟩:=h;exact⟨_,ps,rfl,e,h1,h2⟩
  .exact h.elim
 .exact h.elim
abbrev Dk(to:d7):d7:=λρ G R=>to ρ G λx G1=>zr x G1 R
def O3{K:Fg}(g:HR K H G)(e:G a=aj (.cX ao kvs)):pE H a:=by
 rcases g a _ e with⟨_,ys,e1,_⟩|⟨z,_⟩
 .exact .inl ⟨ys,.of e1⟩
 .cases z
def aID{x:Str}(hc:X.calm=ak)(ho:dJ X o to)(hg:Gl X x)(hm:X.mg x=au)(hv:mq x=aj (.builtin "sorted"))(hn:x≠"__name__")(ij:(x==("__debug__":Str))=ao)
  (aT:uf o "items" X.env (eval o X.env)=eval o X.env)(aS:(apos.endLine==ah.line)=ak) :
  dJ X (.Call (.Name x p) [.Call (.Attribute o "items" apos) [] [] ah] [] pos) (Dk to):=by
 intro ψ s σ H Q I h;let⟨ρ,G,R,sr,g,q,kk⟩:=h;refine yx (Bh I hg hm hv ?_ hn ij);refine PyProof.Rows.callWith_builtin1 (Calls.spliced_cons ?_);refine Ha aT aS (fW (ho ψ s σ H (λvx H1=>Ts H H1/\∃x G1,RD X.K H1 x vx/\HR X.K H1 G1/\zr x G1 R) I ⟨ρ,G,_,sr,g,q,λv H1 x G1 t1 r1 g1 q1=>⟨t1,x,G1,r1,g1,q1⟩⟩) ?_);rintro v s1 ⟨vx,H1,I1,r1,t1,x1,G1,rx,g1,q1⟩;let⟨a,ps,rfl,e1,eJ,hq⟩:=Zv q1;cases rx;obtain rfl:v=bh.ref a:=r1;let⟨h1,h2,h3⟩:=C2 I1 (O3 g1 e1);refine⟨"dict","dict.items",PySem.F.plainAttrs_dict,PySem.F.slot_dict_items,PySem.F.type_dict_items,h1,h2,Calls.callWith_builtin rfl (PySem.evalArgs_none ?_)⟩;rcases g1 a _ e1 with⟨_,ys,e2,tw⟩|⟨z,_⟩
 .obtain⟨z1,jI,vs,kv,hd⟩:=A6 I1.aa e2;refine call_meetsIn PySem.F.slot_dict_items h1 PySem.F.entry_dict_items (PySem.F.args_dict_items_1 _) (meets_dict_items (aQ X.prog X.w) a jI) ⟨⟨vs,hd⟩,?_⟩;refine Calls.spliced_nil ?_;have I2:Inv X ψ σ H1 {s1 with heap:=s1.heap.push {cls:=.type "dict_items",data:=.fields #[.ref a]},toks:=s1.toks}:=I1.kept λb o e=>cj _ e;exact Zw (s:={s1 with heap:=s1.heap.push {cls:=.type "dict_items",data:=.fields #[.ref a]}}) hc I2 g1 e1 eJ ⟨_,ig _ rfl,rfl,rfl⟩ hq λv H' d G' t=>kk v H' d G' (t1.trans t)
 .cases z
def P9:∀l:List Int,preSum (λi=>l.getD i 0) l.length=l.sum
 |[]=>rfl
 |x::l=>by
  rw[uq,kdu_shift,List.sum_cons,←P9 l];rfl
abbrev vt(x:D)(G:Gp)(R:jC):Prop:=match x with
 |.ref a=>(match G a with
  |some (.cX ao kvs)=>∃ps:List (Int×Int),kvs=ps.map uO/\R (.int (ps.map (·.2)).sum) G
  |_=>False)
 |_=>False
private theorem X3(h:vt x G R):∃a,∃ps:List (Int×Int),x=.ref a/\G a=aj (.cX ao (ps.map uO))/\R (.int (ps.map (·.2)).sum) G:=by
 unfold vt at h;split at h
 .split at h
  .rename_i e;let⟨ps,rfl,h1⟩:=h;exact⟨_,ps,rfl,e,h1⟩
  .exact h.elim
 .exact h.elim
abbrev FA(to:d7):d7:=λρ G R=>to ρ G λx G1=>vt x G1 R
def aP0{x:Str}(hc:X.calm=ak)(ho:dJ X o to)(hg:Gl X x)(hm:X.mg x=au)(hv:mq x=aj (.builtin "sum"))(hn:x≠"__name__")(ij:(x==("__debug__":Str))=ao)
  (aT:uf o "values" X.env (eval o X.env)=eval o X.env)(aS:(apos.endLine==ah.line)=ak) :
  dJ X (.Call (.Name x p) [.Call (.Attribute o "values" apos) [] [] ah] [] pos) (FA to):=by
 intro ψ s σ H Q I h;let⟨ρ,G,R,sr,g,q,kk⟩:=h;refine yx (Bh I hg hm hv ?_ hn ij);refine PyProof.Rows.callWith_builtin1 (Calls.spliced_cons ?_);refine Ha aT aS (fW (ho ψ s σ H (λvx H1=>Ts H H1/\∃x G1,RD X.K H1 x vx/\HR X.K H1 G1/\vt x G1 R) I ⟨ρ,G,_,sr,g,q,λv H1 x G1 t1 r1 g1 q1=>⟨t1,x,G1,r1,g1,q1⟩⟩) ?_);rintro v s1 ⟨vx,H1,I1,r1,t1,x1,G1,rx,g1,q1⟩;let⟨a,ps,rfl,e1,hq⟩:=X3 q1;cases rx;obtain rfl:v=bh.ref a:=r1;let⟨h1,h2,h3⟩:=C2 I1 (O3 g1 e1);refine⟨"dict","dict.values",PySem.F.plainAttrs_dict,PySem.F.slot_dict_values,PySem.F.type_dict_values,h1,h2,Calls.callWith_builtin rfl (PySem.evalArgs_none ?_)⟩;rcases g1 a _ e1 with⟨_,ys,e2,tw⟩|⟨z,_⟩
 .have ey:=Jc tw;subst ey;let⟨z1,jI,vs,kv,hd⟩:=A6 I1.aa e2;let⟨l1,l2,l3⟩:=LH kv;refine call_meetsIn PySem.F.slot_dict_values h1 PySem.F.entry_dict_values (PySem.F.args_dict_values_1 _) (meets_dict_values (aQ X.prog X.w) a jI) ⟨⟨vs,hd⟩,?_⟩;refine Calls.spliced_nil ?_;let⟨o,es,ep,q1,q2,q3,q4,q5,q6⟩:=hd
  let oV:Obj:={cls:=.type "dict_values",data:=.fields #[.ref a]}
  have AE:(s1.heap.push oV).DictAt (aQ X.prog X.w) a vs ep:=⟨o,es,cj _ q1,q2,q3,q4,q5,q6⟩;have NU:(s1.heap.push oV).IsValuesView s1.heap.objs.size a:=⟨_,ig _ rfl,rfl,rfl⟩;refine call_sum_walkAnyS ?_;have KS:=kdl_values (prog:=X.prog) (w:=X.w) (knd:=aQ X.prog X.w) (r:=s1.heap.objs.size) (d:=a) (kvs:=vs) (ep:=ep);let⟨oI,St,hit,W,st⟩:=KS.iter X.A.in1 {s1 with heap:=s1.heap.push oV} (I1.ok.hd hc) ⟨NU,AE⟩;refine hit _ _ ⟨(s1.heap.push oV).objs.size,_,_,_,vs.length,_,_,(λi=>(ps.map (·.2)).getD i 0),rfl,W.toS,st,λb hb=>?_,?_,λs' t' hm=>?_⟩
  .show b<((s1.heap.push oV).push oI).objs.size;rw[size_push'];rcases jm.mp hb with e|hb
   .rw[e];exact Nat.lt_succ_self _
   .rw[ux.mp hb];exact DQ (KS.there _ ⟨NU,AE⟩).2
  .intro i v hP;let⟨k,hk⟩:=hP;have hi:i<ps.length:=by rw[←l1];exact(iz.mp hk).1
   let⟨t,p4⟩:=l3 i ps[i] (jd hi);rw[p4]at hk;cases hk;refine⟨t,?_⟩;have:(ps.map (·.2)).getD i 0=ps[i].2:=by simp[vf,hi]
   show bh.int ps[i].2 t=bh.int ((ps.map (·.2)).getD i 0) t;rw[this]
  .have hk:∀b o,s1.heap.get? b=aj o->s'.heap.get? b=aj o:=λb o e =>
    hm.heap b o (λhI=>absurd (gk e) (by have z:=ux.mp hI;rw[z];show ¬ (s1.heap.push oV).objs.size<_;rw[size_push'];exact Nat.not_lt.mpr (sf _))) (cj _ (cj _ e))
   rw[Moved.eq_with hm];have e5:vs.length=(ps.map (·.2)).length:=by rw[gw,l1]
   rw[e5,P9];exact⟨.int _,H1,I1.kept hk,⟨t',rfl⟩,kk _ H1 _ G1 t1 (.int _) g1 hq⟩
 .cases z
end
end
section
open PySem.W
section
section
variable{κ:Type}[DecidableEq κ]
end
end
abbrev c8(z:List Key×bx):DK×D:=(.inr z.1,.ref z.2)
def aCI{M:List (List Key×bx)}{k:List Key}(h:bC M k=aj y):(k,y)∈M:=by
 induction M with
 |nil=>cases h
 |cons z M ih =>
  unfold bC at h;by_cases c:z.1=k
  .rw[if_pos c]at h;cases h;rw[←c];exact yw ..
  .rw[if_neg c]at h;exact qj _ (ih h)
section
end
end
section
open PySem.W
section
end
end
variable{ep kt:Nat}{en:Array iX}
section
open PySem.W
structure Fz(X:Cx)(p:bx):Prop where
 free:∀ob,X.ai.heap.get? p=aj ob->X.aw p=au->p∈X.ex
 tup:∀xs,X.aw p≠aj (.tup xs)
 lH:∀o w,X.aw p≠aj (.lH o w)
 iA:∀ps,X.aw p≠aj (.iA ps)
section
variable{ψ:List (bx×Obj)}
def Fz.of(I:Inv X ψ σ H s)(hu:H p=aj u)(h1:∀xs,u≠.tup xs)(h2:∀ob w,u≠.lH ob w)(h3:∀ps,u≠.iA ps):Fz X p:=by
 refine⟨λob q n=>?_,λxs q=>?_,λo w q=>?_,λps q=>?_⟩
 .apply Classical.byContradiction;intro hx;have:=I.base.free p ob q n hx;rw[hu]at this;cases this
 .have:=I.base.az p xs q;rw[hu]at this;exact h1 xs (jt.inj this)
 .have:=I.base.oM p o w q;rw[hu]at this;exact h2 o w (jt.inj this)
 .obtain⟨more,this⟩:=I.base.fh p ps q;rw[hu]at this;exact h3 _ (jt.inj this)
end
section
variable{X:Cx}{ψ:List (bx×Obj)}{s:dg}
def Inv.freeze(I:Inv X ψ σ H s){o:Obj}(hu:H a=aj u)(h1:∀xs,u≠.tup xs)(h2:∀ob w,u≠.lH ob w)(h3:∀ps,u≠.iA ps)(h4:∀x,u≠.own x)(ho:s.heap.get? a=aj o):Inv X ψ σ (upd H a (.lH o u)) s:=by
 have ne:∀{b:bx}{v:HO},H b=aj v->v≠u->b≠a:=λe n z=>by subst z;rw[hu]at e;exact n (jt.inj e).symm
 have no:∀{b:bx},H b=au->upd H a (.lH o u) b=au:=λ{b} e=>by
  rw[bD];exact e;intro z;subst z;rw[hu]at e;cases e
 have kt:∀b xs,H b=aj (.tup xs)->upd H a (.lH o u) b=aj (.tup xs):=λb xs q=>by rw[bD (ne q λz=>h1 xs z.symm)];exact q
 have kf:∀b ob w,H b=aj (.lH ob w)->upd H a (.lH o u) b=aj (.lH ob w):=λb ob w q=>by rw[bD (ne q λz=>h2 ob w z.symm)];exact q
 have ko:∀b x,H b=aj (.own x)->upd H a (.lH o u) b=aj (.own x):=λb x q=>by rw[bD (ne q λz=>h4 x z.symm)];exact q
 refine⟨I.ok,I.os,I.bare,⟨I.base.keep,I.base.slot,λb ob q n hx=>no (I.base.free b ob q n hx),I.base.there,λb xs q=>kt b xs (I.base.az b xs q),λb ob w q=>kf b ob w (I.base.oM b ob w q),λb ps q=>?_⟩,I.loc,I.cell,no I.free,λx c e=>no (I.rY x c e),λp hp=>?_,λb v e=>?_,I.len,I.dy.mono kf,λp hp=>kt _ _ (I.tup p hp)⟩
 .obtain⟨more,e⟩:=I.base.fh b ps q;exact⟨more,by rw[bD (ne e λz=>h3 _ z.symm)];exact e⟩
 .obtain⟨z1,z2,z3⟩:=I.pin p hp;exact⟨z1,no z2,z3⟩
 .by_cases hb:b=a
  .subst hb;rw[aL]at e;obtain rfl:=jt.inj e;exact⟨ho,(I.aa b u hu).bP (λ_ _ _ q=>q) (λc q=>ko c _ q) λc xs q=>kt c xs q⟩
  .rw[bD hb]at e;exact(I.aa b v e).bP (λ_ _ _ q=>q) (λc q=>ko c _ q) λc xs q=>kt c xs q
def TL(r:KV ys vs):∀{i:Nat}{k:Key}{y:V},ys[i]?=aj (k,y)->∃u,vs[i]?=aj (k,u)/\RelV y u:=by
 induction r with
 |nil=>intro i k y e;simp at e
 |@cons p q _ _ h _ ih =>
  intro i k y e;cases i with
  |zero =>
   simp only[G7,jt.injEq]at e;subst e;let⟨q1,q2⟩:=q;let⟨h1,h2⟩:=h;exact⟨q2,by simp only[G7];rw[show q1=k from h1.symm],h2⟩
  |succ i=>simpa using ih (by simpa using e)
def O2{k:Key}{key:bh}(h:vj k key=ak):RelV (kV k) key:=by
 rcases dO h with⟨i,t,e1,e2⟩|⟨i,t,e1,e2⟩
 .subst e1;exact⟨t,e2⟩
 .subst e1;exact⟨t,e2⟩
def P8{od:Obj}{es:Array iX}(I:Inv X ψ σ H s)(hd:od.data=.dict es ep)(hq:H a=aj (.lH od (.dK ys))) :
  ∃vs,KV ys vs/\s.heap.DictAt (aQ X.prog X.w) a vs ep/\vs.length=es.size/\(a==ur)=ao:=by
 let⟨eD,_⟩:=(show s.heap.get? a=aj od/\_ from I.aa a _ hq);let⟨_,jI,vs,kv,o1,Xq,Xr,g1,g2,g3,g4,g5,g6⟩:=pk I.aa (.inr ⟨od,hq⟩);rw[eD]at g1;obtain rfl:=jt.inj g1;rw[hd]at g3;injection g3 with e1 e2;subst e1 e2;exact⟨vs,kv,⟨od,es,eD,g2,hd,g4,g5,g6⟩,by rw[←g5.length];simp,jI⟩
end
abbrev VW(a:bx)(od:Obj):It :=
 ⟨λi H=>∃ys:List (Key×V),H a=aj (.lH od (.dK ys))/\i<ys.length,
  λi H v H'=>∃(p:bx)(k:Key)(y:V),H p=au/\v=.ref p/\H'=upd H p (.tup [kV k,y])/\∀ys,H a=aj (.lH od (.dK ys))->ys[i]?=aj (k,y),
  λi H=>∃ys:List (Key×V),H a=aj (.lH od (.dK ys))/\ys.length<=i⟩
def Zu{w:ji}{K:Fg}{pt:Pos}{od:Obj}(hd:od.data=.dict en ep) :
  Turn ak tl P w K (.Tuple es kt pt) (VW a od) [it] it (λi h=>∃ok ov,IsItemIter h it a i en.size ep ok ov) where
 mem:=by simp
 obj:=λi h st b hb=>by
  have e:b=it:=by simpa using hb
  subst e;let⟨ok,ov,e⟩:=st;exact⟨_,e,λv z=>nomatch z⟩
 keep:=λi h h' st k=>by
  let⟨ok,ov,e⟩:=st;exact⟨ok,ov,k it (by simp) _ e⟩
 item:=by
  intro X hP hw hK ef ht i ψ s σ H E I hf st hg;subst hP hw hK;let⟨ok,ov,hit⟩:=st;let⟨ys,hq,hi⟩:=hg;let⟨vs,kv,hm,hn,_⟩:=P8 I hd hq;have hx:ys[i]?=aj (ys[i].1,ys[i].2):=jd hi;let⟨u,hu,ru⟩:=TL kv hx;have fr:=I.aa.fresh (fj s.heap.objs.size);have lT:s.heap.objs.size≠it:=zb (gk hit);refine wpAny_pyNext_items_item (knd:=aQ X.prog X.w) (kvs:=vs) (by rw[hn];exact hit) hm hu λkey h' bp Ac Iq hsz kk=>?_;refine⟨_,rfl,wpAny_letOwnedTupleGo_items (s:={s with heap:=h' }) Ac λh2 ft sb=>?_⟩;have k2:∀b o,b∉[it]->s.heap.get? b=aj o->h2.get? b=aj o:=λb o hb e=>sb.extBut _ _ (λq=>hb (by simp[q])) (kk b o (λq=>hb (by simp[q])) e)
  refine⟨.ref s.heap.objs.size,upd H s.heap.objs.size (.tup [kV ys[i].1,ys[i].2]),I.QT (t':=s.toks) (ch:=[it]) k2 hf (fj _) ⟨show 2<=dh by decide,[key,u],.cons (O2 bp) (.cons ru .nil),⟨_,sb.extBut _ _ lT Iq,rfl,_,rfl⟩⟩,rfl,
   ⟨_,ys[i].1,ys[i].2,fr,rfl,rfl,λzs z=>by rw[hq]at z;cases z;exact hx⟩,⟨_,_,by rw[hn]at ft;exact ft⟩,λb hb=>?_⟩
  have e:b=it:=by simpa using hb
  subst e;rw[bD (Ne.symm lT)];exact(hf _ hb).1
 done:=by
  intro X hP hw hK ef ht i ψ s σ H E I hf st hg;subst hP hw hK;let⟨ok,ov,hit⟩:=st;let⟨ys,hq,hi⟩:=hg;let⟨vs,kv,hm,hn,_⟩:=P8 I hd hq;let⟨f0,f1,f2,f3,f4,f5⟩:=hf it (by simp);have hl:ys.length=vs.length:=Paired.length kv;exact wpAny_pyNext_items_end (knd:=aQ X.prog X.w) (kvs:=vs) (I.ok.hd (ef rfl)) (by rw[hn];exact hit) hm (DR ⋯) λh' eb=>⟨rfl,I.turned (t':=s.toks) (λb o hb e=>eb b o hb e) f0 f1 f3 f4 f5⟩
 self:=λ_ _ _ _ _ st h=>by
  let⟨ok,ov,hit⟩:=st;exact kcp_self hit h
def Jb{K:Fg}:∀k:Key,RD K H (kD k) (kV k)
 |.inl i=>.int i
 |.inr x=>.str x
def P7{K:Fg}:∀ks:List Key,cZ K H (ks.map kD) (ks.map kV)
 |[]=>.nil
 |k::ks=>.cons (Jb k) (P7 ks)
def O1{α β:Type}{P:α->β->Prop}{as:List α}{bs:List β}(t:dP P as bs):∀{i:Nat}{b:β},bs[i]?=aj b->∃a,as[i]?=aj a/\P a b:=by
 induction t with
 |nil=>intro i b e;simp at e
 |@cons a b _ _ h _ ih =>
  intro i c e;cases i with
  |zero=>simp only[G7,jt.injEq]at e;subst e;exact⟨a,rfl,h⟩
  |succ i=>simpa using ih (by simpa using e)
section
end
section
end
section
variable{ψ:List (bx×Obj)}{s:dg}
def P6(I:Inv X ψ σ H s)(d:pE H a):∃od en ep,s.heap.get? a=aj od/\od.ExactDict/\od.data=.dict en ep/\(a==ur)=ao:=by
 rcases d with⟨kvs,e⟩|⟨kvs,e⟩
 .obtain⟨_,hd,vs,_,od,en,ep,h1,h2,h3,_⟩:=pk I.aa e;exact⟨od,en,ep,h1,h2,h3,hd⟩
 .obtain⟨_,hd,vs,_,od,en,ep,h1,h2,h3,_⟩:=rL I.aa e;exact⟨od,en,ep,h1,h2,h3,hd⟩
def aIE{K:Fg}{t:Bool}(g:HR K H G)(e:G a=aj (.cX t kvs))(od:Obj) :
  ∃u,H a=aj u/\(∀xs,u≠.tup xs)/\(∀ob w,u≠.lH ob w)/\(∀ps,u≠.iA ps)/\(∀x,u≠.own x)/\Ts H (upd H a (.lH od u))/\HR K (upd H a (.lH od u)) (aM G a (.eA od t kvs)):=by
 rcases g a _ e with⟨z,ys,e2,tw⟩|⟨z,ys,e2,tw⟩
 .have tt:Ts H (upd H a (.lH od (.dK ys))):=Ts.turn e2 (λxs z=>nomatch z) (λob w z=>nomatch z);exact⟨_,e2,(λxs z=>nomatch z),(λob w z=>nomatch z),(λps z=>nomatch z),(λx z=>nomatch z),tt,g.turn tt (.inl ⟨z,ys,aL,tw.imp λ_ _ q=>⟨q.1,q.2.mono tt⟩⟩)⟩
 .have tt:Ts H (upd H a (.lH od (.dT ys))):=Ts.turn e2 (λxs z=>nomatch z) (λob w z=>nomatch z);exact⟨_,e2,(λxs z=>nomatch z),(λob w z=>nomatch z),(λps z=>nomatch z),(λx z=>nomatch z),tt,g.turn tt (.inr ⟨z,ys,aL,tw.imp λ_ _ q=>⟨q.1,q.2.mono tt⟩⟩)⟩
def aCK{K:Fg}{t:Bool}(g:HR K H G)(e:G a=aj (.cX t kvs)):pE H a:=by
 rcases g a _ e with⟨_,ys,e2,_⟩|⟨_,ys,e2,_⟩
 .exact .inl ⟨ys,.inl e2⟩
 .exact .inr ⟨ys,.inl e2⟩
def aIF{K:Fg}{t:Bool}(g:HR K H G)(e:G a=aj (.eA od t kvs)):pE H a:=by
 rcases g a _ e with⟨_,ys,e2,_⟩|⟨_,ys,e2,_⟩
 .exact .inl ⟨ys,.inr ⟨od,e2⟩⟩
 .exact .inr ⟨ys,.inr ⟨od,e2⟩⟩
end
end
section
open PySem.W
structure Tt(H H':Hp):Prop where
 az:∀a xs,H a=aj (.tup xs)->H' a=aj (.tup xs)
 aYU:∀a o xs,H a=aj (.lH o (.tup xs))->H' a=aj (.lH o (.tup xs))
def Tt.Ap{K:Fg}(t:Tt H H')(h:br K H a xs):br K H' a xs:=by
 rcases h with(h|⟨o,h⟩)|h
 .exact .inl (.inl (t.az _ _ h))
 .exact .inl (.inr ⟨o,t.aYU _ _ _ h⟩)
 .exact .inr h
def rj.jN(t:Tt H H')(h:rj H a xs):rj H' a xs:=t.az _ _ h
mutual
theorem RD.jN{K:Fg}{H H':Hp}(t:Tt H H'):∀{d:D}{v:V},RD K H d v->RD K H' d v
 |_,_,.ae=>.ae
 |_,_,.bl b=>.bl b
 |_,_,.int i=>.int i
 |_,_,.str x=>.str x
 |_,_,.ty n=>.ty n
 |_,_,.ref a=>.ref a
 |_,_,.tup h r e=>.tup (t.Ap h) (cZ.jN t r) (e.jN t)
theorem cZ.jN{K:Fg}{H H':Hp}(t:Tt H H'):∀{ds:List D}{vs:List V},cZ K H ds vs->cZ K H' ds vs
 |_,_,.nil=>.nil
 |_,_,.cons h r=>.cons (RD.jN t h) (cZ.jN t r)
end
def SR.jN{K:Fg}(t:Tt H H'):∀{ρ:aN}{σ:St},SR K H ρ σ->SR K H' ρ σ
 |_,_,.nil=>.nil
 |_,_,.none r=>.none (SR.jN t r)
 |_,_,.some h r=>.some (h.jN t) (SR.jN t r)
def OR.aUQ{K:Fg}{o:GO}(t:Tt H H')(h:OR K H a o)(k:∀u,H a=aj u->H' a=aj u):OR K H' a o:=by
 cases o with
 |lst ds=>let⟨xs,e,r⟩:=h;exact⟨xs,k _ e,r.jN t⟩
 |fc ds =>
  let⟨xs,e,r⟩:=h;refine⟨xs,?_,r.jN t⟩;rcases e with(e|⟨o,e⟩)|e
  .exact .inl (.inl (k _ e))
  .exact .inl (.inr ⟨o,k _ e⟩)
  .exact .inr e
 |cX b kvs =>
  rcases h with⟨z,xs,e,r⟩|⟨z,xs,e,r⟩
  .exact .inl ⟨z,xs,k _ e,r.imp λ_ _ q=>⟨q.1,q.2.jN t⟩⟩
  .exact .inr ⟨z,xs,k _ e,r.imp λ_ _ q=>⟨q.1,q.2.jN t⟩⟩
 |ins C fs=>let⟨dx,vs,e,r⟩:=h;exact⟨dx,vs,k _ e,r.imp λ_ _ q=>⟨q.1,q.2.jN t⟩⟩
 |eA ob b kvs =>
  rcases h with⟨z,xs,e,r⟩|⟨z,xs,e,r⟩
  .exact .inl ⟨z,xs,k _ e,r.imp λ_ _ q=>⟨q.1,q.2.jN t⟩⟩
  .exact .inr ⟨z,xs,k _ e,r.imp λ_ _ q=>⟨q.1,q.2.jN t⟩⟩
 |ej C=>let⟨o,vs,e,r⟩:=h;exact⟨o,vs,k _ e,r⟩
 |dt ds=>let⟨xs,e,r⟩:=h;exact⟨xs,t.Ap e,r.jN t⟩
 |B3 kvs=>let⟨o,e,r⟩:=h;exact⟨o,k _ e,r.imp λ_ _ z=>z.jN t⟩
 |Aq ob kvs=>let⟨o,e,r⟩:=h;exact⟨o,k _ e,r.imp λ_ _ z=>z.jN t⟩
def aCL{K:Fg}{t:Bool}(g:HR K H G)(e:G p=aj (.eA od t kvs)) :
  ∃u,H p=aj (.lH od u)/\(∀xs,u≠.tup xs)/\(∀ob w,u≠.lH ob w)/\pE H p/\Tt H (upd H p u)/\HR K (upd H p u) (aM G p (.cX t kvs)):=by
 have key:∀u,H p=aj (.lH od u)->(∀xs,u≠.tup xs)->Tt H (upd H p u):=λu hu h1=>by
  refine⟨λa xs q=>?_,λa o xs q=>?_⟩
  .rw[bD];exact q;intro z;subst z;rw[hu]at q;cases q
  .rw[bD];exact q;intro z;subst z;rw[hu]at q;cases q;exact h1 xs rfl
 have rest:∀u,Tt H (upd H p u)->OR K (upd H p u) p (.cX t kvs)->HR K (upd H p u) (aM G p (.cX t kvs)):=λu tt new a v q=>by
  by_cases z:a=p
  .subst z;rw[aJ]at q;obtain rfl:=jt.inj q;exact new
  .rw[aR z]at q;exact(g a v q).aUQ tt λw y=>by rw[bD z];exact y
 rcases g p _ e with⟨z,xs,e2,tw⟩|⟨z,xs,e2,tw⟩
 .have tt:=key _ e2 (λxs z=>nomatch z);exact⟨_,e2,(λxs z=>nomatch z),(λob w z=>nomatch z),.inl ⟨xs,.inr ⟨od,e2⟩⟩,tt,rest _ tt (.inl ⟨z,xs,aL,tw.imp λ_ _ q=>⟨q.1,q.2.jN tt⟩⟩)⟩
 .have tt:=key _ e2 (λxs z=>nomatch z);exact⟨_,e2,(λxs z=>nomatch z),(λob w z=>nomatch z),.inr ⟨xs,.inr ⟨od,e2⟩⟩,tt,rest _ tt (.inr ⟨z,xs,aL,tw.imp λ_ _ q=>⟨q.1,q.2.jN tt⟩⟩)⟩
variable{od:Obj}
section
variable{ψ:List (bx×Obj)}
def aP1(I:Inv X ψ σ H s)(ot:pE H p)(hu:H p=aj (.lH od u)):∃en ep,od.data=.dict en ep:=by
 let⟨Er,en,ep,o1,_,o3,_⟩:=P6 I ot;have e:=(show s.heap.get? p=aj od/\_ from I.aa p _ hu).1;rw[e]at o1;cases o1;exact⟨en,ep,o3⟩
def Inv.x3(I:Inv X ψ σ H s)(fz:Fz X p)(hu:H p=aj (.lH od u))(h1:∀xs,u≠.tup xs)(ot:∃en ep,od.data=.dict en ep):Inv X ψ σ (upd H p u) s:=by
 have ne:∀{b:bx}{v:HO},H b=aj v->v≠.lH od u->b≠p:=λe n z=>by subst z;rw[hu]at e;exact n (jt.inj e).symm
 have no:∀{b:bx},H b=au->upd H p u b=au:=λ{b} e=>by
  rw[bD];exact e;intro z;subst z;rw[hu]at e;cases e
 have kt:∀b xs,H b=aj (.tup xs)->upd H p u b=aj (.tup xs):=λb xs q=>by rw[bD (ne q λz=>nomatch z)];exact q
 have ko:∀b x,H b=aj (.own x)->upd H p u b=aj (.own x):=λb x q=>by rw[bD (ne q λz=>nomatch z)];exact q
 let⟨ho,aa⟩:=(show s.heap.get? p=aj od/\iZ X.prog X.w H s.heap p u from I.aa p _ hu);refine⟨I.ok,I.os,I.bare,⟨I.base.keep,I.base.slot,λb ob q n hx=>?_,I.base.there,λb xs q=>kt b xs (I.base.az b xs q),λb ob w q=>?_,λb ps q=>?_⟩,I.loc,I.cell,no I.free,λx c e=>no (I.rY x c e),λq hq=>?_,λb v e=>?_,I.len,?_,λq hq=>kt _ _ (I.tup q hq)⟩
 .exact no (I.base.free b ob q n hx)
 .have:=I.base.oM b ob w q;rw[bD];exact this;intro z;subst z;exact fz.lH ob w q
 .obtain⟨more,e⟩:=I.base.fh b ps q;exact⟨more,by rw[bD (ne e λz=>nomatch z)];exact e⟩
 .obtain⟨z1,z2,z3⟩:=I.pin q hq;exact⟨z1,no z2,z3⟩
 .by_cases hb:b=p
  .subst hb;rw[aL]at e;obtain rfl:=jt.inj e;exact aa.bP (λ_ _ _ q=>q) (λc q=>ko c _ q) λc xs q=>kt c xs q
  .rw[bD hb]at e;exact(I.aa b v e).bP (λ_ _ _ q=>q) (λc q=>ko c _ q) λc xs q=>kt c xs q
 .rcases I.dy with z|⟨x,o,w,vs,a,b,c,d⟩
  .exact .inl z
  .refine .inr ⟨x,o,w,vs,a,?_,c,d⟩;rw[bD];exact b;intro z;subst z;rw[hu]at b;cases b;let⟨en,ep,o3⟩:=ot;rw[o3]at c;cases c
end
abbrev Src.x3(G:Gp):Src->Gp
 |.Ax p _ kvs=>aM G p (.cX ao kvs)
 |.ic p _ t kvs=>aM G p (.cX t kvs)
 |.key p _ t kvs=>aM G p (.cX t kvs)
 |_=>G
abbrev M6(X:Cx):Src->Prop
 |.Ax p _ _=>Fz X p
 |.ic p _ _ _=>Fz X p
 |.key p _ _ _=>Fz X p
 |_=>True
abbrev aYW(X:Cx)(t:ez):TI:=λσ H Q=>∃ρ G R,SR X.K H ρ σ/\HR X.K H G/\t ρ G R/\∀src J H' G',Ts H H'->HR X.K H' G'->(rf X.K src J/\M6 X src)->R src G'->Q J H'
@[simp]def Hv(X:Cx)(tg iter:je)(t:ez):Prop:=PI X tg iter (aYW X t)
section
end
abbrev Dj(ti:ez)(tg:i0)(tb:bB):bB:=λF ρ G=>ti ρ G λsrc G1=>∃P:Nat->aN->Gp->Prop,P 0 ρ G1/\(∀k ρ G,k<=src.items.length->P k ρ G->src.ok G) /\
 (∀k d ρ G,src.items[k]?=aj d->P k ρ G->tg d ρ λb8=>tb {F with nx:=P (k+1),ct:=P (k+1),bk:=λρ G=>src.ok G/\F.nx ρ (src.x3 G)} b8 G)/\∀ρ G,P src.items.length ρ G->F.nx ρ (src.x3 G)
abbrev VS(X:Cx)(E:eF)(σ:St)(H:Hp):Prop:=∃src ρ G,M6 X src/\SR X.K H ρ σ/\HR X.K H G/\src.ok G/\E.nx ρ (src.x3 G)
def aCM{X:Cx}{F:Ends}(u:VR X.K E F)(I:Inv X ψ σ H s)(h:VS X E σ H):∃H',Inv X ψ σ H' s/\F.nx σ H':=by
 let⟨src,ρ,G,fz,sr,g,ok,q⟩:=h
 have one:∀{p:bx}{od:Obj}{t:Bool}{kvs:List (DK×D)},Fz X p->G p=aj (.eA od t kvs)->E.nx ρ (aM G p (.cX t kvs))->∃H',Inv X ψ σ H' s/\F.nx σ H':=λfz e q=>by
  let⟨w,hw,w1,w2,ot,tt,g'⟩:=aCL g e;exact⟨_,I.x3 fz hw w1 (aP1 I ot hw),u.nx _ _ _ _ (sr.jN tt) g' q⟩
 cases src with
 |Ax p o kvs=>exact one fz ok q
 |ic p o t kvs=>exact one fz ok q
 |key p o t kvs=>exact one fz ok q
 |lst p xs=>exact⟨H,I,u.nx _ _ _ _ sr g q⟩
 |dq xs=>exact⟨H,I,u.nx _ _ _ _ sr g q⟩
 |zip p r xs ys=>exact⟨H,I,u.nx _ _ _ _ sr g q⟩
 |dt p xs=>exact⟨H,I,u.nx _ _ _ _ sr g q⟩
 |E4 p xs=>exact⟨H,I,u.nx _ _ _ _ sr g q⟩
 |Et p o kvs=>exact⟨H,I,u.nx _ _ _ _ sr g q⟩
section
variable{X:Cx}
private theorem aIG{tg:i0}(hp:vS (dz X.prog X.w) X.A X.env X.xe)(hi:Hv X cE iter ti)(hg:DU X cE tg)(hb:hU X body tb)
  (hs:∀x,DP iter X.env x=pure x):eL X (.For cE iter body [] pos) (Dj ti tg tb):=by
 intro ψ s σ H F I h;let⟨ρ,G,E,sr,g,q,d⟩:=h;have key:=Ug (pos:=pos) hp hi hg hb hs ψ s σ H {F with nx:=VS X E} I ⟨ρ,G,_,sr,g,q,λsrc J H1 G1 t1 g1 ⟨sj,fz⟩ ⟨P,p0,oj,BY,pend⟩=>?_⟩
 .refine fW key λf s' z=>?_;cases f with
  |next=>let⟨av,H',J,z⟩:=z;let⟨H2,J2,z2⟩:=aCM d J z;exact⟨av,H2,J2,z2⟩
  |brk=>let⟨av,H',J,z⟩:=z;exact⟨av,H',J,z⟩
  |cont=>let⟨av,H',J,z⟩:=z;exact⟨av,H',J,z⟩
  |ret w=>let⟨w,av,H',J,r,z⟩:=z;exact⟨w,av,H',J,r,z⟩
 .refine Qs (K:=X.K) (n:=src.items.length) (λk bb H2=>∃a9 G',SR X.K H2 a9 bb/\HR X.K H2 G'/\P k a9 G') ⟨ρ,G1,sr.mono t1,g1,p0⟩ (λbb H2 ⟨a9,G',s2,g2,p⟩=>?_) (λk bb H2 hk ⟨a9,G',s2,g2,p⟩=>?_) (λk y bb H2 H3 hk ⟨a9,G',s2,g2,p⟩ hy=>?_)
   (λbb H2 ⟨a9,G',s2,g2,p⟩=>⟨src,a9,G',fz,s2,g2,oj _ a9 G' (fj _) p,pend a9 G' p⟩)
  .exact(sj H2 G' g2 (oj _ a9 G' (fj _) p)).2.2
  .exact(sj H2 G' g2 (oj _ a9 G' (wk hk) p)).1 k hk
  .obtain⟨sm,dk,e1,e2⟩:=(sj H2 G' g2 (oj _ a9 G' (wk hk) p)).2.1 k y H3 hk hy;refine⟨a9,dk,_,s2.mono (.same sm),e2,BY k dk a9 G' e1 p,λb8 jb s3 q3=>?_⟩;exact⟨b8,G',_,s3,g2.same sm,q3,⟨λpS G4 Ei H4 s4 g4 q4=>⟨pS,G4,s4,g4,q4⟩,d.rt,λpS G4 Ei H4 s4 g4 q4=>⟨src,pS,G4,fz,s4,g4,q4.1,q4.2⟩,λpS G4 Ei H4 s4 g4 q4=>⟨pS,G4,s4,g4,q4⟩⟩⟩
end
end
section
open PySem.W
section
end
end
section
section
open AutoSeq1 (wpAny_loadPart')
end
section
end
section
end
section
open PySem.SeqAt
open PySem.AutoSeq1 (wpAny_loadPart')
open PySem.MeetsSeq PySem.MeetsSeq2 PySem.MeetsSeq3
end
end
section
section
end
end
section
section
open Classical in
end
end
section
open PySem.W
section
end
section
end
end
section
structure i6 where
 cx:Str
 cp:Pos
 Dc:bx
 b0:jo
 ba:List jo
 kA:Pos
 th:bB
abbrev i6.ast(h:i6):ExceptHandler:=.ExceptHandler (aj (.Name h.cx h.cp)) au (h.b0::h.ba) h.kA
@[simp]def i6.pr(h:i6):bx×bB:=(h.Dc,h.th)
abbrev A1(K:Fg)(F:eF)(C:bx):List (bx×bB)->aN->Gp->Prop
 |[],_,_=>False
 |h::r,ρ,G=>(qe K (.ref C) (.ref h.1)=aj ak/\h.2 F ρ G)∨(qe K (.ref C) (.ref h.1)=aj ao/\A1 K F C r ρ G)
abbrev Cw(K:Fg)(tb:(aN->aV)->bB)(hs:List (bx×bB)):bB:=λF ρ G=>tb (λgy C G1=>A1 K F C hs gy G1) F ρ G
section
variable{X:Cx}
structure K7(X:Cx)(h:i6):Prop where
 hg:Gl X h.cx
 hm:X.mg h.cx=aj (.ref h.Dc)
 hc:(vo X.K h.Dc).isSome=ak
 ht:we X.K (.ref h.Dc)=aj (.type "type")
 EY:qe X.K (.ref h.Dc) (.type "BaseException")=aj ak
 hh:∀x,hU (ub X x) (h.b0::h.ba) h.th
 hd:(h.cx==("__debug__":Str))=ao
private theorem aP3
  (ef:X.calm=ak)(b9:X.stack=X.env::X.outer)(xm:X.env.frame=aj X.env.locals)(ho:∀h∈h0::hr,K7 X h)
  (hb:∀pn EX,hU (C9 X pn EX) body (tb EX)) :
  eL X (.Try body ((h0::hr).map i6.ast) [] [] pos) (Cw X.K tb ((h0::hr).map i6.pr)):=by
 intro ψ s σ H F I h;let⟨ρ,G,E3,sr,g,q,d⟩:=h;refine wpAny_Try_except (qu (hb ψ _ [] s σ H F (Pj I _) ⟨ρ,G,E3,sr,g,q,d⟩) (λf s1 q1=>?_) λe s1 q1=>?_)
 .have q2:=Qo q1;cases f with
  |next=>exact By q2
  |brk=>exact q2
  |cont=>exact q2
  |ret u=>exact q2
 .obtain⟨y4,jn,H1,s0,gy,I1,HL,x,C,H',B,rfl,fl,aa,tJ,pb,un,os,bare,c,G',e2,g',hp⟩:=q1;cases e2;have J1:Inv X ψ jn H1 s0:=v8 I1;have hn:X.A.handled=au:=I.ok.hd ef;have iL:X.A.frames=aj (X.env::X.outer):=by rw[←b9];exact I.ok.frames
  have IL:mr B (X.env::X.outer) x (.ref C) s1.heap:=by rw[←b9];exact fl
  refine JM (B:=B) iL xm IL λh4 LN BX=>?_;refine Bp LN λh5 xt BW=>?_;have B9:B.get? x=au:=fl.new;have qh:H' x=au:=Kq aa B9
  have fS:∀(h6:kh)(oe:Obj)(ws:Array bh),mr B (X.env::X.outer) x (.ref C) h6->s1.heap.UpToSlots h6->h6.get? x=aj oe->oe.cls=.ref C->oe.data=.fields ws ->
    Inv X ψ jn (upd H' x (.lH oe (.ext (vI C x)))) {s1 with heap:=h6}/\Ts H1 (upd H' x (.lH oe (.ext (vI C x)))):=by
   intro h6 oe ws j2 sm kc yy k6;have hZ:=T7 (P:=X.prog) (w:=X.w) fl tJ pb un j2.stays sm
   have Ib:s0.heap.get? x=au:=by
    cases e0:s0.heap.get? x with
    |none=>rfl
    |some o =>
     by_cases hx:x∈frs X.stack
     .obtain⟨_,o',bq,g7⟩:=j2.Gd.mem (by rw[←b9];exact hx);rw[kc]at bq;cases bq;exact absurd k6 (g7 ws)
     .obtain⟨o',bq⟩:=pb x o e0 hx;rw[B9]at bq;cases bq
   have sn:aE H' (upd H' x (.lH oe (.ext (vI C x)))):=bM qh;have ib:∀b o,s0.heap.get? b=aj o->b≠x:=λb o e z=>by subst z;rw[Ib]at e;cases e
   have xb:Un (frs X.stack) [] H1 (upd H' x (.lH oe (.ext (vI C x)))) s0.heap h6:=⟨hZ.keep,hZ.slot,λb o e n hx=>by rw[bD (ib b o e)];exact hZ.free b o e n hx,hZ.there,λb xs z=>sn _ _ (hZ.az b xs z),λb o u z=>sn _ _ (hZ.oM b o u z),λb ps z=>by
    let⟨m,e⟩:=hZ.fh b ps z;exact⟨m,sn _ _ e⟩⟩
   have Lg:bz X.prog X.w (upd H' x (.lH oe (.ext (vI C x)))) h6:=λb o e=>by
    by_cases hb:b=x
    .subst hb;rw[aL]at e;cases e;refine⟨kc,⟨oe,ws,kc,yy,k6⟩,⟨oe,kc⟩,λh1 h2 ⟨o1,w1,e1,e2,e3⟩ k=>⟨o1,w1,k _ e1,e2,e3⟩⟩
    .rw[bD hb]at e;exact((aa.kept j2.stays) b o e).bP (λ_ _ _ z=>z) (λc z=>sn _ _ z) λc xs z=>sn _ _ z
   exact⟨J1.d4 (ch:=[]) (s':={s1 with heap:=h6}) os xb Lg bare (λb z=>absurd z (by simp)),xb.az,xb.oM⟩
  let⟨oe,BS,Az,kF,nt,Lf⟩:=xt.fld;let⟨J5,_⟩:=fS h5 oe BS xt (BX.trans BW) Az kF nt
  have go:∀hs:List i6,(∀h∈hs,K7 X h)->A1 X.K E3 C (hs.map i6.pr) gy G'->dj (dz X.prog X.w) X.A (handleBy (.ref x) X.env (hs.map i6.ast)) (SP X ψ F) X.xe {s1 with heap:=h5}:=by
   intro hs
   induction hs with
   |nil=>intro _ z;exact z.elim
   |cons hd r ih =>
    intro ho hp;have k:=ho hd (.head _);show dj _ _ (handleBy (.ref x) X.env (.ExceptHandler (aj (.Name hd.cx hd.cp)) au (hd.b0::hd.ba) hd.kA::r.map i6.ast)) _ _ _;refine wpAny_handleBy_cons (codeAny_handlers_test ?_) (by intro q;cases q);refine rA (X:=ub X x) (FW J5 x (.inr ⟨x,oe,_,BS,rfl,aL,nt,Lf⟩)) k.hg k.hm ?_ k.hd;rcases hp with⟨nh,Ir⟩|⟨nh,hp⟩
    .refine Lh (K:=X.K) J5.cz Az kF k.hc k.ht k.EY nh ?_;refine codeAny_handlers_suite ?_;refine Bp xt λh6 j2 HM=>?_;let⟨Aw,ws,kc,yy,k6,Fm⟩:=j2.fld;let⟨J7,tt⟩:=fS h6 Aw ws j2 ((BX.trans BW).trans HM) kc yy k6
     refine qu (k.hh x ψ {s1 with heap:=h6} _ _ F (FW J7 x (.inr ⟨x,Aw,_,ws,rfl,aL,k6,Fm⟩))
      ⟨gy,G',_,HL.mono tt,g'.same (bM qh),Ir,d⟩) (λf s9 q9=>?_) λ_ _ z=>z.elim
     cases f with
     |next=>let⟨bb,H2,I2,z⟩:=q9;exact⟨bb,H2,o9 J7.ok hn I2,z⟩
     |brk=>let⟨bb,H2,I2,z⟩:=q9;exact⟨bb,H2,o9 J7.ok hn I2,z⟩
     |cont=>let⟨bb,H2,I2,z⟩:=q9;exact⟨bb,H2,o9 J7.ok hn I2,z⟩
     |ret u=>let⟨v,bb,H2,I2,r2,z⟩:=q9;exact⟨v,bb,H2,o9 J7.ok hn I2,r2,z⟩
    .exact Lh (K:=X.K) J5.cz Az kF k.hc k.ht k.EY nh (ih (λh m=>ho h (.tail _ m)) hp)
  exact go _ ho hp
end
end
section
open PySem.W
section
variable{prog:lg}{w:ji}{A:lu}{s:dg}{d:bx}{es:Array iX}{ep i:Nat}
def aIH{ok:bh}(hit:IsItemIter s.heap it d i es.size ep ok ov)(hm:pU s.heap d es ep)(hx:es[i]?=aj e)
  (hQ:∀h',IsItemIterOut h' it d (i+1) es.size ep e.key e.val s.heap.objs.size->h'.get? s.heap.objs.size=aj (BZ e)->h'.objs.size=s.heap.objs.size+1->(∀b o,b≠it->s.heap.get? b=aj o->h'.get? b=aj o)->Q (aj (.ref s.heap.objs.size)) {s with heap:=h' }):dj (dz prog w) A (eW (.ref it)) Q E s:=by
 let⟨hp,g,dr,tk,os⟩:=s;let⟨od,eD,fw,eI⟩:=hm;have hT:dg.TypeIs ⟨hp,g,dr,tk,os⟩ (.ref it) "dict_itemiterator":=⟨_,hit,rfl⟩;have lt:i<es.size:=(zp.mp hx).1;unfold eW;refine aq (Bv (zf (name:=Str.ofString "__next__") hT F.slot_dict_itemiterator_next (vm F.slot_dict_itemiterator_next hT F.entry_dict_itemiterator_next ?_ (F.args_dict_itemiterator_next_1 _))));refine aq (cu ?_);refine aq ?_;refine aq ?_
 (first|refine aq (wpAny_typeNameOfWhole_itemiter hT (cu ?_))|refine aq (wpAny_typeNameOf_itemiter hT (cu ?_)));refine aq (wpAny_fieldsOf hit rfl ?_)
 have own:Builtin.Dict_items.ownsTuple "dict_itemiterator"=ak:=by decide
 simp only[own,if_true];show dj _ _ (if(bh.ref d==bh.none)=ak then _ else _) _ _ _;rw[if_neg (show ¬ ((bh.ref d==bh.none)=ak)from qg)];refine aq (cu (aq (yh eD eI ?_)));rw[if_neg (by simp)];refine aq (cu (aq (wpAny_dictEpoch eD eI ?_)));rw[if_neg (by simp)];refine cu ?_;simp only[show ¬ ((i:Int)<0)from by omega,if_false,yc,hx];refine aq ?_
 (first|refine aq (wpAny_typeNameOfWhole_itemiter hT (cu ?_))|refine aq (wpAny_typeNameOf_itemiter hT (cu ?_)));refine aq (wpAny_isOneOf_itemiter hT ?_)
 show dj _ _ (setField (.ref it) 3 (fA ((i:Int)+1)) >>= _) _ _ ⟨hp,g,dr,tk,os⟩;refine aq (wpAny_setField_rec hit (by simp) λbc gf fT=>?_);replace fT:jr it hp bc:=fT
 replace gf:zD bc it d (i+1) es.size ep .none ao ok ov:=by
  have e:((i+1:Nat):Int)=(i:Int)+1:=by omega
  unfold zD;rw[e];simpa[fA]using gf
 have nS:dg.TypeIs ⟨bc,g,dr,tk,os⟩ (.ref it) "dict_itemiterator":=⟨_,gf,rfl⟩;refine aq (ud (aq (wpAny_isOneOf_itemiter nS (aq (wpAny_isOneOf_itemiter nS ?_)))));show dj _ _ (Builtin.Dict_items.pairFromOwner (.ref it) 6 e.key e.val) _ _ ⟨bc,g,dr,tk,os⟩;unfold Builtin.Dict_items.pairFromOwner;refine aq (wpAny_newTuple ?_);have gc:zD (bc.push (BZ e)) it d (i+1) es.size ep .none ao ok ov:=cj _ gf;have i9:bc.objs.size=hp.objs.size:=fT.1;have WY:it<hp.objs.size:=gk hit;obtain⟨eQ,fb⟩:∃eQ,bc.push (BZ e)=eQ:=⟨_,rfl⟩;have Ea:eQ.get? hp.objs.size=aj (BZ e):=by rw[←fb,←i9];exact ig _ rfl
 have D9:eQ.objs.size=hp.objs.size+1:=by rw[←fb,DF,i9]
 have Ed:∀b o,b≠it->hp.get? b=aj o->eQ.get? b=aj o:=λb o hb e=>by rw[←fb];exact cj _ (fT.extBut b o hb e)
 rw[fb]at gc;show dj _ _ (Builtin.Dict_items.ownedTupleIsFree (.ref it) >>= _) _ _ ⟨bc.push (BZ e),g,dr,tk,os⟩;rw[fb,i9];clear fb gf fT nS i9 bc;refine aq ?_;unfold Builtin.Dict_items.ownedTupleIsFree;refine aq (qx gc rfl (x:=.none) rfl ?_);refine cu ?_;simp only[if_true];refine aq (qx gc rfl (x:=ok) rfl (aq (qx gc rfl (x:=ov) rfl (aq (wpAny_setField_rec gc (by simp) λng nL nE=>?_)))));replace nE:jr it eQ ng:=nE;replace nL:zD ng it d (i+1) es.size ep .none ao e.key ov:=nL;refine aq (wpAny_setField_rec nL (by simp) λAb nK nB=>?_);replace nB:jr it ng Ab:=nB;replace nK:zD Ab it d (i+1) es.size ep .none ao e.key e.val:=nK;refine aq (wpAny_setField_rec nK (by simp) λAa nI ny=>?_);replace ny:jr it Ab Aa:=ny;replace nI:zD Aa it d (i+1) es.size ep (fA (hp.objs.size:Nat)) ao e.key e.val:=nI;refine aq (wpAny_setField_rec nI (by simp) λz0 Eg nv=>?_);replace nv:jr it Aa z0:=nv;have hs:=((nE.trans nB).trans ny).trans nv;exact aq (wpAny_letGo (cu (cu ⟨_,rfl,cu (hQ z0 Eg (hs.extBut _ _ (zb WY) Ea) (by show z0.objs.size=hp.objs.size+1;rw[hs.1,D9]) λb o hb e=>hs.extBut b o hb (Ed b o hb e))⟩)))
end
variable{od:Obj}
section
variable{ψ:List (bx×Obj)}{s:dg}
def aII(r:KT H ys xs):∀{i:Nat}{ks:List Key}{y:V},ys[i]?=aj (ks,y)->∃q u,xs[i]?=aj (ks,q,u)/\H q=aj (.tup (ks.map kV))/\RelV y u:=by
 induction r with
 |nil=>intro i k y e;simp at e
 |@cons p q _ _ h _ ih =>
  intro i ks y e;cases i with
  |zero =>
   simp only[G7,jt.injEq]at e;subst e;let⟨q1,q2,q3⟩:=q;let⟨h1,h2,h3⟩:=h;obtain rfl:ks=q1:=h1;exact⟨q2,q3,rfl,h2,h3⟩
  |succ i=>simpa using ih (by simpa using e)
def Ry{es:Array iX}{ys:List (List Key×V)}(I:Inv X ψ σ H s)(hd:od.data=.dict es ep)(hq:H a=aj (.lH od (.dT ys))) :
  pU s.heap a es ep/\es.size=ys.length/\∀(i:Nat)(ks:List Key)(y:V),ys[i]?=aj (ks,y)->∃(e:iX)(q:bx),es[i]?=aj e/\e.key=bh.ref q/\H q=aj (.tup (ks.map kV))/\RelV y e.val:=by
 let⟨eD,_⟩:=(show s.heap.get? a=aj od/\_ from I.aa a _ hq);let⟨_,jI,xs,kt,o1,Xq,Xr,g1,g2,g3,g4,g5⟩:=rL I.aa (.inr ⟨od,hq⟩);rw[eD]at g1;obtain rfl:=jt.inj g1;rw[hd]at g3;injection g3 with e1 e2;subst e1;have hl:es.size=xs.length:=by rw[←qp,g4,gw]
 refine⟨⟨od,eD,g2,hd⟩,by rw[hl];exact(Paired.length kt).symm,λi ks y e=>?_⟩;let⟨q,u,hx,hh,hr⟩:=aII kt e;refine⟨entryOfKey (rV (aQ X.prog X.w)) (ks,q,u),q,?_,rfl,hh,hr⟩;rw[←yu,g4,ql,hx];rfl
end
abbrev Sh(a:bx)(od:Obj):It :=
 ⟨λi H=>∃ys:List (List Key×V),H a=aj (.lH od (.dT ys))/\i<ys.length,
  λi H v H'=>∃(p q:bx)(ks:List Key)(y:V),H p=au/\v=.ref p/\H q=aj (.tup (ks.map kV))/\H'=upd H p (.tup [.ref q,y])/\∀ys,H a=aj (.lH od (.dT ys))->ys[i]?=aj (ks,y),
  λi H=>∃ys:List (List Key×V),H a=aj (.lH od (.dT ys))/\ys.length<=i⟩
def ω{w:ji}{K:Fg}{pt:Pos}(hd:od.data=.dict en ep) :
  Turn ak tl P w K (.Tuple es kt pt) (Sh a od) [it] it (λi h=>∃ok ov,IsItemIter h it a i en.size ep ok ov) where
 mem:=by simp
 obj:=λi h st b hb=>by
  have e:b=it:=by simpa using hb
  subst e;let⟨ok,ov,e⟩:=st;exact⟨_,e,λv z=>nomatch z⟩
 keep:=λi h h' st k=>by
  let⟨ok,ov,e⟩:=st;exact⟨ok,ov,k it (by simp) _ e⟩
 item:=by
  intro X hP hw hK ef ht i ψ s σ H E I hf st hg;subst hP hw hK;let⟨ok,ov,hit⟩:=st;let⟨ys,hq,hi⟩:=hg;let⟨hm,hn,hk⟩:=Ry I hd hq;have hx:ys[i]?=aj (ys[i].1,ys[i].2):=jd hi;let⟨e,q,he,ek,hh,hr⟩:=hk i _ _ hx;have fr:=I.aa.fresh (fj s.heap.objs.size);have lT:s.heap.objs.size≠it:=zb (gk hit);refine aIH hit hm he λh' Ac Iq hsz kk=>?_;refine⟨_,rfl,wpAny_letOwnedTupleGo_items (s:={s with heap:=h' }) Ac λh2 ft sb=>?_⟩;have k2:∀b o,b∉[it]->s.heap.get? b=aj o->h2.get? b=aj o:=λb o hb e=>sb.extBut _ _ (λq=>hb (by simp[q])) (kk b o (λq=>hb (by simp[q])) e)
  refine⟨.ref s.heap.objs.size,upd H s.heap.objs.size (.tup [.ref q,ys[i].2]),I.QT (t':=s.toks) (ch:=[it]) k2 hf (fj _) ⟨show 2<=dh by decide,[e.key,e.val],.cons ek (.cons hr .nil),⟨_,sb.extBut _ _ lT Iq,rfl,_,rfl⟩⟩,rfl,
   ⟨_,q,ys[i].1,ys[i].2,fr,rfl,hh,rfl,λzs z=>by rw[hq]at z;cases z;exact hx⟩,⟨_,_,ft⟩,λb hb=>?_⟩
  have e:b=it:=by simpa using hb
  subst e;rw[bD (Ne.symm lT)];exact(hf _ hb).1
 done:=by
  intro X hP hw hK ef ht i ψ s σ H E I hf st hg;subst hP hw hK;let⟨ok,ov,hit⟩:=st;let⟨ys,hq,hi⟩:=hg;let⟨hm,hn,hk⟩:=Ry I hd hq;let⟨f0,f1,f2,f3,f4,f5⟩:=hf it (by simp);exact aOY (S:=0) (I.ok.hd (ef rfl)) ⟨_,_,ok,ov,hit,.inl ⟨rfl,rfl⟩⟩ hm ⋯ λh' eb=>⟨rfl,I.turned (t':=s.toks) (λb o hb e=>eb b o hb e) f0 f1 f3 f4 f5⟩
 self:=λ_ _ _ _ _ st h=>by
  let⟨ok,ov,hit⟩:=st;exact kcp_self hit h
end
section
open PySem.W
abbrev BN(a:bx)(od:Obj):Bool->It
 |false=>VW a od
 |true=>Sh a od
def TK{w:ji}{K:Fg}{pt:Pos}{od:Obj}(t:Bool)(hd:od.data=.dict en ep) :
  Turn ak tl P w K (.Tuple es kt pt) (BN a od t) [it] it (λi h=>∃ok ov,IsItemIter h it a i en.size ep ok ov):=by
 cases t
 .exact Zu hd
 .exact ω hd
def aCO{K:Fg}{t:Bool}:ua K H1 (.ic p od t kvs) (BN p od t):=λH2 G2 t' g ok=>by
 have Wu:G2 p=aj (.eA od t kvs):=ok;rcases g p _ Wu with⟨rfl,ys,e,tw⟩|⟨rfl,ys,e,tw⟩
 .have hl:(Src.ic p od ao kvs).items.length=ys.length:=by simp[Src.items,tw.length]
  refine⟨λi hi=>⟨ys,e,by rw[hl]at hi;exact hi⟩,λi v H' hi hy=>?_,⟨ys,e,by rw[hl];exact fj _⟩⟩;let⟨q,k,y,fr,rfl,rfl,hy⟩:=hy;let⟨⟨dk,d⟩,e2,r1,r2⟩:=O1 tw (hy ys e);have r1:dk=.inl k:=r1;subst r1;have sn:aE H2 (upd H2 q (.tup [kV k,y])):=bM fr;exact⟨sn,.tup [kD k,d],by simp[Src.items,e2,dQ],.tup (br.of aL) (.cons (Jb k) (.cons (r2.mono (.same sn)) .nil)) (uv aL)⟩
 .have hl:(Src.ic p od ak kvs).items.length=ys.length:=by simp[Src.items,tw.length]
  refine⟨λi hi=>⟨ys,e,by rw[hl]at hi;exact hi⟩,λi v H' hi hy=>?_,⟨ys,e,by rw[hl];exact fj _⟩⟩;let⟨q,b,ks,y,fr,rfl,hb,rfl,hy⟩:=hy;let⟨⟨dk,d⟩,e2,r1,r2⟩:=O1 tw (hy ys e);have r1:dk=.inr ks:=r1;subst r1;have sn:aE H2 (upd H2 q (.tup [.ref b,y])):=bM fr;have Od:=sn _ _ hb;exact⟨sn,.tup [.tup (ks.map kD),d],by simp[Src.items,e2,dQ],.tup (br.of aL) (.cons (.tup (br.of Od) (P7 ks) (uv Od)) (.cons (r2.mono (.same sn)) .nil)) (uv aL)⟩
def P5{K:Fg}{t:Bool}:rf K (.ic p od t kvs) (BN p od t):=λH2 G2 g ok=>aCO (H1:=H2) H2 G2 (.refl _) g ok
abbrev Fi(al:Bool)(x:D)(G1:Gp)(R:Src->Gp->Prop):Prop:=∃p t kvs,x=.ref p/\((G1 p=aj (.cX t kvs)/\∀od,R (.ic p od t kvs) (aM G1 p (.eA od t kvs)))∨∃od,G1 p=aj (.eA od t kvs)/\al=ak/\R (.ic p od t kvs) G1)
abbrev mK(al:Bool)(to:d7):ez:=λρ G R=>to ρ G λx G1=>Fi al x G1 R
section
variable{X:Cx}
def aCP{prog:lg}{w:ji}(d:bx)(hd:(d==ur)=ao):MeetsIn prog w (Builtin.«dict.items» ⟨[.ref d],[]⟩) (λ_ R s=>(∃es ep,pU s.heap d es ep)/\R (.ok (.ret (.ref s.heap.objs.size))) {s with heap:=s.heap.push {cls:=.type "dict_items",data:=.fields #[.ref d]}}) :=
 .of_wp λA R s ⟨⟨es,ep,hm⟩,h⟩=>by
  unfold Builtin.«dict.items»;refine aq ?_;unfold Builtin.Dict.noArgs;refine aq (wpAny_notOrdered_dict hm.typeIs ?_);show dj _ _ (pure d) _ _ s;refine cu ?_;show dj _ _ (Builtin.Dict.showsAll d >>= _) _ _ s;unfold Builtin.Dict.showsAll;rw[if_neg (by rw[hd];exact qg)];exact aq (cu (aq (qw (cu ⟨_,rfl,h⟩))))
def QP{al:Bool}{SJ:Hp->Src->It->Prop}{pt:Pos}(hc:X.calm=ak)(ho:dJ X o to)
  (aT:uf o "items" X.env (eval o X.env)=eval o X.env)(aS:(apos.endLine==ah.line)=ak)(Oe:∀H p od t kvs,(al=ao->Fz X p)->SJ H (.ic p od t kvs) (BN p od t)) :
  PI X (.Tuple es kt pt) (.Call (.Attribute o "items" apos) [] [] ah) (λσ H Q=>∃ρ G R,SR X.K H ρ σ/\HR X.K H G/\mK al to ρ G R/\∀src J H' G',Ts H H'->HR X.K H' G'->SJ H' src J->R src G'->Q J H'):=by
 intro ψ s σ H Q I h;let⟨ρ,G,R,sr,g,q,kk⟩:=h;refine Ha aT aS (fW (ho ψ s σ H (λvx H1=>Ts H H1/\∃x G1,RD X.K H1 x vx/\HR X.K H1 G1/\Fi al x G1 R) I ⟨ρ,G,_,sr,g,q,λv H1 x G1 t1 r1 g1 q1=>⟨t1,x,G1,r1,g1,q1⟩⟩) ?_);rintro v s1 ⟨vx,H1,I1,r1,t1,x1,G1,rx,g1,q1⟩;let⟨a,t,kvs,rfl,q2⟩:=q1;cases rx;obtain rfl:v=bh.ref a:=r1
 have ot:pE H1 a:=by
  rcases q2 with⟨e1,_⟩|⟨od,e1,_⟩
  .exact aCK g1 e1
  .exact aIF g1 e1
 let⟨h1,h2,h3⟩:=C2 I1 ot;let⟨od,en,ep,o1,o2,o3,jI⟩:=P6 I1 ot;refine⟨"dict","dict.items",PySem.F.plainAttrs_dict,PySem.F.slot_dict_items,PySem.F.type_dict_items,h1,h2,Calls.callWith_builtin rfl (PySem.evalArgs_none ?_)⟩;refine call_meetsIn PySem.F.slot_dict_items h1 PySem.F.entry_dict_items (PySem.F.args_dict_items_1 _) (aCP a jI) ⟨⟨en,ep,od,o1,o2,o3⟩,?_⟩;have I2:Inv X ψ σ H1 {s1 with heap:=s1.heap.push {cls:=.type "dict_items",data:=.fields #[.ref a]},toks:=s1.toks}:=I1.kept λb o e=>cj _ e;have HZ:(s1.heap.push {cls:=.type "dict_items",data:=.fields #[.ref a]}).get? a=aj od:=cj _ o1;show dj (dz X.prog X.w) X.A (pyIter (.ref s1.heap.objs.size)) (M0 X ψ σ (.Tuple es kt pt) Q) X.xe {s1 with heap:=s1.heap.push {cls:=.type "dict_items",data:=.fields #[.ref a]}};generalize hh:s1.heap.push {cls:=.type "dict_items",data:=.fields #[.ref a]}=hp at *;have hv:hp.IsItemsView s1.heap.objs.size a:=⟨_,by rw[←hh];exact ig _ rfl,rfl,rfl⟩;refine aI4 (s:={s1 with heap:=hp}) hv ⟨od,HZ,o2,o3⟩ ?_;have I3:Inv X ψ σ H1 {s1 with heap:=hp.push {cls:=.type "dict_itemiterator",data:=.fields #[.none,.bool ao,.ref a,.int 0 0,.int en.size 0,.int ep 0,.none,.none]},toks:=s1.toks}:=I2.kept λb o e=>cj _ e;have Wv:(hp.push {cls:=.type "dict_itemiterator",data:=.fields #[.none,.bool ao,.ref a,.int 0 0,.int en.size 0,.int ep 0,.none,.none]}).get? a=aj od:=cj _ HZ;have hit:IsItemIter (hp.push {cls:=.type "dict_itemiterator",data:=.fields #[.none,.bool ao,.ref a,.int 0 0,.int en.size 0,.int ep 0,.none,.none]}) hp.objs.size a 0 en.size ep .none .none:=ig _ rfl;have Om:H1 hp.objs.size=au:=I2.aa.fresh (fj _);rcases q2 with⟨e1,q3⟩|⟨Er,e1,ha,q3⟩
 .obtain⟨u,hu,u1,u2,u3,u4,tt,g4⟩:=aIE g1 e1 od;have I4:=I3.freeze hu u1 u2 u3 u4 Wv;have na:hp.objs.size≠a:=zb (gk HZ);refine⟨hp.objs.size,[hp.objs.size],_,BN a od t,_,rfl,I4,(show Turn X.calm X.tp X.prog X.w X.K (.Tuple es kt pt) _ _ _ _ from hc ▸ TK t o3),⟨_,_,hit⟩,λb hb=>?_,kk _ _ _ _ (t1.trans tt) g4 (Oe _ a od t kvs λ_=>Fz.of I1 hu u1 u2 u3) (q3 od)⟩;have e:b=hp.objs.size:=by simpa using hb
  subst e;exact I2.mf (fj _) (by rw[bD na];exact Om)
 .have ND:s1.heap.get? a=aj Er:=by
   rcases g1 a _ e1 with⟨_,zs,e2,_⟩|⟨_,zs,e2,_⟩
   .exact(show s1.heap.get? a=aj Er/\_ from I1.aa a _ e2).1
   .exact(show s1.heap.get? a=aj Er/\_ from I1.aa a _ e2).1
  rw[o1]at ND;obtain rfl:=jt.inj ND;refine⟨hp.objs.size,[hp.objs.size],_,BN a od t,_,rfl,I3,(show Turn X.calm X.tp X.prog X.w X.K (.Tuple es kt pt) _ _ _ _ from hc ▸ TK t o3),⟨_,_,hit⟩,λb hb=>?_,kk _ _ _ _ t1 g1 (Oe _ a od t kvs λz=>by rw[ha]at z;cases z) q3⟩;have e:b=hp.objs.size:=by simpa using hb
  subst e;exact I2.mf (fj _) Om
def QO{pt:Pos}(hc:X.calm=ak)(ho:dJ X o to)(aT:uf o "items" X.env (eval o X.env)=eval o X.env)(aS:(apos.endLine==ah.line)=ak) :
  BL X (.Tuple es kt pt) (.Call (.Attribute o "items" apos) [] [] ah) (mK ak to):=QP (SJ:=λ_=>rf X.K) hc ho aT aS λ_ _ _ _ _ _=>P5
def aCQ{pt:Pos}(hc:X.calm=ak)(ho:dJ X o to)(aT:uf o "items" X.env (eval o X.env)=eval o X.env)(aS:(apos.endLine==ah.line)=ak) :
  BM X (.Tuple es kt pt) (.Call (.Attribute o "items" apos) [] [] ah) (mK ak to):=aYP (QO hc ho aT aS)
def X2{pt:Pos}(hc:X.calm=ak)(ho:dJ X o to)(aT:uf o "items" X.env (eval o X.env)=eval o X.env)(aS:(apos.endLine==ah.line)=ak) :
  Hv X (.Tuple es kt pt) (.Call (.Attribute o "items" apos) [] [] ah) (mK ao to):=QP (SJ:=λ_ src J=>rf X.K src J/\M6 X src) hc ho aT aS λ_ _ _ _ _ z=>⟨P5,z rfl⟩
end
end
section
open PySem.W
section
variable{X:Cx}
def QN{K:Fg}:∀{kvs:List (DK×D)}{ys:List (Key×V)},fe K H .inl kvs ys->cZ K H (kvs.map λp=>dQ p.1) (ys.map λy=>kV y.1)
 |_,_,.nil=>.nil
 |p::kvs,y::ys,.cons h r=>by
  refine .cons ?_ (QN r);show RD K H (dQ p.1) (kV y.1);rw[h.1];exact Jb y.1
def O0:∀{xs:List V}{us:List bh},us.length=xs.length->(∀(i:Nat)(x:V),xs[i]?=aj x->∃u,us[i]?=aj u/\RelV x u)->Vals xs us
 |[],[],_,_=>.nil
 |x::xs,u::us,hl,h=>by
  let⟨v,e,r⟩:=h 0 x rfl;cases e;exact .cons r (O0 (by simpa using hl) λi y e=>h (i+1) y (by simpa using e))
abbrev Di:List D->Gp->jC->Prop:=λxs G R=>FO xs G R∨∃a kvs,xs=[.ref a]/\G a=aj (.cX ao kvs)/\∀l,G l=au->R (.ref l) (aM G l (.lst (kvs.map λp=>dQ p.1)))
def aIJ(hc:X.calm=ak):eV X (.type "list") Di:=by
 intro ψ s σ H xs vs us G R Q I rx rv g q k;rcases q with q|⟨a,kvs,rfl,e1,q⟩
 .exact aI7 hc ψ s σ H xs vs us G R Q I rx rv g q k
 cases rx with
 |cons r1 rr =>
 cases rr;cases r1;cases rv with
 |cons rv rr =>
 cases rr;cases rv;rcases g a _ e1 with⟨_,ys,e,tw⟩|⟨z,_⟩
 .obtain⟨z1,hd,ws,kv,o,es,ep,ho,Ci,bX,hko,N0,hn⟩:=A6 I.aa e;have le:es.toList.length=ws.length:=N0.length;have ly:ys.length=ws.length:=Paired.length kv;refine kdl_call (Jd hd) (I.ok.hd hc) ⟨o,ho,Ci,bX⟩ (by rw[←qp];omega) λh' tk acc c kk hS di=>?_;have fr:H s.heap.objs.size=au:=I.aa.fresh (fj _);have sn:aE H (upd H s.heap.objs.size (.lst (ys.map λy=>kV y.1))):=bM fr
  have vals:Vals (ys.map λy=>kV y.1) acc.toList:=O0 (by rw[qp,di.1,gw,←qp];omega) λi x ex=>by
   rw[ql]at ex;let⟨y,ey,rfl⟩:=ug.mp ex;let⟨u,eu,_⟩:=TL kv (show ys[i]?=aj (y.1,y.2)from ey);let⟨hi,_⟩:=iz.mp eu;have tm:i<acc.size:=by rw[di.1,←qp];omega
   let⟨en,y1,y2⟩:=di.2 i acc[i] (wg tm);let⟨hk,_⟩:=N0.get? (show es.toList[i]?=aj en by rw[yu];exact y1) eu;exact⟨acc[i],by rw[yu,wg tm],by rw[y2];exact O2 hk⟩
  have J:Inv X ψ σ (upd H s.heap.objs.size (.lst (ys.map λy=>kV y.1))) {s with heap:=h',toks:=tk}:=I.laid (t':=tk) (o:=.lst _) kk (fj _) ⟨by rw[gw];exact z1,_,c,vals,by simpa using hS⟩;exact⟨.ref s.heap.objs.size,_,J,rfl,k _ _ (.ref _) _ (.same sn) (.ref _) (g.put (u:=.lst _) fr ⟨_,aL,(QN tw).mono (.same sn)⟩) (q _ (jL g fr (vJ J)))⟩
 .cases z
abbrev OZ:List D->Gp->jC->Prop:=λxs G R=>∃a,∃ns:List Int,xs=[.ref a]/\cO G a=aj (ns.map D.int)/\ns.Nodup/\ns.length<64/\∀ms:List Int,ms.Perm ns->ms.Pairwise (· < ·)->∀r,G r=au->R (.ref r) (aM G r (.lst (ms.map D.int)))
def OY{K:Fg}:∀{ns:List Int}{xs:List V}{us:List bh},cZ K H (ns.map D.int) xs->Vals xs us->IntsAre us ns
 |[],_,_,.nil,.nil=>.nil
 |n::ns,_,_,.cons r rs,.cons v vs=>by
  cases r;let⟨t,rfl⟩:=v;exact .cons n t (OY rs vs)
def ints_get:∀{ns:List Int}{us:List bh},IntsAre us ns->∀i,i<us.length->∃t,us.getD i bh.none=.int (ns.getD i 0) t
 |_,_,.nil,i,h=>by simp at h
 |_,_,.cons n t r,0,_=>⟨t,rfl⟩
 |_,_,.cons n t r,i+1,h=>by simpa using ints_get r i (by simpa using h)
def QM{K:Fg}{ns:List Int}{xs:List V}(r:cZ K H (ns.map D.int) xs):∀{q:List Nat},(∀i∈q,i<ns.length)->cZ K H ((q.map λi=>ns.getD i 0).map D.int) (q.map λi=>xs.getD i .ae)
 |[],_=>.nil
 |i::q,h=>by
  have hi:=h i (by simp);let⟨v,e1,e2⟩:=r.get (d:=.int ns[i]) (i:=i) (by simp[hi]);refine .cons ?_ (QM r λj hj=>h j (by simp[hj]));show RD K H (.int (ns.getD i 0)) (xs.getD i .ae);have z1:ns.getD i 0=ns[i]:=by simp[vf,hi]
  have z2:xs.getD i .ae=v:=by simp[vf,e1]
  rw[z1,z2];exact e2
def aIK(nd:ns.Nodup)(P:Pm ns.length q)(u:Up (λi=>ns.getD i 0) q ns.length):(q.toList.map λi=>ns.getD i 0).Perm ns/\(q.toList.map λi=>ns.getD i 0).Pairwise (· < ·):=by
 have Ik:(ou ns.length).map (λi=>ns.getD i 0)=ns:=by
  apply List.ext_getElem (by simp);intro i h1 h2;simp[h2]
 have pm:(q.toList.map λi=>ns.getD i 0).Perm ns:=by have:=P.perm.map λi=>ns.getD i 0;rw[Ik]at this;exact this
 refine⟨pm,?_⟩;have Ex:=vq.mp (pm.nodup_iff.mpr nd);rw[vq];intro i j hi hj AB;have ne:=Ex i j hi hj AB;have li:i<q.size:=by simpa using hi
 have lj:j<q.size:=by simpa using hj
 have le:ns.getD (q.getD i 0) 0<=ns.getD (q.getD j 0) 0:=u i j (wk AB) (by rw[←P.size];exact lj);have gi:q.toList[i]'(by simpa using li)=q.getD i 0:=by simp[y7,li]
 have gj:q.toList[j]'(by simpa using lj)=q.getD j 0:=by simp[y7,lj]
 simp only[List.getElem_map,gi,gj]at ne ⊢;omega
def aIL:eV X (.builtin "sorted") OZ:=by
 intro ψ s σ H xs vs us G R Q I rx rv g q k;let⟨a,ns,rfl,e1,nd,eJ,h⟩:=q;have big:1000<dh:=by decide
 cases rx with
 |cons r1 rr =>
 cases rr;cases r1;cases rv with
 |cons rv rr =>
 cases rr;cases rv;let⟨zs,hq,r⟩:=dZ g e1;let⟨its,vi,pl,_⟩:=I.list hq;have iu:=OY r vi;have l1:its.length=ns.length:=iu.length;have l2:zs.length=ns.length:=by rw[←r.length,gw]
 refine Qd (kf:=λi=>ns.getD i 0) pl.isList ⋯ (λi j hi hj e=>?_) (λl2 h' kp=>⟨oneType',λQ hQ=>by rw[ksk_kind (by simpa using iu) (by simpa using l2)];exact cu hQ,λi j C hi hj hC=>?_⟩) λq P u=>?_
 .rw[l1]at hi hj;exact(List.getElem_inj nd).mp (by simpa[vf,hi,hj]using e)
 .unfold kas_ask;let⟨t1,y1⟩:=ints_get iu i hi;let⟨t2,y2⟩:=ints_get iu j hj;rw[y1,y2];exact kat_lt_int hC
 .rw[l1]at P u;let⟨p1,p2⟩:=aIK nd P u;have ft:∀i∈q.toList,i<ns.length:=λi hi=>xr.mp (P.perm.mem_iff.mp hi);have fr:H (s.heap.objs.size+1)=au:=I.aa.fresh (sf _);have sn:aE H (upd H (s.heap.objs.size+1) (.lst (q.toList.map λi=>zs.getD i .ae))):=bM fr;let⟨c,hc⟩:=TN (h:=s.heap) (vs:=its) (out:=(q.toList.map λi=>its.getD i bh.none).toArray)
  have J:Inv X ψ σ (upd H (s.heap.objs.size+1) (.lst (q.toList.map λi=>zs.getD i .ae))) {s with heap:=sortedAll s.heap its (q.toList.map λi=>its.getD i bh.none).toArray} :=
   I.laid (t':=s.toks) (λb o e=>O8 e) (sf _) ⟨by rw[gw,qp,P.size];omega,_,c,GF vi λi hi=>by rw[l2];exact ft i hi,hc⟩
  exact⟨.ref (s.heap.objs.size+1),_,J,rfl,k _ _ (.ref _) _ (.same sn) (.ref _) (g.put (u:=.lst _) fr ⟨_,aL,(QM r ft).mono (.same sn)⟩) (h _ p1 p2 _ (jL g fr (vJ J)))⟩
abbrev Go:List D->Gp->jC->Prop:=λxs G R=>FP xs G R∨OZ xs G R
def aCR:eV X (.builtin "sorted") Go:=λψ s σ H xs vs us G R Q I rx rv g q k=>q.elim (λq=>aI1 ψ s σ H xs vs us G R Q I rx rv g q k) λq=>aIL ψ s σ H xs vs us G R Q I rx rv g q k
abbrev Fh:R3:=λx y G R=>∃z n,x=.str z/\y=.int n/\MulOk z n/\R (.str (Txt.mul z n)) G
def aP4:md X (yj .Mult) Fh:=by
 refine⟨λx y H Q=>∃z n,x=.str z/\y=.int n/\MulOk z n/\Q (.str (Txt.mul z n)) H,?_,λH x y vx vy G R Q rx ry gh h k=>?_⟩
 .intro ψ s σ H x y v u Q I rv ru h;let⟨z,n,rfl,rfl,ok,q⟩:=h;let⟨t,rfl⟩:=rv;let⟨t2,rfl⟩:=ru;refine SB.mul ok λt' k=>?_;exact⟨.str _,H,I.tok _,⟨t',rfl⟩,q⟩
 .obtain⟨z,n,rfl,rfl,ok,h⟩:=h;cases rx;cases ry;exact⟨z,n,rfl,rfl,ok,λ_=>k _ H _ G (.refl H) (.str _) gh h⟩
end
end
section
open PySem.W
section
end
section
end
section
end
end
section
open PySem.W
section
end
section
end
end
section
open PySem.W
section
end
section
end
end
section
open PySem.W
section
end
end
section
open PySem.W
section
end
section
end
end
end L2
namespace L4
open PySem PySem.Spec PyProof.Rows L2
inductive BF where
 |len|l7|all|min|sum|Cv|yl|C5|Cu|Ct
 deriving DecidableEq
inductive MK where
 |append
 deriving DecidableEq
inductive DM where
 |El|pop
 deriving DecidableEq
inductive GT where
 |con (d:D)|cls (a:bx)|fn (sp:lJ) (n:Nat) (qt:Bool)|bf (b:BF)|bt (n:String)|kl (C:bx) (sp:lJ) (dd:List D)|me (C:bx) (m:Str) (sp:lJ) (dd:List D)|fl (C:bx) (f:Str)
structure SI where
 N:List Str
 fl:List Bool
 lc:List Bool
 ce:List Bool
 gl:List (Str×GT)
 gv:List Bool
 calm:Bool
mutual
inductive CE where
 |var (i:Nat)|con (d:D)|cw (k:Nat)|neg (a:CE)|AS (a:CE)|bin (o:Operator) (a b:CE)|cmp (o:CmpOp) (a b:CE)|chain (o o':CmpOp) (a b c:CE)
 |kU (es:fk)|tup (es:fk)|lst (es:fk)|qV|ix (a b:CE)|sl (a:CE) (lo hi:CO)|call (k:Nat) (es:fk)|c5 (m:MK) (o:CE) (es:fk)
 |comp (fl gv:List Bool) (ci:CI) (cc:CC) (e:CE)|fld (k:Nat) (o:CE)|eG (k:Nat) (o:CE) (es:fk)|kN (a b:CE)|qS (neg:Bool) (a b:CE)|oQ (o e f:CE)|AR|dm (m:DM) (o e:CE) (es:fk)|sortI (k:Nat) (o:CE)|AQ (k:Nat) (o:CE)|smul (a b:CE)
inductive fk where
 |nil|cons (e:CE) (r:fk)
inductive CT where
 |cmp (o:CmpOp) (a b:CE)|chain (o o':CmpOp) (a b c:CE)|not (t:CT)|and (ts:w8)|or (ts:w8)|val (e:CE)|qS (neg:Bool) (a b:CE)
inductive w8 where
 |nil|cons (t:CT) (r:w8)
inductive CO where
 |none|some (e:CE)
inductive CI where
 |any (e:CE)|t7 (e:CE)|items (e:CE)
inductive CC where
 |none|some (t:CT)
end
@[simp]def SI.cmp(S:SI)(xs:List Str)(fl gv:List Bool):SI:=⟨xs++S.N,xs.map (λ_=>ak)++fl,xs.map (λ_=>ak)++S.N.map (λ_=>ao),xs.map (λ_=>ao)++fl,S.gl,gv,S.calm⟩
abbrev x2:d7:=λ_ _ _=>False
abbrev S0:de:=λ_ _ _=>False
abbrev lh:aN->aV:=λ_ _ _=>False
abbrev SZ:Operator->R3
 |.Add=>gG
 |.Sub=>rq
 |.Mult=>k7
 |.FloorDiv=>d8
 |.Mod=>cR
 |_=>λ_ _ _ _=>False
abbrev yk:CmpOp->R3
 |.Eq=>mJ
 |.NotEq=>o6
 |.Lt=>ue
 |.LtE=>kX
 |.Gt=>x9
 |.GtE=>x8
 |.NotIn=>FU
 |_=>λ_ _ _ _=>False
abbrev Sg(K:Fg):BF->List D->Gp->jC->Prop
 |.len=>pR
 |.l7=>aG K
 |.all=>A4
 |.min=>Bd
 |.sum=>λ_ _ _=>False
 |.Cv=>Di
 |.yl=>Go
 |.C5=>Ba
 |.Cu=>xJ
 |.Ct=>zt
abbrev K6(n:String):List D->Gp->jC->Prop:=if n="int" then Fl else if n="list" then Bf else λ_ _ _=>False
abbrev IQ:DM->Str
 |.El=>"setdefault"
 |.pop=>"pop"
abbrev Oq:DM->kr
 |.El=>uC
 |.pop=>Bb
abbrev Ey:MK->String
 |.append=>"list"
abbrev Ez:MK->kr
 |.append=>jM
abbrev B6:MK->Str
 |.append=>"append"
abbrev K5(T:List (Str×GT))(k:Nat):d7:=match T[k]? with
 |some (_,.con d)=>aW d
 |some (_,.cls a)=>aW (.ref a)
 |some (_,.bt n)=>aW (.ty n)
 |_=>x2
abbrev K4(T:List (Str×GT))(K:Fg)(ex:aN->aV)(k:Nat)(t:bo):d7:=match T[k]? with
 |some (_,.fn sp _ _)=>aP sp ex t
 |some (_,.cls a)=>LK a t
 |some (_,.bf b)=>fU (Sg K b) t
 |some (_,.bt n)=>fU (K6 n) t
 |some (_,.kl C sp dd)=>Bc C sp dd ex t
 |_=>x2
abbrev K3(T:List (Str×GT))(k:Nat)(t:d7):d7:=match T[k]? with
 |some (_,.fl C f)=>cB C t f
 |_=>x2
abbrev K2(T:List (Str×GT))(ex:aN->aV)(k:Nat)(to:d7)(t:bo):d7:=match T[k]? with
 |some (_,.me C m sp dd)=>cP C m sp dd ex to t
 |_=>x2
abbrev K1:Bool->R3
 |true=>TU
 |false=>LI
mutual
noncomputable def mE(T:List (Str×GT))(K:Fg)(ex:aN->aV):CE->d7
 |.var i=>aB i
 |.con d=>aW d
 |.cw k=>K5 T k
 |.neg a=>CA (mE T K ex a)
 |.AS a=>C0 (mE T K ex a)
 |.bin o a b=>aH (SZ o) (mE T K ex a) (mE T K ex b)
 |.smul a b=>aH Fh (mE T K ex a) (mE T K ex b)
 |.cmp o a b=>aH (yk o) (mE T K ex a) (mE T K ex b)
 |.chain o o' a b c=>rB (yk o) (yk o') (mE T K ex a) (mE T K ex b) (mE T K ex c)
 |.kU es=>K0 T K ex es
 |.tup es=>o7 (mA T K ex es)
 |.lst es=>vK (mA T K ex es)
 |.qV=>yT
 |.ix a b=>aH eU (mE T K ex a) (mE T K ex b)
 |.sl a lo hi=>Dp (mE T K ex a) (mO T K ex lo) (mO T K ex hi)
 |.call k es=>K4 T K ex k (mA T K ex es)
 |.c5 m o .nil=>Ld (Ey m) (Ez m) (mE T K ex o)
 |.c5 m o (.cons e r)=>lI (Ey m) (Ez m) (mE T K ex o) (aA (mE T K ex e) (mA T K ex r))
 |.comp _ _ ci cc e=>FD (mI T K ex ci) (mC T K cc) (mE T K lh e)
 |.fld k o=>K3 T k (mE T K ex o)
 |.eG k o es=>K2 T ex k (mE T K ex o) (mA T K ex es)
 |.kN a b=>aH nQ (mE T K ex a) (mE T K ex b)
 |.qS neg a b=>aH (K1 neg) (mE T K ex a) (mE T K ex b)
 |.oQ o e f=>xH (mE T K ex o) (mE T K ex e) (mE T K ex f)
 |.AR=>Dm
 |.dm m o e es=>x4 (Oq m) (mE T K ex o) (aA (mE T K ex e) (mA T K ex es))
 |.sortI _ o=>Dk (mE T K ex o)
 |.AQ _ o=>FA (mE T K ex o)
noncomputable def mA(T:List (Str×GT))(K:Fg)(ex:aN->aV):fk->bo
 |.nil=>aF
 |.cons e r=>aA (mE T K ex e) (mA T K ex r)
noncomputable def K0(T:List (Str×GT))(K:Fg)(ex:aN->aV):fk->d7
 |.nil=>x2
 |.cons e .nil=>mE T K ex e
 |.cons e (.cons e' r)=>nP (mE T K ex e) (K0 T K ex (.cons e' r))
noncomputable def NL(T:List (Str×GT))(K:Fg)(ex:aN->aV):fk->d7
 |.nil=>x2
 |.cons e .nil=>mE T K ex e
 |.cons e (.cons e' r)=>S6 (mE T K ex e) (NL T K ex (.cons e' r))
noncomputable def mT(T:List (Str×GT))(K:Fg)(ex:aN->aV):CT->de
 |.cmp o a b=>aY (aH (yk o) (mE T K ex a) (mE T K ex b))
 |.chain o o' a b c=>aY (rB (yk o) (yk o') (mE T K ex a) (mE T K ex b) (mE T K ex c))
 |.not t=>oR (mT T K ex t)
 |.and ts=>LG T K ex ts
 |.or ts=>KZ T K ex ts
 |.val e=>aY (mE T K ex e)
 |.qS neg a b=>aY (aH (K1 neg) (mE T K ex a) (mE T K ex b))
noncomputable def LG(T:List (Str×GT))(K:Fg)(ex:aN->aV):w8->de
 |.nil=>S0
 |.cons e .nil=>mT T K ex e
 |.cons e (.cons e' r)=>u7 (mT T K ex e) (LG T K ex (.cons e' r))
noncomputable def KZ(T:List (Str×GT))(K:Fg)(ex:aN->aV):w8->de
 |.nil=>S0
 |.cons e .nil=>mT T K ex e
 |.cons e (.cons e' r)=>ki (mT T K ex e) (KZ T K ex (.cons e' r))
noncomputable def mO(T:List (Str×GT))(K:Fg)(ex:aN->aV):CO->wt
 |.none=>DI
 |.some e=>CZ (mE T K ex e)
noncomputable def mI(T:List (Str×GT))(K:Fg)(ex:aN->aV):CI->ez
 |.any e=>Be (mE T K ex e)
 |.t7 e=>yB (aA (mE T K ex e) aF)
 |.items e=>mK ak (mE T K ex e)
noncomputable def mC(T:List (Str×GT))(K:Fg):CC->de
 |.none=>FE
 |.some t=>mT T K lh t
end
abbrev isStar:je->Bool
 |.Starred ..=>ak
 |_=>ao
abbrev isSlice:je->Bool
 |.Slice ..=>ak
 |_=>ao
abbrev cH:je->Bool
 |.Call (.Name id _) [] [] _=>id !=("super":Str)
 |_=>ak
abbrev isSet:je->Bool
 |.Set ..=>ak
 |_=>ao
abbrev aPD:BF->String
 |.len=>"len"
 |.l7=>"isinstance"
 |.all=>"all"
 |.min=>"min"
 |.sum=>"sum"
 |.Cv=>"list"
 |.yl=>"sorted"
 |.C5=>"len"
 |.Cu=>"sorted"
 |.Ct=>"dict"
abbrev LF:BF->bh
 |.Cv=>.type "list"
 |.Ct=>.type "dict"
 |b=>.builtin (aPD b)
abbrev Ja:BF->Bool
 |.len=>ak
 |.l7=>ak
 |.C5=>ak
 |.yl=>ak
 |_=>ao
abbrev Dh(S:SI):Bool:=(ou S.gl.length).any λk=>S.gv[k]?==aj ak&&match S.gl[k]? with
 |some (y,.bt n)=>y==("range":Str)&&n=="range"
 |_=>ao
abbrev KY(S:SI)(y:Str):Bool:=(ou S.N.length).any λi=>S.N[i]?==aj y&&S.ce[i]?==aj ak
abbrev Fy:List Str->Bool
 |[]=>ak
 |x::r=>!r.contains x&&Fy r
abbrev A0(S:SI)(xs:List Str)(scope:zq)(fl gv:List Bool):Bool :=
 scope.kind==.function&&scope.names.all (λy=>y.2 !=.cell&&(y.2 !=.local||scope.names.lookup y.1==aj .local)&&(y.2 !=.free||KY S y.1)) &&
 xs.all (λx=>scope.names.lookup x==aj .local&&!S.N.contains x&&x !=("__debug__":Str)&&x !=("__classdict__":Str))&&Fy xs &&
 S.N.all (λy=>scope.names.lookup y !=aj .local) &&
 (ou S.N.length).all (λi=>fl[i]? !=aj ak||(S.fl[i]?==aj ak&&match S.N[i]? with
  |some y=>scope.names.lookup y==aj .free
  |none=>ao)) &&
 (ou S.gl.length).all (λk=>gv[k]? !=aj ak||match S.gl[k]? with
  |some (y,_)=>scope.names.lookup y==aj .globalImplicit
  |none=>ao)
abbrev SY:D->Const->Bool
 |.int i,.int j=>i==j
 |.str s,.str t=>s==t
 |.bl b,.bool c=>b==c
 |.ae,.none=>ak
 |_,_=>ao
abbrev plainT:je->Bool
 |.UnaryOp .Not _ _=>ao
 |.BoolOp ..=>ao
 |.IfExp ..=>ao
 |.Compare ..=>ao
 |_=>ak
abbrev LD(S:SI)(k:Nat)(x:Str):Bool:=match S.gl[k]? with
 |some (y,.con _)=>y==x
 |some (y,.cls _)=>y==x
 |some (y,.bt _)=>y==x
 |_=>ao
abbrev Ff(S:SI)(k:Nat)(x:Str)(e:Bool):Bool:=match S.gl[k]? with
 |some (y,.fn _ _ qt)=>y==x&&(qt||S.calm)
 |some (y,.cls _)=>y==x
 |some (y,.bf b)=>y==x&&e&&(S.calm||Ja b)
 |some (y,.bt _)=>y==x&&e
 |some (y,.kl _ _ _)=>y==x&&S.calm
 |_=>ao
abbrev AO(S:SI)(k:Nat)(x:Str):Bool:=match S.gl[k]? with
 |some (_,.fl _ f)=>f==x
 |_=>ao
abbrev F5(S:SI)(k:Nat)(x:Str):Bool:=match S.gl[k]? with
 |some (_,.me _ m _ _)=>m==x
 |_=>ao
abbrev AN(S:SI)(k:Nat)(x:Str)(nm:String):Bool:=match S.gl[k]? with
 |some (y,.bf b)=>y==x&&LF b==.builtin nm
 |_=>ao
abbrev vM:je->Option (je×Str×Bool)
 |.Call (.Attribute y n ap) [] [] cp=>aj (y,n,ap.endLine==cp.line)
 |_=>au
abbrev s1:je->Nat
 |.Call f _ _ _=>f.ctorIdx
 |.ListComp _ (g::_) _ _=>g.target.ctorIdx
 |_=>99
abbrev EF:CE->Nat
 |.var _=>23
 |.con _=>19
 |.cw _=>23
 |.neg _=>3
 |.AS _=>3
 |.bin _ _ _=>2
 |.smul _ _=>2
 |.cmp _ _ _=>15
 |.chain _ _ _ _ _=>15
 |.kU _=>0
 |.tup _=>25
 |.lst _=>24
 |.qV=>6
 |.ix _ _=>21
 |.sl _ _ _=>21
 |.call _ _=>16
 |.c5 _ _ _=>16
 |.comp _ _ _ _ _=>8
 |.fld _ _=>20
 |.eG _ _ _=>16
 |.kN _ _=>21
 |.qS _ _ _=>15
 |.oQ _ _ _=>16
 |.AR=>6
 |.dm _ _ _ _=>16
 |.sortI _ _=>16
 |.AQ _ _=>16
abbrev EG:CE->Nat
 |.call _ _=>23
 |.c5 _ _ _=>20
 |.comp _ _ _ _ _=>23
 |.eG _ _ _=>20
 |.oQ _ _ _=>20
 |.dm _ _ _ _=>20
 |.sortI _ _=>23
 |.AQ _ _=>23
 |_=>99
abbrev ck(c:CE)(e:je):Bool:=(EF c==99||e.ctorIdx==EF c)&&(EG c==99||s1 e==EG c)
mutual
noncomputable def k0(S:SI):CE->je->Bool
 |.var i,.Name x _=>S.N[i]?==aj x&&S.fl[i]?==aj ak
 |.con d,.Constant c _ _=>SY d c
 |.cw k,.Name x _=>S.gv[k]?==aj ak&&LD S k x
 |.neg a,.UnaryOp .USub e _=>(ck a e&&k0 S a e)
 |.AS a,.UnaryOp .Not e _=>(ck a e&&k0 S a e)
 |.bin o a b,.BinOp x o' y _=>o==o'&&(ck a x&&k0 S a x)&&(ck b y&&k0 S b y)
 |.smul a b,.BinOp x .Mult y _=>(ck a x&&k0 S a x)&&(ck b y&&k0 S b y)
 |.cmp o a b,.Compare x [o'] [y] _=>o==o'&&!behindInMarks o' y&&(ck a x&&k0 S a x)&&(ck b y&&k0 S b y)
 |.chain o o' a b c,.Compare x [p,p'] [y,z] _=>o==p&&o'==p'&&!lastMarks [p,p'] [y,z]&&(ck a x&&k0 S a x)&&(ck b y&&k0 S b y)&&(ck c z&&k0 S c z)
 |.kU es,.BoolOp .And xs _=>zQ S es xs
 |.tup es,.Tuple xs _ _=>zQ S es xs
 |.lst es,.List xs _=>zQ S es xs
 |.qV,.Dict [] [] _=>ak
 |.ix a b,.Subscript x y _=>!isSlice y&&(ck a x&&k0 S a x)&&(ck b y&&k0 S b y)
 |.sl a lo hi,.Subscript x (.Slice l h au _) _=>(ck a x&&k0 S a x)&&kO S lo l&&kO S hi h
 |.call k es,.Call (.Name x _) xs [] _=>zQ S es xs&&S.gv[k]?==aj ak&&Ff S k x (!xs.isEmpty)
 |.c5 m o es,.Call (.Attribute y n ap) xs [] cp=>n==B6 m&&cH y&&ap.endLine==cp.line&&decide (xs.length<30)&&(ck o y&&k0 S o y)&&zQ S es xs
 |.comp fl gv ci cc e,.ListComp elt [⟨.Name x _,iter,ifs,a⟩] scope _=>a==0&&A0 S [x] scope fl gv&&!isSet iter&&kI S ao ci iter&&kC (S.cmp [x] fl gv) cc ifs&&(ck e elt&&k0 (S.cmp [x] fl gv) e elt)
 |.fld k o,.Attribute y n _=>AO S k n&&cH y&&(ck o y&&k0 S o y)
 |.eG k o es,.Call (.Attribute y n ap) xs [] cp=>F5 S k n&&S.calm&&cH y&&ap.endLine==cp.line&&decide (xs.length<30)&&(ck o y&&k0 S o y)&&zQ S es xs
 |.kN a b,.Subscript x y _=>!isSlice y&&(ck a x&&k0 S a x)&&(ck b y&&k0 S b y)
 |.qS neg a b,.Compare x [o'] [y] _=>o'==(if neg then CmpOp.NotIn else CmpOp.In)&&!behindInMarks o' y&&(ck a x&&k0 S a x)&&(ck b y&&k0 S b y)
 |.oQ o e f,.Call (.Attribute y n ap) [x,z] [] cp=>n==("get":Str)&&cH y&&ap.endLine==cp.line&&!isStar x&&!isStar z&&(ck o y&&k0 S o y)&&(ck e x&&k0 S e x)&&(ck f z&&k0 S f z)
 |.AR,.Dict [] [] _=>ak
 |.dm m o e es,.Call (.Attribute y n ap) (x::xs) [] cp=>n==IQ m&&cH y&&ap.endLine==cp.line&&decide ((x::xs).length<30)&&(ck o y&&k0 S o y)&&!isStar x&&(ck e x&&k0 S e x)&&zQ S es xs
 |.sortI k o,.Call (.Name x _) [w] [] _=>S.calm&&S.gv[k]?==aj ak&&AN S k x "sorted"&&(match vM w with
  |some (y,n,l)=>l&&n==("items":Str)&&cH y&&(ck o y&&k0 S o y)
  |none=>ao)
 |.AQ k o,.Call (.Name x _) [w] [] _=>S.calm&&S.gv[k]?==aj ak&&AN S k x "sum"&&(match vM w with
  |some (y,n,l)=>l&&n==("values":Str)&&cH y&&(ck o y&&k0 S o y)
  |none=>ao)
 |_,_=>ao
noncomputable def zQ(S:SI):fk->List je->Bool
 |.nil,[]=>ak
 |.cons e r,x::xs=>!isStar x&&(ck e x&&k0 S e x)&&zQ S r xs
 |_,_=>ao
noncomputable def kT(S:SI):CT->je->Bool
 |.cmp o a b,.Compare x [o'] [y] _=>o==o'&&!behindInMarks o' y&&(ck a x&&k0 S a x)&&(ck b y&&k0 S b y)
 |.chain o o' a b c,.Compare x [p,p'] [y,z] _=>o==p&&o'==p'&&!lastMarks [p,p'] [y,z]&&(ck a x&&k0 S a x)&&(ck b y&&k0 S b y)&&(ck c z&&k0 S c z)
 |.not t,.UnaryOp .Not e _=>kT S t e
 |.and ts,.BoolOp .And xs _=>jv S ts xs
 |.or ts,.BoolOp .Or xs _=>jv S ts xs
 |.qS neg a b,.Compare x [o'] [y] _=>o'==(if neg then CmpOp.NotIn else CmpOp.In)&&!behindInMarks o' y&&(ck a x&&k0 S a x)&&(ck b y&&k0 S b y)
 |.val e,x=>plainT x&&(ck e x&&k0 S e x)
 |_,_=>ao
noncomputable def jv(S:SI):w8->List je->Bool
 |.nil,[]=>ak
 |.cons e r,x::xs=>kT S e x&&jv S r xs
 |_,_=>ao
noncomputable def kO(S:SI):CO->Option je->Bool
 |.none,au=>ak
 |.some e,aj x=>(ck e x&&k0 S e x)
 |_,_=>ao
noncomputable def kI(S:SI)(tt:Bool):CI->je->Bool
 |.any e,x=>(ck e x&&k0 S e x)
 |.t7 e,.Call (.Name r _) [y] [] _=>r==("range":Str)&&Dh S&&!isStar y&&(ck e y&&k0 S e y)
 |.items e,x=>tt&&(match vM x with
  |some (y,n,l)=>l&&n==("items":Str)&&cH y&&(ck e y&&k0 S e y)
  |none=>ao)
 |_,_=>ao
noncomputable def kC(S:SI):CC->List je->Bool
 |.none,[]=>ak
 |.some t,[x]=>kT S t x
 |_,_=>ao
end
abbrev kE(S:SI)(c:CE)(e:je):Bool:=ck c e&&k0 S c e
end L4
namespace L4
open PySem PySem.Spec PyProof.Rows L2
variable{env:Env}
def bR(h:isStar e=ao):jg (e::es) env=(ao,eval e env)::jg es env:=by
 cases e<;>first|rfl|(exact absurd (show ak=ao from h) (by decide))
def vN{S:SI}{env:Env}{pos:Pos}:∀{cs:fk}{xs:List je},zQ S cs xs=ak->(uc pos (jg xs env)).any (·.1)=ao
 |.nil,[],_=>rfl
 |.nil,_::_,h=>absurd (show ao=ak from h) (by decide)
 |.cons _ _,[],h=>absurd (show ao=ak from h) (by decide)
 |.cons e r,x::xs,h=>by
  have h':(!isStar x&&kE S e x&&zQ S r xs)=ak:=h;simp only[cg,iw]at h';rw[bR h'.1.1];show(ao||(uc pos (jg xs env)).any (·.1))=ao;rw[vN h'.2];rfl
def nH{o:je}{n:Str}(h:cH o=ak):uf o n env (eval o env)=eval o env:=by
 cases o with
 |Call f args oo pos =>
  cases f with
  |Name id p =>
   cases args with
   |nil =>
    cases oo with
    |nil =>
     have h':(id !=("super":Str))=ak:=h;unfold uf;simp only[h',Bool.true_or,if_true]
    |cons _ _=>rfl
   |cons _ _=>cases oo<;>rfl
  |_=>rfl
 |_=>rfl
@[simp]def HC:List bh:=[.type "ValueError",.type "Exception",.type "BaseException",.type "object"]
abbrev Sf(X:Cx)(cm:Bool)(x:Str):GT->Prop
 |.con d=>∃u v,X.mg x=aj u/\RelV v u/\∀H,RD X.K H d v
 |.cls a=>X.mg x=aj (.ref a)/\zc X.K a HC "ValueError.__new__"=ak
 |.fn sp n qt=>(qt=ak∨cm=ak)->∃k f fd ps,bQ qt X.prog X.w X.K X.mg X.base (iH X.prog X.w) k f fd ps (bV X.K sp)/\nO qt k X.A/\X.mg x=aj (.ref f)/\tu X.K (.ref f)=ak/\Binds X.K fd ps []
 |.bf b=>X.mg x=au/\mq x=aj (LF b)
 |.bt n=>X.mg x=au/\mq x=aj (.type n)
 |.kl C sp dd=>cm=ak->∃k f fd ps ds cb,Mk X.K C f/\bQ ao X.prog X.w X.K X.mg X.base (iH X.prog X.w) k f fd ps (bV X.K sp)/\nO ao (k+1) X.A/\X.mg x=aj (.ref C)/\Binds X.K fd ps ds/\Vals cb ds/\∀H,cZ X.K H dd cb
 |.me C m sp dd=>cm=ak->∃k f fd ps ds cb,fN X.K C/\Meth X.K C m f/\bQ ao X.prog X.w X.K X.mg X.base (iH X.prog X.w) k f fd ps (bV X.K sp)/\nO ao k X.A/\Binds X.K fd ps ds/\Vals cb ds/\∀H,cZ X.K H dd cb
 |.fl C f=>fN X.K C/\jF X.K C f
structure uP(X:Cx)(S:SI)(ex:aN->aV):Prop where
 N:X.N=S.N
 nd:X.N.Nodup
 Am:∀(i:Nat)(x:Str),S.N[i]?=aj x->S.fl[i]?=aj ak->BK X.env.scope x/\(x==("__debug__":Str))=ao/\(x==("__classdict__":Str))=ao
 ce:∀(i:Nat)(x:Str),S.N[i]?=aj x->S.ce[i]?=aj ak->X.env.kindOf x=aj .cell∨X.env.kindOf x=aj .free
 gm:∀(k:Nat)(x:Str)(g:GT),S.gl[k]?=aj (x,g)->(S.gv[k]?=aj ak->Gl X x)/\(x==("__debug__":Str))=ao/\x≠"__name__"/\Sf X S.calm x g
 hu:X.A.units+64<qy
 cm:S.calm=ak->X.calm=ak
 cat:mM X ex
def uP.gl{S:SI}{ex:aN->aV}(Q:uP X S ex)(k:Nat)(x:Str)(g:GT)(h:S.gl[k]?=aj (x,g))(hv:S.gv[k]?=aj ak):Gl X x/\(x==("__debug__":Str))=ao/\x≠"__name__"/\Sf X S.calm x g :=
 ⟨(Q.gm k x g h).1 hv,(Q.gm k x g h).2⟩
section
variable{X:Cx}{S:SI}{ex:aN->aV}
def TJ:dJ X e x2:=λ_ _ _ _ _ _ ⟨_,_,_,_,_,z,_⟩=>z.elim
def aIO{o:Operator}:md X (yj o) (SZ o):=by
 have no:∀{f:bh->bh->Sem bh},md X f (λ_ _ _ _=>False):=λ{f}=>⟨λ_ _ _ _=>False,λ_ _ _ _ _ _ _ _ _ _ _ _ h=>h.elim,λ_ _ _ _ _ _ _ _ _ _ _ h _=>h.elim⟩;exact match o with
 |.Add=>aTO
 |.Sub=>aTL
 |.Mult=>aTM
 |.FloorDiv=>aNI
 |.Mod=>aTN
 |.Pow=>no
 |.MatMult=>no
 |.Div=>no
 |.LShift=>no
 |.RShift=>no
 |.BitOr=>no
 |.BitXor=>no
 |.BitAnd=>no
def Bo{o:CmpOp}(hu:X.A.units+64<qy):zL X (nj o) (yk o):=by
 have no:∀{f:bh->bh->Sem bh},zL X f (λ_ _ _ _=>False):=λ{f}=>CY λ_ _ _ _ _ _ _ _ _ _ _ _ _ _ _ _ _ _ _ h _=>h.elim;exact match o with
 |.Eq=>aYD hu
 |.NotEq=>aYE hu
 |.Lt=>aXT
 |.LtE=>aXW
 |.Gt=>aXU
 |.GtE=>aXV
 |.Is=>no
 |.IsNot=>no
 |.In=>no
 |.NotIn=>aHJ hu
private theorem aUV{n:String}:eV X (.type n) (K6 n):=by
 unfold K6;split
 ·rename_i h;subst h;exact aU4
 .skip
  split
  ·rename_i h;subst h;exact aNZ
  .skip
   exact λ_ _ _ _ _ _ _ _ _ _ _ _ _ _ h _=>h.elim
def aCY{qt:Bool}{k:Nat}{x:Str}{pos:Pos}(F:bQ qt X.prog X.w X.K X.mg X.base (iH X.prog X.w) k f fd ps (bV X.K sp))(hr:nO qt k X.A)(hg:Gl X x)(hm:X.mg x=aj (.ref f))(hk:tu X.K (.ref f)=ak)(hb:Binds X.K fd ps [])(hx:mM X ex)
  (ij:(x==("__debug__":Str))=ao):dJ X (.Call (.Name x p) [] [] pos) (aP sp ex aF):=by
 intro ψ s σ H Q I h;let⟨ρ,G,R,sr,g,q,kk⟩:=h;refine yx (rA I hg hm ?_ ij);refine Mt I.cz hk ?_;exact Pk (E:=pj X.K (ex ρ)) F hr hb (λe s' c=>hx.CF ψ σ H s ρ e s' I sr c) I .nil (Q:=λv H'=>∃d G',RD X.K H' d v/\HR X.K H' G'/\R d G') ⟨[],G,R,ex ρ,.nil,g,q,λv H' d G' r2 g2 q2=>⟨d,G',r2,g2,q2⟩,λC H' G' g' q'=>⟨C,G',rfl,g',q'⟩⟩ (by rintro v H' t2 ⟨d,G',r2,g2,q2⟩;exact kk v H' d G' t2 r2 g2 q2)
def CN{xs:List je}{cs:fk}{cp:Pos}(h:zQ S cs xs=ak)(hl:xs.length<30):((uc cp (jg xs X.env)).all (λx=>!x.1)&&(backToKw cp (pw [] X.env)).all (λx=>x.1.isSome)
   &&decide (xs.length+([]:List ip).length+(if([]:List ip).isEmpty then 0 else 1)<30))=ak:=by
 have h1:(uc cp (jg xs X.env)).all (λx=>!x.1)=ak:=by
  rw[jq];intro y hy;have:=vN (env:=X.env) (pos:=cp) h;rw[List.any_eq_false]at this;have:=this y hy;simpa using this
 have h2:(decide (xs.length+([]:List ip).length+(if([]:List ip).isEmpty then 0 else 1)<30))=ak:=decide_eq_true (by simpa using hl);rw[h1,h2];rfl
end
end L4
namespace L4
open PySem PySem.Spec PyProof.Rows L2
variable{j:Nat}{pos ap cp:Pos}{x:Str}{m:MK}{o:je}{cs:fk}{env:Env}
section
variable{X:Cx}{S:SI}{ex:aN->aV}
def aPF{d:D}{c:Const}(h:SY d c=ak):dJ X (.Constant c j pos) (aW d):=by
 cases d<;>cases c<;>first|exact absurd (show ao=ak from h) (by decide)|skip
 .exact aT7
 .have:=beq_iff_eq.mp h;subst this;exact aXQ
 .have:=beq_iff_eq.mp h;subst this;exact aT6
 .have:=beq_iff_eq.mp h;subst this;exact aT8
def aPG{e:je}(h:plainT e=ak):∀whole,isTrue e X.env whole=(do let v ←whole;standAt e.pos;holding [v] (truthy v)):=by
 cases e with
 |UnaryOp op x p=>cases op<;>first|exact absurd (show ao=ak from h) (by decide)|(intro _;rfl)
 |BoolOp _ _ _=>exact absurd (show ao=ak from h) (by decide)
 |IfExp _ _ _ _=>exact absurd (show ao=ak from h) (by decide)
 |Compare _ _ _ _=>exact absurd (show ao=ak from h) (by decide)
 |_=>intro _;rfl
def SX(h:isSlice e=ao):JH e:=by
 cases e with
 |Slice _ _ _ _=>exact absurd (show ak=ao from h) (by decide)
 |_=>intro _ _;rfl
def aUW(Q:uP X S ex){k:Nat}{b:BF}(hk:S.gl[k]?=aj (x,.bf b))(hv:S.gv[k]?=aj ak)(hc:(S.calm||Ja b)=ak){t:bo}(ha:eM X (e::es) t)(he:isStar e=ao)(hp:(uc pos (jg es X.env)).any (·.1)=ao):dJ X (.Call (.Name x p) (e::es) [] pos) (fU (Sg X.K b) t):=by
 let⟨h1,h2,h3,h4⟩:=Q.gl _ _ _ hk hv
 have cm:Ja b=ao->X.calm=ak:=λz=>by
  rw[z,Bool.or_false]at hc;exact Q.cm hc
 cases b with
 |len=>exact xG aU3 h1 h4.1 h4.2 ha h3 h2 (bR he) hp
 |l7=>exact xG al5 h1 h4.1 h4.2 ha h3 h2 (bR he) hp
 |all=>exact xG (aUF (cm rfl)) h1 h4.1 h4.2 ha h3 h2 (bR he) hp
 |min=>exact xG (aOM (cm rfl)) h1 h4.1 h4.2 ha h3 h2 (bR he) hp
 |sum=>exact xG (λ_ _ _ _ _ _ _ _ _ _ _ _ _ _ q _=>q.elim) h1 h4.1 h4.2 ha h3 h2 (bR he) hp
 |Cv=>exact Ko (aIJ (cm rfl)) h1 h4.1 h4.2 ha h3 h2 (bR he) hp
 |yl=>exact xG aCR h1 h4.1 h4.2 ha h3 h2 (bR he) hp
 |C5=>exact xG aOV h1 h4.1 h4.2 ha h3 h2 (bR he) hp
 |Cu=>exact xG (aIA (cm rfl)) h1 h4.1 h4.2 ha h3 h2 (bR he) hp
 |Ct=>exact Ko (aIC (cm rfl)) h1 h4.1 h4.2 ha h3 h2 (bR he) hp
def aIP(ho:dJ X o to)(hb:cH o=ak)(hl:(ap.endLine==cp.line)=ak):dJ X (.Call (.Attribute o (B6 m) ap) [] [] cp) (Ld (Ey m) (Ez m) to):=by
 cases m with
 |append=>exact aU6 PySem.F.plainAttrs_list PySem.F.slot_list_append PySem.F.type_list_append Qm ho (nH hb) hl
def aCZ{t:bo}(ho:dJ X o to)(ha:eM X (e::es) t)(hb:cH o=ak)(hl:(ap.endLine==cp.line)=ak)(hk:zQ S cs (e::es)=ak)(hn:(e::es).length<30) :
  dJ X (.Call (.Attribute o (B6 m) ap) (e::es) [] cp) (lI (Ey m) (Ez m) to t):=by
 have he:isStar e=ao:=by
  cases cs with
  |nil=>exact absurd (show ao=ak from hk) (by decide)
  |cons c r =>
   have h':(!isStar e&&kE S c e&&zQ S r es)=ak:=hk;simp only[cg,iw]at h';exact h'.1.1
 have hp:(uc cp (jg es X.env)).any (·.1)=ao:=by
  have:=vN (env:=X.env) (pos:=cp) hk;rw[bR he]at this;have z:(ao||(uc cp (jg es X.env)).any (·.1))=ao:=this;simpa using z
 cases m with
 |append=>exact aYI PySem.F.plainAttrs_list PySem.F.slot_list_append PySem.F.type_list_append Qm ho ha (nH hb) (CN hk hn) hl (bR he) hp
def aUX{m:DM}{t:bo}(hu:X.A.units+64<qy)(ho:dJ X o to)(ha:eM X (e::es) t)(hb:cH o=ak)(hl:(ap.endLine==cp.line)=ak)(hk:zQ S cs (e::es)=ak)(hn:(e::es).length<30) :
  dJ X (.Call (.Attribute o (IQ m) ap) (e::es) [] cp) (x4 (Oq m) to t):=by
 have he:isStar e=ao:=by
  cases cs with
  |nil=>exact absurd (show ao=ak from hk) (by decide)
  |cons c r =>
   have h':(!isStar e&&kE S c e&&zQ S r es)=ak:=hk;simp only[cg,iw]at h';exact h'.1.1
 have hp:(uc cp (jg es X.env)).any (·.1)=ao:=by
  have:=vN (env:=X.env) (pos:=cp) hk;rw[bR he]at this;have z:(ao||(uc cp (jg es X.env)).any (·.1))=ao:=this;simpa using z
 cases m with
 |El=>exact Si PySem.F.slot_dict_setdefault PySem.F.type_dict_setdefault (aUN hu) ho ha (nH hb) (CN hk hn) hl (bR he) hp
 |pop=>exact Si PySem.F.slot_dict_pop PySem.F.type_dict_pop (aOU hu) ho ha (nH hb) (CN hk hn) hl (bR he) hp
local macro_rules| `(tactic| walk_at "off")=>`(tactic| exact absurd (show ao=ak from by assumption) (by decide))
private theorem aPH(Q:uP X S ex){k:Nat}(h:kE S (.cw k) (.Name x p)=ak):dJ X (.Name x p) (K5 S.gl k):=by
 have h':(S.gv[k]?==aj ak&&LD S k x)=ak:=h;rw[cg]at h';let⟨hv,h⟩:=h';have hv:=beq_iff_eq.mp hv;unfold LD at h;unfold K5;split at h
 .rename_i y d hk;have:=beq_iff_eq.mp h;subst this;let⟨h1,h2,h3,u,v,h4,h5,h6⟩:=Q.gl _ _ _ hk hv;exact T9 h1 h4 h5 h6 h2
 .rename_i y d hk;have:=beq_iff_eq.mp h;subst this;let⟨h1,h2,h3,h4⟩:=Q.gl _ _ _ hk hv;exact T9 h1 h4.1 (v:=.ref d) rfl (λ_=>.ref _) h2
 .rename_i y d hk;have:=beq_iff_eq.mp h;subst this;let⟨h1,h2,h3,h4⟩:=Q.gl _ _ _ hk hv;exact aNE h1 h4.1 h4.2 h3 h2
 .exact absurd h (by decide)
private theorem aIQ(Q:uP X S ex){k:Nat}{xs:List je}(ha:eM X xs (mA S.gl X.K ex es))(hk:zQ S es xs=ak)(hv:S.gv[k]?=aj ak)(h:Ff S k x (!xs.isEmpty)=ak):dJ X (.Call (.Name x p) xs [] pos) (K4 S.gl X.K ex k (mA S.gl X.K ex es)):=by
 unfold Ff at h;unfold K4
 have one:∀{e:je}{r:List je},xs=e::r->isStar e=ao/\(uc pos (jg r X.env)).any (·.1)=ao:=λ{e r} z=>by
  subst z;cases es with
  |nil=>exact absurd (show ao=ak from hk) (by decide)
  |cons c cr =>
   have h':(!isStar e&&kE S c e&&zQ S cr r)=ak:=hk;simp only[cg,iw]at h';exact⟨h'.1.1,vN h'.2⟩
 split at h
 .rename_i y sp n qt hg;rw[cg]at h;let⟨h,hc⟩:=h;have:=beq_iff_eq.mp h;subst this;let⟨h1,h2,h3,h4⟩:=Q.gl _ _ _ hg hv;let⟨j,f,fd,ps,F,hr,hm,N7,hb⟩:=h4 (GI _ _ |>.mp hc);cases xs with
  |nil =>
   cases es with
   |nil=>exact aCY F hr h1 hm N7 hb Q.cat h2
   |cons _ _=>exact absurd (show ao=ak from hk) (by decide)
  |cons e r=>exact aHG F hr h1 hm N7 hb Q.cat ha h2 (bR (one rfl).1) (one rfl).2
 .rename_i y a hg;have:=beq_iff_eq.mp h;subst this;let⟨h1,h2,h3,h4,h5⟩:=Q.gl _ _ _ hg hv;cases xs with
  |nil =>
   cases es with
   |nil=>exact aON PySem.F.excBase_ValueError (by decide) PySem.F.excBase_ValueError h1 h4 h5 h2
   |cons _ _=>exact absurd (show ao=ak from hk) (by decide)
  |cons e r=>exact aUI PySem.F.excBase_ValueError (by decide) PySem.F.excBase_ValueError h1 h4 h5 ha h2 (bR (one rfl).1) (one rfl).2
 .rename_i y b hg;rw[cg,cg]at h;let⟨⟨h,hc⟩,ef⟩:=h;have:=beq_iff_eq.mp h;subst this;cases xs with
  |nil=>exact absurd (show ao=ak from hc) (by decide)
  |cons e r=>exact aUW Q hg hv ef ha (one rfl).1 (one rfl).2
 .rename_i y n hg;rw[cg]at h;let⟨h,hc⟩:=h;have:=beq_iff_eq.mp h;subst this;let⟨h1,h2,h3,h4⟩:=Q.gl _ _ _ hg hv;cases xs with
  |nil=>exact absurd (show ao=ak from hc) (by decide)
  |cons e r=>exact Ko aUV h1 h4.1 h4.2 ha h3 h2 (bR (one rfl).1) (one rfl).2
 .rename_i y C sp dd hg;rw[cg]at h;let⟨h,hc⟩:=h;have:=beq_iff_eq.mp h;subst this;let⟨h1,h2,h3,h4⟩:=Q.gl _ _ _ hg hv;let⟨kk,f,fd,ps,ds,cb,q1,q2,q3,q4,q5,q6,q7⟩:=h4 hc;cases xs with
  |nil =>
   cases es with
   |nil=>exact aC1 q1 q2 q3 h1 q4 q5 q6 q7 Q.cat h2
   |cons _ _=>exact absurd (show ao=ak from hk) (by decide)
  |cons e r=>exact aHW q1 q2 q3 h1 q4 q5 q6 q7 Q.cat ha h2 (bR (one rfl).1) (one rfl).2
 .exact absurd h (by decide)
def vO{names:List (Str×vp)}{k:vp}(h:names.lookup y=aj k) :
  (names.map λ(n,k)=>if(k==.free&&env.scope.kind==.function&&env.kindOf n==aj .cell)then(n,.cell)else(n,k)).lookup y=aj k ∨
  (k=.free/\(names.map λ(n,k)=>if(k==.free&&env.scope.kind==.function&&env.kindOf n==aj .cell)then(n,.cell)else(n,k)).lookup y=aj .cell):=by
 induction names with
 |nil=>simp at h
 |cons p r ih =>
  let⟨n,kd⟩:=p;rw[wz]at h;show za y ((if(kd==.free&&env.scope.kind==.function&&env.kindOf n==aj .cell)=ak then(n,vp.cell)else(n,kd))::_)=aj k∨(k=.free/\za y ((if(kd==.free&&env.scope.kind==.function&&env.kindOf n==aj .cell)=ak then(n,vp.cell)else(n,kd))::_)=aj .cell);cases hx:y==n with
  |true =>
   rw[hx]at h;have ER:kd=k:=by simpa using h
   subst ER;by_cases hc:(kd==.free&&env.scope.kind==.function&&env.kindOf n==aj .cell)=ak
   .rw[if_pos hc,wz,hx];refine .inr ⟨?_,rfl⟩;simp only[cg,beq_iff_eq]at hc;exact hc.1.1
   .rw[if_neg hc,wz,hx];exact .inl rfl
  |false =>
   rw[hx]at h;have z:=ih h;by_cases hc:(kd==.free&&env.scope.kind==.function&&env.kindOf n==aj .cell)=ak
   .rw[if_pos hc,wz,hx];exact z
   .rw[if_neg hc,wz,hx];exact z
def QL:∀{xs:List Str},Fy xs=ak->xs.Nodup
 |[],_=>List.nodup_nil
 |x::r,h=>by
  have h':(!r.contains x&&Fy r)=ak:=h;rw[cg]at h';exact yq.mpr ⟨by simpa using h'.1,QL h'.2⟩
def R5{xs:List Str}{scope:zq}{fl gv:List Bool}(h:A0 S xs scope fl gv=ak) :
  scope.kind=.function/\(∀y∈scope.names,y.2≠.cell/\(y.2=.local->scope.names.lookup y.1=aj .local)/\(y.2=.free->KY S y.1=ak)) /\
  (∀x∈xs,scope.names.lookup x=aj .local/\x∉S.N/\(x==("__debug__":Str))=ao/\(x==("__classdict__":Str))=ao)/\xs.Nodup/\(∀y∈S.N,scope.names.lookup y≠aj .local) /\
  (∀(i:Nat)(y:Str),S.N[i]?=aj y->fl[i]?=aj ak->S.fl[i]?=aj ak/\scope.names.lookup y=aj .free) /\
  ∀(k:Nat)(y:Str)(g:GT),S.gl[k]?=aj (y,g)->gv[k]?=aj ak->scope.names.lookup y=aj .globalImplicit:=by
 unfold A0 at h;simp only[cg]at h;let⟨⟨⟨⟨⟨⟨h1,h2⟩,h3⟩,h4⟩,h5⟩,h8⟩,h9⟩:=h;refine⟨beq_iff_eq.mp h1,λy hy=>?_,λx hx=>?_,QL h4,λy hy=>?_,λi y e1 e2=>?_,λk y g e1 e2=>?_⟩
 .have z:=jq.mp h2 y hy;simp only[cg,bne_iff_ne,ne_eq,GI,beq_iff_eq]at z;let⟨⟨z1,z2⟩,z3⟩:=z;exact⟨z1,λe=>z2.resolve_left λn=>n e,λe=>z3.resolve_left λn=>n e⟩
 .have z:=jq.mp h3 x hx;simp only[cg]at z;let⟨⟨⟨z1,z2⟩,z3⟩,z4⟩:=z;exact⟨beq_iff_eq.mp z1,by simpa using z2,by simpa using z3,by simpa using z4⟩
 .have z:=jq.mp h5 y hy;simpa using z
 .have z:=jq.mp h8 i (xr.mpr (iz.mp e1).1);rw[e2,e1]at z;simpa using z
 .have z:=jq.mp h9 k (xr.mpr (iz.mp e1).1);rw[e2,e1]at z;simpa using z
def KB(Q:uP X S ex){fl gv:List Bool}(h:A0 S xs scope fl gv=ak):yA X xs scope:=by
 let⟨h1,h2,h3,h4,h5,h8,h9⟩:=R5 h;refine⟨h1,λy hy=>(h2 y hy).1,λy hy=>(h2 y hy).2.1,λx hx=>(h3 x hx).1,λy hy e=>?_,λx hx=>by rw[Q.N];exact(h3 x hx).2.1,h4,by rw[Q.N];exact h5⟩;have z:=(h2 y hy).2.2 e;unfold KY at z;let⟨i,_,z⟩:=List.any_eq_true.mp z;rw[cg]at z;exact Q.ce i y.1 (beq_iff_eq.mp z.1) (beq_iff_eq.mp z.2)
def TH{X:Cx}:mM X lh:=⟨by rintro _ _ _ _ _ _ _ _ _ ⟨_,_,_,_,_,_,_,_,_,_,_,_,_,_,_,_,z⟩;exact z.elim⟩
def QK{α:Type}{xs ys:List α}{i:Nat}{y:α}(h:(xs++ys)[i]?=aj y):(i<xs.length/\y∈xs)∨∃j,i=xs.length+j/\ys[j]?=aj y:=by
 by_cases c:i<xs.length
 .rw[Hh c]at h;exact .inl ⟨c,lq h⟩
 .rw[zu ⋯]at h;exact .inr ⟨i - xs.length,⋯,h⟩
def OX{α β:Type}{xs:List α}{f:α->β}{ys:List β}:(xs.map f++ys)[xs.length+j]?=ys[j]?:=by
 rw[zu (by simp)];congr 1;simp
def uP.cmp(Q:uP X S ex){fl gv:List Bool}(h:A0 S xs scope fl gv=ak)(C:bx)(s:dg)(H:Hp)(fp:List bx)(ψ:List (bx×Obj)):uP (yO X xs scope C s H fp ψ) (S.cmp xs fl gv) lh:=by
 let⟨h1,h2,h3,h4,h5,h8,h9⟩:=R5 h;refine⟨by show xs++X.N=xs++S.N;rw[Q.N],TX (KB Q h) Q.nd,λi y e1 e2=>?_,λi y e1 e2=>?_,λk y g e1=>?_,Q.hu,Q.cm,TH⟩
 .rcases QK e1 with⟨_,m⟩|⟨j,rfl,j3⟩
  .obtain⟨a1,a2,a3,a4⟩:=h3 y m;exact⟨.inl (lookup_relabel_local a1),a3,a4⟩
  .have oP:fl[j]?=aj ak:=OX.symm.trans e2;let⟨a1,a2⟩:=h8 j y j3 oP;let⟨_,b2,b3⟩:=Q.Am j y j3 a1;refine⟨?_,b2,b3⟩;rcases vO (env:=X.env) a2 with z|⟨_,z⟩
   .exact .inr (.inr z)
   .exact .inr (.inl z)
 .rcases QK e1 with⟨c,m⟩|⟨j,rfl,j3⟩
  .have oP:(xs.map (λ_=>ao)++fl)[i]?=aj ak:=e2;rw[Hh (by simpa using c)]at oP;simp at oP
  .have oP:fl[j]?=aj ak:=OX.symm.trans e2;let⟨a1,a2⟩:=h8 j y j3 oP;rcases vO (env:=X.env) a2 with z|⟨_,z⟩
   .exact .inr z
   .exact .inl z
 .obtain⟨b1,b2,b3,b4⟩:=Q.gm k y g e1;refine⟨λe2=>?_,b2,b3,?_⟩
  .rcases vO (env:=X.env) (h9 k y g e1 e2)with z|⟨z,_⟩
   .exact z
   .cases z
  .cases g<;>exact b4
private theorem P4(Q:uP X S ex)(h:Dh S=ak):Gl X "range"/\X.mg "range"=au:=by
 unfold Dh at h;let⟨k,_,h⟩:=List.any_eq_true.mp h;rw[cg]at h;let⟨hv,h⟩:=h;split at h
 .rename_i y n e;rw[cg]at h;have:=beq_iff_eq.mp h.1;subst this;let⟨g1,g2,g3,g4⟩:=Q.gl _ _ _ e (beq_iff_eq.mp hv);exact⟨g1,g4.1⟩
 .exact absurd h (by decide)
private theorem OW{k:Nat}(h:AO S k x=ak):∃y C,S.gl[k]?=aj (y,.fl C x):=by
 unfold AO at h;split at h
 .rename_i y C f e;have:=beq_iff_eq.mp h;subst this;exact⟨y,C,e⟩
 .exact absurd h (by decide)
private theorem aIR{k:Nat}(h:F5 S k x=ak):∃y C sp dd,S.gl[k]?=aj (y,.me C x sp dd):=by
 unfold F5 at h;split at h
 .rename_i y C m sp dd e;have:=beq_iff_eq.mp h;subst this;exact⟨y,C,sp,dd,e⟩
 .exact absurd h (by decide)
def TF{neg:Bool}{o:CmpOp}(hu:X.A.units+64<qy)(h:(o==(if neg then CmpOp.NotIn else CmpOp.In))=ak):zL X (nj o) (K1 neg):=by
 have:=beq_iff_eq.mp h;subst this;cases neg with
 |true=>exact aOP hu
 |false=>exact aUL hu
def aIS{m:Str}{args:List je}(hb:uf o m env (eval o env)=eval o env)(hf:((uc cp (jg args env)).all (λx=>!x.1)&&(backToKw cp (pw [] env)).all (λx=>x.1.isSome)
   &&decide (args.length+([]:List ip).length+(if([]:List ip).isEmpty then 0 else 1)<30))=ak)(hl:(ap.endLine==cp.line)=ak):∃pl:Sem Bool,eval (.Call (.Attribute o m ap) args [] cp) env=(do
   let ov ←eval o env
   standAt ap.atName
   let(f,first) ←holding [ov] (getMethod ov m pl)
   callWith cp f first (uc cp (jg args env)) (backToKw cp (pw [] env))):=by
 rw[arm_eval_Call,hb];have Ef:methodCallForm (args.length+([]:List ip).length) (uc cp (jg args env)) (backToKw cp (pw [] env))=ak:=hf;have kA:methodCallPos ak o env ap cp=pure cp:=by unfold methodCallPos;simp[hl]
 refine⟨?_,?_⟩
 rotate_left
 .unfold methodCall;rw[Ef];simp only[kA,pure_bind];rfl
private theorem OV(Q:uP X S ex){k:Nat}{nm:String}(h:AN S k x nm=ak)(hv:S.gv[k]?=aj ak):Gl X x/\X.mg x=au/\mq x=aj (.builtin nm)/\x≠"__name__"/\(x==("__debug__":Str))=ao:=by
 unfold AN at h;split at h
 .rename_i y b e;rw[cg]at h;have e1:=beq_iff_eq.mp h.1;have e2:=beq_iff_eq.mp h.2;subst e1;let⟨g1,g2,g3,g4⟩:=Q.gl _ _ _ e hv;exact⟨g1,g4.1,by rw[←e2];exact g4.2,g3,g2⟩
 .exact absurd h (by decide)
def Dy{w:je}{n:Str}{l:Bool}(h:vM w=aj (y,n,l)):∃ap cp,w=.Call (.Attribute y n ap) [] [] cp/\l=(ap.endLine==cp.line):=by
 unfold vM at h;split at h
 .cases h;exact⟨_,_,rfl,rfl⟩
 .cases h
def LC(h:isSet e=ao):∀x,DP e env x=pure x:=by
 cases e<;>first|(intro _;rfl)|exact absurd (show ak=ao from h) (by decide)
end
end L4
namespace L4
open PySem PySem.Spec PyProof.Rows L2
def bZ{P:Prop}(h:ao=ak):P:=absurd h (by decide)
variable{c:CE}{r:Bool}
def ix{e:je}(h:(ck c e&&r)=ak)(z:(EF c==99)=ao:=by rfl):e.ctorIdx=EF c:=by
 unfold ck at h;rw[z,DD,cg,cg]at h;exact beq_iff_eq.mp h.1.1
def iy(h:(ck c e&&r)=ak)(z:(EG c==99)=ao:=by rfl):s1 e=EG c:=by
 unfold ck at h;rw[z,DD,cg,cg]at h;exact beq_iff_eq.mp h.1.2
def Zt{e:je}(h:e.ctorIdx=0):∃o l p,e=.BoolOp o l p:=Expr.BoolOp.elim (motive_1:=(∃o l p,· =.BoolOp o l p)) e h λ_ _ _=>⟨_,_,_,rfl⟩
def QJ{e:je}(h:e.ctorIdx=2):∃x o y p,e=.BinOp x o y p:=Expr.BinOp.elim (motive_1:=(∃x o y p,· =.BinOp x o y p)) e h λ_ _ _ _=>⟨_,_,_,_,rfl⟩
def R4{e:je}(h:e.ctorIdx=3):∃o x p,e=.UnaryOp o x p:=Expr.UnaryOp.elim (motive_1:=(∃o x p,· =.UnaryOp o x p)) e h λ_ _ _=>⟨_,_,_,rfl⟩
def P2{e:je}(h:e.ctorIdx=6):∃k l p,e=.Dict k l p:=Expr.Dict.elim (motive_1:=(∃k l p,· =.Dict k l p)) e h λ_ _ _=>⟨_,_,_,rfl⟩
def alJ{e:je}(h:e.ctorIdx=8):∃x l s p,e=.ListComp x l s p:=Expr.ListComp.elim (motive_1:=(∃x l s p,· =.ListComp x l s p)) e h λ_ _ _ _=>⟨_,_,_,_,rfl⟩
def Ms{e:je}(h:e.ctorIdx=15):∃x o l p,e=.Compare x o l p:=Expr.Compare.elim (motive_1:=(∃x o l p,· =.Compare x o l p)) e h λ_ _ _ _=>⟨_,_,_,_,rfl⟩
def oU{e:je}(h:e.ctorIdx=16):∃f l k p,e=.Call f l k p:=Expr.Call.elim (motive_1:=(∃f l k p,· =.Call f l k p)) e h λ_ _ _ _=>⟨_,_,_,_,rfl⟩
def alK{e:je}(h:e.ctorIdx=19):∃c j p,e=.Constant c j p:=Expr.Constant.elim (motive_1:=(∃c j p,· =.Constant c j p)) e h λ_ _ _=>⟨_,_,_,rfl⟩
def fY{e:je}(h:e.ctorIdx=20):∃y n p,e=.Attribute y n p:=Expr.Attribute.elim (motive_1:=(∃y n p,· =.Attribute y n p)) e h λ_ _ _=>⟨_,_,_,rfl⟩
def rD{e:je}(h:e.ctorIdx=21):∃x y p,e=.Subscript x y p:=Expr.Subscript.elim (motive_1:=(∃x y p,· =.Subscript x y p)) e h λ_ _ _=>⟨_,_,_,rfl⟩
def mL{e:je}(h:e.ctorIdx=23):∃x p,e=.Name x p:=Expr.Name.elim (motive_1:=(∃x p,· =.Name x p)) e h λ_ _=>⟨_,_,rfl⟩
def aD3{e:je}(h:e.ctorIdx=24):∃l p,e=.List l p:=Expr.List.elim (motive_1:=(∃l p,· =.List l p)) e h λ_ _=>⟨_,_,rfl⟩
def X1{e:je}(h:e.ctorIdx=25):∃l j p,e=.Tuple l j p:=Expr.Tuple.elim (motive_1:=(∃l j p,· =.Tuple l j p)) e h λ_ _ _=>⟨_,_,_,rfl⟩
mutual
theorem nR{X:Cx}{S:SI}{ex:aN->aV}(Q:uP X S ex):∀(c:CE)(e:je),kE S c e=ak->dJ X e (mE S.gl X.K ex c)
 |.var i,e,h=>by
  let⟨x,p,rfl⟩:=mL (ix h);have h':(S.N[i]?==aj x&&S.fl[i]?==aj ak)=ak:=h;rw[cg]at h';have e1:=beq_iff_eq.mp h'.1;let⟨v1,v2,v3⟩:=Q.Am i x e1 (beq_iff_eq.mp h'.2);exact aT5 i (by rw[Q.N];exact e1) v1 v2 v3
 |.con d,e,h=>by
  let⟨c,j,p,rfl⟩:=alK (ix h);exact aPF h
 |.cw k,e,h=>by
  let⟨x,p,rfl⟩:=mL (ix h);exact aPH Q h
 |.neg a,e,h=>by
  let⟨op,x,p,rfl⟩:=R4 (ix h);cases op with
  |USub=>exact aU1 (nR Q a x h)
  |_=>exact bZ h
 |.AS a,e,h=>by
  let⟨op,x,p,rfl⟩:=R4 (ix h);cases op with
  |Not=>exact aTH (nR Q a x h)
  |_=>exact bZ h
 |.bin o a b,e,h=>by
  let⟨x,o',y,p,rfl⟩:=QJ (ix h);have h':(o==o'&&kE S a x&&kE S b y)=ak:=h;simp only[cg]at h';have:=beq_iff_eq.mp h'.1.1;subst this;exact Sm aIO (nR Q a x h'.1.2) (nR Q b y h'.2)
 |.smul a b,e,h=>by
  let⟨x,o',y,p,rfl⟩:=QJ (ix h);cases o' with
  |Mult =>
   have h':(kE S a x&&kE S b y)=ak:=h;simp only[cg]at h';exact Sm aP4 (nR Q a x h'.1) (nR Q b y h'.2)
  |_=>exact bZ h
 |.cmp o a b,e,h=>by
  let⟨x,ops,ys,p,rfl⟩:=Ms (ix h)
  match ops,ys,h with
  |[o'],[y],h =>
   have h':(o==o'&&!behindInMarks o' y&&kE S a x&&kE S b y)=ak:=h;simp only[cg,iw]at h';have:=beq_iff_eq.mp h'.1.1.1;subst this;exact S8 (Bo Q.hu) (nR Q a x h'.1.2) (nR Q b y h'.2) h'.1.1.2
  |[],_,h=>exact bZ h
  |_::_::_,_,h=>exact bZ h
  |[_],[],h=>exact bZ h
  |[_],_::_::_,h=>exact bZ h
 |.chain o o' a b c,e,h=>by
  let⟨x,ops,ys,p,rfl⟩:=Ms (ix h)
  match ops,ys,h with
  |[p1,p2],[y,z],h =>
   have h':(o==p1&&o'==p2&&!lastMarks [p1,p2] [y,z]&&kE S a x&&kE S b y&&kE S c z)=ak:=h;simp only[cg,iw]at h';have e1:=beq_iff_eq.mp h'.1.1.1.1.1;have e2:=beq_iff_eq.mp h'.1.1.1.1.2;subst e1;subst e2;exact aHB (Bo Q.hu) (Bo Q.hu) (nR Q a x h'.1.1.2) (nR Q b y h'.1.2) (nR Q c z h'.2) h'.1.1.1.2
  |[],_,h=>exact bZ h
  |[_],_,h=>exact bZ h
  |_::_::_::_,_,h=>exact bZ h
  |[_,_],[],h=>exact bZ h
  |[_,_],[_],h=>exact bZ h
  |[_,_],_::_::_::_,h=>exact bZ h
 |.kU es,e,h=>by
  let⟨op,xs,p,rfl⟩:=Zt (ix h);cases op with
  |And=>exact SW Q es xs p h
  |Or=>exact bZ h
 |.tup es,e,h=>by
  let⟨xs,j,p,rfl⟩:=X1 (ix h);exact aTI (sQ Q es xs h)
 |.lst es,e,h=>by
  let⟨xs,p,rfl⟩:=aD3 (ix h);exact aTJ (sQ Q es xs h)
 |.qV,e,h=>by
  let⟨ks,vs,p,rfl⟩:=P2 (ix h)
  match ks,vs,h with
  |[],[],_=>exact aO5
  |_::_,_,h=>exact bZ h
  |[],_::_,h=>exact bZ h
 |.ix a b,e,h=>by
  let⟨x,y,p,rfl⟩:=rD (ix h);have h':(!isSlice y&&kE S a x&&kE S b y)=ak:=h;simp only[cg,iw]at h';exact aXX (nR Q a x h'.1.2) (nR Q b y h'.2) (SX h'.1.1)
 |.sl a lo hi,e,h=>by
  let⟨x,y,p,rfl⟩:=rD (ix h);cases y with
  |Slice l u st q =>
   cases st with
   |none =>
    have h':(kE S a x&&kO S lo l&&kO S hi u)=ak:=h;simp only[cg]at h';exact aHL (nR Q a x h'.1.1) (NB Q lo l h'.1.2) (NB Q hi u h'.2)
   |some _=>exact bZ h
  |_=>exact bZ h
 |.call k es,e,h=>by
  have jz:=iy h;let⟨f,xs,oo,p,rfl⟩:=oU (ix h);let⟨x,q,rfl⟩:=mL jz;cases oo with
  |nil =>
   have h':(zQ S es xs&&S.gv[k]?==aj ak&&Ff S k x (!xs.isEmpty))=ak:=h;simp only[cg]at h';exact aIQ Q (sQ Q es xs h'.1.1) h'.1.1 (beq_iff_eq.mp h'.1.2) h'.2
  |cons _ _=>exact bZ h
 |.c5 m o .nil,e,h=>by
  have jz:=iy h;let⟨f,xs,oo,p,rfl⟩:=oU (ix h);let⟨y,n,ap,rfl⟩:=fY jz;cases oo with
  |nil =>
   have h':(n==B6 m&&cH y&&ap.endLine==p.line&&decide (xs.length<30)&&kE S o y&&zQ S .nil xs)=ak:=h;simp only[cg]at h';let⟨⟨⟨⟨⟨h1,h2⟩,h3⟩,h4⟩,h5⟩,h6⟩:=h';have:=beq_iff_eq.mp h1;subst this;cases xs with
   |nil=>exact aIP (nR Q o y h5) h2 h3
   |cons _ _=>exact bZ h6
  |cons _ _=>exact bZ h
 |.c5 m o (.cons c r),e,h=>by
  have jz:=iy h;let⟨f,xs,oo,p,rfl⟩:=oU (ix h);let⟨y,n,ap,rfl⟩:=fY jz;cases oo with
  |nil =>
   have h':(n==B6 m&&cH y&&ap.endLine==p.line&&decide (xs.length<30)&&kE S o y&&zQ S (.cons c r) xs)=ak:=h;simp only[cg]at h';let⟨⟨⟨⟨⟨h1,h2⟩,h3⟩,h4⟩,h5⟩,h6⟩:=h';have:=beq_iff_eq.mp h1;subst this;cases xs with
   |nil=>exact bZ h6
   |cons x xs =>
    have h7:(!isStar x&&kE S c x&&zQ S r xs)=ak:=h6;simp only[cg,iw]at h7;exact aCZ (nR Q o y h5) (yY (nR Q c x h7.1.2) (sQ Q r xs h7.2) (bR h7.1.1)) h2 h3 h6 (of_decide_eq_true h4)
  |cons _ _=>exact bZ h
 |.comp fl gv ci cc c,e,h=>by
  have jz:=iy h;let⟨elt,gens,scope,p,rfl⟩:=alJ (ix h);cases gens with
  |nil=>exact bZ h
  |cons g gr =>
   let⟨tg,it,ifs,a⟩:=g;let⟨x,px,rfl⟩:=mL jz;cases gr with
   |cons _ _=>exact bZ h
   |nil =>
    have h':(a==0&&A0 S [x] scope fl gv&&!isSet it&&kI S ao ci it&&kC (S.cmp [x] fl gv) cc ifs&&kE (S.cmp [x] fl gv) c elt)=ak:=h;simp only[cg,iw]at h';let⟨⟨⟨⟨⟨h2,h3⟩,h4⟩,h5⟩,h6⟩,h7⟩:=h';have:=beq_iff_eq.mp h2;subst this;exact aHR (KB Q h3) (λC s H fp ψ σ=>aOE (KB Q h3) Q.nd) aBP (Ws (tt:=false) Q (λz=>nomatch z) ci it h5) (λC s H fp ψ=>Wt (Q.cmp h3 C s H fp ψ) cc ifs h6) (λC s H fp ψ=>nR (Q.cmp h3 C s H fp ψ) c elt h7) (LC h4)
 |.fld k c,e,h=>by
  let⟨y,n,p,rfl⟩:=fY (ix h);have h':(AO S k n&&cH y&&kE S c y)=ak:=h;simp only[cg]at h';let⟨z,C,hg⟩:=OW h'.1.1;let⟨_,_,_,g⟩:=Q.gm _ _ _ hg;show dJ X _ (K3 S.gl k _);unfold K3;rw[hg];exact aUJ (nR Q c y h'.2) g.1 g.2 (nH h'.1.2)
 |.eG k c cs,e,h=>by
  have jz:=iy h;let⟨f,as,ks,p,rfl⟩:=oU (ix h);let⟨y,n,ap,rfl⟩:=fY jz;cases ks with
  |cons _ _=>exact bZ h
  |nil =>
   have h':(F5 S k n&&S.calm&&cH y&&ap.endLine==p.line&&decide (as.length<30)&&kE S c y&&zQ S cs as)=ak:=h;simp only[cg]at h';let⟨⟨⟨⟨⟨⟨h1,h2⟩,h3⟩,h4⟩,h5⟩,h6⟩,h7⟩:=h';let⟨z,C,sp,dd,hg⟩:=aIR h1;let⟨_,_,_,g⟩:=Q.gm _ _ _ hg;let⟨kk,f,fd,ps,ds,cb,q1,q2,q3,q4,q5,q6,q7⟩:=g h2;let⟨pl,ht⟩:=aIS (env:=X.env) (m:=n) (nH h3) (CN (X:=X) (cp:=p) h7 (of_decide_eq_true h5)) h4;show dJ X _ (K2 S.gl ex k _ _);unfold K2;rw[hg];cases cs with
   |nil =>
    cases as with
    |cons _ _=>exact bZ h7
    |nil=>exact aC0 (nR Q c y h6) q1 q2 q3 q4 q5 q6 q7 Q.cat ht
   |cons c1 cr =>
    cases as with
    |nil=>exact bZ h7
    |cons a1 ar =>
     have h8:(!isStar a1&&kE S c1 a1&&zQ S cr ar)=ak:=h7;simp only[cg,iw]at h8;exact aHV (nR Q c y h6) q1 q2 q3 q4 q5 q6 q7 Q.cat (yY (nR Q c1 a1 h8.1.2) (sQ Q cr ar h8.2) (bR h8.1.1)) (bR h8.1.1) (vN h8.2) ht
 |.kN a b,e,h=>by
  let⟨x,y,p,rfl⟩:=rD (ix h);have h':(!isSlice y&&kE S a x&&kE S b y)=ak:=h;simp only[cg,iw]at h';exact aUK Q.hu (nR Q a x h'.1.2) (nR Q b y h'.2) (SX h'.1.1)
 |.qS neg a b,e,h=>by
  let⟨x,ops,ys,p,rfl⟩:=Ms (ix h)
  match ops,ys,h with
  |[o'],[y],h =>
   have h':(o'==(if neg then CmpOp.NotIn else CmpOp.In)&&!behindInMarks o' y&&kE S a x&&kE S b y)=ak:=h;simp only[cg,iw]at h';exact S8 (TF Q.hu h'.1.1.1) (nR Q a x h'.1.2) (nR Q b y h'.2) h'.1.1.2
  |[],_,h=>exact bZ h
  |_::_::_,_,h=>exact bZ h
  |[_],[],h=>exact bZ h
  |[_],_::_::_,h=>exact bZ h
 |.oQ c d f,e,h=>by
  have jz:=iy h;let⟨g,as,ks,p,rfl⟩:=oU (ix h);let⟨y,n,ap,rfl⟩:=fY jz
  match as,ks,h with
  |[],_,h=>exact bZ h
  |[_],_,h=>exact bZ h
  |_::_::_::_,_,h=>exact bZ h
  |[_,_],_::_,h=>exact bZ h
  |[x,z],[],h =>
   have h':(n==("get":Str)&&cH y&&ap.endLine==p.line&&!isStar x&&!isStar z&&kE S c y&&kE S d x&&kE S f z)=ak:=h;simp only[cg,iw]at h';let⟨⟨⟨⟨⟨⟨⟨h0,h1⟩,h2⟩,h3⟩,h4⟩,h5⟩,h6⟩,h7⟩:=h';have:=beq_iff_eq.mp h0;subst this
   have k2:zQ S (.cons d (.cons f .nil)) [x,z]=ak:=by
    show(!isStar x&&kE S d x&&(!isStar z&&kE S f z&&ak))=ak;rw[h3,h4,h6,h7];rfl
   exact aHX Q.hu (nR Q c y h5) (nR Q d x h6) (nR Q f z h7) ⟨nH h1,CN (X:=X) (cp:=p) k2 (show 2<30 by decide),h2,by rw[bR h3,bR h4];rfl⟩
 |.AR,e,h=>by
  let⟨ks,vs,p,rfl⟩:=P2 (ix h)
  match ks,vs,h with
  |[],[],_=>exact aHM
  |_::_,_,h=>exact bZ h
  |[],_::_,h=>exact bZ h
 |.dm m o c r,e,h=>by
  have jz:=iy h;let⟨f,xs,oo,p,rfl⟩:=oU (ix h);let⟨y,n,ap,rfl⟩:=fY jz
  match xs,oo,h with
  |[],_,h=>exact bZ h
  |_::_,_::_,h=>exact bZ h
  |x::xs,[],h =>
   have h':(n==IQ m&&cH y&&ap.endLine==p.line&&decide ((x::xs).length<30)&&kE S o y&&!isStar x&&kE S c x&&zQ S r xs)=ak:=h;simp only[cg]at h';let⟨⟨⟨⟨⟨⟨⟨h1,h2⟩,h3⟩,h4⟩,h5⟩,h6⟩,h7⟩,h8⟩:=h';have:=beq_iff_eq.mp h1;subst this
   have hk:zQ S (.cons c r) (x::xs)=ak:=by
    show(!isStar x&&kE S c x&&zQ S r xs)=ak;rw[h6,h7,h8];rfl
   simp only[iw]at h6;exact aUX Q.hu (nR Q o y h5) (yY (nR Q c x h7) (sQ Q r xs h8) (bR h6)) h2 h3 hk (of_decide_eq_true h4)
 |.sortI k c,e,h=>by
  have jz:=iy h;let⟨f,as,ks,p,rfl⟩:=oU (ix h);let⟨x,q,rfl⟩:=mL jz
  match as,ks,h with
  |[],_,h=>exact bZ h
  |_::_::_,_,h=>exact bZ h
  |[_],_::_,h=>exact bZ h
  |[w],[],h =>
   have h':(S.calm&&S.gv[k]?==aj ak&&AN S k x "sorted"&&(match vM w with
    |some (y,n,l)=>l&&n==("items":Str)&&cH y&&kE S c y
    |none=>ao))=ak:=h
   simp only[cg]at h';let⟨⟨⟨h1,h2⟩,h3⟩,h4⟩:=h';cases q2:vM w with
   |none=>rw[q2]at h4;exact bZ h4
   |some z =>
    let⟨y,n,l⟩:=z;rw[q2]at h4;simp only[cg]at h4;let⟨⟨⟨h5,h6⟩,h7⟩,h8⟩:=h4;have e6:=beq_iff_eq.mp h6;subst e6;let⟨ap,cp,rfl,rfl⟩:=Dy q2;let⟨g1,g2,g3,g4,g5⟩:=OV Q h3 (beq_iff_eq.mp h2);exact aID (Q.cm h1) (nR Q c y h8) g1 g2 g3 g4 g5 (nH h7) h5
 |.AQ k c,e,h=>by
  have jz:=iy h;let⟨f,as,ks,p,rfl⟩:=oU (ix h);let⟨x,q,rfl⟩:=mL jz
  match as,ks,h with
  |[],_,h=>exact bZ h
  |_::_::_,_,h=>exact bZ h
  |[_],_::_,h=>exact bZ h
  |[w],[],h =>
   have h':(S.calm&&S.gv[k]?==aj ak&&AN S k x "sum"&&(match vM w with
    |some (y,n,l)=>l&&n==("values":Str)&&cH y&&kE S c y
    |none=>ao))=ak:=h
   simp only[cg]at h';let⟨⟨⟨h1,h2⟩,h3⟩,h4⟩:=h';cases q2:vM w with
   |none=>rw[q2]at h4;exact bZ h4
   |some z =>
    let⟨y,n,l⟩:=z;rw[q2]at h4;simp only[cg]at h4;let⟨⟨⟨h5,h6⟩,h7⟩,h8⟩:=h4;have e6:=beq_iff_eq.mp h6;subst e6;let⟨ap,cp,rfl,rfl⟩:=Dy q2;let⟨g1,g2,g3,g4,g5⟩:=OV Q h3 (beq_iff_eq.mp h2);exact aP0 (Q.cm h1) (nR Q c y h8) g1 g2 g3 g4 g5 (nH h7) h5
theorem sQ{X:Cx}{S:SI}{ex:aN->aV}(Q:uP X S ex):∀(c:fk)(es:List je),zQ S c es=ak->eM X es (mA S.gl X.K ex c)
 |.nil,es,h=>by
  cases es with
  |nil=>exact LP
  |cons _ _=>exact bZ h
 |.cons c r,es,h=>by
  cases es with
  |nil=>exact bZ h
  |cons x xs =>
   have h7:(!isStar x&&kE S c x&&zQ S r xs)=ak:=h;simp only[cg,iw]at h7;exact yY (nR Q c x h7.1.2) (sQ Q r xs h7.2) (bR h7.1.1)
theorem SW{X:Cx}{S:SI}{ex:aN->aV}(Q:uP X S ex):∀(c:fk)(es:List je)(p:Pos),zQ S c es=ak->dJ X (.BoolOp .And es p) (K0 S.gl X.K ex c)
 |.nil,es,p,h=>TJ
 |.cons c .nil,es,p,h=>by
  match es,h with
  |[],h=>exact bZ h
  |[x],h =>
   have h7:(!isStar x&&kE S c x&&zQ S .nil [])=ak:=h;simp only[cg,iw]at h7;exact S5 (nR Q c x h7.1.2)
  |x::y::ys,h =>
   have h7:(!isStar x&&kE S c x&&zQ S .nil (y::ys))=ak:=h;simp only[cg,iw]at h7;exact bZ h7.2
 |.cons c (.cons c' r),es,p,h=>by
  match es,h with
  |[],h=>exact bZ h
  |[x],h =>
   have h7:(!isStar x&&kE S c x&&zQ S (.cons c' r) [])=ak:=h;simp only[cg,iw]at h7;exact bZ h7.2
  |x::y::ys,h =>
   have h7:(!isStar x&&kE S c x&&zQ S (.cons c' r) (y::ys))=ak:=h;simp only[cg,iw]at h7;exact aTG (nR Q c x h7.1.2) (SW Q (.cons c' r) (y::ys) p h7.2)
theorem aYZ{X:Cx}{S:SI}{ex:aN->aV}(Q:uP X S ex):∀(c:fk)(es:List je)(p:Pos),zQ S c es=ak->dJ X (.BoolOp .Or es p) (NL S.gl X.K ex c)
 |.nil,es,p,h=>TJ
 |.cons c .nil,es,p,h=>by
  match es,h with
  |[],h=>exact bZ h
  |[x],h =>
   have h7:(!isStar x&&kE S c x&&zQ S .nil [])=ak:=h;simp only[cg,iw]at h7;exact S5 (nR Q c x h7.1.2)
  |x::y::ys,h =>
   have h7:(!isStar x&&kE S c x&&zQ S .nil (y::ys))=ak:=h;simp only[cg,iw]at h7;exact bZ h7.2
 |.cons c (.cons c' r),es,p,h=>by
  match es,h with
  |[],h=>exact bZ h
  |[x],h =>
   have h7:(!isStar x&&kE S c x&&zQ S (.cons c' r) [])=ak:=h;simp only[cg,iw]at h7;exact bZ h7.2
  |x::y::ys,h =>
   have h7:(!isStar x&&kE S c x&&zQ S (.cons c' r) (y::ys))=ak:=h;simp only[cg,iw]at h7;exact aXS (nR Q c x h7.1.2) (aYZ Q (.cons c' r) (y::ys) p h7.2)
theorem sP{X:Cx}{S:SI}{ex:aN->aV}(Q:uP X S ex):∀(c:CT)(e:je),kT S c e=ak->ku X e (mT S.gl X.K ex c)
 |.cmp o a b,e,h=>by
  cases e with
  |Compare x ops ys p =>
   match ops,ys,h with
   |[o'],[y],h =>
    have h':(o==o'&&!behindInMarks o' y&&kE S a x&&kE S b y)=ak:=h;simp only[cg,iw]at h';have:=beq_iff_eq.mp h'.1.1.1;subst this;exact S7 (Bo Q.hu) (nR Q a x h'.1.2) (nR Q b y h'.2) h'.1.1.2
   |[],_,h=>exact bZ h
   |_::_::_,_,h=>exact bZ h
   |[_],[],h=>exact bZ h
   |[_],_::_::_,h=>exact bZ h
  |_=>exact bZ h
 |.chain o o' a b c,e,h=>by
  cases e with
  |Compare x ops ys p =>
   match ops,ys,h with
   |[p1,p2],[y,z],h =>
    have h':(o==p1&&o'==p2&&!lastMarks [p1,p2] [y,z]&&kE S a x&&kE S b y&&kE S c z)=ak:=h;simp only[cg,iw]at h';have e1:=beq_iff_eq.mp h'.1.1.1.1.1;have e2:=beq_iff_eq.mp h'.1.1.1.1.2;subst e1;subst e2;exact aHC (Bo Q.hu) (Bo Q.hu) (nR Q a x h'.1.1.2) (nR Q b y h'.1.2) (nR Q c z h'.2) h'.1.1.1.2
   |[],_,h=>exact bZ h
   |[_],_,h=>exact bZ h
   |_::_::_::_,_,h=>exact bZ h
   |[_,_],[],h=>exact bZ h
   |[_,_],[_],h=>exact bZ h
   |[_,_],_::_::_::_,h=>exact bZ h
  |_=>exact bZ h
 |.not t,e,h=>by
  cases e with
  |UnaryOp op x p =>
   cases op with
   |Not=>exact aTF (sP Q t x h)
   |_=>exact bZ h
  |_=>exact bZ h
 |.and ts,e,h=>by
  cases e with
  |BoolOp op xs p =>
   cases op with
   |And=>exact PW.pt (TC Q ts xs p h)
   |Or=>exact bZ h
  |_=>exact bZ h
 |.or ts,e,h=>by
  cases e with
  |BoolOp op xs p =>
   cases op with
   |Or=>exact PW.pt (SV Q ts xs p h)
   |And=>exact bZ h
  |_=>exact bZ h
 |.qS neg a b,e,h=>by
  cases e with
  |Compare x ops ys p =>
   match ops,ys,h with
   |[o'],[y],h =>
    have h':(o'==(if neg then CmpOp.NotIn else CmpOp.In)&&!behindInMarks o' y&&kE S a x&&kE S b y)=ak:=h;simp only[cg,iw]at h';exact S7 (TF Q.hu h'.1.1.1) (nR Q a x h'.1.2) (nR Q b y h'.2) h'.1.1.2
   |[],_,h=>exact bZ h
   |_::_::_,_,h=>exact bZ h
   |[_],[],h=>exact bZ h
   |[_],_::_::_,h=>exact bZ h
  |_=>exact bZ h
 |.val c,e,h=>by
  have h':(plainT e&&kE S c e)=ak:=h;rw[cg]at h';exact aTB (nR Q c e h'.2) (aPG h'.1)
theorem TC{X:Cx}{S:SI}{ex:aN->aV}(Q:uP X S ex):∀(c:w8)(es:List je)(p:Pos),jv S c es=ak->wy X (.BoolOp .And es p) (LG S.gl X.K ex c)
 |.nil,es,p,h=>λ_ _ _ _ _ _ _ ⟨_,_,_,_,_,z,_⟩=>z.elim
 |.cons c .nil,es,p,h=>by
  match es,h with
  |[],h=>exact bZ h
  |[x],h =>
   have h7:(kT S c x&&jv S .nil [])=ak:=h;simp only[cg]at h7;exact aNG (sP Q c x h7.1)
  |x::y::ys,h =>
   have h7:(kT S c x&&jv S .nil (y::ys))=ak:=h;simp only[cg]at h7;exact bZ h7.2
 |.cons c (.cons c' r),es,p,h=>by
  match es,h with
  |[],h=>exact bZ h
  |[x],h =>
   have h7:(kT S c x&&jv S (.cons c' r) [])=ak:=h;simp only[cg]at h7;exact bZ h7.2
  |x::y::ys,h =>
   have h7:(kT S c x&&jv S (.cons c' r) (y::ys))=ak:=h;simp only[cg]at h7;exact aTE (sP Q c x h7.1) (TC Q (.cons c' r) (y::ys) p h7.2)
theorem SV{X:Cx}{S:SI}{ex:aN->aV}(Q:uP X S ex):∀(c:w8)(es:List je)(p:Pos),jv S c es=ak->wy X (.BoolOp .Or es p) (KZ S.gl X.K ex c)
 |.nil,es,p,h=>λ_ _ _ _ _ _ _ ⟨_,_,_,_,_,z,_⟩=>z.elim
 |.cons c .nil,es,p,h=>by
  match es,h with
  |[],h=>exact bZ h
  |[x],h =>
   have h7:(kT S c x&&jv S .nil [])=ak:=h;simp only[cg]at h7;exact aTD (sP Q c x h7.1)
  |x::y::ys,h =>
   have h7:(kT S c x&&jv S .nil (y::ys))=ak:=h;simp only[cg]at h7;exact bZ h7.2
 |.cons c (.cons c' r),es,p,h=>by
  match es,h with
  |[],h=>exact bZ h
  |[x],h =>
   have h7:(kT S c x&&jv S (.cons c' r) [])=ak:=h;simp only[cg]at h7;exact bZ h7.2
  |x::y::ys,h =>
   have h7:(kT S c x&&jv S (.cons c' r) (y::ys))=ak:=h;simp only[cg]at h7;exact aXR (sP Q c x h7.1) (SV Q (.cons c' r) (y::ys) p h7.2)
theorem NB{X:Cx}{S:SI}{ex:aN->aV}(Q:uP X S ex):∀(c:CO)(e:Option je),kO S c e=ak->DS X e (mO S.gl X.K ex c)
 |.none,e,h=>by
  cases e with
  |none=>exact aNJ
  |some _=>exact bZ h
 |.some c,e,h=>by
  cases e with
  |none=>exact bZ h
  |some x=>exact aNK (nR Q c x h)
theorem Ws{X:Cx}{S:SI}{ex:aN->aV}(Q:uP X S ex){tg:je}{tt:Bool}(Cc:tt=ak->X.calm=ak/\∃es kt pt,tg=.Tuple es kt pt):∀(c:CI)(e:je),kI S tt c e=ak->BM X tg e (mI S.gl X.K ex c)
 |.any c,e,h=>aU7 (nR Q c e h)
 |.t7 c,e,h=>by
  cases e with
  |Call f as ks p =>
   cases f with
   |Name r q =>
    cases as with
    |nil=>exact bZ h
    |cons y yr =>
     cases yr with
     |cons _ _=>exact bZ h
     |nil =>
      cases ks with
      |cons _ _=>exact bZ h
      |nil =>
       have h':(r==("range":Str)&&Dh S&&!isStar y&&kE S c y)=ak:=h;simp only[cg,iw]at h';let⟨⟨⟨h1,h2⟩,h3⟩,h4⟩:=h';have:=beq_iff_eq.mp h1;subst this;let⟨g1,g2⟩:=P4 Q h2;exact aO9 g1 g2 (yY (nR Q c y h4) LP (bR h3)) (bR h3)
   |_=>exact bZ h
  |_=>exact bZ h
 |.items c,e,h=>by
  have h':(tt&&(match vM e with
   |some (y,n,l)=>l&&n==("items":Str)&&cH y&&kE S c y
   |none=>ao))=ak:=h
  rw[cg]at h';let⟨h0,h4⟩:=h';cases q2:vM e with
  |none=>rw[q2]at h4;exact bZ h4
  |some z =>
   let⟨y,n,l⟩:=z;rw[q2]at h4;simp only[cg]at h4;let⟨⟨⟨h5,h6⟩,h7⟩,h8⟩:=h4;have e6:=beq_iff_eq.mp h6;subst e6;let⟨ap,cp,rfl,rfl⟩:=Dy q2;let⟨hc,es,kt,pt,rfl⟩:=Cc h0;exact aCQ hc (nR Q c y h8) (nH h7) h5
theorem Wt{X:Cx}{S:SI}(Q:uP X S lh):∀(c:CC)(es:List je),kC S c es=ak->C8 X es (mC S.gl X.K c)
 |.none,es,h=>by
  cases es with
  |nil=>exact aHP
  |cons _ _=>exact bZ h
 |.some t,es,h=>by
  match es,h with
  |[],h=>exact bZ h
  |[x],h=>exact aHQ (sP Q t x h)
  |_::_::_,h=>exact bZ h
end
end L4
namespace L4
open PySem PySem.Spec PyProof.Rows L2
inductive BP where
 |nm (i:Nat)|tup (is:List Nat)
mutual
inductive CS where
 |ret (e:CE)|expr (e:CE)|ifs (t:CT) (a b:CB)|set (i:Nat) (e:CE)
 |raise (k:Nat) (e:CE) (es:fk)|AM (k i:Nat) (b h:CB)|AL (b:CB) (hs:CH)|pass|cont
 |oS (ci:CI) (tg:BP) (b:CB)|AK (ci:CI) (tg:BP) (b:CB)
 |F4 (t:CT) (b:CB)|iO (k:Nat) (o e:CE)|xS (o i e:CE)
inductive CB where
 |nil|cons (s:CS) (r:CB)
inductive CH where
 |nil
 |cons (k:Nat) (b:CB) (r:CH)
end
abbrev LB:bB:=λ_ _ _=>False
@[simp]def SI.Ck(S:SI):SI:={S with calm:=false}
abbrev NM(T:List (Str×GT))(K:Fg)(ex:aN->aV):CI->ez
 |.any e=>x5 (mE T K ex e)
 |.t7 e=>yB (aA (mE T K ex e) aF)
 |.items e=>mK ak (mE T K ex e)
abbrev NN(T:List (Str×GT))(K:Fg)(ex:aN->aV):CI->ez
 |.items e=>mK ao (mE T K ex e)
 |_=>λ_ _ _=>False
abbrev mG:BP->i0
 |.nm i=>sA i
 |.tup is=>A5 is
abbrev F3(T:List (Str×GT))(ex:aN->aV)(k:Nat)(t:bo):bB:=match T[k]? with
 |some (_,.cls a)=>iK ex a t
 |_=>LB
abbrev F2(T:List (Str×GT))(K:Fg)(k i:Nat)(tb:(aN->aV)->bB)(th:bB):bB:=match T[k]? with
 |some (_,.cls a)=>CD K a i tb th
 |_=>LB
abbrev KW(T:List (Str×GT))(k:Nat)(to te:d7):bB:=match T[k]? with
 |some (_,.fl C f)=>tO C to te f
 |_=>LB
abbrev KU(T:List (Str×GT))(k:Nat):bx:=match T[k]? with
 |some (_,.cls a)=>a
 |_=>0
abbrev uB(S:SI)(k:Nat)(x:Str):Bool:=match S.gl[k]? with
 |some (z,.cls _)=>z==x
 |_=>ao
mutual
noncomputable def mS(T:List (Str×GT))(K:Fg)(ex:aN->aV):CS->bB
 |.ret e=>cA (mE T K ex e)
 |.expr e=>aX (mE T K ex e)
 |.ifs t a b=>cV (mT T K ex t) (mB T K ex a) (mB T K ex b)
 |.set i e=>cT i (mE T K ex e)
 |.raise k e es=>F3 T ex k (aA (mE T K ex e) (mA T K ex es))
 |.AM k i b h=>F2 T K k i (λfI=>mB T K fI b) (mB T K lh h)
 |.AL b hs=>Cw K (λfI=>mB T K fI b) (mH T K hs)
 |.oS ci tg b=>sv (NM T K ex ci) (mG tg) (mB T K ex b)
 |.AK ci tg b=>Dj (NN T K ex ci) (mG tg) (mB T K ex b)
 |.F4 t b=>JA (mT T K ex t) (mB T K ex b)
 |.iO k o e=>KW T k (mE T K ex o) (mE T K ex e)
 |.xS o i e=>CQ (mE T K ex o) (mE T K ex i) (mE T K ex e)
 |.pass=>bT
 |.cont=>vE
noncomputable def mB(T:List (Str×GT))(K:Fg)(ex:aN->aV):CB->bB
 |.nil=>bT
 |.cons s .nil=>mS T K ex s
 |.cons s (.cons s' r)=>aK (mS T K ex s) (mB T K ex (.cons s' r))
noncomputable def mH(T:List (Str×GT))(K:Fg):CH->List (bx×bB)
 |.nil=>[]
 |.cons k b r=>(KU T k,mB T K lh b)::mH T K r
end
abbrev isTup:je->Bool
 |.Tuple ..=>ak
 |_=>ao
abbrev sg:je->Bool
 |.ListComp ..=>ak
 |.SetComp ..=>ak
 |.DictComp ..=>ak
 |_=>ao
abbrev xi(S:SI):BP->je->Bool
 |.nm i,.Name x _=>S.N[i]?==aj x&&S.fl[i]?==aj ak
 |.tup is,.Tuple es _ _=>EB S is es
 |_,_=>ao
where
 EB (S:SI):List Nat->List je->Bool
 |[],[]=>ak
 |i::is,.Name x _::es=>S.N[i]?==aj x&&S.fl[i]?==aj ak&&EB S is es
 |_,_=>ao
abbrev C4(S:SI):BP->Bool
 |.nm _=>ak
 |.tup _=>S.calm
abbrev cx(k:Nat)(z:je):Nat:=if z.ctorIdx=k then s1 z else 99
abbrev tq:List ExceptHandler->Nat
 |.ExceptHandler (aj c) _ _ _::_=>c.ctorIdx
 |_=>99
abbrev t1:jo->Nat
 |.Assign (t::_) _ _=>t.ctorIdx
 |.Raise (aj a) _ _=>cx 16 a
 |.Try _ h _ _ _=>tq h
 |_=>99
abbrev t2:CS->jo->Bool
 |_,_=>ak
abbrev EE:CS->Nat
 |.ret _=>3
 |.expr _=>24
 |.ifs _ _ _=>12
 |.set _ _=>5
 |.raise _ _ _=>16
 |.AM _ _ _ _=>17
 |.AL _ _=>17
 |.iO _ _ _=>5
 |.xS _ _ _=>5
 |.oS _ _ _=>9
 |.AK _ _ _=>9
 |.pass=>25
 |_=>99
abbrev ED:CS->Nat
 |.set _ _=>23
 |.raise _ _ _=>23
 |.AM _ _ _ _=>23
 |.AL _ _=>23
 |.iO _ _ _=>20
 |.xS _ _ _=>21
 |_=>99
abbrev cq(c:CS)(e:jo):Bool:=(EE c==99||e.ctorIdx==EE c)&&(ED c==99||t1 e==ED c)&&t2 c e
mutual
noncomputable def j0(S:SI)(lv:Nat):CS->jo->Bool
 |.ret e,.Return (aj x) _=>kE S e x
 |.expr e,.Expr x _=>!sg x&&kE S e x
 |.ifs t a b,.If x y z _=>kT S t x&&kB S lv a y&&kB S lv b z
 |.set i e,.Assign [.Name x _] y _=>S.N[i]?==aj x&&S.fl[i]?==aj ak&&!sg y&&kE S e y
 |.raise k e es,.Raise (aj (.Call (.Name x _) (y::ys) [] _)) au _=>lv==0&&S.calm&&!isStar y&&kE S e y&&zQ S es ys&&S.gv[k]?==aj ak&&uB S k x
 |.AM k i b h,.Try y [.ExceptHandler (aj (.Name x _)) (aj n) (z::zs) _] [] [] _=>lv==0&&S.calm&&S.N[i]?==aj n&&S.lc[i]?==aj ak&&kB S 1 b y&&kB S.Ck 2 h (z::zs)&&S.gv[k]?==aj ak&&uB S k x
 |.AL b hs,.Try y (z::zs) [] [] _=>lv==0&&S.calm&&kB S 1 b y&&kH S hs (z::zs)
 |.iO k o e,.Assign [.Attribute x n _] z _=>AO S k n&&!sg z&&kE S o x&&kE S e z
 |.xS o i e,.Assign [.Subscript x y _] z _=>!isSlice y&&!sg z&&kE S o x&&kE S i y&&kE S e z
 |.F4 t b,.While x y [] _=>lv !=1&&kT S t x&&kB S lv b y
 |.oS ci tg b,.For cE iter body [] _=>lv !=1&&C4 S tg&&!isSet iter&&xi S tg cE&&kI S (isTup cE&&S.calm) ci iter&&kB S lv b body
 |.AK ci tg b,.For cE iter body [] _=>lv !=1&&C4 S tg&&!isSet iter&&xi S tg cE&&kI S (isTup cE&&S.calm) ci iter&&kB S lv b body
 |.pass,.Pass _=>ak
 |.cont,.Continue _=>ak
 |_,_=>ao
noncomputable def kB(S:SI)(lv:Nat):CB->List jo->Bool
 |.nil,[]=>ak
 |.cons s r,x::xs=>(cq s x&&j0 S lv s x)&&kB S lv r xs
 |_,_=>ao
noncomputable def kH(S:SI):CH->List ExceptHandler->Bool
 |.nil,[]=>ak
 |.cons k b r,.ExceptHandler (aj (.Name x _)) au (z::zs) _::hs=>kB S.Ck 2 b (z::zs)&&S.gv[k]?==aj ak&&uB S k x&&kH S r hs
 |_,_=>ao
end
abbrev kS(S:SI)(lv:Nat)(c:CS)(st:jo):Bool:=cq c st&&j0 S lv c st
structure kR(X:Cx)(S:SI)(ex:aN->aV)(lv:Nat):Prop where
 si:uP X S ex
 loc:∀(i:Nat)(x:Str),S.N[i]?=aj x->S.fl[i]?=aj ak->Loc X.env.scope x
 B7:∀(i:Nat)(x:Str),S.N[i]?=aj x->S.lc[i]?=aj ak->X.env.kindOf x=aj .local
 fn:∀x,X.fn x=ak
 cls:∀(k:Nat)(x:Str)(a:bx),S.gl[k]?=aj (x,.cls a)->S.gv[k]?=aj ak->zc X.K a HC "ValueError.__new__"=ak/\(vo X.K a).isSome=ak/\we X.K (.ref a)=aj (.type "type")/\qe X.K (.ref a) (.type "BaseException")=aj ak
 l0:lv≠1->vS (dz X.prog X.w) X.A X.env X.xe
 rz:lv=0->S.calm=ak->MZ X ex
 iE:X.stack=X.env::X.outer
 AG:X.env.frame=aj X.env.locals
def Fe{t:Option je}{n:Nat}{env:Env}(h:sg e=ao):rS e t n env=pure ao:=by
 cases e<;>first|rfl|exact absurd (show ak=ao from h) (by decide)
variable{S:SI}{ex:aN->aV}{lv:Nat}
def kR.tr(Q:kR X S ex lv)(pn:List (bx×Obj))(EX:aN->aV):kR (C9 X pn EX) S EX 1 where
 si:=⟨Q.si.N,Q.si.nd,Q.si.Am,Q.si.ce,λk x g h=>by
  let⟨h1,h2,h3,h4⟩:=Q.si.gm k x g h;refine⟨h1,h2,h3,?_⟩;cases g<;>exact h4,Q.si.hu,Q.si.cm,aY3 pn EX⟩
 loc:=Q.loc
 B7:=Q.B7
 fn:=Q.fn
 cls:=Q.cls
 l0:=λz=>absurd rfl z
 rz:=λz=>absurd z (by decide)
 iE:=Q.iE
 AG:=Q.AG
def kR.ha(Q:kR X S ex lv)(x:bx):kR (ub X x) S.Ck lh 2 where
 si:=⟨Q.si.N,Q.si.nd,Q.si.Am,Q.si.ce,λk y g h=>by
  let⟨h1,h2,h3,h4⟩:=Q.si.gm k y g h;refine⟨h1,h2,h3,?_⟩;cases g with
  |fn sp n qt =>
   intro z;have hq:qt=ak:=z.resolve_right (show ¬ (ao=ak) by decide);subst hq;let⟨k,f,fd,ps,F,hr,r⟩:=h4 (.inl rfl);exact⟨k,f,fd,ps,F,⟨(λz=>nomatch z),hr.dp,hr.un⟩,r⟩
  |kl C sp dd=>exact λz=>nomatch z
  |me C m sp dd=>exact λz=>nomatch z
  |_=>exact h4,Q.si.hu,λz=>absurd (show ao=ak from z) (by decide),TH⟩
 loc:=Q.loc
 B7:=Q.B7
 fn:=Q.fn
 cls:=Q.cls
 l0:=λ_=>vS.never
 rz:=λz=>absurd z (by decide)
 iE:=Q.iE
 AG:=Q.AG
variable{x:Str}
private theorem Kg{k:Nat}(h:uB S k x=ak):∃a,S.gl[k]?=aj (x,.cls a):=by
 unfold uB at h;split at h
 .rename_i z a hg;have:=beq_iff_eq.mp h;subst this;exact⟨a,hg⟩
 .exact bZ h
def aIW{k:Nat}{t:bo}(h:T[k]?=aj (x,.cls a)):F3 T ex k t=iK ex a t:=by unfold F3;rw[h]
def aIX{K:Fg}{k i:Nat}{th:bB}(h:T[k]?=aj (x,.cls a)):F2 T K k i tb th=CD K a i tb th:=by unfold F2;rw[h]
def aD7{X:Cx}(Q:kR X S ex lv){k:Nat}{cp pos:Pos}(h:kS S lv (.raise k e es) (.Raise (aj (.Call (.Name x np) (y::ys) [] cp)) au pos)=ak) :
  eL X (.Raise (aj (.Call (.Name x np) (y::ys) [] cp)) au pos) (F3 S.gl ex k (aA (mE S.gl X.K ex e) (mA S.gl X.K ex es))):=by
 have h':(lv==0&&S.calm&&!isStar y&&kE S e y&&zQ S es ys&&S.gv[k]?==aj ak&&uB S k x)=ak:=h;simp only[cg,iw]at h';let⟨⟨⟨⟨⟨⟨h0,ef⟩,h1⟩,h2⟩,h3⟩,hv⟩,h⟩:=h';have hv:=beq_iff_eq.mp hv;let⟨a,hg⟩:=Kg h;rw[aIW hg];have l1:=Q.si.cm ef;have l2:=Q.rz (beq_iff_eq.mp h0) ef;let⟨g1,g2,g3,g4,g5⟩:=Q.si.gl _ _ _ hg hv;exact aHH l1 PySem.F.excBase_ValueError (by decide) PySem.F.excBase_ValueError g1 g4 (Q.cls _ _ _ hg hv).1 l2 (yY (nR Q.si e y h2) (sQ Q.si es ys h3) (bR h1)) g2 (bR h1) (vN h3)
def TB{S:SI}{ex:aN->aV}{lv:Nat}(Q:kR X S ex lv):∀{is:List Nat}{es:List je},xi.EB S is es=ak->dP (La X) es is
 |[],[],_=>.nil
 |[],_::_,h=>by exact bZ h
 |_::_,[],h=>by exact bZ h
 |i::is,e::es,h=>by
  cases e with
  |Name x p =>
   have h':(S.N[i]?==aj x&&S.fl[i]?==aj ak&&xi.EB S is es)=ak:=h;simp only[cg]at h';have e1:=beq_iff_eq.mp h'.1.1;exact .cons ⟨x,p,rfl,by rw[Q.si.N];exact e1,Q.loc i x e1 (beq_iff_eq.mp h'.1.2),.inl (Q.fn x)⟩ (TB Q h'.2)
  |_=>exact bZ h
def SU(Q:kR X S ex lv):∀{c:BP}{e:je},C4 S c=ak->xi S c e=ak->DU X e (mG c)
 |.nm i,e,_,h=>by
  cases e with
  |Name x p =>
   have h':(S.N[i]?==aj x&&S.fl[i]?==aj ak)=ak:=h;simp only[cg]at h';have e1:=beq_iff_eq.mp h'.1;exact aOF Q.si.nd (by rw[Q.si.N];exact e1) (Q.loc i x e1 (beq_iff_eq.mp h'.2)) (.inl (Q.fn x))
  |_=>exact bZ h
 |.tup is,e,hc,h=>by
  cases e with
  |Tuple es k p=>exact aUD Q.si.nd (Q.si.cm hc) (TB Q h)
  |_=>exact bZ h
variable{tt:Bool}
def aZ0{X:Cx}(Q:uP X S ex)(Cc:tt=ak->X.calm=ak/\∃es kt pt,tg=.Tuple es kt pt):∀(c:CI)(e:je),kI S tt c e=ak->BL X tg e (NM S.gl X.K ex c)
 |.any c,e,h=>aOI (nR Q c e h)
 |.t7 c,e,h=>by
  cases e with
  |Call f as ks p =>
   cases f with
   |Name r q =>
    cases as with
    |nil=>exact bZ h
    |cons y yr =>
     cases yr with
     |cons _ _=>exact bZ h
     |nil =>
      cases ks with
      |cons _ _=>exact bZ h
      |nil =>
       have h':(r==("range":Str)&&Dh S&&!isStar y&&kE S c y)=ak:=h;simp only[cg,iw]at h';let⟨⟨⟨h1,h2⟩,h3⟩,h4⟩:=h';have:=beq_iff_eq.mp h1;subst this;let⟨g1,g2⟩:=P4 Q h2;exact aHT g1 g2 (yY (nR Q c y h4) LP (bR h3)) (bR h3)
   |_=>exact bZ h
  |_=>exact bZ h
 |.items c,e,h=>by
  have h':(tt&&(match vM e with
   |some (y,n,l)=>l&&n==("items":Str)&&cH y&&kE S c y
   |none=>ao))=ak:=h
  rw[cg]at h';let⟨h0,h4⟩:=h';cases q2:vM e with
  |none=>rw[q2]at h4;exact bZ h4
  |some z =>
   let⟨y,n,l⟩:=z;rw[q2]at h4;simp only[cg]at h4;let⟨⟨⟨h5,h6⟩,h7⟩,h8⟩:=h4;have e6:=beq_iff_eq.mp h6;subst e6;let⟨ap,cp,rfl,rfl⟩:=Dy q2;let⟨hc,es,kt,pt,rfl⟩:=Cc h0;exact QO hc (nR Q c y h8) (nH h7) h5
def Tz:Hv X tg e (λ_ _ _=>False):=λ_ _ _ _ _ _ ⟨_,_,_,_,_,z,_⟩=>z.elim
def aZ1{X:Cx}(Q:uP X S ex)(Cc:tt=ak->X.calm=ak/\∃es kt pt,tg=.Tuple es kt pt):∀(c:CI)(e:je),kI S tt c e=ak->Hv X tg e (NN S.gl X.K ex c)
 |.any c,e,h=>Tz
 |.t7 c,e,h=>Tz
 |.items c,e,h=>by
  have h':(tt&&(match vM e with
   |some (y,n,l)=>l&&n==("items":Str)&&cH y&&kE S c y
   |none=>ao))=ak:=h
  rw[cg]at h';let⟨h0,h4⟩:=h';cases q2:vM e with
  |none=>rw[q2]at h4;exact bZ h4
  |some z =>
   let⟨y,n,l⟩:=z;rw[q2]at h4;simp only[cg]at h4;let⟨⟨⟨h5,h6⟩,h7⟩,h8⟩:=h4;have e6:=beq_iff_eq.mp h6;subst e6;let⟨ap,cp,rfl,rfl⟩:=Dy q2;let⟨hc,es,kt,pt,rfl⟩:=Cc h0;exact X2 hc (nR Q c y h8) (nH h7) h5
def P1(h:isTup e=ak):∃es kt pt,e=.Tuple es kt pt:=by
 cases e<;>first|exact⟨_,_,_,rfl⟩|exact bZ h
variable{c:CS}{r:Bool}
def jx{e:jo}(h:(cq c e&&r)=ak)(z:(EE c==99)=ao:=by rfl):e.ctorIdx=EE c:=by
 unfold cq at h;rw[z,DD]at h;simp only[cg]at h;exact beq_iff_eq.mp h.1.1.1
def jy(h:(cq c e&&r)=ak)(z:(ED c==99)=ao:=by rfl):t1 e=ED c:=by
 unfold cq at h;rw[z,DD]at h;simp only[cg]at h;exact beq_iff_eq.mp h.1.1.2
def aUZ{k:Nat}{z:je}(h:cx k z=23):z.ctorIdx=k/\s1 z=23:=by
 unfold cx at h;by_cases q:z.ctorIdx=k
 .rw[if_pos q]at h;exact⟨q,h⟩
 .rw[if_neg q]at h;cases h
def Zs{e:jo}(h:e.ctorIdx=3):∃x p,e=.Return x p:=Stmt.Return.elim (motive_2:=(∃x p,· =.Return x p)) e h λ_ _=>⟨_,_,rfl⟩
def Ml{e:jo}(h:e.ctorIdx=5):∃l y p,e=.Assign l y p:=Stmt.Assign.elim (motive_2:=(∃l y p,· =.Assign l y p)) e h λ_ _ _=>⟨_,_,_,rfl⟩
def OU{e:jo}(h:e.ctorIdx=9):∃t i b l p,e=.For t i b l p:=Stmt.For.elim (motive_2:=(∃t i b l p,· =.For t i b l p)) e h λ_ _ _ _ _=>⟨_,_,_,_,_,rfl⟩
def aPL{e:jo}(h:e.ctorIdx=12):∃x y z p,e=.If x y z p:=Stmt.If.elim (motive_2:=(∃x y z p,· =.If x y z p)) e h λ_ _ _ _=>⟨_,_,_,_,rfl⟩
def X0{e:jo}(h:e.ctorIdx=16):∃x y p,e=.Raise x y p:=Stmt.Raise.elim (motive_2:=(∃x y p,· =.Raise x y p)) e h λ_ _ _=>⟨_,_,_,rfl⟩
def OT{e:jo}(h:e.ctorIdx=17):∃y h l f p,e=.Try y h l f p:=Stmt.Try.elim (motive_2:=(∃y h l f p,· =.Try y h l f p)) e h λ_ _ _ _ _=>⟨_,_,_,_,_,rfl⟩
def aDA{e:jo}(h:e.ctorIdx=24):∃x p,e=.Expr x p:=Stmt.Expr.elim (motive_2:=(∃x p,· =.Expr x p)) e h λ_ _=>⟨_,_,rfl⟩
def aDB{e:jo}(h:e.ctorIdx=25):∃p,e=.Pass p:=Stmt.Pass.elim (motive_2:=(∃p,· =.Pass p)) e h λ_=>⟨_,rfl⟩
mutual
theorem NA:∀(c:CS){X:Cx}{S:SI}{ex:aN->aV}{lv:Nat},kR X S ex lv->∀(st:jo),kS S lv c st=ak->eL X st (mS S.gl X.K ex c)
 |.ret e,X,S,ex,lv,Q,st,h=>by
  let⟨v,p,rfl⟩:=Zs (jx h);cases v with
  |some x=>exact aTS (nR Q.si e x h)
  |none=>exact bZ h
 |.expr e,X,S,ex,lv,Q,st,h=>by
  let⟨x,p,rfl⟩:=aDA (jx h);have h':(!sg x&&kE S e x)=ak:=h;simp only[cg,iw]at h';exact aNO (nR Q.si e x h'.2) (Fe h'.1)
 |.ifs t a b,X,S,ex,lv,Q,st,h=>by
  let⟨x,y,z,p,rfl⟩:=aPL (jx h);have h':(kT S t x&&kB S lv a y&&kB S lv b z)=ak:=h;simp only[cg]at h';exact aXY (sP Q.si t x h'.1.1) (lS a Q y h'.1.2) (lS b Q z h'.2)
 |.set i e,X,S,ex,lv,Q,st,h=>by
  have jz:=jy h;let⟨ts,y,p,rfl⟩:=Ml (jx h);cases ts with
  |nil=>exact bZ h
  |cons t r =>
   let⟨x,q,rfl⟩:=mL jz;cases r with
   |cons _ _=>exact bZ h
   |nil =>
    have h':(S.N[i]?==aj x&&S.fl[i]?==aj ak&&!sg y&&kE S e y)=ak:=h;simp only[cg,iw]at h';have e1:=beq_iff_eq.mp h'.1.1.1;exact aTT (i:=i) Q.si.nd (by rw[Q.si.N];exact e1) (Q.loc i x e1 (beq_iff_eq.mp h'.1.1.2)) (nR Q.si e y h'.2) (Fe h'.1.2) (.inl (Q.fn x))
 |.iO k o e,X,S,ex,lv,Q,st,h=>by
  have jz:=jy h;let⟨ts,z,p,rfl⟩:=Ml (jx h);cases ts with
  |nil=>exact bZ h
  |cons t r =>
   let⟨x,n,q,rfl⟩:=fY jz;cases r with
   |cons _ _=>exact bZ h
   |nil =>
    have h':(AO S k n&&!sg z&&kE S o x&&kE S e z)=ak:=h;simp only[cg,iw]at h';let⟨y,C,hg⟩:=OW h'.1.1.1;let⟨_,_,_,g⟩:=Q.si.gm _ _ _ hg;show eL X _ (KW S.gl k _ _);unfold KW;rw[hg];exact aOO (nR Q.si o x h'.1.2) (nR Q.si e z h'.2) g.1 g.2 (Fe h'.1.1.2)
 |.xS o i e,X,S,ex,lv,Q,st,h=>by
  have jz:=jy h;let⟨ts,z,p,rfl⟩:=Ml (jx h);cases ts with
  |nil=>exact bZ h
  |cons t r =>
   let⟨x,y,q,rfl⟩:=rD jz;cases r with
   |cons _ _=>exact bZ h
   |nil =>
    have h':(!isSlice y&&!sg z&&kE S o x&&kE S i y&&kE S e z)=ak:=h;simp only[cg,iw]at h';exact aOQ Q.si.hu (nR Q.si o x h'.1.1.2) (nR Q.si i y h'.1.2) (nR Q.si e z h'.2) (Fe h'.1.1.1.2)
 |.raise k e es,X,S,ex,lv,Q,st,h=>by
  have jz:=jy h;let⟨a,b,p,rfl⟩:=X0 (jx h);cases a with
  |none=>exact bZ h
  |some a =>
   let⟨q1,q2⟩:=aUZ jz;let⟨f,as,ks,q,rfl⟩:=oU q1;let⟨x,np,rfl⟩:=mL q2;cases as with
   |nil=>exact bZ h
   |cons y ys =>
    cases ks with
    |cons _ _=>exact bZ h
    |nil =>
     cases b with
     |some _=>exact bZ h
     |none=>exact aD7 Q h
 |.AM k i b hb,X,S,ex,lv,Q,st,h=>by
  have jz:=jy h;let⟨y,hs,el,fin,p,rfl⟩:=OT (jx h);cases hs with
  |nil=>exact bZ h
  |cons hd tl =>
   let⟨ty,nm,ba,hp⟩:=hd;cases ty with
   |none=>cases jz
   |some ty =>
    let⟨x,cp,rfl⟩:=mL jz;cases tl with
    |cons _ _=>cases nm<;>cases ba<;>exact bZ h
    |nil =>
     cases nm with
     |none=>exact bZ h
     |some n =>
      cases ba with
      |nil=>exact bZ h
      |cons z zs =>
       cases el with
       |cons _ _=>exact bZ h
       |nil =>
        cases fin with
        |cons _ _=>exact bZ h
        |nil =>
         have h':(lv==0&&S.calm&&S.N[i]?==aj n&&S.lc[i]?==aj ak&&kB S 1 b y&&kB S.Ck 2 hb (z::zs)&&S.gv[k]?==aj ak&&uB S k x)=ak:=h;simp only[cg]at h';let⟨⟨⟨⟨⟨⟨⟨h0,ef⟩,h1⟩,h2⟩,h3⟩,h4⟩,hv⟩,h⟩:=h';have hv:=beq_iff_eq.mp hv;let⟨a,hg⟩:=Kg h;show eL X _ (F2 S.gl X.K k i (λfI=>mB S.gl X.K fI b) (mB S.gl X.K lh hb));rw[aIX hg];have e1:=beq_iff_eq.mp h1;let⟨g1,g2,g3,g4,g5⟩:=Q.si.gl _ _ _ hg hv;let⟨c1,c2,c3,c4⟩:=Q.cls _ _ _ hg hv;exact aTW (i:=i) (Q.si.cm ef) Q.si.nd (by rw[Q.si.N];exact e1) (Q.B7 i n e1 (beq_iff_eq.mp h2)) Q.iE Q.AG g1 g4 c2 c3 c4 (λpn EX=>lS b (Q.tr pn EX) y h3) (λxx=>lS hb (Q.ha xx) (z::zs) h4) g2
 |.AL b hs,X,S,ex,lv,Q,st,h=>by
  have jz:=jy h;let⟨y,hd,el,fin,p,rfl⟩:=OT (jx h);cases hd with
  |nil=>exact bZ h
  |cons z zs =>
   let⟨ty,nm,ba,hp⟩:=z;cases ty with
   |none=>cases jz
   |some ty =>
    let⟨x,cp,rfl⟩:=mL jz;cases el with
    |cons _ _=>exact bZ h
    |nil =>
     cases fin with
     |cons _ _=>exact bZ h
     |nil =>
      have h':(lv==0&&S.calm&&kB S 1 b y&&kH S hs (.ExceptHandler (aj (.Name x cp)) nm ba hp::zs))=ak:=h;simp only[cg]at h';let⟨⟨⟨h0,ef⟩,h3⟩,h4⟩:=h';let⟨l,e1,e2,e3⟩:=NC hs Q (.ExceptHandler (aj (.Name x cp)) nm ba hp::zs) h4;cases l with
      |nil=>cases e1
      |cons a r =>
       show eL X _ (Cw X.K (λfI=>mB S.gl X.K fI b) (mH S.gl X.K hs));rw[e1,e2];exact aP3 (Q.si.cm ef) Q.iE Q.AG e3 λpn EX=>lS b (Q.tr pn EX) y h3
 |.F4 t b,X,S,ex,lv,Q,st,h=>by
  cases st with
  |While x y el p =>
   cases el with
   |cons _ _=>exact bZ h
   |nil =>
    have h':(lv !=1&&kT S t x&&kB S lv b y)=ak:=h;simp only[cg]at h';exact aHU (Q.l0 (bne_iff_ne.mp h'.1.1)) (sP Q.si t x h'.1.2) (lS b Q y h'.2)
  |_=>exact bZ h
 |.oS ci tg b,X,S,ex,lv,Q,st,h=>by
  let⟨cE,it,body,el,p,rfl⟩:=OU (jx h);cases el with
  |cons _ _=>exact bZ h
  |nil =>
   have h':(lv !=1&&C4 S tg&&!isSet it&&xi S tg cE&&kI S (isTup cE&&S.calm) ci it&&kB S lv b body)=ak:=h;simp only[cg,iw]at h';let⟨⟨⟨⟨⟨h1,hg⟩,h2⟩,h3⟩,h4⟩,h5⟩:=h';exact aOJ (Q.l0 (bne_iff_ne.mp h1)) (aZ0 Q.si (λz=>by rw[cg]at z;exact⟨Q.si.cm z.2,P1 z.1⟩) ci it h4) (SU Q hg h3) (lS b Q body h5) (LC h2)
 |.AK ci tg b,X,S,ex,lv,Q,st,h=>by
  let⟨cE,it,body,el,p,rfl⟩:=OU (jx h);cases el with
  |cons _ _=>exact bZ h
  |nil =>
   have h':(lv !=1&&C4 S tg&&!isSet it&&xi S tg cE&&kI S (isTup cE&&S.calm) ci it&&kB S lv b body)=ak:=h;simp only[cg,iw]at h';let⟨⟨⟨⟨⟨h1,hg⟩,h2⟩,h3⟩,h4⟩,h5⟩:=h';exact aIG (Q.l0 (bne_iff_ne.mp h1)) (aZ1 Q.si (λz=>by rw[cg]at z;exact⟨Q.si.cm z.2,P1 z.1⟩) ci it h4) (SU Q hg h3) (lS b Q body h5) (LC h2)
 |.pass,X,S,ex,lv,Q,st,h=>by
  let⟨_,rfl⟩:=aDB (jx h);exact aNN
 |.cont,X,S,ex,lv,Q,st,h=>by
  cases st with
  |Continue _=>exact Zx
  |_=>exact bZ h
theorem lS:∀(c:CB){X:Cx}{S:SI}{ex:aN->aV}{lv:Nat},kR X S ex lv->∀(st:List jo),kB S lv c st=ak->hU X st (mB S.gl X.K ex c)
 |.nil,X,S,ex,lv,Q,st,h=>by
  cases st with
  |nil=>exact aTQ
  |cons _ _=>exact bZ h
 |.cons s .nil,X,S,ex,lv,Q,st,h=>by
  match st,h with
  |[],h=>exact bZ h
  |[x],h =>
   have h':(kS S lv s x&&kB S lv .nil [])=ak:=h;rw[cg]at h';exact aTR (NA s Q x h'.1)
  |x::y::ys,h =>
   have h':(kS S lv s x&&kB S lv .nil (y::ys))=ak:=h;rw[cg]at h';exact bZ h'.2
 |.cons s (.cons s' r),X,S,ex,lv,Q,st,h=>by
  match st,h with
  |[],h=>exact bZ h
  |x::ys,h =>
   have h':(kS S lv s x&&kB S lv (.cons s' r) ys)=ak:=h;rw[cg]at h';exact aNM (NA s Q x h'.1) (lS (.cons s' r) Q ys h'.2)
theorem NC:∀(c:CH){X:Cx}{S:SI}{ex:aN->aV}{lv:Nat},kR X S ex lv->∀(hd:List ExceptHandler),kH S c hd=ak->∃l:List i6,hd=l.map i6.ast/\mH S.gl X.K c=l.map i6.pr/\∀h∈l,K7 X h
 |.nil,X,S,ex,lv,Q,hd,h=>by
  cases hd with
  |nil=>exact⟨[],rfl,rfl,λh m=>nomatch m⟩
  |cons _ _=>exact bZ h
 |.cons k b r,X,S,ex,lv,Q,hd,h=>by
  cases hd with
  |nil=>exact bZ h
  |cons z zs =>
   let⟨ty,nm,ba,hp⟩:=z;cases ty with
   |none=>exact bZ h
   |some ty =>
    cases ty with
    |Name x cp =>
     cases nm with
     |some _=>exact bZ h
     |none =>
      cases ba with
      |nil=>exact bZ h
      |cons u us =>
       have h':(kB S.Ck 2 b (u::us)&&S.gv[k]?==aj ak&&uB S k x&&kH S r zs)=ak:=h;simp only[cg]at h';let⟨⟨⟨h1,hv⟩,hc⟩,h2⟩:=h';have hv:=beq_iff_eq.mp hv;let⟨a,hg⟩:=Kg hc;let⟨g1,g2,g3,g4,g5⟩:=Q.si.gl _ _ _ hg hv;let⟨c1,c2,c3,c4⟩:=Q.cls _ _ _ hg hv;let⟨l,e1,e2,e3⟩:=NC r Q zs h2;refine⟨⟨x,cp,a,u,us,hp,mB S.gl X.K lh b⟩::l,by rw[e1];rfl,?_,λh m=>?_⟩
       .show(KU S.gl k,mB S.gl X.K lh b)::mH S.gl X.K r=_;rw[e2];unfold KU;rw[hg];rfl
       .rcases jm.mp m with rfl|m
        .exact⟨g1,g4,c2,c3,c4,λxx=>lS b (Q.ha xx) (u::us) h1,g2⟩
        .exact e3 h m
    |_=>exact bZ h
end
end L4
namespace L4
open PySem PySem.Spec PyProof.Rows L2
abbrev bF(R:jC):jC:=λd G'=>∃G0,Le G0 G'/\R d G0
abbrev m8(EX:aV):aV:=λC G'=>∃G0,Le G0 G'/\EX C G0
abbrev pW(n m:Nat)(tb:aV->bB):lJ:=λds G R EX=>ds.length=m/\tb (m8 EX) ⟨λ_ G'=>bF R .ae G',bF R,λ_ _=>False,λ_ _=>False⟩ (FG n ds) G
def bF.here{d:D}(h:R d G):bF R d G:=⟨G,.refl G,h⟩
def m8.here{d:bx}(h:R d G):m8 R d G:=⟨G,.refl G,h⟩
def aDD{K:Fg}(h:wq K EX E):wq K (m8 EX) E:=λC H' G' g ⟨G0,l,q⟩=>h C H' G0 (g.le l) q
variable{qt:Bool}{P:lg}{mg:Str->Option bh}{base:kh}{x qual:Str}{st:jo}{f:bx}{fd:jf}{ps:List Str}
def aIY{w:ji}{K:Fg}{N:List Str}{k:Nat}{tb:aV->bB}(F:bE K x qual st f fd)(S:aO N ps (bI st))
  (gu:∀(dE:bh)(A:lu)(outer:List Env)(s:dg)(H:Hp)(E:XK)(EX:aV),nO qt k (A.deeper (envOfC qual (bI st) s.heap.objs.size f dE))->wq K EX E ->
   hU (dC qt P w K mg base N qual (bI st) f dE A outer s H E) (cN st) (tb EX)):bQ qt P w K mg base (iH P w) (k+1) f fd ps (bV K (pW N.length ps.length tb)):=by
 refine(aNP F S gu).imp ?_;rintro vs H Q E ⟨ds,G,R,EX,r,g,⟨hl,q⟩,kk,hE⟩;exact⟨ds,G,bF R,m8 EX,r,g,⟨hl,q⟩,(by rintro v H' d G' r1 g1 ⟨G0,l,q⟩;exact kk v H' d G0 r1 (g1.le l) q),aDD hE⟩
abbrev DY(P:lg)(w:ji)(K:Fg)(mg:Str->Option bh)(base:kh)(k:Nat)(x:Str):GT->Prop
 |.con d=>∃u v,mg x=aj u/\RelV v u/\∀H,RD K H d v
 |.cls a=>mg x=aj (.ref a)/\zc K a HC "ValueError.__new__"=ak/\(vo K a).isSome=ak/\we K (.ref a)=aj (.type "type")/\qe K (.ref a) (.type "BaseException")=aj ak
 |.fn sp n qt=>∃f fd ps,bQ qt P w K mg base (iH P w) k f fd ps (bV K sp)/\mg x=aj (.ref f)/\tu K (.ref f)=ak/\Binds K fd ps []
 |.bf b=>mg x=au/\mq x=aj (LF b)
 |.bt n=>mg x=au/\mq x=aj (.type n)
 |.kl C sp dd=>∃j f fd ps ds cb,j+1=k/\Mk K C f/\bQ ao P w K mg base (iH P w) j f fd ps (bV K sp)/\mg x=aj (.ref C)/\Binds K fd ps ds/\Vals cb ds/\∀H,cZ K H dd cb
 |.me C m sp dd=>∃f fd ps ds cb,fN K C/\Meth K C m f/\bQ ao P w K mg base (iH P w) k f fd ps (bV K sp)/\Binds K fd ps ds/\Vals cb ds/\∀H,cZ K H dd cb
 |.fl C f=>fN K C/\jF K C f
abbrev KR(sc:zq)(x:Str):Bool:=match sc.names.lookup x with
 |some .local=>ak
 |some .cell=>ak
 |_=>ao
abbrev KQ(sc:zq)(x:Str):Bool:=match sc.names.lookup x with
 |some .local=>ak
 |_=>ao
abbrev KP(sc:zq)(x:Str):Bool:=match sc.names.lookup x with
 |some .globalImplicit=>ak
 |_=>ao
abbrev KO(sc:zq)(x:Str):Bool:=match sc.names.lookup x with
 |some .cell=>ak
 |_=>ao
private theorem aIZ{sc:zq}(h:KO sc x=ak):sc.names.lookup x=aj .cell:=by
 unfold KO at h;split at h
 .rename_i e;exact e
 .exact bZ h
abbrev AZ(S:SI)(sc:zq):Bool:=(ou S.N.length).all (λi=>match S.N[i]? with
  |none=>ao
  |some x=>x !=("__debug__":Str)&&x !=("__classdict__":Str)&&(S.fl[i]? !=aj ak||KR sc x)&&(S.lc[i]? !=aj ak||KQ sc x)&&(S.ce[i]? !=aj ak||KO sc x)) &&
 (ou S.gl.length).all (λk=>match S.gl[k]? with
  |none=>ao
  |some (y,_)=>(S.gv[k]? !=aj ak||KP sc y)&&y !=("__debug__":Str)&&y !=("__name__":Str))
private theorem aJ0(h:KR sc x=ak):Loc sc x:=by
 unfold KR at h;split at h
 .rename_i e;exact .inl e
 .rename_i e;exact .inr e
 .exact bZ h
def aJ1(h:Loc sc x):BK sc x:=h.elim .inl λz=>.inr (.inl z)
private theorem aJ2{sc:zq}(h:KQ sc x=ak):sc.names.lookup x=aj .local:=by
 unfold KQ at h;split at h
 .rename_i e;exact e
 .exact bZ h
private theorem aJ3{sc:zq}(h:KP sc x=ak):sc.names.lookup x=aj .globalImplicit:=by
 unfold KP at h;split at h
 .rename_i e;exact e
 .exact bZ h
variable{S:SI}
def FN{sc:zq}(h:AZ S sc=ak){i:Nat}(e:S.N[i]?=aj x) :
  (x==("__debug__":Str))=ao/\(x==("__classdict__":Str))=ao/\(S.fl[i]?=aj ak->Loc sc x)/\(S.lc[i]?=aj ak->sc.names.lookup x=aj .local)/\(S.ce[i]?=aj ak->sc.names.lookup x=aj .cell):=by
 unfold AZ at h;rw[cg]at h;have hi:i<S.N.length:=(iz.mp e).1;have q:=jq.mp h.1 i (xr.mpr hi);rw[e]at q;simp only[cg,bne_iff_ne,ne_eq,GI]at q;let⟨⟨⟨⟨q1,q2⟩,q3⟩,q4⟩,q5⟩:=q;refine⟨beq_eq_false_iff_ne.mpr q1,beq_eq_false_iff_ne.mpr q2,λz=>?_,λz=>?_,λz=>?_⟩
 .rcases q3 with q|q
  .exact absurd z q
  .exact aJ0 q
 .rcases q4 with q|q
  .exact absurd z q
  .exact aJ2 q
 .rcases q5 with q|q
  .exact absurd z q
  .exact aIZ q
def aJ4{sc:zq}(h:AZ S sc=ak){k:Nat}{g:GT}(e:S.gl[k]?=aj (x,g)):(S.gv[k]?=aj ak->sc.names.lookup x=aj .globalImplicit)/\(x==("__debug__":Str))=ao/\x≠"__name__":=by
 unfold AZ at h;rw[cg]at h;have q:=jq.mp h.2 k (xr.mpr (iz.mp e).1);rw[e]at q;simp only[cg,bne_iff_ne,ne_eq,GI]at q;exact⟨λz=>aJ3 (q.1.1.resolve_left λn=>n z),beq_eq_false_iff_ne.mpr q.1.2,q.2⟩
def aDE{w:ji}{K:Fg}{k:Nat}{c:CB}(F:bE K x qual st f fd)(hS:aO S.N ps (bI st))
  (hc:S.calm=!qt)(hv:AZ S (bI st)=ak)(hk:kB S 0 c (cN st)=ak)(hg:∀(j:Nat)(y:Str)(g:GT),S.gl[j]?=aj (y,g)->DY P w K mg base k y g) :
  bQ qt P w K mg base (iH P w) (k+1) f fd ps (bV K (pW S.N.length ps.length λEX=>mB S.gl K (λ_=>EX) c)):=by
 refine aIY F hS λdE A outer s H E EX hr hE=>?_;refine lS c (X:=dC qt P w K mg base S.N qual (bI st) f dE A outer s H E) (S:=S) (ex:=λ_=>EX) (lv:=0) ?_ (cN st) hk;refine⟨⟨rfl,hS.nd,λi y e1 e2=>?_,λi y e1 e2=>.inl ((FN hv e1).2.2.2.2 e2),λj y g e=>?_,hr.units,λz=>hc.symm.trans z,aY1 hE⟩,λi y e1 e2=>?_,λi y e1 e2=>?_,λ_=>rfl,λj y a e _=>?_,λ_=>Na,λ_ _=>aY2 hE,rfl,rfl⟩
 .obtain⟨a1,a2,a3,a4⟩:=FN hv e1;exact⟨aJ1 (a3 e2),a1,a2⟩
 .obtain⟨a1,a2,a3⟩:=aJ4 hv e;have z:=hg j y g e;refine⟨a1,a2,a3,?_⟩;cases g with
  |con d=>exact z
  |cls a=>exact⟨z.1,z.2.1⟩
  |fn sp n q2 =>
   intro hz;let⟨f',Co,sN,F',m',k',b'⟩:=z;refine⟨k,f',Co,sN,F',⟨λe=>hr.hd ?_,hr.dp,hr.un⟩,m',k',b'⟩;have hs:S.calm=ak:=hz.resolve_left (by rw[e];decide);rw[hc]at hs;simpa using hs
  |bf b=>exact z
  |bt n=>exact z
  |kl C sp dd =>
   intro hs;let⟨j',f',Co,sN,ds,cb,rfl,q1,q2,q3,q4,q5,q6⟩:=z;rw[hc]at hs;exact⟨j',f',Co,sN,ds,cb,q1,q2,⟨λ_=>hr.hd (by simpa using hs),hr.dp,hr.un⟩,q3,q4,q5,q6⟩
  |me C m sp dd =>
   intro hs;let⟨f',Co,sN,ds,cb,q1,q2,q3,q4,q5,q6⟩:=z;rw[hc]at hs;exact⟨k,f',Co,sN,ds,cb,q1,q2,q3,⟨λ_=>hr.hd (by simpa using hs),hr.dp,hr.un⟩,q4,q5,q6⟩
  |fl C f=>exact z
 .exact(FN hv e1).2.2.1 e2
 .exact(FN hv e1).2.2.2.1 e2
 .have z:=hg j y _ e;exact z.2
end L4
namespace L4
open PySem PySem.Spec PyProof.Rows L2
def sE{P:Str->GT->Prop}:∀(j:Nat)(y:Str)(g:GT),([]:List (Str×GT))[j]?=aj (y,g)->P y g:=λj y g h=>by simp at h
def bG{P:Str->GT->Prop}{x:Str}{g:GT}{l:List (Str×GT)}(h:P x g)(r:∀(j:Nat)(y:Str)(g:GT),l[j]?=aj (y,g)->P y g):∀(j:Nat)(y:Str)(g':GT),((x,g)::l)[j]?=aj (y,g')->P y g'
 |0,y,g',e=>by simp at e;let⟨e1,e2⟩:=e;subst e1;subst e2;exact h
 |j+1,y,g',e=>r j y g' (by simpa using e)
section
variable{w:ji}{K:Fg}{mg:Str->Option bh}{base:kh}{k:Nat}{x:Str}
def j1{z:Int}(h:∃t,mg x=aj (.int z t)):DY P w K mg base k x (.con (.int z)):=by
 let⟨t,h⟩:=h;exact⟨_,.int z,h,⟨t,rfl⟩,λ_=>.int z⟩
end
def P0:mq "range"=aj (.type "range"):=by decide+kernel
end L4
namespace L4
open PySem PySem.Spec PyProof.Rows L2
variable{ps:List Str}
def OS{K:Fg}(h:∀us:List bh,us.length=ps.length->uh fd ⟨us,[]⟩=pure (ps.zip us)):Binds K fd ps []:=Binds.all h
variable{fd:jf}{n:Nat}{sl:Array (Option bh)}
def Jy{K:Fg}(e:K.lookup T=aj ⟨oc,od,.seq #[u] n,sl⟩)
  (h:∀us:List bh,us.length=ps.length->∃k:Option (Array bh)->Sem (List (Str×bh)),fd.defaults=.ref T/\uh fd ⟨us,[]⟩=seqItems? fd.defaults >>= k/\k (aj #[u])=pure (ps.zip us)):Binds K fd ps []:=λs us hK hl=>by
 rw[Bx]at hl ⊢;let⟨k,h0,h1,h2⟩:=h us hl;exact PySem.W.binds_K hK h0 e rfl h1 h2
def Jx{K:Fg}(e:K.lookup T=aj ⟨oc,od,.seq #[u] n,sl⟩)
  (h:∀us:List bh,us.length+1=ps.length->∃k:Option (Array bh)->Sem (List (Str×bh)),fd.defaults=.ref T/\uh fd ⟨us,[]⟩=seqItems? fd.defaults >>= k/\k (aj #[u])=pure (ps.zip (us++[u]))):Binds K fd ps [u]:=λs us hK hl=>by
 let⟨k,h0,h1,h2⟩:=h us (by simpa using hl);exact PySem.W.binds_K hK h0 e rfl h1 h2
end L4
namespace L5
open PySem PySem.Spec PyProof.Rows L2 L4
abbrev B0(x:D)(f:Bool->Prop):Prop:=match x with
 |.bl k=>f k
 |_=>False
abbrev HX(x:D)(f:Int->Prop):Prop:=match x with
 |.int k=>f k
 |_=>False
def Tx{k:Bool}:B0 (.bl k) f=f k:=rfl
def aJ5{k:Int}:HX (.int k) f=f k:=rfl
abbrev mh(xs:List D):Prop:=xs.length<=dh
def aPQ:mh []=True:=eq_true (show 0<=dh by decide)
variable{a0:D}
def aPR:mh [a0]=True:=eq_true (show 1<=dh by decide)
variable{a1:D}
def aPS:mh [a0,a1]=True:=eq_true (show 2<=dh by decide)
def aPT:mh [a0,a1,a2]=True:=eq_true (show 3<=dh by decide)
def aPU:mh [a0,a1,a2,a3]=True:=eq_true (show 4<=dh by decide)
def aPV:mh [a0,a1,a2,a3,a4]=True:=eq_true (show 5<=dh by decide)
def aPW:mh [a0,a1,a2,a3,a4,a5]=True:=eq_true (show 6<=dh by decide)
def aPX:mh [a0,a1,a2,a3,a4,a5,a6,a7]=True:=eq_true (show 8<=dh by decide)
variable{d:D}{o:Option D}{n:Nat}{r:R3}{T:String}{ds:List D}{b:Bool}
section
variable{t:bB}{F:eF}{G:Gp}{R:jC}{tt Ej:de}{tA:bo}{K:Fg}
def aV2:aK t u F ρ G=t {F with nx:=u F} ρ G:=rfl
def aPY:bT F ρ G=F.nx ρ G:=rfl
def aPZ:aX te F ρ G=te ρ G λ_ G1=>F.nx ρ G1:=rfl
def aV3:cA te F ρ G=te ρ G F.rt:=rfl
def aV4:cV tt t u F ρ G=tt ρ G λb G1=>if b=ak then t F ρ G1 else u F ρ G1:=rfl
def aV5{i:Nat}:cT i te F ρ G=te ρ G λx G1=>F.nx (iS ρ i x) G1:=rfl
def x_raise:iK EX C tA F ρ G=tA ρ G λds G1=>mh ds/\EX ρ C G1:=rfl
def aV6{i:Nat}:CD K C i bd t F ρ G=bd (λgy C' G1=>qe K (.ref C') (.ref C)=aj ak/\∀x,G1 x=au->t {nx:=λb8 G2=>F.nx (ma b8 i) G2,rt:=F.rt,bk:=λb8 G2=>F.bk (ma b8 i) G2,ct:=λb8 G2=>F.ct (ma b8 i) G2} (iS gy i (.ref x)) (aM G1 x (.ej C'))) F ρ G:=rfl
def x_c:aW d ρ G R=R d G:=rfl
def aQ0:aB 0 (aj d::ρ) G R=R d G:=rfl
def aQ1:aB (n+1) (o::ρ) G R=aB n ρ G R:=rfl
def Tw:iS (o::ρ) 0 d=aj d::ρ:=rfl
def Tv:iS (o::ρ) (n+1) d=o::iS ρ n d:=rfl
def Tu:ma (o::ρ) 0=au::ρ:=rfl
def Tq:ma (o::ρ) (n+1)=o::ma ρ n:=rfl
def aZ3:aH r ta tb ρ G R=ta ρ G λx G1=>tb ρ G1 λy G2=>r x y G2 R:=rfl
def aQ2:aY te ρ G Q=te ρ G λx G1=>B0 x λk=>Q k G1:=rfl
def aJ6{r':R3}:rB r r' ta tb tc ρ G R=ta ρ G λx G1=>tb ρ G1 λy G2=>r x y G2 λz G3=>B0 z λk=>if k=ak then tc ρ G3 λw G4=>r' y w G4 R else R (.bl ao) G3:=by
 unfold rB;congr 1;funext x G1;congr 1;funext y G2;congr 1;funext z G3;cases z with
 |bl k=>cases k<;>rfl
 |_=>rfl
def aV7:u7 tt Ej ρ G Q=tt ρ G λc G1=>if c=ak then Ej ρ G1 Q else Q ao G1:=rfl
def aZ4:ki tt Ej ρ G Q=tt ρ G λc G1=>if c=ak then Q ak G1 else Ej ρ G1 Q:=rfl
def aV8:oR tt ρ G Q=tt ρ G λc G1=>Q (!c) G1:=rfl
def aQ3:nP ta tb ρ G R=ta ρ G λx G1=>B0 x λk=>if k=ak then tb ρ G1 R else R (.bl ao) G1:=by
 unfold nP;congr 1;funext x G1;cases x with
 |bl k=>cases k<;>rfl
 |_=>rfl
def aQ4:C0 ta ρ G R=ta ρ G λx G1=>B0 x λk=>R (.bl (!k)) G1:=rfl
def aV9:CA ta ρ G R=ta ρ G λx G1=>HX x λk=>R (.int (-k)) G1:=rfl
def aVA:aF ρ G Q=Q [] G:=rfl
def aQ5:aA te tA ρ G Q=te ρ G λx G1=>tA ρ G1 λxs G2=>Q (x::xs) G2:=rfl
def aVB:o7 tA ρ G R=tA ρ G λxs G1=>mh xs/\R (.tup xs) G1:=rfl
def aVC:vK tA ρ G R=tA ρ G λxs G1=>mh xs/\∀p,G1 p=au->R (.ref p) (aM G1 p (.lst xs)):=rfl
def aVD:yT ρ G R=∀p,G p=au->R (.ref p) (aM G p (.cX ao [])):=rfl
def x_call{ex:aN->aV}:aP sp ex tA ρ G R=tA ρ G λds G1=>sp ds G1 R (ex ρ):=rfl
def aZ5{r:List D->Gp->jC->Prop}:fU r tA ρ G R=tA ρ G λxs G1=>r xs G1 R:=rfl
def x_m{r:kr}:lI T r te tA ρ G R=te ρ G λx G1=>rh T G1 x/\tA ρ G1 λxs G2=>r x xs G2 R:=rfl
def aJ7:rh "list" G (.ref p)=((cO G p).isSome=ak):=by unfold rh;simp
def aDK:DI ρ G Q=Q au G:=rfl
def aQ6:CZ te ρ G Q=te ρ G λx G1=>HX x λk=>Q (aj k) G1:=rfl
def aJ8{th:wt}:Dp te tl th ρ G R=te ρ G λx G1=>tl ρ G1 λlo G2=>th ρ G2 λhi G3=>F7 x lo hi G3 R:=rfl
def aDL{i j:Int}:gG (.int i) (.int j) G R=R (.int (i+j)) G:=rfl
def aVE{i j:Int}:rq (.int i) (.int j) G R=R (.int (i - j)) G:=rfl
def SS{i j:Int}:k7 (.int i) (.int j) G R=(Dd i j/\R (.int (i*j)) G):=rfl
def aQ7{i j:Int}:d8 (.int i) (.int j) G R=(Lk i j/\R (.int (i / j)) G):=rfl
def aVF{i j:Int}:cR (.int i) (.int j) G R=(0<j/\R (.int (i%j)) G):=rfl
def x_lt{i j:Int}:ue (.int i) (.int j) G R=R (.bl (decide (i<j))) G:=rfl
def aZ6{i j:Int}:x9 (.int i) (.int j) G R=R (.bl (decide (j<i))) G:=rfl
def x_ge{i j:Int}:x8 (.int i) (.int j) G R=R (.bl (decide (j<=i))) G:=rfl
def aZ7{i j:Int}:kX (.int i) (.int j) G R=R (.bl (decide (i<=j))) G:=rfl
def aQ8{i j:Str}:kX (.str i) (.str j) G R=R (.bl (!decide (j.cps.toList<i.cps.toList))) G:=rfl
def Zr{j:Str}:FU (.str i) (.str j) G R=R (.bl (!!(Builtin.Str.occurrences j i 0 j.length 1).isEmpty)) G:=rfl
def aJ9{i j:Int}:mJ (.int i) (.int j) G R=R (.bl (i==j)) G:=by
 show(bY 20 (.int i)=ak/\bY 20 (.int j)=ak/\_)=_;simp[bY,a8]
def aJA{i j:Int}:o6 (.int i) (.int j) G R=R (.bl (!(i==j))) G:=by
 show(bY 20 (.int i)=ak/\bY 20 (.int j)=ak/\_)=_;simp[bY,a8]
def aJB{i j:Bool}:mJ (.bl i) (.bl j) G R=R (.bl (i==j)) G:=by
 show(bY 20 (.bl i)=ak/\bY 20 (.bl j)=ak/\_)=_;simp[bY,a8]
def aJC:mJ (.str i) (.str j) G R=R (.bl (i==j)) G:=by
 show(bY 20 (.str i)=ak/\bY 20 (.str j)=ak/\_)=_;simp[bY,a8]
def aJD:mJ (.tup xs) (.tup ys) G R=(bY 20 (.tup xs)=ak/\bY 20 (.tup ys)=ak/\R (.bl (a8 (.tup xs) (.tup ys))) G):=rfl
def aJE:o6 (.tup xs) (.tup ys) G R=(bY 20 (.tup xs)=ak/\bY 20 (.tup ys)=ak/\R (.bl (!a8 (.tup xs) (.tup ys))) G):=rfl
def aJF{z:Str}:pR [.str z] G R=(z.length<=dh/\R (.int z.length) G):=rfl
def aJG:pR [.tup ds] G R=R (.int ds.length) G:=rfl
def Bm(h:cO G q=aj ds):pR [.ref q] G R=R (.int ds.length) G:=by unfold pR;simp only[h]
def aJH:Fl [.bl b] G R=R (.int (if b then 1 else 0)) G:=rfl
def I0{i:Int}(h:c9 xs i=aj d):eU (.tup xs) (.int i) G R=R d G:=by unfold eU;simp only[h]
def aQ9{z:Str}{i:Int}{c:Nat}(h:c9 z.cps.toList i=aj c):eU (.str z) (.int i) G R=(z.length<=dh/\R (.str ⟨#[c]⟩) G):=by unfold eU;simp only[h]
def vn{i:Int}(e:cO G p=aj xs)(h:c9 xs i=aj d):eU (.ref p) (.int i) G R=R d G:=by unfold eU;simp only[e,h]
def π:aG K [.ae,.ty "int"] G R=R (.bl ao) G:=by
 show("int"∈fH/\R (.bl (L2.subB "NoneType" "int")) G)=_;rw[show L2.subB "NoneType" "int"=ao from by decide];simp[fH]
def alN:aG K [.ae,.ty "bool"] G R=R (.bl ao) G:=by
 show("bool"∈fH/\R (.bl (L2.subB "NoneType" "bool")) G)=_;rw[show L2.subB "NoneType" "bool"=ao from by decide];simp[fH]
def Z':aG K [.ae,.ty "str"] G R=R (.bl ao) G:=by
 show("str"∈fH/\R (.bl (L2.subB "NoneType" "str")) G)=_;rw[show L2.subB "NoneType" "str"=ao from by decide];simp[fH]
def ahZ:aG K [.ae,.ty "tuple"] G R=R (.bl ao) G:=by
 show("tuple"∈fH/\R (.bl (L2.subB "NoneType" "tuple")) G)=_;rw[show L2.subB "NoneType" "tuple"=ao from by decide];simp[fH]
def Zq:aG K [(.bl b),.ty "int"] G R=R (.bl ak) G:=by
 show("int"∈fH/\R (.bl (L2.subB "bool" "int")) G)=_;rw[show L2.subB "bool" "int"=ak from by decide];simp[fH]
def Y':aG K [(.bl b),.ty "bool"] G R=R (.bl ak) G:=by
 show("bool"∈fH/\R (.bl (L2.subB "bool" "bool")) G)=_;rw[show L2.subB "bool" "bool"=ak from by decide];simp[fH]
def Zp:aG K [(.bl b),.ty "str"] G R=R (.bl ao) G:=by
 show("str"∈fH/\R (.bl (L2.subB "bool" "str")) G)=_;rw[show L2.subB "bool" "str"=ao from by decide];simp[fH]
def alO:aG K [(.bl b),.ty "tuple"] G R=R (.bl ao) G:=by
 show("tuple"∈fH/\R (.bl (L2.subB "bool" "tuple")) G)=_;rw[show L2.subB "bool" "tuple"=ao from by decide];simp[fH]
def X'{i:Int}:aG K [(.int i),.ty "int"] G R=R (.bl ak) G:=by
 show("int"∈fH/\R (.bl (L2.subB "int" "int")) G)=_;rw[show L2.subB "int" "int"=ak from by decide];simp[fH]
def alP{i:Int}:aG K [(.int i),.ty "bool"] G R=R (.bl ao) G:=by
 show("bool"∈fH/\R (.bl (L2.subB "int" "bool")) G)=_;rw[show L2.subB "int" "bool"=ao from by decide];simp[fH]
def W'{i:Int}:aG K [(.int i),.ty "str"] G R=R (.bl ao) G:=by
 show("str"∈fH/\R (.bl (L2.subB "int" "str")) G)=_;rw[show L2.subB "int" "str"=ao from by decide];simp[fH]
def ai0{i:Int}:aG K [(.int i),.ty "tuple"] G R=R (.bl ao) G:=by
 show("tuple"∈fH/\R (.bl (L2.subB "int" "tuple")) G)=_;rw[show L2.subB "int" "tuple"=ao from by decide];simp[fH]
def V':aG K [(.str z),.ty "int"] G R=R (.bl ao) G:=by
 show("int"∈fH/\R (.bl (L2.subB "str" "int")) G)=_;rw[show L2.subB "str" "int"=ao from by decide];simp[fH]
def alQ:aG K [(.str z),.ty "bool"] G R=R (.bl ao) G:=by
 show("bool"∈fH/\R (.bl (L2.subB "str" "bool")) G)=_;rw[show L2.subB "str" "bool"=ao from by decide];simp[fH]
def U':aG K [(.str z),.ty "str"] G R=R (.bl ak) G:=by
 show("str"∈fH/\R (.bl (L2.subB "str" "str")) G)=_;rw[show L2.subB "str" "str"=ak from by decide];simp[fH]
def ai1:aG K [(.str z),.ty "tuple"] G R=R (.bl ao) G:=by
 show("tuple"∈fH/\R (.bl (L2.subB "str" "tuple")) G)=_;rw[show L2.subB "str" "tuple"=ao from by decide];simp[fH]
def T':aG K [(.tup xs),.ty "int"] G R=R (.bl ao) G:=by
 show("int"∈fH/\R (.bl (L2.subB "tuple" "int")) G)=_;rw[show L2.subB "tuple" "int"=ao from by decide];simp[fH]
def alR:aG K [(.tup xs),.ty "bool"] G R=R (.bl ao) G:=by
 show("bool"∈fH/\R (.bl (L2.subB "tuple" "bool")) G)=_;rw[show L2.subB "tuple" "bool"=ao from by decide];simp[fH]
def S':aG K [(.tup xs),.ty "str"] G R=R (.bl ao) G:=by
 show("str"∈fH/\R (.bl (L2.subB "tuple" "str")) G)=_;rw[show L2.subB "tuple" "str"=ao from by decide];simp[fH]
def ai2:aG K [(.tup xs),.ty "tuple"] G R=R (.bl ak) G:=by
 show("tuple"∈fH/\R (.bl (L2.subB "tuple" "tuple")) G)=_;rw[show L2.subB "tuple" "tuple"=ak from by decide];simp[fH]
def zv{q C C':bx}(h:G q=aj (.ej C))(e:mw K C)(k:ni K (.ref C) (.ref C')=aj b)(z:R (.bl b) G):aG K [.ref q,.ref C'] G R:=by
 unfold aG;simp only[xw,h];exact⟨b,e,k,z⟩
def aJI{n:String}(h:G q=aj (.ej C))(e:mw K C)(k:ni K (.ref C) (.type n)=aj b)(z:R (.bl b) G):aG K [.ref q,.ty n] G R:=by
 unfold aG;simp only[xw,gz,h];exact⟨b,e,k,z⟩
end
def bH(h:G p=aj (.lst xs)):cO G p=aj xs:=by unfold cO;rw[h]
def Dx(h:G p=aj (.fc xs)):cO G p=aj xs:=by unfold cO;rw[h]
def fJ:cO (aM G p (.lst xs)) p=aj xs:=bH aJ
def Jw(h:R d G)(l:Le G G'):bF R d G':=⟨G,l,h⟩
def oW{P Q:Prop}(h1:b=ak->P)(h2:b=ao->Q):if b=ak then P else Q:=by
 cases b
 .exact h2 rfl
 .exact h1 rfl
abbrev kn(G:Gp)(d:D):Prop:=(gz G d).isSome=ak
def IZ(h:kn G (.ref q)):gz G (.ref q)=aj "list" ∨ gz G (.ref q)=aj "dict":=by
 unfold kn at h
 have e:gz G (.ref q)=(match G q with
  |some (.lst _)=>aj "list"
  |some (.fc _)=>aj "list"
  |some (.cX _ _)=>aj "dict"
  |_=>au):=rfl
 rw[e]at h ⊢;split at h
 .exact .inl rfl
 .exact .inl rfl
 .exact .inr rfl
 .simp at h
def Tp{b:List D}:kn G (.tup b):=rfl
def aQA(h:G p=aj (.lst xs)):kn G (.ref p):=by unfold kn gz;simp[h]
variable{l:List Nat}
section
variable{K:Fg}
def Fx{x:D}{n:String}(e:gz G x=aj T)(hn:n∈fH):aG K [x,.ty n] G R=R (.bl (L2.subB T n)) G:=by
 show(match gz G x with
  |some T=>n∈fH/\R (.bl (L2.subB T n)) G
  |none=>_)=_
 rw[e];exact propext ⟨λh=>h.2,λh=>⟨hn,h⟩⟩
def Rx(h:kn G (.ref q)):aG K [.ref q,.ty "int"] G R=R (.bl ao) G:=by
 rcases IZ h with e|e<;>rw[Fx e (by decide)]<;>rfl
def Zo(h:kn G (.ref q)):aG K [.ref q,.ty "str"] G R=R (.bl ao) G:=by
 rcases IZ h with e|e<;>rw[Fx e (by decide)]<;>rfl
def UJ(h:kn G (.ref q)):aG K [.ref q,.ty "tuple"] G R=R (.bl ao) G:=by
 rcases IZ h with e|e<;>rw[Fx e (by decide)]<;>rfl
def Fs{α:Type}{a:α}{xs:List α}:c9 (a::xs) 0=aj a:=by
 unfold c9 sR;simp
def atS{α:Type}{a:α}{xs:List α}:c9 (a::xs) ((n+1:Nat):Int)=c9 xs (n:Int):=by
 unfold c9 sR;have h0:(0:Int)<=((n+1:Nat):Int):=by omega
 have h1:(0:Int)<=(n:Int):=by omega
 rw[if_pos h0,if_pos h1];by_cases h:n<xs.length
 .have a1:((n+1:Nat):Int)<((a::xs).length:Int):=by simp;omega
  have a2:(n:Int)<(xs.length:Int):=by omega
  rw[if_pos a1,if_pos a2];simp
 .have a1:¬ ((n+1:Nat):Int)<((a::xs).length:Int):=by simp;omega
  have a2:¬ (n:Int)<(xs.length:Int):=by omega
  rw[if_neg a1,if_neg a2];rfl
def A8{α:Type}{xs:List α}:c9 xs (n:Int)=xs[n]?:=by
 unfold c9 sR;rw[if_pos ⋯];by_cases h:n<xs.length
 .rw[if_pos ⋯];simp
 .rw[if_neg ⋯];simp at h;simp[h]
def aJJ:eU (.tup (a::xs)) (.int 0) G R=R a G:=I0 Fs
variable{b:D}
def aJK:eU (.tup (a::b::xs)) (.int 1) G R=R b G:=I0 (i:=((1:Nat):Int)) (by rw[atS,A8];rfl)
def aJL{c:D}:eU (.tup (a::b::c::xs)) (.int 2) G R=R c G:=I0 (i:=((2:Nat):Int)) (by rw[atS,A8];rfl)
def str_len:(⟨l.toArray⟩:Str).length=l.length:=by
 show l.toArray.size=l.length;simp
end
section
def aDN{m:List Nat}(h:l.length+m.length<=dh):gG (.str ⟨l.toArray⟩) (.str ⟨m.toArray⟩) G R=R (.str ⟨(l++m).toArray⟩) G:=by
 show(_/\R (.str (⟨l.toArray⟩++⟨m.toArray⟩)) G)=_
 have e:((⟨l.toArray⟩:Str)++(⟨m.toArray⟩:Str))=⟨(l++m).toArray⟩:=by
  show(⟨l.toArray++m.toArray⟩:Str)=_;simp
 rw[e];exact propext ⟨λh=>h.2,λz=>⟨by rw[str_len,str_len];exact h,z⟩⟩
end
variable{xs ys:List D}
section
variable{b:bx}
def pZ(h1:cO G a=aj xs)(h2:cO G b=aj ys)(s1:xs.all (bY 20)=ak)(s2:ys.all (bY 20)=ak):mJ (.ref a) (.ref b) G R=R (.bl (xE xs ys)) G:=by
 show tI G (.ref a) (.ref b) (λb=>R (.bl b) G)=_;unfold tI;simp only[h1,h2,s1,s2,true_and]
def Rw(h1:cO G a=aj xs)(h2:cO G b=aj ys)(s1:xs.all (bY 20)=ak)(s2:ys.all (bY 20)=ak):o6 (.ref a) (.ref b) G R=R (.bl (!xE xs ys)) G:=by
 show tI G (.ref a) (.ref b) (λb=>R (.bl (!b)) G)=_;unfold tI;simp only[h1,h2,s1,s2,true_and]
end
section
variable{i j:Int}
def aQB(h:-18446744073709551616<i/\i<18446744073709551616):k7 (.int i) (.int j) G R=R (.int (i*j)) G:=by
 rw[SS];exact propext ⟨λz=>z.2,λz=>⟨.inl ⟨by have:=h.1;omega,by have:=h.2;omega⟩,z⟩⟩
def aQC(h:-18446744073709551616<j/\j<18446744073709551616):k7 (.int i) (.int j) G R=R (.int (i*j)) G:=by
 rw[SS];exact propext ⟨λz=>z.2,λz=>⟨.inr ⟨by have:=h.1;omega,by have:=h.2;omega⟩,z⟩⟩
def aJM(h:0<j/\j<1073741824):d8 (.int i) (.int j) G R=R (.int (i / j)) G:=by
 rw[aQ7];exact propext ⟨λz=>z.2,λz=>⟨h,z⟩⟩
def IY(h:0<j):cR (.int i) (.int j) G R=R (.int (i%j)) G:=by
 rw[aVF];exact propext ⟨λz=>z.2,λz=>⟨h,z⟩⟩
end
section
variable{i:Int}
def PZ{α:Type}{xs:List α}{i:Int}(h0:0<=i)(h1:i<(xs.length:Int)):∃d,c9 xs i=aj d/\d∈xs:=by
 let⟨n,rfl⟩:=Int.eq_ofNat_of_zero_le h0;have hn:n<xs.length:=by omega
 exact⟨xs[n],by rw[A8];simp[hn],wo hn⟩
def CM(e:cO G p=aj xs)(h0:0<=i)(h1:i<(xs.length:Int))(h:∀d∈xs,R d G):eU (.ref p) (.int i) G R:=by
 let⟨d,h2,h3⟩:=PZ h0 h1;rw[vn e h2];exact h d h3
end
section
variable{b:Bool}{α:Type}{l:List α}
def Zn:(True/\P)=P:=true_and P
def Zm:(!true)=ao:=rfl
def P':(!false)=ak:=rfl
def aDO:((!b)=ak)=(b=ao):=by cases b<;>simp
def XZ:(if True then P else Q)=P:=if_true ..
def Zl:(if False then P else Q)=Q:=if_false ..
def aVG:(ao=ak)=False:=by simp
def aVH:(ak=ao)=False:=by simp
def Zk:(a::l).length=l.length+1:=uq
def XY:([]:List α).length=0:=rfl
def XX{β:Type}{f:α->β}:(l.map f).length=l.length:=gw ..
end
end L5
namespace L6
open PySem PySem.Spec PyProof.Rows L2 L4 L5
abbrev Se(x:D)(G:Gp)(Q:Src->Gp->Prop):Prop:=match x with
 |.ref p=>(match cO G p with
  |some xs=>Q (.lst p xs) G
  |none=>False)
 |.tup xs=>Q (.dq xs) G
 |.str z=>Q (.dq (signs z)) G
 |_=>False
abbrev LA(x:D)(G:Gp)(Q:Src->Gp->Prop):Prop:=match x with
 |.ref p=>(match cO G p with
  |some xs=>Q (.lst p xs) G
  |none=>False)
 |.str z=>Q (.dq (signs z)) G
 |.tup xs=>xs.all fq=ak/\∀a,(G a=au∨G a=aj (.dt xs))->Q (.dt a xs) (aM G a (.dt xs))
 |_=>False
abbrev SQ(xs:List D)(G:Gp)(Q:Src->Gp->Prop):Prop:=match xs with
 |[.int j]=>-(2^62)<=j/\j<2^62/\Q (.dq (o5 0 j)) G
 |_=>False
section
variable{ta:bo}{j:Int}
def aJN:Be te ρ G Q=te ρ G λx G1=>Se x G1 Q:=rfl
def aVJ:x5 te ρ G Q=te ρ G λx G1=>LA x G1 Q:=rfl
def aQD:yB ta ρ G Q=ta ρ G λxs G1=>SQ xs G1 Q:=rfl
def aDQ:Se (.str z) G Q=Q (.dq (signs z)) G:=rfl
def GD(h:cO G p=aj xs):LA (.ref p) G Q=Q (.lst p xs) G:=by unfold LA;simp only[h]
def aJO(h:-4611686018427387904<=j/\j<4611686018427387904):SQ [.int j] G Q=Q (.dq (o5 0 j)) G:=by
 show(_/\_/\_)=_;exact propext ⟨λz=>z.2.2,λz=>⟨⋯,⋯,z⟩⟩
end
abbrev Fd(dv:D->Option (List D))(src:Src)(tc:de)(te:d7)(ρ:aN)(G1:Gp)(R:jC):Prop:=src.items.length<dh/\∀p,G1 p=au->∃P:Nat->List D->Gp->Prop,P 0 [] (aM G1 p (.lst [])) /\
 (∀k ds G,k<=src.items.length->P k ds G->src.ok G/\G p=aj (.lst ds)/\ds.length<=k) /\
 (∀k d ds G,src.items[k]?=aj d->P k ds G->∃ys,dv d=aj ys/\tc (ys.map aj++ρ) G λb G2=>if b=ak then te (ys.map aj++ρ) G2 λy G3=>G3 p=aj (.lst ds)/\P (k+1) (ds++[y]) (aM G3 p (.lst (ds++[y])))else P (k+1) ds G2) /\
 ∀ds G,P src.items.length ds G->∃G0,Le G0 G/\R (.ref p) G0
variable{ti:ez}{tc:de}
def aQE:JB dv ti tc te ρ G R=ti ρ G λsrc G1=>Fd dv src tc te ρ G1 R:=rfl
private theorem Dg(l:Le G G')(h:cO G p=aj xs):cO G' p=aj xs:=by
 unfold cO at h ⊢;split at h
 .rename_i e;rw[l _ _ e];exact h
 .rename_i e;rw[l _ _ e];exact h
 .cases h
variable{src:Src}
def aVK(l:Le G G')(h:src.ok G):src.ok G':=by
 cases src with
 |lst p xs=>exact Dg l h
 |dq xs=>trivial
 |zip p q xs ys=>exact⟨Dg l h.1,Dg l h.2⟩
 |Ax p o kvs=>exact l _ _ h
 |ic p o t kvs=>exact l _ _ h
 |key p o t kvs=>exact l _ _ h
 |dt p xs=>exact l _ _ h
 |E4 p xs=>exact l _ _ h
 |Et p o kvs=>exact l _ _ h
def aQF{o:GO}(l:Le (aM G p o) G'):Le (aM G p o') (aM G' p o'):=λa u e=>by
 by_cases h:a=p
 .subst h;rw[aJ]at e ⊢;exact e
 .rw[aR h]at e ⊢;exact l a u (by rw[aR h];exact e)
def aDR(v:D->List D)(c:D->Bool)(f:D->D)(hl:src.items.length<dh)(aa:src.ok G)(hv:∀d∈src.items,dv d=aj (v d))
  (hc:∀d∈src.items,∀G',Le G G'->∀Q:Bool->Gp->Prop,(∀i7,Le G' i7->Q (c d) i7)->tc ((v d).map aj++ρ) G' Q)
  (he:∀d∈src.items,c d=ak->∀G',Le G G'->∀Q:D->Gp->Prop,(∀i7,Le G' i7->Q (f d) i7)->te ((v d).map aj++ρ) G' Q)
  (h:∀p,G p=au->R (.ref p) (aM G p (.lst ((src.items.filter c).map f)))):Fd dv src tc te ρ G R:=by
 refine⟨hl,λp hp=>⟨λk ds G'=>ds=((src.items.take k).filter c).map f/\Le (aM G p (.lst ds)) G',⟨rfl,.refl _⟩,λk ds G' hk ⟨e,l⟩=>?_,λk d ds G' hd ⟨e,l⟩=>?_,λds G' ⟨e,l⟩=>?_⟩⟩
 .refine⟨aVK ((Le.new hp).trans l) aa,l p _ aJ,?_⟩;rw[e,gw];exact qd (BC _ _) (by rw[wu];omega)
 .have hm:d∈src.items:=lq hd
  have ht:src.items.take (k+1)=src.items.take k++[d]:=by
   rw[List.take_succ,hd];rfl
  refine⟨v d,hv d hm,hc d hm G' ((Le.new hp).trans l) _ λG2 l2=>?_⟩;cases fw:c d with
  |true =>
   rw[if_pos rfl];refine he d hm fw G2 (((Le.new hp).trans l).trans l2) _ λG3 l3=>?_;have l4:=(l.trans l2).trans l3;refine⟨l4 p _ aJ,?_,aQF l4⟩;rw[ht,List.filter_append,qz,←e];simp[fw]
  |false =>
   rw[if_neg (by decide)];refine⟨?_,l.trans l2⟩;rw[ht,List.filter_append,qz,←e];simp[fw]
 .rw[zk]at e;subst e;exact⟨_,l,h p hp⟩
def OQ(c:D->Bool)(f:D->D)(hl:src.items.length<dh)(aa:src.ok G)
  (hc:∀d∈src.items,∀G',Le G G'->∀Q:Bool->Gp->Prop,(∀i7,Le G' i7->Q (c d) i7)->tc (aj d::ρ) G' Q)
  (he:∀d∈src.items,c d=ak->∀G',Le G G'->∀Q:D->Gp->Prop,(∀i7,Le G' i7->Q (f d) i7)->te (aj d::ρ) G' Q)
  (h:∀p,G p=au->R (.ref p) (aM G p (.lst ((src.items.filter c).map f)))):Fd x6 src tc te ρ G R:=aDR (λd=>[d]) c f hl aa (λ_ _=>rfl) hc he h
def comp_map(f:D->D)(hl:src.items.length<dh)(aa:src.ok G)
  (he:∀d∈src.items,∀G',Le G G'->∀Q:D->Gp->Prop,(∀i7,Le G' i7->Q (f d) i7)->te (aj d::ρ) G' Q)
  (h:∀p,G p=au->R (.ref p) (aM G p (.lst (src.items.map f)))):Fd x6 src FE te ρ G R :=
 OQ (λ_=>ak) f hl aa (λd _ G' _ Q h=>h G' (.refl _)) (λd hd _=>he d hd) λp hp=>by
  have:src.items.filter (λ_=>ak)=src.items:=List.filter_eq_self.mpr λ_ _=>rfl;rw[this];exact h p hp
abbrev Lz(src:Src)(tg:i0)(tb:bB)(F:eF)(ρ:aN)(G1:Gp):Prop:=∃P:Nat->aN->Gp->Prop,P 0 ρ G1/\(∀k ρ G,k<=src.items.length->P k ρ G->src.ok G) /\
 (∀k d ρ G,src.items[k]?=aj d->P k ρ G->tg d ρ λb8=>tb {F with nx:=P (k+1),ct:=P (k+1),bk:=F.nx} b8 G)/\∀ρ G,P src.items.length ρ G->F.nx ρ G
variable{tg:i0}{F:eF}
def aQG:sv ti tg tb F ρ G=ti ρ G λsrc G1=>Lz src tg tb F ρ G1:=rfl
variable{i:Nat}{d:D}
def aJP:sA i d ρ Q=Q (iS ρ i d):=rfl
def Fw{is:List Nat}{ds:List D}(h:ds.length=is.length):A5 is (.tup ds) ρ Q=Q (uS ρ is ds):=propext ⟨λz=>z.2,λz=>⟨h,z⟩⟩
def aJQ:uS ρ is []=ρ:=by cases is<;>rfl
def OP:uS ρ (i::is) (d::ds)=uS (iS ρ i d) is ds:=rfl
variable{j:Int}
def PY(P:Nat->aN->Gp->Prop)(h0:P 0 ρ G)
  (hb:∀(k:Nat) ρ G,(k:Int)<j->P k ρ G->tg (.int k) ρ λb8=>tb {F with nx:=P (k+1),ct:=P (k+1),bk:=F.nx} b8 G)(he:∀ρ G,P j.toNat ρ G->F.nx ρ G):Lz (.dq (o5 0 j)) tg tb F ρ G:=by
 have hlen:(Src.dq (o5 0 j)).items.length=j.toNat:=by simp[Src.items,o5]
 refine⟨P,h0,λ_ _ _ _ _=>trivial,λk d ρ G hd p=>?_,λρ G p=>he ρ G (hlen ▸ p)⟩;have hk:k<j.toNat:=by rw[←hlen];exact(iz.mp hd).1
 have e:d=.int k:=by
  have:(o5 0 j)[k]?=aj d:=hd;unfold o5 at this;rw[ql,List.getElem?_range ⋯]at this;simp at this;exact this.symm
 subst e;exact hb k ρ G ⋯ p
def Gn{xs:List D}(P:Nat->aN->Gp->Prop)(h0:P 0 ρ G)(hs:∀k ρ G,P k ρ G->cO G q=aj xs)
  (hb:∀k d ρ G,xs[k]?=aj d->P k ρ G->tg d ρ λb8=>tb {F with nx:=P (k+1),ct:=P (k+1),bk:=F.nx} b8 G)(he:∀ρ G,P xs.length ρ G->F.nx ρ G):Lz (.lst q xs) tg tb F ρ G :=
 ⟨P,h0,λk ρ G _ p=>hs k ρ G p,hb,he⟩
section
def aJR{ds:List D}(h:cO G q=aj ds)(hb:ds.all AW=ak):A4 [.ref q] G R=R (.bl (ds.all AV)) G:=by
 unfold A4;simp only[h,hb,true_and]
def SO{i:Int}:Bd [.int i,.int j] G R=R (.int (if j<i then j else i)) G:=rfl
def vP{ds:List D}(h:G p=aj (.lst ds))(hl:ds.length<dh):jM (.ref p) [d] G R=R .ae (aM G p (.lst (ds++[d]))):=by
 unfold jM;simp only[h,hl,true_and]
def PX(h:cO G q=aj ds):Bf [.ref q] G R=∀l,G l=au->R (.ref l) (aM G l (.lst ds)):=by
 unfold Bf;simp only[h]
end
def Zj{z:Str}{i:Int}(hz:z.length<=dh)(h0:0<=i)(h1:i<(z.length:Int))(h:∀c∈z.cps.toList,R (.str ⟨#[c]⟩) G):eU (.str z) (.int i) G R:=by
 let⟨c,e,m⟩:=PZ (xs:=z.cps.toList) h0 (by simpa[Str.length]using h1);rw[aQ9 e];exact⟨hz,h c m⟩
abbrev qa(c:Nat):D:=.str ⟨#[c]⟩
section
end
end L6
namespace L7
open PySem PySem.Spec PyProof.Rows L2 L4 L5 L6
section
variable{F:eF}
def aQH:Dm ρ G R=∀p,G p=au->R (.ref p) (aM G p (.cX ak [])):=rfl
def aQI:CQ to ti tv F ρ G=tv ρ G λv G1=>to ρ G1 λx G2=>ti ρ G2 λy G3=>Fj x y v F ρ G3:=rfl
end
end L7
namespace L8
open PySem PySem.Spec PyProof.Rows L2 L4 L5 L6 L7
variable{d:D}
section
variable{F:eF}{m:Str}{fs:List (Str×D)}
def aVL:cB C ta f ρ G R=ta ρ G λx G1=>C7 C f x G1 R:=rfl
def bW(h:G p=aj (.ins C fs))(e:fs.lookup f=aj d):C7 C f (.ref p) G R=R d G:=by
 unfold L2.C7;simp only[h,e];exact propext ⟨λz=>z.2,λz=>⟨trivial,z⟩⟩
def aQJ:tO C ta tv f F ρ G=tv ρ G λy G1=>ta ρ G1 λx G2=>Cz C f x y F ρ G2:=rfl
def uQ(h:G p=aj (.ins C fs))(hl:fs.length<1000):Cz C f (.ref p) y F ρ G=F.nx ρ (aM G p (.ins C (yo f y fs))):=by
 unfold L2.Cz;simp only[h];exact propext ⟨λz=>z.2.2,λz=>⟨trivial,hl,z⟩⟩
def cF(h:G p=aj (.ins C fs))(e:fs.lookup m=au):A3 C m (.ref p) G=True:=eq_true ⟨p,fs,rfl,h,e⟩
def aJT{t:bo}:cP C m sp dd EX ta t ρ G R=ta ρ G λx G1=>A3 C m x G1/\t ρ G1 λds G2=>sp (x::(ds++dd)) G2 R (EX ρ):=rfl
def aJU{t:bo}:Bc C sp dd EX t ρ G R=t ρ G λds G1=>∀x,G1 x=au->sp (.ref x::(ds++dd)) (aM G1 x (.ins C [])) (λv G2=>v=.ae/\R (.ref x) G2) (EX ρ):=rfl
def aZ8{r:kr}{t:bo}:x4 r to t ρ G R=to ρ G λx G1=>yP x G1/\t ρ G1 λxs G2=>r x xs G2 R:=rfl
def aJV:xH to te tf ρ G R=to ρ G λx G1=>yP x G1/\te ρ G1 λy G2=>tf ρ G2 λz G3=>zO x y G3 λ_ _ kvs k=>R ((bC kvs k).getD z) G3:=rfl
def oX{t:Bool}(h:G p=aj (.cX t kvs)):yP (.ref p) G=True:=by
 unfold L2.yP;simp only[h]
def vQ{t:Bool}{k:DK}(h:G p=aj (.cX t kvs))(hk:iP y=aj k)(ht:zN k=t):zO (.ref p) y G P=P p t kvs k:=by
 unfold L2.zO;simp only[h,hk];exact propext ⟨λz=>z.2,λz=>⟨ht,z⟩⟩
def XW{t:Bool}{k:DK}(h:ym G p=aj (t,kvs))(hk:iP y=aj k)(ht:zN k=t):CU (.ref p) y G P=P kvs k:=by
 unfold L2.CU;simp only[h,hk,ht,true_and]
def XV{t:Bool}(h:G p=aj (.cX t kvs)):ym G p=aj (t,kvs):=by unfold L2.ym;rw[h]
def aDT{t:Bool}{k:DK}(h:ym G p=aj (t,kvs))(hk:iP y=aj k)(ht:zN k=t)(e:bC kvs k=aj d):nQ (.ref p) y G R=R d G:=by
 unfold L2.nQ;rw[XW h hk ht];simp only[e]
def Df{t:Bool}{k:DK}(h:G p=aj (.cX t kvs))(hk:iP y=aj k)(ht:zN k=t)(e:bC kvs k=aj d):nQ (.ref p) y G R=R d G:=aDT (XV h) hk ht e
def OO{kvs:List (DK×D)}(h:G p=aj (.cX ao kvs)):Ba [.ref p] G R=R (.int kvs.length) G:=by
 unfold L2.Ba;simp only[h]
end
end L8
namespace L9
open PySem PySem.Spec PyProof.Rows L2 L4 L5 L6 L7 L8
variable{i:Int}{ps:List (Int×Int)}{d:D}
section
variable{F:eF}{p:bx}
@[simp]def ky(a p:Int):List Key:=[.inl a,.inl p]
def aJW:Dk to ρ G R=to ρ G λx G1=>zr x G1 R:=rfl
def aQK:FA to ρ G R=to ρ G λx G1=>vt x G1 R:=rfl
def Bl{a q:Int}:iP (.tup [.int a,.int q])=aj (.inr (ky a q)):=rfl
def Dw:iP (.int i)=aj (.inl (.inl i)):=rfl
def xK{k:List Key}:∀{M:List (List Key×bx)},bC (M.map c8) (.inr k)=(bC M k).map D.ref
 |[]=>rfl
 |z::M=>by
  rw[kj];unfold bC;by_cases c:z.1=k
  .rw[if_pos c,if_pos (by show(Sum.inr z.1:DK)=_;rw[c])];rfl
  .rw[if_neg c,if_neg (show ¬ (c8 z).1=Sum.inr k from λe=>c (uM _ _ e))];exact xK
def zo{i:Int}:∀{ps:List (Int×Int)},bC (ps.map uO) (.inl (.inl i))=(bC ps i).map D.int
 |[]=>rfl
 |z::M=>by
  rw[kj];unfold bC;by_cases c:z.1=i
  .rw[if_pos c,if_pos (by show(Sum.inl (Sum.inl z.1):DK)=_;rw[c])];rfl
  .rw[if_neg c,if_neg (show ¬ (uO z).1=Sum.inl (Sum.inl i)from λe=>c (by have:=rC _ _ e;injection this))];exact zo
def ON{v:Int}:gB (ps.map uO) (.inl (.inl i)) (.int v)=(gB ps i v).map uO:=by
 unfold gB;rw[zo,GP];split
 ·rw[xg,xg];refine GU λz _=>?_;show(if(Sum.inl (Sum.inl z.1):DK)=_ then _ else _)=uO (if z.1=i then(z.1,v)else z);by_cases c:z.1=i
  .rw[if_pos c,if_pos (by rw[c])];rfl
  .rw[if_neg c,if_neg (λe=>c (by have:=rC _ _ e;injection this))]
 .rw[qz];rfl
def aDU:cD (ps.map uO) (.inl (.inl i))=(cD ps i).map uO:=by
 unfold cD;rw[List.filter_map];congr 1;refine List.filter_congr λz _=>?_;show(!decide ((Sum.inl (Sum.inl z.1):DK)=.inl (.inl i)))=_;by_cases c:z.1=i
 .rw[c];simp
 .rw[decide_eq_false c,decide_eq_false (λe=>c (by have:=rC _ _ e;injection this))]
def aDV{k:List Key}{M:List (List Key×bx)}:cD (M.map c8) (.inr k)=(cD M k).map c8:=by
 unfold cD;rw[List.filter_map];congr 1;refine List.filter_congr λz _=>?_;show(!decide ((Sum.inr z.1:DK)=.inr k))=_;by_cases c:z.1=k
 .rw[c];simp
 .rw[decide_eq_false c,decide_eq_false (λe=>c (uM _ _ e))]
def aDW{κ α:Type}[DecidableEq κ]{kvs:List (κ×α)}{k:κ}{v:α}(h:bC kvs k=au):gB kvs k v=kvs++[(k,v)]:=by
 unfold gB;rw[h];rfl
def aJX{k:DK}{kvs:List (DK×D)}(h:G p=aj (.cX ak kvs))(hk:iP y=aj k)(ht:zN k=ak)(hl:kvs.length<dh)(e:bC kvs k=au):uC (.ref p) [y,z] G R=R z (aM G p (.cX ak (kvs++[(k,z)]))):=by
 unfold L2.uC;simp only;rw[vQ h hk ht];simp only[e,aDW e];exact propext ⟨λw=>w.2.2,λw=>⟨trivial,hl,w⟩⟩
def aJY{k:DK}{kvs:List (DK×D)}(h:G p=aj (.cX ak kvs))(hk:iP y=aj k)(ht:zN k=ak)(hl:kvs.length<dh)(e:bC kvs k=aj d):uC (.ref p) [y,z] G R=R d G:=by
 unfold L2.uC;simp only;rw[vQ h hk ht];simp only[e];exact propext ⟨λw=>w.2.2,λw=>⟨trivial,hl,w⟩⟩
def OM{t:Bool}{k:DK}(h:G p=aj (.cX t kvs))(hk:iP y=aj k)(ht:zN k=t)(e:bC kvs k=aj d):Bb (.ref p) [y] G R=R d (aM G p (.cX t (cD kvs k))):=by
 unfold L2.Bb;simp only;rw[vQ h hk ht];simp only[e]
def OL{t:Bool}{v:D}{k:DK}{kvs:List (DK×D)}(h:G p=aj (.cX t kvs))(hk:iP y=aj k)(ht:zN k=t)(hl:kvs.length<dh):Fj (.ref p) y v F ρ G=F.nx ρ (aM G p (.cX t (gB kvs k v))):=by
 unfold L2.Fj;rw[vQ h hk ht];exact propext ⟨λw=>w.2,λw=>⟨hl,w⟩⟩
def aDX(h:G p=aj (.cX ao (ps.map uO)))(hl:ps.length<64)(k:∀qs:List (Int×Int),qs.Perm ps->eX qs->∀r,G r=au->R (.ref r) (aM G r (.lst (qs.map oN)))):zr (.ref p) G R:=by
 unfold L2.zr;simp only[h];exact⟨ps,rfl,hl,k⟩
def aJZ(h:G p=aj (.cX ao (ps.map uO)))(k:R (.int (ps.map (·.2)).sum) G):vt (.ref p) G R:=by
 unfold L2.vt;simp only[h];exact⟨ps,rfl,k⟩
def aDY{kvs:List (DK×D)}(h:G p=aj (.cX ak kvs))(e:(kvs.map λq=>dQ q.1)=ps.map oN)(nd:ps.Nodup)(hl:ps.length<64)(k:∀qs:List (Int×Int),qs.Perm ps->eX qs->∀r,G r=au->R (.ref r) (aM G r (.lst (qs.map oN)))):xJ [.ref p] G R:=by
 unfold L2.xJ;simp only[h];exact⟨ps,e,nd,hl,k⟩
end
end L9
namespace Hy
open PySem PySem.Spec PyProof.Rows L2 L4 L5 L6
section
variable{ρ:aN}{G:Gp}{F:eF}{tg:i0}{tb:bB}
abbrev SN(src:Src)(tg:i0)(tb:bB)(F:eF)(ρ:aN)(G1:Gp):Prop:=∃P:Nat->aN->Gp->Prop,P 0 ρ G1/\(∀k ρ G,k<=src.items.length->P k ρ G->src.ok G) /\
 (∀k d ρ G,src.items[k]?=aj d->P k ρ G->tg d ρ λb8=>tb {F with nx:=P (k+1),ct:=P (k+1),bk:=λρ G=>src.ok G/\F.nx ρ (src.x3 G)} b8 G)/\∀ρ G,P src.items.length ρ G->F.nx ρ (src.x3 G)
def aQL{ti:ez}:Dj ti tg tb F ρ G=ti ρ G λsrc G1=>SN src tg tb F ρ G1:=rfl
def To{α β:Type}{f:α->β}{l:List α}{k:Nat}{d:β}(h:(l.map f)[k]?=aj d):∃q,l[k]?=aj q/\f q=d:=by
 rw[ql]at h;cases e:l[k]? with
 |none=>rw[e]at h;cases h
 |some q=>rw[e]at h;exact⟨q,rfl,jt.inj h⟩
end
end Hy
namespace VV
open PySem PySem.Spec PyProof.Rows L2 L4 L5 L6
section
end
end VV
namespace L12
open PySem PySem.Spec PyProof.Rows L2 L4 L5 L6
section
end
end L12
namespace L15
open PySem PySem.Spec PyProof.Rows L2 L4 L5 L6
end L15
namespace Hx
open PySem PySem.Spec PyProof.Rows L2 L4 L5 L6 Hy
section
variable{F:eF}{al t:Bool}{kvs:List (DK×D)}{tg:i0}
def Zi:mK al to ρ G Q=to ρ G λx G1=>Fi al x G1 Q:=rfl
def OK(h:G p=aj (.cX t kvs))(k:∀od,Q (.ic p od t kvs) (aM G p (.eA od t kvs))):Fi al (.ref p) G Q:=⟨p,t,kvs,rfl,.inl ⟨h,k⟩⟩
def PV(P:Nat->aN->Gp->Prop)(h0:P 0 ρ G)(hs:∀k ρ G,P k ρ G->G p=aj (.eA od t kvs))
  (hb:∀k q ρ G,kvs[k]?=aj q->P k ρ G->tg (.tup [dQ q.1,q.2]) ρ λb8=>tb {F with nx:=P (k+1),ct:=P (k+1),bk:=λρ G=>G p=aj (.eA od t kvs)/\F.nx ρ (aM G p (.cX t kvs))} b8 G)
  (he:∀ρ G,P kvs.length ρ G->F.nx ρ (aM G p (.cX t kvs))):SN (.ic p od t kvs) tg tb F ρ G :=
 ⟨P,h0,λk ρ G _ q=>hs k ρ G q,λk d ρ G e q=>by let⟨z,e1,rfl⟩:=To e;exact hb k z ρ G e1 q,λρ G q=>he ρ G (by simpa[Src.items]using q)⟩
end
section
variable{K:Fg}{F:eF}
def aQM:Cw K tb hs F ρ G=tb (λgy C G1=>A1 K F C hs gy G1) F ρ G:=rfl
end
def aQN{n:Int}:Fh (.str z) (.int n) G R=(MulOk z n/\R (.str (Txt.mul z n)) G):=propext ⟨λ⟨_,_,e1,e2,ok,h⟩=>by cases e1;cases e2;exact⟨ok,h⟩,λ⟨ok,h⟩=>⟨_,_,rfl,rfl,ok,h⟩⟩
end Hx
namespace Law
open PySem PySem.Spec PyProof.Rows L2 L4
abbrev top(i:Nat):jo:=PySem.Challenge.pw_depot_k43_pieces_of_a_house.main.body.getD i (.Pass ⟨0,0,0,0⟩)
@[simp]def OJ:jo:=top 0
@[simp]def Rv:jo:=top 17
@[simp]def QI:jo:=top 18
@[simp]def QH:jo:=top 19
@[simp]def PU:jo:=top 20
@[simp]def R1:jo:=top 21
@[simp]def QG:jo:=top 24
@[simp]def R0:jo:=top 25
@[simp]def PR:jo:=top 26
@[simp]def RZ:jo:=top 28
@[simp]def Ru:jo:=top 29
@[simp]def Rt:jo:=top 30
@[simp]def Rr:jo:=top 31
@[simp]def U6:jo:=top 32
@[simp]def UI:jo:=inClass (top 41) 10
@[simp]def Rq:jo:=top 38
@[simp]def VH:jo:=inClass (top 39) 8
@[simp]def U5:jo:=inClass (top 41) 13
@[simp]def RY:jo:=top 34
@[simp]def PQ:jo:=top 37
@[simp]def fK:jo:=inClass (top 39) 0
@[simp]def zR:jo:=inClass (top 39) 6
@[simp]def uI:jo:=inClass (top 39) 10
@[simp]def U4:jo:=inClass (top 39) 1
@[simp]def zT:jo:=inClass (top 39) 4
@[simp]def sG:jo:=inClass (top 39) 9
@[simp]def Vx:jo:=inClass (top 39) 2
@[simp]def VG:jo:=inClass (top 39) 3
@[simp]def Vv:jo:=inClass (top 39) 5
@[simp]def zU:jo:=inClass (top 39) 7
@[simp]def gJ:jo:=inClass (top 41) 0
@[simp]def UH:jo:=inClass (top 41) 1
@[simp]def VF:jo:=inClass (top 41) 2
@[simp]def Rp:jo:=inClass (top 41) 3
@[simp]def UG:jo:=inClass (top 41) 4
@[simp]def vR:jo:=inClass (top 41) 5
@[simp]def U3:jo:=inClass (top 41) 6
@[simp]def zV:jo:=inClass (top 41) 7
@[simp]def UE:jo:=inClass (top 41) 8
@[simp]def U2:jo:=inClass (top 41) 9
@[simp]def UD:jo:=inClass (top 41) 11
@[simp]def Vu:jo:=inClass (top 41) 12
@[simp]def mQ:jo:=inClass (top 41) 14
@[simp]def Vt:jo:=inClass (top 41) 15
@[simp]def Vs:jo:=top 43
@[simp]def UC:jo:=top 44
@[simp]def RX:jo:=top 45
@[simp]def RW:jo:=top 46
@[simp]def Ro:jo:=top 47
@[simp]def UB:jo:=top 48
@[simp]def Rn:jo:=top 49
@[simp]def RV:jo:=top 50
@[simp]def Cs:jo:=top 51
set_option genInjectivity false in
structure aU where
 OI:bx
 FL:jf
 Rm:bx
 Hr:jf
 QF:bx
 GC:jf
 QE:bx
 GB:jf
 PN:bx
 Gm:jf
 RU:bx
 xM:jf
 QD:bx
 GA:jf
 RT:bx
 xO:jf
 PM:bx
 Gk:jf
 RS:bx
 xP:jf
 Rl:bx
 Hq:jf
 Rk:bx
 Ho:jf
 Rj:bx
 Hn:jf
 U1:bx
 rE:jf
 oY:bx
 oZ:jf
 Ri:bx
 Hm:jf
 j4:bx
 j5:jf
 mR:bx
 mU:jf
 RQ:bx
 xQ:jf
 PL:bx
 Gj:jf
 bU:bx
 iM:jf
 gK:bx
 gM:jf
 eN:bx
 eO:jf
 mV:bx
 mW:jf
 gO:bx
 gP:jf
 dR:bx
 dU:jf
 jO:bx
 jP:jf
 j6:bx
 j7:jf
 jQ:bx
 jR:jf
 gQ:bx
 gR:jf
 cL:bx
 lK:jf
 p8:bx
 pA:jf
 j8:bx
 j9:jf
 vU:bx
 vV:jf
 pB:bx
 pC:jf
 fL:bx
 fM:jf
 mX:bx
 mY:jf
 gU:bx
 gW:jf
 pD:bx
 pF:jf
 mZ:bx
 n6:jf
 pG:bx
 pH:jf
 jT:bx
 jU:jf
 fZ:bx
 rF:jf
 jV:bx
 jW:jf
 Vr:bx
 pI:jf
 UA:bx
 uR:jf
 RP:bx
 xR:jf
 RO:bx
 xT:jf
 Rh:bx
 Hl:jf
 Uz:bx
 uT:jf
 Rg:bx
 Hk:jf
 RN:bx
 xU:jf
 yi:bx
 SM:jf
 lM:bx
 Gi:bx
 d9:bx
 eY:bx
 FK:bx
 Bk:bx
 Hj:bx
 dW:bx
 bN:bx
 aD:bx
 aC:bx
abbrev aE0(K:Fg)(A:aU)(ex:aN->aV):bB :=
  bT
abbrev aK0(K:Fg)(A:aU)(ex:aN->aV):bB :=
  (JA (aY (aW (.bl ak))) (aE0 K A ex))
abbrev pJ(K:Fg)(A:aU):lJ:=pW 1 1 λEX=>aK0 K A (λ_=>EX)
abbrev aK1:CB:=(.cons (.F4 (.val (.con (.bl ak))) (.cons .pass .nil)) .nil)
abbrev aK2(K:Fg)(A:aU):SI:=⟨["k"],[ak],[ak],[ao],[],[],ak⟩
abbrev Hg(K:Fg)(A:aU)(ex:aN->aV):bB :=
  (cA (nP (fU (aG K) (aA (aB 0) (aA (aW (.ty "int")) aF))) (nP (C0 (fU (aG K) (aA (aB 0) (aA (aW (.ty "bool")) aF)))) (rB kX kX (aB 1) (aB 0) (aB 2)))))
abbrev cI(K:Fg)(A:aU):lJ:=pW 3 3 λEX=>Hg K A (λ_=>EX)
abbrev Zh:CB:=(.cons (.ret (.kU (.cons (.call 1 (.cons (.var 0) (.cons (.cw 0) .nil))) (.cons (.AS (.call 1 (.cons (.var 0) (.cons (.cw 2) .nil)))) (.cons (.chain .LtE .LtE (.var 1) (.var 0) (.var 2)) .nil))))) .nil)
abbrev Zg(K:Fg)(A:aU):SI:=⟨["thing","least","most"],[ak,ak,ak],[ak,ak,ak],[ao,ao,ao],[("int",.bt "int"),("isinstance",.bf .l7),("bool",.bt "bool")],[ak,ak,ak],ak⟩
abbrev RM(K:Fg)(A:aU)(ex:aN->aV):bB :=
  (cA (nP (aP (cI K A) ex (aA (aH eU (aB 0) (aW (.int 0))) (aA (aW (.int 0)) (aA (aH rq (aB 1) (aW (.int 1))) aF)))) (aP (cI K A) ex (aA (aH eU (aB 0) (aW (.int 1))) (aA (aB 2) (aA (aB 3) aF))))))
abbrev zW(K:Fg)(A:aU)(ex:aN->aV):bB :=
  aK (cV (ki (oR (aY (fU (aG K) (aA (aB 0) (aA (aW (.ty "tuple")) aF))))) (aY (aH o6 (fU pR (aA (aB 0) aF)) (aW (.int 2))))) (cA (aW (.bl ao))) bT) (RM K A ex)
abbrev Hf(K:Fg)(A:aU):lJ:=pW 4 4 λEX=>zW K A (λ_=>EX)
abbrev XU:CB:=(.cons (.ifs (.or (.cons (.not (.val (.call 1 (.cons (.var 0) (.cons (.cw 0) .nil))))) (.cons (.cmp .NotEq (.call 2 (.cons (.var 0) .nil)) (.con (.int 2))) .nil))) (.cons (.ret (.con (.bl ao))) .nil) .nil) (.cons (.ret (.kU (.cons (.call 3 (.cons (.ix (.var 0) (.con (.int 0))) (.cons (.con (.int 0)) (.cons (.bin .Sub (.var 1) (.con (.int 1))) .nil)))) (.cons (.call 3 (.cons (.ix (.var 0) (.con (.int 1))) (.cons (.var 2) (.cons (.var 3) .nil)))) .nil)))) .nil))
abbrev XT(K:Fg)(A:aU):SI:=⟨["thing","aisles","first","last"],[ak,ak,ak,ak],[ak,ak,ak,ak],[ao,ao,ao,ao],[("tuple",.bt "tuple"),("isinstance",.bf .l7),("len",.bf .len),("is_whole",.fn (cI K A) 3 ao)],[ak,ak,ak,ak],ak⟩
abbrev RL(K:Fg)(A:aU)(ex:aN->aV):bB :=
  (cA (fU A4 (aA (FD (Be (aB 0)) FE (rB kX kX (aW (.str "a")) (aB 0) (aW (.str "z")))) aF)))
abbrev vA(K:Fg)(A:aU)(ex:aN->aV):bB :=
  aK (cV (ki (oR (aY (fU (aG K) (aA (aB 0) (aA (aW (.ty "str")) aF))))) (oR (aY (rB kX kX (aW (.int 1)) (fU pR (aA (aB 0) aF)) (aW (.int 12)))))) (cA (aW (.bl ao))) bT) (RL K A ex)
abbrev vW(K:Fg)(A:aU):lJ:=pW 1 1 λEX=>vA K A (λ_=>EX)
abbrev XS:CB:=(.cons (.ifs (.or (.cons (.not (.val (.call 1 (.cons (.var 0) (.cons (.cw 0) .nil))))) (.cons (.not (.chain .LtE .LtE (.con (.int 1)) (.call 2 (.cons (.var 0) .nil)) (.cw 3))) .nil))) (.cons (.ret (.con (.bl ao))) .nil) .nil) (.cons (.ret (.call 4 (.cons (.comp [ao] [ao,ao,ao,ao,ao] (.any (.var 0)) .none (.chain .LtE .LtE (.con (.str "a")) (.var 0) (.con (.str "z")))) .nil))) .nil))
abbrev XR(K:Fg)(A:aU):SI:=⟨["thing"],[ak],[ak],[ao],[("str",.bt "str"),("isinstance",.bf .l7),("len",.bf .len),("LONGEST_WARE",.con (.int 12)),("all",.bf .all)],[ak,ak,ak,ak,ak],ak⟩
abbrev Kf(K:Fg)(A:aU)(ex:aN->aV):bB :=
  (cA (aP (cI K A) ex (aA (aB 0) (aA (aW (.int 0)) (aA (aW (.int 9999)) aF)))))
abbrev Gz(K:Fg)(A:aU):lJ:=pW 1 1 λEX=>Kf K A (λ_=>EX)
abbrev aE1:CB:=(.cons (.ret (.call 1 (.cons (.var 0) (.cons (.con (.int 0)) (.cons (.cw 0) .nil))))) .nil)
abbrev aE2(K:Fg)(A:aU):SI:=⟨["thing"],[ak],[ak],[ao],[("LAST_DAY",.con (.int 9999)),("is_whole",.fn (cI K A) 3 ao)],[ak,ak],ak⟩
abbrev Mr(K:Fg)(A:aU)(ex:aN->aV):bB :=
  (cA (aP (cI K A) ex (aA (aB 0) (aA (aW (.int 1)) (aA (aW (.int 1000000)) aF)))))
abbrev uU(K:Fg)(A:aU):lJ:=pW 1 1 λEX=>Mr K A (λ_=>EX)
abbrev N':CB:=(.cons (.ret (.call 1 (.cons (.var 0) (.cons (.con (.int 1)) (.cons (.cw 0) .nil))))) .nil)
abbrev L'(K:Fg)(A:aU):SI:=⟨["thing"],[ak],[ak],[ao],[("MOST_AMOUNT",.con (.int 1000000)),("is_whole",.fn (cI K A) 3 ao)],[ak,ak],ak⟩
abbrev RK(K:Fg)(A:aU)(ex:aN->aV):bB :=
  (cA (aP (cI K A) ex (aA (aH eU (aB 0) (aW (.int 2))) (aA (aW (.int 1)) (aA (aW (.int 20)) aF)))))
abbrev RJ(K:Fg)(A:aU)(ex:aN->aV):bB :=
  aK (cV (ki (oR (aY (aP (cI K A) ex (aA (aH eU (aB 0) (aW (.int 0))) (aA (aW (.int 1)) (aA (aW (.int 26)) aF)))))) (oR (aY (aP (cI K A) ex (aA (aH eU (aB 0) (aW (.int 1))) (aA (aW (.int 1)) (aA (aW (.int 99)) aF))))))) (cA (aW (.bl ao))) bT) (RK K A ex)
abbrev zX(K:Fg)(A:aU)(ex:aN->aV):bB :=
  aK (cV (ki (oR (aY (fU (aG K) (aA (aB 0) (aA (aW (.ty "tuple")) aF))))) (aY (aH o6 (fU pR (aA (aB 0) aF)) (aW (.int 3))))) (cA (aW (.bl ao))) bT) (RJ K A ex)
abbrev He(K:Fg)(A:aU):lJ:=pW 1 1 λEX=>zX K A (λ_=>EX)
abbrev XQ:CB:=(.cons (.ifs (.or (.cons (.not (.val (.call 1 (.cons (.var 0) (.cons (.cw 0) .nil))))) (.cons (.cmp .NotEq (.call 2 (.cons (.var 0) .nil)) (.con (.int 3))) .nil))) (.cons (.ret (.con (.bl ao))) .nil) .nil) (.cons (.ifs (.or (.cons (.not (.val (.call 4 (.cons (.ix (.var 0) (.con (.int 0))) (.cons (.con (.int 1)) (.cons (.cw 3) .nil)))))) (.cons (.not (.val (.call 4 (.cons (.ix (.var 0) (.con (.int 1))) (.cons (.con (.int 1)) (.cons (.cw 5) .nil)))))) .nil))) (.cons (.ret (.con (.bl ao))) .nil) .nil) (.cons (.ret (.call 4 (.cons (.ix (.var 0) (.con (.int 2))) (.cons (.con (.int 1)) (.cons (.cw 6) .nil))))) .nil)))
abbrev XO(K:Fg)(A:aU):SI:=⟨["thing"],[ak],[ak],[ao],[("tuple",.bt "tuple"),("isinstance",.bf .l7),("len",.bf .len),("MOST_AISLES",.con (.int 26)),("is_whole",.fn (cI K A) 3 ao),("MOST_PLACES",.con (.int 99)),("MOST_GAP",.con (.int 20))],[ak,ak,ak,ak,ak,ak,ak],ak⟩
abbrev Mq(K:Fg)(A:aU)(ex:aN->aV):bB :=
  (cV (oR (aY (aP (He K A) ex (aA (aB 0) aF)))) (iK ex A.Gi (aA (aW (.str "a tuple of 1 to 26 aisles, 1 to 99 places and a gap from 1 to 20 is wanted")) aF)) bT)
abbrev iQ(K:Fg)(A:aU):lJ:=pW 1 1 λEX=>Mq K A (λ_=>EX)
abbrev K':CB:=(.cons (.ifs (.not (.val (.call 0 (.cons (.var 0) .nil)))) (.cons (.raise 1 (.con (.str "a tuple of 1 to 26 aisles, 1 to 99 places and a gap from 1 to 20 is wanted")) .nil) .nil) .nil) .nil)
abbrev J'(K:Fg)(A:aU):SI:=⟨["plan"],[ak],[ak],[ao],[("is_plan",.fn (He K A) 1 ao),("NoPlan",.cls A.Gi)],[ak,ak],ak⟩
abbrev Rf(K:Fg)(A:aU)(ex:aN->aV):bB :=
  (cA (aP (Hf K A) ex (aA (aB 1) (aA (aH eU (aB 0) (aW (.int 0))) (aA (aW (.int 1)) (aA (aH eU (aB 0) (aW (.int 1))) aF))))))
abbrev Ke(K:Fg)(A:aU)(ex:aN->aV):bB :=
  aK (aX (aP (iQ K A) ex (aA (aB 0) aF))) (Rf K A ex)
abbrev Gy(K:Fg)(A:aU):lJ:=pW 2 2 λEX=>Ke K A (λ_=>EX)
abbrev aE3:CB:=(.cons (.expr (.call 0 (.cons (.var 0) .nil))) (.cons (.ret (.call 1 (.cons (.var 1) (.cons (.ix (.var 0) (.con (.int 0))) (.cons (.con (.int 1)) (.cons (.ix (.var 0) (.con (.int 1))) .nil)))))) .nil))
abbrev aE4(K:Fg)(A:aU):SI:=⟨["plan","thing"],[ak,ak],[ak,ak],[ao,ao],[("need_plan",.fn (iQ K A) 1 ao),("is_pair",.fn (Hf K A) 4 ao)],[ak,ak],ak⟩
abbrev sH(K:Fg)(A:aU)(ex:aN->aV):bB :=
  (cV (oR (aY (aP (vW K A) ex (aA (aB 0) aF)))) (iK ex A.d9 (aA (aW (.str "a text of 1 to 12 letters a to z is wanted")) aF)) bT)
abbrev eZ(K:Fg)(A:aU):lJ:=pW 1 1 λEX=>sH K A (λ_=>EX)
abbrev D':CB:=(.cons (.ifs (.not (.val (.call 0 (.cons (.var 0) .nil)))) (.cons (.raise 1 (.con (.str "a text of 1 to 12 letters a to z is wanted")) .nil) .nil) .nil) .nil)
abbrev B'(K:Fg)(A:aU):SI:=⟨["thing"],[ak],[ak],[ao],[("is_ware",.fn (vW K A) 1 ao),("NoWare",.cls A.d9)],[ak,ak],ak⟩
abbrev Mj(K:Fg)(A:aU)(ex:aN->aV):bB :=
  (cV (oR (aY (aP (Gz K A) ex (aA (aB 0) aF)))) (iK ex A.eY (aA (aW (.str "a whole number from 0 to 9999 is wanted")) aF)) bT)
abbrev jX(K:Fg)(A:aU):lJ:=pW 1 1 λEX=>Mj K A (λ_=>EX)
abbrev Zf:CB:=(.cons (.ifs (.not (.val (.call 0 (.cons (.var 0) .nil)))) (.cons (.raise 1 (.con (.str "a whole number from 0 to 9999 is wanted")) .nil) .nil) .nil) .nil)
abbrev Ze(K:Fg)(A:aU):SI:=⟨["thing"],[ak],[ak],[ao],[("is_day",.fn (Gz K A) 1 ao),("NoDay",.cls A.eY)],[ak,ak],ak⟩
abbrev vX(K:Fg)(A:aU)(ex:aN->aV):bB :=
  (cV (oR (aY (aP (cI K A) ex (aA (aB 0) (aA (aW (.int 0)) (aA (aH rq (aB 1) (aW (.int 1))) aF)))))) (iK ex A.Bk (aA (aW (.str "there is no lot of that number")) aF)) bT)
abbrev bK(K:Fg)(A:aU):lJ:=pW 2 2 λEX=>vX K A (λ_=>EX)
abbrev Zd:CB:=(.cons (.ifs (.not (.val (.call 0 (.cons (.var 0) (.cons (.con (.int 0)) (.cons (.bin .Sub (.var 1) (.con (.int 1))) .nil)))))) (.cons (.raise 1 (.con (.str "there is no lot of that number")) .nil) .nil) .nil) .nil)
abbrev Zc(K:Fg)(A:aU):SI:=⟨["thing","lots"],[ak,ak],[ak,ak],[ao,ao],[("is_whole",.fn (cI K A) 3 ao),("NoLot",.cls A.Bk)],[ak,ak],ak⟩
abbrev Mi(K:Fg)(A:aU)(ex:aN->aV):bB :=
  (cV (oR (aY (aP (Gy K A) ex (aA (aB 0) (aA (aB 1) aF))))) (iK ex A.FK (aA (aW (.str "a bin of the plan is wanted")) aF)) bT)
abbrev bL(K:Fg)(A:aU):lJ:=pW 2 2 λEX=>Mi K A (λ_=>EX)
abbrev Zb:CB:=(.cons (.ifs (.not (.val (.call 0 (.cons (.var 0) (.cons (.var 1) .nil))))) (.cons (.raise 1 (.con (.str "a bin of the plan is wanted")) .nil) .nil) .nil) .nil)
abbrev Za(K:Fg)(A:aU):SI:=⟨["plan","thing"],[ak,ak],[ak,ak],[ao,ao],[("is_bin",.fn (Gy K A) 2 ao),("NoBin",.cls A.FK)],[ak,ak],ak⟩
abbrev yQ(K:Fg)(A:aU)(ex:aN->aV):bB :=
  (cV (oR (aY (aP (uU K A) ex (aA (aB 0) aF)))) (iK ex A.Hj (aA (aW (.str "a whole number from 1 to 10 ** 6 is wanted")) aF)) bT)
abbrev bJ(K:Fg)(A:aU):lJ:=pW 1 1 λEX=>yQ K A (λ_=>EX)
abbrev ai3:CB:=(.cons (.ifs (.not (.val (.call 0 (.cons (.var 0) .nil)))) (.cons (.raise 1 (.con (.str "a whole number from 1 to 10 ** 6 is wanted")) .nil) .nil) .nil) .nil)
abbrev ai4(K:Fg)(A:aU):SI:=⟨["thing"],[ak],[ak],[ao],[("is_amount",.fn (uU K A) 1 ao),("NoAmount",.cls A.Hj)],[ak,ak],ak⟩
abbrev MX(K:Fg)(A:aU)(ex:aN->aV):bB :=
  (cA (fU Bf (aA (cB A.aC (aB 0) "known") aF)))
abbrev jD(K:Fg)(A:aU):lJ:=pW 1 1 λEX=>MX K A (λ_=>EX)
abbrev alV:CB:=(.cons (.ret (.call 1 (.cons (.fld 0 (.var 0)) .nil))) .nil)
abbrev alW(K:Fg)(A:aU):SI:=⟨["self"],[ak],[ak],[ao],[("House.known",.fl A.aC "known"),("list",.bt "list")],[ao,ak],ak⟩
abbrev U0(K:Fg)(A:aU)(ex:aN->aV):bB :=
  (CQ (aB 1) (aB 2) (fU zt (aA (Dk (aH nQ (aB 0) (aB 2))) aF)))
abbrev Uy(K:Fg)(A:aU)(ex:aN->aV):bB :=
  (cA (aB 1))
abbrev Ux(K:Fg)(A:aU)(ex:aN->aV):bB :=
  aK (sv (x5 (fU xJ (aA (aB 0) aF))) (sA 2) (U0 K A ex)) (Uy K A ex)
abbrev Mh(K:Fg)(A:aU)(ex:aN->aV):bB :=
  aK (cT 1 Dm) (Ux K A ex)
abbrev Mp(K:Fg)(A:aU):lJ:=pW 3 1 λEX=>Mh K A (λ_=>EX)
abbrev Y9:CB:=(.cons (.set 1 .AR) (.cons (.oS (.any (.call 0 (.cons (.var 0) .nil))) (.nm 2) (.cons (.xS (.var 1) (.var 2) (.call 2 (.cons (.sortI 1 (.kN (.var 0) (.var 2))) .nil))) .nil)) (.cons (.ret (.var 1)) .nil)))
abbrev Y8(K:Fg)(A:aU):SI:=⟨["stacks","told","spot"],[ak,ak,ak],[ak,ak,ak],[ao,ao,ao],[("sorted",.bf .Cu),("sorted",.bf .yl),("dict",.bf .Ct)],[ak,ak,ak],ak⟩
abbrev tQ(K:Fg)(A:aU)(ex:aN->aV):bB :=
  (cA (aP (Mp K A) ex (aA (cB A.aD (aB 0) "stacks") aF)))
abbrev lO(K:Fg)(A:aU):lJ:=pW 1 1 λEX=>tQ K A (λ_=>EX)
abbrev acT:CB:=(.cons (.ret (.call 1 (.cons (.fld 0 (.var 0)) .nil))) .nil)
abbrev acU(K:Fg)(A:aU):SI:=⟨["self"],[ak],[ak],[ao],[("Shelves.stacks",.fl A.aD "stacks"),("in_order",.fn (Mp K A) 1 ao)],[ao,ak],ak⟩
abbrev yR(K:Fg)(A:aU)(ex:aN->aV):bB :=
  (cA (cP A.aD "lying" (lO K A) [] ex (cB A.aC (aB 0) "shelves") aF))
abbrev gY(K:Fg)(A:aU):lJ:=pW 1 1 λEX=>yR K A (λ_=>EX)
abbrev ai5:CB:=(.cons (.ret (.eG 1 (.fld 0 (.var 0)) .nil)) .nil)
abbrev ai6(K:Fg)(A:aU):SI:=⟨["self"],[ak],[ak],[ao],[("House.shelves",.fl A.aC "shelves"),("Shelves.lying#0",.me A.aD "lying" (lO K A) [])],[ao,ao],ak⟩
abbrev tR(K:Fg)(A:aU)(ex:aN->aV):bB :=
  (cV (u7 (aY (aH mJ (aH eU (aH eU (aB 3) (aB 7)) (aW (.int 0))) (aB 1))) (aY (aH x8 (aH eU (aH eU (aB 3) (aB 7)) (aW (.int 1))) (aB 2)))) (aX (lI "list" jM (aB 4) (aA (o7 (aA (aB 5) (aA (aB 7) (aA (aB 8) (aA (aH eU (aH eU (aB 3) (aB 7)) (aW (.int 1))) (aA (aH eU (aH eU (aB 3) (aB 7)) (aW (.int 2))) aF)))))) aF))) bT)
abbrev vY(K:Fg)(A:aU)(ex:aN->aV):bB :=
  (Dj (mK ao (aB 6)) (A5 [7,8]) (tR K A ex))
abbrev UZ(K:Fg)(A:aU)(ex:aN->aV):bB :=
  (cA (aB 4))
abbrev UY(K:Fg)(A:aU)(ex:aN->aV):bB :=
  aK (Dj (mK ao (cP A.aC "lying" (gY K A) [] ex (aB 0) aF)) (A5 [5,6]) (vY K A ex)) (UZ K A ex)
abbrev UX(K:Fg)(A:aU)(ex:aN->aV):bB :=
  aK (cT 4 (vK aF)) (UY K A ex)
abbrev UW(K:Fg)(A:aU)(ex:aN->aV):bB :=
  aK (cT 3 (cP A.aC "lots" (jD K A) [] ex (aB 0) aF)) (UX K A ex)
abbrev yS(K:Fg)(A:aU)(ex:aN->aV):bB :=
  aK (aX (aP (jX K A) ex (aA (aB 2) aF))) (UW K A ex)
abbrev jY(K:Fg)(A:aU)(ex:aN->aV):bB :=
  aK (aX (aP (eZ K A) ex (aA (aB 1) aF))) (yS K A ex)
abbrev f9(K:Fg)(A:aU):lJ:=pW 9 3 λEX=>jY K A (λ_=>EX)
abbrev Z9:CB:=(.cons (.expr (.call 0 (.cons (.var 1) .nil))) (.cons (.expr (.call 1 (.cons (.var 2) .nil))) (.cons (.set 3 (.eG 2 (.var 0) .nil)) (.cons (.set 4 (.lst .nil)) (.cons (.AK (.items (.eG 3 (.var 0) .nil)) (.tup [5,6]) (.cons (.AK (.items (.var 6)) (.tup [7,8]) (.cons (.ifs (.and (.cons (.cmp .Eq (.ix (.ix (.var 3) (.var 7)) (.con (.int 0))) (.var 1)) (.cons (.cmp .GtE (.ix (.ix (.var 3) (.var 7)) (.con (.int 1))) (.var 2)) .nil))) (.cons (.expr (.c5 .append (.var 4) (.cons (.tup (.cons (.var 5) (.cons (.var 7) (.cons (.var 8) (.cons (.ix (.ix (.var 3) (.var 7)) (.con (.int 1))) (.cons (.ix (.ix (.var 3) (.var 7)) (.con (.int 2))) .nil)))))) .nil))) .nil) .nil) .nil)) .nil)) (.cons (.ret (.var 4)) .nil))))))
abbrev Z8(K:Fg)(A:aU):SI:=⟨["house","ware","day","lots","pieces","spot","held","lot","amount"],[ak,ak,ak,ak,ak,ak,ak,ak,ak],[ak,ak,ak,ak,ak,ak,ak,ak,ak],[ao,ao,ao,ao,ao,ao,ao,ao,ao],[("need_ware",.fn (eZ K A) 1 ao),("need_day",.fn (jX K A) 1 ao),("House.lots#0",.me A.aC "lots" (jD K A) []),("House.lying#0",.me A.aC "lying" (gY K A) [])],[ak,ak,ao,ao],ak⟩
abbrev Hd(K:Fg)(A:aU)(ex:aN->aV):bB :=
  (cV (aY (aH mJ (fU Ba (aA (aB 4) aF)) (aW (.int 0)))) (aX (x4 Bb (aB 0) (aA (aB 1) aF))) bT)
abbrev Rc(K:Fg)(A:aU)(ex:aN->aV):bB :=
  aK (cV (aY (aH mJ (aH nQ (aB 4) (aB 2)) (aW (.int 0)))) (aX (x4 Bb (aB 4) (aA (aB 2) aF))) bT) (Hd K A ex)
abbrev Mg(K:Fg)(A:aU)(ex:aN->aV):bB :=
  aK (CQ (aB 4) (aB 2) (aH gG (xH (aB 4) (aB 2) (aW (.int 0))) (aB 3))) (Rc K A ex)
abbrev Dv(K:Fg)(A:aU)(ex:aN->aV):bB :=
  aK (cT 4 (x4 uC (aB 0) (aA (aB 1) (aA yT aF)))) (Mg K A ex)
abbrev fD(K:Fg)(A:aU):lJ:=pW 5 4 λEX=>Dv K A (λ_=>EX)
abbrev aE5:CB:=(.cons (.set 4 (.dm .El (.var 0) (.var 1) (.cons .qV .nil))) (.cons (.xS (.var 4) (.var 2) (.bin .Add (.oQ (.var 4) (.var 2) (.con (.int 0))) (.var 3))) (.cons (.ifs (.cmp .Eq (.kN (.var 4) (.var 2)) (.con (.int 0))) (.cons (.expr (.dm .pop (.var 4) (.var 2) .nil)) .nil) .nil) (.cons (.ifs (.cmp .Eq (.call 0 (.cons (.var 4) .nil)) (.con (.int 0))) (.cons (.expr (.dm .pop (.var 0) (.var 1) .nil)) .nil) .nil) .nil))))
abbrev aE6(K:Fg)(A:aU):SI:=⟨["stacks","spot","lot","more","held"],[ak,ak,ak,ak,ak],[ak,ak,ak,ak,ak],[ao,ao,ao,ao,ao],[("len",.bf .C5)],[ak],ak⟩
abbrev sI(K:Fg)(A:aU)(ex:aN->aV):bB :=
  (tO A.aD (aB 0) Dm "stacks")
abbrev sJ(K:Fg)(A:aU)(ex:aN->aV):bB :=
  aK (tO A.aD (aB 0) (aB 2) "room") (sI K A ex)
abbrev sO(K:Fg)(A:aU)(ex:aN->aV):bB :=
  aK (tO A.aD (aB 0) (aB 1) "layout") (sJ K A ex)
abbrev sU(K:Fg)(A:aU)(ex:aN->aV):bB :=
  aK (aX (aP (bJ K A) ex (aA (aB 2) aF))) (sO K A ex)
abbrev nT(K:Fg)(A:aU)(ex:aN->aV):bB :=
  aK (aX (aP (iQ K A) ex (aA (aB 1) aF))) (sU K A ex)
abbrev gC(K:Fg)(A:aU):lJ:=pW 3 3 λEX=>nT K A (λ_=>EX)
abbrev fO:CB:=(.cons (.expr (.call 0 (.cons (.var 1) .nil))) (.cons (.expr (.call 1 (.cons (.var 2) .nil))) (.cons (.iO 2 (.var 0) (.var 1)) (.cons (.iO 3 (.var 0) (.var 2)) (.cons (.iO 4 (.var 0) .AR) .nil)))))
abbrev a7D(K:Fg)(A:aU):SI:=⟨["self","plan","room"],[ak,ak,ak],[ak,ak,ak],[ao,ao,ao],[("need_plan",.fn (iQ K A) 1 ao),("need_amount",.fn (bJ K A) 1 ao),("Shelves.layout",.fl A.aD "layout"),("Shelves.room",.fl A.aD "room"),("Shelves.stacks",.fl A.aD "stacks")],[ak,ak,ao,ao,ao],ak⟩
abbrev vZ(K:Fg)(A:aU)(ex:aN->aV):bB :=
  (cA (FA (xH (cB A.aD (aB 0) "stacks") (aB 1) yT)))
abbrev qC(K:Fg)(A:aU)(ex:aN->aV):bB :=
  aK (aX (aP (bL K A) ex (aA (cB A.aD (aB 0) "layout") (aA (aB 1) aF)))) (vZ K A ex)
abbrev jH(K:Fg)(A:aU):lJ:=pW 2 2 λEX=>qC K A (λ_=>EX)
abbrev aaN:CB:=(.cons (.expr (.call 1 (.cons (.fld 0 (.var 0)) (.cons (.var 1) .nil)))) (.cons (.ret (.AQ 2 (.oQ (.fld 3 (.var 0)) (.var 1) .qV))) .nil))
abbrev aaO(K:Fg)(A:aU):SI:=⟨["self","spot"],[ak,ak],[ak,ak],[ao,ao],[("Shelves.layout",.fl A.aD "layout"),("need_bin",.fn (bL K A) 2 ao),("sum",.bf .sum),("Shelves.stacks",.fl A.aD "stacks")],[ao,ak,ak,ao],ak⟩
abbrev m9(K:Fg)(A:aU)(ex:aN->aV):bB :=
  (cV (aY (aH x9 (aH gG (cP A.aD "filled" (jH K A) [] ex (aB 0) (aA (aB 1) aF)) (aB 2)) (cB A.aD (aB 0) "room"))) (iK ex A.dW (aA (aW (.str "the bin would have more than its room")) aF)) bT)
abbrev cU(K:Fg)(A:aU):lJ:=pW 3 3 λEX=>m9 K A (λ_=>EX)
abbrev a5S:CB:=(.cons (.ifs (.cmp .Gt (.bin .Add (.eG 0 (.var 0) (.cons (.var 1) .nil)) (.var 2)) (.fld 1 (.var 0))) (.cons (.raise 2 (.con (.str "the bin would have more than its room")) .nil) .nil) .nil) .nil)
abbrev a5T(K:Fg)(A:aU):SI:=⟨["self","spot","amount"],[ak,ak,ak],[ak,ak,ak],[ao,ao,ao],[("Shelves.filled#1",.me A.aD "filled" (jH K A) []),("Shelves.room",.fl A.aD "room"),("NoRoom",.cls A.dW)],[ao,ao,ak],ak⟩
abbrev VE(K:Fg)(A:aU)(ex:aN->aV):bB :=
  (aX (aP (fD K A) ex (aA (cB A.aD (aB 0) "stacks") (aA (aB 2) (aA (aB 1) (aA (aB 3) aF))))))
abbrev VD(K:Fg)(A:aU)(ex:aN->aV):bB :=
  aK (aX (cP A.aD "need_room" (cU K A) [] ex (aB 0) (aA (aB 2) (aA (aB 3) aF)))) (VE K A ex)
abbrev VC(K:Fg)(A:aU)(ex:aN->aV):bB :=
  aK (aX (aP (bJ K A) ex (aA (aB 3) aF))) (VD K A ex)
abbrev VB(K:Fg)(A:aU)(ex:aN->aV):bB :=
  aK (aX (aP (bL K A) ex (aA (cB A.aD (aB 0) "layout") (aA (aB 2) aF)))) (VC K A ex)
abbrev yU(K:Fg)(A:aU)(ex:aN->aV):bB :=
  aK (aX (aP (bK K A) ex (aA (aB 1) (aA (aW (.int 1000)) aF)))) (VB K A ex)
abbrev jZ(K:Fg)(A:aU):lJ:=pW 4 4 λEX=>yU K A (λ_=>EX)
abbrev ai7:CB:=(.cons (.expr (.call 1 (.cons (.var 1) (.cons (.cw 0) .nil)))) (.cons (.expr (.call 3 (.cons (.fld 2 (.var 0)) (.cons (.var 2) .nil)))) (.cons (.expr (.call 4 (.cons (.var 3) .nil))) (.cons (.expr (.eG 5 (.var 0) (.cons (.var 2) (.cons (.var 3) .nil)))) (.cons (.expr (.call 7 (.cons (.fld 6 (.var 0)) (.cons (.var 2) (.cons (.var 1) (.cons (.var 3) .nil)))))) .nil)))))
abbrev ai8(K:Fg)(A:aU):SI:=⟨["self","lot","spot","amount"],[ak,ak,ak,ak],[ak,ak,ak,ak],[ao,ao,ao,ao],[("MOST_LOTS",.con (.int 1000)),("need_lot",.fn (bK K A) 2 ao),("Shelves.layout",.fl A.aD "layout"),("need_bin",.fn (bL K A) 2 ao),("need_amount",.fn (bJ K A) 1 ao),("Shelves.need_room#2",.me A.aD "need_room" (cU K A) []),("Shelves.stacks",.fl A.aD "stacks"),("change",.fn (fD K A) 4 ao)],[ak,ak,ao,ak,ak,ao,ao,ak],ak⟩
abbrev w5(K:Fg)(A:aU)(ex:aN->aV):bB :=
  (cA (xH (xH (cB A.aD (aB 0) "stacks") (aB 2) yT) (aB 1) (aW (.int 0))))
abbrev w6(K:Fg)(A:aU)(ex:aN->aV):bB :=
  aK (aX (aP (bL K A) ex (aA (cB A.aD (aB 0) "layout") (aA (aB 2) aF)))) (w5 K A ex)
abbrev qD(K:Fg)(A:aU)(ex:aN->aV):bB :=
  aK (aX (aP (bK K A) ex (aA (aB 1) (aA (aW (.int 1000)) aF)))) (w6 K A ex)
abbrev eE(K:Fg)(A:aU):lJ:=pW 3 3 λEX=>qD K A (λ_=>EX)
abbrev aaP:CB:=(.cons (.expr (.call 1 (.cons (.var 1) (.cons (.cw 0) .nil)))) (.cons (.expr (.call 3 (.cons (.fld 2 (.var 0)) (.cons (.var 2) .nil)))) (.cons (.ret (.oQ (.oQ (.fld 4 (.var 0)) (.var 2) .qV) (.var 1) (.con (.int 0)))) .nil)))
abbrev aaQ(K:Fg)(A:aU):SI:=⟨["self","lot","spot"],[ak,ak,ak],[ak,ak,ak],[ao,ao,ao],[("MOST_LOTS",.con (.int 1000)),("need_lot",.fn (bK K A) 2 ao),("Shelves.layout",.fl A.aD "layout"),("need_bin",.fn (bL K A) 2 ao),("Shelves.stacks",.fl A.aD "stacks")],[ak,ak,ao,ak,ao],ak⟩
abbrev kJ(K:Fg)(A:aU)(ex:aN->aV):bB :=
  (cV (aY (aH ue (cP A.aD "amount" (eE K A) [] ex (aB 0) (aA (aB 1) (aA (aB 2) aF))) (aB 3))) (iK ex A.bN (aA (aW (.str "less of the lot lies in the bin")) aF)) bT)
abbrev bO(K:Fg)(A:aU):lJ:=pW 4 4 λEX=>kJ K A (λ_=>EX)
abbrev a3T:CB:=(.cons (.ifs (.cmp .Lt (.eG 0 (.var 0) (.cons (.var 1) (.cons (.var 2) .nil))) (.var 3)) (.cons (.raise 1 (.con (.str "less of the lot lies in the bin")) .nil) .nil) .nil) .nil)
abbrev a3U(K:Fg)(A:aU):SI:=⟨["self","lot","spot","amount"],[ak,ak,ak,ak],[ak,ak,ak,ak],[ao,ao,ao,ao],[("Shelves.amount#2",.me A.aD "amount" (eE K A) []),("TooLittle",.cls A.bN)],[ao,ak],ak⟩
abbrev zY(K:Fg)(A:aU)(ex:aN->aV):bB :=
  (aX (aP (fD K A) ex (aA (cB A.aD (aB 0) "stacks") (aA (aB 2) (aA (aB 1) (aA (CA (aB 3)) aF))))))
abbrev zZ(K:Fg)(A:aU)(ex:aN->aV):bB :=
  aK (aX (cP A.aD "need_there" (bO K A) [] ex (aB 0) (aA (aB 1) (aA (aB 2) (aA (aB 3) aF))))) (zY K A ex)
abbrev VQ(K:Fg)(A:aU)(ex:aN->aV):bB :=
  aK (aX (aP (bJ K A) ex (aA (aB 3) aF))) (zZ K A ex)
abbrev VP(K:Fg)(A:aU)(ex:aN->aV):bB :=
  aK (aX (aP (bL K A) ex (aA (cB A.aD (aB 0) "layout") (aA (aB 2) aF)))) (VQ K A ex)
abbrev wA(K:Fg)(A:aU)(ex:aN->aV):bB :=
  aK (aX (aP (bK K A) ex (aA (aB 1) (aA (aW (.int 1000)) aF)))) (VP K A ex)
abbrev jA(K:Fg)(A:aU):lJ:=pW 4 4 λEX=>wA K A (λ_=>EX)
abbrev afR:CB:=(.cons (.expr (.call 1 (.cons (.var 1) (.cons (.cw 0) .nil)))) (.cons (.expr (.call 3 (.cons (.fld 2 (.var 0)) (.cons (.var 2) .nil)))) (.cons (.expr (.call 4 (.cons (.var 3) .nil))) (.cons (.expr (.eG 5 (.var 0) (.cons (.var 1) (.cons (.var 2) (.cons (.var 3) .nil))))) (.cons (.expr (.call 7 (.cons (.fld 6 (.var 0)) (.cons (.var 2) (.cons (.var 1) (.cons (.neg (.var 3)) .nil)))))) .nil)))))
abbrev afS(K:Fg)(A:aU):SI:=⟨["self","lot","spot","amount"],[ak,ak,ak,ak],[ak,ak,ak,ak],[ao,ao,ao,ao],[("MOST_LOTS",.con (.int 1000)),("need_lot",.fn (bK K A) 2 ao),("Shelves.layout",.fl A.aD "layout"),("need_bin",.fn (bL K A) 2 ao),("need_amount",.fn (bJ K A) 1 ao),("Shelves.need_there#3",.me A.aD "need_there" (bO K A) []),("Shelves.stacks",.fl A.aD "stacks"),("change",.fn (fD K A) 4 ao)],[ak,ak,ao,ak,ak,ao,ao,ak],ak⟩
abbrev sV(K:Fg)(A:aU)(ex:aN->aV):bB :=
  (aX (aP (fD K A) ex (aA (cB A.aD (aB 0) "stacks") (aA (aB 3) (aA (aB 1) (aA (aB 4) aF))))))
abbrev sW(K:Fg)(A:aU)(ex:aN->aV):bB :=
  aK (aX (aP (fD K A) ex (aA (cB A.aD (aB 0) "stacks") (aA (aB 2) (aA (aB 1) (aA (CA (aB 4)) aF)))))) (sV K A ex)
abbrev xV(K:Fg)(A:aU)(ex:aN->aV):bB :=
  (cV (aY (aH o6 (aB 2) (aB 3))) (aK (aX (cP A.aD "need_room" (cU K A) [] ex (aB 0) (aA (aB 3) (aA (aB 4) aF)))) (sW K A ex)) bT)
abbrev xW(K:Fg)(A:aU)(ex:aN->aV):bB :=
  aK (aX (cP A.aD "need_there" (bO K A) [] ex (aB 0) (aA (aB 1) (aA (aB 2) (aA (aB 4) aF))))) (xV K A ex)
abbrev xX(K:Fg)(A:aU)(ex:aN->aV):bB :=
  aK (aX (aP (bJ K A) ex (aA (aB 4) aF))) (xW K A ex)
abbrev xY(K:Fg)(A:aU)(ex:aN->aV):bB :=
  aK (aX (aP (bL K A) ex (aA (cB A.aD (aB 0) "layout") (aA (aB 3) aF)))) (xX K A ex)
abbrev xZ(K:Fg)(A:aU)(ex:aN->aV):bB :=
  aK (aX (aP (bL K A) ex (aA (cB A.aD (aB 0) "layout") (aA (aB 2) aF)))) (xY K A ex)
abbrev tU(K:Fg)(A:aU)(ex:aN->aV):bB :=
  aK (aX (aP (bK K A) ex (aA (aB 1) (aA (aW (.int 1000)) aF)))) (xZ K A ex)
abbrev lQ(K:Fg)(A:aU):lJ:=pW 5 5 λEX=>tU K A (λ_=>EX)
abbrev acV:CB:=(.cons (.expr (.call 1 (.cons (.var 1) (.cons (.cw 0) .nil)))) (.cons (.expr (.call 3 (.cons (.fld 2 (.var 0)) (.cons (.var 2) .nil)))) (.cons (.expr (.call 3 (.cons (.fld 2 (.var 0)) (.cons (.var 3) .nil)))) (.cons (.expr (.call 4 (.cons (.var 4) .nil))) (.cons (.expr (.eG 5 (.var 0) (.cons (.var 1) (.cons (.var 2) (.cons (.var 4) .nil))))) (.cons (.ifs (.cmp .NotEq (.var 2) (.var 3)) (.cons (.expr (.eG 6 (.var 0) (.cons (.var 3) (.cons (.var 4) .nil)))) (.cons (.expr (.call 8 (.cons (.fld 7 (.var 0)) (.cons (.var 2) (.cons (.var 1) (.cons (.neg (.var 4)) .nil)))))) (.cons (.expr (.call 8 (.cons (.fld 7 (.var 0)) (.cons (.var 3) (.cons (.var 1) (.cons (.var 4) .nil)))))) .nil))) .nil) .nil))))))
abbrev acW(K:Fg)(A:aU):SI:=⟨["self","lot","one","other","amount"],[ak,ak,ak,ak,ak],[ak,ak,ak,ak,ak],[ao,ao,ao,ao,ao],[("MOST_LOTS",.con (.int 1000)),("need_lot",.fn (bK K A) 2 ao),("Shelves.layout",.fl A.aD "layout"),("need_bin",.fn (bL K A) 2 ao),("need_amount",.fn (bJ K A) 1 ao),("Shelves.need_there#3",.me A.aD "need_there" (bO K A) []),("Shelves.need_room#2",.me A.aD "need_room" (cU K A) []),("Shelves.stacks",.fl A.aD "stacks"),("change",.fn (fD K A) 4 ao)],[ak,ak,ao,ak,ak,ao,ao,ao,ak],ak⟩
abbrev aaR(K:Fg)(A:aU)(ex:aN->aV):bB :=
  (cA (Dk (xH (cB A.aD (aB 0) "stacks") (aB 1) yT)))
abbrev afT(K:Fg)(A:aU)(ex:aN->aV):bB :=
  aK (aX (aP (bL K A) ex (aA (cB A.aD (aB 0) "layout") (aA (aB 1) aF)))) (aaR K A ex)
abbrev acX(K:Fg)(A:aU):lJ:=pW 2 2 λEX=>afT K A (λ_=>EX)
abbrev afU:CB:=(.cons (.expr (.call 1 (.cons (.fld 0 (.var 0)) (.cons (.var 1) .nil)))) (.cons (.ret (.sortI 2 (.oQ (.fld 3 (.var 0)) (.var 1) .qV))) .nil))
abbrev afV(K:Fg)(A:aU):SI:=⟨["self","spot"],[ak,ak],[ak,ak],[ao,ao],[("Shelves.layout",.fl A.aD "layout"),("need_bin",.fn (bL K A) 2 ao),("sorted",.bf .yl),("Shelves.stacks",.fl A.aD "stacks")],[ao,ak,ak,ao],ak⟩
abbrev a7E(K:Fg)(A:aU)(ex:aN->aV):bB :=
  (cA (FD (Be (fU xJ (aA (cB A.aD (aB 0) "stacks") aF))) (aY (aH LI (aB 2) (aH nQ (cB A.aD (aB 1) "stacks") (aB 0)))) (o7 (aA (aB 0) (aA (aH nQ (aH nQ (cB A.aD (aB 1) "stacks") (aB 0)) (aB 2)) aF)))))
abbrev aaS(K:Fg)(A:aU)(ex:aN->aV):bB :=
  aK (aX (aP (bK K A) ex (aA (aB 1) (aA (aW (.int 1000)) aF)))) (a7E K A ex)
abbrev a97(K:Fg)(A:aU):lJ:=pW 2 2 λEX=>aaS K A (λ_=>EX)
abbrev aaT:CB:=(.cons (.expr (.call 1 (.cons (.var 1) (.cons (.cw 0) .nil)))) (.cons (.ret (.comp [ak,ak] [ao,ao,ao,ao] (.any (.call 3 (.cons (.fld 2 (.var 0)) .nil))) (.some (.qS ao (.var 2) (.kN (.fld 2 (.var 1)) (.var 0)))) (.tup (.cons (.var 0) (.cons (.kN (.kN (.fld 2 (.var 1)) (.var 0)) (.var 2)) .nil))))) .nil))
abbrev aaU(K:Fg)(A:aU):SI:=⟨["self","lot"],[ak,ak],[ao,ao],[ak,ak],[("MOST_LOTS",.con (.int 1000)),("need_lot",.fn (bK K A) 2 ao),("Shelves.stacks",.fl A.aD "stacks"),("sorted",.bf .Cu)],[ak,ak,ao,ak],ak⟩
abbrev wB(K:Fg)(A:aU)(ex:aN->aV):bB :=
  (tO A.aC (aB 0) (vK aF) "done")
abbrev wC(K:Fg)(A:aU)(ex:aN->aV):bB :=
  aK (tO A.aC (aB 0) (vK aF) "known") (wB K A ex)
abbrev wD(K:Fg)(A:aU)(ex:aN->aV):bB :=
  aK (tO A.aC (aB 0) (aW (.int 0)) "day") (wC K A ex)
abbrev wF(K:Fg)(A:aU)(ex:aN->aV):bB :=
  aK (tO A.aC (aB 0) (aB 1) "layout") (wD K A ex)
abbrev qF(K:Fg)(A:aU)(ex:aN->aV):bB :=
  aK (tO A.aC (aB 0) (Bc A.aD (gC K A) [] ex (aA (aB 1) (aA (aB 2) aF))) "shelves") (wF K A ex)
abbrev jJ(K:Fg)(A:aU):lJ:=pW 3 3 λEX=>qF K A (λ_=>EX)
abbrev gZ:CB:=(.cons (.iO 1 (.var 0) (.call 0 (.cons (.var 1) (.cons (.var 2) .nil)))) (.cons (.iO 2 (.var 0) (.var 1)) (.cons (.iO 3 (.var 0) (.con (.int 0))) (.cons (.iO 4 (.var 0) (.lst .nil)) (.cons (.iO 5 (.var 0) (.lst .nil)) .nil)))))
abbrev aaV(K:Fg)(A:aU):SI:=⟨["self","plan","room"],[ak,ak,ak],[ak,ak,ak],[ao,ao,ao],[("Shelves",.kl A.aD (gC K A) []),("House.shelves",.fl A.aC "shelves"),("House.layout",.fl A.aC "layout"),("House.day",.fl A.aC "day"),("House.known",.fl A.aC "known"),("House.done",.fl A.aC "done")],[ak,ao,ao,ao,ao,ao],ak⟩
abbrev VA(K:Fg)(A:aU)(ex:aN->aV):bB :=
  (cA (aB 5))
abbrev Vz(K:Fg)(A:aU)(ex:aN->aV):bB :=
  aK (aX (lI "list" jM (cB A.aC (aB 0) "done") (aA (o7 (aA (aW (.str "come")) (aA (aB 5) (aA (aB 1) (aA (aB 2) (aA (aB 3) (aA (aB 4) aF))))))) aF))) (VA K A ex)
abbrev Vq(K:Fg)(A:aU)(ex:aN->aV):bB :=
  aK (aX (lI "list" jM (cB A.aC (aB 0) "known") (aA (o7 (aA (aB 1) (aA (aB 2) (aA (cB A.aC (aB 0) "day") aF)))) aF))) (Vz K A ex)
abbrev Vp(K:Fg)(A:aU)(ex:aN->aV):bB :=
  aK (aX (cP A.aD "put" (jZ K A) [] ex (cB A.aC (aB 0) "shelves") (aA (aB 5) (aA (aB 3) (aA (aB 4) aF))))) (Vq K A ex)
abbrev Vo(K:Fg)(A:aU)(ex:aN->aV):bB :=
  aK (cV (aY (aH x8 (aB 5) (aW (.int 1000)))) (iK ex A.Bk (aA (aW (.str "the house has 1000 lots already")) aF)) bT) (Vp K A ex)
abbrev Vn(K:Fg)(A:aU)(ex:aN->aV):bB :=
  aK (cT 5 (fU pR (aA (cB A.aC (aB 0) "known") aF))) (Vo K A ex)
abbrev Vm(K:Fg)(A:aU)(ex:aN->aV):bB :=
  aK (cV (aY (aH ue (aB 2) (cB A.aC (aB 0) "day"))) (iK ex A.eY (aA (aW (.str "the lot would be good no more")) aF)) bT) (Vn K A ex)
abbrev Vl(K:Fg)(A:aU)(ex:aN->aV):bB :=
  aK (aX (aP (bJ K A) ex (aA (aB 4) aF))) (Vm K A ex)
abbrev Vk(K:Fg)(A:aU)(ex:aN->aV):bB :=
  aK (aX (aP (bL K A) ex (aA (cB A.aC (aB 0) "layout") (aA (aB 3) aF)))) (Vl K A ex)
abbrev Vj(K:Fg)(A:aU)(ex:aN->aV):bB :=
  aK (aX (aP (jX K A) ex (aA (aB 2) aF))) (Vk K A ex)
abbrev MW(K:Fg)(A:aU)(ex:aN->aV):bB :=
  aK (aX (aP (eZ K A) ex (aA (aB 1) aF))) (Vj K A ex)
abbrev rG(K:Fg)(A:aU):lJ:=pW 6 5 λEX=>MW K A (λ_=>EX)
abbrev alX:CB:=(.cons (.expr (.call 0 (.cons (.var 1) .nil))) (.cons (.expr (.call 1 (.cons (.var 2) .nil))) (.cons (.expr (.call 3 (.cons (.fld 2 (.var 0)) (.cons (.var 3) .nil)))) (.cons (.expr (.call 4 (.cons (.var 4) .nil))) (.cons (.ifs (.cmp .Lt (.var 2) (.fld 5 (.var 0))) (.cons (.raise 6 (.con (.str "the lot would be good no more")) .nil) .nil) .nil) (.cons (.set 5 (.call 8 (.cons (.fld 7 (.var 0)) .nil))) (.cons (.ifs (.cmp .GtE (.var 5) (.cw 9)) (.cons (.raise 10 (.con (.str "the house has 1000 lots already")) .nil) .nil) .nil) (.cons (.expr (.eG 12 (.fld 11 (.var 0)) (.cons (.var 5) (.cons (.var 3) (.cons (.var 4) .nil))))) (.cons (.expr (.c5 .append (.fld 7 (.var 0)) (.cons (.tup (.cons (.var 1) (.cons (.var 2) (.cons (.fld 5 (.var 0)) .nil)))) .nil))) (.cons (.expr (.c5 .append (.fld 13 (.var 0)) (.cons (.tup (.cons (.con (.str "come")) (.cons (.var 5) (.cons (.var 1) (.cons (.var 2) (.cons (.var 3) (.cons (.var 4) .nil))))))) .nil))) (.cons (.ret (.var 5)) .nil)))))))))))
abbrev alY(K:Fg)(A:aU):SI:=⟨["self","ware","due","spot","amount","lot"],[ak,ak,ak,ak,ak,ak],[ak,ak,ak,ak,ak,ak],[ao,ao,ao,ao,ao,ao],[("need_ware",.fn (eZ K A) 1 ao),("need_day",.fn (jX K A) 1 ao),("House.layout",.fl A.aC "layout"),("need_bin",.fn (bL K A) 2 ao),("need_amount",.fn (bJ K A) 1 ao),("House.day",.fl A.aC "day"),("NoDay",.cls A.eY),("House.known",.fl A.aC "known"),("len",.bf .len),("MOST_LOTS",.con (.int 1000)),("NoLot",.cls A.Bk),("House.shelves",.fl A.aC "shelves"),("Shelves.put#3",.me A.aD "put" (jZ K A) []),("House.done",.fl A.aC "done")],[ak,ak,ao,ak,ak,ao,ak,ao,ak,ak,ak,ao,ao,ao],ak⟩
abbrev yC(K:Fg)(A:aU)(ex:aN->aV):bB :=
  (aX (cP A.aD "need_there" (bO K A) [] ex (cB A.aC (aB 0) "shelves") (aA (aB 1) (aA (aB 2) (aA (aB 3) aF)))))
abbrev yD(K:Fg)(A:aU)(ex:aN->aV):bB :=
  aK (aX (aP (bJ K A) ex (aA (aB 3) aF))) (yC K A ex)
abbrev yE(K:Fg)(A:aU)(ex:aN->aV):bB :=
  aK (aX (aP (bL K A) ex (aA (cB A.aC (aB 0) "layout") (aA (aB 2) aF)))) (yD K A ex)
abbrev tV(K:Fg)(A:aU)(ex:aN->aV):bB :=
  aK (aX (aP (bK K A) ex (aA (aB 1) (aA (fU pR (aA (cB A.aC (aB 0) "known") aF)) aF)))) (yE K A ex)
abbrev lR(K:Fg)(A:aU):lJ:=pW 4 4 λEX=>tV K A (λ_=>EX)
abbrev acY:CB:=(.cons (.expr (.call 2 (.cons (.var 1) (.cons (.call 1 (.cons (.fld 0 (.var 0)) .nil)) .nil)))) (.cons (.expr (.call 4 (.cons (.fld 3 (.var 0)) (.cons (.var 2) .nil)))) (.cons (.expr (.call 5 (.cons (.var 3) .nil))) (.cons (.expr (.eG 7 (.fld 6 (.var 0)) (.cons (.var 1) (.cons (.var 2) (.cons (.var 3) .nil))))) .nil))))
abbrev acZ(K:Fg)(A:aU):SI:=⟨["self","lot","spot","amount"],[ak,ak,ak,ak],[ak,ak,ak,ak],[ao,ao,ao,ao],[("House.known",.fl A.aC "known"),("len",.bf .len),("need_lot",.fn (bK K A) 2 ao),("House.layout",.fl A.aC "layout"),("need_bin",.fn (bL K A) 2 ao),("need_amount",.fn (bJ K A) 1 ao),("House.shelves",.fl A.aC "shelves"),("Shelves.need_there#3",.me A.aD "need_there" (bO K A) [])],[ao,ak,ak,ao,ak,ak,ao,ao],ak⟩
abbrev Uw(K:Fg)(A:aU)(ex:aN->aV):bB :=
  (aX (lI "list" jM (cB A.aC (aB 0) "done") (aA (o7 (aA (aW (.str "go")) (aA (aB 1) (aA (aB 2) (aA (aB 3) aF))))) aF)))
abbrev Uv(K:Fg)(A:aU)(ex:aN->aV):bB :=
  aK (aX (cP A.aD "take" (jA K A) [] ex (cB A.aC (aB 0) "shelves") (aA (aB 1) (aA (aB 2) (aA (aB 3) aF))))) (Uw K A ex)
abbrev Mf(K:Fg)(A:aU)(ex:aN->aV):bB :=
  aK (aX (cP A.aC "need_go" (lR K A) [] ex (aB 0) (aA (aB 1) (aA (aB 2) (aA (aB 3) aF))))) (Uv K A ex)
abbrev oE(K:Fg)(A:aU):lJ:=pW 4 4 λEX=>Mf K A (λ_=>EX)
abbrev Y7:CB:=(.cons (.expr (.eG 0 (.var 0) (.cons (.var 1) (.cons (.var 2) (.cons (.var 3) .nil))))) (.cons (.expr (.eG 2 (.fld 1 (.var 0)) (.cons (.var 1) (.cons (.var 2) (.cons (.var 3) .nil))))) (.cons (.expr (.c5 .append (.fld 3 (.var 0)) (.cons (.tup (.cons (.con (.str "go")) (.cons (.var 1) (.cons (.var 2) (.cons (.var 3) .nil))))) .nil))) .nil)))
abbrev Y6(K:Fg)(A:aU):SI:=⟨["self","lot","spot","amount"],[ak,ak,ak,ak],[ak,ak,ak,ak],[ao,ao,ao,ao],[("House.need_go#3",.me A.aC "need_go" (lR K A) []),("House.shelves",.fl A.aC "shelves"),("Shelves.take#3",.me A.aD "take" (jA K A) []),("House.done",.fl A.aC "done")],[ao,ao,ao,ao],ak⟩
abbrev Vi(K:Fg)(A:aU)(ex:aN->aV):bB :=
  (aX (lI "list" jM (cB A.aC (aB 0) "done") (aA (o7 (aA (aW (.str "move")) (aA (aB 1) (aA (aB 2) (aA (aB 3) (aA (aB 4) aF)))))) aF)))
abbrev Vh(K:Fg)(A:aU)(ex:aN->aV):bB :=
  aK (aX (cP A.aD "shift" (lQ K A) [] ex (cB A.aC (aB 0) "shelves") (aA (aB 1) (aA (aB 2) (aA (aB 3) (aA (aB 4) aF)))))) (Vi K A ex)
abbrev MV(K:Fg)(A:aU)(ex:aN->aV):bB :=
  aK (aX (aP (bK K A) ex (aA (aB 1) (aA (fU pR (aA (cB A.aC (aB 0) "known") aF)) aF)))) (Vh K A ex)
abbrev rH(K:Fg)(A:aU):lJ:=pW 5 5 λEX=>MV K A (λ_=>EX)
abbrev alZ:CB:=(.cons (.expr (.call 2 (.cons (.var 1) (.cons (.call 1 (.cons (.fld 0 (.var 0)) .nil)) .nil)))) (.cons (.expr (.eG 4 (.fld 3 (.var 0)) (.cons (.var 1) (.cons (.var 2) (.cons (.var 3) (.cons (.var 4) .nil)))))) (.cons (.expr (.c5 .append (.fld 5 (.var 0)) (.cons (.tup (.cons (.con (.str "move")) (.cons (.var 1) (.cons (.var 2) (.cons (.var 3) (.cons (.var 4) .nil)))))) .nil))) .nil)))
abbrev am0(K:Fg)(A:aU):SI:=⟨["self","lot","one","other","amount"],[ak,ak,ak,ak,ak],[ak,ak,ak,ak,ak],[ao,ao,ao,ao,ao],[("House.known",.fl A.aC "known"),("len",.bf .len),("need_lot",.fn (bK K A) 2 ao),("House.shelves",.fl A.aC "shelves"),("Shelves.shift#4",.me A.aD "shift" (lQ K A) []),("House.done",.fl A.aC "done")],[ao,ak,ak,ao,ao,ao],ak⟩
abbrev a7G(K:Fg)(A:aU)(ex:aN->aV):bB :=
  (aX (aP (pJ K A) ex (aA (aW (.int 0)) aF)))
abbrev a5U(K:Fg)(A:aU):lJ:=pW 4 4 λEX=>a7G K A (λ_=>EX)
abbrev a7H:CB:=(.cons (.expr (.call 0 (.cons (.con (.int 0)) .nil))) .nil)
abbrev a7I(K:Fg)(A:aU):SI:=⟨["self","lot","spot","amount"],[ak,ak,ak,ak],[ak,ak,ak,ak],[ao,ao,ao,ao],[("_wall",.fn (pJ K A) 1 ao)],[ak],ak⟩
abbrev ai9(K:Fg)(A:aU)(ex:aN->aV):bB :=
  (aX (aP (pJ K A) ex (aA (aW (.int 1)) aF)))
abbrev afW(K:Fg)(A:aU):lJ:=pW 4 4 λEX=>ai9 K A (λ_=>EX)
abbrev aiA:CB:=(.cons (.expr (.call 0 (.cons (.con (.int 1)) .nil))) .nil)
abbrev aiB(K:Fg)(A:aU):SI:=⟨["self","lot","spot","amount"],[ak,ak,ak,ak],[ak,ak,ak,ak],[ao,ao,ao,ao],[("_wall",.fn (pJ K A) 1 ao)],[ak],ak⟩
abbrev wG(K:Fg)(A:aU)(ex:aN->aV):bB :=
  (cA (cB A.aC (aB 0) "day"))
abbrev wH(K:Fg)(A:aU)(ex:aN->aV):bB :=
  aK (aX (lI "list" jM (cB A.aC (aB 0) "done") (aA (o7 (aA (aW (.str "day")) (aA (cB A.aC (aB 0) "day") aF))) aF))) (wG K A ex)
abbrev wI(K:Fg)(A:aU)(ex:aN->aV):bB :=
  aK (tO A.aC (aB 0) (aH gG (cB A.aC (aB 0) "day") (aW (.int 1))) "day") (wH K A ex)
abbrev qG(K:Fg)(A:aU)(ex:aN->aV):bB :=
  aK (cV (aY (aH x8 (cB A.aC (aB 0) "day") (aW (.int 9999)))) (iK ex A.eY (aA (aW (.str "there is no day behind 9999")) aF)) bT) (wI K A ex)
abbrev jK(K:Fg)(A:aU):lJ:=pW 1 1 λEX=>qG K A (λ_=>EX)
abbrev aaW:CB:=(.cons (.ifs (.cmp .GtE (.fld 0 (.var 0)) (.cw 1)) (.cons (.raise 2 (.con (.str "there is no day behind 9999")) .nil) .nil) .nil) (.cons (.iO 0 (.var 0) (.bin .Add (.fld 0 (.var 0)) (.con (.int 1)))) (.cons (.expr (.c5 .append (.fld 3 (.var 0)) (.cons (.tup (.cons (.con (.str "day")) (.cons (.fld 0 (.var 0)) .nil))) .nil))) (.cons (.ret (.fld 0 (.var 0))) .nil))))
abbrev aaX(K:Fg)(A:aU):SI:=⟨["self"],[ak],[ak],[ao],[("House.day",.fl A.aC "day"),("LAST_DAY",.con (.int 9999)),("NoDay",.cls A.eY),("House.done",.fl A.aC "done")],[ao,ak,ak,ao],ak⟩
abbrev am1(K:Fg)(A:aU)(ex:aN->aV):bB :=
  (cA (cB A.aC (aB 0) "layout"))
abbrev aiC(K:Fg)(A:aU):lJ:=pW 1 1 λEX=>am1 K A (λ_=>EX)
abbrev am2:CB:=(.cons (.ret (.fld 0 (.var 0))) .nil)
abbrev am3(K:Fg)(A:aU):SI:=⟨["self"],[ak],[ak],[ao],[("House.layout",.fl A.aC "layout")],[ao],ak⟩
abbrev yV(K:Fg)(A:aU)(ex:aN->aV):bB :=
  (cA (cB A.aC (aB 0) "day"))
abbrev iB(K:Fg)(A:aU):lJ:=pW 1 1 λEX=>yV K A (λ_=>EX)
abbrev aiD:CB:=(.cons (.ret (.fld 0 (.var 0))) .nil)
abbrev aiE(K:Fg)(A:aU):SI:=⟨["self"],[ak],[ak],[ao],[("House.day",.fl A.aC "day")],[ao],ak⟩
abbrev MU(K:Fg)(A:aU)(ex:aN->aV):bB :=
  (cA (fU Bf (aA (cB A.aC (aB 0) "done") aF)))
abbrev dN(K:Fg)(A:aU):lJ:=pW 1 1 λEX=>MU K A (λ_=>EX)
abbrev am4:CB:=(.cons (.ret (.call 1 (.cons (.fld 0 (.var 0)) .nil))) .nil)
abbrev am5(K:Fg)(A:aU):SI:=⟨["self"],[ak],[ak],[ao],[("House.done",.fl A.aC "done"),("list",.bt "list")],[ao,ak],ak⟩
abbrev aaY(K:Fg)(A:aU)(ex:aN->aV):bB :=
  (cA (cP A.aD "amount" (eE K A) [] ex (cB A.aC (aB 0) "shelves") (aA (aB 1) (aA (aB 2) aF))))
abbrev afX(K:Fg)(A:aU)(ex:aN->aV):bB :=
  aK (aX (aP (bK K A) ex (aA (aB 1) (aA (fU pR (aA (cB A.aC (aB 0) "known") aF)) aF)))) (aaY K A ex)
abbrev ad0(K:Fg)(A:aU):lJ:=pW 3 3 λEX=>afX K A (λ_=>EX)
abbrev afY:CB:=(.cons (.expr (.call 2 (.cons (.var 1) (.cons (.call 1 (.cons (.fld 0 (.var 0)) .nil)) .nil)))) (.cons (.ret (.eG 4 (.fld 3 (.var 0)) (.cons (.var 1) (.cons (.var 2) .nil)))) .nil))
abbrev afZ(K:Fg)(A:aU):SI:=⟨["self","lot","spot"],[ak,ak,ak],[ak,ak,ak],[ao,ao,ao],[("House.known",.fl A.aC "known"),("len",.bf .len),("need_lot",.fn (bK K A) 2 ao),("House.shelves",.fl A.aC "shelves"),("Shelves.amount#2",.me A.aD "amount" (eE K A) [])],[ao,ak,ak,ao,ao],ak⟩
abbrev aiF(K:Fg)(A:aU)(ex:aN->aV):bB :=
  (aX (aP (pJ K A) ex (aA (aW (.int 2)) aF)))
abbrev ag0(K:Fg)(A:aU):lJ:=pW 3 3 λEX=>aiF K A (λ_=>EX)
abbrev n8:CB:=(.cons (.expr (.call 0 (.cons (.con (.int 2)) .nil))) .nil)
abbrev aiG(K:Fg)(A:aU):SI:=⟨["self","ware","day"],[ak,ak,ak],[ak,ak,ak],[ao,ao,ao],[("_wall",.fn (pJ K A) 1 ao)],[ak],ak⟩
abbrev ag1(K:Fg)(A:aU)(ex:aN->aV):bB :=
  (aX (aP (pJ K A) ex (aA (aW (.int 3)) aF)))
abbrev ad1(K:Fg)(A:aU):lJ:=pW 4 4 λEX=>ag1 K A (λ_=>EX)
abbrev ag2:CB:=(.cons (.expr (.call 0 (.cons (.con (.int 3)) .nil))) .nil)
abbrev ag3(K:Fg)(A:aU):SI:=⟨["self","lot","ware","day"],[ak,ak,ak,ak],[ak,ak,ak,ak],[ao,ao,ao,ao],[("_wall",.fn (pJ K A) 1 ao)],[ak],ak⟩
abbrev VO(K:Fg)(A:aU)(ex:aN->aV):bB :=
  (cA (aH cR (aH gG (aH k7 (aB 2) (aB 2)) (aH k7 (aW (.int 48271)) (aB 1))) (aW (.int 2147483629))))
abbrev VN(K:Fg)(A:aU)(ex:aN->aV):bB :=
  aK (cT 2 (aH cR (aH gG (aH k7 (aH eU (aB 0) (aH cR (aB 1) (fU pR (aA (aB 0) aF)))) (aW (.int 48271))) (aH k7 (aB 1) (aW (.int 104729)))) (aW (.int 2147483647)))) (VO K A ex)
abbrev VM(K:Fg)(A:aU)(ex:aN->aV):bB :=
  aK (cV (aY (aH mJ (fU pR (aA (aB 0) aF)) (aW (.int 0)))) (cA (aW (.int 0))) bT) (VN K A ex)
abbrev wJ(K:Fg)(A:aU)(ex:aN->aV):bB :=
  aK (cV (aY (aH ue (aB 1) (fU pR (aA (aB 0) aF)))) (cA (aH eU (aB 0) (aB 1))) bT) (VM K A ex)
abbrev cJ(K:Fg)(A:aU):lJ:=pW 3 2 λEX=>wJ K A (λ_=>EX)
abbrev ag4:CB:=(.cons (.ifs (.cmp .Lt (.var 1) (.call 0 (.cons (.var 0) .nil))) (.cons (.ret (.ix (.var 0) (.var 1))) .nil) .nil) (.cons (.ifs (.cmp .Eq (.call 0 (.cons (.var 0) .nil)) (.con (.int 0))) (.cons (.ret (.con (.int 0))) .nil) .nil) (.cons (.set 2 (.bin .Mod (.bin .Add (.bin .Mult (.ix (.var 0) (.bin .Mod (.var 1) (.call 0 (.cons (.var 0) .nil)))) (.con (.int 48271))) (.bin .Mult (.var 1) (.con (.int 104729)))) (.con (.int 2147483647)))) (.cons (.ret (.bin .Mod (.bin .Add (.bin .Mult (.var 2) (.var 2)) (.bin .Mult (.con (.int 48271)) (.var 1))) (.con (.int 2147483629)))) .nil))))
abbrev ag5(K:Fg)(A:aU):SI:=⟨["_law_script","_law_k","_law_mixed"],[ak,ak,ak],[ak,ak,ak],[ao,ao,ao],[("len",.bf .len)],[ak],ak⟩
abbrev uV(K:Fg)(A:aU)(ex:aN->aV):bB :=
  (cA (nP (fU (aG K) (aA (aB 0) (aA (aW (.ty "int")) aF))) (C0 (fU (aG K) (aA (aB 0) (aA (aW (.ty "bool")) aF))))))
abbrev rJ(K:Fg)(A:aU):lJ:=pW 1 1 λEX=>uV K A (λ_=>EX)
abbrev am6:CB:=(.cons (.ret (.kU (.cons (.call 1 (.cons (.var 0) (.cons (.cw 0) .nil))) (.cons (.AS (.call 1 (.cons (.var 0) (.cons (.cw 2) .nil)))) .nil)))) .nil)
abbrev am7(K:Fg)(A:aU):SI:=⟨["_law_found"],[ak],[ak],[ao],[("int",.bt "int"),("isinstance",.bf .l7),("bool",.bt "bool")],[ak,ak,ak],ak⟩
abbrev VL(K:Fg)(A:aU)(ex:aN->aV):bB :=
  (cT 2 (aH gG (aB 2) (aH eU (aB 1) (aH cR (aB 0) (aW (.int 26))))))
abbrev Vg(K:Fg)(A:aU)(ex:aN->aV):bB :=
  aK (cT 0 (aH gG (aH d8 (aB 0) (aW (.int 3))) (aW (.int 48271)))) (VL K A ex)
abbrev UU(K:Fg)(A:aU)(ex:aN->aV):bB :=
  (cA (aB 2))
abbrev UT(K:Fg)(A:aU)(ex:aN->aV):bB :=
  aK (sv (yB (aA (aH gG (aW (.int 1)) (aH cR (aH d8 (aB 0) (aW (.int 4))) (aW (.int 12)))) aF)) (sA 3) (Vg K A ex)) (UU K A ex)
abbrev US(K:Fg)(A:aU)(ex:aN->aV):bB :=
  aK (cT 2 (aW (.str ""))) (UT K A ex)
abbrev UR(K:Fg)(A:aU)(ex:aN->aV):bB :=
  aK (cV (aY (aH ue (aH cR (aB 0) (aW (.int 4))) (aW (.int 3)))) (cA (aH eU (vK (aA (aW (.str "corn")) (aA (aW (.str "cord")) (aA (aW (.str "born")) aF)))) (aH cR (aB 0) (aW (.int 4))))) bT) (US K A ex)
abbrev Mn(K:Fg)(A:aU)(ex:aN->aV):bB :=
  aK (cT 1 (aW (.str "abcdefghijklmnopqrstuvwxyz"))) (UR K A ex)
abbrev lU(K:Fg)(A:aU):lJ:=pW 4 1 λEX=>Mn K A (λ_=>EX)
abbrev Z7:CB:=(.cons (.set 1 (.con (.str "abcdefghijklmnopqrstuvwxyz"))) (.cons (.ifs (.cmp .Lt (.bin .Mod (.var 0) (.con (.int 4))) (.con (.int 3))) (.cons (.ret (.ix (.lst (.cons (.con (.str "corn")) (.cons (.con (.str "cord")) (.cons (.con (.str "born")) .nil)))) (.bin .Mod (.var 0) (.con (.int 4))))) .nil) .nil) (.cons (.set 2 (.con (.str ""))) (.cons (.oS (.t7 (.bin .Add (.con (.int 1)) (.bin .Mod (.bin .FloorDiv (.var 0) (.con (.int 4))) (.con (.int 12))))) (.nm 3) (.cons (.set 0 (.bin .Add (.bin .FloorDiv (.var 0) (.con (.int 3))) (.con (.int 48271)))) (.cons (.set 2 (.bin .Add (.var 2) (.ix (.var 1) (.bin .Mod (.var 0) (.con (.int 26)))))) .nil))) (.cons (.ret (.var 2)) .nil)))))
abbrev Z6(K:Fg)(A:aU):SI:=⟨["_law_cell","_law_some","_law_word","_law_k"],[ak,ak,ak,ak],[ak,ak,ak,ak],[ao,ao,ao,ao],[("range",.bt "range")],[ak],ak⟩
abbrev UQ(K:Fg)(A:aU)(ex:aN->aV):bB :=
  (cA (o7 (aA (aH gG (aW (.int 1)) (aH cR (aB 1) (aW (.int 4)))) (aA (aH gG (aW (.int 1)) (aH cR (aH d8 (aB 1) (aW (.int 4))) (aW (.int 5)))) (aA (aW (.int 2)) aF)))))
abbrev UP(K:Fg)(A:aU)(ex:aN->aV):bB :=
  aK (cV (aY (aH mJ (aH cR (aH d8 (aB 1) (aW (.int 20))) (aW (.int 4))) (aW (.int 2)))) (cA (o7 (aA (aH gG (aW (.int 2)) (aH cR (aB 1) (aW (.int 10)))) (aA (aH gG (aW (.int 11)) (aH cR (aH d8 (aB 1) (aW (.int 80))) (aW (.int 3)))) (aA (aW (.int 2)) aF))))) bT) (UQ K A ex)
abbrev UO(K:Fg)(A:aU)(ex:aN->aV):bB :=
  aK (cV (aY (aH mJ (aH cR (aH d8 (aB 1) (aW (.int 20))) (aW (.int 4))) (aW (.int 1)))) (cA (o7 (aA (aH gG (aW (.int 1)) (aH cR (aH d8 (aB 1) (aW (.int 80))) (aW (.int 26)))) (aA (aH gG (aW (.int 1)) (aH cR (aH d8 (aB 1) (aW (.int 2080))) (aW (.int 99)))) (aA (aW (.int 2)) aF))))) bT) (UP K A ex)
abbrev Mm(K:Fg)(A:aU)(ex:aN->aV):bB :=
  aK (cT 1 (aP (cJ K A) ex (aA (aB 0) (aA (aW (.int 0)) aF)))) (UO K A ex)
abbrev uW(K:Fg)(A:aU):lJ:=pW 2 1 λEX=>Mm K A (λ_=>EX)
abbrev Z5:CB:=(.cons (.set 1 (.call 0 (.cons (.var 0) (.cons (.con (.int 0)) .nil)))) (.cons (.ifs (.cmp .Eq (.bin .Mod (.bin .FloorDiv (.var 1) (.con (.int 20))) (.con (.int 4))) (.con (.int 1))) (.cons (.ret (.tup (.cons (.bin .Add (.con (.int 1)) (.bin .Mod (.bin .FloorDiv (.var 1) (.con (.int 80))) (.con (.int 26)))) (.cons (.bin .Add (.con (.int 1)) (.bin .Mod (.bin .FloorDiv (.var 1) (.con (.int 2080))) (.con (.int 99)))) (.cons (.con (.int 2)) .nil))))) .nil) .nil) (.cons (.ifs (.cmp .Eq (.bin .Mod (.bin .FloorDiv (.var 1) (.con (.int 20))) (.con (.int 4))) (.con (.int 2))) (.cons (.ret (.tup (.cons (.bin .Add (.con (.int 2)) (.bin .Mod (.var 1) (.con (.int 10)))) (.cons (.bin .Add (.con (.int 11)) (.bin .Mod (.bin .FloorDiv (.var 1) (.con (.int 80))) (.con (.int 3)))) (.cons (.con (.int 2)) .nil))))) .nil) .nil) (.cons (.ret (.tup (.cons (.bin .Add (.con (.int 1)) (.bin .Mod (.var 1) (.con (.int 4)))) (.cons (.bin .Add (.con (.int 1)) (.bin .Mod (.bin .FloorDiv (.var 1) (.con (.int 4))) (.con (.int 5)))) (.cons (.con (.int 2)) .nil))))) .nil))))
abbrev Z4(K:Fg)(A:aU):SI:=⟨["_law_script","_law_cell"],[ak,ak],[ak,ak],[ao,ao],[("_law_cell_at",.fn (cJ K A) 2 ao)],[ak],ak⟩
abbrev Uu(K:Fg)(A:aU)(ex:aN->aV):bB :=
  (cA (o7 (aA (fU Bd (aA (aH rq (aH eU (aB 0) (aW (.int 0))) (aW (.int 1))) (aA (aH eU (vK (aA (aW (.int 0)) (aA (aW (.int 1)) (aA (aW (.int 2)) (aA (aW (.int 9)) (aA (aW (.int 10)) aF)))))) (aH cR (aH d8 (aB 1) (aW (.int 2))) (aW (.int 5)))) aF))) (aA (fU Bd (aA (aH eU (aB 0) (aW (.int 1))) (aA (aH eU (vK (aA (aW (.int 1)) (aA (aW (.int 2)) (aA (aW (.int 9)) (aA (aW (.int 10)) (aA (aW (.int 11)) (aA (aW (.int 12)) aF))))))) (aH cR (aH d8 (aB 1) (aW (.int 10))) (aW (.int 6)))) aF))) aF))))
abbrev Me(K:Fg)(A:aU)(ex:aN->aV):bB :=
  aK (cV (aY (aH mJ (aH cR (aB 1) (aW (.int 2))) (aW (.int 0)))) (cA (o7 (aA (aH cR (aH d8 (aB 1) (aW (.int 2))) (aH eU (aB 0) (aW (.int 0)))) (aA (aH gG (aW (.int 1)) (aH cR (aH d8 (aB 1) (aW (.int 52))) (aH eU (aB 0) (aW (.int 1))))) aF)))) bT) (Uu K A ex)
abbrev sX(K:Fg)(A:aU):lJ:=pW 2 2 λEX=>Me K A (λ_=>EX)
abbrev Y5:CB:=(.cons (.ifs (.cmp .Eq (.bin .Mod (.var 1) (.con (.int 2))) (.con (.int 0))) (.cons (.ret (.tup (.cons (.bin .Mod (.bin .FloorDiv (.var 1) (.con (.int 2))) (.ix (.var 0) (.con (.int 0)))) (.cons (.bin .Add (.con (.int 1)) (.bin .Mod (.bin .FloorDiv (.var 1) (.con (.int 52))) (.ix (.var 0) (.con (.int 1))))) .nil)))) .nil) .nil) (.cons (.ret (.tup (.cons (.call 0 (.cons (.bin .Sub (.ix (.var 0) (.con (.int 0))) (.con (.int 1))) (.cons (.ix (.lst (.cons (.con (.int 0)) (.cons (.con (.int 1)) (.cons (.con (.int 2)) (.cons (.con (.int 9)) (.cons (.con (.int 10)) .nil)))))) (.bin .Mod (.bin .FloorDiv (.var 1) (.con (.int 2))) (.con (.int 5)))) .nil))) (.cons (.call 0 (.cons (.ix (.var 0) (.con (.int 1))) (.cons (.ix (.lst (.cons (.con (.int 1)) (.cons (.con (.int 2)) (.cons (.con (.int 9)) (.cons (.con (.int 10)) (.cons (.con (.int 11)) (.cons (.con (.int 12)) .nil))))))) (.bin .Mod (.bin .FloorDiv (.var 1) (.con (.int 10))) (.con (.int 6)))) .nil))) .nil)))) .nil))
abbrev Y4(K:Fg)(A:aU):SI:=⟨["_law_plan_here","_law_cell"],[ak,ak],[ak,ak],[ao,ao],[("min",.bf .min)],[ak],ak⟩
abbrev oF(K:Fg)(A:aU)(ex:aN->aV):bB :=
  (cT 3 (aH gG (aB 3) (aW (.int 1))))
abbrev yF(K:Fg)(A:aU)(ex:aN->aV):bB :=
  (Cw K (λfI=>(cV (aY (aH mJ (aH cR (aB 5) (aW (.int 8))) (aW (.int 0)))) (aX (cP A.aC "next_day" (jK K A) [] fI (aB 2) aF)) (cV (u7 (aY (aH mJ (aH cR (aB 5) (aW (.int 8))) (aW (.int 1)))) (aY (aH x9 (aB 3) (aW (.int 0))))) (aX (cP A.aC "move" (rH K A) [] fI (aB 2) (aA (aH cR (aH d8 (aB 5) (aW (.int 72))) (aB 3)) (aA (aB 7) (aA (aB 8) (aA (aB 9) aF)))))) (cV (u7 (aY (aH mJ (aH cR (aB 5) (aW (.int 8))) (aW (.int 2)))) (aY (aH x9 (aB 3) (aW (.int 0))))) (aX (cP A.aC "go" (oE K A) [] fI (aB 2) (aA (aH cR (aH d8 (aB 5) (aW (.int 72))) (aB 3)) (aA (aB 7) (aA (aB 9) aF))))) (aK (aX (cP A.aC "come" (rG K A) [] fI (aB 2) (aA (aP (lU K A) fI (aA (aH d8 (aB 5) (aW (.int 72))) aF)) (aA (aH gG (cP A.aC "today" (iB K A) [] fI (aB 2) aF) (aH cR (aH d8 (aB 6) (aW (.int 7))) (aW (.int 6)))) (aA (aB 7) (aA (aB 9) aF)))))) (oF K A fI)))))) [(A.dW,vE),(A.bN,vE)])
abbrev yG(K:Fg)(A:aU)(ex:aN->aV):bB :=
  aK (cT 9 (aH gG (aW (.int 1)) (aH cR (aH d8 (aB 5) (aW (.int 8))) (aW (.int 9))))) (yF K A ex)
abbrev yH(K:Fg)(A:aU)(ex:aN->aV):bB :=
  aK (cT 8 (aP (sX K A) ex (aA (aB 1) (aA (aH cR (aH k7 (aB 6) (aB 6)) (aW (.int 2147483629))) aF)))) (yG K A ex)
abbrev yI(K:Fg)(A:aU)(ex:aN->aV):bB :=
  aK (cT 7 (aP (sX K A) ex (aA (aB 1) (aA (aB 6) aF)))) (yH K A ex)
abbrev yJ(K:Fg)(A:aU)(ex:aN->aV):bB :=
  aK (cT 6 (aH cR (aH gG (aH gG (aH k7 (aB 5) (aW (.int 48271))) (aH k7 (aW (.int 7919)) (aB 4))) (aW (.int 5))) (aW (.int 2147483647)))) (yI K A ex)
abbrev tW(K:Fg)(A:aU)(ex:aN->aV):bB :=
  aK (cT 5 (aP (cJ K A) ex (aA (aB 0) (aA (aH gG (aW (.int 10)) (aB 4)) aF)))) (yJ K A ex)
abbrev Vf(K:Fg)(A:aU)(ex:aN->aV):bB :=
  (cA (aB 2))
abbrev Ve(K:Fg)(A:aU)(ex:aN->aV):bB :=
  aK (sv (yB (aA (aH cR (aP (cJ K A) ex (aA (aB 0) (aA (aW (.int 1)) aF))) (aW (.int 25))) aF)) (sA 4) (tW K A ex)) (Vf K A ex)
abbrev Vd(K:Fg)(A:aU)(ex:aN->aV):bB :=
  aK (cT 3 (aW (.int 0))) (Ve K A ex)
abbrev Vc(K:Fg)(A:aU)(ex:aN->aV):bB :=
  aK (cT 2 (Bc A.aC (jJ K A) [] ex (aA (aB 1) (aA (aW (.int 60)) aF)))) (Vd K A ex)
abbrev MT(K:Fg)(A:aU)(ex:aN->aV):bB :=
  aK (cT 1 (aP (uW K A) ex (aA (aB 0) aF))) (Vc K A ex)
abbrev rK(K:Fg)(A:aU):lJ:=pW 10 1 λEX=>MT K A (λ_=>EX)
abbrev am8:CB:=(.cons (.set 1 (.call 0 (.cons (.var 0) .nil))) (.cons (.set 2 (.call 1 (.cons (.var 1) (.cons (.con (.int 60)) .nil)))) (.cons (.set 3 (.con (.int 0))) (.cons (.oS (.t7 (.bin .Mod (.call 3 (.cons (.var 0) (.cons (.con (.int 1)) .nil))) (.con (.int 25)))) (.nm 4) (.cons (.set 5 (.call 3 (.cons (.var 0) (.cons (.bin .Add (.con (.int 10)) (.var 4)) .nil)))) (.cons (.set 6 (.bin .Mod (.bin .Add (.bin .Add (.bin .Mult (.var 5) (.con (.int 48271))) (.bin .Mult (.con (.int 7919)) (.var 4))) (.con (.int 5))) (.con (.int 2147483647)))) (.cons (.set 7 (.call 4 (.cons (.var 1) (.cons (.var 6) .nil)))) (.cons (.set 8 (.call 4 (.cons (.var 1) (.cons (.bin .Mod (.bin .Mult (.var 6) (.var 6)) (.con (.int 2147483629))) .nil)))) (.cons (.set 9 (.bin .Add (.con (.int 1)) (.bin .Mod (.bin .FloorDiv (.var 5) (.con (.int 8))) (.con (.int 9))))) (.cons (.AL (.cons (.ifs (.cmp .Eq (.bin .Mod (.var 5) (.con (.int 8))) (.con (.int 0))) (.cons (.expr (.eG 5 (.var 2) .nil)) .nil) (.cons (.ifs (.and (.cons (.cmp .Eq (.bin .Mod (.var 5) (.con (.int 8))) (.con (.int 1))) (.cons (.cmp .Gt (.var 3) (.con (.int 0))) .nil))) (.cons (.expr (.eG 6 (.var 2) (.cons (.bin .Mod (.bin .FloorDiv (.var 5) (.con (.int 72))) (.var 3)) (.cons (.var 7) (.cons (.var 8) (.cons (.var 9) .nil)))))) .nil) (.cons (.ifs (.and (.cons (.cmp .Eq (.bin .Mod (.var 5) (.con (.int 8))) (.con (.int 2))) (.cons (.cmp .Gt (.var 3) (.con (.int 0))) .nil))) (.cons (.expr (.eG 7 (.var 2) (.cons (.bin .Mod (.bin .FloorDiv (.var 5) (.con (.int 72))) (.var 3)) (.cons (.var 7) (.cons (.var 9) .nil))))) .nil) (.cons (.expr (.eG 10 (.var 2) (.cons (.call 8 (.cons (.bin .FloorDiv (.var 5) (.con (.int 72))) .nil)) (.cons (.bin .Add (.eG 9 (.var 2) .nil) (.bin .Mod (.bin .FloorDiv (.var 6) (.con (.int 7))) (.con (.int 6)))) (.cons (.var 7) (.cons (.var 9) .nil)))))) (.cons (.set 3 (.bin .Add (.var 3) (.con (.int 1)))) .nil))) .nil)) .nil)) .nil) (.cons 11 (.cons .cont .nil) (.cons 12 (.cons .cont .nil) .nil))) .nil))))))) (.cons (.ret (.var 2)) .nil)))))
abbrev am9(K:Fg)(A:aU):SI:=⟨["_law_script","_law_plan_here","_law_house_here","_law_count","_law_k","_law_cell","_law_more","_law_spot","_law_other","_law_many"],[ak,ak,ak,ak,ak,ak,ak,ak,ak,ak],[ak,ak,ak,ak,ak,ak,ak,ak,ak,ak],[ao,ao,ao,ao,ao,ao,ao,ao,ao,ao],[("_law_plan",.fn (uW K A) 1 ao),("House",.kl A.aC (jJ K A) []),("range",.bt "range"),("_law_cell_at",.fn (cJ K A) 2 ao),("_law_bin",.fn (sX K A) 2 ao),("House.next_day#0",.me A.aC "next_day" (jK K A) []),("House.move#4",.me A.aC "move" (rH K A) []),("House.go#3",.me A.aC "go" (oE K A) []),("_law_ware",.fn (lU K A) 1 ao),("House.today#0",.me A.aC "today" (iB K A) []),("House.come#4",.me A.aC "come" (rG K A) []),("NoRoom",.cls A.dW),("TooLittle",.cls A.bN)],[ak,ak,ak,ak,ak,ao,ao,ao,ak,ao,ao,ak,ak],ak⟩
abbrev wK(K:Fg)(A:aU)(ex:aN->aV):bB :=
  (cV (u7 (aY (aH mJ (aH eU (aH eU (aB 4) (aB 7)) (aW (.int 0))) (aB 1))) (aY (aH x8 (aH eU (aH eU (aB 4) (aB 7)) (aW (.int 1))) (aB 2)))) (aX (lI "list" jM (aB 5) (aA (o7 (aA (aB 6) (aA (aB 7) (aA (aH nQ (aH nQ (aB 3) (aB 6)) (aB 7)) (aA (aH eU (aH eU (aB 4) (aB 7)) (aW (.int 1))) (aA (aH eU (aH eU (aB 4) (aB 7)) (aW (.int 2))) aF)))))) aF))) bT)
abbrev yW(K:Fg)(A:aU)(ex:aN->aV):bB :=
  (sv (x5 (fU Go (aA (fU Di (aA (aH nQ (aB 3) (aB 6)) aF)) aF))) (sA 7) (wK K A ex))
abbrev Ut(K:Fg)(A:aU)(ex:aN->aV):bB :=
  (cA (aB 5))
abbrev Us(K:Fg)(A:aU)(ex:aN->aV):bB :=
  aK (sv (x5 (fU Go (aA (fU Di (aA (aB 3) aF)) aF))) (sA 6) (yW K A ex)) (Ut K A ex)
abbrev Ur(K:Fg)(A:aU)(ex:aN->aV):bB :=
  aK (cT 5 (vK aF)) (Us K A ex)
abbrev Uq(K:Fg)(A:aU)(ex:aN->aV):bB :=
  aK (cT 4 (cP A.aC "lots" (jD K A) [] ex (aB 0) aF)) (Ur K A ex)
abbrev Md(K:Fg)(A:aU)(ex:aN->aV):bB :=
  aK (cT 3 (cP A.aC "lying" (gY K A) [] ex (aB 0) aF)) (Uq K A ex)
abbrev sY(K:Fg)(A:aU):lJ:=pW 8 3 λEX=>Md K A (λ_=>EX)
abbrev Y3:CB:=(.cons (.set 3 (.eG 0 (.var 0) .nil)) (.cons (.set 4 (.eG 1 (.var 0) .nil)) (.cons (.set 5 (.lst .nil)) (.cons (.oS (.any (.call 3 (.cons (.call 2 (.cons (.var 3) .nil)) .nil))) (.nm 6) (.cons (.oS (.any (.call 3 (.cons (.call 2 (.cons (.kN (.var 3) (.var 6)) .nil)) .nil))) (.nm 7) (.cons (.ifs (.and (.cons (.cmp .Eq (.ix (.ix (.var 4) (.var 7)) (.con (.int 0))) (.var 1)) (.cons (.cmp .GtE (.ix (.ix (.var 4) (.var 7)) (.con (.int 1))) (.var 2)) .nil))) (.cons (.expr (.c5 .append (.var 5) (.cons (.tup (.cons (.var 6) (.cons (.var 7) (.cons (.kN (.kN (.var 3) (.var 6)) (.var 7)) (.cons (.ix (.ix (.var 4) (.var 7)) (.con (.int 1))) (.cons (.ix (.ix (.var 4) (.var 7)) (.con (.int 2))) .nil)))))) .nil))) .nil) .nil) .nil)) .nil)) (.cons (.ret (.var 5)) .nil)))))
abbrev Y2(K:Fg)(A:aU):SI:=⟨["_law_house_here","_law_ware_here","_law_day","_law_lying","_law_lots","_law_found","_law_spot","_law_lot"],[ak,ak,ak,ak,ak,ak,ak,ak],[ak,ak,ak,ak,ak,ak,ak,ak],[ao,ao,ao,ao,ao,ao,ao,ao],[("House.lying#0",.me A.aC "lying" (gY K A) []),("House.lots#0",.me A.aC "lots" (jD K A) []),("list",.bf .Cv),("sorted",.bf .yl)],[ao,ao,ak,ak],ak⟩
abbrev wL(K:Fg)(A:aU)(ex:aN->aV):bB :=
  (cA (o7 (aA (aW (.str "refused")) (aA (aH eU (vK (aA (aW (.str "NoDay")) (aA (aW (.str "NoWare")) aF))) (fU Fl (aA (fU (aG K) (aA (aB 3) (aA (aW (.ref A.d9)) aF))) aF))) aF))))
abbrev sZ(K:Fg)(A:aU)(ex:aN->aV):bB :=
  (CD K A.lM 3 (λfI=>(cA (aP (f9 K A) fI (aA (aB 0) (aA (aB 1) (aA (aB 2) aF)))))) (aK (cV (ki (oR (aY (fU (aG K) (aA (aB 3) (aA (aW (.ty "ValueError")) aF))))) (aY (aH mJ (fU (aG K) (aA (aB 3) (aA (aW (.ref A.d9)) aF))) (fU (aG K) (aA (aB 3) (aA (aW (.ref A.eY)) aF)))))) (cA (o7 (aA (aW (.str "refused")) (aA (aW (.str "more")) aF)))) bT) (wL K A lh)))
abbrev pK(K:Fg)(A:aU):lJ:=pW 4 3 λEX=>sZ K A (λ_=>EX)
abbrev Z3:CB:=(.cons (.AM 0 3 (.cons (.ret (.call 1 (.cons (.var 0) (.cons (.var 1) (.cons (.var 2) .nil))))) .nil) (.cons (.ifs (.or (.cons (.not (.val (.call 3 (.cons (.var 3) (.cons (.cw 2) .nil))))) (.cons (.cmp .Eq (.call 3 (.cons (.var 3) (.cons (.cw 4) .nil))) (.call 3 (.cons (.var 3) (.cons (.cw 5) .nil)))) .nil))) (.cons (.ret (.tup (.cons (.con (.str "refused")) (.cons (.con (.str "more")) .nil)))) .nil) .nil) (.cons (.ret (.tup (.cons (.con (.str "refused")) (.cons (.ix (.lst (.cons (.con (.str "NoDay")) (.cons (.con (.str "NoWare")) .nil))) (.call 6 (.cons (.call 3 (.cons (.var 3) (.cons (.cw 4) .nil))) .nil))) .nil)))) .nil))) .nil)
abbrev Z2(K:Fg)(A:aU):SI:=⟨["_law_house_here","_law_ware_here","_law_day","error"],[ak,ak,ak,ak],[ak,ak,ak,ak],[ao,ao,ao,ao],[("DepotError",.cls A.lM),("pieces_of",.fn (f9 K A) 3 ao),("ValueError",.bt "ValueError"),("isinstance",.bf .l7),("NoWare",.cls A.d9),("NoDay",.cls A.eY),("int",.bt "int")],[ak,ak,ak,ak,ak,ak,ak],ak⟩
abbrev Rb(K:Fg)(A:aU)(ex:aN->aV):bB :=
  (cT 5 (aH eU (vK (aA (aH rq (aW (.int 0)) (aW (.int 1))) (aA (aW (.int 10000)) (aA (aW (.bl ak)) (aA (aW .ae) (aA (aW (.str "1")) (aA (aH rq (aH rq (aW (.int 0)) (aW (.int 2))) (aB 6)) (aA (aH gG (aW (.int 10001)) (aB 6)) (aA (vK (aA (aW (.int 0)) aF)) aF))))))))) (aH cR (aH d8 (aB 4) (aW (.int 8))) (aW (.int 8)))))
abbrev QC(K:Fg)(A:aU)(ex:aN->aV):bB :=
  (aX (cP A.aC "go" (oE K A) [] ex (aB 1) (aA (aB 12) (aA (aB 11) (aA (aB 13) aF)))))
abbrev Kd(K:Fg)(A:aU)(ex:aN->aV):bB :=
  (cA (nP (aH mJ (aB 8) (aB 10)) (nP (aH mJ (aB 16) (Dp (aB 10) (CZ (aW (.int 2))) DI)) (aH mJ (aB 16) (aP (sY K A) ex (aA (aB 1) (aA (aB 3) (aA (aB 5) aF))))))))
abbrev Kc(K:Fg)(A:aU)(ex:aN->aV):bB :=
  aK (cT 16 (aP (f9 K A) ex (aA (aB 1) (aA (aB 3) (aA (aB 5) aF))))) (Kd K A ex)
abbrev Kb(K:Fg)(A:aU)(ex:aN->aV):bB :=
  aK (sv (x5 (Dp (aB 10) DI (CZ (aW (.int 2))))) (A5 [11,12,13,14,15]) (QC K A ex)) (Kc K A ex)
abbrev PK(K:Fg)(A:aU)(ex:aN->aV):bB :=
  aK (cV (ki (oR (aY (fU (aG K) (aA (aB 8) (aA (aW (.ty "list")) aF))))) (ki (aY (aH o6 (aB 8) (aB 10))) (aY (aH o6 (cP A.aC "rows" (dN K A) [] ex (aB 1) aF) (aB 7))))) (cA (aW (.bl ao))) bT) (Kb K A ex)
abbrev PJ(K:Fg)(A:aU)(ex:aN->aV):bB :=
  aK (cT 10 (aP (sY K A) ex (aA (aB 1) (aA (aB 3) (aA (aB 5) aF))))) (PK K A ex)
abbrev Ka(K:Fg)(A:aU)(ex:aN->aV):bB :=
  aK (cV (ki (oR (aY (aP (rJ K A) ex (aA (aB 5) aF)))) (ki (aY (aH ue (aB 5) (aW (.int 0)))) (aY (aH x9 (aB 5) (aW (.int 9999)))))) (cA (nP (aH mJ (aB 8) (o7 (aA (aW (.str "refused")) (aA (aW (.str "NoDay")) aF)))) (aH mJ (cP A.aC "rows" (dN K A) [] ex (aB 1) aF) (aB 7)))) bT) (PJ K A ex)
abbrev tD(K:Fg)(A:aU)(ex:aN->aV):bB :=
  aK (cV (oR (aY (aB 9))) (cA (nP (aH mJ (aB 8) (o7 (aA (aW (.str "refused")) (aA (aW (.str "NoWare")) aF)))) (aH mJ (cP A.aC "rows" (dN K A) [] ex (aB 1) aF) (aB 7)))) bT) (Ka K A ex)
abbrev wM(K:Fg)(A:aU)(ex:aN->aV):bB :=
  aK (cT 9 (nP (aB 9) (aH mJ (FD (Be (aB 3)) (aY (aH FU (aB 0) (aW (.str "abcdefghijklmnopqrstuvwxyz")))) (aB 0)) (vK aF)))) (tD K A ex)
abbrev BJ(K:Fg)(A:aU)(ex:aN->aV):bB :=
  aK (cT 9 (nP (fU (aG K) (aA (aB 3) (aA (aW (.ty "str")) aF))) (nP (aH kX (aW (.int 1)) (fU pR (aA (aB 3) aF))) (aH kX (fU pR (aA (aB 3) aF)) (aW (.int 12)))))) (wM K A ex)
abbrev J9(K:Fg)(A:aU)(ex:aN->aV):bB :=
  aK (cT 8 (aP (pK K A) ex (aA (aB 1) (aA (aB 3) (aA (aB 5) aF))))) (BJ K A ex)
abbrev Bj(K:Fg)(A:aU)(ex:aN->aV):bB :=
  aK (cT 7 (cP A.aC "rows" (dN K A) [] ex (aB 1) aF)) (J9 K A ex)
abbrev Jv(K:Fg)(A:aU)(ex:aN->aV):bB :=
  aK (cV (aY (aH mJ (aH cR (aB 4) (aW (.int 4))) (aW (.int 1)))) (aK (cT 6 (aH cR (aH d8 (aB 4) (aW (.int 64))) (aW (.int 1000)))) (Rb K A ex)) bT) (Bj K A ex)
abbrev OH(K:Fg)(A:aU)(ex:aN->aV):bB :=
  aK (cV (aY (aH mJ (aH cR (aB 4) (aW (.int 8))) (aW (.int 0)))) (cT 5 (aH cR (aH d8 (aB 4) (aW (.int 8))) (aW (.int 10000)))) bT) (Jv K A ex)
abbrev OG(K:Fg)(A:aU)(ex:aN->aV):bB :=
  aK (cT 5 (fU Bd (aA (aW (.int 9999)) (aA (aH gG (cP A.aC "today" (iB K A) [] ex (aB 1) aF) (aH cR (aH d8 (aB 4) (aW (.int 2))) (aW (.int 7)))) aF)))) (OH K A ex)
abbrev Ju(K:Fg)(A:aU)(ex:aN->aV):bB :=
  aK (cT 4 (aP (cJ K A) ex (aA (aB 0) (aA (aW (.int 3)) aF)))) (OG K A ex)
abbrev OF(K:Fg)(A:aU)(ex:aN->aV):bB :=
  aK (cV (aY (aH mJ (aH cR (aH d8 (aB 2) (aW (.int 2))) (aW (.int 5))) (aW (.int 1)))) (cT 3 (aH eU (vK (aA (aW (.str "")) (aA (aW (.str "Corn")) (aA (aW (.str "corn ")) (aA (aH Fh (aW (.str "a")) (aW (.int 13))) (aA (aW .ae) (aA (aW (.int 7)) (aA (aW (.bl ak)) (aA (aW (.str "co-rn")) aF))))))))) (aH cR (aH d8 (aB 2) (aW (.int 32))) (aW (.int 8))))) bT) (Ju K A ex)
abbrev OE(K:Fg)(A:aU)(ex:aN->aV):bB :=
  aK (cT 3 (aP (lU K A) ex (aA (aH d8 (aB 2) (aW (.int 2))) aF))) (OF K A ex)
abbrev OD(K:Fg)(A:aU)(ex:aN->aV):bB :=
  aK (cT 2 (aP (cJ K A) ex (aA (aB 0) (aA (aW (.int 2)) aF)))) (OE K A ex)
abbrev Ly(K:Fg)(A:aU)(ex:aN->aV):bB :=
  aK (cT 1 (aP (rK K A) ex (aA (aB 0) aF))) (OD K A ex)
abbrev IX(K:Fg)(A:aU):lJ:=pW 17 1 λEX=>Ly K A (λ_=>EX)
abbrev Cr:CB:=(.cons (.set 1 (.call 0 (.cons (.var 0) .nil))) (.cons (.set 2 (.call 1 (.cons (.var 0) (.cons (.con (.int 2)) .nil)))) (.cons (.set 3 (.call 2 (.cons (.bin .FloorDiv (.var 2) (.con (.int 2))) .nil))) (.cons (.ifs (.cmp .Eq (.bin .Mod (.bin .FloorDiv (.var 2) (.con (.int 2))) (.con (.int 5))) (.con (.int 1))) (.cons (.set 3 (.ix (.lst (.cons (.con (.str "")) (.cons (.con (.str "Corn")) (.cons (.con (.str "corn ")) (.cons (.smul (.con (.str "a")) (.con (.int 13))) (.cons (.con .ae) (.cons (.con (.int 7)) (.cons (.con (.bl ak)) (.cons (.con (.str "co-rn")) .nil))))))))) (.bin .Mod (.bin .FloorDiv (.var 2) (.con (.int 32))) (.con (.int 8))))) .nil) .nil) (.cons (.set 4 (.call 1 (.cons (.var 0) (.cons (.con (.int 3)) .nil)))) (.cons (.set 5 (.call 4 (.cons (.con (.int 9999)) (.cons (.bin .Add (.eG 3 (.var 1) .nil) (.bin .Mod (.bin .FloorDiv (.var 4) (.con (.int 2))) (.con (.int 7)))) .nil)))) (.cons (.ifs (.cmp .Eq (.bin .Mod (.var 4) (.con (.int 8))) (.con (.int 0))) (.cons (.set 5 (.bin .Mod (.bin .FloorDiv (.var 4) (.con (.int 8))) (.con (.int 10000)))) .nil) .nil) (.cons (.ifs (.cmp .Eq (.bin .Mod (.var 4) (.con (.int 4))) (.con (.int 1))) (.cons (.set 6 (.bin .Mod (.bin .FloorDiv (.var 4) (.con (.int 64))) (.con (.int 1000)))) (.cons (.set 5 (.ix (.lst (.cons (.bin .Sub (.con (.int 0)) (.con (.int 1))) (.cons (.con (.int 10000)) (.cons (.con (.bl ak)) (.cons (.con .ae) (.cons (.con (.str "1")) (.cons (.bin .Sub (.bin .Sub (.con (.int 0)) (.con (.int 2))) (.var 6)) (.cons (.bin .Add (.con (.int 10001)) (.var 6)) (.cons (.lst (.cons (.con (.int 0)) .nil)) .nil))))))))) (.bin .Mod (.bin .FloorDiv (.var 4) (.con (.int 8))) (.con (.int 8))))) .nil)) .nil) (.cons (.set 7 (.eG 5 (.var 1) .nil)) (.cons (.set 8 (.call 6 (.cons (.var 1) (.cons (.var 3) (.cons (.var 5) .nil))))) (.cons (.set 9 (.kU (.cons (.call 8 (.cons (.var 3) (.cons (.cw 7) .nil))) (.cons (.cmp .LtE (.con (.int 1)) (.call 9 (.cons (.var 3) .nil))) (.cons (.cmp .LtE (.call 9 (.cons (.var 3) .nil)) (.con (.int 12))) .nil))))) (.cons (.set 9 (.kU (.cons (.var 9) (.cons (.cmp .Eq (.comp [ao,ao,ao,ao,ao,ao,ao,ao,ao,ao,ao,ao,ao,ao,ao,ao,ao] [ao,ao,ao,ao,ao,ao,ao,ao,ao,ao,ao,ao,ao,ao,ao] (.any (.var 3)) (.some (.cmp .NotIn (.var 0) (.con (.str "abcdefghijklmnopqrstuvwxyz")))) (.var 0)) (.lst .nil)) .nil)))) (.cons (.ifs (.not (.val (.var 9))) (.cons (.ret (.kU (.cons (.cmp .Eq (.var 8) (.tup (.cons (.con (.str "refused")) (.cons (.con (.str "NoWare")) .nil)))) (.cons (.cmp .Eq (.eG 5 (.var 1) .nil) (.var 7)) .nil)))) .nil) .nil) (.cons (.ifs (.or (.cons (.not (.val (.call 10 (.cons (.var 5) .nil)))) (.cons (.cmp .Lt (.var 5) (.con (.int 0))) (.cons (.cmp .Gt (.var 5) (.con (.int 9999))) .nil)))) (.cons (.ret (.kU (.cons (.cmp .Eq (.var 8) (.tup (.cons (.con (.str "refused")) (.cons (.con (.str "NoDay")) .nil)))) (.cons (.cmp .Eq (.eG 5 (.var 1) .nil) (.var 7)) .nil)))) .nil) .nil) (.cons (.set 10 (.call 11 (.cons (.var 1) (.cons (.var 3) (.cons (.var 5) .nil))))) (.cons (.ifs (.or (.cons (.not (.val (.call 8 (.cons (.var 8) (.cons (.cw 12) .nil))))) (.cons (.cmp .NotEq (.var 8) (.var 10)) (.cons (.cmp .NotEq (.eG 5 (.var 1) .nil) (.var 7)) .nil)))) (.cons (.ret (.con (.bl ao))) .nil) .nil) (.cons (.oS (.any (.sl (.var 10) .none (.some (.con (.int 2))))) (.tup [11,12,13,14,15]) (.cons (.expr (.eG 13 (.var 1) (.cons (.var 12) (.cons (.var 11) (.cons (.var 13) .nil))))) .nil)) (.cons (.set 16 (.call 14 (.cons (.var 1) (.cons (.var 3) (.cons (.var 5) .nil))))) (.cons (.ret (.kU (.cons (.cmp .Eq (.var 8) (.var 10)) (.cons (.cmp .Eq (.var 16) (.sl (.var 10) (.some (.con (.int 2))) .none)) (.cons (.cmp .Eq (.var 16) (.call 11 (.cons (.var 1) (.cons (.var 3) (.cons (.var 5) .nil))))) .nil))))) .nil)))))))))))))))))))
abbrev aVM(K:Fg)(A:aU):SI:=⟨["_law_script","_law_house_here","_law_cell","_law_ware_here","_law_other","_law_day","_law_far_off","_law_rows","_law_found","_law_good","_law_due_here","_law_spot","_law_lot","_law_many","_law_last","_law_came","_law_again"],[ak,ak,ak,ak,ak,ak,ak,ak,ak,ak,ak,ak,ak,ak,ak,ak,ak],[ak,ak,ak,ak,ak,ak,ak,ak,ak,ak,ak,ak,ak,ak,ak,ak,ak],[ao,ao,ao,ao,ao,ao,ao,ao,ao,ao,ao,ao,ao,ao,ao,ao,ao],[("_law_house",.fn (rK K A) 1 ao),("_law_cell_at",.fn (cJ K A) 2 ao),("_law_ware",.fn (lU K A) 1 ao),("House.today#0",.me A.aC "today" (iB K A) []),("min",.bf .min),("House.rows#0",.me A.aC "rows" (dN K A) []),("_law_told",.fn (pK K A) 3 ao),("str",.bt "str"),("isinstance",.bf .l7),("len",.bf .len),("_law_whole",.fn (rJ K A) 1 ao),("_law_due",.fn (sY K A) 3 ao),("list",.bt "list"),("House.go#3",.me A.aC "go" (oE K A) []),("pieces_of",.fn (f9 K A) 3 ao)],[ak,ak,ak,ao,ak,ao,ak,ak,ak,ak,ak,ak,ak,ao,ak],ak⟩
structure df(K:Fg)(mg:Str->Option bh)(x:Str)(st:jo)(f:bx)(d:jf)(ps:List Str):Prop where
 F:bE K x x st f d
 B:Binds K d ps []
 m:mg x=aj (.ref f)
structure ll(K:Fg)(mg:Str->Option bh)(x:Str)(c:bx):Prop where
 m:mg x=aj (.ref c)
 x:zc K c HC "ValueError.__new__"=ak
 cs:(vo K c).isSome=ak
 ty:we K (.ref c)=aj (.type "type")
 be:qe K (.ref c) (.type "BaseException")=aj ak
structure Txt(K:Fg)(mg:Str->Option bh)(A:aU):Prop where
 uX:df K mg "_wall" OJ A.OI A.FL ["k"]
 gA:df K mg "is_whole" Rv A.Rm A.Hr ["thing","least","most"]
 vB:df K mg "is_pair" QI A.QF A.GC ["thing","aisles","first","last"]
 vC:df K mg "is_ware" QH A.QE A.GB ["thing"]
 BI:df K mg "is_day" PU A.PN A.Gm ["thing"]
 oG:df K mg "is_amount" R1 A.RU A.xM ["thing"]
 vD:df K mg "is_plan" QG A.QD A.GA ["thing"]
 kW:df K mg "need_plan" R0 A.RT A.xO ["plan"]
 BH:df K mg "is_bin" PR A.PM A.Gk ["plan","thing"]
 kY:df K mg "need_ware" RZ A.RS A.xP ["thing"]
 nU:df K mg "need_day" Ru A.Rl A.Hq ["thing"]
 dF:df K mg "need_lot" Rt A.Rk A.Ho ["thing","lots"]
 dG:df K mg "need_bin" Rr A.Rj A.Hn ["plan","thing"]
 cQ:df K mg "need_amount" U6 A.U1 A.rE ["thing"]
 MS:bE K "lots" "House.lots" UI A.oY A.oZ
 uY:Binds K A.oZ ["self"] []
 Uo:Meth K A.aC "lots" A.oY
 qH:df K mg "in_order" Rq A.Ri A.Hm ["stacks"]
 tX:bE K "lying" "Shelves.lying" VH A.j4 A.j5
 tY:Binds K A.j5 ["self"] []
 ad2:Meth K A.aD "lying" A.j4
 yX:bE K "lying" "House.lying" U5 A.mR A.mU
 rM:Binds K A.mU ["self"] []
 UN:Meth K A.aC "lying" A.mR
 kZ:df K mg "pieces_of" RY A.RQ A.xQ ["house","ware","day"]
 tE:df K mg "change" PQ A.PL A.Gj ["stacks","spot","lot","more"]
 a7L:bE K "__init__" "Shelves.__init__" fK A.bU A.iM
 a7M:Binds K A.iM ["self","plan","room"] []
 au8:Meth K A.aD "__init__" A.bU
 au9:∃t,Binds K A.iM ["self","plan","room"] [.int 1000 t]
 qI:bE K "filled" "Shelves.filled" zR A.gK A.gM
 qJ:Binds K A.gM ["self","spot"] []
 aaZ:Meth K A.aD "filled" A.gK
 mD:bE K "need_room" "Shelves.need_room" uI A.eN A.eO
 gF:Binds K A.eO ["self","spot","amount"] []
 uJ:Meth K A.aD "need_room" A.eN
 yZ:bE K "put" "Shelves.put" U4 A.mV A.mW
 z6:Binds K A.mW ["self","lot","spot","amount"] []
 aiH:Meth K A.aD "put" A.mV
 qK:bE K "amount" "Shelves.amount" zT A.gO A.gP
 lV:Binds K A.gP ["self","lot","spot"] []
 VJ:Meth K A.aD "amount" A.gO
 lA:bE K "need_there" "Shelves.need_there" sG A.dR A.dU
 dX:Binds K A.dU ["self","lot","spot","amount"] []
 lB:Meth K A.aD "need_there" A.dR
 wN:bE K "take" "Shelves.take" Vx A.jO A.jP
 wO:Binds K A.jP ["self","lot","spot","amount"] []
 agC:Meth K A.aD "take" A.jO
 tZ:bE K "shift" "Shelves.shift" VG A.j6 A.j7
 u0:Binds K A.j7 ["self","lot","one","other","amount"] []
 ad3:Meth K A.aD "shift" A.j6
 wQ:bE K "held" "Shelves.held" Vv A.jQ A.jR
 Vb:Binds K A.jR ["self","spot"] []
 aE8:Meth K A.aD "held" A.jQ
 qL:bE K "places" "Shelves.places" zU A.gQ A.gR
 VI:Binds K A.gR ["self","lot"] []
 azD:Meth K A.aD "places" A.gQ
 ab0:bE K "__init__" "House.__init__" gJ A.cL A.lK
 ab1:Binds K A.lK ["self","plan","room"] []
 azE:Meth K A.aC "__init__" A.cL
 azF:∃t,Binds K A.lK ["self","plan","room"] [.int 1000 t]
 MR:bE K "come" "House.come" UH A.p8 A.pA
 MQ:Binds K A.pA ["self","ware","due","spot","amount"] []
 amC:Meth K A.aC "come" A.p8
 u5:bE K "need_go" "House.need_go" VF A.j8 A.j9
 u6:Binds K A.j9 ["self","lot","spot","amount"] []
 ad4:Meth K A.aC "need_go" A.j8
 Mc:bE K "go" "House.go" Rp A.vU A.vV
 Hc:Binds K A.vV ["self","lot","spot","amount"] []
 Ra:Meth K A.aC "go" A.vU
 MP:bE K "move" "House.move" UG A.pB A.pC
 MO:Binds K A.pC ["self","lot","one","other","amount"] []
 amD:Meth K A.aC "move" A.pB
 nW:bE K "need_count" "House.need_count" vR A.fL A.fM
 wR:Binds K A.fM ["self","lot","spot","amount"] []
 auA:Meth K A.aC "need_count" A.fL
 z7:bE K "count" "House.count" U3 A.mX A.mY
 UM:Binds K A.mY ["self","lot","spot","amount"] []
 aG2:Meth K A.aC "count" A.mX
 qM:bE K "next_day" "House.next_day" zV A.gU A.gW
 qN:Binds K A.gW ["self"] []
 ab2:Meth K A.aC "next_day" A.gU
 MN:bE K "plan" "House.plan" UE A.pD A.pF
 Um:Binds K A.pF ["self"] []
 aK3:Meth K A.aC "plan" A.pD
 z8:bE K "today" "House.today" U2 A.mZ A.n6
 rN:Binds K A.n6 ["self"] []
 UL:Meth K A.aC "today" A.mZ
 MM:bE K "rows" "House.rows" UD A.pG A.pH
 ML:Binds K A.pH ["self"] []
 amE:Meth K A.aC "rows" A.pG
 wU:bE K "amount" "House.amount" Vu A.jT A.jU
 Va:Binds K A.jU ["self","lot","spot"] []
 aE9:Meth K A.aC "amount" A.jT
 aiI:bE K "total" "House.total" mQ A.fZ A.rF
 aG3:Binds K A.rF ["self","ware","day"] []
 aG4:Meth K A.aC "total" A.fZ
 aG5:∃t,Binds K A.rF ["self","ware","day"] [.int 0 t]
 wV:bE K "serves" "House.serves" Vt A.jV A.jW
 U9:Binds K A.jW ["self","lot","ware","day"] []
 aEA:Meth K A.aC "serves" A.jV
 dY:df K mg "_law_cell_at" Vs A.Vr A.pI ["_law_script","_law_k"]
 lW:df K mg "_law_whole" UC A.UA A.uR ["_law_found"]
 lC:df K mg "_law_ware" RX A.RP A.xR ["_law_cell"]
 oH:df K mg "_law_plan" RW A.RO A.xT ["_law_script"]
 qO:df K mg "_law_bin" Ro A.Rh A.Hl ["_law_plan_here","_law_cell"]
 lX:df K mg "_law_house" UB A.Uz A.uT ["_law_script"]
 qP:df K mg "_law_due" Rn A.Rg A.Hk ["_law_house_here","_law_ware_here","_law_day"]
 oJ:df K mg "_law_told" RV A.RN A.xU ["_law_house_here","_law_ware_here","_law_day"]
 aVN:df K mg "law" Cs A.yi A.SM ["_law_script"]
 aZ:fN K A.aD
 Y1:Mk K A.aD A.bU
 Y0:mg "Shelves"=aj (.ref A.aD)
 bA:fN K A.aC
 aEB:Mk K A.aC A.cL
 aEC:mg "House"=aj (.ref A.aC)
 uZ:jF K A.aC "day"
 jE:jF K A.aC "done"
 iC:jF K A.aC "known"
 nJ:jF K A.aC "layout"
 dH:jF K A.aC "shelves"
 cW:jF K A.aD "layout"
 Vy:jF K A.aD "room"
 cC:jF K A.aD "stacks"
 pL:ll K mg "DepotError" A.lM
 Du:ll K mg "NoPlan" A.Gi
 tG:ll K mg "NoWare" A.d9
 PH:mw K A.d9
 vG:ni K (.ref A.d9) (.type "ValueError")=aj ak
 rO:ll K mg "NoDay" A.eY
 aK4:mw K A.eY
 Dt:ni K (.ref A.eY) (.type "ValueError")=aj ak
 De:ll K mg "NoBin" A.FK
 Bi:ll K mg "NoLot" A.Bk
 wW:ll K mg "NoAmount" A.Hj
 BG:ll K mg "NoRoom" A.dW
 oK:ll K mg "TooLittle" A.bN
 cY:qe K (.ref A.d9) (.ref A.lM)=aj ak
 iD:ni K (.ref A.d9) (.ref A.eY)=aj ao
 fV:ni K (.ref A.d9) (.ref A.d9)=aj ak
 fP:qe K (.ref A.eY) (.ref A.lM)=aj ak
 nA:ni K (.ref A.eY) (.ref A.eY)=aj ak
 lD:ni K (.ref A.eY) (.ref A.d9)=aj ao
 jB:qe K (.ref A.dW) (.ref A.dW)=aj ak
 fQ:qe K (.ref A.bN) (.ref A.dW)=aj ao
 dB:qe K (.ref A.bN) (.ref A.bN)=aj ak
 nC:∃t,mg "MOST_AISLES"=aj (.int 26 t)
 nD:∃t,mg "MOST_PLACES"=aj (.int 99 t)
 lE:∃t,mg "LONGEST_WARE"=aj (.int 12 t)
 qQ:∃t,mg "LAST_DAY"=aj (.int 9999 t)
 nF:∃t,mg "MOST_AMOUNT"=aj (.int 1000000 t)
 wX:∃t,mg "MOST_GAP"=aj (.int 20 t)
 fB:∃t,mg "MOST_LOTS"=aj (.int 1000 t)
 amF:mg "ValueError"=au
 aVO:mg "all"=au
 Tn:mg "bool"=au
 aQO:mg "dict"=au
 Lx:mg "int"=au
 iR:mg "isinstance"=au
 ph:mg "len"=au
 Fv:mg "list"=au
 SK:mg "min"=au
 OC:mg "range"=au
 Ds:mg "sorted"=au
 SG:mg "str"=au
 aVP:mg "sum"=au
 OB:mg "tuple"=au
end Law
namespace Law
open PySem PySem.Spec PyProof.Rows L2 L4 L5 L6
local macro_rules| `(tactic| walk_at "wp")=>`(tactic| first|(simp(maxSteps:=2000000) (implicitDefEqProofs:=false) (disch:=first|rfl|decide|assumption|omega) only[L5.aV2,L5.aPY,L5.aPZ,L5.aV3,L5.aV4,L5.aV5,L5.x_raise,L5.x_c,L5.aQ0,L5.aQ1,L5.aZ3,L5.aQ2,L5.aJ6,L5.aV7,L5.aZ4,L5.aV8,L5.aQ3,L5.aQ4,L5.aV9,L5.aVA,L5.aQ5,L5.aVB,L5.aVC,L5.aVD,L5.x_call,L5.aZ5,L5.x_m,L5.aDK,L5.aQ6,L5.aJ8,L5.aV6,L5.Tx,L5.aJ5,L5.aDL,L5.aVE,L5.aQB,L5.aQC,L5.aJM,L5.IY,L5.x_lt,L5.aZ6,L5.x_ge,L5.aZ7,L5.aQ8,L5.Zr,L5.aJ9,L5.aJA,L5.aJB,L5.aJC,L5.aJD,L5.aJE,L5.aJF,L5.aJG,L5.aJH,L5.fJ,L5.aJJ,L5.aJK,L5.aJL,L5.aPQ,L5.aPR,L5.aPS,L5.aPT,L5.aPU,L5.aPV,L5.aPW,L5.aPX,L5.π,L5.alN,L5.Z',L5.ahZ,L5.Zq,L5.Y',L5.Zp,L5.alO,L5.X',L5.alP,L5.W',L5.ai0,L5.V',L5.alQ,L5.U',L5.ai1,L5.T',L5.alR,L5.S',L5.ai2,L5.Zn,L5.Zm,L5.P',L5.aDO,L5.XZ,L5.Zl,L5.aVG,L5.aVH,L5.Zk,L5.XY,L5.XX,L6.aJN,L6.aVJ,L6.aQD,L6.aDQ,L6.aJO,L6.aQE,L6.aQG,L6.aJP,L6.Fw,L6.aJQ,L6.SO,L8.aVL,L8.aQJ,L8.aJT,L8.aJU,L8.aZ8,L8.aJV,L9.aJW,L9.aQK,Hx.Zi,Hx.aQM,Hy.aQL,L7.aQH,L7.aQI,reduceIte,reduceCtorEq];try dsimp only[L5.Tw,L5.Tv,L5.Tu,L5.Tq,L6.OP])|dsimp only[L5.Tw,L5.Tv,L5.Tu,L5.Tq,L6.OP])
local macro_rules| `(tactic| exists $ls,*)=>`(tactic| (simp(implicitDefEqProofs:=false) only[$[$ls:term],*];repeat (first|(walk_at "wp")|(simp(implicitDefEqProofs:=false) only[$[$ls:term],*]))))
local macro_rules| `(tactic| symm)=>`(tactic| repeat (walk_at "wp"))
variable{d:D}{ns:List Int}{n x y n':Nat}{i l v lot more room am day:Int}{st sh r:bx}{M N:List (List Key×bx)}{c:bx->List (Int×Int)}{z:(Int×Int)×(Int×Int)}{cs:List Nat}
section
variable{K:Fg}{A:aU}{G:Gp}{R:jC}{mg:Str->Option bh}
open L7 L8 L9 Hy VV Hx
abbrev cK(d:D)(a b:Int):Bool:=match d with
 |.int i=>decide (a<=i)&&decide (i<=b)
 |_=>ao
private theorem iT{a b:Int}(hd:kn G d)(h:R (.bl (cK d a b)) G):cI K A [d,.int a,.int b] G R EX:=by
 refine⟨rfl,?_⟩;replace h:=bF.here h;show Hg K A _ _ [aj d,aj (.int a),aj (.int b)] G;cases d
 case ref q=>exists Hg,Rx hd;exact h
 case ty n=>simp[kn,gz]at hd
 all_goals exists Hg
 case int i =>
  by_cases c:a<=i
  .simp only[c,decide_true,if_true];simpa[cK,c]using h
  .simp only[c,decide_false,um,if_false];simpa[cK,c]using h
 all_goals exact h
abbrev cellAt(ns:List Int)(k:Nat):Int:=if k<ns.length then ns.getD k 0 else if ns=[]then 0 else
 let m:=(ns.getD (k%ns.length) 0*48271+k*104729)%2147483647
 (m*m+48271*k)%2147483629
def CL(hG:G a=aj (.fc (ns.map D.int))){k:Nat}(hk:k<1000)(h:R (.int (cellAt ns k)) G):cJ K A [.ref a,.int (k:Int)] G R EX:=by
 refine⟨rfl,?_⟩;replace h:=bF.here h;show wJ K A _ _ [aj (.ref a),aj (.int k),au] G;exists wJ,Bm (Dx hG);by_cases c:k<ns.length
 .rw[if_pos (decide_eq_true ⋯)];have e:c9 (ns.map D.int) (k:Int)=aj (.int (ns.getD k 0)):=by rw[A8];simp[c,vf]
  rw[vn (Dx hG) e];rw[show cellAt ns k=ns.getD k 0 by unfold cellAt;rw[if_pos c]]at h;exact h
 .rw[if_neg (by simp;omega)];exists VM,Bm (Dx hG);by_cases hn:ns=[]
  .subst hn;rw[show cellAt [] k=0 by unfold cellAt;simp]at h;exact h
  .have h0:0<(ns.length:Int):=by cases ns with
    |nil=>exact absurd rfl hn
    |cons n r=>simp
   have e0:((ns.length:Int)==0)=ao:=by simp;exact hn
   rw[e0];exists VN,Bm (Dx hG);have hm:k%ns.length<ns.length:=Nat.mod_lt _ ⋯
   have e2:c9 (ns.map D.int) ((k:Int)%(ns.length:Int))=aj (.int (ns.getD (k%ns.length) 0)):=by
    rw[←Int.natCast_emod,A8];simp[hm,vf]
   rw[vn (Dx hG) e2];exists VO
   have ec:cellAt ns k=((ns.getD (k%ns.length) 0*48271+(k:Int)*104729)%2147483647*((ns.getD (k%ns.length) 0*48271+(k:Int)*104729)%2147483647)+48271*(k:Int))%2147483629:=by
    unfold cellAt;rw[if_neg c,if_neg hn]
   rw[←ec];exact h
abbrev xj(d:D)(n a b:Int):Bool:=match d with
 |.tup [x,y]=>cK x 0 (n - 1)&&cK y a b
 |_=>ao
private theorem XN{n a b:Int}(hd:kn G d)(hc:∀x y,d=.tup [x,y]->kn G x/\kn G y)(h:R (.bl (xj d n a b)) G):Hf K A [d,.int n,.int a,.int b] G R EX:=by
 refine⟨rfl,?_⟩;replace h:=bF.here h;show zW K A _ _ [aj d,aj (.int n),aj (.int a),aj (.int b)] G;cases d
 case ref q=>exists zW,UJ hd;exact h
 case ty n=>simp[kn,gz]at hd
 case tup xs =>
  exists zW
  match xs,h,hc with
  |[],h,_=>exact h
  |[x],h,_=>exact h
  |x::y::z::r,h,_ =>
   have e:((((x::y::z::r).length:Nat):Int)==2)=ao:=by simp;omega
   simp only[e];exact h
  |[x,y],h,hc =>
   let⟨h1,h2⟩:=hc x y rfl;exists RM;refine iT h1 ?_;symm;refine oW (λe=>iT h2 ?_) λe=>?_
   .simpa[xj,e]using h
   .simpa[xj,e]using h
 all_goals exists zW
 all_goals exact h
def aQQ{j n a b:Int}:xj (.tup [.int i,.int j]) n a b=(decide (0<=i)&&decide (i<=n - 1)&&(decide (a<=j)&&decide (j<=b))):=rfl
abbrev t6(d:D):Bool:=match d with
 |.tup [x,y,z]=>cK x 1 26&&(cK y 1 99&&cK z 1 20)
 |_=>ao
private theorem XM(hd:kn G d)(hc:∀x y z,d=.tup [x,y,z]->kn G x/\kn G y/\kn G z)(h:R (.bl (t6 d)) G):He K A [d] G R EX:=by
 refine⟨rfl,?_⟩;replace h:=bF.here h;show zX K A _ _ [aj d] G;cases d
 case ref q=>exists zX,UJ hd;exact h
 case ty n=>simp[kn,gz]at hd
 case tup xs =>
  exists zX
  match xs,h,hc with
  |[],h,_=>exact h
  |[x],h,_=>exact h
  |[x,y],h,_=>exact h
  |x::y::z::w::r,h,_ =>
   have e:((((x::y::z::w::r).length:Nat):Int)==3)=ao:=by simp;omega
   simp only[e];exact h
  |[x,y,z],h,hc =>
   let⟨h1,h2,h3⟩:=hc x y z rfl;exists RJ;refine iT h1 ?_;symm;refine rl (λe=>?_) λe=>?_
   .simpa[t6,e]using h
   .have e:cK x 1 26=ak:=by simpa using e
    refine iT h2 ?_;symm;refine rl (λe2=>?_) λe2=>?_
    .simpa[t6,e2]using h
    .have e2:cK y 1 99=ak:=by simpa using e2
     exists RK;refine iT h3 ?_;simpa[t6,e,e2]using h
 all_goals exists zX
 all_goals exact h
def Z1(hd:kn G d)(hc:∀x y z,d=.tup [x,y,z]->kn G x/\kn G y/\kn G z)(h0:t6 d=ao->EX A.Gi G)(h1:t6 d=ak->R .ae G):iQ K A [d] G R EX:=by
 refine⟨rfl,?_⟩;show Mq K A _ _ [aj d] G;exists Mq;refine XM hd hc ?_;symm;exact rl (λe=>m8.here (h0 e)) λe=>bF.here (h1 (by simpa using e))
abbrev cf(x y g:Nat):D:=.tup [.int x,.int y,.int g]
structure pz(x y g:Nat):Prop where
 x0:1<=x
 x1:x<=26
 y0:1<=y
 y1:y<=99
 g0:1<=g
 g1:g<=20
def aK5{g:Nat}(o:pz x y g):t6 (cf x y g)=ak:=by
 let⟨_,_,_,_,_,_⟩:=o;simp[t6,cf,cK];omega
def QB{g:Nat}(o:pz x y g)(h:R .ae G):iQ K A [cf x y g] G R EX :=
 Z1 Tp (λa b c e=>by cases e;exact⟨rfl,rfl,rfl⟩) (λe=>by rw[aK5 o]at e;cases e) λ_=>h
def YZ(hd:kn G d)(h0:cK d 0 999=ao->EX A.Bk G)(h1:cK d 0 999=ak->R .ae G):bK K A [d,.int 1000] G R EX:=by
 refine⟨rfl,?_⟩;show vX K A _ _ [aj d,aj (.int 1000)] G;exists vX;refine iT hd ?_;symm;exact rl (λe=>m8.here (h0 e)) λe=>bF.here (h1 (by simpa using e))
def Z0(hd:kn G d)(h:R (.bl (cK d 1 1000000)) G):uU K A [d] G R EX:=by
 refine⟨rfl,?_⟩;show Mr K A _ _ [aj d] G;exists Mr;exact iT hd (bF.here h)
def aiJ(hd:kn G d)(h0:cK d 1 1000000=ao->EX A.Hj G)(h1:cK d 1 1000000=ak->R .ae G):bJ K A [d] G R EX:=by
 refine⟨rfl,?_⟩;show yQ K A _ _ [aj d] G;exists yQ;refine Z0 hd ?_;symm;exact rl (λe=>m8.here (h0 e)) λe=>bF.here (h1 (by simpa using e))
def aEF{g:Nat}(o:pz x y g)(hd:kn G d)(hc:∀x y,d=.tup [x,y]->kn G x/\kn G y)(h:R (.bl (xj d x 1 y)) G):Gy K A [cf x y g,d] G R EX:=by
 refine⟨rfl,?_⟩;show Ke K A _ _ [aj (cf x y g),aj d] G;exists Ke;refine QB o ?_;unfold cf;exists Rf;exact XN hd hc (bF.here h)
def YY{g:Nat}(o:pz x y g)(hd:kn G d)(hc:∀x y,d=.tup [x,y]->kn G x/\kn G y)(h0:xj d x 1 y=ao->EX A.FK G)(h1:xj d x 1 y=ak->R .ae G):bL K A [cf x y g,d] G R EX:=by
 refine⟨rfl,?_⟩;show Mi K A _ _ [aj (cf x y g),aj d] G;exists Mi;refine aEF o hd hc ?_;symm;exact rl (λe=>m8.here (h0 e)) λe=>bF.here (h1 (by simpa using e))
structure d3(x y:Nat)(a p:Int):Prop where
 a0:0<=a
 a1:a<x
 p0:1<=p
 p1:p<=y
def Gh(hl:0<=l/\l<=999)(h:R .ae G):bK K A [.int l,.int 1000] G R EX:=YZ rfl (λe=>by simp[cK]at e;omega) λ_=>h
def BE(hl:1<=l/\l<=1000000)(h:R .ae G):bJ K A [.int l] G R EX:=aiJ rfl (λe=>by simp[cK]at e;omega) λ_=>h
def tH{g:Nat}(o:pz x y g){a p:Int}(b:d3 x y a p)(h:R .ae G):bL K A [cf x y g,.tup [.int a,.int p]] G R EX:=by
 let⟨b1,b2,b3,b4⟩:=b;refine YY o Tp (λx y e=>by cases e;exact⟨rfl,rfl⟩) (λe=>?_) λ_=>h;rw[aQQ]at e;simp at e;omega
def Ul{i v:Int}:∀{ps:List (Int×Int)},(bC ps i).isSome=ak->bC (ps.map λkv=>if kv.1=i then(kv.1,v)else kv) i=aj v
 |[],h=>by cases h
 |z::ps,h=>by
  rw[kj];by_cases c:z.1=i
  .rw[if_pos c];unfold bC;rw[if_pos c]
  .rw[if_neg c];unfold bC at h ⊢;rw[if_neg c]at h ⊢;exact Ul h
def QA{i v:Int}:∀{ps:List (Int×Int)},bC ps i=au->bC (ps++[(i,v)]) i=aj v
 |[],_=>by show(if i=i then aj v else au)=_;rw[if_pos rfl]
 |z::ps,h=>by
  rw[List.cons_append];unfold bC at h ⊢;by_cases c:z.1=i
  .rw[if_pos c]at h;cases h
  .rw[if_neg c]at h ⊢;exact QA h
private theorem J6:bC (gB ps i v) i=aj v:=by
 unfold gB;split
 ·rename_i h;exact Ul h
 .rename_i h;exact QA (by simpa using h)
def aK6{ps:List (Int×Int)}:(gB ps i v).length<=ps.length+1:=by
 unfold gB;split
 ·rw[gw];omega
 .rw[uw];exact fj _
def Tl:gB ps i v≠[]:=λe=>by
 have:=J6 (ps:=ps) (i:=i) (v:=v);rw[e]at this;cases this
def PF{F:eF}{ex:aN->aV}{a p:Int}{ps:List (Int×Int)}(he:G e=aj (.cX ao (ps.map uO)))(hl:ps.length<1000)
  (h1:(bC ps lot).getD 0+more≠0->∀G',G' e=aj (.cX ao ((gB ps lot ((bC ps lot).getD 0+more)).map uO))->(∀q u,q≠e->G q=aj u->G' q=aj u)->F.nx [aj (.ref st),aj (.tup [.int a,.int p]),aj (.int lot),aj (.int more),aj (.ref e)] G')
  (h2:(bC ps lot).getD 0+more=0->∀G',G' e=aj (.cX ao ((cD (gB ps lot 0) lot).map uO))->(∀q u,q≠e->G q=aj u->G' q=aj u)->Hd K A ex F [aj (.ref st),aj (.tup [.int a,.int p]),aj (.int lot),aj (.int more),aj (.ref e)] G') :
  Mg K A ex F [aj (.ref st),aj (.tup [.int a,.int p]),aj (.int lot),aj (.int more),aj (.ref e)] G:=by
 have big:10000<dh:=by decide
 exists Mg,oX he;rw[vQ he Dw rfl]
 have eg:(bC (ps.map uO) (.inl (.inl lot))).getD (.int 0)=.int ((bC ps lot).getD 0):=by
  rw[zo];cases bC ps lot<;>rfl
 rw[eg];generalize hv:(bC ps lot).getD 0+more=v at h1 h2;symm;rw[hv,OL he Dw rfl (by rw[gw];omega),ON];generalize jS:aM G e _=G1;have e1:G1 e=aj (.cX ao ((gB ps lot v).map uO)):=by rw[←jS,aJ]
 have k1:∀q u,q≠e->G q=aj u->G1 q=aj u:=λq u n z=>by rw[←jS,aR n];exact z
 have lp:=aK6 (ps:=ps) (i:=lot) (v:=v);exists Rc,oX e1;rw[Df e1 Dw rfl (by rw[zo,J6];rfl)];symm;by_cases c:v=0
 .rw[if_pos (by rw[c];rfl)];rw[OM e1 Dw rfl (by rw[zo,J6];rfl),aDU];refine⟨by rw[oX e1];trivial,?_⟩;refine h2 c (aM G1 e (.cX ao ((cD (gB ps lot v) lot).map uO))) (by rw[aJ,c]) λq u n z=>?_;rw[aR n];exact k1 q u n z
 .rw[if_neg (by simpa using c)];exists Hd;rw[OO e1];symm;rw[if_neg]
  .exact h1 c G1 e1 k1
  .simpa using Tl (ps:=ps) (i:=lot) (v:=v)
def amH{a p:Int}(hs:G st=aj (.cX ak (M.map c8)))(hl:M.length<1000)(hk:bC M (ky a p)=au)(hm:more≠0)
  (h:∀e G',G e=au->G' st=aj (.cX ak ((M++[(ky a p,e)]).map c8))->G' e=aj (.cX ao ([(lot,more)].map uO))->(∀q u,q≠st->G q=aj u->G' q=aj u)->R .ae G'):fD K A [.ref st,.tup [.int a,.int p],.int lot,.int more] G R EX:=by
 have big:10000<dh:=by decide
 refine⟨rfl,?_⟩;have h':∀e G',G e=au->G' st=aj (.cX ak ((M++[(ky a p,e)]).map c8))->G' e=aj (.cX ao ([(lot,more)].map uO))->(∀q u,q≠st->G q=aj u->G' q=aj u)->bF R .ae G':=λe G' a b c d=>bF.here (h e G' a b c d);clear h;show Dv K A _ _ [aj (.ref st),aj (.tup [.int a,.int p]),aj (.int lot),aj (.int more),au] G;exists Dv,oX hs;intro e he;have ne:e≠st:=λz=>by rw[z,hs]at he;cases he
 have EI:aM G e (.cX ao []) st=aj (.cX ak (M.map c8)):=fG hs he;rw[aJX EI Bl rfl (by rw[gw];omega) (by rw[xK,hk];rfl)];generalize jS:aM (aM G e (.cX ao [])) st _=G1;have e1:G1 e=aj (.cX ao (([]:List (Int×Int)).map uO)):=by rw[←jS,aR ne,aJ];rfl
 have s1:G1 st=aj (.cX ak ((M++[(ky a p,e)]).map c8)):=by rw[←jS,aJ,qz];rfl
 have k1:∀q u,q≠st->G q=aj u->G1 q=aj u:=λq u n z=>by
  rw[←jS,aR n];exact fG z he
 refine PF e1 (by simp) (λ_ G2 e2 k2=>?_) λz=>?_
 .refine h' e G2 he (k2 _ _ (Ne.symm ne) s1) (by rw[e2];show aj (GO.cX ao ([(lot,0+more)].map uO))=_;rw[Int.zero_add]) λq u n z=>k2 q u (λw=>by rw[w,he]at z;cases z) (k1 q u n z)
 .exact absurd z (by show(0:Int)+more≠0;rw[Int.zero_add];exact hm)
def amI{d:bx}{ps:List (Int×Int)}{a p:Int}(hs:G st=aj (.cX ak (M.map c8)))(hl:M.length<1000)(hk:bC M (ky a p)=aj d)(hd:G d=aj (.cX ao (ps.map uO)))(hp:ps.length<1000)
  (h1:(bC ps lot).getD 0+more≠0->∀G',G' d=aj (.cX ao ((gB ps lot ((bC ps lot).getD 0+more)).map uO))->(∀q u,q≠d->G q=aj u->G' q=aj u)->R .ae G')
  (h2:(bC ps lot).getD 0+more=0->cD (gB ps lot 0) lot=[]->∀G',G' st=aj (.cX ak ((cD M (ky a p)).map c8))->(∀q u,q≠d->q≠st->G q=aj u->G' q=aj u)->R .ae G')
  (h3:(bC ps lot).getD 0+more=0->cD (gB ps lot 0) lot≠[]->∀G',G' d=aj (.cX ao ((cD (gB ps lot 0) lot).map uO))->(∀q u,q≠d->G q=aj u->G' q=aj u)->R .ae G'):fD K A [.ref st,.tup [.int a,.int p],.int lot,.int more] G R EX:=by
 have big:10000<dh:=by decide
 refine⟨rfl,?_⟩;show Dv K A _ _ [aj (.ref st),aj (.tup [.int a,.int p]),aj (.int lot),aj (.int more),au] G;exists Dv,oX hs;intro e he;have ne:st≠d:=λz=>by rw[z,hd]at hs;cases hs
 have EI:aM G e (.cX ao []) st=aj (.cX ak (M.map c8)):=fG hs he;have W6:aM G e (.cX ao []) d=aj (.cX ao (ps.map uO)):=fG hd he;rw[aJY EI Bl rfl (by rw[gw];omega) (by rw[xK,hk];rfl)];refine PF W6 hp (λc G2 e2 k2=>bF.here (h1 c G2 e2 λq u n z=>k2 q u n (fG z he))) λc G2 e2 k2=>?_;exists Hd;rw[OO e2];symm;by_cases c2:cD (gB ps lot 0) lot=[]
 .rw[c2,if_pos (by simp)];have s2:=k2 _ _ ne EI;exists oX s2;rw[OM s2 Bl rfl (by rw[xK,hk];rfl),aDV];refine bF.here (h2 c c2 _ aJ λq u n n2 z=>?_);rw[aR n2];exact k2 q u n (fG z he)
 .rw[if_neg]
  .exact bF.here (h3 c c2 G2 e2 λq u n z=>k2 q u n (fG z he))
  .have:=List.length_pos_iff.mpr c2;simp;omega
@[simp]def Nt(A:aU)(x y g:Nat)(room:Int)(st:bx):GO:=.ins A.aD [("layout",cf x y g),("room",.int room),("stacks",.ref st)]
abbrev dD(M:List (List Key×bx))(c:bx->List (Int×Int))(k:List Key):List (Int×Int):=match bC M k with
 |some d=>c d
 |none=>[]
structure SH(A:aU)(sh:bx)(x y g:Nat)(room:Int)(st:bx)(M:List (List Key×bx))(c:bx->List (Int×Int))(G:Gp):Prop where
 o:pz x y g
 sh:G sh=aj (Nt A x y g room st)
 st:G st=aj (.cX ak (M.map c8))
 ins:∀z∈M,G z.2=aj (.cX ao ((c z.2).map uO))
def SH.le{g:Nat}(s:SH A sh x y g room st M c G)(l:Le G G'):SH A sh x y g room st M c G':=⟨s.o,l _ _ s.sh,l _ _ s.st,λz hz=>l _ _ (s.ins z hz)⟩
def SH.get{F:D->Gp->Prop}{g:Nat}(s:SH A sh x y g room st M c G){a p:Int}(h:∀d G',Le G G'->G' d=aj (.cX ao ((dD M c (ky a p)).map uO))->F (.ref d) G'):∀e,G e=au->zO (.ref st) (.tup [.int a,.int p]) (aM G e (.cX ao [])) λ_ _ kvs k=>F ((bC kvs k).getD (.ref e)) (aM G e (.cX ao [])):=by
 intro e he;have l:Le G (aM G e (.cX ao [])):=.new he;rw[vQ (l _ _ s.st) Bl rfl,xK];unfold dD at h;cases hv:bC M (ky a p)with
 |none=>rw[hv]at h;exact h e _ l aJ
 |some d=>rw[hv]at h;exact h d _ l (l _ _ (s.ins _ (aCI hv)))
def aEH{g:Nat}(s:SH A sh x y g room st M c G){a p:Int}(hl:0<=lot/\lot<=999)(b:d3 x y a p)(h:∀G',Le G G'->R (.int ((bC (dD M c (ky a p)) lot).getD 0)) G'):eE K A [.ref sh,.int lot,.tup [.int a,.int p]] G R EX:=by
 refine⟨rfl,?_⟩;have h':∀G',Le G G'->bF R (.int ((bC (dD M c (ky a p)) lot).getD 0)) G':=λG' l=>bF.here (h G' l);clear h;show qD K A _ _ [aj (.ref sh),aj (.int lot),aj (.tup [.int a,.int p])] G;exists qD;refine Gh hl ?_;exists w6;rw[bW s.sh rfl];symm;refine tH s.o b ?_;exists w5;rw[bW s.sh rfl];exists oX s.st;refine s.get (F:=λd G'=>yP d G'/\zO d (.int lot) G' λ_ _ kvs k=>bF R ((bC kvs k).getD (.int 0)) G') λd G1 l e1=>⟨by rw[oX e1];trivial,?_⟩;rw[vQ e1 Dw rfl,zo];have eg:((bC (dD M c (ky a p)) lot).map D.int).getD (.int 0)=.int ((bC (dD M c (ky a p)) lot).getD 0):=by cases bC (dD M c (ky a p)) lot<;>rfl
 rw[eg];exact h' G1 l
def aEI{g:Nat}(s:SH A sh x y g room st M c G){a p:Int}(b:d3 x y a p)(h:∀G',Le G G'->R (.int ((dD M c (ky a p)).map (·.2)).sum) G'):jH K A [.ref sh,.tup [.int a,.int p]] G R EX:=by
 refine⟨rfl,?_⟩;have h':∀G',Le G G'->bF R (.int ((dD M c (ky a p)).map (·.2)).sum) G':=λG' l=>bF.here (h G' l);clear h;show qC K A _ _ [aj (.ref sh),aj (.tup [.int a,.int p])] G;exists qC;rw[bW s.sh rfl];symm;refine tH s.o b ?_;exists vZ;rw[bW s.sh rfl];exists oX s.st;refine s.get (F:=λd G'=>vt d G' (bF R)) λd G1 l e1=>?_;exact aJZ e1 (h' G1 l)
def RI{g:Nat}(s:SH A sh x y g room st M c G){a p:Int}(b:d3 x y a p)(h0:room<((dD M c (ky a p)).map (·.2)).sum+am->EX A.dW G)(h1:((dD M c (ky a p)).map (·.2)).sum+am<=room->∀G',Le G G'->R .ae G'):cU K A [.ref sh,.tup [.int a,.int p],.int am] G R EX:=by
 refine⟨rfl,?_⟩;show m9 K A _ _ [aj (.ref sh),aj (.tup [.int a,.int p]),aj (.int am)] G;exists m9,cF s.sh (m:="filled") rfl;refine aEI s b λG1 l=>?_;generalize ((dD M c (ky a p)).map (·.2)).sum=f at *;symm;rw[bW (l _ _ s.sh) rfl];symm;refine oW (λe=>?_) λe=>?_
 .exact⟨G,l,h0 (by simpa using e)⟩
 .exact bF.here (h1 (by simpa using e) G1 l)
def MJ{g:Nat}(s:SH A sh x y g room st M c G){a p:Int}(hl:0<=lot/\lot<=999)(b:d3 x y a p)(h0:(bC (dD M c (ky a p)) lot).getD 0<am->EX A.bN G)(h1:am<=(bC (dD M c (ky a p)) lot).getD 0->∀G',Le G G'->R .ae G'):bO K A [.ref sh,.int lot,.tup [.int a,.int p],.int am] G R EX:=by
 refine⟨rfl,?_⟩;show kJ K A _ _ [aj (.ref sh),aj (.int lot),aj (.tup [.int a,.int p]),aj (.int am)] G;exists kJ,cF s.sh (m:="amount") rfl;refine aEH s hl b λG1 l=>?_;generalize (bC (dD M c (ky a p)) lot).getD 0=f at *;symm;refine oW (λe=>?_) λe=>?_
 .exact⟨G,l,h0 (by simpa using e)⟩
 .exact bF.here (h1 (by simpa using e) G1 l)
def aVQ{g:Nat}(s:SH A sh x y g room st M c G){a p:Int}(hl:0<=lot/\lot<=999)(b:d3 x y a p)(ha:1<=am/\am<=1000000)(h0:room<((dD M c (ky a p)).map (·.2)).sum+am->EX A.dW G)
  (h1:((dD M c (ky a p)).map (·.2)).sum+am<=room->∀(G1:Gp)(R':jC)(eP:aV),Le G G1->(∀G2,R .ae G2->R' .ae G2)->fD K A [.ref st,.tup [.int a,.int p],.int lot,.int am] G1 R' eP):jZ K A [.ref sh,.int lot,.tup [.int a,.int p],.int am] G R EX:=by
 refine⟨rfl,?_⟩;show yU K A _ _ [aj (.ref sh),aj (.int lot),aj (.tup [.int a,.int p]),aj (.int am)] G;exists yU;refine Gh hl ?_;exists VB;rw[bW s.sh rfl];symm;refine tH s.o b ?_;exists VC;refine BE ha ?_;exists VD,cF s.sh (m:="need_room") rfl;refine RI s b (λe=>m8.here (h0 e)) λe G1 l=>?_;exists VE;rw[bW (l _ _ s.sh) rfl];symm;exact h1 e G1 _ _ l λG2 z=>bF.here z
def aQR{g:Nat}(s:SH A sh x y g room st M c G){a p:Int}(hl:0<=lot/\lot<=999)(b:d3 x y a p)(ha:1<=am/\am<=1000000)(h0:(bC (dD M c (ky a p)) lot).getD 0<am->EX A.bN G)
  (h1:am<=(bC (dD M c (ky a p)) lot).getD 0->∀(G1:Gp)(R':jC)(eP:aV),Le G G1->(∀G2,R .ae G2->R' .ae G2)->fD K A [.ref st,.tup [.int a,.int p],.int lot,.int (-am)] G1 R' eP):jA K A [.ref sh,.int lot,.tup [.int a,.int p],.int am] G R EX:=by
 refine⟨rfl,?_⟩;show wA K A _ _ [aj (.ref sh),aj (.int lot),aj (.tup [.int a,.int p]),aj (.int am)] G;exists wA;refine Gh hl ?_;exists VP;rw[bW s.sh rfl];symm;refine tH s.o b ?_;exists VQ;refine BE ha ?_;exists zZ,cF s.sh (m:="need_there") rfl;refine MJ s hl b (λe=>m8.here (h0 e)) λe G1 l=>?_;exists zY;rw[bW (l _ _ s.sh) rfl];symm;exact h1 e G1 _ _ l λG2 z=>bF.here z
abbrev cM(ps:List (Int×Int))(l:Int):Int:=(bC ps l).getD 0
abbrev bg(ps:List (Int×Int)):Int:=(ps.map (·.2)).sum
def wY:cM [] l=0:=rfl
def dI{q:Int×Int}:cM (q::ps) l=if q.1=l then q.2 else cM ps l:=by
 unfold cM;rw[bC];split<;>rfl
def nG{q:Int×Int}:bg (q::ps)=q.2+bg ps:=by simp[bg]
def aK7:bg (ps++qs)=bg ps+bg qs:=by simp[bg]
def tK{κ α:Type}[DecidableEq κ]{k:κ}:∀{l:List (κ×α)},bC l k=au↔k∉l.map (·.1)
 |[]=>by simp[bC]
 |z::r=>by
  rw[bC];by_cases c:z.1=k
  .simp[c]
  .have:¬ k=z.1:=λe=>c e.symm;simp[c,this,tK (l:=r)]
def vk{κ α:Type}[DecidableEq κ]{z:κ×α}:∀{l:List (κ×α)},(l.map (·.1)).Nodup->z∈l->bC l z.1=aj z.2
 |[],_,h=>by cases h
 |y::r,nd,h=>by
  rw[kj,yq]at nd;rw[bC];rcases jm.mp h with e|h
  .rw[if_pos (by rw[e]),e]
  .rw[if_neg (λc=>nd.1 (by rw[c];exact jw.mpr ⟨z,h,rfl⟩))];exact vk nd.2 h
private theorem rP{κ α:Type}[DecidableEq κ]{k:κ}{v:α}:∀{l:List (κ×α)},bC l k=aj v->(k,v)∈l
 |[],h=>by cases h
 |z::r,h=>by
  rw[bC]at h;split at h
  .rename_i c;cases h;rw[←c];exact .head _
  .exact qj _ (rP h)
def map_put{ps:List (Int×Int)}{w:Int}(nd:(ps.map (·.1)).Nodup):(∀l',cM (ps.map λkv=>if kv.1=l then(kv.1,w)else kv) l'=if l'=l/\l∈ps.map (·.1)then w else cM ps l')/\bg (ps.map λkv=>if kv.1=l then(kv.1,w)else kv)=bg ps+(if l∈ps.map (·.1)then w - cM ps l else 0):=by
 induction ps with
 |nil=>exact⟨λl'=>by simp[wY],by simp[bg]⟩
 |cons q r ih =>
  rw[kj,yq]at nd;let⟨i1,i2⟩:=ih nd.2;by_cases c:q.1=l
  .have nl:l∉r.map (·.1):=c ▸ nd.1
   have er:(r.map λkv=>if kv.1=l then(kv.1,w)else kv)=r:=by
    conv=>rhs;rw[←List.map_id r]
    refine GU λz hz=>?_;rw[if_neg (λe=>nl (by rw[←e];exact jw.mpr ⟨z,hz,rfl⟩))];rfl
   refine⟨λl'=>?_,?_⟩
   .rw[kj,er,dI,dI,if_pos c];by_cases e:l'=l
    .subst e;simp[c]
    .have:¬ l=l':=λz=>e z.symm;simp[c,e,this]
   .rw[kj,er,nG,nG,if_pos c,dI,if_pos c];simp[c];omega
  .refine⟨λl'=>?_,?_⟩
   .rw[kj,if_neg c,dI,dI,i1];by_cases e:q.1=l'
    .subst e;simp[c]
    .have:¬ l=q.1:=λz=>c z.symm;rw[if_neg e,if_neg e];simp only[kj,jm,this,false_or]
   .rw[kj,if_neg c,nG,nG,i2,dI,if_neg c];have:¬ l=q.1:=λz=>c z.symm;simp only[kj,jm,this,false_or];omega
def PD{ps:List (Int×Int)}(h:l∉ps.map (·.1)):cM ps l=0:=by unfold cM;rw[tK.mpr h];rfl
private theorem Jt{ps:List (Int×Int)}{w:Int}(nd:(ps.map (·.1)).Nodup):(∀l',cM (gB ps l w) l'=if l'=l then w else cM ps l')/\bg (gB ps l w)=bg ps+w - cM ps l/\((gB ps l w).map (·.1)).Nodup/\(∀q∈gB ps l w,q∈ps∨q=(l,w))/\(gB ps l w).length<=ps.length+1:=by
 have key:(bC ps l).isSome=ak↔l∈ps.map (·.1):=by
  cases q:bC ps l with
  |none=>simp only[Option.isSome_none,um,false_iff];exact tK.mp q
  |some v=>simp only[Option.isSome_some,true_iff];exact jw.mpr ⟨_,rP q,rfl⟩
 unfold gB;split
 ·rename_i h;have hm:=key.mp h;let⟨m1,m2⟩:=map_put (w:=w) (l:=l) nd;refine⟨λl'=>by rw[m1];simp only[hm,and_true],by rw[m2,if_pos hm];omega,?_,λq hq=>?_,by simp⟩
  .have:(ps.map λkv=>if kv.1=l then(kv.1,w)else kv).map (·.1)=ps.map (·.1):=by
    rw[xg];refine GU λz _=>?_;simp only[Function.comp];split<;>rfl
   rw[this];exact nd
  .obtain⟨z,hz,rfl⟩:=jw.mp hq;split
   ·rename_i c;exact .inr (by rw[c])
   .exact .inl hz
 .rename_i h;have hm:l∉ps.map (·.1):=λz=>h (key.mpr z);refine⟨λl'=>?_,by rw[aK7,PD hm];simp[bg],?_,λq hq=>?_,by simp⟩
  .have:∀qs:List (Int×Int),l∉qs.map (·.1)->cM (qs++[(l,w)]) l'=if l'=l then w else cM qs l':=by
    intro qs
    induction qs with
    |nil =>
     intro _;rw[List.nil_append,dI];by_cases e:l'=l
     .subst e;simp
     .have:¬ l=l':=λz=>e z.symm;simp[e,this]
    |cons q r ih =>
     intro hn;simp only[kj,jm,not_or]at hn;rw[List.cons_append,dI,dI,ih hn.2];by_cases e:q.1=l'
     .subst e;have:¬ q.1=l:=λz=>hn.1 z.symm;simp[this]
     .simp[e]
   exact this ps hm
  .rw[qz,zj];refine⟨nd,by simp,λa ha b hb e=>?_⟩;simp at hb;exact hm (by rw[←hb,←e];exact ha)
  .rcases yp.mp hq with hq|hq
   .exact .inl hq
   .exact .inr (ux.mp hq)
def PC{ps:List (Int×Int)}(nd:(ps.map (·.1)).Nodup):(∀l',cM (cD ps l) l'=if l'=l then 0 else cM ps l')/\bg (cD ps l)=bg ps - cM ps l/\((cD ps l).map (·.1)).Nodup/\(∀q∈cD ps l,q∈ps/\q.1≠l)/\(cD ps l).length<=ps.length:=by
 have sub:∀q∈cD ps l,q∈ps/\q.1≠l:=λq hq=>by
  let⟨a,b⟩:=zm.mp hq;exact⟨a,by simpa using b⟩
 have both:(∀l',cM (cD ps l) l'=if l'=l then 0 else cM ps l')/\bg (cD ps l)=bg ps - cM ps l:=by
  clear sub
  induction ps with
  |nil=>exact⟨λl'=>by simp[cD,wY],by simp[cD,bg,wY]⟩
  |cons q r ih =>
   rw[kj,yq]at nd;let⟨i1,i2⟩:=ih nd.2;by_cases c:q.1=l
   .have e:cD (q::r) l=cD r l:=by simp[cD,c]
    have nl:l∉r.map (·.1):=c ▸ nd.1;refine⟨λl'=>?_,?_⟩
    .rw[e,i1,dI];by_cases z:l'=l
     .simp[z]
     .have:¬ l=l':=λw=>z w.symm;simp[z,c,this]
    .rw[e,i2,nG,dI,if_pos c,PD nl];omega
   .have e:cD (q::r) l=q::cD r l:=by simp[cD,c]
    refine⟨λl'=>?_,?_⟩
    .rw[e,dI,dI,i1];by_cases z:q.1=l'
     .subst z;simp[c]
     .simp[z]
    .rw[e,nG,nG,i2,dI,if_neg c];omega
 refine⟨both.1,both.2,?_,sub,BC _ _⟩;exact nd.sublist ((Mz).map _)
def J3(h:∀q∈ps,1<=q.2):0<=cM ps l:=by
 unfold cM;cases q:bC ps l with
 |none=>exact mn _
 |some v=>have:=h _ (rP q);simp only at this;show 0<=v;omega
structure HB(room:Int)(ps:List (Int×Int)):Prop where
 ne:ps≠[]
 nd:(ps.map (·.1)).Nodup
 pos:∀q∈ps,1<=q.2
 sm:bg ps<=room
structure dS(room:Int)(n:Nat)(M:List (List Key×bx))(c:bx->List (Int×Int)):Prop where
 kn:(M.map (·.1)).Nodup
 an:(M.map (·.2)).Nodup
 bn:∀z∈M,HB room (c z.2)/\(c z.2).length<=n
 ks:∀z∈M,∃a p:Int,z.1=ky a p
 len:M.length<=n
def dS.nil:dS room 0 [] c:=⟨by simp,by simp,(λz hz=>by cases hz),(λz hz=>by cases hz),by simp⟩
def dS.up{m:Nat}(h:dS room n M c)(l:n<=m):dS room m M c:=⟨h.kn,h.an,λz hz=>⟨(h.bn z hz).1,qd (h.bn z hz).2 l⟩,h.ks,qd h.len l⟩
abbrev setC(c:bx->List (Int×Int))(d:bx)(ps:List (Int×Int)):bx->List (Int×Int):=λq=>if q=d then ps else c q
def qR{d:bx}:setC c d ps d=ps:=if_pos rfl
def ze{d:bx}(h:q≠d):setC c d ps q=c q:=if_neg h
variable{sh:bx}{x y g:Nat}{room:Int}{st:bx}{M:List (List Key×bx)}{c:bx->List (Int×Int)}
def OA{k:List Key}(n:k≠k'):∀{M:List (List Key×bx)},bC (M++[(k',e)]) k=bC M k
 |[]=>by
  show(if k'=k then aj e else au)=au;rw[if_neg (Ne.symm n)]
 |z::r=>by
  rw[List.cons_append,bC,bC,OA n]
def JZ{k:List Key}(n:k≠k'):∀{M:List (List Key×bx)},bC (cD M k') k=bC M k
 |[]=>rfl
 |z::r=>by
  by_cases e:z.1=k'
  .have er:cD (z::r) k'=cD r k':=by simp[cD,e]
   rw[er,JZ n,bC,if_neg (by rw[e];exact Ne.symm n)]
  .have er:cD (z::r) k'=z::cD r k':=by simp[cD,e]
   rw[er,bC,bC,JZ n]
def Js{z y:List Key×bx}:∀{M:List (List Key×bx)},(M.map (·.2)).Nodup->z∈M->y∈M->z.2=y.2->z=y
 |[],_,h,_,_=>by cases h
 |w::r,nd,h1,h2,e=>by
  rw[kj,yq]at nd;rcases jm.mp h1 with a|a<;>rcases jm.mp h2 with b|b
  .rw[a,b]
  .exact absurd (by rw[←a,e];exact jw.mpr ⟨_,b,rfl⟩) nd.1
  .exact absurd (by rw[←b,←e];exact jw.mpr ⟨_,a,rfl⟩) nd.1
  .exact Js nd.2 a b e
abbrev Kp(st:bx)(M M':List (List Key×bx))(G G':Gp):Prop:=(∀q u,q≠st->q∉M.map (·.2)->G q=aj u->G' q=aj u)/\∀q∈M'.map (·.2),q∈M.map (·.2)∨G q=au
def Kp.trans{M1 M2:List (List Key×bx)}(h:Kp st M M1 G G1)(h2:Kp st M1 M2 G1 G2)(hs:G1 st≠au):Kp st M M2 G G2:=by
 refine⟨λq u n1 n2 e=>?_,λq hq=>?_⟩
 .refine h2.1 q u n1 (λz=>?_) (h.1 q u n1 n2 e);rcases h.2 q z with z|z
  .exact n2 z
  .rw[z]at e;cases e
 .rcases h2.2 q hq with z|z
  .exact h.2 q z
  .by_cases c:q∈M.map (·.2)
   .exact .inl c
   .right;cases e:G q with
    |none=>rfl
    |some u =>
     have n1:q≠st:=λw=>hs (w ▸ z);have:=h.1 q u n1 c e;rw[z]at this;cases this
def Kp.le{M1:List (List Key×bx)}(l:Le G0 G)(h:Kp st M M1 G G1):Kp st M M1 G0 G1:=⟨λq u n1 n2 e=>h.1 q u n1 n2 (l _ _ e),λq hq=>by
 rcases h.2 q hq with z|z
 .exact .inl z
 .right;cases e:G0 q with
  |none=>rfl
  |some u=>rw[l _ _ e]at z;cases z⟩
def aQS{z:List Key×bx}(kn:(M.map (·.1)).Nodup)(h:z∈M):dD M c z.1=c z.2:=by
 unfold dD;rw[vk kn h]
def rQ{k:List Key}(hr:0<=room)(v:dS room n M c):((dD M c k).map (·.1)).Nodup/\(∀q∈dD M c k,1<=q.2)/\bg (dD M c k)<=room/\(dD M c k).length<=n:=by
 unfold dD;cases e:bC M k with
 |none=>exact⟨List.nodup_nil,(λq hq=>by cases hq),hr,xu _⟩
 |some d =>
  let⟨b,l⟩:=v.bn _ (rP e);exact⟨b.nd,b.pos,b.sm,l⟩
def aQT(v:Int):cM [(lot,v)] l=if l=lot then v else 0:=by
 rw[dI];by_cases e:l=lot
 .rw[if_pos e.symm,if_pos e]
 .rw[if_neg (Ne.symm e),if_neg e];rfl
abbrev BO(M:List (List Key×bx))(c:bx->List (Int×Int))(M':List (List Key×bx))(c':bx->List (Int×Int))(k:List Key)(lot more:Int):Prop:=(∀l,cM (dD M' c' k) l=cM (dD M c k) l+if l=lot then more else 0)/\bg (dD M' c' k)=bg (dD M c k)+more
def Oz(s:SH A sh x y g room st M c G)(v:dS room n M c){k:List Key}{d:bx}(hk:bC M k=aj d){ps:List (Int×Int)}(b:HB room ps)(hl:ps.length<=n+1)(hv:∀l,cM ps l=cM (c d) l+if l=lot then more else 0)(jI:bg ps=bg (c d)+more)(e:G' d=aj (.cX ao (ps.map uO)))(AA:∀q u,q≠d->G q=aj u->G' q=aj u) :
  SH A sh x y g room st M (setC c d ps) G'/\dS room (n+1) M (setC c d ps)/\BO M c M (setC c d ps) k lot more/\(∀k',k'≠k->dD M (setC c d ps) k'=dD M c k')/\Kp st M M G G':=by
 have hm:=rP hk;have hd:=s.ins _ hm;have ne:sh≠d:=λz=>by have:=s.sh;rw[z,hd]at this;cases this
 have WB:st≠d:=λz=>by have:=s.st;rw[z,hd]at this;cases this
 refine⟨⟨s.o,AA _ _ ne s.sh,AA _ _ WB s.st,λz hz=>?_⟩,⟨v.kn,v.an,λz hz=>?_,v.ks,DN v.len⟩,?_,λk' n'=>?_,λq u n1 n2 w=>AA q u (λz=>n2 (by rw[z];exact jw.mpr ⟨_,hm,rfl⟩)) w,λq hq=>.inl hq⟩
 .by_cases w:z.2=d
  .rw[w,qR];exact e
  .rw[ze w];exact AA _ _ w (s.ins z hz)
 .by_cases w:z.2=d
  .rw[w,qR];exact⟨b,hl⟩
  .rw[ze w];exact⟨(v.bn z hz).1,DN (v.bn z hz).2⟩
 .have e1:dD M c k=c d:=by unfold dD;rw[hk]
  have e2:dD M (setC c d ps) k=ps:=by unfold dD;rw[hk];exact qR
  unfold BO;rw[e1,e2];exact⟨hv,jI⟩
 .unfold dD;cases e':bC M k' with
  |none=>rfl
  |some d' =>
   have:d'≠d:=λw=>n' (by have:=Js v.an (rP e') hm w;exact congrArg (·.1) this);exact ze this
def Fc(s:SH A sh x y g room st M c G)(v:dS room n M c)(hn:n<900){a p:Int}(hm:more≠0)(h0:0<=cM (dD M c (ky a p)) lot+more)(hr:bg (dD M c (ky a p))+more<=room)
  (h:∀M' c' G',SH A sh x y g room st M' c' G'->dS room (n+1) M' c'->BO M c M' c' (ky a p) lot more->(∀k',k'≠ky a p->dD M' c' k'=dD M c k')->Kp st M M' G G'->R .ae G'):fD K A [.ref st,.tup [.int a,.int p],.int lot,.int more] G R EX:=by
 have NH:sh≠st:=λz=>by have:=s.sh;rw[z,s.st]at this;cases this
 have ib:∀z∈M,z.2≠st:=λz hz w=>by have:=s.ins z hz;rw[w,s.st]at this;cases this
 cases hk:bC M (ky a p)with
 |none =>
  have eh:dD M c (ky a p)=[]:=by unfold dD;rw[hk]
  rw[eh]at h0 hr;have EZ:0<=more:=by simpa[wY]using h0
  have hr':more<=room:=by simpa[bg]using hr
  refine amH s.st (by have:=v.len;omega) hk hm λe G' he s2 d2 k2=>?_;have Eu:∀z∈M,z.2≠e:=λz hz w=>by have:=s.ins z hz;rw[w,he]at this;cases this
  have nm:e∉M.map (·.2):=λw=>by let⟨z,hz,w⟩:=jw.mp w;exact Eu z hz w
  refine h (M++[(ky a p,e)]) (setC c e [(lot,more)]) G' ⟨s.o,k2 _ _ NH s.sh,s2,λz hz=>?_⟩ ⟨?_,?_,λz hz=>?_,λz hz=>?_,?_⟩ ?_ (λk' n'=>?_) ⟨λq u n1 _ w=>k2 q u n1 w,λq hq=>?_⟩
  .rcases yp.mp hz with hz|hz
   .rw[ze (Eu z hz)];exact k2 _ _ (ib z hz) (s.ins z hz)
   .cases ux.mp hz;rw[show setC c e [(lot,more)] (ky a p,e).2=[(lot,more)]from qR];exact d2
  .rw[qz,zj];refine⟨v.kn,by simp,λu hu w hw z=>?_⟩;simp at hw;exact tK.mp hk (by rw[←hw,←z];exact hu)
  .rw[qz,zj];refine⟨v.an,by simp,λu hu w hw z=>?_⟩;simp at hw;exact nm (by rw[←hw,←z];exact hu)
  .rcases yp.mp hz with hz|hz
   .rw[ze (Eu z hz)];exact⟨(v.bn z hz).1,DN (v.bn z hz).2⟩
   .cases ux.mp hz;rw[show setC c e [(lot,more)] (ky a p,e).2=[(lot,more)]from qR];refine⟨⟨by simp,by simp,λq hq=>?_,?_⟩,by simp⟩
    .cases ux.mp hq;show 1<=more;omega
    .rw[nG];show more+0<=room;omega
  .rcases yp.mp hz with hz|hz
   .exact v.ks z hz
   .cases ux.mp hz;exact⟨a,p,rfl⟩
  .have:=v.len;rw[uw];exact Nat.add_le_add_right this 1
  .have e1:bC (M++[(ky a p,e)]) (ky a p)=aj e:=vk (z:=(ky a p,e)) (by
    rw[qz,zj];refine⟨v.kn,by simp,λu hu w hw z=>?_⟩;simp at hw;exact tK.mp hk (by rw[←hw,←z];exact hu)) (by simp)
   have e2:dD (M++[(ky a p,e)]) (setC c e [(lot,more)]) (ky a p)=[(lot,more)]:=by unfold dD;rw[e1];exact qR
   unfold BO;rw[e2,eh];refine⟨λl=>?_,?_⟩
   .rw[aQT,wY];omega
   .simp[bg]
  .unfold dD;rw[OA n'];cases e':bC M k' with
   |none=>rfl
   |some d'=>exact ze (Eu _ (rP e'))
  .rw[qz]at hq;rcases yp.mp hq with hq|hq
   .exact .inl hq
   .simp at hq;rw[hq];exact .inr he
 |some d =>
  have EM:=rP hk;have hd:=s.ins _ EM;obtain⟨b,bl⟩:HB room (c d)/\(c d).length<=n:=v.bn _ EM;have eh:dD M c (ky a p)=c d:=by unfold dD;rw[hk]
  rw[eh]at h0 hr;have Ot:(c d).length<=n:=bl;refine amI s.st (by have:=v.len;omega) hk hd (by show(c d).length<1000;omega) (λw G' e k2=>?_) (λw wd G' e k2=>?_) λw wd G' e k2=>?_
  .obtain⟨q1,q2,q3,q4,q5⟩:=Jt (l:=lot) (w:=(bC (c d) lot).getD 0+more) b.nd;have ev:(bC (c d) lot).getD 0=cM (c d) lot:=rfl;have e:G' d=aj (.cX ao ((gB (c d) lot ((bC (c d) lot).getD 0+more)).map uO)):=e;rw[ev]at w e q1 q2 q3 q4 q5
   have hp:∀q∈gB (c d) lot (cM (c d) lot+more),1<=q.2:=λq hq=>by
    rcases q4 q hq with z|z
    .exact b.pos q z
    .rw[z];show 1<=cM (c d) lot+more;omega
   have hv:∀l,cM (gB (c d) lot (cM (c d) lot+more)) l=cM (c d) l+if l=lot then more else 0:=λl=>by
    rw[q1];by_cases z:l=lot
    .rw[if_pos z,if_pos z,z]
    .rw[if_neg z,if_neg z];omega
   let⟨z1,z2,z3,z4,z5⟩:=Oz s v hk (lot:=lot) (more:=more) ⟨Tl,q3,hp,by rw[q2];omega⟩ (qd q5 (Nat.succ_le_succ Ot)) hv (by rw[q2];omega) e k2;exact h _ _ G' z1 z2 z3 z4 z5
  .obtain⟨q1,q2,q3,q4,q5⟩:=Jt (l:=lot) (w:=0) b.nd;let⟨t1,t2,t3,t4,t5⟩:=PC (l:=lot) q3;have V1:cD (gB (c d) lot 0) lot=[]:=wd;rw[V1]at t1 t2;have w':cM (c d) lot+more=0:=w
   have hv:∀l,cM (c d) l=-(if l=lot then more else 0:Int):=λl=>by
    have:=t1 l;rw[q1,wY]at this;by_cases z:l=lot
    .rw[if_pos z,z];omega
    .rw[if_neg z,if_neg z]at this;rw[if_neg z];omega
   have sub:∀z∈cD M (ky a p),z∈M:=λz hz=>(zm.mp hz).1;have sl:List.Sublist (cD M (ky a p)) M:=Mz;refine h (cD M (ky a p)) c G' ⟨s.o,k2 _ _ (λz=>by have:=s.sh;rw[z,hd]at this;cases this) NH s.sh,e,λz hz=>?_⟩ ⟨v.kn.sublist (sl.map _),v.an.sublist (sl.map _),λz hz=>⟨(v.bn z (sub z hz)).1,DN (v.bn z (sub z hz)).2⟩,λz hz=>v.ks z (sub z hz),DN (qd sl.length_le v.len)⟩ ?_ (λk' n'=>?_) ⟨λq u n1 n2 w=>k2 q u (λz=>n2 (by rw[z];exact jw.mpr ⟨_,EM,rfl⟩)) n1 w,λq hq=>?_⟩
   .refine k2 _ _ (λw=>?_) (ib z (sub z hz)) (s.ins z (sub z hz));have:=Js v.an (sub z hz) EM w;have h3:=(zm.mp hz).2;rw[this]at h3;simp at h3
   .have e1:bC (cD M (ky a p)) (ky a p)=au:=tK.mpr λw=>by
     let⟨z,hz,w⟩:=jw.mp w;have h3:=(zm.mp hz).2;rw[w]at h3;simp at h3
    have e2:dD (cD M (ky a p)) c (ky a p)=[]:=by unfold dD;rw[e1]
    unfold BO;rw[e2,eh];refine⟨λl=>?_,?_⟩
    .rw[hv,wY];omega
    .have:bg []=0:=rfl;rw[q2,q1,if_pos rfl]at t2;omega
   .unfold dD;rw[JZ n']
   .obtain⟨z,hz,rfl⟩:=jw.mp hq;exact .inl (jw.mpr ⟨z,sub z hz,rfl⟩)
  .obtain⟨q1,q2,q3,q4,q5⟩:=Jt (l:=lot) (w:=0) b.nd;let⟨t1,t2,t3,t4,t5⟩:=PC (l:=lot) q3;have w':cM (c d) lot+more=0:=w;have v0:=J3 (l:=lot) b.pos
   have hp:∀q∈cD (gB (c d) lot 0) lot,1<=q.2:=λq hq=>by
    let⟨m1,m2⟩:=t4 q hq;rcases q4 q m1 with z|z
    .exact b.pos q z
    .exact absurd (by rw[z]) m2
   have hv:∀l,cM (cD (gB (c d) lot 0) lot) l=cM (c d) l+if l=lot then more else 0:=λl=>by
    rw[t1,q1];by_cases z:l=lot
    .rw[if_pos z,if_pos z,z];omega
    .rw[if_neg z,if_neg z,if_neg z];omega
   let⟨z1,z2,z3,z4,z5⟩:=Oz s v hk (lot:=lot) (more:=more) ⟨wd,t3,hp,by rw[t2,q2,q1,if_pos rfl];omega⟩ (qd t5 (qd q5 (Nat.succ_le_succ Ot))) hv (by rw[t2,q2,q1,if_pos rfl];omega) e k2;exact h _ _ G' z1 z2 z3 z4 z5
def Oy{κ α:Type}[DecidableEq κ]{k:κ}{v:α}{l:List (κ×α)}(h:k∉l.map (·.1)):gB l k v=l++[(k,v)]:=by
 unfold gB;rw[tK.mpr h];rfl
def Qz:∀qs:List (Int×Int),A9 (qs.map oN)=aj (qs.map λq=>(.inl q.1,.int q.2))
 |[]=>rfl
 |q::r=>by
  rw[kj,A9,Qz r];rfl
def fold_all:∀(qs ds:List (Int×Int)),((ds++qs).map (·.1)).Nodup->CP (ds.map uO) (qs.map λq=>(.inl q.1,.int q.2))=(ds++qs).map uO
 |[],ds,_=>by rw[Bx];rfl
 |q::r,ds,nd=>by
  have hn:q.1∉ds.map (·.1):=λh=>by
   rw[qz,zj]at nd;exact nd.2.2 q.1 h q.1 (by simp) rfl
  show CP (gB (ds.map uO) (.inl (.inl q.1)) (.int q.2)) (r.map λq=>(.inl q.1,.int q.2))=_;rw[ON,Oy hn,fold_all r (ds++[(q.1,q.2)]) (by rw[List.append_assoc];exact nd),List.append_assoc];rfl
def XJ{qs:List (Int×Int)}(h:cO G r=aj (qs.map oN))(nd:(qs.map (·.1)).Nodup):zt [.ref r] G R=∀e,G e=au->R (.ref e) (aM G e (.cX ao (qs.map uO))):=by
 unfold L2.zt;simp only[h,Qz];rw[show CP [] (qs.map λq=>(.inl q.1,.int q.2))=qs.map uO from fold_all qs [] nd]
@[simp]def kq(q:Int×Int):List Key:=ky q.1 q.2
def Ox:∀{M:List (List Key×bx)},(∀z∈M,∃a p:Int,z.1=ky a p)->∃ps:List (Int×Int),M.map (·.1)=ps.map kq
 |[],_=>⟨[],rfl⟩
 |z::r,h=>by
  let⟨a,p,e⟩:=h z (.head _);let⟨ps,e2⟩:=Ox (M:=r) λy hy=>h y (.tail _ hy);exact⟨(a,p)::ps,by rw[kj,kj,e,e2]⟩
def sort_keys(h:G st=aj (.cX ak (M.map c8)))(kn:(M.map (·.1)).Nodup)(ks:∀z∈M,∃a p:Int,z.1=ky a p)(hl:M.length<64)(k:∀(qs:List (Int×Int))(r:bx),(qs.map kq).Perm (M.map (·.1))->eX qs->G r=au->R (.ref r) (aM G r (.lst (qs.map oN)))):xJ [.ref st] G R:=by
 let⟨ps,e⟩:=Ox ks;have nd:ps.Nodup:=Bt.of_map kq (λa b h e=>h (by rw[e])) (e ▸ kn);have len:ps.length=M.length:=by have:=congrArg DJ e;simpa using this.symm
 refine aDY (ps:=ps) h ?_ nd ⋯ λqs p1 p2 r hr=>k qs r (e ▸ p1.map kq) p2 hr;rw[xg,show(λq:DK×D=>dQ q.1)∘c8=(λks=>dQ (.inr ks))∘(λz:List Key×bx=>z.1)from rfl,←xg,e,xg];rfl
structure M3(M:List (List Key×bx))(c:bx->List (Int×Int))(G:Gp)(t:bx)(qs:List (Int×Int))(N:List (List Key×bx))(c':bx->List (Int×Int))(G':Gp):Prop where
 t0:G t=au
 tt:G' t=aj (.cX ak (N.map c8))
 ri:eX qs
 kq:N.map (·.1)=qs.map kq
 ke:(N.map (·.1)).Perm (M.map (·.1))
 ins:∀z∈N,G' z.2=aj (.cX ao ((c' z.2).map uO))/\(c' z.2).Perm (dD M c z.1)/\eX (c' z.2)/\G z.2=au
def aK8(s:SH A sh x y g room st M c G)(v:dS room n M c)(hn:n<64)(h:∀t qs N c' G',Le G G'->M3 M c G t qs N c' G'->R (.ref t) G'):lO K A [.ref sh] G R EX:=by
 have big:10000<dh:=by decide
 refine⟨rfl,?_⟩;show tQ K A _ _ [aj (.ref sh)] G;exists tQ;rw[bW s.sh rfl];symm;refine⟨rfl,?_⟩;show Mh K A _ _ [aj (.ref st),au,au] G;exists Mh;intro t ht;have l1:Le G (aM G t (.cX ak [])):=.new ht;exists Ux;refine sort_keys (l1 _ _ s.st) v.kn v.ks (Nat.lt_of_le_of_lt v.len hn) λqs r pq ri hr=>?_;have l2:Le (aM G t (.cX ak [])) (aM (aM G t (.cX ak [])) r (.lst (qs.map oN))):=.new hr;have nr:r≠t:=λz=>by rw[z]at hr;rw[aJ]at hr;cases hr
 have qn:(qs.map kq).Nodup:=pq.nodup_iff.mpr v.kn;rw[GD fJ];refine Gn (λk ρ G'=>cO G' r=aj (qs.map oN)/\∃r2 N c',ρ=[aj (.ref st),aj (.ref t),r2]/\Le G G'/\G' t=aj (.cX ak (N.map c8))/\N.map (·.1)=(qs.take k).map kq/\∀z∈N,G' z.2=aj (.cX ao ((c' z.2).map uO))/\(c' z.2).Perm (dD M c z.1)/\eX (c' z.2)/\G z.2=au) ⟨fJ,_,[],c,rfl,l1.trans l2,l2 _ _ aJ,rfl,λz hz=>nomatch hz⟩ (λk ρ G' h=>h.1) (λk d' ρ G' g7 hh=>?_) λρ G' hh=>?_
 .obtain⟨hl,r2,N,c',rfl,l3,tt,ek,hi⟩:=hh;let⟨q,eq,rfl⟩:=To g7;let⟨a,p⟩:=q;have hm:kq (a,p)∈M.map (·.1):=pq.mem_iff.mp (jw.mpr ⟨_,lq eq,rfl⟩);let⟨⟨kk,d⟩,hz,e1⟩:=jw.mp hm;have e1:kk=ky a p:=e1;subst e1;have vd:=vk v.kn hz;have WJ:=hz;have hd:=s.ins _ hz;obtain⟨bn,bl⟩:HB room (c d)/\(c d).length<=n:=v.bn _ hz;exists U0;rw[show oN (a,p)=.tup [.int a,.int p]from rfl];rw[Df (l3 _ _ s.st) Bl rfl (by rw[xK,vd];rfl)];symm;refine aDX (ps:=c d) (l3 _ _ hd) (Nat.lt_of_le_of_lt bl hn) λps p1 p2 r3 h3=>?_;symm;have lr:Le G' (aM G' r3 (.lst (ps.map oN))):=.new h3;refine(show zt [.ref r3] (aM G' r3 (.lst (ps.map oN))) _ from ?_);rw[XJ fJ ((p1.map _).nodup_iff.mpr bn.nd)];intro e he;have le:Le _ (aM (aM G' r3 (.lst (ps.map oN))) e (.cX ao (ps.map uO))):=.new he;symm;have t3:=le _ _ (lr _ _ tt);have ne:e≠t:=λz=>by rw[z]at he;rw[lr _ _ tt]at he;cases he
  have nN:ky a p∉N.map (·.1):=by
   rw[ek];intro w;have Ex:((qs.take (k+1)).map kq).Nodup:=qn.sublist ((List.take_sublist _ _).map _);rw[List.take_succ,eq,qz,zj]at Ex;exact Ex.2.2 _ w _ (by simp) rfl
  have lN:N.length<=k:=by
   have:=congrArg DJ ek;simp at this;omega
  have lk:k<64:=by
   have h1:k<qs.length:=(iz.mp eq).1;have h2:=pq.length_eq;simp at h2;have:=v.len;omega
  rw[OL t3 Bl rfl (by rw[gw];omega)]
  have ep:gB (N.map c8) (.inr (ky a p)) (.ref e)=(N++[(ky a p,e)]).map c8:=by
   rw[Oy,qz]
   .rfl
   .intro w;let⟨z,hz,e2⟩:=jw.mp w;let⟨y,hy,rfl⟩:=jw.mp hz;exact nN (jw.mpr ⟨y,hy,Sum.inr.inj e2⟩)
  rw[ep]
  have ge:∀z∈N,z.2≠e:=λz hz w=>by
   have:=lr _ _ (hi z hz).1;rw[w,he]at this;cases this
  have gt:∀z∈N,z.2≠t:=λz hz w=>by
   have:=(hi z hz).1;rw[w,tt]at this;cases this
  refine⟨?_,_,N++[(ky a p,e)],setC c' e ps,rfl,λq u z=>?_,aJ,?_,λz hz=>?_⟩
  .have z:=Dg le (Dg lr hl);unfold L2.cO at z ⊢;rw[aR nr];exact z
  .have nq:q≠t:=λw=>by rw[w,ht]at z;cases z
   rw[aR nq];exact le _ _ (lr _ _ (l3 _ _ z))
  .rw[qz,ek,List.take_succ,eq,qz];rfl
  .rcases yp.mp hz with hz|hz
   .obtain⟨i1,i2,i4,i3⟩:=hi z hz;rw[ze (ge z hz),aR (gt z hz)];exact⟨le _ _ (lr _ _ i1),i2,i4,i3⟩
   .cases ux.mp hz;rw[show setC c' e ps (ky a p,e).2=ps from qR,show(ky a p,e).2=e from rfl,aR ne];refine⟨aJ,?_,p2,?_⟩
    .rw[show dD M c (ky a p,e).1=c d from aQS (z:=(ky a p,d)) v.kn WJ];exact p1
    .cases ge:G e with
     |none=>rfl
     |some u =>
      have:=lr _ _ (l3 _ _ ge);rw[he]at this;cases this
 .obtain⟨_,r2,N,c',rfl,l,tt,ek,hi⟩:=hh;exists Uy;refine bF.here (bF.here (h t qs N c' G' l ⟨ht,tt,ri,?_,?_,hi⟩))
  .rw[ek,gw,zk]
  .rw[ek,gw,zk];exact pq
def IW{b:Int×Int}(h:kq a=kq b):a=b:=by
 have:a.1=b.1/\a.2=b.2:=by simpa[L9.ky]using h
 exact Prod.ext this.1 this.2
def aQU{qs:List (Int×Int)}:kq s∈qs.map kq↔s∈qs:=⟨λh=>by let⟨z,hz,e⟩:=jw.mp h;rw[←IW e];exact hz,λh=>jw.mpr ⟨s,h,rfl⟩⟩
def le_none(l:Le G G')(h:G' r=au):G r=au:=by
 cases e:G r with
 |none=>rfl
 |some u=>rw[l _ _ e]at h;cases h
def aQV{q r:Int×Int}:a8 (.tup [.int q.1,.int q.2]) (.tup [.int r.1,.int r.2])=decide (q=r):=by
 show(a8 (.int q.1) (.int r.1)&&(a8 (.int q.2) (.int r.2)&&ak))=_;rw[show a8 (.int q.1) (.int r.1)=(q.1==r.1)from rfl,show a8 (.int q.2) (.int r.2)=(q.2==r.2)from rfl,DC];rcases q with⟨a,b⟩;rcases r with⟨c,d⟩;simp[Prod.ext_iff,Bool.decide_and];rfl
abbrev DZ(M:List (List Key×bx))(c:bx->List (Int×Int))(M':List (List Key×bx))(c':bx->List (Int×Int))(qE:(Int×Int)×Int->Int):Prop:=∀a p l,cM (dD M' c' (ky a p)) l=cM (dD M c (ky a p)) l+qE ((a,p),l)
abbrev d1(k:(Int×Int)×Int)(more:Int)(j:(Int×Int)×Int):Int:=if j=k then more else 0
abbrev d2(q q2:Int×Int)(lot am:Int)(j:(Int×Int)×Int):Int:=if q=q2 then 0 else d1 (q,lot) (-am) j+d1 (q2,lot) am j
def Fu(h:BO M c M' c' (kq q) lot more)(o:∀k',k'≠kq q->dD M' c' k'=dD M c k'):DZ M c M' c' (d1 (q,lot) more):=λa p l=>by
 unfold d1;by_cases e:(a,p)=q
 .subst e;rw[h.1 l];by_cases e2:l=lot
  .rw[if_pos e2,if_pos (by rw[e2])]
  .rw[if_neg e2,if_neg λw=>e2 (congrArg (·.2) w)]
 .rw[o _ λw=>e (IW (a:=(a,p)) w),if_neg λw=>e (congrArg (·.1) w)];exact(Int.add_zero _).symm
abbrev Dn(A:aU)(sh:bx)(x y g:Nat)(room:Int)(st:bx)(n:Nat)(M:List (List Key×bx))(c:bx->List (Int×Int))(G:Gp)(qE:(Int×Int)×Int->Int)(M':List (List Key×bx))(c':bx->List (Int×Int))(G':Gp):Prop:=SH A sh x y g room st M' c' G'/\dS room (n+2) M' c'/\DZ M c M' c' qE/\Kp st M M' G G'
section
variable{n:Nat}{q q2:Int×Int}{lot am:Int}
def aVS(s:SH A sh x y g room st M c G)(v:dS room n M c)(hn:n<800)(hl:0<=lot/\lot<=999)(b:d3 x y q.1 q.2)(ha:1<=am/\am<=1000000)(hr:0<=room)(h0:room<bg (dD M c (kq q))+am->EX A.dW G)
  (h1:bg (dD M c (kq q))+am<=room->∀M' c' G',Dn A sh x y g room st n M c G (d1 (q,lot) am) M' c' G'->R .ae G'):jZ K A [.ref sh,.int lot,.tup [.int q.1,.int q.2],.int am] G R EX:=by
 refine aVQ s hl b ha h0 λe G1 R' eP l hR=>?_;let⟨_,b2,_,_⟩:=rQ (k:=kq q) hr v;exact Fc (s.le l) v ⋯ ⋯ (show 0<=cM (dD M c (kq q)) lot+am by have:=J3 (l:=lot) b2;omega) e λM' c' G' s' v' t' o' k'=>hR _ (h1 e M' c' G' ⟨s',v'.up (sf _),Fu (q:=q) t' o',k'.le l⟩)
def aQW(s:SH A sh x y g room st M c G)(v:dS room n M c)(hn:n<800)(hl:0<=lot/\lot<=999)(b:d3 x y q.1 q.2)(ha:1<=am/\am<=1000000)(hr:0<=room)(h0:cM (dD M c (kq q)) lot<am->EX A.bN G)
  (h1:am<=cM (dD M c (kq q)) lot->∀M' c' G',Dn A sh x y g room st n M c G (d1 (q,lot) (-am)) M' c' G'->R .ae G'):jA K A [.ref sh,.int lot,.tup [.int q.1,.int q.2],.int am] G R EX:=by
 refine aQR s hl b ha h0 λe G1 R' eP l hR=>?_;let⟨_,b2,b3,_⟩:=rQ (k:=kq q) hr v;have e':am<=cM (dD M c (kq q)) lot:=e;exact Fc (s.le l) v ⋯ ⋯ (show 0<=cM (dD M c (kq q)) lot+-am by omega) (show bg (dD M c (kq q))+-am<=room by omega) λM' c' G' s' v' t' o' k'=>hR _ (h1 e' M' c' G' ⟨s',v'.up (sf _),Fu (q:=q) t' o',k'.le l⟩)
def aK9(s:SH A sh x y g room st M c G)(v:dS room n M c)(hn:n<800)(hl:0<=lot/\lot<=999)(b:d3 x y q.1 q.2)(b2:d3 x y q2.1 q2.2)(ha:1<=am/\am<=1000000)(hr:0<=room)(h0:cM (dD M c (kq q)) lot<am->EX A.bN G)(EZ:am<=cM (dD M c (kq q)) lot->q≠q2->room<bg (dD M c (kq q2))+am->EX A.dW G)
  (h1:am<=cM (dD M c (kq q)) lot->(q≠q2->bg (dD M c (kq q2))+am<=room)->∀M' c' G',Dn A sh x y g room st n M c G (d2 q q2 lot am) M' c' G'->R .ae G'):lQ K A [.ref sh,.int lot,.tup [.int q.1,.int q.2],.tup [.int q2.1,.int q2.2],.int am] G R EX:=by
 refine⟨rfl,?_⟩;replace h1:am<=cM (dD M c (kq q)) lot->(q≠q2->bg (dD M c (kq q2))+am<=room)->∀M' c' G',Dn A sh x y g room st n M c G (d2 q q2 lot am) M' c' G'->bF R .ae G':=λa b M' c' G' z=>bF.here (h1 a b M' c' G' z);show tU K A _ _ [aj (.ref sh),aj (.int lot),aj (.tup [.int q.1,.int q.2]),aj (.tup [.int q2.1,.int q2.2]),aj (.int am)] G;exists tU;refine Gh hl ?_;exists xZ;rw[bW s.sh rfl];symm;refine tH s.o b ?_;exists xY;rw[bW s.sh rfl];symm;refine tH s.o b2 ?_;exists xX;refine BE ha ?_;exists xW,cF s.sh (m:="need_there") rfl;refine MJ s hl b (λz=>m8.here (h0 z)) λe G1 l=>?_;have e':am<=cM (dD M c (kq q)) lot:=e;have s1:=s.le l;exists xV;refine⟨rfl,rfl,?_⟩;rw[aQV];by_cases eq:q=q2
 .rw[if_neg (by simp[eq])];exact h1 e' (λn=>absurd eq n) M c G1 ⟨s1,v.up (Nat.le_add_right _ _),(λa p l'=>by unfold d2;rw[if_pos eq];omega),(λq u _ _ w=>l _ _ w),λq hq=>.inl hq⟩
 .rw[if_pos (decide_eq_false eq)];have ne:kq q2≠kq q:=λw=>eq (IW w).symm;refine⟨by rw[cF s1.sh (m:="need_room") rfl];trivial,?_⟩;refine RI s1 b2 (λz=>⟨_,l,EZ e' eq z⟩) λer G2 l2=>?_;have s2:=s1.le l2;exists sW;rw[bW s2.sh rfl];symm;let⟨_,p1,p3,_⟩:=rQ (k:=kq q) hr v;refine Fc s2 v ⋯ ⋯ (show 0<=cM (dD M c (kq q)) lot+-am by omega) (show bg (dD M c (kq q))+-am<=room by omega) λM1 c1 G3 s3 v3 t3 o3 k3=>?_;exists sV;rw[bW s3.sh rfl];symm;let⟨_,p4,p5,_⟩:=rQ (k:=kq q2) hr v;have p6:=J3 (l:=lot) p4;have p7:bg (dD M c (kq q2))+am<=room:=er;refine Fc s3 v3 ⋯ ⋯ (by rw[show dD M1 c1 (ky q2.1 q2.2)=dD M c (kq q2)from o3 _ ne];omega) (by rw[show dD M1 c1 (ky q2.1 q2.2)=dD M c (kq q2)from o3 _ ne];exact p7) λM2 c2 G4 s4 v4 t4 o4 k4=>h1 e' (λ_=>p7) M2 c2 G4 ⟨s4,v4,λa p l'=>?_,(k3.trans k4 (by rw[s3.st];simp)).le (l.trans l2)⟩;rw[Fu (q:=q2) t4 o4,Fu (q:=q) t3 o3];unfold d2;rw[if_neg eq];omega
end
abbrev fF(c:Nat):Bool:=decide (97<=c)&&decide (c<=122)
abbrev qi(c:Nat):Bool:=!(Builtin.Str.occurrences (Str.ofString "abcdefghijklmnopqrstuvwxyz") ⟨#[c]⟩ 0 (Str.ofString "abcdefghijklmnopqrstuvwxyz").length 1).isEmpty
def SF:∀c<128,qi c=fF c:=by decide+kernel
def aZA{c:Nat}:decide ([c]<(Str.ofString "a").cps.toList)=decide (c<97):=by
 rw[show(Str.ofString "a").cps.toList=[97] by decide+kernel];show decide ([c]<[97])=_;apply decide_eq_decide.mpr;rw[List.cons_lt_cons_iff];simp
def aZB{c:Nat}:decide ((Str.ofString "z").cps.toList<[c])=decide (122<c):=by
 rw[show(Str.ofString "z").cps.toList=[122] by decide+kernel];show decide ([122]<[c])=_;apply decide_eq_decide.mpr;rw[List.cons_lt_cons_iff];simp
abbrev fC(cs:List Nat):Bool:=decide (1<=cs.length)&&(decide (cs.length<=12)&&cs.all fF)
def BD:L2.signs ⟨cs.toArray⟩=cs.map qa:=by
 unfold L2.signs;show List.map _ cs.toArray.toList=_;rfl
def XI(hl:cs.length<=1000)(h:R (.bl (fC cs)) G):vW K A [.str ⟨cs.toArray⟩] G R EX:=by
 refine⟨rfl,?_⟩;have big:1000<dh:=by decide
 have IA:(⟨cs.toArray⟩:Str).length=cs.length:=str_len;show vA K A _ _ [aj (.str _)] G;exists vA;refine⟨⋯,?_⟩;rw[IA];by_cases c1:(1:Int)<=(cs.length:Int)
 .simp only[c1,decide_true,if_true];by_cases c2:(cs.length:Int)<=12
  .simp only[c2,decide_true,if_true];exists RL;refine comp_map (λd=>match d with|.str z=>.bl (z.cps.toList.all fF)|_=>.ae) ?_ trivial (λd hd G' l Q hQ=>?_) λp hp=>?_
   .show(L2.signs _).length<_;rw[BD,gw];omega
   .have hd:d∈L2.signs _:=hd;rw[BD]at hd;let⟨c,hc,rfl⟩:=jw.mp hd;unfold qa at hQ ⊢;symm;simp only[aZA,aZB];have q:=hQ G' (.refl _);simp only[zx,List.all_nil,DC]at q;unfold fF at q;refine rl (λe=>?_) λe=>?_
    .have e:97<=c:=by simpa using e
     simp only[e,decide_true,Bool.true_and]at q;rw[show(!decide (122<c))=decide (c<=122) by rw[←decide_not];exact decide_eq_decide.mpr ⋯];exact q
    .have e:¬ 97<=c:=by simpa using e
     simp only[e,decide_false,GW]at q;exact q
   .show A4 _ _ _
    have e1:((L2.signs ⟨cs.toArray⟩).map λd=>match d with|D.str z=>D.bl (z.cps.toList.all fF)|_=>D.ae)=cs.map λc=>.bl (fF c):=by
     rw[BD,xg];apply GU;intro c _;simp[qa]
    have j3:((Src.dq (L2.signs ⟨cs.toArray⟩)).items.map λd=>match d with|D.str z=>D.bl (z.cps.toList.all fF)|_=>D.ae)=cs.map λc=>.bl (fF c):=e1;rw[j3];rw[aJR fJ (by simp[AW])]
    have e2:(cs.map λc=>D.bl (fF c)).all AV=cs.all fF:=by
     rw[List.all_map];rfl
    rw[e2];have xI:1<=cs.length:=by omega
    have xy:cs.length<=12:=by omega
    have:fC cs=cs.all fF:=by unfold fC;simp[xI,xy]
    rw[this]at h;exact Jw h (.new hp)
  .simp only[c2,decide_false];symm;have xy:¬ cs.length<=12:=by omega
   have:fC cs=ao:=by unfold fC;simp[xy]
   rw[this]at h;exact bF.here h
 .simp only[c1,decide_false];symm;have xI:¬ 1<=cs.length:=by omega
  have:fC cs=ao:=by unfold fC;simp[xI]
  rw[this]at h;exact bF.here h
private theorem amM(hd:kn G d)(hn:∀z,d≠.str z)(h:R (.bl ao) G):vW K A [d] G R EX:=by
 refine⟨rfl,?_⟩;replace h:=bF.here h;show vA K A _ _ [aj d] G;cases d
 case ref q=>exists vA,Zo hd;exact h
 case ty n=>simp[kn,gz]at hd
 case str z=>exact absurd rfl (hn z)
 all_goals exists vA
 all_goals exact h
def aEK(hd:kn G d)(h:R (.bl (cK d 0 9999)) G):Gz K A [d] G R EX:=by
 refine⟨rfl,?_⟩;show Kf K A _ _ [aj d] G;exists Kf;exact iT hd (bF.here h)
def RH(hl:cs.length<=1000)(h0:fC cs=ao->EX A.d9 G)(h1:fC cs=ak->R .ae G):eZ K A [.str ⟨cs.toArray⟩] G R EX:=by
 refine⟨rfl,?_⟩;show sH K A _ _ [aj (.str _)] G;exists sH;refine XI hl ?_;symm;exact rl (λe=>m8.here (h0 e)) λe=>bF.here (h1 (by simpa using e))
def agK(hd:kn G d)(hn:∀z,d≠.str z)(h0:EX A.d9 G):eZ K A [d] G R EX:=by
 refine⟨rfl,?_⟩;show sH K A _ _ [aj d] G;exists sH;refine amM hd hn ?_;symm;exact m8.here h0
def Q9(hd:kn G d)(h0:cK d 0 9999=ao->EX A.eY G)(h1:cK d 0 9999=ak->R .ae G):jX K A [d] G R EX:=by
 refine⟨rfl,?_⟩;show Mj K A _ _ [aj d] G;exists Mj;refine aEK hd ?_;symm;exact rl (λe=>m8.here (h0 e)) λe=>bF.here (h1 (by simpa using e))
def PB(hi:0<=i/\i<=9999)(h:R .ae G):jX K A [.int i] G R EX:=Q9 rfl (λe=>by simp[cK]at e;omega) λ_=>h
def KA(hw:fC cs=ak)(h:R .ae G):eZ K A [.str ⟨cs.toArray⟩] G R EX:=by
 refine RH ?_ (λe=>by rw[hw]at e;cases e) λ_=>h;unfold fC at hw;simp only[cg,decide_eq_true_eq]at hw;omega
def Pz{n:Int}(hl:0<=l/\l<n)(hn:n<=1000)(h:R .ae G):bK K A [.int l,.int n] G R EX:=by
 refine⟨rfl,?_⟩;show vX K A _ _ [aj (.int l),aj (.int n)] G;exists vX;refine iT rfl ?_;rw[show cK (.int l) 0 (n - 1)=ak by simp[cK];omega];symm;exact bF.here h
@[simp]def i5:=List Nat×Int×Int
abbrev gT(l:i5):D:=.tup [.str ⟨l.1.toArray⟩,.int l.2.1,.int l.2.2]
@[simp]def Iu(A:aU)(x y g:Nat)(day:Int)(sh kn dn:bx):GO:=.ins A.aC [("shelves",.ref sh),("layout",cf x y g),("day",.int day),("known",.ref kn),("done",.ref dn)]
structure Hs where
 h:bx
 sh:bx
 st:bx
 kn:bx
 dn:bx
 n:Nat
 M:List (List Key×bx)
 c:bx->List (Int×Int)
 day:Int
 ls:List i5
 rs:List D
abbrev Hs.ow(s:Hs):List bx:=s.h::s.st::s.kn::s.dn::s.M.map (·.2)
structure HO(A:aU)(x y g:Nat)(room:Int)(s:Hs)(G:Gp):Prop where
 hh:G s.h=aj (Iu A x y g s.day s.sh s.kn s.dn)
 S:SH A s.sh x y g room s.st s.M s.c G
 v:dS room s.n s.M s.c
 hk:G s.kn=aj (.lst (s.ls.map gT))
 hd:G s.dn=aj (.lst s.rs)
 lk:∀q l w,(l,w)∈dD s.M s.c (kq q)->(0<=l/\l<s.ls.length)/\d3 x y q.1 q.2
 rk:∀d∈s.rs,bY 20 d=ak
 kd:s.kn≠s.dn
def HO.le(o:HO A x y g room s G)(l:Le G G'):HO A x y g room s G':=⟨l _ _ o.hh,o.S.le l,o.v,l _ _ o.hk,l _ _ o.hd,o.lk,o.rk,o.kd⟩
def HO.ne{s:Hs}(o:HO A x y g room s G):s.sh≠s.h:=λe=>by
 have h1:=o.S.sh;rw[e,o.hh]at h1
 have:=congrArg (λu=>match u with
  |some (GO.ins _ fs)=>fs.length
  |_=>0) h1
 simp at this
def xc(h:G p=aj (.lst ds)):rh "list" G (.ref p):=by
 rw[aJ7,bH h];rfl
section
variable{s:Hs}
def Ow(o:HO A x y g room s G)(h:R (.int s.day) G):iB K A [.ref s.h] G R EX:=by
 refine⟨rfl,?_⟩;show yV K A _ _ [aj (.ref s.h)] G;exists yV;rw[bW o.hh rfl];exact bF.here h
def Py(o:HO A x y g room s G)(hn:s.n<64)(h:∀t qs N c' G',Le G G'->M3 s.M s.c G t qs N c' G'->R (.ref t) G'):gY K A [.ref s.h] G R EX:=by
 refine⟨rfl,?_⟩;show yR K A _ _ [aj (.ref s.h)] G;exists yR;rw[bW o.hh rfl];symm;refine⟨by rw[cF o.S.sh (m:="lying") rfl];trivial,?_⟩;exact aK8 o.S o.v hn λt qs N c' G' l ly=>bF.here (h t qs N c' G' l ly)
end
structure HK(s s':Hs)(G G':Gp):Prop where
 k:∀q u,q∉s.ow->G q=aj u->G' q=aj u
 w:∀q∈s'.ow,q∈s.ow∨G q=au
 h:s'.h=s.h
section
variable{s:Hs}
def HO.tT(o:HO A x y g room s G)(e:G q=aj (.lst ds)):q≠s.h/\q≠s.sh/\q≠s.st/\q∉s.M.map (·.2):=by
 refine⟨λz=>?_,λz=>?_,λz=>?_,λz=>?_⟩
 .rw[z,o.hh]at e;cases e
 .rw[z,o.S.sh]at e;cases e
 .rw[z,o.S.st]at e;cases e
 .obtain⟨y,hy,e2⟩:=jw.mp z;rw[←e2,o.S.ins y hy]at e;cases e
def HO.row(o:HO A x y g room s G)(hs:bY 20 d=ak):HO A x y g room {s with rs:=s.rs++[d]} (aM G s.dn (.lst (s.rs++[d]))):=by
 let⟨n1,n2,n3,n4⟩:=o.tT o.hd;refine⟨by rw[aR (Ne.symm n1)];exact o.hh,⟨o.S.o,by rw[aR (Ne.symm n2)];exact o.S.sh,by rw[aR (Ne.symm n3)];exact o.S.st,λz hz=>?_⟩,o.v,by rw[aR o.kd];exact o.hk,aJ,o.lk,λe he=>?_,o.kd⟩
 .rw[aR λe=>n4 (by rw[←e];exact jw.mpr ⟨z,hz,rfl⟩)];exact o.S.ins z hz
 .rcases yp.mp he with he|he
  .exact o.rk e he
  .rw[ux.mp he];exact hs
def HK.row{s1:Hs}(k:HK s s1 G G1)(o:HO A x y g room s1 G1):HK s {s1 with rs:=s1.rs++[d]} G (aM G1 s1.dn (.lst (s1.rs++[d]))):=by
 refine⟨λq u n e=>?_,k.w,k.h⟩;by_cases z:q=s1.dn
 .subst z;rcases k.w s1.dn (.tail _ (.tail _ (.tail _ (.head _))))with m|m
  .exact(n m).elim
  .rw[m]at e;cases e
 .rw[aR z];exact k.k q u n e
def YX(o:HO A x y g room s G)(hd:0<=s.day/\s.day<9999)(hr:s.rs.length<10000)(h:∀G',HO A x y g room {s with day:=s.day+1,rs:=s.rs++[.tup [.str "day",.int (s.day+1)]]} G'->HK s {s with day:=s.day+1,rs:=s.rs++[.tup [.str "day",.int (s.day+1)]]} G G'->R (.int (s.day+1)) G'):jK K A [.ref s.h] G R EX:=by
 have big:10000<dh:=by decide
 refine⟨rfl,?_⟩;show qG K A _ _ [aj (.ref s.h)] G;exists qG;rw[bW o.hh rfl];symm;rw[show decide (s.day≥9999)=ao by simp;omega];exists wI;rw[bW o.hh rfl];symm;rw[uQ o.hh (by show 5<1000;decide)]
 have o1:HO A x y g room {s with day:=s.day+1} (aM G s.h (.ins A.aC (yo "day" (.int (s.day+1)) [("shelves",.ref s.sh),("layout",cf x y g),("day",.int s.day),("known",.ref s.kn),("done",.ref s.dn)]))):=by
  have e1:=(o.tT o.hk).1;have e2:=(o.tT o.hd).1;refine⟨by rw[aJ];rfl,⟨o.S.o,by rw[aR o.ne];exact o.S.sh,by rw[aR λz=>by have:=o.S.st;rw[z,o.hh]at this;cases this];exact o.S.st,λz hz=>?_⟩,o.v,by rw[aR e1];exact o.hk,by rw[aR e2];exact o.hd,o.lk,o.rk,o.kd⟩;rw[aR λw=>by have:=o.S.ins z hz;rw[w,o.hh]at this;cases this];exact o.S.ins z hz
 have k1:HK s {s with day:=s.day+1} G (aM G s.h (.ins A.aC (yo "day" (.int (s.day+1)) [("shelves",.ref s.sh),("layout",cf x y g),("day",.int s.day),("known",.ref s.kn),("done",.ref s.dn)]))):=⟨λq u n e=>by rw[aR λz=>n (by rw[z];exact .head _)];exact e,λ_ h=>.inl h,rfl⟩;generalize aM G s.h _=G1 at o1 k1 ⊢;exists wH;rw[bW o1.hh rfl];refine⟨xc o1.hd,?_⟩;symm;rw[bW o1.hh rfl];symm;rw[vP o1.hd (by show s.rs.length<dh;omega)];have o2:=o1.row (d:=.tup [.str "day",.int (s.day+1)]) rfl;have k2:=k1.row (d:=.tup [.str "day",.int (s.day+1)]) o1;exists wG;rw[bW o2.hh rfl];exact bF.here (h _ o2 k2)
def CK(o:HO A x y g room s G)(h:∀r G',Le G G'->G r=au->G' r=aj (.lst s.rs)->R (.ref r) G'):dN K A [.ref s.h] G R EX:=by
 refine⟨rfl,?_⟩;show MU K A _ _ [aj (.ref s.h)] G;exists MU;rw[bW o.hh rfl];symm;rw[PX (bH o.hd)];exact λl hl=>bF.here (h l _ (.new hl) hl aJ)
def Tj(o:HO A x y g room s G)(h:∀r G',Le G G'->G r=au->G' r=aj (.lst (s.ls.map gT))->R (.ref r) G'):jD K A [.ref s.h] G R EX:=by
 refine⟨rfl,?_⟩;show MX K A _ _ [aj (.ref s.h)] G;exists MX;rw[bW o.hh rfl];symm;rw[PX (bH o.hk)];exact λl hl=>bF.here (h l _ (.new hl) hl aJ)
end
def aKA{P Q:Int×Int->Int->Prop}(v:dS room n M c)(v':dS room n' M' c')(hr:0<=room)(dl:DZ M c M' c' qE)(le:∀q l,P q l->Q q l)(lk:∀q l w,(l,w)∈dD M c (kq q)->P q l)(hd:∀j:(Int×Int)×Int,0<qE j->Q j.1 j.2):∀q l w,(l,w)∈dD M' c' (kq q)->Q q l:=by
 intro q l w m;let⟨WD,sN,_,_⟩:=rQ (k:=kq q) hr v';have e1:=vk WD m;have p1:1<=w:=sN _ m;have e2:cM (dD M' c' (kq q)) l=w:=by unfold cM;rw[show bC (dD M' c' (kq q)) l=aj w from e1];rfl
 have e3:cM (dD M' c' (kq q)) l=cM (dD M c (kq q)) l+qE (q,l):=dl q.1 q.2 l;by_cases cc:0<qE (q,l)
 .exact hd _ cc
 .have e4:1<=cM (dD M c (kq q)) l:=by omega
  cases z:bC (dD M c (kq q)) l with
  |none=>unfold cM at e4;rw[z]at e4;simp at e4
  |some u=>exact le _ _ (lk q l u (rP z))
section
variable{s:Hs}{q:Int×Int}{cs:List Nat}{i am:Int}
def HO.Jr{ls':List i5}(o:HO A x y g room s G)(hr:0<=room)(d:Dn A s.sh x y g room s.st s.n s.M s.c G qE M' c' G1)(el:s.ls.length<=ls'.length)(hd:∀j:(Int×Int)×Int,0<qE j->(0<=j.2/\j.2<(ls'.length:Int))/\d3 x y j.1.1 j.1.2)(G2:Gp)(AA:G2 s.kn=aj (.lst (ls'.map gT)))(k2:∀a u,a≠s.kn->G1 a=aj u->G2 a=aj u) :
  HO A x y g room {s with n:=s.n+2,M:=M',c:=c',ls:=ls' } G2/\HK s {s with n:=s.n+2,M:=M',c:=c',ls:=ls' } G G2:=by
 let⟨e1,e2,e3,e4⟩:=d;let⟨a1,a2,a3,a4⟩:=o.tT o.hk;let⟨b1,b2,b3,b4⟩:=o.tT o.hd;have n1:s.h≠s.st:=λz=>by have:=o.S.st;rw[←z,o.hh]at this;cases this
 have n2:s.h∉s.M.map (·.2):=λz=>by let⟨y,hy,e⟩:=jw.mp z;have:=o.S.ins y hy;rw[e,o.hh]at this;cases this
 have oy:=e4.1 _ _ a3 a4 o.hk;have nM:∀z∈M',z.2≠s.kn:=λz hz w=>by have:=e1.ins z hz;rw[w,oy]at this;cases this
 refine⟨⟨k2 _ _ (Ne.symm a1) (e4.1 _ _ n1 n2 o.hh),⟨e1.o,k2 _ _ (Ne.symm a2) e1.sh,k2 _ _ (Ne.symm a3) e1.st,λz hz=>k2 _ _ (nM z hz) (e1.ins z hz)⟩,e2,AA,k2 _ _ (Ne.symm o.kd) (e4.1 _ _ b3 b4 o.hd),aKA (Q:=λq l=>(0<=l/\l<(ls'.length:Int))/\d3 x y q.1 q.2) o.v e2 hr e3 (λq l h=>⟨⟨h.1.1,by have:=h.1.2;omega⟩,h.2⟩) o.lk hd,o.rk,o.kd⟩,⟨λa u n e=>?_,λa ha=>?_,rfl⟩⟩
 .have m:∀{b},b∈s.ow->a≠b:=λhb z=>n (by rw[z];exact hb);exact k2 _ _ (m (.tail _ (.tail _ (.head _)))) (e4.1 _ _ (m (.tail _ (.head _))) (λz=>n (.tail _ (.tail _ (.tail _ (.tail _ z))))) e)
 .rcases jm.mp ha with rfl|ha
  .exact .inl (.head _)
  rcases jm.mp ha with rfl|ha
  .exact .inl (.tail _ (.head _))
  rcases jm.mp ha with rfl|ha
  .exact .inl (.tail _ (.tail _ (.head _)))
  rcases jm.mp ha with rfl|ha
  .exact .inl (.tail _ (.tail _ (.tail _ (.head _))))
  .rcases e4.2 a ha with z|z
   .exact .inl (.tail _ (.tail _ (.tail _ (.tail _ z))))
   .exact .inr z
private theorem aQY(o:HO A x y g room s G)(hw:fC cs=ak)(h0d:0<=s.day)(hd:s.day<=i/\i<=9999)(b:d3 x y q.1 q.2)(ha:1<=am/\am<=1000000)(hn:s.n<800)(hr:0<=room)(hl:s.ls.length<1000)(NZ:s.rs.length<10000)(h0:EX A.dW G)
  (h1:∀s' G',HO A x y g room s' G'->HK s s' G G'->s'.day=s.day->s'.ls=s.ls++[(cs,i,s.day)]->s'.n=s.n+2->s'.rs.length=s.rs.length+1->R (.int s.ls.length) G'):rG K A [.ref s.h,.str ⟨cs.toArray⟩,.int i,.tup [.int q.1,.int q.2],.int am] G R EX:=by
 have big:10000<dh:=by decide
 refine⟨rfl,?_⟩;show MW K A _ _ [aj (.ref s.h),aj (.str _),aj (.int i),aj (.tup [.int q.1,.int q.2]),aj (.int am),au] G;exists MW;refine KA hw ?_;exists Vj;refine PB ⋯ ?_;exists Vk;rw[bW o.hh rfl];symm;refine tH o.S.o b ?_;exists Vl;refine BE ha ?_;exists Vm;rw[bW o.hh rfl];symm;rw[show decide (i<s.day)=ao by simp;omega];exists Vn;rw[bW o.hh rfl];symm;rw[Bm (bH o.hk),gw];exists Vo;rw[show decide ((s.ls.length:Int)≥1000)=ao by simp;omega];exists Vp;rw[bW o.hh rfl];symm;refine⟨by rw[cF o.S.sh (m:="put") rfl];trivial,?_⟩;refine aVS o.S o.v hn ⋯ b ha hr (λ_=>m8.here h0) λ_ M' c' G1 d=>?_
 have oy:G1 s.kn=aj (.lst (s.ls.map gT)):=by
  let⟨_,_,a3,a4⟩:=o.tT o.hk;exact d.2.2.2.1 _ _ a3 a4 o.hk
 have N9:G1 s.h=aj (Iu A x y g s.day s.sh s.kn s.dn):=by
  refine d.2.2.2.1 _ _ (λz=>?_) (λz=>?_) o.hh
  .have:=o.S.st;rw[←z,o.hh]at this;cases this
  .obtain⟨y,hy,e⟩:=jw.mp z;have:=o.S.ins y hy;rw[e,o.hh]at this;cases this
 exists Vq;rw[bW N9 rfl];refine⟨xc oy,?_⟩;symm;rw[bW N9 rfl];symm;rw[vP oy (by rw[gw];omega)]
 have hj:∀j:(Int×Int)×Int,0<d1 (q,(s.ls.length:Int)) am j->(0<=j.2/\j.2<((s.ls++[(cs,i,s.day)]).length:Int))/\d3 x y j.1.1 j.1.2:=λj hj=>by
  unfold d1 at hj;split at hj
  .rename_i e;rw[e];exact⟨by simp;omega,b⟩
  .omega
 let⟨o2,k2⟩:=o.Jr (ls':=s.ls++[(cs,i,s.day)]) hr d (by simp) hj (aM G1 s.kn (.lst (s.ls.map gT++[.tup [.str ⟨cs.toArray⟩,.int i,.int s.day]]))) (by rw[aJ,qz];rfl) (λa u n e=>by rw[aR n];exact e);generalize aM G1 s.kn _=G2 at o2 k2 ⊢;exists Vz;rw[bW o2.hh rfl];refine⟨xc o2.hd,?_⟩;symm;rw[vP o2.hd (by show s.rs.length<dh;omega)];have o3:=o2.row (d:=.tup [.str "come",.int s.ls.length,.str ⟨cs.toArray⟩,.int i,.tup [.int q.1,.int q.2],.int am]) rfl;have k3:=k2.row (d:=.tup [.str "come",.int s.ls.length,.str ⟨cs.toArray⟩,.int i,.tup [.int q.1,.int q.2],.int am]) o2;exists VA;exact bF.here (h1 _ _ o3 k3 rfl rfl rfl (by simp))
end
section
variable{s:Hs}{q q2:Int×Int}{am lot:Int}
def XH(o:HO A x y g room s G)(hl:0<=lot/\lot<s.ls.length)(Iz:s.ls.length<=1000)(b:d3 x y q.1 q.2)(ha:1<=am/\am<=1000000)(h0:cM (dD s.M s.c (kq q)) lot<am->EX A.bN G)(h1:am<=cM (dD s.M s.c (kq q)) lot->∀G',Le G G'->R .ae G'):lR K A [.ref s.h,.int lot,.tup [.int q.1,.int q.2],.int am] G R EX:=by
 refine⟨rfl,?_⟩;show tV K A _ _ [aj (.ref s.h),aj (.int lot),aj (.tup [.int q.1,.int q.2]),aj (.int am)] G;exists tV;rw[bW o.hh rfl];symm;rw[Bm (bH o.hk),gw];refine Pz hl ⋯ ?_;exists yE;rw[bW o.hh rfl];symm;refine tH o.S.o b ?_;exists yD;refine BE ha ?_;exists yC;rw[bW o.hh rfl];symm;refine⟨by rw[cF o.S.sh (m:="need_there") rfl];trivial,?_⟩;exact MJ o.S ⋯ b (λe=>m8.here (h0 e)) λe G' l=>bF.here (h1 e G' l)
def Sd(o:HO A x y g room s G)(hl:0<=lot/\lot<s.ls.length)(Iz:s.ls.length<=1000)(b:d3 x y q.1 q.2)(ha:1<=am/\am<=1000000)(hn:s.n<800)(hr:0<=room)(NZ:s.rs.length<10000)(h0:cM (dD s.M s.c (kq q)) lot<am->EX A.bN G)
  (h1:am<=cM (dD s.M s.c (kq q)) lot->∀s' G',HO A x y g room s' G'->HK s s' G G'->s'.day=s.day->s'.ls=s.ls->s'.n=s.n+2->s'.rs.length=s.rs.length+1->DZ s.M s.c s'.M s'.c (d1 (q,lot) (-am))->R .ae G'):oE K A [.ref s.h,.int lot,.tup [.int q.1,.int q.2],.int am] G R EX:=by
 have big:10000<dh:=by decide
 refine⟨rfl,?_⟩;show Mf K A _ _ [aj (.ref s.h),aj (.int lot),aj (.tup [.int q.1,.int q.2]),aj (.int am)] G;exists Mf;refine⟨by rw[cF o.hh (m:="need_go") rfl];trivial,?_⟩;refine XH o hl Iz b ha (λe=>m8.here (h0 e)) λe G0 l0=>?_;have o0:=o.le l0;exists Uv;rw[bW o0.hh rfl];symm;refine⟨by rw[cF o0.S.sh (m:="take") rfl];trivial,?_⟩;refine aQW o0.S o0.v hn ⋯ b ha hr (λz=>by omega) λ_ M' c' G1 d=>?_
 have oy:G1 s.kn=aj (.lst (s.ls.map gT)):=by
  let⟨_,_,a3,a4⟩:=o0.tT o0.hk;exact d.2.2.2.1 _ _ a3 a4 o0.hk
 have hj:∀j:(Int×Int)×Int,0<d1 (q,lot) (-am) j->(0<=j.2/\j.2<(s.ls.length:Int))/\d3 x y j.1.1 j.1.2:=λj hj=>by
  unfold d1 at hj;split at hj<;>omega
 let⟨o2,k2⟩:=o0.Jr (ls':=s.ls) hr d (fj _) hj G1 oy (λa u n e=>e);exists Uw;rw[bW o2.hh rfl];refine⟨xc o2.hd,?_⟩;symm;rw[vP o2.hd (by show s.rs.length<dh;omega)];have o3:=o2.row (d:=.tup [.str "go",.int lot,.tup [.int q.1,.int q.2],.int am]) rfl;have k3:=k2.row (d:=.tup [.str "go",.int lot,.tup [.int q.1,.int q.2],.int am]) o2;symm;exact bF.here (h1 e _ _ o3 ⟨λp u n e=>k3.k p u n (l0 _ _ e),λp hp=>(k3.w p hp).imp id λz=>le_none l0 z,k3.h⟩ rfl rfl rfl (by simp) d.2.2.1)
private theorem aQZ(o:HO A x y g room s G)(hl:0<=lot/\lot<s.ls.length)(Iz:s.ls.length<=1000)(b:d3 x y q.1 q.2)(b2:d3 x y q2.1 q2.2)(ha:1<=am/\am<=1000000)(hn:s.n<800)(hr:0<=room)(NZ:s.rs.length<10000)(h0:EX A.bN G)(EZ:EX A.dW G)
  (h1:∀s' G',HO A x y g room s' G'->HK s s' G G'->s'.day=s.day->s'.ls=s.ls->s'.n=s.n+2->s'.rs.length=s.rs.length+1->R .ae G'):rH K A [.ref s.h,.int lot,.tup [.int q.1,.int q.2],.tup [.int q2.1,.int q2.2],.int am] G R EX:=by
 have big:10000<dh:=by decide
 refine⟨rfl,?_⟩;show MV K A _ _ [aj (.ref s.h),aj (.int lot),aj (.tup [.int q.1,.int q.2]),aj (.tup [.int q2.1,.int q2.2]),aj (.int am)] G;exists MV;rw[bW o.hh rfl];symm;rw[Bm (bH o.hk),gw];refine Pz hl ⋯ ?_;exists Vh;rw[bW o.hh rfl];symm;refine⟨by rw[cF o.S.sh (m:="shift") rfl];trivial,?_⟩;refine aK9 o.S o.v hn ⋯ b b2 ha hr (λ_=>m8.here h0) (λ_ _ _=>m8.here EZ) λ_ _ M' c' G1 d=>?_
 have oy:G1 s.kn=aj (.lst (s.ls.map gT)):=by
  let⟨_,_,a3,a4⟩:=o.tT o.hk;exact d.2.2.2.1 _ _ a3 a4 o.hk
 have hj:∀j:(Int×Int)×Int,0<d2 q q2 lot am j->(0<=j.2/\j.2<(s.ls.length:Int))/\d3 x y j.1.1 j.1.2:=λj hj=>by
  unfold d2 d1 at hj;split at hj
  .omega
  .split at hj<;>split at hj
   .rename_i ne e1 e2;exact absurd (congrArg (·.1) (e1.symm.trans e2)) ne
   .omega
   .rename_i e2;rw[e2];exact⟨hl,b2⟩
   .omega
 let⟨o2,k2⟩:=o.Jr (ls':=s.ls) hr d (fj _) hj G1 oy (λa u n e=>e);exists Vi;rw[bW o2.hh rfl];refine⟨xc o2.hd,?_⟩;symm;rw[vP o2.hd (by show s.rs.length<dh;omega)];have o3:=o2.row (d:=.tup [.str "move",.int lot,.tup [.int q.1,.int q.2],.tup [.int q2.1,.int q2.2],.int am]) rfl;have k3:=k2.row (d:=.tup [.str "move",.int lot,.tup [.int q.1,.int q.2],.tup [.int q2.1,.int q2.2],.int am]) o2;symm;exact bF.here (h1 _ _ o3 k3 rfl rfl rfl (by simp))
end
def aKB{g:Nat}(o:pz x y g)(hr:1<=room/\room<=1000000)(h0:G sh=aj (.ins A.aD []))(h:∀st G',G' sh=aj (Nt A x y g room st)->G' st=aj (.cX ak [])->G st=au->(∀q u,q≠sh->G q=aj u->G' q=aj u)->R .ae G'):gC K A [.ref sh,cf x y g,.int room] G R EX:=by
 refine⟨rfl,?_⟩;show nT K A _ _ [aj (.ref sh),aj (cf x y g),aj (.int room)] G;exists nT;refine QB o ?_;exists sU;refine BE hr ?_;exists sO;rw[uQ h0 (by decide)];generalize jS:aM G sh _=G1;have s1:G1 sh=aj (.ins A.aD [("layout",cf x y g)]):=by rw[←jS,aJ];rfl
 exists sJ;rw[uQ s1 (by show 1<1000;decide)];generalize AF:aM G1 sh _=G2;have s2:G2 sh=aj (.ins A.aD [("layout",cf x y g),("room",.int room)]):=by rw[←AF,aJ];rfl
 exists sI;intro st b9;have ne:st≠sh:=λz=>by rw[z,s2]at b9;cases b9
 rw[uQ (fG s2 b9) (by show 2<1000;decide)];refine bF.here (h st _ (by rw[aJ];rfl) (by rw[aR ne,aJ]) (by rw[←AF,aR ne,←jS,aR ne]at b9;exact b9) λq u n z=>?_);rw[aR n];refine fG ?_ b9;rw[←AF,aR n,←jS,aR n];exact z
def aKC{h:bx}(o:pz x y g)(hr:1<=room/\room<=1000000)(h0:G h=aj (.ins A.aC []))(k:∀s G',HO A x y g room s G'->s.h=h->s.day=0->s.ls=[]->s.rs=[]->s.n=0->(∀q u,q≠h->G q=aj u->G' q=aj u)->(∀q∈s.ow,q=h∨G q=au)->R .ae G'):jJ K A [.ref h,cf x y g,.int room] G R EX:=by
 refine⟨rfl,?_⟩;show qF K A _ _ [aj (.ref h),aj (cf x y g),aj (.int room)] G;exists qF;intro sh EH;have n1:h≠sh:=λz=>by rw[z,EH]at h0;cases h0
 refine aKB o hr aJ λst G1 s1 d1 ib k1=>⟨rfl,?_⟩;have n2:st≠sh:=λz=>by rw[z,aJ]at ib;cases ib
 have n3:st≠h:=λz=>by rw[aR n2,z,h0]at ib;cases ib
 have fst:G st=au:=by rw[aR n2]at ib;exact ib
 have h1:G1 h=aj (.ins A.aC []):=k1 _ _ n1 (by rw[aR n1];exact h0);have NP:∀q u,q≠sh->G q=aj u->G1 q=aj u:=λq u n e=>k1 q u n (by rw[aR n];exact e);rw[uQ h1 (by decide)];generalize AF:aM G1 h _=G2;have a2:G2 h=aj (.ins A.aC [("shelves",.ref sh)]):=by rw[←AF,aJ];rfl
 have WI:∀q u,q≠h->G1 q=aj u->G2 q=aj u:=λq u n e=>by rw[←AF,aR n];exact e
 exists wF;rw[uQ a2 (by show 1<1000;decide)];generalize Oi:aM G2 h _=G3;have a3:G3 h=aj (.ins A.aC [("shelves",.ref sh),("layout",cf x y g)]):=by rw[←Oi,aJ];rfl
 have WH:∀q u,q≠h->G2 q=aj u->G3 q=aj u:=λq u n e=>by rw[←Oi,aR n];exact e
 exists wD;rw[uQ a3 (by show 2<1000;decide)];generalize Oh:aM G3 h _=G4;have a4:G4 h=aj (.ins A.aC [("shelves",.ref sh),("layout",cf x y g),("day",.int 0)]):=by rw[←Oh,aJ];rfl
 have WG:∀q u,q≠h->G3 q=aj u->G4 q=aj u:=λq u n e=>by rw[←Oh,aR n];exact e
 have F1:∀q u,q≠h->G1 q=aj u->G4 q=aj u:=λq u n e=>WG q u n (WH q u n (WI q u n e));exists wC;intro kn AH;have m1:kn≠h:=λz=>by rw[z,a4]at AH;cases AH
 rw[uQ (fG a4 AH) (by show 3<1000;decide)];generalize IG:aM (aM G4 kn _) h _=G5;have a5:G5 h=aj (.ins A.aC [("shelves",.ref sh),("layout",cf x y g),("day",.int 0),("known",.ref kn)]):=by rw[←IG,aJ];rfl
 have b5:G5 kn=aj (.lst []):=by rw[←IG,aR m1,aJ]
 have Ig:∀q u,q≠h->G4 q=aj u->G5 q=aj u:=λq u n e=>by rw[←IG,aR n];exact fG e AH
 exists wB;intro dn qA;have m2:dn≠h:=λz=>by rw[z,a5]at qA;cases qA
 have m3:kn≠dn:=λz=>by rw[←z,b5]at qA;cases qA
 rw[uQ (fG a5 qA) (by show 4<1000;decide)];generalize IF:aM (aM G5 dn _) h _=G6;have a6:G6 h=aj (Iu A x y g 0 sh kn dn):=by rw[←IF,aJ];rfl
 have NO:∀q u,q≠h->G5 q=aj u->G6 q=aj u:=λq u n e=>by rw[←IF,aR n];exact fG e qA
 have b6:G6 dn=aj (.lst []):=by rw[←IF,aR m2,aJ]
 have all:∀q u,q≠h->G1 q=aj u->G6 q=aj u:=λq u n e=>NO q u n (Ig q u n (F1 q u n e));have nf:∀q,q≠h->G6 q≠au∨True:=λ_ _=>.inr trivial
 have no:∀q,q≠h->q≠sh->G4 q=au->G q=au:=λq n n' e=>by
  cases z:G q with
  |none=>rfl
  |some u=>rw[F1 q u n (NP q u n' z)]at e;cases e
 have sk:kn≠sh:=λz=>by have:=F1 sh _ (Ne.symm n1) s1;rw[←z,AH]at this;cases this
 have sd:dn≠sh:=λz=>by have:=Ig sh _ (Ne.symm n1) (F1 sh _ (Ne.symm n1) s1);rw[←z,qA]at this;cases this
 have aZH:G4 dn=au:=by
  cases z:G4 dn with
  |none=>rfl
  |some u=>rw[Ig dn u m2 z]at qA;cases qA
 refine bF.here (k ⟨h,sh,st,kn,dn,0,[],λ_=>[],0,[],[]⟩ G6 ⟨a6,⟨o,all _ _ (Ne.symm n1) s1,all _ _ n3 d1,λz hz=>nomatch hz⟩,dS.nil,NO _ _ m1 b5,b6,(λq l w m=>nomatch m),(λd hd=>nomatch hd),m3⟩ rfl rfl rfl rfl rfl (λq u n e=>?_) λq hq=>?_)
 .by_cases z:q=sh
  .rw[z,EH]at e;cases e
  .exact all q u n (NP q u z e)
 .have:q=h∨q=st∨q=kn∨q=dn:=by simpa[Hs.ow]using hq
  rcases this with rfl|rfl|rfl|rfl
  .exact .inl rfl
  .exact .inr fst
  .exact .inr (no _ m1 sk AH)
  .exact .inr (no _ m2 sd aZH)
abbrev lP(ls:List i5)(cs:List Nat)(day:Int)(l:Int):Bool:=match ls[l.toNat]? with
 |some t=>decide (t.1=cs)&&decide (day<=t.2.1)
 |none=>ao
abbrev cn(ls:List i5)(z:(Int×Int)×(Int×Int)):D:=.tup [oN z.1,.int z.2.1,.int z.2.2,.int (ls.getD z.2.1.toNat ([],0,0)).2.1,.int (ls.getD z.2.1.toNat ([],0,0)).2.2]
abbrev eB(ls:List i5)(cs:List Nat)(day:Int)(q:Int×Int)(hs:List (Int×Int)):List ((Int×Int)×(Int×Int)):=(hs.filter λz=>lP ls cs day z.1).map λz=>(q,z)
def Ti{a b:List Nat}:((⟨a.toArray⟩:Str)==⟨b.toArray⟩)=decide (a=b):=by
 by_cases e:a=b
 .subst e;simp
 .rw[decide_eq_false e];refine beq_eq_false_iff_ne.mpr λz=>e ?_;have:=congrArg (λs:Str=>s.cps.toList) z;simpa using this
variable{ls:List i5}
def Th(hl:0<=l/\l<ls.length):∃t,ls[l.toNat]?=aj t/\ls.getD l.toNat ([],0,0)=t/\c9 (ls.map gT) l=aj (.tup [.str ⟨t.1.toArray⟩,.int t.2.1,.int t.2.2]):=by
 have h:l.toNat<ls.length:=by omega
 refine⟨ls[l.toNat],jd h,by simp[vf,h],?_⟩;obtain⟨n,rfl⟩:∃n:Nat,l=n:=⟨l.toNat,⋯⟩;rw[A8];have h':n<ls.length:=h;simp[h',gT]
section
variable{F:eF}{ex:aN->aV}{r:bx}{ls:List i5}{cs:List Nat}{day:Int}{z:Int×Int}{ds:List D}
def aKF(hl:0<=z.1/\z.1<ls.length)(h3:G r=aj (.lst (ls.map gT)))(h4:G p=aj (.lst ds))(len:ds.length<10000)
  (h:F.nx [r0,aj (.str ⟨cs.toArray⟩),aj (.int day),aj (.ref r),aj (.ref p),aj (oN q),r6,aj (.int z.1),aj (.int z.2)] (if lP ls cs day z.1=ak then aM G p (.lst (ds++[cn ls (q,z)]))else G)) :
  tR K A ex F [r0,aj (.str ⟨cs.toArray⟩),aj (.int day),aj (.ref r),aj (.ref p),aj (oN q),r6,aj (.int z.1),aj (.int z.2)] G:=by
 have big:10000<dh:=by decide
 let⟨t,e1,e2,e3⟩:=Th hl;have eo:lP ls cs day z.1=(decide (t.1=cs)&&decide (day<=t.2.1)):=by unfold lP;rw[e1]
 rw[eo]at h;unfold cn at h;dsimp only at h;rw[e2]at h;exists tR,vn (bH h3) e3;rw[Ti];by_cases c1:t.1=cs
 .rw[decide_eq_true c1]at h ⊢;symm;by_cases c2:day<=t.2.1
  .rw[show decide (t.2.1≥day)=ak from decide_eq_true c2];rw[decide_eq_true c2,Bool.true_and,if_pos rfl]at h;symm;rw[vP h4 ⋯];exact⟨xc h4,h⟩
  .rw[show decide (t.2.1≥day)=ao from decide_eq_false c2];rw[decide_eq_false c2,Bool.and_false,if_neg (by decide)]at h;symm;exact h
 .rw[decide_eq_false c1]at h ⊢;rw[GW,if_neg (by decide)]at h;symm;exact h
def aR0{hs:List (Int×Int)}(hl:∀w∈hs,0<=w.1/\w.1<ls.length)(h3:G r=aj (.lst (ls.map gT)))(h4:G p=aj (.lst ds))(he:G e=aj (.cX ao (hs.map uO)))(len:ds.length+hs.length<10000)(nr:r≠p) 
  (h:∀r7 r8 G',G' p=aj (.lst (ds++(eB ls cs day q hs).map (cn ls)))->(∀a u,a≠p->G a=aj u->G' a=aj u)->F.nx [r0,aj (.str ⟨cs.toArray⟩),aj (.int day),aj (.ref r),aj (.ref p),aj (oN q),aj (.ref e),r7,r8] G') :
  vY K A ex F [r0,aj (.str ⟨cs.toArray⟩),aj (.int day),aj (.ref r),aj (.ref p),aj (oN q),aj (.ref e),r7,r8] G:=by
 have ne:e≠p:=λz=>by rw[z,h4]at he;cases he
 have Wy:r≠e:=λz=>by rw[z,he]at h3;cases h3
 exists vY;refine OK he λod=>?_;refine PV (λk ρ G'=>∃r7 r8,ρ=[r0,aj (.str ⟨cs.toArray⟩),aj (.int day),aj (.ref r),aj (.ref p),aj (oN q),aj (.ref e),r7,r8]/\G' p=aj (.lst (ds++(eB ls cs day q (hs.take k)).map (cn ls)))/\G' e=aj (.eA od ao (hs.map uO))/\∀a u,a≠p->a≠e->G a=aj u->G' a=aj u) ⟨_,_,rfl,?_,aJ,λa u n1 n2 w=>by rw[aR n2];exact w⟩ (λk ρ G' z=>?_) (λk w ρ G' hw z=>?_) λρ G' z=>?_
 .rw[aR (Ne.symm ne),h4];simp[eB]
 .obtain⟨_,_,_,_,z,_⟩:=z;exact z
 .obtain⟨r7,r8,rfl,z1,z2,z3⟩:=z;rw[ql]at hw;let⟨v,hv,rfl⟩:=ug.mp hw;have lk:k<hs.length:=(iz.mp hv).1;rw[show D.tup [dQ (uO v).1,(uO v).2]=.tup [.int v.1,.int v.2]from rfl,Fw rfl];symm;refine aKF (z:=v) (hl v (lq hv)) (z3 _ _ nr Wy h3) z1 ?_ ?_
  .rw[uw,gw]
   have:(eB ls cs day q (hs.take k)).length<=k:=by
    unfold eB;rw[gw];exact qd (BC _ _) (by simp;omega)
   omega
  .have et:hs.take (k+1)=hs.take k++[v]:=by rw[GL,hv];rfl
   by_cases c:lP ls cs day v.1=ak
   .rw[if_pos c];refine⟨_,_,rfl,?_,by rw[aR ne];exact z2,λa u n1 n2 w=>by rw[aR n1];exact z3 a u n1 n2 w⟩;rw[aJ,et];unfold eB;simp[c]
   .rw[if_neg c];refine⟨_,_,rfl,?_,z2,z3⟩;rw[z1,et];unfold eB;simp[c]
 .obtain⟨r7,r8,rfl,z1,z2,z3⟩:=z;refine h _ _ _ ?_ λa u n1 w=>?_
  .rw[aR (Ne.symm ne),z1];have el:(hs.map uO).length=hs.length:=gw ..;rw[el,zk]
  .by_cases n2:a=e
   .rw[n2,aJ];rw[n2,he]at w;exact w
   .rw[aR n2];exact z3 a u n1 n2 w
end
def E9{α:Type}{r:α->α->Prop}(as:∀a b,r a b->r b a->False):∀{xs ys:List α},xs.Pairwise r->ys.Pairwise r->(∀z,z∈xs↔z∈ys)->xs=ys
 |[],[],_,_,_=>rfl
 |[],y::ys,_,_,h=>absurd ((h y).mpr (.head _)) (by simp)
 |x::xs,[],_,_,h=>absurd ((h x).mp (.head _)) (by simp)
 |x::xs,y::ys,hx,hy,h=>by
  rw[List.pairwise_cons]at hx hy
  have e:x=y:=by
   rcases jm.mp ((h x).mp (.head _))with e|m
   .exact e
   .rcases jm.mp ((h y).mpr (.head _))with e|m2
    .exact e.symm
    .exact(as _ _ (hy.1 _ m) (hx.1 _ m2)).elim
  subst e;have i:∀z,r x z->z≠x:=λz q e=>by rw[e]at q;exact as _ _ q q
  rw[E9 as hx.2 hy.2 λz=>⟨λm=>?_,λm=>?_⟩]
  .exact(jm.mp ((h z).mp (.tail _ m))).resolve_left (i z (hx.1 z m))
  .exact(jm.mp ((h z).mpr (.tail _ m))).resolve_left (i z (hy.1 z m))
def AY(a b:Int×Int)(h:uN a b)(h2:uN b a):False:=by
 unfold uN at h h2;omega
abbrev F0(a b:(Int×Int)×(Int×Int)):Prop:=uN a.1 b.1∨(a.1=b.1/\uN a.2 b.2)
def SE(a b:(Int×Int)×(Int×Int))(h:F0 a b)(h2:F0 b a):False:=by
 unfold F0 at h h2;rcases h with h|⟨e,h⟩<;>rcases h2 with h2|⟨e2,h2⟩
 .exact AY _ _ h h2
 .rw[e2]at h;exact AY _ _ h h
 .rw[e]at h2;exact AY _ _ h2 h2
 .exact AY _ _ h h2
abbrev iN(M:List (List Key×bx))(c:bx->List (Int×Int))(ls:List i5)(cs:List Nat)(day:Int)(ps:List ((Int×Int)×(Int×Int))):Prop:=ps.Pairwise F0/\∀z,z∈ps↔z.2∈dD M c (kq z.1)/\lP ls cs day z.2.1=ak
def iN.eq(h:iN M c ls cs day ps)(h2:iN M c ls cs day qs):ps=qs:=E9 SE h.1 h2.1 λz=>(h.2 z).trans (h2.2 z).symm
abbrev om(ls:List i5)(cs:List Nat)(day:Int)(zs:List ((Int×Int)×List (Int×Int))):List ((Int×Int)×(Int×Int)):=zs.flatMap λz=>eB ls cs day z.1 z.2
def FJ:z∈eB ls cs day q hs↔z.1=q/\z.2∈hs/\lP ls cs day z.2.1=ak:=by
 unfold eB;constructor
 .intro h;let⟨w,hw,rfl⟩:=jw.mp h;let⟨h1,h2⟩:=zm.mp hw;exact⟨rfl,h1,h2⟩
 .rintro⟨rfl,h1,h2⟩;exact jw.mpr ⟨z.2,zm.mpr ⟨h1,h2⟩,rfl⟩
def Ov{zs:List ((Int×Int)×List (Int×Int))}(ri:eX (zs.map (·.1)))(hz:∀z∈zs,eX z.2/\∀w,w∈z.2↔w∈dD M c (kq z.1))(all:∀q w,w∈dD M c (kq q)->q∈zs.map (·.1)):iN M c ls cs day (om ls cs day zs):=by
 refine⟨?_,λz=>?_⟩
 .unfold om;rw[List.pairwise_flatMap];refine⟨λa ha=>?_,?_⟩
  .unfold eB;rw[BA];exact Bt.imp (λh=>.inr ⟨rfl,h⟩) (Bt.filter _ (hz a ha).1)
  .have HP:=BA.mp (show(zs.map (·.1)).Pairwise uN from ri);refine HP.imp λ{a b} h x hx y hy=>.inl ?_;rw[(FJ.mp hx).1,(FJ.mp hy).1];exact h
 .unfold om;rw[List.mem_flatMap];constructor
  .rintro⟨a,ha,h⟩;let⟨e,h1,h2⟩:=FJ.mp h;rw[e];exact⟨((hz a ha).2 z.2).mp h1,h2⟩
  .rintro⟨h1,h2⟩;let⟨a,ha,e⟩:=jw.mp (all z.1 z.2 h1);refine⟨a,ha,FJ.mpr ⟨e.symm,((hz a ha).2 z.2).mpr (by rw[e];exact h1),h2⟩⟩
def Jq{ls:List i5}{cs:List Nat}{day:Int}:∀{zs:List ((Int×Int)×List (Int×Int))},(∀z∈zs,z.2.length<=64)->(om ls cs day zs).length<=64*zs.length
 |[],_=>by simp[om]
 |z::zs,h=>by
  have ih:=Jq (ls:=ls) (cs:=cs) (day:=day) λy hy=>h y (.tail _ hy);have h1:=h z (.head _);have h2:(eB ls cs day z.1 z.2).length<=z.2.length:=by unfold eB;rw[gw];exact BC _ _
  show(eB ls cs day z.1 z.2++om ls cs day zs).length<=_;rw[uw,uq];omega
def Tg{t:bx}(v:dS room n M c)(hr:0<=room)(ly:M3 M c G t qs N c' G'):∃zs:List ((Int×Int)×List (Int×Int)),zs.map (·.1)=qs/\zs.length=N.length/\(∀(k:Nat)(z:List Key×bx),N[k]?=aj z->∃q,zs[k]?=aj (q,c' z.2)/\z.1=kq q)/\(∀z∈zs,eX z.2/\∀w,w∈z.2↔w∈dD M c (kq z.1))/\(∀q w,w∈dD M c (kq q)->q∈zs.map (·.1)):=by
 have el:N.length=qs.length:=by have:=congrArg DJ ly.kq;simpa using this
 have Fs:∀(k:Nat)(z:List Key×bx),N[k]?=aj z->∃q,qs[k]?=aj q/\z.1=kq q:=λk z hz=>by
  have:=congrArg (·[k]?) ly.kq;simp only[ql,hz]at this;let⟨q,h1,h2⟩:=ug.mp this.symm;exact⟨q,h1,h2.symm⟩
 have z1:(qs.zip (N.map λz=>c' z.2)).map (·.1)=qs:=List.map_fst_zip (by simp[el]);refine⟨qs.zip (N.map λz=>c' z.2),z1,by simp[el],λk z hz=>?_,λz hz=>?_,λq w hw=>?_⟩
 .obtain⟨q,h1,h2⟩:=Fs k z hz;exact⟨q,by rw[List.getElem?_zip_eq_some];exact⟨h1,by simp[hz]⟩,h2⟩
 .obtain⟨k,hk⟩:=GY.mp hz;rw[List.getElem?_zip_eq_some,ql]at hk;let⟨y,hy,e⟩:=ug.mp hk.2;let⟨q,h1,h2⟩:=Fs k y hy;rw[hk.1]at h1;cases h1;let⟨_,i2,i3,_⟩:=ly.ins y (lq hy);rw[←e];exact⟨i3,λw=>by rw[i2.mem_iff,h2]⟩
 .rw[z1];refine aQU.mp ?_;rw[←ly.kq];refine ly.ke.mem_iff.mpr (Classical.byContradiction λz=>?_);have:dD M c (kq q)=[]:=by unfold dD;rw[tK.mpr z]
  rw[this]at hw;cases hw
section
variable{s:Hs}{cs:List Nat}{day:Int}
def Px(o:HO A x y g room s G)(hn:s.n<64)(hr:0<=room)(hw:fC cs=ak)(hd:0<=day/\day<=9999)(h:∀rr ps G',Le G G'->G rr=au->G' rr=aj (.lst (ps.map (cn s.ls)))->iN s.M s.c s.ls cs day ps->R (.ref rr) G'):f9 K A [.ref s.h,.str ⟨cs.toArray⟩,.int day] G R EX:=by
 refine⟨rfl,?_⟩;have h':∀rr ps G',Le G G'->G rr=au->G' rr=aj (.lst (ps.map (cn s.ls)))->iN s.M s.c s.ls cs day ps->bF R (.ref rr) G':=λrr ps G' a b c d=>bF.here (h rr ps G' a b c d);clear h;show jY K A _ _ [aj (.ref s.h),aj (.str _),aj (.int day),au,au,au,au,au,au] G;exists jY;refine KA hw ?_;exists yS;refine PB hd ?_;exists UW;refine⟨by rw[cF o.hh (m:="lots") rfl];trivial,?_⟩;refine Tj o λr G1 l1 f1 g1=>?_;exists UX;intro p f2;have l2:Le G1 (aM G1 p (.lst [])):=.new f2;have g2:aM G1 p (.lst []) p=aj (.lst []):=aJ;have B1:r≠p:=λz=>by rw[z,f2]at g1;cases g1
 have fp:G p=au:=le_none l1 f2;generalize aM G1 p (.lst [])=G2 at l2 g2 ⊢;have o2:=o.le (l1.trans l2);exists UY;refine⟨by rw[cF o2.hh (m:="lying") rfl];trivial,?_⟩;refine Py o2 hn λt qs N c' G3 l3 ly=>?_;let⟨zs,e1,e2,e3,e4,e5⟩:=Tg o.v hr ly;have g3:=l3 _ _ g2;have r3:=l3 _ _ (l2 _ _ g1);have xh:t≠p:=λz=>by have:=ly.tt;rw[z,g3]at this;cases this
 have Wx:t≠r:=λz=>by have:=ly.tt;rw[z,r3]at this;cases this
 have lN:N.length<64:=by
  have a1:=ly.ke.length_eq;have a2:=o.v.len;simp at a1;omega
 have lz:∀z∈zs,z.2.length<=64:=λz hz=>by
  let⟨k,hk⟩:=GY.mp hz;let⟨oy,_⟩:=iz.mp hk;let⟨q,h1,h2⟩:=e3 k _ (jd (show k<N.length by omega));rw[hk]at h1;cases h1;let⟨_,i2,_,_⟩:=ly.ins _ (wo (show k<N.length by omega));have:=(rQ (k:=(N[k]'⋯).1) hr o.v).2.2.2;show(c' (N[k]'⋯).2).length<=64;rw[i2.length_eq];omega
 refine OK ly.tt λod=>?_;refine PV (λk ρ G'=>∃r5 r6 r7 r8,ρ=[aj (.ref s.h),aj (.str ⟨cs.toArray⟩),aj (.int day),aj (.ref r),aj (.ref p),r5,r6,r7,r8]/\G' p=aj (.lst ((om s.ls cs day (zs.take k)).map (cn s.ls)))/\G' t=aj (.eA od ak (N.map c8))/\∀a u,a≠p->a≠t->G3 a=aj u->G' a=aj u) ⟨_,_,_,_,rfl,?_,aJ,λa u n1 n2 w=>by rw[aR n2];exact w⟩ (λk ρ G' z=>?_) (λk w ρ G' hw z=>?_) λρ G' z=>?_
 .rw[aR (Ne.symm xh),g3];rfl
 .obtain⟨_,_,_,_,_,_,z,_⟩:=z;exact z
 .obtain⟨r5,r6,r7,r8,rfl,y1,y2,y3⟩:=z;rw[ql]at hw;let⟨v,hv,rfl⟩:=ug.mp hw;let⟨q,hq,eq⟩:=e3 k v hv;have lk:k<N.length:=(iz.mp hv).1;let⟨i1,i2,i3,_⟩:=ly.ins v (lq hv);have Ic:v.2≠p:=λz=>by rw[z,g3]at i1;cases i1
  have Ww:v.2≠t:=λz=>by rw[z,ly.tt]at i1;cases i1
  have ek:D.tup [dQ (c8 v).1,(c8 v).2]=.tup [oN q,.ref v.2]:=by
   show D.tup [dQ (.inr v.1),.ref v.2]=_;rw[eq];rfl
  rw[ek,Fw rfl];symm;have et:zs.take (k+1)=zs.take k++[(q,c' v.2)]:=by rw[GL,hq];rfl
  refine aR0 (hs:=c' v.2) (λw hw=>?_) (y3 _ _ B1 (Ne.symm Wx) r3) y1 (y3 _ _ Ic Ww i1) ?_ B1 λr7 r8 G4 p4 k4=>⟨_,_,_,_,rfl,?_,k4 _ _ xh y2,λa u n1 n2 w=>k4 _ _ n1 (y3 a u n1 n2 w)⟩
  .have:=i2.mem_iff.mp hw;rw[eq]at this;exact(o.lk q w.1 w.2 this).1
  .have a1:=Jq (ls:=s.ls) (cs:=cs) (day:=day) (zs:=zs.take k) λz hz=>lz z (List.mem_of_mem_take hz);have a2:(zs.take k).length<=64:=by rw[wu];omega
   have a3:=lz _ (lq hq);have a4:(c' v.2).length<=64:=a3;rw[gw];omega
  .rw[p4,et];unfold om;simp
 .obtain⟨r5,r6,r7,r8,rfl,y1,y2,y3⟩:=z;have el:(N.map c8).length=zs.length:=by rw[gw,e2]
  rw[el,zk]at y1;exists UZ;refine h' p _ _ (λa u w=>?_) fp (by rw[aR (Ne.symm xh)];exact y1) (Ov (by rw[e1];exact ly.ri) e4 e5);have wa:=l3 _ _ (l2 _ _ (l1 _ _ w));have n1:a≠p:=λz=>by rw[z,fp]at w;cases w
  have n2:a≠t:=λz=>by have:=l2 _ _ (l1 _ _ w);rw[z,ly.t0]at this;cases this
  rw[aR n2];exact y3 a u n1 n2 wa
end
def int_lt{hs:List (Int×Int)}(ri:eX hs)(nd:(hs.map (·.1)).Nodup):(hs.map (·.1)).Pairwise (· < ·):=by
 rw[BA];rw[List.Nodup,BA]at nd;refine(Bt.and ri nd).imp λ{a b} h=>?_;have h1:uN a b:=h.1;have h2:a.1≠b.1:=h.2;unfold uN at h1;omega
section
variable{F:eF}{ex:aN->aV}{r t:bx}{ls:List i5}{cs:List Nat}{day:Int}{z:Int×Int}{ds:List D}{N:List (List Key×bx)}{hs:List (Int×Int)}
def aKH(hl:0<=z.1/\z.1<ls.length)(h3:G t=aj (.cX ak (N.map c8)))(hv:bC N (kq q)=aj e)(he:G e=aj (.cX ao (hs.map uO)))(hz:bC hs z.1=aj z.2)(h4:G r=aj (.lst (ls.map gT)))(h5:G p=aj (.lst ds))(len:ds.length<10000)
  (h:F.nx [r0,aj (.str ⟨cs.toArray⟩),aj (.int day),aj (.ref t),aj (.ref r),aj (.ref p),aj (oN q),aj (.int z.1)] (if lP ls cs day z.1=ak then aM G p (.lst (ds++[cn ls (q,z)]))else G)) :
  wK K A ex F [r0,aj (.str ⟨cs.toArray⟩),aj (.int day),aj (.ref t),aj (.ref r),aj (.ref p),aj (oN q),aj (.int z.1)] G:=by
 have big:10000<dh:=by decide
 let⟨u,e1,e2,e3⟩:=Th hl;have eo:lP ls cs day z.1=(decide (u.1=cs)&&decide (day<=u.2.1)):=by unfold lP;rw[e1]
 have g1:∀R,nQ (.ref t) (oN q) G R=R (.ref e) G:=λR=>Df (k:=.inr (kq q)) h3 rfl rfl (by rw[xK,hv];rfl);have g2:∀R,nQ (.ref e) (.int z.1) G R=R (.int z.2) G:=λR=>Df (k:=.inl (.inl z.1)) he rfl rfl (by rw[zo,hz];rfl);rw[eo]at h;unfold cn at h;dsimp only at h;rw[e2]at h;exists wK,vn (bH h4) e3;rw[Ti];by_cases c1:u.1=cs
 .rw[decide_eq_true c1]at h ⊢;symm;by_cases c2:day<=u.2.1
  .rw[show decide (u.2.1≥day)=ak from decide_eq_true c2];rw[decide_eq_true c2,Bool.true_and,if_pos rfl]at h;symm;refine⟨xc h5,?_⟩;rw[g1,g2];exists vn (bH h4) e3;rw[vP h5 ⋯];exact h
  .rw[show decide (u.2.1≥day)=ao from decide_eq_false c2];rw[decide_eq_false c2,Bool.and_false,if_neg (by decide)]at h;symm;exact h
 .rw[decide_eq_false c1]at h ⊢;rw[GW,if_neg (by decide)]at h;symm;exact h
def aR2(hl:∀w∈hs,0<=w.1/\w.1<ls.length)(nd:(hs.map (·.1)).Nodup)(ri:eX hs)(EA:hs.length<64)(h3:G t=aj (.cX ak (N.map c8)))(hv:bC N (kq q)=aj e)(he:G e=aj (.cX ao (hs.map uO)))(h4:G r=aj (.lst (ls.map gT)))(h5:G p=aj (.lst ds))(len:ds.length+hs.length<10000)(nr:r≠p) 
  (h:∀r7 G',G' p=aj (.lst (ds++(eB ls cs day q hs).map (cn ls)))->(∀a u,a≠p->G a=aj u->G' a=aj u)->F.nx [r0,aj (.str ⟨cs.toArray⟩),aj (.int day),aj (.ref t),aj (.ref r),aj (.ref p),aj (oN q),r7] G') :
  yW K A ex F [r0,aj (.str ⟨cs.toArray⟩),aj (.int day),aj (.ref t),aj (.ref r),aj (.ref p),aj (oN q),r7] G:=by
 have xh:t≠p:=λz=>by rw[z,h5]at h3;cases h3
 have WA:e≠p:=λz=>by rw[z,h5]at he;cases he
 exists yW;rw[Df (k:=.inr (kq q)) h3 rfl rfl (by rw[xK,hv];rfl)];symm;refine .inr ⟨e,_,rfl,he,λl fl=>?_⟩;have ek:(hs.map uO).map (λp=>dQ p.1)=(hs.map (·.1)).map D.int:=by rw[xg,xg];rfl
 rw[ek];have l1:Le G (aM G l (.lst ((hs.map (·.1)).map D.int))):=.new fl;refine .inr ⟨l,hs.map (·.1),rfl,fJ,nd,by rw[gw];exact EA,λms pm rm l2 Cn=>?_⟩;obtain rfl:ms=hs.map (·.1):=E9 (λa b h1 h2=>by have h1:a<b:=h1;have h2:b<a:=h2;omega) rm (int_lt ri nd) λz=>pm.mem_iff;have l6:=l1.trans (.new (o:=.lst ((hs.map (·.1)).map D.int)) Cn);have g2:aM (aM G l (.lst ((hs.map (·.1)).map D.int))) l2 (.lst ((hs.map (·.1)).map D.int)) l2=aj (.lst ((hs.map (·.1)).map D.int)):=aJ;have nl:l2≠p:=λz=>by have:=l1 _ _ h5;rw[←z,Cn]at this;cases this
 generalize aM (aM G l _) l2 _=G2 at l6 g2 ⊢;rw[GD (bH g2)];refine Gn (λk ρ G'=>∃r7,ρ=[r0,aj (.str ⟨cs.toArray⟩),aj (.int day),aj (.ref t),aj (.ref r),aj (.ref p),aj (oN q),r7]/\G' p=aj (.lst (ds++(eB ls cs day q (hs.take k)).map (cn ls)))/\∀a u,a≠p->G2 a=aj u->G' a=aj u) ⟨_,rfl,?_,λa u _ w=>w⟩ (λk ρ G' z=>?_) (λk d ρ G' hd z=>?_) λρ G' z=>?_
 .rw[l6 _ _ h5];simp[eB]
 .obtain⟨_,_,_,z⟩:=z;exact bH (z _ _ nl g2)
 .obtain⟨r7,rfl,z1,z3⟩:=z;rw[xg,ql]at hd;let⟨v,Ip,rfl⟩:=ug.mp hd;have lk:k<hs.length:=(iz.mp Ip).1;have mv:=lq Ip;show sA 7 (.int v.1) _ _;symm;refine aKH (z:=v) (hl v mv) (z3 _ _ xh (l6 _ _ h3)) hv (z3 _ _ WA (l6 _ _ he)) (vk nd mv) (z3 _ _ nr (l6 _ _ h4)) z1 ?_ ?_
  .rw[uw,gw]
   have:(eB ls cs day q (hs.take k)).length<=k:=by
    unfold eB;rw[gw];exact qd (BC _ _) (by simp;omega)
   omega
  .have et:hs.take (k+1)=hs.take k++[v]:=by rw[GL,Ip];rfl
   by_cases c:lP ls cs day v.1=ak
   .rw[if_pos c];refine⟨_,rfl,?_,λa u n1 w=>by rw[aR n1];exact z3 a u n1 w⟩;rw[aJ,et];unfold eB;simp[c]
   .rw[if_neg c];refine⟨_,rfl,?_,z3⟩;rw[z1,et];unfold eB;simp[c]
 .obtain⟨r7,rfl,z1,z3⟩:=z;have el:((hs.map (·.1)).map D.int).length=hs.length:=by simp
  rw[el,zk]at z1;exact h _ _ z1 λa u n1 w=>z3 a u n1 (l6 _ _ w)
end
def aER{t:bx}{qs:List (Int×Int)}(h:G t=aj (.cX ak (N.map c8)))(e:N.map (·.1)=qs.map kq)(k:∀l,G l=au->R (.ref l) (aM G l (.lst (qs.map oN)))):Di [.ref t] G R:=by
 refine .inl ?_;unfold L2.FO;simp only[h]
 have ek:(N.map c8).map (λp=>dQ p.1)=qs.map oN:=by
  rw[xg,show(λq:DK×D=>dQ q.1)∘c8=(λks=>dQ (.inr ks))∘(λz:List Key×bx=>z.1)from rfl,←xg,e,xg];rfl
 rw[ek];exact k
section
variable{s:Hs}{cs:List Nat}{day:Int}
def SD(o:HO A x y g room s G)(hn:s.n<64)(hr:0<=room)(h:∀rr ps G',Le G G'->G rr=au->G' rr=aj (.lst (ps.map (cn s.ls)))->iN s.M s.c s.ls cs day ps->R (.ref rr) G'):sY K A [.ref s.h,.str ⟨cs.toArray⟩,.int day] G R EX:=by
 refine⟨rfl,?_⟩;have h':∀rr ps G',Le G G'->G rr=au->G' rr=aj (.lst (ps.map (cn s.ls)))->iN s.M s.c s.ls cs day ps->bF R (.ref rr) G':=λrr ps G' a b c d=>bF.here (h rr ps G' a b c d);clear h;show Md K A _ _ [aj (.ref s.h),aj (.str _),aj (.int day),au,au,au,au,au] G;exists Md;refine⟨by rw[cF o.hh (m:="lying") rfl];trivial,?_⟩;refine Py o hn λt qs N c' G1 l1 ly=>?_;have o1:=o.le l1;exists Uq;refine⟨by rw[cF o1.hh (m:="lots") rfl];trivial,?_⟩;refine Tj o1 λr G2 l2 f2 g2=>?_;exists Ur;intro p f3;have l3:Le G2 (aM G2 p (.lst [])):=.new f3;have g3:aM G2 p (.lst []) p=aj (.lst []):=aJ;have B1:r≠p:=λz=>by rw[z,f3]at g2;cases g2
 have fp:G p=au:=le_none (l1.trans l2) f3;generalize aM G2 p (.lst [])=G3 at l3 g3 ⊢;have t3:=l3 _ _ (l2 _ _ ly.tt);have r3:=l3 _ _ g2;let⟨zs,e1,e2,e3,e4,e5⟩:=Tg o.v hr ly;have el:qs.length=N.length:=by rw[←e1,gw,e2]
 have lN:N.length<64:=by
  have a1:=ly.ke.length_eq;have a2:=o.v.len;simp at a1;omega
 have lz:∀z∈zs,z.2.length<64:=λz hz=>by
  let⟨k,hk⟩:=GY.mp hz;let⟨oy,_⟩:=iz.mp hk;let⟨q,h1,h2⟩:=e3 k _ (jd (show k<N.length by omega));rw[hk]at h1;cases h1;let⟨_,i2,_,_⟩:=ly.ins _ (wo (show k<N.length by omega));have:=(rQ (k:=(N[k]'⋯).1) hr o.v).2.2.2;show(c' (N[k]'⋯).2).length<64;rw[i2.length_eq];omega
 have WC:qs.Nodup:=ly.ri.imp λ{a b} h e=>by rw[e]at h;exact AY _ _ h h
 exists Us;refine aER t3 ly.kq λl fl=>?_;have l4:Le G3 (aM G3 l (.lst (qs.map oN))):=.new fl;refine .inl ?_;unfold L2.FP;simp only[fJ];refine⟨qs,rfl,WC,⋯,λAu pm HP l6 Cn=>?_⟩;obtain rfl:Au=qs:=E9 AY HP ly.ri λz=>pm.mem_iff;have l5:=l4.trans (.new (o:=.lst (Au.map oN)) Cn);have g5:aM (aM G3 l (.lst (Au.map oN))) l6 (.lst (Au.map oN)) l6=aj (.lst (Au.map oN)):=aJ;have nl:l6≠p:=λz=>by have:=l4 _ _ g3;rw[←z,Cn]at this;cases this
 generalize aM (aM G3 l _) l6 _=G5 at l5 g5 ⊢;rw[GD (bH g5)];refine Gn (λk ρ G'=>∃r6 r7,ρ=[aj (.ref s.h),aj (.str ⟨cs.toArray⟩),aj (.int day),aj (.ref t),aj (.ref r),aj (.ref p),r6,r7]/\G' p=aj (.lst ((om s.ls cs day (zs.take k)).map (cn s.ls)))/\∀a u,a≠p->G5 a=aj u->G' a=aj u) ⟨_,_,rfl,?_,λa u _ w=>w⟩ (λk ρ G' z=>?_) (λk d ρ G' hd z=>?_) λρ G' z=>?_
 .rw[l5 _ _ g3];rfl
 .obtain⟨_,_,_,_,z⟩:=z;exact bH (z _ _ nl g5)
 .obtain⟨r6,r7,rfl,y1,y3⟩:=z;rw[ql]at hd;let⟨q,hq,rfl⟩:=ug.mp hd;have lk:k<N.length:=by have:=(iz.mp hq).1;omega
  have hv:N[k]?=aj N[k]:=jd lk;let⟨q',qq,eq⟩:=e3 k _ hv
  have WQ:q'=q:=by
   have:=congrArg (·[k]?) e1;simp only[ql,qq,hq]at this;simpa using this
  subst WQ;let⟨i1,i2,i3,_⟩:=ly.ins N[k] (wo lk);have Il:=l3 _ _ (l2 _ _ i1);have Ic:N[k].2≠p:=λz=>by rw[z,g3]at Il;cases Il
  have xh:t≠p:=λz=>by rw[z,g3]at t3;cases t3
  have vd:bC N (kq q')=aj N[k].2:=by rw[←eq];exact vk (ly.ke.nodup_iff.mpr o.v.kn) (wo lk)
  symm;have et:zs.take (k+1)=zs.take k++[(q',c' N[k].2)]:=by rw[GL,qq];rfl
  have EA:=lz _ (lq qq);refine aR2 (hs:=c' N[k].2) (λw hw=>?_) ?_ i3 EA (y3 _ _ xh (l5 _ _ t3)) vd (y3 _ _ Ic (l5 _ _ Il)) (y3 _ _ B1 (l5 _ _ r3)) y1 ?_ B1 λr7 G4 p4 k4=>⟨_,_,rfl,?_,λa u n1 w=>k4 _ _ n1 (y3 a u n1 w)⟩
  .have:=i2.mem_iff.mp hw;rw[eq]at this;exact(o.lk q' w.1 w.2 this).1
  .exact(i2.map (·.1)).nodup_iff.mpr (rQ (k:=N[k].1) hr o.v).1
  .have a1:=Jq (ls:=s.ls) (cs:=cs) (day:=day) (zs:=zs.take k) λz hz=>wk (lz z (List.mem_of_mem_take hz));have a2:(zs.take k).length<=64:=by rw[wu];omega
   have a4:(c' N[k].2).length<64:=EA;rw[gw];omega
  .rw[p4,et];unfold om;simp
 .obtain⟨r6,r7,rfl,y1,y3⟩:=z;have Xu:(Au.map oN).length=zs.length:=by rw[gw,el,e2]
  rw[Xu,zk]at y1;exists Ut;refine h' p _ _ (λa u w=>?_) fp y1 (Ov (by rw[e1];exact ly.ri) e4 e5);have n1:a≠p:=λz=>by rw[z,fp]at w;cases w
  exact y3 a u n1 (l5 _ _ (l3 _ _ (l2 _ _ (l1 _ _ w))))
end
def Tf(z:Str):z=⟨z.cps.toList.toArray⟩:=by cases z;simp
def aZL:∀c∈("abcdefghijklmnopqrstuvwxyz":Str).cps.toList,fF c=ak:=by decide+kernel
def Te:("abcdefghijklmnopqrstuvwxyz":Str).length=26:=by decide+kernel
def Ou(h:∀cs,fC cs=ak->R (.str ⟨cs.toArray⟩) G):lU K A [.int i] G R EX:=by
 have big:10000<dh:=by decide
 refine⟨rfl,?_⟩;show Mn K A _ _ [aj (.int i),au,au,au] G;exists Mn;exists UR;refine oW (λe=>?_) λe=>?_
 .intro p hp;have e:i%4<3:=by simpa using e
  refine CM fJ ⋯ (by show i%4<3;omega) λd hd=>?_
  have:∃z:Str,d=.str z/\fC z.cps.toList=ak:=by
   simp only[jm,DL,or_false]at hd;rcases hd with rfl|rfl|rfl
   .exact⟨_,rfl,by decide+kernel⟩
   .exact⟨_,rfl,by decide+kernel⟩
   .exact⟨_,rfl,by decide+kernel⟩
  let⟨z,rfl,hz⟩:=this;rw[Tf z];exact Jw (h _ hz) (.new hp)
 .exists US;exists UT;refine PY (λk ρ G'=>∃i' cs r3,ρ=[aj (.int i'),aj (.str "abcdefghijklmnopqrstuvwxyz"),aj (.str ⟨cs.toArray⟩),r3]/\cs.length=k/\cs.all fF=ak/\Le G G') ⟨i,[],au,rfl,rfl,rfl,.refl _⟩ (λk ρ G' hk z=>?_) λρ G' z=>?_
  .obtain⟨i',cs,r3,rfl,e1,e2,l⟩:=z;exists Vg;exists VL;refine Zj (by rw[Te];omega) ⋯ (by rw[Te];omega) λc m=>?_;rw[show(⟨#[c]⟩:Str)=⟨[c].toArray⟩from rfl,aDN (by simp;omega)];symm;exact⟨_,_,_,rfl,by simp[e1],by simp[e2,aZL c m],l⟩
  .obtain⟨i',cs,r3,rfl,e1,e2,l⟩:=z;exists UU;refine Jw (h cs ?_) l;unfold fC;rw[e2];simp only[DC,cg,decide_eq_true_eq];omega
def aKI(hG:G a=aj (.fc (ns.map D.int)))(h:∀x y g:Nat,pz x y g->R (cf x y g) G):uW K A [.ref a] G R EX:=by
 refine⟨rfl,?_⟩;show Mm K A _ _ [aj (.ref a),au] G
 have fin:∀i j:Int,1<=i->i<=26->1<=j->j<=99->bF R (.tup [.int i,.int j,.int 2]) G:=λi j h1 h2 h3 h4=>by
  have z:=bF.here (h i.toNat j.toNat 2 ⟨⋯,⋯,⋯,⋯,⋯,⋯⟩);unfold cf at z;rw[Int.toNat_of_nonneg ⋯,Int.toNat_of_nonneg ⋯]at z;exact z
 exists Mm;refine CL (k:=0) hG ⋯ ?_;generalize cellAt ns 0=c0;exists UO;refine oW (λ_=>?_) λ_=>?_
 .exact fin _ _ ⋯ ⋯ ⋯ ⋯
 exists UP;refine oW (λ_=>?_) λ_=>?_
 .exact fin _ _ ⋯ ⋯ ⋯ ⋯
 exists UQ;exact fin _ _ ⋯ ⋯ ⋯ ⋯
def Td(o:pz x y g)(h:∀q:Int×Int,d3 x y q.1 q.2->∀G',Le G G'->R (oN q) G'):sX K A [cf x y g,.int i] G R EX:=by
 refine⟨rfl,?_⟩;have x0:0<(x:Int):=by have:=o.x0;omega
 have y0:0<(y:Int):=by have:=o.y0;omega
 have fin:∀(a b:Int)(G':Gp),Le G G'->0<=a->a<x->1<=b->b<=y->bF R (.tup [.int a,.int b]) G':=λa b G' l h1 h2 h3 h4=>bF.here (h (a,b) ⟨h1,h2,h3,h4⟩ G' l);clear h;unfold cf;show Me K A _ _ [aj (.tup [.int x,.int y,.int g]),aj (.int i)] G;exists Me;refine oW (λ_=>?_) λ_=>?_
 .have m1:=GH (i / 2) (show(x:Int)≠0 by omega);have m2:=GR (i / 2) x0;have m3:=GH (i / 52) (show(y:Int)≠0 by omega);have m4:=GR (i / 52) y0;exact fin _ _ G (.refl _) m1 m2 ⋯ ⋯
 exists Uu;intro p hp;have l1:Le G (aM G p (.lst [.int 0,.int 1,.int 2,.int 9,.int 10])):=.new hp;refine CM fJ ⋯ (by show i / 2%5<5;omega) λd hd=>?_
 obtain⟨u,rfl,hu⟩:∃u:Int,d=.int u/\0<=u:=by
  simp only[jm,DL,or_false]at hd;rcases hd with rfl|rfl|rfl|rfl|rfl<;>exact⟨_,rfl,by decide⟩
 clear hd;generalize aM G p _=G1 at l1 ⊢;symm;intro p2 ie;have l2:Le G1 (aM G1 p2 (.lst [.int 1,.int 2,.int 9,.int 10,.int 11,.int 12])):=.new ie;refine CM fJ ⋯ (by show i / 10%6<6;omega) λd hd=>?_
 obtain⟨v,rfl,hv⟩:∃u:Int,d=.int u/\1<=u:=by
  simp only[jm,DL,or_false]at hd;rcases hd with rfl|rfl|rfl|rfl|rfl|rfl<;>exact⟨_,rfl,by decide⟩
 clear hd;generalize aM G1 p2 _=G2 at l2 ⊢;symm;exact fin _ _ G2 (l1.trans l2) ⋯ ⋯ ⋯ ⋯
structure sC(A:aU)(a:bx)(ns:List Int)(x y g:Nat)(hs:bx)(s:Hs)(k:Nat)(G:Gp):Prop where
 hG:G a=aj (.fc (ns.map D.int))
 o:HO A x y g 60 s G
 eh:s.h=hs
 d:0<=s.day/\s.day<=(k:Int)
 n:s.n<=2*k
 l:s.ls.length<=k
 r:s.rs.length<=k
def HO.out{s:Hs}(o:HO A x y g room s G)(h:G a=aj (.fc ds)):a∉s.ow:=λm=>by
 have:a=s.h∨a=s.st∨a=s.kn∨a=s.dn∨a∈s.M.map (·.2):=by simpa[Hs.ow]using m
 rcases this with rfl|rfl|rfl|rfl|m
 .rw[o.hh]at h;cases h
 .rw[o.S.st]at h;cases h
 .rw[o.hk]at h;cases h
 .rw[o.hd]at h;cases h
 .obtain⟨z,hz,rfl⟩:=jw.mp m;rw[o.S.ins z hz]at h;cases h
def SA{X Y:Prop}{a b:Bool}(hx:a=ak->b=ak->X)(hy:Y):if a=ak then(if b=ak then X else Y)else Y:=by
 cases a<;>cases b<;>simp_all
section
variable{ns:List Int}{s:Hs}{k:Nat}{F:eF}{ex:aN->aV}
private theorem YW(T:Txt K mg A)(hk:k<25)(w:sC A a ns x y g hs s k G)
  (h:∀r5 r6 r7 r8 r9 s' G',sC A a ns x y g hs s' (k+1) G'->F.nx [aj (.ref a),aj (cf x y g),aj (.ref hs),aj (.int s'.ls.length),aj (.int k),r5,r6,r7,r8,r9] G'/\F.ct [aj (.ref a),aj (cf x y g),aj (.ref hs),aj (.int s'.ls.length),aj (.int k),r5,r6,r7,r8,r9] G') :
  tW K A ex F [aj (.ref a),aj (cf x y g),aj (.ref hs),aj (.int s.ls.length),aj (.int k),r5,r6,r7,r8,r9] G:=by
 have hd:=w.d;have hn:=w.n;have hl:=w.l;have hr:=w.r;exists tW;rw[show(10:Int)+(k:Int)=((10+k:Nat):Int) by omega];refine CL (k:=10+k) w.hG ⋯ ?_;generalize cellAt ns (10+k)=c;exists yJ;obtain⟨m,em,hm⟩:∃m:Int,m=(c*48271+7919*(k:Int)+5)%2147483647/\-18446744073709551616<m/\m<18446744073709551616:=⟨_,rfl,⋯,⋯⟩;rw[←em];clear em;exists yI;refine Td w.o.S.o λq b G1 l1=>?_;exists yH;refine Td w.o.S.o λq2 b2 G2 l2=>?_;have Ie:=l1.trans l2;have w2:sC A a ns x y g hs s k G2:=⟨Ie _ _ w.hG,w.o.le Ie,w.eh,w.d,w.n,w.l,w.r⟩;clear Ie l1 l2 w;exists yG;obtain⟨am,ea,ha⟩:∃am:Int,am=1+c / 8%9/\1<=am/\am<=1000000:=⟨_,rfl,⋯,⋯⟩;rw[←ea];clear ea;let⟨hG,o,eh,_,_,_,_⟩:=w2;have out:=o.out hG;have same:sC A a ns x y g hs s (k+1) G2:=⟨hG,o,eh,⋯,⋯,⋯,⋯⟩;have Sz:A1 K F A.dW [(A.dW,vE),(A.bN,vE)] [aj (.ref a),aj (cf x y g),aj (.ref hs),aj (.int s.ls.length),aj (.int k),aj (.int c),aj (.int m),aj (oN q),aj (oN q2),aj (.int am)] G2:=.inl ⟨T.jB,(h _ _ _ _ _ s G2 same).2⟩;have little:A1 K F A.bN [(A.dW,vE),(A.bN,vE)] [aj (.ref a),aj (cf x y g),aj (.ref hs),aj (.int s.ls.length),aj (.int k),aj (.int c),aj (.int m),aj (oN q),aj (oN q2),aj (.int am)] G2:=.inr ⟨T.fQ,.inl ⟨T.dB,(h _ _ _ _ _ s G2 same).2⟩⟩;subst eh;have next:∀s' G',HO A x y g 60 s' G'->HK s s' G2 G'->s'.day<=s.day+1->0<=s'.day->s'.ls.length<=s.ls.length+1->s'.n<=s.n+2->s'.rs.length=s.rs.length+1->sC A a ns x y g s.h s' (k+1) G':=λs' G' o' k' e1 e2 e3 e4 e5=>⟨k'.k _ _ out hG,o',k'.h,⋯,⋯,⋯,⋯⟩;exists yF;refine oW (λ_=>?_) λ_=>?_
 .refine⟨by rw[cF o.hh (m:="next_day") rfl];trivial,?_⟩;refine YX o ⋯ ⋯ λG' o' k'=>?_;symm;exact(h _ _ _ _ _ _ G' (next _ G' o' k' (mn _) (by show 0<=s.day+1;omega) (sf _) (Nat.le_add_right _ _) (by simp))).1
 refine SA (λ_ e2=>?_) ?_
 .have c0:0<(s.ls.length:Int):=by simpa using e2
  have m1:=GH (c / 72) (show(s.ls.length:Int)≠0 by omega);have m2:=GR (c / 72) c0;(try rw[IY c0]);generalize c / 72%(s.ls.length:Int)=lot at m1 m2 ⊢;refine⟨by rw[cF o.hh (m:="move") rfl];trivial,?_⟩;refine aQZ o ⟨m1,m2⟩ ⋯ b b2 ha ⋯ ⋯ ⋯ little Sz λs' G' o' k' e1 e2 e3 e4=>?_;symm;have z:=(h (aj (.int c)) (aj (.int m)) (aj (oN q)) (aj (oN q2)) (aj (.int am)) s' G' (next _ G' o' k' ⋯ ⋯ (by rw[e2];omega) ⋯ e4)).1;rw[e2]at z;exact z
 refine SA (λ_ e2=>?_) ?_
 .have c0:0<(s.ls.length:Int):=by simpa using e2
  have m1:=GH (c / 72) (show(s.ls.length:Int)≠0 by omega);have m2:=GR (c / 72) c0;(try rw[IY c0]);generalize c / 72%(s.ls.length:Int)=lot at m1 m2 ⊢;refine⟨by rw[cF o.hh (m:="go") rfl];trivial,?_⟩;refine Sd o ⟨m1,m2⟩ ⋯ b ha ⋯ ⋯ ⋯ (λ_=>little) λ_ s' G' o' k' e1 e2 e3 e4 _=>?_;symm;have z:=(h (aj (.int c)) (aj (.int m)) (aj (oN q)) (aj (oN q2)) (aj (.int am)) s' G' (next _ G' o' k' ⋯ ⋯ (by rw[e2];omega) ⋯ e4)).1;rw[e2]at z;exact z
 refine⟨by rw[cF o.hh (m:="come") rfl];trivial,?_⟩;refine Ou λcs EV=>?_;symm;refine⟨by rw[cF o.hh (m:="today") rfl];trivial,?_⟩;refine Ow o ?_;symm;refine aQY o EV ⋯ ⋯ b ha ⋯ ⋯ ⋯ ⋯ Sz λs' G' o' k' e1 e2 e3 e4=>?_;exists oF;have e5:s'.ls.length=s.ls.length+1:=by rw[e2];simp
 have z:=(h (aj (.int c)) (aj (.int m)) (aj (oN q)) (aj (oN q2)) (aj (.int am)) s' G' (next _ G' o' k' ⋯ ⋯ ⋯ ⋯ e4)).1;rw[e5]at z;exact z
end
def aEV(T:Txt K mg A)(hG:G a=aj (.fc (ns.map D.int)))(h:∀x y g s G',sC A a ns x y g s.h s 25 G'->R (.ref s.h) G'):rK K A [.ref a] G R EX:=by
 refine⟨rfl,?_⟩;have h':∀x y g s G',sC A a ns x y g s.h s 25 G'->bF R (.ref s.h) G':=λx y g s G' w=>bF.here (h x y g s G' w);clear h;show MT K A _ _ [aj (.ref a),au,au,au,au,au,au,au,au,au] G;exists MT;refine aKI hG λx y g o=>?_;exists Vc;intro hs N8;have na:a≠hs:=λz=>by rw[z,N8]at hG;cases hG
 refine aKC (room:=60) o ⟨by decide,by decide⟩ aJ λs G1 ho e1 e2 e3 e4 e5 kp ow=>⟨rfl,?_⟩;have jS:=kp _ _ na ((Le.new N8) _ _ hG);exists Vd;exists Ve;refine CL (k:=1) jS ⋯ ?_;generalize cellAt ns 1=c1;symm;refine PY (λk ρ G'=>∃s r4 r5 r6 r7 r8 r9,ρ=[aj (.ref a),aj (cf x y g),aj (.ref hs),aj (.int s.ls.length),r4,r5,r6,r7,r8,r9]/\sC A a ns x y g hs s k G') ⟨s,au,au,au,au,au,au,by rw[e3];rfl,jS,ho,e1,by rw[e2];exact⟨mn _,mn _⟩,⋯,by rw[e3];exact fj _,by rw[e4];exact fj _⟩ (λk ρ G' hk z=>?_) λρ G' z=>?_
 .obtain⟨s,r4,r5,r6,r7,r8,r9,rfl,w⟩:=z;symm;exact YW T ⋯ w λr5 r6 r7 r8 r9 s' G2 w2=>⟨⟨_,_,_,_,_,_,_,rfl,w2⟩,⟨_,_,_,_,_,_,_,rfl,w2⟩⟩
 .obtain⟨s,r4,r5,r6,r7,r8,r9,rfl,w⟩:=z;let⟨p1,p2,p3,p4,p5,p6,p7⟩:=w;exists Vf;subst p3;exact h' x y g s G' ⟨p1,p2,rfl,⋯,⋯,⋯,⋯⟩
section
def Jp(T:Txt K mg A){bw bd:Bool}(ec:mw K C)(kv:ni K (.ref C) (.type "ValueError")=aj ak)(k1:ni K (.ref C) (.ref A.d9)=aj bw)(k2:ni K (.ref C) (.ref A.eY)=aj bd)(hb:bw=!bd)(su:qe K (.ref C) (.ref A.lM)=aj ak) 
  (hp:∀R' eP,eP C G->f9 K A [.ref hs,dw,dd] G R' eP)(h:∀G',Le G G'->R (.tup [.str "refused",.str (if bw=ak then "NoWare" else "NoDay")]) G'):pK K A [.ref hs,dw,dd] G R EX:=by
 refine⟨rfl,?_⟩;have h':∀G',Le G G'->bF R (.tup [.str "refused",.str (if bw=ak then "NoWare" else "NoDay")]) G':=λG' l=>bF.here (h G' l);clear h;show sZ K A _ _ [aj (.ref hs),aj dw,aj dd,au] G;exists sZ;refine hp _ _ ⟨su,λe he=>?_⟩;have l1:Le G (aM G e (.ej C)):=.new he;have g1:aM G e (.ej C) e=aj (.ej C):=aJ;generalize aM G e _=G1 at l1 g1 ⊢;symm;refine aJI g1 ec kv ?_;symm;refine zv g1 ec k1 ?_;symm;refine zv g1 ec k2 ?_;symm;subst hb;cases bd with
 |true =>
  exists wL;intro p ie;refine zv ((Le.new ie) _ _ g1) ec k1 ?_;symm;rw[vn fJ (i:=0) rfl];symm;exact h' _ (l1.trans (.new ie))
 |false =>
  exists wL;intro p ie;refine zv ((Le.new ie) _ _ g1) ec k1 ?_;symm;rw[vn fJ (i:=1) rfl];symm;exact h' _ (l1.trans (.new ie))
end
def FI(v:dS room n M c)(hr:0<=room){w:Int}:(l,w)∈dD M c (kq q)↔1<=w/\cM (dD M c (kq q)) l=w:=by
 let⟨nd,ps,_,_⟩:=rQ (k:=kq q) hr v;constructor
 .intro m;have e:=vk nd m;refine⟨ps _ m,?_⟩;unfold cM;rw[show bC (dD M c (kq q)) l=aj w from e];rfl
 .rintro⟨h1,h2⟩;unfold cM at h2;cases z:bC (dD M c (kq q)) l with
  |none=>rw[z]at h2;simp at h2;omega
  |some u =>
   rw[z]at h2;have:u=w:=h2;rw[←this];exact rP z
def iN.left(v:dS room n M c)(v':dS room n' M' c')(hr:0<=room)(h:iN M c ls cs day (z::ps))(d:DZ M c M' c' (d1 (z.1,z.2.1) (-z.2.2))):iN M' c' ls cs day ps:=by
 let⟨h1,h2⟩:=h;rw[List.pairwise_cons]at h1;have nz:z∉ps:=λm=>SE _ _ (h1.1 z m) (h1.1 z m);have hz:=((h2 z).mp (.head _)).1;have vz:=(FI v hr (q:=z.1) (l:=z.2.1) (w:=z.2.2)).mp hz;refine⟨h1.2,λw=>?_⟩;have e:cM (dD M' c' (kq w.1)) w.2.1=cM (dD M c (kq w.1)) w.2.1+d1 (z.1,z.2.1) (-z.2.2) (w.1,w.2.1):=d w.1.1 w.1.2 w.2.1;have m':=FI v' hr (q:=w.1) (l:=w.2.1) (w:=w.2.2);have m:=FI v hr (q:=w.1) (l:=w.2.1) (w:=w.2.2);unfold d1 at e;by_cases c0:(w.1,w.2.1)=(z.1,z.2.1)
 .rw[if_pos c0]at e;have q1:w.1=z.1:=congrArg (·.1) c0;have q2:w.2.1=z.2.1:=congrArg (·.2) c0;rw[q1,q2,vz.2]at e;constructor
  .intro hw;have hm:=(m.mp ((h2 w).mp (.tail _ hw)).1).2;rw[q1,q2,vz.2]at hm;have:w=z:=Prod.ext q1 (Prod.ext q2 hm.symm);exact(nz (this ▸ hw)).elim
  .rintro⟨hw,_⟩;have hm:=m'.mp hw;rw[q1,q2]at hm;omega
 .rw[if_neg c0]at e
  have mm:w.2∈dD M' c' (kq w.1)↔w.2∈dD M c (kq w.1):=by
   refine m'.trans (Iff.trans ?_ m.symm);rw[e];simp
  rw[mm];refine Iff.trans ?_ (h2 w);rw[jm];refine⟨.inr,λx=>x.resolve_left λy=>c0 (by rw[y])⟩
def Tc{p:bx}{xs:List D}{lo hi:Option Int}(h:cO G p=aj xs):F7 (.ref p) lo hi G R=∀q,G q=au->R (.ref q) (aM G q (.lst (cutD xs lo hi))):=by
 unfold L2.F7;simp only[h]
def aR3{α:Type}{xs:List α}{k:Nat}(h:k<=xs.length):cutD xs (aj (k:Int)) au=xs.drop k:=by
 unfold L2.cutD;rw[HT.Pr,HT.Qu,zh h,List.take_of_length_le];rw[List.length_drop];exact fj _
def aR4{α:Type}{xs:List α}{k:Nat}(h:k<=xs.length):cutD xs au (aj (k:Int))=xs.take k:=by
 unfold L2.cutD;rw[HT.Pr,HT.Qu,zh h,List.drop_zero,Nat.sub_zero]
def aKK{α:Type}{xs:List α}:cutD xs au (aj 2)=xs.take 2:=by
 by_cases h:2<=xs.length
 .exact aR4 (k:=2) h
 .match xs,h with
  |[],_=>rfl
  |[_],_=>rfl
  |_::_::_,h=>simp at h
def aKL{α:Type}{xs:List α}:cutD xs (aj 2) au=xs.drop 2:=by
 by_cases h:2<=xs.length
 .exact aR3 (k:=2) h
 .match xs,h with
  |[],_=>rfl
  |[_],_=>rfl
  |_::_::_,h=>simp at h
def v7{ps:List ((Int×Int)×(Int×Int))}:(ps.map (cn ls)).all (bY 20)=ak:=by
 rw[List.all_map,jq];exact λz _=>rfl
def FH{ps:List ((Int×Int)×(Int×Int))}:xE (ps.map (cn ls)) (ps.map (cn ls))=ak:=v9 (n:=20) (jq.mp v7)
def aR5:(∀z∈ps,1<=z.2)->∀z∈ps,z.2<=bg ps:=by
 induction ps with
 |nil=>intro _ z hz;cases hz
 |cons y ps ih =>
  intro h z hz;rw[nG];have h1:=h y (.head _)
  have h2:0<=bg ps:=by
   clear ih hz
   induction ps with
   |nil=>exact mn _
   |cons w ps jh =>
    rw[nG];have:=h w (.tail _ (.head _));have:=jh λv hv=>h v (by rcases jm.mp hv with e|e;exact e ▸ .head _;exact .tail _ (.tail _ e));omega
  rcases jm.mp hz with rfl|hz
  .omega
  .have:=ih (λv hv=>h v (.tail _ hv)) z hz;omega
section
variable{fo du:bx}{s:Hs}{cs:List Nat}{day:Int}{ps:List ((Int×Int)×(Int×Int))}{F:eF}{ex:aN->aV}
structure zC(A:aU)(x y g:Nat)(fo du:bx)(ls:List i5)(cs:List Nat)(day:Int)(ps:List ((Int×Int)×(Int×Int)))(hs:bx)(s:Hs)(k:Nat)(G:Gp):Prop where
 o:HO A x y g 60 s G
 eh:s.h=hs
 el:s.ls=ls
 n:s.n<=50+2*k
 r:s.rs.length<=25+k
 l:s.ls.length<=25
 hf:G fo=aj (.lst (ps.map (cn ls)))
 hu:G du=aj (.lst (ps.map (cn ls)))
 nf:fo∉s.ow
 nu:du∉s.ow
 pc:iN s.M s.c ls cs day (ps.drop k)
def aR7{k:Nat}(hw:fC cs=ak)(hk:k<=2)(w:zC A x y g fo du ls cs day ps hs s k G)(ek:ps.drop k=ps.drop 2)(ha:G ag=aj (.lst ((ps.drop 2).map (cn ls))))(h:∀G',F.rt (.bl ak) G') :
  Kd K A ex F [aj (.ref a),aj (.ref hs),r2,aj (.str ⟨cs.toArray⟩),r4,aj (.int day),r6,r7,aj (.ref fo),r9,aj (.ref du),gS,gN,gL,gI,gE,aj (.ref ag)] G:=by
 have hn:=w.n;exists Kd;rw[pZ (bH w.hf) (bH w.hu) v7 v7,FH];symm;rw[Tc (bH w.hu),aKL];intro l fl;have l1:Le G (aM G l (.lst ((ps.map (cn ls)).drop 2))):=.new fl;have g1:aM G l (.lst ((ps.map (cn ls)).drop 2)) l=aj (.lst ((ps.drop 2).map (cn ls))):=by rw[aJ,List.map_drop]
 generalize aM G l _=G1 at l1 g1 ⊢;rw[pZ (bH (l1 _ _ ha)) (bH g1) v7 v7,FH];symm;have o1:=w.o.le l1;rw[←w.eh];refine SD o1 ⋯ (by decide) λrr qs G2 l2 f2 g2 i2=>?_;rw[w.el]at g2 i2;have e:=i2.eq w.pc;rw[e,ek]at g2;rw[pZ (bH (l2 _ _ (l1 _ _ ha))) (bH g2) v7 v7,FH];exact h _
end
def HK.keep{s s':Hs}(k:HK s s' G G')(n:q∉s.ow)(e:G q=aj u):q∉s'.ow/\G' q=aj u:=⟨λm=>(k.w q m).elim n λz=>(by rw[z]at e;cases e),k.k q u n e⟩
section
variable{cs:List Nat}{day:Int}{ls:List i5}{ps:List ((Int×Int)×(Int×Int))}{F:eF}{ex:aN->aV}{k:Nat}
def zC.le(w:zC A x y g fo du ls cs day ps hs s k G)(l:Le G G'):zC A x y g fo du ls cs day ps hs s k G':=⟨w.o.le l,w.eh,w.el,w.n,w.r,w.l,l _ _ w.hf,l _ _ w.hu,w.nf,w.nu,w.pc⟩
def aR8(hw:fC cs=ak)(hd:0<=day/\day<=9999)(hk:k<=2)(w:zC A x y g fo du ls cs day ps hs s k G)(ek:ps.drop k=ps.drop 2)(h:∀G',F.rt (.bl ak) G') :
  Kc K A ex F [aj (.ref a),aj (.ref hs),r2,aj (.str ⟨cs.toArray⟩),r4,aj (.int day),r6,r7,aj (.ref fo),r9,aj (.ref du),gS,gN,gL,gI,gE,kK] G:=by
 have hn:=w.n;exists Kc;rw[←w.eh];refine Px w.o ⋯ (by decide) hw hd λag qs G2 l2 f2 g2 i2=>?_;rw[w.el]at g2 i2;rw[i2.eq w.pc,ek]at g2;symm;rw[w.eh];exact aR7 hw hk (w.le l2) ek g2 h
def aR9(hw:fC cs=ak)(hd:0<=day/\day<=9999)(w:zC A x y g fo du ls cs day ps hs s 0 G)(h:∀G',F.rt (.bl ak) G') :
  Kb K A ex F [aj (.ref a),aj (.ref hs),r2,aj (.str ⟨cs.toArray⟩),r4,aj (.int day),r6,r7,aj (.ref fo),r9,aj (.ref du),gS,gN,gL,gI,gE,kK] G:=by
 exists Kb;rw[Tc (bH w.hu),aKK];intro l fl;have l1:Le G (aM G l (.lst ((ps.map (cn ls)).take 2))):=.new fl;have g1:aM G l (.lst ((ps.map (cn ls)).take 2)) l=aj (.lst ((ps.map (cn ls)).take 2)):=aJ
 have nl:l∉s.ow:=λm=>by
  have:l=s.h∨l=s.st∨l=s.kn∨l=s.dn∨l∈s.M.map (·.2):=by simpa[Hs.ow]using m
  rcases this with e|e|e|e|m
  .rw[e,w.o.hh]at fl;cases fl
  .rw[e,w.o.S.st]at fl;cases fl
  .rw[e,w.o.hk]at fl;cases fl
  .rw[e,w.o.hd]at fl;cases fl
  .obtain⟨z,hz,e⟩:=jw.mp m;rw[←e,w.o.S.ins z hz]at fl;cases fl
 have w1:=w.le l1;clear w;generalize aM G l _=G1 at l1 g1 w1 ⊢;rw[GD (bH g1)];refine Gn (λk ρ G'=>∃s gS gN gL gI gE,ρ=[aj (.ref a),aj (.ref hs),r2,aj (.str ⟨cs.toArray⟩),r4,aj (.int day),r6,r7,aj (.ref fo),r9,aj (.ref du),gS,gN,gL,gI,gE,kK]/\zC A x y g fo du ls cs day ps hs s k G'/\G' l=aj (.lst ((ps.map (cn ls)).take 2))/\l∉s.ow) ⟨s,_,_,_,_,_,rfl,w1,g1,nl⟩ (λk ρ G' z=>?_) (λk d ρ G' qv z=>?_) λρ G' z=>?_
 .obtain⟨_,_,_,_,_,_,_,_,z,_⟩:=z;exact bH z
 .obtain⟨s,gS,gN,gL,gI,gE,rfl,w,gl,nl⟩:=z;let⟨lk,e0⟩:=iz.mp qv;rw[wu,gw]at lk;have lp:k<ps.length:=by omega
  have e1:d=cn ls ps[k]:=by rw[←e0];simp
  have ed:ps.drop k=ps[k]::ps.drop (k+1):=List.drop_eq_getElem_cons lp;generalize ps[k]=z at e1 ed;subst e1;have hn:=w.n;have hr:=w.r;have hl:=w.l;have pc:=w.pc;rw[ed]at pc;have mz:=((pc.2 z).mp (.head _)).1;have vz:=(FI w.o.v (by decide) (q:=z.1) (l:=z.2.1) (w:=z.2.2)).mp mz;let⟨b1,b2⟩:=w.o.lk z.1 z.2.1 z.2.2 mz;let⟨_,q2,q3,_⟩:=rQ (k:=kq z.1) (by decide) w.o.v;have b3:=aR5 q2 z.2 mz;unfold cn;rw[Fw rfl];exists QC;rw[←w.eh];refine⟨by rw[cF w.o.hh (m:="go") rfl];trivial,?_⟩;refine Sd w.o b1 ⋯ b2 ⟨vz.1,⋯⟩ ⋯ (by decide) ⋯ (λe=>absurd e (by rw[vz.2];omega)) λ_ s' G2 o2 k2 e1 e2 e3 e4 dl=>?_;symm;rw[w.eh];let⟨n1,g1⟩:=k2.keep w.nf w.hf;let⟨n2,g2⟩:=k2.keep w.nu w.hu;let⟨n3,g3⟩:=k2.keep nl gl;exact⟨s',_,_,_,_,_,rfl,⟨o2,k2.h.trans w.eh,e2.trans w.el,⋯,⋯,by rw[e2];exact hl,g1,g2,n1,n2,pc.left w.o.v o2.v (by decide) dl⟩,g3,n3⟩
 .obtain⟨s,gS,gN,gL,gI,gE,rfl,w,_,_⟩:=z
  have ek:ps.drop ((ps.map (cn ls)).take 2).length=ps.drop 2:=by
   rw[wu,gw];by_cases c:2<=ps.length
   .rw[zh c]
   .rw[Nat.min_eq_right ⋯,List.drop_of_length_le (fj _),List.drop_of_length_le ⋯]
  refine aR8 hw hd ?_ w ek h;rw[wu];omega
end
def aRA(ha:∀c∈cs,c<128):xE ((cs.filter λc=>!qi c).map qa) []=cs.all fF:=by
 have e3:cs.all fF=(cs.filter λc=>!qi c).isEmpty:=by
  rw[Bool.eq_iff_iff,jq,List.isEmpty_iff,List.filter_eq_nil_iff];constructor
  .intro a c m z;rw[SF c (ha c m),a c m]at z;cases z
  .intro a c m;have:=a c m;rw[SF c (ha c m)]at this;simpa using this
 rw[e3];cases(cs.filter λc=>!qi c)<;>rfl
section
variable{cs:List Nat}{F:eF}{ex:aN->aV}
def good_str(hl:cs.length<=1000)(ha:∀c∈cs,c<128)(h:∀G',Le G G'->tD K A ex F [r0,r1,r2,aj (.str ⟨cs.toArray⟩),r4,r5,r6,r7,r8,aj (.bl (fC cs)),qf,gS,gN,gL,gI,gE,kK] G') :
  BJ K A ex F [r0,r1,r2,aj (.str ⟨cs.toArray⟩),r4,r5,r6,r7,r8,r9,qf,gS,gN,gL,gI,gE,kK] G:=by
 have big:10000<dh:=by decide
 have IA:(⟨cs.toArray⟩:Str).length=cs.length:=str_len;exists BJ;refine⟨⋯,?_⟩;rw[IA];by_cases c1:(1:Int)<=(cs.length:Int)
 .simp only[c1,decide_true,if_true];symm;refine⟨⋯,?_⟩;by_cases c2:(cs.length:Int)<=12
  .simp only[c2,decide_true,if_true];exists wM;refine OQ (λd=>match d with|.str z=>!z.cps.toList.all qi|_=>ao) id ?_ trivial (λd hd G' l Q hQ=>?_) (λd hd _ G' l Q hQ=>?_) λp hp=>?_
   .show(L2.signs _).length<_;rw[BD,gw];omega
   .have hd:d∈L2.signs _:=hd;rw[BD]at hd;let⟨c,hc,rfl⟩:=jw.mp hd;unfold qa at hQ ⊢;symm;have q:=hQ G' (.refl _);simp only[zx,List.all_nil,DC]at q;exact q
   .exact hQ G' (.refl _)
   .have e1:((L2.signs ⟨cs.toArray⟩).filter (λd=>match d with|D.str z=>!z.cps.toList.all qi|_=>ao)).map id=(cs.filter λc=>!qi c).map qa:=by
     rw[BD,List.map_id,List.filter_map];congr 1;apply List.filter_congr;intro c _;simp[qa]
    have j3:((Src.dq (L2.signs ⟨cs.toArray⟩)).items.filter (λd=>match d with|D.str z=>!z.cps.toList.all qi|_=>ao)).map id=(cs.filter λc=>!qi c).map qa:=e1;rw[j3];intro p2 ie;rw[pZ (bH (fG aJ ie)) fJ (by simp[bY,qa]) rfl,aRA ha];have xI:1<=cs.length:=by omega
    have xy:cs.length<=12:=by omega
    have:fC cs=cs.all fF:=by unfold fC;simp[xI,xy]
    rw[this]at h;exact h _ ((Le.new hp).trans (.new ie))
  .simp only[c2,decide_false];exists wM;have xy:¬ cs.length<=12:=by omega
   have:fC cs=ao:=by unfold fC;simp[xy]
   rw[this]at h;exact h _ (.refl _)
 .simp only[c1,decide_false];exists wM;have xI:¬ 1<=cs.length:=by omega
  have:fC cs=ao:=by unfold fC;simp[xI]
  rw[this]at h;exact h _ (.refl _)
end
section
variable{s:Hs}{cs:List Nat}{day:Int}{F:eF}{ex:aN->aV}
def aKM(o:HO A x y g room s G)(hn:s.n<64)(hr:0<=room)(hw:fC cs=ak)(hd:0<=day/\day<=9999)(h:∀rr ps G',Le G G'->G rr=au->G' rr=aj (.lst (ps.map (cn s.ls)))->iN s.M s.c s.ls cs day ps->R (.ref rr) G'):pK K A [.ref s.h,.str ⟨cs.toArray⟩,.int day] G R EX:=by
 refine⟨rfl,?_⟩;show sZ K A _ _ [aj (.ref s.h),aj (.str _),aj (.int day),au] G;exists sZ;exact Px o hn hr hw hd λrr ps G' l f g i=>bF.here (h rr ps G' l f g i)
def A7(o:HO A x y g room s G):s.rs.all (bY 20)=ak:=jq.mpr o.rk
def Ft(o:HO A x y g room s G)(Cd:G ro=aj (.lst s.rs))(h:∀G',F.rt (.bl ak) G') :
  tD K A ex F [r0,aj (.ref s.h),r2,r3,r4,r5,r6,aj (.ref ro),aj (.tup [.str "refused",.str "NoWare"]),aj (.bl ao),qf,gS,gN,gL,gI,gE,kK] G:=by
 exists tD;rw[Gu (n:=20) rfl];symm;refine⟨rfl,rfl,by rw[cF o.hh (m:="rows") rfl];trivial,?_⟩;refine CK o λr G1 l1 f1 g1=>?_;rw[pZ (bH g1) (bH (l1 _ _ Cd)) (A7 o) (A7 o),v9 (n:=20) o.rk];exact h _
abbrev Ii(d:D):Bool:=match d with
 |.int _=>ak
 |_=>ao
private theorem Pw(hd:kn G d)(h:R (.bl (Ii d)) G):rJ K A [d] G R EX:=by
 refine⟨rfl,?_⟩;replace h:=bF.here h;show uV K A _ _ [aj d] G;cases d
 case ref q=>exists uV,Rx hd;exact h
 case ty n=>simp[kn,gz]at hd
 all_goals exists uV
 all_goals exact h
private theorem aRB(o:HO A x y g room s G)(hk:kn G dd)(hb:cK dd 0 9999=ao)(Cd:G ro=aj (.lst s.rs))(h:∀G',F.rt (.bl ak) G') :
  tD K A ex F [r0,aj (.ref s.h),r2,r3,r4,aj dd,r6,aj (.ref ro),aj (.tup [.str "refused",.str "NoDay"]),aj (.bl ak),qf,gS,gN,gL,gI,gE,kK] G:=by
 have fin:∀ex,dN K A [.ref s.h] G (λx G1=>mJ x (.ref ro) G1 F.rt) ex:=λex=>CK o λr G1 l1 f1 g1=>by
  rw[pZ (bH g1) (bH (l1 _ _ Cd)) (A7 o) (A7 o),v9 (n:=20) o.rk];exact h _
 have Ah:∀ex,bY 20 (.tup [.str "refused",.str "NoDay"])=ak/\bY 20 (.tup [.str "refused",.str "NoDay"])=ak/\if a8 (.tup [.str "refused",.str "NoDay"]) (.tup [.str "refused",.str "NoDay"])=ak then A3 A.aC "rows" (.ref s.h) G/\dN K A (.ref s.h::([]++[])) G (λx G1=>mJ x (.ref ro) G1 F.rt) ex else F.rt (.bl ao) G:=λex=>by
  refine⟨rfl,rfl,?_⟩;rw[Gu (n:=20) rfl,if_pos rfl];exact⟨by rw[cF o.hh (m:="rows") rfl];trivial,fin _⟩
 exists tD;exists Ka;refine Pw hk ?_;cases dd
 case int i =>
  have e:i<0∨9999<i:=by simp[cK]at hb;omega
  rw[show Ii (.int i)=ak from rfl];symm;by_cases c:i<0
  .rw[decide_eq_true c];symm;exact Ah _
  .rw[decide_eq_false c];symm;rw[show decide (i>9999)=ak from decide_eq_true ⋯];symm;exact Ah _
 all_goals
  rw[Tx];exact Ah _
end
def HO.has{s:Hs}(o:HO A x y g room s G)(m:q∈s.ow):G q≠au:=λfl=>by
 have:q=s.h∨q=s.st∨q=s.kn∨q=s.dn∨q∈s.M.map (·.2):=by simpa[Hs.ow]using m
 rcases this with e|e|e|e|m
 .rw[e,o.hh]at fl;cases fl
 .rw[e,o.S.st]at fl;cases fl
 .rw[e,o.hk]at fl;cases fl
 .rw[e,o.hd]at fl;cases fl
 .obtain⟨z,hz,e⟩:=jw.mp m;rw[←e,o.S.ins z hz]at fl;cases fl
section
variable{s:Hs}{cs:List Nat}{day:Int}{F:eF}{ex:aN->aV}{ps:List ((Int×Int)×(Int×Int))}
def aRC(o:HO A x y g 60 s G)(hn:s.n<=50)(hl:s.ls.length<=25)(hr:s.rs.length<=25)(hw:fC cs=ak)(hd:0<=day/\day<=9999)(Cd:G ro=aj (.lst s.rs))(IC:G fo=aj (.lst (ps.map (cn s.ls))))(Wz:fo∉s.ow)(pc:iN s.M s.c s.ls cs day ps)(h:∀G',F.rt (.bl ak) G') :
  tD K A ex F [aj (.ref a),aj (.ref s.h),r2,aj (.str ⟨cs.toArray⟩),r4,aj (.int day),r6,aj (.ref ro),aj (.ref fo),aj (.bl ak),qf,gS,gN,gL,gI,gE,kK] G:=by
 exists tD;exists Ka;refine Pw rfl ?_;rw[show Ii (.int day)=ak from rfl];symm;rw[show decide (day<0)=ao from decide_eq_false ⋯];symm;rw[show decide (day>9999)=ao from decide_eq_false ⋯];exists PJ;refine SD o ⋯ (by decide) λdu qs G1 l1 f1 g1 i1=>?_;obtain rfl:=i1.eq pc;have o1:=o.le l1;exists PK;rw[Fx (T:="list") (by show(match G1 fo with|some (.lst _)=>aj "list"|some (.fc _)=>aj "list"|some (.cX _ _)=>aj "dict"|_=>au)=aj "list";rw[l1 _ _ IC]) (by decide)];rw[show L2.subB "list" "list"=ak from rfl];symm;rw[Rw (bH (l1 _ _ IC)) (bH g1) v7 v7,FH];symm;refine⟨by rw[cF o1.hh (m:="rows") rfl];trivial,?_⟩;refine CK o1 λr G2 l2 f2 g2=>?_;rw[Rw (bH g2) (bH (l2 _ _ (l1 _ _ Cd))) (A7 o) (A7 o),v9 (n:=20) o.rk];symm;exact aR9 hw hd ⟨o1.le l2,rfl,rfl,⋯,⋯,hl,l2 _ _ (l1 _ _ IC),l2 _ _ g1,Wz,λm=>o.has m f1,pc⟩ h
end
section
variable{s:Hs}{cs:List Nat}{F:eF}{ex:aN->aV}
def Qy(h1:∀R' eP,eP A.d9 G->eZ K A [dw] G R' eP):∀R' eP,eP A.d9 G->f9 K A [.ref hs,dw,dd] G R' eP:=λR' eP h=>by
 refine⟨rfl,?_⟩;show jY K A _ _ [aj (.ref hs),aj dw,aj dd,au,au,au,au,au,au] G;exists jY;exact h1 _ _ (m8.here h)
def aEX(hw:fC cs=ak)(hk:kn G dd)(hb:cK dd 0 9999=ao):∀R' eP,eP A.eY G->f9 K A [.ref hs,.str ⟨cs.toArray⟩,dd] G R' eP:=λR' eP h=>by
 refine⟨rfl,?_⟩;show jY K A _ _ [aj (.ref hs),aj (.str _),aj dd,au,au,au,au,au,au] G;exists jY;refine KA hw ?_;exists yS;exact Q9 hk (λ_=>m8.here h) λe=>by rw[hb]at e;cases e
abbrev Sb(d:D):Prop:=d=.ae∨d=.int 7∨d=.bl ak
def aEY(T:Txt K mg A)(o:HO A x y g 60 s G)(hn:s.n<=50)(hl:s.ls.length<=25)(hr:s.rs.length<=25)(cl:cs.length<=1000)(ca:∀c∈cs,c<128)(hk:kn G dd)(kl:∀G',Le G G'->kn G' dd)(h:∀G',F.rt (.bl ak) G') :
  Bj K A ex F [aj (.ref a),aj (.ref s.h),r2,aj (.str ⟨cs.toArray⟩),r4,aj dd,r6,r7,r8,r9,qf,gS,gN,gL,gI,gE,kK] G:=by
 exists Bj;refine⟨by rw[cF o.hh (m:="rows") rfl];trivial,?_⟩;refine CK o λro G1 l1 f1 g1=>?_;have o1:=o.le l1;exists J9;cases hw:fC cs with
 |false =>
  refine Jp T (bw:=true) (bd:=false) T.PH T.vG T.fV T.iD rfl T.cY (Qy λR' eP h=>RH cl (λ_=>h) λe=>by rw[hw]at e;cases e) λG2 l2=>?_;symm;refine good_str cl ca λG3 l3=>?_;rw[hw];exact Ft ((o1.le l2).le l3) (l3 _ _ (l2 _ _ g1)) h
 |true =>
  cases hb:cK dd 0 9999 with
  |false =>
   refine Jp T (bw:=false) (bd:=true) T.aK4 T.Dt T.lD T.nA rfl T.fP (aEX hw (kl _ l1) hb) λG2 l2=>?_;symm;refine good_str cl ca λG3 l3=>?_;rw[hw];exact aRB ((o1.le l2).le l3) (kl _ (l1.trans (l2.trans l3))) hb (l3 _ _ (l2 _ _ g1)) h
  |true =>
   obtain⟨i,rfl,hi⟩:∃i,dd=.int i/\0<=i/\i<=9999:=by
    cases dd with
    |int i=>exact⟨i,rfl,by simpa[cK]using hb⟩
    |_=>cases hb
   refine aKM o1 ⋯ (by decide) hw hi λfo ps G2 l2 f2 g2 i2=>?_;symm;refine good_str cl ca λG3 l3=>?_;rw[hw];exact aRC ((o1.le l2).le l3) hn hl hr hw hi (l3 _ _ (l2 _ _ g1)) (l3 _ _ g2) (λm=>o1.has m f2) i2 h
def aKN(T:Txt K mg A)(o:HO A x y g 60 s G)(hx:Sb dw)(h:∀G',F.rt (.bl ak) G') :
  Bj K A ex F [aj (.ref a),aj (.ref s.h),r2,aj dw,r4,aj dd,r6,r7,r8,r9,qf,gS,gN,gL,gI,gE,kK] G:=by
 exists Bj;refine⟨by rw[cF o.hh (m:="rows") rfl];trivial,?_⟩;refine CK o λro G1 l1 f1 g1=>?_;have o1:=o.le l1;exists J9;have kd:kn G1 dw:=by rcases hx with rfl|rfl|rfl<;>rfl
 have nz:∀z,dw≠.str z:=λz e=>by rcases hx with rfl|rfl|rfl<;>cases e
 refine Jp T (bw:=true) (bd:=false) T.PH T.vG T.fV T.iD rfl T.cY (Qy λR' eP h=>agK kd nz h) λG2 l2=>?_;symm;rcases hx with rfl|rfl|rfl
 .exists BJ;exists wM;exact Ft (o1.le l2) (l2 _ _ g1) h
 .exists BJ;exists wM;exact Ft (o1.le l2) (l2 _ _ g1) h
 .exists BJ;exists wM;exact Ft (o1.le l2) (l2 _ _ g1) h
end
section
variable{s:Hs}{cs:List Nat}{dw:D}{F:eF}{ex:aN->aV}
abbrev Wd(dw:D):Prop:=(∃cs:List Nat,dw=.str ⟨cs.toArray⟩/\cs.length<=1000/\∀c∈cs,c<128)∨Sb dw
def Wd.of{z:Str}(h:(decide (z.cps.toList.length<=1000)&&z.cps.toList.all (λc=>decide (c<128)))=ak):Wd (.str z):=by
 have h1:=(cg _ _).mp h;exact .inl ⟨z.cps.toList,by rw[←Tf],of_decide_eq_true h1.1,λc m=>of_decide_eq_true (jq.mp h1.2 c m)⟩
def Wd.M8(h:fC cs=ak):Wd (.str ⟨cs.toArray⟩):=by
 unfold fC at h;rw[cg,cg,jq]at h;refine .inl ⟨cs,rfl,?_,λc m=>?_⟩
 .have:=of_decide_eq_true h.2.1;omega
 .have:=h.2.2 c m;unfold fF at this;rw[cg]at this;have:=of_decide_eq_true this.2;omega
def nine(T:Txt K mg A)(o:HO A x y g 60 s G)(hn:s.n<=50)(hl:s.ls.length<=25)(hr:s.rs.length<=25)(hw:Wd dw)(kl:∀G',Le G G'->kn G' dd)(h:∀G',F.rt (.bl ak) G') :
  Bj K A ex F [aj (.ref a),aj (.ref s.h),r2,aj dw,r4,aj dd,r6,r7,r8,r9,qf,gS,gN,gL,gI,gE,kK] G:=by
 rcases hw with⟨cs,rfl,h1,h2⟩|hw
 .exact aEY T o hn hl hr h1 h2 (kl _ λ_ _ e=>e) kl h
 .exact aKN T o hw h
def xa(T:Txt K mg A)(o:HO A x y g 60 s G)(hn:s.n<=50)(hl:s.ls.length<=25)(hr:s.rs.length<=25)(hw:Wd dw){c:Int}(h:∀G',F.rt (.bl ak) G') :
  Jv K A ex F [aj (.ref a),aj (.ref s.h),r2,aj dw,aj (.int c),aj (.int i),r6,r7,r8,r9,qf,gS,gN,gL,gI,gE,kK] G:=by
 exists Jv;refine oW (λ_=>?_) λ_=>?_
 .exists Rb;intro q hq p hp;refine CM fJ ⋯ (by show c / 8%8<8;omega) λd hd=>?_;have l1:Le G (aM G q (.lst [.int 0])):=.new hq;have g1:aM G q (.lst [.int 0]) q=aj (.lst [.int 0]):=aJ;have l2:=Le.new hp (o:=.lst [.int (0 - 1),.int 10000,.bl ak,.ae,.str "1",.int (0 - 2 - c / 64%1000),.int (10001+c / 64%1000),.ref q]);refine nine T ((o.le l1).le l2) hn hl hr hw (λG' l=>?_) h;simp only[jm,DL,or_false]at hd;rcases hd with rfl|rfl|rfl|rfl|rfl|rfl|rfl|rfl
  .rfl
  .rfl
  .rfl
  .rfl
  .rfl
  .rfl
  .rfl
  .exact aQA (l _ _ (l2 _ _ g1))
 .symm;exact nine T o hn hl hr hw (λ_ _=>rfl) h
def D6(T:Txt K mg A)(L:sC A a ns x y g s.h s 25 G)(hw:Wd dw)(h:∀G',F.rt (.bl ak) G') :
  Ju K A ex F [aj (.ref a),aj (.ref s.h),r2,aj dw,r4,r5,r6,r7,r8,r9,qf,gS,gN,gL,gI,gE,kK] G:=by
 have o:=L.o;have hn:=L.n;have hl:=L.l;have hr:=L.r;exists Ju;refine CL (k:=3) L.hG (by decide) ?_;exists OG;refine⟨by rw[cF o.hh (m:="today") rfl];trivial,?_⟩;refine Ow o ?_;exists OH,SO;refine oW (λ_=>?_) λ_=>?_
 .symm;exact xa T o ⋯ hl hr hw h
 .symm;exact xa T o ⋯ hl hr hw h
end
def main(T:Txt K mg A)(a:bx)(ns:List Int)(hl:ns.length<=63)(G:Gp)(hG:G a=aj (.fc (ns.map D.int))):IX K A [.ref a] G (λd _=>d=.bl ak) (λ_ _=>False):=by
 refine⟨rfl,?_⟩;have hR:∀G':Gp,bF (λd _=>d=.bl ak) (.bl ak) G':=λG'=>bF.here (R:=λd _=>d=.bl ak) rfl;show Ly K A _ _ [aj (.ref a),au,au,au,au,au,au,au,au,au,au,au,au,au,au,au,au] G;exists Ly;refine aEV T hG λx y g s G1 L=>?_;exists OD;refine CL (k:=2) L.hG (by decide) ?_;exists OE;refine Ou λcs hw=>?_;exists OF;generalize cellAt ns 2=c;refine oW (λ_=>?_) λ_=>?_
 .rw[aQN];refine⟨by unfold MulOk;decide+kernel,?_⟩;symm;intro p hp;refine CM fJ ⋯ (by show c / 32%8<8;omega) λd hd=>?_;refine D6 T ⟨(Le.new hp) _ _ L.hG,L.o.le (.new hp),L.eh,L.d,L.n,L.l,L.r⟩ ?_ λG2=>hR G2;simp only[jm,DL,or_false]at hd;rcases hd with rfl|rfl|rfl|rfl|rfl|rfl|rfl|rfl
  .exact .of (by decide+kernel)
  .exact .of (by decide+kernel)
  .exact .of (by decide+kernel)
  .exact .of (by decide+kernel)
  .exact .inr (.inl rfl)
  .exact .inr (.inr (.inl rfl))
  .exact .inr (.inr (.inr rfl))
  .exact .of (by decide+kernel)
 .symm;exact D6 T L (.M8 hw) λG2=>hR G2
end
end Law
namespace Law
open PySem PySem.Spec PyProof.Rows L2 L4
variable{qt:Bool}{x:Str}{st:jo}{f c:bx}{ps:List Str}
section
variable{P:lg}{w:ji}{K:Fg}{mg:Str->Option bh}{base:kh}{A:aU}
local macro_rules| `(tactic| walk_at "sc")=>`(tactic| exact⟨rfl,rfl,rfl,by decide+kernel,rfl,by decide+kernel,by decide+kernel⟩)
def oO{j k:Nat}{d:jf}{sp:lJ}{n:Nat}(h:bQ qt P w K mg base (iH P w) j f d ps (bV K sp))(t:df K mg x st f d ps)(hj:j<=k:=by decide):DY P w K mg base k x (.fn sp n qt):=⟨_,_,_,h.mono hj,t.m,t.F.kp,t.B⟩
def ll.g{k:Nat}(t:ll K mg x c):DY P w K mg base k x (.cls c):=⟨t.m,t.x,t.cs,t.ty,t.be⟩
def dc{qual:Str}{fd:jf}{k:Nat}{S:SI}{c:CB}{tb:aV->bB}(F:bE K x qual st f fd)(hS:aO S.N ps (bI st))(hc:S.calm=!qt)(hv:AZ S (bI st)=ak)(hk:kB S 0 c (cN st)=ak)(he:(λEX=>mB S.gl K (λ_=>EX) c)=tb)(hg:∀(j:Nat)(y:Str)(g:GT),S.gl[j]?=aj (y,g)->DY P w K mg base k y g):bQ qt P w K mg base (iH P w) (k+1) f fd ps (bV K (pW S.N.length ps.length tb)):=by
 rw[←he];exact aDE F hS hc hv hk hg
def Gg(T:Txt K mg A):bQ ao P w K mg base (iH P w) 1 A.OI A.FL ["k"] (bV K (pJ K A)) :=
 dc (S:=aK2 K A) (c:=aK1) T.uX.F (show aO ["k"] ["k"] _ from by walk_at "sc") rfl (by nofun) (by nofun) (by nofun) sE
def tL(T:Txt K mg A):bQ ao P w K mg base (iH P w) 1 A.Rm A.Hr ["thing","least","most"] (bV K (cI K A)) :=
 dc (S:=Zg K A) (c:=Zh) T.gA.F (show aO ["thing","least","most"] ["thing","least","most"] _ from by walk_at "sc") rfl (by nofun) (by nofun) (by nofun) (bG ⟨T.Lx,Jg⟩ (bG ⟨T.iR,fX⟩ (bG ⟨T.Tn,Pf⟩ sE)))
def YV(T:Txt K mg A):bQ ao P w K mg base (iH P w) 2 A.QF A.GC ["thing","aisles","first","last"] (bV K (Hf K A)) :=
 dc (S:=XT K A) (c:=XU) T.vB.F (show aO ["thing","aisles","first","last"] ["thing","aisles","first","last"] _ from by walk_at "sc") rfl (by nofun) (by nofun) (by nofun) (bG ⟨T.OB,Ql⟩ (bG ⟨T.iR,fX⟩ (bG ⟨T.ph,yN⟩ (bG (oO (tL T) T.gA) sE))))
def YU(T:Txt K mg A):bQ ao P w K mg base (iH P w) 1 A.QE A.GB ["thing"] (bV K (vW K A)) :=
 dc (S:=XR K A) (c:=XS) T.vC.F (show aO ["thing"] ["thing"] _ from by walk_at "sc") rfl (by nofun) (by nofun) (by nofun) (bG ⟨T.SG,T2⟩ (bG ⟨T.iR,fX⟩ (bG ⟨T.ph,yN⟩ (bG (j1 T.lE) (bG ⟨T.aVO,aO7⟩ sE)))))
def XG(T:Txt K mg A):bQ ao P w K mg base (iH P w) 2 A.PN A.Gm ["thing"] (bV K (Gz K A)) :=
 dc (S:=aE2 K A) (c:=aE1) T.BI.F (show aO ["thing"] ["thing"] _ from by walk_at "sc") rfl (by nofun) (by nofun) (by nofun) (bG (j1 T.qQ) (bG (oO (tL T) T.gA) sE))
def amR(T:Txt K mg A):bQ ao P w K mg base (iH P w) 2 A.RU A.xM ["thing"] (bV K (uU K A)) :=
 dc (S:=L' K A) (c:=N') T.oG.F (show aO ["thing"] ["thing"] _ from by walk_at "sc") rfl (by nofun) (by nofun) (by nofun) (bG (j1 T.nF) (bG (oO (tL T) T.gA) sE))
def YT(T:Txt K mg A):bQ ao P w K mg base (iH P w) 2 A.QD A.GA ["thing"] (bV K (He K A)) :=
 dc (S:=XO K A) (c:=XQ) T.vD.F (show aO ["thing"] ["thing"] _ from by walk_at "sc") rfl (by nofun) (by nofun) (by nofun) (bG ⟨T.OB,Ql⟩ (bG ⟨T.iR,fX⟩ (bG ⟨T.ph,yN⟩ (bG (j1 T.nC) (bG (oO (tL T) T.gA) (bG (j1 T.nD) (bG (j1 T.wX) sE)))))))
def Uk(T:Txt K mg A):bQ ao P w K mg base (iH P w) 3 A.RT A.xO ["plan"] (bV K (iQ K A)) :=
 dc (S:=J' K A) (c:=K') T.kW.F (show aO ["plan"] ["plan"] _ from by walk_at "sc") rfl (by nofun) (by nofun) (by nofun) (bG (oO (YT T) T.vD) (bG T.Du.g sE))
def XF(T:Txt K mg A):bQ ao P w K mg base (iH P w) 4 A.PM A.Gk ["plan","thing"] (bV K (Gy K A)) :=
 dc (S:=aE4 K A) (c:=aE3) T.BH.F (show aO ["plan","thing"] ["plan","thing"] _ from by walk_at "sc") rfl (by nofun) (by nofun) (by nofun) (bG (oO (Uk T) T.kW) (bG (oO (YV T) T.vB) sE))
def Uj(T:Txt K mg A):bQ ao P w K mg base (iH P w) 2 A.RS A.xP ["thing"] (bV K (eZ K A)) :=
 dc (S:=B' K A) (c:=D') T.kY.F (show aO ["thing"] ["thing"] _ from by walk_at "sc") rfl (by nofun) (by nofun) (by nofun) (bG (oO (YU T) T.vC) (bG T.tG.g sE))
def RG(T:Txt K mg A):bQ ao P w K mg base (iH P w) 3 A.Rl A.Hq ["thing"] (bV K (jX K A)) :=
 dc (S:=Ze K A) (c:=Zf) T.nU.F (show aO ["thing"] ["thing"] _ from by walk_at "sc") rfl (by nofun) (by nofun) (by nofun) (bG (oO (XG T) T.BI) (bG T.rO.g sE))
def iI(T:Txt K mg A):bQ ao P w K mg base (iH P w) 2 A.Rk A.Ho ["thing","lots"] (bV K (bK K A)) :=
 dc (S:=Zc K A) (c:=Zd) T.dF.F (show aO ["thing","lots"] ["thing","lots"] _ from by walk_at "sc") rfl (by nofun) (by nofun) (by nofun) (bG (oO (tL T) T.gA) (bG T.Bi.g sE))
def iJ(T:Txt K mg A):bQ ao P w K mg base (iH P w) 5 A.Rj A.Hn ["plan","thing"] (bV K (bL K A)) :=
 dc (S:=Za K A) (c:=Zb) T.dG.F (show aO ["plan","thing"] ["plan","thing"] _ from by walk_at "sc") rfl (by nofun) (by nofun) (by nofun) (bG (oO (XF T) T.BH) (bG T.De.g sE))
def iG(T:Txt K mg A):bQ ao P w K mg base (iH P w) 3 A.U1 A.rE ["thing"] (bV K (bJ K A)) :=
 dc (S:=ai4 K A) (c:=ai3) T.cQ.F (show aO ["thing"] ["thing"] _ from by walk_at "sc") rfl (by nofun) (by nofun) (by nofun) (bG (oO (amR T) T.oG) (bG T.wW.g sE))
def UK(T:Txt K mg A):bQ ao P w K mg base (iH P w) 1 A.oY A.oZ ["self"] (bV K (jD K A)) :=
 dc (S:=alW K A) (c:=alV) T.MS (show aO ["self"] ["self"] _ from by walk_at "sc") rfl (by nofun) (by nofun) (by nofun) (bG ⟨T.bA,T.iC⟩ (bG ⟨T.Fv,FT⟩ sE))
def ZZ(T:Txt K mg A):bQ ao P w K mg base (iH P w) 1 A.Ri A.Hm ["stacks"] (bV K (Mp K A)) :=
 dc (S:=Y8 K A) (c:=Y9) T.qH.F (show aO ["stacks","told","spot"] ["stacks"] _ from by walk_at "sc") rfl (by nofun) (by nofun) (by nofun) (bG ⟨T.Ds,zM⟩ (bG ⟨T.Ds,zM⟩ (bG ⟨T.aQO,aHN⟩ sE)))
def ab5(T:Txt K mg A):bQ ao P w K mg base (iH P w) 2 A.j4 A.j5 ["self"] (bV K (lO K A)) :=
 dc (S:=acU K A) (c:=acT) T.tX (show aO ["self"] ["self"] _ from by walk_at "sc") rfl (by nofun) (by nofun) (by nofun) (bG ⟨T.aZ,T.cC⟩ (bG (oO (ZZ T) T.qH) sE))
def U8(T:Txt K mg A):bQ ao P w K mg base (iH P w) 3 A.mR A.mU ["self"] (bV K (gY K A)) :=
 dc (S:=ai6 K A) (c:=ai5) T.yX (show aO ["self"] ["self"] _ from by walk_at "sc") rfl (by nofun) (by nofun) (by nofun) (bG ⟨T.bA,T.dH⟩ (bG (⟨_,_,_,[],[],T.aZ,T.ad2,(ab5 T).mono (by decide),T.tY,.nil,λ_=>.nil⟩) sE))
def Ui(T:Txt K mg A):bQ ao P w K mg base (iH P w) 4 A.RQ A.xQ ["house","ware","day"] (bV K (f9 K A)) :=
 dc (S:=Z8 K A) (c:=Z9) T.kZ.F (show aO ["house","ware","day","lots","pieces","spot","held","lot","amount"] ["house","ware","day"] _ from by walk_at "sc") rfl (by nofun) (by nofun) (by nofun) (bG (oO (Uj T) T.kY) (bG (oO (RG T) T.nU) (bG (⟨_,_,_,[],[],T.bA,T.Uo,(UK T).mono (by decide),T.uY,.nil,λ_=>.nil⟩) (bG (⟨_,_,_,[],[],T.bA,T.UN,(U8 T).mono (by decide),T.rM,.nil,λ_=>.nil⟩) sE))))
def Kz(T:Txt K mg A):bQ ao P w K mg base (iH P w) 1 A.PL A.Gj ["stacks","spot","lot","more"] (bV K (fD K A)) :=
 dc (S:=aE6 K A) (c:=aE5) T.tE.F (show aO ["stacks","spot","lot","more","held"] ["stacks","spot","lot","more"] _ from by walk_at "sc") rfl (by nofun) (by nofun) (by nofun) (bG ⟨T.ph,yN⟩ sE)
def a5V(T:Txt K mg A):bQ ao P w K mg base (iH P w) 4 A.bU A.iM ["self","plan","room"] (bV K (gC K A)) :=
 dc (S:=a7D K A) (c:=fO) T.a7L (show aO ["self","plan","room"] ["self","plan","room"] _ from by walk_at "sc") rfl (by nofun) (by nofun) (by nofun) (bG (oO (Uk T) T.kW) (bG (oO (iG T) T.cQ) (bG ⟨T.aZ,T.cW⟩ (bG ⟨T.aZ,T.Vy⟩ (bG ⟨T.aZ,T.cC⟩ sE)))))
def a9P(T:Txt K mg A):bQ ao P w K mg base (iH P w) 6 A.gK A.gM ["self","spot"] (bV K (jH K A)) :=
 dc (S:=aaO K A) (c:=aaN) T.qI (show aO ["self","spot"] ["self","spot"] _ from by walk_at "sc") rfl (by nofun) (by nofun) (by nofun) (bG ⟨T.aZ,T.cW⟩ (bG (oO (iJ T) T.dG) (bG ⟨T.aVP,aO6⟩ (bG ⟨T.aZ,T.cC⟩ sE))))
def tM(T:Txt K mg A):bQ ao P w K mg base (iH P w) 7 A.eN A.eO ["self","spot","amount"] (bV K (cU K A)) :=
 dc (S:=a5T K A) (c:=a5S) T.mD (show aO ["self","spot","amount"] ["self","spot","amount"] _ from by walk_at "sc") rfl (by nofun) (by nofun) (by nofun) (bG (⟨_,_,_,[],[],T.aZ,T.aaZ,(a9P T).mono (by decide),T.qJ,.nil,λ_=>.nil⟩) (bG ⟨T.aZ,T.Vy⟩ (bG T.BG.g sE)))
def agN(T:Txt K mg A):bQ ao P w K mg base (iH P w) 8 A.mV A.mW ["self","lot","spot","amount"] (bV K (jZ K A)) :=
 dc (S:=ai8 K A) (c:=ai7) T.yZ (show aO ["self","lot","spot","amount"] ["self","lot","spot","amount"] _ from by walk_at "sc") rfl (by nofun) (by nofun) (by nofun) (bG (j1 T.fB) (bG (oO (iI T) T.dF) (bG ⟨T.aZ,T.cW⟩ (bG (oO (iJ T) T.dG) (bG (oO (iG T) T.cQ) (bG (⟨_,_,_,[],[],T.aZ,T.uJ,(tM T).mono (by decide),T.gF,.nil,λ_=>.nil⟩) (bG ⟨T.aZ,T.cC⟩ (bG (oO (Kz T) T.tE) sE))))))))
def yK(T:Txt K mg A):bQ ao P w K mg base (iH P w) 6 A.gO A.gP ["self","lot","spot"] (bV K (eE K A)) :=
 dc (S:=aaQ K A) (c:=aaP) T.qK (show aO ["self","lot","spot"] ["self","lot","spot"] _ from by walk_at "sc") rfl (by nofun) (by nofun) (by nofun) (bG (j1 T.fB) (bG (oO (iI T) T.dF) (bG ⟨T.aZ,T.cW⟩ (bG (oO (iJ T) T.dG) (bG ⟨T.aZ,T.cC⟩ sE)))))
def jG(T:Txt K mg A):bQ ao P w K mg base (iH P w) 7 A.dR A.dU ["self","lot","spot","amount"] (bV K (bO K A)) :=
 dc (S:=a3U K A) (c:=a3T) T.lA (show aO ["self","lot","spot","amount"] ["self","lot","spot","amount"] _ from by walk_at "sc") rfl (by nofun) (by nofun) (by nofun) (bG (⟨_,_,_,[],[],T.aZ,T.VJ,(yK T).mono (by decide),T.lV,.nil,λ_=>.nil⟩) (bG T.oK.g sE))
def ad5(T:Txt K mg A):bQ ao P w K mg base (iH P w) 8 A.jO A.jP ["self","lot","spot","amount"] (bV K (jA K A)) :=
 dc (S:=afS K A) (c:=afR) T.wN (show aO ["self","lot","spot","amount"] ["self","lot","spot","amount"] _ from by walk_at "sc") rfl (by nofun) (by nofun) (by nofun) (bG (j1 T.fB) (bG (oO (iI T) T.dF) (bG ⟨T.aZ,T.cW⟩ (bG (oO (iJ T) T.dG) (bG (oO (iG T) T.cQ) (bG (⟨_,_,_,[],[],T.aZ,T.lB,(jG T).mono (by decide),T.dX,.nil,λ_=>.nil⟩) (bG ⟨T.aZ,T.cC⟩ (bG (oO (Kz T) T.tE) sE))))))))
def ab7(T:Txt K mg A):bQ ao P w K mg base (iH P w) 8 A.j6 A.j7 ["self","lot","one","other","amount"] (bV K (lQ K A)) :=
 dc (S:=acW K A) (c:=acV) T.tZ (show aO ["self","lot","one","other","amount"] ["self","lot","one","other","amount"] _ from by walk_at "sc") rfl (by nofun) (by nofun) (by nofun) (bG (j1 T.fB) (bG (oO (iI T) T.dF) (bG ⟨T.aZ,T.cW⟩ (bG (oO (iJ T) T.dG) (bG (oO (iG T) T.cQ) (bG (⟨_,_,_,[],[],T.aZ,T.lB,(jG T).mono (by decide),T.dX,.nil,λ_=>.nil⟩) (bG (⟨_,_,_,[],[],T.aZ,T.uJ,(tM T).mono (by decide),T.gF,.nil,λ_=>.nil⟩) (bG ⟨T.aZ,T.cC⟩ (bG (oO (Kz T) T.tE) sE)))))))))
def aA0(T:Txt K mg A):bQ ao P w K mg base (iH P w) 6 A.jQ A.jR ["self","spot"] (bV K (acX K A)) :=
 dc (S:=afV K A) (c:=afU) T.wQ (show aO ["self","spot"] ["self","spot"] _ from by walk_at "sc") rfl (by nofun) (by nofun) (by nofun) (bG ⟨T.aZ,T.cW⟩ (bG (oO (iJ T) T.dG) (bG ⟨T.Ds,zM⟩ (bG ⟨T.aZ,T.cC⟩ sE))))
def axA(T:Txt K mg A):bQ ao P w K mg base (iH P w) 3 A.gQ A.gR ["self","lot"] (bV K (a97 K A)) :=
 dc (S:=aaU K A) (c:=aaT) T.qL (show aO ["self","lot"] ["self","lot"] _ from by walk_at "sc") rfl (by nofun) (by nofun) (by nofun) (bG (j1 T.fB) (bG (oO (iI T) T.dF) (bG ⟨T.aZ,T.cC⟩ (bG ⟨T.Ds,zM⟩ sE))))
def a9Q(T:Txt K mg A):bQ ao P w K mg base (iH P w) 6 A.cL A.lK ["self","plan","room"] (bV K (jJ K A)) :=
 dc (S:=aaV K A) (c:=gZ) T.ab0 (show aO ["self","plan","room"] ["self","plan","room"] _ from by walk_at "sc") rfl (by nofun) (by nofun) (by nofun) (bG (⟨_,_,_,_,[],[],rfl,T.Y1,(a5V T).mono (by decide),T.Y0,T.a7M,.nil,λ_=>.nil⟩) (bG ⟨T.bA,T.dH⟩ (bG ⟨T.bA,T.nJ⟩ (bG ⟨T.bA,T.uZ⟩ (bG ⟨T.bA,T.iC⟩ (bG ⟨T.bA,T.jE⟩ sE))))))
def aiN(T:Txt K mg A):bQ ao P w K mg base (iH P w) 9 A.p8 A.pA ["self","ware","due","spot","amount"] (bV K (rG K A)) :=
 dc (S:=alY K A) (c:=alX) T.MR (show aO ["self","ware","due","spot","amount","lot"] ["self","ware","due","spot","amount"] _ from by walk_at "sc") rfl (by nofun) (by nofun) (by nofun) (bG (oO (Uj T) T.kY) (bG (oO (RG T) T.nU) (bG ⟨T.bA,T.nJ⟩ (bG (oO (iJ T) T.dG) (bG (oO (iG T) T.cQ) (bG ⟨T.bA,T.uZ⟩ (bG T.rO.g (bG ⟨T.bA,T.iC⟩ (bG ⟨T.ph,yN⟩ (bG (j1 T.fB) (bG T.Bi.g (bG ⟨T.bA,T.dH⟩ (bG (⟨_,_,_,[],[],T.aZ,T.aiH,(agN T).mono (by decide),T.z6,.nil,λ_=>.nil⟩) (bG ⟨T.bA,T.jE⟩ sE))))))))))))))
def ab8(T:Txt K mg A):bQ ao P w K mg base (iH P w) 8 A.j8 A.j9 ["self","lot","spot","amount"] (bV K (lR K A)) :=
 dc (S:=acZ K A) (c:=acY) T.u5 (show aO ["self","lot","spot","amount"] ["self","lot","spot","amount"] _ from by walk_at "sc") rfl (by nofun) (by nofun) (by nofun) (bG ⟨T.bA,T.iC⟩ (bG ⟨T.ph,yN⟩ (bG (oO (iI T) T.dF) (bG ⟨T.bA,T.nJ⟩ (bG (oO (iJ T) T.dG) (bG (oO (iG T) T.cQ) (bG ⟨T.bA,T.dH⟩ (bG (⟨_,_,_,[],[],T.aZ,T.lB,(jG T).mono (by decide),T.dX,.nil,λ_=>.nil⟩) sE))))))))
def RF(T:Txt K mg A):bQ ao P w K mg base (iH P w) 9 A.vU A.vV ["self","lot","spot","amount"] (bV K (oE K A)) :=
 dc (S:=Y6 K A) (c:=Y7) T.Mc (show aO ["self","lot","spot","amount"] ["self","lot","spot","amount"] _ from by walk_at "sc") rfl (by nofun) (by nofun) (by nofun) (bG (⟨_,_,_,[],[],T.bA,T.ad4,(ab8 T).mono (by decide),T.u6,.nil,λ_=>.nil⟩) (bG ⟨T.bA,T.dH⟩ (bG (⟨_,_,_,[],[],T.aZ,T.agC,(ad5 T).mono (by decide),T.wO,.nil,λ_=>.nil⟩) (bG ⟨T.bA,T.jE⟩ sE))))
def aiO(T:Txt K mg A):bQ ao P w K mg base (iH P w) 9 A.pB A.pC ["self","lot","one","other","amount"] (bV K (rH K A)) :=
 dc (S:=am0 K A) (c:=alZ) T.MP (show aO ["self","lot","one","other","amount"] ["self","lot","one","other","amount"] _ from by walk_at "sc") rfl (by nofun) (by nofun) (by nofun) (bG ⟨T.bA,T.iC⟩ (bG ⟨T.ph,yN⟩ (bG (oO (iI T) T.dF) (bG ⟨T.bA,T.dH⟩ (bG (⟨_,_,_,[],[],T.aZ,T.ad3,(ab7 T).mono (by decide),T.u0,.nil,λ_=>.nil⟩) (bG ⟨T.bA,T.jE⟩ sE))))))
def arA(T:Txt K mg A):bQ ao P w K mg base (iH P w) 2 A.fL A.fM ["self","lot","spot","amount"] (bV K (a5U K A)) :=
 dc (S:=a7I K A) (c:=a7H) T.nW (show aO ["self","lot","spot","amount"] ["self","lot","spot","amount"] _ from by walk_at "sc") rfl (by nofun) (by nofun) (by nofun) (bG (oO (Gg T) T.uX) sE)
def aEZ(T:Txt K mg A):bQ ao P w K mg base (iH P w) 2 A.mX A.mY ["self","lot","spot","amount"] (bV K (afW K A)) :=
 dc (S:=aiB K A) (c:=aiA) T.z7 (show aO ["self","lot","spot","amount"] ["self","lot","spot","amount"] _ from by walk_at "sc") rfl (by nofun) (by nofun) (by nofun) (bG (oO (Gg T) T.uX) sE)
def a9R(T:Txt K mg A):bQ ao P w K mg base (iH P w) 1 A.gU A.gW ["self"] (bV K (jK K A)) :=
 dc (S:=aaX K A) (c:=aaW) T.qM (show aO ["self"] ["self"] _ from by walk_at "sc") rfl (by nofun) (by nofun) (by nofun) (bG ⟨T.bA,T.uZ⟩ (bG (j1 T.qQ) (bG T.rO.g (bG ⟨T.bA,T.jE⟩ sE))))
def aG8(T:Txt K mg A):bQ ao P w K mg base (iH P w) 1 A.pD A.pF ["self"] (bV K (aiC K A)) :=
 dc (S:=am3 K A) (c:=am2) T.MN (show aO ["self"] ["self"] _ from by walk_at "sc") rfl (by nofun) (by nofun) (by nofun) (bG ⟨T.bA,T.nJ⟩ sE)
def U7(T:Txt K mg A):bQ ao P w K mg base (iH P w) 1 A.mZ A.n6 ["self"] (bV K (iB K A)) :=
 dc (S:=aiE K A) (c:=aiD) T.z8 (show aO ["self"] ["self"] _ from by walk_at "sc") rfl (by nofun) (by nofun) (by nofun) (bG ⟨T.bA,T.uZ⟩ sE)
def aiP(T:Txt K mg A):bQ ao P w K mg base (iH P w) 1 A.pG A.pH ["self"] (bV K (dN K A)) :=
 dc (S:=am5 K A) (c:=am4) T.MM (show aO ["self"] ["self"] _ from by walk_at "sc") rfl (by nofun) (by nofun) (by nofun) (bG ⟨T.bA,T.jE⟩ (bG ⟨T.Fv,FT⟩ sE))
def aA1(T:Txt K mg A):bQ ao P w K mg base (iH P w) 7 A.jT A.jU ["self","lot","spot"] (bV K (ad0 K A)) :=
 dc (S:=afZ K A) (c:=afY) T.wU (show aO ["self","lot","spot"] ["self","lot","spot"] _ from by walk_at "sc") rfl (by nofun) (by nofun) (by nofun) (bG ⟨T.bA,T.iC⟩ (bG ⟨T.ph,yN⟩ (bG (oO (iI T) T.dF) (bG ⟨T.bA,T.dH⟩ (bG (⟨_,_,_,[],[],T.aZ,T.VJ,(yK T).mono (by decide),T.lV,.nil,λ_=>.nil⟩) sE)))))
def aF0(T:Txt K mg A):bQ ao P w K mg base (iH P w) 2 A.fZ A.rF ["self","ware","day"] (bV K (ag0 K A)) :=
 dc (S:=aiG K A) (c:=n8) T.aiI (show aO ["self","ware","day"] ["self","ware","day"] _ from by walk_at "sc") rfl (by nofun) (by nofun) (by nofun) (bG (oO (Gg T) T.uX) sE)
def aA2(T:Txt K mg A):bQ ao P w K mg base (iH P w) 2 A.jV A.jW ["self","lot","ware","day"] (bV K (ad1 K A)) :=
 dc (S:=ag3 K A) (c:=ag2) T.wV (show aO ["self","lot","ware","day"] ["self","lot","ware","day"] _ from by walk_at "sc") rfl (by nofun) (by nofun) (by nofun) (bG (oO (Gg T) T.uX) sE)
def u9(T:Txt K mg A):bQ ao P w K mg base (iH P w) 1 A.Vr A.pI ["_law_script","_law_k"] (bV K (cJ K A)) :=
 dc (S:=ag5 K A) (c:=ag4) T.dY.F (show aO ["_law_script","_law_k","_law_mixed"] ["_law_script","_law_k"] _ from by walk_at "sc") rfl (by nofun) (by nofun) (by nofun) (bG ⟨T.ph,yN⟩ sE)
def aiQ(T:Txt K mg A):bQ ao P w K mg base (iH P w) 1 A.UA A.uR ["_law_found"] (bV K (rJ K A)) :=
 dc (S:=am7 K A) (c:=am6) T.lW.F (show aO ["_law_found"] ["_law_found"] _ from by walk_at "sc") rfl (by nofun) (by nofun) (by nofun) (bG ⟨T.Lx,Jg⟩ (bG ⟨T.iR,fX⟩ (bG ⟨T.Tn,Pf⟩ sE)))
def Uh(T:Txt K mg A):bQ ao P w K mg base (iH P w) 1 A.RP A.xR ["_law_cell"] (bV K (lU K A)) :=
 dc (S:=Z6 K A) (c:=Z7) T.lC.F (show aO ["_law_cell","_law_some","_law_word","_law_k"] ["_law_cell"] _ from by walk_at "sc") rfl (by nofun) (by nofun) (by nofun) (bG ⟨T.OC,P0⟩ sE)
def amS(T:Txt K mg A):bQ ao P w K mg base (iH P w) 2 A.RO A.xT ["_law_script"] (bV K (uW K A)) :=
 dc (S:=Z4 K A) (c:=Z5) T.oH.F (show aO ["_law_script","_law_cell"] ["_law_script"] _ from by walk_at "sc") rfl (by nofun) (by nofun) (by nofun) (bG (oO (u9 T) T.dY) sE)
def ZY(T:Txt K mg A):bQ ao P w K mg base (iH P w) 1 A.Rh A.Hl ["_law_plan_here","_law_cell"] (bV K (sX K A)) :=
 dc (S:=Y4 K A) (c:=Y5) T.qO.F (show aO ["_law_plan_here","_law_cell"] ["_law_plan_here","_law_cell"] _ from by walk_at "sc") rfl (by nofun) (by nofun) (by nofun) (bG ⟨T.SK,T3⟩ sE)
def aiR(T:Txt K mg A):bQ ao P w K mg base (iH P w) 10 A.Uz A.uT ["_law_script"] (bV K (rK K A)) :=
 dc (S:=am9 K A) (c:=am8) T.lX.F (show aO ["_law_script","_law_plan_here","_law_house_here","_law_count","_law_k","_law_cell","_law_more","_law_spot","_law_other","_law_many"] ["_law_script"] _ from by walk_at "sc") rfl (by nofun) (by nofun) (by nofun) (bG (oO (amS T) T.oH) (bG (⟨_,_,_,_,[],[],rfl,T.aEB,(a9Q T).mono (by decide),T.aEC,T.ab1,.nil,λ_=>.nil⟩) (bG ⟨T.OC,P0⟩ (bG (oO (u9 T) T.dY) (bG (oO (ZY T) T.qO) (bG (⟨_,_,_,[],[],T.bA,T.ab2,(a9R T).mono (by decide),T.qN,.nil,λ_=>.nil⟩) (bG (⟨_,_,_,[],[],T.bA,T.amD,(aiO T).mono (by decide),T.MO,.nil,λ_=>.nil⟩) (bG (⟨_,_,_,[],[],T.bA,T.Ra,(RF T).mono (by decide),T.Hc,.nil,λ_=>.nil⟩) (bG (oO (Uh T) T.lC) (bG (⟨_,_,_,[],[],T.bA,T.UL,(U7 T).mono (by decide),T.rN,.nil,λ_=>.nil⟩) (bG (⟨_,_,_,[],[],T.bA,T.amC,(aiN T).mono (by decide),T.MQ,.nil,λ_=>.nil⟩) (bG T.BG.g (bG T.oK.g sE)))))))))))))
def ZX(T:Txt K mg A):bQ ao P w K mg base (iH P w) 4 A.Rg A.Hk ["_law_house_here","_law_ware_here","_law_day"] (bV K (sY K A)) :=
 dc (S:=Y2 K A) (c:=Y3) T.qP.F (show aO ["_law_house_here","_law_ware_here","_law_day","_law_lying","_law_lots","_law_found","_law_spot","_law_lot"] ["_law_house_here","_law_ware_here","_law_day"] _ from by walk_at "sc") rfl (by nofun) (by nofun) (by nofun) (bG (⟨_,_,_,[],[],T.bA,T.UN,(U8 T).mono (by decide),T.rM,.nil,λ_=>.nil⟩) (bG (⟨_,_,_,[],[],T.bA,T.Uo,(UK T).mono (by decide),T.uY,.nil,λ_=>.nil⟩) (bG ⟨T.Fv,FT⟩ (bG ⟨T.Ds,zM⟩ sE))))
def amT(T:Txt K mg A):bQ ao P w K mg base (iH P w) 5 A.RN A.xU ["_law_house_here","_law_ware_here","_law_day"] (bV K (pK K A)) :=
 dc (S:=Z2 K A) (c:=Z3) T.oJ.F (show aO ["_law_house_here","_law_ware_here","_law_day","error"] ["_law_house_here","_law_ware_here","_law_day"] _ from by walk_at "sc") rfl (by nofun) (by nofun) (by nofun) (bG T.pL.g (bG (oO (Ui T) T.kZ) (bG ⟨T.amF,ahV⟩ (bG ⟨T.iR,fX⟩ (bG T.tG.g (bG T.rO.g (bG ⟨T.Lx,Jg⟩ sE)))))))
def aRD(T:Txt K mg A):bQ ao P w K mg base (iH P w) 11 A.yi A.SM ["_law_script"] (bV K (IX K A)) :=
 dc (S:=aVM K A) (c:=Cr) T.aVN.F (show aO ["_law_script","_law_house_here","_law_cell","_law_ware_here","_law_other","_law_day","_law_far_off","_law_rows","_law_found","_law_good","_law_due_here","_law_spot","_law_lot","_law_many","_law_last","_law_came","_law_again"] ["_law_script"] _ from by walk_at "sc") rfl (by nofun) (by nofun) (by nofun) (bG (oO (aiR T) T.lX) (bG (oO (u9 T) T.dY) (bG (oO (Uh T) T.lC) (bG (⟨_,_,_,[],[],T.bA,T.UL,(U7 T).mono (by decide),T.rN,.nil,λ_=>.nil⟩) (bG ⟨T.SK,T3⟩ (bG (⟨_,_,_,[],[],T.bA,T.amE,(aiP T).mono (by decide),T.ML,.nil,λ_=>.nil⟩) (bG (oO (amT T) T.oJ) (bG ⟨T.SG,T2⟩ (bG ⟨T.iR,fX⟩ (bG ⟨T.ph,yN⟩ (bG (oO (aiQ T) T.lW) (bG (oO (ZX T) T.qP) (bG ⟨T.Fv,FT⟩ (bG (⟨_,_,_,[],[],T.bA,T.Ra,(RF T).mono (by decide),T.Hc,.nil,λ_=>.nil⟩) (bG (oO (Ui T) T.kZ) sE)))))))))))))))
end
abbrev E8(K:Fg):Sp:=λvs H Q _=>∃(a:bx)(ns:List Int),vs=[.ref a]/\cS K H a (ns.map V.int)/\ns.length<=63/\∀H',Q (.bl ak) H'
variable{mg:Str->Option bh}
def aKO{K:Fg}{A:aU}(T:Txt K mg A):∀vs H Q E,E8 K vs H Q E->bV K (IX K A) vs H Q E:=by
 rintro vs H Q E ⟨a,ns,rfl,hS,hl,k⟩;refine⟨[.ref a],λb=>if b=a then aj (.fc (ns.map D.int))else au,λd _=>d=.bl ak,λ_ _=>False,.cons (.ref a) .nil,λb o e=>?_,main T a ns hl _ (if_pos rfl),λv H' d G' r g e=>?_,λC H' G' g z=>z.elim⟩
 .have e2:(if b=a then aj (GO.fc (ns.map D.int))else au)=aj o:=e;by_cases hb:b=a
  .subst hb;rw[if_pos rfl]at e2;cases e2;exact⟨_,hS,cZ.ints ns⟩
  .rw[if_neg hb]at e2;cases e2
 .subst e;cases r;exact k H'
abbrev Cb(K:Fg)(x q:Str)(st:jo)(f:bx):Prop:=∃oc kV dc pm cd ct od an sl,K.lookup f=aj ⟨oc,od,.func (qm x q (dM st) (cN st) (bI st) .none kV dc pm an cd ct),sl⟩/\wc K cd q=ak/\tu K (.ref f)=ak
def Cb.get{K:Fg}{q:Str}(b:Cb K x q st f)(ps:List Str)(h:∀kV dc pm an cd ct,∀us:List bh,us.length=ps.length->uh (qm x q (dM st) (cN st) (bI st) .none kV dc pm an cd ct) ⟨us,[]⟩=pure (ps.zip us)):∃d,bE K x q st f d/\Binds K d ps []/\tu K (.ref f)=ak:=by
 let⟨oc,kV,dc,pm,cd,ct,od,an,sl,l,c,k⟩:=b;exact⟨_,C1 (st:=st) l c k,OS (h _ _ _ _ _ _),k⟩
abbrev Fb(K:Fg)(x:Str)(st:jo)(f:bx):Prop:=oh K jj x=aj (aj (.ref f))/\Cb K x x st f
variable{us:List bh}
def xN(h:us.length=1)(k:∀a,uh fd ⟨[a],[]⟩=pure (ps.zip [a])):uh fd ⟨us,[]⟩=pure (ps.zip us):=match us,h with|[a],_=>k a
def KN(h:us.length=2)(k:∀a b,uh fd ⟨[a,b],[]⟩=pure (ps.zip [a,b])):uh fd ⟨us,[]⟩=pure (ps.zip us):=match us,h with|[a,b],_=>k a b
def KL(h:us.length=3)(k:∀a b c,uh fd ⟨[a,b,c],[]⟩=pure (ps.zip [a,b,c])):uh fd ⟨us,[]⟩=pure (ps.zip us):=match us,h with|[a,b,c],_=>k a b c
def tS(h:us.length=4)(k:∀a b c d,uh fd ⟨[a,b,c,d],[]⟩=pure (ps.zip [a,b,c,d])):uh fd ⟨us,[]⟩=pure (ps.zip us):=match us,h with|[a,b,c,d],_=>k a b c d
def KJ(h:us.length=5)(k:∀a b c d e,uh fd ⟨[a,b,c,d,e],[]⟩=pure (ps.zip [a,b,c,d,e])):uh fd ⟨us,[]⟩=pure (ps.zip us):=match us,h with|[a,b,c,d,e],_=>k a b c d e
def c6{q:Str}(k:∀kV dc pm an cd ct a,uh (qm q q (dM st) (cN st) (bI st) .none kV dc pm an cd ct) ⟨[a],[]⟩=pure (ps.zip [a])):∀kV dc pm an cd ct,∀us:List bh,us.length=1->uh (qm q q (dM st) (cN st) (bI st) .none kV dc pm an cd ct) ⟨us,[]⟩=pure (ps.zip us):=λ_ _ _ _ _ _ us h=>by
 rcases us with _|⟨a,_|⟨_,_⟩⟩<;>first|exact k _ _ _ _ _ _ a|simp at h
def nc{q:Str}(k:∀kV dc pm an cd ct a b,uh (qm q q (dM st) (cN st) (bI st) .none kV dc pm an cd ct) ⟨[a,b],[]⟩=pure (ps.zip [a,b])):∀kV dc pm an cd ct,∀us:List bh,us.length=2->uh (qm q q (dM st) (cN st) (bI st) .none kV dc pm an cd ct) ⟨us,[]⟩=pure (ps.zip us):=λ_ _ _ _ _ _ us h=>by
 rcases us with _|⟨a,_|⟨b,_|⟨_,_⟩⟩⟩<;>first|exact k _ _ _ _ _ _ a b|simp at h
def FZ{q:Str}(k:∀kV dc pm an cd ct a b c,uh (qm q q (dM st) (cN st) (bI st) .none kV dc pm an cd ct) ⟨[a,b,c],[]⟩=pure (ps.zip [a,b,c])):∀kV dc pm an cd ct,∀us:List bh,us.length=3->uh (qm q q (dM st) (cN st) (bI st) .none kV dc pm an cd ct) ⟨us,[]⟩=pure (ps.zip us):=λ_ _ _ _ _ _ us h=>by
 rcases us with _|⟨a,_|⟨b,_|⟨c,_|⟨_,_⟩⟩⟩⟩<;>first|exact k _ _ _ _ _ _ a b c|simp at h
def Sa{q:Str}(k:∀kV dc pm an cd ct a b c d,uh (qm q q (dM st) (cN st) (bI st) .none kV dc pm an cd ct) ⟨[a,b,c,d],[]⟩=pure (ps.zip [a,b,c,d])):∀kV dc pm an cd ct,∀us:List bh,us.length=4->uh (qm q q (dM st) (cN st) (bI st) .none kV dc pm an cd ct) ⟨us,[]⟩=pure (ps.zip us):=λ_ _ _ _ _ _ us h=>by
 rcases us with _|⟨a,_|⟨b,_|⟨c,_|⟨d,_|⟨_,_⟩⟩⟩⟩⟩<;>first|exact k _ _ _ _ _ _ a b c d|simp at h
def b2Q(k:∀kV dc pm an cd ct a b c d e,uh (qm q q (dM st) (cN st) (bI st) .none kV dc pm an cd ct) ⟨[a,b,c,d,e],[]⟩=pure (ps.zip [a,b,c,d,e])):∀kV dc pm an cd ct,∀us:List bh,us.length=5->uh (qm q q (dM st) (cN st) (bI st) .none kV dc pm an cd ct) ⟨us,[]⟩=pure (ps.zip us):=λ_ _ _ _ _ _ us h=>by
 rcases us with _|⟨a,_|⟨b,_|⟨c,_|⟨d,_|⟨e,_|⟨_,_⟩⟩⟩⟩⟩⟩<;>first|exact k _ _ _ _ _ _ a b c d e|simp at h
def Fb.get{K:Fg}{q:Str}{st:jo}{f:bx}{h:kh}{mg:Str->Option bh}(b:Fb K q st f)(XK:K.In h)(GG:h.Ns jj mg)(ps:List Str)(h:∀kV dc pm an cd ct,∀us:List bh,us.length=ps.length->uh (qm q q (dM st) (cN st) (bI st) .none kV dc pm an cd ct) ⟨us,[]⟩=pure (ps.zip us)):∃d,df K mg q st f d ps:=by
 let⟨d,F,B,_⟩:=b.2.get ps h;exact⟨d,F,B,wj XK GG b.1⟩
abbrev Mb(K:Fg)(c:bx)(x q:Str)(st:jo)(f:bx):Prop:=jk K (.ref c) x=aj (aj (.ref f))/\v5 K (.ref f)=ak/\Cb K x q st f
def Mb.get{K:Fg}{c:bx}{x q:Str}{st:jo}{f:bx}(b:Mb K c x q st f)(ps:List Str)(h:∀kV dc pm an cd ct,∀us:List bh,us.length=ps.length->uh (qm x q (dM st) (cN st) (bI st) .none kV dc pm an cd ct) ⟨us,[]⟩=pure (ps.zip us)):∃d,bE K x q st f d/\Binds K d ps []/\jk K (.ref c) x=aj (aj (.ref f))/\v5 K (.ref f)=ak/\tu K (.ref f)=ak:=by
 let⟨d,F,B,k⟩:=b.2.2.get ps h;exact⟨d,F,B,b.1,b.2.1,k⟩
structure Eb(K:Fg)(x:Str)(c:bx):Prop where
 b:oh K jj x=aj (aj (.ref c))
 x:zc K c [.type "ValueError",.type "Exception",.type "BaseException",.type "object"] "ValueError.__new__"=ak
 cs:(vo K c).isSome=ak
 ty:we K (.ref c)=aj (.type "type")
 be:qe K (.ref c) (.type "BaseException")=aj ak
variable{h:kh}
def Eb.gt{K:Fg}(e:Eb K x c)(XK:K.In h)(GG:h.Ns jj mg):ll K mg x c:=⟨wj XK GG e.b,e.x,e.cs,e.ty,e.be⟩
variable{l:PySem.W.OpenLaw}
def all_mk{w:ji}{K:Fg}{fa:bx}(XK:K.In h)(GG:h.Ns jj mg)(W2:mg "law"=aj (.ref fa))
  (uX:Fb K "_wall" OJ aKQ)
  (gA:Fb K "is_whole" Rv YS)
  (vB:Fb K "is_pair" QI XE)
  (vC:Fb K "is_ware" QH XD)
  (BI:Fb K "is_day" PU aF1)
  (oG:Fb K "is_amount" R1 ZW)
  (vD:Fb K "is_plan" QG XC)
  (kW:Fb K "need_plan" R0 ZV)
  (BH:Fb K "is_bin" PR aF2)
  (kY:Fb K "need_ware" RZ ZU)
  (nU:Fb K "need_day" Ru YR)
  (dF:Fb K "need_lot" Rt YQ)
  (dG:Fb K "need_bin" Rr YO)
  (cQ:Fb K "need_amount" U6 aiS)
  (MI:Mb K cG "lots" "House.lots" UI amU)
  (qH:Fb K "in_order" Rq YN)
  (uD:Mb K c7 "lying" "Shelves.lying" VH ad6)
  (z9:Mb K cG "lying" "House.lying" U5 aiT)
  (kZ:Fb K "pieces_of" RY ZT)
  (tE:Fb K "change" PQ aF3)
  (bU:jk K (.ref c7) "__init__"=aj (aj (.ref iU)))
  (iV:v5 K (.ref iU)=ak)
  (nY:K.lookup iU=aj ⟨arB,arC,.func (qm "__init__" "Shelves.__init__" (dM fK) (cN fK) (bI fK) (.ref a5W) arD arE arF arG a5X arH),arI⟩)
  (fO:wc K a5X "Shelves.__init__"=ak)
  (iW:tu K (.ref iU)=ak)
  (iY:K.lookup a5W=aj ⟨arJ,arK,.seq #[.int 1000 a5Y] arL,arM⟩)
  (qT:Mb K c7 "filled" "Shelves.filled" zR ab9)
  (mF:Mb K c7 "need_room" "Shelves.need_room" uI a5Z)
  (zA:Mb K c7 "put" "Shelves.put" U4 aiU)
  (qU:Mb K c7 "amount" "Shelves.amount" zT abA)
  (lF:Mb K c7 "need_there" "Shelves.need_there" sG a4V)
  (wZ:Mb K c7 "take" "Shelves.take" Vx agO)
  (uE:Mb K c7 "shift" "Shelves.shift" VG ad7)
  (xA:Mb K c7 "held" "Shelves.held" Vv agP)
  (qW:Mb K c7 "places" "Shelves.places" zU abB)
  (cL:jk K (.ref cG) "__init__"=aj (aj (.ref lY)))
  (lZ:v5 K (.ref lY)=ak)
  (qX:K.lookup lY=aj ⟨axC,axD,.func (qm "__init__" "House.__init__" (dM gJ) (cN gJ) (bI gJ) (.ref a9T) axE axF axG axH a9U axI),axJ⟩)
  (gZ:wc K a9U "House.__init__"=ak)
  (m6:tu K (.ref lY)=ak)
  (m7:K.lookup a9T=aj ⟨axK,axL,.seq #[.int 1000 a9V] axM,axN⟩)
  (MH:Mb K cG "come" "House.come" UH amV)
  (uF:Mb K cG "need_go" "House.need_go" VF ad8)
  (Ma:Mb K cG "go" "House.go" Rp YM)
  (MG:Mb K cG "move" "House.move" UG amW)
  (nZ:Mb K cG "need_count" "House.need_count" vR a7P)
  (zB:Mb K cG "count" "House.count" U3 aiV)
  (qY:Mb K cG "next_day" "House.next_day" zV abC)
  (MF:Mb K cG "plan" "House.plan" UE amX)
  (zE:Mb K cG "today" "House.today" U2 aiW)
  (ME:Mb K cG "rows" "House.rows" UD amY)
  (xB:Mb K cG "amount" "House.amount" Vu agQ)
  (fZ:jk K (.ref cG) "total"=aj (aj (.ref rR)))
  (zF:v5 K (.ref rR)=ak)
  (zG:K.lookup rR=aj ⟨aF4,aF5,.func (qm "total" "House.total" (dM mQ) (cN mQ) (bI mQ) (.ref agR) aF6 aF7 aF8 aF9 agS aFA),aFB⟩)
  (n8:wc K agS "House.total"=ak)
  (rT:tu K (.ref rR)=ak)
  (rW:K.lookup agR=aj ⟨aFC,aFD,.seq #[.int 0 agT] aFE,aFF⟩)
  (xC:Mb K cG "serves" "House.serves" Vt agU)
  (dY:Fb K "_law_cell_at" Vs agV)
  (lW:Fb K "_law_whole" UC amZ)
  (lC:Fb K "_law_ware" RX ZS)
  (oH:Fb K "_law_plan" RW ZR)
  (qO:Fb K "_law_bin" Ro YL)
  (lX:Fb K "_law_house" UB an0)
  (qP:Fb K "_law_due" Rn YK)
  (oJ:Fb K "_law_told" RV ZQ)
  (yi:oh K jj "law"=aj (aj (.ref Lw)))
  (Lv:K.lookup Lw=aj ⟨aZN,aZO,.func (qm "law" "law" (dM Cs) (cN Cs) (bI Cs) .none aZP aZQ aZR aZS aRH aZT),aZU⟩)
  (Cr:wc K aRH "law"=ak)
  (Lu:tu K (.ref Lw)=ak)
  (LZ:oh K jj "Shelves"=aj (aj (.ref c7)))
  (LY:Bz K c7 Str.empty=ak)
  (LX:DO K c7=ak)
  (LW:GQ K c7=ak)
  (LV:jk K (.ref c7) "__setattr__"=aj (aj (.builtin "object.__setattr__")))
  (LU:GJ K c7=ak)
  (LS:tu K (.ref c7)=ak)
  (JY:oh K jj "House"=aj (aj (.ref cG)))
  (JX:Bz K cG Str.empty=ak)
  (JW:DO K cG=ak)
  (JV:GQ K cG=ak)
  (JU:jk K (.ref cG) "__setattr__"=aj (aj (.builtin "object.__setattr__")))
  (JT:GJ K cG=ak)
  (JS:tu K (.ref cG)=ak)
  (MD:jk K (.ref cG) "day"=aj au)
  (zH:jk K (.ref cG) "done"=aj au)
  (xD:jk K (.ref cG) "known"=aj au)
  (uG:jk K (.ref cG) "layout"=aj au)
  (qZ:jk K (.ref cG) "shelves"=aj au)
  (pN:jk K (.ref c7) "layout"=aj au)
  (uH:jk K (.ref c7) "room"=aj au)
  (pO:jk K (.ref c7) "stacks"=aj au)
  (pL:Eb K "DepotError" MC)
  (Du:Eb K "NoPlan" aFJ)
  (tG:Eb K "NoWare" lG)
  (Ky:jk K (.ref lG) "__getattribute__"=aj (aj (.builtin "BaseException.__getattribute__")))
  (Kx:jk K (.ref lG) "__getattr__"=aj au)
  (Kw:jk K (.ref lG) "__class__"=aj (aj (.builtin "object.__class__")))
  (Kv:PySem.W.mroIn K lG (.type "object")=aj ak)
  (vG:ni K (.ref lG) (.type "ValueError")=aj ak)
  (rO:Eb K "NoDay" pP)
  (JR:jk K (.ref pP) "__getattribute__"=aj (aj (.builtin "BaseException.__getattribute__")))
  (JQ:jk K (.ref pP) "__getattr__"=aj au)
  (JP:jk K (.ref pP) "__class__"=aj (aj (.builtin "object.__class__")))
  (JO:PySem.W.mroIn K pP (.type "object")=aj ak)
  (Dt:ni K (.ref pP) (.type "ValueError")=aj ak)
  (De:Eb K "NoBin" aKR)
  (Bi:Eb K "NoLot" aKS)
  (wW:Eb K "NoAmount" YJ)
  (BG:Eb K "NoRoom" Gf)
  (oK:Eb K "TooLittle" yL)
  (cY:qe K (.ref lG) (.ref MC)=aj ak)
  (iD:ni K (.ref lG) (.ref pP)=aj ao)
  (fV:ni K (.ref lG) (.ref lG)=aj ak)
  (fP:qe K (.ref pP) (.ref MC)=aj ak)
  (nA:ni K (.ref pP) (.ref pP)=aj ak)
  (lD:ni K (.ref pP) (.ref lG)=aj ao)
  (jB:qe K (.ref Gf) (.ref Gf)=aj ak)
  (fQ:qe K (.ref yL) (.ref Gf)=aj ao)
  (dB:qe K (.ref yL) (.ref yL)=aj ak)
  (nC:oh K jj "MOST_AISLES"=aj (aj (.int 26 aiX)))
  (nD:oh K jj "MOST_PLACES"=aj (aj (.int 99 aiY)))
  (lE:oh K jj "LONGEST_WARE"=aj (aj (.int 12 ah7)))
  (qQ:oh K jj "LAST_DAY"=aj (aj (.int 9999 YI)))
  (nF:oh K jj "MOST_AMOUNT"=aj (aj (.int 1000000 aiZ)))
  (wX:oh K jj "MOST_GAP"=aj (aj (.int 20 YH)))
  (fB:oh K jj "MOST_LOTS"=aj (aj (.int 1000 ZP)))
  (MB:oh K jj "ValueError"=aj au)
  (Ls:oh K jj "all"=aj au)
  (IV:oh K jj "bool"=aj au)
  (IU:oh K jj "dict"=aj au)
  (Lr:oh K jj "int"=aj au)
  (MA:oh K jj "isinstance"=aj au)
  (Lq:oh K jj "len"=aj au)
  (IT:oh K jj "list"=aj au)
  (Lp:oh K jj "min"=aj au)
  (Jo:oh K jj "range"=aj au)
  (JN:oh K jj "sorted"=aj au)
  (Lo:oh K jj "str"=aj au)
  (Ln:oh K jj "sum"=aj au)
  (Jn:oh K jj "tuple"=aj au) :
  ∃fd:jf,(∀(s:dg)(v:bh),BindsTo s fd ⟨[v],[]⟩ [("_law_script",v)])/\∀base:kh,K.In base->base.Ns jj mg->bQ ao l.prog w K mg base (iH l.prog w) 11 fa fd ["_law_script"] (E8 K):=by
 have e:=W2.symm.trans (wj XK GG yi);cases e;let⟨FL,aKT⟩:=uX.get XK GG ["k"] (c6 λ_ _ _ _ _ _ _=>rfl);let⟨Hr,YG⟩:=gA.get XK GG ["thing","least","most"] (FZ λ_ _ _ _ _ _ _ _ _=>rfl);let⟨GC,XB⟩:=vB.get XK GG ["thing","aisles","first","last"] (Sa λ_ _ _ _ _ _ _ _ _ _=>rfl);let⟨GB,XA⟩:=vC.get XK GG ["thing"] (c6 λ_ _ _ _ _ _ _=>rfl);let⟨Gm,aFQ⟩:=BI.get XK GG ["thing"] (c6 λ_ _ _ _ _ _ _=>rfl);let⟨xM,ZO⟩:=oG.get XK GG ["thing"] (c6 λ_ _ _ _ _ _ _=>rfl);let⟨GA,Xz⟩:=vD.get XK GG ["thing"] (c6 λ_ _ _ _ _ _ _=>rfl);let⟨xO,ZN⟩:=kW.get XK GG ["plan"] (c6 λ_ _ _ _ _ _ _=>rfl);let⟨Gk,aFR⟩:=BH.get XK GG ["plan","thing"] (nc λ_ _ _ _ _ _ _ _=>rfl);let⟨xP,ZM⟩:=kY.get XK GG ["thing"] (c6 λ_ _ _ _ _ _ _=>rfl);let⟨Hq,YF⟩:=nU.get XK GG ["thing"] (c6 λ_ _ _ _ _ _ _=>rfl);let⟨Ho,YE⟩:=dF.get XK GG ["thing","lots"] (nc λ_ _ _ _ _ _ _ _=>rfl);let⟨Hn,YD⟩:=dG.get XK GG ["plan","thing"] (nc λ_ _ _ _ _ _ _ _=>rfl);let⟨rE,aj0⟩:=cQ.get XK GG ["thing"] (c6 λ_ _ _ _ _ _ _=>rfl);let⟨oZ,MS,uY,oY,an3,an4⟩:=MI.get ["self"] λ_ _ _ _ _ _ us hl=>xN hl λ_=>rfl;let⟨Hm,YC⟩:=qH.get XK GG ["stacks"] (c6 λ_ _ _ _ _ _ _=>rfl);let⟨j5,tX,tY,j4,ad9,adA⟩:=uD.get ["self"] λ_ _ _ _ _ _ us hl=>xN hl λ_=>rfl;let⟨mU,yX,rM,mR,aj1,aj2⟩:=z9.get ["self"] λ_ _ _ _ _ _ us hl=>xN hl λ_=>rfl;let⟨xQ,ZL⟩:=kZ.get XK GG ["house","ware","day"] (FZ λ_ _ _ _ _ _ _ _ _=>rfl);let⟨Gj,aFS⟩:=tE.get XK GG ["stacks","spot","lot","more"] (Sa λ_ _ _ _ _ _ _ _ _ _=>rfl);let⟨gM,qI,qJ,gK,abH,abI⟩:=qT.get ["self","spot"] λ_ _ _ _ _ _ us hl=>KN hl λ_ _=>rfl;let⟨eO,mD,gF,eN,a65,a66⟩:=mF.get ["self","spot","amount"] λ_ _ _ _ _ _ us hl=>KL hl λ_ _ _=>rfl;let⟨mW,yZ,z6,mV,aj3,aj4⟩:=zA.get ["self","lot","spot","amount"] λ_ _ _ _ _ _ us hl=>tS hl λ_ _ _ _=>rfl;let⟨gP,qK,lV,gO,abJ,abK⟩:=qU.get ["self","lot","spot"] λ_ _ _ _ _ _ us hl=>KL hl λ_ _ _=>rfl;let⟨dU,lA,dX,dR,a4W,a4X⟩:=lF.get ["self","lot","spot","amount"] λ_ _ _ _ _ _ us hl=>tS hl λ_ _ _ _=>rfl;let⟨jP,wN,wO,jO,ah9,ahA⟩:=wZ.get ["self","lot","spot","amount"] λ_ _ _ _ _ _ us hl=>tS hl λ_ _ _ _=>rfl;let⟨j7,tZ,u0,j6,adB,adC⟩:=uE.get ["self","lot","one","other","amount"] λ_ _ _ _ _ _ us hl=>KJ hl λ_ _ _ _ _=>rfl;let⟨jR,wQ,Vb,jQ,ahB,ahC⟩:=xA.get ["self","spot"] λ_ _ _ _ _ _ us hl=>KN hl λ_ _=>rfl;let⟨gR,qL,VI,gQ,abL,abM⟩:=qW.get ["self","lot"] λ_ _ _ _ _ _ us hl=>KN hl λ_ _=>rfl;let⟨pA,MR,MQ,p8,an5,an6⟩:=MH.get ["self","ware","due","spot","amount"] λ_ _ _ _ _ _ us hl=>KJ hl λ_ _ _ _ _=>rfl;let⟨j9,u5,u6,j8,adD,adE⟩:=uF.get ["self","lot","spot","amount"] λ_ _ _ _ _ _ us hl=>tS hl λ_ _ _ _=>rfl;let⟨vV,Mc,Hc,vU,YB,YA⟩:=Ma.get ["self","lot","spot","amount"] λ_ _ _ _ _ _ us hl=>tS hl λ_ _ _ _=>rfl;let⟨pC,MP,MO,pB,an7,an8⟩:=MG.get ["self","lot","one","other","amount"] λ_ _ _ _ _ _ us hl=>KJ hl λ_ _ _ _ _=>rfl;let⟨fM,nW,wR,fL,a7X,a7Y⟩:=nZ.get ["self","lot","spot","amount"] λ_ _ _ _ _ _ us hl=>tS hl λ_ _ _ _=>rfl;let⟨mY,z7,UM,mX,aj5,aj6⟩:=zB.get ["self","lot","spot","amount"] λ_ _ _ _ _ _ us hl=>tS hl λ_ _ _ _=>rfl;let⟨gW,qM,qN,gU,abN,abO⟩:=qY.get ["self"] λ_ _ _ _ _ _ us hl=>xN hl λ_=>rfl;let⟨pF,MN,Um,pD,an9,anA⟩:=MF.get ["self"] λ_ _ _ _ _ _ us hl=>xN hl λ_=>rfl;let⟨n6,z8,rN,mZ,aj7,aj8⟩:=zE.get ["self"] λ_ _ _ _ _ _ us hl=>xN hl λ_=>rfl;let⟨pH,MM,ML,pG,χ,ξ⟩:=ME.get ["self"] λ_ _ _ _ _ _ us hl=>xN hl λ_=>rfl;let⟨jU,wU,Va,jT,ahD,ahE⟩:=xB.get ["self","lot","spot"] λ_ _ _ _ _ _ us hl=>KL hl λ_ _ _=>rfl;let⟨jW,wV,U9,jV,ahF,ahG⟩:=xC.get ["self","lot","ware","day"] λ_ _ _ _ _ _ us hl=>tS hl λ_ _ _ _=>rfl;let⟨pI,ahH⟩:=dY.get XK GG ["_law_script","_law_k"] (nc λ_ _ _ _ _ _ _ _=>rfl);let⟨uR,ν⟩:=lW.get XK GG ["_law_found"] (c6 λ_ _ _ _ _ _ _=>rfl);let⟨xR,ZK⟩:=lC.get XK GG ["_law_cell"] (c6 λ_ _ _ _ _ _ _=>rfl);let⟨xT,ZJ⟩:=oH.get XK GG ["_law_script"] (c6 λ_ _ _ _ _ _ _=>rfl);let⟨Hl,Yz⟩:=qO.get XK GG ["_law_plan_here","_law_cell"] (nc λ_ _ _ _ _ _ _ _=>rfl);let⟨uT,μ⟩:=lX.get XK GG ["_law_script"] (c6 λ_ _ _ _ _ _ _=>rfl);let⟨Hk,Yy⟩:=qP.get XK GG ["_law_house_here","_law_ware_here","_law_day"] (FZ λ_ _ _ _ _ _ _ _ _=>rfl);let⟨xU,ZI⟩:=oJ.get XK GG ["_law_house_here","_law_ware_here","_law_day"] (FZ λ_ _ _ _ _ _ _ _ _=>rfl);have Z:=λ{x:Str}(h:oh K jj x=aj au)=>PySem.W.mg_none_of XK GG h;have T:Txt K mg ⟨aKQ,FL,YS,Hr,XE,GC,XD,GB,aF1,Gm,ZW,xM,XC,GA,ZV,xO,aF2,Gk,ZU,xP,YR,Hq,YQ,Ho,YO,Hn,aiS,rE,amU,oZ,YN,Hm,ad6,j5,aiT,mU,ZT,xQ,aF3,Gj,iU,_,ab9,gM,a5Z,eO,aiU,mW,abA,gP,a4V,dU,agO,jP,ad7,j7,agP,jR,abB,gR,lY,_,amV,pA,ad8,j9,YM,vV,amW,pC,a7P,fM,aiV,mY,abC,gW,amX,pF,aiW,n6,amY,pH,agQ,jU,rR,_,agU,jW,agV,pI,amZ,uR,ZS,xR,ZR,xT,YL,Hl,an0,uT,YK,Hk,ZQ,xU,Lw,_,MC,aFJ,lG,pP,aKR,aKS,YJ,Gf,yL,c7,cG⟩:=⟨aKT,YG,XB,XA,aFQ,ZO,Xz,ZN,aFR,ZM,YF,YE,YD,aj0,MS,uY,⟨oY,an3,an4⟩,YC,tX,tY,⟨j4,ad9,adA⟩,yX,rM,⟨mR,aj1,aj2⟩,ZL,aFS,C1 (st:=fK) nY fO iW,Jy (ps:=["self","plan","room"]) iY (λus hl=>match us,hl with|[_,_,_],_=>⟨_,rfl,rfl,rfl⟩),⟨bU,iV,iW⟩,⟨a5Y,Jx (ps:=["self","plan","room"]) iY (λus hl=>match us,hl with|[_,_],_=>⟨_,rfl,rfl,rfl⟩)⟩,qI,qJ,⟨gK,abH,abI⟩,mD,gF,⟨eN,a65,a66⟩,yZ,z6,⟨mV,aj3,aj4⟩,qK,lV,⟨gO,abJ,abK⟩,lA,dX,⟨dR,a4W,a4X⟩,wN,wO,⟨jO,ah9,ahA⟩,tZ,u0,⟨j6,adB,adC⟩,wQ,Vb,⟨jQ,ahB,ahC⟩,qL,VI,⟨gQ,abL,abM⟩,C1 (st:=gJ) qX gZ m6,Jy (ps:=["self","plan","room"]) m7 (λus hl=>match us,hl with|[_,_,_],_=>⟨_,rfl,rfl,rfl⟩),⟨cL,lZ,m6⟩,⟨a9V,Jx (ps:=["self","plan","room"]) m7 (λus hl=>match us,hl with|[_,_],_=>⟨_,rfl,rfl,rfl⟩)⟩,MR,MQ,⟨p8,an5,an6⟩,u5,u6,⟨j8,adD,adE⟩,Mc,Hc,⟨vU,YB,YA⟩,MP,MO,⟨pB,an7,an8⟩,nW,wR,⟨fL,a7X,a7Y⟩,z7,UM,⟨mX,aj5,aj6⟩,qM,qN,⟨gU,abN,abO⟩,MN,Um,⟨pD,an9,anA⟩,z8,rN,⟨mZ,aj7,aj8⟩,MM,ML,⟨pG,χ,ξ⟩,wU,Va,⟨jT,ahD,ahE⟩,C1 (st:=mQ) zG n8 rT,Jy (ps:=["self","ware","day"]) rW (λus hl=>match us,hl with|[_,_,_],_=>⟨_,rfl,rfl,rfl⟩),⟨fZ,zF,rT⟩,⟨agT,Jx (ps:=["self","ware","day"]) rW (λus hl=>match us,hl with|[_,_],_=>⟨_,rfl,rfl,rfl⟩)⟩,wV,U9,⟨jV,ahF,ahG⟩,ahH,ν,ZK,ZJ,Yz,μ,Yy,ZI,⟨C1 (st:=Cs) Lv Cr Lu,OS (ps:=["_law_script"]) (λus hl=>match us,hl with|[_],_=>rfl),wj XK GG yi⟩,⟨LY,LX,LW,LV⟩,⟨LU,bU,iV,LS⟩,wj XK GG LZ,⟨JX,JW,JV,JU⟩,⟨JT,cL,lZ,JS⟩,wj XK GG JY,MD,zH,xD,uG,qZ,pN,uH,pO,pL.gt XK GG,Du.gt XK GG,tG.gt XK GG,⟨Ky,Kx,Kw,tG.be,Kv,tG.cs⟩,vG,rO.gt XK GG,⟨JR,JQ,JP,rO.be,JO,rO.cs⟩,Dt,De.gt XK GG,Bi.gt XK GG,wW.gt XK GG,BG.gt XK GG,oK.gt XK GG,cY,iD,fV,fP,nA,lD,jB,fQ,dB,⟨aiX,wj XK GG nC⟩,⟨aiY,wj XK GG nD⟩,⟨ah7,wj XK GG lE⟩,⟨YI,wj XK GG qQ⟩,⟨aiZ,wj XK GG nF⟩,⟨YH,wj XK GG wX⟩,⟨ZP,wj XK GG fB⟩,Z MB,Z Ls,Z IV,Z IU,Z Lr,Z MA,Z Lq,Z IT,Z Lp,Z Jo,Z JN,Z Lo,Z Ln,Z Jn⟩;exact⟨_,λs v=>.of_eq rfl,λbase _ _=>(aRD T).imp (aKO T)⟩
def walk{d:DefRec}{K:Params->jc}(hn:l.most=aj 63)(Ch:d.params.defaults=[])
  (hY:∀(w:ji)(h:kh),YP w h->(K w.params).In h)
  (F:∀(w:ji)(mg:Str->Option bh)(fa:bx)(h:kh),(K w.params).In h->h.Ns jj mg->mg d.name=aj (.ref fa) ->
   ∃fd:jf,(∀(s:dg)(u:bh),BindsTo s fd ⟨[u],[]⟩ [("_law_script",u)])/\∀base:kh,(K w.params).In base->base.Ns jj mg->bQ ao l.prog w (K w.params) mg base (iH l.prog w) 11 fa fd ["_law_script"] (E8 (K w.params))) :
  PySem.W.WalkO q loose XP YP l.row.toRowW d [] (λf vs=>PySem.call f vs) :=
 L2.aH8 (n:=63) (k:=11) (x:="_law_script") (CX:=λw=>iH l.prog w) (sp:=λw=>E8 (K w.params)) hn (by decide) Ch ⟨λ_=>rfl,by decide,by decide⟩ hY F (λ_ _ a ns hl _ hS=>⟨a,ns,rfl,hS,hl,λ_=>rfl⟩) (by rintro _ _ _ _ _ ⟨_,_,_,_,_,_,_,_,_,_,_,_,z⟩;exact z)
end Law
open PySem PySem.W PyProof.Rows
set_option tactic.hygienic true in
theorem PySem.Challenge.cw_depot_k43_pieces_of_a_house_holds : PySem.Challenge.rw_depot_k43_pieces_of_a_house.Holds := by
 w_on;refine PySem.W.holds_law Law.Oj λM9=>?_;o_head (PySem.W.kHook Law.E0.heap_1 Law.E1 Law.IJ)
 case hl=>exact Law.Xl
 case hw=>w_witness2
 k_fill
 refine Law.walk (l:=PySem.Challenge.rw_depot_k43_pieces_of_a_house) rfl rfl (λw h Y=>PySem.W.kIn_of Y) ?F
 case F =>
  intro w mg fa h KX G Cf;refine' Law.all_mk KX G Cf ?uX ?gA ?vB ?vC ?BI ?oG ?vD ?kW ?BH ?kY ?nU ?dF ?dG ?cQ ?MI ?qH ?uD ?z9 ?kZ ?tE ?bU ?iV ?nY ?fO ?iW ?iY ?qT ?mF ?zA ?qU ?lF ?wZ ?uE ?xA ?qW ?cL ?lZ ?qX ?gZ ?m6 ?m7 ?MH ?uF ?Ma ?MG ?nZ ?zB ?qY ?MF ?zE ?ME ?xB ?fZ ?zF ?zG ?n8 ?rT ?rW ?xC ?dY ?lW ?lC ?oH ?qO ?lX ?qP ?oJ ?yi ?Lv ?Cr ?Lu ?LZ ?LY ?LX ?LW ?LV ?LU ?LS ?JY ?JX ?JW ?JV ?JU ?JT ?JS ?MD ?zH ?xD ?uG ?qZ ?pN ?uH ?pO ?pL ?Du ?tG ?Ky ?Kx ?Kw ?Kv ?vG ?rO ?JR ?JQ ?JP ?JO ?Dt ?De ?Bi ?wW ?BG ?oK ?cY ?iD ?fV ?fP ?nA ?lD ?jB ?fQ ?dB ?nC ?nD ?lE ?qQ ?nF ?wX ?fB ?MB ?Ls ?IV ?IU ?Lr ?MA ?Lq ?IT ?Lp ?Jo ?JN ?Lo ?Ln ?Jn
  case LZ|JY=>k_is
  case uX|gA|vB|vC|BI|oG|vD|kW|BH|kY|nU|dF|dG|cQ=>exact⟨by k_is,_,_,_,_,_,_,_,_,_,by k_is,by k_is,by k_is⟩
  case pL|Du|tG|rO|De|Bi|wW|BG|oK=>exact⟨by k_is,by k_exc,by nofun,by k_is,by k_is⟩
  case MI=>exact⟨by k_is,by k_is,_,_,_,_,_,_,_,_,_,by k_is,by k_is,by k_is⟩
  case qH=>exact⟨by k_is,_,_,_,_,_,_,_,_,_,by k_is,by k_is,by k_is⟩
  case uD|z9=>exact⟨by k_is,by k_is,_,_,_,_,_,_,_,_,_,by k_is,by k_is,by k_is⟩
  case kZ|tE=>exact⟨by k_is,_,_,_,_,_,_,_,_,_,by k_is,by k_is,by k_is⟩
  case qT|mF|zA|qU|lF|wZ|uE|xA|qW=>exact⟨by k_is,by k_is,_,_,_,_,_,_,_,_,_,by k_is,by k_is,by k_is⟩
  case MH|uF|Ma|MG|nZ|zB|qY|MF|zE|ME|xB=>exact⟨by k_is,by k_is,_,_,_,_,_,_,_,_,_,by k_is,by k_is,by k_is⟩
  case xC=>exact⟨by k_is,by k_is,_,_,_,_,_,_,_,_,_,by k_is,by k_is,by k_is⟩
  case dY|lW|lC|oH|qO|lX|qP|oJ=>exact⟨by k_is,_,_,_,_,_,_,_,_,_,by k_is,by k_is,by k_is⟩
  case bU|iV|nY|fO|iW|iY|cL|lZ|qX|gZ|m6|m7|fZ|zF|zG|n8|rT|rW|yi|Lv|Cr|Lu|LY|LX|LW|LV|LU|LS|JX|JW|JV|JU|JT|JS|MD|zH|xD|uG|qZ|pN|uH|pO|Ky|Kx|Kw|Kv|JR|JQ|JP|JO|cY|fP|jB|fQ|dB|nC|nD|lE|qQ|nF|wX|fB|MB|Ls|IV|IU|Lr|MA|Lq|IT|Lp|Jo|JN|Lo|Ln|Jn=>k_is
  case vG|Dt|iD|fV|nA|lD=>kit_is
