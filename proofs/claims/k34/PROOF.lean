import PyProof.Rows.All
import Wide.All
import OpenK.KLine
import OpenK.KOwn
import Wide.FinOn
import Lean
import PyProof.EqAt
import PyProof.EqKinds
import PyProof.TupleCall
import KE.KMinKey
import KE.KSortTup
import KE.KRevSl
import KE.KStateDown
import PyProof.Rows.Range3
import KE.KDictOf
import PyProof.AttrMissSeq
import KE.KRevIter
import KE.KItemsList
import KE.KPairComp
import KE.KEqDict
import KE.KDictSum
import KE.RegKIsAll
import KE.KNest
import KE.KClos
import PyProof.Draws
import PyProof.EnumMake
import PyProof.StrBlock2
import PyProof.SetKind
import PyProof.TupleKey
import PyProof.IsRules
import KE.KDictList
import PyProof.SetNew
import PyProof.Walks
import KE.KDictLaws
import PyProof.DictRoadsH
import PySem.Challenge.RW_depot_k34_rows_told
set_option Elab.async false
set_option linter.all false
set_option maxRecDepth 100000
set_option maxHeartbeats 4000000
set_option compiler.extract_closed false
def oP_ : Nat → Lean.Syntax → Lean.MacroM (Lean.TSyntax `rcasesPat)
  | 0, _ => Lean.Macro.throwUnsupported
  | n + 1, s => if s.isOfKind ``Lean.Parser.Term.anonymousCtor then do
      let xs ← s[1].getSepArgs.mapM (oP_ n)
      `(rcasesPat| ⟨$[$xs],*⟩)
    else if s.isIdent then `(rcasesPat| $(⟨s⟩):ident)
    else if s.isOfKind ``Lean.Parser.Term.hole then `(rcasesPat| _)
    else Lean.Macro.throwUnsupported
local macro_rules|`(⋯)=>`(by omega)
local macro_rules|`(∅)=>`(by kernel_rfl)
local macro_rules|`(tactic|let $p:term:=$e)=>do
  let q ← oP_ 9 p
  `(tactic|obtain $q:rcasesPat:=$e)
local macro_rules|`(command|abbrev $i:declId $s:optDeclSig $v:declVal)=>`(command|noncomputable def $i:declId $s:optDeclSig $v:declVal)
local macro_rules|`(command|@[simp]def $i:declId $s:optDeclSig $v:declVal)=>`(command|noncomputable abbrev $i:declId $s:optDeclSig $v:declVal)
local macro_rules|`(command|def $i:declId $s:optDeclSig $v:declVal)=>`(command|theorem $i:declId $(⟨Lean.mkNode ``Lean.Parser.Command.declSig #[s.raw[0],s.raw[1][0]]⟩):declSig $v:declVal)
local macro_rules|`(command|private theorem $i:declId $s:declSig $v:declVal)=>`(command|set_option tactic.hygienic true in theorem $i:declId $s:declSig $v:declVal)
local macro_rules|`(tactic|nofun)=>`(tactic|kernel_rfl)
open Option renaming some->aj,none->bh,some->jk,map_eq_some_iff->uf,none->Ab
open Bool renaming true->ak,false->ao,and_eq_true->bx,not_eq_true'->jc,false_eq_true->jf,false_ne_true->vf,not_true->vm,not_false->zj,false_or->B5,eq_iff_iff->EY,or_eq_true->EW
open PySem renaming wpAny_bind->aq,Value->au,Addr->bw,wpAny_pure->cg,Shared->cu,sizeLine->dh,wpAny->dj,model->fj,Expr->ji,World->jj,starEach->jo,Heap->ju,Program->kj,Around->mq,mainGlobals->nu,bootBuiltins->oh,cLine->qg,FuncData->qj,Stmt->qw,compareOp->qx,sysModules->qy,wpAny_holding->su,wpAny_mono->ug,wpAny_call_entry->ur,wpAny_dictEntries->xq,backTo->xr,wpAny_field->xu,NameKind->yc,wpAny_newObj_type->yd,wpAny_truthy_bool->yg,wpAny_Call_Name_kw->yp,binaryOp->yq,wpAny_setField->yu,pyNext->zx,Scope->b9,behindInMarks->nK,codeAny_builtin->sf,attributeBase->pd,wpAny_typeNameOfWhole_keyiter->Fh,wpAny_callSpecial?_slot->Cp,rawInt->eL,wpAny_rule->k8,bindArgs->ip,lookup_relabel_local->Cn,DictEntry->lh,wpAny_seqItems->w8,codeAny->gL,ExcBaseFacts->rS,wpAny_typeNameOf_keyiter->Fe,tupleKind->ny,assignEach->oI,tupleKind_room_in1->Ck,foldedSetIterable->Ci,wpAny_pyIter_list->Cf,Keyword->jv,swapsWith->oD,wpAny_attempt->Ag,letOwnedTupleGo->Cd,wpAny_passesOwn->Cc,codeAny_mono->Ac,firstArgMember->JN,wpAny_Call_method0_late->JM
open PySem.Heap renaming get?_push_of_some->cj,lt_size->ig,get?_push_size->iz,SameBut->jr,get?_update_self->Au,ExtBut->wq,size_push->B7,MadeExcOf->EV
open List renaming length_map->dw,mem_map->gk,getElem?_eq_getElem->gV,map_cons->iw,getElem?_eq_some_iff->jd,size_toArray->je,all_eq_true->jl,range->jw,getElem?_map->kh,mem_cons->lg,map_map->ni,mem_range->ou,mem_of_getElem?->qd,map_append->qe,mem_singleton->ql,mem_cons_of_mem->qu,nodup_cons->tu,pairwise_map->uc,filter_cons->uh,mem_append_right->um,mem_append->uo,length_cons->uw,getD->vg,lookup_cons->vo,pairwise_iff_getElem->wj,mem_cons_self->wk,mem_filter->xg,length_append->yj,getElem?_append_right->yt,map_congr_left->yx,length_filter_le->zc,take_succ->zm,getElem?_cons_zero->zp,nodup_append->zu,all_cons->nB,getElem_mem->sk,take_length->sg,getElem?_eq_none->As,getElem?_append_left->Cq,append_nil->se,Pairwise->pb,find?_cons->xc,getElem?_toArray->Co,length->pf,replicate->w9,any_cons->wy,mem_filterMap->Cm,filter_map->Ai,append_assoc->Cg,nodup_nil->Ah,length_take->Ce,filterMap_cons->Ff,getElem?_range->Fd,take_sublist->Fc,ext_getElem?->E8,take_of_length_le->JL,nodup_range->E6,cons_append->E5,mem_iff_getElem?->JK,mem_append_left->JJ,filter_eq_self->JI,filter_sublist->JH,mem_map_of_mem->JG,flatMap_append->JF,lookup->B1,range'->B0
open Nat renaming le_refl->dz,ne_of_lt->jq,lt_of_lt_of_le->qb,zero_le->ud,le_trans->wg,lt_irrefl->wz,lt_trichotomy->zq,le_of_lt->zy,lt_of_le_of_lt->Ar,lt_succ_of_lt->Aq,le_succ->oP,lt_trans->wt,not_lt_zero->Ca,min_eq_left->B9,ne_of_gt->Ae,le_of_eq->Ad,le_of_lt_succ->E9,le_succ_of_le->E7,zero_add->B3,mod_lt->z0,lt_or_ge->B2
open Array renaming getElem?_eq_getElem->gw,length_toList->jg,getElem?_toList->jt,getElem?_eq_some_iff->qz,getElem?_eq_none->wu,getD->k7,forIn_toList->Cj
open PySem.W renaming Frag->jm,fnOf->ux,nsIn->vh,keepIn->yh,emptyDict->yw,kia_one->za,findIn->zf,excIn->oS,kitOne->sd,clsIn->wx,instObj->Aj,codeIn->B6,Hook->B4,hideAll->E4
open PyProof.Rows renaming seqObj->qp,IntsAre->kX,get?_update_seq->B8
open Int renaming toNat_natCast->vq,add_zero->oQ,le_refl->Aa
namespace Law
open PySem PySem.W PyProof.Rows
abbrev z9(n:Nat):qw:=PySem.Challenge.pw_depot_k34_rows_told.main.body.getD n (.Pass ⟨0,0,0,0⟩)
abbrev uj:kj:={PySem.Challenge.pw_depot_k34_rows_told with main:={PySem.Challenge.pw_depot_k34_rows_told.main with body:=[z9 1,z9 2,z9 4,z9 5,z9 6,z9 8,z9 9,z9 10,z9 11,z9 12,z9 13,z9 14,z9 15,z9 16,z9 17,z9 18,z9 19,z9 20,z9 21,z9 22,z9 23,z9 24,z9 25,z9 26,z9 27,z9 28,z9 29,z9 30,z9 31]}}
abbrev DX(tb:String->Option Builtin)(p:kj)(w:jj)(lz:Nat)(ann:Option au):Nat->SharedT->Thread->Option SharedT
 |0,_,_=>bh
 |n+1,s,t=>match through t with
  |true=>aj s
  |false=>match stepOk lz ann t with
   |false=>bh
   |true=>match stepT (denote tb) p w s t with
    |some (s',t')=>DX tb p w lz ann n s' t'
    |none=>bh
def OV{tb:String->Option Builtin}{w:jj}{lz:Nat}:∀(n:Nat)(s r:SharedT)(t:Thread),DX tb p w lz ann n s t=aj r->topRun tb p w lz ann n s.abs t=aj r.abs
 |0,_,_,_,h=>by cases h
 |n+1,s,r,t,h=>by
  unfold DX at h;unfold topRun;split at h
  .rename_i e;rw[e];cases h;rfl
  .rename_i e;rw[e];split at h
   .cases h
   .rename_i e2;rw[e2];split at h
    .rename_i s' t' e3;dsimp only;rw[stepT_spec e3];exact OV n _ _ _ h
    .cases h
abbrev TF(P:Params):BT:=((boot_heap P).objs.toList.foldl (λ(z:BT×Nat) o=>(z.1.ins z.2 o,z.2+1)) (BT.nil,0)).1
abbrev frs(w:jj)(os:OsState):SharedT:=⟨TF w.params,11,(boot_heap w.params).life,#[],boot_drawn,boot_toks,os⟩
def TH(w:jj)(os:OsState):(frs w os).abs=⟨boot_heap w.params,#[],boot_drawn,boot_toks,os⟩:=by nofun
abbrev GB(p:kj)(h₀:ju)(ah:cu):Bool:=staticsOk (importedModules p.main.body) h₀ ah.heap&&namesBound p ah.heap&&gensDone ah&&laidKept h₀ ah.heap
def TK{p:kj}{Xt:cu->Bool}{α:Type}{Yf:cu->α}{Ya:jj->α}{N:Nat}{g0:Bool} 
  (e:opening p=plainProg p.main.scope.names)(hN:Nat.ble 600 N=ak)(f:∀s,fenceModules? p s=aj s)
  (ha:∀P,(boot_heap P).nsMap nu "__annotations__"=ann)(hi:∀P,(boot_heap P).isNs nu=ak)
  (h:∀(w:jj)(os:OsState),(DX treeTable p w 11 ann N (frs w os) (topStub p)).map (λs=>(GB p (boot_heap w.params) s.abs,openSeen q loose (importedModules p.main.body) Xt g0 s.abs,Yf s.abs))=aj (ak,openGood q loose,Ya w)) :
  LeftO p q loose Xt Yf Ya N g0:=λw=>by
 let⟨⟨h1,gs,d,k,os⟩,e1,e'⟩:=uf.mp (boot_open e hN f w);obtain⟨rfl,rfl,rfl,rfl⟩:h1=boot_heap w.params/\gs=#[]/\d=boot_drawn/\k=boot_toks:=by simpa using e'
 unfold openEnds;rw[e1];let⟨r,e2,e3⟩:=uf.mp (h w os);have e4:=OV _ _ _ _ e2;rw[TH]at e4;obtain⟨a1,a2,a3⟩:GB p (boot_heap w.params) r.abs=ak/\openSeen q loose (importedModules p.main.body) Xt g0 r.abs=openGood q loose/\Yf r.abs=Ya w:=by simpa using e3
 show(topFrom treeTable p w N ⟨boot_heap w.params,#[],boot_drawn,boot_toks,os⟩).map _=_;unfold topFrom;have c:(cu.mk (boot_heap w.params) #[] boot_drawn boot_toks os).heap.isNs nu=ak:=hi w.params;have s0:((cu.mk (boot_heap w.params) #[] boot_drawn boot_toks os).gens.size==0)=ak:=rfl;rw[c,s0];show((topRun treeTable p w 11 ((boot_heap w.params).nsMap nu "__annotations__") N ⟨boot_heap w.params,#[],boot_drawn,boot_toks,os⟩ (topStub p)).bind _).map _=_;rw[ha,e4];unfold GB at a1
 show Option.map _ (match staticsOk (importedModules p.main.body) (boot_heap w.params) r.abs.heap&&namesBound p r.abs.heap&&gensDone r.abs&&laidKept (boot_heap w.params) r.abs.heap with
   |true=>aj r.abs
   |false=>bh)=_
 rw[a1];show aj (_,_)=aj (_,_);rw[a2,a3]
@[simp]def Gi:cu->Bool:=λs=>xlAt uj [] s&&recOk (RowW.records (OpenRow.toRowW (OpenLaw.row PySem.Challenge.rw_depot_k34_rows_told))) s
end Law
local macro_rules
 | `(tactic| o_head $H)=>`(tactic| refine PySem.W.holds_open (q:=Law.uj) (loose:=[]) (Xt:=Law.Gi) (XP:=PySem.W.XL Law.uj []) (Yf:=B4.obs $H) (Ya:=B4.val $H)
     (YP:=B4.says $H) (N:=1940) ?hl (B4.of $H) (B4.keeps $H) (λs e=>PySem.W.xl_of s (Bool.and_eq_true_iff.mp e).1) PySem.W.XL.keeps (by rfl) (by rfl) (by rfl)
     (λs e=>PySem.W.recFacts_of (Bool.and_eq_true_iff.mp e).2) (by rfl) (by first|assumption|decide+kernel) (by decide+kernel) ⟨rfl,rfl,rfl,rfl,rfl,by decide+kernel⟩ ?hw ?hc)
open PySem PySem.W in
def Law.LN:OpenLaw.wellSaid PySem.Challenge.rw_depot_k34_rows_told=ak:=by nofun
open PySem PySem.W in
def Law.Dz(h0:∀{α:Type}(Yf:cu->α)(Ya:jj->α),LeftO (OpenLaw.row PySem.Challenge.rw_depot_k34_rows_told).prog Law.uj [] Law.Gi Yf Ya 1940)
  (h1:∀YP d,WalkO Law.uj [] (XL Law.uj []) YP (OpenRow.toRowW (OpenLaw.row PySem.Challenge.rw_depot_k34_rows_told)) d [] (λf vs=>PySem.call f vs)):OpenLaw.Holds PySem.Challenge.rw_depot_k34_rows_told:=by
 w_on;refine PySem.W.holds_law Law.LN λKf=>?_;k_head
 case hl=>exact h0 _ _
 case hw=>w_witness2
 exact h1 _ _
@[simp]def Law.DA:List Nat:=[2,3,15,17,18,20,21,22,24,25,27,28,29,31,32,34,35,36,39,40,41,43,44,46,47,48,50,51,53,54,55,57,58,60,61,62,64,65,67,68,69,71,72,74,75,76,78,79,81,82,83,85,86,88,89,90,93,94,95,97,98,100,101,102,105,106,107,110,111,112,114,115,117,118,119,121,122,124,125,126,128,129,131,132,133,135,136,138,139,140,143,144,145,147,148,150,151,152,154,155,157,158,159,161,162,164,165,166,168,169,171,172,173,175,176,178,179,180,182,183,185,186,187,190,191,192,194,195,197,198,199,202,203]
def Law.Gj:∀P,Law.DA=(Law.Dz.heap_1 P).map (·.1):=λ_=>by nofun
open PySem PySem.W in
def Law.TJ:LeftO (OpenLaw.row PySem.Challenge.rw_depot_k34_rows_told).prog Law.uj [] Law.Gi (Hook.obs (kHook Law.Dz.heap_1 Law.DA Law.Gj)) (Hook.val (kHook Law.Dz.heap_1 Law.DA Law.Gj)) 1940 :=
 Law.TK (by nofun) (by nofun) (λs=>by nofun) (ann:=some (.ref 6)) (λP=>by nofun) (λP=>by nofun) (λw os=>by nofun)
local macro_rules|`(tactic|omega)=>`(tactic|first|lia|omega (config := {}))
set_option tactic.hygienic false
namespace L2
open PySem PySem.Spec PyProof.Rows
variable{Q:Unit->cu->Prop}{x:Str}
section
structure Tr(B:ju)(x:bw)(C fl:au)(h:ju):Prop where
 ex:∃(o:Obj)(vs:Array au)(T:bw)(oT:Obj)(ts:Array au),h.get? x=aj o/\o.cls=C/\o.data=.fields vs/\vs[1]?=aj (.ref T)/\vs[2]?=aj .none/\B.get? T=bh/\T≠x/\h.get? T=aj oT/\oT.data=.fields ts/\ts[3]?=aj fl
structure vt(B:ju)(l:List Env)(x:bw)(C fl:au)(h:ju):Prop where
 stays:B.StaysIn h
 new:B.get? x=bh
 aJJ:h.FunFrames B l
 tr:Tr B x C fl h
@[simp]def AG(B:ju)(l:List Env)(x:bw)(C:au)(h:ju):Prop:=vt B l x C .none h
variable{o:Obj}{i:Nat}
section
variable{A:mq}{E:au->cu->Prop}{s:cu}{B:ju}{env:Env}{outer:List Env}{x:bw}{fl:au}
def lY{h:ju}{vs:Array au}(e:h.get? a=aj o)(d:o.data=.fields vs) :
  (h.update a (Obj.mapFields (·.setIfInBounds i v))).get? a=aj (Obj.mapFields (·.setIfInBounds i v) o)/\(Obj.mapFields (·.setIfInBounds i v) o).data=.fields (vs.setIfInBounds i v)/\(Obj.mapFields (·.setIfInBounds i v) o).cls=o.cls /\
  (∀b,b≠a->(h.update a (Obj.mapFields (·.setIfInBounds i v))).get? b=h.get? b):=by
 have d':=Obj.data_mapFields d (·.setIfInBounds i v);exact⟨Au _ e (Obj.isFreed_of_fields d'),d',Obj.cls_mapFields _ _,λb hb=>Heap.get?_update_other _ _ (Ne.symm hb)⟩
def wG{h:ju}{b:bw}{u:Obj}(e:h.get? a=aj o)(d:o.data=.fields vs)(e2:h.get? b=aj u)(n:∀ws,u.data≠.fields ws):b≠a:=λq=>by
 subst q;rw[e]at e2;cases e2;exact n vs d
def OU(f:vt B l x C fl s.heap)(h:∀h',AG B l x C h'->s.heap.UpToSlots h'->Q () {s with heap:=h' }):dj M A (setFlight (.ref x) bh) Q E s:=by
 let⟨st,nw,fu,⟨o,vs,T,oT,ts,e1,e2,e3,e4,e5,e6,e7,e8,e9,yo⟩⟩:=f;unfold setFlight;refine aq (xu e1 e3 e4 ?_);rw[if_pos (by simp)];have l3:3<ts.size:=(qz.mp yo).1;let⟨u1,u2,u3,u4⟩:=lY (i:=3) (v:=(bh:Option bw).elim au.none λf=>eL f) e8 e9;refine yu e8 e9 l3 (h _ ⟨λb u q=>?_,nw,fu.of_keeps λb u q n=>⟨u,(u4 b (wG e8 e9 q n)).trans q,rfl⟩,⟨o,vs,T,_,_,(u4 x (Ne.symm e7)).trans e1,e2,e3,e4,e5,e6,e7,u1,u2,?_⟩⟩ λb u q n=>⟨u.slots,(u4 b (wG e8 e9 q n)).trans q⟩)
 .exact(u4 b λz=>by subst z;rw[e6]at q;cases q).trans (st b u q)
 .simp[l3]
def P2{pV:Bool}{vs:Array au}(ml:A.frames=aj (env::outer))(hf:env.frame=aj L)(st:B.StaysIn s.heap)(nw:B.get? x=bh)(fu:s.heap.FunFrames B (env::outer))(e1:s.heap.get? x=aj o)(e2:o.cls=C)(e3:o.data=.fields vs)(e4:1<vs.size)(e5:vs[2]?=aj .none)
  (h:∀h',vt B (env::outer) x C (eL L) h'->s.heap.UpToSlots h'->Q () {s with heap:=h' }) :
  dj M A (do let a ←frameOf env;let pl ←entryPlaceOf L pV;let b ←EntryCells.newEntry head a .none (eL L) .none pl;setField (.ref x) 1 b) Q E s:=by
 have nf:x∉(env::outer).filterMap (·.frame):=λm=>by
  let⟨_,u,hu,hn⟩:=fu.mem m;rw[e1]at hu;cases hu;exact hn vs e3
 refine aq (wpAny_frameOf_fun ml fu hf λk so=>aq (wpAny_entryPlaceOf λpl gu=>?_));unfold EntryCells.newEntry newFields;refine aq (yd ?_ (gu.sizeOk5 _ _ _ _ _));have k1:k.get? x=aj o:=(so.2.1 x nf).trans e1;have KA:k.objs.size≠x:=λz=>absurd (ig k1) (by rw[z];exact wz _);have kB:∀b u,B.get? b=aj u->k.get? b=aj u:=λb u q=>(so.2.1 b λm=>by rw[(fu.mem m).1]at q;cases q).trans (st b u q);generalize hT:({cls:=.type "traceback",dict:=none,data:=.fields ([head,.ref L,.none,eL L,.none]++(if pl.isEmpty then w9 6 au.none else pl)).toArray}:Obj)=oT;have p1:(k.push oT).get? x=aj o:=cj _ k1;let⟨u1,u2,u3,u4⟩:=lY (i:=1) (v:=.ref k.objs.size) p1 e3;have keep:∀b u,b≠x->k.get? b=aj u->((k.push oT).update x (Obj.mapFields (·.setIfInBounds 1 (.ref k.objs.size)))).get? b=aj u:=λb u n q=>(u4 b n).trans (cj _ q)
 have pT:(k.push oT).get? k.objs.size=aj oT:=by
  subst hT;exact iz k rfl
 refine yu p1 e3 e4 (h _ ⟨λb u q=>keep b u (λz=>by subst z;rw[nw]at q;cases q) (kB b u q),nw,fu.of_keeps λb u q n=>?_,⟨_,_,k.objs.size,oT,_,u1,u3.trans e2,u2,?_,?_,?_,KA,(u4 _ KA).trans pT,by rw[←hT],?_⟩⟩ λb u q n=>?_)
 .obtain⟨sl,z⟩:=so.2.2 b u q;exact⟨_,keep b _ (wG e1 e3 q n) z,rfl⟩
 .simp[e4]
 .rw[Array.getElem?_setIfInBounds_ne (by decide)];exact e5
 .cases q:B.get? k.objs.size with
  |none=>rfl
  |some u=>exact absurd (ig (kB _ u q)) (wz _)
 .first|(simp;done)|(rcases gu with rfl|⟨_,_,_,_,_,_,_,rfl⟩<;>simp)
 .obtain⟨sl,z⟩:=so.2.2 b u q;exact⟨sl,keep b _ (wG e1 e3 q n) z⟩
def WU(ml:A.frames=aj (env::outer))(hf:env.frame=aj L)(f:AG B (env::outer) x C s.heap)(h:∀h',vt B (env::outer) x C (eL L) h'->s.heap.UpToSlots h'->Q () {s with heap:=h' }):dj M A (noteFrame (.ref x) env) Q E s:=by
 let⟨st,nw,fu,⟨o,vs,T,oT,ts,e1,e2,e3,e4,e5,e6,e7,e8,e9,yo⟩⟩:=f;unfold noteFrame;simp only[hf];refine aq (xu e1 e3 e4 ?_);rw[if_pos (by simp)];refine aq (xu e8 e9 yo ?_);rw[if_neg (by simp[eL])];have l3:3<ts.size:=(qz.mp yo).1;let⟨u1,u2,u3,u4⟩:=lY (i:=3) (v:=.none) e8 e9;refine aq (yu e8 e9 l3 ?_);refine P2 ml hf (λb u q=>(u4 b λz=>by subst z;rw[e6]at q;cases q).trans (st b u q)) nw (fu.of_keeps λb u q n=>⟨u,(u4 b (wG e8 e9 q n)).trans q,rfl⟩) ((u4 x (Ne.symm e7)).trans e1) e2 e3 (qz.mp e4).1 e5 λh' f' up=>h h' f' ?_;exact λb u q n=>up b u ((u4 b (wG e8 e9 q n)).trans q) n
def vt.tail(f:vt B (env::outer) x C fl h):vt B outer x C fl h:=by
 let⟨st,nw,⟨_,_,fu⟩,tr⟩:=f;exact⟨st,nw,fu,tr⟩
def Yl(ml:A.frames=aj (env::outer))(hf:env.frame=aj L)(f:AG B (env::outer) x C s.heap)(h:∀h',AG B outer x C h'->s.heap.UpToSlots h'->Q () {s with heap:=h' }):dj M A (leaving env (.ref x)) Q E s:=by
 unfold leaving;refine aq (WU ml hf f λh1 f1 up1=>OU f1 λh2 f2 Fv=>?_);exact h h2 f2.tail (up1.trans Fv)
def ZL{h0:ju}(ml:A.frames=aj (env::outer))(hf:env.frame=aj L)(st:B.StaysIn h0)(fu:h0.FunFrames B (env::outer))(hm:EV h0 s.heap x C us)(h:∀h',AG B outer x C h'->s.heap.UpToSlots h'->Q () {s with heap:=h' }):dj M A (leaving env (.ref x)) Q E s:=by
 let⟨t,e1,_,_⟩:=hm.there;unfold leaving noteFrame;simp only[hf];refine aq (aq (xu (vs:=#[.ref t,.none,.none,.none,.bool ao,.none]) (i:=1) e1 rfl rfl ?_));rw[if_neg (by simp)]
 have nw:B.get? x=bh:=by
  cases q:B.get? x with
  |none=>rfl
  |some u=>have:=st x u q;rw[hm.new]at this;cases this
 refine P2 ml hf (λb u q=>hm.keeps b u (st b u q)) nw (fu.of_keeps λb u q _=>⟨u,hm.keeps b u q,rfl⟩) e1 rfl rfl (by simp) rfl λh1 f1 up1=>OU f1 λh2 f2 Fv=>?_;exact h h2 f2.tail (up1.trans Fv)
end
abbrev nv(A:mq)(h:ju):Prop:=A.handled=bh∨∃x o vs,A.handled=aj (.ref x)/\h.get? x=aj o/\o.data=.fields vs/\vs[2]?=aj .none
def a7S:entryFor table "proto.unchain"=aj Builtin.«proto.unchain» :=entryFor_of_fast (by nofun)
variable{Q:Option au->cu->Prop}
section
variable{prog:kj}{w:jj}{A:mq}{E:au->cu->Prop}{s:cu}
def Zd{α:Type}{Q:α->cu->Prop}{a:bw}{oa:Obj}{ws:Array au}(hq:nv A s.heap)(ea:s.heap.get? a=aj oa)(da:oa.data=.fields ws)(la:2<ws.size)(na:∀x,A.handled=aj (.ref x)->x≠a)
  (h:∀h',(∀b,b≠a->h'.get? b=s.heap.get? b)->(∃o,h'.get? a=aj o/\o.cls=oa.cls)->E (.ref a) {s with heap:=h' }):dj (fj prog w) A (raiseNew (.ref a):Sem α) Q E s:=by
 unfold raiseNew;refine aq (wpAny_handled ?_);rcases hq with hn|⟨x,o,vs,hx,ex,dx,vx⟩
 .rw[hn];exact aq (cg (wpAny_throw (h s.heap (λ_ _=>rfl) ⟨oa,ea,rfl⟩)))
 .rw[hx];have ne:=na x hx;show dj (fj prog w) _ (if((au.ref x)!=(au.ref a))=ak then _ else _) _ _ _;rw[if_pos (by simpa using ne)];refine aq (su (wpAny_runValue (sf a7S ?_)));show dj (fj prog w) _ (field (.ref x) 2 >>= _) _ _ _;refine aq (xu ex dx vx ?_);show dj (fj prog w) _ (if((au.none:au)==au.none)=ak then _ else _) _ _ _;rw[if_pos (by decide)];refine aq (cg (cg ?_));let⟨u1,u2,u3,u4⟩:=lY (i:=2) (v:=.ref x) ea da;show dj (fj prog w) _ (setField (.ref a) 2 (.ref x) >>= _) _ _ _;exact aq (yu ea da la (wpAny_throw (h _ u4 ⟨_,u1,u3⟩)))
def nC{α:Type}{Q:α->cu->Prop}(hq:nv A s.heap)(h:∀a h',(∀b o,s.heap.get? b=aj o->h'.get? b=aj o)->(∃o,h'.get? a=aj o/\o.cls=.type "StopIteration")->E (.ref a) {s with heap:=h' }) :
  dj (fj prog w) A (newExc (.type "StopIteration") [] >>= λe=>(raiseNew e:Sem α)) Q E s:=by
 refine aq ?_;unfold newExc newTuple;refine aq (yd (aq (wpAny_of_eq (a:=Value.none) (by simp only[JN];rfl) (yd ?_ (by size_fits)))) (by size_fits));generalize hh:s.heap.push {cls:=.type "tuple",data:=.seq ([]:List au).toArray}=h1;generalize ho:({cls:=.type "StopIteration",data:=.fields (#[.ref s.heap.objs.size,.none,.none,.none,.bool ao,.none]++ownMembersOf (.type "StopIteration") [])}:Obj)=o1;have k1:∀b o,s.heap.get? b=aj o->(h1.push o1).get? b=aj o:=λb o e=>cj _ (hh ▸ cj _ e)
 have ea:(h1.push o1).get? h1.objs.size=aj o1:=by
  subst ho;exact iz h1 rfl
 have old:∀b o,s.heap.get? b=aj o->b≠h1.objs.size:=λb o e z=>by
  have l1:b<h1.objs.size:=by
   rw[←hh,B7];exact Aq (ig e)
  exact absurd l1 (by rw[z];exact wz _)
 refine Zd (ws:=#[.ref s.heap.objs.size,.none,.none,.none,.bool ao,.none]++ownMembersOf (.type "StopIteration") []) ?_ ea (by rw[←ho]) (by simp[ownMembersOf]) (λx hx=>?_) λh' k c=>h h1.objs.size h' (λb o e=>(k b (old b o e)).trans (k1 b o e)) ?_
 .rcases hq with z|⟨x,o,vs,a1,a2,a3⟩
  .exact .inl z
  .exact .inr ⟨x,o,vs,a1,k1 _ _ a2,a3⟩
 .rcases hq with z|⟨x',o,vs,a1,a2,a3⟩
  .rw[z]at hx;cases hx
  .rw[a1]at hx;cases hx;exact old _ _ a2
 .obtain⟨o,e,c⟩:=c;exact⟨o,e,by rw[c,←ho]⟩
def qT{T id:String}{b:Builtin}(slot:Slot T (Str.ofString "__next__") id)(entry:entryFor table id=aj b)(hT:s.TypeIs (.ref it) T)(args:argsOk id ⟨[.ref it],[]⟩)
  (hb:dj (fj prog w) A.in1 (b ⟨[.ref it],[]⟩) (λ_ _=>False) (λe s'=>∃a o,e=.ref a/\s'.heap.get? a=aj o/\o.cls=.type "StopIteration"/\Q bh s') s):dj (fj prog w) A (zx (.ref it)) Q E s:=by
 unfold zx;refine aq (Ag (Cp hT slot (ur slot hT entry (ug hb (λ_ _ z=>z.elim) λe s' z=>?_) args)));let⟨a,o,rfl,e1,e2,q⟩:=z;exact aq (wpAny_isInstance (T:="StopIteration") (b:=true) ⟨o,e1,e2⟩ isSubtype_stop (cg q))
def E2(hq:nv A s.heap)(e:s.heap.get? it=aj o)(d:o.data=.fields vs)(l:vs[2]?≠aj .none):nv A (s.heap.update it (Obj.mapFields (·.setIfInBounds i v))):=by
 rcases hq with z|⟨x,ox,ws,a1,a2,a3,a4⟩
 .exact .inl z
 .refine .inr ⟨x,ox,ws,a1,?_,a3,a4⟩
  have ne:x≠it:=λz=>by
   subst z;rw[e]at a2;cases a2;rw[d]at a3;cases a3;exact l a4
  exact((lY e d).2.2.2 x ne).trans a2
def Zc{items:Array au}(hq:nv A s.heap)(hit:s.heap.IsListIter it l i)(hl:s.heap.IsList l items)(hx:items[i]?=bh)
  (h:∀h',wq it s.heap h'->Q bh {s with heap:=h' }):dj (fj prog w) A (zx (.ref it)) Q E s:=by
 let⟨o,e1,c1,d1⟩:=id hit;let⟨ol,e2,_,nl,d2⟩:=hl;refine qT slot_listiter_next entry_listiter_next hit.typeIs (args_listiter_next _) ?_;show dj (fj prog w) _ (field (.ref it) 0 >>= _) _ _ s;refine aq (xu e1 d1 (x:=.ref l) rfl ?_);show dj (fj prog w) _ (field (.ref it) 1 >>= _) _ _ s;refine aq (xu e1 d1 (x:=.int i 0) rfl ?_);show dj (fj prog w) _ (seqItems? (.ref l) >>= _) _ _ s;refine aq (w8 e2 d2 ?_);simp only[hx,vq];refine aq (k8 (aq (yu e1 d1 (by simp) ?_)));refine nC (A:=A.in1) (E2 hq e1 d1 (by simp)) λa h' k c=>?_;let⟨oa,ea,ca⟩:=c;exact⟨a,oa,rfl,ea,ca,h h' λb ob n e=>k b ob (((lY e1 d1).2.2.2 b n).trans e)⟩
def Yk{items:Array au}(hq:nv A s.heap)(hit:s.heap.IsTupleIter it l i)(hl:s.heap.IsTuple l items)(hx:items[i]?=bh)
  (h:∀h',wq it s.heap h'->Q bh {s with heap:=h' }):dj (fj prog w) A (zx (.ref it)) Q E s:=by
 let⟨o,e1,c1,d1⟩:=id hit;let⟨ol,e2,_,nl,d2⟩:=hl;refine qT F.slot_tuple_iterator_next F.entry_tuple_iterator_next hit.typeIs (F.args_tuple_iterator_next_1 _) ?_;show dj (fj prog w) _ (field (.ref it) 0 >>= _) _ _ s;refine aq (xu e1 d1 (x:=.ref l) rfl ?_);show dj (fj prog w) _ (field (.ref it) 1 >>= _) _ _ s;refine aq (xu e1 d1 (x:=.int i 0) rfl ?_);show dj (fj prog w) _ (seqItems? (.ref l) >>= _) _ _ s;refine aq (w8 e2 d2 ?_);simp only[hx,vq];refine aq (k8 (aq (yu e1 d1 (by simp) ?_)));refine nC (A:=A.in1) (E2 hq e1 d1 (by simp)) λa h' k c=>?_;let⟨oa,ea,ca⟩:=c;exact⟨a,oa,rfl,ea,ca,h h' λb ob n e=>k b ob (((lY e1 d1).2.2.2 b n).trans e)⟩
def Yj{x left step:Int}(hq:nv A s.heap)(hit:IsRangeIter s.heap it x left step)(CU:left<=0)
  (h:∀h',wq it s.heap h'->Q bh {s with heap:=h' }):dj (fj prog w) A (zx (.ref it)) Q E s:=by
 refine qT F.slot_range_iterator_next F.entry_range_iterator_next ⟨_,hit,rfl⟩ (F.args_range_iterator_next_1 _) ?_;show dj (fj prog w) _ (field (.ref it) 0 >>= _) _ _ s;refine aq (xu hit rfl (i:=0) rfl ?_);show dj (fj prog w) _ (field (.ref it) 1 >>= _) _ _ s;refine aq (xu hit rfl (i:=1) rfl ?_);show dj (fj prog w) _ (field (.ref it) 2 >>= _) _ _ s;refine aq (xu hit rfl (i:=2) rfl ?_);show dj (fj prog w) _ (if left<=0 then _ else _) _ _ s;rw[if_pos CU];refine aq (k8 (aq ?_));refine nC (A:=A.in1) hq λa h' k c=>?_;let⟨oa,ea,ca⟩:=c;exact⟨a,oa,rfl,ea,ca,h h' λb ob n e=>k b ob e⟩
def Zb{t:Tok}(hq:nv A s.heap)(hit:s.heap.IsStrIter it "str_ascii_iterator" x t i)(hx:x.cps[i]?=bh)
  (h:∀h',wq it s.heap h'->Q bh {s with heap:=h' }):dj (fj prog w) A (zx (.ref it)) Q E s:=by
 let⟨o,e1,c1,d1⟩:=id hit;refine qT F.slot_str_ascii_iterator_next F.entry_str_ascii_iterator_next hit.typeIs (F.args_str_ascii_iterator_next_1 _) ?_;show dj (fj prog w) _ (field (.ref it) 0 >>= _) _ _ s;refine aq (xu e1 d1 (x:=.str x t) rfl ?_);show dj (fj prog w) _ (field (.ref it) 1 >>= _) _ _ s;refine aq (xu e1 d1 (x:=.int i 0) rfl ?_);simp only[hx,vq];refine aq (k8 (aq (yu e1 d1 (by simp) (aq (wpAny_letGo ?_)))));refine nC (A:=A.in1) (E2 hq e1 d1 (by simp)) λa h' k c=>?_;let⟨oa,ea,ca⟩:=c;exact⟨a,oa,rfl,ea,ca,h h' λb ob n e=>k b ob (((lY e1 d1).2.2.2 b n).trans e)⟩
def Za{t:Tok}(hq:nv A s.heap)(hit:s.heap.IsStrIter it "str_iterator" x t i)(hx:x.cps[i]?=bh)
  (h:∀h',wq it s.heap h'->Q bh {s with heap:=h' }):dj (fj prog w) A (zx (.ref it)) Q E s:=by
 let⟨o,e1,c1,d1⟩:=id hit;refine qT F.slot_str_iterator_next F.entry_str_iterator_next hit.typeIs (F.args_str_iterator_next_1 _) ?_;show dj (fj prog w) _ (field (.ref it) 0 >>= _) _ _ s;refine aq (xu e1 d1 (x:=.str x t) rfl ?_);show dj (fj prog w) _ (field (.ref it) 1 >>= _) _ _ s;refine aq (xu e1 d1 (x:=.int i 0) rfl ?_);simp only[hx,vq];refine aq (k8 (aq (yu e1 d1 (by simp) (aq (wpAny_letGo ?_)))));refine nC (A:=A.in1) (E2 hq e1 d1 (by simp)) λa h' k c=>?_;let⟨oa,ea,ca⟩:=c;exact⟨a,oa,rfl,ea,ca,h h' λb ob n e=>k b ob (((lY e1 d1).2.2.2 b n).trans e)⟩
end
end
section
@[simp]def Key:=Sum Int Str
abbrev uG:Key->au->Bool
 |.inl k,v=>au.isInt k v
 |.inr x,v=>au.isStrOf x v
abbrev aJL(w:jj):Key->Int
 |.inl k=>hashInt k
 |.inr x=>hashStr w x
def cJ:∀{k:Key}{v:au},uG k v=ak->(∃i t,k=Sum.inl i/\v=au.int i t)∨(∃x t,k=Sum.inr x/\v=au.str x t)
 |.inl i,v,h=>by
  let⟨t,e⟩:=Value.isInt_shape (k:=i) (v:=v) h;exact .inl ⟨i,t,rfl,e⟩
 |.inr x,v,h=>by
  let⟨t,e⟩:=Value.isStrOf_shape (x:=x) (v:=v) h;exact .inr ⟨x,t,rfl,e⟩
def Y9(i:Int)(t:Tok):uG (.inl i) (.int i t)=ak:=by simp[uG,au.isInt]
def Y8(x:Str)(t:Tok):uG (.inr x) (.str x t)=ak:=by simp[uG,au.isStrOf]
def Um(a b:Int):decide ((Sum.inl a:Key)=Sum.inl b)=(a==b):=by
 by_cases e:a=b
 .subst e;simp
 .have h:¬ (Sum.inl a:Key)=Sum.inl b:=λq=>e (Sum.inl.inj q);rw[decide_eq_false h];exact(beq_eq_false_iff_ne.mpr e).symm
def Ul(a b:Str):decide ((Sum.inr a:Key)=Sum.inr b)=decide (a=b):=by
 by_cases e:a=b
 .subst e;simp
 .have h:¬ (Sum.inr a:Key)=Sum.inr b:=λq=>e (Sum.inr.inj q);rw[decide_eq_false h,decide_eq_false e]
def Uk(a:Int)(b:Str):decide ((Sum.inl a:Key)=Sum.inr b)=ao:=decide_eq_false (λq=>nomatch q)
def Uj(a:Str)(b:Int):decide ((Sum.inr a:Key)=Sum.inl b)=ao:=decide_eq_false (λq=>nomatch q)
abbrev aJ(prog:kj)(w:jj):PySem.KeyKind prog w Key where
 is:=uG
 hash:=aJL w
 inj:=λv a b ha hb=>by
  rcases cJ ha with⟨i,t,rfl,rfl⟩|⟨x,t,rfl,rfl⟩
  .rcases cJ hb with⟨j,u,rfl,e⟩|⟨y,u,rfl,e⟩
   .injection e with e1 _;rw[e1]
   .exact nomatch e
  .rcases cJ hb with⟨j,u,rfl,e⟩|⟨y,u,rfl,e⟩
   .exact nomatch e
   .injection e with e1 _;rw[e1]
 byValue:=λk v h=>by
  rcases cJ h with⟨i,t,rfl,rfl⟩|⟨x,t,rfl,rfl⟩<;>rfl
 pyHash:=λhv h=>by
  rcases cJ hv with⟨i,t,rfl,rfl⟩|⟨x,t,rfl,rfl⟩
  .exact wpAny_pyHash_int h
  .exact wpAny_pyHash_str h
 eqBool:=λhu hv h=>by
  rcases cJ hu with⟨i,t,rfl,rfl⟩|⟨x,t,rfl,rfl⟩
  .rcases cJ hv with⟨j,u,rfl,rfl⟩|⟨y,u,rfl,rfl⟩
   .rw[Um]at h;exact wpAny_eqBool_int h
   .rw[Uk]at h;exact SeqAt.EqAt.int_str i t y u _ _ _ _ h
  .rcases cJ hv with⟨j,u,rfl,rfl⟩|⟨y,u,rfl,rfl⟩
   .rw[Uj]at h;exact SeqAt.EqAt.str_int x t j u _ _ _ _ h
   .rw[Ul]at h;exact wpAny_eqBool_str h
 «strs» :=λk x t v h=>by
  rcases cJ h with⟨i,u,rfl,e⟩|⟨y,u,rfl,e⟩
  .exact nomatch e
  .injection e with e1 _;subst e1;cases v<;>rfl
def RB(prog:kj)(w:jj)(i:Int)(t:Tok):(aJ prog w).is (.inl i) (.int i t)=ak:=Y9 i t
def ω(prog:kj)(w:jj)(x:Str)(t:Tok):(aJ prog w).is (.inr x) (.str x t)=ak:=Y8 x t
end
section
inductive V where
 |ag|bl (b:Bool)|int (i:Int)|str (x:Str)|Gu (b:Array UInt8)|Gm (b:UInt64)|ref (a:bw)|ty (n:String)
 deriving DecidableEq
abbrev RelV:V->au->Prop
 |.ag,u=>u=au.none
 |.bl b,u=>u=au.bool b
 |.int i,u=>∃t,u=au.int i t
 |.str x,u=>∃t,u=au.str x t
 |.Gu b,u=>∃t,u=au.bytes b t
 |.Gm b,u=>∃t,u=au.float b t
 |.ref a,u=>u=au.ref a
 |.ty n,u=>u=au.type n
@[simp]def Vals:List V->List au->Prop:=Paired RelV
def Vals.length{xs:List V}{us:List au}(r:Vals xs us):xs.length=us.length:=Paired.length r
def Vals.get:∀{xs:List V}{us:List au}{i:Nat}{x:V},Vals xs us->xs[i]?=aj x->∃u,us[i]?=aj u/\RelV x u
 |_,_,_,_,.nil,e=>by simp at e
 |_,_,0,_,.cons r _,e=>by simp at e;subst e;exact⟨_,rfl,r⟩
 |_,_,i+1,x,.cons _ t,e=>by
  let⟨u,h1,h2⟩:=Vals.get (i:=i) (x:=x) t (by simpa using e);exact⟨u,by simpa using h1,h2⟩
def Vals.append:∀{xs ys:List V}{us ws:List au},Vals xs us->Vals ys ws->Vals (xs++ys) (us++ws)
 |_,_,_,_,.nil,s=>s
 |_,_,_,_,.cons r t,s=>.cons r (Vals.append t s)
abbrev iF:Option V->Option au->Prop
 |some v,aj u=>RelV v u
 |none,bh=>True
 |_,_=>False
abbrev KV{κ:Type}:List (κ×V)->List (κ×au)->Prop:=Paired λ(p:κ×V)(q:κ×au)=>p.1=q.1/\RelV p.2 q.2
abbrev kV:Key->V
 |.inl i=>.int i
 |.inr x=>.str x
inductive HO where
 |lst (xs:List V)
 |tup (xs:List V)
 |dK (aa:List (Key×V))|dT (aa:List (List Key×V))
 |set (S:Int->Bool) (n:Nat)
 |ins (C dx:bw) (fs:List (Str×V))
 |own (x:bw)
 |xd (fs:List (Str×V))
 |met (f x:bw)
 |C7 (lo hi:Int)
 |fY (o:Obj) (u:HO)
 |fT (ps:Array au)
 |ext (φ:ju->Prop)
@[simp]def Hp:=Addr->Option HO
abbrev upd(H:Hp)(a:bw)(o:HO):Hp:=λb=>if b=a then aj o else H b
def aN:upd H a o a=aj o:=by unfold upd;rw[if_pos rfl]
def aZ{b:bw}(h:b≠a):upd H a o b=H b:=by unfold upd;rw[if_neg h]
def Ef{H:Hp}{a b:bw}{o u:HO}(h:H a=aj o)(h':H b=aj u)(d:o≠u):a≠b:=by
 intro e;subst e;rw[h]at h';exact d (jk.inj h')
def jF{H:Hp}{a b:bw}{o:HO}(h:H a=aj o)(h':H b=bh):a≠b:=by
 intro e;subst e;rw[h]at h';cases h'
section
variable(P:kj)(w:jj)
abbrev eX(H:Hp)(h:ju)(a:bw):HO->Prop
 |.lst xs=>xs.length<=dh/\∃(its:List au)(n:Nat),Vals xs its/\h.get? a=aj {cls:=.type "list",data:=.seq its.toArray n}
 |.tup xs=>xs.length<=dh/\∃its:List au,Vals xs its/\IsTup h a its.toArray
 |.dK aa=>aa.length<=dh/\(a==qy)=ao/\∃vs,KV aa vs/\h.DictOf (aJ P w) a vs
 |.dT aa=>aa.length<=dh/\(a==qy)=ao/\∃xs:List (List Key×bw×au),
   Paired (λ(p:List Key×V)(q:List Key×bw×au)=>p.1=q.1/\H q.2.1=aj (.tup (p.1.map kV))/\RelV p.2 q.2.2) aa xs /\
   ∃o es ep,h.get? a=aj o/\o.ExactDict/\o.data=.dict es ep/\es.toList=xs.map (entryOfKey (ny (aJ P w)))/\(xs.map (·.1)).Nodup
 |.set S n=>h.SetOf (intKind P w) a S n
 |.ins C dx fs=>H dx=aj (.own a)/\fs.length<=1000/\dx≠a/\h.get? a=aj (Aj C dx) /\
   ∃mA,h.Ns1 dx mA/\(∀f,iF (fs.lookup f) (mA f))/\PySem.Within mA (fs.map (·.1))
 |.own _=>∃o,h.get? a=aj o
 |.xd fs=>∃mA,h.Ns1 a mA/\∀f,iF (fs.lookup f) (mA f)
 |.C7 lo hi=>∃t u v,h.get? a=aj {cls:=.type "range",data:=.fields #[.int lo t,.int hi u,.int 1 v]}
 |.fY o u=>h.get? a=aj o/\eX H h a u
 |.fT ps=>h.get? a=aj {cls:=.none,data:=.fields ps}
 |.met f x=>h.get? a=aj (PySem.W.methodObj (.ref f) (.ref x))
 |.ext φ=>φ h/\(∃o,h.get? a=aj o)/\∀h1 h2:ju,φ h1->(∀o,h1.get? a=aj o->h2.get? a=aj o)->φ h2
abbrev wX(H:Hp)(h:ju):Prop:=∀a o,H a=aj o->eX P w H h a o
end
section
variable{w:jj}{h h':ju}{a:bw}
def eX.lt(x:eX P w H h a o):a<h.objs.size:=by
 cases o with
 |lst xs=>let⟨_,_,_,_,e⟩:=x;exact ig e
 |tup xs=>let⟨_,_,_,p⟩:=x;exact p.lt
 |dK aa=>let⟨_,_,_,_,o,_,_,e,_⟩:=x;exact ig e
 |dT aa=>let⟨_,_,_,_,o,_,_,e,_⟩:=x;exact ig e
 |set S n=>let⟨o,_,_,_,e,_⟩:=x;exact ig e
 |ins C dx fs=>let⟨_,_,_,e,_⟩:=x;exact ig e
 |own y=>let⟨_,e⟩:=x;exact ig e
 |xd fs=>let⟨_,⟨_,_,_,e,_⟩,_⟩:=x;exact ig e
 |C7 lo hi=>let⟨_,_,_,e⟩:=x;exact ig e
 |fY ob u=>let⟨e,_⟩:=x;exact ig e
 |fT ps=>exact ig (show h.get? a=aj _ from x)
 |met f y=>exact ig (show h.get? a=aj _ from x)
 |ext φ=>let⟨_,⟨_,e⟩,_⟩:=x;exact ig e
def Paired.zh{α β:Type}{F G:α->β->Prop}:∀{l₁:List α}{CF:List β},Paired F l₁ CF->(∀a b,F a b->G a b)->Paired G l₁ CF
 |_,_,.nil,_=>.nil
 |_,_,.cons r t,f=>.cons (f _ _ r) (Paired.zh t f)
def eX.b5(x:eX P w H h a o)(k:∀b u,(b=a∨H b=aj (.own a))->h.get? b=aj u->h'.get? b=aj u)
  (ho:∀b,H b=aj (.own a)->H' b=aj (.own a))(ht:∀b xs,H b=aj (.tup xs)->H' b=aj (.tup xs)):eX P w H' h' a o:=by
 induction o with
 |lst xs=>let⟨z,its,n,r,e⟩:=x;exact⟨z,its,n,r,k _ _ (.inl rfl) e⟩
 |tup xs=>let⟨z,its,r,ob,e,c⟩:=x;exact⟨z,its,r,ob,k _ _ (.inl rfl) e,c⟩
 |dK aa=>let⟨z,y,vs,r,ob,es,ep,e,c⟩:=x;exact⟨z,y,vs,r,ob,es,ep,k _ _ (.inl rfl) e,c⟩
 |dT aa =>
  let⟨z,y,xs,r,ob,es,ep,e,c⟩:=x;exact⟨z,y,xs,Paired.zh r λp q z=>⟨z.1,ht _ _ z.2.1,z.2.2⟩,ob,es,ep,k _ _ (.inl rfl) e,c⟩
 |set S n=>let⟨ob,es,ep,t,e,c⟩:=x;exact⟨ob,es,ep,t,k _ _ (.inl rfl) e,c⟩
 |ins C dx fs =>
  let⟨d,z,ne,e,mA,⟨od,es,ep,e2,c⟩,r⟩:=x;exact⟨ho _ d,z,ne,k _ _ (.inl rfl) e,mA,⟨od,es,ep,k _ _ (.inr d) e2,c⟩,r⟩
 |own y=>let⟨ob,e⟩:=x;exact⟨ob,k _ _ (.inl rfl) e⟩
 |xd fs=>let⟨mA,⟨od,es,ep,e,c⟩,r⟩:=x;exact⟨mA,⟨od,es,ep,k _ _ (.inl rfl) e,c⟩,r⟩
 |C7 lo hi=>let⟨t,u,v,e⟩:=x;exact⟨t,u,v,k _ _ (.inl rfl) e⟩
 |fY ob u ih=>let⟨e,q⟩:=x;exact⟨k _ _ (.inl rfl) e,ih q⟩
 |fT ps =>
  have e:h.get? a=aj {cls:=.none,data:=.fields ps}:=x;show h'.get? a=aj {cls:=.none,data:=.fields ps};exact k a _ (.inl rfl) e
 |met f y =>
  have e:h.get? a=aj (PySem.W.methodObj (.ref f) (.ref y)):=x;show h'.get? a=aj (PySem.W.methodObj (.ref f) (.ref y));exact k a _ (.inl rfl) e
 |ext φ=>let⟨p,⟨o,e⟩,st⟩:=x;exact⟨st _ _ p λo q=>k _ _ (.inl rfl) q,⟨o,k _ _ (.inl rfl) e⟩,st⟩
def wX.lt(x:wX P w H h)(e:H a=aj o):a<h.objs.size:=(x a o e).lt
def wX.fresh(x:wX P w H h)(e:h.objs.size<=a):H a=bh:=by
 cases q:H a with
 |none=>rfl
 |some u=>exact absurd (qb (x.lt q) e) (wz _)
def wX.kept(x:wX P w H h)(k:∀b u,h.get? b=aj u->h'.get? b=aj u):wX P w H h':=λa o e =>
 (x a o e).b5 (λb u _ q=>k b u q) (λ_ q=>q) λ_ _ q=>q
def wX.laid(x:wX P w H h)(k:∀b u,h.get? b=aj u->h'.get? b=aj u)(hp:h.objs.size<=a)(new:eX P w (upd H a o) h' a o):wX P w (upd H a o) h':=λb u e=>by
 have hn:=x.fresh hp;by_cases hb:b=a
 .subst hb;rw[aN]at e;cases e;exact new
 .rw[aZ hb]at e;exact(x b u e).b5 (λc v _ q=>k c v q) (λc q=>by rw[aZ (jF q hn)];exact q) λc xs q=>by rw[aZ (jF q hn)];exact q
end
abbrev Rd(H:Hp)(a:bw)(u:HO):Prop:=H a=aj u∨∃o,H a=aj (.fY o u)
def Rd.of(h:H a=aj u):Rd H a u:=.inl h
def Rd.ok{w:jj}(r:Rd H a u)(x:wX P w H h):eX P w H h a u:=by
 rcases r with r|⟨o,r⟩
 .exact x a u r
 .obtain⟨_,q⟩:=x a _ r;exact q
abbrev xh:Option HO->Prop
 |some (.lst _)=>True
 |some (.dK _)=>True
 |some (.dT _)=>True
 |some (.set _ _)=>True
 |some (.ins _ _ _)=>True
 |some (.ext _)=>True
 |_=>False
section
variable{w:jj}{h h':ju}{x:bw}
def wX.write(ok:wX P w H h)(mu:xh (H x))(he:e=x∨H e=aj (.own x))(k:∀b u,b≠e->h.get? b=aj u->h'.get? b=aj u)(yf:∃u,h'.get? e=aj u)
  (new:eX P w (upd H x o') h' x o'):wX P w (upd H x o') h':=λb u q=>by
 have Qm:∀c y,H c=aj (.own y)->c≠x:=λc y r z=>by subst z;rw[r]at mu;exact mu
 have aJN:∀c xs,H c=aj (.tup xs)->c≠x:=λc xs r z=>by subst z;rw[r]at mu;exact mu
 by_cases hb:b=x
 .subst hb;rw[aN]at q;cases q;exact new
 .rw[aZ hb]at q;by_cases ue:b=e
  .have q':H b=aj (.own x):=by
    rcases he with z|z
    .exact absurd (ue.trans z) hb
    .rw[ue];exact z
   rw[q]at q';cases q';let⟨v,hv⟩:=yf;exact⟨v,by rw[ue];exact hv⟩
  .refine(ok b u q).b5 (λc v hc r=>k c v ?_ r) (λc r=>by rw[aZ (Qm c b r)];exact r) λc xs r=>by rw[aZ (aJN c xs r)];exact r
   rcases hc with rfl|hc
   .exact ue
   .rintro rfl;rcases he with z|z
    .exact Qm c b hc z
    .rw[hc]at z;cases z;exact hb rfl
end
structure Un(fs ex:List bw)(H H':Hp)(h h':ju):Prop where
 keep:∀b o,h.get? b=aj o->H b=bh->b∉fs->b∉ex->h'.get? b=aj o
 slot:∀b o,h.get? b=aj o->H b=bh->b∈fs->b∉ex->∃sl,h'.get? b=aj {o with slots:=sl}
 free:∀b o,h.get? b=aj o->H b=bh->b∉ex->H' b=bh
 there:∀b o,h.get? b=aj o->b∉ex->∃o',h'.get? b=aj o'
 aE:∀b xs,H b=aj (.tup xs)->H' b=aj (.tup xs)
 lZ:∀b o u,H b=aj (.fY o u)->H' b=aj (.fY o u)
 yL:∀b ps,H b=aj (.fT ps)->∃more,H' b=aj (.fT (ps++more))
section
variable{fs ex:List bw}{h h1 h':ju}{x:bw}
def Un.any(u:Un fs ex H H1 h h1){b:bw}{ob:Obj}(q:h.get? b=aj ob)(n:H b=bh)(hx:b∉ex):∃sl,h1.get? b=aj {ob with slots:=sl}:=by
 by_cases hb:b∈fs
 .exact u.slot b ob q n hb hx
 .exact⟨ob.slots,u.keep b ob q n hb hx⟩
def Un.kept(k:∀b u,h.get? b=aj u->h'.get? b=aj u):Un fs ex H H h h' :=
 ⟨λb ob q _ _ _=>k b ob q,λb ob q _ _ _=>⟨ob.slots,k b ob q⟩,λ_ _ _ n _=>n,λb ob q _=>⟨ob,k b ob q⟩,λ_ _ q=>q,λ_ _ _ q=>q,λ_ ps q=>⟨#[],by rw[q];simp⟩⟩
def Un.refl:Un fs ex H H h h:=Un.kept λ_ _ q=>q
def Un.laid(k:∀b u,h.get? b=aj u->h'.get? b=aj u)(hp:h.objs.size<=a)(hn:H a=bh):Un fs ex H (upd H a o) h h' where
 keep:=λb u q _ _ _=>k b u q
 slot:=λb u q _ _ _=>⟨u.slots,k b u q⟩
 free:=λb u q n _=>by rw[aZ (jq (qb (ig q) hp))];exact n
 there:=λb u q _=>⟨u,k b u q⟩
 aE:=λb xs q=>by rw[aZ (jF q hn)];exact q
 lZ:=λb u xs q=>by rw[aZ (jF q hn)];exact q
 yL:=λb ps q=>⟨#[],by rw[aZ (jF q hn),q];simp⟩
def Un.write(mu:xh (H x))(he:e=x∨H e=aj (.own x))(k:∀b u,b≠e->h.get? b=aj u->h'.get? b=aj u)(yf:∃u,h'.get? e=aj u):Un fs ex H (upd H x o) h h':=by
 have hx:∀b,H b=bh->b≠x:=λb n z=>by subst z;rw[n]at mu;exact mu
 have hb:∀b,H b=bh->b≠e:=λb n z=>by
  subst z;rcases he with r|r
  .exact hx b n r
  .rw[n]at r;cases r
 have hm:∀b u,H b=aj u->¬ xh (aj u)->b≠x:=λb u q nm z=>by subst z;rw[q]at mu;exact nm mu
 refine⟨λb u q n _ _=>k b u (hb b n) q,λb u q n _ _=>⟨u.slots,k b u (hb b n) q⟩,λb u q n _=>by rw[aZ (hx b n)];exact n,λb u q _=>?_,
  λb xs q=>by rw[aZ (hm b _ q λz=>z)];exact q,λb u xs q=>by rw[aZ (hm b _ q λz=>z)];exact q,λb ps q=>⟨#[],by rw[aZ (hm b _ q λz=>z),q];simp⟩⟩
 by_cases ue:b=e
 .subst ue;exact yf
 .exact⟨u,k b u ue q⟩
end
abbrev C3(h:ju)(H:Hp):List bw:=(jw h.objs.size).filter λa=>(H a).isSome
abbrev oC(h:ju)(H:Hp):ju:=E4 h (C3 h H)
def Y7(h:ju)(H:Hp):(oC h H).objs.size=h.objs.size:=PySem.W.hideAll_size _ _
variable{h:ju}
def Yi{b:bw}(e:h.get? b=aj o)(n:H b=bh):(oC h H).get? b=aj o :=
 PySem.W.hideAll_get _ e λhm=>by
  have q:(H b).isSome=ak:=(xg.mp hm).2;rw[n]at q;simp at q
def WT{b:bw}(e:(oC h H).get? b=aj o):h.get? b=aj o/\H b=bh:=by
 have e':h.get? b=aj o:=PySem.W.of_hideAll (C3 h H) e;refine⟨e',?_⟩;cases q:H b with
 |none=>rfl
 |some x =>
  have hm:b∈C3 h H:=xg.mpr ⟨ou.mpr (ig e'),by simp[q]⟩;have z:(oC h H).get? b=bh:=PySem.W.hideAll_none (C3 h H) hm;rw[z]at e;cases e
abbrev WS(g h:ju)(L:bw):List (bw×Obj):=(jw h.objs.size).filterMap λa=>if a=L∨(g.get? a).isSome=ak then bh else(h.get? a).map λo=>(a,o)
abbrev rest(g h:ju)(L d:bw):List (bw×Obj):=(WS g h L).filter λp=>decide (p.1≠d)
end
variable{A:mq}{t':Nat}{N:List Str}{s:cu}
section
structure Mod(K:jm)(mg:Str->Option au)(base:ju):Prop where
 n9:K.In base
 glob:base.Ns nu mg
 blt:∃mb,base.Ns builtinsNs mb/\∀x:Str,x≠"__name__"->mb x=oh x
 nolimit:base.NoLimit
structure Cx where
 prog:kj
 w:jj
 K:jm
 mg:Str->Option au
 base:ju
 A:mq
 N:List Str
 ar:cu
 aw:Hp
 env:Env
 outer:List Env
 stack:List Env
 ex:List bw
 fn:Str->Bool
 calm:Bool
 pn:List (bw×Obj)
 tp:List (bw×List V)
 xe:au->cu->Prop
abbrev frs(l:List Env):List bw:=l.filterMap (·.frame)
@[simp]def Cx.fs(X:Cx):List bw:=frs X.outer
abbrev sv(sc:b9)(x:Str):Prop:=sc.names.lookup x=aj .local∨sc.names.lookup x=aj .cell∨sc.names.lookup x=aj .free
abbrev Loc(sc:b9)(x:Str):Prop:=sc.names.lookup x=aj .local∨sc.names.lookup x=aj .cell
abbrev Look(env:Env)(h:ju)(m:Str->Option au)(x:Str)(u:au):Prop :=
 (env.kindOf x=aj .local/\m x=aj u)∨((env.kindOf x=aj .cell∨env.kindOf x=aj .free)/\∃c,env.cells.lookup x=aj c/\h.IsCell c (aj u))
structure Cx.Ok(X:Cx):Prop where
 mod:Mod X.K X.mg X.base
 kind:X.env.scope.kind=.function
 glob:X.env.globals=nu
 blt:X.env.builtins=builtinsNs
 above:X.ar.heap.objs.size<=X.env.locals
 inj:∀x y c,X.env.cells.lookup x=aj c->X.env.cells.lookup y=aj c->x=y
 has:∀x,(X.env.kindOf x=aj .cell∨X.env.kindOf x=aj .free)->∃c,X.env.cells.lookup x=aj c
 DE:∀x c,X.fn x=ak->X.env.cells.lookup x=aj c->X.ar.heap.objs.size<=c
 hd:X.calm=ak->X.A.handled=bh
 frames:X.A.frames=aj X.stack
 C4:X.stack=X.outer∨(X.stack=X.env::X.outer/\X.env.frame=aj X.env.locals)
 TQ:∀b∈X.ex,b≠X.env.locals/\∀x c,X.env.cells.lookup x=aj c->c≠b
 bs:∀b o,X.base.get? b=aj o->X.ar.heap.get? b=aj o/\X.aw b=bh
 qq:X.base.objs.size<=X.ar.heap.objs.size
 DW:∀b o,X.base.get? b=aj o->b∉X.ex
 GA:∀b∈X.ex,b∉X.fs
 js:X.ar.heap.FunFrames X.base X.outer
 yl:∀b∈X.fs,X.aw b=bh
abbrev xi(A:mq)(H:Hp):Prop:=A.handled=bh∨∃x o u vs,A.handled=aj (.ref x)/\H x=aj (.fY o u)/\o.data=.fields vs/\vs[2]?=aj .none
def xi.mono(h:xi A H)(f:∀b o u,H b=aj (.fY o u)->H' b=aj (.fY o u)):xi A H':=by
 rcases h with z|⟨x,o,u,vs,a,b,c⟩
 .exact .inl z
 .exact .inr ⟨x,o,u,vs,a,f _ _ _ b,c⟩
def xi.heap{w:jj}(q:xi A H)(af:wX P w H h):nv A h:=by
 rcases q with z|⟨x,o,u,vs,a,b,c⟩
 .exact .inl z
 .exact .inr ⟨x,o,vs,a,(af x _ b).1,c⟩
structure Inv(X:Cx)(ψ:List (bw×Obj))(σ:List (Option V))(H:Hp)(s:cu):Prop where
 ok:X.Ok
 os:s.os=X.ar.os
 bare:AllBare s.gens
 base:Un X.fs X.ex X.aw H X.ar.heap s.heap
 loc:∃m,s.heap.Ns X.env.locals m/\∀(i:Nat)(x:Str)(v:V),X.N[i]?=aj x->σ[i]?=aj (aj v)->sv X.env.scope x->∃u,RelV v u/\Look X.env s.heap m x u
 cell:∀x c,X.env.cells.lookup x=aj c->∃v,s.heap.IsCell c v
 free:H X.env.locals=bh
 uH:∀x c,X.env.cells.lookup x=aj c->H c=bh
 pin:∀p∈X.pn++ψ,s.heap.get? p.1=aj p.2/\H p.1=bh/\p.1≠X.env.locals/\p.1∉X.fs/\∀v,p.2.data≠.cell v
 af:wX X.prog X.w H s.heap
 len:σ.length=X.N.length
 b8:xi X.A H
 tup:∀p∈X.tp,H p.1=aj (.tup p.2)
variable{i:Nat}{E:au->cu->Prop}
section
variable{X:Cx}{ψ:List (bw×Obj)}{σ:List (Option V)}{H H':Hp}{s:cu}{h':ju}
def Cx.Ok.aJO(ok:X.Ok){b:bw}(e:X.base.get? b=aj o):b∉X.fs:=λhb=>by
 have:=(ok.js.mem hb).1;rw[e]at this;cases this
def Inv.bs(I:Inv X ψ σ H s):∀b o,X.base.get? b=aj o->s.heap.get? b=aj o/\H b=bh:=λb o e =>
 ⟨I.base.keep b o (I.ok.bs b o e).1 (I.ok.bs b o e).2 (I.ok.aJO e) (I.ok.DW b o e),I.base.free b o (I.ok.bs b o e).1 (I.ok.bs b o e).2 (I.ok.DW b o e)⟩
def Inv.bk(I:Inv X ψ σ H s):∀b o,X.base.get? b=aj o->s.heap.get? b=aj o:=λb o e=>(I.bs b o e).1
def Inv.mod(I:Inv X ψ σ H s):Mod X.K X.mg X.base:=I.ok.mod
def Inv.dC(I:Inv X ψ σ H s):X.K.In s.heap:=I.ok.mod.n9.keeps I.bk
def Inv.lt(I:Inv X ψ σ H s):X.env.locals<s.heap.objs.size:=let⟨_,hn,_⟩:=I.loc;hn.lt
def Inv.sz(I:Inv X ψ σ H s):X.ar.heap.objs.size<=s.heap.objs.size:=wg I.ok.above (zy I.lt)
def Inv.aJP(I:Inv X ψ σ H s)(h:s.heap.objs.size<=a):a∉X.fs:=λhb=>by
 let⟨_,o,ho,_⟩:=I.ok.js.mem hb;exact absurd (qb (ig ho) (wg I.sz h)) (wz _)
def Inv.uS(I:Inv X ψ σ H s):∀x c,X.env.cells.lookup x=aj c->c≠X.env.locals:=λx c e z=>by
 let⟨v,o,ho,hd⟩:=I.cell x c e;let⟨m,⟨o',es,ep,d4,mn,_⟩,_⟩:=I.loc;rw[z,d4]at ho;cases ho;rw[mn]at hd;cases hd
def Inv.js(I:Inv X ψ σ H s):s.heap.FunFrames X.base X.outer:=by
 have all:∀(l:List Env),(∀b∈frs l,b∈X.fs)->X.ar.heap.FunFrames X.base l->s.heap.FunFrames X.base l:=by
  intro l
  induction l with
  |nil=>intro _ _;trivial
  |cons env r ih =>
   intro hs hl;let⟨hk,⟨L,o,hf,hn,ho,hd⟩,hr⟩:=hl;have hL:L∈X.fs:=hs L (by unfold frs;rw[Ff,hf];exact wk);let⟨sl,e⟩:=I.base.slot L o ho (I.ok.yl L hL) hL λz=>I.ok.GA L z hL;exact⟨hk,⟨L,_,hf,hn,e,hd⟩,ih (λb hb=>hs b (by unfold frs;rw[Ff,hf];exact qu _ hb)) hr⟩
 exact all X.outer (λ_ hb=>hb) I.ok.js
def Inv.stack(I:Inv X ψ σ H s):s.heap.FunFrames X.base X.stack:=by
 rcases I.ok.C4 with e|⟨e,hf⟩
 .rw[e];exact I.js
 .rw[e];let⟨m,hn,_⟩:=I.loc;refine .cons (by rw[I.ok.kind];decide) hf hn ?_ I.js;exact Heap.get?_none_of_le (wg I.ok.qq I.ok.above)
def Inv.HQ(I:Inv X ψ σ H s):∀b∈frs X.stack,b∈X.env.locals::X.fs:=λb hb=>by
 rcases I.ok.C4 with e|⟨e,hf⟩
 .rw[e]at hb;exact qu _ hb
 .rw[e]at hb;unfold frs at hb;rw[Ff,hf]at hb;exact hb
def Inv.IG(I:Inv X ψ σ H s):∀b∈frs X.stack,H b=bh:=λb hb=>by
 rcases lg.mp (I.HQ b hb)with e|hb
 .rw[e];exact I.free
 .obtain⟨_,o,ho,_⟩:=I.ok.js.mem hb;exact I.base.free b o ho (I.ok.yl b hb) λz=>I.ok.GA b z hb
def Inv.step{g':Array GenState}{d':Drawn}{ch:List bw}(I:Inv X ψ σ H s)
  (mr:∀b∈ch,(b∈X.ex∨X.ar.heap.objs.size<=b)/\b≠X.env.locals/\(∀x c,X.env.cells.lookup x=aj c->c≠b)/\∀p∈X.pn++ψ,p.1≠b)
  (keep:∀b o,b≠X.env.locals->b∉X.fs->b∉ch->s.heap.get? b=aj o->H b=bh->h'.get? b=aj o)
  (slot:∀b o,b≠X.env.locals->b∈X.fs->b∉ch->s.heap.get? b=aj o->H b=bh->∃sl,h'.get? b=aj {o with slots:=sl})(free:∀b o,b∉ch->s.heap.get? b=aj o->H b=bh->H' b=bh)
  (there:∀b o,b∉ch->s.heap.get? b=aj o->∃o',h'.get? b=aj o')
  (aE:∀b xs,H b=aj (.tup xs)->H' b=aj (.tup xs))(lZ:∀b o u,H b=aj (.fY o u)->H' b=aj (.fY o u))(yL:∀b ps,H b=aj (.fT ps)->∃more,H' b=aj (.fT (ps++more)))
  (ns:∀m,s.heap.Ns X.env.locals m->h'.Ns X.env.locals m)(af:wX X.prog X.w H' h')(hg:AllBare g') :
  Inv X ψ σ H' {s with heap:=h',gens:=g',drawn:=d',toks:=t' }:=by
 have K2:∀b o,X.ar.heap.get? b=aj o->b≠X.env.locals:=λb o e=>jq (qb (ig e) I.ok.above)
 have Dg:∀b o,X.ar.heap.get? b=aj o->b∉X.ex->b∉ch:=λb o e hx hb=>by
  rcases(mr b hb).1 with z|z
  .exact hx z
  .exact absurd (qb (ig e) z) (wz _)
 have cellK:∀x c,X.env.cells.lookup x=aj c->∀v,s.heap.IsCell c v->h'.IsCell c v:=λx c e v ⟨o,ho,hd⟩=>by
  have AU:c∉ch:=λz=>(mr c z).2.2.1 x c e rfl;by_cases hc:c∈X.fs
  .obtain⟨sl,q⟩:=slot c o (I.uS x c e) hc AU ho (I.uH x c e);exact⟨_,q,hd⟩
  .exact⟨o,keep c o (I.uS x c e) hc AU ho (I.uH x c e),hd⟩
 refine⟨I.ok,I.os,hg,⟨λb o e n hb hx=>?_,λb o e n hb hx=>?_,λb o e n hx=>?_,λb o e hx=>?_,λb xs e=>aE b xs (I.base.aE b xs e),λb o xs e=>lZ b o xs (I.base.lZ b o xs e),λb ps e=>?_⟩,?_,λx c e=>?_,?_,λx c e=>?_,λp hp=>?_,af,I.len,I.b8.mono lZ,λp hp=>aE _ _ (I.tup p hp)⟩
 .exact keep b o (K2 b o e) hb (Dg b o e hx) (I.base.keep b o e n hb hx) (I.base.free b o e n hx)
 .obtain⟨sl,e1⟩:=I.base.slot b o e n hb hx;let⟨Sk,e2⟩:=slot b _ (K2 b o e) hb (Dg b o e hx) e1 (I.base.free b o e n hx);exact⟨Sk,e2⟩
 .obtain⟨o',e1⟩:=I.base.there b o e hx;exact free b o' (Dg b o e hx) e1 (I.base.free b o e n hx)
 .obtain⟨o',e1⟩:=I.base.there b o e hx;exact there b o' (Dg b o e hx) e1
 .obtain⟨m1,e1⟩:=I.base.yL b ps e;let⟨m2,e2⟩:=yL b _ e1;exact⟨m1++m2,by rw[e2,Array.append_assoc]⟩
 .obtain⟨m,hn,hl⟩:=I.loc;refine⟨m,ns m hn,λi x v e1 e2 e3=>?_⟩;let⟨u,r,l⟩:=hl i x v e1 e2 e3;refine⟨u,r,?_⟩;rcases l with l|⟨k,c,e,z⟩
  .exact .inl l
  .exact .inr ⟨k,c,e,cellK x c e _ z⟩
 .obtain⟨v,z⟩:=I.cell x c e;exact⟨v,cellK x c e v z⟩
 .obtain⟨m,⟨o,_,_,ho,_⟩,_⟩:=I.loc;exact free _ o (λz=>(mr _ z).2.1 rfl) ho I.free
 .obtain⟨v,o,ho,hd⟩:=I.cell x c e;exact free c o (λz=>(mr c z).2.2.1 x c e rfl) ho (I.uH x c e)
 .obtain⟨e,n,ne,nf,d⟩:=I.pin p hp;have AU:p.1∉ch:=λz=>(mr p.1 z).2.2.2 p hp rfl;exact⟨keep p.1 p.2 ne nf AU e n,free p.1 p.2 AU e n,ne,nf,d⟩
def Inv.un(I:Inv X ψ σ H s)(u:Un X.fs [] H H' s.heap h')(af:wX X.prog X.w H' h'):Inv X ψ σ H' {s with heap:=h',toks:=t' }:=by
 let⟨m,⟨o,es,ep,ho,r⟩,_⟩:=id I.loc;let⟨sl,hL⟩:=u.any ho I.free (by simp)
 exact I.step (g':=s.gens) (d':=s.drawn) (ch:=[]) (λ_ z=>nomatch z) (λb o _ hb _ e n=>u.keep b o e n hb (by simp)) (λb o _ hb _ e n=>u.slot b o e n hb (by simp)) (λb o _ e n=>u.free b o e n (by simp)) (λb o _ e=>u.there b o e (by simp)) u.aE u.lZ u.yL (λm' hm=>by
  let⟨o',es',Go,d4,r'⟩:=hm;rw[ho]at d4;cases d4;exact⟨_,es',Go,hL,r'⟩) af I.bare
def Inv.call{ch:List bw}(I:Inv X ψ σ H s)(u:Un (frs X.stack) ch H H' s.heap h')(af:wX X.prog X.w H' h')(hg:AllBare g')
  (mr:∀b∈ch,(b∈X.ex∨X.ar.heap.objs.size<=b)/\b≠X.env.locals/\(∀x c,X.env.cells.lookup x=aj c->c≠b)/\∀p∈X.pn++ψ,p.1≠b) :
  Inv X ψ σ H' {s with heap:=h',gens:=g',drawn:=d',toks:=t' }:=by
 let⟨m,⟨o,es,ep,ho,r⟩,_⟩:=id I.loc;let⟨sl,hL⟩:=u.any ho I.free λz=>(mr _ z).2.1 rfl
 exact I.step (ch:=ch) mr (λb o hL hb hc e n=>u.keep b o e n (λz=>(lg.mp (I.HQ b z)).elim hL hb) hc) (λb o _ _ hc e n=>u.any e n hc) (λb o hc e n=>u.free b o e n hc) (λb o hc e=>u.there b o e hc) u.aE u.lZ u.yL (λm' hm=>by
  let⟨o',es',Go,d4,r'⟩:=hm;rw[ho]at d4;cases d4;exact⟨_,es',Go,hL,r'⟩) af hg
def Inv.turned(I:Inv X ψ σ H s)(k:∀b o,b≠it->s.heap.get? b=aj o->h'.get? b=aj o)(hn:H it=bh)(hL:it≠X.env.locals)
  (h1:it∈X.ex∨X.ar.heap.objs.size<=it)(h2:∀x c,X.env.cells.lookup x=aj c->c≠it)(h3:∀p∈X.pn++ψ,p.1≠it):Inv X ψ σ H {s with heap:=h',toks:=t' }:=by
 have K1:∀b u,H b=aj u->b≠it:=λb u e z=>by rw[z,hn]at e;cases e
 refine I.step (g':=s.gens) (d':=s.drawn) (ch:=[it]) (λb hb=>?_) (λb o _ _ hc e _=>k b o (λz=>hc (by simp[z])) e) (λb o _ _ hc e _=>⟨o.slots,k b o (λz=>hc (by simp[z])) e⟩) (λ_ _ _ _ n=>n)
  (λb o hc e=>⟨o,k b o (λz=>hc (by simp[z])) e⟩) (λ_ _ e=>e) (λ_ _ _ e=>e) (λb ps e=>⟨#[],by rw[e];simp⟩) (λm hm=>?_) (λb u e=>?_) I.bare
 .have e:b=it:=by simpa using hb
  subst e;exact⟨h1,hL,h2,h3⟩
 .obtain⟨o,es,ep,ho,r⟩:=hm;exact⟨o,es,ep,k _ o (Ne.symm hL) ho,r⟩
 .refine(I.af b u e).b5 (λc v hc q=>k c v ?_ q) (λ_ q=>q) λ_ _ q=>q;rcases hc with z|z
  .rw[z];exact K1 b u e
  .exact K1 c _ z
def Inv.tok(I:Inv X ψ σ H s)(t:Nat):Inv X ψ σ H {s with toks:=t}:=I.un (h':=s.heap) (t':=t) Un.refl I.af
def Inv.kept{t':Nat}(I:Inv X ψ σ H s)(k:∀b u,s.heap.get? b=aj u->h'.get? b=aj u):Inv X ψ σ H {s with heap:=h',toks:=t' }:=I.un (Un.kept k) (I.af.kept k)
def Inv.laid{t':Nat}(I:Inv X ψ σ H s)(k:∀b u,s.heap.get? b=aj u->h'.get? b=aj u)(hp:s.heap.objs.size<=a)(new:eX X.prog X.w (upd H a o) h' a o) :
  Inv X ψ σ (upd H a o) {s with heap:=h',toks:=t' }:=I.un (Un.laid k hp (I.af.fresh hp)) (I.af.laid k hp new)
def Inv.write{x:bw}{t':Nat}(I:Inv X ψ σ H s)(mu:xh (H x))(he:e=x∨H e=aj (.own x))(k:∀b u,b≠e->s.heap.get? b=aj u->h'.get? b=aj u)(yf:∃u,h'.get? e=aj u)
  (new:eX X.prog X.w (upd H x o) h' x o):Inv X ψ σ (upd H x o) {s with heap:=h',toks:=t' }:=I.un (Un.write mu he k yf) (I.af.write mu he k yf new)
def Inv.weak{aS:List (Option V)}(I:Inv X ψ σ H s)(hl:aS.length=σ.length)(w:∀(i:Nat) v,aS[i]?=aj (aj v)->σ[i]?=aj (aj v)):Inv X ψ aS H s :=
 ⟨I.ok,I.os,I.bare,I.base,let⟨m,hn,A8⟩:=I.loc;⟨m,hn,λi x v e1 e2 e3=>A8 i x v e1 (w i v e2) e3⟩,I.cell,I.free,I.uH,I.pin,I.af,hl.trans I.len,I.b8,I.tup⟩
def Inv.OT(I:Inv X ψ σ H s)(h:∀p∈Ak,s.heap.get? p.1=aj p.2/\H p.1=bh/\p.1≠X.env.locals/\p.1∉X.fs/\∀v,p.2.data≠.cell v):Inv X Ak σ H s :=
 ⟨I.ok,I.os,I.bare,I.base,I.loc,I.cell,I.free,I.uH,λp hp=>(uo.mp hp).elim (λz=>I.pin p (JJ _ z)) (h p),I.af,I.len,I.b8,I.tup⟩
def P1(hN:N.Nodup){j:Nat}(a:N[i]?=aj x)(b:N[j]?=aj x):i=j:=by
 let⟨h1,e1⟩:=jd.mp a;let⟨h2,e2⟩:=jd.mp b;exact(List.getElem_inj hN).mp (e1.trans e2.symm)
def QV(I:Inv X ψ σ H s)(hN:X.N.Nodup)(hi:X.N[i]?=aj x)(hx:Loc X.env.scope x)(r:RelV v u)
  (h:∀s',Inv X ψ (σ.set i (aj v)) H s'->(∃a,jr a s.heap s'.heap/\(a=X.env.locals∨X.env.cells.lookup x=aj a))->Q () s')(hf:X.fn x=ak∨X.env.scope.names.lookup x=aj .local:=by first|exact .inl rfl|exact .inr rfl|assumption):dj M A (storeName X.env x u) Q E s:=by
 let⟨m,hn,hl⟩:=id I.loc;have Kq:(X.env.scope.kind==.class||(X.env.scope.kind==.module&&X.env.locals !=X.env.globals))=ao:=by rw[I.ok.kind];rfl
 have CH:i<σ.length:=by rw[I.len];exact(jd.mp hi).1
 have uS:=I.uS
 have tracked:∀{a:bw}{h':ju},(∃o,s.heap.get? a=aj o/\H a=bh)->jr a s.heap h'->wX X.prog X.w H h':=λ{a h'} ha hs b ob e=>by
  let⟨_,_,di⟩:=ha;refine(I.af b ob e).b5 (λc w' hc q=>(hs.2 c ?_).trans q) (λ_ q=>q) λ_ _ q=>q;rintro rfl;rcases hc with rfl|hc
  .rw[di]at e;cases e
  .rw[di]at hc;cases hc
 rcases hx with hk|hk
 .refine wpAny_storeName_local hk hn (λh' Ls hs=>?_) Kq;let⟨oL,_,_,S7,_⟩:=id hn;refine h _ ⟨I.ok,I.os,I.bare,⟨λb o e n hb hx=>?_,λb o e n hb hx=>?_,I.base.free,λb o e hx=>?_,I.base.aE,I.base.lZ,I.base.yL⟩,⟨_,Ls,λj y v' e1 e2 e3=>?_⟩,λy c e=>?_,I.free,I.uH,λp hp=>?_,tracked ⟨oL,S7,I.free⟩ hs,by simpa using I.len,I.b8,I.tup⟩ ⟨_,hs,.inl rfl⟩
  .exact(hs.2 b (jq (qb (ig e) I.ok.above))).trans (I.base.keep b o e n hb hx)
  .obtain⟨sl,e1⟩:=I.base.slot b o e n hb hx;exact⟨sl,(hs.2 b (jq (qb (ig e) I.ok.above))).trans e1⟩
  .obtain⟨o',e1⟩:=I.base.there b o e hx;exact⟨o',(hs.2 b (jq (qb (ig e) I.ok.above))).trans e1⟩
  .by_cases hj:j=i
   .subst hj;rw[hi]at e1;cases e1;rw[List.getElem?_set_self CH]at e2;cases e2;exact⟨u,r,.inl ⟨hk,by simp⟩⟩
   .rw[List.getElem?_set_ne (Ne.symm hj)]at e2;let⟨u',r',q⟩:=hl j y v' e1 e2 e3;refine⟨u',r',?_⟩;rcases q with⟨k,e⟩|⟨k,c,e,z⟩
    .refine .inl ⟨k,?_⟩;have:y≠x:=λe=>hj (P1 hN e1 (e ▸ hi));simp[this,e]
    .exact .inr ⟨k,c,e,z.sameBut hs (uS y c e)⟩
  .obtain⟨w',z⟩:=I.cell y c e;exact⟨w',z.sameBut hs (uS y c e)⟩
  .obtain⟨e,n,ne,nf,d⟩:=I.pin p hp;exact⟨(hs.2 p.1 ne).trans e,n,ne,nf,d⟩
 .have Ga:X.fn x=ak:=by
   rcases hf with z|z
   .exact z
   .rw[z]at hk;cases hk
  let⟨c,hc⟩:=I.ok.has x (.inl hk);let⟨w',z⟩:=I.cell x c hc;refine wpAny_storeName_cell I.ok.kind hk hc z (λh' LD hs=>?_);let⟨oc,Lq,aJQ⟩:=id z;refine h {s with heap:=h' } ⟨I.ok,I.os,I.bare,⟨λb o e n hb hx=>?_,λb o e n hb hx=>?_,I.base.free,λb o e hx=>?_,I.base.aE,I.base.lZ,I.base.yL⟩,⟨m,hn.sameBut hs (Ne.symm (uS x c hc)),λj y v' e1 e2 e3=>?_⟩,λy c' e=>?_,I.free,I.uH,λp hp=>?_,tracked ⟨oc,Lq,I.uH x c hc⟩ hs,by simpa using I.len,I.b8,I.tup⟩ ⟨c,hs,.inr hc⟩
  .exact(hs.2 b (jq (qb (ig e) (I.ok.DE x c Ga hc)))).trans (I.base.keep b o e n hb hx)
  .obtain⟨sl,e1⟩:=I.base.slot b o e n hb hx;exact⟨sl,(hs.2 b (jq (qb (ig e) (I.ok.DE x c Ga hc)))).trans e1⟩
  .obtain⟨o',e1⟩:=I.base.there b o e hx;exact⟨o',(hs.2 b (jq (qb (ig e) (I.ok.DE x c Ga hc)))).trans e1⟩
  .by_cases hj:j=i
   .subst hj;rw[hi]at e1;cases e1;rw[List.getElem?_set_self CH]at e2;cases e2;exact⟨u,r,.inr ⟨.inl hk,c,hc,LD⟩⟩
   .rw[List.getElem?_set_ne (Ne.symm hj)]at e2;let⟨u',r',q⟩:=hl j y v' e1 e2 e3;refine⟨u',r',?_⟩;rcases q with q|⟨k,c',e,z'⟩
    .exact .inl q
    .refine .inr ⟨k,c',e,z'.sameBut hs ?_⟩;rintro rfl;exact hj (P1 hN e1 (I.ok.inj _ _ _ e hc ▸ hi))
  .by_cases LC:c'=c
   .subst LC;exact⟨_,LD⟩
   .obtain⟨w2,z2⟩:=I.cell y c' e;exact⟨w2,z2.sameBut hs LC⟩
  .obtain⟨e,n,ne,nf,d⟩:=I.pin p hp;refine⟨(hs.2 p.1 ?_).trans e,n,ne,nf,d⟩;intro q;rw[q,Lq]at e;have q':oc=p.2:=jk.inj e;exact d w' (by rw[←q'];exact aJQ)
def JE(I:Inv X ψ σ H s)(hN:X.N.Nodup)(hi:X.N[i]?=aj x)(hx:Loc X.env.scope x)(r:RelV v u)
  (h:∀s',Inv X ψ (σ.set i (aj v)) H s'->Q () s')(hf:X.fn x=ak∨X.env.scope.names.lookup x=aj .local:=by first|exact .inl rfl|exact .inr rfl|assumption):dj M A (storeName X.env x u) Q E s :=
 QV I hN hi hx r (λs' I' _=>h s' I') hf
def Inv.gX{s':cu}{ch:List bw}(I:Inv X ψ σ H s)(ho:s'.os=s.os)(u:Un (frs X.stack) ch H H' s.heap s'.heap)(af:wX X.prog X.w H' s'.heap)(hg:AllBare s'.gens)
  (mr:∀b∈ch,(b∈X.ex∨X.ar.heap.objs.size<=b)/\b≠X.env.locals/\(∀x c,X.env.cells.lookup x=aj c->c≠b)/\∀p∈X.pn++ψ,p.1≠b):Inv X ψ σ H' s':=by
 let⟨h',g',d',t',o'⟩:=s';have e:o'=s.os:=ho;subst e;exact I.call (g':=g') (t':=t') (d':=d') u af hg mr
end
@[simp]def XK:=Value->Option bw->Hp->Prop
@[simp]def St:=List (Option V)
@[simp]def VK:=V->Hp->Prop
@[simp]def TE:=St->Hp->VK->Prop
@[simp]def TT:=St->Hp->(Bool->Hp->Prop)->Prop
@[simp]def TA:=St->Hp->(List V->Hp->Prop)->Prop
structure Ends where
 nx:St->Hp->Prop
 rt:VK
 bk:St->Hp->Prop:=λ_ _=>False
 ct:St->Hp->Prop:=λ_ _=>False
@[simp]def TS:=Ends->St->Hp->Prop
abbrev EP(X:Cx)(ψ:List (bw×Obj))(σ:St)(Q:VK)(u:au)(s':cu):Prop:=∃v H',Inv X ψ σ H' s'/\RelV v u/\Q v H'
abbrev TP(X:Cx)(ψ:List (bw×Obj))(σ:St)(Q:Bool->Hp->Prop)(b:Bool)(s':cu):Prop:=∃H',Inv X ψ σ H' s'/\Q b H'
abbrev AP(X:Cx)(ψ:List (bw×Obj))(σ:St)(Q:List V->Hp->Prop)(us:List au)(s':cu):Prop:=∃vs H',Inv X ψ σ H' s'/\Vals vs us/\Q vs H'
set_option tactic.hygienic true in
abbrev SP(X:Cx)(ψ:List (bw×Obj))(D:Ends)(f:Flow)(s':cu):Prop :=
 match f with
 |.next=>∃aS H',Inv X ψ aS H' s'/\D.nx aS H'
 |.brk=>∃aS H',Inv X ψ aS H' s'/\D.bk aS H'
 |.cont=>∃aS H',Inv X ψ aS H' s'/\D.ct aS H'
 |.ret u=>∃v aS H',Inv X ψ aS H' s'/\RelV v u/\D.rt v H'
abbrev PE(X:Cx)(e:ji)(t:TE):Prop :=
 ∀(ψ:List (bw×Obj))(s:cu)(σ:St)(H:Hp)(Q:VK),Inv X ψ σ H s->t σ H Q->dj (fj X.prog X.w) X.A (eval e X.env) (EP X ψ σ Q) X.xe s
abbrev PT(X:Cx)(e:ji)(t:TT):Prop :=
 ∀(ψ:List (bw×Obj))(s:cu)(σ:St)(H:Hp)(Q:Bool->Hp->Prop),Inv X ψ σ H s->t σ H Q->dj (fj X.prog X.w) X.A (isTrue e X.env (eval e X.env)) (TP X ψ σ Q) X.xe s
abbrev PW(X:Cx)(e:ji)(t:TT):Prop :=
 ∀(whole:Sem au)(ψ:List (bw×Obj))(s:cu)(σ:St)(H:Hp)(Q:Bool->Hp->Prop),Inv X ψ σ H s->t σ H Q->dj (fj X.prog X.w) X.A (isTrue e X.env whole) (TP X ψ σ Q) X.xe s
def PW.pt{t:TT}(h:PW X e t):PT X e t:=h _
abbrev PA(X:Cx)(es:List ji)(t:TA):Prop :=
 ∀(pos:Pos)(ψ:List (bw×Obj))(s:cu)(σ:St)(H:Hp)(Q:List V->Hp->Prop),Inv X ψ σ H s->t σ H Q->dj (fj X.prog X.w) X.A (spliced (xr pos (jo es X.env))) (AP X ψ σ Q) X.xe s
abbrev PS(X:Cx)(st:qw)(t:TS):Prop :=
 ∀(ψ:List (bw×Obj))(s:cu)(σ:St)(H:Hp)(D:Ends),Inv X ψ σ H s->t D σ H->dj (fj X.prog X.w) X.A (exec st X.env) (SP X ψ D) X.xe s
abbrev gS(X:Cx)(st:List qw)(t:TS):Prop :=
 ∀(ψ:List (bw×Obj))(s:cu)(σ:St)(H:Hp)(D:Ends),Inv X ψ σ H s->t D σ H->dj (fj X.prog X.w) X.A (execs st X.env) (SP X ψ D) X.xe s
def cV{α:Type}{t:Sem α}{Q Q':α->cu->Prop}{M:Model}(h:dj M A t Q E s)(hQ:∀a s,Q a s->Q' a s):dj M A t Q' E s:=wpAny_mono h hQ λ_ _ x=>x
end
variable{ψ:List (bw×Obj)}{R:V->V->Hp->Prop}
section
variable{E Q:au->cu->Prop}
section
variable{X:Cx}
def bin{a b:ji}{ta tb:TE}(ha:PE X a ta)(hb:PE X b tb){σ:St}{H:Hp}(I:Inv X ψ σ H s)(h:ta σ H λx H1=>tb σ H1 λy H2=>R x y H2)
  {α:Type}{Q:α->cu->Prop}{f:au->au->Sem α}
  (hf:∀v u s2 x y H2,Inv X ψ σ H2 s2->RelV x v->RelV y u->R x y H2->dj (fj X.prog X.w) X.A (f v u) Q X.xe s2) :
  dj (fj X.prog X.w) X.A (eval a X.env) (λv ah=>dj (fj X.prog X.w) X.A (eval b X.env) (λu bp=>dj (fj X.prog X.w) X.A (f v u) Q X.xe bp) X.xe ah) X.xe s:=by
 refine cV (ha ψ s σ H _ I h) ?_;rintro v s1 ⟨x,H1,I1,r1,q1⟩;refine cV (hb ψ s1 σ H1 _ I1 q1) ?_;rintro u s2 ⟨y,H2,I2,r2,q2⟩;exact hf v u s2 x y H2 I2 r1 r2 q2
abbrev Gz(i:Nat):TE:=λσ H Q=>∃v,σ[i]?=aj (aj v)/\Q v H
abbrev tC(v:V):TE:=λ_ H Q=>Q v H
def NJ{i:Nat}(hN:X.N[i]?=aj x)(hv:sv X.env.scope x)(hd:(x==("__debug__":Str))=ao:=by decide)(eR:(x==("__classdict__":Str))=ao:=by decide):PE X (.Name x pos) (Gz i):=by
 intro ψ s σ H Q I h;let⟨v,e,h⟩:=h;let⟨m,hn,hl⟩:=I.loc;let⟨u,r,l⟩:=hl i x v hN e hv;have fin:EP X ψ σ Q u s:=⟨v,H,I,r,h⟩;rcases l with⟨hk,hm⟩|⟨hk,c,hc,eJ⟩
 .exact wpAny_Name (wpAny_loadName_local I.ok.kind hk hn hm fin) hd
 .rcases hk with hk|hk
  .exact wpAny_Name (wpAny_loadName_cell I.ok.kind hk hc eJ fin) hd
  .exact wpAny_Name (wpAny_loadName_free I.ok.kind hk hc eJ fin eR) hd
def Ui{i j pos}:PE X (.Constant (.int i) j pos) (tC (.int i)):=λ_ _ _ H _ I h=>wpAny_Constant_int ⟨.int i,H,I.tok _,⟨_,rfl⟩,h⟩
def aEV{b j pos}:PE X (.Constant (.bool b) j pos) (tC (.bl b)):=λ_ _ _ H _ I h=>Constant_bool ⟨.bl b,H,I,rfl,h⟩
def Uh{j pos}:PE X (.Constant .none j pos) (tC .ag):=λ_ _ _ H _ I h=>Constant_none ⟨.ag,H,I,rfl,h⟩
def Ug{x j pos}:PE X (.Constant (.str x) j pos) (tC (.str x)):=λ_ _ _ H _ I h=>Calls.Constant_str ⟨.str x,H,I.tok _,⟨_,rfl⟩,h⟩
abbrev Gl(X:Cx)(x:Str):Prop:=X.env.kindOf x=aj .globalImplicit
def oO(I:Inv X ψ σ H s)(hg:Gl X x)(hm:X.mg x=aj u)(h:Q u s)
  (hd:(x==("__debug__":Str))=ao:=by decide):dj (fj X.prog X.w) X.A (eval (.Name x pos) X.env) Q E s :=
 Calls.Name_function_global I.ok.kind hg (Calls.loadGlobal_global (by rw[I.ok.glob];exact I.mod.glob.keeps I.bk) hm h) hd
def uI(I:Inv X ψ σ H s)(hg:Gl X x)(hm:X.mg x=bh)(hv:oh x=aj u)(h:Q u s)
  (hn:x≠"__name__":=by decide)(hd:(x==("__debug__":Str))=ao:=by decide):dj (fj X.prog X.w) X.A (eval (.Name x pos) X.env) Q E s:=by
 let⟨mb,h1,h2⟩:=I.mod.blt;exact Calls.Name_function_global I.ok.kind hg (Calls.loadGlobal_builtin (by rw[I.ok.glob];exact I.mod.glob.keeps I.bk) hm (by rw[I.ok.blt];exact h1.keeps I.bk) ((h2 x hn).trans hv) h) hd
def WR(hg:Gl X x)(hm:X.mg x=aj u)(r:RelV v u)(hd:(x==("__debug__":Str))=ao:=by decide):PE X (.Name x pos) (tC v) :=
 λ_ _ _ H _ I h=>oO I hg hm ⟨v,H,I,r,h⟩ hd
def WQ(hg:Gl X x)(hm:X.mg x=bh)(hv:oh x=aj u)(r:RelV v u)(hn:x≠"__name__":=by decide)(hd:(x==("__debug__":Str))=ao:=by decide):PE X (.Name x pos) (tC v) :=
 λ_ _ _ H _ I h=>uI I hg hm hv ⟨v,H,I,r,h⟩ hn hd
variable{b:ji}{ta tb:TE}
def P0(b:ji)(h:op≠.In)(h2:op≠.NotIn):nK op b=ao:=by
 have e1:(op==CmpOp.In)=ao:=by cases op<;>first|rfl|exact absurd rfl h
 have e2:(op==CmpOp.NotIn)=ao:=by cases op<;>first|rfl|exact absurd rfl h2
 cases b<;>simp[nK,e1,e2]
abbrev tB(t:TE):TT:=λσ H Q=>t σ H λx H1=>∃c,x=.bl c/\Q c H1
def Ue{e:ji}{t:TE}(h:PE X e t)(he:∀whole,isTrue e X.env whole=(do let v ←whole;standAt e.pos;holding [v] (truthy v)):=by intro _;rfl):PT X e (tB t):=by
 intro ψ s σ H Q I hw;refine isTrue_plain (cV (h ψ s σ H _ I hw) ?_) (he _);rintro v s1 ⟨x,H1,I1,r1,q1⟩;let⟨d,rfl,q⟩:=q1;cases r1;exact yg ⟨H1,I1,q⟩
variable{rest:List ji}
abbrev Ql(t u:TT):TT:=λσ H Q=>t σ H λc H1=>if c=ak then u σ H1 Q else Q ao H1
abbrev KC(t u:TT):TT:=λσ H Q=>t σ H λc H1=>if c=ak then Q ak H1 else u σ H1 Q
abbrev aJR(t:TT):TT:=λσ H Q=>t σ H λc H1=>Q (!c) H1
def WN(ha:PT X a tA):PW X (.BoolOp .And [a] pos) tA:=by
 intro wh ψ s σ H Q I h;refine isTrue_and (cV (ha ψ s σ H Q I h) λc s1 e=>?_);cases c with
 |true=>exact isTrue_and_nil e
 |false=>exact e
def Ud(ha:PT X a tA):PW X (.BoolOp .Or [a] pos) tA:=by
 intro wh ψ s σ H Q I h;refine isTrue_or (cV (ha ψ s σ H Q I h) λc s1 e=>?_);cases c with
 |false=>exact isTrue_or_nil e
 |true=>exact e
def Uc(ha:PT X a tA)(hb:PW X (.BoolOp .And (b::rest) pos) Fy):PW X (.BoolOp .And (a::b::rest) pos) (Ql tA Fy):=by
 intro wh ψ s σ H Q I h;refine isTrue_and (cV (ha ψ s σ H _ I h) ?_);rintro c s1 ⟨H1,I1,q1⟩;cases c with
 |true=>exact hb wh ψ s1 σ H1 Q I1 q1
 |false=>exact⟨H1,I1,q1⟩
def aEX(ha:PT X a tA)(hb:PW X (.BoolOp .Or (b::rest) pos) Fy):PW X (.BoolOp .Or (a::b::rest) pos) (KC tA Fy):=by
 intro wh ψ s σ H Q I h;refine isTrue_or (cV (ha ψ s σ H _ I h) ?_);rintro c s1 ⟨H1,I1,q1⟩;cases c with
 |true=>exact⟨H1,I1,q1⟩
 |false=>exact hb wh ψ s1 σ H1 Q I1 q1
def Ub(ha:PT X a tA):PT X (.UnaryOp .Not a pos) (aJR tA):=by
 intro ψ s σ H Q I h;exact isTrue_not (ha ψ s σ H (λc H1=>Q (!c) H1) I h)
abbrev aEY(ta tb:TE):TE:=λσ H Q=>ta σ H λx H1=>∃c,x=.bl c/\if c=ak then tb σ H1 Q else Q (.bl ao) H1
abbrev aJS(ta tb:TE):TE:=λσ H Q=>ta σ H λx H1=>∃c,x=.bl c/\if c=ak then Q (.bl ak) H1 else tb σ H1 Q
abbrev aEZ(ta:TE):TE:=λσ H Q=>ta σ H λx H1=>∃c,x=.bl c/\Q (.bl (!c)) H1
def Ua{op}{t:TE}(h:PE X a t):PE X (.BoolOp op [a] pos) t:=λψ s σ H Q I hw=>BoolOp_one (h ψ s σ H Q I hw)
def T9(ha:PE X a ta)(hb:PE X (.BoolOp .And (b::rest) pos) tb):PE X (.BoolOp .And (a::b::rest) pos) (aEY ta tb):=by
 intro ψ s σ H Q I h;refine BoolOp_and (cV (ha ψ s σ H _ I h) ?_);rintro v s1 ⟨x,H1,I1,r1,q1⟩;let⟨c,rfl,q1⟩:=q1;cases r1;refine yg ?_;cases c with
 |true=>exact hb ψ s1 σ H1 Q I1 q1
 |false=>exact⟨.bl ao,H1,I1,rfl,q1⟩
def aF0(ha:PE X a ta)(hb:PE X (.BoolOp .Or (b::rest) pos) tb):PE X (.BoolOp .Or (a::b::rest) pos) (aJS ta tb):=by
 intro ψ s σ H Q I h;refine BoolOp_or (cV (ha ψ s σ H _ I h) ?_);rintro v s1 ⟨x,H1,I1,r1,q1⟩;let⟨c,rfl,q1⟩:=q1;cases r1;refine yg ?_;cases c with
 |false=>exact hb ψ s1 σ H1 Q I1 q1
 |true=>exact⟨.bl ak,H1,I1,rfl,q1⟩
def T8(ha:PE X a ta):PE X (.UnaryOp .Not a pos) (aEZ ta):=by
 intro ψ s σ H Q I h;refine UnaryOp_ (cV (ha ψ s σ H _ I h) ?_);rintro v s1 ⟨x,H1,I1,r1,q1⟩;let⟨c,rfl,q1⟩:=q1;cases r1;exact not_of (yg ⟨.bl (!c),H1,I1,rfl,q1⟩)
end
end
variable{n:Nat}{cm:Bool}
section
abbrev bX(K:jm)(H:Hp)(a:bw)(xs:List V):Prop :=
 Rd H a (.lst xs) ∨
  ∃(o:Obj)(its:Array au)(n:Nat),K.lookup a=aj o/\o.cls=.type "list"/\o.dict=bh/\o.data=.seq its n/\its.size<=dh/\Vals xs its.toList
abbrev yM(K:jm)(H:Hp)(a:bw)(xs:List V):Prop :=
 Rd H a (.tup xs) ∨
  ∃(o:Obj)(its:Array au)(n:Nat),K.lookup a=aj o/\o.cls=.type "tuple"/\o.data=.seq its n/\its.size<=dh/\Vals xs its.toList
abbrev aJT:au->Option V
 |.none=>aj .ag
 |.bool b=>aj (.bl b)
 |.int i _=>aj (.int i)
 |.str x _=>aj (.str x)
 |.bytes b _=>aj (.Gu b)
 |.float b _=>aj (.Gm b)
 |.ref a=>aj (.ref a)
 |.type n=>aj (.ty n)
 |_=>bh
def RelV.abs{x:V}(r:RelV x u):aJT u=aj x:=by
 cases x with
 |ag=>cases r;rfl
 |bl _=>cases r;rfl
 |int _=>let⟨t,rfl⟩:=r;rfl
 |str _=>let⟨t,rfl⟩:=r;rfl
 |Gu _=>let⟨t,rfl⟩:=r;rfl
 |Gm _=>let⟨t,rfl⟩:=r;rfl
 |ref _=>cases r;rfl
 |ty _=>cases r;rfl
def RelV.inj{x:V}(r:RelV x u)(q:RelV y u):x=y:=jk.inj (r.abs.symm.trans q.abs)
def Vals.inj:∀{xs ys:List V}{us:List au},Vals xs us->Vals ys us->xs=ys
 |_,_,_,.nil,.nil=>rfl
 |_,_,_,.cons r t,.cons r' t'=>by rw[r.inj r',Vals.inj t t']
section
variable{X:Cx}{ψ:List (bw×Obj)}{s:cu}{xs:List V}
def bX.of{K:jm}(h:H a=aj (.lst xs)):bX K H a xs:=.inl (.inl h)
def yM.of{K:jm}(h:H a=aj (.tup xs)):yM K H a xs:=.inl (.inl h)
def Inv.list(I:Inv X ψ σ H s)(h:bX X.K H a xs):∃its:List au,Vals xs its/\PlainL s.heap a its.toArray/\xs.length<=dh:=by
 rcases h with h|⟨o,its,n,hk,hc,hd,hs,hz,r⟩
 .obtain⟨z,its,n,r,e⟩:=h.ok I.af;exact⟨its,r,⟨_,n,e,rfl,rfl,rfl⟩,z⟩
 .refine⟨its.toList,r,⟨o,n,I.dC a o hk,hc,hd,by simpa using hs⟩,?_⟩;have e:=r.length;simp only[jg]at e;omega
def Inv.tuple(I:Inv X ψ σ H s)(h:yM X.K H a xs):∃its:List au,Vals xs its/\IsTup s.heap a its.toArray/\xs.length<=dh:=by
 rcases h with h|⟨o,its,n,hk,hc,hs,hz,r⟩
 .obtain⟨z,its,r,p⟩:=h.ok I.af;exact⟨its,r,p,z⟩
 .refine⟨its.toList,r,⟨o,I.dC a o hk,hc,n,by simpa using hs⟩,?_⟩;have e:=r.length;simp only[jg]at e;omega
def Inv.Yh(I:Inv X ψ σ H s)(h:bX X.K H a xs)(h':bX X.K H a ys):xs=ys:=by
 let⟨its,r,⟨o,n,e,_,_,d⟩,_⟩:=I.list h;let⟨its',r',⟨o',n',e',_,_,d'⟩,_⟩:=I.list h';rw[e]at e';cases e';rw[d]at d';injection d' with d1 _;have:its=its':=by simpa using congrArg Array.toList d1
 subst this;exact r.inj r'
def Inv.JY(I:Inv X ψ σ H s)(h:yM X.K H a xs)(h':yM X.K H a ys):xs=ys:=by
 let⟨its,r,⟨o,e,_,n,d⟩,_⟩:=I.tuple h;let⟨its',r',⟨o',e',_,n',d'⟩,_⟩:=I.tuple h';rw[e]at e';cases e';rw[d]at d';injection d' with d1 _;have:its=its':=by simpa using congrArg Array.toList d1
 subst this;exact r.inj r'
end
section
end
section
variable{X:Cx}{st:qw}{rest:List qw}{t u:TS}{te:TE}{pos:Pos}
abbrev Mz:TS:=λD σ H=>D.nx σ H
abbrev Qk(t u:TS):TS:=λD σ H=>t {D with nx:=u D} σ H
def WM:gS X [] Mz:=λ_ _ σ H _ I h=>wpAny_execs_nil ⟨σ,H,I,h⟩
private theorem Yg(h1:PS X st t)(h2:gS X rest u):gS X (st::rest) (Qk t u):=by
 intro ψ s σ H D I h;refine wpAny_execs_cons (cV (h1 ψ s σ H {D with nx:=u D} I h) λf s1 q=>?_);cases f with
 |next =>
  let⟨aS,H',I',q⟩:=q;exact h2 ψ s1 aS H' D I' q
 |ret v=>exact q
 |brk=>exact q
 |cont=>exact q
private theorem WL(h1:PS X st t):gS X [st] t:=by
 intro ψ s σ H D I h;refine wpAny_execs_cons (cV (h1 ψ s σ H D I h) λf s1 q=>?_);cases f with
 |next=>exact wpAny_execs_nil q
 |ret v=>exact q
 |brk=>exact q
 |cont=>exact q
def WK:PS X (.Pass pos) Mz:=λ_ _ σ H _ I h=>wpAny_Pass ⟨σ,H,I,h⟩
def Inv.quiet(I:Inv X ψ σ H s):interactive X.env=ao:=by simp[interactive,I.ok.kind]
abbrev aF2(te:TE):TS:=λD σ H=>te σ H λ_ H1=>D.nx σ H1
def WI(he:PE X e te)(hs:oD e bh pos.line X.env=pure ao:=by rfl):PS X (.Expr e pos) (aF2 te):=by
 intro ψ s σ H D I h;exact wpAny_Expr_any (cV (he ψ s σ H _ I h) (by rintro v s1 ⟨x,H1,I1,r1,q1⟩;exact⟨σ,H1,I1,q1⟩)) I.quiet hs
abbrev aJU(te:TE):TS:=λD σ H=>te σ H D.rt
def T7(he:PE X e te):PS X (.Return (aj e) pos) (aJU te):=by
 intro ψ s σ H D I h;exact wpAny_Return_some (cV (he ψ s σ H _ I h) (by rintro v s1 ⟨x,H1,I1,r1,q1⟩;exact⟨x,σ,H1,I1,r1,q1⟩))
abbrev aJV(c:TT)(t u:TS):TS:=λD σ H=>c σ H λb H1=>if b=ak then t D σ H1 else u D σ H1
def aF3{b:List qw}(hc:PT X c tc)(ha:gS X a t)(hb:gS X b u):PS X (.If c a b pos) (aJV tc t u):=by
 intro ψ s σ H D I h;refine wpAny_If (cV (hc ψ s σ H _ I h) ?_);rintro d s1 ⟨H1,I1,q1⟩;cases d with
 |true=>exact ha ψ s1 σ H1 D I1 q1
 |false=>exact hb ψ s1 σ H1 D I1 q1
end
@[simp]def TG:=V->St->Hp->(St->Hp->Prop)->Prop
@[simp]def xf:=List V->St->Hp->(St->Hp->Prop)->Prop
abbrev PG(X:Cx)(target:ji)(t:TG):Prop :=
 ∀(ψ:List (bw×Obj))(s:cu)(σ:St)(H:Hp)(v:V)(u:au)(Q:St->Hp->Prop),Inv X ψ σ H s->RelV v u->t v σ H Q ->
  dj (fj X.prog X.w) X.A (assign target X.env u) (λ_ s'=>∃aS H',Inv X ψ aS H' s'/\Q aS H') X.xe s
abbrev Cv(X:Cx)(ts:List ji)(t:xf):Prop :=
 ∀(ψ:List (bw×Obj))(s:cu)(σ:St)(H:Hp)(vs:List V)(us:List au)(Q:St->Hp->Prop),Inv X ψ σ H s->Vals vs us->t vs σ H Q ->
  dj (fj X.prog X.w) X.A (assignInOrder ((oI ts X.env).map (·.2)) us) (λ_ s'=>∃aS H',Inv X ψ aS H' s'/\Q aS H') X.xe s
@[simp]def RQ:=V->V->Hp->VK->Prop
abbrev PIp(X:Cx)(op:Operator)(t:RQ):Prop :=
 ∀(ψ:List (bw×Obj))(s:cu)(σ:St)(H:Hp)(x y:V)(v u:au)(Q:VK),Inv X ψ σ H s->RelV x v->RelV y u->t x y H Q ->
  dj (fj X.prog X.w) X.A (inplaceOp op v u) (EP X ψ σ Q) X.xe s
variable{i:Nat}
section
variable{X:Cx}{pos:Pos}
abbrev Ee(i:Nat):TG:=λv σ H Q=>Q (σ.set i (aj v)) H
def IF(hN:X.N.Nodup)(hi:X.N[i]?=aj x)(hx:Loc X.env.scope x)(hf:X.fn x=ak∨X.env.scope.names.lookup x=aj .local:=by first|exact .inl rfl|exact .inr rfl|assumption):PG X (.Name x pos) (Ee i):=by
 intro ψ s σ H v u Q I r h;exact wpAny_assign_Name (JE I hN hi hx r (λs' I'=>⟨_,H,I',h⟩) hf)
abbrev Qj:xf:=λvs σ H Q=>vs=[]/\Q σ H
abbrev My(t:TG)(u:xf):xf:=λvs σ H Q=>∃v r,vs=v::r/\t v σ H λaS H'=>u r aS H' Q
def WH:Cv X [] Qj:=by
 intro ψ s σ H vs us Q I r h;let⟨e,h⟩:=h;subst e;cases r;exact assignInOrder_nil ⟨σ,H,I,h⟩
def Ye{t:TG}(h1:PG X e t)(h2:Cv X es u)
  (hs:(oI (e::es) X.env).map (·.2)=assign e X.env::(oI es X.env).map (·.2):=by rfl):Cv X (e::es) (My t u):=by
 intro ψ s σ H vs us Q I r h;let⟨v,vr,e1,h⟩:=h;subst e1;cases r with
 |cons r rr =>
  rw[hs];refine assignInOrder_cons (cV (h1 ψ s σ H _ _ _ I r h) ?_);rintro _ s1 ⟨R6,H1,I1,q1⟩;exact h2 ψ s1 R6 H1 _ _ Q I1 rr q1
abbrev aJX(K:jm)(n:Nat)(t:xf):TG:=λv σ H Q=>∃a xs,v=.ref a/\yM K H a xs/\xs.length=n/\t xs σ H Q
def NI{k:Nat}{t:xf}(hc:X.calm=ak)(h:Cv X es t)
  (hn:(oI es X.env).length=n:=by rfl)(dS:(oI es X.env).findIdx? (·.1)=bh:=by rfl):PG X (.Tuple es k pos) (aJX X.K n t):=by
 intro ψ s σ H v u Q I r hw;let⟨a,xs,e1,hq,hl,hw⟩:=hw;subst e1;cases r;let⟨its,rv,ht,hz⟩:=I.tuple hq;refine assign_Tuple_tuple (I.ok.hd hc) ht (by simp[hn,←hl,rv.length]) dS λh' hx=>?_;have I1:Inv X ψ σ H {s with heap:=h' }:=I.kept (t':=s.toks) λb o e=>hx b o (jq (ig e)) e;exact h ψ _ σ H xs _ Q I1 (by simpa using rv) hw
abbrev aJY(te:TE)(g:TG):TS:=λD σ H=>te σ H λx H1=>g x σ H1 D.nx
def T6(hN:X.N.Nodup)(hi:X.N[i]?=aj x)(hx:Loc X.env.scope x)(he:PE X e te)(hs:oD e (aj (.Name x pos')) pos.line X.env=pure ao:=by rfl)(hf:X.fn x=ak∨X.env.scope.names.lookup x=aj .local:=by first|exact .inl rfl|exact .inr rfl|assumption) :
  PS X (.Assign [.Name x pos'] e pos) (aJY te (Ee i)):=by
 intro ψ s σ H D I h;refine wpAny_Assign_Name (cV (he ψ s σ H _ I h) ?_) hs;rintro v s1 ⟨y,H1,I1,r1,q1⟩;exact JE I1 hN hi hx r1 (λs2 I2=>⟨_,H1,I2,q1⟩) hf
abbrev aJZ(i:Nat)(te:TE)(ti:RQ):TS:=λD σ H=>∃x,σ[i]?=aj (aj x)/\te σ H λy H1=>ti x y H1 λz H2=>D.nx (σ.set i (aj z)) H2
private theorem T5(hN:X.N.Nodup)(hi:X.N[i]?=aj x)(hx:Loc X.env.scope x)(he:PE X e te)(ho:PIp X op ti)(hf:X.fn x=ak∨X.env.scope.names.lookup x=aj .local:=by first|exact .inl rfl|exact .inr rfl|assumption) :
  PS X (.AugAssign (.Name x pos') op e pos) (aJZ i te ti):=by
 intro ψ s σ H D I h;let⟨v,e1,h⟩:=h;let⟨m,hn,hl⟩:=I.loc;have xx:sv X.env.scope x:=by rcases hx with k|k;exact .inl k;exact .inr (.inl k)
 let⟨u,r,l⟩:=hl i x v hi e1 xx;refine wpAny_AugAssign_Name ?_
 have go:dj (fj X.prog X.w) X.A (eval e X.env) (λw bp=>dj (fj X.prog X.w) X.A (inplaceOp op u w) (λr fg=>dj (fj X.prog X.w) X.A (storeName X.env x r) (λ_=>SP X ψ D .next) X.xe fg) X.xe bp) X.xe s:=by
  refine cV (he ψ s σ H _ I h) ?_;rintro w s1 ⟨y,H1,I1,r1,q1⟩;refine cV (ho ψ s1 σ H1 v y u w _ I1 r r1 q1) ?_;rintro z s2 ⟨zv,H2,I2,r2,q2⟩;exact JE I2 hN hi hx r2 (λs3 I3=>⟨_,H2,I3,q2⟩) hf
 rcases l with⟨hk,hm⟩|⟨hk,c,hc,eJ⟩
 .exact wpAny_loadName_local I.ok.kind hk hn hm go
 .rcases hk with hk|hk
  .exact wpAny_loadName_cell I.ok.kind hk hc eJ go
  .rcases hx with k|k
   .have:X.env.scope.names.lookup x=aj .free:=hk;rw[k]at this;cases this
   .have:X.env.scope.names.lookup x=aj .free:=hk;rw[k]at this;cases this
end
section
end
structure It where
 go:Nat->Hp->Prop
 xw:Nat->Hp->V->Hp->Prop
 stop:Nat->Hp->Prop
abbrev jn(X:Cx)(ψ:List (bw×Obj))(H:Hp)(b:bw):Prop :=
 H b=bh/\b≠X.env.locals/\b∉X.fs/\(b∈X.ex∨X.ar.heap.objs.size<=b)/\(∀x c,X.env.cells.lookup x=aj c->c≠b)/\∀p∈X.pn++ψ,p.1≠b
def Inv.iE{b:bw}(I:Inv X ψ σ H s)(hb:s.heap.objs.size<=b)(hn:H' b=bh):jn X ψ H' b:=by
 refine⟨hn,Ae (qb I.lt hb),I.aJP hb,.inr (wg I.sz hb),λx c e z=>?_,λp hp z=>?_⟩
 .obtain⟨v,q⟩:=I.cell x c e;exact absurd (qb q.lt (by rw[z];exact hb)) (wz _)
 .exact absurd (qb (ig (I.pin p hp).1) (by rw[z];exact hb)) (wz _)
structure Turn(cm:Bool)(tl:List (bw×List V))(P:kj)(w:jj)(K:jm)(tg:ji)(J:It)(fp:List bw)(it:bw)(tn:Nat->ju->Prop):Prop where
 mem:it∈fp
 obj:∀i h,tn i h->∀b∈fp,∃o,h.get? b=aj o/\∀v,o.data≠.cell v
 keep:∀i h h',tn i h->(∀b∈fp,∀o,h.get? b=aj o->h'.get? b=aj o)->tn i h'
 item:∀(X:Cx),X.prog=P->X.w=w->X.K=K->(cm=ak->X.calm=ak)->(∀p∈tl,p∈X.tp)->∀(i:Nat)(ψ:List (bw×Obj))(s:cu)(σ:St)(H:Hp)(E:au->cu->Prop),Inv X ψ σ H s->(∀b∈fp,jn X ψ H b)->tn i s.heap->J.go i H ->
  dj (fj P w) X.A (zx (.ref it)) (λr s1=>∃u,r=aj u /\
   dj (fj P w) X.A (Cd tg (.ref it) u) (λ_ s2=>∃x H',Inv X ψ σ H' s2/\RelV x u/\J.xw i H x H'/\tn (i+1) s2.heap/\∀b∈fp,H' b=bh) E s1) E s
 done:∀(X:Cx),X.prog=P->X.w=w->X.K=K->(cm=ak->X.calm=ak)->(∀p∈tl,p∈X.tp)->∀(i:Nat)(ψ:List (bw×Obj))(s:cu)(σ:St)(H:Hp)(E:au->cu->Prop),Inv X ψ σ H s->(∀b∈fp,jn X ψ H b)->tn i s.heap->J.stop i H ->
  dj (fj P w) X.A (zx (.ref it)) (λr s1=>r=bh/\Inv X ψ σ H s1) E s
 self:∀(A:mq)(i:Nat)(s:cu)(Q:au->cu->Prop)(E:au->cu->Prop),tn i s.heap->Q (.ref it) s->dj (fj P w) A (pyIter (.ref it)) Q E s
@[simp]def TI:=St->Hp->(It->Hp->Prop)->Prop
abbrev RS(X:Cx)(ψ:List (bw×Obj))(σ:St)(tg:ji)(R:It->Hp->Prop)(Dm:au)(s2:cu):Prop :=
 ∃(it:bw)(fp:List bw)(tn:Nat->ju->Prop)(J:It)(H':Hp),Dm=.ref it/\Inv X ψ σ H' s2/\Turn X.calm X.tp X.prog X.w X.K tg J fp it tn/\tn 0 s2.heap/\(∀b∈fp,jn X ψ H' b)/\R J H'
abbrev PI(X:Cx)(tg iter:ji)(wi:TI):Prop :=
 ∀(ψ:List (bw×Obj))(s:cu)(σ:St)(H:Hp)(R:It->Hp->Prop),Inv X ψ σ H s->wi σ H R ->
  dj (fj X.prog X.w) X.A (eval iter X.env) (λv s1=>dj (fj X.prog X.w) X.A (pyIter v) (RS X ψ σ tg R) X.xe s1) X.xe s
def rX{E:au->cu->Prop}{o:Obj}{n:String}(ho:s.heap.get? it=aj o)(hc:o.cls=.type n)(hd:o.data=.fields vs)
  (hn:["enumerate","zip","dict_itemiterator","dict_reverseitemiterator","odict_iterator","itertools.zip_longest","itertools.pairwise"].contains n=ao)(hQ:Q () s):dj M A (Cd tg (.ref it) u) Q E s:=by
 unfold Cd
 cases tg<;>first
  |exact cg hQ
  |(cases u<;>first
    |exact cg hQ
    |(refine aq (wpAny_load ho ?_)
      rw[hc,hd];show dj M A (if(["enumerate","zip","dict_itemiterator","dict_reverseitemiterator","odict_iterator","itertools.zip_longest","itertools.pairwise"].contains n&&vs[0]?==aj (eL _))=ak then _ else _) Q E s;rw[if_neg (by intro h;rw[hn,Bool.false_and]at h;cases h)];exact cg hQ))
abbrev J8(K:jm)(a:bw):It :=
 ⟨λi H=>∃xs x,bX K H a xs/\xs[i]?=aj x,λi H x H'=>H'=H/\∀xs,bX K H a xs->xs[i]?=aj x,λi H=>∃xs,bX K H a xs/\xs.length<=i⟩
abbrev J7(K:jm)(a:bw):It :=
 ⟨λi H=>∃xs x,yM K H a xs/\xs[i]?=aj x,λi H x H'=>H'=H/\∀xs,yM K H a xs->xs[i]?=aj x,λi H=>∃xs,yM K H a xs/\xs.length<=i⟩
abbrev AE(lo:Int)(n:Nat):It:=⟨λi _=>i<n,λi H x H'=>H'=H/\x=.int (lo+i),λi _=>n<=i⟩
def QU{w:jj}{K:jm}(a it:bw):Turn cm tl P w K tg (J8 K a) [it] it (λi h=>h.IsListIter it a i) where
 mem:=by simp
 obj:=λi h st b hb=>by
  have e:b=it:=by simpa using hb
  subst e;let⟨o,e,c,d⟩:=st;exact⟨o,e,λv z=>by rw[d]at z;cases z⟩
 keep:=λi h h' st k=>st.at λo e=>k it (by simp) o e
 item:=by
  intro X hP hw hK hc ht i ψ s σ H E I hf st hg;subst hP hw hK;let⟨xs,x,hq,hx⟩:=hg;let⟨its,rv,p,hz⟩:=I.list hq;let⟨u,hu,ru⟩:=rv.get hx;let⟨f0,f1,f2,f3,f4,f5⟩:=hf it (by simp);refine wpAny_pyNext_list_item st p.isList (x:=u) (by simpa using hu) λh' bu sb=>?_;have I1:Inv X ψ σ H {s with heap:=h' }:=I.turned (t':=s.toks) (λb o hb e=>(sb.2 b hb).trans e) f0 f1 f3 f4 f5;let⟨o,e,c,d⟩:=id bu;exact⟨u,rfl,rX (s:={s with heap:=h' }) e c d (by decide) ⟨x,H,I1,ru,⟨rfl,λys hy=>by rw[I.Yh hy hq];exact hx⟩,bu,λb hb=>(hf b hb).1⟩⟩
 done:=by
  intro X hP hw hK hc ht i ψ s σ H E I hf st hg;subst hP hw hK;let⟨xs,hq,hx⟩:=hg;let⟨its,rv,p,hz⟩:=I.list hq;let⟨f0,f1,f2,f3,f4,f5⟩:=hf it (by simp);have hl:=rv.length;exact Zc (I.b8.heap I.af) st p.isList (by simp;omega) λh' eb=>⟨rfl,I.turned (t':=s.toks) (λb o hb e=>eb b o hb e) f0 f1 f3 f4 f5⟩
 self:=λ_ _ _ _ _ st h=>wpAny_pyIter_listiter st h
def Rf{w:jj}{K:jm}(a it:bw):Turn cm tl P w K tg (J7 K a) [it] it (λi h=>h.IsTupleIter it a i) where
 mem:=by simp
 obj:=λi h st b hb=>by
  have e:b=it:=by simpa using hb
  subst e;let⟨o,e,c,d⟩:=st;exact⟨o,e,λv z=>by rw[d]at z;cases z⟩
 keep:=λi h h' st k=>st.at λo e=>k it (by simp) o e
 item:=by
  intro X hP hw hK hc ht i ψ s σ H E I hf st hg;subst hP hw hK;let⟨xs,x,hq,hx⟩:=hg;let⟨its,rv,p,hz⟩:=I.tuple hq;let⟨u,hu,ru⟩:=rv.get hx;let⟨f0,f1,f2,f3,f4,f5⟩:=hf it (by simp);refine wpAny_pyNext_tuple_item st (show s.heap.IsTuple a its.toArray from p) (x:=u) (by simpa using hu) λh' bu sb=>?_;have I1:Inv X ψ σ H {s with heap:=h' }:=I.turned (t':=s.toks) (λb o hb e=>(sb.2 b hb).trans e) f0 f1 f3 f4 f5;let⟨o,e,c,d⟩:=id bu;exact⟨u,rfl,rX (s:={s with heap:=h' }) e c d (by decide) ⟨x,H,I1,ru,⟨rfl,λys hy=>by rw[I.JY hy hq];exact hx⟩,bu,λb hb=>(hf b hb).1⟩⟩
 done:=by
  intro X hP hw hK hc ht i ψ s σ H E I hf st hg;subst hP hw hK;let⟨xs,hq,hx⟩:=hg;let⟨its,rv,p,hz⟩:=I.tuple hq;let⟨f0,f1,f2,f3,f4,f5⟩:=hf it (by simp);have hl:=rv.length;exact Yk (I.b8.heap I.af) st (show s.heap.IsTuple a its.toArray from p) (by simp;omega) λh' eb=>⟨rfl,I.turned (t':=s.toks) (λb o hb e=>eb b o hb e) f0 f1 f3 f4 f5⟩
 self:=λ_ _ _ _ _ st h=>wpAny_pyIter_tupleiter st h
def ZK{w:jj}{K:jm}(it:bw)(lo:Int)(n:Nat):Turn cm tl P w K tg (AE lo n) [it] it (λi h=>IsRangeIter h it (lo+(i:Nat)*1) ((n:Int) - (i:Nat)) 1) where
 mem:=by simp
 obj:=λi h st b hb=>by
  have e:b=it:=by simpa using hb
  subst e
  exact⟨_,st,λv z=>by
   have z':Data.fields _=Data.cell v:=z;cases z'⟩
 keep:=λi h h' st k=>k it (by simp) _ st
 item:=by
  intro X hP hw hK hc ht i ψ s σ H E I hf st hg;subst hP hw hK;let⟨f0,f1,f2,f3,f4,f5⟩:=hf it (by simp);have hi:i<n:=hg;refine wpAny_pyNext_range_item st ⋯ λh' bu kk=>?_;have I1:Inv X ψ σ H {s with heap:=h',toks:=s.toks+1}:=I.turned (λb o hb e=>(kk.2 b hb).trans e) f0 f1 f3 f4 f5
  have hX:IsRangeIter h' it (lo+((i+1:Nat):Int)*1) ((n:Int) - ((i+1:Nat):Int)) 1:=by
   have e1:lo+((i:Nat):Int)*1+1=lo+((i+1:Nat):Int)*1:=by omega
   have e2:(n:Int) - ((i:Nat):Int) - 1=(n:Int) - ((i+1:Nat):Int):=by omega
   rw[←e1,←e2];exact bu
  refine⟨_,rfl,rX (s:={s with heap:=h',toks:=s.toks+1}) (n:="range_iterator") hX rfl rfl (by decide) ⟨.int (lo+i),H,I1,⟨s.toks,?_⟩,⟨rfl,rfl⟩,hX,λb hb=>(hf b hb).1⟩⟩;rw[Int.mul_one]
 done:=by
  intro X hP hw hK hc ht i ψ s σ H E I hf st hg;subst hP hw hK;let⟨f0,f1,f2,f3,f4,f5⟩:=hf it (by simp);exact Yj (I.b8.heap I.af) st (by have:n<=i:=hg;omega) λh' eb=>⟨rfl,I.turned (t':=s.toks) (λb o hb e=>eb b o hb e) f0 f1 f3 f4 f5⟩
 self:=λ_ _ _ _ _ st h=>wpAny_pyIter_rangeiter st h
end
section
variable{h:ju}
section
variable{X:Cx}
def PZ{R:It->Hp->Prop}{lo hi:Int}{t:Tok}{tk:Nat}(I:Inv X ψ σ H s)(h1:-(2^62)<=lo)(h2:lo<2^62)(h3:-(2^62)<=hi)(h4:hi<2^62)
  (q:R (AE lo (hi - lo).toNat) H):dj (fj X.prog X.w) X.A (pyIter (.ref s.heap.objs.size)) (RS X ψ σ tg R) E {s with heap:=s.heap.push {cls:=.type "range",data:=.fields #[.int lo t,.int hi u,.int 1 v]},toks:=tk}:=by
 refine wpAny_pyIter_range (IsRange.new ..) (small_one h1 h2 h3 h4) ?_;have I1:Inv X ψ σ H {s with heap:=s.heap.push {cls:=.type "range",data:=.fields #[.int lo t,.int hi u,.int 1 v]},toks:=tk}:=I.kept λb o e=>cj _ e
 refine⟨(s.heap.push {cls:=.type "range",data:=.fields #[.int lo t,.int hi u,.int 1 v]}).objs.size,[(s.heap.push {cls:=.type "range",data:=.fields #[.int lo t,.int hi u,.int 1 v]}).objs.size],_,_,H,rfl,
  I1.kept (t':=tk) λb o e=>cj _ e,ZK _ lo (hi - lo).toNat,?_,λb hb=>?_,q⟩
 .have e1:lo+((0:Nat):Int)*1=lo:=by simp
  have e2:(((hi - lo).toNat:Nat):Int) - ((0:Nat):Int)=Builtin.Range.rangeSize lo hi 1:=by rw[rangeSize_one];split<;>omega
  show IsRangeIter _ _ (lo+((0:Nat):Int)*1) ((((hi - lo).toNat:Nat):Int) - ((0:Nat):Int)) 1;rw[e1,e2];exact iz _ rfl
 .have e:b=(s.heap.push {cls:=.type "range",data:=.fields #[.int lo t,.int hi u,.int 1 v]}).objs.size:=by simpa using hb
  subst e;exact I1.iE (dz _) (I1.af.fresh (dz _))
abbrev aF6(ta:TA):TI:=λσ H R=>ta σ H λvs H1=>∃j:Int,vs=[.int j]/\-(2^62)<=j/\j<2^62/\R (AE 0 j.toNat) H1
abbrev aF7(ta:TA):TI:=λσ H R=>ta σ H λvs H1=>∃i j:Int,vs=[.int i,.int j]/\(-(2^62)<=i/\i<2^62/\-(2^62)<=j/\j<2^62)/\R (AE i (j - i).toNat) H1
def QT(hg:Gl X "range")(hm:X.mg "range"=bh)(ha:PA X [a] ta)(hs:jo [a] X.env=[(ao,eval a X.env)]:=by rfl):PI X tg (.Call (.Name "range" p) [a] [] pos) (aF6 ta):=by
 intro ψ s σ H R I h;refine Call_ (uI I hg hm boot_range (PyProof.Rows.callWith_type1 (cV (ha pos ψ s σ H _ I h) ?_) hs rfl));rintro us s1 ⟨vs,H1,I1,r1,q1⟩;let⟨j,e,q1,q2,q⟩:=q1;subst e;cases r1 with
 |cons r rr =>
  cases rr;let⟨t,rfl⟩:=r;exact call_range_1 (PZ I1 ⋯ ⋯ q1 q2 (by simpa using q))
def QS{b:ji}(hg:Gl X "range")(hm:X.mg "range"=bh)(ha:PA X [a,b] ta)(hs:jo [a,b] X.env=[(ao,eval a X.env),(ao,eval b X.env)]:=by rfl)(md:jo [b] X.env=[(ao,eval b X.env)]:=by rfl) :
  PI X tg (.Call (.Name "range" p) [a,b] [] pos) (aF7 ta):=by
 intro ψ s σ H R I h;refine Call_ (uI I hg hm boot_range (PyProof.Rows.callWith_type1 (cV (ha pos ψ s σ H _ I h) λus s1 ⟨vs,H1,I1,r1,q1⟩=>?_) (by rw[hs,md]) (by rw[md];rfl)));let⟨i,j,e,⟨q1,q2,q3,q4⟩,q⟩:=q1;subst e;cases r1 with
 |cons r rr =>
  cases rr with
  |cons r' rr =>
   cases rr;let⟨t,rfl⟩:=r;let⟨t',rfl⟩:=r';exact call_range_2 (PZ I1 q1 q2 q3 q4 q)
abbrev aK2(wi:TI)(g:TG)(tb:TS):TS:=λD σ H=>wi σ H λJ H1=>∃W:Nat->Nat->St->Hp->Prop,(∃m,W 0 m σ H1)/\∀i m σ H,W i m σ H ->
 (J.stop i H/\D.nx σ H)∨(J.go i H/\∃N:St->Hp->Prop,(∀aS H',N aS H'->∃m',m'<m/\W (i+1) m' aS H')/\∀x H',J.xw i H x H'->g x σ H' λfN H2=>tb {D with nx:=N,ct:=N,bk:=D.nx} fN H2)
abbrev Ay(fp:List bw)(h:ju):List (bw×Obj):=fp.filterMap λb=>(h.get? b).map λo=>(b,o)
def rP{b:bw}(hb:b∈fp)(e:h.get? b=aj o):(b,o)∈Ay fp h:=Cm.mpr ⟨b,hb,by rw[e];rfl⟩
def Y6{p:bw×Obj}(hp:p∈Ay fp h):p.1∈fp/\h.get? p.1=aj p.2:=by
 let⟨b,hb,e⟩:=Cm.mp hp;cases q:h.get? b with
 |none=>rw[q]at e;cases e
 |some o =>
  rw[q]at e;have e':(b,o)=p:=jk.inj e;subst e';exact⟨hb,q⟩
def Inv.pinned(I:Inv X ψ σ H s)(hf:∀b∈fp,jn X ψ H b)(ho:∀b∈fp,∃o,s.heap.get? b=aj o/\∀v,o.data≠.cell v):Inv X (ψ++Ay fp s.heap) σ H s :=
 I.OT λp hp=>(uo.mp hp).elim (λz=>I.pin p (um _ z)) λz=>by
  let⟨hb,e⟩:=Y6 z;let⟨f0,f1,f2,_⟩:=hf p.1 hb;let⟨o,e',d⟩:=ho p.1 hb;rw[e]at e';cases e';exact⟨e,f0,f1,f2,d⟩
def Inv.zA{pl:List (bw×Obj)}(I:Inv X (ψ++pl) σ H s):Inv X ψ σ H s:=I.OT λp hp=>I.pin p (um _ (JJ _ hp))
private theorem T4{g:TG}(hp:PassesOwn (fj X.prog X.w) X.A X.env X.xe)(hi:PI X tg iter wi)(hg:PG X tg g)(hb:gS X body tb)
  (hs:∀x,Ci iter X.env x=pure x:=by intro _;rfl):PS X (.For tg iter body [] pos) (aK2 wi g tb):=by
 intro ψ s σ H D I h;refine wpAny_For (cV (hi ψ s σ H _ I h) λv s1 h1=>cV h1 λDm s2 h2=>?_) hs;let⟨it,fp,tn,J,H2,e,I2,T,hX,f2,W,⟨m0,w0⟩,turn⟩:=h2;subst e;have xk:∀{H':Hp},(∀b∈fp,H' b=bh)->∀b∈fp,jn X ψ H' b:=λhn b hb=>⟨hn b hb,(f2 b hb).2⟩;refine codeAny_forLoop_any (λn s'=>∃i aS H',Inv X ψ aS H' s'/\tn i s'.heap/\(∀b∈fp,H' b=bh)/\W i n aS H') ?_ m0 ⟨0,σ,H2,I2,hX,λb hb=>(f2 b hb).1,w0⟩;rintro n s3 ⟨i,xt,H3,I3,KH,LO,w3⟩;rcases turn i n xt H3 w3 with⟨stop,qn⟩|⟨go,N,hN,step⟩
 .refine Cc hp (cV (T.done X rfl rfl rfl (λh=>h) (λ_ h=>h) i ψ s3 xt H3 X.xe I3 (xk LO) KH stop) ?_);rintro r s4 ⟨hr,I4⟩;subst hr;exact wpAny_execs_nil ⟨xt,H3,I4,qn⟩
 .refine Cc hp (cV (T.item X rfl rfl rfl (λh=>h) (λ_ h=>h) i ψ s3 xt H3 X.xe I3 (xk LO) KH go) ?_);rintro r s4 ⟨u,hr,h4⟩;subst hr;refine Cc hp (cV h4 λ_ s5 ⟨x,H5,I5,r5,y5,FC,TM⟩=>?_);have I5':=I5.pinned (xk TM) (T.obj _ _ FC);refine Cc hp (cV (hg _ s5 xt H5 x u _ I5' r5 (step x H5 y5)) λ_ s6 ⟨R4,H6,I6,q6⟩=>?_);refine Cc hp (cV (hb _ s6 R4 H6 _ I6 q6) λf s7 q7=>?_)
  have again:∀{jS:St}{H7:Hp},Inv X (ψ++Ay fp s5.heap) jS H7 s7->N jS H7->∃m,m<n/\∃i aS H',Inv X ψ aS H' s7/\tn i s7.heap/\(∀b∈fp,H' b=bh)/\W i m aS H':=λ{jS H7} I7 n7=>by
   let⟨m',hm,w7⟩:=hN jS H7 n7;refine⟨m',hm,i+1,jS,H7,I7.zA,T.keep _ _ _ FC λb hb o e=>(I7.pin (b,o) (um _ (um _ (rP hb e)))).1,λb hb=>?_,w7⟩;let⟨o,e,d⟩:=T.obj _ _ FC b hb;exact(I7.pin (b,o) (um _ (um _ (rP hb e)))).2.1
  cases f with
  |next=>let⟨jS,H7,I7,n7⟩:=q7;exact again I7 n7
  |cont=>let⟨jS,H7,I7,n7⟩:=q7;exact again I7 n7
  |brk=>let⟨jS,H7,I7,q7⟩:=q7;exact⟨jS,H7,I7.zA,q7⟩
  |ret v=>let⟨x7,jS,H7,I7,r7,q7⟩:=q7;exact⟨x7,jS,H7,I7.zA,r7,q7⟩
end
end
variable{g:Int->Int->Int}
section
@[simp]def R2:=V->V->Hp->VK->Prop
abbrev tH(X:Cx)(f:au->au->Sem au)(r:R2):Prop :=
 ∀(ψ:List (bw×Obj))(s:cu)(σ:St)(H:Hp)(x y:V)(v u:au)(Q:VK),Inv X ψ σ H s->RelV x v->RelV y u->r x y H Q ->
  dj (fj X.prog X.w) X.A (f v u) (EP X ψ σ Q) X.xe s
abbrev JZ(X:Cx)(f:au->Sem au)(r:V->Hp->VK->Prop):Prop :=
 ∀(ψ:List (bw×Obj))(s:cu)(σ:St)(H:Hp)(x:V)(v:au)(Q:VK),Inv X ψ σ H s->RelV x v->r x H Q ->
  dj (fj X.prog X.w) X.A (f v) (EP X ψ σ Q) X.xe s
abbrev uJ(X:Cx)(f:au)(r:List V->Hp->VK->Prop):Prop :=
 ∀(ψ:List (bw×Obj))(s:cu)(σ:St)(H:Hp)(xs:List V)(us:List au)(Q:VK),Inv X ψ σ H s->Vals xs us->r xs H Q ->
  dj (fj X.prog X.w) X.A (call f us) (EP X ψ σ Q) X.xe s
abbrev xN(r:R2)(ta tb:TE):TE:=λσ H Q=>ta σ H λx H1=>tb σ H1 λy H2=>r x y H2 Q
abbrev Sg(r:V->Hp->VK->Prop)(ta:TE):TE:=λσ H Q=>ta σ H λx H1=>r x H1 Q
abbrev rI(C:Int->Int->Prop)(g:Int->Int->V):R2:=λx y H Q=>∃i j,x=.int i/\y=.int j/\C i j/\Q (g i j) H
abbrev hZ(g:Int->Int->V):R2:=λx y H Q=>∃i j,x=.int i/\y=.int j/\Q (g i j) H
abbrev rU(g:Int->V):V->Hp->VK->Prop:=λx H Q=>∃i,x=.int i/\Q (g i) H
variable{f:au->au->Sem au}
section
variable{X:Cx}{a b:ji}{ta tb:TE}
def Gy(ha:PE X a ta)(hb:PE X b tb){σ:St}{H:Hp}(I:Inv X ψ σ H s)
  (h:ta σ H λx H1=>tb σ H1 λy H2=>R x y H2){Q:au->cu->Prop}
  (hf:∀v u s2 x y H2,Inv X ψ σ H2 s2->RelV x v->RelV y u->R x y H2->dj (fj X.prog X.w) X.A (f v u) Q X.xe s2) :
  dj (fj X.prog X.w) X.A (eval a X.env) (λv ah=>dj (fj X.prog X.w) X.A (eval b X.env) (λu bp=>dj (fj X.prog X.w) X.A (f v u) Q X.xe bp) X.xe ah) X.xe s:=by
 refine cV (ha ψ s σ H _ I h) ?_;rintro v s1 ⟨x,H1,I1,r1,q1⟩;refine cV (hb ψ s1 σ H1 _ I1 q1) ?_;rintro u s2 ⟨y,H2,I2,r2,q2⟩;exact hf v u s2 x y H2 I2 r1 r2 q2
def aF8(ho:tH X (yq op) r)(ha:PE X a ta)(hb:PE X b tb):PE X (.BinOp a op b pos) (xN r ta tb):=by
 intro ψ s σ H Q I h;exact wpAny_BinOp (Gy ha hb I h λv u s2 x y H2 I2 rx ry q=>ho ψ s2 σ H2 x y v u Q I2 rx ry q)
def aF9{r:V->Hp->VK->Prop}(ho:JZ X (unaryOp op) r)(ha:PE X a ta):PE X (.UnaryOp op a pos) (Sg r ta):=by
 intro ψ s σ H Q I h;exact UnaryOp_ (cV (ha ψ s σ H _ I h) (by rintro v s1 ⟨x,H1,I1,r1,q1⟩;exact ho ψ s1 σ H1 x v Q I1 r1 q1))
def Dc{C:Int->Int->Prop}
  (rule:∀(i j:Int)(t u:Tok)(s:cu)(Q:au->cu->Prop)(E:au->cu->Prop),C i j->Q (.int (g i j) s.toks) {s with toks:=s.toks+1}->dj (fj X.prog X.w) X.A (f (.int i t) (.int j u)) Q E s) :
  tH X f (rI C λi j=>.int (g i j)):=by
 intro ψ s σ H x y v u Q I rx ry h;let⟨i,j,rfl,rfl,hc,q⟩:=h;let⟨t,rfl⟩:=rx;let⟨t',rfl⟩:=ry;exact rule i j t t' s _ _ hc ⟨.int (g i j),H,I.tok _,⟨_,rfl⟩,q⟩
def DV
  (rule:∀(i j:Int)(t u:Tok)(s:cu)(Q:au->cu->Prop)(E:au->cu->Prop),Q (.int (g i j) s.toks) {s with toks:=s.toks+1}->dj (fj X.prog X.w) X.A (f (.int i t) (.int j u)) Q E s) :
  tH X f (hZ λi j=>.int (g i j)):=by
 intro ψ s σ H x y v u Q I rx ry h;let⟨i,j,rfl,rfl,q⟩:=h;let⟨t,rfl⟩:=rx;let⟨t',rfl⟩:=ry;exact rule i j t t' s _ _ ⟨.int (g i j),H,I.tok _,⟨_,rfl⟩,q⟩
def Gx{g:Int->Int->Bool}
  (rule:∀(i j:Int)(t u:Tok)(s:cu)(Q:au->cu->Prop)(E:au->cu->Prop),Q (.bool (g i j)) s->dj (fj X.prog X.w) X.A (f (.int i t) (.int j u)) Q E s) :
  tH X f (hZ λi j=>.bl (g i j)):=by
 intro ψ s σ H x y v u Q I rx ry h;let⟨i,j,rfl,rfl,q⟩:=h;let⟨t,rfl⟩:=rx;let⟨t',rfl⟩:=ry;exact rule i j t t' s _ _ ⟨.bl (g i j),H,I,rfl,q⟩
abbrev Gw(i j:Int):Prop:=0<j/\j<1073741824
abbrev Gv(i j:Int):Prop:=0<=j/\j<=1000000/\i.natAbs<2^64
abbrev Bu(i j:Int):Prop:=(-(2^64)<i/\i<2^64)∨(-(2^64)<j/\j<2^64)
def Bu.ok{i j:Int}(h:Bu i j):IntMulOk i j:=by
 rcases h with⟨h1,h2⟩|⟨h1,h2⟩
 .exact .of_left (intBits_le_64 h1 h2)
 .exact .of_right (intBits_le_64 h1 h2)
def T3:tH X (yq .Add) (hZ λi j=>.int (i+j)):=DV λ_ _ _ _ _ _ _ q=>add_int q
def T2:tH X (yq .Sub) (hZ λi j=>.int (i - j)):=DV λ_ _ _ _ _ _ _ q=>sub_int q
def T1:tH X (yq .Mult) (rI Bu λi j=>.int (i*j)):=Dc λ_ _ _ _ _ _ _ hc q=>mul_int q hc.ok
def WG:tH X (yq .FloorDiv) (rI Gw λi j=>.int (i / j)):=Dc λi j _ _ _ _ _ hc q=>by
 have h1:(0:Int)<j:=hc.1;have h2:j<1073741824:=hc.2;exact floordiv_int ⋯ (by rw[Int.fdiv_eq_ediv_of_nonneg i ⋯];exact q) (.inl (PyProof.noPylong_small ⋯))
def aA0:tH X (yq .Mod) (rI (λ_ j=>0<j) λi j=>.int (i%j)):=Dc λi j _ _ _ _ _ hc q=>by
 have h1:(0:Int)<j:=hc;exact mod_int' ⋯ (by rw[Int.fmod_eq_emod_of_nonneg i ⋯];exact q)
def aA1:tH X (yq .Pow) (rI Gv λi j=>.int (i^j.toNat)):=Dc λ_ _ _ _ _ _ _ hc q=>pow_int_small hc.1 hc.2.1 hc.2.2 q
def WE:tH X (inplaceOp .Add) (hZ λi j=>.int (i+j)):=DV λ_ _ _ _ _ _ _ q=>iadd_int q
def WD:tH X (inplaceOp .Sub) (hZ λi j=>.int (i - j)):=DV λ_ _ _ _ _ _ _ q=>isub_int q
def Se{f:au->Sem au}{g:Int->Int}
  (rule:∀(i:Int)(t:Tok)(s:cu)(Q:au->cu->Prop)(E:au->cu->Prop),Q (.int (g i) s.toks) {s with toks:=s.toks+1}->dj (fj X.prog X.w) X.A (f (.int i t)) Q E s) :
  JZ X f (rU λi=>.int (g i)):=by
 intro ψ s σ H x v Q I rx h;let⟨i,rfl,q⟩:=h;let⟨t,rfl⟩:=rx;exact rule i t s _ _ ⟨.int (g i),H,I.tok _,⟨_,rfl⟩,q⟩
def aA2:JZ X (unaryOp .USub) (rU λi=>.int (-i)):=Se λ_ _ _ _ _ q=>neg_int q
end
variable{x:V}
section
variable{X:Cx}{b:ji}{ta tb tc:TE}
def aA3{Q:VK}{k k':Bool}(I:Inv X ψ σ H s)(q:Q (.bl k) H)(e:k=k'):EP X ψ σ Q (.bool k') s:=by
 subst e;exact⟨.bl k,H,I,rfl,q⟩
def aFA:tH X (qx .Lt) (hZ λi j=>.bl (decide (i<j))):=Gx λ_ _ _ _ _ _ _ q=>lt_int q
def aFB:tH X (qx .LtE) (hZ λi j=>.bl (decide (i<=j))):=Gx λ_ _ _ _ _ _ _ q=>le_int q
def aFC:tH X (qx .Gt) (hZ λi j=>.bl (decide (j<i))):=Gx λ_ _ _ _ _ _ _ q=>gt_int q
def Y5:tH X (qx .In) (λx y H Q=>∃i j,x=.str i/\y=.str j/\Q (.bl (!(Builtin.Str.occurrences j i 0 j.length 1).isEmpty)) H):=by
 intro ψ s σ H x y v u Q I rx ry h;let⟨i,j,rfl,rfl,q⟩:=h;let⟨t,rfl⟩:=rx;let⟨t',rfl⟩:=ry;exact in_str (aA3 I q rfl)
def tH.or(h:tH X f r)(h':tH X f r'):tH X f (λx y H Q=>r x y H Q∨r' x y H Q):=by
 intro ψ s σ H x y v u Q I rx ry q;rcases q with q|q
 .exact h ψ s σ H x y v u Q I rx ry q
 .exact h' ψ s σ H x y v u Q I rx ry q
def aK5(b:ji)(h:op≠.In:=by decide)(h2:op≠.NotIn:=by decide):nK op b=ao:=by
 have e1:(op==CmpOp.In)=ao:=by cases op<;>first|rfl|exact absurd rfl h
 have e2:(op==CmpOp.NotIn)=ao:=by cases op<;>first|rfl|exact absurd rfl h2
 cases b<;>simp[nK,e1,e2]
def WC(ho:tH X (qx op) r)(ha:PE X a ta)(hb:PE X b tb)(hm:nK op b=ao):PE X (.Compare a [op] [b] pos) (xN r ta tb):=by
 intro ψ s σ H Q I h;exact wpAny_Compare1 (Gy ha hb I h λv u s2 x y H2 I2 rx ry q=>ho ψ s2 σ H2 x y v u Q I2 rx ry q) hm
abbrev Hm(t:TE):TT:=λσ H Q=>t σ H λx H'=>∃k,x=.bl k/\Q k H'
def WB(ho:tH X (qx op) r)(ha:PE X a ta)(hb:PE X b tb)(hm:nK op b=ao):PT X (.Compare a [op] [b] pos) (Hm (xN r ta tb)):=by
 intro ψ s σ H Q I h
 refine wpAny_isTrue_Compare1 (cV (ha ψ s σ H _ I h) λv s1 ⟨x,H1,I1,r1,q1⟩=>cV (hb ψ s1 σ H1 _ I1 q1) λu s2 ⟨y,H2,I2,r2,q2⟩ =>
  cV (ho ψ s2 σ H2 x y v u _ I2 r1 r2 q2) λc s3 ⟨z,H3,I3,r3,k,e,q3⟩=>?_) hm
 subst e;cases r3;exact yg ⟨H3,I3,q3⟩
abbrev HP(r r':R2)(ta tb tc:TE):TE:=λσ H Q=>ta σ H λx H1=>tb σ H1 λy H2=>r x y H2 λz H3=>∃k,z=.bl k /\
 (if k=ak then tc σ H3 λw' H4=>r' y w' H4 Q else Q (.bl ao) H3)
def Yd(ho:tH X (qx op) r)(d4:tH X (qx ku) r')(ha:PE X a ta)(hb:PE X b tb)(hc:PE X c tc)
  (hm:lastMarks [op,ku] [b,c]=ao:=by with_unfolding_all rfl):PE X (.Compare a [op,ku] [b,c] pos) (HP r r' ta tb tc):=by
 intro ψ s σ H Q I h
 refine Compare_chain (cV (ha ψ s σ H _ I h) λv s1 ⟨x,H1,I1,r1,q1⟩=>chain_link (cV (hb ψ s1 σ H1 _ I1 q1) λu s2 ⟨y,H2,I2,r2,q2⟩ =>
  cV (ho ψ s2 σ H2 x y v u _ I2 r1 r2 q2) λd s3 ⟨z,H3,I3,r3,k,e,q3⟩=>?_)) hm
 subst e;cases r3;refine yg ?_;cases k with
 |false=>exact ite_ff ⟨.bl ao,H3,I3,rfl,q3⟩
 |true=>exact ite_tt (chain_last (cV (hc ψ s3 σ H3 _ I3 q3) λw' s4 ⟨z',H4,I4,r4,q4⟩=>d4 ψ s4 σ H4 y z' u w' Q I4 r2 r4 q4))
def Yc(ho:tH X (qx op) r)(d4:tH X (qx ku) r')(ha:PE X a ta)(hb:PE X b tb)(hc:PE X c tc)
  (hm:lastMarks [op,ku] [b,c]=ao:=by with_unfolding_all rfl):PT X (.Compare a [op,ku] [b,c] pos) (Hm (HP r r' ta tb tc)):=by
 intro ψ s σ H Q I h
 refine isTrue_chain (cV (ha ψ s σ H _ I h) λv s1 ⟨x,H1,I1,r1,q1⟩=>test_link (cV (hb ψ s1 σ H1 _ I1 q1) λu s2 ⟨y,H2,I2,r2,q2⟩ =>
  cV (ho ψ s2 σ H2 x y v u _ I2 r1 r2 q2) λd s3 ⟨z,H3,I3,r3,k,e,q3⟩=>?_)) hm
 subst e;cases r3;refine yg ?_;cases k with
 |false =>
  let⟨k',e',q'⟩:=q3;cases e';exact ite_ff ⟨H3,I3,q'⟩
 |true =>
  refine ite_tt (test_last (cV (hc ψ s3 σ H3 _ I3 q3) λw' s4 ⟨z',H4,I4,r4,q4⟩=>cV (d4 ψ s4 σ H4 y z' u w' _ I4 r2 r4 q4) ?_));rintro d' s5 ⟨z2,H5,I5,r5,k2,e2,q5⟩;subst e2;cases r5;exact yg ⟨H5,I5,q5⟩
def BZ:(dh:Nat)<2^63:=by rw[sizeLine_eq];decide
def ZJ:tH X (yq .Add) (λx y H Q=>∃i j,x=.str i/\y=.str j/\i.length+j.length<=dh/\Q (.str (i++j)) H):=by
 intro ψ s σ H x y v u Q I rx ry h;let⟨i,j,rfl,rfl,hz,q⟩:=h;let⟨t,rfl⟩:=rx;let⟨t',rfl⟩:=ry;exact add_str (λt' tk=>⟨.str (i++j),H,I.tok _,⟨_,rfl⟩,q⟩) hz
def vals1(r:Vals [x] us):∃u,us=[u]/\RelV x u:=by
 cases r with
 |cons r1 r2=>cases r2;exact⟨_,rfl,r1⟩
def vals2(r:Vals [x,y] us):∃u w',us=[u,w']/\RelV x u/\RelV y w':=by
 cases r with
 |cons r1 r2 =>
  cases r2 with
  |cons r3 r4=>cases r4;exact⟨_,_,rfl,r1,r3⟩
def Y4(hc:X.calm=ak):uJ X (.builtin "max") (λxs H Q=>∃i j,xs=[.int i,.int j]/\Q (.int (if j>i then j else i)) H):=by
 intro ψ s σ H xs us Q I r h;let⟨i,j,rfl,q⟩:=h;let⟨u,w',rfl,⟨t,rfl⟩,⟨t',rfl⟩⟩:=vals2 r;refine max_two_ints (I.ok.hd hc) λh' tk k=>⟨_,H,I.kept k,?_,q⟩;by_cases hj:j>i
 .rw[if_pos hj,if_pos hj];exact⟨_,rfl⟩
 .rw[if_neg hj,if_neg hj];exact⟨_,rfl⟩
def Y3(hc:X.calm=ak):uJ X (.builtin "min") (λxs H Q=>∃i j,xs=[.int i,.int j]/\Q (.int (if j<i then j else i)) H):=by
 intro ψ s σ H xs us Q I r h;let⟨i,j,rfl,q⟩:=h;let⟨u,w',rfl,⟨t,rfl⟩,⟨t',rfl⟩⟩:=vals2 r;refine min_two_ints (I.ok.hd hc) λh' tk k=>⟨_,H,I.kept k,?_,q⟩;by_cases hj:j<i
 .rw[if_pos hj,if_pos hj];exact⟨_,rfl⟩
 .rw[if_neg hj,if_neg hj];exact⟨_,rfl⟩
def Y2:uJ X (.type "int") (λxs H Q=>(∃i,xs=[.int i]/\Q (.int i) H)∨∃k,xs=[.bl k]/\Q (.int (if k then 1 else 0)) H):=by
 intro ψ s σ H xs us Q I r h;rcases h with⟨i,rfl,q⟩|⟨k,rfl,q⟩
 .obtain⟨u,rfl,t,rfl⟩:=vals1 r;exact call_int_int ⟨.int i,H,I,⟨_,rfl⟩,q⟩
 .obtain⟨u,rfl,r1⟩:=vals1 r;cases r1;exact call_int_bool ⟨.int (if k then 1 else 0),H,I.tok _,⟨_,rfl⟩,q⟩
end
end
section
section
variable{prog:kj}{w:jj}{A:mq}{s:cu}{K:jm}
def Yb{R:Result->cu->Prop}(X:K.In s.heap)(hm:PySem.W.makesIn K C=ak)
  (hi:zf K (.ref C) "__init__"=aj (aj (.ref f)))(hf:PySem.W.typeIn K (.ref f)=aj (.type "function"))
  (h:gL (fj prog w) (A.under (.builtin "type.__call__" ⟨.ref C::vs,kw⟩)) (.call (.ref f) ⟨.ref (s.heap.objs.size+1)::vs,kw⟩) (PySem.W.InitBack (s.heap.objs.size+1) R)
   {s with heap:=(s.heap.push yw).push (Aj C s.heap.objs.size)}) :
  gL (fj prog w) A (.call (.ref C) ⟨vs,kw⟩) R s:=by
 let⟨hh,g,d,t,os⟩:=s;exact PySem.W.make_core (PySem.W.makes_of X hm) (PySem.W.looks_findIn X hi) (λself=>PySem.W.bind_fn X self hf) (.inl rfl) h
end
def iF.some_of(r:iF (aj v) o):∃u,o=aj u/\RelV v u:=by
 cases o with
 |none=>exact(show False from r).elim
 |some u=>exact⟨u,rfl,r⟩
section
end
structure Ft(K:jm)(C:bw):Prop where
 pg:PySem.W.plainGet K C Str.empty=ak
 hd:PySem.W.hasDictIn K C=ak
 po:PySem.W.plainOver K C=ak
 sa:zf K (.ref C) "__setattr__"=aj (aj (.builtin "object.__setattr__"))
abbrev NH(K:jm)(C:bw)(f:Str):Prop:=zf K (.ref C) f=aj bh
structure Meth(K:jm)(C:bw)(m:Str)(f:bw):Prop where
 at_:zf K (.ref C) m=aj (aj (.ref f))
 fn:PySem.W.isFn K (.ref f)=ak
 kp:yh K (.ref f)=ak
section
variable{ψ:List (bw×Obj)}{s:cu}
def Inv.made(I:Inv X ψ σ H s):Inv X ψ σ (upd (upd H s.heap.objs.size (.own (s.heap.objs.size+1))) (s.heap.objs.size+1) (.ins C s.heap.objs.size []))
  {s with heap:=(s.heap.push yw).push (Aj C s.heap.objs.size)}:=by
 have e1:(s.heap.push yw).get? s.heap.objs.size=aj yw:=iz s.heap rfl
 have e2:((s.heap.push yw).push (Aj C s.heap.objs.size)).get? (s.heap.objs.size+1)=aj (Aj C s.heap.objs.size):=by
  have:=iz (s.heap.push yw) (o:=Aj C s.heap.objs.size) rfl
  rwa [B7]at this
 have e3:(s.heap.push yw).Ns s.heap.objs.size (λ_=>bh):=⟨yw,#[],_,e1,rfl,(λe he=>absurd he (by simp)),λ_=>rfl⟩;have I1:=I.laid (a:=s.heap.objs.size) (o:=.own (s.heap.objs.size+1)) (h':=s.heap.push yw) (t':=s.toks) (λb u q=>cj _ q) (dz _) ⟨_,e1⟩;refine I1.laid (a:=s.heap.objs.size+1) (o:=.ins C s.heap.objs.size []) (t':=s.toks) (λb u q=>cj _ q) (Ad (B7 _ _)) ?_;have ne:s.heap.objs.size≠s.heap.objs.size+1:=jq (Nat.lt_succ_self _);refine⟨by rw[aZ ne,aN],ud _,ne,e2,λ_=>bh,(Heap.Ns1.of_empty e3).at λo q=>cj _ q,λ_=>True.intro,λy hy=>absurd rfl hy⟩
end
section
end
section
end
end
variable{mg:Str->Option au}{base:ju}{ps:List Str}{outer:List Env}
section
structure jC(qt:Bool)(k:Nat)(A:mq):Prop where
 hd:qt=ao->A.handled=bh
 dp:A.depth+3*k+5<recursionLimit
 un:A.units+16*k+200<qg
def jC.mono{j k:Nat}(r:jC qt k A)(h:j<=k):jC qt j A:=⟨r.hd,by have:=r.dp;omega,by have:=r.un;omega⟩
def jC.deeper{k:Nat}(r:jC qt (k+1) A)(env:Env):jC qt k (A.deeper env) :=
 ⟨r.hd,by have:=r.dp;show A.depth+1+3*k+5<_;omega,by have:=r.un;show A.units+3+16*k+200<_;omega⟩
def ZI:(A.under (.builtin "type.__call__" ⟨.ref C::us,kw⟩)).depth=A.depth+1:=by
 first|rfl|simp[mq.under,Code.weight,Code.isCreation,Code.isGuard,Code.isCaller,Code.frames,Code.isFrame,guardIds]
def ZH:(A.under (.builtin "type.__call__" ⟨.ref C::us,kw⟩)).units=A.units+1:=by
 first|rfl|simp[mq.under,Code.cUnits,Code.frames,Code.isFrame]
def jC.make{k:Nat}(r:jC qt (k+1) A)(C:bw)(us:List au)(kw:List (Str×au)):jC qt k (A.under (.builtin "type.__call__" ⟨.ref C::us,kw⟩)) :=
 ⟨r.hd,by have:=r.dp;rw[ZI];omega,by have:=r.un;rw[ZH];omega⟩
def jC.depth{k:Nat}(r:jC qt k A):A.depth<recursionLimit:=by have:=r.dp;omega
def jC.units{k:Nat}(r:jC qt k A):A.units+64<qg:=by have:=r.un;omega
abbrev aK6:TA:=λ_ H Q=>Q [] H
abbrev aFD(ta:TE)(tr:TA):TA:=λσ H Q=>ta σ H λx H1=>tr σ H1 λxs H2=>Q (x::xs) H2
section
variable{X:Cx}{t:TA}
def aA4:PA X [] aK6:=λ_ _ _ _ H Q I h=>Calls.spliced_nil ⟨[],H,I,.nil,h⟩
def WA(ha:PE X e te)(hr:PA X es t)(hs:jo (e::es) X.env=(ao,eval e X.env)::jo es X.env:=by rfl):PA X (e::es) (aFD te t):=by
 intro pos ψ s σ H Q I h;rw[hs];show dj _ _ (spliced ((ao,eval e X.env)::xr pos (jo es X.env))) _ _ s;refine Calls.spliced_cons (cV (ha ψ s σ H _ I h) ?_);rintro u s1 ⟨x,H1,I1,r1,q1⟩;exact cV (hr pos ψ s1 σ H1 _ I1 q1) (by rintro us s2 ⟨xs,H2,I2,r2,q2⟩;exact⟨x::xs,H2,I2,.cons r1 r2,q2⟩)
abbrev aK7(t:TA):TE:=λσ H Q=>t σ H λxs H1=>xs.length<=dh/\∀p,H1 p=bh->Q (.ref p) (upd H1 p (.tup xs))
abbrev aK8(t:TA):TE:=λσ H Q=>t σ H λxs H1=>xs.length<=dh/\∀p,H1 p=bh->Q (.ref p) (upd H1 p (.lst xs))
def aA5{x1}(h:PA X es t):PE X (.Tuple es x1 pos) (aK7 t):=by
 intro ψ s σ H Q I hq;refine wpAny_Tuple_spliced (cV (h pos ψ s σ H _ I hq) λus s1 ⟨xs,H1,I1,r,z,q⟩=>⟨by rw[←r.length];exact z,?_⟩);have hf:H1 s1.heap.objs.size=bh:=I1.af.fresh (dz _);refine⟨.ref s1.heap.objs.size,upd H1 s1.heap.objs.size (.tup xs),I1.laid (t':=s1.toks) (λb u e=>cj _ e) (dz _) ?_,rfl,q _ hf⟩;exact⟨z,us,r,⟨_,iz _ rfl,rfl,_,rfl⟩⟩
def aA6(h:PA X es t):PE X (.List es pos) (aK8 t):=by
 intro ψ s σ H Q I hq;refine wpAny_List_spliced (cV (h pos ψ s σ H _ I hq) λus s1 ⟨xs,H1,I1,r,z,q⟩=>⟨by rw[←r.length];exact z,?_⟩);have hf:H1 s1.heap.objs.size=bh:=I1.af.fresh (dz _);refine⟨.ref s1.heap.objs.size,upd H1 s1.heap.objs.size (.lst xs),I1.laid (t':=s1.toks) (λb u e=>cj _ e) (dz _) ?_,rfl,q _ hf⟩;exact⟨z,us,0,r,iz _ rfl⟩
end
@[simp]def Sp:=List V->Hp->VK->XK->Prop
@[simp]def CA:=List Env->Hp->cu->XK->au->cu->Prop
structure vj(P:kj)(w:jj)(K:jm)(mg:Str->Option au)(base:ju)(A:mq)(outer:List Env)(s:cu)(H:Hp):Prop where
 frames:A.frames=aj outer
 mod:Mod K mg base
 bs:∀b o,base.get? b=aj o->s.heap.get? b=aj o/\H b=bh
 qq:base.objs.size<=s.heap.objs.size
 js:s.heap.FunFrames base outer
 yl:∀b∈frs outer,H b=bh
 af:wX P w H s.heap
 bare:AllBare s.gens
 b8:xi A H
abbrev CE(outer:List Env)(P:kj)(w:jj)(H:Hp)(s:cu)(Q:VK)(u:au)(s':cu):Prop :=
 ∃v H',s'.os=s.os/\AllBare s'.gens/\Un (frs outer) [] H H' s.heap s'.heap/\wX P w H' s'.heap/\RelV v u/\Q v H'
abbrev CR(CX:CA)(outer:List Env)(P:kj)(w:jj)(H:Hp)(s:cu)(Q:VK)(E:XK)(r:Result)(s':cu):Prop :=
 match r with
 |.ok (.ret u)=>CE outer P w H s Q u s'
 |.ok _=>False
 |.error e=>CX outer H s E e s'
structure cM(qt:Bool)(P:kj)(w:jj)(K:jm)(mg:Str->Option au)(base:ju)(CX:CA)(k:Nat)(f:bw)(fd:qj)(ps:List Str)(sp:Sp):Prop where
 len:∀vs H Q E,sp vs H Q E->vs.length=ps.length
 run:∀(A:mq)(outer:List Env)(s:cu)(H:Hp)(args:Args)(us:List au)(vs:List V)(Q:VK)(E:XK),jC qt k A->vj P w K mg base A outer s H->BindsTo s fd args (ps.zip us)->Vals vs us->sp vs H Q E ->
  gL (fj P w) A (.call (.ref f) args) (CR CX outer P w H s Q E) s
def cM.mono{w:jj}{K:jm}{mg:Str->Option au}{base:ju}{j k:Nat}{ps:List Str}(F:cM qt P w K mg base CX j f fd ps sp)(h:j<=k) :
  cM qt P w K mg base CX k f fd ps sp:=⟨F.len,λA outer s H args us vs Q E hr=>F.run A outer s H args us vs Q E (hr.mono h)⟩
def cM.imp{w:jj}{K:jm}{k:Nat}(F:cM qt P w K mg base CX k f fd ps sp)
  (h:∀vs H Q E,Si vs H Q E->sp vs H Q E):cM qt P w K mg base CX k f fd ps Si :=
 ⟨λvs H Q E q=>F.len vs H Q E (h _ _ _ _ q),λA outer s H args us vs Q E hr he hb hv hs=>F.run A outer s H args us vs Q E hr he hb hv (h _ _ _ _ hs)⟩
def vj.make{w:jj}{K:jm}(e:vj P w K mg base A outer s H)(C:bw)(us:List au)(kw:List (Str×au)) :
  vj P w K mg base (A.under (.builtin "type.__call__" ⟨.ref C::us,kw⟩)) outer s H:=⟨by first|exact e.frames|(simpa[mq.under,Code.envs,Code.isFrame,pushEnvs]using e.frames),e.mod,e.bs,e.qq,e.js,e.yl,e.af,e.bare,e.b8⟩
section
variable{X:Cx}{ψ:List (bw×Obj)}{s:cu}
def Inv.CK(I:Inv X ψ σ H s):vj X.prog X.w X.K X.mg X.base X.A X.stack s H :=
 ⟨I.ok.frames,I.ok.mod,I.bs,wg I.ok.qq I.sz,I.stack,I.IG,I.af,I.bare,I.b8⟩
end
abbrev Binds(K:jm)(fd:qj)(ps:List Str)(ds:List au):Prop :=
 ∀(s:cu)(us:List au),K.In s.heap->(us++ds).length=ps.length->BindsTo s fd ⟨us,[]⟩ (ps.zip (us++ds))
def Binds.all{K:jm}(h:∀us:List au,us.length=ps.length->ip fd ⟨us,[]⟩=pure (ps.zip us)):Binds K fd ps []:=λs us _ hl=>by
 rw[se]at hl ⊢;exact .of_eq (h us hl)
section
variable{f C:bw}
structure Mk(K:jm)(C f:bw):Prop where
 makes:PySem.W.makesIn K C=ak
 init:zf K (.ref C) "__init__"=aj (aj (.ref f))
 fn:PySem.W.isFn K (.ref f)=ak
 kp:yh K (.ref C)=ak
end
section
end
structure bG(N P:List Str)(sc:b9):Prop where
 kind:sc.kind=.function
 co:sc.isCoroutine=ao
 gen:sc.isGenerator=ao
 nd:N.Nodup
 pre:N.take P.length=P
 par:∀x∈P,sc.names.lookup x=aj .local∨sc.names.lookup x=aj .cell
 aA7:∀y∈sc.names,y.2≠.free
def QR{kindOf:Str->Option yc}{x:Str}:∀{binds:List (Str×au)}{m:Str->Option au},(∀v,(x,v)∉binds)->bindL kindOf binds m x=m x
 |[],_,_=>rfl
 |(n,v)::r,m,h=>by
  unfold bindL;rw[QR λw hw=>h w (qu _ hw)];split
  ·have:x≠n:=by rintro rfl;exact h v wk
   simp[this]
  .rfl
def QQ{kindOf:Str->Option yc}{x:Str}:∀{binds:List (Str×au)}{m:Str->Option au},(∀v,(x,v)∉binds)->bindC kindOf binds m x=m x
 |[],_,_=>rfl
 |(n,v)::r,m,h=>by
  unfold bindC;rw[QQ λw hw=>h w (qu _ hw)];split
  ·rfl
  .have:x≠n:=by rintro rfl;exact h v wk
   simp[this]
def QP{kindOf:Str->Option yc}{x:Str}{v:au}:∀{P:List Str}{vs:List au}{i:Nat}{m:Str->Option au},P.Nodup->P[i]?=aj x->vs[i]?=aj v->kindOf x=aj .local ->
  bindL kindOf (P.zip vs) m x=aj v
 |[],_,_,_,_,h,_,_=>by simp at h
 |_::_,[],_,_,_,_,h,_=>by simp at h
 |p::P,w::vs,0,m,nd,h1,h2,hk=>by
  simp at h1 h2;subst h1;subst h2;show bindL kindOf ((p,w)::P.zip vs) m p=_;unfold bindL;rw[QR λv hv=>(tu.mp nd).1 (List.of_mem_zip hv).1,if_pos hk];simp
 |p::P,w::vs,i+1,m,nd,h1,h2,hk=>by
  show bindL kindOf ((p,w)::P.zip vs) m x=_;unfold bindL;exact QP (i:=i) (tu.mp nd).2 (by simpa using h1) (by simpa using h2) hk
def QO{kindOf:Str->Option yc}{x:Str}{v:au}:∀{P:List Str}{vs:List au}{i:Nat}{m:Str->Option au},P.Nodup->P[i]?=aj x->vs[i]?=aj v->kindOf x≠aj .local ->
  bindC kindOf (P.zip vs) m x=aj v
 |[],_,_,_,_,h,_,_=>by simp at h
 |_::_,[],_,_,_,_,h,_=>by simp at h
 |p::P,w::vs,0,m,nd,h1,h2,hk=>by
  simp at h1 h2;subst h1;subst h2;show bindC kindOf ((p,w)::P.zip vs) m p=_;unfold bindC;rw[QQ λv hv=>(tu.mp nd).1 (List.of_mem_zip hv).1,if_neg hk];simp
 |p::P,w::vs,i+1,m,nd,h1,h2,hk=>by
  show bindC kindOf ((p,w)::P.zip vs) m x=_;unfold bindC;exact QO (i:=i) (tu.mp nd).2 (by simpa using h1) (by simpa using h2) hk
abbrev start(N:List Str)(vs:List V):St:=vs.map aj++w9 (N.length - vs.length) bh
abbrev qC(qt:Bool)(CX:CA)(P:kj)(w:jj)(K:jm)(mg:Str->Option au)(base:ju)(N:List Str)(qual:Str)(scope:b9)(f:bw)(cd:au)(A:mq)(outer:List Env)(s:cu)(H:Hp)(E:XK):Cx where
 prog:=P
 w:=w
 K:=K
 mg:=mg
 base:=base
 A:=A.deeper (envOfC qual scope s.heap.objs.size f cd)
 N:=N
 ar:=s
 aw:=H
 env:=envOfC qual scope s.heap.objs.size f cd
 outer:=outer
 stack:=envOfC qual scope s.heap.objs.size f cd::outer
 ex:=[]
 calm:=!qt
 fn:=λ_=>ak
 pn:=[]
 tp:=[]
 xe:=λe s'=>dj (fj P w) (A.deeper (envOfC qual scope s.heap.objs.size f cd)) (leaving (envOfC qual scope s.heap.objs.size f cd) e) (λ_ nX=>CX outer H s E e nX) (λe' nX=>CX outer H s E e' nX) s'
def PY{sc:b9}(h:sc.names.lookup x=aj .cell):∃c,(cellsFrom n sc.names []).lookup x=aj c:=by
 have q:=PySem.W.cellsFrom_some sc.names n [] (.inl h);exact Option.isSome_iff_exists.mp q
def Y1{w:jj}{K:jm}{scope:b9}{s1:cu}{vs:List V}
  (S:bG N ps scope)(hd:qt=ao->A.handled=bh)(e0:vj P w K mg base A outer s H)(hl:vs.length=ps.length)(r:Vals vs us)
  (x:InCallC s s.heap.objs.size (bindL (envOfC qual scope s.heap.objs.size f cd).kindOf (ps.zip us) λ_=>bh) (cellsFrom (s.heap.objs.size+1) scope.names []) (bindC (envOfC qual scope s.heap.objs.size f cd).kindOf (ps.zip us) λ_=>bh) s1) :
  Inv (qC qt CX P w K mg base N qual scope f cd A outer s H E) [] (start N vs) H s1:=by
 have gu:ps.length<=N.length:=by have:=congrArg pf S.pre;rw[Ce]at this;omega
 let⟨h1,tk,rfl,hk⟩:=x.done;have AR:∀b:bw,b∉(qC qt CX P w K mg base N qual scope f cd A outer s H E).ex:=λb z=>absurd (show b∈([]:List bw)from z) (by simp)
 refine⟨⟨e0.mod,S.kind,rfl,rfl,dz _,λy z c h1 h2=>?_,λy hy=>?_,λy c _ h=>?_,λz=>hd (by cases qt with|false=>rfl|true=>cases z),mq.frames_deeper e0.frames,.inr ⟨rfl,rfl⟩,λb z=>absurd z (AR b),e0.bs,e0.qq,λb _ _=>AR b,λb z=>absurd z (AR b),e0.js,e0.yl⟩,
  rfl,e0.bare,Un.kept hk,⟨_,x.toInCall.ns,λi y v h1 h2 h3=>?_⟩,λy c h=>⟨_,x.cell y c h⟩,e0.af.fresh (dz _),λy c h=>?_,λp hp=>absurd (show p∈([]:List (bw×Obj))from hp) (by simp),e0.af.kept hk,?_,e0.b8,λp hp=>absurd (show p∈([]:List (bw×List V))from hp) (by simp)⟩
 .exact name_of_addr x.apart (PySem.mem_of_lookup h1) (PySem.mem_of_lookup h2)
 .have hy:scope.names.lookup y=aj .cell∨scope.names.lookup y=aj .free:=hy;rcases hy with hy|hy
  .exact PY hy
  .exact absurd rfl (S.aA7 _ (PySem.mem_of_lookup hy))
 .exact zy (x.above y c (PySem.mem_of_lookup h))
 .have hi:i<vs.length:=by
   unfold start at h2;by_cases hi:i<vs.length
   .exact hi
   .rw[yt (by simpa using hi)]at h2;rw[List.getElem?_replicate]at h2;split at h2<;>cases h2
  have ha:vs[i]?=aj v:=by
   unfold start at h2;rw[Cq (by simpa using hi),kh]at h2;cases e:vs[i]? with
   |none=>rw[e]at h2;cases h2
   |some a=>rw[e]at h2;cases h2;rfl
  let⟨u,hu,rv⟩:=r.get ha
  have hp:ps[i]?=aj y:=by
   rw[←S.pre,List.getElem?_take_of_lt ⋯];exact h1
  have K4:ps.Nodup:=by rw[←S.pre];exact S.nd.sublist (Fc _ _)
  refine⟨u,rv,?_⟩;rcases S.par y (qd hp)with k|k
  .exact .inl ⟨k,QP K4 hp hu k⟩
  .obtain⟨c,e⟩:=PY (n:=s.heap.objs.size+1) k;refine .inr ⟨.inl k,c,e,?_⟩;have q:=x.cell y c e;rw[QO K4 hp hu (by show scope.names.lookup y≠_;rw[k];decide)]at q;exact q
 .exact e0.af.fresh (zy (x.above y c (PySem.mem_of_lookup h)))
 .unfold start;show _=N.length;rw[yj,dw,List.length_replicate];omega
private theorem aFF{w:jj}{K:jm}{k:Nat}{kV ct:au}{an:Option bw}(lk:K.lookup f=aj ⟨oc,od,.func (ux name qual params body scope dV kV doc pm an c5 ct),x4⟩)(eR:B6 K c5 qual=ak)(S:bG N ps scope)
  (len:∀vs H Q E,sp vs H Q E->vs.length=ps.length)
  (fh:∀(A:mq)(outer:List Env)(s:cu)(H:Hp)(vs:List V)(Q:VK)(E:XK),jC qt k (A.deeper (envOfC qual scope s.heap.objs.size f c5))->sp vs H Q E ->
   ∃t,gS (qC qt CX P w K mg base N qual scope f c5 A outer s H E) body t/\t {nx:=λ_ H'=>Q .ag H',rt:=Q} (start N vs) H) :
  cM qt P w K mg base CX (k+1) f (ux name qual params body scope dV kV doc pm an c5 ct) ps sp:=by
 refine⟨len,λA outer s H args us vs Q E hr e0 hb r gf=>?_⟩;have hl:=len _ _ _ _ gf;have KX:K.In s.heap:=e0.mod.n9.keeps λb o e=>(e0.bs b o e).1;have lim:s.heap.NoLimit:=e0.mod.nolimit.keeps λb o e=>(e0.bs b o e).1
 have CW:∀y∈ps.zip us,scope.names.lookup y.1=aj .local∨(scope.names.lookup y.1=aj .cell/\((cellsFrom (s.heap.objs.size+1) scope.names []).lookup y.1).isSome=ak):=λ⟨n,v⟩ hy=>by
  rcases S.par n (List.of_mem_zip hy).1 with q|q
  .exact .inl q
  .exact .inr ⟨q,PySem.W.cellsFrom_some _ _ _ (.inl q)⟩
 refine codeAny_call_function hr.depth (KX _ _ lk) rfl S.co S.gen rfl (PySem.W.codeRec_of KX eR) (hb _ _ _ _ ?_);refine wpAny_newFunctionEnv_cells S.kind CW λenv he s1 x=>?_;subst he;refine⟨lim.keeps x.toInCall.keep,codeAny_func ?_⟩;let⟨t,ht,hq⟩:=fh A outer s H vs Q E (hr.deeper _) gf;have I:Inv (qC qt CX P w K mg base N qual scope f c5 A outer s H E) [] (start N vs) H s1:=Y1 S hr.hd e0 hl r x;refine ug (ht [] s1 (start N vs) H _ I hq) (λfl s' hs=>?_) λe s' hs=>hs
 have fin:∀{aS:St}{H':Hp}{v:V}{u:au},Inv (qC qt CX P w K mg base N qual scope f c5 A outer s H E) [] aS H' s'->RelV v u->Q v H'->CE outer P w H s Q u s' :=
  λ{aS H' v u} J rv q=>⟨v,H',J.os,J.bare,J.base,J.af,rv,q⟩
 cases fl with
 |ret u =>
  let⟨v,aS,H',J,rv,q⟩:=hs;exact fin J rv q
 |next =>
  let⟨aS,H',J,q⟩:=hs;exact fin (v:=V.ag) (u:=Value.none) J rfl q
 |brk =>
  let⟨_,_,_,q⟩:=hs;exact False.elim q
 |cont =>
  let⟨_,_,_,q⟩:=hs;exact False.elim q
end
section
section
end
end
variable{h':ju}
section
section
variable{κ:Type}[DecidableEq κ]
abbrev uK(aa:List (κ×V))(k:κ):Option V:=(aa.find? λkv=>decide (kv.1=k)).map (·.2)
abbrev putK(aa:List (κ×V))(k:κ)(v:V):List (κ×V) :=
 if(aa.any λkv=>decide (kv.1=k))=ak then aa.map (λkv=>if kv.1=k then(kv.1,v)else kv)else aa++[(k,v)]
abbrev uL(aa:List (κ×V))(k:κ):List (κ×V):=aa.filter λkv=>decide (kv.1≠k)
def uM{p:κ×V}{k:κ}(e:p.1=k):uK (p::r) k=aj p.2:=by simp[uK,xc,e]
def uN{p:κ×V}{k:κ}(e:¬ p.1=k):uK (p::r) k=uK r k:=by simp[uK,xc,e]
def JD(k:κ):∀aa:List (κ×V),(aa.any λkv=>decide (kv.1=k))=(uK aa k).isSome
 |[]=>rfl
 |p::r=>by
  rw[wy];by_cases e:p.1=k
  .simp only[uM e,decide_eq_true e,Bool.true_or,Option.isSome_some]
  .rw[uN e,decide_eq_false e,B5];exact JD k r
def lE(aa:List (κ×V))(k:κ)(v:V):(putK aa k v).length<=aa.length+1:=by
 unfold putK;split
 ·rw[dw];omega
 .rw[yj,uw,List.length_nil];omega
variable{o:Option V}
def iF.Y0{u:Option au}(r:iF o u):o.isSome=u.isSome:=by
 cases o with
 |none=>cases u with
  |none=>rfl
  |some _=>exact(show False from r).elim
 |some _=>cases u with
  |none=>exact(show False from r).elim
  |some _=>rfl
def iF.getD{u:Option au}{d:V}(r:iF o u)(rd:RelV d d'):RelV (o.getD d) (u.getD d'):=by
 cases o with
 |none=>cases u with
  |none=>exact rd
  |some _=>exact(show False from r).elim
 |some _=>cases u with
  |none=>exact(show False from r).elim
  |some _=>exact r
def KV.val(r:KV aa vs)(k:κ):iF (uK aa k) (valueAt vs k):=by
 unfold KV at r
 induction r with
 |nil=>exact True.intro
 |@cons p q ps qs h t ih =>
  let⟨h1,h2⟩:=h;by_cases e:p.1=k
  .have e':q.1=k:=h1.symm.trans e;have b:valueAt (q::qs) k=aj q.2:=by simp[valueAt,xc,e']
   rw[uM e,b];exact h2
  .have e':¬ q.1=k:=λz=>e (h1.trans z);have b:valueAt (q::qs) k=valueAt qs k:=by simp[valueAt,xc,e']
   rw[uN e,b];exact ih
def KV.any{aa:List (κ×V)}{vs:List (κ×au)}(r:KV aa vs)(k:κ):(aa.any λkv=>decide (kv.1=k))=vs.any λkv=>decide (kv.1=k):=by
 unfold KV at r
 induction r with
 |nil=>rfl
 |cons h t ih=>rw[wy,wy,ih,h.1]
def KV.xl{aa:List (κ×V)}{vs:List (κ×au)}(r:KV aa vs)(k:κ)(ry:RelV y u) :
  KV (aa.map λkv=>if kv.1=k then(kv.1,y)else kv) (vs.map λkv=>if kv.1=k then(kv.1,u)else kv):=by
 unfold KV at r ⊢
 induction r with
 |nil=>exact .nil
 |@cons p q ps qs h t ih =>
  rw[iw,iw];refine .cons ?_ ih;let⟨h1,h2⟩:=h;by_cases e:p.1=k
  .rw[if_pos e,if_pos (h1.symm.trans e)];exact⟨h1,ry⟩
  .rw[if_neg e,if_neg (λz=>e (h1.trans z))];exact⟨h1,h2⟩
def KV.put(r:KV aa vs)(k:κ)(ry:RelV y u):KV (putK aa k y) (stored vs k u):=by
 unfold putK stored;rw[r.any k];by_cases e:(vs.any λkv=>decide (kv.1=k))=ak
 .rw[if_pos e,if_pos e];exact r.xl k ry
 .rw[if_neg e,if_neg e];exact Paired.snoc r ⟨rfl,ry⟩
def KV.drop(r:KV aa vs)(k:κ):KV (uL aa k) (without vs k):=by
 unfold KV at r ⊢;unfold uL without
 induction r with
 |nil=>exact .nil
 |@cons p q ps qs h t ih =>
  let⟨h1,h2⟩:=h;rw[uh,uh];by_cases e:p.1=k
  .have a:¬ decide (p.1≠k)=ak:=by simp[e]
   have b:¬ decide (q.1≠k)=ak:=by simp[h1.symm.trans e]
   rw[if_neg a,if_neg b];exact ih
  .have e':¬ q.1=k:=λz=>e (h1.trans z);have a:decide (p.1≠k)=ak:=by simp[e]
   have b:decide (q.1≠k)=ak:=by simp[e']
   rw[if_pos a,if_pos b];exact .cons ⟨h1,h2⟩ ih
def KV.length{aa:List (κ×V)}{vs:List (κ×au)}(r:KV aa vs):aa.length=vs.length:=Paired.length r
def PX(aa:List (κ×V))(k:κ):(uL aa k).length<=aa.length:=zc _ _
end
def wo{w:jj}{k:Key}(r:RelV (kV k) u):(aJ P w).is k u=ak:=by
 cases k with
 |inl i=>let⟨t,e⟩:=(show ∃t,u=au.int i t from r);subst e;exact RB P w i t
 |inr x=>let⟨t,e⟩:=(show ∃t,u=au.str x t from r);subst e;exact ω P w x t
def JX{w:jj}:∀{ks:List Key}{us:List au},Vals (ks.map kV) us->ItemsAre (aJ P w) ks us
 |[],_,r=>by rw[List.map_nil]at r;cases r;exact .nil
 |k::ks,_,r=>by
  rw[iw]at r;cases r with
  |cons h t=>exact .cons (wo h) (JX t)
@[simp]def KT(H:Hp):List (List Key×V)->List (List Key×bw×au)->Prop:=Paired λp q=>p.1=q.1/\H q.2.1=aj (.tup (p.1.map kV))/\RelV p.2 q.2.2
def KT.val(r:KT H aa xs)(k:List Key):iF (uK aa k) ((atKey xs k).map (·.2)):=by
 induction r with
 |nil=>exact True.intro
 |@cons p q ps qs h t ih =>
  let⟨h1,_,h2⟩:=h;by_cases e:p.1=k
  .have e':q.1=k:=h1.symm.trans e;have b:atKey (q::qs) k=aj q.2:=by simp[atKey,xc,e']
   rw[uM e,b];exact h2
  .have e':¬ q.1=k:=λz=>e (h1.trans z);have b:atKey (q::qs) k=atKey qs k:=by simp[atKey,xc,e']
   rw[uN e,b];exact ih
def KT.xl{aa:List (List Key×V)}{xs:List (List Key×bw×au)}(r:KT H aa xs)(k:List Key)(ry:RelV y u) :
  KT H (aa.map λkv=>if kv.1=k then(kv.1,y)else kv) (xs.map (putAt k u)):=by
 induction r with
 |nil=>exact .nil
 |@cons p q ps qs h t ih =>
  rw[iw,iw];refine .cons ?_ ih;let⟨h1,h2,h3⟩:=h;unfold putAt;by_cases e:p.1=k
  .rw[if_pos e,if_pos (h1.symm.trans e)];exact⟨h1,h2,ry⟩
  .rw[if_neg e,if_neg (λz=>e (h1.trans z))];exact⟨h1,h2,h3⟩
def KT.put(r:KT H aa xs)(k:List Key){b:bw}(hb:H b=aj (.tup (k.map kV)))(ry:RelV y u) :
  KT H (putK aa k y) (storedH xs k b u):=by
 have e:(aa.any λkv=>decide (kv.1=k))=(atKey xs k).isSome:=by
  rw[JD,(r.val k).Y0,Option.isSome_map]
 unfold putK storedH;rw[e];by_cases q:(atKey xs k).isSome=ak
 .rw[if_pos q,if_pos q];exact r.xl k ry
 .rw[if_neg q,if_neg q];exact Paired.snoc r ⟨rfl,hb,ry⟩
def KT.keeps(r:KT H aa xs)(ht:∀b ys,H b=aj (.tup ys)->H' b=aj (.tup ys)):KT H' aa xs :=
 Paired.zh r λ_ _ z=>⟨z.1,ht _ _ z.2.1,z.2.2⟩
section
variable{w:jj}{h:ju}
def Mx(ok:wX P w H h)(e:Rd H a u):eX P w H h a u:=e.ok ok
def rV{aa:List (Key×V)}(ok:wX P w H h)(e:Rd H a (.dK aa)):aa.length<=dh/\(a==qy)=ao/\∃vs,KV aa vs/\h.DictOf (aJ P w) a vs :=
 show eX P w H h a (.dK aa)from Mx ok e
def zB{aa:List (Key×V)}(ok:wX P w H h)(e:H a=aj (.dK aa)):aa.length<=dh/\(a==qy)=ao/\∃vs,KV aa vs/\h.DictOf (aJ P w) a vs:=rV ok (.inl e)
def yN{ks:List Key}(ok:wX P w H h)(e:H a=aj (.tup (ks.map kV))):(ny (aJ P w)).is h ks a:=by
 let⟨_,its,r,o,h1,h2,n,h3⟩:=(show eX P w H h a (.tup (ks.map kV))from ok a _ e);exact⟨o,its.toArray,n,h1,h2,h3,by simpa using JX r⟩
variable{aa:List (List Key×V)}
def rL(ok:wX P w H h)(e:Rd H a (.dT aa)):aa.length<=dh/\(a==qy)=ao /\
  ∃xs,KT H aa xs/\h.DictOfH (ny (aJ P w)) a xs:=by
 let⟨z,y,xs,r,o,es,ep,h1,h2,h3,h4,h5⟩:=(show eX P w H h a (.dT aa)from Mx ok e);refine⟨z,y,xs,r,o,es,ep,h1,h2,h3,h4,λx hx=>?_,h5⟩
 have all:∀{l:List (List Key×V)}{m:List (List Key×bw×au)},KT H l m->∀x∈m,(ny (aJ P w)).is h x.1 x.2.1:=by
  intro l m q
  induction q with
  |nil=>intro x hx;exact nomatch hx
  |@cons p q ps qs hq t ih =>
   intro x hx;rcases lg.mp hx with e|hx
   .subst e;exact yN ok (by rw[←hq.1];exact hq.2.1)
   .exact ih x hx
 exact all r x hx
def rq(ok:wX P w H h)(e:H a=aj (.dT aa)):aa.length<=dh/\(a==qy)=ao /\
  ∃xs,KT H aa xs/\h.DictOfH (ny (aJ P w)) a xs:=rL ok (.inl e)
end
abbrev iA(H:Hp)(a:bw)(y:V)(r:Option V):Prop :=
 (∃aa k,Rd H a (.dK aa)/\y=kV k/\r=uK aa k)∨∃aa k b,Rd H a (.dT aa)/\y=.ref b/\H b=aj (.tup (k.map kV))/\r=uK aa k
abbrev qB(H:Hp)(a:bw)(y v:V)(H':Hp):Prop :=
 (∃aa k,H a=aj (.dK aa)/\y=kV k/\aa.length<dh/\H'=upd H a (.dK (putK aa k v))) ∨
 ∃aa k b,H a=aj (.dT aa)/\y=.ref b/\H b=aj (.tup (k.map kV))/\aa.length<dh/\H'=upd H a (.dT (putK aa k v))
def iA.k{k:Key}(e:H a=aj (.dK aa)):iA H a (kV k) (uK aa k):=.inl ⟨aa,k,.inl e,rfl,rfl⟩
def iA.t{b:bw}{k:List Key}(e:H a=aj (.dT aa))(eb:H b=aj (.tup (k.map kV))):iA H a (.ref b) (uK aa k):=.inr ⟨aa,k,b,.inl e,rfl,eb,rfl⟩
def qB.k{aa:List (Key×V)}{k:Key}(e:H a=aj (.dK aa))(hl:aa.length<dh):qB H a (kV k) v (upd H a (.dK (putK aa k v))):=.inl ⟨aa,k,e,rfl,hl,rfl⟩
def qB.t{b:bw}{aa:List (List Key×V)}{k:List Key}(e:H a=aj (.dT aa))(eb:H b=aj (.tup (k.map kV)))(hl:aa.length<dh) :
  qB H a (.ref b) v (upd H a (.dT (putK aa k v))):=.inr ⟨aa,k,b,e,rfl,eb,hl,rfl⟩
section
variable{X:Cx}{ψ:List (bw×Obj)}{s:cu}{A:mq}{E:au->cu->Prop}
def Inv.big(I:Inv X ψ σ H s):qy<s.heap.objs.size:=by
 have h:nu<s.heap.objs.size:=(I.mod.glob.keeps I.bk).lt;exact wt (by decide) h
def YZ{Q:au->cu->Prop}(hu:A.units+1<qg)(I:Inv X ψ σ H s)(g:iA H a y (aj v))(ry:RelV y u)(h:∀w' s',Inv X ψ σ H s'->RelV v w'->Q w' s') :
  dj (fj X.prog X.w) A (getItem (.ref a) u) Q E s:=by
 rcases g with⟨aa,k,e,ey,l⟩|⟨aa,k,b,e,ey,eb,l⟩
 .subst ey;let⟨z,hd,vs,rel,dd⟩:=rV I.af e;let⟨w',hw,eW⟩:=iF.some_of (v:=v) (o:=valueAt vs k) (by rw[l];exact rel.val k);exact wpAny_getItem_of (wo ry) dd.mapOf hw (h w' _ (I.tok _) eW)
 .subst ey;cases(show u=au.ref b from ry);let⟨z,hd,xs,rel,dd⟩:=rL I.af e;let⟨w',hw,eW⟩:=iF.some_of (v:=v) (o:=(atKey xs k).map (·.2)) (by rw[l];exact rel.val k);let⟨p,hp,t6⟩:=uf.mp hw;refine wpAny_getItem_heap (Ck hu) (yN I.af eb) dd hp ?_;rw[t6];exact h w' _ (I.tok _) eW
def iJ{ob:HO}(I:Inv X ψ σ H s)(mu:xh (H a))(hs:jr a s.heap h')(he:∃q,h'.get? a=aj q)(new:eX X.prog X.w (upd H a ob) h' a ob) :
  Inv X ψ σ (upd H a ob) {s with heap:=h',toks:=t' } :=
 I.write (x:=a) (e:=a) mu (.inl rfl) (λb q hb z=>(hs.2 b hb).trans z) he new
def HN{w:jj}{aa:List (Key×V)}(z:aa.length<=dh)(hd:(a==qy)=ao)(rel:KV aa vs)(dd:h'.DictOf (aJ P w) a vs) :
  eX P w H' h' a (.dK aa):=⟨z,hd,vs,rel,dd⟩
def YY(hu:A.units+1<qg)(I:Inv X ψ σ H s)(g:qB H a y v H')(ry:RelV y u)(rv:RelV v r)(h:∀s',Inv X ψ σ H' s'->Q () s') :
  dj (fj X.prog X.w) A (setItem (.ref a) u r) Q E s:=by
 rcases g with⟨aa,k,e,ey,l,eH⟩|⟨aa,k,b,e,ey,eb,l,eH⟩
 .subst ey eH;let⟨z,hd,vs,rel,dd⟩:=zB I.af e;have hz:vs.length<=dh:=by rw[←rel.length];exact z
  have hl:(putK aa k v).length<=dh:=by have:=lE aa k v;omega
  refine wpAny_setItem_pairs (hsz:=hz) (wo ry) dd λh' eS hs=>h _ ?_;have he:∃q,h'.get? a=aj q:=let⟨q,_,_,hq,_⟩:=eS;⟨q,hq⟩
  exact iJ I (by rw[e];exact True.intro) hs he (HN hl hd (rel.put k rv) eS)
 .subst ey eH;cases(show u=au.ref b from ry);let⟨z,hd,xs,rel,dd⟩:=rq I.af e;have hz:xs.length<=dh:=by rw[←Paired.length rel];exact z
  have hl:(putK aa k v).length<=dh:=by have:=lE aa k v;omega
  refine wpAny_setItem_heap (hsz:=hz) (Ck hu) (yN I.af eb) dd λh' eS hs=>h _ ?_;let⟨q,es,ep,hq,h2,h3,h4,_,h5⟩:=eS;refine iJ I (by rw[e];exact True.intro) hs ⟨q,hq⟩ ⟨hl,hd,_,(rel.put k eb rv).keeps λc ys ec=>?_,q,es,ep,hq,h2,h3,h4,h5⟩;rw[aZ (Ef ec e (λz=>nomatch z))];exact ec
end
section
variable{X:Cx}{ψ:List (bw×Obj)}{s:cu}{aa:List (Key×V)}{k:Key}{A:mq}{E:au->cu->Prop}
variable{Q:au->cu->Prop}
def aFG(I:Inv X ψ σ H s)(e:H a=aj (.dK aa))(ry:RelV (kV k) u)(l:uK aa k=aj v)(hm:more=[]∨∃x,more=[x])
  (h:∀w' s',Inv X ψ σ (upd H a (.dK (uL aa k))) s'->RelV v w'->Q w' s'):dj (fj X.prog X.w) A (call (.builtin "dict.pop") (.ref a::u::more)) Q E s:=by
 let⟨z,hd,vs,rel,dd⟩:=zB I.af e;let⟨w',hw,eW⟩:=iF.some_of (v:=v) (o:=valueAt vs k) (by rw[←l];exact rel.val k)
 have hp:(keyPart u).isSome=ak:=by
  cases k with
  |inl i=>let⟨t,q⟩:=(show ∃t,u=au.int i t from ry);subst q;rfl
  |inr x=>let⟨t,q⟩:=(show ∃t,u=au.str x t from ry);subst q;rfl
 have ha:argsOk "dict.pop" ⟨.ref a::u::more,[]⟩:=by
  rcases hm with q|⟨x,q⟩
  .subst q;exact PySem.F.args_dict_pop_2 _ _
  .subst q;exact PySem.F.args_dict_pop_3 _ _ _
 refine call_meetsIn PySem.F.slot_dict_pop dd.typeIs PySem.F.entry_dict_pop ha (meets_dict_pop_there (aJ X.prog X.w) a (wo ry) more hm hp)
  ⟨vs,w',dd,by rw[←rel.length];exact z,hw,λh' eS hs=>h w' _ ?_ eW⟩
 have he:∃q,h'.get? a=aj q:=let⟨q,_,_,hq,_⟩:=eS;⟨q,hq⟩
 exact iJ I (by rw[e];exact True.intro) hs he (HN (wg (PX aa k) z) hd (rel.drop k) eS)
def aFH(I:Inv X ψ σ H s)(e:Rd H a (.dK aa))(h:∀t s',Inv X ψ σ H s'->Q (.int aa.length t) s'):dj (fj X.prog X.w) A (call (.builtin "len") [.ref a]) Q E s:=by
 let⟨z,hd,vs,rel,dd⟩:=rV I.af e;refine call_len_dict hd dd (by rw[←rel.length];rw[sizeLine_eq]at z;omega) ?_;rw[←rel.length];exact h _ _ (I.tok _)
end
abbrev DU(i:ji):Prop:=∀ov iv,subscripted i ao ov iv=operate [ov,iv] (getItem ov iv)
def OS{prog:kj}{w:jj}{E:au->cu->Prop}{env:Env}{T id:String}{Q:au->cu->Prop}
  (hl:typeLookup (.type T) "__getitem__"=pure (aj (.builtin id)))(hs:DU slice)
  (h:dj (fj prog w) A (eval value env) (λo ah=>dj (fj prog w) A (eval slice env) (λi bp=>bp.TypeIs o T/\dj (fj prog w) A (getItem o i) Q E bp) E ah) E s) :
  dj (fj prog w) A (eval (.Subscript value slice pos) env) Q E s:=by
 refine Subscript_ (ug h (λo ah dQ=>ug dQ (λi bp lI=>?_) λ_ _ x=>x) λ_ _ x=>x);let⟨hT,lI⟩:=lI;unfold subscriptTail;refine aq ?_;rw[getitemInPython_of_ne hT.not_modules];refine aq (wpAny_specialOf hT hl ?_)
 have fin:dj (fj prog w) A (subscripted slice ao o i) (λr fg=>dj (fj prog w) A (letTemporaryGo value o r >>= λ_=>pure r) Q E fg) E bp:=by
  rw[hs o i];exact wpAny_operating (ug lI (λr fg Kk=>aq (wpAny_letTemporaryGo (cg Kk))) λ_ _ x=>x)
 first
  |exact cg (aq fin)
  |exact aq (cg (aq fin))
  |exact aq fin
def π(I:Inv X ψ σ H s)(g:iA H a y o):s.TypeIs (.ref a) "dict":=by
 rcases g with⟨aa,k,e,_,_⟩|⟨aa,k,b,e,_,_,_⟩
 .obtain⟨_,_,vs,_,dd⟩:=rV I.af e;exact dd.typeIs
 .obtain⟨_,_,xs,_,dd⟩:=rL I.af e;exact dd.typeIs
abbrev aFI(td ty:TE):TE:=λσ H Q=>td σ H λx H1=>ty σ H1 λy H2=>∃a v,x=.ref a/\iA H2 a y (aj v)/\Q v H2
abbrev aFJ(td ty tv:TE):TS:=λD σ H=>tv σ H λv H1=>td σ H1 λx H2=>ty σ H2 λy H3=>∃a H4,x=.ref a/\qB H3 a y v H4/\D.nx σ H4
section
variable{X:Cx}{pos:Pos}{ty tv:TE}
def Wz(hu:X.A.units+1<qg)(ho:PE X o td)(hi:PE X i ty)(hs:DU i):PE X (.Subscript o i pos) (aFI td ty):=by
 intro ψ s σ H Q I h;refine OS PySem.F.slot_dict_getitem.lookup hs (cV (ho ψ s σ H _ I h) λu s1 ⟨x,H1,I1,rx,q1⟩=>cV (hi ψ s1 σ H1 _ I1 q1) ?_);rintro iv s2 ⟨y,H2,I2,ry,a,v,ex,g,q2⟩;subst ex;obtain rfl:u=au.ref a:=rx;exact⟨π I2 g,YZ hu I2 g ry λw' s3 I3 eW=>⟨v,H2,I3,eW,q2⟩⟩
def Wy(hu:X.A.units+1<qg)(ho:PE X o td)(hi:PE X i ty)(hv:PE X value tv)(hs:oD value (aj (.Subscript o i pos')) pos.line X.env=pure ao) :
  PS X (.Assign [.Subscript o i pos'] value pos) (aFJ td ty tv):=by
 intro ψ s σ H D I h;refine wpAny_Assign_Subscript (cV (hv ψ s σ H _ I h) λr s1 ⟨v,H1,I1,rv,q1⟩=>cV (ho ψ s1 σ H1 _ I1 q1) λu s2 ⟨x,H2,I2,rx,q2⟩=>cV (hi ψ s2 σ H2 _ I2 q2) ?_) hs;rintro iv s3 ⟨y,H3,I3,ry,a,H4,ex,g,q3⟩;subst ex;obtain rfl:u=au.ref a:=rx;exact YY hu I3 g ry rv λs4 I4=>⟨σ,H4,I4,q3⟩
end
def PV{w:jj}(h:ju)(hb:qy<h.objs.size):eX P w H (h.push {cls:=.type "dict",data:=.dict #[]}) h.objs.size (.dK []) :=
 ⟨ud _,beq_eq_false_iff_ne.mpr (Ne.symm (jq hb)),[],.nil,Heap.DictOf.new h⟩
def X9{w:jj}(h:ju)(hb:qy<h.objs.size):eX P w H (h.push {cls:=.type "dict",data:=.dict #[]}) h.objs.size (.dT []) :=
 ⟨ud _,beq_eq_false_iff_ne.mpr (Ne.symm (jq hb)),[],.nil,_,#[],0,iz _ rfl,⟨rfl,rfl,rfl⟩,rfl,rfl,Ah⟩
abbrev aA8:TE:=λ_ H Q=>∀p,H p=bh->Q (.ref p) (upd H p (.dK []))
abbrev aA9:TE:=λ_ H Q=>∀p,H p=bh->Q (.ref p) (upd H p (.dT []))
section
def X8:PE X (.Dict [] [] pos) aA8:=λψ s σ H Q I h =>
 wpAny_Dict_empty ⟨.ref s.heap.objs.size,_,I.laid (a:=s.heap.objs.size) (o:=.dK []) (t':=s.toks) (λ_ _ q=>cj _ q) (dz _) (PV s.heap I.big),rfl,h _ (I.af.fresh (dz _))⟩
def PU:PE X (.Dict [] [] pos) aA9:=λψ s σ H Q I h =>
 wpAny_Dict_empty ⟨.ref s.heap.objs.size,_,I.laid (a:=s.heap.objs.size) (o:=.dT []) (t':=s.toks) (λ_ _ q=>cj _ q) (dz _) (X9 s.heap I.big),rfl,h _ (I.af.fresh (dz _))⟩
end
structure M1(X:Cx)(o:ji)(m:Str)(apos:Pos)(e:ji)(ai:Pos):Prop where
 base:pd o m X.env (eval o X.env)=eval o X.env
 DB:((xr ai (jo [e] X.env)).all (λx=>!x.1)&&(backToKw ai (keywordEach [] X.env)).all (λx=>x.1.isSome)
  &&decide (([e]:List ji).length+([]:List jv).length+(if([]:List jv).isEmpty then 0 else 1)<30))=ak
 line:(apos.endLine==ai.line)=ak
 trees:xr ai (jo [e] X.env)=[(ao,eval e X.env)]
structure M2(X:Cx)(o:ji)(m:Str)(apos:Pos)(e f:ji)(ai:Pos):Prop where
 base:pd o m X.env (eval o X.env)=eval o X.env
 DB:((xr ai (jo [e,f] X.env)).all (λx=>!x.1)&&(backToKw ai (keywordEach [] X.env)).all (λx=>x.1.isSome)
  &&decide (([e,f]:List ji).length+([]:List jv).length+(if([]:List jv).isEmpty then 0 else 1)<30))=ak
 line:(apos.endLine==ai.line)=ak
 trees:xr ai (jo [e,f] X.env)=[(ao,eval e X.env),(ao,eval f X.env)]
abbrev nV(H:Hp)(a:bw):Prop:=(∃aa,Rd H a (.dK aa))∨∃aa,Rd H a (.dT aa)
def BY(I:Inv X ψ σ H s)(d:nV H a) :
  s.TypeIs (.ref a) "dict"/\(∀b,au.ref a=.ref b->∃ob,s.heap.get? b=aj ob/\ob.dict=bh)/\(a==qy)=ao:=by
 rcases d with⟨aa,e⟩|⟨aa,e⟩
 .obtain⟨_,hd,vs,_,dd⟩:=rV I.af e;refine⟨dd.typeIs,λb q=>?_,hd⟩;cases q;let⟨ob,_,_,h1,h2,_⟩:=dd;exact⟨ob,h1,h2.2.1⟩
 .obtain⟨_,hd,xs,_,dd⟩:=rL I.af e;refine⟨dd.typeIs,λb q=>?_,hd⟩;cases q;let⟨ob,_,_,h1,h2,_⟩:=dd;exact⟨ob,h1,h2.2.1⟩
section
variable{X:Cx}{ψ:List (bw×Obj)}{s:cu}{d:V}{o:Option V}{A:mq}{E:au->cu->Prop}
def aAA{Q:au->cu->Prop}(hu:A.units+1<qg)(I:Inv X ψ σ H s)(g:iA H a y o)(ry:RelV y u)(rd:RelV d r)(h:∀w' s',Inv X ψ σ H s'->RelV (o.getD d) w'->Q w' s') :
  dj (fj X.prog X.w) A (call (.builtin "dict.get") [.ref a,u,r]) Q E s:=by
 rcases g with⟨aa,k,e,ey,l⟩|⟨aa,k,b,e,ey,eb,l⟩
 .subst ey;let⟨z,hd,vs,rel,dd⟩:=rV I.af e;refine call_meetsIn PySem.F.slot_dict_get dd.typeIs PySem.F.entry_dict_get (PySem.F.args_dict_get_3 _ _ _) (meets_dict_get_default (aJ X.prog X.w) a (wo ry) hd r) ⟨_,dd.mapOf,h _ _ (I.tok _) ?_⟩;rw[l];exact(rel.val k).getD rd
 .subst ey;cases(show u=au.ref b from ry);let⟨z,hd,xs,rel,dd⟩:=rL I.af e;refine call_meetsIn PySem.F.slot_dict_get dd.typeIs PySem.F.entry_dict_get (PySem.F.args_dict_get_3 _ _ _) (meetsH_dict_get_default (ny (aJ X.prog X.w)) a b hd r) ⟨Ck hu,k,xs,yN I.af eb,dd,h _ _ (I.tok _) ?_⟩;rw[l];exact(rel.val k).getD rd
end
abbrev aAB(td ty tx:TE):TE:=λσ H Q=>td σ H λx H1=>∃a,x=.ref a/\nV H1 a/\ty σ H1 λy H2=>tx σ H2 λz H3=>∃o,iA H3 a y o/\Q (o.getD z) H3
section
variable{X:Cx}{ty:TE}
def X7(hu:X.A.units+1<qg)(ho:PE X o td)(he:PE X e ty)(hf:PE X f tx)(m:M2 X o "get" apos e f ai):PE X (.Call (.Attribute o "get" apos) [e,f] [] ai) (aAB td ty tx):=by
 intro ψ s σ H Q I h;refine wpAny_Call_method m.base m.DB m.line PySem.F.plainAttrs_dict PySem.F.slot_dict_get PySem.F.type_dict_get (cV (ho ψ s σ H _ I h) ?_);rintro u s1 ⟨x,H1,I1,rx,a,ex,d,q1⟩;subst ex;obtain rfl:u=au.ref a:=rx;let⟨t1,t2,_⟩:=BY I1 d;refine⟨t1,t2,?_⟩;rw[m.trees]
 refine Calls.callWith_builtin rfl (Calls.evalArgs_plain (Calls.spliced_cons (cV (he ψ s1 σ H1 _ I1 q1) λiv s2 ⟨y,H2,I2,ry,q2⟩ =>
  Calls.spliced_cons (cV (hf ψ s2 σ H2 _ I2 q2) λfv s3 ⟨z,H3,I3,rz,ov,g,q3⟩=>Calls.spliced_nil ?_))))
 exact aAA hu I3 g ry rz λw' s4 I4 eW=>⟨_,H3,I4,eW,q3⟩
end
section
end
section
end
end
end L2
namespace HT
open PySem PyProof.Rows
section
open PySem.SeqAt
open PySem.AutoSeq1 (wpAny_loadPart')
open PySem.MeetsSeq PySem.MeetsSeq2 PySem.MeetsSeq3
end
section
variable{prog:kj}{w:jj}{A:mq}{E:au->cu->Prop}{s:cu}
def Wx{t b:bw}{vs ws:List au}{Q:au->cu->Prop}(ht:IsTup s.heap t vs.toArray)(hb:IsTup s.heap b ws.toArray)(hv:vs≠[])
  (h1:ws=[]->Q (.ref t) s)(h2:ws≠[]->Q (.ref s.heap.objs.size) {s with heap:=s.heap.push {cls:=.type "tuple",data:=.seq (vs++ws).toArray}})
  (hsz:vs.length+ws.length<=dh):dj (fj prog w) A (yq .Add (.ref t) (.ref b)) Q E s:=by
 let⟨⟨cls,dd,data,sl⟩,ho,hc,n,hd⟩:=id ht;let⟨⟨Ks,DC,data2,th⟩,oe,Bd,n2,ua⟩:=id hb;simp only at hc hd Bd ua;subst hc hd Bd ua;have e:vs.toArray++ws.toArray=(vs++ws).toArray:=by simp
 by_cases hw:ws=[]
 .exact concat_meets ⟨_,ho,rfl⟩ ⟨_,oe,rfl⟩ noFill_tuple_add seq_tuple_add PySem.F.slot_tuple_add PySem.F.entry_tuple_add (PySem.F.args_tuple_add_2 _ _)
   (tuple_addW1 t b vs.toArray ws.toArray n n2 dd DC sl th (by simpa using hv) (by simp[hw])) ⟨ho,oe,h1 hw⟩
 .refine concat_meets ⟨_,ho,rfl⟩ ⟨_,oe,rfl⟩ noFill_tuple_add seq_tuple_add PySem.F.slot_tuple_add PySem.F.entry_tuple_add (PySem.F.args_tuple_add_2 _ _)
   (tuple_addW2 t b vs.toArray ws.toArray n n2 dd DC sl th (by simpa using hv) (by simpa using hw) (by rw[je,je];exact hsz)) ⟨ho,oe,?_⟩
  rw[e];exact h2 hw
end
end HT
namespace L2
open PySem PySem.Spec PyProof.Rows
section
@[simp]def TO:=St->Hp->(Option Int->Hp->Prop)->Prop
abbrev PO(X:Cx)(e:Option ji)(t:TO):Prop :=
 ∀(ψ:List (bw×Obj))(s:cu)(σ:St)(H:Hp)(Q:Option Int->Hp->Prop),Inv X ψ σ H s->t σ H Q ->
  dj (fj X.prog X.w) X.A (evalPart e X.env) (λu s'=>∃o H',Inv X ψ σ H' s'/\IsPart u o/\Q o H') X.xe s
abbrev Ww:TO:=λ_ H Q=>Q bh H
abbrev aFK(t:TE):TO:=λσ H Q=>t σ H λx H1=>∃i,x=.int i/\Q (aj i) H1
section
variable{X:Cx}
def Wv:PO X bh Ww:=by
 intro ψ s σ H Q I h;rw[evalPart_none];exact cg ⟨bh,H,I,.none,h⟩
def Wu(h:PE X e te):PO X (aj e) (aFK te):=by
 intro ψ s σ H Q I hw;rw[evalPart_some];refine cV (h ψ s σ H _ I hw) ?_;rintro u s1 ⟨x,H1,I1,r1,q1⟩;let⟨i,rfl,q⟩:=q1;let⟨t,rfl⟩:=r1;exact⟨aj i,H1,I1,.int i t,q⟩
abbrev aFL(K:jm):R2:=λx y H Q=>∃a b xs ys,x=.ref a/\y=.ref b/\yM K H a xs/\yM K H b ys/\xs≠[]/\xs.length+ys.length<=dh /\
 (ys=[]->Q (.ref a) H)/\(ys≠[]->∀p,H p=bh->Q (.ref p) (upd H p (.tup (xs++ys))))
def Vals.zE(r:Vals xs us):us=[]↔xs=[]:=by
 cases r with
 |nil=>simp
 |cons _ _=>simp
def Wt:tH X (yq .Add) (aFL X.K):=by
 intro ψ s σ H x y v u Q I rx ry h;let⟨a,b,xs,ys,rfl,rfl,ha,hb,hx,hz,q1,q2⟩:=h;cases rx;cases ry;let⟨its,r1,p1,_⟩:=I.tuple ha;let⟨bc,r2,p2,_⟩:=I.tuple hb;refine HT.Wx p1 p2 (λz=>hx (r1.zE.mp z)) (λz=>⟨.ref a,H,I,rfl,q1 (r2.zE.mp z)⟩) (λz=>?_) (by rw[←r1.length,←r2.length];exact hz);refine⟨.ref s.heap.objs.size,_,I.laid (t':=s.toks) (o:=.tup (xs++ys)) (λb ob q=>cj _ q) (dz _) ?_,rfl,q2 (λw=>z (r2.zE.mpr w)) _ (I.af.fresh (dz _))⟩;exact⟨by rw[yj];exact hz,_,r1.append r2,IsTup.new _ _⟩
end
end
variable{n:Nat}{i:Int}{s:cu}{x:V}
section
abbrev qc(n:Nat)(i:Int):Option Nat:=if 0<=i then(if i<n then aj i.toNat else bh)else if -(n:Int)<=i then aj (i+n).toNat else bh
abbrev z7{α:Type}(xs:List α)(i:Int):Option α:=(qc xs.length i).bind λj=>xs[j]?
def Ws{j:Nat}(h:qc n i=aj j):seqIndex? i n=aj j/\j<n/\-(n:Int)<=i/\i<n:=by
 unfold qc at h;by_cases h0:0<=i
 .rw[if_pos h0]at h;by_cases h1:i<n
  .rw[if_pos h1]at h;have e:i.toNat=j:=jk.inj h;exact⟨by rw[seqIndex_of h0 h1,e],⋯,⋯,h1⟩
  .rw[if_neg h1]at h;cases h
 .rw[if_neg h0]at h;by_cases h1:-(n:Int)<=i
  .rw[if_pos h1]at h;have e:(i+n).toNat=j:=jk.inj h;exact⟨by rw[seqIndex_neg ⋯ h1,e],⋯,h1,⋯⟩
  .rw[if_neg h1]at h;cases h
def IE{α:Type}{xs:List α}{v:α}(h:z7 xs i=aj v):∃j,seqIndex? i xs.length=aj j/\xs[j]?=aj v/\j<xs.length/\-(xs.length:Int)<=i/\i<xs.length:=by
 unfold z7 at h;cases e:qc xs.length i with
 |none=>rw[e]at h;cases h
 |some j =>
  rw[e]at h;let⟨h1,h2,h3,h4⟩:=Ws e;exact⟨j,h1,h,h2,h3,h4⟩
abbrev ID(b:ji):Prop:=∀o i,subscripted b ao o i=operate [o,i] (getItem o i)
abbrev pE(X:Cx)(r:R2):Prop :=
 ∀(value slice:ji)(ψ:List (bw×Obj))(s:cu)(σ:St)(H:Hp)(x y:V)(v u:au)(Q:VK),Inv X ψ σ H s->RelV x v->RelV y u->r x y H Q ->
  subscripted slice ao v u=operate [v,u] (getItem v u)->dj (fj X.prog X.w) X.A (subscriptTail value slice v u) (EP X ψ σ Q) X.xe s
abbrev MtR(X:Cx)(id:String)(r:V->List V->Hp->VK->Prop):Prop :=
 ∀(ψ:List (bw×Obj))(s:cu)(σ:St)(H:Hp)(x:V)(xs:List V)(v:au)(us:List au)(Q:VK),Inv X ψ σ H s->RelV x v->Vals xs us->r x xs H Q ->
  dj (fj X.prog X.w) X.A (call (.builtin id) (v::us)) (EP X ψ σ Q) X.xe s
section
variable{X:Cx}{a b:ji}
def pE.or(h:pE X r)(h':pE X r'):pE X (λx y H Q=>r x y H Q∨r' x y H Q):=by
 intro value slice ψ s σ H x y v u Q I rx ry q hs;rcases q with q|q
 .exact h value slice ψ s σ H x y v u Q I rx ry q hs
 .exact h' value slice ψ s σ H x y v u Q I rx ry q hs
def aFM(hr:pE X r)(ha:PE X a ta)(hb:PE X b tb)(hs:ID b):PE X (.Subscript a b pos) (xN r ta tb):=by
 intro ψ s σ H Q I h;exact Subscript_ (Gy ha hb I h λv u s2 x y H2 I2 rx ry q=>hr a b ψ s2 σ H2 x y v u Q I2 rx ry q (hs _ _))
abbrev Qi(K:jm):R2:=λx y H Q=>∃p xs i v,x=.ref p/\y=.int i/\bX K H p xs/\z7 xs i=aj v/\Q v H
abbrev Qh(K:jm):R2:=λx y H Q=>∃p xs i v,x=.ref p/\y=.int i/\yM K H p xs/\z7 xs i=aj v/\Q v H
abbrev Qg:R2:=λx y H Q=>∃z i c,x=.str z/\y=.int i/\z.length<=dh/\z7 z.cps.toList i=aj c/\Q (.str ⟨#[c]⟩) H
def Wr:pE X (Qi X.K):=by
 intro value slice ψ s σ H x y v u Q I rx ry h hs;let⟨p,xs,i,z,rfl,rfl,hq,he,q⟩:=h;cases rx;let⟨t,rfl⟩:=ry;let⟨its,r,pl,hz⟩:=I.list hq;let⟨j,h1,h2,h3,h4,h5⟩:=IE he;let⟨w,ew,eW⟩:=r.get h2;have hl:=r.length;have hn:=BZ;have fin:EP X ψ σ Q w s:=⟨z,H,I,eW,q⟩;by_cases h0:0<=i
 .have hj:i.toNat=j:=by
   rw[seqIndex_of h0 h5]at h1;exact jk.inj h1
  exact item_listR pl.isList h0 ⋯ (by rw[hj];simpa using ew) fin hs
 .have hj:(i+(its.toArray.size:Int)).toNat=j:=by
   rw[seqIndex_neg ⋯ h4]at h1;rw[je,←hl];exact jk.inj h1
  exact subscriptTail_builtinR (x:=w) pl.isList.typeIs slot_list_getitem.lookup
   (wpAny_getItem_list_neg (Q:=λr s'=>r=w/\EP X ψ σ Q r s') pl.isList ⋯ (by rw[je]<;>omega) ⋯ (by rw[hj];simpa using ew) ⟨rfl,fin⟩) hs
def aAC:pE X (Qh X.K):=by
 intro value slice ψ s σ H x y v u Q I rx ry h hs;let⟨p,xs,i,z,rfl,rfl,hq,he,q⟩:=h;cases rx;let⟨t,rfl⟩:=ry;let⟨its,r,pl,hz⟩:=I.tuple hq;let⟨j,h1,h2,h3,h4,h5⟩:=IE he;let⟨w,ew,eW⟩:=r.get h2;have hl:=r.length;have hn:=BZ;have fin:EP X ψ σ Q w s:=⟨z,H,I,eW,q⟩
 exact subscriptTail_builtinR (x:=w) pl.typeIs slot_tuple_getitem.lookup
  (getItem_tuple (j:=j) (Q:=λr s'=>r=w/\EP X ψ σ Q r s') pl ⋯ ⋯ (by rw[je,←hl];exact h1) (by simpa using ew) ⟨rfl,fin⟩) hs
def aAD:pE X Qg:=by
 intro value slice ψ s σ H x y v u Q I rx ry h hs;let⟨z,i,c,rfl,rfl,hz,he,q⟩:=h;let⟨t,rfl⟩:=rx;let⟨t',rfl⟩:=ry;let⟨j,h1,h2,h3,h4,h5⟩:=IE he;have hl:z.cps.toList.length=z.length:=by simp[Str.length]
 rw[hl]at h1 h4 h5;have hn:=BZ
 exact tail_any (typeIs_str s z t) slot_str_getitem.lookup (getItem_str (c:=c) (by
  have e1:decide (i< -(2^63:Int))=ao:=decide_eq_false ⋯;have e2:decide (i≥2^63)=ao:=decide_eq_false ⋯;rw[e1,e2,Bool.or_false]) (by rw[h1];simpa using h2) ⟨.str ⟨#[c]⟩,H,I.tok _,⟨_,rfl⟩,q⟩) hs
abbrev Su(K:jm):R2:=λx y H Q=>Qi K x y H Q∨Qh K x y H Q∨Qg x y H Q
def aAE:pE X (Su X.K):=Wr.or (aAC.or aAD)
abbrev tK:V->Bool
 |.ag=>ak
 |.bl _=>ak
 |.int _=>ak
 |.str _=>ak
 |_=>ao
abbrev i5:V->V->Bool
 |.ag,.ag=>ak
 |.bl a,.bl b=>a==b
 |.bl a,.int b=>(if a then 1 else 0)==b
 |.int a,.bl b=>a==(if b then 1 else 0)
 |.int a,.int b=>a==b
 |.str a,.str b=>a==b
 |_,_=>ao
def NG{A:mq}(ry:RelV y u)(rx:RelV x v)(fy:tK y=ak)(fx:tK x=ak):SeqAt.EqAt A s u v (i5 y x):=by
 cases y with
 |ag =>
  cases ry;cases x with
  |ag=>cases rx;exact SeqAt.EqAt.same _
  |bl b=>cases rx;exact SeqAt.EqAt.none_bool b
  |int b=>let⟨t,rfl⟩:=rx;exact SeqAt.EqAt.none_int b t
  |str b=>let⟨t,rfl⟩:=rx;exact SeqAt.EqAt.none_str b t
  |_=>exact absurd (show ao=ak from fx) vf
 |bl a =>
  cases ry;cases x with
  |ag=>cases rx;exact SeqAt.EqAt.bool_none a
  |bl b=>cases rx;exact SeqAt.EqAt.bool_bool a b
  |int b=>let⟨t,rfl⟩:=rx;exact SeqAt.EqAt.bool_int a b t
  |str b=>let⟨t,rfl⟩:=rx;exact SeqAt.EqAt.bool_str a b t
  |_=>exact absurd (show ao=ak from fx) vf
 |int a =>
  let⟨t',rfl⟩:=ry;cases x with
  |ag=>cases rx;exact SeqAt.EqAt.int_none a t'
  |bl b=>cases rx;exact SeqAt.EqAt.int_bool a t' b
  |int b=>let⟨t,rfl⟩:=rx;exact SeqAt.EqAt.int_int a t' b t
  |str b=>let⟨t,rfl⟩:=rx;exact SeqAt.EqAt.int_str a t' b t
  |_=>exact absurd (show ao=ak from fx) vf
 |str a =>
  let⟨t',rfl⟩:=ry;cases x with
  |ag=>cases rx;exact SeqAt.EqAt.str_none a t'
  |bl b=>cases rx;exact SeqAt.EqAt.str_bool a t' b
  |int b=>let⟨t,rfl⟩:=rx;exact SeqAt.EqAt.str_int a t' b t
  |str b=>let⟨t,rfl⟩:=rx;exact SeqAt.EqAt.str_str a t' b t
  |_=>exact absurd (show ao=ak from fx) vf
 |_=>exact absurd (show ao=ak from fy) vf
abbrev oi(x:V)(u:au):Bool:=match u with
 |.none=>i5 .ag x
 |.bool b=>i5 (.bl b) x
 |.int i _=>i5 (.int i) x
 |.str z _=>i5 (.str z) x
 |_=>ao
def NF(r:RelV y u)(f:tK y=ak):oi x u=i5 y x:=by
 cases y with
 |ag=>cases r;rfl
 |bl b=>cases r;rfl
 |int i=>let⟨t,rfl⟩:=r;rfl
 |str z=>let⟨t,rfl⟩:=r;rfl
 |_=>exact absurd (show ao=ak from f) vf
def IC{x:V}:∀{xs:List V}{us:List au},Vals xs us->xs.all tK=ak->us.any (oi x)=xs.any λy=>i5 y x
 |_,_,.nil,_=>rfl
 |y::xs,u::us,.cons r t,f=>by
  rw[nB,bx]at f;rw[wy,wy,NF r f.1,IC t f.2]
def JC{A:mq}{s:cu}{x:V}(rx:RelV x v)(fx:tK x=ak):∀{xs:List V}{us:List au},Vals xs us->xs.all tK=ak->∀u∈us,SeqAt.EqAt A s u v (oi x u)
 |_,_,.nil,_=>λu hu=>by cases hu
 |y::xs,u::us,.cons r t,f=>λu' hu=>by
  rw[nB,bx]at f;rcases lg.mp hu with rfl|hu
  .rw[NF r f.1];exact NG r rx f.1 fx
  .exact JC rx fx t f.2 u' hu
abbrev Dn(x:V)(xs:List V):Bool:=xs.any λy=>i5 y x
abbrev Sv(K:jm)(neg:Bool):R2:=λx y H Q=>∃p xs,y=.ref p/\(bX K H p xs∨yM K H p xs)/\tK x=ak/\xs.all tK=ak/\Q (.bl (if neg then !Dn x xs else Dn x xs)) H
def YX:tH X (qx .In) (Sv X.K ao):=by
 intro ψ s σ H x y v u Q I rx ry h;let⟨p,xs,rfl,hq,fx,fs,q⟩:=h;cases ry;rcases hq with hq|hq
 .obtain⟨its,r,pl,hz⟩:=I.list hq;refine SeqAt.in_listAt (oi x) pl.isList (λw hw=>JC rx fx r fs w (by simpa using hw)) ⟨.bl _,H,I,rfl,?_⟩;rw[show its.toArray.any (oi x)=its.any (oi x) by simp,IC r fs];exact q
 .obtain⟨its,r,pl,hz⟩:=I.tuple hq;refine SeqAt.in_tupleAt (oi x) pl (λw hw=>JC rx fx r fs w (by simpa using hw)) ⟨.bl _,H,I,rfl,?_⟩;rw[show its.toArray.any (oi x)=its.any (oi x) by simp,IC r fs];exact q
def aa7:uJ X (.builtin "len") (λxs H Q=>∃p ys,xs=[.ref p]/\(bX X.K H p ys∨yM X.K H p ys)/\Q (.int ys.length) H):=by
 intro ψ s σ H xs us Q I r h;let⟨p,ys,rfl,hq,q⟩:=h;let⟨u,rfl,rx⟩:=vals1 r;cases rx;have hn:=BZ;rcases hq with hq|hq
 .obtain⟨its,r',pl,hz⟩:=I.list hq;have hlen:=r'.length;exact Calls.call_len_list pl.isList (by simp only[je]<;>omega) ⟨.int ys.length,H,I.tok _,⟨s.toks+1,by rw[je,hlen]⟩,q⟩
 .obtain⟨its,r',pl,hz⟩:=I.tuple hq;have hlen:=r'.length;exact len_tuple pl (by simp only[je]<;>omega) ⟨.int ys.length,H,I.tok _,⟨s.toks+1,by rw[je,hlen]⟩,q⟩
def aa8:uJ X (.builtin "len") (λxs H Q=>∃z,xs=[.str z]/\z.length<=dh/\Q (.int z.length) H):=by
 intro ψ s σ H xs us Q I r h;let⟨z,rfl,hz,q⟩:=h;let⟨u,rfl,t,rfl⟩:=vals1 r;have hn:=BZ;exact len_str ⋯ ⟨.int z.length,H,I.tok _,⟨_,rfl⟩,q⟩
def uJ.or{r r':List V->Hp->VK->Prop}(h:uJ X f r)(h':uJ X f r'):uJ X f (λxs H Q=>r xs H Q∨r' xs H Q):=by
 intro ψ s σ H xs us Q I rs q;rcases q with q|q
 .exact h ψ s σ H xs us Q I rs q
 .exact h' ψ s σ H xs us Q I rs q
def aa9:uJ X (.type "list") (λxs H Q=>∃p ys,xs=[.ref p]/\(bX X.K H p ys∨yM X.K H p ys)/\∀l,H l=bh->Q (.ref l) (upd H l (.lst ys))):=by
 intro ψ s σ H xs us Q I r h;let⟨p,ys,rfl,hq,q⟩:=h;let⟨u,rfl,rx⟩:=vals1 r;cases rx
 have fin:∀(its:List au),Vals ys its->ys.length<=dh->∀(h':ju)(c':Nat),(∀b o',s.heap.get? b=aj o'->h'.get? b=aj o') ->
   h'.get? s.heap.objs.size=aj {cls:=.type "list",dict:=none,data:=.seq its.toArray c',slots:=#[]}->EP X ψ σ Q (.ref s.heap.objs.size) {s with heap:=h' }:=λits r' hz h' c' kp e =>
  ⟨.ref s.heap.objs.size,_,I.laid (t':=s.toks) kp (dz _) (show eX X.prog X.w _ h' _ (.lst ys)from⟨hz,its,c',r',e⟩),rfl,q _ (I.af.fresh (dz _))⟩
 rcases hq with hq|hq
 .obtain⟨its,r',pl,hz⟩:=I.list hq;have hlen:=r'.length;let⟨o,ho,hc,n,hd⟩:=pl.isList;exact call_list_seq p (.inl rfl) ho hc hd (λh' c' kp e=>fin its r' hz h' c' kp e) (by simp only[je]<;>omega)
 .obtain⟨its,r',pl,hz⟩:=I.tuple hq;have hlen:=r'.length;let⟨o,ho,hc,n,hd⟩:=pl;exact call_list_seq p (.inr rfl) ho hc hd (λh' c' kp e=>fin its r' hz h' c' kp e) (by simp only[je]<;>omega)
abbrev Ky(K:jm)(T:String)(x:V)(H:Hp):Prop:=match x with
 |.str _=>T="str"
 |.int _=>T="int"
 |.ref p=>(T="list"/\∃xs,bX K H p xs)∨(T="tuple"/\∃o,K.lookup p=aj o/\o.cls=.type "tuple"/\o.dict=bh) ∨
   (T="dict"/\((∃aa,H p=aj (.dK aa))∨∃aa,H p=aj (.dT aa)))∨(T="set"/\∃S n,H p=aj (.set S n))
 |_=>False
def ND{ψ:List (bw×Obj)}{T:String}(I:Inv X ψ σ H s)(r:RelV x v)(ty:Ky X.K T x H) :
  s.TypeIs v T/\∀a,v=.ref a->∃ob,s.heap.get? a=aj ob/\ob.dict=bh:=by
 cases x with
 |str z =>
  let⟨t,rfl⟩:=r;cases(show T="str" from ty);exact⟨typeIs_str s z t,λ_ e=>nomatch e⟩
 |int i =>
  let⟨t,rfl⟩:=r;cases(show T="int" from ty);exact⟨typeIs_int s i t,λ_ e=>nomatch e⟩
 |ref p =>
  cases r;rcases ty with⟨rfl,xs,hq⟩|⟨rfl,o,hk,hc,hd⟩|⟨rfl,hk⟩|⟨rfl,S,n,hk⟩
  .obtain⟨its,_,pl,_⟩:=I.list hq;refine⟨pl.isList.typeIs,λa e=>?_⟩;cases e;let⟨o,n,e,c,hd,_⟩:=pl;exact⟨o,e,hd⟩
  .refine⟨⟨o,I.dC p o hk,hc⟩,λa e=>?_⟩;cases e;exact⟨o,I.dC _ o hk,hd⟩
  .have z:∃o,s.heap.get? p=aj o/\o.ExactDict:=by
    rcases hk with⟨aa,hk⟩|⟨aa,hk⟩
    .obtain⟨_,_,_,_,o,_,_,e,ex,_⟩:=I.af p _ hk;exact⟨o,e,ex⟩
    .obtain⟨_,_,_,_,o,_,_,e,ex,_⟩:=I.af p _ hk;exact⟨o,e,ex⟩
   let⟨o,e,ex⟩:=z;refine⟨⟨o,e,ex.1⟩,λa e2=>?_⟩;cases e2;exact⟨o,e,ex.2.1⟩
  .obtain⟨o,_,_,_,e,ex,_⟩:=I.af p _ hk;refine⟨⟨o,e,ex.1⟩,λa e2=>?_⟩;cases e2;exact⟨o,e,ex.2.1⟩
 |_=>exact False.elim ty
end
end
variable{its:List au}{t':Nat}
section
abbrev MtM(X:Cx)(id:String)(r:V->List V->Hp->VK->Prop):Prop :=
 ∀(ψ:List (bw×Obj))(s:cu)(σ:St)(H:Hp)(x:V)(xs:List V)(v:au)(us:List au)(Q:VK),Inv X ψ σ H s->RelV x v->Vals xs us->r x xs H Q ->
  dj (fj X.prog X.w) X.A (call (.builtin id) (v::us)) (EP X ψ σ Q) X.xe s
def Vals.one(h:Vals [x] us):∃u,us=[u]/\RelV x u:=by
 cases h with
 |cons r h=>cases h;exact⟨_,rfl,r⟩
section
variable{ψ:List (bw×Obj)}{s:cu}{xs ys:List V}
def Inv.aK9{its':List au}{f:Array au->Array au}(I:Inv X ψ σ H s)(hH:H l=aj (.lst xs))
  (e:s.heap.get? l=aj {cls:=.type "list",data:=.seq its.toArray n})(hf:f its.toArray=its'.toArray)(hv:Vals ys its')(hz:ys.length<=dh) :
  Inv X ψ σ (upd H l (.lst ys)) {s with heap:=s.heap.update l (Obj.mapSeq f),toks:=t' }:=by
 have q:=PySem.IsL.update e f;rw[hf]at q;refine I.write (x:=l) (e:=l) (by rw[hH];exact trivial) (.inl rfl) (λb' u hb hu=>(Heap.get?_update_other s.heap (Obj.mapSeq f) (Ne.symm hb)).trans hu) ⟨_,q⟩ ?_;exact⟨hz,its',_,hv,q⟩
def Inv.Qf(I:Inv X ψ σ H s)(hv:Vals ys its)(hz:ys.length<=dh) :
  Inv X ψ σ (upd H s.heap.objs.size (.lst ys)) {s with heap:=s.heap.push {cls:=.type "list",data:=.seq its.toArray},toks:=t' } :=
 I.laid (λ_ _ q=>cj _ q) (dz _) ⟨hz,its,0,hv,iz _ rfl⟩
def Inv.fresh(I:Inv X ψ σ H s):H s.heap.objs.size=bh:=I.af.fresh (dz _)
def Inv.Jd(I:Inv X ψ σ H s)(hH:H l=aj (.lst xs)):xs.length<=dh/\∃(its:List au)(n:Nat),Vals xs its/\xs.length=its.length/\s.heap.get? l=aj {cls:=.type "list",data:=.seq its.toArray n}:=by
 let⟨z,its,n,r,e⟩:=I.af l _ hH;exact⟨z,its,n,r,r.length,e⟩
end
section
abbrev Wq:V->List V->Hp->VK->Prop:=λx vs H Q=>∃l xs y,x=.ref l/\vs=[y]/\H l=aj (.lst xs)/\xs.length<dh/\Q .ag (upd H l (.lst (xs++[y])))
def QN:MtM X "list.append" Wq:=by
 intro ψ s σ H x vs v us Q I rx rv h;let⟨l,xs,y,rfl,rfl,hH,hz,q⟩:=h;cases rx;let⟨u,rfl,ru⟩:=rv.one;let⟨z,its,n,r,hl,e⟩:=I.Jd hH;refine call_meets F.slot_list_append ⟨_,e,rfl⟩ F.entry_list_append (F.args_list_append_2 _ _) (PySem.list_append l its.toArray n u (by rw[je];omega)) ⟨e,?_⟩;refine⟨.ag,_,I.aK9 (its':=its++[u]) hH e (by simp) (r.append (.cons ru .nil)) ?_,rfl,q⟩;rw[yj,List.length_singleton];omega
abbrev aKA:R2:=λx y H Q=>∃l b xs zs,x=.ref l/\y=.ref b/\H l=aj (.lst xs)/\H b=aj (.lst zs)/\xs.length+zs.length<=dh/\∀p,H p=bh->Q (.ref p) (upd H p (.lst (xs++zs)))
def aAG:tH X (yq .Add) aKA:=by
 intro ψ s σ H x y v u Q I rx ry h;let⟨l,b,xs,zs,rfl,rfl,hH,hB,hz,q⟩:=h;cases rx;cases ry;let⟨z,its,n,r,hl,e⟩:=I.Jd hH;let⟨z2,bc,n2,r2,A7,e2⟩:=I.Jd hB;refine PySem.P.add_list e e2 ?_ (by rw[je,je];omega);have ea:its.toArray++bc.toArray=(its++bc).toArray:=by simp
 rw[ea];exact⟨.ref _,_,I.Qf (t':=s.toks) (r.append r2) (by rw[yj];omega),rfl,q _ I.fresh⟩
end
section
end
section
end
end
end L2
namespace R0
open PySem PySem.W PySem.Calls PyProof.Rows
def a3E:∀(ns:List Int)(vs:List au),WellAll P h vs (ns.map WData.int)->kX vs ns:=by
 intro ns
 induction ns with
 |nil =>
  intro vs w;rw[List.map_nil]at w;cases w;exact .nil
 |cons n ns ih =>
  intro vs w;rw[iw]at w;cases w with
  |cons a b =>
   cases a;exact .cons _ _ (ih _ b)
variable{l:OpenLaw}{n:Nat}
def YW(hn:l.most=aj n){h:ju} 
  (pM:l.row.toRowW.claim.pre args=ak)(F4:WellAll P h vals args) :
  ∃a vs ns,vals=[au.ref a]/\args=[WData.list (ns.map WData.int)]/\h.get? a=aj {cls:=.type "list",data:=.seq vs.toArray}/\kX vs ns/\ns.length<=n:=by
 have S2:WShape.hasAll [] args [.list .int]=ak:=(pre_splitW pM).1;have hc:l.pre.holds [] {args:=args}=ak:=(pre_splitW pM).2;let⟨d,r,rfl,h1,h2⟩:=hasAllW_cons S2;obtain rfl:=hasAllW_nil h2;let⟨xs,rfl,h3⟩:=hasW_list h1;let⟨ns,rfl⟩:=items_int h3
 have hlen:ns.length<=n:=by
  unfold OpenLaw.pre at hc
  have h4:(WTm.not (.lt (.lit (.int (n:Int))) (.len (.arg 0)))).holds [] {args:=[.list (ns.map .int)]}=ak:=by
   have h4:=(holds_andW hc).1;rw[hn]at h4;exact h4
  have h5:=condW_of h4 (w_not (w_lt w_lit (w_len_list (w_arg rfl))));rw[dw]at h5;refine Nat.le_of_not_lt λq=>?_;have q':(n:Int)<((ns.length:Nat):Int):=by omega
  first
   |(rw[decide_eq_true q']at h5;exact absurd h5 (by decide))
   |(simp at h5;omega)
 cases F4 with
 |cons w1 w2 =>
  cases w2;cases w1 with
  |list ho ba=>exact⟨_,_,ns,rfl,rfl,ho,a3E ns _ ba,hlen⟩
def YV(l:OpenLaw)(args:List WData):l.row.toRowW.claim.post args (.bool ak) args=ak :=
 postW_of (r:=l.row.toRowW) (X:=(ak==ak))
  (show WShape.has [] (.bool ak) .bool=ak by first|rfl|decide|simp[WShape.has,WShape.arms,WShape.armsAll])
  (show(WTm.eq .res (.lit (.bool ak))).value [] {args:=args,res:=some (.bool ak),after:=args}=aj (.bool (ak==ak))from w_eq_bool (w_res rfl) w_lit) rfl
def Z'{XP:(Str->Option au)->ju->Prop}{YP:jj->ju->Prop}{d:DefRec}
  (hn:l.most=aj n)(Bb:d.params.defaults=[])
  (call:∀(w:jj)(ar ah:cu)(mg mb:Str->Option au)(fa:bw)(o:Obj)(pm cd doc:au)(a:bw)(vs:List au)(ns:List Int),
   Ground q loose [] XP w ar mg mb ah.heap->YP w ah.heap ->
   ah.heap.get? fa=aj o->o.data=.func (docDef d.name d.params d.body d.scope pm cd doc)->ah.heap.CodeRec cd d.name->mg d.name=aj (.ref fa) ->
   ah.heap.get? a=aj {cls:=.type "list",data:=.seq vs.toArray}->kX vs ns->ns.length<=n->ah.gens=#[] ->
   gL (fj l.prog w) callerA (.call (.ref fa) ⟨[.ref a],[]⟩) (λr s'=>r=.ok (.ret (.bool ak))/\OldK ah.heap s'.heap/\s'.os=ah.os/\AllBare s'.gens) ah) :
  WalkO q loose XP YP l.row.toRowW d [] (λf vs=>PySem.call f vs):=by
 intro w ar ah mg mb G Y fa o pm cd doc dV kV ho hd eR hD A5 hg args vals as pM hlay hrd F4 Lu;obtain rfl:dV=.none:=Dflts.none hD Bb;obtain rfl:kV=.none:=Dflts.noKw hD;let⟨a,vs,ns,rfl,rfl,xm,hints,hlen⟩:=YW hn pM F4;refine enter_call (Ac (call w ar ah mg mb fa o pm cd doc a vs ns G Y ho (fd_plain hd) eR A5 xm hints hlen hg) λr s' hq=>?_);let⟨rfl,h2,h3,h4⟩:=hq;exact⟨.inl ⟨.bool ak,.bool ak,[],rfl,λ_=>rfl,.bool ak,YV l _,λ_=>⟨pb.nil,λ_ hm=>(nomatch hm)⟩⟩,h2,h3,h4⟩
section
abbrev ledger(h:ju)(L d:bw):List (bw×Obj):=(jw h.objs.size).filterMap λa=>if a=L∨a=d then bh else(h.get? a).map λo=>(a,o)
end
end R0
namespace L2
open PySem PySem.Spec PyProof.Rows
variable{x:Str}
section
def QM:∀{vs:List au}{ns:List Int},kX vs ns->Vals (ns.map V.int) vs
 |_,_,.nil=>.nil
 |_,_,.cons n t h=>.cons ⟨t,rfl⟩ (QM h)
abbrev xo(H:Hp):Prop:=∀b,H b=bh∨∃o xs,H b=aj (.fY o (.lst xs))
private theorem X6{w:jj}{K:jm}{mg mb:Str->Option au}{k:Nat}{ah:cu}{vs:List au}{ns:List Int}
  (KX:K.In ah.heap)(Lr:ah.heap.Ns nu mg)(hb:ah.heap.Ns builtinsNs mb)(To:∀x:Str,x≠"__name__"->mb x=oh x)(Ko:ah.heap.NoLimit)(hg:ah.gens=#[])
  (ha:ah.heap.get? a=aj {cls:=.type "list",data:=.seq vs.toArray})(hi:kX vs ns)(hl:ns.length<=dh)(hr:jC qt k callerA)
  (F:∀base:ju,K.In base->base.Ns nu mg->cM qt P w K mg base CX k fa fd [x] sp)(C0:∀(s:cu)(u:au),BindsTo s fd ⟨[u],[]⟩ [(x,u)])
  (gf:∀H:Hp,xo H->bX K H a (ns.map V.int)->sp [.ref a] H (λv _=>v=.bl ak) λ_ _ _=>False)
  (Gg:∀H e s',CX [] H ah (λ_ _ _=>False) e s'->False) :
  gL (fj P w) callerA (.call (.ref fa) ⟨[.ref a],[]⟩) (λr s'=>r=.ok (.ret (.bool ak))/\OldK ah.heap s'.heap/\s'.os=ah.os/\AllBare s'.gens) ah:=by
 have rv:=QM hi;have Kj:=hi.length
 have core:∀H:Hp,xo H->bX K H a (ns.map V.int)->wX P w H ah.heap->(∀b,H b≠bh->b=a)->(H a≠bh->K.lookup a=bh) ->
   gL (fj P w) callerA (.call (.ref fa) ⟨[.ref a],[]⟩) (λr s'=>r=.ok (.ret (.bool ak))/\OldK ah.heap s'.heap/\s'.os=ah.os/\AllBare s'.gens) ah:=by
  intro H hO hS af hA hK;have OQ:∀{b:bw}{o:Obj},ah.heap.get? b=aj o->H b=bh->(oC ah.heap H).get? b=aj o:=λe n=>Yi e n
  have AR:∀{b:bw}{o:Obj}{es:Array lh}{ep:Nat},ah.heap.get? b=aj o->o.data=.dict es ep->H b=bh:=λ{b o es ep} e d=>by
   cases q:H b with
   |none=>rfl
   |some u =>
    have e':b=a:=hA b (by rw[q];simp);subst e';rw[ha]at e;cases e;have d':Data.seq vs.toArray _=Data.dict es ep:=d;cases d'
  have Df:∀{b:bw}{m:Str->Option au},ah.heap.Ns b m->(oC ah.heap H).Ns b m:=λ{b m} ⟨o,es,ep,e,d,r⟩=>⟨o,es,ep,OQ e (AR e d),d,r⟩
  have LG:K.In (oC ah.heap H):=λb o e=>OQ (KX b o e) (by
   cases q:H b with
   |none=>rfl
   |some u =>
    have e':b=a:=hA b (by rw[q];simp);subst e';rw[hK (by rw[q];simp)]at e;cases e)
  have hM:Mod K mg (oC ah.heap H):=⟨LG,Df Lr,⟨mb,Df hb,To⟩,let⟨mc,h1,h2⟩:=Ko;⟨mc,Df h1,h2⟩⟩;have e0:vj P w K mg (oC ah.heap H) callerA [] ah H:=⟨rfl,hM,λb o e=>WT e,Ad (Y7 _ _),trivial,λb hb=>absurd (show b∈([]:List bw)from hb) (by simp),af,.of_eq hg,.inl rfl⟩;refine Ac ((F _ LG (Df Lr)).run callerA [] ah H ⟨[.ref a],[]⟩ [.ref a] [.ref a] _ _ hr e0 (C0 ah (.ref a)) (.cons rfl .nil) (gf H hO hS)) λr s' h=>?_;cases r with
  |error e=>exact(Gg H e s' h).elim
  |ok fl =>
   cases fl with
   |next=>exact False.elim h
   |brk=>exact False.elim h
   |cont=>exact False.elim h
   |ret u =>
    let⟨v,H',os,bare,un,Kn,r',q⟩:=h;have q':v=.bl ak:=q;subst q';obtain rfl:u=au.bool ak:=r';refine⟨rfl,OldK.of_keep λb o e=>?_,os,bare⟩;cases q:H b with
    |none=>exact un.keep b o e q (by intro z;exact absurd (show b∈([]:List bw)from z) (by simp)) (by simp)
    |some u =>
     rcases hO b with z|⟨ob,xs,z⟩
     .rw[q]at z;cases z
     .have z2:=un.lZ b ob _ z;let⟨e1,_⟩:=af b _ z;let⟨e2,_⟩:=Kn b _ z2;rw[e]at e1;cases e1;exact e2
 cases hk:K.lookup a with
 |some o =>
  have e:=KX a o hk;rw[ha]at e;cases e;refine core (λ_=>bh) (λ_=>.inl rfl) (.inr ⟨_,vs.toArray,_,hk,rfl,rfl,rfl,by rw[je,Kj];exact hl,by simpa using rv⟩) (λb u z=>by have z':(bh:Option HO)=aj u:=z;cases z') (λb z=>absurd rfl z) λz=>absurd rfl z
 |none =>
  refine core (λb=>if b=a then aj (.fY {cls:=.type "list",data:=.seq vs.toArray} (.lst (ns.map V.int)))else bh) (λb=>?_) (.inl (.inr ⟨{cls:=.type "list",data:=.seq vs.toArray},if_pos rfl⟩)) (λb u z=>?_) (λb z=>?_) λ_=>hk
  .by_cases hb:b=a
   .exact .inr ⟨_,_,if_pos hb⟩
   .exact .inl (if_neg hb)
  .by_cases hb:b=a
   .have z':=(if_pos hb).symm.trans z;cases z';subst hb;exact⟨ha,by rw[dw];exact hl,vs,_,rv,ha⟩
   .have z':=(if_neg hb).symm.trans z;cases z'
  .by_cases hb:b=a
   .exact hb
   .exact absurd (if_neg hb) z
end
section
def Wo{l:PySem.W.OpenLaw}{n k:Nat}{q:kj}{loose:List Str}{XP:(Str->Option au)->ju->Prop}{YP:jj->ju->Prop}{d:DefRec}{K:Params->jm}{CX:jj->CA}{sp:jj->Sp}
  (hn:l.most=aj n)(F7:n<=dh)(Bb:d.params.defaults=[])(hr:jC qt k callerA)
  (hY:∀(w:jj)(h:ju),YP w h->(K w.params).In h)
  (F:∀(w:jj)(mg:Str->Option au)(fa:bw)(h:ju),(K w.params).In h->h.Ns nu mg->mg d.name=aj (.ref fa) ->
   ∃fd:qj,(∀(s:cu)(u:au),BindsTo s fd ⟨[u],[]⟩ [(x,u)]) /\
    ∀base:ju,(K w.params).In base->base.Ns nu mg->cM qt l.prog w (K w.params) mg base (CX w) k fa fd [x] (sp w))
  (gf:∀(w:jj)(H:Hp)(a:bw)(ns:List Int),ns.length<=n->xo H->bX (K w.params) H a (ns.map V.int)->sp w [.ref a] H (λv _=>v=.bl ak) λ_ _ _=>False)
  (Gg:∀(w:jj)(H:Hp)(s:cu)(e:au)(s':cu),CX w [] H s (λ_ _ _=>False) e s'->False) :
  PySem.W.WalkO q loose XP YP l.row.toRowW d [] (λf vs=>PySem.call f vs):=by
 refine R0.Z' hn Bb λw ar ah mg mb fa o pm cd doc a vs ns G Y ho hd eR A5 xm hints hlen hg=>?_;have KX:=hY w _ Y;let⟨fd,hb,hF⟩:=F w mg fa _ KX G.T.g A5;exact X6 KX G.T.g G.T.b G.T.builtins G.T.nolimit hg xm hints (wg hlen F7) hr hF hb (λH hO hS=>gf w H a ns hlen hO hS) λH e s'=>Gg w H ah e s'
end
section
abbrev dR(s:qw):Arguments:=match s with
 |.FunctionDef _ a _ _ _ _ _ _ _ _=>a
 |_=>{posonlyargs:=[],args:=[],vararg:=none,kwonlyargs:=[],kw_defaults:=[],kwarg:=none,defaults:=[]}
abbrev cP(s:qw):List qw:=match s with
 |.FunctionDef _ _ b _ _ _ _ _ _ _=>b
 |_=>[]
abbrev bL(s:qw):b9:=match s with
 |.FunctionDef _ _ _ _ _ _ sc _ _ _=>sc
 |_=>{kind:=.function,names:=[],isGenerator:=false,isCoroutine:=false}
structure sL(K:jm)(x qual:Str)(st:qw)(f:bw)(fd:qj):Prop where
 ex:∃(oc:au)(od:Option bw)(dV kV doc pm:au)(an:Option bw)(c5 ct:au)(x4:Array (Option au)),
  fd=ux x qual (dR st) (cP st) (bL st) dV kV doc pm an c5 ct/\K.lookup f=aj ⟨oc,od,.func fd,x4⟩/\B6 K c5 qual=ak
 kp:yh K (.ref f)=ak
section
variable{K:jm}
def NC{qual:Str}{st:qw}{f:bw}{oc:au}{od an:Option bw}{x4:Array (Option au)}{dV kV doc pm c5 ct:au}(l:K.lookup f=aj ⟨oc,od,.func (ux x qual (dR st) (cP st) (bL st) dV kV doc pm an c5 ct),x4⟩)
  (c:B6 K c5 qual=ak)(k:yh K (.ref f)=ak):sL K x qual st f (ux x qual (dR st) (cP st) (bL st) dV kV doc pm an c5 ct):=⟨⟨oc,od,dV,kV,doc,pm,an,c5,ct,x4,rfl,l,c⟩,k⟩
end
section
variable{X:Cx}
def pv(i:Nat)(hN:X.N[i]?=aj x:=by rfl)(hv:sv X.env.scope x:=by first|exact Or.inl rfl|exact Or.inr (Or.inl rfl)|exact Or.inr (Or.inr rfl))(hd:(x==("__debug__":Str))=ao:=by decide)
  (eR:(x==("__classdict__":Str))=ao:=by decide):PE X (.Name x pos) (Gz i):=NJ hN hv hd eR
end
abbrev aI(H H':Hp):Prop:=∀b o,H b=aj o->H' b=aj o
def aI.refl(H:Hp):aI H H:=λ_ _ h=>h
section
end
section
variable{κ:Type}[DecidableEq κ]
def E1:∀{l:List κ}{k:κ},l.Nodup->¬ k∈l->(l++[k]).Nodup
 |[],k,_,_=>by simp
 |a::r,k,h,hk=>by
  let⟨h1,h2⟩:=tu.mp h;show(a::(r++[k])).Nodup;refine tu.mpr ⟨λm=>?_,E1 h2 λm=>hk (lg.mpr (Or.inr m))⟩;rcases uo.mp m with q|q
  .exact h1 q
  .exact hk (lg.mpr (Or.inl (ql.mp q).symm))
end
end
end L2
namespace L2
open PySem PySem.SetTable
abbrev AA(xs:Array Nat):Prop:=∀(i j a b:Nat),i<j->xs[i]?=aj a->xs[j]?=aj b->a<b
def JB{xs:Array Nat}{j:Nat}(r:AA xs):∀(f lo hi:Nat),lo<=hi->hi<=xs.size->hi - lo<=f->(∀i a,i<lo->xs[i]?=aj a->a<j)->(∀i a,hi<=i->xs[i]?=aj a->j<=a) ->
  below.go xs j f lo hi<=xs.size/\(∀i a,i<below.go xs j f lo hi->xs[i]?=aj a->a<j)/\∀i a,below.go xs j f lo hi<=i->xs[i]?=aj a->j<=a
 |0,lo,hi,h1,h2,h3,h4,h5=>by
  have:lo=hi:=by omega
  subst this;exact⟨h2,h4,h5⟩
 |f+1,lo,hi,h1,h2,h3,h4,h5=>by
  unfold below.go;by_cases c:lo<hi
  .rw[if_pos c];have hm:(lo+hi) / 2<xs.size:=by omega
   have em:xs[(lo+hi) / 2]?=aj xs[(lo+hi) / 2]:=gw hm;have eg:xs.getD ((lo+hi) / 2) j=xs[(lo+hi) / 2]:=by simp[k7,hm]
   dsimp only;rw[eg];by_cases c2:xs[(lo+hi) / 2]<j
   .rw[if_pos c2];refine JB r f _ hi ⋯ h2 ⋯ (λi a d6 e=>?_) h5;by_cases c3:i=(lo+hi) / 2
    .subst c3;rw[em]at e;cases e;exact c2
    .exact wt (r i _ a _ ⋯ e em) c2
   .rw[if_neg c2];refine JB r f lo _ ⋯ ⋯ ⋯ h4 (λi a d6 e=>?_);by_cases c3:i=(lo+hi) / 2
    .subst c3;rw[em]at e;cases e;omega
    .have:=r _ i _ a ⋯ em e;omega
  .rw[if_neg c];have:lo=hi:=by omega
   subst this;exact⟨h2,h4,h5⟩
def uO{xs:Array Nat}(r:AA xs)(j:Nat):below xs j<=xs.size/\(∀i a,i<below xs j->xs[i]?=aj a->a<j)/\∀i a,below xs j<=i->xs[i]?=aj a->j<=a :=
 JB r _ _ _ (ud _) (dz _) ⋯ (λi a h=>absurd h (Ca _)) λi a h e=>by rw[wu h]at e;cases e
variable{j:Nat}
def below_at(r:AA xs){i:Nat}(e:xs[i]?=aj j):below xs j=i:=by
 let⟨h1,h2,h3⟩:=uO r j;rcases zq (below xs j) i with c|c|c
 .have hl:below xs j<xs.size:=wt c (qz.mp e).1;have e2:xs[below xs j]?=aj xs[below xs j]:=gw hl;have:=h3 _ _ (dz _) e2;have:=r _ _ _ _ c e2 e;omega
 .exact c
 .have:=h2 i j c e;omega
def ZG(r:AA xs){i:Nat}(e:xs[i]?=aj j):below xs (j+1)=i+1:=by
 let⟨h1,h2,h3⟩:=uO r (j+1);have hi:=(qz.mp e).1;rcases zq (below xs (j+1)) (i+1)with c|c|c
 .have:=h3 i j ⋯ e;omega
 .exact c
 .have hl:i+1<xs.size:=by omega
  have e2:xs[i+1]?=aj xs[i+1]:=gw hl;have:=h2 (i+1) _ c e2;have:=r _ _ _ _ (Nat.lt_succ_self i) e e2;omega
def Wn(r:AA xs):below xs 0=0:=by
 let⟨h1,h2,h3⟩:=uO r 0;rcases Nat.eq_zero_or_pos (below xs 0)with c|c
 .exact c
 .have hl:0<xs.size:=by omega
  have:=h2 0 _ c (gw hl);omega
structure J2(t:SetTable):Prop where
 ri:AA t.place
 le:∀(i a:Nat),t.place[i]?=aj a->a<=t.mask
 du:t.dummies=#[]
def QL{t:SetTable}(o:J2 t){i:Nat}(e:t.place[i]?=aj j):t.slot j=.live i:=by
 unfold SetTable.slot;dsimp only;rw[below_at o.ri e,e];simp
def slot_of{t:SetTable}(o:J2 t):(∃i:Nat,t.slot j=.live i/\t.place[i]?=aj j)∨(t.slot j=.empty/\∀i:Nat,t.place[i]?≠aj j):=by
 by_cases c:∃i:Nat,t.place[i]?=aj j
 .obtain⟨i,e⟩:=c;exact .inl ⟨i,QL o e,e⟩
 .right;have n:∀i:Nat,t.place[i]?≠aj j:=λi e=>c ⟨i,e⟩;refine⟨?_,n⟩;unfold SetTable.slot;dsimp only;rw[if_neg (by simpa using n _)];have:has t.dummies j=ao:=by rw[o.du];unfold has;simp
  rw[this];rfl
abbrev ik(m:Nat)(p:Probe):Probe :=
 if p.more>0 then{p with j:=p.j+1,more:=p.more - 1}else
 {p with j:=(leap m p.i p.perturb).1,more:=runEnd m (leap m p.i p.perturb).1 - (leap m p.i p.perturb).1,i:=(leap m p.i p.perturb).1,perturb:=(leap m p.i p.perturb).2}
def NB(t:SetTable)(p:Probe):t.advance p=ik t.mask p:=rfl
abbrev Ed(m:Nat)(z:Nat×Nat):Probe:=⟨z.1,runEnd m z.1 - z.1,z.1,z.2,bh⟩
abbrev sq(m:Nat)(h:Int):Nat->Probe
 |0=>Ed m (bits h%(m+1),bits h)
 |k+1=>ik m (sq m h k)
def aKD(t:SetTable)(h:Int):t.probeStart h=sq t.mask h 0:=rfl
abbrev m6(m:Nat)(h:Int):Nat->Nat×Nat
 |0=>(bits h%(m+1),bits h)
 |k+1=>leap m (m6 m h k).1 (m6 m h k).2
def aFR(m i:Nat):runEnd m i - i<=9:=by unfold runEnd;split<;>omega
def EB{m:Nat}{h:Int}{n:Nat}{z:Nat×Nat}(e:sq m h n=Ed m z):∀d,d<=runEnd m z.1 - z.1->sq m h (n+d)=⟨z.1+d,runEnd m z.1 - z.1 - d,z.1,z.2,bh⟩
 |0,_=>e
 |d+1,hd=>by
  show ik m (sq m h (n+d))=_;rw[EB e d ⋯];unfold ik;rw[if_pos (show runEnd m z.1 - z.1 - d>0 by omega)];rfl
def Mw{m:Nat}{h:Int}:∀k,∃n,n<=10*k/\sq m h n=Ed m (m6 m h k)
 |0=>⟨0,dz _,rfl⟩
 |k+1=>by
  let⟨n,hn,e⟩:=Mw (m:=m) (h:=h) k;have r:=aFR m (m6 m h k).1;refine⟨n+(runEnd m (m6 m h k).1 - (m6 m h k).1)+1,⋯,?_⟩;show ik m (sq m h (n+(runEnd m (m6 m h k).1 - (m6 m h k).1)))=_;rw[EB e _ (dz _)];unfold ik;rw[if_neg (show ¬ runEnd m (m6 m h k).1 - (m6 m h k).1 - (runEnd m (m6 m h k).1 - (m6 m h k).1)>0 by omega)];rfl
def OP{m:Nat}{h:Int}:∀k,(m6 m h k).2=bits h / 32^k
 |0=>by show bits h=_;rw[Nat.pow_zero,Nat.div_one]
 |k+1=>by
  show(m6 m h k).2 / 32=_;rw[OP k,Nat.div_div_eq_div_mul,Nat.pow_succ]
def Wm(h:Int):bits h<2^64:=by unfold bits;omega
abbrev BJ(m x:Nat):Nat:=(x*5+1)%(m+1)
abbrev fw(m:Nat):Nat->Nat->Nat
 |0,a=>a
 |n+1,a=>fw m n (BJ m a)
def Hl{m:Nat}{h:Int}:∀d,(m6 m h (13+d)).1=fw m d (m6 m h 13).1
 |0=>rfl
 |d+1=>by
  have e:∀n a,fw m (n+1) a=BJ m (fw m n a):=λn=>by
   induction n with
   |zero=>intro a;rfl
   |succ n ih=>intro a;show fw m (n+1) (BJ m a)=_;rw[ih];rfl
  rw[e,←Hl d];show(leap m (m6 m h (13+d)).1 (m6 m h (13+d)).2).1=_;unfold leap BJ
  have:(m6 m h (13+d)).2 / 32=0:=by
   rw[OP,Nat.div_div_eq_div_mul,←Nat.pow_succ];refine Nat.div_eq_of_lt (qb (Wm h) ?_);refine wg (show 2^64<=32^14 by decide) (Nat.pow_le_pow_right (by decide) ⋯)
  rw[this]
abbrev zg(m:Nat):Nat->Nat->List Nat
 |0,_=>[]
 |n+1,a=>a::zg m n (BJ m a)
def NA{m:Nat}:∀(n a x:Nat),x∈zg m n a->∃d,d<n/\fw m d a=x
 |0,_,_,h=>by cases h
 |n+1,a,x,h=>by
  rcases lg.mp h with rfl|h
  .exact⟨0,⋯,rfl⟩
  .obtain⟨d,hd,e⟩:=NA n _ x h;exact⟨d+1,⋯,e⟩
def EA{m:Nat}:∀(p q a:Nat),fw m (p+q) a=fw m q (fw m p a)
 |0,q,a=>by rw[B3];rfl
 |p+1,q,a=>by
  rw[show p+1+q=(p+q)+1 by omega];exact EA p q _
abbrev oB(m:Nat):Prop:=m=7∨m=31∨m=127
def aFS:((jw 8).all λa=>(zg 7 8 0).contains a)=ak/\fw 7 8 0=0:=by decide+kernel
def aAH:((jw 32).all λa=>(zg 31 32 0).contains a)=ak/\fw 31 32 0=0:=by decide+kernel
def Wl:((jw 128).all λa=>(zg 127 128 0).contains a)=ak/\fw 127 128 0=0:=by decide+kernel
variable{m:Nat}
def Nz(hm:oB m){a b:Nat}(ha:a<=m)(hb:b<=m):∃d,d<=m/\fw m d a=b:=by
 obtain⟨o,z⟩:((jw (m+1)).all λa=>(zg m (m+1) 0).contains a)=ak/\fw m (m+1) 0=0:=by
  rcases hm with rfl|rfl|rfl
  .exact aFS
  .exact aAH
  .exact Wl
 have f:∀a,a<=m->∃p,p<m+1/\fw m p 0=a:=λa ha=>by
  have:=jl.mp o a (ou.mpr ⋯);exact NA _ _ _ (by simpa using this)
 let⟨p,hp,ep⟩:=f a ha;let⟨q,hq,eq⟩:=f b hb;by_cases c:p<=q
 .refine⟨q - p,⋯,?_⟩;rw[←ep,←EA,show p+(q - p)=q by omega];exact eq
 .refine⟨q+(m+1) - p,⋯,?_⟩;rw[←ep,←EA,show p+(q+(m+1) - p)=m+1+q by omega,EA,z];exact eq
variable{h:Int}
def Mv:∀k,(m6 m h k).1<=m
 |0=>E9 (z0 _ (Nat.succ_pos _))
 |k+1=>E9 (z0 _ (Nat.succ_pos _))
def cover(hm:oB m)(h:Int)(hj:j<=m):∃n,n<10*(m+14)/\(sq m h n).j=j:=by
 let⟨d,hd,e⟩:=Nz hm (Mv (m:=m) (h:=h) 13) hj;let⟨n,hn,e2⟩:=Mw (m:=m) (h:=h) (13+d);refine⟨n,⋯,?_⟩;rw[e2];show(m6 m h (13+d)).1=j;rw[Hl];exact e
def Ny{m:Nat}{h:Int}:∀k,(sq m h k).dummy=bh
 |0=>rfl
 |k+1=>by
  show(ik m (sq m h k)).dummy=bh;unfold ik;split<;>exact Ny k
def Nx{i:Nat}(h:i<=m):runEnd m i<=m:=by unfold runEnd;split<;>omega
def Hk{m:Nat}{h:Int}:∀k,(sq m h k).j+(sq m h k).more<=m
 |0=>by
  have h1:bits h%(m+1)<=m:=E9 (z0 _ (Nat.succ_pos _));have:=Nx h1;show bits h%(m+1)+(runEnd m (bits h%(m+1)) - bits h%(m+1))<=m;omega
 |k+1=>by
  have ih:=Hk (m:=m) (h:=h) k;show(ik m (sq m h k)).j+(ik m (sq m h k)).more<=m;unfold ik;split
  ·dsimp only;omega
  .have h1:(leap m (sq m h k).i (sq m h k).perturb).1<=m:=E9 (z0 _ (Nat.succ_pos _));have:=Nx h1;dsimp only;omega
def IB{α:Type}[DecidableEq α]:∀{xs ys:List α},xs.Nodup->(∀x∈xs,x∈ys)->xs.length<=ys.length
 |[],_,_,_=>ud _
 |x::xs,ys,nd,h=>by
  let⟨n1,n2⟩:=tu.mp nd;have hx:=h x (.head _);have:=IB (ys:=ys.erase x) n2 λz hz=>(List.mem_erase_of_ne (show z≠x from λe=>n1 (e ▸ hz))).mpr (h z (.tail _ hz));rw[List.length_erase_of_mem hx]at this;have:=List.length_pos_of_mem hx;rw[uw];omega
variable{n:Nat}
def least{P:Nat->Prop}(h:P n):∃k,k<=n/\P k/\∀i,i<k->¬ P i:=by
 induction n using Nat.strongRecOn with
 |_ n ih =>
  by_cases c:∃i,i<n/\P i
  .obtain⟨i,hi,pi⟩:=c;let⟨k,h1,h2,h3⟩:=ih i hi pi;exact⟨k,⋯,h2,h3⟩
  .exact⟨n,dz _,h,λi hi pi=>c ⟨i,hi,pi⟩⟩
abbrev Lv(t:SetTable)(j:Nat):Prop:=∃i:Nat,t.place[i]?=aj j
structure kU(t:SetTable)(hs:Nat->Int):Prop where
 ok:J2 t
 ms:oB t.mask
 fl:t.place.size<=t.mask
 pa:∀(i j:Nat),t.place[i]?=aj j->∃k,(sq t.mask (hs i) k).j=j/\∀k',k'<k->Lv t (sq t.mask (hs i) k').j
def kU.free{t:SetTable}(v:kU t hs)(h:Int):∃k,k<10*(t.mask+14)/\¬ Lv t (sq t.mask h k).j/\∀k',k'<k->Lv t (sq t.mask h k').j:=by
 have:∃j,j<=t.mask/\¬ Lv t j:=by
  apply Classical.byContradiction;intro c
  have all:∀j∈jw (t.mask+1),j∈t.place.toList:=λj hj=>by
   apply Classical.byContradiction;intro n;refine c ⟨j,by have:=ou.mp hj;omega,λ⟨i,e⟩=>n ?_⟩;rw[←jt]at e;exact qd e
  have:=IB E6 all;rw[List.length_range,jg]at this;have:=v.fl;omega
 let⟨j,hj,nl⟩:=this;let⟨n,hn,e⟩:=cover v.ms h hj;let⟨k,h1,h2,h3⟩:=least (P:=λk=>¬ Lv t (sq t.mask h k).j) (n:=n) (by rw[e];exact nl);exact⟨k,⋯,h2,λi hi=>Classical.byContradiction (h3 i hi)⟩
def Mu{t:SetTable}{hs:Nat->Int}(v:kU t hs){h:Int}{ke:Nat}(he:¬ Lv t (sq t.mask h ke).j)(hl:∀k',k'<ke->Lv t (sq t.mask h k').j):∀(f k:Nat),k<=ke->ke - k<f ->
  (probe.go t hs h f (sq t.mask h k)=aj (.empty (sq t.mask h ke).j bh)/\∀k' i,k<=k'->k'<ke->t.place[i]?=aj (sq t.mask h k').j->hs i≠h) ∨
  ∃k' i,k<=k'/\k'<ke/\t.place[i]?=aj (sq t.mask h k').j/\hs i=h/\probe.go t hs h f (sq t.mask h k)=aj (.candidate (sq t.mask h k').j i (sq t.mask h (k'+1)))/\∀k2 i2,k<=k2->k2<k'->t.place[i2]?=aj (sq t.mask h k2).j->hs i2≠h
 |0,k,h1,h2=>by omega
 |f+1,k,h1,h2=>by
  unfold probe.go;rcases slot_of v.ok (j:=(sq t.mask h k).j)with⟨i,e1,e2⟩|⟨e1,e2⟩
  .rw[e1]
   have kl:k<ke:=by
    rcases B2 k ke with c|c
    .exact c
    .have:k=ke:=by omega
     subst this;exact absurd ⟨i,e2⟩ he
   have uq:∀i2:Nat,t.place[i2]?=aj (sq t.mask h k).j->i2=i:=λi2 e3=>by
    have a:=below_at v.ok.ri e2;have b:=below_at v.ok.ri e3;omega
   dsimp only;by_cases c:hs i=h
   .right;refine⟨k,i,dz _,kl,e2,c,?_,λk2 i2 a b=>by omega⟩;rw[if_pos (by simpa using c),NB];rfl
   .rw[if_neg (by simpa using c),NB];have ih:=Mu v he hl f (k+1) ⋯ ⋯;rcases ih with⟨g1,g2⟩|⟨k',i',g1,g2,g3,g4,g5,g6⟩
    .refine .inl ⟨g1,λk2 i2 a b e3=>?_⟩;by_cases z:k2=k
     .subst z;rw[uq i2 e3];exact c
     .exact g2 k2 i2 ⋯ b e3
    .refine .inr ⟨k',i',⋯,g2,g3,g4,g5,λk2 i2 a b e3=>?_⟩;by_cases z:k2=k
     .subst z;rw[uq i2 e3];exact c
     .exact g6 k2 i2 ⋯ b e3
  .rw[e1];left
   have:k=ke:=by
    rcases B2 k ke with c|c
    .obtain⟨i,e⟩:=hl k c;exact absurd e (e2 i)
    .omega
   subst this;dsimp only;rw[Ny];exact⟨rfl,λk' i a b=>by omega⟩
def Nw{α:Type}(xs:Array α)(p:Nat)(x:α)(hp:p<=xs.size)(i:Nat):(insertAt xs p x)[i]?=if i<p then xs[i]? else if i=p then aj x else xs[i - 1]?:=by
 unfold insertAt;rw[←jt];simp only[Array.toList_append,Array.toList_push,Array.toList_extract,List.extract_eq_take_drop];rw[List.getElem?_append,List.getElem?_append];simp only[yj,Ce,List.length_drop,jg,List.length_singleton,List.drop_zero,Nat.sub_zero];by_cases c:i<p
 .rw[if_pos ⋯,if_pos ⋯,if_pos c,List.getElem?_take_of_lt c,jt]
 .rw[if_neg c];by_cases d:i=p
  .subst d;rw[if_pos ⋯,if_neg ⋯,if_pos rfl];simp[B9 hp]
  .rw[if_neg ⋯,if_neg d];rw[List.getElem?_take];by_cases e:i - 1<xs.size
   .rw[if_pos ⋯,List.getElem?_drop,jt];congr 1;omega
   .rw[wu ⋯];split
    ·rw[List.getElem?_drop,jt,wu ⋯]
    .rfl
private theorem kU.put{t:SetTable}{hs:Nat->Int}(v:kU t hs){h:Int}{k:Nat}(he:¬ Lv t (sq t.mask h k).j)(hl:∀k',k'<k->Lv t (sq t.mask h k').j)(hf:t.place.size+1<=t.mask)(d3:Nat->Int)
  (e1:∀i,i<below t.place (sq t.mask h k).j->d3 i=hs i)(e2:d3 (below t.place (sq t.mask h k).j)=h)(e3:∀i,below t.place (sq t.mask h k).j<=i->d3 (i+1)=hs i)(pl:Bool) :
  kU {(t.put (sq t.mask h k).j).1 with plain:=pl} d3/\(t.put (sq t.mask h k).j).2=below t.place (sq t.mask h k).j/\((t.put (sq t.mask h k).j).1).place.size=t.place.size+1:=by
 let⟨b1,b2,b3⟩:=uO v.ok.ri (sq t.mask h k).j;have hd:has t.dummies (sq t.mask h k).j=ao:=by rw[v.ok.du];unfold has;simp
 generalize hp:below t.place (sq t.mask h k).j=p at b1 b2 b3 e1 e2 e3
 have ep:(t.put (sq t.mask h k).j).1={t with place:=insertAt t.place p (sq t.mask h k).j}:=by
  unfold SetTable.put;dsimp only;rw[hd,hp];rfl
 have at_:=Nw t.place p (sq t.mask h k).j b1
 have sz:(insertAt t.place p (sq t.mask h k).j).size=t.place.size+1:=by
  unfold insertAt;simp;omega
 have old:∀j,Lv t j->∃i:Nat,(insertAt t.place p (sq t.mask h k).j)[i]?=aj j:=λj ⟨i,e⟩=>by
  by_cases c:i<p
  .exact⟨i,by rw[at_,if_pos c];exact e⟩
  .exact⟨i+1,by rw[at_,if_neg ⋯,if_neg ⋯];exact e⟩
 refine⟨?_,by unfold SetTable.put;exact hp,by rw[ep];exact sz⟩;rw[ep];refine⟨⟨λi j a b mh ea eb=>?_,λi a ea=>?_,v.ok.du⟩,v.ms,by show(insertAt t.place p (sq t.mask h k).j).size<=t.mask;rw[sz];exact hf,λi j ea=>?_⟩
 .have ea:(insertAt t.place p (sq t.mask h k).j)[i]?=aj a:=ea;have eb:(insertAt t.place p (sq t.mask h k).j)[j]?=aj b:=eb;rw[at_]at ea eb;by_cases c1:j<p
  .rw[if_pos ⋯]at ea;rw[if_pos c1]at eb;exact v.ok.ri i j a b mh ea eb
  .rw[if_neg c1]at eb;by_cases c2:j=p
   .rw[if_pos c2]at eb;rw[if_pos ⋯]at ea;cases eb;exact b2 i a ⋯ ea
   .rw[if_neg c2]at eb;by_cases c3:i<p
    .rw[if_pos c3]at ea;exact v.ok.ri i (j - 1) a b ⋯ ea eb
    .rw[if_neg c3]at ea;by_cases c4:i=p
     .rw[if_pos c4]at ea;cases ea;have h1:=b3 (j - 1) b ⋯ eb;rcases Nat.lt_or_eq_of_le h1 with z|z
      .exact z
      .exact absurd ⟨j - 1,by rw[z];exact eb⟩ he
     .rw[if_neg c4]at ea;exact v.ok.ri (i - 1) (j - 1) a b ⋯ ea eb
 .have ea:(insertAt t.place p (sq t.mask h k).j)[i]?=aj a:=ea;rw[at_]at ea;split at ea
  .exact v.ok.le i a ea
  .split at ea
   .cases ea;have:=Hk (m:=t.mask) (h:=h) k;show(sq t.mask h k).j<=t.mask;omega
   .exact v.ok.le _ a ea
 .have ea:(insertAt t.place p (sq t.mask h k).j)[i]?=aj j:=ea;rw[at_]at ea;split at ea
  .rename_i c;rw[e1 i c];let⟨q,g1,g2⟩:=v.pa i j ea;exact⟨q,g1,λk' hk=>old _ (g2 k' hk)⟩
  .split at ea
   .rename_i c d;cases ea;rw[d,e2];exact⟨k,rfl,λk' hk=>old _ (hl k' hk)⟩
   .rename_i c d;let⟨q,g1,g2⟩:=v.pa (i - 1) j ea;have:=e3 (i - 1) ⋯;rw[show i - 1+1=i by omega]at this;rw[this];exact⟨q,g1,λk' hk=>old _ (g2 k' hk)⟩
@[simp]def p9(m:Nat)(h:Int)(r:Nat):Nat:=runEnd m (m6 m h r).1 - (m6 m h r).1
abbrev fc(m:Nat)(h:Int):Nat->Nat
 |0=>0
 |r+1=>fc m h r+p9 m h r+1
def Mt{m:Nat}{h:Int}:∀r,sq m h (fc m h r)=Ed m (m6 m h r)
 |0=>rfl
 |r+1=>by
  show ik m (sq m h (fc m h r+p9 m h r))=_;rw[EB (Mt r) _ (dz _)];unfold ik;rw[if_neg (show ¬ runEnd m (m6 m h r).1 - (m6 m h r).1 - (runEnd m (m6 m h r).1 - (m6 m h r).1)>0 by omega)];rfl
def Hj{r d:Nat}(hd:d<=p9 m h r):(sq m h (fc m h r+d)).j=(m6 m h r).1+d:=by rw[EB (Mt r) d hd]
def PR{m:Nat}{h:Int}:∀(r q:Nat),q<fc m h r->∃r' d,r'<r/\d<=p9 m h r'/\q=fc m h r'+d
 |0,q,hq=>by have:q<0:=hq;omega
 |r+1,q,hq=>by
  have hq:q<fc m h r+p9 m h r+1:=hq;by_cases c:q<fc m h r
  .obtain⟨r',d,a,b,e⟩:=PR r q c;exact⟨r',d,⋯,b,e⟩
  .exact⟨r,q - fc m h r,⋯,⋯,⋯⟩
abbrev Oc(ow:Array (Option Nat))(j:Nat):Prop:=(ow.getD j (aj 0)).isNone=ao
def OO{m:Nat}{h:Int}:∀(f r:Nat),(∀r' d,r'<r->d<=p9 m h r'->Oc ow ((m6 m h r').1+d))->(∃r',r<=r'/\r'<r+f/\¬ Oc ow (m6 m h r').1) ->
  ∃q,layClean.free m ow f (m6 m h r).1 (m6 m h r).2=aj (sq m h q).j/\¬ Oc ow (sq m h q).j/\∀q',q'<q->Oc ow (sq m h q').j
 |0,r,_,⟨r',a,b,_⟩=>by omega
 |f+1,r,hr,⟨r',a,b,c⟩=>by
  unfold layClean.free;cases hf:(jw (runEnd m (m6 m h r).1+1 - (m6 m h r).1)).find? λk=>(ow.getD ((m6 m h r).1+k) (aj 0)).isNone with
  |some k =>
   let⟨e1,as,bs,e2,e3⟩:=List.find?_eq_some_iff_append.mp hf;have hk:k∈jw (runEnd m (m6 m h r).1+1 - (m6 m h r).1):=by rw[e2];simp
   have hk:=ou.mp hk;have F9:k<=p9 m h r:=by show k<=runEnd m (m6 m h r).1 - (m6 m h r).1;omega
   have eq:=Hj (m:=m) (h:=h) F9;refine⟨fc m h r+k,by rw[eq],by rw[eq];unfold Oc;simpa using e1,λq' hq=>?_⟩;by_cases c1:q'<fc m h r
   .obtain⟨r2,d,g1,g2,g3⟩:=PR r q' c1;rw[g3,Hj g2];exact hr r2 d g1 g2
   .have hd:q' - fc m h r<k:=by omega
    have ed:q'=fc m h r+(q' - fc m h r):=by omega
    rw[ed,Hj ⋯]
    have hm:q' - fc m h r∈as:=by
     have e4:(jw (runEnd m (m6 m h r).1+1 - (m6 m h r).1))[q' - fc m h r]?=aj (q' - fc m h r):=by rw[Fd ⋯]
     have e5:as.length=k:=by
      have:=congrArg (·[as.length]?) e2;simp only[yt (dz _),Nat.sub_self,zp]at this
      have hl:as.length<runEnd m (m6 m h r).1+1 - (m6 m h r).1:=by
       have:=congrArg pf e2;simp at this;omega
      rw[Fd hl]at this;exact jk.inj this
     rw[e2,Cq ⋯]at e4;exact qd e4
    have:=e3 _ hm;unfold Oc;simpa using this
  |none =>
   have hn:=List.find?_eq_none.mp hf
   have full:∀d,d<=p9 m h r->Oc ow ((m6 m h r).1+d):=λd hd=>by
    have:(m6 m h r).1<=runEnd m (m6 m h r).1:=by unfold runEnd;split<;>omega
    have hd:d<=runEnd m (m6 m h r).1 - (m6 m h r).1:=hd;have:=hn d (ou.mpr ⋯);unfold Oc;exact Bool.eq_false_iff.mpr this
   have ne:r'≠r:=λe=>c (by rw[e];exact full 0 (ud _))
   exact OO f (r+1) (λr2 d g1 g2=>by
    by_cases z:r2=r
    .subst z;exact full d g2
    .exact hr r2 d ⋯ g2) ⟨r',⋯,⋯,c⟩
structure Own(m:Nat)(hs:Nat->Int)(k:Nat)(ow:Array (Option Nat)):Prop where
 sz:ow.size=m+1
 lt:∀(j x:Nat),ow[j]?=aj (aj x)->x<k
 ex:∀x,x<k->∃j:Nat,ow[j]?=aj (aj x)
 uq:∀(i j x:Nat),ow[i]?=aj (aj x)->ow[j]?=aj (aj x)->i=j
 pa:∀(j x:Nat),ow[j]?=aj (aj x)->∃q,(sq m (hs x) q).j=j/\∀q',q'<q->∃y:Nat,ow[(sq m (hs x) q').j]?=aj (aj y)
def Hi{ow:Array (Option Nat)}(hj:j<ow.size):Oc ow j↔∃y:Nat,ow[j]?=aj (aj y):=by
 unfold Oc;rw[gw hj];simp only[k7,hj,dite_true];show(ow[j]).isNone=ao↔_;cases e:ow[j]with
 |none=>simp
 |some y=>simp
def Wj{k:Nat}{f:Nat->Nat}(h:∀i j,i<n->j<n->f i=f j->i=j)(hl:∀i,i<n->f i<k):n<=k:=by
 have nd:((jw n).map f).Nodup:=by
  unfold List.Nodup;rw[uc];exact pb.imp_of_mem (λha hb ne e=>ne (h _ _ (ou.mp ha) (ou.mp hb) e)) E6
 have:=IB (ys:=jw k) nd λx hx=>by
  let⟨i,hi,rfl⟩:=gk.mp hx;exact ou.mpr (hl i (ou.mp hi))
 simpa using this
variable{hs:Nat->Int}
def X5(hm:oB m){k:Nat}(o:Own m hs k ow)(hk:k<=m)(h:Int) :
  ∃q,layClean.free m ow (turns m) (bits h%(m+1)) (bits h)=aj (sq m h q).j/\¬ Oc ow (sq m h q).j/\∀q',q'<q->Oc ow (sq m h q').j:=by
 have:∃j,j<=m/\¬ Oc ow j:=by
  apply Classical.byContradiction;intro c;have own:∀j,j<=m->∃y:Nat,ow[j]?=aj (aj y):=λj hj=>(Hi (by rw[o.sz];omega)).mp (Classical.byContradiction λn=>c ⟨j,hj,n⟩)
  let⟨f,hf⟩:=Classical.axiomOfChoice (r:=λ(j y:Nat)=>j<=m->ow[j]?=aj (aj y)) λj=>by
   by_cases hj:j<=m
   .obtain⟨y,e⟩:=own j hj;exact⟨y,λ_=>e⟩
   .exact⟨0,λz=>absurd z hj⟩
  have:=Wj (n:=m+1) (k:=k) (f:=f) (λi j hi hj e=>o.uq i j (f i) (hf i ⋯) (by rw[e];exact hf j ⋯)) λi hi=>o.lt i _ (hf i ⋯);omega
 let⟨j,hj,nl⟩:=this;let⟨d,hd,e⟩:=Nz hm (Mv (m:=m) (h:=h) 13) hj;refine OO (m:=m) (h:=h) (turns m) 0 (λr' d h1=>absurd h1 (Ca _)) ⟨13+d,ud _,by unfold turns;omega,?_⟩;rw[Hl,e];exact nl
def Wi:Own m hs 0 (Array.replicate (m+1) bh):=by
 have no:∀(j x:Nat),(Array.replicate (m+1) (bh:Option Nat))[j]?≠aj (aj x):=λj x e=>by
  rw[Array.getElem?_replicate]at e;split at e<;>cases e
 exact⟨by simp,λj x e=>absurd e (no j x),λx h=>absurd h (Ca _),λi j x e=>absurd e (no i x),λj x e=>absurd e (no j x)⟩
private theorem Wh{k q:Nat}{ow:Array (Option Nat)}(o:Own m hs k ow)(nf:¬ Oc ow (sq m (hs k) q).j)(all:∀q',q'<q->Oc ow (sq m (hs k) q').j):Own m hs (k+1) (ow.setIfInBounds (sq m (hs k) q).j (aj k)):=by
 have ya:∀h q,(sq m h q).j<ow.size:=λh q=>by have:=Hk (m:=m) (h:=h) q;rw[o.sz];omega
 have free:ow[(sq m (hs k) q).j]?=aj bh:=by
  rw[gw (ya _ _)];cases e:ow[(sq m (hs k) q).j]'(ya _ _)with
  |none=>rfl
  |some y=>exact absurd ((Hi (ya _ _)).mpr ⟨y,by rw[gw (ya _ _),e]⟩) nf
 have at_:∀j:Nat,(ow.setIfInBounds (sq m (hs k) q).j (aj k))[j]?=if(sq m (hs k) q).j=j then aj (aj k)else ow[j]?:=λj=>by
  rw[Array.getElem?_setIfInBounds];split
  ·rw[if_pos (ya _ _)]
  .rfl
 have old:∀(j y:Nat),ow[j]?=aj (aj y)->(ow.setIfInBounds (sq m (hs k) q).j (aj k))[j]?=aj (aj y):=λj y e=>by
  rw[at_,if_neg (λz=>by rw[z,e]at free;cases free)];exact e
 refine⟨by simp[o.sz],λj x e=>?_,λx hx=>?_,λi j x e1 e2=>?_,λj x e=>?_⟩
 .rw[at_]at e;split at e
  .cases e;omega
  .have:=o.lt j x e;omega
 .by_cases c:x=k
  .subst c;exact⟨_,by rw[at_,if_pos rfl]⟩
  .obtain⟨j,e⟩:=o.ex x ⋯;exact⟨j,old j x e⟩
 .rw[at_]at e1 e2;split at e1<;>split at e2
  .omega
  .cases e1;have:=o.lt j k e2;omega
  .cases e2;have:=o.lt i k e1;omega
  .exact o.uq i j x e1 e2
 .rw[at_]at e;split at e
  .rename_i c;cases e;refine⟨q,c,λq' hq=>?_⟩;let⟨y,ey⟩:=(Hi (ya _ _)).mp (all q' hq);exact⟨y,old _ y ey⟩
  .obtain⟨p,g1,g2⟩:=o.pa j x e;refine⟨p,g1,λq' hq=>?_⟩;let⟨y,ey⟩:=g2 q' hq;exact⟨y,old _ y ey⟩
def Nv{m:Nat}(hm:oB m){hs:Nat->Int}:∀(l:List Int)(k:Nat)(ow:Array (Option Nat)),Own m hs k ow->k+l.length<=m->(∀(i:Nat)(h:Int),l[i]?=aj h->hs (k+i)=h) ->
  ∃C9,(l.foldl (λacc h=>do
   let(owner,k) ←acc
   let j ←layClean.free m owner (turns m) (bits h%(m+1)) (bits h)
   pure (owner.setIfInBounds j (aj k),k+1)) (aj (ow,k)))=aj (C9,k+l.length)/\Own m hs (k+l.length) C9
 |[],k,ow,o,_,_=>⟨ow,rfl,o⟩
 |h::l,k,ow,o,hl,he=>by
  have hk:hs k=h:=he 0 h rfl;have A8:k+(l.length+1)<=m:=hl;let⟨q,e,nf,all⟩:=X5 hm o ⋯ h;have o2:=Wh (q:=q) o (by rw[hk];exact nf) (by rw[hk];exact all)
  let⟨C9,e2,o3⟩:=Nv hm l (k+1) _ o2 ⋯ λi x ei=>by
   have:=he (i+1) x ei;rw[←this];congr 1;omega
  rw[hk]at e2;refine⟨C9,?_,by rw[uw];rw[show k+(l.length+1)=k+1+l.length by omega];exact o3⟩;rw[List.foldl_cons,uw,show k+(l.length+1)=k+1+l.length by omega,←e2];congr 1;show(do let j ←layClean.free m ow (turns m) (bits h%(m+1)) (bits h);pure (ow.setIfInBounds j (aj k),k+1))=_;rw[e];rfl
def Wg(hm:oB m){f mo:Nat}{led pl:Bool}{hashes:Array Int}(hn:hashes.size<=m):∃t order,laid m f mo led pl hashes=aj (t,order)/\t.mask=m/\t.led=led/\t.plain=pl/\t.moves=mo/\t.place.size=hashes.size/\order.toList.Perm (jw hashes.size) /\
  kU t (λi=>(hashes[(order[i]?).getD 0]?).getD 0):=by
 let⟨ow,e,o⟩:=Nv hm (hs:=λi=>(hashes[i]?).getD 0) hashes.toList 0 _ Wi (by rw[B3,jg];exact hn) λi h ei=>by
  rw[jt]at ei;rw[B3,ei];rfl
 rw[B3,jg]at e o
 have el:layClean m hashes=aj ow:=by
  unfold layClean;rw[←Array.foldl_toList,e];rfl
 let L:List (Nat×Nat):=(jw (m+1)).filterMap λj=>(ow.getD j bh).map (j,·)
 have hL:L=(jw (m+1)).filterMap λj=>(ow.getD j bh).map (j,·):=rfl
 have mem:∀j x,(j,x)∈L↔ow[j]?=aj (aj x):=λj x=>by
  rw[hL,Cm];constructor
  .rintro⟨a,ha,ea⟩;let⟨y,ey,ep⟩:=uf.mp ea;cases ep;have hj:j<ow.size:=by rw[o.sz];exact ou.mp ha
   simp only[k7,hj,dite_true]at ey;rw[gw hj];exact congrArg aj ey
  .intro ej;have hj:j<ow.size:=(qz.mp ej).1;refine⟨j,ou.mpr (by rw[←o.sz];exact hj),?_⟩;rw[gw hj]at ej;simp only[k7,hj,dite_true];have ej:ow[j]=aj x:=jk.inj ej;show(ow[j]).map (j,·)=_;rw[ej];rfl
 have up:L.Pairwise λa b=>a.1<b.1:=by
  rw[hL];refine pb.filterMap _ (λa a' h b hb b' Dy=>?_) List.pairwise_lt_range;let⟨_,_,rfl⟩:=uf.mp hb;let⟨_,_,rfl⟩:=uf.mp Dy;exact h
 have nd:(L.map (·.2)).Nodup:=by
  unfold List.Nodup;rw[uc];refine up.imp_of_mem λ{a b} ha hb lt e=>?_;have h1:=(mem a.1 a.2).mp ha;have h2:=(mem b.1 b.2).mp hb;rw[←e]at h2;have:=o.uq _ _ _ h1 h2;omega
 have pm:(L.map (·.2)).Perm (jw hashes.size):=(List.perm_ext_iff_of_nodup nd E6).mpr λx=>by
  constructor
  .intro hx;let⟨⟨j,y⟩,hy,rfl⟩:=gk.mp hx;exact ou.mpr (o.lt j y ((mem j y).mp hy))
  .intro hx;let⟨j,ej⟩:=o.ex x (ou.mp hx);exact gk.mpr ⟨(j,x),(mem j x).mpr ej,rfl⟩
 have len:L.length=hashes.size:=by have:=pm.length_eq;simpa using this
 refine⟨⟨m,(L.map (·.1)).toArray,#[],f,led,mo,pl⟩,(L.map (·.2)).toArray,?_,rfl,rfl,rfl,rfl,by simp[len],by simpa using pm,⟨⟨λi j a b mh ea eb=>?_,λi a ea=>?_,rfl⟩,hm,by simp[len];exact hn,λi j ea=>?_⟩⟩
 .unfold laid;rw[el];rfl
 .simp only[Co,kh]at ea eb;let⟨⟨a1,a2⟩,e1,rfl⟩:=uf.mp ea;let⟨⟨b1,b2⟩,e2,rfl⟩:=uf.mp eb;let⟨hi,e1⟩:=jd.mp e1;let⟨hj,e2⟩:=jd.mp e2;have:=wj.mp up i j hi hj mh;rw[e1,e2]at this;exact this
 .simp only[Co,kh]at ea;let⟨⟨a1,a2⟩,e1,rfl⟩:=uf.mp ea;have:=(qz.mp ((mem a1 a2).mp (qd e1))).1;rw[o.sz]at this;show a1<=m;omega
 .simp only[Co,kh]at ea;let⟨⟨a1,a2⟩,e1,rfl⟩:=uf.mp ea;let⟨q,g1,g2⟩:=o.pa a1 a2 ((mem a1 a2).mp (qd e1));have eo:((L.map (·.2)).toArray[i]?).getD 0=a2:=by rw[Co,kh,e1];rfl
  dsimp only;rw[eo];refine⟨q,g1,λq' hq=>?_⟩;let⟨y,ey⟩:=g2 q' hq;let⟨i',d6⟩:=JK.mp ((mem _ _).mpr ey);exact⟨i',by simp only[Co,kh];rw[d6];rfl⟩
def X4{t:SetTable}{es:Array (Int×au)}{wanted:Nat}(hm:oB (sizeAbove wanted - 1))(hn:es.size<=sizeAbove wanted - 1):∃t' order,t.relaid (es.map (·.1)) wanted=aj (t',order)/\(order.filterMap (es[·]?)).size=es.size/\(order.filterMap (es[·]?)).toList.Perm es.toList /\
  t'.mask=sizeAbove wanted - 1/\t'.led=t.led/\t'.plain=t.plain/\t'.place.size=es.size/\kU t' (λi=>(((order.filterMap (es[·]?))[i]?).map (·.1)).getD 0):=by
 let⟨t',order,e,e1,e2,e3,e4,e5,pm,v⟩:=Wg hm (f:=t.finger) (mo:=t.movedTo (sizeAbove wanted - 1)) (led:=t.led) (pl:=t.plain) (hashes:=es.map (·.1)) (by simpa using hn);rw[Array.size_map]at e5 pm;have inr:∀x∈order.toList,x<es.size:=λx hx=>ou.mp (pm.mem_iff.mp hx)
 have el:(order.filterMap (es[·]?)).toList=order.toList.map λx=>(es[x]?).getD default:=by
  rw[Array.toList_filterMap]
  have:∀l:List Nat,(∀x∈l,x<es.size)->l.filterMap (es[·]?)=l.map λx=>(es[x]?).getD default:=λl=>by
   induction l with
   |nil=>intro _;rfl
   |cons a r ih =>
    intro h;have ha:a<es.size:=h a (.head _);rw[Ff,iw,←ih λx hx=>h x (.tail _ hx)];rw[gw ha];rfl
  exact this _ inr
 have pe:(order.filterMap (es[·]?)).toList.Perm es.toList:=by
  rw[el];refine(pm.map _).trans ?_
  have:(jw es.size).map (λx=>(es[x]?).getD default)=es.toList:=by
   apply List.ext_getElem
   .simp
   .intro i h1 h2;simp at h1;simp[h1]
  rw[this]
 have sz:(order.filterMap (es[·]?)).size=es.size:=by have:=pe.length_eq;rwa [jg,jg]at this
 refine⟨t',order,e,sz,pe,e1,e2,e3,e5,?_⟩
 have eh:∀i,i<es.size->((es.map (·.1))[(order[i]?).getD 0]?).getD 0=(((order.filterMap (es[·]?))[i]?).map (·.1)).getD 0:=λi hi=>by
  have ol:order.size=es.size:=by have:=pm.length_eq;simpa using this
  have h1:(order.filterMap (es[·]?))[i]?=aj ((es[order[i]'⋯]?).getD default):=by
   rw[←jt,el,kh,jt,gw ⋯];rfl
  have h2:order[i]'⋯<es.size:=inr _ (Array.getElem_mem_toList ⋯);rw[h1,gw (show i<order.size by omega)];simp[gw h2]
 refine⟨v.ok,v.ms,v.fl,λi j ea=>?_⟩;have hi:i<es.size:=by rw[←e5];exact(qz.mp ea).1
 have:=v.pa i j ea;rw[eh i hi]at this;exact this
end L2
namespace L2
open PySem PySem.SetTable
variable{Q:Bool->cu->Prop}
section
variable{prog:kj}{w:jj}{K:Type}[DecidableEq K]{knd:KeyKind prog w K}{A:mq}{E:au->cu->Prop}{s:cu}
abbrev b6(h:ju)(b:bw):Prop:=∃o items n,h.get? b=aj o/\o.cls=.type "tuple"/\o.data=.seq items n/\∀v∈items.toList,∃i t,v=au.int i t
def YU{b:bw}(hk:b6 s.heap b)(h:Q ak s):dj (fj prog w) A (hashByValue 8 (.ref b)) Q E s:=by
 let⟨o,items,n,ho,hc,hd,hi⟩:=hk;have hT:s.TypeIs (.ref b) "tuple":=⟨o,ho,hc⟩;unfold hashByValue;refine aq (wpAny_specialOf hT F.slot_tuple_hash.lookup ?_);dsimp only;refine aq (w8 ho hd ?_);refine aq ?_;show dj _ _ (forIn items _ _) _ _ s;rw[←Cj];refine wpAny_forIn_list _ (λrest r s'=>r.1=bh/\s'=s/\∀v∈rest,∃i t,v=au.int i t) _ ?_ ?_ _ _ ⟨rfl,rfl,hi⟩
 .rintro v rest r s' ⟨hr,rfl,ba⟩;let⟨i,t,rfl⟩:=ba v wk;refine aq (show dj _ _ (pure ak) _ _ _ from cg ?_);simp only[vm,jf,if_false];exact cg ⟨rfl,rfl,λu ie=>ba u (qu _ ie)⟩
 .rintro⟨r1,r2⟩ s' ⟨hr,rfl,_⟩;simp only at hr;subst hr;exact cg h
def QK{b:bw}(hk:b6 s.heap b)(h:Q ao s):dj (fj prog w) A (ofAClassStatement 8 (.ref b)) Q E s:=by
 let⟨o,items,n,ho,hc,hd,hi⟩:=hk;have hT:s.TypeIs (.ref b) "tuple":=⟨o,ho,hc⟩;unfold ofAClassStatement;refine aq (wpAny_typeOf hT ?_);dsimp only;refine aq (show dj _ _ (pure ak) _ _ _ from cg ?_);simp only[vm,jf,if_false];refine aq (w8 ho hd ?_);dsimp only;refine aq ?_;show dj _ _ (forIn items _ _) _ _ s;rw[←Cj];refine wpAny_forIn_list _ (λrest r s'=>r.1=bh/\s'=s/\∀v∈rest,∃i t,v=au.int i t) _ ?_ ?_ _ _ ⟨rfl,rfl,hi⟩
 .rintro v rest r s' ⟨hr,rfl,ba⟩;let⟨i,t,rfl⟩:=ba v wk;refine aq (show dj _ _ (pure ao) _ _ _ from cg ?_);simp only[jf,if_false];exact cg ⟨rfl,rfl,λu ie=>ba u (qu _ ie)⟩
 .rintro⟨r1,r2⟩ s' ⟨hr,rfl,_⟩;simp only at hr;subst hr;exact cg h
abbrev qA(knd:KeyKind prog w K)(z:List K×bw):Int×au:=(tupleKeyHash knd z.1,.ref z.2)
abbrev lV(knd:KeyKind prog w K)(h:ju)(zs:List (List K×bw)):Prop:=∀z∈zs,IsTupleKey knd h z.1 z.2/\b6 h z.2
def Wf{x:List K×bw}{zs:List (List K×bw)}(hx:IsTupleKey knd s.heap x.1 x.2/\b6 s.heap x.2)(hz:lV knd s.heap zs)(h:Q ao s):dj (fj prog w) A (searchCouldBeSeen (.ref x.2) (zs.map λz=>.ref z.2)) Q E s:=by
 unfold searchCouldBeSeen;refine aq ?_;refine wpAny_forIn_list _ (λrest r s'=>r.1=bh/\s'=s/\∃ys,rest=ys.map (λz:List K×bw=>au.ref z.2)/\lV knd s.heap ys) _ ?_ ?_ _ _ ⟨rfl,rfl,zs,rfl,hz⟩
 .rintro v rest r s' ⟨hr,rfl,ys,hy,hg⟩;cases ys with
  |nil=>cases hy
  |cons y ys =>
   rw[iw]at hy;injection hy with h1 h2;subst h1;have gy:=hg y (.head _);have gr:lV knd s'.heap ys:=λz hz=>hg z (.tail _ hz);dsimp only;split
   ·exact cg ⟨rfl,rfl,ys,h2,gr⟩
   .refine aq (wpAny_eqIsQuiet_tuple hx.1 ?_);simp only[vm,jf,if_false];refine aq (wpAny_eqIsQuiet_tuple gy.1 ?_);simp only[vm,jf,if_false];refine aq (QK hx.2 ?_);simp only[jf,if_false];refine aq (QK gy.2 ?_);simp only[jf,if_false];exact cg ⟨rfl,rfl,ys,h2,gr⟩
 .rintro⟨r1,r2⟩ s' ⟨hr,rfl,_⟩;simp only at hr;subst hr;exact cg h
structure Az(knd:KeyKind prog w K)(h:ju)(a:bw)(o:Obj)(es:Array (Int×au))(ep:Nat)(t:SetTable)(zs:List (List K×bw)):Prop where
 ho:h.get? a=aj o
 hx:o.ExactSet
 hd:o.data=.set es ep t
 he:es.toList=zs.map (qA knd)
 nd:(zs.map (·.1)).Nodup
 gd:lV knd h zs
 tv:kU t (λi=>((es[i]?).map (·.1)).getD 0)
 ps:t.place.size=es.size
 pl:t.plain=ak
 fu:es.size*5<t.mask*3
 ld:t.led=!w.params.followText "set-order"
def Az.fits{es:Array (Int×au)}{ep:Nat}{t:SetTable}(S:Az knd h a o es ep t zs):t.fits es.size=ak:=by
 unfold SetTable.fits SetTable.fill;rw[S.tv.ok.du,S.ps];have:=S.fu;simp;omega
def aAI{m:Nat}(h:oB m):(m%2==0)=ao:=by rcases h with rfl|rfl|rfl<;>rfl
private theorem QJ{ep:Nat}{t:SetTable}{zs:List (List K×bw)}{x:List K×bw}{Q:SetFound->cu->Prop}(hu:A.units+1<qg)(S:Az knd s.heap a o es ep t zs)(hx:IsTupleKey knd s.heap x.1 x.2/\b6 s.heap x.2){ke:Nat}
  (he:¬ Lv t (sq t.mask (tupleKeyHash knd x.1) ke).j)(hl:∀k',k'<ke->Lv t (sq t.mask (tupleKeyHash knd x.1) k').j)(hb:ke<10*(t.mask+14))(dE:x.1∈zs.map (·.1)->Q (.there bh) s)(iX:x.1∉zs.map (·.1)->Q (.free (sq t.mask (tupleKeyHash knd x.1) ke).j ao) s) :
  ∀(f k:Nat)(st:Option Probe),st.getD (t.probeStart (tupleKeyHash knd x.1))=sq t.mask (tupleKeyHash knd x.1) k->k<=ke->ke - k<f->(∀(k' i:Nat)(e:List K×bw),k'<k->t.place[i]?=aj (sq t.mask (tupleKeyHash knd x.1) k').j->zs[i]?=aj e->e.1≠x.1) ->
   dj (fj prog w) A (setSearchFrom a (.ref x.2) (tupleKeyHash knd x.1) ak f st) Q E s
 |0,k,st,e0,h1,h2,h3=>by omega
 |f+1,k,st,e0,h1,h2,h3=>by
  unfold setSearchFrom;refine aq (wpAny_setState_of S.ho S.hd S.fits ?_);dsimp only;rw[show t.gaveWay=ao from aAI S.tv.ms];simp only[jf,if_false];rw[e0];have tm:ke - k<10*turns t.mask:=by unfold turns;omega
  have at_:∀i:Nat,es[i]?=(zs[i]?).map (qA knd):=λi=>by rw[←jt,S.he,kh]
  have wh:∀z,z∈zs->∃i k',zs[i]?=aj z/\t.place[i]?=aj (sq t.mask (tupleKeyHash knd z.1) k').j/\∀k2,k2<k'->Lv t (sq t.mask (tupleKeyHash knd z.1) k2).j:=λz hz=>by
   let⟨i,hi⟩:=JK.mp hz
   have d5:i<t.place.size:=by
    rw[S.ps,←jg,S.he,dw];exact(jd.mp hi).1
   let⟨q,g1,g2⟩:=S.tv.pa i _ (gw d5);have eh:((es[i]?).map (·.1)).getD 0=tupleKeyHash knd z.1:=by rw[at_,hi];rfl
   rw[eh]at g1 g2;exact⟨i,q,hi,by rw[g1];exact gw d5,g2⟩
  rcases Mu S.tv he hl (10*turns t.mask) k h1 tm with⟨g1,g2⟩|⟨k',i,g1,g2,g3,g4,g5,g6⟩
  .split
   ·rename_i met hm;obtain rfl:met=.empty (sq t.mask (tupleKeyHash knd x.1) ke).j bh:=jk.inj (hm.symm.trans g1);dsimp only;refine cg (iX λaKE=>?_);let⟨z,hz,ez⟩:=gk.mp aKE;let⟨i,k',e1,e2,e3⟩:=wh z hz;rw[ez]at e2 e3
    have hk:k'<ke:=by
     rcases B2 k' ke with c|c
     .exact c
     .rcases Nat.eq_or_lt_of_le c with c|c
      .subst c;exact absurd ⟨i,e2⟩ he
      .exact absurd (e3 ke c) he
    by_cases c:k'<k
    .exact h3 k' i z c e2 e1 ez
    .exact g2 k' i ⋯ hk e2 (by rw[at_,e1];show tupleKeyHash knd z.1=_;rw[ez])
   .rename_i hm;exact(hm _ g1).elim
  .have hi:i<zs.length:=by
    have:=(qz.mp g3).1;rw[S.ps,←jg,S.he,dw]at this;exact this
   have ez:zs[i]?=aj zs[i]:=gV hi;have ee:es[i]?=aj (qA knd zs[i]):=by rw[at_,ez];rfl
   have gz:=S.gd zs[i] (sk hi);split
   ·rename_i met hm;obtain rfl:met=.candidate (sq t.mask (tupleKeyHash knd x.1) k').j i (sq t.mask (tupleKeyHash knd x.1) (k'+1)):=jk.inj (hm.symm.trans g5);dsimp only
    have rest:dj (fj prog w) A (do
      let aj (_,y):=es[i]?|unsupported "internal:set-entry"
      let equal ←holding [y] (eqBool y (.ref x.2))
      let(es',_,t') ←setState a
      if ak&&equal then return .there bh
      let aj same:=t'.sameMemory t.moves t.mask|unsupported "set.changed-during-lookup:is-the-new-block-at-the-old-address"
      let CM ←match (if same then t'.slot (sq t.mask (tupleKeyHash knd x.1) k').j else .empty)with
       |.live i'=>match es'[i']? with
        |some (_,y')=>do pure (if ←isSame y' y then aj i' else bh)
        |none=>pure bh
       |_=>pure bh
      match CM with
      |none=>rule "set.search.anew";setSearchFrom a (.ref x.2) (tupleKeyHash knd x.1) ak f bh
      |some i'=>if equal then return .there (aj i')else setSearchFrom a (.ref x.2) (tupleKeyHash knd x.1) ak f (aj (sq t.mask (tupleKeyHash knd x.1) (k'+1)))) Q E s:=by
     rw[ee];dsimp only[qA];refine aq (su (wpAny_eqBool_tuple ⋯ gz.1 hx.1 ?_));refine aq (wpAny_setState_of S.ho S.hd S.fits ?_);dsimp only;by_cases c:zs[i].1=x.1
     .rw[decide_eq_true c];simp only[Bool.and_self,if_true];exact cg (dE (by rw[←c];exact gk.mpr ⟨_,sk hi,rfl⟩))
     .rw[decide_eq_false c];simp only[Bool.and_false,jf,if_false];have sm:t.sameMemory t.moves t.mask=aj ak:=by unfold SetTable.sameMemory;simp
      rw[sm];dsimp only;rw[if_pos rfl,QL S.tv.ok g3];dsimp only;rw[ee];dsimp only[qA];refine aq (wpAny_isSame_ref_self (aq (cg ?_)));rw[if_pos rfl];dsimp only;refine QJ hu S hx he hl hb dE iX f (k'+1) (aj (sq t.mask (tupleKeyHash knd x.1) (k'+1))) rfl ⋯ ⋯ λk2 i2 e hk2 e3 e4=>?_;by_cases c2:k2<k
      .exact h3 k2 i2 e c2 e3 e4
      by_cases c3:k2=k'
      .subst c3;have a1:=below_at S.tv.ok.ri g3;have a2:=below_at S.tv.ok.ri e3;have:i2=i:=by omega
       subst this;rw[ez]at e4;cases e4;exact c
      .intro z;refine g6 k2 i2 ⋯ ⋯ e3 ?_;rw[at_,e4];show tupleKeyHash knd e.1=_;rw[z]
    by_cases led:t.led=ak
    .rw[led];exact rest
    .rw[Bool.not_eq_true]at led;rw[led]
     have ef:((es.filter (·.1==tupleKeyHash knd x.1)).toList.map (·.2))=(zs.filter λz=>tupleKeyHash knd z.1==tupleKeyHash knd x.1).map λz=>au.ref z.2:=by
      rw[Array.toList_filter,S.he,Ai,ni];rfl
     simp only[zj,if_true];rw[ef];refine aq (Wf hx (λz hz=>S.gd z (xg.mp hz).1) ?_);simp only[jf,if_false];exact rest
   .rename_i hm;exact(hm _ g5).elim
end
end L2
namespace L2
open PySem PySem.SetTable
def aaE{α β:Type}{f:α->β}{l m:List β}(h:l.Perm m):∀zs:List α,m=zs.map f->∃l7:List α,l7.Perm zs/\l=l7.map f:=by
 induction h with
 |nil =>
  intro zs e;cases zs with
  |nil=>exact⟨[],.nil,rfl⟩
  |cons _ _=>cases e
 |cons x _ ih =>
  intro zs e;cases zs with
  |nil=>cases e
  |cons z zs =>
   rw[iw]at e;injection e with e1 e2;let⟨l7,p,e3⟩:=ih zs e2;exact⟨z::l7,p.cons z,by rw[iw,e1,e3]⟩
 |swap x y l =>
  intro zs e;cases zs with
  |nil=>cases e
  |cons z zs =>
   cases zs with
   |nil=>cases e
   |cons z2 zs =>
    rw[iw,iw]at e;injection e with e1 e2;injection e2 with e2 e3;exact⟨z2::z::zs,.swap _ _ _,by rw[iw,iw,e1,e2,e3]⟩
 |trans _ _ F2 F1 =>
  intro zs e;let⟨z2,p2,e2⟩:=F1 zs e;let⟨z1,p1,e1⟩:=F2 z2 e2;exact⟨z1,p1.trans p2,e1⟩
def We:∀n,n<64->∀m,m∈[7,31,127]->n<=m->m*3<=n*5->(sizeAbove (grown n) - 1=31∨sizeAbove (grown n) - 1=127)/\n*5<(sizeAbove (grown n) - 1)*3/\sizeAbove (grown n)<=128:=by decide+kernel
section
variable{prog:kj}{w:jj}{K:Type}[DecidableEq K]{knd:KeyKind prog w K}{A:mq}{E:au->cu->Prop}{s:cu}
def lV.keep{h h':ju}(g:lV knd h zs)(k:∀z∈zs,∀o,h.get? z.2=aj o->h'.get? z.2=aj o):lV knd h' zs:=λz hz=>by
 let⟨⟨o,it,n,g1,g2⟩,o',Ld,n',g3,g4⟩:=g z hz;exact⟨⟨o,it,n,k z hz o g1,g2⟩,o',Ld,n',k z hz o' g3,g4⟩
abbrev fk(knd:KeyKind prog w K)(h:ju)(a:bw)(zs:List (List K×bw)):Prop:=∃o es ep t,Az knd h a o es ep t zs
def Hh(S:fk knd h a zs){z:List K×bw}(g:IsTupleKey knd h z.1 z.2):z.2≠a:=λe=>by
 let⟨o,es,ep,t,S⟩:=S;let⟨o',it,n,g1,g2,g3,_⟩:=g;have:=S.ho;rw[←e,g1]at this;cases this;have:=S.hd;rw[g3]at this;cases this
def ON{h:ju}{o:Obj}{ep:Nat}{t:SetTable}(ho:h.get? a=aj o)(hd:o.data=.set es ep t):(h.update a (Obj.putSet es' t')).get? a=aj {o with data:=.set es' (ep+1) t' }:=by
 have:=Au (Obj.putSet es' t') ho (by rw[putSet_of es' t' hd];rfl);rw[putSet_of es' t' hd]at this;exact this
def aAJ{zs:List (List K×bw)}{x:List K×bw}{Q:Bool->cu->Prop}(hu:A.units+1<qg)(S:fk knd s.heap a zs)(hx:IsTupleKey knd s.heap x.1 x.2/\b6 s.heap x.2)(hn:zs.length<63)
  (hQ:∀h' fR b,jr a s.heap h'->fk knd h' a fR->(∀k,k∈fR.map (·.1)↔k∈zs.map (·.1)∨k=x.1)->(∀z∈fR,z∈zs∨z=x)->fR.length<=zs.length+1->Q b {s with heap:=h' }) :
  dj (fj prog w) A (setAddHashed a (.ref x.2) (tupleKeyHash knd x.1)) Q E s:=by
 have St:=S;let⟨o,es,ep,t,S⟩:=S;have SD:=Hh St hx.1;unfold setAddHashed;refine su ?_;unfold setAddHashedIn;refine aq (wpAny_setState_of S.ho S.hd S.fits ?_);dsimp only;rw[show byScan (.ref x.2) es=ao from rfl];simp only[jf,if_false];let⟨ke,hb,he,hl⟩:=S.tv.free (tupleKeyHash knd x.1);have hm:=S.tv.ms;have aOB:t.mask<=127:=by rcases hm with h|h|h<;>omega
 refine aq ?_;unfold setSearch;refine QJ hu S hx he hl hb (λdE=>?_) (λiX=>?_) 100000 0 bh (aKD t _) (ud _) ⋯ (λk' i e h=>absurd h (Ca _))
 .dsimp only;exact cg (hQ s.heap zs ao (jr.refl _ _) St (λk=>⟨.inl,λh=>h.elim id λe=>by rw[e];exact dE⟩) (λz hz=>.inl hz) (oP _))
 .dsimp only;have hlen:es.size=zs.length:=by rw[←jg,S.he,dw]
  have hfu:=S.fu;have S9:t.mask∈[7,31,127]:=by rcases hm with h|h|h<;>simp[h]
  have LA:t.place.size+1<=t.mask:=by rw[S.ps];rcases hm with h|h|h<;>omega
  refine aq (wpAny_setState_of S.ho S.hd S.fits ?_);dsimp only;generalize hj:(sq t.mask (tupleKeyHash knd x.1) ke).j=j at he ⊢;have bl:=(uO S.tv.ok.ri j).1;rw[S.ps]at bl;have gI:=Nw es (below t.place j) (tupleKeyHash knd x.1,au.ref x.2) bl
  let⟨AJ,tp,ts⟩:=kU.put (k:=ke) (h:=tupleKeyHash knd x.1) S.tv (by rw[hj];exact he) hl LA (λi=>(((insertAt es (below t.place j) (tupleKeyHash knd x.1,au.ref x.2))[i]?).map (·.1)).getD 0)
   (λi hi=>by rw[hj]at hi;rw[gI,if_pos hi]) (by rw[hj,gI,if_neg (wz _),if_pos rfl];rfl) (λi hi=>by rw[hj]at hi;rw[gI,if_neg ⋯,if_neg ⋯];rfl) ak
  rw[hj]at AJ tp ts;have C8:(t.put j).1.plain=ak:=S.pl;have Dj:(t.put j).1.mask=t.mask:=rfl;have e1:{(t.put j).1 with plain:=true}=(t.put j).1:=by rw[←C8]
  rw[e1]at AJ;generalize hp:below t.place j=p at gI tp bl AJ
  have zl:(insertAt es p (tupleKeyHash knd x.1,au.ref x.2)).toList=(zs.take p++x::zs.drop p).map (qA knd):=by
   unfold insertAt;simp only[Array.toList_append,Array.toList_push,Array.toList_extract,List.extract_eq_take_drop,S.he,List.drop_zero,Nat.sub_zero];rw[qe,iw,List.map_take,List.map_drop,Cg];congr 1;show(qA knd x)::_=_;congr 1;exact JL (by rw[List.length_drop,dw,hlen];exact dz _)
  have pz:(zs.take p++x::zs.drop p).Perm (x::zs):=by
   refine List.perm_middle.trans (.cons _ ?_);rw[List.take_append_drop]
  have kg:(insertAt es p (tupleKeyHash knd x.1,au.ref x.2)).size=zs.length+1:=by
   rw[←jg,zl,dw,pz.length_eq,uw]
  have FV:((zs.take p++x::zs.drop p).map (·.1)).Nodup:=by
   rw[(pz.map _).nodup_iff,iw,tu];exact⟨iX,S.nd⟩
  have g1:∀h',jr a s.heap h'->∀fR,fR.Perm (zs.take p++x::zs.drop p)->lV knd h' fR:=λh' sb fR pe=>by
   refine lV.keep (h:=s.heap) (λz hz=>?_) λz hz ob e=>?_
   .rcases lg.mp (pz.mem_iff.mp (pe.mem_iff.mp hz))with rfl|hz
    .exact hx
    .exact S.gd z hz
   .have:z.2≠a:=by
     rcases lg.mp (pz.mem_iff.mp (pe.mem_iff.mp hz))with rfl|hz
     .exact SD
     .exact Hh St (S.gd z hz).1
    exact(sb.2 z.2 this).trans e
  have fin:∀h' fR b,jr a s.heap h'->fR.Perm (zs.take p++x::zs.drop p)->fk knd h' a fR->Q b {s with heap:=h' }:=λh' fR b sb pe st=>by
   have FL:=pe.trans pz;refine hQ h' fR b sb st (λk=>?_) (λz hz=>?_) (by rw[FL.length_eq,uw];exact dz _)
   .rw[(FL.map _).mem_iff,iw,lg];exact⟨λh=>h.symm,λh=>h.symm⟩
   .rcases lg.mp (FL.mem_iff.mp hz)with h|h
    .exact .inr h
    .exact .inl h
  rw[tp];rw[if_pos C8];refine aq (YU hx.2 ?_);simp only[if_true]
  have KD:(insertAt es p (tupleKeyHash knd x.1,au.ref x.2)).size<=dh:=by
   have:1000<dh:=by decide
   rw[kg];omega
  refine aq (wpAny_storeSet_of S.ho S.hd ?_ KD);have t7:=ON (es':=insertAt es p (tupleKeyHash knd x.1,au.ref x.2)) (t':=(t.put j).1) S.ho S.hd;have FE:=jr.update s.heap a (Obj.putSet (insertAt es p (tupleKeyHash knd x.1,au.ref x.2)) (t.put j).1);have FK:(t.put j).1.place.size=(insertAt es p (tupleKeyHash knd x.1,au.ref x.2)).size:=by rw[ts,S.ps,hlen,kg]
  have fill:(t.put j).1.fill=zs.length+1:=by
   unfold SetTable.fill;rw[AJ.ok.du,FK,kg];rfl
  by_cases full:(t.put j).1.tooFull=ak
  .rw[full];simp only[zj,Bool.and_self,if_true]
   have Hg:t.mask*3<=(zs.length+1)*5:=by
    unfold SetTable.tooFull at full;rw[fill,Dj]at full;simpa using full
   rw[S.ps]at LA;let⟨w1,w2,w3⟩:=We (zs.length+1) ⋯ t.mask S9 ⋯ Hg;refine aq ?_;unfold setRelay
   have aFU:(t.put j).1.fits (insertAt es p (tupleKeyHash knd x.1,au.ref x.2)).size=ak:=by
    unfold SetTable.fits;rw[fill,FK,kg,Dj];simp;omega
   refine aq (wpAny_setState_of t7 rfl aFU ?_);dsimp only;rw[show es.size+1=zs.length+1 by omega];have big:1000<dh:=by decide
   rw[if_neg ⋯];have aKI:oB (sizeAbove (grown (zs.length+1)) - 1):=w1.elim (λh=>.inr (.inl h)) (λh=>.inr (.inr h));let⟨t2,order,r1,r2,r3,r4,r5,r6,r7,r8⟩:=X4 (t:=(t.put j).1) (es:=insertAt es p (tupleKeyHash knd x.1,au.ref x.2)) (wanted:=grown (zs.length+1)) aKI (by rw[kg];omega);rw[r1];rw[zl]at r3;let⟨l7,p2,e2⟩:=aaE r3 _ rfl
   refine aq (show dj _ _ (do
     let es':=order.filterMap ((insertAt es p (tupleKeyHash knd x.1,au.ref x.2))[·]?)
     if es'.size !=(insertAt es p (tupleKeyHash knd x.1,au.ref x.2)).size then unsupported "internal:set-table-lost-an-element"
     pure (es',t2)) _ _ _ from ?_)
   dsimp only;rw[r2];simp only[bne_self_eq_false,jf,if_false];refine cg ?_;dsimp only;refine wpAny_storeSet_of t7 rfl ?_ (by rw[r2];exact KD);have oe:=ON (es':=order.filterMap ((insertAt es p (tupleKeyHash knd x.1,au.ref x.2))[·]?)) (t':=t2) t7 rfl;have KJ:=FE.trans (jr.update _ a (Obj.putSet (order.filterMap ((insertAt es p (tupleKeyHash knd x.1,au.ref x.2))[·]?)) t2));refine cg (fin _ l7 ak KJ p2 ⟨_,_,_,_,oe,S.hx,rfl,e2,((p2.map _).nodup_iff.mpr FV),g1 _ KJ l7 p2,r8,by rw[r7,r2],by rw[r6];exact C8,by rw[r2,kg,r4];exact w2,by rw[r5];exact S.ld⟩)
  .rw[Bool.not_eq_true]at full;rw[full];simp only[zj,Bool.and_false,jf,if_false]
   have Hg:(zs.length+1)*5<t.mask*3:=by
    unfold SetTable.tooFull at full;rw[fill,Dj]at full;simpa using full
   exact cg (fin _ _ ak FE (.refl _) ⟨_,_,_,_,t7,S.hx,rfl,zl,FV,g1 _ FE _ (.refl _),AJ,FK,C8,by rw[kg,Dj];exact Hg,S.ld⟩)
end
end L2
namespace L2
open PySem PySem.SetTable
def wH:Slot "set_iterator" "__next__" "set_iterator.__next__":=.of (owner:="set_iterator") (n:="__next__") (by rw[typeLookup_type,builtinLookup_eq_fast];nofun) (by decide+kernel) (by decide+kernel) (by decide+kernel) (by first|exact .inl (by decide+kernel)|exact .inr (by decide+kernel)) (by rw[isSubtype_type];nofun)
def PQ:entryFor table "set_iterator.__next__"=aj Builtin.«set_iterator.__next__» :=entryFor_of_tree (by nofun)
def OM(a:au):argsOk "set_iterator.__next__" ⟨[a],[]⟩:=by
 unfold argsOk;rw[signature?_of (id:="set_iterator.__next__") (n:=['_','_','t','x','e','n','_','_']) (o:=['r','o','t','a','r','e','t','i','_','t','e','s']) (by nofun) (show Manifest.owners.lookup (String.ofList ['r','o','t','a','r','e','t','i','_','t','e','s'].reverse)=aj Manifest.sig_set_iterator by nofun)];nofun
def X3:entryFor table "set.__iter__"=aj Builtin.«frozenset.__iter__» :=entryFor_alias (id':="frozenset.__iter__") (by nofun) rfl (by decide+kernel) (by nofun)
def Rc{α:Type}:∀(l:List α){i:Nat}(h:i<l.length),(l[i]::l.eraseIdx i).Perm l
 |x::l,0,_=>.refl _
 |x::l,i+1,h=>by
  show(l[i]'(Nat.lt_of_succ_lt_succ h)::x::l.eraseIdx i).Perm (x::l);exact(List.Perm.swap _ _ _).trans ((Rc l (Nat.lt_of_succ_lt_succ h)).cons x)
private theorem OL{α:Type}(next:Nat->Nat):∀(f k:Nat)(left:List α)(out:Array α),left.length=f->(pickOrder.go next f k left out).toList.Perm (out.toList++left)
 |0,k,left,out,h=>by
  unfold pickOrder.go;rw[List.length_eq_zero_iff.mp h,se]
 |f+1,k,left,out,h=>by
  unfold pickOrder.go;have hl:next k%left.length<left.length:=z0 _ ⋯;rw[gV hl];dsimp only;refine(OL next f (k+1) _ _ (by rw[List.length_eraseIdx_of_lt hl];omega)).trans ?_;rw[Array.toList_push,Cg];exact List.Perm.append_left _ (Rc _ hl)
private theorem YT{α:Type}(next:Nat->Nat)(xs:Array α):(pickOrder next xs).toList.Perm xs.toList:=by
 have:=OL next xs.size 0 xs.toList #[] (by simp);rw[List.nil_append]at this;exact this
variable{Q:Option au->cu->Prop}
section
variable{prog:kj}{w:jj}{K:Type}[DecidableEq K]{knd:KeyKind prog w K}{A:mq}{E:au->cu->Prop}{s:cu}{a I:bw}{o:Obj}{es:Array (Int×au)}{ep:Nat}{t:SetTable}{zs:List (List K×bw)}
structure pj(w:jj)(h:ju)(a:bw)(o:Obj)(es:Array (Int×au))(ep:Nat)(t:SetTable):Prop where
 ho:h.get? a=aj o
 hx:o.ExactSet
 hd:o.data=.set es ep t
 tv:kU t (λi=>((es[i]?).map (·.1)).getD 0)
 ps:t.place.size=es.size
 pl:t.plain=ak
 fu:es.size*5<t.mask*3
 ld:t.led=!w.params.followText "set-order"
def Az.b{h:ju}(S:Az knd h a o es ep t zs):pj w h a o es ep t:=⟨S.ho,S.hx,S.hd,S.tv,S.ps,S.pl,S.fu,S.ld⟩
def pj.fits(S:pj w h a o es ep t):t.fits es.size=ak:=by
 unfold SetTable.fits SetTable.fill;rw[S.tv.ok.du,S.ps];have:=S.fu;simp;omega
abbrev jb(w:jj)(a:bw)(ep:Nat)(es:Array (Int×au)):Array (Int×au):=if w.params.followText "set-order"=ak then pickOrder (w.params.setOrder a ep) es else es
def PN:(jb w a ep es).toList.Perm es.toList:=by
 unfold jb;split
 ·exact YT _ _
 .exact .refl _
def JA:(jb w a ep es).size=es.size:=by have:=(PN (w:=w) (a:=a) (ep:=ep) (es:=es)).length_eq;rwa [jg,jg]at this
abbrev Cu(a:bw)(slot i n ep:Nat):Obj:={cls:=.type "set_iterator",data:=.fields #[.int slot 0,.int i 0,.ref a,.int n 0,.int ep 0]}
abbrev Bt(w:jj)(h:ju)(I a:bw)(t:SetTable)(n ep i:Nat):Prop:=∃slot:Nat,h.get? I=aj (Cu a slot i n ep)/\(w.params.followText "set-order"=ao->below t.place slot=i)
def JW{Q:Bool->cu->Prop}(h:Q (w.params.followText "set-order") s):dj (fj prog w) A setsByText Q E s:=by
 unfold setsByText;exact aq (wpAny_askSetting (cg h))
def Rb{slot i:Nat}{Q:Option (au×Nat)->cu->Prop}(S:pj w s.heap a o es ep t)(hb:w.params.followText "set-order"=ao->below t.place slot=i)
  (hQ:∀BI,(w.params.followText "set-order"=ao->i<es.size->below t.place BI=i+1)->Q (((jb w a ep es)[i]?).map λe=>(e.2,BI)) s):dj (fj prog w) A (setNext a slot i ep) Q E s:=by
 unfold setNext;refine aq (wpAny_setState_of S.ho S.hd S.fits ?_);dsimp only;refine aq (JW ?_);by_cases c:w.params.followText "set-order"=ak
 .rw[if_pos c];simp only[bne_self_eq_false,jf,if_false];refine aq ?_;unfold setWalk;refine aq (wpAny_setState_of S.ho S.hd S.fits ?_);dsimp only;refine aq (JW ?_);rw[if_pos c];refine aq (wpAny_askSetting (cg (cg ?_)));have:=hQ slot λz=>by rw[c]at z;cases z
  unfold jb at this;rw[if_pos c]at this;exact this
 .rw[if_neg c];have c':=Bool.eq_false_iff.mpr c;have ld:t.led=ak:=by rw[S.ld,c'];rfl
  refine wpAny_ite_split (λz=>absurd (show(!t.plain&&decide (es.size>1))=ak from z) (by rw[S.pl];simp)) λ_=>?_;refine aq (show dj _ _ (if(!t.led&&!es.isEmpty)=ak then unsupported "set:maker-not-led" else pure ()) _ _ _ from ?_);rw[ld,if_neg (by simp)];refine cg ?_;rw[hb c']
  have fin:=hQ ((t.place[i]?).getD 0+1) λ_ hi=>by
   have hp:i<t.place.size:=by rw[S.ps];exact hi
   rw[gw hp];exact ZG S.tv.ok.ri (gw hp)
  unfold jb at fin;rw[if_neg c]at fin;by_cases hi:i<es.size
  .have hp:i<t.place.size:=by rw[S.ps];exact hi
   rw[gw hi,gw hp]at fin ⊢;exact cg fin
  .have e0:es[i]?=bh:=wu ⋯;have e1:t.place[i]?=bh:=wu (by rw[S.ps];omega);rw[e0]at fin;rw[e0,e1];exact cg fin
def Wd{n i:Nat}(S:pj w s.heap a o es ep t)(hI:Bt w s.heap I a t es.size ep i){e:Int×au}(he:(jb w a ep es)[i]?=aj e)
  (hQ:∀h',jr I s.heap h'->Bt w h' I a t es.size ep (i+1)->Q (aj e.2) {s with heap:=h' }):dj (fj prog w) A (zx (.ref I)) Q E s:=by
 let⟨slot,ho,hb⟩:=hI;have hT:s.TypeIs (.ref I) "set_iterator":=⟨_,ho,rfl⟩;have hi:i<es.size:=by rw[←JA (w:=w) (a:=a) (ep:=ep)];exact(qz.mp he).1
 unfold zx;refine aq (Ag (Cp (name:=Str.ofString "__next__") hT wH (ur wH hT PQ ?_ (OM _))));refine aq (cg ?_);refine aq (wpAny_fieldsOf ho rfl ?_);dsimp only;refine aq (wpAny_setEntries_of S.ho S.hd S.fits ?_);rw[if_neg (by simp)];refine aq ?_;rw[vq,vq,vq];refine Rb S hb λBI Dy=>?_;rw[he];dsimp only[Option.map_some];unfold Cu at ho;refine aq (wpAny_setField_rec ho (by simp) λdQ CZ CQ=>?_);refine aq (wpAny_setField_rec CZ (by simp) λlI CY CP=>?_);refine cg ⟨_,rfl,cg (hQ lI (CQ.trans CP) ⟨BI,?_,λc=>Dy c hi⟩)⟩;have z:((i+1:Nat):Int)=(i:Int)+1:=by omega
 unfold Cu;rw[z];simpa[eL]using CY
def aAK(hh:A.handled=bh)(S:pj w s.heap a o es ep t)(hI:Bt w s.heap I a t es.size ep es.size)(hQ:∀h',wq I s.heap h'->Q bh {s with heap:=h' }):dj (fj prog w) A (zx (.ref I)) Q E s:=by
 let⟨slot,ho,hb⟩:=hI;have hT:s.TypeIs (.ref I) "set_iterator":=⟨_,ho,rfl⟩;unfold zx;refine aq (Ag (Cp (name:=Str.ofString "__next__") hT wH (ur wH hT PQ ?_ (OM _))));refine aq (cg ?_);refine aq (wpAny_fieldsOf ho rfl ?_);dsimp only;refine aq (wpAny_setEntries_of S.ho S.hd S.fits ?_);rw[if_neg (by simp)];refine aq ?_;rw[vq,vq,vq];refine Rb S hb λBI Dy=>?_;rw[wu (by rw[JA];exact dz _)];dsimp only[Option.map_none];refine aq (yu ho rfl (by simp) ?_);show dj _ _ (newExc (.type "StopIteration") [] >>= _) _ _ _;refine aq ?_;simp only[newExc,newTuple];refine aq (yd ?_ (by size_fits));refine aq (m:=firstArgMember _ _) (wpAny_of_eq (a:=Value.none) (by first|rfl|(simp only[JN];rfl)) (yd ?_ (by size_fits)));simp only[raiseNew];refine aq (wpAny_handled ?_);rw[show A.in1.handled=bh from hh];refine aq (cg (wpAny_throw ?_));refine aq (wpAny_isInstance (T:="StopIteration") (b:=true) ⟨_,iz _ rfl,rfl⟩ isSubtype_stop ?_);exact cg (hQ _ (((jr.update ..).extBut.push _).push _))
variable{Q:au->cu->Prop}
def Wc(S:pj w s.heap a o es ep t)(hQ:Q (.ref s.heap.objs.size) {s with heap:=s.heap.push (Cu a 0 0 es.size ep)}):dj (fj prog w) A (pyIter (.ref a)) Q E s:=by
 have hT:s.TypeIs (.ref a) "set":=⟨o,S.ho,S.hx.1⟩;refine wpAny_pyIter_slot hT F.slot_set_iter (ur F.slot_set_iter hT X3 ?_ (F.args_set_iter_1 _));unfold Builtin.«frozenset.__iter__»;refine aq (show dj _ _ (pure a) _ _ _ from cg ?_);unfold Builtin.Frozenset.sizeOf;refine aq (aq (wpAny_setEntries_of S.ho S.hd S.fits (cg ?_)));refine aq ?_;unfold setDrawn;refine aq (wpAny_setState_of S.ho S.hd S.fits ?_);dsimp only;refine aq (JW (cg ?_));refine wpAny_ite_split (λz=>absurd (show(!w.params.followText "set-order"&&(!t.plain&&decide (es.size>1)))=ak from z) (by rw[S.pl];simp)) λ_=>?_;refine aq (cg (aq (wpAny_setEpoch_of S.ho S.hd S.fits ?_)));refine aq (show dj _ _ (newObj (.type "set_iterator") (.fields #[eL 0,eL 0,au.ref a,eL es.size,eL ep])) _ _ _ from yd (cg ⟨_,rfl,"set_iterator",_,⟨_,iz _ rfl,rfl⟩,wH.lookup,?_⟩));simpa[eL,Cu]using hQ
def OJ:Slot "set_iterator" "__iter__" "set_iterator.__iter__":=.of (owner:="set_iterator") (n:="__iter__") (by rw[typeLookup_type,builtinLookup_eq_fast];nofun) (by decide+kernel) (by decide+kernel) (by decide+kernel) (by first|exact .inl (by decide+kernel)|exact .inr (by decide+kernel)) (by rw[isSubtype_type];nofun)
def X2:entryFor table "set_iterator.__iter__"=aj Builtin.«dict_keyiterator.__iter__» :=entryFor_alias (id':="dict_keyiterator.__iter__") (by nofun) rfl (by decide+kernel) (by nofun)
def X1(a:au):argsOk "set_iterator.__iter__" ⟨[a],[]⟩:=by
 unfold argsOk;rw[signature?_of (id:="set_iterator.__iter__") (n:=['_','_','r','e','t','i','_','_']) (o:=['r','o','t','a','r','e','t','i','_','t','e','s']) (by nofun) (show Manifest.owners.lookup (String.ofList ['r','o','t','a','r','e','t','i','_','t','e','s'].reverse)=aj Manifest.sig_set_iterator by nofun)];nofun
def Wb{i n:Nat}(hI:Bt w s.heap I a t n ep i)(h:Q (.ref I) s):dj (fj prog w) A (pyIter (.ref I)) Q E s:=by
 let⟨slot,ho,_⟩:=hI;have hT:s.TypeIs (.ref I) "set_iterator":=⟨_,ho,rfl⟩;refine wpAny_pyIter_slot hT OJ (ur OJ hT X2 ?_ (X1 _));show dj _ _ (ret (.ref I)) _ _ s;exact cg ⟨_,rfl,"set_iterator",_,hT,wH.lookup,h⟩
def Wa{Q:Bool->cu->Prop}(hT:s.TypeIs (.ref a) "set")(h:Q ao s):dj (fj prog w) A (Builtin.List.listLengthHint (.ref a)) Q E s:=by
 unfold Builtin.List.listLengthHint;refine aq (wpAny_specialOf hT PySem.F.slot_set_len.lookup ?_);generalize Ly:("set.__len__":String)=AZ
 wp_delta;rw[show splitId AZ=aj ("set","__len__")from by subst Ly;decide+kernel];subst Ly
 refine aq (wpAny_isInstance (T:="set") (b:=true) hT (by rw[isSubtype_type];nofun) ?_);refine wpAny_ite_split (λog=>absurd og (by decide)) (λ_=>?_);refine wpAny_ite_split (λ_=>?_) (λog=>absurd (by decide+kernel) og);refine aq (wpAny_typeOf hT ?_);exact cg h
def X0(hh:A.handled=bh)(ne:a≠I):Walks prog w A I [I,a] [I] es.size (λi v=>∃e,(jb w a ep es)[i]?=aj e/\v=e.2) (λi h=>Bt w h I a t es.size ep i/\pj w h a o es ep t) where
 sub:=λb hb=>by simp at hb;simp[hb]
 frame:=λi h h' st hk=>⟨by let⟨sl,h1,h2⟩:=st.1;exact⟨sl,hk I (by simp) _ h1,h2⟩,⟨hk a (by simp) _ st.2.ho,st.2.hx,st.2.hd,st.2.tv,st.2.ps,st.2.pl,st.2.fu,st.2.ld⟩⟩
 item:=λi s Q E hi st hQ=>by
  have hx:(jb w a ep es)[i]?=aj ((jb w a ep es)[i]'(by rw[JA];exact hi)):=gw _;exact Wd (n:=0) st.2 st.1 hx λh' sb at'=>hQ _ h' s.toks ⟨_,hx,rfl⟩ ⟨at',⟨(sb.2 a ne).trans st.2.ho,st.2.hx,st.2.hd,st.2.tv,st.2.ps,st.2.pl,st.2.fu,st.2.ld⟩⟩ λb ob hb e=>sb.extBut b ob (λh=>hb (by simp[h])) e
 done:=λs Q E st hQ=>aAK hh st.2 st.1 λh' eb=>hQ h' s.toks λb ob hb e=>eb b ob (λh=>hb (by simp[h])) e
 self:=λ_ _ _ _ st hQ=>Wb st.1 hQ
def aAL:PySem.W.KdlSrc prog w "set" a a es.size (λi v=>∃e,(jb w a ep es)[i]?=aj e/\v=e.2) (λh=>pj w h a o es ep t) where
 type:=λ_ S=>⟨_,S.ho,S.hx.1⟩
 there:=λ_ S=>⟨ig S.ho,ig S.ho⟩
 keep:=λ_ _ S hk=>⟨hk a (.inl rfl) _ S.ho,S.hx,S.hd,S.tv,S.ps,S.pl,S.fu,S.ld⟩
 notList:=by decide
 notTuple:=by decide
 hint:=λ_ _ _ _ S hq=>Wa ⟨_,S.ho,S.hx.1⟩ hq
 iter:=λ_ s hh S=>⟨_,_,(λ_ _ hq=>Wc S hq),X0 hh (jq (ig S.ho)),⟨⟨0,iz _ rfl,λ_=>Wn S.tv.ok.ri⟩,⟨cj _ S.ho,S.hx,S.hd,S.tv,S.ps,S.pl,S.fu,S.ld⟩⟩⟩
end
end L2
namespace L2
open PySem PySem.SetTable
def aAM(v:au):checkTypeCall "set" ⟨[v],[]⟩=pure ():=by nofun
def aAN(v:au):checkBuiltinCall "set.__new__" ⟨[.type "set",v],[]⟩=pure ():=by nofun
def Jz:plainId "set.update.loop"=ak:=by decide+kernel
def PM:entryFor table "set.update.loop"=aj Builtin.«set.update.loop» :=entryFor_of_tree (by nofun)
section
variable{prog:kj}{w:jj}{K:Type}[DecidableEq K]{knd:KeyKind prog w K}{A:mq}{E:au->cu->Prop}{s:cu}
@[simp]def bg(w:jj):Obj:={cls:=.type "set",dict:=none,data:=.set #[] 0 (.fresh 0 0 (!w.params.followText "set-order"))}
def YS{Q₁:au->cu->Prop}(h:Q₁ (.ref s.heap.objs.size) {s with heap:=s.heap.push (bg w)}):gL (fj prog w) A (.call (.builtin "set.__new__") ⟨[.type "set",v],[]⟩) (wants Q₁ E) s:=by
 refine codeAny_of_tree ?_;show dj _ A.in1 (do checkBuiltinCall "set.__new__" ⟨[.type "set",v],[]⟩;again (.builtin "set.__new__" ⟨[.type "set",v],[]⟩)) _ _ s;refine aq (wpAny_of_eq (aAN v) (cg ⟨plainId_quiet F.plain_set_new _,sf F.entry_set_new ?_⟩));rw[mq.under_plainId F.plain_set_new _];unfold Builtin.«set.__new__» Builtin.Frozenset.newClass;have Km:=sub_set_self;let⟨hp,g,d,tk,os⟩:=s;dsimp only
 wp_walk
 refine wpAny_askSetting (cg ?_);dsimp only;simp only[newObj];refine aq (wpAny_alloc (cg ?_));exact cg h
def fk.nil{h:ju}{a:bw}(e:h.get? a=aj (bg w)):fk knd h a []:=by
 refine⟨_,#[],0,_,e,⟨rfl,rfl,rfl⟩,rfl,rfl,.nil,(λz hz=>nomatch hz),⟨⟨λi j a b _ ea=>by simp[SetTable.fresh]at ea,λi a ea=>by simp[SetTable.fresh]at ea,rfl⟩,.inl rfl,by simp[SetTable.fresh],λi j ea=>by simp[SetTable.fresh]at ea⟩,rfl,rfl,(show 0*5<7*3 by decide),rfl⟩
def V9{self:au}{Q:Unit->cu->Prop}(hT:s.TypeIs self "set")(hQ:Q () s):dj (fj prog w) A (checkBuiltinCall "set.__init__" ⟨[self,v],[]⟩) Q E s:=by
 simp only[checkBuiltinCall,kind_set_init,split_set_init,sig_set_init];refine aq (wpAny_isInstance hT sub_set_self ?_);simp only[vm,jf,if_false];unfold Bind.checkArgs;dsimp only;refine aq (m:=Bind.printed "set" ak _ _) (PyProof.Rows.printed_name (by decide) ?_);refine aq (m:=Bind.printed "*" ao _ _) (PyProof.Rows.printed_star (self:=self) rfl hT λshort=>?_);have S3:(Manifest.Receiver.self==Manifest.Receiver.none)=ao:=by decide
 rw[show(if(Manifest.Receiver.self==Manifest.Receiver.none)=ak then[self,v].length else[self,v].length - 1)=1 by simp[S3]];simp only[List.map_nil];rw[show Bind.check ⟨.positional,"set","*",.self,[⟨"iterable",.posOnly,ao⟩]⟩ "set" short 1 []=pure ()from rfl];exact cg hQ
end
end L2
namespace L2
open PySem PySem.SetTable
variable{h:ju}
section
variable{prog:kj}{w:jj}{K:Type}[DecidableEq K]{knd:KeyKind prog w K}{A:mq}{s:cu}
def fk.keep{h':ju}{a:bw}{zs:List (List K×bw)}(S:fk knd h a zs)(ka:∀o,h.get? a=aj o->h'.get? a=aj o)(g:lV knd h' zs):fk knd h' a zs:=by
 let⟨o,es,ep,t,S⟩:=S;exact⟨o,es,ep,t,ka _ S.ho,S.hx,S.hd,S.he,S.nd,g,S.tv,S.ps,S.pl,S.fu,S.ld⟩
def Ms{i:Nat}(it:h.IsListIter I l i){z:List K×bw}(g:IsTupleKey knd h z.1 z.2):z.2≠I:=λe=>by
 let⟨o,h1,h2,h3⟩:=it;let⟨o',Ld,n,g1,g2,g3,_⟩:=g;rw[e,h1]at g1;cases g1;rw[h3]at g3;cases g3
def V8{items:Array au}{xs:List (List K×bw)}{R:Result->cu->Prop}{h0:ju}(hh:A.handled=bh)(hu:A.units+8<qg)(hi:items.toList=xs.map λx=>au.ref x.2)(hn:xs.length<63)(FX:S≠I)(SE:S≠l)(nl:l≠I)
  (hR:∀h' tk zs,(∀b o,b≠S->b≠I->h0.get? b=aj o->h'.get? b=aj o)->fk knd h' S zs->(∀k,k∈zs.map (·.1)↔k∈xs.map (·.1))->(∀z∈zs,z∈xs)->R (.ok (.ret .none)) {s with heap:=h',toks:=tk}) :
  ∀(j i:Nat)(h:ju)(tk:Nat)(zs:List (List K×bw)),xs.length - i=j->i<=xs.length->h.IsListIter I l i->h.IsList l items->(∀b o,b≠S->b≠I->h0.get? b=aj o->h.get? b=aj o)->fk knd h S zs->lV knd h xs->(∀k,k∈zs.map (·.1)↔k∈(xs.take i).map (·.1))->(∀z∈zs,z∈xs)->zs.length<=i ->
   gL (fj prog w) A (.builtin "set.update.loop" ⟨[.ref S,.ref I],[]⟩) R {s with heap:=h,toks:=tk}:=by
 have W:=Walks.list (prog:=prog) (w:=w) (A:=A.in1) hh I l nl items;have sz:items.size=xs.length:=by rw[←jg,hi,dw]
 intro j
 induction j with
 |zero =>
  intro i h tk zs hj d6 it il kp st gd mem sub len;have ei:i=items.size:=by omega
  have et:xs.take i=xs:=JL ⋯;rw[et]at mem;refine sf PM ?_;rw[mq.under_plainId Jz _];show dj _ A.in1 (zx (.ref I) >>= _) _ _ _;refine aq (W.done {s with heap:=h,toks:=tk} _ _ (by rw[←ei];exact⟨it,il⟩) λh' AL ke=>?_);have yk:lV knd h' xs:=gd.keep λz hz o e=>ke _ _ (by simpa using Ms it (gd z hz).1) e;exact cg (hR h' AL zs (λb o n1 n2 e=>ke _ _ (by simpa using n2) (kp b o n1 n2 e)) (st.keep (λo e=>ke _ _ (by simpa using FX) e) λz hz=>yk z (sub z hz)) mem sub)
 |succ j ih =>
  intro i h tk zs hj d6 it il kp st gd mem sub len;have hx:i<xs.length:=by omega
  refine sf PM ?_;rw[mq.under_plainId Jz _];show dj _ A.in1 (zx (.ref I) >>= _) _ _ _;refine aq (W.item i {s with heap:=h,toks:=tk} _ _ ⋯ ⟨it,il⟩ λv h' AL pv bu ke=>?_)
  have ev:v=.ref xs[i].2:=by
   rw[←jt,hi,kh,gV hx]at pv;exact(jk.inj pv).symm
  subst ev;dsimp only at ke ⊢;have yk:lV knd h' xs:=gd.keep λz hz o e=>ke _ _ (by simpa using Ms it (gd z hz).1) e;have KG:fk knd h' S zs:=st.keep (λo e=>ke _ _ (by simpa using FX) e) λz hz=>yk z (sub z hz);have gx:=yk xs[i] (sk hx);refine aq (su ?_);unfold setAdd;refine su (aq (wpAny_pyHash_tuple (by show A.in1.units<qg;have:A.in1.units=A.units+1:=rfl;omega) gx.1 ?_));refine aAJ (x:=xs[i]) (by show A.in1.units+1<qg;have:A.in1.units=A.units+1:=rfl;omega) KG gx ⋯ λh2 l7 b sb hX aKK aKL df=>?_;have nI:∀z∈xs,z.2≠S:=λz hz=>Hh KG (yk z hz).1;refine cg ⟨plainId_quiet Jz _,?_⟩;refine ih (i+1) h2 _ l7 ⋯ hx ?_ ?_ (λb o n1 n2 e=>(sb.2 b n1).trans (ke _ _ (by simpa using n2) (kp b o n1 n2 e))) hX (yk.keep λz hz o e=>(sb.2 _ (nI z hz)).trans e) (λk=>?_) (λz hz=>?_) ⋯
  .exact bu.1.at λo e=>(sb.2 I (Ne.symm FX)).trans e
  .exact bu.2.at λo e=>(sb.2 l (Ne.symm SE)).trans e
  .rw[aKK,mem,zm,gV hx,qe,uo];simp
  .rcases aKL z hz with h|h
   .exact sub z h
   .rw[h];exact sk hx
end
end L2
namespace L2
open PySem PySem.SetTable
section
variable{prog:kj}{w:jj}{K:Type}[DecidableEq K]{knd:KeyKind prog w K}{A:mq}{E:au->cu->Prop}{s:cu}
def YR{items:Array au}{xs:List (List K×bw)}{Q:au->cu->Prop}(hh:A.handled=bh)(hu:A.units+64<qg)(hl:s.heap.IsList l items)(hi:items.toList=xs.map λx=>au.ref x.2)(gd:lV knd s.heap xs)(hn:xs.length<63)
  (h:∀h' tk a zs,(∀b o,s.heap.get? b=aj o->h'.get? b=aj o)->fk knd h' a zs->(∀k,k∈zs.map (·.1)↔k∈xs.map (·.1))->(∀z∈zs,z∈xs)->Q (.ref a) {s with heap:=h',toks:=tk}):dj (fj prog w) A (call (.type "set") [.ref l]) Q E s:=by
 let⟨c,tl,hmro⟩:=F.called_set.mro;have R1:=F.called_set.made;have Km:=F.called_set.sub;refine wpAny_call (codeAny_of_tree ?_);show dj _ _ (callAny (.type "set") _) _ _ _;refine cg ⟨Code.quiet_builtin _ (by decide+kernel),sf F.entry_type_call ?_⟩;rw[mq.under_plain (weight_type_call_type "set" [.ref l] []) rfl];have h1:=F.called_set.notType;have h2:=F.called_set.canCreate;have hct:=aAM (.ref l)
 repeat (any_goals (first|assumption|wp_step))
 refine Ac (YS (E:=E) (v:=.ref l) (Q₁:=λobj ah=>obj=.ref s.heap.objs.size/\ah={s with heap:=s.heap.push (bg w)}) ⟨rfl,rfl⟩) λr ah hr=>?_;cases r with
 |error e=>exact hr
 |ok fl =>
  cases fl with
  |ret obj =>
   let⟨rfl,rfl⟩:=hr;have hS:(s.heap.push (bg w)).get? s.heap.objs.size=aj (bg w):=iz _ rfl;have hT:cu.TypeIs {s with heap:=s.heap.push (bg w)} (.ref s.heap.objs.size) "set":=⟨_,hS,rfl⟩;have hli:=F.called_set.init.lookup;have hbi:=F.called_set.init.bind (.ref s.heap.objs.size)
   repeat (any_goals (first|assumption|wp_step))
   refine Ac (codeAny_call_builtin (R:=wants (λr bp=>r=.none/\Q (.ref s.heap.objs.size) bp) E) F.called_set.init.plain F.entry_set_init (V9 hT ?_)) λKg bp lL=>?_
   .unfold Builtin.«set.__init__» noKeywords;have hb:A.in1.in1.units=A.units+2:=rfl;have d5:l<s.heap.objs.size:=by let⟨o,ho,_⟩:=hl;exact ig ho
    have St:fk knd (s.heap.push (bg w)) s.heap.objs.size []:=fk.nil hS
    have aMU:∀{Q':Bool->cu->Prop},Q' ao {s with heap:=s.heap.push (bg w)}->dj (fj prog w) A.in1.in1 (setUsed s.heap.objs.size) Q' (λe s'=>wants (λr bp=>r=au.none/\Q (au.ref s.heap.objs.size) bp) E (Except.error e) s') {s with heap:=s.heap.push (bg w)}:=λ{Q'} hq=>by
     unfold setUsed;exact aq (wpAny_setState_of hS rfl rfl (cg hq))
    have sQ:({s with heap:=s.heap.push (bg w)}:cu).TypeIs (.ref l) "list":=by
     let⟨o,ho,hc,_⟩:=hl;exact⟨o,cj _ ho,hc⟩
    wp_walk
    refine wpAny_of_eq (show isSubtype (.type "list") (.type "set")=pure ao by rw[isSubtype_type];nofun) ?_;refine wpAny_isInstance (T:="list") (b:=false) sQ (by rw[isSubtype_type];nofun) ?_;simp only[jf,if_false];refine aq (wpAny_typeOf sQ ?_);rw[if_neg (by decide)];have A8:({s with heap:=s.heap.push (bg w)}:cu).heap.IsList l items:=hl.at λo e=>cj _ e;refine aq (Cf A8 ?_);refine aq (wpAny_runValue ?_);have zz:(s.heap.push (bg w)).objs.size=s.heap.objs.size+1:=B7 ..;have TC:lV knd ((s.heap.push (bg w)).push {cls:=.type "list_iterator",data:=.fields #[.ref l,.int 0 0]}) xs:=gd.keep λz hz o e=>cj _ (cj _ e);refine V8 (A:=A.in1.in1) (knd:=knd) (s:=s) (l:=l) (items:=items) (xs:=xs) (h0:=s.heap) hh ⋯ hi hn (by show s.heap.objs.size≠(s.heap.push (bg w)).objs.size;rw[zz];exact jq (Nat.lt_succ_self _)) (Ae d5) (by show l≠(s.heap.push (bg w)).objs.size;rw[zz];exact jq (Aq d5)) (λh' tk zs kp st mem sub=>?_) xs.length 0 _ s.toks [] (Nat.sub_zero _) (ud _) ⟨_,iz _ rfl,rfl,rfl⟩ (A8.at λo e=>cj _ e) (λb o _ _ e=>cj _ (cj _ e)) ?_ TC (λk=>by simp) (λz hz=>nomatch hz) (dz _)
    .refine cg (cg ⟨rfl,h h' tk s.heap.objs.size zs (λb o e=>kp b o (jq (ig e)) ?_ e) st mem sub⟩);show b≠(s.heap.push (bg w)).objs.size;rw[zz];exact jq (Aq (ig e))
    .exact St.keep (λo e=>cj _ e) λz hz=>nomatch hz
   .cases Kg with
    |error e=>exact lL
    |ok C1 =>
     cases C1 with
     |ret r =>
      let⟨rfl,hq⟩:=lL
      repeat (any_goals (first|assumption|wp_step))
     |_=>exact lL.elim
  |_=>exact hr.elim
end
end L2
namespace L2
open PySem PySem.Spec PyProof.Rows
section
@[simp]def NK:=List Int×Int
abbrev kR(h:ju)(k:NK)(a:bw):Prop:=∃o b t n,h.get? a=aj o/\o.cls=.type "tuple"/\o.data=.seq #[.int k.2 t,.ref b] n/\∀(P:kj)(w:jj),IsTupleKey (aJ P w) h (k.1.map Sum.inl) b
def OI{x y:List Int}(h:x.map (Sum.inl:Int->Key)=y.map Sum.inl):x=y:=by
 induction x generalizing y with
 |nil=>cases y with
  |nil=>rfl
  |cons _ _=>cases h
 |cons a r ih=>cases y with
  |nil=>cases h
  |cons b q =>
   rw[iw,iw]at h;injection h with h1 h2;injection h1 with h1;rw[h1,ih h2]
variable{x:NK}
def Nu{P:kj}{w:jj}(hx:kR h x a)(hy:kR h y a):x=y:=by
 let⟨o,b,t,n,e1,e2,e3,e4⟩:=hx;let⟨o',b',t',n',g1,g2,g3,g4⟩:=hy;rw[e1]at g1;cases g1;rw[e3]at g3;simp only[Data.seq.injEq,Array.mk.injEq,List.cons.injEq,au.ref.injEq,au.int.injEq,and_true]at g3;let⟨⟨⟨h2,_⟩,rfl⟩,_⟩:=g3;have:=OI ((e4 P w).inj (g4 P w));exact Prod.ext this h2
def XZ{P:kj}{w:jj}{h:ju}{k:NK}{d:bw}{o:Obj}{es ep}(x:kR h k a)(ho:h.get? d=aj o)(hd:o.data=.dict es ep)(hs:jr d h h'):kR h' k a:=by
 let⟨o',b,t,n,e1,e2,e3,e4⟩:=x
 have fe:a≠d:=by
  rintro rfl;rw[e1]at ho;cases ho;rw[hd]at e3;exact nomatch e3
 exact⟨o',b,t,n,(hs.2 a fe).trans e1,e2,e3,λP w=>(e4 P w).keeps ho hd hs⟩
variable{Q:Bool->cu->Prop}
section
variable{prog:kj}{w:jj}{A:mq}{E:au->cu->Prop}{s:cu}
abbrev HM(prog:kj)(w:jj)(k:NK):Int:=reduceHash (Builtin.Tuple.tupleHashOf [(aJ prog w).hash (.inl k.2),tupleKeyHash (aJ prog w) (k.1.map Sum.inl)])
def OH{k:NK}(x:kR s.heap k a):s.TypeIs (.ref a) "tuple":=let⟨o,_,_,_,ho,hc,_⟩:=x;⟨o,ho,hc⟩
def YQ{k:NK}{Q:Int->cu->Prop}(hu:A.units+8<qg)(hk:kR s.heap k a)(h:Q (HM prog w k) {s with toks:=s.toks+(1+(k.1.length+1)+1)}) :
  dj (fj prog w) A (pyHash (.ref a)) Q E s:=by
 have hT:=OH hk;let⟨o,b,t,n,ho,hc,hd,hi⟩:=hk;unfold pyHash
 first|unfold pyHashByItsType|skip
 first|refine aq (wpAny_cRoomFor_or (.inr ⋯) ?_)|skip
 refine aq (wpAny_specialOf hT PySem.F.slot_tuple_hash.lookup ?_);show dj _ _ (if(aj (au.builtin "tuple.__hash__")==aj au.none)=ak then _ else _) Q E s;rw[if_neg (by rw[beq_builtin_none];exact vf)];refine aq (wpAny_specialOf hT PySem.F.slot_tuple_hash.lookup ?_);show dj _ _ (callSpecialIfBoundUnlessNone? (.ref a) "__hash__" _ >>= _) Q E s;refine aq (wpAny_callSpecialIfBoundUnlessNone?_slot hT PySem.F.slot_tuple_hash (ur PySem.F.slot_tuple_hash hT PySem.F.entry_tuple_hash ?_ (PySem.F.args_tuple_hash_1 _)));show dj _ _ (Builtin.Tuple.tupleItemsOf (.ref a) >>= _) _ _ s;refine aq (wpAny_tupleItemsOf ho hd ?_);refine aq ?_;rw[←Cj];have hl:(k.1.map (Sum.inl:Int->Key)).length=k.1.length:=dw ..
 refine wpAny_forIn_list _
  (λrest (acc:Array Int) s'=>(rest=[au.int k.2 t,.ref b]/\acc=#[]/\s'=s)∨(rest=[au.ref b]/\acc=#[(aJ prog w).hash (.inl k.2)]/\s'={s with toks:=s.toks+1})∨(rest=[]/\acc=#[(aJ prog w).hash (.inl k.2),tupleKeyHash (aJ prog w) (k.1.map Sum.inl)]/\s'={s with toks:=s.toks+1+(k.1.length+1)}))
  _ ?_ ?_ _ _ (.inl ⟨rfl,rfl,rfl⟩)
 .rintro x rest acc s' (⟨hr,rfl,rfl⟩|⟨hr,rfl,rfl⟩|⟨hr,_⟩)
  .injection hr with h1 h2;subst h1 h2;refine aq ((aJ prog w).pyHash (RB prog w k.2 t) ?_)
   first
    |exact cg (.inr (.inl ⟨rfl,rfl,rfl⟩))
    |exact aq (cg (cg (.inr (.inl ⟨rfl,rfl,rfl⟩))))
  .injection hr with h1 h2;subst h1 h2;refine aq (wpAny_pyHash_tuple (knd:=aJ prog w) (by show A.units+1<qg;omega) (hi prog w) ?_);rw[hl]
   first
    |exact cg (.inr (.inr ⟨rfl,rfl,rfl⟩))
    |exact aq (cg (cg (.inr (.inr ⟨rfl,rfl,rfl⟩))))
  .cases hr
 .rintro acc s' (⟨hr,_⟩|⟨hr,_⟩|⟨_,rfl,rfl⟩)
  .cases hr
  .cases hr
  .show dj _ _ (retInt (Builtin.Tuple.tupleHashOf [(aJ prog w).hash (.inl k.2),tupleKeyHash (aJ prog w) (k.1.map Sum.inl)])) _ _ _;refine wpAny_ret_mkInt ?_;show dj _ _ (if(decide (-(2:Int)^63<=Builtin.Tuple.tupleHashOf [(aJ prog w).hash (.inl k.2),tupleKeyHash (aJ prog w) (k.1.map Sum.inl)])&&decide (Builtin.Tuple.tupleHashOf [(aJ prog w).hash (.inl k.2),tupleKeyHash (aJ prog w) (k.1.map Sum.inl)]<2^63))=ak then _ else _) Q E _;unfold HM reduceHash at h;by_cases hr:(decide (-(2:Int)^63<=Builtin.Tuple.tupleHashOf [(aJ prog w).hash (.inl k.2),tupleKeyHash (aJ prog w) (k.1.map Sum.inl)])&&decide (Builtin.Tuple.tupleHashOf [(aJ prog w).hash (.inl k.2),tupleKeyHash (aJ prog w) (k.1.map Sum.inl)]<2^63))=ak
   .rw[if_pos hr];rw[if_pos hr]at h;exact cg (by simpa[Nat.add_assoc]using h)
   .rw[if_neg hr];rw[if_neg hr]at h;exact aq (k8 (cg (by simpa[Nat.add_assoc]using h)))
def V7(P:kj)(w0:jj){b:bw}(hu:A.units+8<qg)(hx:kR s.heap x a)(hy:kR s.heap y b):SeqAt.EqAt A s (.ref a) (.ref b) (decide (x=y)):=by
 by_cases og:a=b
 .subst og;have e:x=y:=Nu (P:=P) (w:=w0) hx hy;subst e;rw[decide_eq_true rfl];exact SeqAt.EqAt.same _
 .obtain⟨o,b1,t,n,e1,e2,e3,e4⟩:=hx;let⟨o',b2,t',n',g1,g2,g3,g4⟩:=hy;refine SeqAt.EqAt.of_refs og ?_
  have z:=SeqAt.RcAt.tuples (A:=A) (s:=s) (e:=λj=>if j=0 then decide (x.2=y.2)else decide (x.1=y.1)) (show s.heap.IsTuple a #[.int x.2 t,.ref b1]from⟨o,e1,e2,n,e3⟩) (show s.heap.IsTuple b #[.int y.2 t',.ref b2]from⟨o',g1,g2,n',g3⟩) ⋯ (λj h1 h2=>by
   match j,h1,h2 with
   |0,_,_ =>
    rw[if_pos rfl];intro gT w' E' Q' hq
    exact wpAny_eqBool_int (by
     have e:(x.2==y.2)=decide (x.2=y.2):=rfl
     first
      |exact hq
      |(rw[e];exact hq))
   |1,_,_ =>
    rw[if_neg (by decide)];intro gT w' E' Q' hq
    have e:decide (x.1.map (Sum.inl:Int->Key)=y.1.map Sum.inl)=decide (x.1=y.1):=by
     rw[decide_eq_decide];exact⟨OI,λz=>by rw[z]⟩
    exact wpAny_eqBool_tuple (knd:=aJ gT w') (by show A.units+1<qg;omega) (e4 gT w') (g4 gT w') (by rw[e];exact hq)
   |j+2,h1,_=>exact absurd h1 (by simp))
  have e:((jw (min (#[au.int x.2 t,.ref b1]:Array au).size (#[au.int y.2 t',.ref b2]:Array au).size)).all (λj=>if j=0 then decide (x.2=y.2)else decide (x.1=y.1))&&(#[au.int x.2 t,.ref b1]:Array au).size==(#[au.int y.2 t',.ref b2]:Array au).size)=decide (x=y):=by
   show((jw 2).all _&&ak)=_;rw[show jw 2=[0,1]from rfl];simp only[nB,List.all_nil,Bool.and_true,if_true,Nat.one_ne_zero,if_false];rw[EY,bx,decide_eq_true_eq,decide_eq_true_eq,decide_eq_true_eq];exact⟨λz=>Prod.ext z.2 z.1,λz=>by rw[z];exact⟨rfl,rfl⟩⟩
  rw[e]at z;exact z
def ZF{m:Nat}{ks:List Key}(hk:IsTupleKey (aJ prog w) s.heap ks a)(h:Q ak s):dj (fj prog w) A (eqIsQuiet (m+1) (.ref a)) Q E s:=by
 have hT:=hk.typeIs;let⟨o,items,n,ho,_,hd,hi⟩:=hk;unfold eqIsQuiet;refine aq (wpAny_specialOf hT PySem.F.slot_tuple_eq.lookup ?_);show dj _ _ (isInstance (.ref a) (.type "tuple") >>= _) _ _ s;refine aq (wpAny_isInstance hT isSubtype_tuple_tuple ?_);simp only[vm,jf,if_false];refine aq (w8 ho hd ?_);refine aq ?_;show dj _ _ (forIn items _ _) _ _ s;rw[←Cj];refine wpAny_forIn_list _ (λrest r s'=>r.1=bh/\s'=s/\∀v∈rest,carriedByValue v=ak) _ ?_ ?_ _ _ ⟨rfl,rfl,hi.byValue⟩
 .rintro v rest r s' ⟨hr,rfl,ba⟩;rw[eqIsQuiet_byValue _ (ba v wk)];refine aq (cg ?_);simp only[vm,jf,if_false];exact cg ⟨rfl,rfl,λu ie=>ba u (qu _ ie)⟩
 .rintro⟨r1,r2⟩ s' ⟨hr,rfl,_⟩;simp only at hr;subst hr;exact cg h
def XY{k:NK}(hk:kR s.heap k a)(h:Q ak s):dj (fj prog w) A (eqIsQuiet 8 (.ref a)) Q E s:=by
 have hT:=OH hk;let⟨o,b,t,n,ho,_,hd,hi⟩:=hk;unfold eqIsQuiet;refine aq (wpAny_specialOf hT PySem.F.slot_tuple_eq.lookup ?_);show dj _ _ (isInstance (.ref a) (.type "tuple") >>= _) _ _ s;refine aq (wpAny_isInstance hT isSubtype_tuple_tuple ?_);simp only[vm,jf,if_false];refine aq (w8 ho hd ?_);refine aq ?_;rw[←Cj];refine wpAny_forIn_list _ (λrest r s'=>r.1=bh/\s'=s/\∀v∈rest,v=.ref b∨v=.int k.2 t) _ ?_ ?_ _ _ ⟨rfl,rfl,λv hv=>by simpa[or_comm]using hv⟩
 .rintro v rest r s' ⟨hr,rfl,ba⟩;rcases ba v wk with rfl|rfl
  .refine aq (ZF (m:=6) (hi prog w) ?_);simp only[vm,jf,if_false];exact cg ⟨rfl,rfl,λu ie=>ba u (qu _ ie)⟩
  .rw[eqIsQuiet_byValue _ rfl];refine aq (cg ?_);simp only[vm,jf,if_false];exact cg ⟨rfl,rfl,λu ie=>ba u (qu _ ie)⟩
 .rintro⟨r1,r2⟩ s' ⟨hr,rfl,_⟩;simp only at hr;subst hr;exact cg h
end
abbrev qD(prog:kj)(w:jj):HeapKind prog w NK where
 is:=kR
 hash:=HM prog w
 draws:=λk=>1+(k.1.length+1)+1
 room:=λA=>A.units+8<qg
 inj:=λhx hy=>Nu (P:=prog) (w:=w) hx hy
 keeps:=λx ho hd hs=>XZ (P:=prog) (w:=w) x ho hd hs
 pyHash:=λhu hk h=>YQ hu hk h
 eqBool:=λhu hx hy h=>V7 prog w hu hx hy prog w _ _ h
 quiet:=λhk h=>XY hk h
end
variable{x:Str}{ψ:List (bw×Obj)}{s:cu}{i:Nat}
section
inductive D where
 |ag|bl (b:Bool)|int (i:Int)|str (x:Str)|tup (xs:List D)|ref (a:bw)|ty (n:String)
@[simp]def Fg:=jm
@[simp]def oz(H:Hp)(a:bw)(xs:List V):Prop:=H a=aj (.tup xs)
def Bs(h:H a=aj (.tup xs)):oz H a xs:=h
mutual
inductive RD(K:Fg)(H:Hp):D->V->Prop where
 |ag:RD K H .ag .ag
 |bl (b:Bool):RD K H (.bl b) (.bl b)
 |int (i:Int):RD K H (.int i) (.int i)
 |str (x:Str):RD K H (.str x) (.str x)
 |ty (n:String):RD K H (.ty n) (.ty n)
 |ref (a:bw):RD K H (.ref a) (.ref a)
 |tup {a:bw} {xs:List V} {ds:List D}:yM K H a xs->cN K H ds xs->oz H a xs->RD K H (.tup ds) (.ref a)
inductive cN(K:Fg)(H:Hp):List D->List V->Prop where
 |nil:cN K H [] []
 |cons {d:D} {v:V} {ds:List D} {vs:List V}:RD K H d v->cN K H ds vs->cN K H (d::ds) (v::vs)
end
structure Ts(H H':Hp):Prop where
 aE:∀a xs,H a=aj (.tup xs)->H' a=aj (.tup xs)
 lZ:∀a o u,H a=aj (.fY o u)->H' a=aj (.fY o u)
def Ts.refl(H:Hp):Ts H H:=⟨λ_ _ h=>h,λ_ _ _ h=>h⟩
def Ts.trans(a:Ts H H1)(b:Ts H1 H2):Ts H H2:=⟨λc xs h=>b.aE c xs (a.aE c xs h),λc o u h=>b.lZ c o u (a.lZ c o u h)⟩
def Ts.same(s:aI H H'):Ts H H':=⟨λa _ h=>s a _ h,λa _ _ h=>s a _ h⟩
def Ts.rd(t:Ts H H')(h:Rd H a (.tup xs)):Rd H' a (.tup xs):=by
 rcases h with h|⟨o,h⟩
 .exact .inl (t.aE _ _ h)
 .exact .inr ⟨o,t.lZ _ _ _ h⟩
def Ts.xS{K:Fg}(t:Ts H H')(h:yM K H a xs):yM K H' a xs:=h.elim (λq=>.inl (t.rd q)) .inr
def oz.mono(t:Ts H H')(h:oz H a xs):oz H' a xs:=t.aE _ _ h
def bO(h:H p=bh):aI H (upd H p o):=λb u e=>by
 rw[aZ (jF e h)];exact e
mutual
theorem RD.mono{K:Fg}{H H':Hp}(t:Ts H H'):∀{d:D}{v:V},RD K H d v->RD K H' d v
 |_,_,.ag=>.ag
 |_,_,.bl b=>.bl b
 |_,_,.int i=>.int i
 |_,_,.str x=>.str x
 |_,_,.ty n=>.ty n
 |_,_,.ref a=>.ref a
 |_,_,.tup h r e=>.tup (t.xS h) (cN.mono t r) (e.mono t)
theorem cN.mono{K:Fg}{H H':Hp}(t:Ts H H'):∀{ds:List D}{vs:List V},cN K H ds vs->cN K H' ds vs
 |_,_,.nil=>.nil
 |_,_,.cons h r=>.cons (RD.mono t h) (cN.mono t r)
end
section
variable{K:Fg}
def cN.length:∀{ds:List D}{vs:List V},cN K H ds vs->ds.length=vs.length
 |_,_,.nil=>rfl
 |_,_,.cons _ r=>congrArg (·+1) (cN.length r)
def cN.append:∀{ds:List D}{vs:List V}{es:List D}{ws:List V},cN K H ds vs->cN K H es ws->cN K H (ds++es) (vs++ws)
 |_,_,_,_,.nil,s=>s
 |_,_,_,_,.cons h r,s=>.cons h (cN.append r s)
def cN.get:∀{ds:List D}{vs:List V}{i:Nat}{d:D},cN K H ds vs->ds[i]?=aj d->∃v,vs[i]?=aj v/\RD K H d v
 |_,_,_,_,.nil,e=>by simp at e
 |_,_,0,_,.cons r _,e=>by simp at e;subst e;exact⟨_,rfl,r⟩
 |_,_,i+1,d,.cons _ t,e=>by
  let⟨u,h1,h2⟩:=cN.get (i:=i) (d:=d) t (by simpa using e);exact⟨u,by simpa using h1,h2⟩
def cN.DT:∀{ds:List D}{vs:List V}{i:Nat}{v:V},cN K H ds vs->vs[i]?=aj v->∃d,ds[i]?=aj d/\RD K H d v
 |_,_,_,_,.nil,e=>by simp at e
 |_,_,0,_,.cons r _,e=>by simp at e;subst e;exact⟨_,rfl,r⟩
 |_,_,i+1,d,.cons _ t,e=>by
  let⟨u,h1,h2⟩:=cN.DT (i:=i) (v:=d) t (by simpa using e);exact⟨u,by simpa using h1,h2⟩
def cN.ints(ns:List Int):cN K H (ns.map D.int) (ns.map V.int):=by
 induction ns with
 |nil=>exact .nil
 |cons n r ih=>exact .cons (.int n) ih
def cN.zE(r:cN K H ds vs):vs=[]↔ds=[]:=by
 cases r<;>simp
end
@[simp]def DK:=Key ⊕ List Key
inductive GO where
 |lst (ds:List D)|fi (ds:List D)|bD (t:Bool) (aa:List (DK×D))|ins (C:bw) (fs:List (Str×D))|gE (C:bw)|c9 (o:Obj) (t:Bool) (aa:List (DK×D))|cE (ds:List D)|rQ (aa:List (NK×Int))|fb (o:Obj) (aa:List (NK×Int))
@[simp]def Gp:=Addr->Option GO
abbrev aG(G:Gp)(a:bw)(o:GO):Gp:=λb=>if b=a then aj o else G b
def aF:aG G a o a=aj o:=by unfold aG;rw[if_pos rfl]
def aM{b:bw}(h:b≠a):aG G a o b=G b:=by unfold aG;rw[if_neg h]
def fZ{b:bw}(h:G b=aj u)(n:G a=bh):aG G a o b=aj u:=by
 rw[aM];exact h;intro e;subst e;rw[h]at n;cases n
abbrev Le(G G':Gp):Prop:=∀a o,G a=aj o->G' a=aj o
def Le.refl(G:Gp):Le G G:=λ_ _ h=>h
def Le.trans(a:Le G G1)(b:Le G1 G2):Le G G2:=λc o h=>b c o (a c o h)
def Le.new(n:G a=bh):Le G (aG G a o):=λ_ _ h=>fZ h n
abbrev kD:Key->D
 |.inl i=>.int i
 |.inr x=>.str x
abbrev cK:DK->D
 |.inl k=>kD k
 |.inr ks=>.tup (ks.map kD)
inductive c6{α β:Type}(P:α->β->Prop):List α->List β->Prop where
 |nil:c6 P [] []
 |cons {a:α} {b:β} {as:List α} {bs:List β}:P a b->c6 P as bs->c6 P (a::as) (b::bs)
def c6.imp{α β:Type}{P Q:α->β->Prop}(f:∀a b,P a b->Q a b):∀{as:List α}{bs:List β},c6 P as bs->c6 Q as bs
 |_,_,.nil=>.nil
 |_,_,.cons h r=>.cons (f _ _ h) (c6.imp f r)
def c6.length{α β:Type}{P:α->β->Prop}:∀{as:List α}{bs:List β},c6 P as bs->as.length=bs.length
 |_,_,.nil=>rfl
 |_,_,.cons _ r=>congrArg (·+1) (c6.length r)
abbrev BH(C a:bw)(h:ju):Prop:=∃o vs,h.get? a=aj o/\o.cls=.ref C/\o.data=.fields vs
abbrev ft(k:NK):D:=.tup [.int k.2,.tup (k.1.map D.int)]
abbrev ze(P:kj)(w:jj)(a:bw)(xs:List (NK×bw×au))(h:ju):Prop:=(a==qy)=ao/\∃o es ep,h.get? a=aj o/\o.ExactDict/\o.data=.dict es ep/\es.toList=xs.map (entryOfKey (qD P w))/\(xs.map (·.1)).Nodup
abbrev nh(K:Fg)(H:Hp)(p:NK×Int)(x:NK×bw×au):Prop:=x.1=p.1/\RD K H (ft p.1) (.ref x.2.1)/\∃t,x.2.2=au.int p.2 t
abbrev pw(K:Fg)(H:Hp)(a:bw)(aa:List (NK×Int))(o:HO):Prop:=(aa=[]/\o=.dT [])∨∃(P:kj)(w:jj)(xs:List (NK×bw×au)),o=.ext (ze P w a xs)/\Paired (nh K H) aa xs
def pw.imp{K:Fg}(h:pw K H a aa o)(f:∀d v,RD K H d v->RD K H' d v):pw K H' a aa o:=Or.imp id (λ⟨P,w,xs,e,r⟩=>⟨P,w,xs,e,Paired.zh r λ_ _ z=>⟨z.1,f _ _ z.2.1,z.2.2⟩⟩) h
def pw.no{K:Fg}(h:pw K H a aa o):(∀xs,o≠.tup xs)/\(∀ob w,o≠.fY ob w)/\(∀ps,o≠.fT ps)/\∀x,o≠.own x:=by
 rcases h with⟨_,rfl⟩|⟨P,w,xs,rfl,_⟩<;>exact⟨(λ_ z=>nomatch z),(λ_ _ z=>nomatch z),(λ_ z=>nomatch z),(λ_ z=>nomatch z)⟩
abbrev OR(K:Fg)(H:Hp)(a:bw):GO->Prop
 |.lst ds=>∃xs,H a=aj (.lst xs)/\cN K H ds xs
 |.fi ds=>∃xs,bX K H a xs/\cN K H ds xs
 |.bD t aa=>(t=ao/\∃xs:List (Key×V),H a=aj (.dK xs)/\c6 (λp q=>p.1=.inl q.1/\RD K H p.2 q.2) aa xs) ∨
   (t=ak/\∃xs:List (List Key×V),H a=aj (.dT xs)/\c6 (λp q=>p.1=.inr q.1/\RD K H p.2 q.2) aa xs)
 |.ins C fs=>∃(dx:bw)(vs:List (Str×V)),H a=aj (.ins C dx vs)/\c6 (λp q=>p.1=q.1/\RD K H p.2 q.2) fs vs
 |.c9 o t aa=>(t=ao/\∃xs:List (Key×V),H a=aj (.fY o (.dK xs))/\c6 (λp q=>p.1=.inl q.1/\RD K H p.2 q.2) aa xs) ∨
   (t=ak/\∃xs:List (List Key×V),H a=aj (.fY o (.dT xs))/\c6 (λp q=>p.1=.inr q.1/\RD K H p.2 q.2) aa xs)
 |.cE ds=>∃xs,yM K H a xs/\cN K H ds xs
 |.rQ aa=>∃o,H a=aj o/\pw K H a aa o
 |.fb ob aa=>∃o,H a=aj (.fY ob o)/\pw K H a aa o
 |.gE C=>∃o vs,H a=aj (.fY o (.ext (BH C a)))/\o.data=.fields vs/\vs[2]?=aj .none
abbrev HR(K:Fg)(H:Hp)(G:Gp):Prop:=∀a o,G a=aj o->OR K H a o
def OR.keep{K:Fg}(t:Ts H H')(h:OR K H a o)(k:∀u,H a=aj u->H' a=aj u):OR K H' a o:=by
 cases o with
 |lst ds=>let⟨xs,e,r⟩:=h;exact⟨xs,k _ e,r.mono t⟩
 |fi ds =>
  let⟨xs,e,r⟩:=h;refine⟨xs,?_,r.mono t⟩;rcases e with(e|⟨o,e⟩)|e
  .exact .inl (.inl (k _ e))
  .exact .inl (.inr ⟨o,k _ e⟩)
  .exact .inr e
 |bD b aa =>
  rcases h with⟨z,xs,e,r⟩|⟨z,xs,e,r⟩
  .exact .inl ⟨z,xs,k _ e,r.imp λ_ _ q=>⟨q.1,q.2.mono t⟩⟩
  .exact .inr ⟨z,xs,k _ e,r.imp λ_ _ q=>⟨q.1,q.2.mono t⟩⟩
 |ins C fs=>let⟨dx,vs,e,r⟩:=h;exact⟨dx,vs,k _ e,r.imp λ_ _ q=>⟨q.1,q.2.mono t⟩⟩
 |c9 ob b aa =>
  rcases h with⟨z,xs,e,r⟩|⟨z,xs,e,r⟩
  .exact .inl ⟨z,xs,k _ e,r.imp λ_ _ q=>⟨q.1,q.2.mono t⟩⟩
  .exact .inr ⟨z,xs,k _ e,r.imp λ_ _ q=>⟨q.1,q.2.mono t⟩⟩
 |gE C=>let⟨o,vs,e,r⟩:=h;exact⟨o,vs,k _ e,r⟩
 |cE ds=>let⟨xs,e,r⟩:=h;exact⟨xs,t.xS e,r.mono t⟩
 |rQ aa=>let⟨o,e,r⟩:=h;exact⟨o,k _ e,r.imp λ_ _ z=>z.mono t⟩
 |fb ob aa=>let⟨o,e,r⟩:=h;exact⟨o,k _ e,r.imp λ_ _ z=>z.mono t⟩
def HR.same{K:Fg}(h:HR K H G)(s:aI H H'):HR K H' G:=λa o e=>(h a o e).keep (.same s) λu q=>s a u q
def HR.le{K:Fg}(h:HR K H G')(l:Le G G'):HR K H G:=λa o e=>h a o (l a o e)
def HR.put{K:Fg}(h:HR K H G)(n:H p=bh)(new:OR K (upd H p o) p u):HR K (upd H p o) (aG G p u):=λa v e=>by
 by_cases q:a=p
 .subst q;rw[aF]at e;cases e;exact new
 .rw[aM q]at e;exact(h a v e).keep (.same (bO n)) λw z=>bO n a w z
def HR.turn{K:Fg}(h:HR K H G)(t:Ts H (upd H p o))(new:OR K (upd H p o) p u):HR K (upd H p o) (aG G p u):=λa v e=>by
 by_cases q:a=p
 .subst q;rw[aF]at e;cases e;exact new
 .rw[aM q]at e;exact(h a v e).keep t λw z=>by rw[aZ q];exact z
def Ts.turn(e:H p=aj u)(h1:∀xs,u≠.tup xs)(h2:∀ob w,u≠.fY ob w):Ts H (upd H p o):=by
 refine⟨λa xs q=>?_,λa ob w q=>?_⟩
 .rw[aZ];exact q;intro z;subst z;rw[e]at q;exact h1 xs (jk.inj q)
 .rw[aZ];exact q;intro z;subst z;rw[e]at q;exact h2 ob w (jk.inj q)
@[simp]def aP:=List (Option D)
@[simp]def dU:=D->Gp->Prop
@[simp]def cA:=aP->Gp->dU->Prop
@[simp]def wY:=aP->Gp->(Bool->Gp->Prop)->Prop
@[simp]def oR:=aP->Gp->(List D->Gp->Prop)->Prop
abbrev om:aP->Nat->Option D
 |[],_=>bh
 |x::_,0=>x
 |_::r,n+1=>om r n
abbrev wV:aP->Nat->D->aP
 |[],_,_=>[]
 |_::r,0,d=>aj d::r
 |x::r,n+1,d=>x::wV r n d
inductive SR(K:Fg)(H:Hp):aP->St->Prop where
 |nil:SR K H [] []
 |none {ρ:aP} {σ:St} {v:Option V}:SR K H ρ σ->SR K H (Ab::ρ) (v::σ)
 |some {ρ:aP} {σ:St} {d:D} {v:V}:RD K H d v->SR K H ρ σ->SR K H (jk d::ρ) (jk v::σ)
def SR.mono{K:Fg}(t:Ts H H'):∀{ρ:aP}{σ:St},SR K H ρ σ->SR K H' ρ σ
 |_,_,.nil=>.nil
 |_,_,.none r=>.none (SR.mono t r)
 |_,_,.some h r=>.some (h.mono t) (SR.mono t r)
def SR.get{K:Fg}:∀{ρ:aP}{σ:St}{i:Nat}{d:D},SR K H ρ σ->om ρ i=jk d->∃v,σ[i]?=jk (jk v)/\RD K H d v
 |_,_,_,_,.nil,e=>by simp[om]at e
 |_,_,0,_,.none _,e=>by simp[om]at e
 |_,_,0,_,.some h _,e=>by simp[om]at e;subst e;exact⟨_,rfl,h⟩
 |_,_,i+1,_,.none r,e=>by
  let⟨v,h1,h2⟩:=SR.get (i:=i) r (by simpa[om]using e);exact⟨v,by simpa using h1,h2⟩
 |_,_,i+1,_,.some _ r,e=>by
  let⟨v,h1,h2⟩:=SR.get (i:=i) r (by simpa[om]using e);exact⟨v,by simpa using h1,h2⟩
def SR.set{K:Fg}{d:D}(q:RD K H d v):∀{ρ:aP}{σ:St}(i:Nat),SR K H ρ σ->SR K H (wV ρ i d) (σ.set i (jk v))
 |_,_,_,.nil=>.nil
 |_,_,0,.none r=>.some q r
 |_,_,0,.some _ r=>.some q r
 |_,_,i+1,.none r=>.none (SR.set q i r)
 |_,_,i+1,.some h r=>.some h (SR.set q i r)
abbrev Ez(n:Nat)(ds:List D):aP:=ds.map jk++w9 (n - ds.length) Ab
def SR.sP{K:Fg}:∀n:Nat,SR K H (w9 n Ab) (w9 n Ab)
 |0=>.nil
 |n+1=>.none (SR.sP n)
def SR.entry{K:Fg}{k:Nat}:∀{ds:List D}{vs:List V},cN K H ds vs->SR K H (ds.map jk++w9 k Ab) (vs.map jk++w9 k Ab)
 |_,_,.nil=>SR.sP k
 |_,_,.cons h r=>.some h (SR.entry r)
abbrev fS(K:Fg)(t:cA):TE:=λσ H Q=>∃ρ G R,SR K H ρ σ/\HR K H G/\t ρ G R/\∀v H' d G',Ts H H'->RD K H' d v->HR K H' G'->R d G'->Q v H'
abbrev l8(K:Fg)(t:wY):TT:=λσ H Q=>∃ρ G R,SR K H ρ σ/\HR K H G/\t ρ G R/\∀b H' G',Ts H H'->HR K H' G'->R b G'->Q b H'
abbrev Kx(K:Fg)(t:oR):TA:=λσ H Q=>∃ρ G R,SR K H ρ σ/\HR K H G/\t ρ G R/\∀vs H' ds G',Ts H H'->cN K H' ds vs->HR K H' G'->R ds G'->Q vs H'
@[simp]def cC(X:Cx)(e:ji)(t:cA):Prop:=PE X e (fS X.K t)
@[simp]def jI(X:Cx)(e:ji)(t:wY):Prop:=PT X e (l8 X.K t)
@[simp]def sC(X:Cx)(e:ji)(t:wY):Prop:=PW X e (l8 X.K t)
@[simp]def dA(X:Cx)(es:List ji)(t:oR):Prop:=PA X es (Kx X.K t)
structure eY where
 nx:aP->Gp->Prop
 rt:dU
 bk:aP->Gp->Prop:=λ_ _=>False
 ct:aP->Gp->Prop:=λ_ _=>False
@[simp]def bC:=eY->aP->Gp->Prop
structure UpD(K:Fg)(E:eY)(F:Ends):Prop where
 nx:∀ρ G σ H',SR K H' ρ σ->HR K H' G->E.nx ρ G->F.nx σ H'
 rt:∀d G v H',RD K H' d v->HR K H' G->E.rt d G->F.rt v H'
 bk:∀ρ G σ H',SR K H' ρ σ->HR K H' G->E.bk ρ G->F.bk σ H'
 ct:∀ρ G σ H',SR K H' ρ σ->HR K H' G->E.ct ρ G->F.ct σ H'
abbrev AI(K:Fg)(t:bC):TS:=λF σ H=>∃ρ G E,SR K H ρ σ/\HR K H G/\t E ρ G/\UpD K E F
@[simp]def fF(X:Cx)(st:qw)(t:bC):Prop:=PS X st (AI X.K t)
@[simp]def ng(X:Cx)(st:List qw)(t:bC):Prop:=gS X st (AI X.K t)
section
variable{X:Cx}
def PE.imp{t:TE}(h:PE X e t)(k:∀σ H Q,t' σ H Q->t σ H Q):PE X e t':=λψ s σ H Q I q=>h ψ s σ H Q I (k _ _ _ q)
def PT.imp{t:TT}(h:PT X e t)(k:∀σ H Q,t' σ H Q->t σ H Q):PT X e t':=λψ s σ H Q I q=>h ψ s σ H Q I (k _ _ _ q)
def PW.imp{t:TT}(h:PW X e t)(k:∀σ H Q,t' σ H Q->t σ H Q):PW X e t':=λwh ψ s σ H Q I q=>h wh ψ s σ H Q I (k _ _ _ q)
def PA.imp{t:TA}(h:PA X e t)(k:∀σ H Q,t' σ H Q->t σ H Q):PA X e t':=λp ψ s σ H Q I q=>h p ψ s σ H Q I (k _ _ _ q)
def PS.imp{t:TS}(h:PS X e t)(k:∀F σ H,t' F σ H->t F σ H):PS X e t':=λψ s σ H F I q=>h ψ s σ H F I (k _ _ _ q)
abbrev KF(K:Fg)(H:Hp):Prop:=∀b o,K.lookup b=aj o->H b=bh
def lW(I:Inv X ψ σ H s):KF X.K H:=λb o e=>(I.bs b o (I.ok.mod.n9 b o e)).2
def PE.kf{t:TE}(h:PE X e t):PE X e (λσ H Q=>t σ H λv H'=>KF X.K H'->Q v H'):=λψ s σ H Q I q =>
 cV (h ψ s σ H _ I q) λ_ _ ⟨v,H',I',r,q'⟩=>⟨v,H',I',r,q' (lW I')⟩
def gS.imp{t:TS}(h:gS X e t)(k:∀F σ H,t' F σ H->t F σ H):gS X e t':=λψ s σ H F I q=>h ψ s σ H F I (k _ _ _ q)
end
def eV{K:Fg}(g:HR K H G)(n:H p=bh)(k:KF K (upd H p o)):G p=bh:=by
 have kn:K.lookup p=bh:=by
  cases q:K.lookup p with
  |none=>rfl
  |some u=>have:=k p u q;rw[aN]at this;cases this
 cases q:G p with
 |none=>rfl
 |some u =>
  have z:=g p u q;cases u with
  |lst ds=>let⟨xs,e,_⟩:=z;rw[n]at e;cases e
  |fi ds =>
   let⟨xs,e,_⟩:=z;rcases e with(e|⟨o,e⟩)|⟨o,_,_,e,_⟩
   .rw[n]at e;cases e
   .rw[n]at e;cases e
   .rw[kn]at e;cases e
  |bD tt aa =>
   rcases z with⟨_,xs,e,_⟩|⟨_,xs,e,_⟩
   .rw[n]at e;cases e
   .rw[n]at e;cases e
  |c9 ob tt aa =>
   rcases z with⟨_,xs,e,_⟩|⟨_,xs,e,_⟩
   .rw[n]at e;cases e
   .rw[n]at e;cases e
  |ins C fs=>let⟨dx,vs,e,_⟩:=z;rw[n]at e;cases e
  |gE C=>let⟨o,vs,e,_⟩:=z;rw[n]at e;cases e
  |rQ aa=>let⟨_,e,_⟩:=z;rw[n]at e;cases e
  |fb ob aa=>let⟨_,e,_⟩:=z;rw[n]at e;cases e
  |cE ds =>
   let⟨xs,e,_⟩:=z;rcases e with(e|⟨o,e⟩)|⟨o,_,_,e,_⟩
   .rw[n]at e;cases e
   .rw[n]at e;cases e
   .rw[kn]at e;cases e
section
variable{X:Cx}{b c:ji}{ta tb tc:cA}
abbrev aB(i:Nat):cA:=λρ G R=>match om ρ i with
 |some d=>R d G
 |none=>False
abbrev aK(d:D):cA:=λ_ G R=>R d G
private theorem aAO{K:Fg}{Q:VK}(h:fS K (aB i) σ H Q):Gz i σ H Q:=by
 let⟨ρ,G,R,s,g,t,k⟩:=h;unfold aB at t;split at t
 .rename_i d e;let⟨v,h1,h2⟩:=s.get e;exact⟨v,h1,k v H d G (.refl H) h2 g t⟩
 .exact t.elim
def zd{K:Fg}{d:D}(r:∀H,RD K H d v){Q:VK}(h:fS K (aK d) σ H Q):tC v σ H Q:=by
 let⟨ρ,G,R,s,g,t,k⟩:=h;exact k v H d G (.refl H) (r H) g t
def aFX(i:Nat){pos:Pos}(hN:X.N[i]?=aj x:=by rfl)(hv:sv X.env.scope x:=by first|exact Or.inl rfl|exact Or.inr (Or.inl rfl)|exact Or.inr (Or.inr rfl))(hd:(x==("__debug__":Str))=ao:=by decide)
  (eR:(x==("__classdict__":Str))=ao:=by decide):cC X (.Name x pos) (aB i):=PE.imp (NJ hN hv hd eR) λ_ _ _ h=>aAO h
def aFY{i j pos}:cC X (.Constant (.int i) j pos) (aK (.int i)):=PE.imp Ui λ_ _ _ h=>zd (λ_=>.int i) h
def aKM{b j pos}:cC X (.Constant (.bool b) j pos) (aK (.bl b)):=PE.imp aEV λ_ _ _ h=>zd (λ_=>.bl b) h
def aFZ{j pos}:cC X (.Constant .none j pos) (aK .ag):=PE.imp Uh λ_ _ _ h=>zd (λ_=>.ag) h
def aG0{x j pos}:cC X (.Constant (.str x) j pos) (aK (.str x)):=PE.imp Ug λ_ _ _ h=>zd (λ_=>.str x) h
def Nt{d:D}{pos:Pos}(hg:Gl X x)(hm:X.mg x=aj u)(r:RelV v u)(rd:∀H,RD X.K H d v)(hd:(x==("__debug__":Str))=ao:=by decide):cC X (.Name x pos) (aK d) :=
 PE.imp (WR hg hm r hd) λ_ _ _ h=>zd rd h
def aAP{n:String}{pos:Pos}(hg:Gl X x)(hm:X.mg x=bh)(hv:oh x=aj (.type n))(hn:x≠"__name__":=by decide)(hd:(x==("__debug__":Str))=ao:=by decide):cC X (.Name x pos) (aK (.ty n)) :=
 PE.imp (WQ hg hm hv (v:=.ty n) rfl hn hd) λ_ _ _ h=>zd (λ_=>.ty n) h
@[simp]def R3:=D->D->Gp->dU->Prop
abbrev RT(K:Fg)(r:R2)(r3:R3):Prop:=∀(H:Hp)(x y:D)(vx vy:V)(G:Gp)(R:dU)(Q:VK),RD K H x vx->RD K H y vy->HR K H G->r3 x y G R->(∀v H' d G',Ts H H'->RD K H' d v->HR K H' G'->R d G'->Q v H')->r vx vy H λv H'=>KF K H'->Q v H'
abbrev kQ(X:Cx)(f:au->au->Sem au)(r3:R3):Prop:=∃r,tH X f r/\RT X.K r r3
abbrev Fo(K:Fg)(r:R2)(r3:R3):Prop:=∀(H:Hp)(x y:D)(vx vy:V)(G:Gp)(R:dU)(Q:VK),RD K H x vx->RD K H y vy->HR K H G->r3 x y G R->(∀v H' d G',Ts H H'->RD K H' d v->HR K H' G'->R d G'->Q v H')->r vx vy H Q
abbrev uE(X:Cx)(f:au->au->Sem au)(r3:R3):Prop:=∃r,tH X f r/\Fo X.K r r3
abbrev aC(r:R3)(ta tb:cA):cA:=λρ G R=>ta ρ G λx G1=>tb ρ G1 λy G2=>r x y G2 R
variable{r3:R3}
def aG1{K:Fg}(o:RT K r r3){Q:VK}(h:fS K (aC r3 ta tb) σ H Q):xN r (fS K ta) (fS K tb) σ H λv H'=>KF K H'->Q v H':=by
 let⟨ρ,G,R,s,g,t,k⟩:=h;refine⟨ρ,G,_,s,g,t,λvx H1 x G1 t1 rx g1 t'=>?_⟩;refine⟨ρ,G1,_,s.mono t1,g1,t',λvy H2 y G2 t2 ry g2 kc=>?_⟩;exact o H2 x y vx vy G2 R Q (rx.mono t2) ry g2 kc λv H' d G' t3=>k v H' d G' ((t1.trans t2).trans t3)
def HL{K:Fg}(o:Fo K r r3){Q:VK}(h:fS K (aC r3 ta tb) σ H Q):xN r (fS K ta) (fS K tb) σ H Q:=by
 let⟨ρ,G,R,s,g,t,k⟩:=h;refine⟨ρ,G,_,s,g,t,λvx H1 x G1 t1 rx g1 t'=>?_⟩;refine⟨ρ,G1,_,s.mono t1,g1,t',λvy H2 y G2 t2 ry g2 kc=>?_⟩;exact o H2 x y vx vy G2 R Q (rx.mono t2) ry g2 kc λv H' d G' t3=>k v H' d G' ((t1.trans t2).trans t3)
def aKN(o:kQ X (yq op) r3)(ha:cC X a ta)(hb:cC X b tb):cC X (.BinOp a op b pos) (aC r3 ta tb):=by
 let⟨r,o1,o2⟩:=o;exact PE.imp (PE.kf (aF8 o1 ha hb)) λ_ _ _ h=>aG1 o2 h
def Mr(o:uE X (qx op) r3)(ha:cC X a ta)(hb:cC X b tb)(hm:nK op b=ao):cC X (.Compare a [op] [b] pos) (aC r3 ta tb):=by
 let⟨r,o1,o2⟩:=o;exact PE.imp (WC o1 ha hb hm) λ_ _ _ h=>HL o2 h
abbrev aL(t:cA):wY:=λρ G R=>t ρ G λx G1=>match x with
 |.bl k=>R k G1
 |_=>False
def IA{K:Fg}{t:TE}(f:∀σ H Q,fS K t3 σ H Q->t σ H Q)(h:l8 K (aL t3) σ H Q):Hm t σ H Q:=by
 let⟨ρ,G,R,s,g,u,k⟩:=h;refine f _ _ _ ⟨ρ,G,_,s,g,u,λv H' d G' t1 r g1 q=>?_⟩;cases r with
 |bl b=>exact⟨b,rfl,k b H' G' t1 g1 q⟩
 |_=>exact q.elim
def Mq(o:uE X (qx op) r3)(ha:cC X a ta)(hb:cC X b tb)(hm:nK op b=ao):jI X (.Compare a [op] [b] pos) (aL (aC r3 ta tb)):=by
 let⟨r,o1,o2⟩:=o;exact PT.imp (WB o1 ha hb hm) λ_ _ _ h=>IA (λ_ _ _=>HL o2) h
def aG2{e:ji}{t:cA}(h:cC X e t)(he:∀whole,isTrue e X.env whole=(do let v ←whole;standAt e.pos;holding [v] (truthy v)):=by intro _;rfl):jI X e (aL t) :=
 PT.imp (Ue h he) λ_ _ _ h=>IA (λ_ _ _ q=>q) h
abbrev gH(r r':R3)(ta tb tc:cA):cA:=λρ G R=>ta ρ G λx G1=>tb ρ G1 λy G2=>r x y G2 λz G3=>match z with
 |.bl ak=>tc ρ G3 λw G4=>r' y w G4 R
 |.bl ao=>R (.bl ao) G3
 |_=>False
variable{x2:R3}
def PL{K:Fg}(o:Fo K r r3)(o':Fo K r' x2){Q:VK}(h:fS K (gH r3 x2 ta tb tc) σ H Q):HP r r' (fS K ta) (fS K tb) (fS K tc) σ H Q:=by
 let⟨ρ,G,R,s,g,t,k⟩:=h;refine⟨ρ,G,_,s,g,t,λvx H1 x G1 t1 rx g1 t'=>?_⟩;refine⟨ρ,G1,_,s.mono t1,g1,t',λvy H2 y G2 t2 ry g2 kc=>?_⟩;refine o H2 x y vx vy G2 _ _ (rx.mono t2) ry g2 kc λv H3 d G3 t3 rd g3 q=>?_;cases rd with
 |bl b =>
  refine⟨b,rfl,?_⟩;cases b with
  |true =>
   rw[if_pos rfl];refine⟨ρ,G3,_,s.mono ((t1.trans t2).trans t3),g3,q,λvw H4 w G4 t4 eW g4 q'=>?_⟩;exact o' H4 y w vy vw G4 R Q (ry.mono (t3.trans t4)) eW g4 q' λv H' d G' t5=>k v H' d G' (((t1.trans t2).trans t3).trans (t4.trans t5))
  |false =>
   rw[if_neg vf];exact k _ H3 _ G3 ((t1.trans t2).trans t3) (.bl ao) g3 q
 |_=>exact q.elim
def V6(o:uE X (qx op) r3)(o':uE X (qx ku) x2)(ha:cC X a ta)(hb:cC X b tb)(hc:cC X c tc)
  (hm:lastMarks [op,ku] [b,c]=ao:=by with_unfolding_all rfl):cC X (.Compare a [op,ku] [b,c] pos) (gH r3 x2 ta tb tc):=by
 let⟨r,o1,o2⟩:=o;let⟨r',FT,FR⟩:=o';exact PE.imp (Yd o1 FT ha hb hc hm) λ_ _ _ h=>PL o2 FR h
def V5(o:uE X (qx op) r3)(o':uE X (qx ku) x2)(ha:cC X a ta)(hb:cC X b tb)(hc:cC X c tc)
  (hm:lastMarks [op,ku] [b,c]=ao:=by with_unfolding_all rfl):jI X (.Compare a [op,ku] [b,c] pos) (aL (gH r3 x2 ta tb tc)):=by
 let⟨r,o1,o2⟩:=o;let⟨r',FT,FR⟩:=o';exact PT.imp (Yc o1 FT ha hb hc hm) λ_ _ _ h=>IA (λ_ _ _=>PL o2 FR) h
variable{sa:wY}{rest:List ji}
abbrev wZ(t u:wY):wY:=λρ G R=>t ρ G λc G1=>if c=ak then u ρ G1 R else R ao G1
abbrev wW(t u:wY):wY:=λρ G R=>t ρ G λc G1=>if c=ak then R ak G1 else u ρ G1 R
abbrev jE(t:wY):wY:=λρ G R=>t ρ G λc G1=>R (!c) G1
def aAQ{K:Fg}(h:l8 K (wZ sa sb) σ H Q):Ql (l8 K sa) (l8 K sb) σ H Q:=by
 let⟨ρ,G,R,s,g,t,k⟩:=h;refine⟨ρ,G,_,s,g,t,λc H1 G1 t1 g1 q=>?_⟩;cases c with
 |true=>exact⟨ρ,G1,R,s.mono t1,g1,q,λb H' G' t2=>k b H' G' (t1.trans t2)⟩
 |false=>exact k ao H1 G1 t1 g1 q
def aG3{K:Fg}(h:l8 K (wW sa sb) σ H Q):KC (l8 K sa) (l8 K sb) σ H Q:=by
 let⟨ρ,G,R,s,g,t,k⟩:=h;refine⟨ρ,G,_,s,g,t,λc H1 G1 t1 g1 q=>?_⟩;cases c with
 |false=>exact⟨ρ,G1,R,s.mono t1,g1,q,λb H' G' t2=>k b H' G' (t1.trans t2)⟩
 |true=>exact k ak H1 G1 t1 g1 q
def aAR(ha:jI X a sa):sC X (.BoolOp .And [a] pos) sa:=WN ha
def aG4(ha:jI X a sa):sC X (.BoolOp .Or [a] pos) sa:=Ud ha
def aG5(ha:jI X a sa)(hb:sC X (.BoolOp .And (b::rest) pos) sb):sC X (.BoolOp .And (a::b::rest) pos) (wZ sa sb):=PW.imp (Uc ha hb) λ_ _ _ h=>aAQ h
def aKO(ha:jI X a sa)(hb:sC X (.BoolOp .Or (b::rest) pos) sb):sC X (.BoolOp .Or (a::b::rest) pos) (wW sa sb):=PW.imp (aEX ha hb) λ_ _ _ h=>aG3 h
def aG6(ha:jI X a sa):jI X (.UnaryOp .Not a pos) (jE sa):=PT.imp (Ub ha) λσ H Q h=>by
 let⟨ρ,G,R,s,g,t,k⟩:=h;exact⟨ρ,G,_,s,g,t,λc H1 G1 t1 g1 q=>k (!c) H1 G1 t1 g1 q⟩
abbrev nD(ta tb:cA):cA:=λρ G R=>ta ρ G λx G1=>match x with
 |.bl ak=>tb ρ G1 R
 |.bl ao=>R (.bl ao) G1
 |_=>False
abbrev Mp(ta tb:cA):cA:=λρ G R=>ta ρ G λx G1=>match x with
 |.bl ak=>R (.bl ak) G1
 |.bl ao=>tb ρ G1 R
 |_=>False
abbrev Ey(ta:cA):cA:=λρ G R=>ta ρ G λx G1=>match x with
 |.bl c=>R (.bl (!c)) G1
 |_=>False
def Mo{op}(h:cC X a ta):cC X (.BoolOp op [a] pos) ta:=Ua h
def aG7(ha:cC X a ta)(hb:cC X (.BoolOp .And (b::rest) pos) tb):cC X (.BoolOp .And (a::b::rest) pos) (nD ta tb):=PE.imp (T9 ha hb) λσ H Q h=>by
 let⟨ρ,G,R,s,g,t,k⟩:=h;refine⟨ρ,G,_,s,g,t,λv H1 x G1 t1 r g1 q=>?_⟩;cases r with
 |bl c =>
  refine⟨c,rfl,?_⟩;cases c with
  |true=>exact⟨ρ,G1,R,s.mono t1,g1,q,λb H' d G' t2=>k b H' d G' (t1.trans t2)⟩
  |false=>exact k _ H1 _ G1 t1 (.bl ao) g1 q
 |_=>exact q.elim
def aKP(ha:cC X a ta)(hb:cC X (.BoolOp .Or (b::rest) pos) tb):cC X (.BoolOp .Or (a::b::rest) pos) (Mp ta tb):=PE.imp (aF0 ha hb) λσ H Q h=>by
 let⟨ρ,G,R,s,g,t,k⟩:=h;refine⟨ρ,G,_,s,g,t,λv H1 x G1 t1 r g1 q=>?_⟩;cases r with
 |bl c =>
  refine⟨c,rfl,?_⟩;cases c with
  |false=>exact⟨ρ,G1,R,s.mono t1,g1,q,λb H' d G' t2=>k b H' d G' (t1.trans t2)⟩
  |true=>exact k _ H1 _ G1 t1 (.bl ak) g1 q
 |_=>exact q.elim
def aG8(ha:cC X a ta):cC X (.UnaryOp .Not a pos) (Ey ta):=PE.imp (T8 ha) λσ H Q h=>by
 let⟨ρ,G,R,s,g,t,k⟩:=h;refine⟨ρ,G,_,s,g,t,λv H1 x G1 t1 r g1 q=>?_⟩;cases r with
 |bl c=>exact⟨c,rfl,k _ H1 _ G1 t1 (.bl _) g1 q⟩
 |_=>exact q.elim
end
section
variable{X:Cx}{t:oR}
abbrev aD:oR:=λ_ G R=>R [] G
abbrev aA(ta:cA)(tr:oR):oR:=λρ G R=>ta ρ G λx G1=>tr ρ G1 λxs G2=>R (x::xs) G2
def zS:dA X [] aD:=PA.imp aA4 λσ H Q h=>by
 let⟨ρ,G,R,s,g,t,k⟩:=h;exact k [] H [] G (.refl H) .nil g t
def nF(ha:cC X e te)(hr:dA X es t)(hs:jo (e::es) X.env=(ao,eval e X.env)::jo es X.env:=by rfl):dA X (e::es) (aA te t):=PA.imp (WA ha hr hs) λσ H Q h=>by
 let⟨ρ,G,R,s,g,t,k⟩:=h;refine⟨ρ,G,_,s,g,t,λv H1 x G1 t1 r g1 q=>?_⟩;refine⟨ρ,G1,_,s.mono t1,g1,q,λvs H2 xs G2 t2 rs g2 q'=>?_⟩;exact k (v::vs) H2 (x::xs) G2 (t1.trans t2) (.cons (r.mono t2) rs) g2 q'
abbrev bI(t:oR):cA:=λρ G R=>t ρ G λxs G1=>xs.length<=dh/\R (.tup xs) G1
abbrev fW(t:oR):cA:=λρ G R=>t ρ G λxs G1=>xs.length<=dh/\∀p,G1 p=bh->R (.ref p) (aG G1 p (.lst xs))
def aG9{x1}(h:dA X es t):cC X (.Tuple es x1 pos) (bI t):=PE.imp (aA5 h) λσ H Q h=>by
 let⟨ρ,G,R,s,g,t,k⟩:=h;refine⟨ρ,G,_,s,g,t,λvs H1 xs G1 t1 r g1 q=>?_⟩;refine⟨by rw[←r.length];exact q.1,λp hp=>?_⟩;have sn:aI H1 (upd H1 p (.tup vs)):=bO hp;exact k (.ref p) _ (.tup xs) G1 (t1.trans (.same sn)) (.tup (yM.of aN) (r.mono (.same sn)) (Bs aN)) (g1.same sn) q.2
def aGA(h:dA X es t):cC X (.List es pos) (fW t):=PE.imp (PE.kf (aA6 h)) λσ H Q h=>by
 let⟨ρ,G,R,s,g,t,k⟩:=h;refine⟨ρ,G,_,s,g,t,λvs H1 xs G1 t1 r g1 q=>?_⟩;refine⟨by rw[←r.length];exact q.1,λp hp kf=>?_⟩;have sn:aI H1 (upd H1 p (.lst vs)):=bO hp;exact k (.ref p) _ (.ref p) _ (t1.trans (.same sn)) (.ref p) (g1.put (u:=.lst xs) hp ⟨vs,aN,r.mono (.same sn)⟩) (q.2 p (eV g1 hp kf))
end
end
variable{g:Int->Int->Int}
section
variable{f:au->au->Sem au}
section
variable{X:Cx}{a b c:ji}
abbrev AM(C:Int->Int->Prop)(g:Int->Int->Int):R3:=λx y G R=>match x,y with
 |.int i,.int j=>C i j/\R (.int (g i j)) G
 |_,_=>False
abbrev Qe(g:Int->Int->Int):R3:=λx y G R=>match x,y with
 |.int i,.int j=>R (.int (g i j)) G
 |_,_=>False
abbrev Jc(g:Int->Int->Bool):R3:=λx y G R=>match x,y with
 |.int i,.int j=>R (.bl (g i j)) G
 |_,_=>False
def Ec{C:Int->Int->Prop}(h:tH X f (rI C λi j=>.int (g i j))):kQ X f (AM C g):=by
 refine⟨_,h,λH x y vx vy G R Q rx ry gh h k=>?_⟩;cases rx with
 |int i =>
  cases ry with
  |int j=>exact⟨i,j,rfl,rfl,h.1,λ_=>k _ H _ G (.refl H) (.int _) gh h.2⟩
  |_=>exact False.elim h
 |_=>exact False.elim h
def aAT(h:tH X f (hZ λi j=>.int (g i j))):kQ X f (Qe g):=by
 refine⟨_,h,λH x y vx vy G R Q rx ry gh h k=>?_⟩;cases rx with
 |int i =>
  cases ry with
  |int j=>exact⟨i,j,rfl,rfl,λ_=>k _ H _ G (.refl H) (.int _) gh h⟩
  |_=>exact False.elim h
 |_=>exact False.elim h
def Nr{g:Int->Int->Bool}(h:tH X f (hZ λi j=>.bl (g i j))):uE X f (Jc g):=by
 refine⟨_,h,λH x y vx vy G R Q rx ry gh h k=>?_⟩;cases rx with
 |int i =>
  cases ry with
  |int j=>exact⟨i,j,rfl,rfl,k _ H _ G (.refl H) (.bl _) gh h⟩
  |_=>exact False.elim h
 |_=>exact False.elim h
abbrev uP:R3:=Qe λi j=>i - j
abbrev zF:R3:=AM Bu λi j=>i*j
abbrev cW:R3:=AM Gw λi j=>i / j
abbrev cZ:R3:=AM (λ_ j=>0<j) λi j=>i%j
abbrev zI:R3:=AM Gv λi j=>i^j.toNat
def aGD:kQ X (yq .Sub) uP:=aAT T2
def aGE:kQ X (yq .Mult) zF:=Ec T1
def aAU:kQ X (yq .FloorDiv) cW:=Ec WG
def aGF:kQ X (yq .Mod) cZ:=Ec aA0
def aGG:kQ X (yq .Pow) zI:=Ec aA1
abbrev ir:R3:=Jc λi j=>decide (i<j)
abbrev nc:R3:=Jc λi j=>decide (j<i)
def aKQ:uE X (qx .Lt) ir:=Nr aFA
def aKR:uE X (qx .Gt) nc:=Nr aFC
abbrev ja:R3:=λx y G R=>match x,y with
 |.int i,.int j=>R (.bl (decide (i<=j))) G
 |.str i,.str j=>R (.bl (!decide (j.cps.toList<i.cps.toList))) G
 |_,_=>False
def YO:tH X (qx .LtE) (λx y H Q=>∃i j,x=.str i/\y=.str j/\Q (.bl (!decide (j.cps.toList<i.cps.toList))) H):=by
 intro ψ s σ H x y v u Q I rx ry h;let⟨i,j,rfl,rfl,q⟩:=h;let⟨t,rfl⟩:=rx;let⟨t',rfl⟩:=ry;exact PySem.P.le_str ⟨.bl _,H,I,rfl,q⟩
def aKS:uE X (qx .LtE) ja:=by
 refine⟨_,aFB.or YO,λH x y vx vy G R Q rx ry gh h k=>?_⟩;cases rx with
 |int i =>
  cases ry with
  |int j=>exact .inl ⟨i,j,rfl,rfl,k _ H _ G (.refl H) (.bl _) gh h⟩
  |_=>exact False.elim h
 |str i =>
  cases ry with
  |str j=>exact .inr ⟨i,j,rfl,rfl,k _ H _ G (.refl H) (.bl _) gh h⟩
  |_=>exact False.elim h
 |_=>exact False.elim h
abbrev d7:R3:=λx y G R=>match x,y with
 |.int i,.int j=>R (.int (i+j)) G
 |.str i,.str j=>i.length+j.length<=dh/\R (.str (i++j)) G
 |.tup xs,.tup ys=>xs.length+ys.length<=dh/\R (.tup (xs++ys)) G
 |.ref l,.ref m=>match G l,G m with
  |some (.lst xs),aj (.lst ys)=>xs.length+ys.length<=dh/\∀p,G p=bh->R (.ref p) (aG G p (.lst (xs++ys)))
  |_,_=>False
 |_,_=>False
def XX:tH X (yq .Add) (λx y H Q=>∃a b ys,x=.ref a/\y=.ref b/\yM X.K H a []/\yM X.K H b ys/\Q (.ref b) H):=by
 intro ψ s σ H x y v u Q I rx ry h;let⟨a,b,ys,rfl,rfl,ha,hb,q⟩:=h;cases rx;cases ry;let⟨its,r1,p1,_⟩:=I.tuple ha;let⟨bc,r2,p2,_⟩:=I.tuple hb;cases r1;let⟨⟨cls,dd,data,sl⟩,ho,hc,n,hd⟩:=id p1;let⟨⟨Ks,DC,data2,th⟩,oe,Bd,n2,ua⟩:=id p2;simp only at hc hd Bd ua;subst hc hd Bd ua
 exact concat_meets ⟨_,ho,rfl⟩ ⟨_,oe,rfl⟩ noFill_tuple_add seq_tuple_add PySem.F.slot_tuple_add PySem.F.entry_tuple_add (PySem.F.args_tuple_add_2 _ _)
   (tuple_addW0 a b #[] bc.toArray n n2 dd DC sl th (by simp)) ⟨ho,oe,⟨.ref b,H,I,rfl,q⟩⟩
private theorem aGH:kQ X (yq .Add) d7:=by
 refine⟨_,T3.or (ZJ.or (Wt.or (XX.or aAG))),λH x y vx vy G R Q rx ry gh h k=>?_⟩;cases rx with
 |int i =>
  cases ry with
  |int j=>exact .inl ⟨i,j,rfl,rfl,λ_=>k _ H _ G (.refl H) (.int _) gh h⟩
  |_=>exact False.elim h
 |str i =>
  cases ry with
  |str j=>exact .inr (.inl ⟨i,j,rfl,rfl,h.1,λ_=>k _ H _ G (.refl H) (.str _) gh h.2⟩)
  |_=>exact False.elim h
 |@tup a xs ds ha ra ea =>
  cases ry with
  |@tup b ys es hb rb eb =>
   by_cases hn:ds=[]
   .subst hn;cases ra;exact .inr (.inr (.inr (.inl ⟨a,b,ys,rfl,rfl,ha,hb,λ_=>k _ H _ G (.refl H) (.tup hb rb eb) gh h.2⟩)))
   .refine .inr (.inr (.inl ⟨a,b,xs,ys,rfl,rfl,ha,hb,λz=>hn (ra.zE.mp z),by rw[←ra.length,←rb.length];exact h.1,λz _=>?_,λ_ p hp _=>?_⟩))
    .subst z;cases rb;have h2:=h.2;rw[se]at h2;exact k _ H _ G (.refl H) (.tup ha ra ea) gh h2
    .have sn:aI H (upd H p (.tup (xs++ys))):=bO hp;exact k _ _ _ G (.same sn) (.tup (yM.of aN) ((ra.append rb).mono (.same sn)) (Bs aN)) (gh.same sn) h.2
  |_=>exact False.elim h
 |ref l =>
  cases ry with
  |ref m =>
   have h':(match G l,G m with
    |some (.lst xs),aj (.lst ys)=>xs.length+ys.length<=dh/\∀p,G p=bh->R (.ref p) (aG G p (.lst (xs++ys)))
    |_,_=>False):=h
   split at h'
   .rename_i xs ys e1 e2;let⟨xv,f1,r1⟩:=gh l _ e1;let⟨yv,f2,r2⟩:=gh m _ e2;refine .inr (.inr (.inr (.inr ⟨l,m,xv,yv,rfl,rfl,f1,f2,by rw[←r1.length,←r2.length];exact h'.1,λp hp kf=>?_⟩)));have sn:aI H (upd H p (.lst (xv++yv))):=bO hp;exact k _ _ _ _ (.same sn) (.ref p) (gh.put (u:=.lst (xs++ys)) hp ⟨_,aN,(r1.append r2).mono (.same sn)⟩) (h'.2 p (eV gh hp kf))
   .exact h'.elim
  |_=>exact False.elim h
 |_=>exact False.elim h
abbrev bB(G:Gp)(a:bw):Option (List D):=match G a with
 |some (.lst ds)=>aj ds
 |some (.fi ds)=>aj ds
 |_=>bh
private theorem cT{K:Fg}(g:HR K H G){a:bw}(e:bB G a=aj ds):∃xs,bX K H a xs/\cN K H ds xs:=by
 unfold bB at e;split at e
 .rename_i yy q;cases e;let⟨xs,h1,h2⟩:=g a _ q;exact⟨xs,bX.of h1,h2⟩
 .rename_i yy q;cases e;exact g a _ q
 .cases e
abbrev bV:R3:=λx y G R=>match x,y with
 |.tup xs,.int i=>match z7 xs i with
  |some d=>R d G
  |none=>False
 |.str z,.int i=>z.length<=dh/\match z7 z.cps.toList i with
  |some c=>R (.str ⟨#[c]⟩) G
  |none=>False
 |.ref p,.int i=>match bB G p with
  |some xs=>(match z7 xs i with
   |some d=>R d G
   |none=>False)
  |none=>False
 |_,_=>False
def Nq{K:Fg}(r:cN K H ds xs){i:Int}{d:D}(e:z7 ds i=aj d):∃v,z7 xs i=aj v/\RD K H d v:=by
 unfold z7 at e ⊢;rw[←r.length];cases q:qc ds.length i with
 |none=>rw[q]at e;cases e
 |some j =>
  rw[q]at e;exact r.get e
private theorem aKT(ha:cC X a ta)(hb:cC X b tb)(hs:ID b):cC X (.Subscript a b pos) (aC bV ta tb):=by
 refine PE.imp (aFM aAE ha hb hs) λ_ _ _ h=>HL ?_ h;intro H x y vx vy G R Q rx ry gh h k;cases rx with
 |@tup p xs ds hp r =>
  cases ry with
  |int i =>
   have h':(match z7 ds i with
    |some d=>R d G
    |none=>False):=h
   split at h'
   .rename_i d e;let⟨v,e1,e2⟩:=Nq r e;exact .inr (.inl ⟨p,xs,i,v,rfl,rfl,hp,e1,k v H d G (.refl H) e2 gh h'⟩)
   .exact h'.elim
  |_=>exact False.elim h
 |str z =>
  cases ry with
  |int i =>
   have h':z.length<=dh/\(match z7 z.cps.toList i with
    |some c=>R (.str ⟨#[c]⟩) G
    |none=>False):=h
   let⟨hz,h'⟩:=h';split at h'
   .rename_i d e;exact .inr (.inr ⟨z,i,d,rfl,rfl,hz,e,k _ H _ G (.refl H) (.str _) gh h'⟩)
   .exact h'.elim
  |_=>exact False.elim h
 |ref p =>
  cases ry with
  |int i =>
   have h':(match bB G p with
    |some xs=>(match z7 xs i with
     |some d=>R d G
     |none=>False)
    |none=>False):=h
   split at h'
   .rename_i ds e;let⟨xs,hp,r⟩:=cT gh e;split at h'
    .rename_i d e';let⟨v,e1,e2⟩:=Nq r e';exact .inl ⟨p,xs,i,v,rfl,rfl,hp,e1,k v H d G (.refl H) e2 gh h'⟩
    .exact h'.elim
   .exact h'.elim
  |_=>exact False.elim h
 |_=>exact False.elim h
@[simp]def Ct:=aP->Gp->(Option Int->Gp->Prop)->Prop
abbrev Sa(K:Fg)(t:Ct):TO:=λσ H Q=>∃ρ G R,SR K H ρ σ/\HR K H G/\t ρ G R/\∀i H' G',Ts H H'->HR K H' G'->R i G'->Q i H'
@[simp]def J3(X:Cx)(e:Option ji)(t:Ct):Prop:=PO X e (Sa X.K t)
def PO.imp{t:TO}(h:PO X e t)(k:∀σ H Q,t' σ H Q->t σ H Q):PO X e t':=λψ s σ H Q I q=>h ψ s σ H Q I (k _ _ _ q)
abbrev PK:Ct:=λ_ G R=>R bh G
abbrev Np(t:cA):Ct:=λρ G R=>t ρ G λx G1=>match x with
 |.int i=>R (aj i) G1
 |_=>False
def aAV:J3 X bh PK:=PO.imp Wv λσ H Q h=>by
 let⟨ρ,G,R,s,g,t,k⟩:=h;exact k bh H G (.refl H) g t
def aAW(h:cC X e te):J3 X (aj e) (Np te):=PO.imp (Wu h) λσ H Q h=>by
 let⟨ρ,G,R,s,g,t,k⟩:=h;refine⟨ρ,G,_,s,g,t,λv H1 x G1 t1 r g1 q=>?_⟩;cases r with
 |int i=>exact⟨i,rfl,k _ H1 G1 t1 g1 q⟩
 |_=>exact False.elim q
end
end
variable{n:Nat}{F:Ends}
section
section
variable{X:Cx}{st:qw}{rest:List qw}{t u:bC}{te:cA}{pos:Pos}
abbrev aX:bC:=λF ρ G=>F.nx ρ G
abbrev aH(t u:bC):bC:=λF ρ G=>t {F with nx:=u F} ρ G
def aGJ:ng X [] aX:=gS.imp WM λF σ H h=>by
 let⟨ρ,G,E,s,g,q,d⟩:=h;exact d.nx ρ G σ H s g q
def aAX{K:Fg}(h:AI K (aH t u) F σ H):Qk (AI K t) (AI K u) F σ H:=by
 let⟨ρ,G,E,s,g,q,d⟩:=h;exact⟨ρ,G,_,s,g,q,⟨λeM G' aS H' s1 g1 h=>⟨eM,G',E,s1,g1,h,d⟩,d.rt,d.bk,d.ct⟩⟩
def aAY(h1:fF X st t)(h2:ng X rest u):ng X (st::rest) (aH t u):=gS.imp (Yg h1 h2) λ_ _ _ h=>aAX h
def aGK(h1:fF X st t):ng X [st] t:=WL h1
def aAZ:fF X (.Pass pos) aX:=PS.imp WK λF σ H h=>by
 let⟨ρ,G,E,s,g,q,d⟩:=h;exact d.nx ρ G σ H s g q
abbrev dF(te:cA):bC:=λF ρ G=>te ρ G λ_ G1=>F.nx ρ G1
def aB0(he:cC X e te)(hs:oD e bh pos.line X.env=pure ao:=by rfl):fF X (.Expr e pos) (dF te):=PS.imp (WI he hs) λF σ H h=>by
 let⟨ρ,G,E,s,g,q,d⟩:=h;exact⟨ρ,G,_,s,g,q,λv H' x G' t1 r g1 h=>d.nx ρ G' σ H' (s.mono t1) g1 h⟩
abbrev bA(te:cA):bC:=λF ρ G=>te ρ G F.rt
def aGL(he:cC X e te):fF X (.Return (aj e) pos) (bA te):=PS.imp (T7 he) λF σ H h=>by
 let⟨ρ,G,E,s,g,q,d⟩:=h;exact⟨ρ,G,_,s,g,q,λv H' x G' t1 r g1 h=>d.rt x G' v H' r g1 h⟩
abbrev bU(c:wY)(t u:bC):bC:=λF ρ G=>c ρ G λb G1=>if b=ak then t F ρ G1 else u F ρ G1
def aKV{b:List qw}(hc:jI X c tc)(ha:ng X a t)(hb:ng X b u):fF X (.If c a b pos) (bU tc t u):=PS.imp (aF3 hc ha hb) λF σ H h=>by
 let⟨ρ,G,E,s,g,q,d⟩:=h;refine⟨ρ,G,_,s,g,q,λb H' G' t1 g1 h=>?_⟩;cases b with
 |true=>exact⟨ρ,G',E,s.mono t1,g1,h,d⟩
 |false=>exact⟨ρ,G',E,s.mono t1,g1,h,d⟩
abbrev bJ(i:Nat)(te:cA):bC:=λF ρ G=>te ρ G λx G1=>F.nx (wV ρ i x) G1
def Mn(hN:X.N.Nodup)(hi:X.N[i]?=aj x)(hx:Loc X.env.scope x)(he:cC X e te)(hs:oD e (aj (.Name x pos')) pos.line X.env=pure ao:=by rfl)(hf:X.fn x=ak∨X.env.scope.names.lookup x=aj .local:=by first|exact .inl rfl|exact .inr rfl|assumption) :
  fF X (.Assign [.Name x pos'] e pos) (bJ i te):=PS.imp (T6 hN hi hx he hs hf) λF σ H h=>by
 let⟨ρ,G,E,s,g,q,d⟩:=h;exact⟨ρ,G,_,s,g,q,λv H' x G' t1 r g1 h=>d.nx _ G' _ H' ((s.mono t1).set r i) g1 h⟩
end
section
def XW{K:Fg}{J:It}{g:TG}{tb:TS}(Pv:Nat->St->Hp->Prop)(h0:Pv 0 σ H)
  (stop:∀σ H,Pv n σ H->J.stop n H)(go:∀i σ H,i<n->Pv i σ H->J.go i H)
  (hs:∀i x σ H H',i<n->Pv i σ H->J.xw i H x H'->g x σ H' λfN H2=>tb {F with nx:=Pv (i+1),ct:=Pv (i+1),bk:=F.nx} fN H2)(hd:∀σ H,Pv n σ H->F.nx σ H) :
  ∃W:Nat->Nat->St->Hp->Prop,(∃m,W 0 m σ H)/\∀i m σ H,W i m σ H ->
   (J.stop i H/\F.nx σ H)∨(J.go i H/\∃N:St->Hp->Prop,(∀aS H',N aS H'->∃m',m'<m/\W (i+1) m' aS H')/\∀x H',J.xw i H x H'->g x σ H' λfN H2=>tb {F with nx:=N,ct:=N,bk:=F.nx} fN H2):=by
 refine⟨λi m σ H=>m=n - i/\i<=n/\Pv i σ H,⟨n,by simp,ud _,h0⟩,?_⟩;rintro i m σ H ⟨rfl,hi,p⟩;by_cases d5:i<n
 .exact .inr ⟨go i σ H d5 p,Pv (i+1),λaS H' p'=>⟨n - (i+1),⋯,rfl,d5,p'⟩,λx H' y=>hs i x σ H H' d5 p y⟩
 .have e:i=n:=by omega
  subst e;exact .inl ⟨stop σ H p,hd σ H p⟩
end
@[simp]def aW:=Addr->Gp->Prop
@[simp]def qF:=List D->Gp->dU->aW->Prop
abbrev sA(K:Fg)(EX:aW)(E:XK):Prop:=∀C H' G',HR K H' G'->EX C G'->E (.ref C) bh H'
abbrev cX(K:Fg)(sp:qF):Sp:=λvs H Q E=>∃ds G R EX,cN K H ds vs/\HR K H G/\sp ds G R EX/\(∀v H' d G',RD K H' d v->HR K H' G'->R d G'->Q v H')/\sA K EX E
section
variable{EX:aW}
abbrev aKW(n m:Nat)(tb:aW->bC):qF:=λds G R EX=>ds.length=m/\tb EX ⟨λ_ G'=>R .ag G',R,λ_ _=>False,λ_ _=>False⟩ (Ez n ds) G
end
end
section
abbrev lF(P:kj)(w:jj):CA:=λouter H s E e s'=>∃(x C:bw)(H':Hp)(B:ju),e=.ref x/\AG B outer x (.ref C) s'.heap/\wX P w H' B /\
 (∀b o,s.heap.get? b=aj o->H b=bh->b∉frs outer->B.get? b=aj o)/\(∀b o,s.heap.get? b=aj o->b∉frs outer->∃o',B.get? b=aj o') /\
 Un (frs outer) [] H H' s.heap s'.heap/\s'.os=s.os/\AllBare s'.gens/\E (.ref C) bh H'
def OG{b:bw}(h:b∈frs l):∃env∈l,env.frame=aj b:=Cm.mp h
def Iz{b:bw}{env:Env}(h:env∈l)(e:env.frame=aj b):b∈frs l:=Cm.mpr ⟨env,h,e⟩
section
variable{qt:Bool}{P:kj}{w:jj}{K:Fg}{mg:Str->Option au}{base:ju}{N:List Str}{qual:Str}{scope:b9}{f:bw}{cd:au}{A:mq}{outer:List Env}{ar:cu}{aw:Hp}{E:XK}
@[simp]def cS(qt:Bool)(P:kj)(w:jj)(K:Fg)(mg:Str->Option au)(base:ju)(N:List Str)(qual:Str)(scope:b9)(f:bw)(cd:au)(A:mq)(outer:List Env)(ar:cu)(aw:Hp)(E:XK):Cx:=qC qt (lF P w) P w K mg base N qual scope f cd A outer ar aw E
def gR{X:Cx}(I:Inv X ψ σ H s)(dS:X.stack=X.env::X.outer)(hf:X.env.frame=aj X.env.locals){b:bw}(e:X.ar.heap.get? b=aj o)(n:b∉frs X.outer):b∉frs X.stack:=λhb=>by
 let⟨env,he,ml⟩:=OG hb;rw[dS]at he;rcases lg.mp he with rfl|he
 .have z:X.env.locals=b:=jk.inj (hf.symm.trans ml);have h1:=I.ok.above;have h2:=ig e;rw[z]at h1;exact absurd (qb h2 h1) (wz _)
 .exact n (Iz he ml)
def V4(I:Inv (cS qt P w K mg base N qual scope f cd A outer ar aw E) ψ σ H s)(hm:EV s.heap h' e (.ref C) us)(q:E (.ref C) bh H) :
  (cS qt P w K mg base N qual scope f cd A outer ar aw E).xe (.ref e) {s with heap:=h' }:=by
 have dS:(cS qt P w K mg base N qual scope f cd A outer ar aw E).stack=(cS qt P w K mg base N qual scope f cd A outer ar aw E).env::outer:=rfl;have dE:∀env∈(cS qt P w K mg base N qual scope f cd A outer ar aw E).stack,∀b,env.frame=aj b->b∈frs (cS qt P w K mg base N qual scope f cd A outer ar aw E).stack:=λenv he b hb=>Iz he hb;have hB:∀b o,(E4 s.heap (frs (cS qt P w K mg base N qual scope f cd A outer ar aw E).stack)).get? b=aj o->s.heap.get? b=aj o:=λb o e=>PySem.W.of_hideAll _ e;have AK:∀b o,s.heap.get? b=aj o->b∉frs (cS qt P w K mg base N qual scope f cd A outer ar aw E).stack->(E4 s.heap (frs (cS qt P w K mg base N qual scope f cd A outer ar aw E).stack)).get? b=aj o:=λb o e n=>PySem.W.hideAll_get _ e n;have fr:=PySem.W.funFrames_hide I.stack dE;refine ZL (B:=E4 s.heap (frs (cS qt P w K mg base N qual scope f cd A outer ar aw E).stack)) (h0:=s.heap) I.ok.frames rfl hB fr hm λh2 k1 k4=>?_;have up:∀b o,s.heap.get? b=aj o->(∀vs,o.data≠.fields vs)->∃sl,h2.get? b=aj {o with slots:=sl}:=λb o e nd=>k4 b o (hm.keeps b o e) nd
 have A9:∀b∈frs outer,∀o,s.heap.get? b=aj o->∀vs,o.data≠.fields vs:=λb hb o e=>by
  let⟨_,o',d4,hd⟩:=I.js.mem hb;rw[e]at d4;cases d4;exact hd
 refine⟨e,C,H,_,rfl,k1,?_,λb o eb nb hb=>?_,λb o eb hb=>?_,⟨λb o eb nb hb _=>?_,λb o eb nb hb _=>?_,λb o eb nb hx=>I.base.free b o eb nb hx,λb o eb hx=>?_,I.base.aE,I.base.lZ,I.base.yL⟩,I.os,I.bare,q⟩
 .intro b o hb;refine(I.af b o hb).b5 (λc u hc eu=>AK c u eu λhz=>?_) (λ_ z=>z) λ_ _ z=>z;have n:=I.IG c hz;rcases hc with rfl|hc
  .rw[hb]at n;cases n
  .rw[hc]at n;cases n
 .exact AK b o (I.base.keep b o eb nb hb (by simp[qC])) (gR I dS rfl eb hb)
 .obtain⟨o',e'⟩:=I.base.there b o eb (by simp[qC]);exact⟨o',AK b o' e' (gR I dS rfl eb hb)⟩
 .exact k1.stays b o (AK b o (I.base.keep b o eb nb hb (by simp[qC])) (gR I dS rfl eb hb))
 .obtain⟨sl,e1⟩:=I.base.slot b o eb nb hb (by simp[qC]);let⟨th,e2⟩:=up b _ e1 (A9 b hb _ e1);exact⟨th,e2⟩
 .obtain⟨o',e'⟩:=I.base.there b o eb (by simp[qC]);by_cases hb:b∈frs outer
  .obtain⟨sl,e1⟩:=up b o' e' (A9 b hb o' e');exact⟨_,e1⟩
  .exact⟨o',k1.stays b o' (AK b o' e' (gR I dS rfl eb hb))⟩
def V3(hE:∀C H',E' C bh H'->E C bh H')(I:Inv (cS qt P w K mg base N qual scope f cd A outer ar aw E) ψ σ H s)
  (c:lF P w (cS qt P w K mg base N qual scope f cd A outer ar aw E).stack H s E' e s'):(cS qt P w K mg base N qual scope f cd A outer ar aw E).xe e s':=by
 let⟨x,C,H',B,rfl,fl,af,eA,Qd,un,os,bare,q⟩:=c;have dS:(cS qt P w K mg base N qual scope f cd A outer ar aw E).stack=(cS qt P w K mg base N qual scope f cd A outer ar aw E).env::outer:=rfl;refine Yl (B:=B) I.ok.frames rfl fl λh2 k1 k4=>?_
 have Lz:∀b∈frs outer,b∈frs (cS qt P w K mg base N qual scope f cd A outer ar aw E).stack:=λb hb=>by
  let⟨env,he,hf⟩:=OG hb;exact Iz (qu _ he) hf
 have A9:∀b∈frs outer,∀o,s'.heap.get? b=aj o->∀vs,o.data≠.fields vs:=λb hb o e=>by
  let⟨_,o',d4,hd⟩:=fl.aJJ.mem (Lz b hb);rw[e]at d4;cases d4;exact hd
 refine⟨x,C,H',B,rfl,k1,af,λb o eb nb hb=>?_,λb o eb hb=>?_,⟨λb o eb nb hb _=>?_,λb o eb nb hb _=>?_,λb o eb nb hx=>?_,λb o eb hx=>?_,λb xs z=>un.aE b xs (I.base.aE b xs z),λb o u z=>un.lZ b o u (I.base.lZ b o u z),λb ps z=>?_⟩,os.trans I.os,bare,hE _ _ q⟩
 .exact eA b o (I.base.keep b o eb nb hb (by simp[qC])) (I.base.free b o eb nb (by simp[qC])) (gR I dS rfl eb hb)
 .obtain⟨o',e'⟩:=I.base.there b o eb (by simp[qC]);exact Qd b o' e' (gR I dS rfl eb hb)
 .exact k1.stays b o (eA b o (I.base.keep b o eb nb hb (by simp[qC])) (I.base.free b o eb nb (by simp[qC])) (gR I dS rfl eb hb))
 .obtain⟨sl,e1⟩:=I.base.slot b o eb nb hb (by simp[qC]);let⟨th,e2⟩:=un.slot b _ e1 (I.base.free b o eb nb (by simp[qC])) (Lz b hb) (by simp);let⟨Sj,e3⟩:=k4 b _ e2 (A9 b hb _ e2);exact⟨Sj,e3⟩
 .obtain⟨o',e'⟩:=I.base.there b o eb (by simp[qC]);exact un.free b o' e' (I.base.free b o eb nb (by simp[qC])) (by simp)
 .obtain⟨o',e'⟩:=I.base.there b o eb (by simp[qC]);by_cases hb:b∈frs outer
  .obtain⟨o2,e2⟩:=un.there b o' e' (by simp);let⟨sl,e3⟩:=k4 b o2 e2 (A9 b hb o2 e2);exact⟨_,e3⟩
  .obtain⟨o2,e2⟩:=Qd b o' e' (gR I dS rfl eb hb);exact⟨o2,k1.stays b o2 e2⟩
 .obtain⟨m1,e1⟩:=I.base.yL b ps z;let⟨m2,e2⟩:=un.yL b _ e1;exact⟨m1++m2,by rw[e2,Array.append_assoc]⟩
end
abbrev wm(K:Fg)(EX:aW):XK:=λC _ H'=>∃c G',C=.ref c/\HR K H' G'/\EX c G'
structure sM(X:Cx)(EX:aP->aW):Prop where
 Hf:∀ψ σ H s ρ e s',Inv X ψ σ H s->SR X.K H ρ σ->lF X.prog X.w X.stack H s (wm X.K (EX ρ)) e s'->X.xe e s'
structure J1(X:Cx)(EX:aP->aW):Prop where
 made:∀ψ σ H s ρ C e us h',Inv X ψ σ H s->SR X.K H ρ σ->EV s.heap h' e (.ref C) us->wm X.K (EX ρ) (.ref C) bh H->X.xe (.ref e) {s with heap:=h' }
section
variable{qt:Bool}{w:jj}{K:Fg}{mg:Str->Option au}{base:ju}{N:List Str}{A:mq}{outer:List Env}{ar:cu}{aw:Hp}
def PJ(h:sA K EX E)(q:wm K EX C bh H'):E C bh H':=by
 let⟨c,G',rfl,g,q⟩:=q;exact h c H' G' g q
def aKY(h:sA K EX E):sM (cS qt P w K mg base N qual scope f cd A outer ar aw E) (λ_=>EX) :=
 ⟨λψ σ H s ρ e s' I _ c=>V3 (E':=wm K EX) (λC H' q=>PJ h q) I c⟩
def aKZ(h:sA K EX E):J1 (cS qt P w K mg base N qual scope f cd A outer ar aw E) (λ_=>EX) :=
 ⟨λψ σ H s ρ C e us h' I _ hm q=>V4 I hm (PJ h q)⟩
def Ki:PassesOwn (fj P w) (cS qt P w K mg base N qual scope f cd A outer ar aw E).A (cS qt P w K mg base N qual scope f cd A outer ar aw E).env (cS qt P w K mg base N qual scope f cd A outer ar aw E).xe:=PassesOwn.leaving
end
section
variable{X:Cx}{k:Nat}{ps:List Str}{sp:qF}{EX:aP->aW}{x:Str}{t:oR}
abbrev aU(sp:qF)(EX:aP->aW)(t:oR):cA:=λρ G R=>t ρ G λds G1=>sp ds G1 R (EX ρ)
private theorem OF{Q Q':VK}(F:cM qt X.prog X.w X.K X.mg X.base (lF X.prog X.w) k f fd ps (cX X.K sp))(hr:jC qt k X.A)(hb:Binds X.K fd ps [])
  (hx:∀e s',lF X.prog X.w X.stack H s E e s'->X.xe e s')
  (I:Inv X ψ σ H s)(r:Vals vs us)(h:cX X.K sp vs H Q E)(hQ:∀v H',Ts H H'->Q v H'->Q' v H'):dj (fj X.prog X.w) X.A (call (.ref f) us) (EP X ψ σ Q') X.xe s:=by
 have hl:(us++[]).length=ps.length:=by rw[se,←r.length];exact F.len _ _ _ _ h
 refine wpAny_call (Ac (F.run X.A X.stack s H ⟨us,[]⟩ (us++[]) vs Q E hr I.CK (hb s us I.dC hl) (by rw[se];exact r) h) λr s' hq=>?_);cases r with
 |error e=>exact hx e s' hq
 |ok fl =>
  cases fl with
  |ret u =>
   let⟨v,H',os,bare,un,af,r,q⟩:=hq;exact⟨v,H',I.gX (ch:=[]) os un af bare (λb z=>absurd z (by simp)),r,hQ v H' ⟨un.aE,un.lZ⟩ q⟩
  |next=>exact False.elim hq
  |brk=>exact False.elim hq
  |cont=>exact False.elim hq
def V2(F:cM qt X.prog X.w X.K X.mg X.base (lF X.prog X.w) k f fd ps (cX X.K sp))(hr:jC qt k X.A)(hg:Gl X x)(hm:X.mg x=aj (.ref f))(hk:yh X.K (.ref f)=ak)(hb:Binds X.K fd ps [])(hx:sM X EX)
  (ha:dA X (e::es) t)(fA:(x==("__debug__":Str))=ao:=by decide)(he:jo (e::es) X.env=(ao,eval e X.env)::jo es X.env:=by rfl)(gu:(xr pos (jo es X.env)).any (·.1)=ao:=by rfl) :
  cC X (.Call (.Name x p) (e::es) [] pos) (aU sp EX t):=by
 intro ψ s σ H Q I h;let⟨ρ,G,R,sr,g,q,kk⟩:=h;refine yp (oO I hg hm ?_ fA);refine PySem.W.callWith_K (h₀:=X.base) I.ok.mod.n9 hk (cV (ha pos ψ s σ H (λvs H1=>Ts H H1/\∃ds G1,cN X.K H1 ds vs/\HR X.K H1 G1/\sp ds G1 R (EX ρ)) I ⟨ρ,G,_,sr,g,q,λvs H1 ds G1 t1 r1 g1 q1=>⟨t1,ds,G1,r1,g1,q1⟩⟩) λus s1 ⟨vs,H1,I1,r,t1,ds,G1,r1,g1,q1⟩=>⟨I1.dC,?_⟩) he gu;refine OF (E:=wm X.K (EX ρ)) F hr hb (λe s' c=>hx.Hf ψ σ H1 s1 ρ e s' I1 (sr.mono t1) c) I1 r (Q:=λv H'=>∃d G',RD X.K H' d v/\HR X.K H' G'/\R d G') ⟨ds,G1,R,EX ρ,r1,g1,q1,λv H' d G' r2 g2 q2=>⟨d,G',r2,g2,q2⟩,λC H' G' g' q'=>⟨C,G',rfl,g',q'⟩⟩ (by rintro v H' t2 ⟨d,G',r2,g2,q2⟩;exact kk v H' d G' (t1.trans t2) r2 g2 q2)
def aB1{qt:Bool}{P:kj}{w:jj}{K:Fg}{mg:Str->Option au}{base:ju}{qual:Str}{st:qw}{f:bw}{fd:qj}{N ps:List Str}{k:Nat}{tb:aW->bC}(F:sL K x qual st f fd)(S:bG N ps (bL st))
  (fh:∀(c5:au)(A:mq)(outer:List Env)(s:cu)(H:Hp)(E:XK)(EX:aW),jC qt k (A.deeper (envOfC qual (bL st) s.heap.objs.size f c5))->sA K EX E ->
   ng (cS qt P w K mg base N qual (bL st) f c5 A outer s H E) (cP st) (tb EX)):cM qt P w K mg base (lF P w) (k+1) f fd ps (cX K (aKW N.length ps.length tb)):=by
 let⟨oc,od,dV,kV,doc,pm,an,c5,ct,x4,rfl,lk,eR⟩:=F.ex;have gu:ps.length<=N.length:=by have:=congrArg pf S.pre;rw[Ce]at this;omega
 refine aFF lk eR S (λvs H Q E h=>?_) λA outer s H vs Q E hr gf=>?_
 .obtain⟨ds,G,R,EX,r,g,⟨hl,q⟩,_⟩:=h;rw[←r.length,hl]
 .obtain⟨ds,G,R,EX,r,g,⟨hl,q⟩,kk,hE⟩:=gf;refine⟨_,fh c5 A outer s H E EX hr hE,Ez N.length ds,G,_,?_,g,q,⟨λρ G' aS H' s1 g1 q1=>kk .ag H' .ag G' .ag g1 q1,λd G' v H' r1 g1 q1=>kk v H' d G' r1 g1 q1,λ_ _ _ _ _ _ z=>z.elim,λ_ _ _ _ _ _ z=>z.elim⟩⟩;unfold Ez start;rw[r.length];exact SR.entry r
end
section
variable{X:Cx}{C:bw}{fE:List au}{B Bn newId AS dq AY:String}{EX:aP->aW}{x:Str}{t:oR}
private theorem E0{K:Fg}{h:ju}(XK:K.In h)(q:oS K C fE newId=ak):∃bm N nm q bs hdct sn sub ab col dd k0 k1 k2 k3 k5 mN,h.get? C=aj (excClassObj nm q C N bs bm hdct sn sub ab col dd k0 k1 k2 k3 k5 newId)/\h.Ns N mN/\mN "__init__"=bh/\OwnTail h fE bm:=by
 unfold oS at q;split at q
 .rename_i dd cd sl ho;split at q
  .rename_i C' bm k0 k1 k2 k3 n k5 hm hs;simp only[bx,beq_iff_eq,jc]at q;let⟨⟨⟨⟨⟨rfl,rfl⟩,CJ⟩,ht⟩,af⟩,qi⟩:=q;let⟨nm,bs,mro,ns,qn,hd,sn,sub,ab,col,del⟩:=cd;dsimp only at hm CJ af qi;subst hm CJ
   have S1:sl=#[k0,k1,k2,k3,aj (.builtin n),k5]:=by
    let⟨l⟩:=sl;simp only at hs;rw[hs]
   subst S1;exact⟨bm,ns,nm,qn,bs,hd,sn,sub,ab,col,dd,k0,k1,k2,k3,k5,_,XK _ _ ho,.of_isNs (PySem.W.isNs_of_in XK af),PySem.W.nsMap_none_of_in XK af qi,PySem.W.tail_of_in XK ht⟩
  .cases q
 .cases q
abbrev Iy(EX:aP->aW)(C:bw)(t:oR):bC:=λ_ ρ G=>t ρ G λds G1=>ds.length<=dh/\EX ρ C G1
def V1(hc:X.calm=ak)(Fn:rS Bn newId AY DF)(ui:fE.contains (.type Bn)=ak)(FB:rS B AS dq fE)(hg:Gl X x)(hm:X.mg x=aj (.ref C))(hq:oS X.K C fE newId=ak)(hT:J1 X EX)
  (ha:dA X (e::es) t)(hd:(x==("__debug__":Str))=ao:=by decide)
  (he:jo (e::es) X.env=(ao,eval e X.env)::jo es X.env:=by rfl)(dt:(xr ai (jo es X.env)).any (·.1)=ao:=by rfl) :
  fF X (.Raise (aj (.Call (.Name x np) (e::es) [] ai)) bh pos) (Iy EX C t):=by
 intro ψ s σ H F I h;let⟨ρ,G,E3,sr,g,q,dd⟩:=h;let⟨tl,N,nm,q',bs,hdct,sn,sub,ab,col,eS,k0,k1,k2,k3,k5,mN,hC,hN,qi,T⟩:=E0 I.mod.n9 hq
 refine wpAny_Raise_call_subU (C:=C) (nm:=nm) (q:=q') (N:=N) (bs:=bs) (bm:=tl) (hdct:=hdct) (sn:=sn) (sub:=sub) (ab:=ab) (col:=col) (dd:=eS) (k0:=k0) (k1:=k1) (k2:=k2) (k3:=k3) (k5:=k5)
  Fn ui FB (mN:=mN) (T.hasType FB.hasBase) (I.ok.hd hc) (by rw[he];show(ao||(xr ai (jo es X.env)).any (·.1))=ao;rw[dt];rfl) qi (oO I hg hm ⟨rfl,?_⟩ hd)
 have hA:=ha ai ψ s σ H (λvs H1=>Ts H H1/\∃ds G1,cN X.K H1 ds vs/\HR X.K H1 G1/\ds.length<=dh/\EX ρ C G1) I ⟨ρ,G,_,sr,g,q,λvs H1 ds G1 t1 r1 g1 q1=>⟨t1,ds,G1,r1,g1,q1.1,q1.2⟩⟩;rw[he]at hA ⊢;refine Calls.evalArgs_plain (cV hA ?_);rintro us s2 ⟨vs,H2,I2,r2,t1,ds,G1,r1,g1,hl,q1⟩;exact⟨rfl,by rw[←r2.length,←r1.length];exact hl,I2.bk _ _ hC,hN.keeps I2.bk,T.keeps I2.bk,λh' e' A6=>hT.made ψ σ H2 s2 ρ C e' us h' I2 (sr.mono t1) A6 ⟨C,G1,rfl,g1,q1⟩⟩
end
end
section
abbrev DS:aP->Nat->aP
 |[],_=>[]
 |_::r,0=>bh::r
 |x::r,n+1=>x::DS r n
section
def XV{w:jj}{B:ju}{x:bw}(af:wX P w H B)(n:B.get? x=bh):H x=bh:=by
 cases e0:H x with
 |none=>rfl
 |some o =>
  have lt:=(af x o e0)
  obtain⟨o',d4⟩:∃o',B.get? x=aj o':=by
   cases o with
   |lst xs=>let⟨_,_,_,_,e⟩:=lt;exact⟨_,e⟩
   |tup xs=>let⟨_,_,_,o,e,_⟩:=lt;exact⟨_,e⟩
   |dK aa=>let⟨_,_,_,_,o,_,_,e,_⟩:=lt;exact⟨_,e⟩
   |dT aa=>let⟨_,_,_,_,o,_,_,e,_⟩:=lt;exact⟨_,e⟩
   |set S n=>let⟨o,_,_,_,e,_⟩:=lt;exact⟨_,e⟩
   |ins C dx fs=>let⟨_,_,_,e,_⟩:=lt;exact⟨_,e⟩
   |own y=>let⟨_,e⟩:=lt;exact⟨_,e⟩
   |xd fs=>let⟨_,⟨_,_,_,e,_⟩,_⟩:=lt;exact⟨_,e⟩
   |C7 lo hi=>let⟨_,_,_,e⟩:=lt;exact⟨_,e⟩
   |fY ob u=>let⟨e,_⟩:=lt;exact⟨_,e⟩
   |fT ps=>exact⟨_,(show B.get? x=aj _ from lt)⟩
   |met f y=>exact⟨_,(show B.get? x=aj _ from lt)⟩
   |ext φ=>let⟨_,⟨_,e⟩,_⟩:=lt;exact⟨_,e⟩
  rw[n]at d4;cases d4
end
end
variable{A:mq}
section
variable{x:D}
section
variable{X:Cx}{a b c:ji}
abbrev we(t:cA):cA:=λρ G R=>t ρ G λx G1=>match x with
 |.int i=>R (.int (-i)) G1
 |_=>False
def aGN(ha:cC X a ta):cC X (.UnaryOp .USub a pos) (we ta):=PE.imp (aF9 aA2 ha) λσ H Q h=>by
 let⟨ρ,G,R,s,g,t,k⟩:=h;refine⟨ρ,G,_,s,g,t,λv H1 x G1 t1 r g1 q=>?_⟩;cases r with
 |int i=>exact⟨i,rfl,k _ H1 _ G1 t1 (.int _) g1 q⟩
 |_=>exact False.elim q
abbrev bQ:Nat->D->Bool
 |0,.tup _=>ao
 |n+1,.tup xs=>xs.all (bQ n)
 |_,.ref _=>ao
 |_,.ty _=>ao
 |_,_=>ak
mutual
noncomputable def aT:D->D->Bool
 |.ag,.ag=>ak
 |.bl a,.bl b=>a==b
 |.bl a,.int b=>(if a then 1 else 0)==b
 |.int a,.bl b=>a==(if b then 1 else 0)
 |.int a,.int b=>a==b
 |.str a,.str b=>a==b
 |.tup xs,.tup ys=>gO xs ys
 |_,_=>ao
noncomputable def gO:List D->List D->Bool
 |[],[]=>ak
 |x::xs,y::ys=>aT x y&&gO xs ys
 |_,_=>ao
end
abbrev rR(xs ys:List D)(j:Nat):Bool:=match xs[j]?,ys[j]? with
 |some a,aj b=>aT a b
 |_,_=>ao
def a5K(n:Nat)(e:Nat->Bool):(jw (n+1)).all e=(e 0&&(jw n).all λj=>e (j+1)):=by
 rw[List.range_succ_eq_map,nB,List.all_map];rfl
def jG:∀(xs ys:List D),gO xs ys=((jw (min xs.length ys.length)).all (rR xs ys)&&xs.length==ys.length)
 |[],[]=>rfl
 |[],y::ys=>by simp[gO]
 |x::xs,[]=>by simp[gO]
 |x::xs,y::ys=>by
  have ih:=jG xs ys;have e:min (x::xs).length (y::ys).length=min xs.length ys.length+1:=by simp only[uw];omega
  rw[gO,ih,e,a5K];have e0:rR (x::xs) (y::ys) 0=aT x y:=rfl
  have e1:(λj=>rR (x::xs) (y::ys) (j+1))=rR xs ys:=by
   funext j;simp[rR]
  have e2:((x::xs).length==(y::ys).length)=(xs.length==ys.length):=by
   simp only[uw];by_cases h:xs.length=ys.length
   .simp[h]
   .have h':¬ (xs.length+1=ys.length+1):=by omega
    simp[h,h']
  rw[e0,e1,e2,Bool.and_assoc]
def PH{xs ys:List D}(h:(xs.length !=ys.length)=ak):gO xs ys=ao:=by
 rw[jG];have:(xs.length==ys.length)=ao:=by simpa using h
 rw[this,Bool.and_false]
def QI{xs ys:List D}(h:xs.length=ys.length):gO xs ys=(jw xs.length).all (rR xs ys):=by
 rw[jG,h];simp
def cN.aGO{K:Fg}(ih:∀{x y:D}{v:V},bQ n x=ak->bQ n y=ak->RD K H x v->RD K H y v->x=y):∀{xs ys:List D},(∀x∈xs,bQ n x=ak)->(∀y∈ys,bQ n y=ak)->cN K H xs vs->cN K H ys vs->xs=ys:=by
 induction vs with
 |nil=>intro xs ys _ _ h1 h2;cases h1;cases h2;rfl
 |cons v vs jh =>
  intro xs ys hx hy h1 h2;cases h1 with
  |cons a r =>
  cases h2 with
  |cons b t=>rw[ih (hx _ (wk ..)) (hy _ (wk ..)) a b,jh (λx m=>hx x (qu _ m)) (λy m=>hy y (qu _ m)) r t]
def RD.inj(I:Inv X ψ σ H s):∀{x y:D}{v:V},bQ n x=ak->bQ n y=ak->RD X.K H x v->RD X.K H y v->x=y:=by
 induction n with
 |zero=>intro x y v hx hy h1 h2;cases h1<;>cases h2<;>first|rfl|cases hx|cases hy
 |succ n ih =>
  intro x y v hx hy h1 h2;cases h1 with
  |tup s1 r1 _ =>
   cases h2 with
   |tup s2 r2 _ =>
    have e:=I.JY s1 s2;subst e;rw[cN.aGO ih (by simpa[bQ]using hx) (by simpa[bQ]using hy) r1 r2]
   |ref=>cases hy
  |ref=>cases hx
  |_=>cases h2;rfl
mutual
theorem PF:∀{n:Nat}{x:D},bQ n x=ak->aT x x=ak
 |_,.ag,_=>rfl
 |_,.bl b,_=>by simp[aT]
 |_,.int b,_=>by simp[aT]
 |_,.str b,_=>by simp[aT]
 |n,.ref _,h=>by cases n<;>simp[bQ]at h
 |n,.ty _,h=>by cases n<;>simp[bQ]at h
 |0,.tup _,h=>by simp[bQ]at h
 |n+1,.tup xs,h=>by rw[aT];exact JV (n:=n) (by simpa[bQ]using h)
theorem JV:∀{n:Nat}{xs:List D},(∀x∈xs,bQ n x=ak)->gO xs xs=ak
 |_,[],_=>rfl
 |n,x::xs,h=>by rw[gO,PF (h x (by simp)),JV λy m=>h y (by simp[m])];rfl
end
def Vals.He{K:Fg}(r:cN K H ds xs)(v:Vals xs us){j:Nat}(e:us[j]?=aj u):∃d x,ds[j]?=aj d/\RD K H d x/\RelV x u:=by
 have hj:j<us.length:=(jd.mp e).1;have Dw:j<xs.length:=by rw[v.length];exact hj
 have ex:xs[j]?=aj xs[j]:=gV Dw;let⟨u',e1,r1⟩:=v.get ex;rw[e]at e1;cases e1;let⟨d,e2,r2⟩:=r.DT ex;exact⟨d,_,e2,r2,r1⟩
def uQ{K:Fg}{n:Nat}{us ws:List au}(rx:cN K H xs vx)(ry:cN K H ys vy)(R9:Vals vx us)(R8:Vals vy ws)
  (ih:∀x∈xs,∀y∈ys,∀(v w:V)(u t:au),RD K H x v->RD K H y w->RelV v u->RelV w t->SeqAt.EqAt A s u t (aT x y)) :
  ∀j (h1:j<us.toArray.size) (h2:j<ws.toArray.size),SeqAt.EqAt A s us.toArray[j] ws.toArray[j] (rR xs ys j):=by
 intro j h1 h2;have e1:us[j]?=aj us.toArray[j]:=by simp[gV (show j<us.length by simpa using h1)]
 have e2:ws[j]?=aj ws.toArray[j]:=by simp[gV (show j<ws.length by simpa using h2)]
 let⟨d,x,f1,f2,f3⟩:=Vals.He rx R9 e1;let⟨d',y,g1,g2,g3⟩:=Vals.He ry R8 e2;have e:rR xs ys j=aT d d':=by simp[rR,f1,g1]
 rw[e];exact ih d (qd f1) d' (qd g1) x y _ _ f2 g2 f3 g3
abbrev eQ:D->Bool
 |.ag=>ak
 |.bl _=>ak
 |.int _=>ak
 |.str _=>ak
 |_=>ao
def OE{K:Fg}(hx:eQ x=ak)(hy:eQ y=ak)(rx:RD K H x vx)(ry:RD K H y vy)(ru:RelV vx u)(rv:RelV vy v):SeqAt.EqAt A s u v (aT x y):=by
 have fx:tK vx=ak:=by cases rx<;>first|rfl|cases hx
 have fy:tK vy=ak:=by cases ry<;>first|rfl|cases hy
 have e:i5 vx vy=aT x y:=by cases rx<;>cases ry<;>first|(simp[i5,aT];done)|cases hx|cases hy
 rw[←e];exact NG ru rv fx fy
def uR(h:A.units+(n+1)<qg):A.in1.units+n<qg:=by
 show A.units+1+n<qg;omega
inductive Vw(X:Cx)(H:Hp)(s:cu):D->au->Prop where
 |ag:Vw X H s .ag .none
 |bl (b:Bool):Vw X H s (.bl b) (.bool b)
 |int (i:Int) (t:Nat):Vw X H s (.int i) (.int i t)
 |str (z:Str) (t:Nat):Vw X H s (.str z) (.str z t)
 |tup {a:bw} {vs:List V} {ds:List D} {its:List au} (q:yM X.K H a vs) (r:cN X.K H ds vs) (c:oz H a vs) (w:Vals vs its) (p:s.heap.IsTuple a its.toArray):Vw X H s (.tup ds) (.ref a)
def vw(I:Inv X ψ σ H s)(hx:bQ n x=ak)(rx:RD X.K H x vx)(ru:RelV vx u):Vw X H s x u:=by
 cases rx with
 |ag=>cases ru;exact .ag
 |bl b=>cases ru;exact .bl b
 |int i=>let⟨t,rfl⟩:=ru;exact .int i t
 |str z=>let⟨t,rfl⟩:=ru;exact .str z t
 |tup q r c=>cases ru;let⟨its,w,p,_⟩:=I.tuple q;exact .tup q r c w p
 |_=>cases n<;>simp[bQ]at hx
def Ex(I:Inv X ψ σ H s):∀(n:Nat)(A:mq)(x y:D)(vx vy:V)(u v:au),A.units+n<qg->bQ n x=ak->bQ n y=ak->RD X.K H x vx->RD X.K H y vy->RelV vx u->RelV vy v->SeqAt.EqAt A s u v (aT x y):=by
 intro n
 induction n with
 |zero =>
  intro A x y vx vy u v hu hx hy rx ry ru rv;have sx:eQ x=ak:=by cases x<;>first|rfl|(simp[bQ]at hx)
  have sy:eQ y=ak:=by cases y<;>first|rfl|(simp[bQ]at hy)
  exact OE sx sy rx ry ru rv
 |succ n ih =>
  intro A x y vx vy u v hu hx hy rx ry ru rv;have az:A.units<qg:=by omega
  cases vw I hx rx ru with
  |@tup ax xs ds its Tq FH TY vv px =>
   cases vw I hy ry rv with
   |@tup ay ys es Dl Tp FG TX ww py =>
    by_cases og:ax=ay
    .subst og;have e:=RD.inj I (n:=n+1) hx hy (.tup Tq FH TY) (.tup Tp FG TX);rw[e,PF hy];exact SeqAt.EqAt.same _
    .refine SeqAt.EqAt.of_refs og ?_
     have z:=SeqAt.RcAt.tuples (e:=rR ds es) px py az (uQ (n:=n) FH FG vv ww λx mx y my v w u t r1 r2 r3 r4 =>
      ih A.in1 x y v w u t (uR hu) (jl.mp (by simpa[bQ]using hx) x mx) (jl.mp (by simpa[bQ]using hy) y my) r1 r2 r3 r4)
     have e:((jw (min its.toArray.size Dl.toArray.size)).all (rR ds es)&&its.toArray.size==Dl.toArray.size)=aT (.tup ds) (.tup es):=by
      rw[aT,jG,je,je,←vv.length,←ww.length,←FH.length,←FG.length]
     rw[e]at z;exact z
   |_=>simp only[aT];with_reducible first|exact SeqAt.EqAt.tuple_none px az|exact SeqAt.EqAt.tuple_bool _ px az|exact SeqAt.EqAt.tuple_int _ _ px az|exact SeqAt.EqAt.tuple_str _ _ px az
  |_ =>
   cases vw I hy ry rv with
   |tup _ _ _ _ py=>simp only[aT];with_reducible first|exact SeqAt.EqAt.none_tuple py az|exact SeqAt.EqAt.bool_tuple _ py az|exact SeqAt.EqAt.int_tuple _ _ py az|exact SeqAt.EqAt.str_tuple _ _ py az
   |_=>exact OE rfl rfl rx ry ru rv
end
end
section
section
variable{X:Cx}
local macro_rules| `(tactic| walk_at "rc")=>`(tactic| first|exact SeqAt.RcAt.none_none|exact SeqAt.RcAt.none_bool _|exact SeqAt.RcAt.none_int _ _|exact SeqAt.RcAt.none_str _ _|exact SeqAt.RcAt.bool_none _|exact SeqAt.RcAt.bool_bool _ _|exact SeqAt.RcAt.bool_int _ _ _|exact SeqAt.RcAt.bool_str _ _ _|exact SeqAt.RcAt.int_none _ _|exact SeqAt.RcAt.int_bool _ _ _|exact SeqAt.RcAt.int_int _ _ _ _|exact SeqAt.RcAt.int_str _ _ _ _|exact SeqAt.RcAt.str_none _ _|exact SeqAt.RcAt.str_bool _ _ _|exact SeqAt.RcAt.str_int _ _ _ _|exact SeqAt.RcAt.str_str _ _ _ _)
def aL2(I:Inv X ψ σ H s)(n:Nat)(A:mq)(x y:D)(vx vy:V)(u v:au)(hu:A.units+(n+1)<qg)(hx:bQ (n+1) x=ak)(hy:bQ (n+1) y=ak)(rx:RD X.K H x vx)(ry:RD X.K H y vy)(ru:RelV vx u)(rv:RelV vy v):SeqAt.RcAt A s u v (aT x y):=by
 have az:A.units<qg:=by omega
 cases vw I hx rx ru with
 |@tup a1 sR cz iq h1 r1 _ fq p1 =>
  cases vw I hy ry rv with
  |@tup a2 AH yO bc h2 r2 _ hU p2 =>
   have z:=SeqAt.RcAt.tuples (e:=rR cz yO) p1 p2 az (uQ (n:=n) r1 r2 fq hU λx mx y my v w u t q1 q2 q3 q4 =>
      Ex I n A.in1 x y v w u t (uR hu) (jl.mp (by simpa[bQ]using hx) x mx) (jl.mp (by simpa[bQ]using hy) y my) q1 q2 q3 q4)
   have e:((jw (min iq.toArray.size bc.toArray.size)).all (rR cz yO)&&iq.toArray.size==bc.toArray.size)=aT (.tup cz) (.tup yO):=by
    rw[aT,jG,je,je,←fq.length,←hU.length,←r1.length,←r2.length]
   rw[e]at z;exact z
  |_=>simp only[aT];with_reducible first|exact SeqAt.RcAt.tuple_none p1 az|exact SeqAt.RcAt.tuple_bool _ p1 az|exact SeqAt.RcAt.tuple_int _ _ p1 az|exact SeqAt.RcAt.tuple_str _ _ p1 az
 |_ =>
  cases vw I hy ry rv with
  |tup _ _ _ _ p2=>simp only[aT];with_reducible first|exact SeqAt.RcAt.none_tuple p2 az|exact SeqAt.RcAt.bool_tuple _ p2 az|exact SeqAt.RcAt.int_tuple _ _ p2 az|exact SeqAt.RcAt.str_tuple _ _ p2 az
  |_=>simp only[aT];with_reducible walk_at "rc"
def aL3(I:Inv X ψ σ H s)(n:Nat)(A:mq)(hl:bX X.K H a1 xs)(y:D)(vy:V)(v:au)(az:A.units<qg)(hy:bQ n y=ak)(ry:RD X.K H y vy)(rv:RelV vy v):SeqAt.RcAt A s (.ref a1) v ao:=by
 let⟨its,vv,pl,_⟩:=I.list hl;cases vw I hy ry rv with
 |tup _ _ _ _ p2=>exact SeqAt.RcAt.list_tuple pl.isList p2 az
 |_=>with_reducible first|exact SeqAt.RcAt.list_none pl.isList az|exact SeqAt.RcAt.list_bool _ pl.isList az|exact SeqAt.RcAt.list_int _ _ pl.isList az|exact SeqAt.RcAt.list_str _ _ pl.isList az
def aL4(I:Inv X ψ σ H s)(n:Nat)(A:mq)(hl:bX X.K H a2 xs)(y:D)(vy:V)(v:au)(az:A.units<qg)(hy:bQ n y=ak)(ry:RD X.K H y vy)(rv:RelV vy v):SeqAt.RcAt A s v (.ref a2) ao:=by
 let⟨its,vv,pl,_⟩:=I.list hl;cases vw I hy ry rv with
 |tup _ _ _ _ p2=>exact SeqAt.RcAt.tuple_list p2 pl.isList az
 |_=>with_reducible first|exact SeqAt.RcAt.none_list pl.isList az|exact SeqAt.RcAt.bool_list _ pl.isList az|exact SeqAt.RcAt.int_list _ _ pl.isList az|exact SeqAt.RcAt.str_list _ _ pl.isList az
def aL5(I:Inv X ψ σ H s)(n:Nat)(A:mq){cz yO:List D}(h1:bX X.K H a1 sR)(h2:bX X.K H a2 AH)(r1:cN X.K H cz sR)(r2:cN X.K H yO AH)
  (hu:A.units+(n+1)<qg)(hx:cz.all (bQ n)=ak)(hy:yO.all (bQ n)=ak):SeqAt.RcAt A s (.ref a1) (.ref a2) (gO cz yO):=by
 have az:A.units<qg:=by omega
 let⟨iq,fq,q1,_⟩:=I.list h1;let⟨bc,hU,q2,_⟩:=I.list h2;have p1:=q1.isList;have p2:=q2.isList;by_cases hl:cz.length=yO.length
 .have hsz:iq.toArray.size=bc.toArray.size:=by rw[je,je,←fq.length,←hU.length,←r1.length,←r2.length];exact hl
  have z:=SeqAt.RcAt.lists (e:=rR cz yO) p1 p2 hsz az (uQ (n:=n) r1 r2 fq hU λx mx y my v w u t q1 q2 q3 q4 =>
      Ex I n A.in1 x y v w u t (uR hu) (jl.mp hx x mx) (jl.mp hy y my) q1 q2 q3 q4)
  have e:(jw iq.toArray.size).all (rR cz yO)=gO cz yO:=by rw[QI hl,je,←fq.length,←r1.length]
  rw[e]at z;exact z
 .have fe:(iq.toArray.size !=bc.toArray.size)=ak:=by rw[je,je,←fq.length,←hU.length,←r1.length,←r2.length];simpa using hl
  have e:gO cz yO=ao:=PH (by simpa using hl);rw[e];exact SeqAt.RcAt.lists_lengths p1 p2 fe az
local macro_rules| `(tactic| walk_at "rc")=>`(tactic| first|exact SeqAt.RcNeAt.none_none|exact SeqAt.RcNeAt.none_bool _|exact SeqAt.RcNeAt.none_int _ _|exact SeqAt.RcNeAt.none_str _ _|exact SeqAt.RcNeAt.bool_none _|exact SeqAt.RcNeAt.bool_bool _ _|exact SeqAt.RcNeAt.bool_int _ _ _|exact SeqAt.RcNeAt.bool_str _ _ _|exact SeqAt.RcNeAt.int_none _ _|exact SeqAt.RcNeAt.int_bool _ _ _|exact SeqAt.RcNeAt.int_int _ _ _ _|exact SeqAt.RcNeAt.int_str _ _ _ _|exact SeqAt.RcNeAt.str_none _ _|exact SeqAt.RcNeAt.str_bool _ _ _|exact SeqAt.RcNeAt.str_int _ _ _ _|exact SeqAt.RcNeAt.str_str _ _ _ _)
def aB2(I:Inv X ψ σ H s)(n:Nat)(A:mq)(x y:D)(vx vy:V)(u v:au)(hu:A.units+(n+1)<qg)(hx:bQ (n+1) x=ak)(hy:bQ (n+1) y=ak)(rx:RD X.K H x vx)(ry:RD X.K H y vy)(ru:RelV vx u)(rv:RelV vy v):SeqAt.RcNeAt A s u v (!aT x y):=by
 have az:A.units<qg:=by omega
 cases vw I hx rx ru with
 |@tup a1 sR cz iq h1 r1 _ fq p1 =>
  cases vw I hy ry rv with
  |@tup a2 AH yO bc h2 r2 _ hU p2 =>
   have z:=SeqAt.RcNeAt.tuples (e:=rR cz yO) p1 p2 az (uQ (n:=n) r1 r2 fq hU λx mx y my v w u t q1 q2 q3 q4 =>
      Ex I n A.in1 x y v w u t (uR hu) (jl.mp (by simpa[bQ]using hx) x mx) (jl.mp (by simpa[bQ]using hy) y my) q1 q2 q3 q4)
   have e:((jw (min iq.toArray.size bc.toArray.size)).all (rR cz yO)&&iq.toArray.size==bc.toArray.size)=aT (.tup cz) (.tup yO):=by
    rw[aT,jG,je,je,←fq.length,←hU.length,←r1.length,←r2.length]
   rw[e]at z;exact z
  |_=>simp only[aT,zj,vm];with_reducible first|exact SeqAt.RcNeAt.tuple_none p1 az|exact SeqAt.RcNeAt.tuple_bool _ p1 az|exact SeqAt.RcNeAt.tuple_int _ _ p1 az|exact SeqAt.RcNeAt.tuple_str _ _ p1 az
 |_ =>
  cases vw I hy ry rv with
  |tup _ _ _ _ p2=>simp only[aT,zj,vm];with_reducible first|exact SeqAt.RcNeAt.none_tuple p2 az|exact SeqAt.RcNeAt.bool_tuple _ p2 az|exact SeqAt.RcNeAt.int_tuple _ _ p2 az|exact SeqAt.RcNeAt.str_tuple _ _ p2 az
  |_=>simp only[aT,zj,vm];with_reducible walk_at "rc"
def aB3(I:Inv X ψ σ H s)(n:Nat)(A:mq)(hl:bX X.K H a1 xs)(y:D)(vy:V)(v:au)(az:A.units<qg)(hy:bQ n y=ak)(ry:RD X.K H y vy)(rv:RelV vy v):SeqAt.RcNeAt A s (.ref a1) v ak:=by
 let⟨its,vv,pl,_⟩:=I.list hl;cases vw I hy ry rv with
 |tup _ _ _ _ p2=>exact SeqAt.RcNeAt.list_tuple pl.isList p2 az
 |_=>with_reducible first|exact SeqAt.RcNeAt.list_none pl.isList az|exact SeqAt.RcNeAt.list_bool _ pl.isList az|exact SeqAt.RcNeAt.list_int _ _ pl.isList az|exact SeqAt.RcNeAt.list_str _ _ pl.isList az
def aB4(I:Inv X ψ σ H s)(n:Nat)(A:mq)(hl:bX X.K H a2 xs)(y:D)(vy:V)(v:au)(az:A.units<qg)(hy:bQ n y=ak)(ry:RD X.K H y vy)(rv:RelV vy v):SeqAt.RcNeAt A s v (.ref a2) ak:=by
 let⟨its,vv,pl,_⟩:=I.list hl;cases vw I hy ry rv with
 |tup _ _ _ _ p2=>exact SeqAt.RcNeAt.tuple_list p2 pl.isList az
 |_=>with_reducible first|exact SeqAt.RcNeAt.none_list pl.isList az|exact SeqAt.RcNeAt.bool_list _ pl.isList az|exact SeqAt.RcNeAt.int_list _ _ pl.isList az|exact SeqAt.RcNeAt.str_list _ _ pl.isList az
def aB5(I:Inv X ψ σ H s)(n:Nat)(A:mq){cz yO:List D}(h1:bX X.K H a1 sR)(h2:bX X.K H a2 AH)(r1:cN X.K H cz sR)(r2:cN X.K H yO AH)
  (hu:A.units+(n+1)<qg)(hx:cz.all (bQ n)=ak)(hy:yO.all (bQ n)=ak):SeqAt.RcNeAt A s (.ref a1) (.ref a2) (!gO cz yO):=by
 have az:A.units<qg:=by omega
 let⟨iq,fq,q1,_⟩:=I.list h1;let⟨bc,hU,q2,_⟩:=I.list h2;have p1:=q1.isList;have p2:=q2.isList;by_cases hl:cz.length=yO.length
 .have hsz:iq.toArray.size=bc.toArray.size:=by rw[je,je,←fq.length,←hU.length,←r1.length,←r2.length];exact hl
  have z:=SeqAt.RcNeAt.lists (e:=rR cz yO) p1 p2 hsz az (uQ (n:=n) r1 r2 fq hU λx mx y my v w u t q1 q2 q3 q4 =>
      Ex I n A.in1 x y v w u t (uR hu) (jl.mp hx x mx) (jl.mp hy y my) q1 q2 q3 q4)
  have e:(jw iq.toArray.size).all (rR cz yO)=gO cz yO:=by rw[QI hl,je,←fq.length,←r1.length]
  rw[e]at z;exact z
 .have fe:(iq.toArray.size !=bc.toArray.size)=ak:=by rw[je,je,←fq.length,←hU.length,←r1.length,←r2.length];simpa using hl
  have e:gO cz yO=ao:=PH (by simpa using hl);rw[e];exact SeqAt.RcNeAt.lists_lengths p1 p2 fe az
abbrev qk(G:Gp)(x y:D)(k:Bool->Prop):Prop:=match x,y with
 |.ref a,.ref b=>(match bB G a,bB G b with
  |some xs,aj ys=>xs.all (bQ 20)=ak/\ys.all (bQ 20)=ak/\k (gO xs ys)
  |_,_=>False)
 |.ref a,y=>(match bB G a with
  |some _=>bQ 20 y=ak/\k ao
  |none=>False)
 |x,.ref b=>(match bB G b with
  |some _=>bQ 20 x=ak/\k ao
  |none=>False)
 |x,y=>bQ 20 x=ak/\bQ 20 y=ak/\k (aT x y)
abbrev f9:R3:=λx y G R=>qk G x y λb=>R (.bl b) G
abbrev qU:R3:=λx y G R=>qk G x y λb=>R (.bl (!b)) G
def Ew{f:au->au->Sem au}{r3:R3}(h:∀(ψ:List (bw×Obj))(s:cu)(σ:St)(H:Hp)(x y:D)(vx vy:V)(u v:au)(G:Gp)(R:dU)(Q:VK),Inv X ψ σ H s->RD X.K H x vx->RD X.K H y vy->RelV vx u->RelV vy v->HR X.K H G->r3 x y G R ->
   (∀w H' d G',Ts H H'->RD X.K H' d w->HR X.K H' G'->R d G'->Q w H')->dj (fj X.prog X.w) X.A (f u v) (EP X ψ σ Q) X.xe s):uE X f r3 :=
 ⟨λvx vy H Q=>∃x y G R,RD X.K H x vx/\RD X.K H y vy/\HR X.K H G/\r3 x y G R/\∀w H' d G',Ts H H'->RD X.K H' d w->HR X.K H' G'->R d G'->Q w H',
  λψ s σ H vx vy u v Q I ru rv ⟨x,y,G,R,rx,ry,g,q,k⟩=>h ψ s σ H x y vx vy u v G R Q I rx ry ru rv g q k,λH x y vx vy G R Q rx ry g q k=>⟨x,y,G,R,rx,ry,g,q,k⟩⟩
private theorem OD(hu:X.A.units+64<qg){neg:Bool}(Lp:op=if neg then .NotEq else .Eq){x:D}{k:Bool->Prop}{Q:VK}(I:Inv X ψ σ H s)(rx:RD X.K H x vx)(ry:RD X.K H y vy)(ru:RelV vx u)(rv:RelV vy v)(g:HR X.K H G)
  (h:qk G x y k)(hk:∀b,k b->EP X ψ σ Q (.bool (neg ^^ b)) s):dj (fj X.prog X.w) X.A (qx op u v) (EP X ψ σ Q) X.xe s:=by
 have fin:∀{b:Bool},(if neg then SeqAt.RcNeAt X.A s u v (!b)else SeqAt.RcAt X.A s u v b)->k b->dj (fj X.prog X.w) X.A (qx op u v) (EP X ψ σ Q) X.xe s:=λ{b} z kb=>by
  have e:=hk b kb;cases neg with
  |true =>
   subst Lp;rw[Bool.true_xor]at e;exact z X.prog X.w X.xe _ e
  |false =>
   subst Lp;rw[Bool.false_xor]at e;exact z X.prog X.w X.xe _ e
 have Ll:X.A.units+(20+1)<qg:=by omega
 have Lk:X.A.units+(19+1)<qg:=by omega
 have az:X.A.units<qg:=by omega
 have plain:bQ 20 x=ak->bQ 20 y=ak->k (aT x y)->dj (fj X.prog X.w) X.A (qx op u v) (EP X ψ σ Q) X.xe s:=λhx hy kk=>fin (b:=aT x y) (by
  cases neg with
  |true=>exact aB2 I 19 X.A x y vx vy u v Lk hx hy rx ry ru rv
  |false=>exact aL2 I 19 X.A x y vx vy u v Lk hx hy rx ry ru rv) kk
 have left:∀a xs,x=.ref a->bB G a=aj xs->bQ 20 y=ak->k ao->dj (fj X.prog X.w) X.A (qx op u v) (EP X ψ σ Q) X.xe s:=λa xs e1 e2 hy kk=>by
  subst e1;cases rx;cases ru;let⟨zs,hz,_⟩:=cT g e2;refine fin (b:=false) ?_ kk;cases neg with
  |true=>exact aB3 I 20 X.A hz y vy v az hy ry rv
  |false=>exact aL3 I 20 X.A hz y vy v az hy ry rv
 have right:∀a xs,y=.ref a->bB G a=aj xs->bQ 20 x=ak->k ao->dj (fj X.prog X.w) X.A (qx op u v) (EP X ψ σ Q) X.xe s:=λa xs e1 e2 hy kk=>by
  subst e1;cases ry;cases rv;let⟨zs,hz,_⟩:=cT g e2;refine fin (b:=false) ?_ kk;cases neg with
  |true=>exact aB4 I 20 X.A hz x vx u az hy rx ru
  |false=>exact aL4 I 20 X.A hz x vx u az hy rx ru
 unfold qk at h;split at h
 .rename_i a b;split at h
  .rename_i xs ys e1 e2;cases rx;cases ry;cases ru;cases rv;let⟨zs1,Lh,q1⟩:=cT g e1;let⟨l7,Lg,q2⟩:=cT g e2;refine fin (b:=gO xs ys) ?_ h.2.2;cases neg with
   |true=>exact aB5 I 20 X.A Lh Lg q1 q2 Ll h.1 h.2.1
   |false=>exact aL5 I 20 X.A Lh Lg q1 q2 Ll h.1 h.2.1
  .exact h.elim
 .rename_i a _;split at h
  .rename_i xs e1;exact left a xs rfl e1 h.1 h.2
  .exact h.elim
 .rename_i b _;split at h
  .rename_i xs e1;exact right b xs rfl e1 h.1 h.2
  .exact h.elim
 .exact plain h.1 h.2.1 h.2.2
def aL6(hu:X.A.units+64<qg):uE X (qx .Eq) f9:=Ew λψ s σ H x y vx vy u v G R Q I rx ry ru rv g q k =>
 OD (neg:=false) hu rfl I rx ry ru rv g q λb kb=>⟨.bl b,H,I,by rw[Bool.false_xor];rfl,k _ H (.bl b) G (.refl H) (.bl b) g kb⟩
def aL7(hu:X.A.units+64<qg):uE X (qx .NotEq) qU:=Ew λψ s σ H x y vx vy u v G R Q I rx ry ru rv g q k =>
 OD (neg:=true) hu rfl I rx ry ru rv g q λb kb=>⟨.bl (!b),H,I,by rw[Bool.true_xor];rfl,k _ H (.bl (!b)) G (.refl H) (.bl (!b)) g kb⟩
end
end
section
open PySem.W PySem.Calls
open PySem.Builtin PySem.Builtin.ObjectAttr PySem.Builtin.Getset_descriptor
section
variable{prog:kj}{w:jj}{A:mq}{E:au->cu->Prop}{s:cu}{K:Fg}{x:bw}{o:Obj}
def a7X{tp:au}{R:Result->cu->Prop}(X:K.In s.heap)(hx:s.heap.get? x=aj o)(hc:o.cls=.ref C)(hm:mroIn K C (.type "object")=aj ak)
  (h:R (.ok (.ret (.ref C))) s):gL (fj prog w) A (.call (.builtin "getset_descriptor.__get__") ⟨[.builtin "object.__class__",.ref x,tp],[]⟩) R s:=by
 let⟨hh,g,dr,t,os⟩:=s;have L0:Looks (fj prog w) hh (typeOf (.ref x)) (.ref C):=hc ▸ (Looks.ld hx).andThen .now;have L1:=looks_mroIn (M:=model prog w) X hm;refine codeAny_call_builtin KF.slot_gs.plain KF.entry_gs (KF.slot_gs.check _ _ _ _ _ _ _ _ KF.type_class (KF.args_gs _ _ _) ?_);unfold Builtin.«getset_descriptor.__get__» descrGet;rw[dga_obj];refine aq (cg ?_);unfold descrGetter descrCheckInstance descrNameAndClass isInstance;simp only[KF.owner_class]
 repeat lk
 refine⟨Code.quiet_builtin _ (by decide+kernel),sf KF.entry_class ?_⟩;unfold Builtin.«object.__class__» shownTypeOf
 repeat lk
 exact h
def YN{Q:Option au->cu->Prop}(X:K.In s.heap)(hx:s.heap.get? x=aj o)(hc:o.cls=.ref C)
  (Tf:findIn K (.ref C) "__getattribute__"=aj (aj (.builtin "BaseException.__getattribute__")))(Te:findIn K (.ref C) "__getattr__"=aj bh)(ha:findIn K (.ref C) "__class__"=aj (aj (.builtin "object.__class__")))
  (hb:subIn K (.ref C) (.type "BaseException")=aj ak)(hm:mroIn K C (.type "object")=aj ak)(h:Q (aj (.ref C)) {s with toks:=s.toks+1}):dj (fj prog w) A (getAttr? (.ref x) "__class__") Q E s:=by
 let⟨hh,g,d,t,os⟩:=s;have L0:Looks (fj prog w) hh (typeOf (.ref x)) (.ref C):=hc ▸ (Looks.ld hx).andThen .now;have L1:=looks_findIn (M:=model prog w) X Tf;have RU:=looks_findIn (M:=model prog w) X Te;have L3:=looks_findIn (M:=model prog w) X ha;have L4:=looks_subIn (M:=model prog w) X hb;unfold getAttr? getAttrBy? getAttrBy;refine aq (wpAny_mkText (aq (Ag (su (aq (L0.at (aq (L1.at ?_))))))));have hx2:(au.builtin "BaseException.__getattribute__"==au.builtin "object.__getattribute__")=ao:=by decide+kernel
 have f3:=PySem.F.attr_ValueError.ga.bind (.ref x);have hk:builtinKind "BaseException.__getattribute__"=aj .slot:=by decide+kernel
 have xp:splitId "BaseException.__getattribute__"=aj ("BaseException","__getattribute__"):=by decide+kernel
 have ha2:=PySem.F.args_bexc_ga (.ref x) (.str "__class__" t)
 repeat (first|with_reducible refine L0.at ?_|with_reducible refine L1.at ?_|with_reducible refine RU.at ?_|with_reducible refine L3.at ?_|with_reducible refine L4.at ?_|wp_step)
 refine codeAny_call_builtin PySem.F.attr_ValueError.ga.plain PySem.F.entry_bexc_ga ?_;simp only[checkBuiltinCall,hk,xp];unfold isInstance;have f5:=PySem.F.typeOf_object_class;have f6:=PySem.F.slot_gs_get.lookup;have f7:=PySem.F.slot_gs_set.lookup
 repeat (any_goals (first|assumption|with_reducible refine L0.at ?_|with_reducible refine L1.at ?_|with_reducible refine RU.at ?_|with_reducible refine L3.at ?_|with_reducible refine L4.at ?_|wp_step))
 refine a7X X hx hc hm ?_
 repeat (any_goals (first|assumption|wp_step))
end
end
variable{R:dU}{T:String}{σ:St}
section
variable{n:String}{H:Hp}{Q:VK}
section
variable{X:Cx}{x:Str}{e:ji}{t:oR}{id T:String}{r3:List D->Gp->dU->Prop}
abbrev cB(X:Cx)(f:au)(r3:List D->Gp->dU->Prop):Prop :=
 ∀(ψ:List (bw×Obj))(s:cu)(σ:St)(H:Hp)(xs:List D)(vs:List V)(us:List au)(G:Gp)(R:dU)(Q:VK),Inv X ψ σ H s->cN X.K H xs vs->Vals vs us->HR X.K H G->r3 xs G R ->
  (∀v H' d G',Ts H H'->RD X.K H' d v->HR X.K H' G'->R d G'->Q v H')->dj (fj X.prog X.w) X.A (call f us) (EP X ψ σ Q) X.xe s
def cB.of{r:List V->Hp->VK->Prop}(h:uJ X f r)(i:∀(H:Hp)(xs:List D)(vs:List V)(G:Gp)(R:dU)(Q:VK),cN X.K H xs vs->HR X.K H G->r3 xs G R ->
  (∀v H' d G',Ts H H'->RD X.K H' d v->HR X.K H' G'->R d G'->Q v H')->r vs H λv H'=>KF X.K H'->Q v H'):cB X f r3:=λψ s σ H xs vs us G R Q I rx rv g q k =>
 cV (h ψ s σ H vs us _ I rv (i H xs vs G R Q rx g q k)) λ_ _ ⟨v,H',I',r,q'⟩=>⟨v,H',I',r,q' (lW I')⟩
abbrev dD(r3:List D->Gp->dU->Prop)(t:oR):cA:=λρ G R=>t ρ G λxs G1=>r3 xs G1 R
def m7(hc:cB X (.builtin id) r3)(hg:Gl X x)(hm:X.mg x=bh)(hv:oh x=aj (.builtin id))(ha:dA X (e::es) t)(hn:x≠"__name__":=by decide)(fA:(x==("__debug__":Str))=ao:=by decide)
  (he:jo (e::es) X.env=(ao,eval e X.env)::jo es X.env:=by rfl)(gu:(xr pos (jo es X.env)).any (·.1)=ao:=by rfl):cC X (.Call (.Name x p) (e::es) [] pos) (dD r3 t):=by
 intro ψ s σ H Q I h;let⟨ρ,G,R,sr,g,q,kk⟩:=h;refine yp (uI I hg hm hv ?_ hn fA)
 exact PyProof.Rows.callWith_builtin1 (cV (ha pos ψ s σ H (λvs H1=>Ts H H1/\∃ds G1,cN X.K H1 ds vs/\HR X.K H1 G1/\r3 ds G1 R) I ⟨ρ,G,_,sr,g,q,λvs H1 ds G1 t1 r1 g1 q1=>⟨t1,ds,G1,r1,g1,q1⟩⟩) λus s1 ⟨vs,H1,I1,r,t1,ds,G1,r1,g1,q1⟩ =>
  hc ψ s1 σ H1 ds vs us G1 R Q I1 r1 r g1 q1 λv H' d G' t2=>kk v H' d G' (t1.trans t2)) he gu
def Jy(hc:cB X (.type T) r3)(hg:Gl X x)(hm:X.mg x=bh)(hv:oh x=aj (.type T))(ha:dA X (e::es) t)(hn:x≠"__name__":=by decide)(fA:(x==("__debug__":Str))=ao:=by decide)
  (he:jo (e::es) X.env=(ao,eval e X.env)::jo es X.env:=by rfl)(gu:(xr pos (jo es X.env)).any (·.1)=ao:=by rfl):cC X (.Call (.Name x p) (e::es) [] pos) (dD r3 t):=by
 intro ψ s σ H Q I h;let⟨ρ,G,R,sr,g,q,kk⟩:=h;refine yp (uI I hg hm hv ?_ hn fA)
 exact PyProof.Rows.callWith_type1 (cV (ha pos ψ s σ H (λvs H1=>Ts H H1/\∃ds G1,cN X.K H1 ds vs/\HR X.K H1 G1/\r3 ds G1 R) I ⟨ρ,G,_,sr,g,q,λvs H1 ds G1 t1 r1 g1 q1=>⟨t1,ds,G1,r1,g1,q1⟩⟩) λus s1 ⟨vs,H1,I1,r,t1,ds,G1,r1,g1,q1⟩ =>
  hc ψ s1 σ H1 ds vs us G1 R Q I1 r1 r g1 q1 λv H' d G' t2=>kk v H' d G' (t1.trans t2)) he gu
abbrev iK:List D->Gp->dU->Prop:=λxs G R=>match xs with
 |[.str z]=>z.length<=dh/\R (.int z.length) G
 |[.tup ds]=>R (.int ds.length) G
 |[.ref q]=>(match bB G q with
  |some ds=>R (.int ds.length) G
  |none=>False)
 |_=>False
private theorem aGP:cB X (.builtin "len") iK:=cB.of (aa7.or aa8) λH xs vs G R Q rx g q k=>by
 cases rx with
 |nil=>exact False.elim q
 |cons r rr =>
  cases rr with
  |cons _ _=>cases r<;>exact False.elim q
  |nil =>
   cases r with
   |str z=>exact .inr ⟨z,rfl,q.1,λ_=>k _ H _ G (.refl H) (.int _) g q.2⟩
   |@tup a xs ds ha ra=>exact .inl ⟨a,xs,rfl,.inr ha,λ_=>by rw[←ra.length];exact k _ H _ G (.refl H) (.int _) g q⟩
   |ref a =>
    have q':(match bB G a with
     |some ds=>R (.int ds.length) G
     |none=>False):=q
    split at q'
    .rename_i ds e1;let⟨xs,h1,r1⟩:=cT g e1;exact .inl ⟨a,xs,rfl,.inl h1,λ_=>by rw[←r1.length];exact k _ H _ G (.refl H) (.int _) g q'⟩
    .exact q'.elim
   |_=>exact False.elim q
abbrev Eb:List D->Gp->dU->Prop:=λxs G R=>match xs with
 |[.int i]=>R (.int i) G
 |[.bl b]=>R (.int (if b then 1 else 0)) G
 |_=>False
def aGQ:cB X (.type "int") Eb:=cB.of Y2 λH xs vs G R Q rx g q k=>by
 cases rx with
 |nil=>exact False.elim q
 |cons r rr =>
  cases rr with
  |cons _ _=>cases r<;>exact False.elim q
  |nil =>
   cases r with
   |int i=>exact .inl ⟨i,rfl,λ_=>k _ H _ G (.refl H) (.int _) g q⟩
   |bl b=>exact .inr ⟨b,rfl,λ_=>k _ H _ G (.refl H) (.int _) g q⟩
   |_=>exact False.elim q
abbrev BX:List D->Gp->dU->Prop:=λxs G R=>match xs with
 |[.tup ds]=>∀l,G l=bh->R (.ref l) (aG G l (.lst ds))
 |[.ref q]=>(match bB G q with
  |some ds=>∀l,G l=bh->R (.ref l) (aG G l (.lst ds))
  |none=>False)
 |_=>False
private theorem aB6:cB X (.type "list") BX:=cB.of aa9 λH xs vs G R Q rx g q k=>by
 cases rx with
 |nil=>exact False.elim q
 |cons r rr =>
  cases rr with
  |cons _ _=>cases r<;>exact False.elim q
  |nil =>
   cases r with
   |@tup a xs ds ha ra =>
    refine⟨a,xs,rfl,.inr ha,λl hl kf=>?_⟩;have sn:aI H (upd H l (.lst xs)):=bO hl;exact k _ _ _ _ (.same sn) (.ref l) (g.put (u:=.lst ds) hl ⟨_,aN,ra.mono (.same sn)⟩) (q l (eV g hl kf))
   |ref a =>
    have q':(match bB G a with
     |some ds=>∀l,G l=bh->R (.ref l) (aG G l (.lst ds))
     |none=>False):=q
    split at q'
    .rename_i ds e1;let⟨xs,h1,r1⟩:=cT g e1;refine⟨a,xs,rfl,.inl h1,λl hl kf=>?_⟩;have sn:aI H (upd H l (.lst xs)):=bO hl;exact k _ _ _ _ (.same sn) (.ref l) (g.put (u:=.lst ds) hl ⟨_,aN,r1.mono (.same sn)⟩) (q' l (eV g hl kf))
    .exact q'.elim
   |_=>exact False.elim q
abbrev xy(G:Gp):D->Option String
 |.ag=>aj "NoneType"
 |.bl _=>aj "bool"
 |.int _=>aj "int"
 |.str _=>aj "str"
 |.tup _=>aj "tuple"
 |.ref q=>(match G q with
  |some (.lst _)=>aj "list"
  |some (.fi _)=>aj "list"
  |some (.bD _ _)=>aj "dict"
  |_=>bh)
 |.ty _=>bh
abbrev yn(G:Gp):D->Option bw
 |.ref q=>(match G q with
  |some (.gE C)=>aj C
  |_=>bh)
 |_=>bh
abbrev subB(T n:String):Bool:=T==n||(T=="bool"&&n=="int")
abbrev Qc:List String:=["NoneType","bool","int","str","list","tuple","dict"]
abbrev zG:List String:=["int","bool","str","list","tuple","dict","ValueError"]
def aB7:∀T∈Qc,∀n∈zG,sd [] (.type T) (.type n)=aj (subB T n):=by decide+kernel
def m8(K:Fg)(h1:T∈Qc)(h2:n∈zG):sd K (.type T) (.type n)=aj (subB T n):=aB7 T h1 n h2
structure xj(K:Fg)(C:bw):Prop where
 ga:zf K (.ref C) "__getattribute__"=aj (aj (.builtin "BaseException.__getattribute__"))
 gn:zf K (.ref C) "__getattr__"=aj bh
 cl:zf K (.ref C) "__class__"=aj (aj (.builtin "object.__class__"))
 be:PySem.W.subIn K (.ref C) (.type "BaseException")=aj ak
 ob:PySem.W.mroIn K C (.type "object")=aj ak
 cs:(wx K C).isSome=ak
private theorem XU{K:Fg}(c:xj K C):PySem.W.KitX K (.ref a) (.ref C) (BH C a) where
 ty:=λM h X ⟨o,vs,h1,h2,_⟩=>h2 ▸ (PySem.W.Looks.ld h1).andThen .now
 it:=λM h X _=>by
  intro A' Q' E' s' k q;cases eK:wx K C with
  |none=>have:=c.cs;rw[eK]at this;cases this
  |some cd =>
   unfold wx at eK;split at eK
   .rename_i ho;unfold isType loadHead;exact aq (wpAny_loadPart (k _ _ (X _ _ ho)) (cg q))
   .cases eK
 ne:=λh tp dd its n sl X SZ=>by
  refine Bool.eq_false_iff.mpr λq=>?_;have e:C=tp:=Value.ref.inj (beq_iff_eq.mp q);subst e;cases eK:wx K C with
  |none=>have:=c.cs;rw[eK]at this;cases this
  |some cd =>
   unfold wx at eK;split at eK
   .rename_i ho;have z:=(X _ _ ho).symm.trans SZ;cases z
   .cases eK
 ca:=λX ⟨o,vs,h1,h2,_⟩ k=>YN X h1 h2 c.ga c.gn c.cl c.be c.ob k
abbrev bN(K:Fg):List D->Gp->dU->Prop:=λxs G R=>match xs with
 |[x,.ty n]=>(match xy G x with
  |some T=>n∈zG/\R (.bl (subB T n)) G
  |none=>(match yn G x with
   |some C=>∃b,xj K C/\sd K (.ref C) (.type n)=aj b/\R (.bl b) G
   |none=>False))
 |[x,.ref C']=>(match yn G x with
  |some C=>∃b,xj K C/\sd K (.ref C) (.ref C')=aj b/\R (.bl b) G
  |none=>False)
 |_=>False
private theorem Nn{x:D}(h:yn G x=aj C):∃a,x=.ref a/\G a=aj (.gE C):=by
 cases x with
 |ref q =>
  refine⟨q,rfl,?_⟩
  have h':(match G q with
   |some (.gE C)=>aj C
   |_=>bh)=aj C:=h
  split at h'
  .rename_i e1;cases h';exact e1
  .cases h'
 |_=>cases h
variable{G:Gp}
def Iw{a C:bw}{c:au}{b:Bool}(I:Inv X ψ σ H s)(g:HR X.K H G)(e:G a=aj (.gE C))(hc:xj X.K C)(hk:sd X.K (.ref C) c=aj b)(q:R (.bl b) G)
  (k:∀v H' d G',Ts H H'->RD X.K H' d v->HR X.K H' G'->R d G'->Q v H'):dj (fj X.prog X.w) X.A (call (.builtin "isinstance") [.ref a,c]) (EP X ψ σ Q) X.xe s:=by
 let⟨o0,vs0,z,_⟩:=g a _ e;let⟨_,z1,_,_⟩:=I.af a _ z;exact za (XU hc) I.dC z1 hk (λz=>nomatch z) λtk=>⟨.bl b,H,I.tok tk,rfl,k _ H _ G (.refl H) (.bl b) g q⟩
private theorem aB9{x:D}{vx:V}{u:au}(I:Inv X ψ σ H s)(rx:RD X.K H x vx)(ru:RelV vx u)(g:HR X.K H G)(e:xy G x=aj T)(hn:n∈zG)(q:R (.bl (subB T n)) G)
  (k:∀v H' d G',Ts H H'->RD X.K H' d v->HR X.K H' G'->R d G'->Q v H'):dj (fj X.prog X.w) X.A (call (.builtin "isinstance") [u,.type n]) (EP X ψ σ Q) X.xe s:=by
 have fin:∀tk,EP X ψ σ Q (.bool (subB T n)) {s with toks:=tk}:=λtk=>⟨.bl _,H,I.tok tk,rfl,k _ H _ G (.refl H) (.bl _) g q⟩;cases rx with
 |ag=>cases ru;cases e;exact za PySem.W.kitx_none I.dC True.intro (m8 _ (by decide) hn) (λz=>nomatch z) fin
 |bl b=>cases ru;cases e;exact za PySem.W.kitx_bool I.dC True.intro (m8 _ (by decide) hn) (λz=>nomatch z) fin
 |int i=>let⟨t,rfl⟩:=ru;cases e;exact za PySem.W.kitx_int I.dC True.intro (m8 _ (by decide) hn) (λz=>nomatch z) fin
 |str i=>let⟨t,rfl⟩:=ru;cases e;exact za PySem.W.kitx_str I.dC True.intro (m8 _ (by decide) hn) (λz=>nomatch z) fin
 |ty n=>cases e
 |@tup a xs ds ha ra =>
  cases ru;cases e;let⟨its,_,p,_⟩:=I.tuple ha;let⟨o,h1,h2,_⟩:=p;exact za PySem.W.kitx_tuple I.dC ⟨o,h1,h2⟩ (m8 _ (by decide) hn) (λz=>nomatch z) fin
 |ref a =>
  cases ru
  have e':(match G a with
   |some (.lst _)=>aj "list"
   |some (.fi _)=>aj "list"
   |some (.bD _ _)=>aj "dict"
   |_=>bh)=aj T:=e
  split at e'
  .rename_i ds e1;cases e';let⟨xs,h1,_⟩:=cT g (show bB G a=aj ds by unfold bB;rw[e1]);let⟨its,_,p,_⟩:=I.list h1;let⟨o,n',h1,h2,_⟩:=p;exact za PySem.W.kitx_list I.dC ⟨o,h1,h2⟩ (m8 _ (by decide) hn) (λz=>nomatch z) fin
  .rename_i ds e1;cases e';let⟨xs,h1,_⟩:=cT g (show bB G a=aj ds by unfold bB;rw[e1]);let⟨its,_,p,_⟩:=I.list h1;let⟨o,n',h1,h2,_⟩:=p;exact za PySem.W.kitx_list I.dC ⟨o,h1,h2⟩ (m8 _ (by decide) hn) (λz=>nomatch z) fin
  .rename_i aa e1;cases e';rcases g a _ e1 with⟨_,xs,h1,_⟩|⟨_,xs,h1,_⟩
   .obtain⟨_,_,vs,_,o,es,ep,h1,h2,_⟩:=I.af a _ h1;exact za PySem.W.kitx_dict I.dC ⟨o,h1,h2.1⟩ (m8 _ (by decide) hn) (λz=>nomatch z) fin
   .obtain⟨_,_,xs,_,o,es,ep,h1,h2,_⟩:=I.af a _ h1;exact za PySem.W.kitx_dict I.dC ⟨o,h1,h2.1⟩ (m8 _ (by decide) hn) (λz=>nomatch z) fin
  .cases e'
private theorem aaO:cB X (.builtin "isinstance") (bN X.K):=by
 intro ψ s σ H xs vs us G R Q I rx rv g q k;cases rx with
 |nil=>exact False.elim q
 |@cons x v ds ws r1 rr =>
  cases rr with
  |nil=>cases r1<;>exact False.elim q
  |@cons y v2 yO ws2 r2 So =>
   cases So with
   |cons _ _=>cases r2<;>exact False.elim q
   |nil =>
    let⟨u1,u2,rfl,FF,KQ⟩:=vals2 rv;cases r2 with
    |ty n =>
     cases KQ
     have q':(match xy G x with
      |some T=>n∈zG/\R (.bl (subB T n)) G
      |none=>(match yn G x with
       |some C=>∃b,xj X.K C/\sd X.K (.ref C) (.type n)=aj b/\R (.bl b) G
       |none=>False)):=q
     split at q'
     .rename_i T eT;exact aB9 I r1 FF g eT q'.1 q'.2 k
     .split at q'
      .rename_i C eC;let⟨a,rfl,ea⟩:=Nn eC;let⟨b,hc,hk,q'⟩:=q';cases r1;cases FF;exact Iw I g ea hc hk q' k
      .exact q'.elim
    |ref C' =>
     cases KQ
     have q':(match yn G x with
      |some C=>∃b,xj X.K C/\sd X.K (.ref C) (.ref C')=aj b/\R (.bl b) G
      |none=>False):=q
     split at q'
     .rename_i C eC;let⟨a,rfl,ea⟩:=Nn eC;let⟨b,hc,hk,q'⟩:=q';cases r1;cases FF;exact Iw I g ea hc hk q' k
     .exact q'.elim
    |_=>exact False.elim q
end
end
variable{id:String}
section
def HK{K:Fg}{x:D}(hx:eQ x=ak)(rx:RD K H x vx):∀{ys:List D}{vs:List V},cN K H ys vs->ys.all eQ=ak->vs.any (λy=>i5 y vx)=ys.any (λy=>aT y x)
 |_,_,.nil,_=>rfl
 |_,_,.cons h r,hs=>by
  rw[nB,bx]at hs;rw[wy,wy,HK hx rx r hs.2];congr 1;let⟨h1,_⟩:=hs;cases rx<;>cases h<;>first|(simp[i5,aT];done)|cases hx|cases h1
variable{x:D}
def Iv{K:Fg}(hx:eQ x=ak)(rx:RD K H x vx):tK vx=ak:=by cases rx<;>first|rfl|cases hx
def Jx{K:Fg}:∀{ys:List D}{vs:List V},cN K H ys vs->ys.all eQ=ak->vs.all tK=ak
 |_,_,.nil,_=>rfl
 |_,_,.cons h r,hs=>by
  rw[nB,bx]at hs;rw[nB,Iv hs.1 h,Jx r hs.2];rfl
abbrev F0(G:Gp)(x y:D)(k:Bool->Prop):Prop:=match x,y with
 |.str i,.str j=>k (!(Builtin.Str.occurrences j i 0 j.length 1).isEmpty)
 |x,.tup ys=>eQ x=ak/\ys.all eQ=ak/\k (ys.any λy=>aT y x)
 |x,.ref p=>(match bB G p with
  |some ys=>eQ x=ak/\ys.all eQ=ak/\k (ys.any λy=>aT y x)
  |none=>False)
 |_,_=>False
abbrev DR:R3:=λx y G R=>F0 G x y λb=>R (.bl b) G
section
variable{X:Cx}
private theorem aLA(hu:X.A.units+64<qg):uE X (qx .In) DR:=by
 refine⟨_,Y5.or YX,λH x y vx vy G R Q rx ry g h k=>?_⟩;have h':F0 G x y λb=>R (.bl b) G:=h;unfold F0 at h';split at h'
 .cases rx;cases ry;exact .inl ⟨_,_,rfl,rfl,k _ H _ G (.refl H) (.bl _) g h'⟩
 .cases ry with
  |@tup a xs ds ha ra =>
   refine .inr ⟨a,xs,rfl,.inr ha,Iv h'.1 rx,Jx ra h'.2.1,?_⟩;have e:Dn vx xs=_:=HK h'.1 rx ra h'.2.1;simp only[jf,if_false];rw[e];exact k _ H _ G (.refl H) (.bl _) g h'.2.2
 .cases ry;split at h'
  .rename_i ys e1;let⟨xs,hq,ra⟩:=cT g e1;refine .inr ⟨_,xs,rfl,.inl hq,Iv h'.1 rx,Jx ra h'.2.1,?_⟩;have e:Dn vx xs=_:=HK h'.1 rx ra h'.2.1;simp only[jf,if_false];rw[e];exact k _ H _ G (.refl H) (.bl _) g h'.2.2
  .exact h'.elim
 .exact h'.elim
abbrev oy(T:String)(G:Gp):D->Prop
 |.str _=>T="str"
 |.ref p=>T="list"/\(bB G p).isSome=ak
 |_=>False
def Nl{K:Fg}(g:HR K H G)(r:RD K H x v)(h:oy T G x):Ky K T v H:=by
 cases r with
 |str z=>exact h
 |ref p =>
  let⟨rfl,h⟩:=h;let⟨ds,e⟩:=Option.isSome_iff_exists.mp h;let⟨xs,hq,_⟩:=cT g e;exact .inl ⟨rfl,xs,hq⟩
 |_=>exact False.elim h
@[simp]def iL:=D->List D->Gp->dU->Prop
abbrev oq(X:Cx)(id:String)(r3:iL):Prop :=
 ∀(ψ:List (bw×Obj))(s:cu)(σ:St)(H:Hp)(x:D)(xs:List D)(vx:V)(vs:List V)(u:au)(us:List au)(G:Gp)(R:dU)(Q:VK),Inv X ψ σ H s->RD X.K H x vx->cN X.K H xs vs->RelV vx u->Vals vs us->HR X.K H G->r3 x xs G R ->
  (∀v H' d G',Ts H H'->RD X.K H' d v->HR X.K H' G'->R d G'->Q v H')->dj (fj X.prog X.w) X.A (call (.builtin id) (u::us)) (EP X ψ σ Q) X.xe s
variable{r3:iL}
def oq.of{r:V->List V->Hp->VK->Prop}(h:MtR X id r)(i:∀(H:Hp)(x:D)(xs:List D)(vx:V)(vs:List V)(G:Gp)(R:dU)(Q:VK),RD X.K H x vx->cN X.K H xs vs->HR X.K H G->r3 x xs G R ->
  (∀v H' d G',Ts H H'->RD X.K H' d v->HR X.K H' G'->R d G'->Q v H')->r vx vs H λv H'=>KF X.K H'->Q v H'):oq X id r3:=λψ s σ H x xs vx vs u us G R Q I rx rs ru rv g q k =>
 cV (h ψ s σ H vx vs u us _ I ru rv (i H x xs vx vs G R Q rx rs g q k)) λ_ _ ⟨v,H',I',r,q'⟩=>⟨v,H',I',r,q' (lW I')⟩
abbrev j3(T:String)(r:iL)(to:cA)(t:oR):cA:=λρ G R=>to ρ G λx G1=>oy T G1 x/\t ρ G1 λxs G2=>r x xs G2 R
abbrev Jb(T:String)(r:iL)(to:cA):cA:=λρ G R=>to ρ G λx G1=>oy T G1 x/\r x [] G1 R
def aLB{t:oR}{apos ai:Pos}(pa:PlainAttrs T)(slot:Slot T name id)(A2:typeOf (.builtin id)=pure (.type "method_descriptor"))(hm:oq X id r3)(ho:cC X o to)(ha:dA X (e::es) t)
  (bP:pd o name X.env (eval o X.env)=eval o X.env:=by rfl)
  (xn:((xr ai (jo (e::es) X.env)).all (λx=>!x.1)&&(backToKw ai (keywordEach [] X.env)).all (λx=>x.1.isSome)
   &&decide ((e::es).length+([]:List jv).length+(if([]:List jv).isEmpty then 0 else 1)<30))=ak:=by rfl)
  (bE:(apos.endLine==ai.line)=ak:=by rfl)(hs:jo (e::es) X.env=(ao,eval e X.env)::jo es X.env:=by rfl)(dt:(xr ai (jo es X.env)).any (·.1)=ao:=by rfl) :
  cC X (.Call (.Attribute o name apos) (e::es) [] ai) (j3 T r3 to t):=by
 intro ψ s σ H Q I h;let⟨ρ,G,R,sr,g,q,kk⟩:=h;refine wpAny_Call_method_late bP xn bE rfl (cV (ho ψ s σ H (λvx H1=>Ts H H1/\∃x G1,RD X.K H1 x vx/\HR X.K H1 G1/\oy T G1 x/\t ρ G1 λxs G2=>r3 x xs G2 R) I ⟨ρ,G,_,sr,g,q,λv H1 x G1 t1 r1 g1 q1=>⟨t1,x,G1,r1,g1,q1⟩⟩) ?_);rintro v s1 ⟨vx,H1,I1,r1,t1,x,G1,rx,g1,ty,q1⟩;let⟨h1,h2⟩:=ND I1 r1 (Nl g1 rx ty);refine⟨T,id,pa,slot,A2,h1,h2,?_⟩;have hA:=ha ai ψ s1 σ H1 (λvs H2=>Ts H1 H2/\∃xs G2,cN X.K H2 xs vs/\HR X.K H2 G2/\r3 x xs G2 R) I1 ⟨ρ,G1,_,sr.mono t1,g1,q1,λvs H2 xs G2 t2 r2 g2 q2=>⟨t2,xs,G2,r2,g2,q2⟩⟩;rw[hs]at hA ⊢;refine Calls.callWith_builtin (by show(ao||(xr ai (jo es X.env)).any (·.1))=ao;rw[dt]<;>rfl) (Calls.evalArgs_plain ?_);exact cV hA (by rintro us s2 ⟨vs,H2,I2,r2,t2,xs,G2,rs,g2,q2⟩;exact hm ψ s2 σ H2 x xs vx vs v us G2 R Q I2 (rx.mono t2) rs r1 r2 g2 q2 λv H' d G' t3=>kk v H' d G' ((t1.trans t2).trans t3))
def aGS{apos ai:Pos}(pa:PlainAttrs T)(slot:Slot T name id)(A2:typeOf (.builtin id)=pure (.type "method_descriptor"))(hm:oq X id r3)(ho:cC X o to)
  (bP:pd o name X.env (eval o X.env)=eval o X.env:=by rfl)(bE:(apos.endLine==ai.line)=ak:=by rfl):cC X (.Call (.Attribute o name apos) [] [] ai) (Jb T r3 to):=by
 intro ψ s σ H Q I h;let⟨ρ,G,R,sr,g,q,kk⟩:=h;refine JM bP bE (cV (ho ψ s σ H (λvx H1=>Ts H H1/\∃x G1,RD X.K H1 x vx/\HR X.K H1 G1/\oy T G1 x/\r3 x [] G1 R) I ⟨ρ,G,_,sr,g,q,λv H1 x G1 t1 r1 g1 q1=>⟨t1,x,G1,r1,g1,q1⟩⟩) ?_);rintro v s1 ⟨vx,H1,I1,r1,t1,x,G1,rx,g1,ty,q1⟩;let⟨h1,h2⟩:=ND I1 r1 (Nl g1 rx ty);exact⟨T,id,pa,slot,A2,h1,h2,Calls.callWith_builtin rfl (PySem.evalArgs_none (hm ψ s1 σ H1 x [] vx [] v [] G1 R Q I1 rx .nil r1 .nil g1 q1 λv H' d G' t3=>kk v H' d G' (t1.trans t3)))⟩
abbrev fB:iL:=λx xs G R=>match x,xs with
 |.ref p,[d]=>(match G p with
  |some (.lst ds)=>ds.length<dh/\R .ag (aG G p (.lst (ds++[d])))
  |_=>False)
 |_,_=>False
private theorem PD:oq X "list.append" fB:=oq.of QN λH x xs vx vs G R Q rx rs g q k=>by
 cases rx with
 |ref p =>
  cases rs with
  |nil=>exact False.elim q
  |@cons d v ds ws r rr =>
   cases rr with
   |cons _ _=>exact False.elim q
   |nil =>
    have q':(match G p with
     |some (.lst ds)=>ds.length<dh/\R .ag (aG G p (.lst (ds++[d])))
     |_=>False):=q
    split at q'
    .rename_i ds e1;let⟨ys,f1,r1⟩:=g p _ e1;refine⟨p,ys,v,rfl,rfl,f1,by rw[←r1.length];exact q'.1,λ_=>?_⟩;have tt:Ts H (upd H p (.lst (ys++[v]))):=.turn f1 (λ_ z=>nomatch z) (λ_ _ z=>nomatch z);exact k _ _ _ _ tt .ag (g.turn (u:=.lst (ds++[d])) tt ⟨_,aN,(r1.append (.cons r .nil)).mono tt⟩) q'.2
    .exact q'.elim
 |_=>cases rs<;>exact False.elim q
abbrev BW:cA:=λ_ G R=>∀p,G p=bh->R (.ref p) (aG G p (.bD ao []))
def aBB:cC X (.Dict [] [] pos) BW:=PE.imp (PE.kf X8) λσ H Q h=>by
 let⟨ρ,G,R,s,g,q,k⟩:=h;intro p hp kf;have sn:aI H (upd H p (.dK [])):=bO hp;exact k _ _ _ _ (.same sn) (.ref p) (g.put (u:=.bD ao []) hp (.inl ⟨rfl,[],aN,.nil⟩)) (q p (eV g hp kf))
abbrev rT:cA:=λ_ G R=>∀p,G p=bh->R (.ref p) (aG G p (.bD ak []))
def V0:cC X (.Dict [] [] pos) rT:=PE.imp (PE.kf PU) λσ H Q h=>by
 let⟨ρ,G,R,s,g,q,k⟩:=h;intro p hp kf;have sn:aI H (upd H p (.dT [])):=bO hp;exact k _ _ _ _ (.same sn) (.ref p) (g.put (u:=.bD ak []) hp (.inr ⟨rfl,[],aN,.nil⟩)) (q p (eV g hp kf))
end
end
end L2
namespace L2
open PySem
def jT:oh "isinstance"=aj (.builtin "isinstance"):=by decide+kernel
def rW:oh "len"=aj (.builtin "len"):=by decide+kernel
def aBC:oh "min"=aj (.builtin "min"):=by decide+kernel
def Nk:oh "max"=aj (.builtin "max"):=by decide+kernel
def HJ:oh "sum"=aj (.builtin "sum"):=by decide+kernel
def qW:oh "sorted"=aj (.builtin "sorted"):=by decide+kernel
def HI:oh "all"=aj (.builtin "all"):=by decide+kernel
def Nj:oh "int"=aj (.type "int"):=by decide+kernel
def VZ:oh "bool"=aj (.type "bool"):=by decide+kernel
def aBD:oh "str"=aj (.type "str"):=by decide+kernel
def XT:oh "tuple"=aj (.type "tuple"):=by decide+kernel
def OC:oh "list"=aj (.type "list"):=by decide+kernel
def OB:oh "dict"=aj (.type "dict"):=by decide+kernel
end L2
namespace L2
open PySem PySem.Spec PyProof.Rows
variable{cm:Bool}{lo:Int}{n:Nat}
section
abbrev Fq(x:Str):It:=⟨λi _=>i<x.cps.size,λi H v H'=>H'=H/\∃c,x.cps[i]?=aj c/\v=.str ⟨#[c]⟩,λi _=>x.cps.size<=i⟩
def QH{w:jj}{K:jm}(it:bw)(x:Str)(t:Tok):Turn cm tl P w K tg (Fq x) [it] it (λi h=>h.IsStrIter it "str_ascii_iterator" x t (min i x.cps.size)) where
 mem:=by simp
 obj:=λi h st b hb=>by
  have e:b=it:=by simpa using hb
  subst e;let⟨o,e,c,d⟩:=st;exact⟨o,e,λv z=>by rw[d]at z;cases z⟩
 keep:=λi h h' st k=>let⟨o,e,r⟩:=st;⟨o,k it (by simp) o e,r⟩
 item:=by
  intro X hP hw hK ff ht i ψ s σ H E I hf st hg;subst hP hw hK;let⟨f0,f1,f2,f3,f4,f5⟩:=hf it (by simp);have hi:i<x.cps.size:=hg;rw[B9 (zy hi)]at st;refine wpAny_pyNext_ascii_item st (c:=x.cps[i]) (by simp[hi]) λh' bu kk=>?_;have I1:Inv X ψ σ H {s with heap:=h',toks:=s.toks+1}:=I.turned (λb o hb e=>(kk.2 b hb).trans e) f0 f1 f3 f4 f5;let⟨o,e1,c1,d1⟩:=id bu;refine⟨_,rfl,rX (s:={s with heap:=h',toks:=s.toks+1}) e1 c1 d1 (by decide) ⟨.str ⟨#[x.cps[i]]⟩,H,I1,⟨_,rfl⟩,⟨rfl,x.cps[i],by simp[hi],rfl⟩,?_,λb hb=>(hf b hb).1⟩⟩;rw[B9 hi];exact bu
 done:=by
  intro X hP hw hK ff ht i ψ s σ H E I hf st hg;subst hP hw hK;let⟨f0,f1,f2,f3,f4,f5⟩:=hf it (by simp);have hi:x.cps.size<=i:=hg;rw[Nat.min_eq_right hi]at st;exact Zb (I.b8.heap I.af) st (by simp) λh' eb=>⟨rfl,I.turned (t':=s.toks) (λb o hb e=>eb b o hb e) f0 f1 f3 f4 f5⟩
 self:=λ_ _ _ _ _ st h=>wpAny_pyIter_striter_ascii st h
def QG{w:jj}{K:jm}(it:bw)(x:Str)(t:Tok):Turn cm tl P w K tg (Fq x) [it] it (λi h=>h.IsStrIter it "str_iterator" x t (min i x.cps.size)) where
 mem:=by simp
 obj:=λi h st b hb=>by
  have e:b=it:=by simpa using hb
  subst e;let⟨o,e,c,d⟩:=st;exact⟨o,e,λv z=>by rw[d]at z;cases z⟩
 keep:=λi h h' st k=>let⟨o,e,r⟩:=st;⟨o,k it (by simp) o e,r⟩
 item:=by
  intro X hP hw hK ff ht i ψ s σ H E I hf st hg;subst hP hw hK;let⟨f0,f1,f2,f3,f4,f5⟩:=hf it (by simp);have hi:i<x.cps.size:=hg;rw[B9 (zy hi)]at st;refine wpAny_pyNext_wide_item st (c:=x.cps[i]) (by simp[hi]) λh' bu kk=>?_;have I1:Inv X ψ σ H {s with heap:=h',toks:=s.toks+1}:=I.turned (λb o hb e=>(kk.2 b hb).trans e) f0 f1 f3 f4 f5;let⟨o,e1,c1,d1⟩:=id bu;refine⟨_,rfl,rX (s:={s with heap:=h',toks:=s.toks+1}) e1 c1 d1 (by decide) ⟨.str ⟨#[x.cps[i]]⟩,H,I1,⟨_,rfl⟩,⟨rfl,x.cps[i],by simp[hi],rfl⟩,?_,λb hb=>(hf b hb).1⟩⟩;rw[B9 hi];exact bu
 done:=by
  intro X hP hw hK ff ht i ψ s σ H E I hf st hg;subst hP hw hK;let⟨f0,f1,f2,f3,f4,f5⟩:=hf it (by simp);have hi:x.cps.size<=i:=hg;rw[Nat.min_eq_right hi]at st;exact Za (I.b8.heap I.af) st (by simp) λh' eb=>⟨rfl,I.turned (t':=s.toks) (λb o hb e=>eb b o hb e) f0 f1 f3 f4 f5⟩
 self:=λ_ _ _ _ _ st h=>wpAny_pyIter_striter_wide st h
inductive Src where
 |lst (p:bw) (xs:List D)|bS (xs:List D)|zip (p q:bw) (xs ys:List D)|FY (p:bw) (o:Obj) (aa:List (DK×D))|key (p:bw) (o:Obj) (t:Bool) (aa:List (DK×D))|cE (p:bw) (xs:List D)|Gq (p:bw) (xs:List D)|kz (p:bw) (o:Obj) (aa:List (NK×Int))
abbrev TR(xs:List D):List D:=xs.zipIdx.map λz=>.tup [.int z.2,z.1]
abbrev Sw(xs ys:List D):List D:=(xs.zip ys).map λz=>.tup [z.1,z.2]
abbrev Src.items:Src->List D
 |.lst _ xs=>xs
 |.bS xs=>xs
 |.zip _ _ xs ys=>Sw xs ys
 |.FY _ _ aa=>aa.map λz=>.tup [cK z.1,z.2]
 |.key _ _ _ aa=>aa.map λz=>cK z.1
 |.cE _ xs=>xs
 |.Gq _ xs=>TR xs
 |.kz _ _ aa=>aa.map λz=>ft z.1
abbrev Src.ok(G:Gp):Src->Prop
 |.lst p xs=>bB G p=aj xs
 |.bS _=>True
 |.zip p q xs ys=>bB G p=aj xs/\bB G q=aj ys
 |.FY p o aa=>G p=aj (.c9 o ao aa)
 |.key p o t aa=>G p=aj (.c9 o t aa)
 |.cE p xs=>G p=aj (.cE xs)
 |.Gq p xs=>G p=aj (.cE xs)
 |.kz p o aa=>G p=aj (.fb o aa)
abbrev kP(K:Fg)(H1:Hp)(src:Src)(J:It):Prop:=∀H2 G2,Ts H1 H2->HR K H2 G2->src.ok G2 ->
 (∀i,i<src.items.length->J.go i H2)/\(∀i v H',i<src.items.length->J.xw i H2 v H'->aI H2 H'/\∃d,src.items[i]?=aj d/\RD K H' d v)/\J.stop src.items.length H2
@[simp]def eB:=aP->Gp->(Src->Gp->Prop)->Prop
abbrev Sb(K:Fg)(t:eB):TI:=λσ H Q=>∃ρ G R,SR K H ρ σ/\HR K H G/\t ρ G R/\∀src J H' G',Ts H H'->HR K H' G'->kP K H' src J->R src G'->Q J H'
@[simp]def pk(X:Cx)(tg iter:ji)(t:eB):Prop:=PI X tg iter (Sb X.K t)
abbrev signs(z:Str):List D:=z.cps.toList.map λc=>.str ⟨#[c]⟩
abbrev Ax(te:cA):eB:=λρ G R=>te ρ G λx G1=>match x with
 |.ref p=>(match bB G1 p with
  |some xs=>R (.lst p xs) G1
  |none=>False)
 |.tup xs=>R (.bS xs) G1
 |.str z=>R (.bS (signs z)) G1
 |_=>False
def QF{K:Fg}:kP K H1 (.lst p xs) (J8 K p):=λH2 G2 t g ok=>by
 let⟨vs,hq,rv⟩:=cT g (show bB G2 p=aj xs from ok);refine⟨λi hi=>?_,λi v H' hi hy=>?_,⟨vs,hq,Ad rv.length.symm⟩⟩
 .have d6:i<xs.length:=hi;let⟨y,e1,_⟩:=rv.get (gV d6);exact⟨vs,y,hq,e1⟩
 .obtain⟨rfl,hy⟩:=hy;let⟨d,e1,e2⟩:=rv.DT (hy vs hq);exact⟨.refl _,d,e1,e2⟩
def PC{K:Fg}(hq:yM K H1 a vs)(rv:cN K H1 xs vs):kP K H1 (.bS xs) (J7 K a):=λH2 G2 t g ok=>by
 have qh:=t.xS hq;have KP:=rv.mono t;refine⟨λi hi=>?_,λi v H' hi hy=>?_,⟨vs,qh,Ad rv.length.symm⟩⟩
 .have d6:i<xs.length:=hi;let⟨y,e1,_⟩:=KP.get (gV d6);exact⟨vs,y,qh,e1⟩
 .obtain⟨rfl,hy⟩:=hy;let⟨d,e1,e2⟩:=KP.DT (hy vs qh);exact⟨.refl _,d,e1,e2⟩
def Jw{K:Fg}:kP K H1 (.bS (signs z)) (Fq z):=λH2 G2 t g ok=>by
 have hl:(signs z).length=z.cps.size:=by simp[signs]
 refine⟨λi hi=>?_,λi v H' hi hy=>?_,?_⟩
 .have:i<(signs z).length:=hi;rw[hl]at this;exact this
 .obtain⟨rfl,c,hc,rfl⟩:=hy;exact⟨.refl _,.str ⟨#[c]⟩,by simp[Src.items,signs,hc],.str _⟩
 .show z.cps.size<=(signs z).length;rw[hl];exact dz _
def Jv{K:Fg}:kP K H1 (.bS ((jw n).map λ(i:Nat)=>.int (lo+(i:Int)))) (AE lo n):=λH2 G2 t g ok=>by
 refine⟨λi hi=>?_,λi v H' hi hy=>?_,?_⟩
 .have d6:i<n:=by simpa[Src.items]using hi
  exact d6
 .obtain⟨rfl,rfl⟩:=hy;have d6:i<n:=by simpa[Src.items]using hi
  exact⟨.refl _,.int (lo+i),by simp[Src.items,d6],.int _⟩
 .show n<=_;simp[Src.items]
section
variable{X:Cx}
def PI.imp{t:TI}(h:PI X tg e t)(k:∀σ H Q,t' σ H Q->t σ H Q):PI X tg e t':=λψ s σ H Q I q=>h ψ s σ H Q I (k _ _ _ q)
private theorem aGT(hl:cC X l te):pk X tg l (Ax te):=by
 intro ψ s σ H R I h;let⟨ρ,G,R3,sr,g,q,k⟩:=h
 refine cV (hl ψ s σ H (λv H1=>Ts H H1/\∃x G1,RD X.K H1 x v/\HR X.K H1 G1/\(match x with
  |.ref p=>(match bB G1 p with
   |some xs=>R3 (.lst p xs) G1
   |none=>False)
  |.tup xs=>R3 (.bS xs) G1
  |.str z=>R3 (.bS (signs z)) G1
  |_=>False)) I ⟨ρ,G,_,sr,g,q,λv H1 x G1 t1 r g1 q1=>⟨t1,x,G1,r,g1,q1⟩⟩) λv s1 ⟨x,H1,I1,r1,t1,d,G1,rd,g1,q1⟩=>?_
 cases rd with
 |ref a =>
  have tF:(match bB G1 a with
   |some xs=>R3 (.lst a xs) G1
   |none=>False):=q1
  split at tF
  .rename_i xs e;cases r1;let⟨vs,hq,rv⟩:=cT g1 e;let⟨its,gc,p,hz⟩:=I1.list hq;refine Cf p.isList ?_;refine⟨s1.heap.objs.size,[s1.heap.objs.size],_,_,H1,rfl,I1.kept (t':=s1.toks) λb o e=>cj _ e,QU a _,⟨_,iz _ rfl,rfl,rfl⟩,λb hb=>?_,k _ _ H1 G1 t1 g1 QF tF⟩;have e:b=s1.heap.objs.size:=by simpa using hb
   subst e;exact I1.iE (dz _) (I1.af.fresh (dz _))
  .exact tF.elim
 |@tup a vs xs hq rv =>
  cases r1;let⟨its,gc,p,hz⟩:=I1.tuple hq;refine wpAny_pyIter_tuple (show s1.heap.IsTuple a its.toArray from p) ?_;refine⟨s1.heap.objs.size,[s1.heap.objs.size],_,_,H1,rfl,I1.kept (t':=s1.toks) λb o e=>cj _ e,Rf a _,⟨_,iz _ rfl,rfl,rfl⟩,λb hb=>?_,k _ _ H1 G1 t1 g1 (PC hq rv) q1⟩;have e:b=s1.heap.objs.size:=by simpa using hb
  subst e;exact I1.iE (dz _) (I1.af.fresh (dz _))
 |str z =>
  let⟨t,rfl⟩:=r1;cases ha:z.cps.all (· <128)
  .refine wpAny_pyIter_wide ha ?_;refine⟨s1.heap.objs.size,[s1.heap.objs.size],_,_,H1,rfl,I1.kept (t':=s1.toks) λb o e=>cj _ e,QG _ z t,?_,λb hb=>?_,k _ _ H1 G1 t1 g1 Jw q1⟩
   .rw[Nat.zero_min];exact⟨_,iz _ rfl,rfl,rfl⟩
   .have e:b=s1.heap.objs.size:=by simpa using hb
    subst e;exact I1.iE (dz _) (I1.af.fresh (dz _))
  .refine wpAny_pyIter_ascii ha ?_;refine⟨s1.heap.objs.size,[s1.heap.objs.size],_,_,H1,rfl,I1.kept (t':=s1.toks) λb o e=>cj _ e,QH _ z t,?_,λb hb=>?_,k _ _ H1 G1 t1 g1 Jw q1⟩
   .rw[Nat.zero_min];exact⟨_,iz _ rfl,rfl,rfl⟩
   .have e:b=s1.heap.objs.size:=by simpa using hb
    subst e;exact I1.iE (dz _) (I1.af.fresh (dz _))
 |_=>exact q1.elim
abbrev uF(lo hi:Int):List D:=(jw (hi - lo).toNat).map λ(i:Nat)=>.int (lo+(i:Int))
abbrev Aw(ta:oR):eB:=λρ G R=>ta ρ G λxs G1=>match xs with
 |[.int j]=>-(2^62)<=j/\j<2^62/\R (.bS (uF 0 j)) G1
 |_=>False
abbrev Av(ta:oR):eB:=λρ G R=>ta ρ G λxs G1=>match xs with
 |[.int i,.int j]=>(-(2^62)<=i/\i<2^62/\-(2^62)<=j/\j<2^62)/\R (.bS (uF i j)) G1
 |_=>False
def aBF(hg:Gl X "range")(hm:X.mg "range"=bh)(ha:dA X [a] ta)(hs:jo [a] X.env=[(ao,eval a X.env)]):pk X tg (.Call (.Name "range" p) [a] [] pos) (Aw ta) :=
 PI.imp (QT hg hm ha hs) λσ H Q h=>by
 let⟨ρ,G,R,s,g,q,k⟩:=h;refine⟨ρ,G,_,s,g,q,λvs H1 ds G1 t1 r g1 h1=>?_⟩;cases r with
 |nil=>exact h1.elim
 |cons r rr =>
  cases rr with
  |cons _ _=>cases r<;>exact False.elim h1
  |nil =>
   cases r with
   |int j =>
    let⟨l1,l2,h1⟩:=h1;refine⟨j,rfl,l1,l2,k _ _ H1 G1 t1 g1 ?_ h1⟩;unfold uF;rw[show(j - 0).toNat=j.toNat by omega];exact Jv
   |_=>exact False.elim h1
def aBG{b:ji}(hg:Gl X "range")(hm:X.mg "range"=bh)(ha:dA X [a,b] ta)(hs:jo [a,b] X.env=[(ao,eval a X.env),(ao,eval b X.env)])(md:jo [b] X.env=[(ao,eval b X.env)]):pk X tg (.Call (.Name "range" p) [a,b] [] pos) (Av ta) :=
 PI.imp (QS hg hm ha hs md) λσ H Q h=>by
 let⟨ρ,G,R,s,g,q,k⟩:=h;refine⟨ρ,G,_,s,g,q,λvs H1 ds G1 t1 r g1 h1=>?_⟩
 match ds,vs,r,h1 with
 |[],_,_,h1=>exact h1.elim
 |[_],_,.cons r .nil,h1=>cases r<;>exact False.elim h1
 |[_,_],_,.cons r (.cons r' .nil),h1 =>
  cases r with
  |int i =>
   cases r' with
   |int j=>exact⟨i,j,rfl,h1.1,k _ _ H1 G1 t1 g1 Jv h1.2⟩
   |_=>exact False.elim h1
  |_=>cases r'<;>exact False.elim h1
 |_::_::_::_,_,.cons r (.cons r' _),h1=>cases r<;>cases r'<;>exact False.elim h1
end
end
variable{env:Env}{j:Nat}
section
abbrev nG(cells:List (Str×bw)):List (Str×yc)->List (Str×bw)->List (Str×bw)
 |[],cs=>cs
 |(n,k)::r,cs=>nG cells r (if k=.free then(match cells.lookup n with
  |some a=>(n,a)::cs
  |none=>cs)else cs)
def qX{scope:b9}(h:∀y∈scope.names,y.2=.free->∃c,env.cells.lookup y.1=aj c):closureFor scope env=pure (nG env.cells scope.names []):=by
 unfold closureFor
 have all:∀(l:List (Str×yc))(cs:List (Str×bw)),(∀y∈l,y.2=.free->∃c,env.cells.lookup y.1=aj c) ->
   (forIn l cs λ(x:Str×yc)(r:List (Str×bw))=>(if(x.2==yc.free)=ak then do
    let a ←cellOf env x.1
    pure (ForInStep.yield ((x.1,a)::r))else pure (ForInStep.yield r):Sem (ForInStep (List (Str×bw)))))=(pure (nG env.cells l cs):Sem (List (Str×bw))):=by
  intro l
  induction l with
  |nil=>intro cs _;rfl
  |cons y r ih =>
   intro cs hl;let⟨n,k⟩:=y;rw[List.forIn_cons];by_cases hk:k=.free
   .subst hk;let⟨c,hc⟩:=hl (n,.free) (by simp) rfl;have e:cellOf env n=pure c:=by unfold cellOf;rw[hc]
    simp only[beq_self_eq_true,if_true,e];show(forIn r ((n,c)::cs) _:Sem _)=_;rw[ih _ λy hy=>hl y (by simp[hy])];simp only[nG,if_true,hc]
   .have F9:(k==yc.free)=ao:=by simpa using hk
    simp only[F9,jf,if_false];show(forIn r cs _:Sem _)=_;rw[ih _ λy hy=>hl y (by simp[hy])];simp only[nG,if_neg hk]
 have z:=all scope.names [] h;exact congrArg (λm=>m >>= λcs=>pure cs) z
private theorem gU{cells:List (Str×bw)}:∀{l:List (Str×yc)}{cs:List (Str×bw)}{y:Str}{c:bw},(nG cells l cs).lookup y=aj c->(∀c,cs.lookup y=aj c->cells.lookup y=aj c)->cells.lookup y=aj c
 |[],cs,y,c,h,k=>k c h
 |(n,kd)::r,cs,y,c,h,k=>by
  unfold nG at h;refine gU h λc' h'=>?_;by_cases hk:kd=.free
  .rw[if_pos hk]at h';split at h'
   .rename_i a ha;rw[vo]at h';split at h'
    .rename_i e;have e':y=n:=beq_iff_eq.mp e;subst e';rw[ha];exact h'
    .exact k c' h'
   .exact k c' h'
  .rw[if_neg hk]at h';exact k c' h'
def Ra{cells:List (Str×bw)}:∀{l:List (Str×yc)}{cs:List (Str×bw)}{y:Str},(∃c,cs.lookup y=aj c)->∃c,(nG cells l cs).lookup y=aj c
 |[],cs,y,h=>h
 |(n,kd)::r,cs,y,h=>by
  unfold nG;refine Ra ?_;by_cases hk:kd=.free
  .rw[if_pos hk];split
   ·rw[vo];split
    ·exact⟨_,rfl⟩
    .exact h
   .exact h
  .rw[if_neg hk];exact h
def JU{cells:List (Str×bw)}(hc:cells.lookup y=aj c):∀{l:List (Str×yc)}{cs:List (Str×bw)},(y,yc.free)∈l->∃c,(nG cells l cs).lookup y=aj c
 |[],cs,h=>by simp at h
 |(n,kd)::r,cs,h=>by
  unfold nG;rcases lg.mp h with e|h
  .cases e;refine Ra ?_;rw[if_pos rfl,hc];simp
  .exact JU hc h
private theorem mem_of_lookup{α:Type}:∀{l:List (Str×α)}{y:Str}{k:α},l.lookup y=aj k->(y,k)∈l
 |[],_,_,h=>by simp at h
 |(n,kd)::r,y,k,h=>by
  rw[vo]at h;split at h
  .rename_i e;have e':y=n:=beq_iff_eq.mp e;cases h;subst e';simp
  .exact qu _ (mem_of_lookup h)
structure rY(X:Cx)(xs:List Str)(scope:b9):Prop where
 kind:scope.kind=.function
 HH:∀y∈scope.names,y.2≠.cell
 locs:∀y∈scope.names,y.2=.local->scope.names.lookup y.1=aj .local
 var:∀x∈xs,scope.names.lookup x=aj .local
 frees:∀y∈scope.names,y.2=.free->X.env.kindOf y.1=aj .cell∨X.env.kindOf y.1=aj .free
 out:∀x∈xs,x∉X.N
 nd:xs.Nodup
 only:∀y∈X.N,scope.names.lookup y≠aj .local
@[simp]def iM(X:Cx)(xs:List Str)(scope:b9)(C:bw)(fg:cu)(Kt:Hp)(fp:List bw)(ψ:List (bw×Obj)):Cx :=
 {X with N:=xs++X.N,ar:=fg,aw:=Kt,env:=compEnvC scope (nG X.env.cells scope.names []) C X.env,outer:=X.stack,stack:=X.stack,ex:=fp,fn:=λ_=>ao,pn:=X.pn++ψ,xe:=λ_ _=>False}
abbrev nn(xs:List Str)(σ:St):St:=xs.map (λ_=>bh)++σ
def Ni{xs:List Str}{i:Nat}(h:(nn xs σ)[i]?=aj (aj v)):∃j,i=xs.length+j/\σ[j]?=aj (aj v):=by
 unfold nn at h;by_cases c:i<xs.length
 .rw[Cq (by simpa using c)]at h;simp at h
 .rw[yt (by simpa using c)]at h;exact⟨i - xs.length,⋯,by simpa using h⟩
def OA{α:Type}{xs ys:List α}:(xs++ys)[xs.length+j]?=ys[j]?:=by
 rw[yt ⋯];congr 1;omega
def dW{env:Env}{k:yc}:∀{names:List (Str×yc)},(names.map λ(n,k)=>if(k==.free&&env.scope.kind==.function&&env.kindOf n==aj .cell)then(n,.cell)else(n,k)).lookup y=aj k ->
  ∃k',names.lookup y=aj k'/\(k=k'∨(k=.cell/\k'=.free))
 |[],h=>by simp at h
 |(n,kd)::r,h=>by
  rw[iw]at h;by_cases hc:(kd==.free&&env.scope.kind==.function&&env.kindOf n==aj .cell)=ak
  .have h':B1 y ((n,yc.cell)::(r.map λ(n,k)=>if(k==.free&&env.scope.kind==.function&&env.kindOf n==aj .cell)then(n,.cell)else(n,k)))=aj k:=by
    simp only[hc,if_true]at h;exact h
   rw[vo]at h' ⊢;cases hx:y==n with
   |true =>
    rw[hx]at h';cases h';refine⟨kd,rfl,.inr ⟨rfl,?_⟩⟩;simp only[bx,beq_iff_eq]at hc;exact hc.1.1
   |false =>
    rw[hx]at h';exact dW h'
  .have h':B1 y ((n,kd)::(r.map λ(n,k)=>if(k==.free&&env.scope.kind==.function&&env.kindOf n==aj .cell)then(n,.cell)else(n,k)))=aj k:=by
    simp only[hc,if_false]at h;exact h
   rw[vo]at h' ⊢;cases hx:y==n with
   |true =>
    rw[hx]at h';cases h';exact⟨_,rfl,.inl rfl⟩
   |false =>
    rw[hx]at h';exact dW h'
end
variable{tk:Nat}
section
section
variable{X:Cx}{ψ:List (bw×Obj)}{s:cu}
def Iu(I:Inv X ψ σ H s){b:bw}(hb:b∈frs X.stack):b=X.env.locals∨b∈X.fs:=lg.mp (I.HQ b hb)
def aBH(I:Inv X ψ σ H s)(c:rY X xs scope)(hC:s.heap.objs.size<=C)(hf:∀b∈fp,jn X ψ H b/\b<s.heap.objs.size):(iM X xs scope C s H fp ψ).Ok where
 mod:=I.ok.mod
 kind:=c.kind
 glob:=I.ok.glob
 blt:=I.ok.blt
 above:=hC
 inj:=λy z d h1 h2=>I.ok.inj y z d (gU h1 λ_ h=>by simp at h) (gU h2 λ_ h=>by simp at h)
 has:=λy h=>by
  have hy:(y,yc.free)∈scope.names:=by
   rcases h with h|h
   .obtain⟨k',e,z⟩:=dW (env:=X.env) (names:=scope.names) h;rcases z with z|⟨_,z⟩
    .subst z;exact absurd rfl (c.HH _ (mem_of_lookup e))
    .subst z;exact mem_of_lookup e
   .obtain⟨k',e,z⟩:=dW (env:=X.env) (names:=scope.names) h;rcases z with z|⟨z,_⟩
    .subst z;exact mem_of_lookup e
    .cases z
  let⟨d,hd⟩:=I.ok.has y (c.frees _ hy rfl);exact JU hd hy
 DE:=λ_ _ h=>absurd h (by simp)
 hd:=I.ok.hd
 frames:=I.ok.frames
 C4:=.inl rfl
 TQ:=λb hb=>by
  let⟨⟨f0,f1,f2,f3,f4,f5⟩,lt⟩:=hf b hb;exact⟨jq (qb lt hC),λy d h=>f4 y d (gU h λ_ h=>by simp at h)⟩
 bs:=λb o e=>I.bs b o e
 qq:=wg I.ok.qq I.sz
 DW:=λb o e hb=>by
  let⟨⟨f0,f1,f2,f3,f4,f5⟩,lt⟩:=hf b hb;rcases f3 with z|z
  .exact I.ok.DW b o e z
  .exact absurd (qb (ig e) (wg I.ok.qq z)) (wz _)
 GA:=λb hb hs=>by
  let⟨⟨f0,f1,f2,f3,f4,f5⟩,lt⟩:=hf b hb;rcases Iu I hs with z|z
  .exact f1 z
  .exact f2 z
 js:=I.stack
 yl:=λb hb=>I.IG b hb
def aBI(I:Inv X ψ σ H s)(c:rY X xs scope)(hC:s.heap.objs.size=C)(hf:∀b∈fp,jn X ψ H b/\b<s.heap.objs.size){dQ:ju}{m:Str->Option au}(hn:dQ.Ns C m)(hk:∀b o,s.heap.get? b=aj o->dQ.get? b=aj o) :
  Inv (iM X xs scope C s H fp ψ) [] (nn xs σ) H {s with heap:=dQ,toks:=tk}:=by
 have lt:∀b o,s.heap.get? b=aj o->b≠C:=λb o e=>by rw[←hC];exact jq (ig e)
 refine⟨aBH I c (Ad hC) hf,rfl,I.bare,Un.kept hk,⟨m,hn,λi y v e1 e2 e3=>?_⟩,λy d e=>?_,I.af.fresh (Ad hC),λy d e=>I.uH y d (gU e λ_ h=>by simp at h),λp hp=>?_,I.af.kept hk,by simp[nn,I.len],I.b8,I.tup⟩
 .obtain⟨i,rfl,qo⟩:=Ni e2
  .have oj:X.N[i]?=aj y:=OA.symm.trans e1;have hy:y∈X.N:=qd oj
   have free:(y,yc.free)∈scope.names:=by
    have TZ:∃k,(relabel scope X.env).names.lookup y=aj k/\(k=.local∨k=.cell∨k=.free):=by
     rcases e3 with h|h|h
     .exact⟨_,h,.inl rfl⟩
     .exact⟨_,h,.inr (.inl rfl)⟩
     .exact⟨_,h,.inr (.inr rfl)⟩
    let⟨k,h,hk⟩:=TZ;let⟨k',e,z⟩:=dW (env:=X.env) (names:=scope.names) h;rcases z with z|⟨_,z⟩
    .subst z;rcases hk with rfl|rfl|rfl
     .exact absurd e (c.only y hy)
     .exact absurd rfl (c.HH _ (mem_of_lookup e))
     .exact mem_of_lookup e
    .subst z;exact mem_of_lookup e
   have Dv:=c.frees _ free rfl;let⟨m',Ls,Lu⟩:=I.loc;have xx:sv X.env.scope y:=Dv.elim (λz=>.inr (.inl z)) λz=>.inr (.inr z);let⟨u,r,l⟩:=Lu i y v oj qo xx;refine⟨u,r,.inr ⟨?_,?_⟩⟩
   .rcases e3 with h|h|h
    .obtain⟨k',e,z⟩:=dW (env:=X.env) (names:=scope.names) h;rcases z with z|⟨z,_⟩
     .subst z;exact absurd e (c.only y hy)
     .cases z
    .exact .inl h
    .exact .inr h
   .rcases l with⟨hl,_⟩|⟨_,d,hd,eJ⟩
    .rcases Dv with z|z
     .rw[z]at hl;cases hl
     .rw[z]at hl;cases hl
    .obtain⟨d',mn⟩:=JU (cells:=X.env.cells) (l:=scope.names) (cs:=[]) hd free;have:=gU mn λ_ h=>by simp at h
     rw[hd]at this;cases this;refine⟨d,mn,?_⟩;let⟨o,ho,b7⟩:=eJ;exact⟨o,hk _ _ ho,b7⟩
 .obtain⟨w,o,ho,b7⟩:=I.cell y d (gU e λ_ h=>by simp at h);exact⟨w,o,hk _ _ ho,b7⟩
 .have F6:p∈X.pn++ψ:=by simpa using hp
  let⟨e,n,ne,nf,d⟩:=I.pin p F6;refine⟨hk _ _ e,n,lt _ _ e,λz=>?_,d⟩;rcases Iu I z with z|z
  .exact ne z
  .exact nf z
def VY(I:Inv X ψ σ H s)(hC:s.heap.objs.size=C)(hf:∀b∈fp,jn X ψ H b/\b<s.heap.objs.size){s':cu}(J:Inv (iM X xs scope C s H fp ψ) Ak aS H' s')(hs:jr C s'.heap h') :
  Inv X ψ σ H' {s' with heap:=h',toks:=tk}:=by
 have ne:∀b o,s.heap.get? b=aj o->b≠C:=λb o e=>by rw[←hC];exact jq (ig e)
 have u:Un (frs X.stack) fp H H' s.heap s'.heap:=J.base;have di:H' C=bh:=J.free;refine I.gX (ch:=fp) J.os ⟨λb o e n hb hx=>?_,λb o e n hb hx=>?_,u.free,λb o e hx=>?_,u.aE,u.lZ,u.yL⟩ (λb o e=>?_) J.bare (λb hb=>?_)
 .exact(hs.2 b (ne b o e)).trans (u.keep b o e n hb hx)
 .obtain⟨sl,e1⟩:=u.slot b o e n hb hx;exact⟨sl,(hs.2 b (ne b o e)).trans e1⟩
 .obtain⟨o',e1⟩:=u.there b o e hx;exact⟨o',(hs.2 b (ne b o e)).trans e1⟩
 .refine(J.af b o e).b5 (λd w hd q=>(hs.2 d ?_).trans q) (λ_ q=>q) λ_ _ q=>q;rintro rfl;rcases hd with z|z
  .rw[z]at di;rw[e]at di;cases di
  .rw[di]at z;cases z
 .obtain⟨⟨f0,f1,f2,f3,f4,f5⟩,lt⟩:=hf b hb;exact⟨f3,f1,f4,f5⟩
end
end
variable{ψ:List (bw×Obj)}{s:cu}{ds:List D}
section
abbrev uT:wY:=λ_ G R=>R ak G
abbrev zb(X:Cx)(ifs:List ji)(tc:wY):Prop :=
 ∀(ψ:List (bw×Obj))(s:cu)(σ:St)(H:Hp)(Q:Bool->Hp->Prop),Inv X ψ σ H s->l8 X.K tc σ H Q ->
  dj (fj X.prog X.w) X.A (forIn ifs ak λc r=>if r=ak then do let ok ←isTrue c X.env (eval c X.env);pure (ForInStep.yield ok)else pure (ForInStep.yield r)) (TP X ψ σ Q) X.xe s
def VX:zb X [] uT:=λψ s σ H Q I h=>by
 let⟨ρ,G,R,sr,g,q,k⟩:=h;exact cg ⟨H,I,k ak H G (.refl H) g q⟩
def VW(hc:jI X c tc):zb X [c] tc:=λψ s σ H Q I h=>by
 rw[List.forIn_cons];simp only[if_true];refine aq (aq (cV (hc ψ s σ H Q I h) λb s1 q=>?_));exact cg (cg q)
section
variable{X:Cx}{x:Str}{xs:List Str}{cf:ji}{dv:D->Option (List D)}{scope:b9}{iter elt:ji}{ifs:List ji}{pos:Pos}{ti:eB}{tc:wY}{te:cA}
structure DQ(X:Cx)(ψ:List (bw×Obj))(H':Hp)(C:bw)(h:ju):Prop where
 ns:∃m,h.Ns C m
 free:H' C=bh
 loc:C≠X.env.locals
 young:X.ar.heap.objs.size<=C
 cells:∀y d,X.env.cells.lookup y=aj d->d≠C
 ψ:∀p∈X.pn++ψ,p.1≠C
def DQ.turn{X:Cx}(o:DQ X ψ H' C s.heap)(I:Inv X ψ σ H' s)(hs:jr C s.heap h'):Inv X ψ σ H' {s with heap:=h' } :=
 I.turned (t':=s.toks) (λb ob hb e=>(hs.2 b hb).trans e) o.free o.loc (.inr o.young) o.cells o.ψ
abbrev Br(Y:Cx)(cf:ji)(xs:List Str)(dv:D->Option (List D))(σ:St):Prop:=∀(ψ:List (bw×Obj))(s:cu)(H:Hp)(v:V)(u:au)(d:D)(ds:List D),Inv Y ψ (nn xs σ) H s->RelV v u->RD Y.K H d v->dv d=aj ds ->
 dj (fj Y.prog Y.w) Y.A (assign cf Y.env u) (λ_ s'=>∃vs,cN Y.K H ds vs/\Inv Y ψ (vs.map aj++σ) H s') Y.xe s
def Nh{K:Fg}(s:SR K H ρ σ):∀{ds:List D}{vs:List V},cN K H ds vs->SR K H (ds.map aj++ρ) (vs.map aj++σ)
 |_,_,.nil=>s
 |_,_,.cons h r=>.some h (Nh s r)
private theorem XS{prog:kj}{w:jj}{A:mq}{R:Result->cu->Prop}{elt iter:ji}{ifs:List ji}{scope:b9}{pos:Pos}(J:Nat->cu->Prop)
  (turn:∀n s,J n s->dj (fj prog w) A (zx it) (λr s1=>match r with
   |none=>R (.ok .next) s1
   |some v=>dj (fj prog w) A (Cd target it v) (λ_ KL=>dj (fj prog w) A (assign target env v) (λ_ s2 =>
     dj (fj prog w) A (forIn ifs ak λc r=>if r=ak then do let ok ←isTrue c env (eval c env);pure (ForInStep.yield ok)else pure (ForInStep.yield r)) (λok s3 =>
      if ok=ak then dj (fj prog w) A (eval elt env) (λx s4 =>
         dj (fj prog w) A (call (.builtin "list.append") [acc,x]) (λ_ s5=>∃m,m<n/\J m s5) (notedBy (fj prog w) A env λe s'=>R (.error e) s') s4) (notedBy (fj prog w) A env λe s'=>R (.error e) s') s3
      else ∃m,m<n/\J m s3) (notedBy (fj prog w) A env λe s'=>R (.error e) s') s2) (notedBy (fj prog w) A env λe s'=>R (.error e) s') KL) (notedBy (fj prog w) A env λe s'=>R (.error e) s') s1) (notedBy (fj prog w) A env λe s'=>R (.error e) s') s)
  (n:Nat)(h:J n s):gL (fj prog w) A (.compLoop (.ListComp elt [⟨target,iter,ifs,0⟩] scope pos) 0 it acc env) R s:=by
 refine codeAny_loop rfl J (λn s hJ=>?_) n h;show dj _ A ((compTurn (.ListComp elt [⟨target,iter,ifs,0⟩] scope pos) 0 it acc env).onRaise (λz=>do noteFrame z env;theTreesLotGoes z)) _ _ s;refine wpAny_noted ?_;rw[compTurn_list];refine aq (wpAny_standAt (aq (ug (turn n s hJ) (λr s1 h1=>?_) λ_ _ z=>z)));cases r with
 |none=>exact cg h1
 |some v =>
  refine aq (ug h1 (λ_ KL TB=>?_) λ_ _ z=>z);refine aq (ug TB (λ_ s2 h2=>aq (ug h2 (λok s3 h3=>?_) λ_ _ z=>z)) λ_ _ z=>z);cases ok with
  |false=>exact cg ⟨rfl,h3⟩
  |true=>exact aq (aq (ug h3 (λx s4 h4=>aq (ug h4 (λ_ s5 h5=>cg (cg ⟨rfl,h5⟩)) λ_ _ z=>z)) λ_ _ z=>z))
private theorem QE(c:rY X xs scope)(hT:∀C s H fp ψ σ,Br (iM X xs scope C s H fp ψ) cf xs dv σ)(yi:∀d ds,dv d=aj ds->ds.length=xs.length)(hc:∀C s H fp ψ,zb (iM X xs scope C s H fp ψ) ifs tc)(he:∀C s H fp ψ,cC (iM X xs scope C s H fp ψ) elt te){s2:cu}{σ:St}{H H2:Hp}{ρ:aP}{G1:Gp}{R:dU}{it:bw}{fp:List bw}{tn:Nat->ju->Prop}{J:It}{src:Src}{RR:au->bw->Result->cu->Prop}(sr:SR X.K H ρ σ)(I2:Inv X ψ σ H2 s2)(T:Turn X.calm X.tp X.prog X.w X.K cf J fp it tn)(hX:tn 0 s2.heap)(f2:∀b∈fp,jn X ψ H2 b)(t1:Ts H H2)(g1:HR X.K H2 G1)(sj:kP X.K H2 src J)
  (hlen:src.items.length<dh)(body:∀p,G1 p=bh->∃P:Nat->List D->Gp->Prop,P 0 [] (aG G1 p (.lst [])) /\
   (∀k ds G,k<=src.items.length->P k ds G->src.ok G/\G p=aj (.lst ds)/\ds.length<=k) /\
   (∀k d ds G,src.items[k]?=aj d->P k ds G->∃ys,dv d=aj ys/\tc (ys.map aj++ρ) G λb G2=>if b=ak then te (ys.map aj++ρ) G2 λy G3=>G3 p=aj (.lst ds)/\P (k+1) (ds++[y]) (aG G3 p (.lst (ds++[y])))else P (k+1) ds G2) /\
   ∀ds G,P src.items.length ds G->∃G0,Le G0 G/\R (.ref p) G0)
  (Tv:∀Da C s5 H' G0,Inv X ψ σ H' s5->DQ X ψ H' C s5.heap->Ts H H'->HR X.K H' G0->R (.ref Da) G0->RR (.ref Da) C (.ok .next) s5) :
  dj (fj X.prog X.w) X.A (newList []) (λacc fg=>dj (fj X.prog X.w) X.A (newFunctionEnv scope X.env.globals (nG X.env.cells scope.names []) [] X.env.qual bh .none (aj X.env)) (λCL iN =>
   gL (fj X.prog X.w) X.A (.compStart (.ListComp elt [⟨cf,iter,ifs,0⟩] scope pos) 0 (.ref it) acc {CL with scope:=relabel scope X.env}) (RR acc CL.locals) iN) X.xe fg) X.xe s2:=by
 refine yd ?_;have I3:=I2.Qf (its:=[]) (ys:=[]) (t':=s2.toks) .nil (by decide);have hD:H2 s2.heap.objs.size=bh:=I2.fresh;have kf:=lW I3;have gD:G1 s2.heap.objs.size=bh:=eV g1 hD kf;let⟨P,p0,AN,FJ,pend⟩:=body _ gD
 have K8:∀b∈fp,b<s2.heap.objs.size:=λb hb=>by
  let⟨o,e,_⟩:=T.obj 0 _ hX b hb;exact ig e
 have Kl:(s2.heap.push {cls:=.type "list",data:=.seq ([]:List au).toArray}).objs.size=s2.heap.objs.size+1:=B7 ..
 have Dx:∀b∈fp,jn X ψ (upd H2 s2.heap.objs.size (.lst [])) b/\b<(s2.heap.push {cls:=.type "list",data:=.seq ([]:List au).toArray}).objs.size:=λb hb=>by
  let⟨f0,fr⟩:=f2 b hb;exact⟨⟨by rw[aZ (jq (K8 b hb))];exact f0,fr⟩,by rw[Kl];exact Aq (K8 b hb)⟩
 refine wpAny_newFunctionEnv c.HH (by intro y hy;simp at hy) (λdQ lS lP=>?_) c.kind;dsimp only at lS lP ⊢;generalize Tw:s2.heap.push {cls:=.type "list",data:=.seq ([]:List au).toArray}=h3 at *;generalize hDe:s2.heap.objs.size=Da at *;have Mm:∀b o,h3.get? b=aj o->dQ.get? b=aj o:=λb o e=>lP.extBut b o (jq (ig e)) (cj _ e)
 show gL (fj X.prog X.w) X.A (Code.compStart (elt.ListComp [{target:=cf,iter:=iter,ifs:=ifs,is_async:=0}] scope pos) 0 (au.ref it) (au.ref Da) (compEnvC scope (nG X.env.cells scope.names []) h3.objs.size X.env))
  (RR (.ref Da) h3.objs.size) {s2 with heap:=dQ,toks:=s2.toks+([]:List (Str×au)).length}
 have J0:=aBI (tk:=s2.toks+([]:List (Str×au)).length) I3 c rfl Dx lS Mm;have FD:tn 0 dQ:=T.keep _ _ _ hX λb hb o e=>Mm b o (by rw[←Tw];exact cj _ e);have g0:HR X.K (upd H2 Da (.lst [])) (aG G1 Da (.lst [])):=g1.put (u:=.lst []) hD ⟨[],aN,.nil⟩;have Sf:Ts H2 (upd H2 Da (.lst [])):=.same (bO hD)
 have loop:∀iN:cu,Inv (iM X xs scope h3.objs.size {s2 with heap:=h3,toks:=s2.toks} (upd H2 Da (.lst [])) fp ψ) [] (nn xs σ) (upd H2 Da (.lst [])) iN->tn 0 iN.heap ->
   gL (fj X.prog X.w) X.A (.compLoop (.ListComp elt [⟨cf,iter,ifs,0⟩] scope pos) 0 (.ref it) (.ref Da) (compEnvC scope (nG X.env.cells scope.names []) h3.objs.size X.env)) (RR (.ref Da) h3.objs.size) iN:=by
  intro iN J4 Sh
  refine XS (λn s'=>∃i ds H' G',Inv (iM X xs scope h3.objs.size {s2 with heap:=h3,toks:=s2.toks} (upd H2 Da (.lst [])) fp ψ) [] (nn xs σ) H' s'/\tn i s'.heap/\(∀b∈fp,H' b=bh)/\HR X.K H' G'/\P i ds G'/\i<=src.items.length/\n=src.items.length - i/\Ts H2 H') (λn s' hI=>?_) src.items.length
   ⟨0,[],_,_,J4,Sh,λb hb=>(Dx b hb).1.1,g0,p0,ud _,by simp,Sf⟩
  let⟨i,ds,H',G',J,st,fr,g',p,d6,rfl,ts⟩:=hI;let⟨ok,hDl,LB⟩:=AN i ds G' d6 p;let⟨Sm,aLF,aGV⟩:=sj H' G' ts g' ok
  have Gk:∀{H':Hp},(∀b∈fp,H' b=bh)->∀b∈fp,jn (iM X xs scope h3.objs.size {s2 with heap:=h3,toks:=s2.toks} (upd H2 Da (.lst [])) fp ψ) [] H' b:=λhn b hb=>by
   let⟨⟨f0,f1,TN,f3,f4,f5⟩,lt⟩:=Dx b hb;refine⟨hn b hb,jq lt,λhs=>?_,.inl hb,λy d e=>f4 y d (gU e λ_ h=>by simp at h),λp' F6=>f5 p' (by simpa using F6)⟩;rcases Iu I3 hs with z|z
   .exact f1 z
   .exact TN z
  by_cases d5:i<src.items.length
  .refine ug (T.item (iM X xs scope h3.objs.size {s2 with heap:=h3,toks:=s2.toks} (upd H2 Da (.lst [])) fp ψ) rfl rfl rfl (λh=>h) (λ_ h=>h) i [] s' (nn xs σ) H' (λ_ _=>False) J (Gk fr) st (Sm i d5)) ?_ λ_ _ z=>z.elim;rintro r s5 ⟨u,hr,h5⟩;subst hr
   obtain⟨d0,ys,Tn,ey,aLH⟩:∃d ys,src.items[i]?=aj d/\dv d=aj ys/\tc (ys.map aj++ρ) G' λb G2=>if b=ak then te (ys.map aj++ρ) G2 λy G3=>G3 Da=aj (.lst ds)/\P (i+1) (ds++[y]) (aG G3 Da (.lst (ds++[y])))else P (i+1) ds G2:=by
    have hd:src.items[i]?=aj src.items[i]:=gV d5;let⟨ys,e,z⟩:=FJ i _ ds G' hd p;exact⟨_,ys,hd,e,z⟩
   show dj _ _ (Cd cf (.ref it) u) _ _ s5;refine ug h5 ?_ λ_ _ z=>z.elim;rintro _ s6 ⟨vx,H6,I6,r6,y6,FA,TL⟩;let⟨sm,d,hd,rd⟩:=aLF i vx H6 d5 y6;have g':=g'.same sm;have ts:=ts.trans (.same sm);obtain rfl:d0=d:=jk.inj (Tn.symm.trans hd);have I6':=I6.pinned (Gk TL) (T.obj _ _ FA);refine ug (hT _ _ _ _ _ _ _ s6 H6 vx u _ _ I6' r6 rd ey) ?_ λ_ _ z=>z.elim;rintro _ s7 ⟨vs,KO,I7⟩;have lv:vs.length=xs.length:=by rw[←KO.length];exact yi _ _ ey
   have Ng:∀{nX:cu}{Kc:St}{Cz:Hp},Inv (iM X xs scope h3.objs.size {s2 with heap:=h3,toks:=s2.toks} (upd H2 Da (.lst [])) fp ψ) ([]++Ay fp s6.heap) Kc Cz nX->tn (i+1) nX.heap/\∀b∈fp,Cz b=bh:=λFs=>by
    refine⟨T.keep _ _ _ FA λb hb o e=>(Fs.pin (b,o) (um _ (um _ (rP hb e)))).1,λb hb=>?_⟩;let⟨o,e,_⟩:=T.obj _ _ FA b hb;exact(Fs.pin (b,o) (um _ (um _ (rP hb e)))).2.1
   have down:∀{nX:cu}{Cz:Hp},Inv (iM X xs scope h3.objs.size {s2 with heap:=h3,toks:=s2.toks} (upd H2 Da (.lst [])) fp ψ) ([]++Ay fp s6.heap) (vs.map aj++σ) Cz nX->Inv (iM X xs scope h3.objs.size {s2 with heap:=h3,toks:=s2.toks} (upd H2 Da (.lst [])) fp ψ) [] (nn xs σ) Cz nX:=λFs =>
    Fs.zA.weak (by simp[nn,lv]) λj v e=>by
     let⟨j',rfl,e'⟩:=Ni e;rw[←lv,show vs.length=(vs.map aj).length by simp,OA];exact e'
   have KI:SR X.K H6 (ys.map aj++ρ) (vs.map aj++σ):=Nh (sr.mono (t1.trans ts)) KO
   refine ug (hc _ _ _ _ _ _ s7 (vs.map aj++σ) H6 (λb H8=>Ts H6 H8/\∃G8,HR X.K H8 G8/\(if b=ak then te (ys.map aj++ρ) G8 λy G3=>G3 Da=aj (.lst ds)/\P (i+1) (ds++[y]) (aG G3 Da (.lst (ds++[y])))else P (i+1) ds G8)) I7
    ⟨ys.map aj++ρ,G',_,KI,g',aLH,λb H8 G8 t8 g8 q8=>⟨t8,G8,g8,q8⟩⟩) (λb s8 ⟨H8,I8,t8,G8,g8,q8⟩=>?_) λ_ _ z=>z.elim
   cases b with
   |false =>
    rw[if_neg (by decide)];have FI:P (i+1) ds G8:=by simpa using q8
    let⟨a1,a2⟩:=Ng I8;exact⟨src.items.length - (i+1),⋯,i+1,ds,H8,G8,down I8,a1,a2,g8,FI,d5,rfl,ts.trans t8⟩
   |true =>
    rw[if_pos rfl];have FI:te (ys.map aj++ρ) G8 λy G3=>G3 Da=aj (.lst ds)/\P (i+1) (ds++[y]) (aG G3 Da (.lst (ds++[y]))):=by simpa using q8
    refine ug (he _ _ _ _ _ _ s8 (vs.map aj++σ) H8 (λvy H9=>Ts H8 H9/\∃y G9,RD X.K H9 y vy/\HR X.K H9 G9/\G9 Da=aj (.lst ds)/\P (i+1) (ds++[y]) (aG G9 Da (.lst (ds++[y])))) I8 ⟨ys.map aj++ρ,G8,_,KI.mono t8,g8,FI,λvy H9 y G9 t9 r9 g9 q9=>⟨t9,y,G9,r9,g9,q9⟩⟩) ?_ λ_ _ z=>z.elim;rintro uy s9 ⟨vy,H9,I9,ry,t9,y,G9,Sn,g9,Tx,q9⟩;let⟨ws,LH,rws⟩:=g9 Da _ Tx;have aGX:ws.length<dh:=by rw[←rws.length];omega
    refine ug (QN (X:=iM X xs scope h3.objs.size {s2 with heap:=h3,toks:=s2.toks} (upd H2 Da (.lst [])) fp ψ) _ s9 (vs.map aj++σ) H9 (.ref Da) [vy] (.ref Da) [uy] (λ_ RZ=>RZ=upd H9 Da (.lst (ws++[vy]))) I9 rfl (.cons ry .nil) ⟨Da,ws,vy,rfl,rfl,LH,aGX,rfl⟩) ?_ λ_ _ z=>z.elim;rintro _ s10 ⟨_,RZ,RY,_,yo⟩;subst yo;let⟨a1,a2⟩:=Ng RY;have tt:Ts H9 (upd H9 Da (.lst (ws++[vy]))):=.turn LH (λ_ z=>nomatch z) (λ_ _ z=>nomatch z);exact⟨src.items.length - (i+1),⋯,i+1,ds++[y],_,_,down RY,a1,a2,g9.turn (u:=.lst (ds++[y])) tt ⟨_,aN,(rws.append (.cons Sn .nil)).mono tt⟩,q9,d5,rfl,((ts.trans t8).trans t9).trans tt⟩
  .have TU:i=src.items.length:=by omega
   subst TU;refine ug (T.done (iM X xs scope h3.objs.size {s2 with heap:=h3,toks:=s2.toks} (upd H2 Da (.lst [])) fp ψ) rfl rfl rfl (λh=>h) (λ_ h=>h) _ [] s' (nn xs σ) H' (λ_ _=>False) J (Gk fr) st aGV) ?_ λ_ _ z=>z.elim;rintro r s5 ⟨hr,J5⟩;subst hr;let⟨m5,S8,_⟩:=id J5.loc;let⟨G0,l0,q0⟩:=pend ds G' p;have I5:Inv X ψ σ H' s5:=VY (tk:=s5.toks) I3 rfl Dx J5 (jr.refl _ _);refine Tv Da _ s5 H' G0 I5 ⟨⟨m5,S8⟩,J5.free,Ae I3.lt,I3.sz,λy d e z=>?_,λp hp z=>?_⟩ (t1.trans ts) (g'.le l0) q0
   .obtain⟨w,o,ho,_⟩:=I3.cell y d e;rw[z]at ho;exact absurd (ig ho) (wz _)
   .have:=(I3.pin p hp).1;rw[z]at this;exact absurd (ig this) (wz _)
 exact codeAny_compStart_list (loop _ J0 FD) (T.self X.A 0 _ _ _ FD (loop _ J0 FD))
abbrev oU(dv:D->Option (List D))(ti:eB)(tc:wY)(te:cA):cA:=λρ G R=>ti ρ G λsrc G1=>src.items.length<dh/\∀p,G1 p=bh->∃P:Nat->List D->Gp->Prop,P 0 [] (aG G1 p (.lst [])) /\
 (∀k ds G,k<=src.items.length->P k ds G->src.ok G/\G p=aj (.lst ds)/\ds.length<=k) /\
 (∀k d ds G,src.items[k]?=aj d->P k ds G->∃ys,dv d=aj ys/\tc (ys.map aj++ρ) G λb G2=>if b=ak then te (ys.map aj++ρ) G2 λy G3=>G3 p=aj (.lst ds)/\P (k+1) (ds++[y]) (aG G3 p (.lst (ds++[y])))else P (k+1) ds G2) /\
 ∀ds G,P src.items.length ds G->∃G0,Le G0 G/\R (.ref p) G0
abbrev i9(d:D):Option (List D):=some [d]
@[simp]def nH(ti:eB)(tc:wY)(te:cA):cA:=oU i9 ti tc te
abbrev Bq(n:Nat)(d:D):Option (List D):=match d with
 |.tup ds=>if ds.length=n then aj ds else bh
 |_=>bh
@[simp]def Oz(n:Nat)(ti:eB)(tc:wY)(te:cA):cA:=oU (Bq n) ti tc te
def PB(d:D)(ds:List D)(h:i9 d=aj ds):ds.length=[x].length:=by
 unfold i9 at h;cases h;rfl
private theorem Oy{d:D}(h:Bq n d=aj ds):d=.tup ds/\ds.length=n:=by
 unfold Bq at h;split at h
 .split at h
  .rename_i e;cases h;exact⟨rfl,e⟩
  .cases h
 .cases h
def HG(c:rY X xs scope)(b8:X.N.Nodup):(xs++X.N).Nodup:=zu.mpr ⟨c.nd,b8,λa ha b hb e=>c.out a ha (e ▸ hb)⟩
def Nf(c:rY X [x] scope)(b8:X.N.Nodup):Br (iM X [x] scope C s H fp ψ) (.Name x px) [x] i9 σ:=by
 intro Ak s' H' v u d ds I r rd e;unfold i9 at e;cases e;have Sy:PG (iM X [x] scope C s H fp ψ) (.Name x px) (Ee 0):=IF (HG c b8) rfl (.inl (Cn (c.var x (by simp)))) (.inr (Cn (c.var x (by simp))));refine ug (Sy Ak s' (nn [x] σ) H' v u (λaS H2=>aS=[v].map aj++σ/\H2=H') I r ⟨rfl,rfl⟩) ?_ λ_ _ z=>z;rintro _ s2 ⟨fN,H2,I2,e2,e3⟩;subst e2;subst e3;exact⟨[v],.cons rd .nil,I2⟩
def Ir(c:rY X xs scope)(hT:∀C s H fp ψ σ,Br (iM X xs scope C s H fp ψ) cf xs dv σ)(yi:∀d ds,dv d=aj ds->ds.length=xs.length)(hi:pk X cf iter ti)(hc:∀C s H fp ψ,zb (iM X xs scope C s H fp ψ) ifs tc)(he:∀C s H fp ψ,cC (iM X xs scope C s H fp ψ) elt te)
  (hs:∀y,Ci iter X.env y=pure y):cC X (.ListComp elt [⟨cf,iter,ifs,0⟩] scope pos) (oU dv ti tc te):=by
 intro ψ s σ H Q I h;let⟨ρ,G,R,sr,g,q,kk⟩:=h;rw[eval_ListComp];refine wpAny_comprehension_free (use:=none) rfl hs (qX λy hy hf=>I.ok.has y.1 (c.frees y hy hf)) c.kind c.locs ?_
 refine cV (hi ψ s σ H (λJ H1=>Ts H H1/\∃src G1,HR X.K H1 G1/\kP X.K H1 src J/\(src.items.length<dh/\∀p,G1 p=bh->∃P:Nat->List D->Gp->Prop,P 0 [] (aG G1 p (.lst [])) /\
   (∀k ds G,k<=src.items.length->P k ds G->src.ok G/\G p=aj (.lst ds)/\ds.length<=k) /\
   (∀k d ds G,src.items[k]?=aj d->P k ds G->∃ys,dv d=aj ys/\tc (ys.map aj++ρ) G λb G2=>if b=ak then te (ys.map aj++ρ) G2 λy G3=>G3 p=aj (.lst ds)/\P (k+1) (ds++[y]) (aG G3 p (.lst (ds++[y])))else P (k+1) ds G2) /\
   ∀ds G,P src.items.length ds G->∃G0,Le G0 G/\R (.ref p) G0)) I ⟨ρ,G,_,sr,g,q,λsrc J H' G' t1 g1 sj q1=>⟨t1,src,G',g1,sj,q1⟩⟩) λv s1 h1=>cV h1 λDm s2 hz=>?_
 let⟨it,fp,tn,J,H2,e,I2,T,hX,f2,t1,src,G1,g1,sj,hlen,body⟩:=hz;subst e
 exact QE (RR:=λacc C=>compPost (fj X.prog X.w) X.A X.xe bh (EP X ψ σ Q) acc C) c hT yi hc he sr I2 T hX f2 t1 g1 sj hlen body λDa C s5 H' G0 I5 o ts g0 q0=>by
  let⟨m,hn⟩:=o.ns;exact⟨m,hn,λh' d3=>⟨.ref Da,H',o.turn I5 d3,rfl,kk _ H' _ G0 ts (.ref Da) g0 q0⟩⟩
private theorem VV{i:Nat}(c:rY X xs scope)(hT:∀C s H fp ψ σ,Br (iM X xs scope C s H fp ψ) cf xs dv σ)(yi:∀d ds,dv d=aj ds->ds.length=xs.length)(b8:X.N.Nodup)(hy:X.N[i]?=aj y)(hl:Loc X.env.scope y)(hf:X.fn y=ak)(hi:pk X cf iter ti)(hc:∀C s H fp ψ,zb (iM X xs scope C s H fp ψ) ifs tc)(he:∀C s H fp ψ,cC (iM X xs scope C s H fp ψ) elt te)
  (hs:∀y,Ci iter X.env y=pure y):fF X (.Assign [.Name y py] (.ListComp elt [⟨cf,iter,ifs,0⟩] scope pos) Kd) (bJ i (oU dv ti tc te)):=by
 have Dt:∃b,oD (.ListComp elt [⟨cf,iter,ifs,0⟩] scope pos) (aj (.Name y py)) Kd.line X.env=pure b:=⟨_,rfl⟩;let⟨b,Dt⟩:=Dt;cases b with
 |false=>exact Mn b8 hy hl (Ir c hT yi hi hc he hs) Dt (.inl hf)
 |true =>
  intro ψ s σ H F I h;let⟨ρ,G,E,sr,g,q,d⟩:=h;rw[exec_Assign_Name_used _ _ _ _ Dt];refine aq (wpAny_standAt (aq ?_));show dj _ X.A (do let _ ←comprehension (.ListComp elt [⟨cf,iter,ifs,0⟩] scope pos) scope X.env _ (newList []) ao (eval iter X.env) (aj (assign (.Name y py) X.env))) _ _ s;refine aq (ug (wpAny_comprehension_free (use:=some (assign (.Name y py) X.env)) (Q:=λ_ s'=>SP X ψ F .next s') rfl hs (qX λy hy hf=>I.ok.has y.1 (c.frees y hy hf)) c.kind c.locs ?_) (λ_ s' hq=>cg (cg hq)) λ_ _ e=>e)
  refine cV (hi ψ s σ H (λJ H1=>Ts H H1/\∃src G1,HR X.K H1 G1/\kP X.K H1 src J/\(src.items.length<dh/\∀p,G1 p=bh->∃P:Nat->List D->Gp->Prop,P 0 [] (aG G1 p (.lst [])) /\
    (∀k ds G,k<=src.items.length->P k ds G->src.ok G/\G p=aj (.lst ds)/\ds.length<=k) /\
    (∀k d ds G,src.items[k]?=aj d->P k ds G->∃ys,dv d=aj ys/\tc (ys.map aj++ρ) G λb G2=>if b=ak then te (ys.map aj++ρ) G2 λy G3=>G3 p=aj (.lst ds)/\P (k+1) (ds++[y]) (aG G3 p (.lst (ds++[y])))else P (k+1) ds G2) /\
    ∀ds G,P src.items.length ds G->∃G0,Le G0 G/\E.nx (wV ρ i (.ref p)) G0)) I ⟨ρ,G,_,sr,g,q,λsrc J H' G' t1 g1 sj q1=>⟨t1,src,G',g1,sj,q1⟩⟩) λv s1 h1=>cV h1 λDm s2 hz=>?_
  let⟨it,fp,tn,J,H2,e,I2,T,hX,f2,t1,src,G1,g1,sj,hlen,body⟩:=hz;subst e;refine QE (R:=λz G0=>E.nx (wV ρ i z) G0) (RR:=λacc C=>compPost (fj X.prog X.w) X.A X.xe (aj (assign (.Name y py) X.env)) (λ_ s'=>SP X ψ F .next s') acc C) c hT yi hc he sr I2 T hX f2 t1 g1 sj hlen body λDa C s5 H' G0 I5 o ts g0 q0=>?_;show dj _ X.A (assign (.Name y py) X.env (.ref Da)) _ _ s5;refine wpAny_assign_Name (QV (v:=.ref Da) I5 b8 hy hl rfl ?_ (.inl hf));rintro s6 I6 ⟨a,Ln,ha⟩;let⟨m,hn⟩:=o.ns
  have LJ:C≠a:=by
   rcases ha with rfl|ha
   .exact o.loc
   .exact λz=>o.cells y a ha z.symm
  have o6:DQ X ψ H' C s6.heap:=⟨⟨m,hn.sameBut Ln LJ⟩,o.free,o.loc,o.young,o.cells,o.ψ⟩;refine⟨m,hn.sameBut Ln LJ,λh' d3=>⟨_,H',o6.turn I6 d3,d.nx _ G0 _ H' ((sr.mono ts).set (.ref Da) i) g0 q0⟩⟩
end
end
variable{x:Str}
section
@[simp]def nL:=D->aP->(aP->Prop)->Prop
abbrev Sd(K:Fg)(t:nL):TG:=λv σ H Q=>∃ρ d R,SR K H ρ σ/\RD K H d v/\t d ρ R/\∀eM aS,SR K H eM aS->R eM->Q aS H
@[simp]def Fm(X:Cx)(tg:ji)(t:nL):Prop:=PG X tg (Sd X.K t)
abbrev qG(i:Nat):nL:=λd ρ Q=>Q (wV ρ i d)
abbrev rj:aP->List Nat->List D->aP
 |ρ,i::is,d::ds=>rj (wV ρ i d) is ds
 |ρ,_,_=>ρ
abbrev BG(is:List Nat):nL:=λd ρ Q=>match d with
 |.tup ds=>ds.length=is.length/\Q (rj ρ is ds)
 |_=>False
abbrev zD:St->List Nat->List V->St
 |σ,i::is,v::vs=>zD (σ.set i (aj v)) is vs
 |σ,_,_=>σ
def SR.sets{K:Fg}:∀{is:List Nat}{ds:List D}{vs:List V}{ρ:aP}{σ:St},cN K H ds vs->SR K H ρ σ->SR K H (rj ρ is ds) (zD σ is vs)
 |[],_,_,_,_,_,s=>s
 |_::_,_,_,_,_,.nil,s=>s
 |i::is,_,_,_,_,.cons h r,s=>SR.sets (is:=is) r (s.set h i)
section
variable{X:Cx}
def PG.imp{t:TG}(h:PG X e t)(k:∀v σ H Q,t' v σ H Q->t v σ H Q):PG X e t':=λψ s σ H v u Q I r q=>h ψ s σ H v u Q I r (k _ _ _ _ q)
def aBJ{i:Nat}(hN:X.N.Nodup)(hi:X.N[i]?=aj x)(hx:Loc X.env.scope x)(hf:X.fn x=ak∨X.env.scope.names.lookup x=aj .local):Fm X (.Name x pos) (qG i) :=
 PG.imp (IF hN hi hx hf) λv σ H Q h=>by
 let⟨ρ,d,R,s,r,q,k⟩:=h;exact k _ _ (s.set r i) q
structure DP(X:Cx)(e:ji)(i:Nat):Prop where
 ex:∃x pos,e=.Name x pos/\X.N[i]?=aj x/\Loc X.env.scope x/\(X.fn x=ak∨X.env.scope.names.lookup x=aj .local)
abbrev Ja:List Nat->xf
 |[]=>Qj
 |i::is=>My (Ee i) (Ja is)
def Iq:∀{is:List Nat}{vs:List V}{σ:St}{H:Hp}{Q:St->Hp->Prop},vs.length=is.length->Q (zD σ is vs) H->Ja is vs σ H Q
 |[],[],_,_,_,_,q=>⟨rfl,q⟩
 |[],_::_,_,_,_,h,_=>by simp at h
 |_::_,[],_,_,_,h,_=>by simp at h
 |i::is,v::vs,σ,H,Q,h,q=>⟨v,vs,rfl,Iq (is:=is) (by simpa using h) q⟩
def JT(hN:X.N.Nodup):∀{es:List ji}{is:List Nat},c6 (DP X) es is->Cv X es (Ja is)/\(oI es X.env).length=is.length/\(oI es X.env).findIdx? (·.1)=bh
 |_,_,.nil=>⟨WH,rfl,rfl⟩
 |_,_,.cons (a:=e) (b:=i) h r=>by
  let⟨x,pos,rfl,h1,h2,h3⟩:=h.ex;let⟨a1,a2,a3⟩:=JT hN r;refine⟨Ye (IF hN h1 h2 h3) a1 rfl,?_,?_⟩
  .show(oI _ X.env).length+1=_;rw[a2];rfl
  .show((ao,assign (.Name x pos) X.env)::oI _ X.env).findIdx? (·.1)=bh;rw[List.findIdx?_cons];simp[a3]
def aGY{k:Nat}(hN:X.N.Nodup)(hc:X.calm=ak)(h:c6 (DP X) es is):Fm X (.Tuple es k pos) (BG is):=by
 let⟨a1,a2,a3⟩:=JT hN h;refine PG.imp (NI hc a1 a2 a3) λv σ H Q h=>?_;let⟨ρ,d,R,s,r,q,k⟩:=h;cases r with
 |@tup a vs ds hq rv =>
  have q':ds.length=is.length/\R (rj ρ is ds):=q;exact⟨a,vs,rfl,hq,by rw[←rv.length];exact q'.1,Iq (by rw[←rv.length];exact q'.1) (k _ _ (SR.sets rv s) q'.2)⟩
 |_=>exact False.elim q
def QD:∀(xs:List Str)(vs done:List V)(σ:St),vs.length=xs.length->zD (done.map aj++nn xs σ) (B0 done.length xs.length) vs=(done++vs).map aj++σ
 |[],[],done,σ,_=>by simp[zD,nn]
 |[],_::_,_,_,h=>by simp at h
 |_::_,[],_,_,h=>by simp at h
 |x::xs,v::vs,done,σ,h=>by
  have ih:=QD xs vs (done++[v]) σ (by simpa using h)
  have e1:(done.map aj++nn (x::xs) σ).set done.length (aj v)=(done++[v]).map aj++nn xs σ:=by
   simp[nn,List.set_append]
  show zD ((done.map aj++nn (x::xs) σ).set done.length (aj v)) (B0 (done.length+1) xs.length) vs=_;rw[e1];have e2:(done++[v]).length=done.length+1:=by simp
  rw[e2]at ih;rw[ih];simp
def aBL{xs:List Str}{k:Nat}(c:rY X xs scope)(b8:X.N.Nodup)(hc:X.calm=ak)(Gb:c6 (λe x=>∃p,e=ji.Name x p) es xs):Br (iM X xs scope C s H fp ψ) (.Tuple es k pos) xs (Bq xs.length) σ:=by
 intro Ak s' H' v u d ds I r rd e;let⟨rfl,hl⟩:=Oy e
 have SA:∀(es':List ji)(ys done:List Str),c6 (λe x=>∃p,e=ji.Name x p) es' ys->xs=done++ys->c6 (DP (iM X xs scope C s H fp ψ)) es' (B0 done.length ys.length):=by
  intro es' ys
  induction ys generalizing es' with
  |nil=>intro done t _;cases t;exact .nil
  |cons y ys ih =>
   intro done t e;cases t with
   |cons h t =>
    let⟨p,rfl⟩:=h;have z:=ih _ (done++[y]) t (by simp[e]);have e2:(done++[y]).length=done.length+1:=by simp
    rw[e2]at z;refine .cons ⟨y,p,rfl,?_,.inl (Cn (c.var y (by simp[e]))),.inr (Cn (c.var y (by simp[e])))⟩ z;show(xs++X.N)[done.length]?=aj y;rw[e];simp
 let⟨a1,a2,a3⟩:=JT (X:=iM X xs scope C s H fp ψ) (HG c b8) (SA es xs [] Gb rfl);cases rd with
 |@tup a vs _ hq rv =>
  have lv:vs.length=xs.length:=by rw[←rv.length];exact hl
  have Sx:=NI (X:=iM X xs scope C s H fp ψ) (k:=k) (pos:=pos) (show(iM X xs scope C s H fp ψ).calm=ak from hc) a1 a2 a3;refine ug (Sx Ak s' (nn xs σ) H' (.ref a) u (λaS H2=>aS=vs.map aj++σ/\H2=H') I r ⟨a,vs,rfl,hq,by simpa using lv,Iq (by simpa using lv) ⟨?_,rfl⟩⟩) (λ_ s2 ⟨fN,H2,I2,e2,e3⟩=>?_) λ_ _ z=>z
  .have:=QD xs vs [] σ lv;simpa using this
  .subst e2;subst e3;exact⟨vs,rv,I2⟩
abbrev qv(K:Fg)(src:Src)(J:It):Prop:=∀H2 G2,HR K H2 G2->src.ok G2 ->
 (∀i,i<src.items.length->J.go i H2)/\(∀i v H',i<src.items.length->J.xw i H2 v H'->aI H2 H'/\∃d,src.items[i]?=aj d/\RD K H' d v)/\J.stop src.items.length H2
abbrev aLK(K:Fg)(t:eB):TI:=λσ H Q=>∃ρ G R,SR K H ρ σ/\HR K H G/\t ρ G R/\∀src J H' G',Ts H H'->HR K H' G'->qv K src J->R src G'->Q J H'
@[simp]def sD(X:Cx)(tg iter:ji)(t:eB):Prop:=PI X tg iter (aLK X.K t)
abbrev oo(te:cA):eB:=λρ G R=>te ρ G λx G1=>match x with
 |.ref p=>(match bB G1 p with
  |some xs=>R (.lst p xs) G1
  |none=>False)
 |.str z=>R (.bS (signs z)) G1
 |.tup xs=>xs.all eQ=ak/\∀a,(G1 a=bh∨G1 a=aj (.cE xs))->R (.cE a xs) (aG G1 a (.cE xs))
 |_=>False
def aGZ{K:Fg}{d:D}(h:eQ d=ak)(r:RD K H d v)(r':RD K H d' v):d'=d:=by
 cases r with
 |ag=>cases r';rfl
 |bl b=>cases r';rfl
 |int i=>cases r';rfl
 |str x=>cases r';rfl
 |_=>exact Bool.noConfusion (show ao=ak from h)
def Nd{K:Fg}:∀{ds yy:List D}{vs:List V},ds.all eQ=ak->cN K H ds vs->cN K H yy vs->yy=ds
 |_,_,_,_,.nil,.nil=>rfl
 |d::ds,d'::yy,_,h,.cons r rr,.cons r' Sq=>by
  rw[nB,bx]at h;rw[aGZ h.1 r r',Nd h.2 rr Sq]
def XR(I:Inv X ψ σ H s)(g:HR X.K H G)(hq:yM X.K H a xs)(e:G a=aj o):∃ds,o=.cE ds/\cN X.K H ds xs:=by
 have no:∀u,H a=aj u->(∀ys,u≠.tup ys)->(∀ob ys,u≠.fY ob (.tup ys))->False:=λu hu h1 h2=>by
  rcases hq with(q|⟨ob,q⟩)|⟨ob,_,_,q,_⟩
  .rw[hu]at q;exact h1 _ (jk.inj q)
  .rw[hu]at q;exact h2 _ _ (jk.inj q)
  .have:=lW I a ob q;rw[hu]at this;cases this
 have z:=g a o e;cases o with
 |lst ds=>let⟨_,q,_⟩:=z;exact(no _ q (λ_ w=>nomatch w) (λ_ _ w=>nomatch w)).elim
 |fi ds =>
  let⟨_,q,_⟩:=z;let⟨_,_,⟨o1,n1,e1,c1,_⟩,_⟩:=I.list q;let⟨_,_,⟨o2,e2,c2,_⟩,_⟩:=I.tuple hq;rw[e1]at e2;cases e2;rw[c1]at c2;exact absurd c2 (by decide)
 |bD t aa=>rcases z with⟨_,_,q,_⟩|⟨_,_,q,_⟩<;>exact(no _ q (λ_ w=>nomatch w) (λ_ _ w=>nomatch w)).elim
 |ins C fs=>let⟨_,_,q,_⟩:=z;exact(no _ q (λ_ w=>nomatch w) (λ_ _ w=>nomatch w)).elim
 |gE C=>let⟨_,_,q,_⟩:=z;exact(no _ q (λ_ w=>nomatch w) (λ_ _ w=>nomatch w)).elim
 |rQ aa=>let⟨_,q,e⟩:=z;exact(no _ q e.no.1 λ_ _ w=>e.no.2.1 _ _ w).elim
 |fb ob aa=>let⟨_,q,e⟩:=z;exact(no _ q (λ_ w=>nomatch w) λ_ _ w=>e.no.1 _ (HO.fY.inj w).2).elim
 |c9 ob t aa=>rcases z with⟨_,_,q,_⟩|⟨_,_,q,_⟩<;>exact(no _ q (λ_ w=>nomatch w) (λ_ _ w=>nomatch w)).elim
 |cE ds=>let⟨ys,q,r⟩:=z;exact⟨ds,rfl,by rw[←I.JY q hq];exact r⟩
def VU(I:Inv X ψ σ H s)(g:HR X.K H G)(hq:yM X.K H a xs)(rv:cN X.K H ds xs)(sc:ds.all eQ=ak) :
  (G a=bh∨G a=aj (.cE ds))/\HR X.K H (aG G a (.cE ds)):=by
 refine⟨?_,λb o e=>?_⟩
 .cases e:G a with
  |none=>exact .inl rfl
  |some o=>let⟨yy,rfl,r⟩:=XR I g hq e;exact .inr (by rw[Nd sc rv r])
 .by_cases hb:b=a
  .subst hb;rw[aF]at e;cases e;exact⟨xs,hq,rv⟩
  .rw[aM hb]at e;exact g b o e
def XQ{K:Fg}:qv K (.cE p xs) (J7 K p):=λH2 G2 g ok=>by
 let⟨vs,hq,rv⟩:=g p _ ok;exact PC hq rv H2 G2 (.refl _) g trivial
def YM{K:Fg}:qv K (.lst p xs) (J8 K p):=λH2 G2 g ok=>QF (H1:=H2) H2 G2 (.refl _) g ok
def Pz{K:Fg}:qv K (.bS (signs z)) (Fq z):=λH2 G2 g ok=>Jw (H1:=H2) H2 G2 (.refl _) g ok
def Py{K:Fg}:qv K (.bS ((jw n).map λ(i:Nat)=>.int (lo+(i:Int)))) (AE lo n):=λH2 G2 g ok=>Jv (H1:=H2) H2 G2 (.refl _) g ok
def aLL{t:eB}(h:sD X tg e t):pk X tg e t:=PI.imp h λσ H Q ⟨ρ,G,R,sr,g,q,k⟩=>⟨ρ,G,R,sr,g,q,λsrc J H' G' t1 g1 sS r=>k src J H' G' t1 g1 (λH2 G2 _ g2 ok=>sS H2 G2 g2 ok) r⟩
private theorem aBM(hl:cC X l te):sD X tg l (oo te):=by
 intro ψ s σ H R I h;let⟨ρ,G,R3,sr,g,q,k⟩:=h
 refine cV (hl ψ s σ H (λv H1=>Ts H H1/\∃x G1,RD X.K H1 x v/\HR X.K H1 G1/\(match x with
  |.ref p=>(match bB G1 p with
   |some xs=>R3 (.lst p xs) G1
   |none=>False)
  |.str z=>R3 (.bS (signs z)) G1
  |.tup xs=>xs.all eQ=ak/\∀a,(G1 a=bh∨G1 a=aj (.cE xs))->R3 (.cE a xs) (aG G1 a (.cE xs))
  |_=>False)) I ⟨ρ,G,_,sr,g,q,λv H1 x G1 t1 r g1 q1=>⟨t1,x,G1,r,g1,q1⟩⟩) λv s1 ⟨x,H1,I1,r1,t1,d,G1,rd,g1,q1⟩=>?_
 cases rd with
 |ref a =>
  have tF:(match bB G1 a with
   |some xs=>R3 (.lst a xs) G1
   |none=>False):=q1
  split at tF
  .rename_i xs e;cases r1;let⟨vs,hq,rv⟩:=cT g1 e;let⟨its,gc,p,hz⟩:=I1.list hq;refine Cf p.isList ?_;refine⟨s1.heap.objs.size,[s1.heap.objs.size],_,_,H1,rfl,I1.kept (t':=s1.toks) λb o e=>cj _ e,QU a _,⟨_,iz _ rfl,rfl,rfl⟩,λb hb=>?_,k _ _ H1 G1 t1 g1 YM tF⟩;have e:b=s1.heap.objs.size:=by simpa using hb
   subst e;exact I1.iE (dz _) (I1.af.fresh (dz _))
  .exact tF.elim
 |str z =>
  let⟨t,rfl⟩:=r1;cases ha:z.cps.all (· <128)
  .refine wpAny_pyIter_wide ha ?_;refine⟨s1.heap.objs.size,[s1.heap.objs.size],_,_,H1,rfl,I1.kept (t':=s1.toks) λb o e=>cj _ e,QG _ z t,?_,λb hb=>?_,k _ _ H1 G1 t1 g1 Pz q1⟩
   .rw[Nat.zero_min];exact⟨_,iz _ rfl,rfl,rfl⟩
   .have e:b=s1.heap.objs.size:=by simpa using hb
    subst e;exact I1.iE (dz _) (I1.af.fresh (dz _))
  .refine wpAny_pyIter_ascii ha ?_;refine⟨s1.heap.objs.size,[s1.heap.objs.size],_,_,H1,rfl,I1.kept (t':=s1.toks) λb o e=>cj _ e,QH _ z t,?_,λb hb=>?_,k _ _ H1 G1 t1 g1 Pz q1⟩
   .rw[Nat.zero_min];exact⟨_,iz _ rfl,rfl,rfl⟩
   .have e:b=s1.heap.objs.size:=by simpa using hb
    subst e;exact I1.iE (dz _) (I1.af.fresh (dz _))
 |@tup a vs xs hq rv =>
  cases r1;let⟨its,gc,p,hz⟩:=I1.tuple hq;let⟨sc,q1⟩:=q1;let⟨hG,g2⟩:=VU I1 g1 hq rv sc;refine wpAny_pyIter_tuple (show s1.heap.IsTuple a its.toArray from p) ?_;refine⟨s1.heap.objs.size,[s1.heap.objs.size],_,_,H1,rfl,I1.kept (t':=s1.toks) λb o e=>cj _ e,Rf a _,⟨_,iz _ rfl,rfl,rfl⟩,λb hb=>?_,k _ _ H1 _ t1 g2 XQ (q1 a hG)⟩;have e:b=s1.heap.objs.size:=by simpa using hb
  subst e;exact I1.iE (dz _) (I1.af.fresh (dz _))
 |_=>exact q1.elim
def VT(hg:Gl X "range")(hm:X.mg "range"=bh)(ha:dA X [a] ta)(hs:jo [a] X.env=[(ao,eval a X.env)]):sD X tg (.Call (.Name "range" p) [a] [] pos) (Aw ta) :=
 PI.imp (QT hg hm ha hs) λσ H Q h=>by
 let⟨ρ,G,R,s,g,q,k⟩:=h;refine⟨ρ,G,_,s,g,q,λvs H1 ds G1 t1 r g1 h1=>?_⟩;cases r with
 |nil=>exact h1.elim
 |cons r rr =>
  cases rr with
  |cons _ _=>cases r<;>exact False.elim h1
  |nil =>
   cases r with
   |int j =>
    let⟨l1,l2,h1⟩:=h1;refine⟨j,rfl,l1,l2,k _ _ H1 G1 t1 g1 ?_ h1⟩;unfold uF;rw[show(j - 0).toNat=j.toNat by omega];exact Py
   |_=>exact False.elim h1
def VR{b:ji}(hg:Gl X "range")(hm:X.mg "range"=bh)(ha:dA X [a,b] ta)(hs:jo [a,b] X.env=[(ao,eval a X.env),(ao,eval b X.env)])(md:jo [b] X.env=[(ao,eval b X.env)]):sD X tg (.Call (.Name "range" p) [a,b] [] pos) (Av ta) :=
 PI.imp (QS hg hm ha hs md) λσ H Q h=>by
 let⟨ρ,G,R,s,g,q,k⟩:=h;refine⟨ρ,G,_,s,g,q,λvs H1 ds G1 t1 r g1 h1=>?_⟩
 match ds,vs,r,h1 with
 |[],_,_,h1=>exact h1.elim
 |[_],_,.cons r .nil,h1=>cases r<;>exact False.elim h1
 |[_,_],_,.cons r (.cons r' .nil),h1 =>
  cases r with
  |int i =>
   cases r' with
   |int j=>exact⟨i,j,rfl,h1.1,k _ _ H1 G1 t1 g1 Py h1.2⟩
   |_=>exact False.elim h1
  |_=>cases r'<;>exact False.elim h1
 |_::_::_::_,_,.cons r (.cons r' _),h1=>cases r<;>cases r'<;>exact False.elim h1
abbrev nJ(ti:eB)(tg:nL)(tb:bC):bC:=λF ρ G=>ti ρ G λsrc G1=>∃P:Nat->aP->Gp->Prop,P 0 ρ G1/\(∀k ρ G,k<=src.items.length->P k ρ G->src.ok G) /\
 (∀k d ρ G,src.items[k]?=aj d->P k ρ G->tg d ρ λg7=>tb {F with nx:=P (k+1),ct:=P (k+1),bk:=F.nx} g7 G)/\∀ρ G,P src.items.length ρ G->F.nx ρ G
def aBN{ti:eB}{tg:nL}(hp:PassesOwn (fj X.prog X.w) X.A X.env X.xe)(hi:sD X cf iter ti)(hg:Fm X cf tg)(hb:ng X body tb)
  (hs:∀x,Ci iter X.env x=pure x):fF X (.For cf iter body [] pos) (nJ ti tg tb):=PS.imp (T4 hp hi hg hb hs) λF σ H h=>by
 let⟨ρ,G,E,s,g,q,d⟩:=h
 refine⟨ρ,G,λsrc G1=>∃P:Nat->aP->Gp->Prop,P 0 ρ G1/\(∀k ρ G,k<=src.items.length->P k ρ G->src.ok G) /\
  (∀k d ρ G,src.items[k]?=aj d->P k ρ G->tg d ρ λg7=>tb {E with nx:=P (k+1),ct:=P (k+1),bk:=E.nx} g7 G)/\∀ρ G,P src.items.length ρ G->E.nx ρ G,s,g,q,λsrc J H1 G1 t1 g1 sj ⟨P,p0,AN,FJ,pend⟩=>?_⟩
 refine XW (K:=X.K) (n:=src.items.length) (λk fN H2=>∃eM G',SR X.K H2 eM fN/\HR X.K H2 G'/\P k eM G') ⟨ρ,G1,s.mono t1,g1,p0⟩ (λfN H2 ⟨eM,G',s2,g2,p⟩=>?_) (λk fN H2 hk ⟨eM,G',s2,g2,p⟩=>?_) (λk y fN H2 H3 hk ⟨eM,G',s2,g2,p⟩ hy=>?_)
  (λfN H2 ⟨eM,G',s2,g2,p⟩=>d.nx eM G' fN H2 s2 g2 (pend eM G' p))
 .exact(sj H2 G' g2 (AN _ eM G' (dz _) p)).2.2
 .exact(sj H2 G' g2 (AN _ eM G' (zy hk) p)).1 k hk
 .obtain⟨sm,dk,e1,e2⟩:=(sj H2 G' g2 (AN _ eM G' (zy hk) p)).2.1 k y H3 hk hy;refine⟨eM,dk,_,s2.mono (.same sm),e2,FJ k dk eM G' e1 p,λg7 xt s3 q3=>?_⟩;exact⟨g7,G',_,s3,g2.same sm,q3,⟨λFu G4 R5 H4 s4 g4 q4=>⟨Fu,G4,s4,g4,q4⟩,d.rt,d.nx,λFu G4 R5 H4 s4 g4 q4=>⟨Fu,G4,s4,g4,q4⟩⟩⟩
end
end
section
abbrev y9:D->Bool
 |.bl _=>ak
 |_=>ao
abbrev ve:D->Bool
 |.bl b=>b
 |_=>ao
abbrev wd:List D->Gp->dU->Prop:=λxs G R=>match xs with
 |[.ref q]=>(match bB G q with
  |some ds=>ds.all y9=ak/\R (.bl (ds.all ve)) G
  |none=>False)
 |_=>False
abbrev xI(ds:List D)(i:Nat):Bool:=match ds[i]? with
 |some d=>ve d
 |none=>ao
def range_all(ds:List D):(jw ds.length).all (xI ds)=ds.all ve:=by
 rw[EY,jl,jl];constructor
 .intro h d hd;let⟨i,hi⟩:=List.getElem?_of_mem hd;have:=h i (ou.mpr (jd.mp hi).1);simpa[xI,hi]using this
 .intro h i hi;have d6:=ou.mp hi;unfold xI;rw[gV d6];exact h _ (sk d6)
section
variable{X:Cx}
def YL{K:Fg}(r:cN K H ds vs)(v:Vals vs us)(hb:ds.all y9=ak){i:Nat}(e:us[i]?=aj u):u=.bool (xI ds i):=by
 let⟨d,x,h1,h2,h3⟩:=Vals.He r v e;have hd:y9 d=ak:=jl.mp hb d (qd h1);unfold xI;rw[h1];cases h2 with
 |bl b=>exact h3
 |_=>cases hd
private theorem aH0(hc:X.calm=ak):cB X (.builtin "all") wd:=by
 intro ψ s σ H xs vs us G R Q I rx rv g q k;cases rx with
 |nil=>exact False.elim q
 |cons r1 rr =>
  cases rr with
  |cons _ _=>cases r1<;>exact False.elim q
  |nil =>
   cases r1 with
   |ref a =>
    let⟨u,rfl,ru⟩:=vals1 rv;cases ru
    have q':(match bB G a with
     |some ds=>ds.all y9=ak/\R (.bl (ds.all ve)) G
     |none=>False):=q
    split at q'
    .rename_i ds e1;let⟨ys,hq,r1⟩:=cT g e1;let⟨its,gc,p,hz⟩:=I.list hq;refine call_all_walk (Cf p.isList ?_);have ha:a<s.heap.objs.size:=by let⟨o,n,e,_⟩:=p;exact ig e
     have fresh:∀b o,s.heap.get? b=aj o->b∉[s.heap.objs.size]:=λb o e z=>by
      have z':b=s.heap.objs.size:=by simpa using z
      exact absurd (ig e) (by rw[z'];exact wz _)
     have hh:X.A.in1.handled=bh:=I.ok.hd hc;refine⟨s.heap.objs.size,_,_,_,_,_,xI ds,rfl,Walks.list (prog:=X.prog) (w:=X.w) hh _ a (jq ha) its.toArray,⟨⟨_,iz _ rfl,rfl,rfl⟩,p.isList.at λo e=>cj _ e⟩,?_,λh' tk kk=>?_⟩
     .intro i v s' Q' E' hv Gf;have:=YL r1 gc q'.1 (i:=i) (u:=v) (by simpa using hv);subst this;exact yg Gf
     .have el:its.toArray.size=ds.length:=by rw[je,←gc.length,←r1.length]
      rw[el,range_all];exact⟨.bl _,H,I.kept λb o e=>kk b o (fresh b o e) (cj _ e),rfl,k _ H _ G (.refl H) (.bl _) g q'.2⟩
    .exact q'.elim
   |_=>exact False.elim q
abbrev De(xs:List D)(f:Int->Int->Prop):Prop:=match xs with
 |[.int i,.int j]=>f i j
 |_=>False
abbrev Ml:List D->Gp->dU->Prop:=λxs G R=>De xs λi j=>R (.int (if j<i then j else i)) G
abbrev Mj:List D->Gp->dU->Prop:=λxs G R=>De xs λi j=>R (.int (if i<j then j else i)) G
private theorem Px{K:Fg}(r:cN K H xs vs){f:Int->Int->Prop}(h:De xs f):∃i j,xs=[.int i,.int j]/\vs=[.int i,.int j]/\f i j:=by
 unfold De at h;split at h
 .rename_i i j;cases r with
  |cons r1 r =>
  cases r with
  |cons r2 r =>
  cases r;cases r1;cases r2;exact⟨i,j,rfl,rfl,h⟩
 .exact h.elim
def aH1(hc:X.calm=ak):cB X (.builtin "min") Ml:=cB.of (Y3 hc) λH xs vs G R Q rx g q k=>by
 let⟨i,j,rfl,rfl,q'⟩:=Px (f:=λi j=>R (.int (if j<i then j else i)) G) rx q;exact⟨i,j,rfl,λ_=>k _ H _ G (.refl H) (.int _) g q'⟩
def aH2(hc:X.calm=ak):cB X (.builtin "max") Mj:=cB.of (Y4 hc) λH xs vs G R Q rx g q k=>by
 let⟨i,j,rfl,rfl,q'⟩:=Px (f:=λi j=>R (.int (if i<j then j else i)) G) rx q;exact⟨i,j,rfl,λ_=>k _ H _ G (.refl H) (.int _) g q'⟩
end
end
variable{zs:List (Int×Tok)}{ns:List Int}
section
abbrev tI(x:D)(f:Int->Prop):Prop:=match x with
 |.int k=>f k
 |_=>False
section
variable{X:Cx}
abbrev Ea(i:Nat)(f:Int->Int->Int)(te:cA):bC:=λF ρ G=>aB i ρ G λx G0=>tI x λa=>te ρ G0 λy G1=>tI y λb=>F.nx (wV ρ i (.int (f a b))) G1
private theorem Mi{i:Nat}{f:Int->Int->Int}(hN:X.N.Nodup)(hi:X.N[i]?=aj x)(hx:Loc X.env.scope x)(ho:tH X (inplaceOp op) (hZ λi j=>.int (f i j)))(he:cC X e te)(hf:X.fn x=ak∨X.env.scope.names.lookup x=aj .local) :
  fF X (.AugAssign (.Name x pos') op e pos) (Ea i f te):=PS.imp (T5 hN hi hx he (ti:=hZ λi j=>.int (f i j)) (λψ s σ H x y v u Q I rx ry q=>ho ψ s σ H x y v u Q I rx ry q) hf) λF σ H h=>by
 let⟨ρ,G,E,s,g,q,d⟩:=h
 have q':(match om ρ i with
  |some x=>tI x λa=>te ρ G λy G1=>tI y λb=>E.nx (wV ρ i (.int (f a b))) G1
  |none=>False):=q
 split at q'
 .rename_i x0 e0;let⟨v,e1,rv⟩:=s.get e0;cases rv with
  |int a =>
   refine⟨.int a,e1,ρ,G,_,s,g,q',λv H' y G' t1 r g1 h=>?_⟩;cases r with
   |int b=>exact⟨a,b,rfl,rfl,d.nx _ G' _ H' ((s.mono t1).set (.int _) i) g1 h⟩
   |_=>exact False.elim h
  |_=>exact False.elim q'
 .exact q'.elim
end
def ints_of{K:Fg}:∀{ns:List Int}{vs:List V}{us:List au},cN K H (ns.map D.int) vs->Vals vs us->∃ys:List (Int×Tok),us=ys.map (λp=>au.int p.1 p.2)/\ys.map (·.1)=ns
 |[],_,_,r,v=>by cases r;cases v;exact⟨[],rfl,rfl⟩
 |n::ns,_,_,r,v=>by
  cases r with
  |cons h r =>
   cases h with
   |int i =>
    cases v with
    |cons hu v =>
     let⟨t,rfl⟩:=hu;let⟨ys,e1,e2⟩:=ints_of r v;exact⟨(n,t)::ys,by rw[e1];rfl,by rw[iw,e2]⟩
abbrev DO(xs:List D)(G:Gp)(P:List D->Prop)(O:Prop):Prop:=match xs with
 |[.ref q]=>(match bB G q with
  |some ds=>P ds
  |none=>False)
 |_=>O
abbrev zC:List D->Gp->dU->Prop:=λxs G R=>DO xs G (λds=>∃ns:List Int,ds=ns.map D.int/\R (.int ns.sum) G) False
section
variable{X:Cx}
private theorem I0{P:List D->Prop}(I:Inv X ψ σ H s)(rx:cN X.K H xs vs)(rv:Vals vs us)(g:HR X.K H G)
  (h:DO xs G P O):(∃a ds ys its,us=[.ref a]/\cN X.K H ds ys/\Vals ys its/\s.heap.IsList a its.toArray/\P ds)∨O:=by
 cases rx with
 |nil=>exact .inr h
 |cons r1 rr =>
  cases rr with
  |cons _ _=>cases r1<;>exact .inr h
  |nil =>
   cases r1 with
   |ref a =>
    let⟨u,rfl,ru⟩:=vals1 rv;cases ru
    have q':(match bB G a with
     |some ds=>P ds
     |none=>False):=h
    split at q'
    .rename_i ds e1;let⟨ys,hq,r1⟩:=cT g e1;let⟨its,gc,p,hz⟩:=I.list hq;exact .inl ⟨a,ds,ys,its,rfl,r1,gc,p.isList,q'⟩
    .exact q'.elim
   |_=>exact .inr h
def int_list(p:s.heap.IsList a (zs.map λp=>au.int p.1 p.2).toArray):s.heap.IsList a (intItems zs.toArray):=by
 have:intItems zs.toArray=(zs.map λp=>au.int p.1 p.2).toArray:=by simp[intItems]
 rw[this];exact p
def aH3(hc:X.calm=ak):cB X (.builtin "sum") zC:=by
 intro ψ s σ H xs vs us G R Q I rx rv g q k;rcases I0 I rx rv g q with⟨a,ds,ys,its,rfl,r1,gc,p,ns,rfl,q'⟩|z
 .obtain⟨zs,rfl,e2⟩:=ints_of r1 gc;refine sum_intListG (I.ok.hd hc) (int_list p) λh' tk t' kk=>?_
  have e3:preSum (numAt zs.toArray) zs.toArray.size=ns.sum:=by
   rw[preSum_eq,JL (by simp)];rw[←e2]
  rw[e3];exact⟨.int _,H,I.kept kk,⟨t',rfl⟩,k _ H _ G (.refl H) (.int _) g q'⟩
 .exact z.elim
abbrev yP:List D->Gp->dU->Prop:=λxs G R=>DO xs G (λds=>∃ns:List Int,ds=ns.map D.int/\ns≠[]/\∀M,M∈ns->(∀a∈ns,a<=M)->R (.int M) G) (Mj xs G R)
abbrev Eu:List D->Gp->dU->Prop:=λxs G R=>DO xs G (λds=>∃ns:List Int,ds=ns.map D.int/\ns≠[]/\∀M,M∈ns->(∀a∈ns,M<=a)->R (.int M) G) (Ml xs G R)
def Nc(e2:zs.map (·.1)=ns)(h:j<zs.toArray.size):numAt zs.toArray j∈ns:=by
 rw[numAt_eq,←e2];exact getD_mem (by simpa using h)
def Nb(e2:zs.map (·.1)=ns){a:Int}(h:a∈ns):∃j,j<zs.toArray.size/\numAt zs.toArray j=a:=by
 rw[←e2]at h;let⟨j,hj,rfl⟩:=mem_getD h;exact⟨j,by simpa using hj,by rw[numAt_eq]⟩
def aBQ(hc:X.calm=ak):cB X (.builtin "max") yP:=by
 intro ψ s σ H xs vs us G R Q I rx rv g q k;rcases I0 I rx rv g q with⟨a,ds,ys,its,rfl,r1,gc,p,ns,rfl,fe,q'⟩|z
 .obtain⟨zs,rfl,e2⟩:=ints_of r1 gc
  have hsz:0<zs.toArray.size:=by
   cases zs with
   |nil=>exact absurd e2.symm fe
   |cons _ _=>simp
  refine max_intList (I.ok.hd hc) (int_list p) hsz λv h' tk hv kk=>?_;let⟨t,rfl⟩:=intItems_at hv;let⟨h1,h2⟩:=argBest_gt (numAt zs.toArray) (zs.toArray.size - 1);refine⟨.int _,H,I.kept kk,⟨t,rfl⟩,k _ H _ G (.refl H) (.int _) g (q' _ (Nc e2 ⋯) λa ha=>?_)⟩;let⟨j,hj,rfl⟩:=Nb e2 ha;exact h2 j ⋯
 .exact aH2 hc ψ s σ H _ vs us G R Q I rx rv g z k
def aBR(hc:X.calm=ak):cB X (.builtin "min") Eu:=by
 intro ψ s σ H xs vs us G R Q I rx rv g q k;rcases I0 I rx rv g q with⟨a,ds,ys,its,rfl,r1,gc,p,ns,rfl,fe,q'⟩|z
 .obtain⟨zs,rfl,e2⟩:=ints_of r1 gc
  have hsz:0<zs.toArray.size:=by
   cases zs with
   |nil=>exact absurd e2.symm fe
   |cons _ _=>simp
  refine min_intList (I.ok.hd hc) (int_list p) hsz λv h' tk hv kk=>?_;let⟨t,rfl⟩:=intItems_at hv;let⟨h1,h2⟩:=argBest_lt (numAt zs.toArray) (zs.toArray.size - 1);refine⟨.int _,H,I.kept kk,⟨t,rfl⟩,k _ H _ G (.refl H) (.int _) g (q' _ (Nc e2 ⋯) λa ha=>?_)⟩;let⟨j,hj,rfl⟩:=Nb e2 ha;exact h2 j ⋯
 .exact aH1 hc ψ s σ H _ vs us G R Q I rx rv g z k
end
end
section
abbrev IZ(f:D->D->Bool):List D->List D->Bool
 |[],[]=>ak
 |x::xs,y::ys=>f x y&&IZ f xs ys
 |_,_=>ao
abbrev Gn(G:Gp):Nat->D->D->Bool
 |0,x,y=>aT x y
 |n+1,x,y=>match x,y with
  |.ref p,.ref q=>(match bB G p,bB G q with
   |some xs,aj ys=>IZ (Gn G n) xs ys
   |_,_=>ao)
  |.tup xs,.tup ys=>IZ (Gn G n) xs ys
  |x,y=>aT x y
@[simp]def eq2(G:Gp)(x y:D):Bool:=Gn G 4 x y
section
end
end
section
section
variable{X:Cx}{C:bw}{fE DF:List au}{B Bn newId AS dq AY:String}{x:Str}{t:oR}
abbrev Hd(C:bw)(t:oR):cA:=λρ G R=>t ρ G λds G1=>ds.length<=dh/\∀x,G1 x=bh->R (.ref x) (aG G1 x (.gE C))
def XO{x:bw}(I:Inv X ψ σ H s)(hm:EV s.heap h' x (.ref C) us) :
  ∃o vs,H x=bh/\Inv X ψ σ (upd H x (.fY o (.ext (BH C x)))) {s with heap:=h' }/\o.data=.fields vs/\vs[2]?=aj .none:=by
 let⟨t,e1,_,_⟩:=hm.there;have K0:H x=bh:=XV I.af hm.new;refine⟨{cls:=.ref C,data:=.fields #[.ref t,.none,.none,.none,.bool ao,.none]},#[.ref t,.none,.none,.none,.bool ao,.none],K0,?_,rfl,rfl⟩;generalize ho:({cls:=.ref C,data:=.fields #[.ref t,.none,.none,.none,.bool ao,.none]}:Obj)=o at e1;have sn:aI H (upd H x (.fY o (.ext (BH C x)))):=bO K0;have x6:∀b u,s.heap.get? b=aj u->b≠x:=λb u e z=>by subst z;rw[hm.new]at e;cases e
 refine I.gX (ch:=[]) (s':={s with heap:=h' }) rfl ⟨λb u e n _ _=>hm.keeps b u e,λb u e n _ _=>⟨u.slots,hm.keeps b u e⟩,λb u e n _=>by rw[aZ (x6 b u e)];exact n,λb u e _=>⟨u,hm.keeps b u e⟩,λb xs z=>sn _ _ z,λb u v z=>sn _ _ z,λb ps z=>⟨#[],by rw[Array.append_empty];exact sn _ _ z⟩⟩ (λb u e=>?_) I.bare λb z=>absurd z (by simp);by_cases hb:b=x
 .subst hb;rw[aN]at e;cases e;exact⟨e1,⟨o,_,e1,by rw[←ho],by rw[←ho]⟩,⟨o,e1⟩,λh1 h2 ⟨o1,w1,e1,e2,e3⟩ k=>⟨o1,w1,k _ e1,e2,e3⟩⟩
 .rw[aZ hb]at e;exact((I.af.kept hm.keeps) b u e).b5 (λ_ _ _ z=>z) (λc z=>sn _ _ z) λc xs z=>sn _ _ z
def Pw{σ:St}{H:Hp}{us:List au}{G:Gp}{R:dU}{Q:VK}(Fn:rS Bn newId AY DF)(ui:fE.contains (.type Bn)=ak)(FB:rS B AS dq fE)(hq:oS X.K C fE newId=ak)(I:Inv X ψ σ H s)(g:HR X.K H G)(hl:us.length<=dh)(q:∀x,G x=bh->R (.ref x) (aG G x (.gE C)))
  (k:∀v H' d G',Ts H H'->RD X.K H' d v->HR X.K H' G'->R d G'->Q v H'):dj (fj X.prog X.w) X.A (call (.ref C) us) (EP X ψ σ Q) X.xe s:=by
 let⟨tl,N,nm,q',bs,hdct,sn,sub,ab,col,eS,k0,k1,k2,k3,k5,mN,hC,hN,qi,T⟩:=E0 I.mod.n9 hq;let⟨h,g0,d0,t0,KS⟩:=s;refine wpAny_call_exc_subU (hrest:=hl) Fn ui FB (T.keeps I.bk) (I.bk _ _ hC) (hN.keeps I.bk) qi λh' x hm=>?_;let⟨o,vs,nx,J,d1,d2⟩:=XO I hm;have sn:aI H (upd H x (.fY o (.ext (BH C x)))):=bO nx;exact⟨.ref x,_,J,rfl,k _ _ _ _ (.same sn) (.ref x) (g.put (u:=.gE C) nx ⟨o,vs,aN,d1,d2⟩) (q x (eV (K:=X.K) g nx (lW (X:=X) J)))⟩
def aH4(Fn:rS Bn newId AY DF)(ui:fE.contains (.type Bn)=ak)(FB:rS B AS dq fE)(hg:Gl X x)(hm:X.mg x=aj (.ref C))(hq:oS X.K C fE newId=ak)(ha:dA X (e::es) t)(hd:(x==("__debug__":Str))=ao)
  (he:jo (e::es) X.env=(ao,eval e X.env)::jo es X.env)(gu:(xr ai (jo es X.env)).any (·.1)=ao):cC X (.Call (.Name x np) (e::es) [] ai) (Hd C t):=by
 intro ψ s σ H Q I h;let⟨ρ,G,R,sr,g,q,kk⟩:=h;let⟨tl,N,nm,q',bs,hdct,sn,sub,ab,col,eS,k0,k1,k2,k3,k5,mN,hC,hN,qi,T⟩:=E0 I.mod.n9 hq;refine wpAny_Call_ofName (oO I hg hm ?_ hd);unfold callWith;have hA:=ha ai ψ s σ H (λvs H1=>Ts H H1/\∃ds G1,cN X.K H1 ds vs/\HR X.K H1 G1/\ds.length<=dh/\∀x,G1 x=bh->R (.ref x) (aG G1 x (.gE C))) I ⟨ρ,G,_,sr,g,q,λvs H1 ds G1 t1 r1 g1 q1=>⟨t1,ds,G1,r1,g1,q1.1,q1.2⟩⟩;have t6:(xr ai (jo (e::es) X.env)).any (·.1)=ao:=by rw[he];show(ao||(xr ai (jo es X.env)).any (·.1))=ao;rw[gu];rfl
 rw[he]at hA t6 ⊢;refine aq (su (Calls.evalArgs_plain (cV hA λus s2 ⟨vs,H2,I2,r2,t1,ds,G1,r1,g1,hl,q1⟩=>aq (wpAny_standAt ?_))));have A7:us.length<=dh:=by rw[←r2.length,←r1.length];exact hl
 simp only[t6];let⟨h0,g0,d0,t0,KS⟩:=s2;refine aq (wpAny_keeperOf_exc (I2.bk _ _ hC) ?_);refine aq (cV (Pw Fn ui FB hq I2 g1 A7 q1 λv H' d G' t3=>kk v H' d G' (t1.trans t3)) λv s3 q3=>aq (su (wpAny_point (cg q3))))
def aBT(Fn:rS Bn newId AY DF)(ui:fE.contains (.type Bn)=ak)(FB:rS B AS dq fE)(hg:Gl X x)(hm:X.mg x=aj (.ref C))(hq:oS X.K C fE newId=ak)(hd:(x==("__debug__":Str))=ao):cC X (.Call (.Name x np) [] [] ai) (Hd C aD):=by
 intro ψ s σ H Q I h;let⟨ρ,G,R,sr,g,⟨hl,q⟩,kk⟩:=h;let⟨tl,N,nm,q',bs,hdct,sn,sub,ab,col,eS,k0,k1,k2,k3,k5,mN,hC,hN,qi,T⟩:=E0 I.mod.n9 hq;refine wpAny_Call_ofName (oO I hg hm ?_ hd);unfold callWith;refine aq (su (PySem.evalArgs_none (aq (wpAny_standAt ?_))));let⟨h0,g0,d0,t0,KS⟩:=s;refine aq (wpAny_keeperOf_exc (I.bk _ _ hC) ?_);refine aq (cV (Pw (us:=[]) Fn ui FB hq I g (ud _) q kk) λv s3 q3=>aq (su (wpAny_point (cg q3))))
end
end
section
section
end
section
variable{X:Cx}{qt:Bool}{k:Nat}{f C:bw}{fd:qj}{ps:List Str}{sp:qF}{EX:aP->aW}{x:Str}{t:oR}{dd:List D}{cw:List V}{ds:List au}
abbrev HF(C:bw)(sp:qF)(dd:List D)(EX:aP->aW)(t:oR):cA:=λρ G R=>t ρ G λds G1=>∀x,G1 x=bh->sp (.ref x::(ds++dd)) (aG G1 x (.ins C [])) (λv G2=>v=.ag/\R (.ref x) G2) (EX ρ)
private theorem QC{σ:St}{H:Hp}{G:Gp}{R:dU}{Q:VK}{us:List au}{vs:List V}{yO:List D}{ρ:aP}(M:Mk X.K C f)(F:cM qt X.prog X.w X.K X.mg X.base (lF X.prog X.w) k f fd ps (cX X.K sp))(hr:jC qt (k+1) X.A)(hb:Binds X.K fd ps ds)(hd:Vals cw ds)(kL:∀H,cN X.K H dd cw)(hx:sM X EX)
  (I:Inv X ψ σ H s)(sr:SR X.K H ρ σ)(g:HR X.K H G)(r:Vals vs us)(r2:cN X.K H yO vs)(h:∀x,G x=bh->sp (.ref x::(yO++dd)) (aG G x (.ins C [])) (λv G2=>v=.ag/\R (.ref x) G2) (EX ρ))
  (hQ:∀v H' d G',Ts H H'->RD X.K H' d v->HR X.K H' G'->R d G'->Q v H'):dj (fj X.prog X.w) X.A (call (.ref C) us) (EP X ψ σ Q) X.xe s:=by
 have n1:H (s.heap.objs.size+1)=bh:=I.af.fresh (oP _);have n0:H s.heap.objs.size=bh:=I.af.fresh (dz _);have ne:s.heap.objs.size+1≠s.heap.objs.size:=Nat.succ_ne_self _;have I2:=Inv.made (C:=C) I
 have kl:X.K.lookup (s.heap.objs.size+1)=bh:=by
  cases q:X.K.lookup (s.heap.objs.size+1)with
  |none=>rfl
  |some u=>have:=lW I2 _ u q;rw[aN]at this;cases this
 have gn:G (s.heap.objs.size+1)=bh:=eV (o:=.ins C s.heap.objs.size []) g n1 λb u e=>by
  by_cases c:b=s.heap.objs.size+1
  .subst c;rw[kl]at e;cases e
  .rw[aZ c];exact lW I b u e
 have t1:Ts H (upd H s.heap.objs.size (.own (s.heap.objs.size+1))):=.same (bO n0);have K5:upd H s.heap.objs.size (.own (s.heap.objs.size+1)) (s.heap.objs.size+1)=bh:=by rw[aZ ne];exact n1
 have t2:Ts (upd H s.heap.objs.size (.own (s.heap.objs.size+1))) (upd (upd H s.heap.objs.size (.own (s.heap.objs.size+1))) (s.heap.objs.size+1) (.ins C s.heap.objs.size [])):=.same (bO K5);have g1:HR X.K (upd H s.heap.objs.size (.own (s.heap.objs.size+1))) G:=g.same (bO n0);have g2:HR X.K (upd (upd H s.heap.objs.size (.own (s.heap.objs.size+1))) (s.heap.objs.size+1) (.ins C s.heap.objs.size [])) (aG G (s.heap.objs.size+1) (.ins C [])):=g1.put K5 ⟨s.heap.objs.size,[],aN,.nil⟩
 have hq:cX X.K sp (V.ref (s.heap.objs.size+1)::(vs++cw)) (upd (upd H s.heap.objs.size (.own (s.heap.objs.size+1))) (s.heap.objs.size+1) (.ins C s.heap.objs.size [])) (λv H'=>v=.ag/\∃G',HR X.K H' G'/\R (.ref (s.heap.objs.size+1)) G') (wm X.K (EX ρ)) :=
  ⟨.ref (s.heap.objs.size+1)::(yO++dd),_,_,EX ρ,.cons (.ref _) (((r2.mono t1).mono t2).append (kL _)),g2,h _ gn,λv H' d G' r3 g3 q3=>by
   let⟨rfl,q3⟩:=q3;cases r3;exact⟨rfl,G',g3,q3⟩,λC H' G' g' q'=>⟨C,G',rfl,g',q'⟩⟩
 have rr:Vals (V.ref (s.heap.objs.size+1)::(vs++cw)) (au.ref (s.heap.objs.size+1)::(us++ds)):=.cons rfl (r.append hd)
 have hl:(au.ref (s.heap.objs.size+1)::us++ds).length=ps.length:=by
  have e:=rr.length;rw[F.len _ _ _ _ hq]at e;exact e.symm
 refine wpAny_call (Yb (f:=f) I.dC M.makes M.init (beq_iff_eq.mp M.fn) (Ac (F.run _ X.stack _ _ ⟨au.ref (s.heap.objs.size+1)::us,[]⟩ (au.ref (s.heap.objs.size+1)::(us++ds)) _ _ _ (hr.make C us [])
  (I2.CK.make C us []) (hb _ (au.ref (s.heap.objs.size+1)::us) I2.dC hl) rr hq) λr s' A4=>?_))
 cases r with
 |error e=>exact hx.Hf ψ σ _ _ ρ e s' I2 ((sr.mono t1).mono t2) A4
 |ok fl =>
  cases fl with
  |ret u =>
   let⟨v,H',os,bare,un,af,rv,ev,G',g3,q3⟩:=A4;subst ev;exact⟨rv,⟨V.ref (s.heap.objs.size+1),H',I2.gX (ch:=[]) os un af bare (λb z=>absurd z (by simp)),rfl,hQ _ H' (.ref _) G' ((t1.trans t2).trans ⟨un.aE,un.lZ⟩) (.ref _) g3 q3⟩⟩
  |next=>exact False.elim A4
  |brk=>exact False.elim A4
  |cont=>exact False.elim A4
def VQ(M:Mk X.K C f)(F:cM qt X.prog X.w X.K X.mg X.base (lF X.prog X.w) k f fd ps (cX X.K sp))(hr:jC qt (k+1) X.A)(hg:Gl X x)(hm:X.mg x=aj (.ref C))(hb:Binds X.K fd ps ds)(hd:Vals cw ds)(kL:∀H,cN X.K H dd cw)(hx:sM X EX)
  (ha:dA X (e::es) t)(fA:(x==("__debug__":Str))=ao)(he:jo (e::es) X.env=(ao,eval e X.env)::jo es X.env)(gu:(xr pos (jo es X.env)).any (·.1)=ao) :
  cC X (.Call (.Name x p) (e::es) [] pos) (HF C sp dd EX t):=by
 intro ψ s σ H Q I h;let⟨ρ,G,R,sr,g,q,kk⟩:=h;refine yp (oO I hg hm ?_ fA);refine PySem.W.callWith_K (h₀:=X.base) I.ok.mod.n9 M.kp (cV (ha pos ψ s σ H (λvs H1=>Ts H H1/\∃ds G1,cN X.K H1 ds vs/\HR X.K H1 G1/\∀x,G1 x=bh->sp (.ref x::(ds++dd)) (aG G1 x (.ins C [])) (λv G2=>v=.ag/\R (.ref x) G2) (EX ρ)) I ⟨ρ,G,_,sr,g,q,λvs H1 ds G1 t1 r1 g1 q1=>⟨t1,ds,G1,r1,g1,q1⟩⟩) λus s1 ⟨vs,H1,I1,r,t1,ds,G1,r1,g1,q1⟩=>⟨I1.dC,?_⟩) he gu;exact QC M F hr hb hd kL hx I1 (sr.mono t1) g1 r r1 q1 λv H' d G' t2=>kk v H' d G' (t1.trans t2)
def XN(M:Mk X.K C f)(F:cM qt X.prog X.w X.K X.mg X.base (lF X.prog X.w) k f fd ps (cX X.K sp))(hr:jC qt (k+1) X.A)(hg:Gl X x)(hm:X.mg x=aj (.ref C))(hb:Binds X.K fd ps ds)(hd:Vals cw ds)(kL:∀H,cN X.K H dd cw)(hx:sM X EX)
  (fA:(x==("__debug__":Str))=ao):cC X (.Call (.Name x p) [] [] pos) (HF C sp dd EX aD):=by
 intro ψ s σ H Q I h;let⟨ρ,G,R,sr,g,q,kk⟩:=h;refine yp (oO I hg hm ?_ fA);exact PySem.W.callWith_K0 I.dC M.kp (QC (us:=[]) (vs:=[]) (yO:=[]) M F hr hb hd kL hx I sr g .nil .nil q λv H' d G' t2=>kk v H' d G' t2)
end
end
section
section
end
section
end
section
end
section
end
end
section
abbrev Hc:D->Option Key
 |.int i=>aj (.inl i)
 |.str x=>aj (.inr x)
 |_=>bh
abbrev BV:List D->Option (List Key)
 |[]=>aj []
 |d::r=>match Hc d,BV r with
  |some k,aj ks=>aj (k::ks)
  |_,_=>bh
abbrev zH:D->Option DK
 |.int i=>aj (.inl (.inl i))
 |.str x=>aj (.inl (.inr x))
 |.tup ds=>(match BV ds with
  |some ks=>aj (.inr ks)
  |none=>bh)
 |_=>bh
abbrev qY:DK->Bool
 |.inl _=>ao
 |.inr _=>ak
section
variable{κ:Type}[DecidableEq κ]{α:Type}
abbrev aQ:List (κ×α)->κ->Option α
 |[],_=>bh
 |p::r,k=>if p.1=k then aj p.2 else aQ r k
abbrev bZ(aa:List (κ×α))(k:κ)(v:α):List (κ×α):=if(aQ aa k).isSome=ak then aa.map (λkv=>if kv.1=k then(kv.1,v)else kv)else aa++[(k,v)]
abbrev bH(aa:List (κ×α))(k:κ):List (κ×α):=aa.filter λkv=>!decide (kv.1=k)
end
def Ox{K:Fg}{d:D}{k:Key}(r:RD K H d v)(e:Hc d=aj k):v=kV k:=by
 cases r<;>first
  |(cases e;rfl)
  |cases e
private theorem Pu{K:Fg}:∀{ds:List D}{vs:List V}{ks:List Key},cN K H ds vs->BV ds=aj ks->vs=ks.map kV
 |_,_,_,.nil,e=>by cases e;rfl
 |d::ds,v::vs,ks,.cons h r,e=>by
  unfold BV at e;split at e
  .rename_i k ks' e1 e2;cases e;rw[Ox h e1,Pu r e2];rfl
  .cases e
@[simp]def qH{κ:Type}(K:Fg)(H:Hp)(f:κ->DK):List (DK×D)->List (κ×V)->Prop:=c6 λp q=>p.1=f q.1/\RD K H p.2 q.2
section
variable{κ:Type}[DecidableEq κ]{K:Fg}{f:κ->DK}
def val_two(hf:∀a b,f a=f b->a=b){k:κ}:∀{aa:List (DK×D)}{xs:List (κ×V)},qH K H f aa xs->(∀d,aQ aa (f k)=aj d->∃v,uK xs k=aj v/\RD K H d v)/\(aQ aa (f k)=bh->uK xs k=bh)
 |_,_,.nil=>⟨λd e=>(nomatch e),λ_=>rfl⟩
 |p::aa,q::xs,.cons h r=>by
  let⟨h1,h2⟩:=h;by_cases c:q.1=k
  .have c2:p.1=f k:=by rw[h1,c]
   unfold aQ;rw[if_pos c2,uM c];exact⟨λd e=>by cases e;exact⟨_,rfl,h2⟩,λe=>(nomatch e)⟩
  .have c2:¬ p.1=f k:=λz=>c (hf _ _ (h1.symm.trans z));unfold aQ;rw[if_neg c2,uN c];exact val_two hf r
def XM(hf:∀a b,f a=f b->a=b){k:κ}(t:qH K H f aa xs):(aQ aa (f k)).isSome=(uK xs k).isSome:=by
 have z:=val_two hf (k:=k) t;cases e:aQ aa (f k)with
 |none=>rw[z.2 e];rfl
 |some d=>let⟨v,e2,_⟩:=z.1 d e;rw[e2];rfl
def Ow{g:DK×D->DK×D}{h:κ×V->κ×V}(gh:∀p q,p.1=f q.1/\RD K H p.2 q.2->(g p).1=f (h q).1/\RD K H (g p).2 (h q).2):∀{aa:List (DK×D)}{xs:List (κ×V)},qH K H f aa xs->qH K H f (aa.map g) (xs.map h)
 |_,_,.nil=>.nil
 |_,_,.cons z r=>.cons (gh _ _ z) (Ow gh r)
def Pt{p:DK×D}{q:κ×V}(z:p.1=f q.1/\RD K H p.2 q.2):∀{aa:List (DK×D)}{xs:List (κ×V)},qH K H f aa xs->qH K H f (aa++[p]) (xs++[q])
 |_,_,.nil=>.cons z .nil
 |_,_,.cons y r=>.cons y (Pt z r)
def EZ(hf:∀a b,f a=f b->a=b){k:κ}{d:D}(rd:RD K H d v)(t:qH K H f aa xs):qH K H f (bZ aa (f k) d) (putK xs k v):=by
 unfold bZ putK;rw[JD,XM hf t];split
 ·refine Ow ?_ t;rintro p q ⟨h1,h2⟩;by_cases c:q.1=k
  .rw[if_pos (show p.1=f k by rw[h1,c]),if_pos c];exact⟨h1,rd⟩
  .rw[if_neg (show ¬ p.1=f k from λz=>c (hf _ _ (h1.symm.trans z))),if_neg c];exact⟨h1,h2⟩
 .exact Pt (p:=(f k,d)) (q:=(k,v)) ⟨rfl,rd⟩ t
end
def jU(a b:Key)(h:(Sum.inl a:DK)=.inl b):a=b:=by cases h;rfl
def jV(a b:List Key)(h:(Sum.inr a:DK)=.inr b):a=b:=by cases h;rfl
abbrev uU(x y:D)(G:Gp)(P:bw->Bool->List (DK×D)->DK->Prop):Prop:=match x with
 |.ref a=>(match G a,zH y with
  |some (.bD t aa),aj k=>qY k=t/\P a t aa k
  |_,_=>False)
 |_=>False
abbrev wc(K:Fg)(H:Hp)(a:bw)(vy:V)(aa:List (DK×D))(k:DK):Prop :=
 (∃k' xs,k=.inl k'/\H a=aj (.dK xs)/\qH K H .inl aa xs/\vy=kV k')∨∃ks xs b,k=.inr ks/\H a=aj (.dT xs)/\qH K H .inr aa xs/\vy=.ref b/\H b=aj (.tup (ks.map kV))
private theorem Et{K:Fg}{k:DK}(ry:RD K H y vy)(e:zH y=aj k):(∃k',k=.inl k'/\vy=kV k')∨∃ks b,k=.inr ks/\vy=.ref b/\H b=aj (.tup (ks.map kV)):=by
 cases ry with
 |int i=>cases e;exact .inl ⟨_,rfl,rfl⟩
 |str x=>cases e;exact .inl ⟨_,rfl,rfl⟩
 |@tup a xs ds hq r e0 =>
  have e':(match BV ds with
   |some ks=>aj (Sum.inr ks:DK)
   |none=>bh)=aj k:=e
  split at e'
  .rename_i ks e1;cases e';have:=Pu r e1;subst this;exact .inr ⟨ks,a,rfl,rfl,e0⟩
  .cases e'
 |_=>cases e
variable{x:D}
private theorem uV{K:Fg}{P:bw->Bool->List (DK×D)->DK->Prop}(rx:RD K H x vx)(ry:RD K H y vy)(g:HR K H G)(h:uU x y G P) :
  ∃a aa k,x=.ref a/\vx=.ref a/\G a=aj (.bD (qY k) aa)/\zH y=aj k/\P a (qY k) aa k/\wc K H a vy aa k:=by
 unfold uU at h;split at h
 .rename_i a;split at h
  .rename_i t aa k e1 e2;let⟨rfl,h⟩:=h;cases rx;refine⟨a,aa,k,rfl,rfl,e1,e2,h,?_⟩;rcases g a _ e1 with⟨z,xs,e3,r⟩|⟨z,xs,e3,r⟩
   .rcases Et ry e2 with⟨k',rfl,rfl⟩|⟨ks,b,rfl,_⟩
    .exact .inl ⟨k',xs,rfl,e3,r,rfl⟩
    .cases z
   .rcases Et ry e2 with⟨k',rfl,rfl⟩|⟨ks,b,rfl,rfl,eb⟩
    .cases z
    .exact .inr ⟨ks,xs,b,rfl,e3,r,rfl,eb⟩
  .exact h.elim
 .exact h.elim
def wc.get{K:Fg}{k:DK}(h:wc K H a vy aa k):(∀d,aQ aa k=aj d->∃v,iA H a vy (aj v)/\RD K H d v)/\(aQ aa k=bh->iA H a vy bh):=by
 rcases h with⟨k',xs,rfl,e,r,rfl⟩|⟨ks,xs,b,rfl,e,r,rfl,eb⟩
 .have z:=val_two jU (k:=k') r;exact⟨λd e2=>(z.1 d e2).elim λv q=>⟨v,by rw[←q.1];exact .k e,q.2⟩,λe2=>by rw[←z.2 e2];exact .k e⟩
 .have z:=val_two jV (k:=ks) r;exact⟨λd e2=>(z.1 d e2).elim λv q=>⟨v,by rw[←q.1];exact .t e eb,q.2⟩,λe2=>by rw[←z.2 e2];exact .t e eb⟩
def wc.any{K:Fg}{k:DK}(h:wc K H a vy aa k):∃o,iA H a vy o/\o.isSome=(aQ aa k).isSome/\∀d v,RD K H d v->RD K H ((aQ aa k).getD d) (o.getD v):=by
 have z:=h.get;cases e:aQ aa k with
 |none=>exact⟨bh,z.2 e,rfl,λd v r=>r⟩
 |some d=>let⟨v,g,r⟩:=z.1 d e;exact⟨aj v,g,rfl,λ_ _ _=>r⟩
def wc.put{K:Fg}{d:D}{aa:List (DK×D)}{k:DK}(g:HR K H G)(h:wc K H a vy aa k)(rv:RD K H d v)(hl:aa.length<dh):∃H',qB H a vy v H'/\Ts H H'/\HR K H' (aG G a (.bD (qY k) (bZ aa k d))):=by
 rcases h with⟨k',xs,rfl,e,r,rfl⟩|⟨ks,xs,b,rfl,e,r,rfl,eb⟩
 .have tt:Ts H (upd H a (.dK (putK xs k' v))):=.turn e (λ_ z=>nomatch z) (λ_ _ z=>nomatch z);exact⟨_,.k e (by rw[←r.length];exact hl),tt,g.turn (u:=.bD ao _) tt (.inl ⟨rfl,_,aN,(EZ jU rv r).imp λ_ _ q=>⟨q.1,q.2.mono tt⟩⟩)⟩
 .have tt:Ts H (upd H a (.dT (putK xs ks v))):=.turn e (λ_ z=>nomatch z) (λ_ _ z=>nomatch z);exact⟨_,.t e eb (by rw[←r.length];exact hl),tt,g.turn (u:=.bD ak _) tt (.inr ⟨rfl,_,aN,(EZ jV rv r).imp λ_ _ q=>⟨q.1,q.2.mono tt⟩⟩)⟩
abbrev zJ(G:Gp)(a:bw):Option (Bool×List (DK×D)):=match G a with
 |some (.bD t aa)=>aj (t,aa)
 |some (.c9 _ t aa)=>aj (t,aa)
 |_=>bh
private theorem XJ{K:Fg}{t:Bool}(g:HR K H G)(e:zJ G a=aj (t,aa)) :
  (t=ao/\∃xs:List (Key×V),Rd H a (.dK xs)/\qH K H .inl aa xs)∨(t=ak/\∃xs:List (List Key×V),Rd H a (.dT xs)/\qH K H .inr aa xs):=by
 unfold zJ at e;split at e
 .rename_i t' fI q;cases e;rcases g a _ q with⟨z,xs,e2,tw⟩|⟨z,xs,e2,tw⟩
  .exact .inl ⟨z,xs,.inl e2,tw⟩
  .exact .inr ⟨z,xs,.inl e2,tw⟩
 .rename_i o t' fI q;cases e;rcases g a _ q with⟨z,xs,e2,tw⟩|⟨z,xs,e2,tw⟩
  .exact .inl ⟨z,xs,.inr ⟨o,e2⟩,tw⟩
  .exact .inr ⟨z,xs,.inr ⟨o,e2⟩,tw⟩
 .cases e
abbrev BU(x y:D)(G:Gp)(P:List (DK×D)->DK->Prop):Prop:=match x with
 |.ref a=>(match zJ G a,zH y with
  |some (t,aa),aj k=>qY k=t/\P aa k
  |_,_=>False)
 |_=>False
private theorem YK{K:Fg}{P:List (DK×D)->DK->Prop}(rx:RD K H x vx)(ry:RD K H y vy)(g:HR K H G)(h:BU x y G P) :
  ∃a aa k,x=.ref a/\vx=.ref a/\P aa k/\∀d,aQ aa k=aj d->∃v,iA H a vy (aj v)/\RD K H d v:=by
 unfold BU at h;split at h
 .rename_i a;split at h
  .rename_i t aa k e1 e2;let⟨rfl,h⟩:=h;cases rx;refine⟨a,aa,k,rfl,rfl,h,λd ed=>?_⟩;rcases XJ g e1 with⟨z,xs,e3,r⟩|⟨z,xs,e3,r⟩
   .rcases Et ry e2 with⟨k',rfl,rfl⟩|⟨ks,b,rfl,_⟩
    .obtain⟨v,e4,rv⟩:=(val_two jU (k:=k') r).1 d ed;exact⟨v,.inl ⟨xs,k',e3,rfl,e4.symm⟩,rv⟩
    .cases z
   .rcases Et ry e2 with⟨k',rfl,rfl⟩|⟨ks,b,rfl,rfl,eb⟩
    .cases z
    .obtain⟨v,e4,rv⟩:=(val_two jV (k:=ks) r).1 d ed;exact⟨v,.inr ⟨xs,ks,b,e3,rfl,eb,e4.symm⟩,rv⟩
  .exact h.elim
 .exact h.elim
abbrev aO:R3:=λx y G R=>BU x y G λaa k=>match aQ aa k with
 |some d=>R d G
 |none=>False
section
variable{X:Cx}{to ti tv te tf:cA}{pos:Pos}
private theorem aH5(hu:X.A.units+64<qg)(ho:cC X o to)(hi:cC X i ti)(hs:DU i):cC X (.Subscript o i pos) (aC aO to ti):=by
 refine PE.imp (Wz ⋯ ho hi hs) λσ H Q h=>?_;let⟨ρ,G,R,s,g,t,k⟩:=h;refine⟨ρ,G,_,s,g,t,λvx H1 x G1 t1 rx g1 t'=>?_⟩;refine⟨ρ,G1,_,s.mono t1,g1,t',λvy H2 y G2 t2 ry g2 kc=>?_⟩;let⟨a,aa,kk,rfl,rfl,q,dd⟩:=YK (rx.mono t2) ry g2 kc;split at q
 .rename_i d e2;let⟨v,gg,rv⟩:=dd d e2;exact⟨a,v,rfl,gg,k v H2 d G2 (t1.trans t2) rv g2 q⟩
 .exact q.elim
abbrev D9(x y v:D)(F:eY)(ρ:aP)(G:Gp):Prop:=uU x y G λa t aa k=>aa.length<dh/\F.nx ρ (aG G a (.bD t (bZ aa k v)))
abbrev uW(to ti tv:cA):bC:=λF ρ G=>tv ρ G λv G1=>to ρ G1 λx G2=>ti ρ G2 λy G3=>D9 x y v F ρ G3
def aBU(hu:X.A.units+64<qg)(ho:cC X o to)(hi:cC X i ti)(hv:cC X value tv)(hs:oD value (aj (.Subscript o i pos')) pos.line X.env=pure ao):fF X (.Assign [.Subscript o i pos'] value pos) (uW to ti tv):=by
 refine PS.imp (Wy ⋯ ho hi hv hs) λF σ H h=>?_;let⟨ρ,G,E,s,g,t,u⟩:=h;refine⟨ρ,G,_,s,g,t,λv H1 d G1 t1 rv g1 t'=>?_⟩;refine⟨ρ,G1,_,s.mono t1,g1,t',λvx H2 x G2 t2 rx g2 kc=>?_⟩;refine⟨ρ,G2,_,s.mono (t1.trans t2),g2,kc,λvy H3 y G3 t3 ry g3 t4=>?_⟩;let⟨a,aa,kk,rfl,rfl,e1,_,⟨hl,q⟩,dd⟩:=uV (rx.mono t3) ry g3 t4;let⟨H4,pp,tt,g4⟩:=dd.put g3 (rv.mono (t2.trans t3)) hl;exact⟨a,H4,rfl,pp,u.nx ρ _ σ _ (s.mono (((t1.trans t2).trans t3).trans tt)) g4 q⟩
abbrev rZ(x:D)(G:Gp):Prop:=match x with
 |.ref a=>(match G a with
  |some (.bD _ _)=>True
  |_=>False)
 |_=>False
private theorem QB{K:Fg}(rx:RD K H x vx)(g:HR K H G)(h:rZ x G):∃a,x=.ref a/\vx=.ref a/\nV H a:=by
 unfold rZ at h;split at h
 .rename_i a;split at h
  .rename_i t aa e;cases rx;rcases g a _ e with⟨_,xs,e2,_⟩|⟨_,xs,e2,_⟩
   .exact⟨a,rfl,rfl,.inl ⟨xs,.inl e2⟩⟩
   .exact⟨a,rfl,rfl,.inr ⟨xs,.inl e2⟩⟩
  .exact h.elim
 .exact h.elim
abbrev EU(to te tf:cA):cA:=λρ G R=>to ρ G λx G1=>rZ x G1/\te ρ G1 λy G2=>tf ρ G2 λz G3=>uU x y G3 λ_ _ aa k=>R ((aQ aa k).getD z) G3
def VP(hu:X.A.units+64<qg)(ho:cC X o to)(he:cC X e te)(hf:cC X f tf)(m:M2 X o "get" apos e f ai):cC X (.Call (.Attribute o "get" apos) [e,f] [] ai) (EU to te tf):=by
 refine PE.imp (X7 ⋯ ho he hf m) λσ H Q h=>?_;let⟨ρ,G,R,s,g,t,k⟩:=h;refine⟨ρ,G,_,s,g,t,λvx H1 x G1 t1 rx g1 t'=>?_⟩;let⟨kH,t'⟩:=t';let⟨a,rfl,rfl,ia⟩:=QB rx g1 kH;refine⟨a,rfl,ia,?_⟩;refine⟨ρ,G1,_,s.mono t1,g1,t',λvy H2 y G2 t2 ry g2 kc=>?_⟩;refine⟨ρ,G2,_,s.mono (t1.trans t2),g2,kc,λvz H3 z G3 t3 rz g3 t4=>?_⟩;let⟨a',aa,kk,e,_,e1,_,q,dd⟩:=uV (rx.mono (t2.trans t3)) (ry.mono t3) g3 t4;cases e;let⟨o,gg,eo,hd⟩:=dd.any;exact⟨o,gg,k _ H3 _ G3 ((t1.trans t2).trans t3) (hd z vz rz) g3 q⟩
end
end
variable{Q:au->cu->Prop}
section
section
variable{prog:kj}{w:jj}{K:Type}[DecidableEq K]{knd:HeapKind prog w K}{A:mq}{E:au->cu->Prop}{s:cu}{d:bw}{k:K}{xs:List (K×bw×au)}
def aBV{xs:List (K×bw×au)}{o:Obj}{es ep}(bo:knd.is s.heap k a)(ho:s.heap.get? d=aj o)(hc:o.ExactDict)(hd:o.data=.dict es ep)(he:es.toList=xs.map (entryOfKey knd))(mf:∀x∈xs,knd.is s.heap x.1 x.2.1)(hn:(xs.map (·.1)).Nodup)(iX:∀(j:Nat)(p:bw×au),xs[j]?≠aj (k,p)) :
  (s.heap.update d (Obj.mapDictKeys (·.push ⟨knd.hash k,.ref a,v⟩))).DictOfH knd d (storedH xs k a v):=by
 have nk:k∉xs.map (·.1):=not_mem_keys_of_get iX;refine⟨_,_,ep+1,Au _ ho (Obj.isFreed_of_dict (Obj.data_mapDictKeys hd _)),hc.mapDictKeys _,Obj.data_mapDictKeys hd _,?_,?_,?_⟩<;>rw[storedH_new (atKey_none_of_get iX)]
 .simp[he,entryOfKey]
 .intro x hx;rcases uo.mp hx with hx|hx
  .exact knd.keeps (mf x hx) ho hd (jr.update ..)
  .rw[ql]at hx;subst hx;exact knd.keeps bo ho hd (jr.update ..)
 .rw[qe,zu];refine⟨hn,by simp,λx hx y hy e=>?_⟩;rw[List.map_singleton,ql]at hy;exact nk (by rw[←show y=k from hy,←e];exact hx)
def aBW(hu:knd.room A)(bo:knd.is s.heap k a)(hm:s.heap.DictOfH knd d xs)(hsz:xs.length<=dh)
  (h1:∀p,atKey xs k=aj p->Q p.2 {s with toks:=s.toks+knd.draws k})
  (h2:atKey xs k=bh->∀h',h'.DictOfH knd d (storedH xs k a v)->jr d s.heap h'->Q v {s with heap:=h',toks:=s.toks+knd.draws k}):dj (fj prog w) A (dictSetDefault d (.ref a) v) Q E s:=by
 let⟨o,es,ep,ho,hc,hd,he,mf,hn⟩:=hm;unfold dictSetDefault;refine su (aq (knd.pyHash hu bo (aq (wpAny_dictFind_heap (s:={s with toks:=s.toks+knd.draws k}) hu bo ho hd he mf hn ?_ ?_))))
 .intro iX;refine aq (k8 (aq (wpAny_updateDictKeys (s:={s with toks:=s.toks+knd.draws k}) ho hd (cg (h2 (atKey_none_of_get iX) _ (aBV bo ho hc hd he mf hn iX) (jr.update ..))) (hz:=by have e:=size_of_entries he;omega))))
 .intro j p hj;refine aq (xq (s:={s with toks:=s.toks+knd.draws k}) ho hd ?_);rw[entry_at he j,hj];exact aq (k8 (cg (h1 p (atKey_of_get hn hj))))
def a7Z(hu:knd.room A.in1)(bo:knd.is s.heap k a)(hs:(d==qy)=ao)(hm:s.heap.DictOfH knd d xs)(hsz:xs.length<=dh)
  (h1:∀p,atKey xs k=aj p->Q p.2 {s with toks:=s.toks+knd.draws k})
  (h2:atKey xs k=bh->∀h',h'.DictOfH knd d (storedH xs k a v)->jr d s.heap h'->Q v {s with heap:=h',toks:=s.toks+knd.draws k}):dj (fj prog w) A (call (.builtin "dict.setdefault") [.ref d,.ref a,v]) Q E s:=by
 refine call_meetsIn (S:=λA' R s'=>knd.room A'.in1/\s'=s/\(∀p,atKey xs k=aj p->R (.ok (.ret p.2)) {s with toks:=s.toks+knd.draws k})/\(atKey xs k=bh->∀h',h'.DictOfH knd d (storedH xs k a v)->jr d s.heap h'->R (.ok (.ret v)) {s with heap:=h',toks:=s.toks+knd.draws k})) PySem.F.slot_dict_setdefault hm.typeIs PySem.F.entry_dict_setdefault (PySem.F.args_dict_setdefault_3 _ _ _) (.of_wp ?_) ⟨hu,rfl,h1,h2⟩;rintro A' R s' ⟨ie,e,g1,g2⟩;subst e;unfold Builtin.«dict.setdefault»;refine aq ?_;unfold Builtin.Dict.keyAndDefault;refine aq (wpAny_notOrdered_dict hm.typeIs ?_);show dj _ _ (pure (d,au.ref a,aj v)) _ _ _;refine cg ?_;show dj _ _ (if(d==qy)=ak then _ else(dictSetDefault d (.ref a) v >>= _)) _ _ _;rw[if_neg (by rw[hs];exact vf)];exact aq (aBW ie bo hm hsz (λp hp=>cg ⟨p.2,rfl,g1 p hp⟩) λhn h' A6 d3=>cg ⟨v,rfl,g2 hn h' A6 d3⟩)
abbrev fC(xs:List (K×bw×au))(k:K):List (K×bw×au):=xs.filter λx=>decide (x.1≠k)
def Y'{xs:List (K×bw×au)}(hn:(xs.map (·.1)).Nodup)(hj:xs[j]?=aj (k,p)):fC xs k=xs.eraseIdx j:=by
 induction xs generalizing j with
 |nil=>simp at hj
 |cons x r ih =>
  rw[iw,tu]at hn;cases j with
  |zero =>
   simp at hj;subst hj
   have:∀y∈r,decide (y.1≠k)=ak:=λy hy=>by
    simp only[decide_eq_true_eq];intro e;exact hn.1 (gk.mpr ⟨y,hy,e⟩)
   rw[fC,uh,if_neg (by simp),JI.mpr this];rfl
  |succ j =>
   have Dw:r[j]?=aj (k,p):=by simpa using hj
   have ne:x.1≠k:=λe=>hn.1 (by rw[e];exact gk.mpr ⟨(k,p),qd Dw,rfl⟩);have:=ih hn.2 Dw;simp[fC,uh,ne]at this ⊢;exact this
variable{p:bw×au}
def VO{Q:Option lh->cu->Prop}(hu:knd.room A)(bo:knd.is s.heap k a)(hm:s.heap.DictOfH knd d xs)(hsz:xs.length<=dh)(hp:atKey xs k=aj p)
  (h:∀h' e,e.key=.ref p.1->e.val=p.2->h'.DictOfH knd d (fC xs k)->jr d s.heap h'->Q (aj e) {s with heap:=h',toks:=s.toks+knd.draws k}):dj (fj prog w) A (Builtin.Dict.takeOut d (.ref a)) Q E s:=by
 let⟨o,es,ep,ho,hc,hd,he,mf,hn⟩:=hm;unfold Builtin.Dict.takeOut;refine su (aq (knd.pyHash hu bo (aq (wpAny_dictFind_heap (s:={s with toks:=s.toks+knd.draws k}) hu bo ho hd he mf hn ?_ ?_))))
 .intro iX;rw[atKey_none_of_get iX]at hp;cases hp
 .intro j q hj;rw[atKey_of_get hn hj]at hp;cases hp;refine aq (xq (s:={s with toks:=s.toks+knd.draws k}) ho hd ?_);rw[entry_at he j,hj];refine aq (wpAny_updateDictKeys (s:={s with toks:=s.toks+knd.draws k}) ho hd (cg (h _ _ rfl rfl ⟨_,_,ep+1,Au _ ho (Obj.isFreed_of_dict (Obj.data_mapDictKeys hd _)),hc.mapDictKeys _,Obj.data_mapDictKeys hd _,?_,?_,?_⟩ (jr.update ..))) (hz:=by have e:=size_of_entries he;omega) (hf:=?_))
  .rw[Y' hn hj];have Td:j<es.size:=by rw[size_of_entries he];exact(jd.mp hj).1
   have em:∀(l:List (K×bw×au))(j:Nat),(l.map (entryOfKey knd)).eraseIdx j=(l.eraseIdx j).map (entryOfKey knd):=by
    intro l
    induction l with
    |nil=>intro j;rfl
    |cons x r ih=>intro j;cases j with
     |zero=>rfl
     |succ j=>simp[ih]
   simp[Array.eraseIdxIfInBounds,Td,he,em]
  .intro x hx;exact knd.keeps (mf x (xg.mp hx).1) ho hd (jr.update ..)
  .exact(JH.map _).nodup hn
  .show(es.eraseIdxIfInBounds j).size<=es.size+1;unfold Array.eraseIdxIfInBounds;split<;>simp<;>omega
def Na(hu:knd.room A.in1)(bo:knd.is s.heap k a)(hm:s.heap.DictOfH knd d xs)(hsz:xs.length<=dh)(hp:atKey xs k=aj p)
  (h:∀h',h'.DictOfH knd d (fC xs k)->jr d s.heap h'->Q p.2 {s with heap:=h',toks:=s.toks+knd.draws k}):dj (fj prog w) A (call (.builtin "dict.pop") [.ref d,.ref a]) Q E s:=by
 refine call_meetsIn (S:=λA' R s'=>knd.room A'.in1/\s'=s/\∀h',h'.DictOfH knd d (fC xs k)->jr d s.heap h'->R (.ok (.ret p.2)) {s with heap:=h',toks:=s.toks+knd.draws k}) PySem.F.slot_dict_pop hm.typeIs PySem.F.entry_dict_pop (PySem.F.args_dict_pop_2 _ _) (.of_wp ?_) ⟨hu,rfl,h⟩;rintro A' R s' ⟨ie,e,g⟩;subst e;have fe:xs≠[]:=λe=>by subst e;cases hp
 let⟨o,es,ep,ho,hc,hd,he,mf,hn⟩:=id hm;unfold Builtin.«dict.pop»;refine aq ?_;unfold Builtin.Dict.keyAndDefault;refine aq (wpAny_notOrdered_dict hm.typeIs ?_);show dj _ _ (pure (d,au.ref a,bh)) _ _ _;refine cg ?_
 have e0:es.isEmpty=ao:=by
  have:=size_of_entries he;rw[Array.isEmpty_eq_false_iff];intro z;subst z;exact fe (List.length_eq_zero_iff.mp this.symm)
 show dj _ _ (dictEntries d >>= _) _ _ _;refine aq (xq ho hd ?_);rw[e0];refine aq (cg ?_);show dj _ _ (Builtin.Dict.takeOut d (au.ref a) >>= _) _ _ _;refine aq (VO ie bo hm hsz hp λh' e e1 e2 dd hs=>?_);refine aq (wpAny_letGo (cg ⟨_,rfl,?_⟩));rw[e2];exact g h' dd hs
end
def KT.drop(r:KT H aa xs)(k:List Key):KT H (uL aa k) (fC xs k):=by
 unfold uL fC
 induction r with
 |nil=>exact .nil
 |@cons p q ps qs h t ih =>
  rw[uh,uh];by_cases e:p.1=k
  .rw[if_neg (by simp[e]),if_neg (by simp[h.1.symm.trans e])];exact ih
  .rw[if_pos (by simp[e]),if_pos (by simp;exact λz=>e (h.1.trans z))];exact .cons h ih
def zK{κ:Type}[DecidableEq κ]{K:Fg}{f:κ->DK}(hf:∀a b,f a=f b->a=b){k:κ}:∀{aa:List (DK×D)}{xs:List (κ×V)},qH K H f aa xs->qH K H f (bH aa (f k)) (uL xs k)
 |_,_,.nil=>.nil
 |p::aa,q::xs,.cons h r=>by
  unfold bH uL;rw[uh,uh];by_cases c:q.1=k
  .rw[if_neg (by simp[show p.1=f k by rw[h.1,c]]),if_neg (by simp[c])];exact zK hf r
  .rw[if_pos (by simp;exact λz=>c (hf _ _ (h.1.symm.trans z))),if_pos (by simp[c])];exact .cons h (zK hf r)
abbrev u7(r:iL)(to:cA)(t:oR):cA:=λρ G R=>to ρ G λx G1=>rZ x G1/\t ρ G1 λxs G2=>r x xs G2 R
section
variable{X:Cx}
def Qb{t:oR}{apos ai:Pos}{id:String}{r3:iL}(slot:Slot "dict" name id)(A2:typeOf (.builtin id)=pure (.type "method_descriptor"))(hm:oq X id r3)(ho:cC X o to)(ha:dA X (e::es) t)
  (bP:pd o name X.env (eval o X.env)=eval o X.env)
  (xn:((xr ai (jo (e::es) X.env)).all (λx=>!x.1)&&(backToKw ai (keywordEach [] X.env)).all (λx=>x.1.isSome)
   &&decide ((e::es).length+([]:List jv).length+(if([]:List jv).isEmpty then 0 else 1)<30))=ak)
  (bE:(apos.endLine==ai.line)=ak)(hs:jo (e::es) X.env=(ao,eval e X.env)::jo es X.env)(dt:(xr ai (jo es X.env)).any (·.1)=ao) :
  cC X (.Call (.Attribute o name apos) (e::es) [] ai) (u7 r3 to t):=by
 intro ψ s σ H Q I h;let⟨ρ,G,R,sr,g,q,kk⟩:=h;refine wpAny_Call_method_late bP xn bE rfl (cV (ho ψ s σ H (λvx H1=>Ts H H1/\∃x G1,RD X.K H1 x vx/\HR X.K H1 G1/\rZ x G1/\t ρ G1 λxs G2=>r3 x xs G2 R) I ⟨ρ,G,_,sr,g,q,λv H1 x G1 t1 r1 g1 q1=>⟨t1,x,G1,r1,g1,q1⟩⟩) ?_);rintro v s1 ⟨vx,H1,I1,r1,t1,x,G1,rx,g1,ty,q1⟩;let⟨a,rfl,rfl,ia⟩:=QB rx g1 ty;obtain rfl:v=au.ref a:=r1;let⟨h1,h2,_⟩:=BY I1 ia;refine⟨"dict",id,PySem.F.plainAttrs_dict,slot,A2,h1,h2,?_⟩;have hA:=ha ai ψ s1 σ H1 (λvs H2=>Ts H1 H2/\∃xs G2,cN X.K H2 xs vs/\HR X.K H2 G2/\r3 (.ref a) xs G2 R) I1 ⟨ρ,G1,_,sr.mono t1,g1,q1,λvs H2 xs G2 t2 r2 g2 q2=>⟨t2,xs,G2,r2,g2,q2⟩⟩;rw[hs]at hA ⊢;refine Calls.callWith_builtin (by show(ao||(xr ai (jo es X.env)).any (·.1))=ao;rw[dt]<;>rfl) (Calls.evalArgs_plain ?_);exact cV hA (by rintro us s2 ⟨vs,H2,I2,r2,t2,xs,G2,rs,g2,q2⟩;exact hm ψ s2 σ H2 (.ref a) xs (.ref a) vs (.ref a) us G2 R Q I2 (.ref a) rs rfl r2 g2 q2 λv H' d G' t3=>kk v H' d G' ((t1.trans t2).trans t3))
abbrev rh:iL:=λx xs G R=>match xs with
 |[y,z]=>uU x y G λa t aa k=>t=ak/\aa.length<dh/\(match aQ aa k with
  |some d=>R d G
  |none=>R z (aG G a (.bD t (bZ aa k z))))
 |_=>False
private theorem aH7(hu:X.A.units+64<qg):oq X "dict.setdefault" rh:=by
 intro ψ s σ H x xs vx vs u us G R Q I rx rs ru rv g q k;unfold rh at q;split at q
 case h_2=>exact q.elim
 case h_1 y z =>
  cases rs with
  |cons ry rs =>
  cases rs with
  |@cons _ vz _ _ rz rs =>
  cases rs;cases rv with
  |cons C6 rv =>
  cases rv with
  |cons KN rv =>
  cases rv;let⟨a,aa,kk,rfl,rfl,e1,_,⟨ht,hl,q⟩,dd⟩:=uV rx ry g q;obtain rfl:u=au.ref a:=ru;rcases dd with⟨k',ys,rfl,_⟩|⟨ks,ys,b,rfl,e,r,rfl,eb⟩
  .cases ht
  .cases C6;let⟨z1,hd,ws,rel,dc⟩:=rq I.af e;have hw:=val_two jV (k:=ks) r;have hv:=rel.val ks;have lw:ws.length<=dh:=by rw[←Paired.length rel];exact z1
   refine a7Z (Ck ⋯) (yN I.af eb) hd dc lw (λp hp=>?_) λhn h' Gs hs=>?_
   .rw[hp]at hv;cases e2:aQ aa (.inr ks)with
    |none=>rw[hw.2 e2]at hv;exact(show False from hv).elim
    |some d =>
     rw[e2]at q;let⟨v,e3,rd⟩:=hw.1 d e2;rw[e3]at hv;exact⟨v,H,I.tok _,hv,k v H d G (.refl H) rd g q⟩
   .rw[hn]at hv;cases e2:aQ aa (.inr ks)with
    |some d =>
     let⟨v,e3,rd⟩:=hw.1 d e2;rw[e3]at hv;exact(show False from hv).elim
    |none =>
     rw[e2]at q;have tt:Ts H (upd H a (.dT (putK ys ks vz))):=.turn e (λ_ z=>nomatch z) (λ_ _ z=>nomatch z);let⟨q0,es,ep,hq,g2,g3,g4,_,g5⟩:=Gs;have A7:∀v:V,(putK ys ks v).length<=dh:=λv=>by have:=lE ys ks v;rw[←r.length]at this;omega
     refine⟨_,_,iJ (t':=_) (ob:=.dT (putK ys ks vz)) I (by rw[e];exact True.intro) hs ⟨q0,hq⟩ ⟨A7 _,hd,_,(rel.put ks eb KN).keeps λc zs ec=>?_,q0,es,ep,hq,g2,g3,g4,g5⟩,KN,k _ _ z _ tt (rz.mono tt) (g.turn (u:=.bD ak _) tt (.inr ⟨rfl,_,aN,(EZ jV rz r).imp λ_ _ q=>⟨q.1,q.2.mono tt⟩⟩)) q⟩;rw[aZ (Ef ec e (λz=>nomatch z))];exact ec
abbrev Ap:iL:=λx xs G R=>match xs with
 |[y]=>uU x y G λa t aa k=>(match aQ aa k with
  |some d=>R d (aG G a (.bD t (bH aa k)))
  |none=>False)
 |_=>False
private theorem aBX(hu:X.A.units+64<qg):oq X "dict.pop" Ap:=by
 intro ψ s σ H x xs vx vs u us G R Q I rx rs ru rv g q k
 match xs,rs,q with
 |[],_,q=>exact q.elim
 |_::_::_,_,q=>exact q.elim
 |[y],.cons ry .nil,q =>
  cases rv with
  |cons C6 rv =>
  cases rv;let⟨a,aa,kk,rfl,rfl,e1,_,q,dd⟩:=uV rx ry g q;obtain rfl:u=au.ref a:=ru;split at q
  .rename_i d e2;rcases dd with⟨k',ys,rfl,e,r,rfl⟩|⟨ks,ys,b,rfl,e,r,rfl,eb⟩
   .obtain⟨v,e3,rd⟩:=(val_two jU (k:=k') r).1 d e2;have tt:Ts H (upd H a (.dK (uL ys k'))):=.turn e (λ_ z=>nomatch z) (λ_ _ z=>nomatch z);exact aFG I e C6 e3 (.inl rfl) λw' s' I' eW=>⟨v,_,I',eW,k v _ d _ tt (rd.mono tt) (g.turn (u:=.bD ao _) tt (.inl ⟨rfl,_,aN,(zK jU r).imp λ_ _ q=>⟨q.1,q.2.mono tt⟩⟩)) q⟩
   .obtain⟨v,e3,rd⟩:=(val_two jV (k:=ks) r).1 d e2;cases C6;let⟨z1,hd,ws,rel,dc⟩:=rq I.af e;have hv:=rel.val ks;rw[e3]at hv;have lw:ws.length<=dh:=by rw[←Paired.length rel];exact z1
    cases hp:atKey ws ks with
    |none=>rw[hp]at hv;exact(show False from hv).elim
    |some p =>
     rw[hp]at hv;have tt:Ts H (upd H a (.dT (uL ys ks))):=.turn e (λ_ z=>nomatch z) (λ_ _ z=>nomatch z);refine Na (Ck ⋯) (yN I.af eb) dc lw hp λh' Gs hs=>?_;let⟨q0,es,ep,hq,g2,g3,g4,_,g5⟩:=Gs;refine⟨v,_,iJ (t':=_) (ob:=.dT (uL ys ks)) I (by rw[e];exact True.intro) hs ⟨q0,hq⟩ ⟨wg (PX ys ks) z1,hd,_,(rel.drop ks).keeps λc zs ec=>?_,q0,es,ep,hq,g2,g3,g4,g5⟩,hv,k v _ d _ tt (rd.mono tt) (g.turn (u:=.bD ak _) tt (.inr ⟨rfl,_,aN,(zK jV r).imp λ_ _ q=>⟨q.1,q.2.mono tt⟩⟩)) q⟩;rw[aZ (Ef ec e (λz=>nomatch z))];exact ec
  .exact q.elim
abbrev Ao:List D->Gp->dU->Prop:=λxs G R=>match xs with
 |[.ref a]=>(match G a with
  |some (.bD ao aa)=>R (.int aa.length) G
  |_=>False)
 |_=>False
private theorem aBY:cB X (.builtin "len") Ao:=by
 intro ψ s σ H xs vs us G R Q I rx rv g q k;unfold Ao at q;split at q
 .rename_i a;split at q
  .rename_i aa e1;cases rx with
   |cons r1 rr =>
   cases rr;cases r1;cases rv with
   |cons rv rr =>
   cases rr;cases rv;rcases g a _ e1 with⟨_,ys,e,r⟩|⟨z,_⟩
   .refine aFH I (.inl e) λt s' I'=>⟨.int ys.length,H,I',⟨t,rfl⟩,k _ H (.int aa.length) G (.refl H) (by rw[r.length];exact .int _) g q⟩
   .cases z
  .exact q.elim
 .exact q.elim
end
end
variable{B:Int}{ps:List (Int×Int)}
section
open PySem.W
variable{i:Nat}
section
variable{cmp:Nat->Nat->(Bool->cu->Prop)->cu->Prop}{I:cu->Prop}{kf:Nat->Int}
abbrev ky(kf:Nat->Int)(p:Array Nat)(i:Nat):Int:=kf (p.getD i 0)
abbrev Up(kf:Nat->Int)(p:Array Nat)(k:Nat):Prop:=∀i j,i<=j->j<k->ky kf p i<=ky kf p j
abbrev Down(kf:Nat->Int)(p:Array Nat)(k:Nat):Prop:=∀i j,i<j->j<k->ky kf p j<ky kf p i
abbrev iP(cmp:Nat->Nat->(Bool->cu->Prop)->cu->Prop)(I:cu->Prop)(kf:Nat->Int)(n:Nat):Prop:=∀i j C s,i<n->j<n->I s->(∀s',I s'->C (decide (kf i<kf j)) s')->cmp i j C s
structure Pm(n:Nat)(p:Array Nat):Prop where
 size:p.size=n
 perm:p.toList.Perm (jw n)
def Pm.lt{p:Array Nat}(h:Pm n p)(hi:i<n):p.getD i 0<n:=by
 have hs:i<p.size:=by rw[h.size];exact hi
 have e:p.getD i 0=p[i]:=by simp[k7,hs]
 rw[e];exact ou.mp (h.perm.mem_iff.mp (by simp))
def Pm.inj{p:Array Nat}(h:Pm n p)(hi:i<n)(hj:j<n)(e:p.getD i 0=p.getD j 0):i=j:=by
 have hs:i<p.size:=by rw[h.size];exact hi
 have ht:j<p.size:=by rw[h.size];exact hj
 have nd:p.toList.Nodup:=(h.perm.nodup_iff).mpr E6;have e1:p.getD i 0=p[i]:=by simp[k7,hs]
 have e2:p.getD j 0=p[j]:=by simp[k7,ht]
 rw[e1,e2]at e;have key:=wj.mp nd;have d3:i<p.toList.length:=by simpa using hs
 have Lm:j<p.toList.length:=by simpa using ht
 rcases zq i j with c|c|c
 .exact absurd (by simpa using e) (key i j d3 Lm c)
 .exact c
 .exact absurd (by simpa using e.symm) (key j i Lm d3 c)
def ET{p q:Array Nat}(h:p[i]?=q[j]?):p.getD i 0=q.getD j 0:=by
 rw[Array.getD_eq_getD_getElem?,Array.getD_eq_getD_getElem?,h]
def M9{p:Array Nat}{k:Nat}(hn:n<=p.size)(hk:k<n):ky kf (kas_rev p 0 n) k=ky kf p (n - 1 - k):=by
 unfold ky kas_rev;have e:=getElem?_mirror_all (xs:=p) (i:=0) (j:=n) hn k;rw[if_pos ⟨ud _,hk⟩,B3]at e;rw[ET e]
def Pm.rev{m:Nat}(h:Pm n p):Pm n (kas_rev p 0 m):=⟨by rw[kas_rev_size];exact h.size,((mirror_perm p 0 m _).toList).trans h.perm⟩
def Down.up{p:Array Nat}(hn:n<=p.size)(h:Down kf p n):Up kf (kas_rev p 0 n) n:=λi j mh hj=>by
 rw[M9 hn ⋯,M9 hn hj];by_cases c:i=j
 .subst c;exact Aa _
 .exact Int.le_of_lt (h (n - 1 - j) (n - 1 - i) ⋯ ⋯)
def HE{n:Nat}(hc:iP cmp I kf n)(P:Pm n p){Q:Nat->cu->Prop}:∀(f a:Nat)(s:cu),1<=a->a+f<=n->Up kf p a->I s->(∀m s',a<=m->m<=a+f->Up kf p m->(m<a+f->ky kf p m<ky kf p (m - 1))->I s'->Q m s')->(kas_asc p f a).kasWp cmp Q s
 |0,a,s,h1,h2,u,i,h=>h a s (dz _) (dz _) u (λz=>absurd z (wz _)) i
 |f+1,a,s,h1,h2,u,i,h=>by
  show cmp (p.getD a 0) (p.getD (a - 1) 0) _ s;refine hc _ _ _ s (P.lt ⋯) (P.lt ⋯) i λs' i'=>?_;by_cases c:kf (p.getD a 0)<kf (p.getD (a - 1) 0)
  .rw[decide_eq_true c];dsimp only;rw[if_pos rfl];exact h a s' (dz _) ⋯ u (λ_=>c) i'
  .rw[decide_eq_false c];dsimp only;rw[if_neg (by decide)];refine HE hc P f (a+1) s' ⋯ ⋯ (λx y tT hy=>?_) i' λm s2 l1 l2 u2 l3 i2=>h m s2 ⋯ ⋯ u2 (λz=>l3 ⋯) i2;by_cases cy:y<a
   .exact u x y tT cy
   .have ey:y=a:=by omega
    subst ey;by_cases cx:x=y
    .subst cx;exact Aa _
    .have:=u x (y - 1) ⋯ ⋯;have c':ky kf p (y - 1)<=ky kf p y:=by unfold ky;omega
     omega
def Ov{n:Nat}(hc:iP cmp I kf n)(hd:∀i j,i<n->j<n->kf i=kf j->i=j)(P:Pm n p){Q:Array Nat×Nat×Nat->cu->Prop}:∀(f a:Nat)(s:cu),2<=a->a+f<=n->Down kf p a->I s->(∀m s',a<=m->m<=a+f->Down kf p m->I s'->Q (p,m,0) s')->(kas_desc f p a 0).kasWp cmp Q s
 |0,a,s,h1,h2,u,i,h=>h a s (dz _) (dz _) u i
 |f+1,a,s,h1,h2,u,i,h=>by
  show cmp (p.getD a 0) (p.getD (a - 1) 0) _ s;refine hc _ _ _ s (P.lt ⋯) (P.lt ⋯) i λs' i'=>?_;by_cases c:kf (p.getD a 0)<kf (p.getD (a - 1) 0)
  .rw[decide_eq_true c];dsimp only;rw[if_pos rfl,if_neg ⋯];refine Ov hc hd P f (a+1) s' ⋯ ⋯ (λx y tT hy=>?_) i' λm s2 l1 l2 u2 i2=>h m s2 ⋯ ⋯ u2 i2;by_cases cy:y<a
   .exact u x y tT cy
   .have ey:y=a:=by omega
    subst ey;have c':ky kf p y<ky kf p (y - 1):=c;by_cases cx:x=y - 1
    .subst cx;exact c'
    .have:=u x (y - 1) ⋯ ⋯;omega
  .rw[decide_eq_false c];dsimp only;rw[if_neg (by decide)];show cmp (p.getD (a - 1) 0) (p.getD a 0) _ s';refine hc _ _ _ s' (P.lt ⋯) (P.lt ⋯) i' λs2 i2=>?_
   have ne:kf (p.getD a 0)≠kf (p.getD (a - 1) 0):=λz=>by
    have:=P.inj (i:=a) (j:=a - 1) ⋯ ⋯ (hd _ _ (P.lt ⋯) (P.lt ⋯) z);omega
   rw[decide_eq_true (show kf (p.getD (a - 1) 0)<kf (p.getD a 0) by omega)];dsimp only;rw[if_pos rfl];exact h a s2 (dz _) ⋯ u i2
def XI(hc:iP cmp I kf n)(hd:∀i j,i<n->j<n->kf i=kf j->i=j)(h2:2<=n)(P:Pm n p){Q:Nat×Array Nat->cu->Prop}(i:I s)(h:∀m q s',1<=m->m<=n->Pm n q->Up kf q m->I s'->Q (m,q) s'):(kas_count n p).kasWp cmp Q s:=by
 unfold kas_count;rw[KasT.kasWp_bind];refine HE hc P (n - 1) 1 s (dz _) ⋯ (λx y tT hy=>by have:x=y:=⋯;subst this;exact Aa _) i λm s' l1 l2 u l3 i'=>?_;by_cases c:m=n
 .subst c;rw[if_pos (by simp)];exact h m p s' l1 ⋯ P u i'
 .rw[if_neg (by simpa using c)];by_cases c1:m>1
  .rw[if_pos c1];show cmp (p.getD 0 0) (p.getD (m - 1) 0) _ s';refine hc _ _ _ s' (P.lt ⋯) (P.lt ⋯) i' λs2 i2=>?_
   have ne:kf (p.getD 0 0)≠kf (p.getD (m - 1) 0):=λz=>by
    have:=P.inj (i:=0) (j:=m - 1) ⋯ ⋯ (hd _ _ (P.lt ⋯) (P.lt ⋯) z);omega
   have le:ky kf p 0<=ky kf p (m - 1):=u 0 (m - 1) ⋯ ⋯;unfold ky at le;rw[decide_eq_true (show kf (p.getD 0 0)<kf (p.getD (m - 1) 0) by omega)];dsimp only;rw[if_pos rfl];exact h m p s2 l1 ⋯ P u i2
  .rw[if_neg c1];have e1:m=1:=by omega
   subst e1;unfold kas_descPart;rw[KasT.kasWp_bind];refine Ov hc hd P (n - (1+1)) (1+1) s' ⋯ ⋯ (λx y tT hy=>?_) i' λm s2 k1 k2 dn i2=>?_
   .have ex:x=0:=by omega
    have ey:y=1:=by omega
    subst ex;subst ey;exact l3 ⋯
   .dsimp only;rw[if_neg ⋯];unfold kas_tail3;rw[KasT.kasWp_bind];refine HE hc (P.rev (m:=m)) (n - m) m s2 ⋯ ⋯ (dn.up (by rw[P.size];omega)) i2 λk s3 q1 q2 u3 _ i3=>h k _ s3 ⋯ ⋯ P.rev u3 i3
def Ju{n:Nat}(hc:iP cmp I kf n)(P:Pm n p){k:Nat}(hk:k<n)(u:Up kf p k){Q:Nat->cu->Prop}:∀(f l r:Nat)(s:cu),l<=r->r<=k->r - l<=f->(∀x,x<l->ky kf p x<=ky kf p k)->(∀x,r<=x->x<k->ky kf p k<ky kf p x)->I s ->
   (∀m s',m<=k->(∀x,x<m->ky kf p x<=ky kf p k)->(∀x,m<=x->x<k->ky kf p k<ky kf p x)->I s'->Q m s')->(kas_place p k f l r).kasWp cmp Q s
 |0,l,r,s,h1,h2,h3,a,b,i,h=>h l s ⋯ a (λx hx=>b x ⋯) i
 |f+1,l,r,s,h1,h2,h3,a,b,i,h=>by
  unfold kas_place;by_cases c0:l≥r
  .rw[if_pos c0];exact h l s ⋯ a (λx hx=>b x ⋯) i
  .rw[if_neg c0];show cmp (p.getD k 0) (p.getD ((l+r) / 2) 0) _ s;refine hc _ _ _ s (P.lt ⋯) (P.lt ⋯) i λs' i'=>?_;by_cases c:kf (p.getD k 0)<kf (p.getD ((l+r) / 2) 0)
   .rw[decide_eq_true c];dsimp only;rw[if_pos rfl];refine Ju hc P hk u f l ((l+r) / 2) s' ⋯ ⋯ ⋯ a (λx hx SW=>?_) i' h;have:=u ((l+r) / 2) x hx SW;have c':ky kf p k<ky kf p ((l+r) / 2):=c;omega
   .rw[decide_eq_false c];dsimp only;rw[if_neg (by decide)];refine Ju hc P hk u f ((l+r) / 2+1) r s' ⋯ ⋯ ⋯ (λx hx=>?_) b i' h;have:=u x ((l+r) / 2) ⋯ ⋯;have c':ky kf p ((l+r) / 2)<=ky kf p k:=by unfold ky;omega
    omega
def M8{n:Nat}(hc:iP cmp I kf n){Q:Array Nat->cu->Prop}:∀(f k:Nat)(p:Array Nat)(s:cu),Pm n p->1<=k->k+f=n->Up kf p k->I s->(∀q s',Pm n q->Up kf q n->I s'->Q q s')->(kas_bin f p k).kasWp cmp Q s
 |0,k,p,s,P,h1,h2,u,i,h=>h p s P (by rw[←h2];exact u) i
 |f+1,k,p,s,P,h1,h2,u,i,h=>by
  unfold kas_bin;rw[KasT.kasWp_bind];refine Ju hc P ⋯ u k 0 k s (ud _) (dz _) ⋯ (λx hx=>absurd hx (Ca _)) (λx hx hk=>absurd hx ⋯) i λm s' l1 a b i'=>?_;have hs:k<p.size:=by rw[P.size];omega
  refine M8 hc f (k+1) _ s' ⟨by rw[bubble_size];exact P.size,((bubble_perm p k _).toList).trans P.perm⟩ ⋯ ⋯ (λx y tT hy=>?_) i' h
  have e:∀z,ky kf (bubble p k (k - m)) z=if z=m then ky kf p k else if m<z/\z<=k then ky kf p (z - 1)else ky kf p z:=λz=>by
   have e:=getElem?_bubble hs (k - m) ⋯ z;rw[show k - (k - m)=m by omega]at e;by_cases c:z=m
   .rw[if_pos c]at e ⊢;exact congrArg kf (ET e)
   .rw[if_neg c]at e ⊢;by_cases c2:m<z/\z<=k
    .rw[if_pos c2]at e ⊢;exact congrArg kf (ET e)
    .rw[if_neg c2]at e ⊢;exact congrArg kf (ET e)
  have e1:ky kf (bubble p k (k - m)) m=ky kf p k:=by rw[e,if_pos rfl]
  have e2:∀z,m<z->z<=k->ky kf (bubble p k (k - m)) z=ky kf p (z - 1):=λz h1 h2=>by rw[e,if_neg ⋯,if_pos ⟨h1,h2⟩]
  have e3:∀z,z<m->ky kf (bubble p k (k - m)) z=ky kf p z:=λz h1=>by rw[e,if_neg ⋯,if_neg ⋯]
  rcases zq x m with c|c|c
  .rw[e3 x c];rcases zq y m with d|d|d
   .rw[e3 y d];exact u x y tT ⋯
   .rw[d,e1];exact a x c
   .rw[e2 y d ⋯];exact u x (y - 1) ⋯ ⋯
  .rw[c,e1];by_cases d:y=m
   .rw[d,e1];exact Aa _
   .rw[e2 y ⋯ ⋯];exact Int.le_of_lt (b (y - 1) ⋯ ⋯)
  .rw[e2 x c ⋯,e2 y ⋯ ⋯];exact u (x - 1) (y - 1) ⋯ ⋯
def VN(hc:iP cmp I kf n)(hd:∀i j,i<n->j<n->kf i=kf j->i=j)(h2:2<=n){Q:Array Nat->cu->Prop}(i:I s)(h:∀q s',Pm n q->Up kf q n->I s'->Q q s'):(kas_sort n).kasWp cmp Q s:=by
 unfold kas_sort;rw[KasT.kasWp_bind];refine XI hc hd h2 ⟨by simp,by simp⟩ i λm q s' l1 l2 P u i'=>?_;dsimp only;by_cases c:m<n
 .rw[if_pos c];have e:max m 1=m:=by omega
  rw[e];exact M8 hc (n - m) m q s' P l1 ⋯ u i' h
 .rw[if_neg c];have:m=n:=by omega
  subst this;exact h q s' P u i'
end
variable{vs:List au}
section
variable{prog:kj}{w:jj}{A:mq}{E:au->cu->Prop}{s:cu}
abbrev BE(prog:kj)(w:jj)(A:mq)(s:cu)(kf:Nat->Int)(vs:List au)(h':ju):Prop :=
 ∃κ,(∀Q:SortKind->cu->Prop,Q κ {s with heap:=h' }->dj (fj prog w) A (keyKind' vs.toArray) Q (λ_ _=>False) {s with heap:=h' })/\∀i j (C:Bool->cu->Prop),i<vs.length->j<vs.length->C (decide (kf i<kf j)) {s with heap:=h' }->kas_ask prog w A κ vs i j C {s with heap:=h' }
def YJ{l:List au}(h:l.length<2):(l.toArray.zip l.toArray).map (·.2)=((jw l.length).toArray.toList.map λi=>l.getD i au.none).toArray:=by
 cases l with
 |nil=>simp
 |cons v r =>
  cases r with
  |nil=>simp
  |cons _ _=>simp at h;omega
def Jt{kf:Nat->Int}{P:PySem.Fin->cu->Prop}(ho:s.heap.get? a=aj (qp "list" vs.toArray n))(dy:vs.length<64)(hd:∀i j,i<vs.length->j<vs.length->kf i=kf j->i=j)
  (hk:2<=vs.length->∀h':ju,(∀b o,b≠a->s.heap.get? b=aj o->h'.get? b=aj o)->BE prog w A s kf vs h')
  (h:∀q,Pm vs.length q->Up kf q vs.length->P (.done (.ret .none)) {s with heap:=sortedHeap s.heap a vs (q.toList.map λi=>vs.getD i au.none).toArray}):dj (fj prog w) A (Builtin.«list.sort» ⟨[.ref a],[]⟩) P E s:=by
 have big:1000<dh:=by decide
 have la:a<s.heap.objs.size:=ig ho;rw[list_sort_plain];refine aq (listItems_at ho rfl (aq (listUpdate_at ho rfl ?_ (by rw[je];omega) (ud _))));obtain⟨e1,t7⟩:∃e1,(s.heap.update a (Obj.mapSeq λ_=>(#[]:Array au))).get? a=aj (qp "list" #[] e1):=⟨_,B8 ho λ_=>#[]⟩;refine aq (seqEpoch_at t7 rfl (aq (wpAny_newTuple ?_ (by show vs.length<=_;omega))));refine aq (wpAny_newList ?_ (ud _));refine su ?_;have s0:=jr.update s.heap a (Obj.mapSeq λ_=>(#[]:Array au));have kp:∀b o,b≠a->s.heap.get? b=aj o->(((s.heap.update a (Obj.mapSeq λ_=>(#[]:Array au))).push (qp "tuple" vs.toArray 0)).push (qp "list" #[] 0)).get? b=aj o:=λb o hb e=>cj _ (cj _ ((s0.2 b hb).trans e));have Du:(((s.heap.update a (Obj.mapSeq λ_=>(#[]:Array au))).push (qp "tuple" vs.toArray 0)).push (qp "list" #[] 0)).get? a=aj (qp "list" #[] e1):=cj _ (cj _ t7);show dj (fj prog w) A _ P E {s with heap:=((s.heap.update a (Obj.mapSeq λ_=>(#[]:Array au))).push (qp "tuple" vs.toArray 0)).push (qp "list" #[] 0)};dsimp only;by_cases c2:vs.toArray.size<2
 .rw[if_pos c2,if_pos c2];refine aq (cg ?_);rw[StateT.run_pure];refine aq (cg ?_);dsimp only;have c3:vs.length<2:=by simpa using c2
  have eo:(arrOf (SortSt.mk' general' (vs.toArray.zip vs.toArray) #[] 7 bh)).map (·.2)=((jw vs.length).toArray.toList.map λi=>vs.getD i au.none).toArray:=by
   show(vs.toArray.zip vs.toArray).map (·.2)=_;exact YJ c3
  refine aq (seqEpoch_at Du rfl ?_);rw[eo];refine aq (listUpdate_at Du rfl ?_ (ud _) (by simp;omega));simp only[bne_self_eq_false,jf,if_false];exact cg (h (jw vs.length).toArray ⟨by rw[je,List.length_range],.refl _⟩ λi j mh hj=>by have:i=j:=⋯;subst this;exact Aa _)
 .rw[if_neg c2,if_neg c2];have l2:2<=vs.length:=by rw[je]at c2;omega
  let⟨κ,k1,k2⟩:=hk l2 _ kp;refine aq (ug (k1 (λKu s'=>Ku=κ/\s'={s with heap:=((s.heap.update a (Obj.mapSeq λ_=>(#[]:Array au))).push (qp "tuple" vs.toArray 0)).push (qp "list" #[] 0)}) ⟨rfl,rfl⟩) (λKu s' ⟨q1,q2⟩=>?_) λ_ _ z=>z.elim);subst q1;subst q2
  refine aq (ug (kat_run (Q:=λbu s'=>s'={s with heap:=((s.heap.update a (Obj.mapSeq λ_=>(#[]:Array au))).push (qp "tuple" vs.toArray 0)).push (qp "list" #[] 0)}/\failedOf bu=bh/\∃q,Pm vs.length q/\Up kf q vs.length/\arrOf bu=q.map (kas_item (vs.toArray.zip vs.toArray)))
   (G:=λq s'=>s'={s with heap:=((s.heap.update a (Obj.mapSeq λ_=>(#[]:Array au))).push (qp "tuple" vs.toArray 0)).push (qp "list" #[] 0)}/\Pm vs.length q/\Up kf q vs.length) rfl l2 dy (λp bu s' a1 a2 a3 a4=>⟨a4.1,a3,p,a4.2.1,a4.2.2,a2⟩)
   (VN (I:=λs'=>s'={s with heap:=((s.heap.update a (Obj.mapSeq λ_=>(#[]:Array au))).push (qp "tuple" vs.toArray 0)).push (qp "list" #[] 0)}) (λi j C s' hi hj es hC=>by subst es;exact k2 i j C hi hj (hC _ rfl)) hd l2 rfl λq s' P u es=>⟨es,P,u⟩)) ?_ λ_ _ e=>e)
  rintro⟨⟨⟩,bu⟩ s' ⟨es,hf,q,P,u,Tu⟩;subst es;dsimp only;refine aq (seqEpoch_at Du rfl ?_);rw[kat_snds rfl Tu];refine aq (listUpdate_at Du rfl ?_ (ud _) (by rw[je,dw,jg,P.size];omega));rw[hf];simp only[bne_self_eq_false,jf,if_false];exact cg (h q P u)
def Pr{kf:Nat->Int}(hl:s.heap.IsList l vs.toArray)(dy:vs.length<64)(hd:∀i j,i<vs.length->j<vs.length->kf i=kf j->i=j)
  (hk:2<=vs.length->∀h':ju,(∀b o,s.heap.get? b=aj o->h'.get? b=aj o)->BE prog w A.in1.in1 s kf vs h')
  (h:∀q,Pm vs.length q->Up kf q vs.length->Q (.ref (s.heap.objs.size+1)) {s with heap:=sortedAll s.heap vs (q.toList.map λi=>vs.getD i au.none).toArray}):dj (fj prog w) A (call (.builtin "sorted") [.ref l]) Q E s:=by
 have big:1000<dh:=by decide
 refine Calls.call_function_entry kind_sorted plain_sorted entry_sorted (args_sorted1 _) ?_;unfold Builtin.«sorted»;refine aq (m:=checkCount "sorted" 1 1 _) (cg (aq (collect_list hl (aq (wpAny_newList ?_ ⋯)) ⋯)));have sz:((s.heap.push (qp "list" #[] 0)).update s.heap.objs.size (Obj.mapSeq (·++vs.toArray))).objs.size=s.heap.objs.size+1:=by rw[Heap.size_update,size_push']
 have oL:(((s.heap.push (qp "list" #[] 0)).update s.heap.objs.size (Obj.mapSeq (·++vs.toArray))).push (qp "list" vs.toArray 0)).get? (s.heap.objs.size+1)=aj (qp "list" vs.toArray 0):=by rw[←sz];exact iz _ rfl
 have kp:∀b o,s.heap.get? b=aj o->(((s.heap.push (qp "list" #[] 0)).update s.heap.objs.size (Obj.mapSeq (·++vs.toArray))).push (qp "list" vs.toArray 0)).get? b=aj o:=λb o e=>cj _ (((jr.update (s.heap.push (qp "list" #[] 0)) s.heap.objs.size (Obj.mapSeq (·++vs.toArray))).2 b (jq (ig e))).trans (cj _ e));show dj _ _ _ _ _ {s with heap:=((s.heap.push (qp "list" #[] 0)).update s.heap.objs.size (Obj.mapSeq (·++vs.toArray))).push (qp "list" vs.toArray 0)};rw[sz];refine aq (su (ur slot_list_sort ⟨_,oL,rfl⟩ entry_list_sort (Jt (kf:=kf) oL dy hd (λl2 h' k'=>?_) λq P u=>⟨_,rfl,cg ⟨_,rfl,h q P u⟩⟩) (args_list_sort _)));exact hk l2 h' λb o e=>k' b o (jq (Aq (ig e))) (kp b o e)
end
abbrev qI(a b:Int×Int):Prop:=a.1<b.1∨(a.1=b.1/\a.2<b.2)
instance (a b:Int×Int):Decidable (qI a b):=by unfold qI;infer_instance
abbrev c7:List (Int×Int)->Prop:=pb qI
abbrev enc(M:Int)(a:Int×Int):Int:=a.1*M+a.2
variable{M:Int}
def yQ(hM:2*B<M){a b:Int×Int}(ha:-B<=a.2/\a.2<=B)(hb:-B<=b.2/\b.2<=B):enc M a<enc M b↔qI a b:=by
 unfold enc qI;have m0:0<=M:=by omega
 rcases Int.lt_trichotomy a.1 b.1 with c|c|c
 .have:a.1*M<=(b.1 - 1)*M:=Int.mul_le_mul_of_nonneg_right ⋯ m0;rw[Int.sub_mul,Int.one_mul]at this;exact⟨λ_=>.inl c,λ_=>by omega⟩
 .rw[c];exact⟨λ_=>.inr ⟨rfl,⋯⟩,λh=>by rcases h with h|h<;>omega⟩
 .have:b.1*M<=(a.1 - 1)*M:=Int.mul_le_mul_of_nonneg_right ⋯ m0;rw[Int.sub_mul,Int.one_mul]at this;exact⟨λ_=>by omega,λh=>by rcases h with h|h<;>omega⟩
def uX:∀ps:List (Int×Int),∃B:Int,0<=B/\∀p∈ps,-B<=p.2/\p.2<=B
 |[]=>⟨0,Aa _,λp h=>by cases h⟩
 |p::r=>by
  let⟨B,b0,h⟩:=uX r;refine⟨B+p.2.natAbs,⋯,λq hq=>?_⟩;rcases lg.mp hq with rfl|hq
  .omega
  .have:=h q hq;omega
section
variable{prog:kj}{w:jj}{A:mq}{s:cu}
abbrev wI(h:ju)(ps:List (Int×Int))(vs:List au):Prop:=vs.length=ps.length/\∀(i:Nat)(p:Int×Int),ps[i]?=aj p->∃(a:bw)(o:Obj)(n:Nat)(x y:Tok),vs[i]?=aj (au.ref a)/\h.get? a=aj o/\o.cls=au.type "tuple"/\o.data=.seq #[.int p.1 x,.int p.2 y] n
def wI.lT:∀{ps:List (Int×Int)}{vs:List au},wI h ps vs->∃fs:List au,KatTups h vs fs/\fs.length=ps.length/\∀v∈fs,∃i t,v=.int i t
 |[],[],_=>⟨[],trivial,rfl,λv h=>by cases h⟩
 |[],_::_,H=>absurd H.1 (by simp)
 |_::_,[],H=>absurd H.1 (by simp)
 |p::ps,v::vs,H=>by
  let⟨a,o,n,x,y,e1,e2,e3,e4⟩:=H.2 0 p rfl;let⟨fs,k1,k2,k3⟩:=wI.lT (h:=h) (ps:=ps) (vs:=vs) ⟨by simpa using H.1,λi q hq=>by simpa using H.2 (i+1) q (by simpa using hq)⟩;have oj:v=.ref a:=by simpa using e1
  subst oj;refine⟨.int p.1 x::fs,KatTups.cons e2 e3 e4 rfl k1,by simp[k2],λu hu=>?_⟩;rcases lg.mp hu with rfl|hu
  .exact⟨_,_,rfl⟩
  .exact k3 u hu
def wJ(hM:2*B<M)(hB:∀p∈ps,-B<=p.2/\p.2<=B)(l2:2<=vs.length)(hp:wI h' ps vs):BE prog w A s (λi=>enc M (ps.getD i (0,0))) vs h':=by
 let⟨fs,k1,k2,k3⟩:=hp.lT;have len:=hp.1;refine⟨tuples' (au.type "int"!=au.type "tuple"),λQ hQ=>kat_kind (s:={s with heap:=h' }) k1 ⋯ (λv hv=>?_) (by simp) hQ,λi j C hi hj hC=>?_⟩
 .obtain⟨i,t,rfl⟩:=k3 v hv;exact .now
 .obtain⟨p,ep⟩:∃p,ps[i]?=aj p:=⟨_,gV ⋯⟩;obtain⟨q,eq⟩:∃q,ps[j]?=aj q:=⟨_,gV ⋯⟩;let⟨a,o,n,x,y,a1,a2,a3,a4⟩:=hp.2 i p ep;let⟨b,o',n',x',y',b1,b2,b3,b4⟩:=hp.2 j q eq;have ga:vs.getD i au.none=.ref a:=by simp[vg,a1]
  have gb:vs.getD j au.none=.ref b:=by simp[vg,b1]
  have gp:ps.getD i (0,0)=p:=by simp[vg,ep]
  have gq:ps.getD j (0,0)=q:=by simp[vg,eq]
  have key:=yQ hM (hB p (qd ep)) (hB q (qd eq))
  have hC:C (decide (enc M p<enc M q)) {s with heap:=h' }:=by
   have e:decide (enc M (ps.getD i (0,0))<enc M (ps.getD j (0,0)))=decide (enc M p<enc M q):=by rw[decide_eq_decide,gp,gq]
   rw[←e];exact hC
  unfold kas_ask;rw[ga,gb];refine kat_lt (s:={s with heap:=h' }) a2 a4 b2 b4 ?_;refine kat_cons (wpAny_eqBool_int ?_);refine kat_go (λe=>kat_yes (kat_cons (wpAny_eqBool_int (kat_go (λe2=>kat_yes (kat_nil ?_)) λe2=>kat_no (kat_one _ _ ?_))))) λe=>kat_no (oneLt_int ?_)
  .have c1:p.1=q.1:=by simpa using e
   have c2:p.2=q.2:=by simpa using e2
   rw[decide_eq_false (show ¬ enc M p<enc M q from λz=>by rcases key.mp z with z|z<;>omega)]at hC;exact hC
  .have c1:p.1=q.1:=by simpa using e
   have c2:p.2≠q.2:=by simpa using e2
   refine CmpOf.ints_lt (prog:=prog) (w:=w) (A:=A) (P:=λi v=>∃t,v=.int (if i=0 then p.2 else q.2) t) (λi=>if i=0 then p.2 else q.2) (λi v h=>h) 0 1 _ _ _ _ _ ⟨y,rfl⟩ ⟨y',rfl⟩ ?_
   have:decide (enc M p<enc M q)=decide ((if(0:Nat)=0 then p.2 else q.2)<(if(1:Nat)=0 then p.2 else q.2)):=by
    rw[decide_eq_decide,key,if_pos rfl,if_neg (by decide)];unfold qI;omega
   rw[this]at hC;exact(show PySem.W.BoolBack C (.bool _) _ from hC)
  .have c1:p.1≠q.1:=by simpa using e
   have:decide (enc M p<enc M q)=decide (p.1<q.1):=by
    rw[decide_eq_decide,key];unfold qI;omega
   rw[this]at hC;exact hC
end
end
variable{out:Array au}
section
open PySem.W
def getD_at{α:Type}{l:List α}{i:Nat}{d:α}(h:i<l.length):l.getD i d=l[i]:=by simp[vg,h]
@[simp]def bW(q:Int×Int):D:=.tup [.int q.1,.int q.2]
variable{h:ju}
def Ou{b:bw}(e:h.get? b=aj u):(sortedAll h vs out).get? b=aj u:=by
 have lb:b<h.objs.size:=ig e;have n0:b≠h.objs.size:=jq lb;have n1:b≠h.objs.size+1:=jq (Aq lb);unfold sortedAll sortedHeap;rw[(jr.update _ _ _).2 b n1];refine cj _ (cj _ ?_);rw[(jr.update _ _ _).2 b n1];refine cj _ ?_;rw[(jr.update _ _ _).2 b n0];exact cj _ e
def M7:∃c,(sortedAll h vs out).get? (h.objs.size+1)=aj (qp "list" out c):=by
 have sz:((h.push (qp "list" #[] 0)).update h.objs.size (Obj.mapSeq (·++vs.toArray))).objs.size=h.objs.size+1:=by rw[Heap.size_update,size_push']
 have oL:(((h.push (qp "list" #[] 0)).update h.objs.size (Obj.mapSeq (·++vs.toArray))).push (qp "list" vs.toArray 0)).get? (h.objs.size+1)=aj (qp "list" vs.toArray 0):=by rw[←sz];exact iz _ rfl
 unfold sortedAll sortedHeap;obtain⟨c1,e1⟩:∃c,((((h.push (qp "list" #[] 0)).update h.objs.size (Obj.mapSeq (·++vs.toArray))).push (qp "list" vs.toArray 0)).update (h.objs.size+1) (Obj.mapSeq λ_=>#[])).get? (h.objs.size+1)=aj (qp "list" #[] c):=⟨_,B8 oL λ_=>#[]⟩;exact⟨_,B8 (cj _ (cj _ e1)) λ_=>out⟩
variable{M:Int}{q:Array Nat}
section
variable{X:Cx}
def pairs_at(I:Inv X ψ σ H s)(r:cN X.K H (ps.map bW) xs)(rv:Vals xs us):wI s.heap ps us:=by
 refine⟨by rw[←rv.length,←r.length,dw],λi p hp=>?_⟩;let⟨v,e1,rd⟩:=r.get (i:=i) (d:=bW p) (by rw[kh,hp];rfl);let⟨u,e2,ru⟩:=rv.get e1;cases rd with
 |@tup a zs _ hq rz _ =>
  obtain rfl:u=au.ref a:=ru;let⟨its,vi,⟨o,h1,h2,n,h3⟩,_⟩:=I.tuple hq;cases rz with
  |cons ra rb =>
  cases rb with
  |cons rb rc =>
  cases rc;cases ra;cases rb;cases vi with
  |cons va vb =>
  cases vb with
  |cons vb vc =>
  cases vc;let⟨x,rfl⟩:=va;let⟨y,rfl⟩:=vb;exact⟨a,o,n,x,y,e2,h1,h2,h3⟩
def QA(hM:2*B<M)(hB:∀p∈ps,-B<=p.2/\p.2<=B)(nd:ps.Nodup)(P:Pm ps.length q)(u:Up (λi=>enc M (ps.getD i (0,0))) q ps.length):(q.toList.map λi=>ps.getD i (0,0)).Perm ps/\c7 (q.toList.map λi=>ps.getD i (0,0)):=by
 have AZ:(jw ps.length).map (λi=>ps.getD i (0,0))=ps:=by
  apply List.ext_getElem (by simp);intro i h1 h2;simp[h2]
 refine⟨by have:=P.perm.map λi=>ps.getD i (0,0);rw[AZ]at this;exact this,?_⟩;unfold c7;rw[uc,wj];intro i j hi hj mh;have li:i<q.size:=by simpa using hi
 have lj:j<q.size:=by simpa using hj
 have gi:q.toList[i]=q.getD i 0:=by simp[k7,li]
 have gj:q.toList[j]=q.getD j 0:=by simp[k7,lj]
 rw[gi,gj];have bi:=P.lt (i:=i) (by rw[←P.size];exact li);have bj:=P.lt (i:=j) (by rw[←P.size];exact lj);have le:enc M (ps.getD (q.getD i 0) (0,0))<=enc M (ps.getD (q.getD j 0) (0,0)):=u i j (zy mh) (by rw[←P.size];exact lj);have mi:ps.getD (q.getD i 0) (0,0)∈ps:=by rw[getD_at bi];exact sk _
 have mj:ps.getD (q.getD j 0) (0,0)∈ps:=by rw[getD_at bj];exact sk _
 have k1:=yQ hM (hB _ mi) (hB _ mj);have k2:=yQ hM (hB _ mj) (hB _ mi);refine k1.mp ?_;rcases Int.lt_or_eq_of_le le with z|z
 .exact z
 .exfalso
  have e:ps.getD (q.getD i 0) (0,0)=ps.getD (q.getD j 0) (0,0):=by
   have n1:¬ qI (ps.getD (q.getD i 0) (0,0)) (ps.getD (q.getD j 0) (0,0)):=λw=>absurd (k1.mpr w) ⋯;have n2:¬ qI (ps.getD (q.getD j 0) (0,0)) (ps.getD (q.getD i 0) (0,0)):=λw=>absurd (k2.mpr w) ⋯;unfold qI at n1 n2;exact Prod.ext ⋯ ⋯
  have e2:ps[q.getD i 0]=ps[q.getD j 0]:=by rw[getD_at bi,getD_at bj]at e;exact e
  have key:=wj.mp nd;rcases zq (q.getD i 0) (q.getD j 0)with w|w|w
  .exact key _ _ bi bj w e2
  .have:=P.inj (by rw[←P.size];exact li) (by rw[←P.size];exact lj) w;omega
  .exact key _ _ bj bi w e2.symm
def Js{K:Fg}{ps:List (Int×Int)}{xs:List V}(r:cN K H (ps.map bW) xs):∀{l:List Nat},(∀i∈l,i<ps.length)->cN K H ((l.map λi=>ps.getD i (0,0)).map bW) (l.map λi=>xs.getD i .ag)
 |[],_=>.nil
 |i::l,h=>by
  let⟨v,e1,rd⟩:=r.get (i:=i) (d:=bW (ps.getD i (0,0))) (by have:=h i (by simp);simp[vg,this]);have:xs.getD i .ag=v:=by simp[vg,e1]
  refine .cons ?_ (Js r λj hj=>h j (by simp[hj]));show RD K H (bW (ps.getD i (0,0))) (xs.getD i .ag);rw[this];exact rd
def qZ{xs:List V}{us:List au}(r:Vals xs us):∀{l:List Nat},(∀i∈l,i<xs.length)->Vals (l.map λi=>xs.getD i .ag) (l.map λi=>us.getD i au.none)
 |[],_=>.nil
 |i::l,h=>by
  have hi:=h i (by simp);let⟨u,e1,ru⟩:=r.get (gV hi);have e2:xs.getD i .ag=xs[i]:=by simp[vg,hi]
  have e3:us.getD i au.none=u:=by simp[vg,e1]
  refine .cons ?_ (qZ r λj hj=>h j (by simp[hj]));show RelV (xs.getD i .ag) (us.getD i au.none);rw[e2,e3];exact ru
abbrev Hb(ds:List D)(G:Gp)(R:dU):Prop:=∃ps:List (Int×Int),ds=ps.map bW/\ps.Nodup/\ps.length<64/\∀qs:List (Int×Int),qs.Perm ps->c7 qs->∀r,G r=bh->R (.ref r) (aG G r (.lst (qs.map bW)))
abbrev Ip:List D->Gp->dU->Prop:=λxs G R=>match xs with
 |[.ref a]=>(match bB G a with
  |some ds=>Hb ds G R
  |none=>False)
 |_=>False
def VM{σ:St}{H:Hp}(I:Inv X ψ σ H s){G:Gp}{R:dU}{Q:VK}(g:HR X.K H G){xs:List V}{us:List au}(r:cN X.K H (ps.map bW) xs)(rv:Vals xs us)(nd:ps.Nodup)(dy:ps.length<64)(hM:2*B<M)(hB:∀p∈ps,-B<=p.2/\p.2<=B)
  (k:∀v H' d G',Ts H H'->RD X.K H' d v->HR X.K H' G'->R d G'->Q v H')(h:∀qs:List (Int×Int),qs.Perm ps->c7 qs->∀r,G r=bh->R (.ref r) (aG G r (.lst (qs.map bW))))(P:Pm us.length q)(u:Up (λi=>enc M (ps.getD i (0,0))) q us.length):EP X ψ σ Q (.ref (s.heap.objs.size+1)) {s with heap:=sortedAll s.heap us (q.toList.map λi=>us.getD i au.none).toArray}:=by
 have big:1000<dh:=by decide
 have l1:us.length=ps.length:=by rw[←rv.length,←r.length,dw]
 have l2:xs.length=ps.length:=by rw[←r.length,dw]
 rw[l1]at P u;let⟨p1,p2⟩:=QA hM hB nd P u;have dE:∀i∈q.toList,i<ps.length:=λi hi=>ou.mp (P.perm.mem_iff.mp hi);have fr:H (s.heap.objs.size+1)=bh:=I.af.fresh (oP _);have sn:aI H (upd H (s.heap.objs.size+1) (.lst (q.toList.map λi=>xs.getD i .ag))):=bO fr;let⟨c,hc⟩:=M7 (h:=s.heap) (vs:=us) (out:=(q.toList.map λi=>us.getD i au.none).toArray)
 have J:Inv X ψ σ (upd H (s.heap.objs.size+1) (.lst (q.toList.map λi=>xs.getD i .ag))) {s with heap:=sortedAll s.heap us (q.toList.map λi=>us.getD i au.none).toArray} :=
  I.laid (t':=s.toks) (λb o e=>Ou e) (oP _) ⟨by rw[dw,jg,P.size];omega,_,c,qZ rv λi hi=>by rw[l2];exact dE i hi,hc⟩
 have kf:=lW J;exact⟨.ref (s.heap.objs.size+1),_,J,rfl,k _ _ (.ref _) _ (.same sn) (.ref _) (g.put (u:=.lst _) fr ⟨_,aN,(Js r dE).mono (.same sn)⟩) (h _ p1 p2 _ (eV g fr kf))⟩
private theorem VL:cB X (.builtin "sorted") Ip:=by
 intro ψ s σ H xs vs us G R Q I rx rv g q k;unfold Ip at q;split at q
 .rename_i a;split at q
  .rename_i ds e1;let⟨ps,rfl,nd,dy,h⟩:=q;cases rx with
   |cons r1 rr =>
   cases rr;cases r1;cases rv with
   |cons rv rr =>
   cases rr;cases rv;let⟨zs,hq,r⟩:=cT g e1;let⟨its,vi,pl,_⟩:=I.list hq;let⟨B,b0,hB⟩:=uX ps;have hp:=pairs_at I r vi;have hM:2*B<2*B+1:=by omega
   refine Pr (kf:=λi=>enc (2*B+1) (ps.getD i (0,0))) pl.isList (by rw[hp.1];exact dy) (λi j hi hj e=>?_) (λl2 h' kp=>wJ hM hB l2 ⟨hp.1,λi p ei=>?_⟩) λq P u=>VM I g r vi nd dy hM hB k h P u
   .rw[hp.1]at hi hj;have mi:ps.getD i (0,0)∈ps:=by simp[vg,hi]
    have mj:ps.getD j (0,0)∈ps:=by simp[vg,hj]
    have k1:=yQ hM (hB _ mi) (hB _ mj);have k2:=yQ hM (hB _ mj) (hB _ mi);have e':enc (2*B+1) (ps.getD i (0,0))=enc (2*B+1) (ps.getD j (0,0)):=e
    have ee:ps.getD i (0,0)=ps.getD j (0,0):=by
     have n1:¬ qI (ps.getD i (0,0)) (ps.getD j (0,0)):=λw=>absurd (k1.mpr w) ⋯;have n2:¬ qI (ps.getD j (0,0)) (ps.getD i (0,0)):=λw=>absurd (k2.mpr w) ⋯;unfold qI at n1 n2;exact Prod.ext ⋯ ⋯
    have e2:ps[i]=ps[j]:=by simpa[vg,hi,hj]using ee
    have key:=wj.mp nd;rcases zq i j with w|w|w
    .exact absurd e2 (key _ _ hi hj w)
    .exact w
    .exact absurd e2.symm (key _ _ hj hi w)
   .obtain⟨a,o,n,x,y,z1,z2,z3,z4⟩:=hp.2 i p ei;exact⟨a,o,n,x,y,z1,kp _ _ z2,z3,z4⟩
  .exact q.elim
 .exact q.elim
end
end
variable{h':ju}
section
open PySem.W
abbrev iQ(h:ju)(d:bw)(es:Array lh)(ep:Nat):Prop:=∃o,h.get? d=aj o/\o.ExactDict/\o.data=.dict es ep
variable{h:ju}
section
variable{prog:kj}{w:jj}{A:mq}{E:au->cu->Prop}{s:cu}{d:bw}{es:Array lh}{ep i:Nat}
def iQ.typeIs(hm:iQ s.heap d es ep):s.TypeIs (.ref d) "dict":=let⟨o,ho,hc,_⟩:=hm;⟨o,ho,hc.1⟩
def iQ.lt(hm:iQ h d es ep):d<h.objs.size:=let⟨_,ho,_⟩:=hm;ig ho
def iQ.at(hm:iQ h d es ep)(k:∀o,h.get? d=aj o->h'.get? d=aj o):iQ h' d es ep:=let⟨o,ho,r⟩:=hm;⟨o,k o ho,r⟩
def ES(hd:(d==qy)=ao)(hm:iQ s.heap d es ep)(hQ:Q (.ref s.heap.objs.size) {s with heap:=s.heap.push {cls:=.type "dict_keyiterator",data:=.fields #[.ref d,.int 0 0,.int es.size 0,.int ep 0]}}):dj (fj prog w) A (pyIter (.ref d)) Q E s:=by
 have T:=hm.typeIs;let⟨o,ho,hc,a9⟩:=hm;refine wpAny_pyIter_slot T F.slot_dict_iter (ur F.slot_dict_iter T F.entry_dict_iter ?_ (F.args_dict_iter_1 _));unfold Builtin.«dict.__iter__»;refine aq ?_;unfold Builtin.Dict.dictSlotNone;refine aq (wpAny_notOrdered_dict T ?_);show dj _ _ (pure (au.ref d)) _ _ s;refine cg ?_;show dj _ _ (Builtin.Dict.showsAll d >>= _) _ _ s;unfold Builtin.Dict.showsAll;rw[if_neg (by rw[hd];exact vf)];refine aq (cg (aq (xq ho a9 (aq (wpAny_dictEpoch ho a9 (aq (yd (cg ⟨_,rfl,"dict_keyiterator",_,⟨_,iz _ rfl,rfl⟩,F.slot_dict_keyiterator_next.lookup,?_⟩))))))));simpa[eL]using hQ
variable{Q:Option au->cu->Prop}
def ER{e:lh}(hit:s.heap.IsKeyIter it d i es.size ep)(hm:iQ s.heap d es ep)(hx:es[i]?=aj e)
  (hQ:∀h',h'.IsKeyIter it d (i+1) es.size ep->jr it s.heap h'->Q (aj e.key) {s with heap:=h' }):dj (fj prog w) A (zx (.ref it)) Q E s:=by
 let⟨o,ho,hc,hd⟩:=id hit;let⟨od,b7,eR,kL⟩:=hm;have lt:i<es.size:=(qz.mp hx).1;unfold zx;refine aq (Ag (Cp (name:=Str.ofString "__next__") hit.typeIs F.slot_dict_keyiterator_next (ur F.slot_dict_keyiterator_next hit.typeIs F.entry_dict_keyiterator_next ?_ (F.args_dict_keyiterator_next_1 _))));refine aq (cg ?_);refine aq ?_;refine aq ?_
 (first|refine aq (Fh hit.typeIs (cg ?_))|refine aq (Fe hit.typeIs (cg ?_)));refine aq (wpAny_fieldsOf ho hd ?_)
 have own:Builtin.Dict_items.ownsTuple "dict_keyiterator"=ao:=by decide
 simp only[own,jf,if_false];show dj _ _ (if(au.ref d==au.none)=ak then _ else _) _ _ s;rw[if_neg (show ¬ ((au.ref d==au.none)=ak)from vf)];refine aq (cg (aq (xq b7 kL ?_)));rw[if_neg (by simp)];refine aq (cg (aq (wpAny_dictEpoch b7 kL ?_)));rw[if_neg (by simp)];refine cg ?_;simp only[show ¬ ((i:Int)<0)from by omega,if_false,vq,hx];refine aq ?_
 (first|refine aq (Fh hit.typeIs (cg ?_))|refine aq (Fe hit.typeIs (cg ?_)));refine aq (wpAny_isOneOf_keyiter hit.typeIs ?_)
 show dj _ _ (setField (.ref it) 1 (eL ((i:Int)+1)) >>= _) _ _ s;refine aq (yu ho hd (by simp) ?_);have pS:(s.heap.update it (Obj.mapFields (·.setIfInBounds 1 (eL ((i:Int)+1))))).IsKeyIter it d (i+1) es.size ep:=⟨_,Au _ ho (Obj.isFreed_of_fields (Obj.data_mapFields hd _)),(Obj.cls_mapFields ..).trans hc,by rw[Obj.data_mapFields hd];simp[eL]⟩;refine aq (su (aq (wpAny_isOneOf_keyiter (s:={s with heap:=s.heap.update it (Obj.mapFields (·.setIfInBounds 1 (eL ((i:Int)+1))))}) pS.typeIs ?_)));show dj _ _ (pure e.key) _ _ _;exact cg (cg ⟨_,rfl,cg (hQ _ pS (jr.update ..))⟩)
def Es(hh:A.handled=bh)(hit:s.heap.IsKeyIter it d i es.size ep)(hm:iQ s.heap d es ep)(hx:es.size<=i)(hQ:∀h',wq it s.heap h'->Q bh {s with heap:=h' }):dj (fj prog w) A (zx (.ref it)) Q E s:=by
 let⟨o,ho,hc,hd⟩:=id hit;let⟨od,b7,eR,kL⟩:=hm;unfold zx;refine aq (Ag (Cp (name:=Str.ofString "__next__") hit.typeIs F.slot_dict_keyiterator_next (ur F.slot_dict_keyiterator_next hit.typeIs F.entry_dict_keyiterator_next ?_ (F.args_dict_keyiterator_next_1 _))));refine aq (cg ?_);refine aq ?_;refine aq ?_
 (first|refine aq (Fh hit.typeIs (cg ?_))|refine aq (Fe hit.typeIs (cg ?_)));refine aq (wpAny_fieldsOf ho hd ?_)
 have own:Builtin.Dict_items.ownsTuple "dict_keyiterator"=ao:=by decide
 simp only[own,jf,if_false];show dj _ _ (if(au.ref d==au.none)=ak then _ else _) _ _ s;rw[if_neg (show ¬ ((au.ref d==au.none)=ak)from vf)];refine aq (cg (aq (xq b7 kL ?_)));rw[if_neg (by simp)];refine aq (cg (aq (wpAny_dictEpoch b7 kL ?_)));rw[if_neg (by simp)];refine cg ?_;simp only[show ¬ ((i:Int)<0)from by omega,if_false,vq,wu hx];refine aq ?_
 (first|refine aq (Fh hit.typeIs (cg ?_))|refine aq (Fe hit.typeIs (cg ?_)));show dj _ _ (setField (.ref it) 0 .none >>= _) _ _ s
 refine aq (yu ho hd (by simp) ?_);show dj _ _ (newExc (.type "StopIteration") [] >>= _) _ _ _;refine aq ?_;simp only[newExc,newTuple];refine aq (yd ?_ (by size_fits));refine aq (m:=firstArgMember _ _) (wpAny_of_eq (a:=Value.none) (by first|rfl|(simp only[JN];rfl)) (yd ?_ (by size_fits)));simp only[raiseNew];refine aq (wpAny_handled ?_);rw[show A.in1.handled=bh from hh];refine aq (cg (wpAny_throw ?_));refine aq (wpAny_isInstance (T:="StopIteration") (b:=true) ⟨_,iz _ rfl,rfl⟩ isSubtype_stop ?_);refine cg (hQ _ λb o' hb e=>?_);exact cj _ (cj _ (((jr.update _ _ _).2 b hb).trans e))
def XH(hh:A.handled=bh)(I:bw)(fe:d≠I):Walks prog w A I [I,d] [I] es.size (λi v=>∃e,es[i]?=aj e/\v=e.key) (λi h=>h.IsKeyIter I d i es.size ep/\iQ h d es ep) where
 sub:=λb hb=>by simp at hb;simp[hb]
 frame:=λ_ _ _ st hk=>⟨st.1.at λo e=>hk I (by simp) o e,st.2.at λo e=>hk d (by simp) o e⟩
 item:=λi s Q E hi st hQ=>by
  have hx:es[i]?=aj es[i]:=gw hi;exact ER st.1 st.2 hx λh' pS d3=>hQ _ h' s.toks ⟨_,hx,rfl⟩ ⟨pS,st.2.at λo e=>d3.extBut _ o fe e⟩ λb o hb e=>d3.extBut b o (λh=>hb (by simp[h])) e
 done:=λs Q E st hQ=>Es hh st.1 st.2 (dz _) λh' Ti=>hQ h' s.toks λb o hb e=>Ti b o (λh=>hb (by simp[h])) e
 self:=λ_ _ _ _ st hQ=>wpAny_pyIter_keyiter st.1 hQ
def Er(lo:(d==qy)=ao):KdlSrc prog w "dict" d d es.size (λi v=>∃e,es[i]?=aj e/\v=e.key) (λh=>iQ h d es ep) where
 type:=λ_ hm=>hm.typeIs
 there:=λ_ hm=>⟨hm.lt,hm.lt⟩
 keep:=λ_ _ hm hk=>hm.at λo e=>hk d (.inl rfl) o e
 notList:=by decide
 notTuple:=by decide
 hint:=λ_ _ _ _ hm hq=>kdl_hint_dict hm.typeIs hq
 iter:=λ_ s hh hm=>⟨_,_,(λ_ _ hq=>ES lo hm hq),XH hh _ (jq hm.lt),⟨⟨_,iz _ rfl,rfl,rfl⟩,hm.at λo e=>cj _ e⟩⟩
end
end
section
open PySem.W
section
end
section
end
end
section
open PySem.W
def VJ:typeLookup (.type "list") "keys"=pure bh:=by rw[typeLookup_type,builtinLookup_eq_fast];nofun
section
variable{prog:kj}{w:jj}{A:mq}{E:au->cu->Prop}{s:cu}
def VI{o:Obj}{k:Nat}{Q:Option au->cu->Prop}
  (hx:s.heap.get? a=aj o)(hc:o.cls=.type "list")(a9:o.data=.seq xs k)(hd:o.dict=bh)(hA:A.handled=bh)
  (h:∀h' tk,(∀b o,s.heap.get? b=aj o->h'.get? b=aj o)->Q bh {s with heap:=h',toks:=tk}) :
  dj (fj prog w) A (getAttr? (.ref a) "keys") Q E s:=by
 let⟨c,uC,dat,sl⟩:=o;simp only at hc a9 hd;subst hc a9 hd;let⟨hp,g,d,tk,os⟩:=s;have hT:∀AL,(⟨hp,g,d,AL,os⟩:cu).TypeIs (.ref a) "list":=λ_=>⟨_,hx,rfl⟩;have f1:=sub_AttributeError;have f3:=F.slot_list_getattribute.lookup;have f4:=F.slot_list_getattribute.bind (.ref a);have f5:=am_list_getattr_none;unfold getAttr? getAttrBy? getAttrBy
 repeat (any_goals (first|assumption|exact hT _|((with_reducible show dj _ _ (call (au.builtin "list.__getattribute__") _ _) _ _ _);refine call_meets F.slot_list_getattribute (hT _) am_entry_list_getattribute (F.args_list_getattribute_2 _ _) (meets_getattribute_miss_list a xs k sl "keys" _ VJ (by decide) (by decide)) ⟨hx,hA,λh' AL e Li=>?_⟩)|wp_step))
 let⟨t',u',he⟩:=Li.there;show dj _ _ (getattributeRaised _ _ _ _ _ _ _) _ _ _;unfold getattributeRaised
 repeat (any_goals (first|assumption|wp_step))
 exact h _ _ Li.keeps
def Pq:entryFor table "dict.update.loop"=aj Builtin.«dict.update.loop» :=entryFor_of_fast (by nofun)
def zL:plainId "dict.update.loop"=ak:=by decide+kernel
end
end
section
open PySem.W
section
variable{X:Cx}
def JS{K:Fg}:∀(ks:List Key),cN K H (ks.map kD) (ks.map kV)
 |[]=>.nil
 |.inl i::r=>.cons (.int i) (JS r)
 |.inr x::r=>.cons (.str x) (JS r)
def Jr{K:Fg}:∀{aa:List (DK×D)}{ys:List (List Key×V)}{ws:List (List Key×bw×au)},qH K H .inr aa ys->KT H ys ws->cN K H (aa.map λp=>cK p.1) (ws.map λx=>.ref x.2.1)
 |_,_,_,.nil,.nil=>.nil
 |p::aa,q::ys,x::ws,.cons h r,.cons h' r'=>by
  refine .cons ?_ (Jr r r');show RD K H (cK p.1) (.ref x.2.1);rw[h.1];have e:=h'.2.1;exact .tup (yM.of e) (JS _) (Bs e)
abbrev EO:List D->Gp->dU->Prop:=λxs G R=>match xs with
 |[.ref a]=>(match G a with
  |some (.bD ak aa)=>∀l,G l=bh->R (.ref l) (aG G l (.lst (aa.map λp=>cK p.1)))
  |_=>False)
 |_=>False
private theorem VH(hc:X.calm=ak):cB X (.type "list") EO:=by
 intro ψ s σ H xs vs us G R Q I rx rv g q k;unfold EO at q;split at q
 .rename_i a;split at q
  .rename_i aa e1;cases rx with
   |cons r1 rr =>
   cases rr;cases r1;cases rv with
   |cons rv rr =>
   cases rr;cases rv;rcases g a _ e1 with⟨z,_⟩|⟨_,ys,e,r⟩
   .cases z
   .obtain⟨z1,hd,ws,rel,o,es,ep,ho,ub,a9,he,mf,hn⟩:=rq I.af e;have lw:es.size=ws.length:=size_of_entries he;have SF:ws.length=ys.length:=(Paired.length rel).symm;refine kdl_call (Er hd) (I.ok.hd hc) ⟨o,ho,ub,a9⟩ ⋯ λh' tk acc c kk hS a8=>?_;have fr:H s.heap.objs.size=bh:=I.af.fresh (dz _);have sn:aI H (upd H s.heap.objs.size (.lst (ws.map λx=>.ref x.2.1))):=bO fr
    have aH8:acc.toList=ws.map λx=>au.ref x.2.1:=by
     apply E8;intro i;by_cases hi:i<ws.length
     .have kK:i<acc.size:=by rw[a8.1,lw];exact hi
      let⟨en,e1,e2⟩:=a8.2 i acc[i] (gw kK);have e3:es.toList[i]?=aj en:=by rw[jt];exact e1
      rw[he,kh,gV hi]at e3;have e4:entryOfKey (ny (aJ X.prog X.w)) ws[i]=en:=by simpa using e3
      rw[jt,gw kK,e2,←e4,kh,gV hi];rfl
     .rw[As (by rw[jg,a8.1,lw];omega),As (by simp;omega)]
    have vals:∀l:List (List Key×bw×au),Vals (l.map λx=>V.ref x.2.1) (l.map λx=>au.ref x.2.1):=λl=>by
     induction l with
     |nil=>exact .nil
     |cons x r ih=>exact .cons rfl ih
    have J:Inv X ψ σ (upd H s.heap.objs.size (.lst (ws.map λx=>.ref x.2.1))) {s with heap:=h',toks:=tk}:=I.laid (t':=tk) (o:=.lst _) kk (dz _) ⟨by simp;omega,_,c,vals ws,by rw[←aH8];simpa using hS⟩;exact⟨.ref s.heap.objs.size,_,J,rfl,k _ _ (.ref _) _ (.same sn) (.ref _) (g.put (u:=.lst _) fr ⟨_,aN,(Jr r rel).mono (.same sn)⟩) (q _ (eV g fr (lW J)))⟩
  .exact q.elim
 .exact q.elim
end
end
section
section
end
end
variable{h1:ju}
section
open PySem.W
variable{h:ju}{vs:List au}
section
variable{prog:kj}{w:jj}{A:mq}{E:au->cu->Prop}{s:cu}
def Oq{b:bw}(e:h.get? b=aj u):(sortedHeap (h.push (qp "list" vs.toArray 0)) h.objs.size vs out).get? b=aj u:=by
 have n0:b≠h.objs.size:=jq (ig e);unfold sortedHeap;rw[(jr.update _ _ _).2 b n0];refine cj _ (cj _ ?_);rw[(jr.update _ _ _).2 b n0];exact cj _ e
def M6:∃c,(sortedHeap (h.push (qp "list" vs.toArray 0)) h.objs.size vs out).get? h.objs.size=aj (qp "list" out c):=by
 have oL:(h.push (qp "list" vs.toArray 0)).get? h.objs.size=aj (qp "list" vs.toArray 0):=iz _ rfl;unfold sortedHeap;obtain⟨c1,e1⟩:∃c,((h.push (qp "list" vs.toArray 0)).update h.objs.size (Obj.mapSeq λ_=>#[])).get? h.objs.size=aj (qp "list" #[] c):=⟨_,B8 oL λ_=>#[]⟩;exact⟨_,B8 (cj _ (cj _ e1)) λ_=>out⟩
def Io{kf:Nat->Int}
  (IY:∀(R:List au->cu->Prop)(E:au->cu->Prop),(∀h' tk,(∀b o,s.heap.get? b=aj o->h'.get? b=aj o)->R vs {s with heap:=h',toks:=tk})->dj (fj prog w) A.in1 (collect (.ref r)) R E s)
  (dy:vs.length<64)(hd:∀i j,i<vs.length->j<vs.length->kf i=kf j->i=j)
  (hk:2<=vs.length->∀(s':cu)(h':ju),(∀b o,s.heap.get? b=aj o->h'.get? b=aj o)->BE prog w A.in1.in1 s' kf vs h')
  (h:∀(q:Array Nat)(h1:ju)(tk:Nat)(h':ju)(c:Nat),Pm vs.length q->Up kf q vs.length->(∀b o,s.heap.get? b=aj o->h1.get? b=aj o)->(∀b o,h1.get? b=aj o->h'.get? b=aj o)->h'.get? h1.objs.size=aj (qp "list" (q.toList.map λi=>vs.getD i au.none).toArray c)->Q (.ref h1.objs.size) {s with heap:=h',toks:=tk}):dj (fj prog w) A (call (.builtin "sorted") [.ref r]) Q E s:=by
 have big:1000<dh:=by decide
 refine Calls.call_function_entry kind_sorted plain_sorted entry_sorted (args_sorted1 _) ?_;unfold Builtin.«sorted»;refine aq (m:=checkCount "sorted" 1 1 _) (cg (aq (IY _ _ λh1 tk k1=>aq (wpAny_newList ?_ ⋯))));have oL:(h1.push (qp "list" vs.toArray 0)).get? h1.objs.size=aj (qp "list" vs.toArray 0):=iz _ rfl;have kp:∀b o,s.heap.get? b=aj o->(h1.push (qp "list" vs.toArray 0)).get? b=aj o:=λb o e=>cj _ (k1 b o e);refine aq (su (ur (s:={s with heap:=h1.push (qp "list" vs.toArray 0),toks:=tk}) slot_list_sort ⟨_,oL,rfl⟩ entry_list_sort (Jt (kf:=kf) (s:={s with heap:=h1.push (qp "list" vs.toArray 0),toks:=tk}) oL dy hd (λl2 h' k'=>?_) λq P u=>⟨_,rfl,cg ⟨_,rfl,?_⟩⟩) (args_list_sort _)))
 .exact hk l2 _ h' λb o e=>k' b o (jq (ig (k1 b o e))) (kp b o e)
 .obtain⟨c,hc⟩:=M6 (h:=h1) (vs:=vs) (out:=(q.toList.map λi=>vs.getD i au.none).toArray);exact h q h1 tk _ c P u k1 (λb o e=>Oq e) hc
end
variable{M:Int}
section
variable{X:Cx}
def Jq{σ:St}{H:Hp}(I:Inv X ψ σ H s){G:Gp}{R:dU}{Q:VK}(g:HR X.K H G){xs:List V}{us:List au}(r:cN X.K H (ps.map bW) xs)(rv:Vals xs us)(nd:ps.Nodup)(dy:ps.length<64)(hM:2*B<M)(hB:∀p∈ps,-B<=p.2/\p.2<=B)
  (k:∀v H' d G',Ts H H'->RD X.K H' d v->HR X.K H' G'->R d G'->Q v H')(h:∀qs:List (Int×Int),qs.Perm ps->c7 qs->∀r,G r=bh->R (.ref r) (aG G r (.lst (qs.map bW)))){q:Array Nat}(P:Pm us.length q)(u:Up (λi=>enc M (ps.getD i (0,0))) q us.length){c:Nat}(k1:∀b o,s.heap.get? b=aj o->h1.get? b=aj o)(k2:∀b o,h1.get? b=aj o->h'.get? b=aj o)(ho:h'.get? h1.objs.size=aj (qp "list" (q.toList.map λi=>us.getD i au.none).toArray c)):EP X ψ σ Q (.ref h1.objs.size) {s with heap:=h',toks:=tk}:=by
 have big:1000<dh:=by decide
 have l1:us.length=ps.length:=by rw[←rv.length,←r.length,dw]
 have l2:xs.length=ps.length:=by rw[←r.length,dw]
 rw[l1]at P u;let⟨p1,p2⟩:=QA hM hB nd P u;have dE:∀i∈q.toList,i<ps.length:=λi hi=>ou.mp (P.perm.mem_iff.mp hi);have I1:Inv X ψ σ H {s with heap:=h1,toks:=tk}:=I.kept (t':=tk) k1;have fr:H h1.objs.size=bh:=I1.af.fresh (dz _);have sn:aI H (upd H h1.objs.size (.lst (q.toList.map λi=>xs.getD i .ag))):=bO fr
 have J:Inv X ψ σ (upd H h1.objs.size (.lst (q.toList.map λi=>xs.getD i .ag))) {s with heap:=h',toks:=tk} :=
  I1.laid (t':=tk) (λb o e=>k2 b o e) (dz _) ⟨by rw[dw,jg,P.size];omega,_,c,qZ rv λi hi=>by rw[l2];exact dE i hi,ho⟩
 have kf:=lW J;exact⟨.ref h1.objs.size,_,J,rfl,k _ _ (.ref _) _ (.same sn) (.ref _) (g.put (u:=.lst _) fr ⟨_,aN,(Js r dE).mono (.same sn)⟩) (h _ p1 p2 _ (eV g fr kf))⟩
def Im(nd:ps.Nodup)(hM:2*B<M)(hB:∀p∈ps,-B<=p.2/\p.2<=B):∀i j,i<ps.length->j<ps.length->enc M (ps.getD i (0,0))=enc M (ps.getD j (0,0))->i=j:=λi j hi hj e'=>by
 have mi:ps.getD i (0,0)∈ps:=by simp[vg,hi]
 have mj:ps.getD j (0,0)∈ps:=by simp[vg,hj]
 have k1:=yQ hM (hB _ mi) (hB _ mj);have k2:=yQ hM (hB _ mj) (hB _ mi)
 have ee:ps.getD i (0,0)=ps.getD j (0,0):=by
  have n1:¬ qI (ps.getD i (0,0)) (ps.getD j (0,0)):=λw=>absurd (k1.mpr w) ⋯;have n2:¬ qI (ps.getD j (0,0)) (ps.getD i (0,0)):=λw=>absurd (k2.mpr w) ⋯;unfold qI at n1 n2;exact Prod.ext ⋯ ⋯
 have e2:ps[i]=ps[j]:=by simpa[vg,hi,hj]using ee
 have key:=wj.mp nd;rcases zq i j with w|w|w
 .exact absurd e2 (key _ _ hi hj w)
 .exact w
 .exact absurd e2.symm (key _ _ hj hi w)
def VG(I:Inv X ψ σ H s)(e:H a=aj (.dT ys)):∃(es:Array lh)(ep:Nat)(ws:List (List Key×bw×au)),(a==qy)=ao/\iQ s.heap a es ep/\es.size<=dh/\KT H ys ws/\∀acc:Array au,ItemsOf (λi v=>∃e,es[i]?=aj e/\v=e.key) acc es.size->acc.toList=ws.map λx=>au.ref x.2.1:=by
 let⟨z1,hd,ws,rel,o,es,ep,ho,ub,a9,he,mf,hn⟩:=rq I.af e;have lw:es.size=ws.length:=size_of_entries he;have SF:ws.length=ys.length:=(Paired.length rel).symm;refine⟨es,ep,ws,hd,⟨o,ho,ub,a9⟩,⋯,rel,λacc a8=>?_⟩;apply E8;intro i;by_cases hi:i<ws.length
 .have kK:i<acc.size:=by rw[a8.1,lw];exact hi
  let⟨en,e1,e2⟩:=a8.2 i acc[i] (gw kK);have e3:es.toList[i]?=aj en:=by rw[jt];exact e1
  rw[he,kh,gV hi]at e3;have e4:entryOfKey (ny (aJ X.prog X.w)) ws[i]=en:=by simpa using e3
  rw[jt,gw kK,e2,←e4,kh,gV hi];rfl
 .rw[As (by rw[jg,a8.1,lw];omega),As (by simp;omega)]
def Qz:∀l:List (List Key×bw×au),Vals (l.map λx=>V.ref x.2.1) (l.map λx=>au.ref x.2.1)
 |[]=>.nil
 |_::r=>.cons rfl (Qz r)
abbrev wK:List D->Gp->dU->Prop:=λxs G R=>match xs with
 |[.ref a]=>(match G a with
  |some (.bD ak aa)=>Hb (aa.map λp=>cK p.1) G R
  |_=>False)
 |_=>False
private theorem VF(hc:X.calm=ak):cB X (.builtin "sorted") wK:=by
 intro ψ s σ H xs vs us G R Q I rx rv g q k;unfold wK at q;split at q
 .rename_i a;split at q
  .rename_i aa e1;let⟨ps,ep,nd,dy,h⟩:=q;cases rx with
   |cons r1 rr =>
   cases rr;cases r1;cases rv with
   |cons rv rr =>
   cases rr;cases rv;rcases g a _ e1 with⟨z,_⟩|⟨_,ys,e,r⟩
   .cases z
   .obtain⟨es,epo,ws,de,raw,hz,rel,ba⟩:=VG I e;have kr:=Jr r rel;rw[ep]at kr;have vi:=Qz ws;let⟨B,b0,hB⟩:=uX ps;have hp:=pairs_at I kr vi;have hM:2*B<2*B+1:=by omega
    refine Io (kf:=λi=>enc (2*B+1) (ps.getD i (0,0))) (vs:=ws.map λx=>au.ref x.2.1) (λR' E' hR=>kdu_collect (Er de) (I.ok.hd hc) raw hz λh' tk acc kk a8=>?_) (by rw[hp.1];exact dy) (λi j hi hj e=>?_) (λl2 s' h' kp=>wJ hM hB l2 ⟨hp.1,λi p ei=>?_⟩) λq h1 tk h' c P u k1 k2 ho=>Jq I g kr vi nd dy hM hB k h P u k1 k2 ho
    .rw[ba acc a8];exact hR h' tk kk
    .rw[hp.1]at hi hj;exact Im nd hM hB i j hi hj e
    .obtain⟨a,o,n,x,y,z1,z2,z3,z4⟩:=hp.2 i p ei;exact⟨a,o,n,x,y,z1,kp _ _ z2,z3,z4⟩
  .exact q.elim
 .exact q.elim
end
end
section
open Builtin.Str
section
end
section
end
end
section
section
end
end
variable{its:Array au}
section
open PySem.W
variable{h:ju}{x:Key×au}{ps:List (Key×au)}
section
variable{prog:kj}{w:jj}{A:mq}{E:au->cu->Prop}{s:cu}
abbrev zw(xs ps:List (Key×au)):List (Key×au):=ps.foldl (λacc x=>stored acc x.1 x.2) xs
def Il{d:bw}(hm:h.DictOf (aJ prog w) d xs)(k:∀o,h.get? d=aj o->h'.get? d=aj o):h'.DictOf (aJ prog w) d xs:=by
 let⟨o,es,ep,h1,r⟩:=hm;exact⟨o,es,ep,k _ h1,r⟩
abbrev Bp(prog:kj)(w:jj)(I d:bw)(h:ju)(v:au)(x:Key×au):Prop:=∃p o n key,v=.ref p/\h.get? p=aj o/\o.cls=.type "tuple"/\o.data=.seq #[key,x.2] n/\(aJ prog w).is x.1 key=ak/\p≠I/\p≠d
def Bp.keep{d:bw}(q:Bp prog w I d h v x)(k:∀b o,b≠d->b≠I->h.get? b=aj o->h'.get? b=aj o):Bp prog w I d h' v x:=by
 let⟨p,o,n,key,e,h1,h2,h3,h4,h5,h6⟩:=q;exact⟨p,o,n,key,e,k _ _ h6 h5 h1,h2,h3,h4,h5,h6⟩
def XG{R:Result->cu->Prop}{d:bw}(hh:A.handled=bh)(Gd:d≠I)(Lw:l≠I)(cn:l≠d)(hlen:its.size=ps.length) :
  ∀(k i:Nat)(s:cu)(xs:List (Key×au))(j:Int)(t:Tok),ps.length - i=k->i<=ps.length->s.heap.IsListIter I l i->s.heap.IsList l its->s.heap.DictOf (aJ prog w) d xs->xs.length+(ps.length - i)<=dh ->
   (∀(i:Nat)(v:au)(x:Key×au),its[i]?=aj v->ps[i]?=aj x->Bp prog w I d s.heap v x) ->
   (∀h' tk,h'.DictOf (aJ prog w) d (zw xs (ps.drop i))->(∀b o,b≠d->b≠I->s.heap.get? b=aj o->h'.get? b=aj o)->R (.ok (.ret .none)) {s with heap:=h',toks:=tk}) ->
   gL (fj prog w) A (.builtin "dict.update.loop" ⟨[.ref d,.ref I,.int j t,.none],[]⟩) R s:=by
 intro k
 induction k with
 |zero =>
  intro i s xs j t hk hi dS hl hd hz hp hR;have dE:i=ps.length:=by omega
  refine sf Pq ?_;rw[mq.under_plainId zL _];show dj _ A.in1 (zx (.ref I) >>= _) _ _ s;have W:=Walks.list (prog:=prog) (w:=w) (A:=A.in1) hh I l Lw its;refine aq (W.done s _ _ (by rw[hlen,←dE];exact⟨dS,hl⟩) λh' tk kk=>?_);have mn:h'.DictOf (aJ prog w) d xs:=Il hd (λo e=>kk _ _ (by simpa using Gd) e);show dj _ A.in1 (Builtin.Dict.addKeywords d [] >>= _) _ _ _;refine aq (cg (cg ?_));refine hR h' tk (by rw[dE,List.drop_length];exact mn) λb o h1 h2 e=>kk b o (by simpa using h2) e
 |succ k ih =>
  intro i s xs j t hk hi dS hl hd hz hp hR;have d5:i<ps.length:=by omega
  refine sf Pq ?_;rw[mq.under_plainId zL _];show dj _ A.in1 (zx (.ref I) >>= _) _ _ s;have W:=Walks.list (prog:=prog) (w:=w) (A:=A.in1) hh I l Lw its;refine aq (W.item i s _ _ ⋯ ⟨dS,hl⟩ λv h' tk hP CG kk=>?_);obtain⟨x,F3⟩:∃x,ps[i]?=aj x:=⟨_,gV d5⟩;have k1:∀b o,b≠d->b≠I->s.heap.get? b=aj o->h'.get? b=aj o:=λb o _ h2 e=>kk b o (by simpa using h2) e;have mn:h'.DictOf (aJ prog w) d xs:=Il hd (λo e=>kk _ _ (by simpa using Gd) e);let⟨p,o,n,key,rfl,q1,q2,q3,bo,_,_⟩:=(hp i v x hP F3).keep k1;refine aq (su (aq (wpAny_tryCatch ?_)));unfold Builtin.Dict.pairItems;refine aq (wpAny_typeOf (s:={s with heap:=h',toks:=tk}) (T:="tuple") ⟨o,q1,q2⟩ ?_);rw[if_pos (by decide)];refine aq (w8 (s:={s with heap:=h',toks:=tk}) q1 q3 (cg ?_));show dj _ A.in1 (holding [key,x.2] (dictSet d key x.2)) _ _ _;refine su (wpAny_dictSet_pairs (s:={s with heap:=h',toks:=tk}) bo mn (λh2 ua md=>?_) ⋯);have k2:∀b o,b≠d->b≠I->s.heap.get? b=aj o->h2.get? b=aj o:=λb o h1 hI e=>(md.2 b h1).trans (k1 b o h1 hI e);refine cg ⟨plainId_quiet zL _,ih (i+1) _ (stored xs x.1 x.2) _ _ ⋯ d5 (CG.1.at λo e=>(md.2 I (Ne.symm Gd)).trans e) (CG.2.at λo e=>(md.2 l cn).trans e) ua (by have:=stored_length_le xs x.1 x.2;omega) (λi v x e1 e2=>(hp i v x e1 e2).keep k2) λh3 Fx Bc k3=>?_⟩;refine hR h3 Fx ?_ λb o h1 hI e=>k3 b o h1 hI (k2 b o h1 hI e)
  have:ps.drop i=x::ps.drop (i+1):=by
   rw[List.drop_eq_getElem_cons d5];rw[gV d5]at F3;cases F3;rfl
  rw[this];exact Bc
abbrev DN(prog:kj)(w:jj)(h:ju)(v:au)(x:Key×au):Prop:=∃p o n key,v=.ref p/\h.get? p=aj o/\o.cls=.type "tuple"/\o.data=.seq #[key,x.2] n/\(aJ prog w).is x.1 key=ak
def DN.ok{d:bw}(q:DN prog w h v x)(hI:h.objs.size<=I)(hd:h.objs.size<=d)(k:∀b o,h.get? b=aj o->h'.get? b=aj o):Bp prog w I d h' v x:=by
 let⟨p,o,n,key,e,h1,h2,h3,h4⟩:=q;have l1:=ig h1;exact⟨p,o,n,key,e,k _ _ h1,h2,h3,h4,jq (qb l1 hI),jq (qb l1 hd)⟩
def XF{o:Obj}(hh:A.handled=bh)(hl:s.heap.get? l=aj o)(hc:o.cls=.type "list")(a9:o.data=.seq its n)(Tj:o.dict=bh)(hlen:its.size=ps.length)(hz:ps.length<=dh)
  (hp:∀(i:Nat)(v:au)(x:Key×au),its[i]?=aj v->ps[i]?=aj x->DN prog w s.heap v x)
  (h:∀h' tk,h'.DictOf (aJ prog w) s.heap.objs.size (zw [] ps)->(∀b o,s.heap.get? b=aj o->h'.get? b=aj o)->Q (.ref s.heap.objs.size) {s with heap:=h',toks:=tk}) :
  dj (fj prog w) A (call (.type "dict") [.ref l]) Q E s:=by
 refine callType_codes (Q₁:=λobj ah=>obj=.ref s.heap.objs.size/\ah={s with heap:=s.heap.push {cls:=.type "dict",data:=.dict #[]}}) F.kt_called_dict (F.kt_typeCall_dict_1 _) F.entry_dict_init (kt_code_dict_new _ ⟨rfl,rfl⟩) ?_;rintro obj ah ⟨rfl,rfl⟩;have kp:∀b o,s.heap.get? b=aj o->(s.heap.push {cls:=.type "dict",data:=.dict #[]}).get? b=aj o:=λb o e=>cj _ e;have iO:(s.heap.push {cls:=.type "dict",data:=.dict #[]}).DictOf (aJ prog w) s.heap.objs.size []:=Heap.DictOf.new s.heap;have LB:l≠s.heap.objs.size:=jq (ig hl);refine⟨iO.typeIs,F.args_dict_init_2 _ _,?_⟩;unfold Builtin.«dict.__init__»;refine aq ?_;unfold Builtin.Dict.selfAndRest;refine aq (wpAny_notOrdered_dict iO.typeIs ?_);show dj _ _ (pure (s.heap.objs.size,[au.ref l])) _ _ _;refine cg ?_;show dj _ _ (Builtin.Dict.updateFrom "dict.__init__" s.heap.objs.size (.ref l) [] .none) _ _ _;unfold Builtin.Dict.updateFrom;refine aq (wpAny_typeOf (T:="list") ⟨o,kp _ _ hl,hc⟩ ?_);rw[if_pos (by decide)];refine aq (VI (kp _ _ hl) hc a9 Tj hh λh' tk k1=>?_);rw[if_pos (by rfl)];refine aq (k8 ?_);have F8:h'.IsList l its:=⟨o,k1 _ _ (kp _ _ hl),hc,n,a9⟩;refine aq (Cf (s:={s with heap:=h',toks:=tk}) F8 ?_);have k2:∀b o,s.heap.get? b=aj o->(h'.push {cls:=.type "list_iterator",data:=.fields #[.ref l,eL 0]}).get? b=aj o:=λb o e=>cj _ (k1 _ _ (kp _ _ e));have kg:s.heap.objs.size<h'.objs.size:=ig (k1 s.heap.objs.size _ (iz _ rfl));refine cg ⟨plainId_quiet zL _,XG (A:=A.in1) (its:=its) (ps:=ps) hh (jq kg) (jq (ig F8.choose_spec.1)) LB hlen ps.length 0 _ [] _ _ rfl (ud _) ⟨_,iz _ rfl,rfl,rfl⟩ (F8.at λo e=>cj _ e) (Il iO (λo e=>cj _ (k1 _ _ e))) (by simp;omega) (λi v x e1 e2=>(hp i v x e1 e2).ok (zy kg) (dz _) k2) λh3 Fx Bc k3=>?_⟩;exact⟨rfl,h h3 Fx Bc λb o e=>k3 b o (jq (ig e)) (jq (wt (ig e) kg)) (k2 b o e)⟩
end
abbrev Mh:D->Option (Key×D)
 |.tup [y,z]=>(match Hc y with
  |some k=>aj (k,z)
  |none=>bh)
 |_=>bh
abbrev An:List D->Option (List (Key×D))
 |[]=>aj []
 |d::r=>match Mh d,An r with
  |some p,aj ps=>aj (p::ps)
  |_,_=>bh
abbrev BS(aa:List (DK×D))(ps:List (Key×D)):List (DK×D):=ps.foldl (λacc p=>bZ acc (.inl p.1) p.2) aa
inductive y8(K:Fg)(H:Hp):List (Key×D)->List (Key×au)->Prop where
 |nil:y8 K H [] []
 |cons {k:Key} {vz:V} {u:au} {d:D} {aa:List (Key×D)} {ps:List (Key×au)}:RD K H d vz->RelV vz u->y8 K H aa ps->y8 K H ((k,d)::aa) ((k,u)::ps)
def YI(ps:List (Key×au)):∀xs,(zw xs ps).length<=xs.length+ps.length:=by
 induction ps with
 |nil=>intro xs;simp[zw]
 |cons p r ih =>
  intro xs;have:=ih (stored xs p.1 p.2);have:=stored_length_le xs p.1 p.2;simp only[zw,List.foldl_cons,uw]at *;omega
def y8.fold{K:Fg}(h:y8 K H aa ps):∀{k0:List (DK×D)}{y0:List (Key×V)}{p0:List (Key×au)},KV y0 p0->qH K H .inl k0 y0->∃ys,KV ys (zw p0 ps)/\qH K H .inl (BS k0 aa) ys:=by
 induction h with
 |nil=>intro k0 y0 p0 a b;exact⟨y0,a,b⟩
 |@cons k vz u d aa ps rd rv _ ih =>
  intro k0 y0 p0 a c;exact ih (KV.put a k rv) (EZ jU rd c)
section
variable{X:Cx}
private theorem Oo{ψ:List (bw×Obj)}{s:cu}(I:Inv X ψ σ H s):∀{ds:List D}{zs:List V}{its:List au}{aa:List (Key×D)},cN X.K H ds zs->Vals zs its->An ds=aj aa ->
  ∃ps,y8 X.K H aa ps/\its.length=ps.length/\∀(i:Nat)(v:au)(x:Key×au),its[i]?=aj v->ps[i]?=aj x->DN X.prog X.w s.heap v x
 |_,_,_,_,.nil,.nil,e=>by cases e;exact⟨[],.nil,rfl,λi v x e=>by simp at e⟩
 |d::ds,z::zs,u::its,aa,.cons r rs,.cons v vs,e=>by
  unfold An at e;split at e
  .rename_i p x3 e1 e2;cases e;let⟨ps,hp,hl,hq⟩:=Oo I rs vs e2;unfold Mh at e1;split at e1
   .rename_i y z';split at e1
    .rename_i k e3;cases e1;cases r with
     |@tup a xs _ sq rr _ =>
     obtain rfl:u=au.ref a:=v;cases rr with
     |cons r1 rr =>
     cases rr with
     |@cons _ vz _ _ r2 rr =>
     cases rr;have ek:=Ox r1 e3;subst ek;let⟨i2,vi,⟨o,h1,h2,n,h3⟩,_⟩:=I.tuple sq;cases vi with
     |@cons _ uk _ _ va vi =>
     cases vi with
     |@cons _ uz _ _ vb vi =>
     cases vi;refine⟨(k,uz)::ps,.cons r2 vb hp,by simp[hl],λi v x e1 e2=>?_⟩;cases i with
     |zero =>
      simp at e1 e2;subst e1 e2;exact⟨a,o,n,uk,rfl,h1,h2,by simpa using h3,wo va⟩
     |succ i=>exact hq i v x (by simpa using e1) (by simpa using e2)
    .cases e1
   .cases e1
  .cases e
abbrev sE:List D->Gp->dU->Prop:=λxs G R=>match xs with
 |[.ref a]=>(match bB G a with
  |some ds=>(match An ds with
   |some aa=>∀r,G r=bh->R (.ref r) (aG G r (.bD ao (BS [] aa)))
   |none=>False)
  |none=>False)
 |_=>False
private theorem VE(hc:X.calm=ak):cB X (.type "dict") sE:=by
 intro ψ s σ H xs vs us G R Q I rx rv g q k;unfold sE at q;split at q
 .rename_i a;split at q
  .rename_i ds e1;split at q
   .rename_i aa e2;cases rx with
    |cons r1 rr =>
    cases rr;cases r1;cases rv with
    |cons rv rr =>
    cases rr;cases rv;let⟨zs,hq,r⟩:=cT g e1;let⟨its,vi,⟨o,n,h1,h2,h3,h4⟩,hz⟩:=I.list hq;let⟨ps,hp,hl,Ge⟩:=Oo I r vi e2;have S4:ps.length<=dh:=by rw[←hl,←vi.length];exact hz
    refine XF (I.ok.hd hc) h1 h2 h4 h3 (by simpa using hl) S4 (λi v x e1 e2=>Ge i v x (by simpa using e1) e2) λh' tk hd kk=>?_;let⟨ys,kt,tw⟩:=hp.fold (k0:=[]) (y0:=[]) (p0:=[]) .nil .nil;have fr:H s.heap.objs.size=bh:=I.af.fresh (dz _);have sn:aI H (upd H s.heap.objs.size (.dK ys)):=bO fr;have SU:ys.length<=dh:=by rw[KV.length kt];have:=YI ps [];simp at this;omega
    have J:Inv X ψ σ (upd H s.heap.objs.size (.dK ys)) {s with heap:=h',toks:=tk}:=I.laid (t':=tk) (o:=.dK ys) kk (dz _) ⟨SU,(by have:=I.big;simp;exact Ae this),_,kt,hd⟩;exact⟨.ref s.heap.objs.size,_,J,rfl,k _ _ (.ref _) _ (.same sn) (.ref _) (g.put (u:=.bD ao _) fr (.inl ⟨rfl,ys,aN,tw.imp λ_ _ z=>⟨z.1,z.2.mono (.same sn)⟩⟩)) (q _ (eV g fr (lW J)))⟩
   .exact q.elim
  .exact q.elim
 .exact q.elim
end
end
section
open PySem.W
section
end
section
end
end
section
open PySem.W
variable{r:bw}
section
variable{prog:kj}{w:jj}{A:mq}{E:au->cu->Prop}{s:cu}
def XE{CV:List au->ju->Prop}
  (IY:∀(R:List au->cu->Prop)(E:au->cu->Prop),(∀vs h' tk,(∀b o,s.heap.get? b=aj o->h'.get? b=aj o)->CV vs h'->R vs {s with heap:=h',toks:=tk})->dj (fj prog w) A.in1 (collect (.ref r)) R E s)
  (hm:∀vs h1 tk,(∀b o,s.heap.get? b=aj o->h1.get? b=aj o)->CV vs h1->vs.length<64/\∃kf:Nat->Int,(∀i j,i<vs.length->j<vs.length->kf i=kf j->i=j) /\
   (2<=vs.length->∀h':ju,(∀b o,h1.get? b=aj o->h'.get? b=aj o)->BE prog w A.in1.in1 {s with toks:=tk} kf vs h') /\
   ∀(q:Array Nat)(h':ju)(c:Nat),Pm vs.length q->Up kf q vs.length->(∀b o,h1.get? b=aj o->h'.get? b=aj o)->h'.get? h1.objs.size=aj (qp "list" (q.toList.map λi=>vs.getD i au.none).toArray c)->Q (.ref h1.objs.size) {s with heap:=h',toks:=tk}):dj (fj prog w) A (call (.builtin "sorted") [.ref r]) Q E s:=by
 have big:1000<dh:=by decide
 refine Calls.call_function_entry kind_sorted plain_sorted entry_sorted (args_sorted1 _) ?_;unfold Builtin.«sorted»;refine aq (m:=checkCount "sorted" 1 1 _) (cg (aq (IY _ _ λvs h1 tk k1 cv=>?_)));let⟨dy,kf,hd,hk,h⟩:=hm vs h1 tk k1 cv;refine aq (wpAny_newList ?_ ⋯);have oL:(h1.push (qp "list" vs.toArray 0)).get? h1.objs.size=aj (qp "list" vs.toArray 0):=iz _ rfl;refine aq (su (ur (s:={s with heap:=h1.push (qp "list" vs.toArray 0),toks:=tk}) slot_list_sort ⟨_,oL,rfl⟩ entry_list_sort (Jt (kf:=kf) (s:={s with heap:=h1.push (qp "list" vs.toArray 0),toks:=tk}) oL dy hd (λl2 h' k'=>?_) λq P u=>⟨_,rfl,cg ⟨_,rfl,?_⟩⟩) (args_list_sort _)))
 .exact hk l2 h' λb o e=>k' b o (jq (ig e)) (cj _ e)
 .obtain⟨c,hc⟩:=M6 (h:=h1) (vs:=vs) (out:=(q.toList.map λi=>vs.getD i au.none).toArray);exact h q _ c P u (λb o e=>Oq e) hc
end
section
variable{X:Cx}
def Inv.grown{t':Nat}(I:Inv X ψ σ H s)(k:∀b u,s.heap.get? b=aj u->h'.get? b=aj u)(hs:aI H H')(hn:∀b u,H' b=aj u->H b=aj u∨(s.heap.objs.size<=b/\eX X.prog X.w H' h' b u)):Inv X ψ σ H' {s with heap:=h',toks:=t' }:=by
 refine I.un ⟨λb ob q _ _ _=>k b ob q,λb ob q _ _ _=>⟨ob.slots,k b ob q⟩,λb ob q n _=>?_,λb ob q _=>⟨ob,k b ob q⟩,λb xs q=>hs _ _ q,λb o u q=>hs _ _ q,λb ps q=>⟨#[],by rw[hs _ _ q];simp⟩⟩ λa o e=>?_
 .cases z:H' b with
  |none=>rfl
  |some u =>
   rcases hn b u z with w|⟨w,_⟩
   .rw[n]at w;cases w
   .exact absurd (ig q) (Nat.not_lt.mpr w)
 .rcases hn a o e with w|⟨_,w⟩
  .exact(I.af a o w).b5 (λc v _ q=>k c v q) (λc q=>hs _ _ q) λc xs q=>hs _ _ q
  .exact w
variable{σ:St}
def YH{H:Hp}(I:Inv X ψ σ H s)(k:∀b u,s.heap.get? b=aj u->h1.get? b=aj u){as:List bw}{ys:Nat->List V}{us:Nat->List au}(nd:as.Nodup)(hi:∀a∈as,s.heap.objs.size<=a)
  (ht:∀j a,as[j]?=aj a->Vals (ys j) (us j)/\(ys j).length<=dh/\IsTup h1 a (us j).toArray):∃H1,Inv X ψ σ H1 {s with heap:=h1,toks:=tk}/\aI H H1/\∀j a,as[j]?=aj a->H1 a=aj (.tup (ys j)):=by
 have fr:∀a∈as,H a=bh:=λa ha=>I.af.fresh (hi a ha)
 let H1:Hp:=λb=>if b∈as then aj (.tup (ys (as.idxOf b)))else H b
 have sm:aI H H1:=λb o e=>by
  show(if b∈as then _ else _)=_;rw[if_neg]
  .exact e
  .intro z;rw[fr b z]at e;cases e
 have gI:∀j a,as[j]?=aj a->H1 a=aj (.tup (ys j)):=λj a e=>by
  let⟨hj,e2⟩:=jd.mp e;show(if a∈as then _ else _)=_;rw[if_pos (qd e),←e2,nd.idxOf_getElem]
 refine⟨H1,I.grown k sm λb u e=>?_,sm,gI⟩;by_cases z:b∈as
 .right;refine⟨hi b z,?_⟩;let⟨j,hj⟩:=JK.mp z;have e3:=gI j b hj;rw[e3]at e;cases e;let⟨t1,t2,t3⟩:=ht j b hj;exact⟨t2,us j,t1,t3⟩
 .left;have e':(if b∈as then aj (.tup (ys (as.idxOf b)))else H b)=aj u:=e;rw[if_neg z]at e';exact e'
abbrev jD(p:Int×Int):DK×D:=(.inl (.inl p.1),.int p.2)
def HD{K:Fg}:∀{ps:List (Int×Int)}{ys:List (Key×V)},qH K H .inl (ps.map jD) ys->ys=ps.map λp=>(.inl p.1,.int p.2)
 |[],_,.nil=>rfl
 |p::ps,y::ys,.cons h r=>by
  let⟨k,v⟩:=y;let⟨h1,h2⟩:=h
  have e1:(Sum.inl p.1:Key)=k:=by
   have:(Sum.inl (Sum.inl p.1):DK)=.inl k:=h1;exact jU _ _ this
  cases h2;rw[HD r,←e1];rfl
def wb:∀{ps:List (Int×Int)}{vs:List (Key×au)},KV (ps.map λp=>((.inl p.1:Key),V.int p.2)) vs->vs.length=ps.length/\vs.map (·.1)=ps.map (λp=>(.inl p.1:Key))/\∀(j:Nat)(p:Int×Int),ps[j]?=aj p->∃t,vs[j]?=aj (.inl p.1,au.int p.2 t)
 |[],_,.nil=>⟨rfl,rfl,λj p e=>by simp at e⟩
 |p::ps,v::vs,.cons h r=>by
  let⟨a1,a2,a3⟩:=wb r;let⟨k,u⟩:=v;let⟨h1,t,h2⟩:=h;cases h1;cases h2;refine⟨by simp[a1],by simp[a2],λj q e=>?_⟩;cases j with
  |zero=>simp at e;subst e;exact⟨t,rfl⟩
  |succ j=>exact a3 j q (by simpa using e)
def Pp{K:Fg}:∀{ps:List (Int×Int)}{as:List bw},as.length=ps.length->(∀(j:Nat)(a:bw)(p:Int×Int),as[j]?=aj a->ps[j]?=aj p->H a=aj (.tup [.int p.1,.int p.2]))->cN K H (ps.map bW) (as.map V.ref)
 |[],[],_,_=>.nil
 |p::ps,a::as,hl,h=>by
  have e:=h 0 a p rfl rfl;exact .cons (.tup (.inl (.of e)) (.cons (.int _) (.cons (.int _) .nil)) (Bs e)) (Pp (by simpa using hl) λj b q e1 e2=>h (j+1) b q (by simpa using e1) (by simpa using e2))
def Om:∀as:List bw,Vals (as.map V.ref) (as.map au.ref)
 |[]=>.nil
 |_::r=>.cons rfl (Om r)
def ZE{H:Hp}{G:Gp}{R:dU}{Q:VK}(hc:X.calm=ak)(I:Inv X ψ σ H s)(g:HR X.K H G){a:bw}(e:G a=aj (.bD ao (ps.map jD)))(dy:ps.length<64)(hv:s.heap.IsItemsView r a)
  (h:∀qs:List (Int×Int),qs.Perm ps->c7 qs->∀r,G r=bh->R (.ref r) (aG G r (.lst (qs.map bW))))(k:∀v H' d G',Ts H H'->RD X.K H' d v->HR X.K H' G'->R d G'->Q v H'):dj (fj X.prog X.w) X.A (call (.builtin "sorted") [.ref r]) (EP X ψ σ Q) X.xe s:=by
 have big:1000<dh:=by decide
 rcases g a _ e with⟨_,ys,e1,tw⟩|⟨z,_⟩
 .have ey:=HD tw;subst ey;let⟨z1,de,vs,kv,hd⟩:=zB I.af e1;let⟨l1,l2,l3⟩:=wb kv;let⟨o,es,ep,q1,q2,q3,q4,q5,q6⟩:=hd;have Ge:s.heap.DictAt (aJ X.prog X.w) a vs ep:=⟨o,es,q1,q2,q3,q4,q5,q6⟩;have nk:(ps.map λp=>(.inl p.1:Key)).Nodup:=by rw[←l2];exact q6
  have nd:ps.Nodup:=(uc.mp nk).imp λh z=>h (by rw[z]);refine XE (CV:=λus h'=>∃as:List bw,us=as.map au.ref/\as.length=ps.length/\KdxG (aJ X.prog X.w) vs s.heap.objs.size h' as) (λR' E' hR=>kdx_collect (I.ok.hd hc) hv Ge ⋯ λh' tk as kk hl hG=>hR _ h' tk kk ⟨as,rfl,hl.trans l1,hG⟩) λus h1 tk k1 cv=>?_;let⟨as,rfl,hl,hG⟩:=cv
  have ex:∀j:Nat,∃uu:List au,∀b,as[j]?=aj b->Vals [V.int (ps.getD j (0,0)).1,V.int (ps.getD j (0,0)).2] uu/\IsTup h1 b uu.toArray:=λj=>by
   cases ea:as[j]? with
   |none=>exact⟨[],λb z=>by cases z⟩
   |some b =>
    let⟨key,kk,x,p1,p2,p3⟩:=hG.pairs j b ea;have hj:j<ps.length:=by rw[←hl];exact(jd.mp ea).1
    let⟨t,p4⟩:=l3 j ps[j] (gV hj);rw[p4]at p1;cases p1;have gd:ps.getD j (0,0)=ps[j]:=getD_at hj;refine⟨[key,au.int ps[j].2 t],λb' z=>?_⟩;cases z;rw[gd];refine⟨.cons ?_ (.cons ⟨t,rfl⟩ .nil),⟨_,p3,rfl,_,rfl⟩⟩;rcases cJ (show uG (Sum.inl ps[j].1) key=ak from p2)with⟨i,t',e1,e2⟩|⟨i,t',e1,e2⟩
    .cases e1;exact⟨t',e2⟩
    .cases e1
  let⟨us,Lj⟩:=Classical.axiomOfChoice ex;let⟨H1,I1,sm,gI⟩:=YH (tk:=tk) I k1 (as:=as) (ys:=λj=>[V.int (ps.getD j (0,0)).1,V.int (ps.getD j (0,0)).2]) (us:=us) (hG.rise.imp jq) (λb hb=>zy (hG.above b hb)) λj b e=>⟨(Lj j b e).1,by show 2<=dh;omega,(Lj j b e).2⟩
  have kr:cN X.K H1 (ps.map bW) (as.map V.ref):=Pp hl λj b p e1 e2=>by
   have z:=gI j b e1;let⟨hj,e3⟩:=jd.mp e2;rw[getD_at hj,e3]at z;exact z
  have vi:=Om as;let⟨B,b0,hB⟩:=uX ps;have hp:=pairs_at I1 kr vi;have hM:2*B<2*B+1:=by omega
  have g1:HR X.K H1 G:=g.same sm;refine⟨by rw[hp.1];exact dy,λi=>enc (2*B+1) (ps.getD i (0,0)),λi j hi hj e=>?_,λl2 h' kp=>wJ hM hB l2 ⟨hp.1,λi p ei=>?_⟩,λq h' c P u k2 ho=>?_⟩
  .rw[hp.1]at hi hj;exact Im nd hM hB i j hi hj e
  .obtain⟨a,o,n,x,y,z1,z2,z3,z4⟩:=hp.2 i p ei;exact⟨a,o,n,x,y,z1,kp _ _ z2,z3,z4⟩
  .exact Jq (s:={s with heap:=h1,toks:=tk}) (h1:=h1) (tk:=tk) I1 g1 kr vi nd dy hM hB (λv H' d G' t=>k v H' d G' ((Ts.same sm).trans t)) h P u (λ_ _ z=>z) k2 ho
 .cases z
abbrev sG(x:D)(G:Gp)(R:dU):Prop:=match x with
 |.ref a=>(match G a with
  |some (.bD ao aa)=>∃ps:List (Int×Int),aa=ps.map jD/\ps.length<64/\∀qs:List (Int×Int),qs.Perm ps->c7 qs->∀r,G r=bh->R (.ref r) (aG G r (.lst (qs.map bW)))
  |_=>False)
 |_=>False
private theorem ZD{x:D}(h:sG x G R):∃a,∃ps:List (Int×Int),x=.ref a/\G a=aj (.bD ao (ps.map jD))/\ps.length<64/\∀qs:List (Int×Int),qs.Perm ps->c7 qs->∀r,G r=bh->R (.ref r) (aG G r (.lst (qs.map bW))):=by
 unfold sG at h;split at h
 .split at h
  .rename_i e;let⟨ps,rfl,h1,h2⟩:=h;exact⟨_,ps,rfl,e,h1,h2⟩
  .exact h.elim
 .exact h.elim
abbrev EN(to:cA):cA:=λρ G R=>to ρ G λx G1=>sG x G1 R
def VD{K:Fg}(g:HR K H G)(e:G a=aj (.bD ao aa)):nV H a:=by
 rcases g a _ e with⟨_,ys,e1,_⟩|⟨z,_⟩
 .exact .inl ⟨ys,.of e1⟩
 .cases z
def VC{apos ai:Pos}(hc:X.calm=ak)(ho:cC X o to)(hg:Gl X x)(hm:X.mg x=bh)(hv:oh x=aj (.builtin "sorted"))(hn:x≠"__name__")(fA:(x==("__debug__":Str))=ao)
  (bP:pd o "items" X.env (eval o X.env)=eval o X.env)(bE:(apos.endLine==ai.line)=ak) :
  cC X (.Call (.Name x p) [.Call (.Attribute o "items" apos) [] [] ai] [] pos) (EN to):=by
 intro ψ s σ H Q I h;let⟨ρ,G,R,sr,g,q,kk⟩:=h;refine yp (uI I hg hm hv ?_ hn fA);refine PyProof.Rows.callWith_builtin1 (Calls.spliced_cons ?_);refine JM bP bE (cV (ho ψ s σ H (λvx H1=>Ts H H1/\∃x G1,RD X.K H1 x vx/\HR X.K H1 G1/\sG x G1 R) I ⟨ρ,G,_,sr,g,q,λv H1 x G1 t1 r1 g1 q1=>⟨t1,x,G1,r1,g1,q1⟩⟩) ?_);rintro v s1 ⟨vx,H1,I1,r1,t1,x1,G1,rx,g1,q1⟩;let⟨a,ps,rfl,e1,dy,hq⟩:=ZD q1;cases rx;obtain rfl:v=au.ref a:=r1;let⟨h1,h2,h3⟩:=BY I1 (VD g1 e1);refine⟨"dict","dict.items",PySem.F.plainAttrs_dict,PySem.F.slot_dict_items,PySem.F.type_dict_items,h1,h2,Calls.callWith_builtin rfl (PySem.evalArgs_none ?_)⟩;rcases g1 a _ e1 with⟨_,ys,e2,tw⟩|⟨z,_⟩
 .obtain⟨z1,de,vs,kv,hd⟩:=zB I1.af e2;refine call_meetsIn PySem.F.slot_dict_items h1 PySem.F.entry_dict_items (PySem.F.args_dict_items_1 _) (meets_dict_items (aJ X.prog X.w) a de) ⟨⟨vs,hd⟩,?_⟩;refine Calls.spliced_nil ?_;have I2:Inv X ψ σ H1 {s1 with heap:=s1.heap.push {cls:=.type "dict_items",data:=.fields #[.ref a]},toks:=s1.toks}:=I1.kept λb o e=>cj _ e;exact ZE (s:={s1 with heap:=s1.heap.push {cls:=.type "dict_items",data:=.fields #[.ref a]}}) hc I2 g1 e1 dy ⟨_,iz _ rfl,rfl,rfl⟩ hq λv H' d G' t=>kk v H' d G' (t1.trans t)
 .cases z
end
end
section
open PySem.W
section
variable{prog:kj}{w:jj}{A:mq}{E:au->cu->Prop}{s:cu}
abbrev DL(prog:kj)(w:jj)(A:mq)(s:cu)(x y:au)(b:Bool):Prop:=∀(E:au->cu->Prop)(Q:Bool->cu->Prop),Q b s->dj (fj prog w) A (eqBool x y) Q E s
abbrev i6(ps qs:List (Int×Int)):Bool:=ps.length==qs.length&&ps.all λp=>aQ qs p.1==aj p.2
def Ol{i:Int}:∀qs:List (Int×Int),uK (qs.map λp=>((.inl p.1:Key),V.int p.2)) (.inl i)=(aQ qs i).map V.int
 |[]=>rfl
 |q::qs=>by
  rw[iw];by_cases c:q.1=i
  .rw[uM (by rw[c])];show _=(if q.1=i then aj q.2 else aQ qs i).map V.int;rw[if_pos c];rfl
  .rw[uN (λz=>c (by simpa using z)),Ol qs];show _=(if q.1=i then aj q.2 else aQ qs i).map V.int;rw[if_neg c]
def EM{qs:List (Int×Int)}(hb:KV (qs.map λp=>((.inl p.1:Key),V.int p.2)) kb):∀{ps:List (Int×Int)}{ka:List (Key×au)},KV (ps.map λp=>((.inl p.1:Key),V.int p.2)) ka->KeqHits A s kb ka (ps.all λp=>aQ qs p.1==aj p.2)
 |[],_,.nil=>.nil
 |p::ps,v::ka,.cons h r=>by
  let⟨k,u⟩:=v;let⟨h1,t,h2⟩:=h;cases h1;cases h2;have ih:=EM hb r;have vl:=KV.val hb (.inl p.1);rw[Ol]at vl;rw[nB];cases e:aQ qs p.1 with
  |none =>
   rw[e]at vl
   have e2:valueAt kb (.inl p.1)=bh:=by
    cases z:valueAt kb (.inl p.1)with
    |none=>rfl
    |some y=>rw[z]at vl;exact vl.elim
   exact .miss e2
  |some y =>
   rw[e]at vl;cases z:valueAt kb (.inl p.1)with
   |none=>rw[z]at vl;exact vl.elim
   |some u =>
    rw[z]at vl;obtain⟨t',e3⟩:∃t',u=au.int y t':=vl;subst e3
    have eb:((aj y:Option Int)==aj p.2)=(p.2==y):=by
     show(y==p.2)=_;exact EY.mpr ⟨λz=>beq_iff_eq.mpr (beq_iff_eq.mp z).symm,λz=>beq_iff_eq.mpr (beq_iff_eq.mp z).symm⟩
    rw[eb];exact .hit z ((MeetsSeq.EqGives.int _ _ _ _).at _ _) ih
def VB{b:bw}{qs:List (Int×Int)}(ha:(a==qy)=ao)(hb:(b==qy)=ao)(da:s.heap.DictOf (aJ prog w) a ka)(db:s.heap.DictOf (aJ prog w) b kb)(va:KV (ps.map λp=>((.inl p.1:Key),V.int p.2)) ka)(vb:KV (qs.map λp=>((.inl p.1:Key),V.int p.2)) kb)(hu:A.units<qg)(sm:a=b->i6 ps qs=ak):DL prog w A s (.ref a) (.ref b) (i6 ps qs):=by
 intro E Q hq;unfold eqBool;refine su ?_;show dj _ _ (if(au.ref a==au.ref b)=ak then _ else _) Q E s;by_cases c:(au.ref a==au.ref b)=ak
 .rw[if_pos c];have e:a=b:=by have:=eq_of_beq c;injection this
  rw[sm e]at hq;exact aq (k8 (cg hq))
 .rw[if_neg c];refine aq (show dj _ _ (qx .Eq (.ref a) (.ref b)) _ _ _ from keq_eq ha hb da db hu (λ_=>EM vb va) ?_);have l1:=(wb va).1;have l2:=(wb vb).1;rw[l1,l2];exact yg hq
section
variable{κ:Type}[DecidableEq κ]{knd:HeapKind prog w κ}
inductive tL(prog:kj)(w:jj)(A:mq)(s:cu)(xb:List (κ×bw×au)):List (κ×bw×au)->Bool->Prop
 |nil:tL prog w A s xb [] ak
 |miss {k:κ} {p:bw×au} {r:List (κ×bw×au)}:atKey xb k=bh->tL prog w A s xb ((k,p)::r) ao
 |hit {k:κ} {p q:bw×au} {r:List (κ×bw×au)} {e b:Bool}:atKey xb k=aj q->DL prog w A s p.2 q.2 e->tL prog w A s xb r b->tL prog w A s xb ((k,p)::r) (e&&b)
def tL.inv{k:κ}{p:bw×au}{b:Bool}(h:tL prog w A s xb ((k,p)::r) b) :
  (atKey xb k=bh/\b=ao)∨∃q e b',atKey xb k=aj q/\DL prog w A s p.2 q.2 e/\tL prog w A s xb r b'/\b=(e&&b'):=by
 cases h with
 |miss z=>exact .inl ⟨z,rfl⟩
 |hit z y x=>exact .inr ⟨_,_,_,z,y,x,rfl⟩
variable{r:Bool}
private theorem Po{nm:String}{b:bw}{xa xb:List (κ×bw×au)}{Q:Bool->cu->Prop}(na:(a==qy)=ao)(nb:(b==qy)=ao)(da:s.heap.DictOfH knd a xa)(db:s.heap.DictOfH knd b xb)(hu:knd.room A)
  (hits:xa.length=xb.length->tL prog w A s xb xa r)(h:Q (xa.length==xb.length&&r) s):dj (fj prog w) A (Builtin.Dict.samePairs nm a b) Q E s:=by
 let⟨o1,es,ep,g1,_,g3,g4,g5,g6⟩:=da;let⟨o2,fs,fp,f1,_,f3,f4,f5,f6⟩:=db;have la:xa.length=es.size:=(size_of_entries g4).symm;have lb:xb.length=fs.size:=(size_of_entries f4).symm;rw[la,lb]at h;unfold Builtin.Dict.samePairs Builtin.Dict.showsAll;rw[if_neg (by rw[na];decide),if_neg (by rw[nb];decide)];refine aq (cg (aq (cg (aq (xq g1 g3 ?_)))));dsimp only;refine aq (xq f1 f3 ?_);by_cases sz:es.size=fs.size
 case neg =>
  rw[if_pos (by simpa using sz)];rw[show(es.size==fs.size)=ao by simpa using sz,Bool.false_and]at h;exact aq (k8 (cg h))
 case pos =>
  have hr:Q r s:=by simpa[sz]using h
  have ht:=hits (by rw[la,lb];exact sz);rw[if_neg (by rw[sz];simp)];refine aq (wpAny_dictEpoch g1 g3 (aq ?_));rw[Std.Legacy.Range.forIn_eq_forIn_range'];simp only[Std.Legacy.Range.size,Nat.sub_zero,Nat.add_sub_cancel,Nat.div_one];refine wpAny_forIn_list _ (λrest q s'=>s'=s/\q=(bh,())/\∃i,rest=B0 i (es.size - i)/\i<=es.size/\tL prog w A s xb (xa.drop i) r) _ ?_ ?_ _ _ ⟨rfl,rfl,0,by simp,ud _,ht⟩
  .rintro x rest q s' ⟨rfl,rfl,i,e1,i1,pre⟩
   have lt:i<es.size:=by
    rcases B2 i es.size with z|z
    .exact z
    .rw[Nat.sub_eq_zero_of_le z]at e1;simp at e1
   obtain⟨rfl,e2⟩:x=i/\rest=B0 (i+1) (es.size - (i+1)):=by
    rw[show es.size - i=(es.size - (i+1))+1 by omega,List.range'_succ]at e1;injection e1 with z1 z2;exact⟨z1,z2⟩
   refine aq (xq g1 g3 ?_);have lx:x<xa.length:=by rw[la];exact lt
   have en:es[x]?=aj (entryOfKey knd xa[x]):=by rw[entry_at g4 x,gV lx];rfl
   rw[en];obtain⟨k,p,kp⟩:∃k p,xa[x]=(k,p):=⟨_,_,rfl⟩;have dr:xa.drop x=(k,p)::xa.drop (x+1):=by rw[←kp];exact List.drop_eq_getElem_cons lx
   have hk:knd.is s'.heap k p.1:=by have:=g5 xa[x] (sk lx);rw[kp]at this;exact this
   rw[dr]at pre;rw[kp];show dj _ _ (holding [au.ref p.1,p.2] _ >>= _) _ _ _;refine aq (su (aq ?_));refine wpAny_dictFind_heap hu hk f1 f3 f4 f5 f6 (λno=>?_) λj q2 hj=>?_
   .have z:=atKey_none_of_get no;rcases pre.inv with⟨_,er⟩|⟨_,_,_,hy,_⟩
    .rw[er]at hr;refine cg ?_;show dj _ _ (if(!false)=ak then _ else _) _ _ _;rw[if_pos (by decide)];exact cg (cg hr)
    .rw[z]at hy;cases hy
   .have z:=atKey_of_get f6 hj;refine aq (xq f1 f3 ?_);rw[entry_at f4 j,hj];rcases pre.inv with⟨hn,_⟩|⟨q3,e,b',hy,he,Lo,er⟩
    .rw[z]at hn;cases hn
    .rw[z]at hy;cases hy;refine su (he _ _ ?_);cases e with
     |false =>
      rw[er,Bool.false_and]at hr;show dj _ _ (if(!false)=ak then _ else _) _ _ _;rw[if_pos (by decide)];exact cg (cg hr)
     |true =>
      rw[Bool.true_and]at er;rw[←er]at Lo;show dj _ _ (if(!true)=ak then _ else _) _ _ _;rw[if_neg (by decide)];refine aq (wpAny_dictEpoch g1 g3 ?_);rw[if_neg (by simp)];exact cg ⟨rfl,rfl,x+1,e2,lt,Lo⟩
  .rintro q s' ⟨rfl,rfl,i,e1,i1,pre⟩
   have en:i=es.size:=by
    rcases B2 i es.size with z|z
    .rw[show es.size - i=(es.size - (i+1))+1 by omega,List.range'_succ]at e1;cases e1
    .exact Nat.le_antisymm i1 z
   refine cg ?_;rw[en,←la,List.drop_length]at pre;cases pre;exact hr
def dM{d:bw}(h:s.heap.DictOfH knd d xs):s.TypeIs (.ref d) "dict":=let⟨o,_,_,h1,h2,_⟩:=h;⟨o,h1,h2.1⟩
def aC0{b:bw}{xa xb:List (κ×bw×au)}(na:(a==qy)=ao)(nb:(b==qy)=ao)(da:s.heap.DictOfH knd a xa)(db:s.heap.DictOfH knd b xb)(hu:A.units<qg)(hr:knd.room A.in1)
  (hits:xa.length=xb.length->tL prog w A.in1 s xb xa r)(h:Q (.bool (xa.length==xb.length&&r)) s):dj (fj prog w) A (qx .Eq (.ref a) (.ref b)) Q E s:=by
 refine wpAny_richCompare_same_room (op:=.Eq) (dM da) (dM db) PySem.F.slot_dict_eq (ur PySem.F.slot_dict_eq (dM da) PySem.F.entry_dict_eq ?_ (PySem.F.args_dict_eq_2 _ _)) hu;show dj _ _ (Builtin.Dict.dictSlotArgs "__eq__" ⟨[.ref a,.ref b],[]⟩ >>= _) _ _ s;refine aq ?_;unfold Builtin.Dict.dictSlotArgs;refine aq (wpAny_notOrdered_dict (dM da) ?_);show dj _ _ (pure (au.ref a,au.ref b)) _ _ s;refine cg (aq (wpAny_isInstance (T:="dict") (dM db) PySem.F.sub_dict_dict ?_));simp only[vm,jf,if_false];refine aq (cg (aq (cg (aq (Po na nb da db hr hits (cg ⟨_,rfl,(λx=>nomatch x),?_⟩))))));simpa using h
def tup_ne{b:bw}{xa xb:List (κ×bw×au)}(na:(a==qy)=ao)(nb:(b==qy)=ao)(da:s.heap.DictOfH knd a xa)(db:s.heap.DictOfH knd b xb)(hu:A.units<qg)(hr:knd.room A.in1)
  (hits:xa.length=xb.length->tL prog w A.in1 s xb xa r)(h:Q (.bool (!(xa.length==xb.length&&r))) s):dj (fj prog w) A (qx .NotEq (.ref a) (.ref b)) Q E s:=by
 refine wpAny_richCompare_same_room (op:=.NotEq) (dM da) (dM db) PySem.F.slot_dict_ne (ur PySem.F.slot_dict_ne (dM da) PySem.F.entry_dict_ne ?_ (PySem.F.args_dict_ne_2 _ _)) hu;show dj _ _ (Builtin.Dict.dictSlotArgs "__ne__" ⟨[.ref a,.ref b],[]⟩ >>= _) _ _ s;refine aq ?_;unfold Builtin.Dict.dictSlotArgs;refine aq (wpAny_notOrdered_dict (dM da) ?_);show dj _ _ (pure (au.ref a,au.ref b)) _ _ s;refine cg (aq (wpAny_isInstance (T:="dict") (dM db) PySem.F.sub_dict_dict ?_));simp only[vm,jf,if_false];refine aq (cg (aq (cg (aq (Po na nb da db hr hits (cg ⟨_,rfl,(λx=>nomatch x),?_⟩))))));simpa using h
end
end
def YG(nd:(ps.map (·.1)).Nodup):∀p∈ps,aQ ps p.1=aj p.2:=by
 induction ps with
 |nil=>intro p hp;cases hp
 |cons q ps ih =>
  intro p hp;rw[iw,tu]at nd;show(if q.1=p.1 then aj q.2 else aQ ps p.1)=_;rcases lg.mp hp with rfl|hp
  .rw[if_pos rfl]
  .rw[if_neg]
   .exact ih nd.2 p hp
   .intro e;exact nd.1 (by rw[e];exact JG hp)
def Pn(nd:(ps.map (·.1)).Nodup):i6 ps ps=ak:=by
 unfold i6;rw[beq_self_eq_true,Bool.true_and,jl];intro p hp;rw[YG nd p hp];exact beq_self_eq_true _
abbrev n6(z:List Key×bw):DK×D:=(.inr z.1,.ref z.2)
abbrev eqT(c:bw->List (Int×Int))(M N:List (List Key×bw)):Bool:=M.length==N.length&&M.all λz=>match aQ N z.1 with
 |some y=>i6 (c z.2) (c y)
 |none=>ao
def M5{K:Fg}:∀{M:List (List Key×bw)}{ys:List (List Key×V)},qH K H .inr (M.map n6) ys->ys=M.map λz=>(z.1,.ref z.2)
 |[],_,.nil=>rfl
 |z::M,y::ys,.cons h r=>by
  let⟨k,v⟩:=y;let⟨h1,h2⟩:=h
  have e1:z.1=k:=by
   have:(Sum.inr z.1:DK)=.inr k:=h1;exact jV _ _ this
  cases h2;rw[M5 r,←e1];rfl
def kt_len:∀{M:List (List Key×bw)}{xs:List (List Key×bw×au)},KT H (M.map λz=>(z.1,V.ref z.2)) xs->xs.length=M.length
 |[],_,.nil=>rfl
 |_::_,_::_,.cons _ r=>by rw[uw,uw,kt_len r]
def kt_at{k:List Key}:∀{M:List (List Key×bw)}{xs:List (List Key×bw×au)},KT H (M.map λz=>(z.1,V.ref z.2)) xs->(match aQ M k with
  |some y=>∃b,atKey xs k=aj (b,au.ref y)
  |none=>atKey xs k=bh)
 |[],_,.nil=>rfl
 |z::M,x::xs,.cons h r=>by
  let⟨k2,b,u⟩:=x;let⟨h1,_,h3⟩:=h;cases h1;obtain rfl:u=au.ref z.2:=h3;have ih:=kt_at (k:=k) r;unfold aQ;by_cases c:z.1=k
  .rw[if_pos c];exact⟨b,by simp[atKey,c]⟩
  .rw[if_neg c];have e:atKey ((z.1,b,au.ref z.2)::xs) k=atKey xs k:=by simp[atKey,xc,c]
   rw[e];exact ih
def Oj{prog:kj}{w:jj}{A:mq}{s:cu}{H:Hp}{c:bw->List (Int×Int)}{N:List (List Key×bw)}{xb:List (List Key×bw×au)}(hb:KT H (N.map λz=>(z.1,V.ref z.2)) xb)  :
  ∀{M:List (List Key×bw)}{xa:List (List Key×bw×au)},KT H (M.map λz=>(z.1,V.ref z.2)) xa->(∀z∈M,∀y,aQ N z.1=aj y->DL prog w A s (.ref z.2) (.ref y) (i6 (c z.2) (c y)))->tL prog w A s xb xa (M.all λz=>match aQ N z.1 with
   |some y=>i6 (c z.2) (c y)
   |none=>ao)
 |[],_,.nil,_=>.nil
 |z::M,x::xa,.cons h r,he=>by
  let⟨k2,b,u⟩:=x;let⟨h1,_,h3⟩:=h;cases h1;obtain rfl:u=au.ref z.2:=h3;have ih:=Oj hb r λz hz=>he z (qu _ hz);have gI:=kt_at (k:=z.1) hb;have e0:=he z (wk ..);rw[nB];cases e:aQ N z.1 with
  |none=>rw[e]at gI;exact .miss gI
  |some y =>
   rw[e]at gI;let⟨b2,at2⟩:=gI;exact .hit at2 (e0 y e) ih
def XD{k:List Key}(h:aQ M k=aj y):(k,y)∈M:=by
 induction M with
 |nil=>cases h
 |cons z M ih =>
  unfold aQ at h;by_cases c:z.1=k
  .rw[if_pos c]at h;cases h;rw[←c];exact wk ..
  .rw[if_neg c]at h;exact qu _ (ih h)
section
variable{X:Cx}
def D8(I:Inv X ψ σ H s)(g:HR X.K H G)(e:G a=aj (.bD ao (ps.map jD))):(a==qy)=ao/\(ps.map (·.1)).Nodup/\∃ka,KV (ps.map λp=>((.inl p.1:Key),V.int p.2)) ka/\s.heap.DictOf (aJ X.prog X.w) a ka:=by
 rcases g a _ e with⟨_,ys,e1,tw⟩|⟨z,_⟩
 .have ey:=HD tw;subst ey;let⟨z1,de,vs,kv,hd⟩:=zB I.af e1;refine⟨de,?_,vs,kv,hd⟩;have l2:=(wb kv).2.1;let⟨o,es,ep,q1,q2,q3,q4,q5,q6⟩:=hd;rw[l2]at q6;exact uc.mpr ((uc.mp q6).imp λh z=>h (by rw[z]))
 .cases z
def Oi(I:Inv X ψ σ H s)(g:HR X.K H G){M:List (List Key×bw)}(e:G a=aj (.bD ak (M.map n6))):(a==qy)=ao/\∃xa,KT H (M.map λz=>(z.1,V.ref z.2)) xa/\s.heap.DictOfH (ny (aJ X.prog X.w)) a xa:=by
 rcases g a _ e with⟨z,_⟩|⟨_,ys,e1,tw⟩
 .cases z
 .have ey:=M5 tw;subst ey;let⟨z1,de,xs,kt,hd⟩:=rq I.af e1;exact⟨de,xs,kt,hd⟩
abbrev xA(neg:Bool):R3:=λx y G R =>
 (∃a b,∃ps qs:List (Int×Int),x=.ref a/\y=.ref b/\G a=aj (.bD ao (ps.map jD))/\G b=aj (.bD ao (qs.map jD))/\R (.bl (neg ^^ i6 ps qs)) G) ∨
 ∃a b,∃M N:List (List Key×bw),∃c:bw->List (Int×Int),x=.ref a/\y=.ref b/\G a=aj (.bD ak (M.map n6))/\G b=aj (.bD ak (N.map n6))/\(∀z∈M++N,G z.2=aj (.bD ao ((c z.2).map jD)))/\R (.bl (neg ^^ eqT c M N)) G
def aHA(hu:X.A.units+64<qg){neg:Bool}:uE X (qx (if neg then .NotEq else .Eq)) (xA neg):=Ew λψ s σ H x y vx vy u v G R Q I rx ry ru rv g q k=>by
 have in1:X.A.in1.units=X.A.units+1:=rfl;rcases q with⟨a,b,ps,qs,rfl,rfl,e1,e2,q⟩|⟨a,b,M,N,c,rfl,rfl,e1,e2,hc,q⟩
 .cases rx;cases ry;obtain rfl:u=au.ref a:=ru;obtain rfl:v=au.ref b:=rv;let⟨n1,_,ka,va,da⟩:=D8 I g e1;let⟨n2,_,kb,vb,db⟩:=D8 I g e2;have l1:=(wb va).1;have l2:=(wb vb).1;have fin:∀bb:Bool,bb=(neg ^^ i6 ps qs)->EP X ψ σ Q (.bool bb) s:=λbb eb=>⟨.bl bb,H,I,rfl,k _ H (.bl bb) G (.refl H) (.bl _) g (by rw[eb];exact q)⟩;cases neg with
  |false=>exact keq_eq n1 n2 da db ⋯ (λ_=>EM vb va) (fin _ (by rw[l1,l2];simp[i6]))
  |true=>exact keq_ne n1 n2 da db ⋯ (λ_=>EM vb va) (fin _ (by rw[l1,l2];simp[i6]))
 .cases rx;cases ry;obtain rfl:u=au.ref a:=ru;obtain rfl:v=au.ref b:=rv;let⟨n1,xa,va,da⟩:=Oi I g e1;let⟨n2,xb,vb,db⟩:=Oi I g e2;have l1:=kt_len va;have l2:=kt_len vb;have fin:∀bb:Bool,bb=(neg ^^ eqT c M N)->EP X ψ σ Q (.bool bb) s:=λbb eb=>⟨.bl bb,H,I,rfl,k _ H (.bl bb) G (.refl H) (.bl _) g (by rw[eb];exact q)⟩
  have hits:=Oj (prog:=X.prog) (w:=X.w) (A:=X.A.in1) (s:=s) (c:=c) vb va λz hz y hy=>by
   let⟨m1,FV,k1,w1,d1⟩:=D8 I g (hc z (JJ _ hz));let⟨m2,kF,k2,w2,d2⟩:=D8 I g (hc _ (um _ (XD hy)));exact VB m1 m2 d1 d2 w1 w2 ⋯ λe=>by rw[e];exact Pn kF
  cases neg with
  |false=>exact aC0 n1 n2 da db ⋯ (show X.A.in1.units<qg by omega) (λ_=>hits) (fin _ (by rw[l1,l2];simp[eqT]))
  |true=>exact tup_ne n1 n2 da db ⋯ (show X.A.in1.units<qg by omega) (λ_=>hits) (fin _ (by rw[l1,l2];simp[eqT]))
end
end
section
open PySem.W
section
variable{X:Cx}{A:mq}{E:au->cu->Prop}
def YF{Q:Unit->cu->Prop}(hu:A.units<qg)(I:Inv X ψ σ H s)(g:qB H a y v H')(ry:RelV y u)(rv:RelV v r)(h:∀s',Inv X ψ σ H' s'->Q () s'):dj (fj X.prog X.w) A (dictSet a u r) Q E s:=by
 rcases g with⟨aa,k,e,ey,l,eH⟩|⟨aa,k,b,e,ey,eb,l,eH⟩
 .subst ey eH;let⟨z,hd,vs,rel,dd⟩:=zB I.af e;have lp:=lE aa k v;refine wpAny_dictSet_pairs (hsz:=by rw[←rel.length];exact z) (wo ry) dd λh' d2 hs=>h _ (iJ I (by rw[e];exact True.intro) hs (let⟨q,_,_,hq,_⟩:=d2;⟨q,hq⟩) (HN ⋯ hd (rel.put k rv) d2))
 .subst ey eH;cases(show u=au.ref b from ry);let⟨z,hd,xs,rel,dd⟩:=rq I.af e;have lp:=lE aa k v;refine wpAny_dictSet_heap (hsz:=by rw[←Paired.length rel];exact z) (show A.units<qg from hu) (yN I.af eb) dd λh' d2 hs=>h _ ?_;let⟨q,es,ep,hq,h2,h3,h4,_,h5⟩:=d2;refine iJ I (by rw[e];exact True.intro) hs ⟨q,hq⟩ ⟨⋯,hd,_,(rel.put k eb rv).keeps λc ys ec=>?_,q,es,ep,hq,h2,h3,h4,h5⟩;rw[aZ (Ef ec e (λz=>nomatch z))];exact ec
end
end
variable{es en:Array lh}{ep:Nat}{al:Bool}
section
open PySem.W
structure Fz(X:Cx)(p:bw):Prop where
 free:∀ob,X.ar.heap.get? p=aj ob->X.aw p=bh->p∈X.ex
 tup:∀xs,X.aw p≠aj (.tup xs)
 fY:∀o w,X.aw p≠aj (.fY o w)
 fT:∀ps,X.aw p≠aj (.fT ps)
section
variable{ψ:List (bw×Obj)}{s:cu}
def Fz.of(I:Inv X ψ σ H s)(hu:H p=aj u)(h1:∀xs,u≠.tup xs)(h2:∀ob w,u≠.fY ob w)(h3:∀ps,u≠.fT ps):Fz X p:=by
 refine⟨λob q n=>?_,λxs q=>?_,λo w q=>?_,λps q=>?_⟩
 .apply Classical.byContradiction;intro hx;have:=I.base.free p ob q n hx;rw[hu]at this;cases this
 .have:=I.base.aE p xs q;rw[hu]at this;exact h1 xs (jk.inj this)
 .have:=I.base.lZ p o w q;rw[hu]at this;exact h2 o w (jk.inj this)
 .obtain⟨more,this⟩:=I.base.yL p ps q;rw[hu]at this;exact h3 _ (jk.inj this)
end
section
variable{X:Cx}{ψ:List (bw×Obj)}{s:cu}
def Inv.freeze(I:Inv X ψ σ H s)(hu:H a=aj u)(h1:∀xs,u≠.tup xs)(h2:∀ob w,u≠.fY ob w)(h3:∀ps,u≠.fT ps)(h4:∀x,u≠.own x)(ho:s.heap.get? a=aj o):Inv X ψ σ (upd H a (.fY o u)) s:=by
 have ne:∀{b:bw}{v:HO},H b=aj v->v≠u->b≠a:=λe n z=>by subst z;rw[hu]at e;exact n (jk.inj e).symm
 have no:∀{b:bw},H b=bh->upd H a (.fY o u) b=bh:=λ{b} e=>by
  rw[aZ];exact e;intro z;subst z;rw[hu]at e;cases e
 have kt:∀b xs,H b=aj (.tup xs)->upd H a (.fY o u) b=aj (.tup xs):=λb xs q=>by rw[aZ (ne q λz=>h1 xs z.symm)];exact q
 have kf:∀b ob w,H b=aj (.fY ob w)->upd H a (.fY o u) b=aj (.fY ob w):=λb ob w q=>by rw[aZ (ne q λz=>h2 ob w z.symm)];exact q
 have ko:∀b x,H b=aj (.own x)->upd H a (.fY o u) b=aj (.own x):=λb x q=>by rw[aZ (ne q λz=>h4 x z.symm)];exact q
 refine⟨I.ok,I.os,I.bare,⟨I.base.keep,I.base.slot,λb ob q n hx=>no (I.base.free b ob q n hx),I.base.there,λb xs q=>kt b xs (I.base.aE b xs q),λb ob w q=>kf b ob w (I.base.lZ b ob w q),λb ps q=>?_⟩,I.loc,I.cell,no I.free,λx c e=>no (I.uH x c e),λp hp=>?_,λb v e=>?_,I.len,I.b8.mono kf,λp hp=>kt _ _ (I.tup p hp)⟩
 .obtain⟨more,e⟩:=I.base.yL b ps q;exact⟨more,by rw[aZ (ne e λz=>h3 _ z.symm)];exact e⟩
 .obtain⟨z1,z2,z3⟩:=I.pin p hp;exact⟨z1,no z2,z3⟩
 .by_cases hb:b=a
  .subst hb;rw[aN]at e;obtain rfl:=jk.inj e;exact⟨ho,(I.af b u hu).b5 (λ_ _ _ q=>q) (λc q=>ko c _ q) λc xs q=>kt c xs q⟩
  .rw[aZ hb]at e;exact(I.af b v e).b5 (λ_ _ _ q=>q) (λc q=>ko c _ q) λc xs q=>kt c xs q
def M4(r:KV ys vs):∀{i:Nat}{k:Key}{y:V},ys[i]?=aj (k,y)->∃u,vs[i]?=aj (k,u)/\RelV y u:=by
 induction r with
 |nil=>intro i k y e;simp at e
 |@cons p q _ _ h _ ih =>
  intro i k y e;cases i with
  |zero =>
   simp only[zp,jk.injEq]at e;subst e;let⟨q1,q2⟩:=q;let⟨h1,h2⟩:=h;exact⟨q2,by simp only[zp];rw[show q1=k from h1.symm],h2⟩
  |succ i=>simpa using ih (by simpa using e)
def Oh{k:Key}{key:au}(h:uG k key=ak):RelV (kV k) key:=by
 rcases cJ h with⟨i,t,e1,e2⟩|⟨i,t,e1,e2⟩
 .subst e1;exact⟨t,e2⟩
 .subst e1;exact⟨t,e2⟩
def XC{od:Obj}(I:Inv X ψ σ H s)(hd:od.data=.dict es ep)(hq:H a=aj (.fY od (.dK ys))) :
  ∃vs,KV ys vs/\s.heap.DictAt (aJ X.prog X.w) a vs ep/\vs.length=es.size/\(a==qy)=ao:=by
 let⟨b7,_⟩:=(show s.heap.get? a=aj od/\_ from I.af a _ hq);let⟨_,de,vs,kv,o1,uA,uB,g1,g2,g3,g4,g5,g6⟩:=rV I.af (.inr ⟨od,hq⟩);rw[b7]at g1;obtain rfl:=jk.inj g1;rw[hd]at g3;injection g3 with e1 e2;subst e1 e2;exact⟨vs,kv,⟨od,es,b7,g2,hd,g4,g5,g6⟩,by rw[←g5.length];simp,de⟩
end
def HC{K:Fg}:∀k:Key,RD K H (kD k) (kV k)
 |.inl i=>.int i
 |.inr x=>.str x
def Pl{K:Fg}:∀ks:List Key,cN K H (ks.map kD) (ks.map kV)
 |[]=>.nil
 |k::ks=>.cons (HC k) (Pl ks)
def Og{α β:Type}{P:α->β->Prop}{as:List α}{bs:List β}(t:c6 P as bs):∀{i:Nat}{b:β},bs[i]?=aj b->∃a,as[i]?=aj a/\P a b:=by
 induction t with
 |nil=>intro i b e;simp at e
 |@cons a b _ _ h _ ih =>
  intro i c e;cases i with
  |zero=>simp only[zp,jk.injEq]at e;subst e;exact⟨a,rfl,h⟩
  |succ i=>simpa using ih (by simpa using e)
section
end
abbrev RX(a:bw)(od:Obj):It :=
 ⟨λi H=>∃ys:List (Key×V),H a=aj (.fY od (.dK ys))/\i<ys.length,
  λi H v H'=>H'=H/\∀ys,H a=aj (.fY od (.dK ys))->∃k y,ys[i]?=aj (k,y)/\v=kV k,
  λi H=>∃ys:List (Key×V),H a=aj (.fY od (.dK ys))/\ys.length<=i⟩
abbrev RW(a:bw)(od:Obj):It :=
 ⟨λi H=>∃ys:List (List Key×V),H a=aj (.fY od (.dT ys))/\i<ys.length,
  λi H v H'=>H'=H/\∀ys,H a=aj (.fY od (.dT ys))->∃ks y q,ys[i]?=aj (ks,y)/\v=.ref q/\H q=aj (.tup (ks.map kV)),
  λi H=>∃ys:List (List Key×V),H a=aj (.fY od (.dT ys))/\ys.length<=i⟩
section
variable{ψ:List (bw×Obj)}{s:cu}
variable{od:Obj}
def Pk{ys:List (Key×V)}(I:Inv X ψ σ H s)(hd:od.data=.dict es ep)(hq:H a=aj (.fY od (.dK ys))) :
  iQ s.heap a es ep/\es.size=ys.length/\∀(i:Nat)(k:Key)(y:V),ys[i]?=aj (k,y)->∃e:lh,es[i]?=aj e/\RelV (kV k) e.key:=by
 let⟨vs,kv,hm,hn,_⟩:=XC I hd hq;let⟨x5,es',h1,h2,h3,h4,h5,h6⟩:=hm;let⟨b7,_⟩:=(show s.heap.get? a=aj od/\_ from I.af a _ hq);rw[b7]at h1;obtain rfl:=jk.inj h1;rw[hd]at h3;injection h3 with e1 e2;subst e1;refine⟨⟨od,b7,h2,hd⟩,by rw[←hn];exact(Paired.length kv).symm,λi k y e=>?_⟩;let⟨u,hu,_⟩:=M4 kv e;have lt:i<es.size:=by rw[←hn];exact(jd.mp hu).1
 let⟨bo,_⟩:=h5.get? (e:=es[i]) (by simp[lt]) hu;exact⟨es[i],by simp[lt],Oh bo⟩
def aC2(r:KT H ys xs):∀{i:Nat}{ks:List Key}{y:V},ys[i]?=aj (ks,y)->∃q u,xs[i]?=aj (ks,q,u)/\H q=aj (.tup (ks.map kV)):=by
 induction r with
 |nil=>intro i k y e;simp at e
 |@cons p q _ _ h _ ih =>
  intro i ks y e;cases i with
  |zero =>
   simp only[zp,jk.injEq]at e;subst e;let⟨q1,q2,q3⟩:=q;let⟨h1,h2,h3⟩:=h;obtain rfl:ks=q1:=h1;exact⟨q2,q3,rfl,h2⟩
  |succ i=>simpa using ih (by simpa using e)
def Qy{ys:List (List Key×V)}(I:Inv X ψ σ H s)(hd:od.data=.dict es ep)(hq:H a=aj (.fY od (.dT ys))) :
  iQ s.heap a es ep/\es.size=ys.length/\∀(i:Nat)(ks:List Key)(y:V),ys[i]?=aj (ks,y)->∃(e:lh)(q:bw),es[i]?=aj e/\e.key=au.ref q/\H q=aj (.tup (ks.map kV)):=by
 let⟨b7,_⟩:=(show s.heap.get? a=aj od/\_ from I.af a _ hq);let⟨_,de,xs,kt,o1,uA,uB,g1,g2,g3,g4,g5⟩:=rL I.af (.inr ⟨od,hq⟩);rw[b7]at g1;obtain rfl:=jk.inj g1;rw[hd]at g3;injection g3 with e1 e2;subst e1;have hl:es.size=xs.length:=by rw[←jg,g4,dw]
 refine⟨⟨od,b7,g2,hd⟩,by rw[hl];exact(Paired.length kt).symm,λi ks y e=>?_⟩;let⟨q,u,hx,hh⟩:=aC2 kt e;refine⟨entryOfKey (ny (aJ X.prog X.w)) (ks,q,u),q,?_,rfl,hh⟩;rw[←jt,g4,kh,hx];rfl
end
def YE(IX:cm=ak){w:jj}{K:Fg}{od:Obj}(hd:od.data=.dict en ep) :
  Turn cm tl P w K tg (RX a od) [it] it (λi h=>h.IsKeyIter it a i en.size ep) where
 mem:=by simp
 obj:=λi h st b hb=>by
  have e:b=it:=by simpa using hb
  subst e;let⟨o,e,c,d⟩:=st;exact⟨o,e,λv z=>by rw[d]at z;cases z⟩
 keep:=λi h h' st k=>st.at λo e=>k it (by simp) o e
 item:=by
  intro X hP hw hK ff ht i ψ s σ H E I hf st hg;subst hP hw hK;let⟨ys,hq,hi⟩:=hg;let⟨hm,hn,hk⟩:=Pk I hd hq;have hx:ys[i]?=aj (ys[i].1,ys[i].2):=gV hi;let⟨e,he,rk⟩:=hk i _ _ hx;let⟨f0,f1,f2,f3,f4,f5⟩:=hf it (by simp);refine ER st hm he λh' bu sb=>?_;have I1:Inv X ψ σ H {s with heap:=h' }:=I.turned (t':=s.toks) (λb o hb e=>(sb.2 b hb).trans e) f0 f1 f3 f4 f5;let⟨o,e,c,d⟩:=id bu;exact⟨_,rfl,rX (s:={s with heap:=h' }) e c d (by decide) ⟨kV ys[i].1,H,I1,rk,⟨rfl,λzs z=>by rw[hq]at z;cases z;exact⟨_,_,hx,rfl⟩⟩,bu,λb hb=>(hf b hb).1⟩⟩
 done:=by
  intro X hP hw hK ff ht i ψ s σ H E I hf st hg;subst hP hw hK;let⟨ys,hq,hi⟩:=hg;let⟨hm,hn,hk⟩:=Pk I hd hq;let⟨f0,f1,f2,f3,f4,f5⟩:=hf it (by simp);exact Es (I.ok.hd (ff IX)) st hm ⋯ λh' eb=>⟨rfl,I.turned (t':=s.toks) (λb o hb e=>eb b o hb e) f0 f1 f3 f4 f5⟩
 self:=λ_ _ _ _ _ st h=>wpAny_pyIter_keyiter st h
def ZC(IX:cm=ak){w:jj}{K:Fg}{od:Obj}(hd:od.data=.dict en ep) :
  Turn cm tl P w K tg (RW a od) [it] it (λi h=>h.IsKeyIter it a i en.size ep) where
 mem:=by simp
 obj:=λi h st b hb=>by
  have e:b=it:=by simpa using hb
  subst e;let⟨o,e,c,d⟩:=st;exact⟨o,e,λv z=>by rw[d]at z;cases z⟩
 keep:=λi h h' st k=>st.at λo e=>k it (by simp) o e
 item:=by
  intro X hP hw hK ff ht i ψ s σ H E I hf st hg;subst hP hw hK;let⟨ys,hq,hi⟩:=hg;let⟨hm,hn,hk⟩:=Qy I hd hq;have hx:ys[i]?=aj (ys[i].1,ys[i].2):=gV hi;let⟨e,q,he,ek,hh⟩:=hk i _ _ hx;let⟨f0,f1,f2,f3,f4,f5⟩:=hf it (by simp);refine ER st hm he λh' bu sb=>?_;have I1:Inv X ψ σ H {s with heap:=h' }:=I.turned (t':=s.toks) (λb o hb e=>(sb.2 b hb).trans e) f0 f1 f3 f4 f5;let⟨o,e',c,d⟩:=id bu;exact⟨_,rfl,rX (s:={s with heap:=h' }) e' c d (by decide) ⟨.ref q,H,I1,ek,⟨rfl,λzs z=>by rw[hq]at z;cases z;exact⟨_,_,q,hx,rfl,hh⟩⟩,bu,λb hb=>(hf b hb).1⟩⟩
 done:=by
  intro X hP hw hK ff ht i ψ s σ H E I hf st hg;subst hP hw hK;let⟨ys,hq,hi⟩:=hg;let⟨hm,hn,hk⟩:=Qy I hd hq;let⟨f0,f1,f2,f3,f4,f5⟩:=hf it (by simp);exact Es (I.ok.hd (ff IX)) st hm ⋯ λh' eb=>⟨rfl,I.turned (t':=s.toks) (λb o hb e=>eb b o hb e) f0 f1 f3 f4 f5⟩
 self:=λ_ _ _ _ _ st h=>wpAny_pyIter_keyiter st h
abbrev AF(a:bw)(od:Obj):Bool->It
 |false=>RX a od
 |true=>RW a od
def Pj{K:Fg}{t:Bool}:kP K H1 (.key p od t aa) (AF p od t):=λH2 G2 t' g ok=>by
 have FP:G2 p=aj (.c9 od t aa):=ok;rcases g p _ FP with⟨rfl,ys,e,tw⟩|⟨rfl,ys,e,tw⟩
 .have hl:(Src.key p od ao aa).items.length=ys.length:=by simp[Src.items,tw.length]
  refine⟨λi hi=>⟨ys,e,by rw[hl]at hi;exact hi⟩,λi v H' hi hy=>?_,⟨ys,e,by rw[hl];exact dz _⟩⟩;let⟨rfl,hy⟩:=hy;let⟨k,y,e1,rfl⟩:=hy ys e;let⟨⟨dk,d⟩,e2,r1,r2⟩:=Og tw e1;have r1:dk=.inl k:=r1;subst r1;exact⟨.refl _,kD k,by simp[Src.items,e2,cK],HC k⟩
 .have hl:(Src.key p od ak aa).items.length=ys.length:=by simp[Src.items,tw.length]
  refine⟨λi hi=>⟨ys,e,by rw[hl]at hi;exact hi⟩,λi v H' hi hy=>?_,⟨ys,e,by rw[hl];exact dz _⟩⟩;let⟨rfl,hy⟩:=hy;let⟨ks,y,q,e1,rfl,hh⟩:=hy ys e;let⟨⟨dk,d⟩,e2,r1,r2⟩:=Og tw e1;have r1:dk=.inr ks:=r1;subst r1;exact⟨.refl _,.tup (ks.map kD),by simp[Src.items,e2,cK],.tup (yM.of hh) (Pl ks) (Bs hh)⟩
def XB{K:Fg}{t:Bool}:qv K (.key p od t aa) (AF p od t):=λH2 G2 g ok=>Pj (H1:=H2) H2 G2 (.refl _) g ok
abbrev wa(al:Bool)(x:D)(G1:Gp)(R:Src->Gp->Prop):Prop:=match x with
 |.ref p=>(match G1 p with
  |some (.bD t aa)=>∀od,R (.key p od t aa) (aG G1 p (.c9 od t aa))
  |some (.c9 od t aa)=>al=ak/\R (.key p od t aa) G1
  |_=>False)
 |_=>False
abbrev yR(al:Bool)(te:cA):eB:=λρ G R=>te ρ G λx G1=>wa al x G1 R
private theorem XA{x:D}{R:Src->Gp->Prop}(h:wa al x G1 R):∃p t aa,x=.ref p/\((G1 p=aj (.bD t aa)/\∀od,R (.key p od t aa) (aG G1 p (.c9 od t aa)))∨∃od,G1 p=aj (.c9 od t aa)/\al=ak/\R (.key p od t aa) G1):=by
 unfold wa at h;split at h
 .rename_i p;split at h
  .rename_i t aa e;exact⟨p,t,aa,rfl,.inl ⟨e,h⟩⟩
  .rename_i od t aa e;exact⟨p,t,aa,rfl,.inr ⟨od,e,h⟩⟩
  .exact h.elim
 .exact h.elim
section
variable{X:Cx}{ψ:List (bw×Obj)}{σ:St}{H:Hp}{s:cu}
def Ph(I:Inv X ψ σ H s)(d:nV H a):∃od en ep,s.heap.get? a=aj od/\od.ExactDict/\od.data=.dict en ep/\(a==qy)=ao:=by
 rcases d with⟨aa,e⟩|⟨aa,e⟩
 .obtain⟨_,hd,vs,_,od,en,ep,h1,h2,h3,_⟩:=rV I.af e;exact⟨od,en,ep,h1,h2,h3,hd⟩
 .obtain⟨_,hd,vs,_,od,en,ep,h1,h2,h3,_⟩:=rL I.af e;exact⟨od,en,ep,h1,h2,h3,hd⟩
def Of{K:Fg}{t:Bool}(g:HR K H G)(e:G a=aj (.bD t aa))(od:Obj) :
  ∃u,H a=aj u/\(∀xs,u≠.tup xs)/\(∀ob w,u≠.fY ob w)/\(∀ps,u≠.fT ps)/\(∀x,u≠.own x)/\Ts H (upd H a (.fY od u))/\HR K (upd H a (.fY od u)) (aG G a (.c9 od t aa)):=by
 rcases g a _ e with⟨z,ys,e2,tw⟩|⟨z,ys,e2,tw⟩
 .have tt:Ts H (upd H a (.fY od (.dK ys))):=Ts.turn e2 (λxs z=>nomatch z) (λob w z=>nomatch z);exact⟨_,e2,(λxs z=>nomatch z),(λob w z=>nomatch z),(λps z=>nomatch z),(λx z=>nomatch z),tt,g.turn tt (.inl ⟨z,ys,aN,tw.imp λ_ _ q=>⟨q.1,q.2.mono tt⟩⟩)⟩
 .have tt:Ts H (upd H a (.fY od (.dT ys))):=Ts.turn e2 (λxs z=>nomatch z) (λob w z=>nomatch z);exact⟨_,e2,(λxs z=>nomatch z),(λob w z=>nomatch z),(λps z=>nomatch z),(λx z=>nomatch z),tt,g.turn tt (.inr ⟨z,ys,aN,tw.imp λ_ _ q=>⟨q.1,q.2.mono tt⟩⟩)⟩
def Xz{K:Fg}{t:Bool}(g:HR K H G)(e:G a=aj (.bD t aa)):nV H a:=by
 rcases g a _ e with⟨_,ys,e2,_⟩|⟨_,ys,e2,_⟩
 .exact .inl ⟨ys,.inl e2⟩
 .exact .inr ⟨ys,.inl e2⟩
def VA{K:Fg}{t:Bool}(g:HR K H G)(e:G a=aj (.c9 od t aa)):nV H a:=by
 rcases g a _ e with⟨_,ys,e2,_⟩|⟨_,ys,e2,_⟩
 .exact .inl ⟨ys,.inr ⟨od,e2⟩⟩
 .exact .inr ⟨ys,.inr ⟨od,e2⟩⟩
def M3{w:jj}{K:Fg}{od:Obj}(t:Bool)(hd:od.data=.dict en ep) :
  Turn ak tl P w K tg (AF a od t) [it] it (λi h=>h.IsKeyIter it a i en.size ep):=by
 cases t with
 |false=>exact YE rfl hd
 |true=>exact ZC rfl hd
def Oe{SJ:Hp->Src->It->Prop}{e tg:ji}{te:cA}(hc:X.calm=ak)(he:cC X e te)(LF:∀H p od t aa,(al=ao->Fz X p)->SJ H (.key p od t aa) (AF p od t)) :
  PI X tg e (λσ H Q=>∃ρ G R,SR X.K H ρ σ/\HR X.K H G/\yR al te ρ G R/\∀src J H' G',Ts H H'->HR X.K H' G'->SJ H' src J->R src G'->Q J H'):=by
 intro ψ s σ H Q I h;let⟨ρ,G,R,sr,g,q,kk⟩:=h;refine cV (he ψ s σ H (λvx H1=>Ts H H1/\∃x G1,RD X.K H1 x vx/\HR X.K H1 G1/\wa al x G1 R) I ⟨ρ,G,_,sr,g,q,λv H1 x G1 t1 r1 g1 q1=>⟨t1,x,G1,r1,g1,q1⟩⟩) ?_;rintro v s1 ⟨vx,H1,I1,r1,t1,x1,G1,rx,g1,q1⟩;let⟨a,t,aa,rfl,q2⟩:=XA q1;cases rx;obtain rfl:v=au.ref a:=r1
 have kH:nV H1 a:=by
  rcases q2 with⟨e1,_⟩|⟨od,e1,_⟩
  .exact Xz g1 e1
  .exact VA g1 e1
 let⟨od,en,ep,o1,o2,o3,de⟩:=Ph I1 kH;refine ES de ⟨od,o1,o2,o3⟩ ?_;have I3:Inv X ψ σ H1 {s1 with heap:=s1.heap.push {cls:=.type "dict_keyiterator",data:=.fields #[.ref a,.int 0 0,.int en.size 0,.int ep 0]},toks:=s1.toks}:=I1.kept λb o e=>cj _ e;have FQ:(s1.heap.push {cls:=.type "dict_keyiterator",data:=.fields #[.ref a,.int 0 0,.int en.size 0,.int ep 0]}).get? a=aj od:=cj _ o1;have hit:(s1.heap.push {cls:=.type "dict_keyiterator",data:=.fields #[.ref a,.int 0 0,.int en.size 0,.int ep 0]}).IsKeyIter s1.heap.objs.size a 0 en.size ep:=⟨_,iz _ rfl,rfl,rfl⟩;have ym:H1 s1.heap.objs.size=bh:=I1.af.fresh (dz _);rcases q2 with⟨e1,q3⟩|⟨x5,e1,ha,q3⟩
 .obtain⟨u,hu,u1,u2,u3,u4,tt,g4⟩:=Of g1 e1 od;have I4:=I3.freeze hu u1 u2 u3 u4 FQ;have na:s1.heap.objs.size≠a:=Ae (ig o1);refine⟨s1.heap.objs.size,[s1.heap.objs.size],_,AF a od t,_,rfl,I4,(show Turn X.calm X.tp X.prog X.w X.K tg _ _ _ _ from hc ▸ M3 t o3),hit,λb hb=>?_,kk _ _ _ _ (t1.trans tt) g4 (LF _ a od t aa λ_=>Fz.of I1 hu u1 u2 u3) (q3 od)⟩;have e:b=s1.heap.objs.size:=by simpa using hb
  subst e;exact I1.iE (dz _) (by rw[aZ na];exact ym)
 .have KZ:s1.heap.get? a=aj x5:=by
   rcases g1 a _ e1 with⟨_,zs,e2,_⟩|⟨_,zs,e2,_⟩
   .exact(show s1.heap.get? a=aj x5/\_ from I1.af a _ e2).1
   .exact(show s1.heap.get? a=aj x5/\_ from I1.af a _ e2).1
  rw[o1]at KZ;obtain rfl:=jk.inj KZ;refine⟨s1.heap.objs.size,[s1.heap.objs.size],_,AF a od t,_,rfl,I3,(show Turn X.calm X.tp X.prog X.w X.K tg _ _ _ _ from hc ▸ M3 t o3),hit,λb hb=>?_,kk _ _ _ _ t1 g1 (LF _ a od t aa λz=>by rw[ha]at z;cases z) q3⟩;have e:b=s1.heap.objs.size:=by simpa using hb
  subst e;exact I1.iE (dz _) ym
def aC4(hc:X.calm=ak)(he:cC X e te):pk X tg e (yR ak te):=Oe (SJ:=kP X.K) hc he λ_ _ _ _ _ _=>Pj
def Vz(hc:X.calm=ak)(he:cC X e te):sD X tg e (yR ak te):=Oe (SJ:=λ_=>qv X.K) hc he λ_ _ _ _ _ _=>XB
end
end
section
open PySem.W
structure Tt(H H':Hp):Prop where
 aE:∀a xs,H a=aj (.tup xs)->H' a=aj (.tup xs)
 aLO:∀a o xs,H a=aj (.fY o (.tup xs))->H' a=aj (.fY o (.tup xs))
def Tt.xS{K:Fg}(t:Tt H H')(h:yM K H a xs):yM K H' a xs:=by
 rcases h with(h|⟨o,h⟩)|h
 .exact .inl (.inl (t.aE _ _ h))
 .exact .inl (.inr ⟨o,t.aLO _ _ _ h⟩)
 .exact .inr h
def oz.gA(t:Tt H H')(h:oz H a xs):oz H' a xs:=t.aE _ _ h
mutual
theorem RD.gA{K:Fg}{H H':Hp}(t:Tt H H'):∀{d:D}{v:V},RD K H d v->RD K H' d v
 |_,_,.ag=>.ag
 |_,_,.bl b=>.bl b
 |_,_,.int i=>.int i
 |_,_,.str x=>.str x
 |_,_,.ty n=>.ty n
 |_,_,.ref a=>.ref a
 |_,_,.tup h r e=>.tup (t.xS h) (cN.gA t r) (e.gA t)
theorem cN.gA{K:Fg}{H H':Hp}(t:Tt H H'):∀{ds:List D}{vs:List V},cN K H ds vs->cN K H' ds vs
 |_,_,.nil=>.nil
 |_,_,.cons h r=>.cons (RD.gA t h) (cN.gA t r)
end
def OR.Mg{K:Fg}(t:Tt H H')(h:OR K H a o)(k:∀u,H a=aj u->H' a=aj u):OR K H' a o:=by
 cases o with
 |lst ds=>let⟨xs,e,r⟩:=h;exact⟨xs,k _ e,r.gA t⟩
 |fi ds =>
  let⟨xs,e,r⟩:=h;refine⟨xs,?_,r.gA t⟩;rcases e with(e|⟨o,e⟩)|e
  .exact .inl (.inl (k _ e))
  .exact .inl (.inr ⟨o,k _ e⟩)
  .exact .inr e
 |bD b aa =>
  rcases h with⟨z,xs,e,r⟩|⟨z,xs,e,r⟩
  .exact .inl ⟨z,xs,k _ e,r.imp λ_ _ q=>⟨q.1,q.2.gA t⟩⟩
  .exact .inr ⟨z,xs,k _ e,r.imp λ_ _ q=>⟨q.1,q.2.gA t⟩⟩
 |ins C fs=>let⟨dx,vs,e,r⟩:=h;exact⟨dx,vs,k _ e,r.imp λ_ _ q=>⟨q.1,q.2.gA t⟩⟩
 |c9 ob b aa =>
  rcases h with⟨z,xs,e,r⟩|⟨z,xs,e,r⟩
  .exact .inl ⟨z,xs,k _ e,r.imp λ_ _ q=>⟨q.1,q.2.gA t⟩⟩
  .exact .inr ⟨z,xs,k _ e,r.imp λ_ _ q=>⟨q.1,q.2.gA t⟩⟩
 |gE C=>let⟨o,vs,e,r⟩:=h;exact⟨o,vs,k _ e,r⟩
 |cE ds=>let⟨xs,e,r⟩:=h;exact⟨xs,t.xS e,r.gA t⟩
 |rQ aa=>let⟨o,e,r⟩:=h;exact⟨o,k _ e,r.imp λ_ _ z=>z.gA t⟩
 |fb ob aa=>let⟨o,e,r⟩:=h;exact⟨o,k _ e,r.imp λ_ _ z=>z.gA t⟩
def Xy{K:Fg}{t:Bool}(g:HR K H G)(e:G p=aj (.c9 od t aa)) :
  ∃u,H p=aj (.fY od u)/\(∀xs,u≠.tup xs)/\(∀ob w,u≠.fY ob w)/\nV H p/\Tt H (upd H p u)/\HR K (upd H p u) (aG G p (.bD t aa)):=by
 have key:∀u,H p=aj (.fY od u)->(∀xs,u≠.tup xs)->Tt H (upd H p u):=λu hu h1=>by
  refine⟨λa xs q=>?_,λa o xs q=>?_⟩
  .rw[aZ];exact q;intro z;subst z;rw[hu]at q;cases q
  .rw[aZ];exact q;intro z;subst z;rw[hu]at q;cases q;exact h1 xs rfl
 have rest:∀u,Tt H (upd H p u)->OR K (upd H p u) p (.bD t aa)->HR K (upd H p u) (aG G p (.bD t aa)):=λu tt new a v q=>by
  by_cases z:a=p
  .subst z;rw[aF]at q;obtain rfl:=jk.inj q;exact new
  .rw[aM z]at q;exact(g a v q).Mg tt λw y=>by rw[aZ z];exact y
 rcases g p _ e with⟨z,xs,e2,tw⟩|⟨z,xs,e2,tw⟩
 .have tt:=key _ e2 (λxs z=>nomatch z);exact⟨_,e2,(λxs z=>nomatch z),(λob w z=>nomatch z),.inl ⟨xs,.inr ⟨od,e2⟩⟩,tt,rest _ tt (.inl ⟨z,xs,aN,tw.imp λ_ _ q=>⟨q.1,q.2.gA tt⟩⟩)⟩
 .have tt:=key _ e2 (λxs z=>nomatch z);exact⟨_,e2,(λxs z=>nomatch z),(λob w z=>nomatch z),.inr ⟨xs,.inr ⟨od,e2⟩⟩,tt,rest _ tt (.inr ⟨z,xs,aN,tw.imp λ_ _ q=>⟨q.1,q.2.gA tt⟩⟩)⟩
variable{od:Obj}
section
variable{ψ:List (bw×Obj)}{s:cu}
def aC5(I:Inv X ψ σ H s)(kH:nV H p)(hu:H p=aj (.fY od u)):∃en ep,od.data=.dict en ep:=by
 let⟨x5,en,ep,o1,_,o3,_⟩:=Ph I kH;have e:=(show s.heap.get? p=aj od/\_ from I.af p _ hu).1;rw[e]at o1;cases o1;exact⟨en,ep,o3⟩
def Inv.Qa(I:Inv X ψ σ H s)(fz:Fz X p)(hu:H p=aj (.fY od u))(h1:∀xs,u≠.tup xs)(kH:∃en ep,od.data=.dict en ep):Inv X ψ σ (upd H p u) s:=by
 have ne:∀{b:bw}{v:HO},H b=aj v->v≠.fY od u->b≠p:=λe n z=>by subst z;rw[hu]at e;exact n (jk.inj e).symm
 have no:∀{b:bw},H b=bh->upd H p u b=bh:=λ{b} e=>by
  rw[aZ];exact e;intro z;subst z;rw[hu]at e;cases e
 have kt:∀b xs,H b=aj (.tup xs)->upd H p u b=aj (.tup xs):=λb xs q=>by rw[aZ (ne q λz=>nomatch z)];exact q
 have ko:∀b x,H b=aj (.own x)->upd H p u b=aj (.own x):=λb x q=>by rw[aZ (ne q λz=>nomatch z)];exact q
 let⟨ho,af⟩:=(show s.heap.get? p=aj od/\eX X.prog X.w H s.heap p u from I.af p _ hu);refine⟨I.ok,I.os,I.bare,⟨I.base.keep,I.base.slot,λb ob q n hx=>?_,I.base.there,λb xs q=>kt b xs (I.base.aE b xs q),λb ob w q=>?_,λb ps q=>?_⟩,I.loc,I.cell,no I.free,λx c e=>no (I.uH x c e),λq hq=>?_,λb v e=>?_,I.len,?_,λq hq=>kt _ _ (I.tup q hq)⟩
 .exact no (I.base.free b ob q n hx)
 .have:=I.base.lZ b ob w q;rw[aZ];exact this;intro z;subst z;exact fz.fY ob w q
 .obtain⟨more,e⟩:=I.base.yL b ps q;exact⟨more,by rw[aZ (ne e λz=>nomatch z)];exact e⟩
 .obtain⟨z1,z2,z3⟩:=I.pin q hq;exact⟨z1,no z2,z3⟩
 .by_cases hb:b=p
  .subst hb;rw[aN]at e;obtain rfl:=jk.inj e;exact af.b5 (λ_ _ _ q=>q) (λc q=>ko c _ q) λc xs q=>kt c xs q
  .rw[aZ hb]at e;exact(I.af b v e).b5 (λ_ _ _ q=>q) (λc q=>ko c _ q) λc xs q=>kt c xs q
 .rcases I.b8 with z|⟨x,o,w,vs,a,b,c,d⟩
  .exact .inl z
  .refine .inr ⟨x,o,w,vs,a,?_,c,d⟩;rw[aZ];exact b;intro z;subst z;rw[hu]at b;cases b;let⟨en,ep,o3⟩:=kH;rw[o3]at c;cases c
end
section
end
section
end
end
section
open PySem.W
section
end
end
section
section
open AutoSeq1 (wpAny_loadPart')
end
section
end
section
end
section
open PySem.SeqAt
open PySem.AutoSeq1 (wpAny_loadPart')
open PySem.MeetsSeq PySem.MeetsSeq2 PySem.MeetsSeq3
end
end
section
section
def Qx{K:Fg}:∀{ns:List Int}{vs:List V},cN K H (ns.map D.int) vs->vs=ns.map V.int
 |[],_,.nil=>rfl
 |n::ns,_,.cons r rr=>by cases r;rw[Qx rr];rfl
end
end
section
section
open Classical in
end
end
section
open PySem.W
section
end
section
end
end
section
open PySem.W
def ZB{α β:Type}{f:α->β}{l l':List β}(p:l.Perm l'):∀{zs:List α},l'=zs.map f->∃ws:List α,ws.Perm zs/\l=ws.map f:=by
 induction p with
 |nil=>intro zs e;exact⟨zs,.refl _,e⟩
 |cons x _ ih =>
  intro zs e;cases zs with
  |nil=>cases e
  |cons z zs =>
   rw[iw]at e;injection e with e1 e2;let⟨ws,h1,h2⟩:=ih e2;exact⟨z::ws,.cons z h1,by rw[iw,←h2,e1]⟩
 |swap x y l =>
  intro zs e;cases zs with
  |nil=>cases e
  |cons z zs =>
   cases zs with
   |nil=>simp at e
   |cons z' zs =>
    rw[iw,iw]at e;injection e with e1 e2;injection e2 with e2 e3;exact⟨z'::z::zs,.swap z z' zs,by rw[iw,iw,←e3,e1,e2]⟩
 |trans _ _ F2 F1 =>
  intro zs e;let⟨ws,h1,h2⟩:=F1 e;let⟨vs,h3,h4⟩:=F2 h2;exact⟨vs,h3.trans h1,h4⟩
def Ha{α:Type}[DecidableEq α]:∀{l m:List α},l.Nodup->(∀k∈l,k∈m)->l.length<=m.length
 |[],_,_,_=>ud _
 |x::l,m,n,h=>by
  let⟨n1,n2⟩:=tu.mp n;have hx:=h x (by simp);have:=Ha (l:=l) (m:=m.erase x) n2 λk hk=>(List.mem_erase_of_ne (show k≠x from λe=>n1 (e ▸ hk))).mpr (h k (by simp[hk]));rw[List.length_erase_of_mem hx]at this;have:=List.length_pos_of_mem hx;simp only[uw];omega
abbrev pK(p:Int×Int):List Key:=[.inl p.1,.inl p.2]
def M0(h:pK p=pK q):p=q:=by
 unfold pK at h;injection h with h1 h2;injection h2 with h2 _;injection h1 with h1;injection h2 with h2;exact Prod.ext h1 h2
abbrev iS:List Key->Int×Int
 |[.inl a,.inl b]=>(a,b)
 |_=>(0,0)
def MZ(p:Int×Int):iS (pK p)=p:=rfl
section
variable{X:Cx}
def Pg{prog:kj}{w:jj}{K:Fg}:∀{ps:List (Int×Int)}{zs:List V}{us:List au},wI h ps us->cN K H (ps.map bW) zs->Vals zs us->∃xs:List (List Key×bw),us=xs.map (λx=>au.ref x.2)/\xs.map (·.1)=ps.map pK/\lV (aJ prog w) h xs/\∀x∈xs,∃p,x.1=pK p/\RD K H (bW p) (.ref x.2)
 |[],zs,us,hp,r,v=>by
  cases r;cases v;exact⟨[],rfl,rfl,λz hz=>(nomatch hz),λz hz=>(nomatch hz)⟩
 |p::ps,zs,us,hp,r,v=>by
  cases r with
  |@cons _ z _ zs rd r =>
  cases v with
  |@cons _ u _ us ru v =>
  let⟨xs,e1,e2,e3,e4⟩:=Pg (prog:=prog) (w:=w) (h:=h) (K:=K) (H:=H) (ps:=ps) (zs:=zs) (us:=us) ⟨by simpa using hp.1,λi q e=>by simpa using hp.2 (i+1) q (by simpa using e)⟩ r v;let⟨a,o,n,x,y,z1,z2,z3,z4⟩:=hp.2 0 p rfl;have z1:u=au.ref a:=by simpa using z1
  subst z1
  have hz:z=V.ref a:=by
   cases rd with
   |@tup b fR _ hq rz _ =>
    have:au.ref a=au.ref b:=ru;injection this with this;rw[this]
  subst hz;refine⟨(pK p,a)::xs,by rw[e1];rfl,by rw[iw,iw,e2],λz hz=>?_,λz hz=>?_⟩
  .rcases lg.mp hz with rfl|hz
   .exact⟨⟨o,_,n,z2,z3,z4,.cons (by simp[aJ,uG,au.isInt]) (.cons (by simp[aJ,uG,au.isInt]) .nil)⟩,⟨o,_,n,z2,z3,z4,λv hv=>by
     rcases lg.mp hv with rfl|hv
     .exact⟨_,_,rfl⟩
     .rw[ql.mp hv];exact⟨_,_,rfl⟩⟩⟩
   .exact e3 z hz
  .rcases lg.mp hz with rfl|hz
   .exact⟨p,rfl,rd⟩
   .exact e4 z hz
abbrev zM(x:D)(G:Gp)(R:dU):Prop:=match x with
 |.ref a=>∃ps:List (Int×Int),bB G a=aj (ps.map bW)/\ps.length<63/\∀qs:List (Int×Int),c7 qs->(∀p,p∈qs↔p∈ps)->∀r,G r=bh->R (.ref r) (aG G r (.lst (qs.map bW)))
 |_=>False
abbrev EL(to:cA):cA:=λρ G R=>to ρ G λx G1=>zM x G1 R
def MY{K:Fg}:∀{zs:List (List Key×bw)},(∀x∈zs,∃p,x.1=pK p/\RD K H (bW p) (.ref x.2))->cN K H ((zs.map λz=>iS z.1).map bW) (zs.map λz=>V.ref z.2)
 |[],_=>.nil
 |z::zs,h=>by
  let⟨p,e,rd⟩:=h z (by simp);refine .cons ?_ (MY λx hx=>h x (by simp[hx]));show RD K H (bW (iS z.1)) _;rw[e,MZ];exact rd
def Od:∀zs:List (List Key×bw),Vals (zs.map λz=>V.ref z.2) (zs.map λz=>au.ref z.2)
 |[]=>.nil
 |_::r=>.cons rfl (Od r)
def Xx{σ:St}{H:Hp}{G:Gp}{R:dU}{Q:VK}(hc:X.calm=ak)(I:Inv X ψ σ H s)(g:HR X.K H G){a:bw}{zs:List (List Key×bw)}(S:fk (aJ X.prog X.w) s.heap a zs)(hl:zs.length<63)(hm:∀k,k∈zs.map (·.1)↔k∈ps.map pK)(hr:∀x∈zs,∃p,x.1=pK p/\RD X.K H (bW p) (.ref x.2))
  (h:∀qs:List (Int×Int),c7 qs->(∀p,p∈qs↔p∈ps)->∀r,G r=bh->R (.ref r) (aG G r (.lst (qs.map bW))))(k:∀v H' d G',Ts H H'->RD X.K H' d v->HR X.K H' G'->R d G'->Q v H'):dj (fj X.prog X.w) X.A (call (.builtin "sorted") [.ref a]) (EP X ψ σ Q) X.xe s:=by
 have big:1000<dh:=by decide
 let⟨o,es,ep,t,S⟩:=S;let⟨ws,w1,w2⟩:=ZB (PN (w:=X.w) (a:=a) (ep:=ep) (es:=es)) S.he;have lw:ws.length=zs.length:=w1.length_eq;have le:es.size=ws.length:=by rw[←jg,S.he,dw,lw]
 have ij:∀x∈ws,∃p,x.1=pK p/\RD X.K H (bW p) (.ref x.2):=λx hx=>hr x (w1.mem_iff.mp hx);have kr:=MY ij;have vi:=Od ws
 have eK:(ws.map λz=>iS z.1).map pK=ws.map (·.1):=by
  rw[ni];refine yx λx hx=>?_;let⟨p,e,_⟩:=ij x hx;show pK (iS x.1)=x.1;rw[e,MZ]
 have nd:(ws.map λz=>iS z.1).Nodup:=by
  have n1:(ws.map (·.1)).Nodup:=(w1.map (·.1)).nodup_iff.mpr S.nd;rw[←eK]at n1;exact(uc.mp n1).imp λh z=>h (by rw[z])
 have mem:∀p,p∈(ws.map λz=>iS z.1)↔p∈ps:=λp=>by
  have m1:p∈(ws.map λz=>iS z.1)↔pK p∈(ws.map λz=>iS z.1).map pK:=⟨λh=>JG h,λh=>by
   let⟨q,hq,e⟩:=gk.mp h;rw[←M0 e];exact hq⟩
  rw[m1,eK,(w1.map (·.1)).mem_iff,hm]
  exact⟨λh=>by
   let⟨q,hq,e⟩:=gk.mp h;rw[←M0 e];exact hq,λh=>JG h⟩
 have dy:(ws.map λz=>iS z.1).length<63:=by rw[dw,lw];exact hl
 let⟨B,b0,hB⟩:=uX (ws.map λz=>iS z.1);have hp:=pairs_at I kr vi;have hM:2*B<2*B+1:=by omega
 refine Io (kf:=λi=>enc (2*B+1) ((ws.map λz=>iS z.1).getD i (0,0))) (vs:=ws.map λx=>au.ref x.2) (λR' E' hR=>kdu_collect (aAL (o:=o) (es:=es) (ep:=ep) (t:=t)) (I.ok.hd hc) S.b ⋯ λh' tk acc kk a8=>?_) (by rw[hp.1];omega) (λi j hi hj e=>?_) (λl2 s' h' kp=>wJ hM hB l2 ⟨hp.1,λi p ei=>?_⟩) λq h1 tk h' c P u k1 k2 ho=>Jq I g kr vi nd ⋯ hM hB k (λqs pm ri r hr=>h qs ri (λp=>by rw[pm.mem_iff];exact mem p) r hr) P u k1 k2 ho
 .have:acc.toList=ws.map λx=>au.ref x.2:=by
   apply E8;intro i;by_cases hi:i<ws.length
   .have kK:i<acc.size:=by rw[a8.1,le];exact hi
    let⟨en,e1,e2⟩:=a8.2 i acc[i] (gw kK);have e3:(jb X.w a ep es).toList[i]?=aj en:=by rw[jt];exact e1
    rw[w2,kh,gV hi]at e3;have e4:qA (aJ X.prog X.w) ws[i]=en:=by simpa using e3
    rw[jt,gw kK,e2,←e4,kh,gV hi];rfl
   .rw[As (by rw[jg,a8.1,le];omega),As (by simp;omega)]
  rw[this];exact hR h' tk kk
 .rw[hp.1]at hi hj;exact Im nd hM hB i j hi hj e
 .obtain⟨a,o,n,x,y,z1,z2,z3,z4⟩:=hp.2 i p ei;exact⟨a,o,n,x,y,z1,kp _ _ z2,z3,z4⟩
def Vy(hc:X.calm=ak)(hu:X.A.units+64<qg)(ho:cC X e to)(hg:Gl X x)(hm:X.mg x=bh)(hv:oh x=aj (.builtin "sorted"))(hn:x≠"__name__")(fA:(x==("__debug__":Str))=ao)(Tg:Gl X y)(Tb:X.mg y=bh)(A1:oh y=aj (.type "set"))(F7:y≠"__name__")(aLP:(y==("__debug__":Str))=ao)(hs:jo [e] X.env=[(ao,eval e X.env)]) :
  cC X (.Call (.Name x p) [.Call (.Name y p2) [e] [] Kh] [] pos) (EL to):=by
 intro ψ s σ H Q I h;let⟨ρ,G,R,sr,g,q,kk⟩:=h;refine yp (uI I hg hm hv ?_ hn fA);refine PyProof.Rows.callWith_builtin1 (Calls.spliced_cons ?_);refine yp (uI I Tg Tb A1 ?_ F7 aLP)
 refine PyProof.Rows.callWith_type1 (cV ((nF ho zS hs) Kh ψ s σ H (λvs H1=>Ts H H1/\∃ds G1,cN X.K H1 ds vs/\HR X.K H1 G1/\(match ds with
  |[x1]=>zM x1 G1 R
  |_=>False)) I ⟨ρ,G,(λds G1=>match ds with
  |[x1]=>zM x1 G1 R
  |_=>False),sr,g,q,λvs H1 ds G1 t1 r1 g1 q1=>⟨t1,ds,G1,r1,g1,q1⟩⟩) λus s1 ⟨vs,H1,I1,rv,t1,ds,G1,rs,g1,q1⟩=>?_) hs rfl
 match ds,q1 with
 |[x1],q1 =>
  cases rs with
  |cons rx rs =>
  cases rs;cases rv with
  |cons r1 rv =>
  cases rv;cases x1 with
  |ref l =>
   let⟨ps,e1,hl,hq⟩:=q1;cases rx;obtain rfl:=r1;let⟨zs,S0,r⟩:=cT g1 e1;let⟨its,vi,pl,_⟩:=I1.list S0;have hp:=pairs_at I1 r vi;let⟨xs,e2,e3,e4,e5⟩:=Pg (prog:=X.prog) (w:=X.w) hp r vi;have lx:xs.length=ps.length:=by have:=congrArg pf e3;simpa using this
   refine YR (knd:=aJ X.prog X.w) (xs:=xs) (I1.ok.hd hc) hu pl.isList (by simpa using e2) e4 ⋯ λh' tk a ys kp st mm sub=>?_;have I2:Inv X ψ σ H1 {s1 with heap:=h',toks:=tk}:=I1.kept kp;refine Calls.spliced_nil ?_
   have ly:ys.length<=xs.length:=by
    let⟨_,_,_,_,S⟩:=st;have n1:=S.nd;have:(ys.map (·.1)).length<=(xs.map (·.1)).length:=Ha n1 λk hk=>(mm k).mp hk;simpa using this
   exact Xx (s:={s1 with heap:=h',toks:=tk}) hc I2 g1 st ⋯ (λk=>by rw[mm,e3]) (λx hx=>e5 x (sub x hx)) hq λv H' d G' t=>kk v H' d G' (t1.trans t)
  |_=>exact q1.elim
end
end
variable{keys:List (Option ji)}{ks:List Str}
section
open PySem.W
section
variable{X:Cx}
abbrev x9:List Str->List D->List (DK×D)->List (DK×D)
 |k::ks,d::ds,aa=>x9 ks ds (bZ aa (.inl (.inr k)) d)
 |_,_,aa=>aa
abbrev VS:List Str->List V->List (au×au)->Prop
 |[],[],[]=>True
 |k::ks,w::ws,u::us=>(∃t,u.1=.str k t)/\RelV w u.2/\VS ks ws us
 |_,_,_=>False
abbrev Cw(X:Cx)(pos:Pos)(keys:List (Option ji))(values:List ji)(ks:List Str)(t:oR):Prop :=
 ∀(ψ:List (bw×Obj))(s:cu)(σ:St)(H:Hp)(Q:List V->Hp->Prop),Inv X ψ σ H s->Kx X.K t σ H Q ->
  dj (fj X.prog X.w) X.A (evalPairs (pairTrees keys values X.env pos)) (λus s'=>∃ws H',Inv X ψ σ H' s'/\VS ks ws us/\Q ws H') X.xe s
def Vx:Cw X pos [] [] [] aD:=λψ s σ H Q I h=>by
 let⟨ρ,G,R,sr,g,q,kk⟩:=h;exact pairTrees_nil_walk ⟨[],H,I,trivial,kk [] H [] G (.refl H) .nil g q⟩
def Xw{j1:Nat}{k:Str}{tv:cA}{t:oR}(hv:cC X v tv)(hr:Cw X pos keys values ks t) :
  Cw X pos (aj (.Constant (.str k) j1 p1)::keys) (v::values) (k::ks) (aA tv t):=λψ s σ H Q I h=>by
 let⟨ρ,G,R,sr,g,q,kk⟩:=h;refine pairTrees_cons_walk (Calls.Constant_str (k:=j1) (pos:=p1) ?_);refine cV (hv ψ _ σ H (λvv H1=>Ts H H1/\∃d G1,RD X.K H1 d vv/\HR X.K H1 G1/\t ρ G1 λds G2=>R (d::ds) G2) (I.tok _) ⟨ρ,G,_,sr,g,q,λvv H1 d G1 t1 r1 g1 q1=>⟨t1,d,G1,r1,g1,q1⟩⟩) ?_;rintro uv s2 ⟨vv,H1,I1,rv,t1,d,G1,rd,g1,q1⟩;exact cV (hr ψ s2 σ H1 (λws H2=>Ts H1 H2/\∃ds G2,cN X.K H2 ds ws/\HR X.K H2 G2/\R (d::ds) G2) I1 ⟨ρ,G1,_,sr.mono t1,g1,q1,λws H2 ds G2 t2 r2 g2 q2=>⟨t2,ds,G2,r2,g2,q2⟩⟩) (by rintro us s3 ⟨ws,H2,I2,vs,t2,ds,G2,kr,g2,q2⟩;exact⟨vv::ws,H2,I2,⟨⟨_,rfl⟩,rv,vs⟩,kk (vv::ws) H2 (d::ds) G2 (t1.trans t2) (.cons (rd.mono t2) kr) g2 q2⟩)
def Xv(h:G p=aj o):aG G p o=G:=funext λa=>by
 by_cases c:a=p
 .subst c;rw[aF,h]
 .rw[aM c]
def ZA:aG (aG G p o) p o'=aG G p o':=funext λa=>by
 by_cases c:a=p
 .subst c;rw[aF,aF]
 .rw[aM c,aM c,aM c]
def Ob{A:mq}{E:au->cu->Prop}{ψ:List (bw×Obj)}{Q:cu->Prop}(hu:A.units<qg):∀(ks:List Str)(ds:List D)(ws:List V)(us:List (au×au))(aa:List (DK×D))(H:Hp)(G:Gp)(s:cu),VS ks ws us->cN X.K H ds ws->Inv X ψ σ H s->HR X.K H G->G p=aj (.bD ao aa)->aa.length+ks.length<dh ->
  (∀H' s',Inv X ψ σ H' s'->Ts H H'->HR X.K H' (aG G p (.bD ao (x9 ks ds aa)))->Q s')->dj (fj X.prog X.w) A (storeAll p us) (λ_ s'=>Q s') E s
 |[],ds,ws,us,aa,H,G,s,v,r,I,g,hG,hl,k=>by
  cases ws with
  |cons _ _=>exact v.elim
  |nil =>
  cases us with
  |cons _ _=>exact v.elim
  |nil =>
   unfold storeAll;rw[List.forIn_nil];refine cg (k H s I (.refl H) ?_);unfold x9;rw[Xv hG];exact g
 |key::ks,ds,ws,us,aa,H,G,s,v,r,I,g,hG,hl,k=>by
  cases ws with
  |nil=>exact v.elim
  |cons w ws =>
  cases us with
  |nil=>exact v.elim
  |cons u us =>
   let⟨⟨t,e⟩,rv,v⟩:=v;let⟨u1,u2⟩:=u;obtain rfl:u1=.str key t:=e;cases r with
   |@cons d _ ds _ rd r =>
   have q:uU (.ref p) (.str key) G λa t' fI k'=>fI=aa/\k'=.inl (.inr key):=by
    unfold uU;dsimp only;rw[hG];exact⟨rfl,rfl,rfl⟩
   let⟨a,fI,kd,ea,_,e1,_,⟨rfl,rfl⟩,dd⟩:=uV (.ref p) (.str key) g q;cases ea;have A7:fI.length+(ks.length+1)<dh:=hl;let⟨H4,pp,tt,g4⟩:=dd.put g rd ⋯
   have e0:storeAll p ((au.str key t,u2)::us)=(do dictSet p (au.str key t) u2;storeAll p us):=by
    unfold storeAll;rw[List.forIn_cons];simp only[bind_assoc,pure_bind]
   rw[e0];refine aq (YF hu I pp ⟨t,rfl⟩ rv λs3 I3=>?_)
   have lp:(bZ fI (.inl (.inr key)) d).length<=fI.length+1:=by
    unfold bZ;split
    ·rw[dw];omega
    .rw[yj];exact dz _
   refine Ob hu ks ds ws us _ H4 _ s3 v (r.mono tt) I3 g4 aF ⋯ λH' s' I' t' g'=>k H' s' I' (tt.trans t') ?_;rw[ZA]at g';exact g'
abbrev Ep(ks:List Str)(t:oR):cA:=λρ G R=>∀p,G p=bh->t ρ (aG G p (.bD ao [])) λds G2=>G2 p=aj (.bD ao [])/\R (.ref p) (aG G2 p (.bD ao (x9 ks ds [])))
def Vv{values:List ji}{t:oR}(hu:X.A.units+64<qg)(ba:keys.all (·.isSome)=ak)(hl:keys.length=values.length)(h0:keys≠[])(Tz:keys.length<=15)(hks:ks.length<=15)(hd:Cw X pos keys values ks t):cC X (.Dict keys values pos) (Ep ks t):=by
 intro ψ s σ H Q I h;let⟨ρ,G,R,sr,g,q,kk⟩:=h;have big:15<dh:=by decide
 refine wpAny_Dict_any ba hl h0 Tz ?_;have fr:H s.heap.objs.size=bh:=I.af.fresh (dz _);have sn:aI H (upd H s.heap.objs.size (.dK [])):=bO fr;have J:=I.laid (a:=s.heap.objs.size) (o:=.dK []) (t':=s.toks) (λ_ _ q=>cj _ q) (dz _) (PV s.heap I.big);have g0:HR X.K (upd H s.heap.objs.size (.dK [])) (aG G s.heap.objs.size (.bD ao [])):=g.put (u:=.bD ao []) fr (.inl ⟨rfl,[],aN,.nil⟩);have t0:Ts H (upd H s.heap.objs.size (.dK [])):=.same sn;refine cV (hd ψ _ σ _ (λws H1=>Ts (upd H s.heap.objs.size (.dK [])) H1/\∃ds G1,cN X.K H1 ds ws/\HR X.K H1 G1/\G1 s.heap.objs.size=aj (.bD ao [])/\R (.ref s.heap.objs.size) (aG G1 s.heap.objs.size (.bD ao (x9 ks ds [])))) J ⟨ρ,_,_,sr.mono t0,g0,q _ (eV g fr (lW J)),λws H1 ds G1 t1 r1 g1 q1=>⟨t1,ds,G1,r1,g1,q1⟩⟩) ?_;rintro us s1 ⟨ws,H1,I1,v,t1,ds,G1,r1,g1,e1,q1⟩;exact Ob ⋯ ks ds ws us [] H1 G1 s1 v r1 I1 g1 e1 (by show 0+ks.length<dh;omega) λH' s' I' t' g'=>⟨.ref _,H',I',rfl,kk _ H' _ _ ((t0.trans t1).trans t') (.ref _) g' q1⟩
end
end
section
open PySem.W
abbrev putN(aa:List (NK×Int))(k:NK)(n:Int):List (NK×Int):=if(aa.lookup k).isSome then aa.map (λp=>if p.1=k then(p.1,n)else p)else aa++[(k,n)]
section
variable{K:Fg}{k:NK}{aa:List (NK×Int)}
def D7(r:Paired (nh K H) aa xs):(aa.lookup k=bh/\atKey xs k=bh)∨∃n p,aa.lookup k=aj n/\atKey xs k=aj p/\∃t,p.2=au.int n t:=by
 induction r with
 |nil=>exact .inl ⟨rfl,rfl⟩
 |@cons p x aa xs h r ih =>
  let⟨m,d⟩:=p;let⟨h1,h2,h3⟩:=h;unfold atKey at ih ⊢;by_cases c:k=m
  .subst c;refine .inr ⟨d,x.2,by rw[vo,beq_self_eq_true],?_,h3⟩;rw[List.find?_cons_of_pos (by rw[h1];exact decide_eq_true rfl)];rfl
  .have c2:¬ x.1=k:=λe=>c (e.symm.trans h1);rw[List.find?_cons_of_neg (by simpa using c2),vo,show(k==m)=ao from beq_eq_false_iff_ne.mpr c];exact ih
def aC6(r:Paired (nh K H) aa xs):∀x∈xs,RD K H (ft x.1) (.ref x.2.1):=by
 induction r with
 |nil=>exact λx hx=>nomatch hx
 |cons h r ih =>
  intro x hx;rcases lg.mp hx with rfl|hx
  .rw[h.1];exact h.2.1
  .exact ih x hx
def aC7{b:bw}{n:Int}{t:Tok}(r:Paired (nh K H) aa xs)(sq:RD K H (ft k) (.ref b)):Paired (nh K H) (putN aa k n) (storedH xs k b (.int n t)):=by
 unfold putN;rcases D7 (k:=k) r with⟨z1,z2⟩|⟨d',p,z1,z2,_⟩
 .rw[z1,storedH_new z2];exact Paired.snoc r ⟨rfl,sq,t,rfl⟩
 .rw[z1,storedH_old z2];clear z1 z2;show Paired (nh K H) (aa.map λp=>if p.1=k then(p.1,n)else p) _
  induction r with
  |nil=>exact .nil
  |@cons p x aa xs h r ih =>
   rw[iw,iw];refine .cons ?_ ih;let⟨h1,h2,h3⟩:=h;by_cases c:p.1=k
   .rw[if_pos c];unfold putAt;rw[if_pos (by rw[h1];exact c)];exact⟨h1,h2,t,rfl⟩
   .rw[if_neg c];unfold putAt;rw[if_neg (by rw[h1];exact c)];exact⟨h1,h2,h3⟩
end
section
variable{X:Cx}{ψ:List (bw×Obj)}{s:cu}
def BD{k:NK}(I:Inv X ψ σ H s)(r:RD X.K H (ft k) (.ref a)):kR s.heap k a:=by
 unfold ft at r;cases r with
 |@tup _ zs _ hq rz _ =>
  cases rz with
  |cons ra rb =>
  cases rb with
  |cons rb rn =>
  cases rn;cases ra;cases rb with
  |@tup b ys _ hb Ss _ =>
  have e:ys=k.1.map V.int:=Qx Ss;subst e;let⟨its,r,⟨o,h1,h2,n,h3⟩,_⟩:=I.tuple hq;let⟨Dl,r2,⟨o2,g1,g2,n2,g3⟩,_⟩:=I.tuple hb;cases r with
  |cons ra r =>
  cases r with
  |cons rb r =>
  cases r;cases rb;let⟨t,rfl⟩:=ra;refine⟨o,b,t,n,h1,h2,h3,λP w=>⟨o2,Dl.toArray,n2,g1,g2,g3,?_⟩⟩;have e:k.1.map V.int=(k.1.map (Sum.inl:Int->Key)).map kV:=by rw[ni];rfl
  rw[e]at r2;simpa using JX r2
def aC8{w:jj}{x:NK×bw×au}:entryOfKey (qD P w) x=entryOfKey (qD P' w') x:=by
 have e:(x.1.1.map (Sum.inl:Int->Key)).map (aJ P w).hash=(x.1.1.map (Sum.inl:Int->Key)).map (aJ P' w').hash:=by
  rw[ni,ni];rfl
 show(⟨reduceHash (Builtin.Tuple.tupleHashOf [(aJ P w).hash (.inl x.1.2),reduceHash (Builtin.Tuple.tupleHashOf ((x.1.1.map (Sum.inl:Int->Key)).map (aJ P w).hash))]),_,_⟩:lh)=⟨reduceHash (Builtin.Tuple.tupleHashOf [(aJ P' w').hash (.inl x.1.2),reduceHash (Builtin.Tuple.tupleHashOf ((x.1.1.map (Sum.inl:Int->Key)).map (aJ P' w').hash))]),_,_⟩;rw[e];rfl
def rg(I:Inv X ψ σ H s)(hr:Rd H a o)(r:pw X.K H a aa o):∃xs,Paired (nh X.K H) aa xs/\(a==qy)=ao/\s.heap.DictOfH (qD X.prog X.w) a xs:=by
 rcases r with⟨rfl,rfl⟩|⟨P,w,xs,rfl,r⟩
 .obtain⟨_,hd,ws,rel,o,es,ep,h1,h2,h3,h4,_⟩:=rL I.af hr;cases rel;exact⟨[],.nil,hd,⟨o,es,ep,h1,h2,h3,h4,(λx hx=>nomatch hx),Ah⟩⟩
 .have z:eX X.prog X.w H s.heap a (.ext (ze P w a xs)):=by
   rcases hr with e|⟨o,e⟩
   .exact I.af a _ e
   .exact(show s.heap.get? a=aj o/\_ from I.af a _ e).2
  let⟨⟨hd,o,es,ep,h1,h2,h3,h4,h5⟩,_⟩:=z;have al:=aC6 r;exact⟨xs,r,hd,⟨o,es,ep,h1,h2,h3,by rw[h4];exact yx λx hx=>aC8,λx hx=>BD I (al x hx),h5⟩⟩
abbrev n5(G:Gp)(a:bw)(aa:List (NK×Int)):Prop:=G a=aj (.rQ aa)∨∃od,G a=aj (.fb od aa)
def Eo(I:Inv X ψ σ H s)(g:HR X.K H G)(h:n5 G a aa):∃xs,Paired (nh X.K H) aa xs/\(a==qy)=ao/\s.heap.DictOfH (qD X.prog X.w) a xs:=by
 rcases h with e|⟨od,e⟩
 .obtain⟨o,e2,r⟩:=g a _ e;exact rg I (.inl e2) r
 .obtain⟨o,e2,r⟩:=g a _ e;exact rg I (.inr ⟨od,e2⟩) r
def En{k:NK}(r:RD X.K H (ft k) v):∃a,v=.ref a:=by
 unfold ft at r;cases r;exact⟨_,rfl⟩
end
section
variable{X:Cx}{to ti tv te tf:cA}{pos:Pos}
abbrev EK:cA:=λ_ G R=>∀p,G p=bh->R (.ref p) (aG G p (.rQ []))
def Vu:cC X (.Dict [] [] pos) EK:=PE.imp (PE.kf PU) λσ H Q h=>by
 let⟨ρ,G,R,sr,g,q,k⟩:=h;intro p hp kf;exact k _ _ (.ref p) _ (.same (bO hp)) (.ref p) (g.put (u:=.rQ []) hp ⟨_,aN,.inl ⟨rfl,rfl⟩⟩) (q p (eV g hp kf))
abbrev xB:R3:=λx y G R=>match x with
 |.ref a=>∃k aa n,y=ft k/\n5 G a aa/\aa.lookup k=aj n/\R (.int n) G
 |_=>False
def aHD(hu:X.A.units+64<qg)(ho:cC X o to)(hi:cC X i ti)(hs:DU i):cC X (.Subscript o i pos) (aC xB to ti):=by
 intro ψ s σ H Q I h;let⟨ρ,G,R,sr,g,t,k⟩:=h
 refine OS PySem.F.slot_dict_getitem.lookup hs (cV (ho ψ s σ H (λv H1=>Ts H H1/\∃x G1,RD X.K H1 x v/\HR X.K H1 G1/\ti ρ G1 λy G2=>xB x y G2 R) I ⟨ρ,G,_,sr,g,t,λv H1 d G1 t1 r1 g1 q1=>⟨t1,d,G1,r1,g1,q1⟩⟩) λu s1 ⟨vx,H1,I1,rx,t1,x,G1,tj,g1,q1⟩ =>
  cV (hi ψ s1 σ H1 (λv H2=>Ts H1 H2/\∃y G2,RD X.K H2 y v/\HR X.K H2 G2/\xB x y G2 R) I1 ⟨ρ,G1,_,sr.mono t1,g1,q1,λv H2 d G2 t2 r2 g2 q2=>⟨t2,d,G2,r2,g2,q2⟩⟩) λiv s2 ⟨vy,H2,I2,ry,t2,y,G2,km,g2,q2⟩=>?_)
 cases x with
 |ref ad =>
  let⟨kk,aa,n,rfl,e1,e2,q2⟩:=q2;cases tj;obtain rfl:u=au.ref ad:=rx;let⟨b,rfl⟩:=En km;obtain rfl:iv=au.ref b:=ry;let⟨xs,r,hd,dd⟩:=Eo I2 g2 e1;rcases D7 (k:=kk) r with⟨z,_⟩|⟨n',p,z1,z2,t',z3⟩
  .rw[z]at e2;cases e2
  .rw[z1]at e2;cases e2;exact⟨dd.typeIs,wpAny_getItem_heap (knd:=qD X.prog X.w) (by show X.A.units+1+8<qg;omega) (BD I2 km) dd z2 ⟨.int n,H2,I2.tok _,⟨t',z3⟩,k (.int n) H2 (.int n) G2 (t1.trans t2) (.int _) g2 q2⟩⟩
 |_=>exact q2.elim
abbrev y7(x y z:D)(G:Gp)(R:dU):Prop:=match x with
 |.ref a=>∃k aa m,y=ft k/\z=.int m/\G a=aj (.rQ aa)/\R (.int ((aa.lookup k).getD m)) G
 |_=>False
abbrev isNm(x:D)(G:Gp):Prop:=match x with
 |.ref a=>∃aa,G a=aj (.rQ aa)
 |_=>False
abbrev uY(to te tf:cA):cA:=λρ G R=>to ρ G λx G1=>isNm x G1/\te ρ G1 λy G2=>tf ρ G2 λz G3=>y7 x y z G3 R
def aCA(hu:X.A.units+64<qg)(ho:cC X o to)(he:cC X e te)(hf:cC X f tf)(m:M2 X o "get" apos e f ai):cC X (.Call (.Attribute o "get" apos) [e,f] [] ai) (uY to te tf):=by
 intro ψ s σ H Q I h;let⟨ρ,G,R,sr,g,t,k⟩:=h;refine wpAny_Call_method m.base m.DB m.line PySem.F.plainAttrs_dict PySem.F.slot_dict_get PySem.F.type_dict_get (cV (ho ψ s σ H (λv H1=>Ts H H1/\∃x G1,RD X.K H1 x v/\HR X.K H1 G1/\isNm x G1/\te ρ G1 λy G2=>tf ρ G2 λz G3=>y7 x y z G3 R) I ⟨ρ,G,_,sr,g,t,λv H1 d G1 t1 r1 g1 q1=>⟨t1,d,G1,r1,g1,q1⟩⟩) ?_);rintro u s1 ⟨vx,H1,I1,rx,t1,x,G1,tj,g1,AX,q1⟩;cases x with
 |ref a =>
  let⟨SN,e1⟩:=AX;cases tj;obtain rfl:u=au.ref a:=rx;let⟨sR,r1,hd,Bf⟩:=Eo I1 g1 (.inl e1);have ty:=Bf.typeIs;refine⟨ty,?_,?_⟩
  .intro a1 ea;cases ea;let⟨o1,es,ep,h1,h2,_⟩:=Bf;exact⟨o1,h1,h2.2.1⟩
  rw[m.trees]
  refine Calls.callWith_builtin rfl (Calls.evalArgs_plain (Calls.spliced_cons (cV (he ψ s1 σ H1 (λv H2=>Ts H1 H2/\∃y G2,RD X.K H2 y v/\HR X.K H2 G2/\tf ρ G2 λz G3=>y7 (.ref a) y z G3 R) I1 ⟨ρ,G1,_,sr.mono t1,g1,q1,λv H2 d G2 t2 r2 g2 q2=>⟨t2,d,G2,r2,g2,q2⟩⟩) λiv s2 ⟨vy,H2,I2,ry,t2,y,G2,km,g2,q2⟩ =>
   Calls.spliced_cons (cV (hf ψ s2 σ H2 (λv H3=>Ts H2 H3/\∃z G3,RD X.K H3 z v/\HR X.K H3 G3/\y7 (.ref a) y z G3 R) I2 ⟨ρ,G2,_,sr.mono (t1.trans t2),g2,q2,λv H3 d G3 t3 r3 g3 q3=>⟨t3,d,G3,r3,g3,q3⟩⟩) λfv s3 ⟨vz,H3,I3,rz,t3,z,G3,Sr,g3,q3⟩=>Calls.spliced_nil ?_))))
  let⟨kk,aa,mm,rfl,rfl,e3,q3⟩:=q3;have rk:=km.mono t3;let⟨b,rfl⟩:=En rk;obtain rfl:iv=au.ref b:=ry;cases Sr;let⟨tz,rfl⟩:=rz;let⟨xs,r,Bc,dd⟩:=Eo I3 g3 (.inl e3);refine call_meetsIn PySem.F.slot_dict_get dd.typeIs PySem.F.entry_dict_get (PySem.F.args_dict_get_3 _ _ _) (meetsH_dict_get_default (qD X.prog X.w) a b Bc _) ⟨by show X.A.units+1+8<qg;omega,kk,xs,BD I3 rk,dd,?_⟩;rcases D7 (k:=kk) r with⟨z1,z2⟩|⟨n',p,z1,z2,t',z3⟩
  .rw[z2];rw[z1]at q3;exact⟨.int mm,H3,I3.tok _,⟨tz,rfl⟩,k (.int mm) H3 (.int mm) G3 ((t1.trans t2).trans t3) (.int _) g3 q3⟩
  .rw[z2];rw[z1]at q3;exact⟨.int n',H3,I3.tok _,⟨t',z3⟩,k (.int n') H3 (.int n') G3 ((t1.trans t2).trans t3) (.int _) g3 q3⟩
 |_=>exact AX.elim
abbrev Bo(x y d:D)(F:eY)(ρ:aP)(G:Gp):Prop:=match x with
 |.ref a=>∃k aa n,y=ft k/\d=.int n/\G a=aj (.rQ aa)/\aa.length<1000000/\F.nx ρ (aG G a (.rQ (putN aa k n)))
 |_=>False
abbrev Em(to ti tv:cA):bC:=λF ρ G=>tv ρ G λv G1=>to ρ G1 λx G2=>ti ρ G2 λy G3=>Bo x y v F ρ G3
def aCB(hu:X.A.units+64<qg)(ho:cC X o to)(hi:cC X i ti)(hv:cC X value tv)(hs:oD value (aj (.Subscript o i pos')) pos.line X.env=pure ao):fF X (.Assign [.Subscript o i pos'] value pos) (Em to ti tv):=by
 intro ψ s σ H D I h;let⟨ρ,G,F,sr,g,t,up⟩:=h;have big:1000000<dh:=by decide
 refine wpAny_Assign_Subscript (cV (hv ψ s σ H (λv H1=>Ts H H1/\∃d G1,RD X.K H1 d v/\HR X.K H1 G1/\to ρ G1 λx G2=>ti ρ G2 λy G3=>Bo x y d F ρ G3) I ⟨ρ,G,_,sr,g,t,λv H1 d G1 t1 r1 g1 q1=>⟨t1,d,G1,r1,g1,q1⟩⟩) λr s1 ⟨v,H1,I1,rv,t1,d,G1,rd,g1,q1⟩ =>
  cV (ho ψ s1 σ H1 (λv H2=>Ts H1 H2/\∃x G2,RD X.K H2 x v/\HR X.K H2 G2/\ti ρ G2 λy G3=>Bo x y d F ρ G3) I1 ⟨ρ,G1,_,sr.mono t1,g1,q1,λv H2 d G2 t2 r2 g2 q2=>⟨t2,d,G2,r2,g2,q2⟩⟩) λu s2 ⟨vx,H2,I2,rx,t2,x,G2,tj,g2,q2⟩ =>
  cV (hi ψ s2 σ H2 (λv H3=>Ts H2 H3/\∃y G3,RD X.K H3 y v/\HR X.K H3 G3/\Bo x y d F ρ G3) I2 ⟨ρ,G2,_,sr.mono (t1.trans t2),g2,q2,λv H3 d G3 t3 r3 g3 q3=>⟨t3,d,G3,r3,g3,q3⟩⟩) λiv s3 ⟨vy,H3,I3,ry,t3,y,G3,km,g3,q3⟩=>?_) hs
 cases x with
 |ref a =>
  let⟨kk,aa,n,rfl,rfl,e1,lk,q3⟩:=q3;cases tj;cases rd;obtain rfl:u=au.ref a:=rx;let⟨Kz,rfl⟩:=rv;let⟨b,rfl⟩:=En km;obtain rfl:iv=au.ref b:=ry;let⟨o3,eo,ok⟩:=g3 a _ e1;let⟨xs,r0,hd,dd⟩:=rg I3 (.inl eo) ok;have no:=ok.no;have mu:xh (aj o3):=by rcases ok with⟨_,rfl⟩|⟨_,_,_,rfl,_⟩<;>exact True.intro
  have lx:xs.length=aa.length:=(Paired.length r0).symm;refine wpAny_setItem_heap (knd:=qD X.prog X.w) (by show X.A.units+1+8<qg;omega) (BD I3 km) dd (λh' eS d3=>?_) ⋯;have rp:=aC7 (n:=n) (t:=Kz) r0 km;generalize storedH xs kk b (au.int n Kz)=ys at eS rp;let⟨q0,es,ep,z1,z2,z3,z4,_,z5⟩:=eS;have tt:Ts H3 (upd H3 a (.ext (ze X.prog X.w a ys))):=.turn eo no.1 no.2.1;refine⟨σ,_,iJ (t':=_) (ob:=.ext (ze X.prog X.w a ys)) I3 (by rw[eo];exact mu) d3 ⟨q0,z1⟩ ⟨⟨hd,q0,es,ep,z1,z2,z3,z4,z5⟩,⟨q0,z1⟩,λh1 h2 z kp=>?_⟩,up.nx ρ _ σ _ (sr.mono (((t1.trans t2).trans t3).trans tt)) (g3.turn (u:=.rQ (putN aa kk n)) tt ⟨_,aN,.inr ⟨X.prog,X.w,ys,rfl,Paired.zh rp λ_ _ z=>⟨z.1,z.2.1.mono tt,z.2.2⟩⟩⟩) q3⟩;let⟨y0,o1,uA,uB,y1,y2⟩:=z;exact⟨y0,o1,uA,uB,kp _ y1,y2⟩
 |_=>exact q3.elim
end
end
section
open PySem.W
abbrev zt(aa:List (NK×Int))(k:NK):List (NK×Int):=aa.filter λp=>!decide (p.1=k)
def Vt{K:Fg}{k:NK}(r:Paired (nh K H) aa xs):Paired (nh K H) (zt aa k) (fC xs k):=by
 unfold zt fC
 induction r with
 |nil=>exact .nil
 |@cons p x aa xs h r ih =>
  rw[uh,uh];by_cases c:p.1=k
  .rw[if_neg (by simp[c]),if_neg (by rw[h.1];simp[c])];exact ih
  .rw[if_pos (by simp[c]),if_pos (by rw[h.1];simp[c])];exact .cons h ih
section
variable{X:Cx}{to te:cA}{apos ai:Pos}
abbrev D6(x y:D)(G:Gp)(R:dU):Prop:=match x with
 |.ref a=>∃k aa n,y=ft k/\G a=aj (.rQ aa)/\aa.length<1000000/\aa.lookup k=aj n/\R (.int n) (aG G a (.rQ (zt aa k)))
 |_=>False
abbrev El(to te:cA):cA:=λρ G R=>to ρ G λx G1=>isNm x G1/\te ρ G1 λy G2=>D6 x y G2 R
def aCC(hu:X.A.units+64<qg)(ho:cC X o to)(he:cC X e te)(m:M1 X o "pop" apos e ai):cC X (.Call (.Attribute o "pop" apos) [e] [] ai) (El to te):=by
 intro ψ s σ H Q I h;let⟨ρ,G,R,sr,g,t,k⟩:=h;have big:1000000<dh:=by decide
 refine wpAny_Call_method m.base m.DB m.line PySem.F.plainAttrs_dict PySem.F.slot_dict_pop PySem.F.type_dict_pop (cV (ho ψ s σ H (λv H1=>Ts H H1/\∃x G1,RD X.K H1 x v/\HR X.K H1 G1/\isNm x G1/\te ρ G1 λy G2=>D6 x y G2 R) I ⟨ρ,G,_,sr,g,t,λv H1 d G1 t1 r1 g1 q1=>⟨t1,d,G1,r1,g1,q1⟩⟩) ?_);rintro u s1 ⟨vx,H1,I1,rx,t1,x,G1,tj,g1,AX,q1⟩;cases x with
 |ref a =>
  let⟨SN,e1⟩:=AX;cases tj;obtain rfl:u=au.ref a:=rx;let⟨sR,r1,hd,Bf⟩:=Eo I1 g1 (.inl e1);have ty:=Bf.typeIs;refine⟨ty,?_,?_⟩
  .intro a1 ea;cases ea;let⟨o1,es,ep,h1,h2,_⟩:=Bf;exact⟨o1,h1,h2.2.1⟩
  rw[m.trees];refine Calls.callWith_builtin rfl (Calls.evalArgs_plain (Calls.spliced_cons (cV (he ψ s1 σ H1 (λv H2=>Ts H1 H2/\∃y G2,RD X.K H2 y v/\HR X.K H2 G2/\D6 (.ref a) y G2 R) I1 ⟨ρ,G1,_,sr.mono t1,g1,q1,λv H2 d G2 t2 r2 g2 q2=>⟨t2,d,G2,r2,g2,q2⟩⟩) λiv s2 ⟨vy,H2,I2,ry,t2,y,G2,km,g2,q2⟩=>Calls.spliced_nil ?_)));let⟨kk,aa,n,rfl,e3,lk,e4,q3⟩:=q2;let⟨b,rfl⟩:=En km;obtain rfl:iv=au.ref b:=ry;let⟨o3,eo,ok⟩:=g2 a _ e3;let⟨xs,r0,hd,dd⟩:=rg I2 (.inl eo) ok;have no:=ok.no;have mu:xh (aj o3):=by rcases ok with⟨_,rfl⟩|⟨_,_,_,rfl,_⟩<;>exact True.intro
  have lx:xs.length=aa.length:=(Paired.length r0).symm;rcases D7 (k:=kk) r0 with⟨z1,z2⟩|⟨n',p,z1,z2,t',z3⟩
  .rw[z1]at e4;cases e4
  .rw[z1]at e4;cases e4;refine Na (knd:=qD X.prog X.w) (by show X.A.units+1+8<qg;omega) (BD I2 km) dd ⋯ z2 λh' eS d3=>?_;have rp:=Vt (k:=kk) r0;generalize fC xs kk=ys at eS rp;let⟨q0,es,ep,y1,y2,y3,y4,_,y5⟩:=eS;have tt:Ts H2 (upd H2 a (.ext (ze X.prog X.w a ys))):=.turn eo no.1 no.2.1;refine⟨.int n,_,iJ (t':=_) (ob:=.ext (ze X.prog X.w a ys)) I2 (by rw[eo];exact mu) d3 ⟨q0,y1⟩ ⟨⟨hd,q0,es,ep,y1,y2,y3,y4,y5⟩,⟨q0,y1⟩,λh1 h2 z kp=>?_⟩,⟨t',z3⟩,k (.int n) _ (.int n) _ ((t1.trans t2).trans tt) (.int _) (g2.turn (u:=.rQ (zt aa kk)) tt ⟨_,aN,.inr ⟨X.prog,X.w,ys,rfl,Paired.zh rp λ_ _ z=>⟨z.1,z.2.1.mono tt,z.2.2⟩⟩⟩) q3⟩;let⟨w0,o1,uA,uB,w1,w2⟩:=z;exact⟨w0,o1,uA,uB,kp _ w1,w2⟩
 |_=>exact AX.elim
def RA{prog:kj}{w:jj}(d:bw):MeetsIn prog w (Builtin.«dict.clear» ⟨[.ref d],[]⟩) (λ_ R s=>∃es ep,iQ s.heap d es ep/\es.size<=dh/\∀h',iQ h' d #[] (ep+1)->jr d s.heap h'->R (.ok (.ret .none)) {s with heap:=h' }) :=
 .of_wp λA R s ⟨es,ep,hm,Gb,h⟩=>by
  let⟨o,ho,hc,a9⟩:=id hm;unfold Builtin.«dict.clear»;refine aq ?_;unfold Builtin.Dict.noArgs;refine aq (wpAny_notOrdered_dict hm.typeIs ?_);show dj _ _ (pure d) _ _ s;refine cg ?_;refine aq (xq ho a9 ?_);refine aq ?_;unfold bearsInstanceDictMark;refine aq (wpAny_load ho (cg ?_));refine aq (wpAny_updateDictKeys (hz:=Gb) ho a9 ?_);have iO:iQ (s.heap.update d (Obj.mapDictKeys λ_=>#[])) d #[] (ep+1):=⟨_,Au _ ho (Obj.isFreed_of_dict (Obj.data_mapDictKeys a9 _)),hc.mapDictKeys _,Obj.data_mapDictKeys a9 _⟩;split
  ·exact aq (wpAny_letGo (cg ⟨.none,rfl,h _ iO (jr.update ..)⟩))
  .exact aq (cg (cg ⟨.none,rfl,h _ iO (jr.update ..)⟩))
abbrev Ek(x:D)(G:Gp)(R:dU):Prop:=match x with
 |.ref a=>∃t aa,G a=aj (.bD t aa)/\R .ag (aG G a (.bD t []))
 |_=>False
abbrev BR(to:cA):cA:=λρ G R=>to ρ G λx G1=>Ek x G1 R
def aCD(ho:cC X o to)(bP:pd o "clear" X.env (eval o X.env)=eval o X.env)(bE:(apos.endLine==ai.line)=ak):cC X (.Call (.Attribute o "clear" apos) [] [] ai) (BR to):=by
 intro ψ s σ H Q I h;let⟨ρ,G,R,sr,g,q,kk⟩:=h;refine JM bP bE (cV (ho ψ s σ H (λvx H1=>Ts H H1/\∃x G1,RD X.K H1 x vx/\HR X.K H1 G1/\Ek x G1 R) I ⟨ρ,G,_,sr,g,q,λv H1 x G1 t1 r1 g1 q1=>⟨t1,x,G1,r1,g1,q1⟩⟩) ?_);rintro v s1 ⟨vx,H1,I1,r1,t1,x1,G1,rx,g1,q1⟩;cases x1 with
 |ref a =>
  let⟨t,aa,e1,q1⟩:=q1;cases rx;obtain rfl:v=au.ref a:=r1;rcases g1 a _ e1 with⟨rfl,ys,ed,tw⟩|⟨rfl,ys,ed,tw⟩
  .obtain⟨h1,h2,h3⟩:=BY I1 (.inl ⟨_,.inl ed⟩);refine⟨"dict","dict.clear",PySem.F.plainAttrs_dict,PySem.F.slot_dict_clear,PySem.F.type_dict_clear,h1,h2,Calls.callWith_builtin rfl (PySem.evalArgs_none ?_)⟩;let⟨z1,de,vs,kv,o,es,ep,w1,w2,w3,w4,w5,w6⟩:=zB I1.af ed;have lv:ys.length=vs.length:=Paired.length kv;have le:es.size=vs.length:=by have:=w5.length;simpa using this
   refine call_meetsIn PySem.F.slot_dict_clear h1 PySem.F.entry_dict_clear (PySem.F.args_dict_clear_1 _) (RA a) ⟨es,ep,⟨o,w1,w2,w3⟩,⋯,λh' ⟨o',n1,n2,n3⟩ sb=>?_⟩;have tt:Ts H1 (upd H1 a (.dK [])):=.turn ed (λ_ z=>nomatch z) (λ_ _ z=>nomatch z);exact⟨.ag,_,iJ (t':=s1.toks) (ob:=.dK []) I1 (by rw[ed];exact True.intro) sb ⟨_,n1⟩ ⟨ud _,de,[],.nil,o',#[],ep+1,n1,n2,n3,λ_ he=>by simp at he,Pairs.nil,Ah⟩,rfl,kk .ag _ .ag _ (t1.trans tt) .ag (g1.turn (u:=.bD ao []) tt (.inl ⟨rfl,[],aN,.nil⟩)) q1⟩
  .obtain⟨h1,h2,h3⟩:=BY I1 (.inr ⟨_,.inl ed⟩);refine⟨"dict","dict.clear",PySem.F.plainAttrs_dict,PySem.F.slot_dict_clear,PySem.F.type_dict_clear,h1,h2,Calls.callWith_builtin rfl (PySem.evalArgs_none ?_)⟩;let⟨z1,de,ws,rel,o,es,ep,w1,w2,w3,w4,w5,w6⟩:=rq I1.af ed;have lv:ws.length=ys.length:=(Paired.length rel).symm;have le:es.size=ws.length:=size_of_entries w4;refine call_meetsIn PySem.F.slot_dict_clear h1 PySem.F.entry_dict_clear (PySem.F.args_dict_clear_1 _) (RA a) ⟨es,ep,⟨o,w1,w2,w3⟩,⋯,λh' ⟨o',n1,n2,n3⟩ sb=>?_⟩;have tt:Ts H1 (upd H1 a (.dT [])):=.turn ed (λ_ z=>nomatch z) (λ_ _ z=>nomatch z);exact⟨.ag,_,iJ (t':=s1.toks) (ob:=.dT []) I1 (by rw[ed];exact True.intro) sb ⟨_,n1⟩ ⟨ud _,de,[],.nil,o',#[],ep+1,n1,n2,n3,rfl,Ah⟩,rfl,kk .ag _ .ag _ (t1.trans tt) .ag (g1.turn (u:=.bD ak []) tt (.inr ⟨rfl,[],aN,.nil⟩)) q1⟩
 |_=>exact q1.elim
end
end
section
open PySem.W
@[simp]def Fp(K:Fg)(H:Hp)(a:bw)(od:Obj)(aa:List (NK×Int)):Prop:=∃o,H a=aj (.fY od o)/\pw K H a aa o
abbrev Cy(K:Fg)(a:bw)(od:Obj)(aa:List (NK×Int)):It :=
 ⟨λi H=>Fp K H a od aa/\i<aa.length,λi H v H'=>H'=H/\∃k n,aa[i]?=aj (k,n)/\RD K H (ft k) v,λi H=>Fp K H a od aa/\aa.length<=i⟩
def Zz{α β:Type}{P:α->β->Prop}{as:List α}{bs:List β}(r:Paired P as bs):∀{i:Nat}{a:α},as[i]?=aj a->∃b,bs[i]?=aj b/\P a b:=by
 induction r with
 |nil=>intro i a e;simp at e
 |@cons a b _ _ h _ ih =>
  intro i c e;cases i with
  |zero=>simp only[zp,jk.injEq]at e;subst e;exact⟨b,rfl,h⟩
  |succ i=>simpa using ih (by simpa using e)
section
variable{X:Cx}{ψ:List (bw×Obj)}{s:cu}
def Oa{od:Obj}{aa:List (NK×Int)}(I:Inv X ψ σ H s)(hd:od.data=.dict en ep)(h:Fp X.K H a od aa) :
  iQ s.heap a en ep/\en.size=aa.length/\∀(i:Nat)(k:NK)(n:Int),aa[i]?=aj (k,n)->∃(e:lh)(q:bw),en[i]?=aj e/\e.key=au.ref q/\RD X.K H (ft k) (.ref q):=by
 let⟨o,hq,ok⟩:=h;have b7:=(show s.heap.get? a=aj od/\_ from I.af a _ hq).1;let⟨xs,r,_,o1,uA,uB,g1,g2,g3,g4,_⟩:=rg I (.inr ⟨od,hq⟩) ok;rw[b7]at g1;obtain rfl:=jk.inj g1;rw[hd]at g3;injection g3 with e1 e2;subst e1;have hl:en.size=xs.length:=by rw[←jg,g4,dw]
 refine⟨⟨od,b7,g2,hd⟩,by rw[hl];exact(Paired.length r).symm,λi k n e=>?_⟩;let⟨⟨k',q,u⟩,hx,h1,h2,_⟩:=Zz r e;refine⟨entryOfKey (qD X.prog X.w) (k',q,u),q,?_,rfl,h2⟩;rw[←jt,g4,kh,hx];rfl
end
def Pf{w:jj}{K:Fg}{od:Obj}(hd:od.data=.dict en ep) :
  Turn ak tl P w K tg (Cy K a od aa) [it] it (λi h=>h.IsKeyIter it a i en.size ep) where
 mem:=by simp
 obj:=λi h st b hb=>by
  have e:b=it:=by simpa using hb
  subst e;let⟨o,e,c,d⟩:=st;exact⟨o,e,λv z=>by rw[d]at z;cases z⟩
 keep:=λi h h' st k=>st.at λo e=>k it (by simp) o e
 item:=by
  intro X hP hw hK ff ht i ψ s σ H E I hf st hg;subst hP hw hK;let⟨nf,hi⟩:=hg;let⟨hm,hn,hk⟩:=Oa I hd nf;have hx:aa[i]?=aj (aa[i].1,aa[i].2):=gV hi;let⟨e,q,he,ek,hh⟩:=hk i _ _ hx;let⟨f0,f1,f2,f3,f4,f5⟩:=hf it (by simp);refine ER st hm he λh' bu sb=>?_;have I1:Inv X ψ σ H {s with heap:=h' }:=I.turned (t':=s.toks) (λb o hb e=>(sb.2 b hb).trans e) f0 f1 f3 f4 f5;let⟨o,e',c,d⟩:=id bu;exact⟨_,rfl,rX (s:={s with heap:=h' }) e' c d (by decide) ⟨.ref q,H,I1,ek,⟨rfl,_,_,hx,hh⟩,bu,λb hb=>(hf b hb).1⟩⟩
 done:=by
  intro X hP hw hK ff ht i ψ s σ H E I hf st hg;subst hP hw hK;let⟨nf,hi⟩:=hg;let⟨hm,hn,hk⟩:=Oa I hd nf;let⟨f0,f1,f2,f3,f4,f5⟩:=hf it (by simp);exact Es (I.ok.hd (ff rfl)) st hm ⋯ λh' eb=>⟨rfl,I.turned (t':=s.toks) (λb o hb e=>eb b o hb e) f0 f1 f3 f4 f5⟩
 self:=λ_ _ _ _ _ st h=>wpAny_pyIter_keyiter st h
def Xu{K:Fg}:kP K H1 (.kz p od aa) (Cy K p od aa):=λH2 G2 t g ok=>by
 have nf:Fp K H2 p od aa:=g p _ (show G2 p=aj (.fb od aa)from ok);have hl:(Src.kz p od aa).items.length=aa.length:=by simp[Src.items]
 refine⟨λi hi=>⟨nf,by rw[hl]at hi;exact hi⟩,λi v H' hi hy=>?_,⟨nf,by rw[hl];exact dz _⟩⟩;let⟨rfl,k,n,e,r⟩:=hy;exact⟨.refl _,ft k,by simp[Src.items,e],r⟩
abbrev D5(x:D)(G1:Gp)(R:Src->Gp->Prop):Prop:=match x with
 |.ref p=>∃aa,(G1 p=aj (.rQ aa)/\∀od,R (.kz p od aa) (aG G1 p (.fb od aa)))∨∃od,G1 p=aj (.fb od aa)/\R (.kz p od aa) G1
 |_=>False
abbrev fK(te:cA):eB:=λρ G R=>te ρ G λx G1=>D5 x G1 R
section
variable{X:Cx}
def Pe{K:Fg}:qv K (.kz p od aa) (Cy K p od aa):=λH2 G2 g ok=>Xu (H1:=H2) H2 G2 (.refl _) g ok
private theorem Pd(hc:X.calm=ak)(he:cC X e te):sD X tg e (fK te):=by
 intro ψ s σ H Q I h;let⟨ρ,G,R,sr,g,q,kk⟩:=h;refine cV (he ψ s σ H (λvx H1=>Ts H H1/\∃x G1,RD X.K H1 x vx/\HR X.K H1 G1/\D5 x G1 R) I ⟨ρ,G,_,sr,g,q,λv H1 x G1 t1 r1 g1 q1=>⟨t1,x,G1,r1,g1,q1⟩⟩) ?_;rintro v s1 ⟨vx,H1,I1,r1,t1,x1,G1,rx,g1,q1⟩;cases x1 with
 |ref a =>
  let⟨aa,q1⟩:=q1;cases rx;obtain rfl:v=au.ref a:=r1;rcases q1 with⟨e1,q3⟩|⟨od,e1,q3⟩
  case inr =>
   let⟨u,hu,ok⟩:=g1 a _ e1;have b7:=(show s1.heap.get? a=aj od/\_ from I1.af a _ hu).1;let⟨xs,_,de,x5,en,ep,o1,o2,o3,_⟩:=rg I1 (.inr ⟨od,hu⟩) ok;rw[b7]at o1;cases o1;refine ES de ⟨od,b7,o2,o3⟩ ?_;have I3:Inv X ψ σ H1 {s1 with heap:=s1.heap.push {cls:=.type "dict_keyiterator",data:=.fields #[.ref a,.int 0 0,.int en.size 0,.int ep 0]},toks:=s1.toks}:=I1.kept λb o e=>cj _ e;have hit:(s1.heap.push {cls:=.type "dict_keyiterator",data:=.fields #[.ref a,.int 0 0,.int en.size 0,.int ep 0]}).IsKeyIter s1.heap.objs.size a 0 en.size ep:=⟨_,iz _ rfl,rfl,rfl⟩;have ym:H1 s1.heap.objs.size=bh:=I1.af.fresh (dz _);refine⟨s1.heap.objs.size,[s1.heap.objs.size],_,Cy X.K a od aa,_,rfl,I3,(show Turn X.calm X.tp X.prog X.w X.K tg _ _ _ _ from hc ▸ Pf o3),hit,λb hb=>?_,kk _ _ _ _ t1 g1 Pe q3⟩;have e:b=s1.heap.objs.size:=by simpa using hb
   subst e;exact I1.iE (dz _) ym
  let⟨u,hu,ok⟩:=g1 a _ e1;let⟨xs,_,de,od,en,ep,o1,o2,o3,_⟩:=rg I1 (.inl hu) ok;let⟨u1,u2,u3,u4⟩:=ok.no;refine ES de ⟨od,o1,o2,o3⟩ ?_;have I3:Inv X ψ σ H1 {s1 with heap:=s1.heap.push {cls:=.type "dict_keyiterator",data:=.fields #[.ref a,.int 0 0,.int en.size 0,.int ep 0]},toks:=s1.toks}:=I1.kept λb o e=>cj _ e;have FQ:(s1.heap.push {cls:=.type "dict_keyiterator",data:=.fields #[.ref a,.int 0 0,.int en.size 0,.int ep 0]}).get? a=aj od:=cj _ o1;have hit:(s1.heap.push {cls:=.type "dict_keyiterator",data:=.fields #[.ref a,.int 0 0,.int en.size 0,.int ep 0]}).IsKeyIter s1.heap.objs.size a 0 en.size ep:=⟨_,iz _ rfl,rfl,rfl⟩;have ym:H1 s1.heap.objs.size=bh:=I1.af.fresh (dz _);have tt:Ts H1 (upd H1 a (.fY od u)):=Ts.turn hu u1 u2;have g4:HR X.K (upd H1 a (.fY od u)) (aG G1 a (.fb od aa)):=g1.turn tt ⟨u,aN,ok.imp λ_ _ z=>z.mono tt⟩;have I4:=I3.freeze hu u1 u2 u3 u4 FQ;have na:s1.heap.objs.size≠a:=Ae (ig o1);refine⟨s1.heap.objs.size,[s1.heap.objs.size],_,Cy X.K a od aa,_,rfl,I4,(show Turn X.calm X.tp X.prog X.w X.K tg _ _ _ _ from hc ▸ Pf o3),hit,λb hb=>?_,kk _ _ _ _ (t1.trans tt) g4 Pe (q3 od)⟩;have e:b=s1.heap.objs.size:=by simpa using hb
  subst e;exact I1.iE (dz _) (by rw[aZ na];exact ym)
 |_=>exact q1.elim
def Vs(hc:X.calm=ak)(he:cC X e te):pk X tg e (fK te):=aLL (Pd hc he)
end
def Vr{K:Fg}(g:HR K H G)(e:G p=aj (.fb od aa)) :
  ∃u,H p=aj (.fY od u)/\(∀xs,u≠.tup xs)/\Tt H (upd H p u)/\HR K (upd H p u) (aG G p (.rQ aa)):=by
 let⟨u,hu,ok⟩:=g p _ e
 have tt:Tt H (upd H p u):=by
  refine⟨λa xs q=>?_,λa o xs q=>?_⟩
  .rw[aZ];exact q;intro z;subst z;rw[hu]at q;cases q
  .rw[aZ];exact q;intro z;subst z;rw[hu]at q;cases q;exact ok.no.1 xs rfl
 refine⟨u,hu,ok.no.1,tt,λa v q=>?_⟩;by_cases z:a=p
 .subst z;rw[aF]at q;obtain rfl:=jk.inj q;exact⟨u,aN,ok.imp λ_ _ z=>z.gA tt⟩
 .rw[aM z]at q;exact(g a v q).Mg tt λw y=>by rw[aZ z];exact y
abbrev rf(i:Nat)(te:cA):cA:=λρ G R=>te ρ G R∨∃p,((∃t aa,G p=aj (.bD t aa)/\te ρ G λd G1=>(∃od,G1 p=aj (.c9 od t aa))/\R d (aG G1 p (.bD t aa)))∨∃aa,G p=aj (.rQ aa)/\te ρ G λd G1=>R d G1∨((∃od,G1 p=aj (.fb od aa))/\R d (aG G1 p (.rQ aa))))
def aHH{i:Nat}(he:cC X e te):cC X e (rf i te):=by
 intro ψ s σ H Q I h;let⟨ρ,G,R,sr,g,q0,kk⟩:=h;rcases q0 with q0|⟨p,q⟩
 .exact he ψ s σ H Q I ⟨ρ,G,R,sr,g,q0,kk⟩
 have fin:∀{H1:Hp}{u:HO},(∀o w,H p≠aj (.fY o w))->Ts H H1->Tt H1 (upd H1 p u)->Ts H (upd H1 p u):=λnf t1 tt=>⟨λa xs z=>tt.aE _ _ (t1.aE _ _ z),λa o w z=>by
  rw[aZ];exact t1.lZ _ _ _ z;intro c;subst c;exact nf _ _ z⟩
 rcases q with⟨t,aa,hp,q⟩|⟨aa,hp,q⟩
 .obtain⟨w0,A0,w1,w2,w3,_⟩:=Of g hp default;have fz:Fz X p:=Fz.of I A0 w1 w2 w3;refine cV (he ψ s σ H (λv H1=>Ts H H1/\∃d G1,RD X.K H1 d v/\HR X.K H1 G1/\(∃od,G1 p=aj (.c9 od t aa))/\R d (aG G1 p (.bD t aa))) I ⟨ρ,G,_,sr,g,q,λv H1 d G1 t1 r1 g1 q1=>⟨t1,d,G1,r1,g1,q1.1,q1.2⟩⟩) ?_;rintro u s1 ⟨v,H1,I1,r1,t1,d,G1,rd,g1,⟨od,e1⟩,q1⟩;let⟨w,hw,v1,v2,kH,tt,g'⟩:=Xy g1 e1;exact⟨v,_,I1.Qa fz hw v1 (aC5 I1 kH hw),r1,kk v _ d _ (fin (λo x z=>by rw[A0]at z;exact w2 _ _ (jk.inj z)) t1 tt) (rd.gA tt) g' q1⟩
 .obtain⟨w0,A0,ok⟩:=g p _ hp;let⟨w1,w2,w3,w4⟩:=ok.no;have fz:Fz X p:=Fz.of I A0 w1 w2 w3;refine cV (he ψ s σ H (λv H1=>Ts H H1/\∃d G1,RD X.K H1 d v/\HR X.K H1 G1/\(R d G1∨((∃od,G1 p=aj (.fb od aa))/\R d (aG G1 p (.rQ aa))))) I ⟨ρ,G,_,sr,g,q,λv H1 d G1 t1 r1 g1 q1=>⟨t1,d,G1,r1,g1,q1⟩⟩) ?_;rintro u s1 ⟨v,H1,I1,r1,t1,d,G1,rd,g1,q1⟩;rcases q1 with q1|⟨⟨od,e1⟩,q1⟩
  .exact⟨v,H1,I1,r1,kk v _ d _ t1 rd g1 q1⟩
  let⟨w,hw,v1,tt,g'⟩:=Vr g1 e1
  have kH:∃en ep,od.data=.dict en ep:=by
   let⟨o,hq,FP⟩:=g1 p _ e1;have b7:=(show s1.heap.get? p=aj od/\_ from I1.af p _ hq).1;let⟨xs,_,_,o1,uA,uB,LM,_,g3,_⟩:=rg I1 (.inr ⟨od,hq⟩) FP;rw[b7]at LM;cases LM;exact⟨_,_,g3⟩
  exact⟨v,_,I1.Qa fz hw v1 kH,r1,kk v _ d _ (fin (λo x z=>by rw[A0]at z;exact w2 _ _ (jk.inj z)) t1 tt) (rd.gA tt) g' q1⟩
end
end L2
namespace L2
open PySem PySem.Spec PyProof.Rows
section
open PySem.W
section
end
end
section
open PySem.W
section
end
section
end
end
variable{q:Array Nat}
section
open PySem.W
section
variable{X:Cx}
def Qw{K:Fg}:∀{aa:List (DK×D)}{ys:List (Key×V)},qH K H .inl aa ys->cN K H (aa.map λp=>cK p.1) (ys.map λy=>kV y.1)
 |_,_,.nil=>.nil
 |p::aa,y::ys,.cons h r=>by
  refine .cons ?_ (Qw r);show RD K H (cK p.1) (kV y.1);rw[h.1];exact HC y.1
def N9:∀{xs:List V}{us:List au},us.length=xs.length->(∀(i:Nat)(x:V),xs[i]?=aj x->∃u,us[i]?=aj u/\RelV x u)->Vals xs us
 |[],[],_,_=>.nil
 |x::xs,u::us,hl,h=>by
  let⟨v,e,r⟩:=h 0 x rfl;cases e;exact .cons r (N9 (by simpa using hl) λi y e=>h (i+1) y (by simpa using e))
abbrev EJ:List D->Gp->dU->Prop:=λxs G R=>EO xs G R∨∃a aa,xs=[.ref a]/\G a=aj (.bD ao aa)/\∀l,G l=bh->R (.ref l) (aG G l (.lst (aa.map λp=>cK p.1)))
def Vq(hc:X.calm=ak):cB X (.type "list") EJ:=by
 intro ψ s σ H xs vs us G R Q I rx rv g q k;rcases q with q|⟨a,aa,rfl,e1,q⟩
 .exact VH hc ψ s σ H xs vs us G R Q I rx rv g q k
 cases rx with
 |cons r1 rr =>
 cases rr;cases r1;cases rv with
 |cons rv rr =>
 cases rr;cases rv;rcases g a _ e1 with⟨_,ys,e,tw⟩|⟨z,_⟩
 .obtain⟨z1,hd,ws,kv,o,es,ep,ho,ub,a9,Tc,ye,hn⟩:=zB I.af e;have le:es.toList.length=ws.length:=ye.length;have ly:ys.length=ws.length:=Paired.length kv;refine kdl_call (Er hd) (I.ok.hd hc) ⟨o,ho,ub,a9⟩ (by rw[←jg];omega) λh' tk acc c kk hS a8=>?_;have fr:H s.heap.objs.size=bh:=I.af.fresh (dz _);have sn:aI H (upd H s.heap.objs.size (.lst (ys.map λy=>kV y.1))):=bO fr
  have vals:Vals (ys.map λy=>kV y.1) acc.toList:=N9 (by rw[jg,a8.1,dw,←jg];omega) λi x ex=>by
   rw[kh]at ex;let⟨y,ey,rfl⟩:=uf.mp ex;let⟨u,eu,_⟩:=M4 kv (show ys[i]?=aj (y.1,y.2)from ey);let⟨hi,_⟩:=jd.mp eu;have kK:i<acc.size:=by rw[a8.1,←jg];omega
   let⟨en,y1,y2⟩:=a8.2 i acc[i] (gw kK);let⟨hk,_⟩:=ye.get? (show es.toList[i]?=aj en by rw[jt];exact y1) eu;exact⟨acc[i],by rw[jt,gw kK],by rw[y2];exact Oh hk⟩
  have J:Inv X ψ σ (upd H s.heap.objs.size (.lst (ys.map λy=>kV y.1))) {s with heap:=h',toks:=tk}:=I.laid (t':=tk) (o:=.lst _) kk (dz _) ⟨by rw[dw];exact z1,_,c,vals,by simpa using hS⟩;exact⟨.ref s.heap.objs.size,_,J,rfl,k _ _ (.ref _) _ (.same sn) (.ref _) (g.put (u:=.lst _) fr ⟨_,aN,(Qw tw).mono (.same sn)⟩) (q _ (eV g fr (lW J)))⟩
 .cases z
abbrev N8:List D->Gp->dU->Prop:=λxs G R=>∃a,∃ns:List Int,xs=[.ref a]/\bB G a=aj (ns.map D.int)/\ns.Nodup/\ns.length<64/\∀ms:List Int,ms.Perm ns->ms.Pairwise (· < ·)->∀r,G r=bh->R (.ref r) (aG G r (.lst (ms.map D.int)))
def N7{K:Fg}:∀{ns:List Int}{xs:List V}{us:List au},cN K H (ns.map D.int) xs->Vals xs us->kX us ns
 |[],_,_,.nil,.nil=>.nil
 |n::ns,_,_,.cons r rs,.cons v vs=>by
  cases r;let⟨t,rfl⟩:=v;exact .cons n t (N7 rs vs)
def ints_get:∀{ns:List Int}{us:List au},kX us ns->∀i,i<us.length->∃t,us.getD i au.none=.int (ns.getD i 0) t
 |_,_,.nil,i,h=>by simp at h
 |_,_,.cons n t r,0,_=>⟨t,rfl⟩
 |_,_,.cons n t r,i+1,h=>by simpa using ints_get r i (by simpa using h)
def Qv{K:Fg}{ns:List Int}{xs:List V}(r:cN K H (ns.map D.int) xs):∀{q:List Nat},(∀i∈q,i<ns.length)->cN K H ((q.map λi=>ns.getD i 0).map D.int) (q.map λi=>xs.getD i .ag)
 |[],_=>.nil
 |i::q,h=>by
  have hi:=h i (by simp);let⟨v,e1,e2⟩:=r.get (d:=.int ns[i]) (i:=i) (by simp[hi]);refine .cons ?_ (Qv r λj hj=>h j (by simp[hj]));show RD K H (.int (ns.getD i 0)) (xs.getD i .ag);have z1:ns.getD i 0=ns[i]:=by simp[vg,hi]
  have z2:xs.getD i .ag=v:=by simp[vg,e1]
  rw[z1,z2];exact e2
def N6{ns:List Int}(nd:ns.Nodup)(P:Pm ns.length q)(u:Up (λi=>ns.getD i 0) q ns.length):(q.toList.map λi=>ns.getD i 0).Perm ns/\(q.toList.map λi=>ns.getD i 0).Pairwise (· < ·):=by
 have AZ:(jw ns.length).map (λi=>ns.getD i 0)=ns:=by
  apply List.ext_getElem (by simp);intro i h1 h2;simp[h2]
 have pm:(q.toList.map λi=>ns.getD i 0).Perm ns:=by have:=P.perm.map λi=>ns.getD i 0;rw[AZ]at this;exact this
 refine⟨pm,?_⟩;have kF:=wj.mp (pm.nodup_iff.mpr nd);rw[wj];intro i j hi hj mh;have ne:=kF i j hi hj mh;have li:i<q.size:=by simpa using hi
 have lj:j<q.size:=by simpa using hj
 have le:ns.getD (q.getD i 0) 0<=ns.getD (q.getD j 0) 0:=u i j (zy mh) (by rw[←P.size];exact lj);have gi:q.toList[i]'(by simpa using li)=q.getD i 0:=by simp[k7,li]
 have gj:q.toList[j]'(by simpa using lj)=q.getD j 0:=by simp[k7,lj]
 simp only[List.getElem_map,gi,gj]at ne ⊢;omega
def Vp:cB X (.builtin "sorted") N8:=by
 intro ψ s σ H xs vs us G R Q I rx rv g q k;let⟨a,ns,rfl,e1,nd,dy,h⟩:=q;have big:1000<dh:=by decide
 cases rx with
 |cons r1 rr =>
 cases rr;cases r1;cases rv with
 |cons rv rr =>
 cases rr;cases rv;let⟨zs,hq,r⟩:=cT g e1;let⟨its,vi,pl,_⟩:=I.list hq;have iu:=N7 r vi;have l1:its.length=ns.length:=iu.length;have l2:zs.length=ns.length:=by rw[←r.length,dw]
 refine Pr (kf:=λi=>ns.getD i 0) pl.isList ⋯ (λi j hi hj e=>?_) (λl2 h' kp=>⟨oneType',λQ hQ=>by rw[ksk_kind (by simpa using iu) (by simpa using l2)];exact cg hQ,λi j C hi hj hC=>?_⟩) λq P u=>?_
 .rw[l1]at hi hj;exact(List.getElem_inj nd).mp (by simpa[vg,hi,hj]using e)
 .unfold kas_ask;let⟨t1,y1⟩:=ints_get iu i hi;let⟨t2,y2⟩:=ints_get iu j hj;rw[y1,y2];exact kat_lt_int hC
 .rw[l1]at P u;let⟨p1,p2⟩:=N6 nd P u;have dE:∀i∈q.toList,i<ns.length:=λi hi=>ou.mp (P.perm.mem_iff.mp hi);have fr:H (s.heap.objs.size+1)=bh:=I.af.fresh (oP _);have sn:aI H (upd H (s.heap.objs.size+1) (.lst (q.toList.map λi=>zs.getD i .ag))):=bO fr;let⟨c,hc⟩:=M7 (h:=s.heap) (vs:=its) (out:=(q.toList.map λi=>its.getD i au.none).toArray)
  have J:Inv X ψ σ (upd H (s.heap.objs.size+1) (.lst (q.toList.map λi=>zs.getD i .ag))) {s with heap:=sortedAll s.heap its (q.toList.map λi=>its.getD i au.none).toArray} :=
   I.laid (t':=s.toks) (λb o e=>Ou e) (oP _) ⟨by rw[dw,jg,P.size];omega,_,c,qZ vi λi hi=>by rw[l2];exact dE i hi,hc⟩
  exact⟨.ref (s.heap.objs.size+1),_,J,rfl,k _ _ (.ref _) _ (.same sn) (.ref _) (g.put (u:=.lst _) fr ⟨_,aN,(Qv r dE).mono (.same sn)⟩) (h _ p1 p2 _ (eV g fr (lW J)))⟩
abbrev zN:List D->Gp->dU->Prop:=λxs G R=>Ip xs G R∨N8 xs G R
def Xs:cB X (.builtin "sorted") zN:=λψ s σ H xs vs us G R Q I rx rv g q k=>q.elim (λq=>VL ψ s σ H xs vs us G R Q I rx rv g q k) λq=>Vp ψ s σ H xs vs us G R Q I rx rv g q k
end
end
section
open PySem.W
def Qu{K:Fg}{ds:List D}{xs:List V}(r:cN K H ds xs):∀{l:List Nat},(∀i∈l,i<ds.length)->cN K H (l.map λi=>ds.getD i .ag) (l.map λi=>xs.getD i .ag)
 |[],_=>.nil
 |i::l,h=>by
  have hi:=h i (by simp);let⟨v,e1,rd⟩:=r.get (gV hi);have e2:ds.getD i .ag=ds[i]:=by simp[vg,hi]
  have e3:xs.getD i .ag=v:=by simp[vg,e1]
  refine .cons ?_ (Qu r λj hj=>h j (by simp[hj]));show RD K H (ds.getD i .ag) (xs.getD i .ag);rw[e2,e3];exact rd
section
variable{X:Cx}{ψ:List (bw×Obj)}{s:cu}{G:Gp}{R:dU}{Q:VK}
def Vo{h1 h':ju}{tk c:Nat}{ds:List D}{us:List au}(I:Inv X ψ σ H {s with heap:=h1,toks:=tk})(g:HR X.K H G)(r:cN X.K H ds xs)(rv:Vals xs us)(hl:ds.length<64)(k:∀v H' d G',Ts H H'->RD X.K H' d v->HR X.K H' G'->R d G'->Q v H')
  (h:∀r,G r=bh->R (.ref r) (aG G r (.lst (q.toList.map λi=>ds.getD i .ag))))(P:Pm us.length q)(k2:∀b o,h1.get? b=aj o->h'.get? b=aj o)(ho:h'.get? h1.objs.size=aj (qp "list" (q.toList.map λi=>us.getD i au.none).toArray c)):EP X ψ σ Q (.ref h1.objs.size) {s with heap:=h',toks:=tk}:=by
 have big:1000<dh:=by decide
 have l1:us.length=ds.length:=by rw[←rv.length,←r.length]
 rw[l1]at P;have dE:∀i∈q.toList,i<ds.length:=λi hi=>ou.mp (P.perm.mem_iff.mp hi);have fr:H h1.objs.size=bh:=I.af.fresh (dz _);have sn:aI H (upd H h1.objs.size (.lst (q.toList.map λi=>xs.getD i .ag))):=bO fr
 have J:Inv X ψ σ (upd H h1.objs.size (.lst (q.toList.map λi=>xs.getD i .ag))) {s with heap:=h',toks:=tk} :=
  I.laid (t':=tk) (λb o e=>k2 b o e) (dz _) ⟨by rw[dw,jg,P.size];omega,_,c,qZ rv λi hi=>by rw[←r.length];exact dE i hi,ho⟩
 exact⟨.ref h1.objs.size,_,J,rfl,k _ _ (.ref _) _ (.same sn) (.ref _) (g.put (u:=.lst _) fr ⟨_,aN,(Qu r dE).mono (.same sn)⟩) (h _ (eV g fr (lW J)))⟩
abbrev N5:List D->Gp->dU->Prop:=λxs G R=>∃a aa,∃ns:List Int,xs=[.ref a]/\G a=aj (.bD ao aa)/\aa.map (·.1)=ns.map (λn=>.inl (.inl n))/\ns.Nodup/\ns.length<64/\∀ms:List Int,ms.Perm ns->ms.Pairwise (· < ·)->∀r,G r=bh->R (.ref r) (aG G r (.lst (ms.map D.int)))
def MX{K:Fg}{H:Hp}:∀{ns:List Int}{aa:List (DK×D)}{ys:List (Key×V)},qH K H .inl aa ys->aa.map (·.1)=ns.map (λn=>(.inl (.inl n):DK))->ys.map (·.1)=ns.map (λn=>(.inl n:Key))
 |[],[],_,.nil,_=>rfl
 |[],_::_,_,.cons _ _,e=>by cases e
 |_::_,[],_,.nil,e=>by cases e
 |n::ns,p::aa,y::ys,.cons h r,e=>by
  injection e with e1 e2;have h1:(.inl (.inl n):DK)=.inl y.1:=Eq.trans (Eq.symm (show p.1=.inl (.inl n)from e1)) h.1;show y.1::_=_::_;rw[MX r e2,←Sum.inl.inj h1]
def Pc:∀{ns:List Int}{us:List au},us.length=ns.length->(∀(i:Nat)(n:Int),ns[i]?=aj n->∃t,us[i]?=aj (au.int n t))->kX us ns
 |[],[],_,_=>.nil
 |n::ns,u::us,hl,h=>by
  let⟨t,e⟩:=h 0 n rfl;cases e;exact .cons n t (Pc (by simpa using hl) λi m e=>h (i+1) m (by simpa using e))
def Jp:∀{ns:List Int}{us:List au},kX us ns->∀i,i<us.length->∃t,us.getD i au.none=.int (ns.getD i 0) t
 |_,_,.nil,i,h=>by simp at h
 |_,_,.cons n t r,0,_=>⟨t,rfl⟩
 |_,_,.cons n t r,i+1,h=>by simpa using Jp r i (by simpa using h)
def Mf:∀{ns:List Int}{us:List au},kX us ns->Vals (ns.map V.int) us
 |[],_,.nil=>.nil
 |_::_,_,.cons _ t r=>.cons ⟨t,rfl⟩ (Mf r)
def P9{K:Fg}{H:Hp}:∀ns:List Int,cN K H (ns.map D.int) (ns.map V.int)
 |[]=>.nil
 |n::ns=>.cons (.int n) (P9 ns)
def Vn(hc:X.calm=ak):cB X (.builtin "sorted") N5:=by
 intro ψ s σ H xs vs us G R Q I rx rv g q k;let⟨a,aa,ns,rfl,e1,ek,nd,hl,h⟩:=q;cases rx with
 |cons r1 rr =>
 cases rr;cases r1;cases rv with
 |cons rv rr =>
 cases rr;cases rv;rcases g a _ e1 with⟨_,ys,e,tw⟩|⟨z,_⟩
 .obtain⟨z1,de,vs,kv,o,es,ep,ho,ub,a9,Tc,ye,hn⟩:=zB I.af e
  have lv:vs.map (·.1)=ns.map (λn=>(.inl n:Key)):=by
   rw[←MX tw ek];clear ye hn tw e z1
   induction kv with
   |nil=>rfl
   |cons h r ih=>rw[iw,iw,ih,h.1]
  have ln:vs.length=ns.length:=by simpa using congrArg pf lv
  have le:es.toList.length=vs.length:=ye.length
  have iu:kX (es.toList.map (·.key)) ns:=Pc (by rw[dw];omega) λi n ei=>by
   let⟨hi,_⟩:=jd.mp ei;have z:=congrArg (·[i]?) lv;rw[kh,kh,ei,gV (show i<vs.length by omega)]at z;have z2:(vs[i]'⋯).1=.inl n:=by simpa using z
   have z3:es.toList[i]?=aj (es.toList[i]'⋯):=gV ⋯;let⟨hk,_⟩:=ye.get? z3 (show vs[i]?=aj ((vs[i]'⋯).1,(vs[i]'⋯).2)from gV ⋯);rw[z2]at hk;rcases cJ (show uG (Sum.inl n) _=ak from hk)with⟨m,t,y1,y2⟩|⟨m,t,y1,y2⟩
   .cases y1;exact⟨t,by rw[kh,z3];exact congrArg aj y2⟩
   .cases y1
  have lu:(es.toList.map (·.key)).length=ns.length:=iu.length
  refine Io (kf:=λi=>ns.getD i 0) (vs:=es.toList.map (·.key)) (λR' E' hR=>kdu_collect (Er de) (I.ok.hd hc) ⟨o,ho,ub,a9⟩ (by rw[←jg];have:1000<dh:=(by decide);omega) λh' tk acc kk a8=>?_) ⋯ (λi j hi hj e=>?_) (λl2 s' h' kp=>⟨oneType',λQ hQ=>by rw[ksk_kind (by simpa using iu) (by simpa using l2)];exact cg hQ,λi j C hi hj hC=>?_⟩) λq h1 tk h' c P u k1 k2 ho=>Vo (I.kept (t':=tk) k1) g (P9 ns) (Mf iu) (by simpa using hl) k (λr hr=>by
   rw[lu]at P u;let⟨s1,s2⟩:=N6 nd P u
   have e0:(q.toList.map λi=>(ns.map D.int).getD i .ag)=(q.toList.map λi=>ns.getD i 0).map D.int:=by
    rw[ni];refine yx λi hi=>?_;have d6:i<ns.length:=ou.mp (P.perm.mem_iff.mp hi);simp[vg,d6]
   rw[e0];exact h _ s1 s2 r hr) P k2 ho
  .have:acc.toList=es.toList.map (·.key):=by
    apply E8;intro i;rw[kh,jt,jt];by_cases hi:i<es.size
    .obtain⟨en,y1,y2⟩:=a8.2 i _ (gw (by rw[a8.1];exact hi));rw[gw (by rw[a8.1];exact hi),y2,y1];rfl
    .rw[wu (by rw[a8.1];omega),wu ⋯];rfl
   rw[this];exact hR h' tk kk
  .rw[lu]at hi hj;exact(List.getElem_inj nd).mp (by simpa[vg,hi,hj]using e)
  .unfold kas_ask;let⟨t1,y1⟩:=Jp iu i hi;let⟨t2,y2⟩:=Jp iu j hj;rw[y1,y2];exact kat_lt_int hC
 .cases z
abbrev uZ:List D->Gp->dU->Prop:=λxs G R=>wK xs G R∨N5 xs G R
def Xr(hc:X.calm=ak):cB X (.builtin "sorted") uZ:=λψ s σ H xs vs us G R Q I rx rv g q k=>q.elim (λq=>VF hc ψ s σ H xs vs us G R Q I rx rv g q k) λq=>Vn hc ψ s σ H xs vs us G R Q I rx rv g q k
end
end
end L2
namespace L4
open PySem PySem.Spec PyProof.Rows L2
inductive BF where
 |len|qf|all|min|max|sum|BC|v5|Bm|BB|BA
 deriving DecidableEq
inductive MK where
 |append
 deriving DecidableEq
inductive DM where
 |C5|pop
 deriving DecidableEq
inductive GT where
 |con (d:D)|cls (a:bw)|fn (sp:qF) (n:Nat) (qt:Bool)|bf (b:BF)|bt (n:String)|kl (C:bw) (sp:qF) (dd:List D)|me (C:bw) (m:Str) (sp:qF) (dd:List D)|fl (C:bw) (f:Str)
structure SI where
 N:List Str
 fl:List Bool
 lc:List Bool
 ce:List Bool
 gl:List (Str×GT)
 gv:List Bool
 calm:Bool
mutual
inductive CE where
 |var (i:Nat)|con (d:D)|mw (k:Nat)|neg (a:CE)|Bl (a:CE)|bin (o:Operator) (a b:CE)|cmp (o:CmpOp) (a b:CE)|chain (o o':CmpOp) (a b c:CE)
 |mP (es:eI)|tup (es:eI)|lst (es:eI)|uC|ix (a b:CE)|call (k:Nat) (es:eI)|bz (m:MK) (o:CE) (es:eI)
 |comp (fl gv:List Bool) (ci:CI) (cc:CC) (e:CE)|zr (n:Nat) (fl gv:List Bool) (ci:CI) (cc:CC) (e:CE)|jB (a b:CE)|yz (o e f:CE)|qr|dm (m:DM) (o e:CE) (es:eI)|sortI (k:Nat) (o:CE)|i7 (neg:Bool) (a b:CE)|Bk|qa (a b:CE)|l9 (o e f:CE)|p6 (i:Nat) (a:CE)|zo (k k2:Nat) (e:CE)|yY (o e:CE)|Bj (o:CE)|Bz (ks:List Str) (es:eI)
inductive eI where
 |nil|cons (e:CE) (r:eI)
inductive CT where
 |cmp (o:CmpOp) (a b:CE)|chain (o o':CmpOp) (a b c:CE)|not (t:CT)|and (ts:sN)|or (ts:sN)|val (e:CE)|i7 (neg:Bool) (a b:CE)
inductive sN where
 |nil|cons (t:CT) (r:sN)
inductive CO where
 |none|some (e:CE)
inductive CI where
 |any (e:CE)|yT (e:CE)|yB (a b:CE)|keys (e:CE)|xC (e:CE)
inductive CC where
 |none|some (t:CT)
end
@[simp]def SI.cmp(S:SI)(xs:List Str)(fl gv:List Bool):SI:=⟨xs++S.N,xs.map (λ_=>ak)++fl,xs.map (λ_=>ak)++S.N.map (λ_=>ao),xs.map (λ_=>ao)++fl,S.gl,gv,S.calm⟩
abbrev Bi:cA:=λ_ _ _=>False
abbrev Me:wY:=λ_ _ _=>False
abbrev sF:aP->aW:=λ_ _ _=>False
abbrev Md:Operator->R3
 |.Add=>d7
 |.Sub=>uP
 |.Mult=>zF
 |.FloorDiv=>cW
 |.Mod=>cZ
 |.Pow=>zI
 |_=>λ_ _ _ _=>False
abbrev vT:CmpOp->R3
 |.Eq=>f9
 |.NotEq=>qU
 |.Lt=>ir
 |.LtE=>ja
 |.Gt=>nc
 |.In=>DR
 |_=>λ_ _ _ _=>False
abbrev P8(K:Fg):BF->List D->Gp->dU->Prop
 |.len=>iK
 |.qf=>bN K
 |.all=>wd
 |.min=>Eu
 |.max=>yP
 |.sum=>zC
 |.BC=>EJ
 |.v5=>zN
 |.Bm=>Ao
 |.BB=>uZ
 |.BA=>sE
abbrev IW(n:String):List D->Gp->dU->Prop:=if n="int" then Eb else if n="list" then BX else λ_ _ _=>False
abbrev Gr:DM->Str
 |.C5=>"setdefault"
 |.pop=>"pop"
abbrev LP:DM->iL
 |.C5=>rh
 |.pop=>Ap
abbrev Dh:MK->String
 |.append=>"list"
abbrev Di:MK->iL
 |.append=>fB
abbrev AV:MK->Str
 |.append=>"append"
abbrev IV(T:List (Str×GT))(k:Nat):cA:=match T[k]? with
 |some (_,.con d)=>aK d
 |some (_,.cls a)=>aK (.ref a)
 |some (_,.bt n)=>aK (.ty n)
 |_=>Bi
abbrev IU(T:List (Str×GT))(K:Fg)(ex:aP->aW)(k:Nat)(t:oR):cA:=match T[k]? with
 |some (_,.fn sp _ _)=>aU sp ex t
 |some (_,.cls a)=>Hd a t
 |some (_,.bf b)=>dD (P8 K b) t
 |some (_,.bt n)=>dD (IW n) t
 |some (_,.kl C sp dd)=>HF C sp dd ex t
 |_=>Bi
mutual
noncomputable def mE(T:List (Str×GT))(K:Fg)(ex:aP->aW):CE->cA
 |.var i=>aB i
 |.con d=>aK d
 |.mw k=>IV T k
 |.neg a=>we (mE T K ex a)
 |.Bl a=>Ey (mE T K ex a)
 |.bin o a b=>aC (Md o) (mE T K ex a) (mE T K ex b)
 |.cmp o a b=>aC (vT o) (mE T K ex a) (mE T K ex b)
 |.chain o o' a b c=>gH (vT o) (vT o') (mE T K ex a) (mE T K ex b) (mE T K ex c)
 |.mP es=>IT T K ex es
 |.tup es=>bI (mA T K ex es)
 |.lst es=>fW (mA T K ex es)
 |.uC=>BW
 |.ix a b=>aC bV (mE T K ex a) (mE T K ex b)
 |.call k es=>IU T K ex k (mA T K ex es)
 |.bz m o .nil=>Jb (Dh m) (Di m) (mE T K ex o)
 |.bz m o (.cons e r)=>j3 (Dh m) (Di m) (mE T K ex o) (aA (mE T K ex e) (mA T K ex r))
 |.comp _ _ ci cc e=>nH (mI T K ex ci) (mC T K cc) (mE T K sF e)
 |.zr n _ _ ci cc e=>Oz n (mI T K ex ci) (mC T K cc) (mE T K sF e)
 |.jB a b=>aC aO (mE T K ex a) (mE T K ex b)
 |.yz o e f=>EU (mE T K ex o) (mE T K ex e) (mE T K ex f)
 |.qr=>rT
 |.dm m o e es=>u7 (LP m) (mE T K ex o) (aA (mE T K ex e) (mA T K ex es))
 |.sortI _ o=>EN (mE T K ex o)
 |.i7 neg a b=>aC (xA neg) (mE T K ex a) (mE T K ex b)
 |.Bk=>EK
 |.qa a b=>aC xB (mE T K ex a) (mE T K ex b)
 |.l9 o e f=>uY (mE T K ex o) (mE T K ex e) (mE T K ex f)
 |.p6 i a=>rf i (mE T K ex a)
 |.zo _ _ e=>EL (mE T K ex e)
 |.yY o e=>El (mE T K ex o) (mE T K ex e)
 |.Bj o=>BR (mE T K ex o)
 |.Bz ks es=>Ep ks (mA T K ex es)
noncomputable def mA(T:List (Str×GT))(K:Fg)(ex:aP->aW):eI->oR
 |.nil=>aD
 |.cons e r=>aA (mE T K ex e) (mA T K ex r)
noncomputable def IT(T:List (Str×GT))(K:Fg)(ex:aP->aW):eI->cA
 |.nil=>Bi
 |.cons e .nil=>mE T K ex e
 |.cons e (.cons e' r)=>nD (mE T K ex e) (IT T K ex (.cons e' r))
noncomputable def K6(T:List (Str×GT))(K:Fg)(ex:aP->aW):eI->cA
 |.nil=>Bi
 |.cons e .nil=>mE T K ex e
 |.cons e (.cons e' r)=>Mp (mE T K ex e) (K6 T K ex (.cons e' r))
noncomputable def mT(T:List (Str×GT))(K:Fg)(ex:aP->aW):CT->wY
 |.cmp o a b=>aL (aC (vT o) (mE T K ex a) (mE T K ex b))
 |.chain o o' a b c=>aL (gH (vT o) (vT o') (mE T K ex a) (mE T K ex b) (mE T K ex c))
 |.not t=>jE (mT T K ex t)
 |.and ts=>G7 T K ex ts
 |.or ts=>IS T K ex ts
 |.val e=>aL (mE T K ex e)
 |.i7 neg a b=>aL (aC (xA neg) (mE T K ex a) (mE T K ex b))
noncomputable def G7(T:List (Str×GT))(K:Fg)(ex:aP->aW):sN->wY
 |.nil=>Me
 |.cons e .nil=>mT T K ex e
 |.cons e (.cons e' r)=>wZ (mT T K ex e) (G7 T K ex (.cons e' r))
noncomputable def IS(T:List (Str×GT))(K:Fg)(ex:aP->aW):sN->wY
 |.nil=>Me
 |.cons e .nil=>mT T K ex e
 |.cons e (.cons e' r)=>wW (mT T K ex e) (IS T K ex (.cons e' r))
noncomputable def mO(T:List (Str×GT))(K:Fg)(ex:aP->aW):CO->Ct
 |.none=>PK
 |.some e=>Np (mE T K ex e)
noncomputable def mI(T:List (Str×GT))(K:Fg)(ex:aP->aW):CI->eB
 |.any e=>Ax (mE T K ex e)
 |.yT e=>Aw (aA (mE T K ex e) aD)
 |.yB a b=>Av (aA (mE T K ex a) (aA (mE T K ex b) aD))
 |.keys e=>yR ak (mE T K ex e)
 |.xC e=>fK (mE T K ex e)
noncomputable def mC(T:List (Str×GT))(K:Fg):CC->wY
 |.none=>uT
 |.some t=>mT T K sF t
end
abbrev isStar:ji->Bool
 |.Starred ..=>ak
 |_=>ao
abbrev isSlice:ji->Bool
 |.Slice ..=>ak
 |_=>ao
abbrev cF:ji->Bool
 |.Call (.Name id _) [] [] _=>id !=("super":Str)
 |_=>ak
abbrev isSet:ji->Bool
 |.Set ..=>ak
 |_=>ao
abbrev aCJ:BF->String
 |.len=>"len"
 |.qf=>"isinstance"
 |.all=>"all"
 |.min=>"min"
 |.max=>"max"
 |.sum=>"sum"
 |.BC=>"list"
 |.v5=>"sorted"
 |.Bm=>"len"
 |.BB=>"sorted"
 |.BA=>"dict"
abbrev G6:BF->au
 |.BC=>.type "list"
 |.BA=>.type "dict"
 |b=>.builtin (aCJ b)
abbrev HB:BF->Bool
 |.len=>ak
 |.qf=>ak
 |.Bm=>ak
 |.v5=>ak
 |_=>ao
abbrev oV(S:SI):Bool:=(jw S.gl.length).any λk=>S.gv[k]?==aj ak&&match S.gl[k]? with
 |some (y,.bt n)=>y==("range":Str)&&n=="range"
 |_=>ao
abbrev IQ(S:SI)(y:Str):Bool:=(jw S.N.length).any λi=>S.N[i]?==aj y&&S.ce[i]?==aj ak
abbrev Ej:List Str->Bool
 |[]=>ak
 |x::r=>!r.contains x&&Ej r
abbrev qV:List ji->Option (List Str)
 |[]=>aj []
 |.Name x _::r=>(qV r).map (x:: ·)
 |_=>bh
abbrev xD(S:SI)(xs:List Str)(scope:b9)(fl gv:List Bool):Bool :=
 scope.kind==.function&&scope.names.all (λy=>y.2 !=.cell&&(y.2 !=.local||scope.names.lookup y.1==aj .local)&&(y.2 !=.free||IQ S y.1)) &&
 xs.all (λx=>scope.names.lookup x==aj .local&&!S.N.contains x&&x !=("__debug__":Str)&&x !=("__classdict__":Str))&&Ej xs &&
 S.N.all (λy=>scope.names.lookup y !=aj .local) &&
 (jw S.N.length).all (λi=>fl[i]? !=aj ak||(S.fl[i]?==aj ak&&match S.N[i]? with
  |some y=>scope.names.lookup y==aj .free
  |none=>ao)) &&
 (jw S.gl.length).all (λk=>gv[k]? !=aj ak||match S.gl[k]? with
  |some (y,_)=>scope.names.lookup y==aj .globalImplicit
  |none=>ao)
abbrev Mc:D->Const->Bool
 |.int i,.int j=>i==j
 |.str s,.str t=>s==t
 |.bl b,.bool c=>b==c
 |.ag,.none=>ak
 |_,_=>ao
abbrev plainT:ji->Bool
 |.UnaryOp .Not _ _=>ao
 |.BoolOp ..=>ao
 |.IfExp ..=>ao
 |.Compare ..=>ao
 |_=>ak
abbrev G5(S:SI)(k:Nat)(x:Str):Bool:=match S.gl[k]? with
 |some (y,.con _)=>y==x
 |some (y,.cls _)=>y==x
 |some (y,.bt _)=>y==x
 |_=>ao
abbrev D4(S:SI)(k:Nat)(x:Str)(e:Bool):Bool:=match S.gl[k]? with
 |some (y,.fn _ _ qt)=>y==x&&(qt||S.calm)
 |some (y,.cls _)=>y==x
 |some (y,.bf b)=>y==x&&e&&(S.calm||HB b)
 |some (y,.bt _)=>y==x&&e
 |some (y,.kl _ _ _)=>y==x&&S.calm
 |_=>ao
abbrev yA(S:SI)(k:Nat)(x:Str)(nm:String):Bool:=match S.gl[k]? with
 |some (y,.bf b)=>y==x&&G6 b==.builtin nm
 |_=>ao
abbrev DJ(S:SI)(k:Nat)(x:Str)(nm:String):Bool:=match S.gl[k]? with
 |some (y,.bt n)=>y==x&&n==nm
 |_=>ao
abbrev vS:List Str->List (Option ji)->Bool
 |[],[]=>ak
 |k::ks,aj (.Constant (.str k') _ _)::es=>k==k'&&vS ks es
 |_,_=>ao
abbrev By:ji->Option (Str×ji)
 |.Call (.Name y _) [z] [] _=>aj (y,z)
 |_=>bh
abbrev qS:ji->Option (ji×Str×Bool)
 |.Call (.Attribute y n ap) [] [] cp=>aj (y,n,ap.endLine==cp.line)
 |_=>bh
abbrev s1:ji->Nat
 |.Call f _ _ _=>f.ctorIdx
 |.ListComp _ (g::_) _ _=>g.target.ctorIdx
 |_=>99
abbrev Dr:CE->Nat
 |.var _=>23
 |.con _=>19
 |.mw _=>23
 |.neg _=>3
 |.Bl _=>3
 |.bin _ _ _=>2
 |.cmp _ _ _=>15
 |.chain _ _ _ _ _=>15
 |.mP _=>0
 |.tup _=>25
 |.lst _=>24
 |.uC=>6
 |.ix _ _=>21
 |.call _ _=>16
 |.bz _ _ _=>16
 |.comp _ _ _ _ _=>8
 |.zr _ _ _ _ _ _=>8
 |.jB _ _=>21
 |.yz _ _ _=>16
 |.qr=>6
 |.dm _ _ _ _=>16
 |.sortI _ _=>16
 |.i7 _ _ _=>15
 |.Bk=>6
 |.qa _ _=>21
 |.l9 _ _ _=>16
 |.zo _ _ _=>16
 |.yY _ _=>16
 |.Bz _ _=>6
 |_=>99
abbrev Ds:CE->Nat
 |.call _ _=>23
 |.bz _ _ _=>20
 |.comp _ _ _ _ _=>23
 |.zr _ _ _ _ _ _=>25
 |.yz _ _ _=>20
 |.dm _ _ _ _=>20
 |.sortI _ _=>23
 |.l9 _ _ _=>20
 |.zo _ _ _=>23
 |.yY _ _=>20
 |_=>99
abbrev ck(c:CE)(e:ji):Bool:=(Dr c==99||e.ctorIdx==Dr c)&&(Ds c==99||s1 e==Ds c)
mutual
noncomputable def k0(S:SI):CE->ji->Bool
 |.var i,.Name x _=>S.N[i]?==aj x&&S.fl[i]?==aj ak
 |.con d,.Constant c _ _=>Mc d c
 |.mw k,.Name x _=>S.gv[k]?==aj ak&&G5 S k x
 |.neg a,.UnaryOp .USub e _=>(ck a e&&k0 S a e)
 |.Bl a,.UnaryOp .Not e _=>(ck a e&&k0 S a e)
 |.bin o a b,.BinOp x o' y _=>o==o'&&(ck a x&&k0 S a x)&&(ck b y&&k0 S b y)
 |.cmp o a b,.Compare x [o'] [y] _=>o==o'&&!behindInMarks o' y&&(ck a x&&k0 S a x)&&(ck b y&&k0 S b y)
 |.chain o o' a b c,.Compare x [p,p'] [y,z] _=>o==p&&o'==p'&&!lastMarks [p,p'] [y,z]&&(ck a x&&k0 S a x)&&(ck b y&&k0 S b y)&&(ck c z&&k0 S c z)
 |.mP es,.BoolOp .And xs _=>oW S es xs
 |.tup es,.Tuple xs _ _=>oW S es xs
 |.lst es,.List xs _=>oW S es xs
 |.uC,.Dict [] [] _=>ak
 |.ix a b,.Subscript x y _=>!isSlice y&&(ck a x&&k0 S a x)&&(ck b y&&k0 S b y)
 |.call k es,.Call (.Name x _) xs [] _=>oW S es xs&&S.gv[k]?==aj ak&&D4 S k x (!xs.isEmpty)
 |.bz m o es,.Call (.Attribute y n ap) xs [] cp=>n==AV m&&cF y&&ap.endLine==cp.line&&decide (xs.length<30)&&(ck o y&&k0 S o y)&&oW S es xs
 |.comp fl gv ci cc e,.ListComp elt [⟨.Name x _,iter,ifs,a⟩] scope _=>a==0&&xD S [x] scope fl gv&&!isSet iter&&kI S ao ci iter&&kC (S.cmp [x] fl gv) cc ifs&&(ck e elt&&k0 (S.cmp [x] fl gv) e elt)
 |.zr n fl gv ci cc e,.ListComp elt [⟨.Tuple es _ _,iter,ifs,a⟩] scope _=>S.calm&&a==0&&(match qV es with
  |some xs=>xs.length==n&&xD S xs scope fl gv&&!isSet iter&&kI S ak ci iter&&kC (S.cmp xs fl gv) cc ifs&&(ck e elt&&k0 (S.cmp xs fl gv) e elt)
  |none=>ao)
 |.jB a b,.Subscript x y _=>!isSlice y&&(ck a x&&k0 S a x)&&(ck b y&&k0 S b y)
 |.yz o e f,.Call (.Attribute y n ap) [x,z] [] cp=>n==("get":Str)&&cF y&&ap.endLine==cp.line&&!isStar x&&!isStar z&&(ck o y&&k0 S o y)&&(ck e x&&k0 S e x)&&(ck f z&&k0 S f z)
 |.qr,.Dict [] [] _=>ak
 |.dm m o e es,.Call (.Attribute y n ap) (x::xs) [] cp=>n==Gr m&&cF y&&ap.endLine==cp.line&&decide ((x::xs).length<30)&&(ck o y&&k0 S o y)&&!isStar x&&(ck e x&&k0 S e x)&&oW S es xs
 |.sortI k o,.Call (.Name x _) [w] [] _=>S.calm&&S.gv[k]?==aj ak&&yA S k x "sorted"&&(match qS w with
  |some (y,n,l)=>l&&n==("items":Str)&&cF y&&(ck o y&&k0 S o y)
  |none=>ao)
 |.i7 neg a b,.Compare x [o'] [y] _=>o'==(if neg then CmpOp.NotEq else CmpOp.Eq)&&(ck a x&&k0 S a x)&&(ck b y&&k0 S b y)
 |.Bk,.Dict [] [] _=>ak
 |.qa a b,.Subscript x y _=>!isSlice y&&(ck a x&&k0 S a x)&&(ck b y&&k0 S b y)
 |.l9 o e f,.Call (.Attribute y n ap) [x,z] [] cp=>n==("get":Str)&&cF y&&ap.endLine==cp.line&&!isStar x&&!isStar z&&(ck o y&&k0 S o y)&&(ck e x&&k0 S e x)&&(ck f z&&k0 S f z)
 |.p6 _ a,x=>(ck a x&&k0 S a x)
 |.zo k k2 c,.Call (.Name x _) [w] [] _=>S.calm&&S.gv[k]?==aj ak&&yA S k x "sorted"&&S.gv[k2]?==aj ak&&(match By w with
  |some (y,z)=>DJ S k2 y "set"&& !isStar z&&(ck c z&&k0 S c z)
  |none=>ao)
 |.yY o e,.Call (.Attribute y n ap) [x] [] cp=>n==("pop":Str)&&cF y&&ap.endLine==cp.line&&!isStar x&&(ck o y&&k0 S o y)&&(ck e x&&k0 S e x)
 |.Bj o,w=>(match qS w with
  |some (y,n,l)=>l&&n==("clear":Str)&&cF y&&(ck o y&&k0 S o y)
  |none=>ao)
 |.Bz ks es,.Dict keys values _=>vS ks keys&&oW S es values&&keys.length==values.length&&decide (keys≠[]/\keys.length<=15)
 |_,_=>ao
noncomputable def oW(S:SI):eI->List ji->Bool
 |.nil,[]=>ak
 |.cons e r,x::xs=>!isStar x&&(ck e x&&k0 S e x)&&oW S r xs
 |_,_=>ao
noncomputable def kT(S:SI):CT->ji->Bool
 |.cmp o a b,.Compare x [o'] [y] _=>o==o'&&!behindInMarks o' y&&(ck a x&&k0 S a x)&&(ck b y&&k0 S b y)
 |.chain o o' a b c,.Compare x [p,p'] [y,z] _=>o==p&&o'==p'&&!lastMarks [p,p'] [y,z]&&(ck a x&&k0 S a x)&&(ck b y&&k0 S b y)&&(ck c z&&k0 S c z)
 |.not t,.UnaryOp .Not e _=>kT S t e
 |.and ts,.BoolOp .And xs _=>ic S ts xs
 |.or ts,.BoolOp .Or xs _=>ic S ts xs
 |.i7 neg a b,.Compare x [o'] [y] _=>o'==(if neg then CmpOp.NotEq else CmpOp.Eq)&&(ck a x&&k0 S a x)&&(ck b y&&k0 S b y)
 |.val e,x=>plainT x&&(ck e x&&k0 S e x)
 |_,_=>ao
noncomputable def ic(S:SI):sN->List ji->Bool
 |.nil,[]=>ak
 |.cons e r,x::xs=>kT S e x&&ic S r xs
 |_,_=>ao
noncomputable def kO(S:SI):CO->Option ji->Bool
 |.none,bh=>ak
 |.some e,aj x=>(ck e x&&k0 S e x)
 |_,_=>ao
noncomputable def kI(S:SI)(tt:Bool):CI->ji->Bool
 |.any e,x=>(ck e x&&k0 S e x)
 |.yT e,.Call (.Name r _) [y] [] _=>r==("range":Str)&&oV S&&!isStar y&&(ck e y&&k0 S e y)
 |.yB a b,.Call (.Name r _) [y,z] [] _=>r==("range":Str)&&oV S&&!isStar y&&!isStar z&&(ck a y&&k0 S a y)&&(ck b z&&k0 S b z)
 |.keys e,x=>S.calm&&(ck e x&&k0 S e x)
 |.xC e,x=>S.calm&&(ck e x&&k0 S e x)
 |_,_=>ao
noncomputable def kC(S:SI):CC->List ji->Bool
 |.none,[]=>ak
 |.some t,[x]=>kT S t x
 |_,_=>ao
end
abbrev kE(S:SI)(c:CE)(e:ji):Bool:=ck c e&&k0 S c e
end L4
namespace L4
open PySem PySem.Spec PyProof.Rows L2
variable{env:Env}
def aV(h:isStar e=ao):jo (e::es) env=(ao,eval e env)::jo es env:=by
 cases e<;>first|rfl|(exact absurd (show ak=ao from h) (by decide))
def rA{env:Env}:∀{cs:eI}{xs:List ji},oW S cs xs=ak->(xr pos (jo xs env)).any (·.1)=ao
 |.nil,[],_=>rfl
 |.nil,_::_,h=>absurd (show ao=ak from h) (by decide)
 |.cons _ _,[],h=>absurd (show ao=ak from h) (by decide)
 |.cons e r,x::xs,h=>by
  have h':(!isStar x&&kE S e x&&oW S r xs)=ak:=h;simp only[bx,jc]at h';rw[aV h'.1.1];show(ao||(xr pos (jo xs env)).any (·.1))=ao;rw[rA h'.2];rfl
def m9(h:cF o=ak):pd o n env (eval o env)=eval o env:=by
 cases o with
 |Call f args ma pos =>
  cases f with
  |Name id p =>
   cases args with
   |nil =>
    cases ma with
    |nil =>
     have h':(id !=("super":Str))=ak:=h;unfold pd;simp only[h',Bool.true_or,if_true]
    |cons _ _=>rfl
   |cons _ _=>cases ma<;>rfl
  |_=>rfl
 |_=>rfl
@[simp]def Ka:List au:=[.type "ValueError",.type "Exception",.type "BaseException",.type "object"]
abbrev P7(X:Cx)(cm:Bool)(x:Str):GT->Prop
 |.con d=>∃u v,X.mg x=aj u/\RelV v u/\∀H,RD X.K H d v
 |.cls a=>X.mg x=aj (.ref a)/\oS X.K a Ka "ValueError.__new__"=ak
 |.fn sp n qt=>(qt=ak∨cm=ak)->∃k f fd ps,cM qt X.prog X.w X.K X.mg X.base (lF X.prog X.w) k f fd ps (cX X.K sp)/\jC qt k X.A/\X.mg x=aj (.ref f)/\yh X.K (.ref f)=ak/\Binds X.K fd ps []
 |.bf b=>X.mg x=bh/\oh x=aj (G6 b)
 |.bt n=>X.mg x=bh/\oh x=aj (.type n)
 |.kl C sp dd=>cm=ak->∃k f fd ps ds cw,Mk X.K C f/\cM ao X.prog X.w X.K X.mg X.base (lF X.prog X.w) k f fd ps (cX X.K sp)/\jC ao (k+1) X.A/\X.mg x=aj (.ref C)/\Binds X.K fd ps ds/\Vals cw ds/\∀H,cN X.K H dd cw
 |.me C m sp dd=>cm=ak->∃k f fd ps ds cw,Ft X.K C/\Meth X.K C m f/\cM ao X.prog X.w X.K X.mg X.base (lF X.prog X.w) k f fd ps (cX X.K sp)/\jC ao k X.A/\Binds X.K fd ps ds/\Vals cw ds/\∀H,cN X.K H dd cw
 |.fl C f=>Ft X.K C/\NH X.K C f
structure lJ(X:Cx)(S:SI)(ex:aP->aW):Prop where
 N:X.N=S.N
 nd:X.N.Nodup
 xx:∀(i:Nat)(x:Str),S.N[i]?=aj x->S.fl[i]?=aj ak->sv X.env.scope x/\(x==("__debug__":Str))=ao/\(x==("__classdict__":Str))=ao
 ce:∀(i:Nat)(x:Str),S.N[i]?=aj x->S.ce[i]?=aj ak->X.env.kindOf x=aj .cell∨X.env.kindOf x=aj .free
 gm:∀(k:Nat)(x:Str)(g:GT),S.gl[k]?=aj (x,g)->(S.gv[k]?=aj ak->Gl X x)/\(x==("__debug__":Str))=ao/\x≠"__name__"/\P7 X S.calm x g
 hu:X.A.units+64<qg
 cm:S.calm=ak->X.calm=ak
 cat:sM X ex
def lJ.gl{S:SI}{ex:aP->aW}(Q:lJ X S ex)(k:Nat)(x:Str)(g:GT)(h:S.gl[k]?=aj (x,g))(hv:S.gv[k]?=aj ak):Gl X x/\(x==("__debug__":Str))=ao/\x≠"__name__"/\P7 X S.calm x g :=
 ⟨(Q.gm k x g h).1 hv,(Q.gm k x g h).2⟩
section
variable{X:Cx}{ex:aP->aW}
def MW:cC X e Bi:=λ_ _ _ _ _ _ ⟨_,_,_,_,_,z,_⟩=>z.elim
def Vm:kQ X (yq o) (Md o):=by
 have no:∀{f:au->au->Sem au},kQ X f (λ_ _ _ _=>False):=λ{f}=>⟨λ_ _ _ _=>False,λ_ _ _ _ _ _ _ _ _ _ _ _ h=>h.elim,λ_ _ _ _ _ _ _ _ _ _ _ h _=>h.elim⟩;exact match o with
 |.Add=>aGH
 |.Sub=>aGD
 |.Mult=>aGE
 |.FloorDiv=>aAU
 |.Mod=>aGF
 |.Pow=>aGG
 |.MatMult=>no
 |.Div=>no
 |.LShift=>no
 |.RShift=>no
 |.BitOr=>no
 |.BitXor=>no
 |.BitAnd=>no
def wL(hu:X.A.units+64<qg):uE X (qx o) (vT o):=by
 have no:∀{f:au->au->Sem au},uE X f (λ_ _ _ _=>False):=λ{f}=>Ew λ_ _ _ _ _ _ _ _ _ _ _ _ _ _ _ _ _ _ _ h _=>h.elim;exact match o with
 |.Eq=>aL6 hu
 |.NotEq=>aL7 hu
 |.Lt=>aKQ
 |.LtE=>aKS
 |.Gt=>aKR
 |.GtE=>no
 |.Is=>no
 |.IsNot=>no
 |.In=>aLA hu
 |.NotIn=>no
private theorem aHM{n:String}:cB X (.type n) (IW n):=by
 unfold IW;split
 ·rename_i h;subst h;exact aGQ
 .skip
  split
  ·rename_i h;subst h;exact aB6
  .skip
   exact λ_ _ _ _ _ _ _ _ _ _ _ _ _ _ h _=>h.elim
def Xq{qt:Bool}{k:Nat}{ps:List Str}{x:Str}(F:cM qt X.prog X.w X.K X.mg X.base (lF X.prog X.w) k f fd ps (cX X.K sp))(hr:jC qt k X.A)(hg:Gl X x)(hm:X.mg x=aj (.ref f))(hk:yh X.K (.ref f)=ak)(hb:Binds X.K fd ps [])(hx:sM X ex)
  (fA:(x==("__debug__":Str))=ao):cC X (.Call (.Name x p) [] [] pos) (aU sp ex aD):=by
 intro ψ s σ H Q I h;let⟨ρ,G,R,sr,g,q,kk⟩:=h;refine yp (oO I hg hm ?_ fA);refine PySem.W.callWith_K0 I.dC hk ?_;exact OF (E:=wm X.K (ex ρ)) F hr hb (λe s' c=>hx.Hf ψ σ H s ρ e s' I sr c) I .nil (Q:=λv H'=>∃d G',RD X.K H' d v/\HR X.K H' G'/\R d G') ⟨[],G,R,ex ρ,.nil,g,q,λv H' d G' r2 g2 q2=>⟨d,G',r2,g2,q2⟩,λC H' G' g' q'=>⟨C,G',rfl,g',q'⟩⟩ (by rintro v H' t2 ⟨d,G',r2,g2,q2⟩;exact kk v H' d G' t2 r2 g2 q2)
def Am{xs:List ji}{cs:eI}(h:oW S cs xs=ak)(hl:xs.length<30):((xr cp (jo xs X.env)).all (λx=>!x.1)&&(backToKw cp (keywordEach [] X.env)).all (λx=>x.1.isSome)
   &&decide (xs.length+([]:List jv).length+(if([]:List jv).isEmpty then 0 else 1)<30))=ak:=by
 have h1:(xr cp (jo xs X.env)).all (λx=>!x.1)=ak:=by
  rw[jl];intro y hy;have:=rA (env:=X.env) (pos:=cp) h;rw[List.any_eq_false]at this;have:=this y hy;simpa using this
 have h2:(decide (xs.length+([]:List jv).length+(if([]:List jv).isEmpty then 0 else 1)<30))=ak:=decide_eq_true (by simpa using hl);rw[h1,h2];rfl
end
end L4
namespace L4
open PySem PySem.Spec PyProof.Rows L2
variable{j:Nat}{x:Str}{m:MK}{cs:eI}{env:Env}
section
variable{X:Cx}{S:SI}{ex:aP->aW}
def aCL{d:D}(h:Mc d c=ak):cC X (.Constant c j pos) (aK d):=by
 cases d<;>cases c<;>first|exact absurd (show ao=ak from h) (by decide)|skip
 .exact aFZ
 .have:=beq_iff_eq.mp h;subst this;exact aKM
 .have:=beq_iff_eq.mp h;subst this;exact aFY
 .have:=beq_iff_eq.mp h;subst this;exact aG0
def aCM{e:ji}(h:plainT e=ak):∀whole,isTrue e X.env whole=(do let v ←whole;standAt e.pos;holding [v] (truthy v)):=by
 cases e with
 |UnaryOp op x p=>cases op<;>first|exact absurd (show ao=ak from h) (by decide)|(intro _;rfl)
 |BoolOp _ _ _=>exact absurd (show ao=ak from h) (by decide)
 |IfExp _ _ _ _=>exact absurd (show ao=ak from h) (by decide)
 |Compare _ _ _ _=>exact absurd (show ao=ak from h) (by decide)
 |_=>intro _;rfl
def GZ(h:isSlice e=ao):ID e:=by
 cases e with
 |Slice _ _ _ _=>exact absurd (show ak=ao from h) (by decide)
 |_=>intro _ _;rfl
def aHN(Q:lJ X S ex){k:Nat}{b:BF}(hk:S.gl[k]?=aj (x,.bf b))(hv:S.gv[k]?=aj ak)(hc:(S.calm||HB b)=ak){t:oR}(ha:dA X (e::es) t)(he:isStar e=ao)(hp:(xr pos (jo es X.env)).any (·.1)=ao):cC X (.Call (.Name x p) (e::es) [] pos) (dD (P8 X.K b) t):=by
 let⟨h1,h2,h3,h4⟩:=Q.gl _ _ _ hk hv
 have cm:HB b=ao->X.calm=ak:=λz=>by
  rw[z,Bool.or_false]at hc;exact Q.cm hc
 cases b with
 |len=>exact m7 aGP h1 h4.1 h4.2 ha h3 h2 (aV he) hp
 |qf=>exact m7 aaO h1 h4.1 h4.2 ha h3 h2 (aV he) hp
 |all=>exact m7 (aH0 (cm rfl)) h1 h4.1 h4.2 ha h3 h2 (aV he) hp
 |min=>exact m7 (aBR (cm rfl)) h1 h4.1 h4.2 ha h3 h2 (aV he) hp
 |max=>exact m7 (aBQ (cm rfl)) h1 h4.1 h4.2 ha h3 h2 (aV he) hp
 |sum=>exact m7 (aH3 (cm rfl)) h1 h4.1 h4.2 ha h3 h2 (aV he) hp
 |BC=>exact Jy (Vq (cm rfl)) h1 h4.1 h4.2 ha h3 h2 (aV he) hp
 |v5=>exact m7 Xs h1 h4.1 h4.2 ha h3 h2 (aV he) hp
 |Bm=>exact m7 aBY h1 h4.1 h4.2 ha h3 h2 (aV he) hp
 |BB=>exact m7 (Xr (cm rfl)) h1 h4.1 h4.2 ha h3 h2 (aV he) hp
 |BA=>exact Jy (VE (cm rfl)) h1 h4.1 h4.2 ha h3 h2 (aV he) hp
def Vl{ap cp:Pos}(ho:cC X o to)(hb:cF o=ak)(hl:(ap.endLine==cp.line)=ak):cC X (.Call (.Attribute o (AV m) ap) [] [] cp) (Jb (Dh m) (Di m) to):=by
 cases m with
 |append=>exact aGS PySem.F.plainAttrs_list PySem.F.slot_list_append PySem.F.type_list_append PD ho (m9 hb) hl
def Xp{t:oR}{ap cp:Pos}(ho:cC X o to)(ha:dA X (e::es) t)(hb:cF o=ak)(hl:(ap.endLine==cp.line)=ak)(hk:oW S cs (e::es)=ak)(hn:(e::es).length<30) :
  cC X (.Call (.Attribute o (AV m) ap) (e::es) [] cp) (j3 (Dh m) (Di m) to t):=by
 have he:isStar e=ao:=by
  cases cs with
  |nil=>exact absurd (show ao=ak from hk) (by decide)
  |cons c r =>
   have h':(!isStar e&&kE S c e&&oW S r es)=ak:=hk;simp only[bx,jc]at h';exact h'.1.1
 have hp:(xr cp (jo es X.env)).any (·.1)=ao:=by
  have:=rA (env:=X.env) (pos:=cp) hk;rw[aV he]at this;have z:(ao||(xr cp (jo es X.env)).any (·.1))=ao:=this;simpa using z
 cases m with
 |append=>exact aLB PySem.F.plainAttrs_list PySem.F.slot_list_append PySem.F.type_list_append PD ho ha (m9 hb) (Am hk hn) hl (aV he) hp
def aHO{m:DM}{t:oR}{ap cp:Pos}(hu:X.A.units+64<qg)(ho:cC X o to)(ha:dA X (e::es) t)(hb:cF o=ak)(hl:(ap.endLine==cp.line)=ak)(hk:oW S cs (e::es)=ak)(hn:(e::es).length<30) :
  cC X (.Call (.Attribute o (Gr m) ap) (e::es) [] cp) (u7 (LP m) to t):=by
 have he:isStar e=ao:=by
  cases cs with
  |nil=>exact absurd (show ao=ak from hk) (by decide)
  |cons c r =>
   have h':(!isStar e&&kE S c e&&oW S r es)=ak:=hk;simp only[bx,jc]at h';exact h'.1.1
 have hp:(xr cp (jo es X.env)).any (·.1)=ao:=by
  have:=rA (env:=X.env) (pos:=cp) hk;rw[aV he]at this;have z:(ao||(xr cp (jo es X.env)).any (·.1))=ao:=this;simpa using z
 cases m with
 |C5=>exact Qb PySem.F.slot_dict_setdefault PySem.F.type_dict_setdefault (aH7 hu) ho ha (m9 hb) (Am hk hn) hl (aV he) hp
 |pop=>exact Qb PySem.F.slot_dict_pop PySem.F.type_dict_pop (aBX hu) ho ha (m9 hb) (Am hk hn) hl (aV he) hp
local macro_rules| `(tactic| walk_at "off")=>`(tactic| exact absurd (show ao=ak from by assumption) (by decide))
private theorem aCN(Q:lJ X S ex){k:Nat}(h:kE S (.mw k) (.Name x p)=ak):cC X (.Name x p) (IV S.gl k):=by
 have h':(S.gv[k]?==aj ak&&G5 S k x)=ak:=h;rw[bx]at h';let⟨hv,h⟩:=h';have hv:=beq_iff_eq.mp hv;unfold G5 at h;unfold IV;split at h
 .rename_i y d hk;have:=beq_iff_eq.mp h;subst this;let⟨h1,h2,h3,u,v,h4,h5,h6⟩:=Q.gl _ _ _ hk hv;exact Nt h1 h4 h5 h6 h2
 .rename_i y d hk;have:=beq_iff_eq.mp h;subst this;let⟨h1,h2,h3,h4⟩:=Q.gl _ _ _ hk hv;exact Nt h1 h4.1 (v:=.ref d) rfl (λ_=>.ref _) h2
 .rename_i y d hk;have:=beq_iff_eq.mp h;subst this;let⟨h1,h2,h3,h4⟩:=Q.gl _ _ _ hk hv;exact aAP h1 h4.1 h4.2 h3 h2
 .exact absurd h (by decide)
private theorem Vk(Q:lJ X S ex){k:Nat}{xs:List ji}(ha:dA X xs (mA S.gl X.K ex es))(hk:oW S es xs=ak)(hv:S.gv[k]?=aj ak)(h:D4 S k x (!xs.isEmpty)=ak):cC X (.Call (.Name x p) xs [] pos) (IU S.gl X.K ex k (mA S.gl X.K ex es)):=by
 unfold D4 at h;unfold IU
 have one:∀{e:ji}{r:List ji},xs=e::r->isStar e=ao/\(xr pos (jo r X.env)).any (·.1)=ao:=λ{e r} z=>by
  subst z;cases es with
  |nil=>exact absurd (show ao=ak from hk) (by decide)
  |cons c cr =>
   have h':(!isStar e&&kE S c e&&oW S cr r)=ak:=hk;simp only[bx,jc]at h';exact⟨h'.1.1,rA h'.2⟩
 split at h
 .rename_i y sp n qt hg;rw[bx]at h;let⟨h,hc⟩:=h;have:=beq_iff_eq.mp h;subst this;let⟨h1,h2,h3,h4⟩:=Q.gl _ _ _ hg hv;let⟨j,f,fd,ps,F,hr,hm,Lx,hb⟩:=h4 (EW _ _ |>.mp hc);cases xs with
  |nil =>
   cases es with
   |nil=>exact Xq F hr h1 hm Lx hb Q.cat h2
   |cons _ _=>exact absurd (show ao=ak from hk) (by decide)
  |cons e r=>exact V2 F hr h1 hm Lx hb Q.cat ha h2 (aV (one rfl).1) (one rfl).2
 .rename_i y a hg;have:=beq_iff_eq.mp h;subst this;let⟨h1,h2,h3,h4,h5⟩:=Q.gl _ _ _ hg hv;cases xs with
  |nil =>
   cases es with
   |nil=>exact aBT PySem.F.excBase_ValueError (by decide) PySem.F.excBase_ValueError h1 h4 h5 h2
   |cons _ _=>exact absurd (show ao=ak from hk) (by decide)
  |cons e r=>exact aH4 PySem.F.excBase_ValueError (by decide) PySem.F.excBase_ValueError h1 h4 h5 ha h2 (aV (one rfl).1) (one rfl).2
 .rename_i y b hg;rw[bx,bx]at h;let⟨⟨h,hc⟩,ff⟩:=h;have:=beq_iff_eq.mp h;subst this;cases xs with
  |nil=>exact absurd (show ao=ak from hc) (by decide)
  |cons e r=>exact aHN Q hg hv ff ha (one rfl).1 (one rfl).2
 .rename_i y n hg;rw[bx]at h;let⟨h,hc⟩:=h;have:=beq_iff_eq.mp h;subst this;let⟨h1,h2,h3,h4⟩:=Q.gl _ _ _ hg hv;cases xs with
  |nil=>exact absurd (show ao=ak from hc) (by decide)
  |cons e r=>exact Jy aHM h1 h4.1 h4.2 ha h3 h2 (aV (one rfl).1) (one rfl).2
 .rename_i y C sp dd hg;rw[bx]at h;let⟨h,hc⟩:=h;have:=beq_iff_eq.mp h;subst this;let⟨h1,h2,h3,h4⟩:=Q.gl _ _ _ hg hv;let⟨kk,f,fd,ps,ds,cw,q1,q2,q3,q4,q5,q6,q7⟩:=h4 hc;cases xs with
  |nil =>
   cases es with
   |nil=>exact XN q1 q2 q3 h1 q4 q5 q6 q7 Q.cat h2
   |cons _ _=>exact absurd (show ao=ak from hk) (by decide)
  |cons e r=>exact VQ q1 q2 q3 h1 q4 q5 q6 q7 Q.cat ha h2 (aV (one rfl).1) (one rfl).2
 .exact absurd h (by decide)
def nM{names:List (Str×yc)}{k:yc}(h:names.lookup y=aj k) :
  (names.map λ(n,k)=>if(k==.free&&env.scope.kind==.function&&env.kindOf n==aj .cell)then(n,.cell)else(n,k)).lookup y=aj k ∨
  (k=.free/\(names.map λ(n,k)=>if(k==.free&&env.scope.kind==.function&&env.kindOf n==aj .cell)then(n,.cell)else(n,k)).lookup y=aj .cell):=by
 induction names with
 |nil=>simp at h
 |cons p r ih =>
  let⟨n,kd⟩:=p;rw[vo]at h;show B1 y ((if(kd==.free&&env.scope.kind==.function&&env.kindOf n==aj .cell)=ak then(n,yc.cell)else(n,kd))::_)=aj k∨(k=.free/\B1 y ((if(kd==.free&&env.scope.kind==.function&&env.kindOf n==aj .cell)=ak then(n,yc.cell)else(n,kd))::_)=aj .cell);cases hx:y==n with
  |true =>
   rw[hx]at h;have Dv:kd=k:=by simpa using h
   subst Dv;by_cases hc:(kd==.free&&env.scope.kind==.function&&env.kindOf n==aj .cell)=ak
   .rw[if_pos hc,vo,hx];refine .inr ⟨?_,rfl⟩;simp only[bx,beq_iff_eq]at hc;exact hc.1.1
   .rw[if_neg hc,vo,hx];exact .inl rfl
  |false =>
   rw[hx]at h;have z:=ih h;by_cases hc:(kd==.free&&env.scope.kind==.function&&env.kindOf n==aj .cell)=ak
   .rw[if_pos hc,vo,hx];exact z
   .rw[if_neg hc,vo,hx];exact z
def Qt:∀{xs:List Str},Ej xs=ak->xs.Nodup
 |[],_=>Ah
 |x::r,h=>by
  have h':(!r.contains x&&Ej r)=ak:=h;rw[bx]at h';exact tu.mpr ⟨by simpa using h'.1,Qt h'.2⟩
def Rz{xs:List Str}{scope:b9}{fl gv:List Bool}(h:xD S xs scope fl gv=ak) :
  scope.kind=.function/\(∀y∈scope.names,y.2≠.cell/\(y.2=.local->scope.names.lookup y.1=aj .local)/\(y.2=.free->IQ S y.1=ak)) /\
  (∀x∈xs,scope.names.lookup x=aj .local/\x∉S.N/\(x==("__debug__":Str))=ao/\(x==("__classdict__":Str))=ao)/\xs.Nodup/\(∀y∈S.N,scope.names.lookup y≠aj .local) /\
  (∀(i:Nat)(y:Str),S.N[i]?=aj y->fl[i]?=aj ak->S.fl[i]?=aj ak/\scope.names.lookup y=aj .free) /\
  ∀(k:Nat)(y:Str)(g:GT),S.gl[k]?=aj (y,g)->gv[k]?=aj ak->scope.names.lookup y=aj .globalImplicit:=by
 unfold xD at h;simp only[bx]at h;let⟨⟨⟨⟨⟨⟨h1,h2⟩,h3⟩,h4⟩,h5⟩,h8⟩,h9⟩:=h;refine⟨beq_iff_eq.mp h1,λy hy=>?_,λx hx=>?_,Qt h4,λy hy=>?_,λi y e1 e2=>?_,λk y g e1 e2=>?_⟩
 .have z:=jl.mp h2 y hy;simp only[bx,bne_iff_ne,ne_eq,EW,beq_iff_eq]at z;let⟨⟨z1,z2⟩,z3⟩:=z;exact⟨z1,λe=>z2.resolve_left λn=>n e,λe=>z3.resolve_left λn=>n e⟩
 .have z:=jl.mp h3 x hx;simp only[bx]at z;let⟨⟨⟨z1,z2⟩,z3⟩,z4⟩:=z;exact⟨beq_iff_eq.mp z1,by simpa using z2,by simpa using z3,by simpa using z4⟩
 .have z:=jl.mp h5 y hy;simpa using z
 .have z:=jl.mp h8 i (ou.mpr (jd.mp e1).1);rw[e2,e1]at z;simpa using z
 .have z:=jl.mp h9 k (ou.mpr (jd.mp e1).1);rw[e2,e1]at z;simpa using z
def jH(Q:lJ X S ex){fl gv:List Bool}(h:xD S xs scope fl gv=ak):rY X xs scope:=by
 let⟨h1,h2,h3,h4,h5,h8,h9⟩:=Rz h;refine⟨h1,λy hy=>(h2 y hy).1,λy hy=>(h2 y hy).2.1,λx hx=>(h3 x hx).1,λy hy e=>?_,λx hx=>by rw[Q.N];exact(h3 x hx).2.1,h4,by rw[Q.N];exact h5⟩;have z:=(h2 y hy).2.2 e;unfold IQ at z;let⟨i,_,z⟩:=List.any_eq_true.mp z;rw[bx]at z;exact Q.ce i y.1 (beq_iff_eq.mp z.1) (beq_iff_eq.mp z.2)
def aCO{X:Cx}:sM X sF:=⟨by rintro _ _ _ _ _ _ _ _ _ ⟨_,_,_,_,_,_,_,_,_,_,_,_,_,_,_,_,z⟩;exact z.elim⟩
def Qs{α:Type}{xs ys:List α}{i:Nat}{y:α}(h:(xs++ys)[i]?=aj y):(i<xs.length/\y∈xs)∨∃j,i=xs.length+j/\ys[j]?=aj y:=by
 by_cases c:i<xs.length
 .rw[Cq c]at h;exact .inl ⟨c,qd h⟩
 .rw[yt ⋯]at h;exact .inr ⟨i - xs.length,⋯,h⟩
def N4{α β:Type}{xs:List α}{f:α->β}{ys:List β}:(xs.map f++ys)[xs.length+j]?=ys[j]?:=by
 rw[yt (by simp)];congr 1;simp
def lJ.cmp(Q:lJ X S ex){fl gv:List Bool}(h:xD S xs scope fl gv=ak)(C:bw)(s:cu)(H:Hp)(fp:List bw)(ψ:List (bw×Obj)):lJ (iM X xs scope C s H fp ψ) (S.cmp xs fl gv) sF:=by
 let⟨h1,h2,h3,h4,h5,h8,h9⟩:=Rz h;refine⟨by show xs++X.N=xs++S.N;rw[Q.N],HG (jH Q h) Q.nd,λi y e1 e2=>?_,λi y e1 e2=>?_,λk y g e1=>?_,Q.hu,Q.cm,aCO⟩
 .rcases Qs e1 with⟨_,m⟩|⟨j,rfl,oj⟩
  .obtain⟨a1,a2,a3,a4⟩:=h3 y m;exact⟨.inl (Cn a1),a3,a4⟩
  .have qo:fl[j]?=aj ak:=N4.symm.trans e2;let⟨a1,a2⟩:=h8 j y oj qo;let⟨_,b2,b3⟩:=Q.xx j y oj a1;refine⟨?_,b2,b3⟩;rcases nM (env:=X.env) a2 with z|⟨_,z⟩
   .exact .inr (.inr z)
   .exact .inr (.inl z)
 .rcases Qs e1 with⟨c,m⟩|⟨j,rfl,oj⟩
  .have qo:(xs.map (λ_=>ao)++fl)[i]?=aj ak:=e2;rw[Cq (by simpa using c)]at qo;simp at qo
  .have qo:fl[j]?=aj ak:=N4.symm.trans e2;let⟨a1,a2⟩:=h8 j y oj qo;rcases nM (env:=X.env) a2 with z|⟨_,z⟩
   .exact .inr z
   .exact .inl z
 .obtain⟨b1,b2,b3,b4⟩:=Q.gm k y g e1;refine⟨λe2=>?_,b2,b3,?_⟩
  .rcases nM (env:=X.env) (h9 k y g e1 e2)with z|⟨z,_⟩
   .exact z
   .cases z
  .cases g<;>exact b4
def Pb:∀{es:List ji}{xs:List Str},qV es=aj xs->c6 (λe x=>∃p,e=ji.Name x p) es xs
 |[],xs,h=>by
  have:xs=[]:=by simpa[qV]using h.symm
  subst this;exact .nil
 |e::es,xs,h=>by
  cases e with
  |Name x p =>
   have h':(qV es).map (x:: ·)=aj xs:=h;cases q:qV es with
   |none=>rw[q]at h';cases h'
   |some r =>
    rw[q]at h';have:xs=x::r:=by simpa using h'.symm
    subst this;exact .cons ⟨p,rfl⟩ (Pb q)
  |_=>exact absurd (show(bh:Option (List Str))=aj xs from h) (λz=>nomatch z)
private theorem zO(Q:lJ X S ex)(h:oV S=ak):Gl X "range"/\X.mg "range"=bh:=by
 unfold oV at h;let⟨k,_,h⟩:=List.any_eq_true.mp h;rw[bx]at h;let⟨hv,h⟩:=h;split at h
 .rename_i y n e;rw[bx]at h;have:=beq_iff_eq.mp h.1;subst this;let⟨g1,g2,g3,g4⟩:=Q.gl _ _ _ e (beq_iff_eq.mp hv);exact⟨g1,g4.1⟩
 .exact absurd h (by decide)
private theorem N3(Q:lJ X S ex){k:Nat}{nm:String}(h:yA S k x nm=ak)(hv:S.gv[k]?=aj ak):Gl X x/\X.mg x=bh/\oh x=aj (.builtin nm)/\x≠"__name__"/\(x==("__debug__":Str))=ao:=by
 unfold yA at h;split at h
 .rename_i y b e;rw[bx]at h;have e1:=beq_iff_eq.mp h.1;have e2:=beq_iff_eq.mp h.2;subst e1;let⟨g1,g2,g3,g4⟩:=Q.gl _ _ _ e hv;exact⟨g1,g4.1,by rw[←e2];exact g4.2,g3,g2⟩
 .exact absurd h (by decide)
private theorem Vj(Q:lJ X S ex){k:Nat}{nm:String}(h:DJ S k x nm=ak)(hv:S.gv[k]?=aj ak):Gl X x/\X.mg x=bh/\oh x=aj (.type nm)/\x≠"__name__"/\(x==("__debug__":Str))=ao:=by
 unfold DJ at h;split at h
 .rename_i y b e;rw[bx]at h;have e1:=beq_iff_eq.mp h.1;have e2:=beq_iff_eq.mp h.2;subst e1;let⟨g1,g2,g3,g4⟩:=Q.gl _ _ _ e hv;exact⟨g1,g4.1,by rw[←e2];exact g4.2,g3,g2⟩
 .exact absurd h (by decide)
def Pa{w:ji}{l:Bool}(h:qS w=aj (y,n,l)):∃ap cp,w=.Call (.Attribute y n ap) [] [] cp/\l=(ap.endLine==cp.line):=by
 unfold qS at h;split at h
 .cases h;exact⟨_,_,rfl,rfl⟩
 .cases h
def MV{neg:Bool}(hu:X.A.units+64<qg)(h:(o==(if neg then CmpOp.NotEq else CmpOp.Eq))=ak):uE X (qx o) (xA neg):=by
 have:=beq_iff_eq.mp h;subst this;exact aHA hu
def D3(h:isSet e=ao):∀x,Ci e env x=pure x:=by
 cases e<;>first|(intro _;rfl)|exact absurd (show ak=ao from h) (by decide)
end
end L4
namespace L4
open PySem PySem.Spec PyProof.Rows L2
def bK{P:Prop}(h:ao=ak):P:=absurd h (by decide)
def O9:∀{ks:List Str}{keys:List (Option ji)},vS ks keys=ak->keys.all (·.isSome)=ak/\ks.length=keys.length
 |[],[],_=>⟨rfl,rfl⟩
 |[],_::_,h=>bK h
 |_::_,[],h=>bK h
 |k::ks,bh::keys,h=>bK h
 |k::ks,aj e::keys,h=>by
  cases e with
  |Constant c j p =>
   cases c with
   |str k' =>
    have h':(k==k'&&vS ks keys)=ak:=h;rw[bx]at h';have z:=O9 h'.2;exact⟨by simpa using z.1,by simp[z.2]⟩
   |_=>exact bK h
  |_=>exact bK h
def Xo{w:ji}(h:By w=aj (y,z)):∃p q,w=.Call (.Name y p) [z] [] q:=by
 unfold By at h;split at h
 .cases h;exact⟨_,_,rfl⟩
 .cases h
variable{r:Bool}
def ix{e:ji}(h:(ck c e&&r)=ak)(z:(Dr c==99)=ao:=by rfl):e.ctorIdx=Dr c:=by
 unfold ck at h;rw[z,B5,bx,bx]at h;exact beq_iff_eq.mp h.1.1
def iy(h:(ck c e&&r)=ak)(z:(Ds c==99)=ao:=by rfl):s1 e=Ds c:=by
 unfold ck at h;rw[z,B5,bx,bx]at h;exact beq_iff_eq.mp h.1.2
def Zy{e:ji}(h:e.ctorIdx=0):∃o l p,e=.BoolOp o l p:=Expr.BoolOp.elim (motive_1:=(∃o l p,· =.BoolOp o l p)) e h λ_ _ _=>⟨_,_,_,rfl⟩
def YD{e:ji}(h:e.ctorIdx=2):∃x o y p,e=.BinOp x o y p:=Expr.BinOp.elim (motive_1:=(∃x o y p,· =.BinOp x o y p)) e h λ_ _ _ _=>⟨_,_,_,_,rfl⟩
def Ry{e:ji}(h:e.ctorIdx=3):∃o x p,e=.UnaryOp o x p:=Expr.UnaryOp.elim (motive_1:=(∃o x p,· =.UnaryOp o x p)) e h λ_ _ _=>⟨_,_,_,rfl⟩
def zP{e:ji}(h:e.ctorIdx=6):∃k l p,e=.Dict k l p:=Expr.Dict.elim (motive_1:=(∃k l p,· =.Dict k l p)) e h λ_ _ _=>⟨_,_,_,rfl⟩
def sH{e:ji}(h:e.ctorIdx=8):∃x l s p,e=.ListComp x l s p:=Expr.ListComp.elim (motive_1:=(∃x l s p,· =.ListComp x l s p)) e h λ_ _ _ _=>⟨_,_,_,_,rfl⟩
def v7{e:ji}(h:e.ctorIdx=15):∃x o l p,e=.Compare x o l p:=Expr.Compare.elim (motive_1:=(∃x o l p,· =.Compare x o l p)) e h λ_ _ _ _=>⟨_,_,_,_,rfl⟩
def gB{e:ji}(h:e.ctorIdx=16):∃f l k p,e=.Call f l k p:=Expr.Call.elim (motive_1:=(∃f l k p,· =.Call f l k p)) e h λ_ _ _ _=>⟨_,_,_,_,rfl⟩
def abB{e:ji}(h:e.ctorIdx=19):∃c j p,e=.Constant c j p:=Expr.Constant.elim (motive_1:=(∃c j p,· =.Constant c j p)) e h λ_ _ _=>⟨_,_,_,rfl⟩
def eE{e:ji}(h:e.ctorIdx=20):∃y n p,e=.Attribute y n p:=Expr.Attribute.elim (motive_1:=(∃y n p,· =.Attribute y n p)) e h λ_ _ _=>⟨_,_,_,rfl⟩
def gC{e:ji}(h:e.ctorIdx=21):∃x y p,e=.Subscript x y p:=Expr.Subscript.elim (motive_1:=(∃x y p,· =.Subscript x y p)) e h λ_ _ _=>⟨_,_,_,rfl⟩
def gF{e:ji}(h:e.ctorIdx=23):∃x p,e=.Name x p:=Expr.Name.elim (motive_1:=(∃x p,· =.Name x p)) e h λ_ _=>⟨_,_,rfl⟩
def Xn{e:ji}(h:e.ctorIdx=24):∃l p,e=.List l p:=Expr.List.elim (motive_1:=(∃l p,· =.List l p)) e h λ_ _=>⟨_,_,rfl⟩
def YC{e:ji}(h:e.ctorIdx=25):∃l j p,e=.Tuple l j p:=Expr.Tuple.elim (motive_1:=(∃l j p,· =.Tuple l j p)) e h λ_ _ _=>⟨_,_,_,rfl⟩
mutual
theorem eF{X:Cx}{S:SI}{ex:aP->aW}(Q:lJ X S ex):∀(c:CE)(e:ji),kE S c e=ak->cC X e (mE S.gl X.K ex c)
 |.var i,e,h=>by
  let⟨x,p,rfl⟩:=gF (ix h);have h':(S.N[i]?==aj x&&S.fl[i]?==aj ak)=ak:=h;rw[bx]at h';have e1:=beq_iff_eq.mp h'.1;let⟨v1,v2,v3⟩:=Q.xx i x e1 (beq_iff_eq.mp h'.2);exact aFX i (by rw[Q.N];exact e1) v1 v2 v3
 |.con d,e,h=>by
  let⟨c,j,p,rfl⟩:=abB (ix h);exact aCL h
 |.mw k,e,h=>by
  let⟨x,p,rfl⟩:=gF (ix h);exact aCN Q h
 |.neg a,e,h=>by
  let⟨op,x,p,rfl⟩:=Ry (ix h);cases op with
  |USub=>exact aGN (eF Q a x h)
  |_=>exact bK h
 |.Bl a,e,h=>by
  let⟨op,x,p,rfl⟩:=Ry (ix h);cases op with
  |Not=>exact aG8 (eF Q a x h)
  |_=>exact bK h
 |.bin o a b,e,h=>by
  let⟨x,o',y,p,rfl⟩:=YD (ix h);have h':(o==o'&&kE S a x&&kE S b y)=ak:=h;simp only[bx]at h';have:=beq_iff_eq.mp h'.1.1;subst this;exact aKN Vm (eF Q a x h'.1.2) (eF Q b y h'.2)
 |.cmp o a b,e,h=>by
  let⟨x,ops,ys,p,rfl⟩:=v7 (ix h)
  match ops,ys,h with
  |[o'],[y],h =>
   have h':(o==o'&&!behindInMarks o' y&&kE S a x&&kE S b y)=ak:=h;simp only[bx,jc]at h';have:=beq_iff_eq.mp h'.1.1.1;subst this;exact Mr (wL Q.hu) (eF Q a x h'.1.2) (eF Q b y h'.2) h'.1.1.2
  |[],_,h=>exact bK h
  |_::_::_,_,h=>exact bK h
  |[_],[],h=>exact bK h
  |[_],_::_::_,h=>exact bK h
 |.chain o o' a b c,e,h=>by
  let⟨x,ops,ys,p,rfl⟩:=v7 (ix h)
  match ops,ys,h with
  |[p1,p2],[y,z],h =>
   have h':(o==p1&&o'==p2&&!lastMarks [p1,p2] [y,z]&&kE S a x&&kE S b y&&kE S c z)=ak:=h;simp only[bx,jc]at h';have e1:=beq_iff_eq.mp h'.1.1.1.1.1;have e2:=beq_iff_eq.mp h'.1.1.1.1.2;subst e1;subst e2;exact V6 (wL Q.hu) (wL Q.hu) (eF Q a x h'.1.1.2) (eF Q b y h'.1.2) (eF Q c z h'.2) h'.1.1.1.2
  |[],_,h=>exact bK h
  |[_],_,h=>exact bK h
  |_::_::_::_,_,h=>exact bK h
  |[_,_],[],h=>exact bK h
  |[_,_],[_],h=>exact bK h
  |[_,_],_::_::_::_,h=>exact bK h
 |.mP es,e,h=>by
  let⟨op,xs,p,rfl⟩:=Zy (ix h);cases op with
  |And=>exact Ma Q es xs p h
  |Or=>exact bK h
 |.tup es,e,h=>by
  let⟨xs,j,p,rfl⟩:=YC (ix h);exact aG9 (tN Q es xs h)
 |.lst es,e,h=>by
  let⟨xs,p,rfl⟩:=Xn (ix h);exact aGA (tN Q es xs h)
 |.uC,e,h=>by
  let⟨ks,vs,p,rfl⟩:=zP (ix h)
  match ks,vs,h with
  |[],[],_=>exact aBB
  |_::_,_,h=>exact bK h
  |[],_::_,h=>exact bK h
 |.ix a b,e,h=>by
  let⟨x,y,p,rfl⟩:=gC (ix h);have h':(!isSlice y&&kE S a x&&kE S b y)=ak:=h;simp only[bx,jc]at h';exact aKT (eF Q a x h'.1.2) (eF Q b y h'.2) (GZ h'.1.1)
 |.call k es,e,h=>by
  have jz:=iy h;let⟨f,xs,ma,p,rfl⟩:=gB (ix h);let⟨x,q,rfl⟩:=gF jz;cases ma with
  |nil =>
   have h':(oW S es xs&&S.gv[k]?==aj ak&&D4 S k x (!xs.isEmpty))=ak:=h;simp only[bx]at h';exact Vk Q (tN Q es xs h'.1.1) h'.1.1 (beq_iff_eq.mp h'.1.2) h'.2
  |cons _ _=>exact bK h
 |.bz m o .nil,e,h=>by
  have jz:=iy h;let⟨f,xs,ma,p,rfl⟩:=gB (ix h);let⟨y,n,ap,rfl⟩:=eE jz;cases ma with
  |nil =>
   have h':(n==AV m&&cF y&&ap.endLine==p.line&&decide (xs.length<30)&&kE S o y&&oW S .nil xs)=ak:=h;simp only[bx]at h';let⟨⟨⟨⟨⟨h1,h2⟩,h3⟩,h4⟩,h5⟩,h6⟩:=h';have:=beq_iff_eq.mp h1;subst this;cases xs with
   |nil=>exact Vl (eF Q o y h5) h2 h3
   |cons _ _=>exact bK h6
  |cons _ _=>exact bK h
 |.bz m o (.cons c r),e,h=>by
  have jz:=iy h;let⟨f,xs,ma,p,rfl⟩:=gB (ix h);let⟨y,n,ap,rfl⟩:=eE jz;cases ma with
  |nil =>
   have h':(n==AV m&&cF y&&ap.endLine==p.line&&decide (xs.length<30)&&kE S o y&&oW S (.cons c r) xs)=ak:=h;simp only[bx]at h';let⟨⟨⟨⟨⟨h1,h2⟩,h3⟩,h4⟩,h5⟩,h6⟩:=h';have:=beq_iff_eq.mp h1;subst this;cases xs with
   |nil=>exact bK h6
   |cons x xs =>
    have h7:(!isStar x&&kE S c x&&oW S r xs)=ak:=h6;simp only[bx,jc]at h7;exact Xp (eF Q o y h5) (nF (eF Q c x h7.1.2) (tN Q r xs h7.2) (aV h7.1.1)) h2 h3 h6 (of_decide_eq_true h4)
  |cons _ _=>exact bK h
 |.comp fl gv ci cc c,e,h=>by
  have jz:=iy h;let⟨elt,gens,scope,p,rfl⟩:=sH (ix h);cases gens with
  |nil=>exact bK h
  |cons g gr =>
   let⟨tg,it,ifs,a⟩:=g;let⟨x,px,rfl⟩:=gF jz;cases gr with
   |cons _ _=>exact bK h
   |nil =>
    have h':(a==0&&xD S [x] scope fl gv&&!isSet it&&kI S ao ci it&&kC (S.cmp [x] fl gv) cc ifs&&kE (S.cmp [x] fl gv) c elt)=ak:=h;simp only[bx,jc]at h';let⟨⟨⟨⟨⟨h2,h3⟩,h4⟩,h5⟩,h6⟩,h7⟩:=h';have:=beq_iff_eq.mp h2;subst this;exact Ir (jH Q h3) (λC s H fp ψ σ=>Nf (jH Q h3) Q.nd) PB (FN (tt:=false) Q (λz=>nomatch z) ci it h5) (λC s H fp ψ=>FO (Q.cmp h3 C s H fp ψ) cc ifs h6) (λC s H fp ψ=>eF (Q.cmp h3 C s H fp ψ) c elt h7) (D3 h4)
 |.zr n fl gv ci cc c,e,h=>by
  let⟨elt,gens,scope,p,rfl⟩:=sH (ix h);cases gens with
  |nil=>exact bK h
  |cons g gr =>
   cases gr with
   |cons _ _=>let⟨tg,it,ifs,a⟩:=g;cases tg<;>exact bK h
   |nil =>
    let⟨tg,it,ifs,a⟩:=g;cases tg with
    |Tuple es k tp =>
     have h':(S.calm&&a==0&&(match qV es with
      |some xs=>xs.length==n&&xD S xs scope fl gv&&!isSet it&&kI S ak ci it&&kC (S.cmp xs fl gv) cc ifs&&kE (S.cmp xs fl gv) c elt
      |none=>ao))=ak:=h
     rw[bx,bx]at h';let⟨⟨h1,h2⟩,h'⟩:=h';have:=beq_iff_eq.mp h2;subst this;cases q:qV es with
     |none=>rw[q]at h';exact bK h'
     |some xs =>
      rw[q]at h';simp only[bx,jc]at h';let⟨⟨⟨⟨⟨h0,h3⟩,h4⟩,h5⟩,h6⟩,h7⟩:=h';have:=beq_iff_eq.mp h0;subst this;exact Ir (jH Q h3) (λC s H fp ψ σ=>aBL (jH Q h3) Q.nd (Q.cm h1) (Pb q)) (λd ds e=>(Oy e).2) (FN (tt:=true) Q (λ_=>⟨Q.cm h1,_,_,_,rfl⟩) ci it h5) (λC s H fp ψ=>FO (Q.cmp h3 C s H fp ψ) cc ifs h6) (λC s H fp ψ=>eF (Q.cmp h3 C s H fp ψ) c elt h7) (D3 h4)
    |_=>exact bK h
 |.jB a b,e,h=>by
  let⟨x,y,p,rfl⟩:=gC (ix h);have h':(!isSlice y&&kE S a x&&kE S b y)=ak:=h;simp only[bx,jc]at h';exact aH5 Q.hu (eF Q a x h'.1.2) (eF Q b y h'.2) (GZ h'.1.1)
 |.yz c d f,e,h=>by
  have jz:=iy h;let⟨g,as,ks,p,rfl⟩:=gB (ix h);let⟨y,n,ap,rfl⟩:=eE jz
  match as,ks,h with
  |[],_,h=>exact bK h
  |[_],_,h=>exact bK h
  |_::_::_::_,_,h=>exact bK h
  |[_,_],_::_,h=>exact bK h
  |[x,z],[],h =>
   have h':(n==("get":Str)&&cF y&&ap.endLine==p.line&&!isStar x&&!isStar z&&kE S c y&&kE S d x&&kE S f z)=ak:=h;simp only[bx,jc]at h';let⟨⟨⟨⟨⟨⟨⟨h0,h1⟩,h2⟩,h3⟩,h4⟩,h5⟩,h6⟩,h7⟩:=h';have:=beq_iff_eq.mp h0;subst this
   have k2:oW S (.cons d (.cons f .nil)) [x,z]=ak:=by
    show(!isStar x&&kE S d x&&(!isStar z&&kE S f z&&ak))=ak;rw[h3,h4,h6,h7];rfl
   exact VP Q.hu (eF Q c y h5) (eF Q d x h6) (eF Q f z h7) ⟨m9 h1,Am (X:=X) (cp:=p) k2 (show 2<30 by decide),h2,by rw[aV h3,aV h4];rfl⟩
 |.Bk,e,h=>by
  let⟨ks,vs,p,rfl⟩:=zP (ix h)
  match ks,vs,h with
  |[],[],_=>exact Vu
  |_::_,_,h=>exact bK h
  |[],_::_,h=>exact bK h
 |.qa a b,e,h=>by
  let⟨x,y,p,rfl⟩:=gC (ix h);have h':(!isSlice y&&kE S a x&&kE S b y)=ak:=h;simp only[bx,jc]at h';exact aHD Q.hu (eF Q a x h'.1.2) (eF Q b y h'.2) (GZ h'.1.1)
 |.l9 c d f,e,h=>by
  have jz:=iy h;let⟨g,as,ks,p,rfl⟩:=gB (ix h);let⟨y,n,ap,rfl⟩:=eE jz
  match as,ks,h with
  |[],_,h=>exact bK h
  |[_],_,h=>exact bK h
  |_::_::_::_,_,h=>exact bK h
  |[_,_],_::_,h=>exact bK h
  |[x,z],[],h =>
   have h':(n==("get":Str)&&cF y&&ap.endLine==p.line&&!isStar x&&!isStar z&&kE S c y&&kE S d x&&kE S f z)=ak:=h;simp only[bx,jc]at h';let⟨⟨⟨⟨⟨⟨⟨h0,h1⟩,h2⟩,h3⟩,h4⟩,h5⟩,h6⟩,h7⟩:=h';have:=beq_iff_eq.mp h0;subst this
   have k2:oW S (.cons d (.cons f .nil)) [x,z]=ak:=by
    show(!isStar x&&kE S d x&&(!isStar z&&kE S f z&&ak))=ak;rw[h3,h4,h6,h7];rfl
   exact aCA Q.hu (eF Q c y h5) (eF Q d x h6) (eF Q f z h7) ⟨m9 h1,Am (X:=X) (cp:=p) k2 (show 2<30 by decide),h2,by rw[aV h3,aV h4];rfl⟩
 |.Bz ks es,e,h=>by
  let⟨keys,values,p,rfl⟩:=zP (ix h);have h':(vS ks keys&&oW S es values&&keys.length==values.length&&decide (keys≠[]/\keys.length<=15))=ak:=h;simp only[bx]at h';let⟨⟨⟨h1,h2⟩,h3⟩,h4⟩:=h';have e3:=beq_iff_eq.mp h3;have e4:=of_decide_eq_true h4;have hk:=O9 h1;exact Vv Q.hu hk.1 e3 e4.1 e4.2 (by rw[hk.2];exact e4.2) (KY Q es ks keys values h2 h1 e3)
 |.yY c d,e,h=>by
  have jz:=iy h;let⟨g,as,ks,p,rfl⟩:=gB (ix h);let⟨y,n,ap,rfl⟩:=eE jz
  match as,ks,h with
  |[],_,h=>exact bK h
  |_::_::_,_,h=>exact bK h
  |[_],_::_,h=>exact bK h
  |[x],[],h =>
   have h':(n==("pop":Str)&&cF y&&ap.endLine==p.line&&!isStar x&&kE S c y&&kE S d x)=ak:=h;simp only[bx,jc]at h';let⟨⟨⟨⟨⟨h0,h1⟩,h2⟩,h3⟩,h5⟩,h6⟩:=h';have:=beq_iff_eq.mp h0;subst this
   have k2:oW S (.cons d .nil) [x]=ak:=by
    show(!isStar x&&kE S d x&&ak)=ak;rw[h3,h6];rfl
   exact aCC Q.hu (eF Q c y h5) (eF Q d x h6) ⟨m9 h1,Am (X:=X) (cp:=p) k2 (show 1<30 by decide),h2,by rw[aV h3];rfl⟩
 |.Bj c,w,h=>by
  have h':(match qS w with
   |some (y,n,l)=>l&&n==("clear":Str)&&cF y&&kE S c y
   |none=>ao)=ak:=h
  cases q2:qS w with
  |none=>rw[q2]at h';exact bK h'
  |some z =>
   let⟨y,n,l⟩:=z;rw[q2]at h';simp only[bx]at h';let⟨⟨⟨h5,h6⟩,h7⟩,h8⟩:=h';have e6:=beq_iff_eq.mp h6;subst e6;let⟨ap,cp,rfl,rfl⟩:=Pa q2;exact aCD (eF Q c y h8) (m9 h7) h5
 |.zo k k2 c,e,h=>by
  have jz:=iy h;let⟨f,as,ks,p,rfl⟩:=gB (ix h);let⟨x,q,rfl⟩:=gF jz
  match as,ks,h with
  |[],_,h=>exact bK h
  |_::_::_,_,h=>exact bK h
  |[_],_::_,h=>exact bK h
  |[w],[],h =>
   have h':(S.calm&&S.gv[k]?==aj ak&&yA S k x "sorted"&&S.gv[k2]?==aj ak&&(match By w with
    |some (y,z)=>DJ S k2 y "set"&& !isStar z&&kE S c z
    |none=>ao))=ak:=h
   simp only[bx]at h';let⟨⟨⟨⟨h1,h2⟩,h3⟩,h9⟩,h4⟩:=h';cases q2:By w with
   |none=>rw[q2]at h4;exact bK h4
   |some z =>
    let⟨y,z⟩:=z;rw[q2]at h4;simp only[bx,jc]at h4;let⟨⟨h5,h6⟩,h7⟩:=h4;let⟨p1,p2,rfl⟩:=Xo q2;let⟨g1,g2,g3,g4,g5⟩:=N3 Q h3 (beq_iff_eq.mp h2);let⟨f1,f2,f3,f4,f5⟩:=Vj Q h5 (beq_iff_eq.mp h9);exact Vy (Q.cm h1) Q.hu (eF Q c z h7) g1 g2 g3 g4 g5 f1 f2 f3 f4 f5 (aV h6)
 |.p6 i c,e,h=>aHH (eF Q c e h)
 |.qr,e,h=>by
  let⟨ks,vs,p,rfl⟩:=zP (ix h)
  match ks,vs,h with
  |[],[],_=>exact V0
  |_::_,_,h=>exact bK h
  |[],_::_,h=>exact bK h
 |.dm m o c r,e,h=>by
  have jz:=iy h;let⟨f,xs,ma,p,rfl⟩:=gB (ix h);let⟨y,n,ap,rfl⟩:=eE jz
  match xs,ma,h with
  |[],_,h=>exact bK h
  |_::_,_::_,h=>exact bK h
  |x::xs,[],h =>
   have h':(n==Gr m&&cF y&&ap.endLine==p.line&&decide ((x::xs).length<30)&&kE S o y&&!isStar x&&kE S c x&&oW S r xs)=ak:=h;simp only[bx]at h';let⟨⟨⟨⟨⟨⟨⟨h1,h2⟩,h3⟩,h4⟩,h5⟩,h6⟩,h7⟩,h8⟩:=h';have:=beq_iff_eq.mp h1;subst this
   have hk:oW S (.cons c r) (x::xs)=ak:=by
    show(!isStar x&&kE S c x&&oW S r xs)=ak;rw[h6,h7,h8];rfl
   simp only[jc]at h6;exact aHO Q.hu (eF Q o y h5) (nF (eF Q c x h7) (tN Q r xs h8) (aV h6)) h2 h3 hk (of_decide_eq_true h4)
 |.sortI k c,e,h=>by
  have jz:=iy h;let⟨f,as,ks,p,rfl⟩:=gB (ix h);let⟨x,q,rfl⟩:=gF jz
  match as,ks,h with
  |[],_,h=>exact bK h
  |_::_::_,_,h=>exact bK h
  |[_],_::_,h=>exact bK h
  |[w],[],h =>
   have h':(S.calm&&S.gv[k]?==aj ak&&yA S k x "sorted"&&(match qS w with
    |some (y,n,l)=>l&&n==("items":Str)&&cF y&&kE S c y
    |none=>ao))=ak:=h
   simp only[bx]at h';let⟨⟨⟨h1,h2⟩,h3⟩,h4⟩:=h';cases q2:qS w with
   |none=>rw[q2]at h4;exact bK h4
   |some z =>
    let⟨y,n,l⟩:=z;rw[q2]at h4;simp only[bx]at h4;let⟨⟨⟨h5,h6⟩,h7⟩,h8⟩:=h4;have e6:=beq_iff_eq.mp h6;subst e6;let⟨ap,cp,rfl,rfl⟩:=Pa q2;let⟨g1,g2,g3,g4,g5⟩:=N3 Q h3 (beq_iff_eq.mp h2);exact VC (Q.cm h1) (eF Q c y h8) g1 g2 g3 g4 g5 (m9 h7) h5
 |.i7 neg a b,e,h=>by
  let⟨x,ops,ys,p,rfl⟩:=v7 (ix h)
  match ops,ys,h with
  |[o'],[y],h =>
   have h':(o'==(if neg then CmpOp.NotEq else CmpOp.Eq)&&kE S a x&&kE S b y)=ak:=h;simp only[bx]at h'
   have hb:nK o' y=ao:=by
    have:=beq_iff_eq.mp h'.1.1;subst this;exact P0 _ (by cases neg<;>decide) (by cases neg<;>decide)
   exact Mr (MV Q.hu h'.1.1) (eF Q a x h'.1.2) (eF Q b y h'.2) hb
  |[],_,h=>exact bK h
  |_::_::_,_,h=>exact bK h
  |[_],[],h=>exact bK h
  |[_],_::_::_,h=>exact bK h
theorem tN{X:Cx}{S:SI}{ex:aP->aW}(Q:lJ X S ex):∀(c:eI)(es:List ji),oW S c es=ak->dA X es (mA S.gl X.K ex c)
 |.nil,es,h=>by
  cases es with
  |nil=>exact zS
  |cons _ _=>exact bK h
 |.cons c r,es,h=>by
  cases es with
  |nil=>exact bK h
  |cons x xs =>
   have h7:(!isStar x&&kE S c x&&oW S r xs)=ak:=h;simp only[bx,jc]at h7;exact nF (eF Q c x h7.1.2) (tN Q r xs h7.2) (aV h7.1.1)
theorem Ma{X:Cx}{S:SI}{ex:aP->aW}(Q:lJ X S ex):∀(c:eI)(es:List ji)(p:Pos),oW S c es=ak->cC X (.BoolOp .And es p) (IT S.gl X.K ex c)
 |.nil,es,p,h=>MW
 |.cons c .nil,es,p,h=>by
  match es,h with
  |[],h=>exact bK h
  |[x],h =>
   have h7:(!isStar x&&kE S c x&&oW S .nil [])=ak:=h;simp only[bx,jc]at h7;exact Mo (eF Q c x h7.1.2)
  |x::y::ys,h =>
   have h7:(!isStar x&&kE S c x&&oW S .nil (y::ys))=ak:=h;simp only[bx,jc]at h7;exact bK h7.2
 |.cons c (.cons c' r),es,p,h=>by
  match es,h with
  |[],h=>exact bK h
  |[x],h =>
   have h7:(!isStar x&&kE S c x&&oW S (.cons c' r) [])=ak:=h;simp only[bx,jc]at h7;exact bK h7.2
  |x::y::ys,h =>
   have h7:(!isStar x&&kE S c x&&oW S (.cons c' r) (y::ys))=ak:=h;simp only[bx,jc]at h7;exact aG7 (eF Q c x h7.1.2) (Ma Q (.cons c' r) (y::ys) p h7.2)
theorem aLU{X:Cx}{S:SI}{ex:aP->aW}(Q:lJ X S ex):∀(c:eI)(es:List ji)(p:Pos),oW S c es=ak->cC X (.BoolOp .Or es p) (K6 S.gl X.K ex c)
 |.nil,es,p,h=>MW
 |.cons c .nil,es,p,h=>by
  match es,h with
  |[],h=>exact bK h
  |[x],h =>
   have h7:(!isStar x&&kE S c x&&oW S .nil [])=ak:=h;simp only[bx,jc]at h7;exact Mo (eF Q c x h7.1.2)
  |x::y::ys,h =>
   have h7:(!isStar x&&kE S c x&&oW S .nil (y::ys))=ak:=h;simp only[bx,jc]at h7;exact bK h7.2
 |.cons c (.cons c' r),es,p,h=>by
  match es,h with
  |[],h=>exact bK h
  |[x],h =>
   have h7:(!isStar x&&kE S c x&&oW S (.cons c' r) [])=ak:=h;simp only[bx,jc]at h7;exact bK h7.2
  |x::y::ys,h =>
   have h7:(!isStar x&&kE S c x&&oW S (.cons c' r) (y::ys))=ak:=h;simp only[bx,jc]at h7;exact aKP (eF Q c x h7.1.2) (aLU Q (.cons c' r) (y::ys) p h7.2)
theorem tJ{X:Cx}{S:SI}{ex:aP->aW}(Q:lJ X S ex):∀(c:CT)(e:ji),kT S c e=ak->jI X e (mT S.gl X.K ex c)
 |.cmp o a b,e,h=>by
  cases e with
  |Compare x ops ys p =>
   match ops,ys,h with
   |[o'],[y],h =>
    have h':(o==o'&&!behindInMarks o' y&&kE S a x&&kE S b y)=ak:=h;simp only[bx,jc]at h';have:=beq_iff_eq.mp h'.1.1.1;subst this;exact Mq (wL Q.hu) (eF Q a x h'.1.2) (eF Q b y h'.2) h'.1.1.2
   |[],_,h=>exact bK h
   |_::_::_,_,h=>exact bK h
   |[_],[],h=>exact bK h
   |[_],_::_::_,h=>exact bK h
  |_=>exact bK h
 |.chain o o' a b c,e,h=>by
  cases e with
  |Compare x ops ys p =>
   match ops,ys,h with
   |[p1,p2],[y,z],h =>
    have h':(o==p1&&o'==p2&&!lastMarks [p1,p2] [y,z]&&kE S a x&&kE S b y&&kE S c z)=ak:=h;simp only[bx,jc]at h';have e1:=beq_iff_eq.mp h'.1.1.1.1.1;have e2:=beq_iff_eq.mp h'.1.1.1.1.2;subst e1;subst e2;exact V5 (wL Q.hu) (wL Q.hu) (eF Q a x h'.1.1.2) (eF Q b y h'.1.2) (eF Q c z h'.2) h'.1.1.1.2
   |[],_,h=>exact bK h
   |[_],_,h=>exact bK h
   |_::_::_::_,_,h=>exact bK h
   |[_,_],[],h=>exact bK h
   |[_,_],[_],h=>exact bK h
   |[_,_],_::_::_::_,h=>exact bK h
  |_=>exact bK h
 |.not t,e,h=>by
  cases e with
  |UnaryOp op x p =>
   cases op with
   |Not=>exact aG6 (tJ Q t x h)
   |_=>exact bK h
  |_=>exact bK h
 |.and ts,e,h=>by
  cases e with
  |BoolOp op xs p =>
   cases op with
   |And=>exact PW.pt (MU Q ts xs p h)
   |Or=>exact bK h
  |_=>exact bK h
 |.or ts,e,h=>by
  cases e with
  |BoolOp op xs p =>
   cases op with
   |Or=>exact PW.pt (LZ Q ts xs p h)
   |And=>exact bK h
  |_=>exact bK h
 |.i7 neg a b,e,h=>by
  cases e with
  |Compare x ops ys p =>
   match ops,ys,h with
   |[o'],[y],h =>
    have h':(o'==(if neg then CmpOp.NotEq else CmpOp.Eq)&&kE S a x&&kE S b y)=ak:=h;simp only[bx]at h'
    have hb:nK o' y=ao:=by
     have:=beq_iff_eq.mp h'.1.1;subst this;exact P0 _ (by cases neg<;>decide) (by cases neg<;>decide)
    exact Mq (MV Q.hu h'.1.1) (eF Q a x h'.1.2) (eF Q b y h'.2) hb
   |[],_,h=>exact bK h
   |_::_::_,_,h=>exact bK h
   |[_],[],h=>exact bK h
   |[_],_::_::_,h=>exact bK h
  |_=>exact bK h
 |.val c,e,h=>by
  have h':(plainT e&&kE S c e)=ak:=h;rw[bx]at h';exact aG2 (eF Q c e h'.2) (aCM h'.1)
theorem MU{X:Cx}{S:SI}{ex:aP->aW}(Q:lJ X S ex):∀(c:sN)(es:List ji)(p:Pos),ic S c es=ak->sC X (.BoolOp .And es p) (G7 S.gl X.K ex c)
 |.nil,es,p,h=>λ_ _ _ _ _ _ _ ⟨_,_,_,_,_,z,_⟩=>z.elim
 |.cons c .nil,es,p,h=>by
  match es,h with
  |[],h=>exact bK h
  |[x],h =>
   have h7:(kT S c x&&ic S .nil [])=ak:=h;simp only[bx]at h7;exact aAR (tJ Q c x h7.1)
  |x::y::ys,h =>
   have h7:(kT S c x&&ic S .nil (y::ys))=ak:=h;simp only[bx]at h7;exact bK h7.2
 |.cons c (.cons c' r),es,p,h=>by
  match es,h with
  |[],h=>exact bK h
  |[x],h =>
   have h7:(kT S c x&&ic S (.cons c' r) [])=ak:=h;simp only[bx]at h7;exact bK h7.2
  |x::y::ys,h =>
   have h7:(kT S c x&&ic S (.cons c' r) (y::ys))=ak:=h;simp only[bx]at h7;exact aG5 (tJ Q c x h7.1) (MU Q (.cons c' r) (y::ys) p h7.2)
theorem LZ{X:Cx}{S:SI}{ex:aP->aW}(Q:lJ X S ex):∀(c:sN)(es:List ji)(p:Pos),ic S c es=ak->sC X (.BoolOp .Or es p) (IS S.gl X.K ex c)
 |.nil,es,p,h=>λ_ _ _ _ _ _ _ ⟨_,_,_,_,_,z,_⟩=>z.elim
 |.cons c .nil,es,p,h=>by
  match es,h with
  |[],h=>exact bK h
  |[x],h =>
   have h7:(kT S c x&&ic S .nil [])=ak:=h;simp only[bx]at h7;exact aG4 (tJ Q c x h7.1)
  |x::y::ys,h =>
   have h7:(kT S c x&&ic S .nil (y::ys))=ak:=h;simp only[bx]at h7;exact bK h7.2
 |.cons c (.cons c' r),es,p,h=>by
  match es,h with
  |[],h=>exact bK h
  |[x],h =>
   have h7:(kT S c x&&ic S (.cons c' r) [])=ak:=h;simp only[bx]at h7;exact bK h7.2
  |x::y::ys,h =>
   have h7:(kT S c x&&ic S (.cons c' r) (y::ys))=ak:=h;simp only[bx]at h7;exact aKO (tJ Q c x h7.1) (LZ Q (.cons c' r) (y::ys) p h7.2)
theorem okO{X:Cx}{S:SI}{ex:aP->aW}(Q:lJ X S ex):∀(c:CO)(e:Option ji),kO S c e=ak->J3 X e (mO S.gl X.K ex c)
 |.none,e,h=>by
  cases e with
  |none=>exact aAV
  |some _=>exact bK h
 |.some c,e,h=>by
  cases e with
  |none=>exact bK h
  |some x=>exact aAW (eF Q c x h)
theorem FN{X:Cx}{S:SI}{ex:aP->aW}(Q:lJ X S ex){tg:ji}{tt:Bool}(SY:tt=ak->X.calm=ak/\∃es kt pt,tg=.Tuple es kt pt):∀(c:CI)(e:ji),kI S tt c e=ak->pk X tg e (mI S.gl X.K ex c)
 |.any c,e,h=>aGT (eF Q c e h)
 |.yT c,e,h=>by
  cases e with
  |Call f as ks p =>
   cases f with
   |Name r q =>
    cases as with
    |nil=>exact bK h
    |cons y yr =>
     cases yr with
     |cons _ _=>exact bK h
     |nil =>
      cases ks with
      |cons _ _=>exact bK h
      |nil =>
       have h':(r==("range":Str)&&oV S&&!isStar y&&kE S c y)=ak:=h;simp only[bx,jc]at h';let⟨⟨⟨h1,h2⟩,h3⟩,h4⟩:=h';have:=beq_iff_eq.mp h1;subst this;let⟨g1,g2⟩:=zO Q h2;exact aBF g1 g2 (nF (eF Q c y h4) zS (aV h3)) (aV h3)
   |_=>exact bK h
  |_=>exact bK h
 |.yB a b,e,h=>by
  cases e with
  |Call f as ks p =>
   cases f with
   |Name r q =>
    match as,ks,h with
    |[],_,h=>exact bK h
    |[_],_,h=>exact bK h
    |_::_::_::_,_,h=>exact bK h
    |[_,_],_::_,h=>exact bK h
    |[y,z],[],h =>
     have h':(r==("range":Str)&&oV S&&!isStar y&&!isStar z&&kE S a y&&kE S b z)=ak:=h;simp only[bx,jc]at h';let⟨⟨⟨⟨⟨h1,h2⟩,h3⟩,h4⟩,h5⟩,h6⟩:=h';have:=beq_iff_eq.mp h1;subst this;let⟨g1,g2⟩:=zO Q h2;exact aBG g1 g2 (nF (eF Q a y h5) (nF (eF Q b z h6) zS (aV h4)) (aV h3)) (by rw[aV h3,aV h4];rfl) (aV h4)
   |_=>exact bK h
  |_=>exact bK h
 |.keys c,e,h=>by
  have h':(S.calm&&kE S c e)=ak:=h;rw[bx]at h';exact aC4 (Q.cm h'.1) (eF Q c e h'.2)
 |.xC c,e,h=>by
  have h':(S.calm&&kE S c e)=ak:=h;rw[bx]at h';exact Vs (Q.cm h'.1) (eF Q c e h'.2)
theorem KY{X:Cx}{S:SI}{ex:aP->aW}(Q:lJ X S ex){pos:Pos}:∀(cs:eI)(ks:List Str)(keys:List (Option ji))(vs:List ji),oW S cs vs=ak->vS ks keys=ak->keys.length=vs.length->Cw X pos keys vs ks (mA S.gl X.K ex cs)
 |.nil,ks,keys,vs,h,h2,h3=>by
  cases vs with
  |cons _ _=>exact bK h
  |nil =>
  cases keys with
  |cons _ _=>cases h3
  |nil =>
  cases ks with
  |cons _ _=>exact bK h2
  |nil=>exact Vx
 |.cons c cs,ks,keys,vs,h,h2,h3=>by
  cases vs with
  |nil=>exact bK h
  |cons v vs =>
  have h':(!isStar v&&kE S c v&&oW S cs vs)=ak:=h;simp only[bx]at h';cases keys with
  |nil=>cases h3
  |cons ke keys =>
  cases ks with
  |nil=>exact bK h2
  |cons k ks =>
  cases ke with
  |none=>exact bK h2
  |some e =>
  cases e with
  |Constant cc j p =>
   cases cc with
   |str k' =>
    have Gh:(k==k'&&vS ks keys)=ak:=h2;rw[bx]at Gh;have e0:=beq_iff_eq.mp Gh.1;subst e0;exact Xw (eF Q c v h'.1.2) (KY Q cs ks keys vs h'.2 Gh.2 (Nat.succ.inj h3))
   |_=>exact bK h2
  |_=>exact bK h2
theorem FO{X:Cx}{S:SI}(Q:lJ X S sF):∀(c:CC)(es:List ji),kC S c es=ak->zb X es (mC S.gl X.K c)
 |.none,es,h=>by
  cases es with
  |nil=>exact VX
  |cons _ _=>exact bK h
 |.some t,es,h=>by
  match es,h with
  |[],h=>exact bK h
  |[x],h=>exact VW (tJ Q t x h)
  |_::_::_,h=>exact bK h
end
end L4
namespace L4
open PySem PySem.Spec PyProof.Rows L2
inductive CD where
 |nm (i:Nat)|tup (is:List Nat)
mutual
inductive CS where
 |ret (e:CE)|expr (e:CE)|ifs (t:CT) (a b:CB)|set (i:Nat) (e:CE)
 |raise (k:Nat) (e:CE) (es:eI)|pass
 |setC (i:Nat) (fl gv:List Bool) (ci:CI) (cc:CC) (e:CE)|i8 (ci:CI) (tg:CD) (b:CB)
 |aug (i:Nat) (neg:Bool) (e:CE)|mM (o i e:CE)|setM (o i e:CE)
inductive CB where
 |nil|cons (s:CS) (r:CB)
end
abbrev aHQ:bC:=λ_ _ _=>False
abbrev K7(T:List (Str×GT))(K:Fg)(ex:aP->aW):CI->eB
 |.any e=>oo (mE T K ex e)
 |.yT e=>Aw (aA (mE T K ex e) aD)
 |.yB a b=>Av (aA (mE T K ex a) (aA (mE T K ex b) aD))
 |.keys e=>yR ak (mE T K ex e)
 |.xC e=>fK (mE T K ex e)
abbrev mG:CD->nL
 |.nm i=>qG i
 |.tup is=>BG is
abbrev IP:Bool->Int->Int->Int
 |true=>λa b=>a - b
 |false=>λa b=>a+b
abbrev DI(T:List (Str×GT))(ex:aP->aW)(k:Nat)(t:oR):bC:=match T[k]? with
 |some (_,.cls a)=>Iy ex a t
 |_=>aHQ
abbrev D2(S:SI)(k:Nat)(x:Str):Bool:=match S.gl[k]? with
 |some (z,.cls _)=>z==x
 |_=>ao
mutual
noncomputable def mS(T:List (Str×GT))(K:Fg)(ex:aP->aW):CS->bC
 |.ret e=>bA (mE T K ex e)
 |.expr e=>dF (mE T K ex e)
 |.ifs t a b=>bU (mT T K ex t) (mB T K ex a) (mB T K ex b)
 |.set i e=>bJ i (mE T K ex e)
 |.raise k e es=>DI T ex k (aA (mE T K ex e) (mA T K ex es))
 |.setC i _ _ ci cc e=>bJ i (nH (mI T K ex ci) (mC T K cc) (mE T K sF e))
 |.i8 ci tg b=>nJ (K7 T K ex ci) (mG tg) (mB T K ex b)
 |.aug i neg e=>Ea i (IP neg) (mE T K ex e)
 |.mM o i e=>uW (mE T K ex o) (mE T K ex i) (mE T K ex e)
 |.setM o i e=>Em (mE T K ex o) (mE T K ex i) (mE T K ex e)
 |.pass=>aX
noncomputable def mB(T:List (Str×GT))(K:Fg)(ex:aP->aW):CB->bC
 |.nil=>aX
 |.cons s .nil=>mS T K ex s
 |.cons s (.cons s' r)=>aH (mS T K ex s) (mB T K ex (.cons s' r))
end
abbrev isTup:ji->Bool
 |.Tuple ..=>ak
 |_=>ao
abbrev sI:ji->Bool
 |.ListComp ..=>ak
 |.SetComp ..=>ak
 |.DictComp ..=>ak
 |_=>ao
abbrev AW(S:SI):CD->ji->Bool
 |.nm i,.Name x _=>S.N[i]?==aj x&&S.fl[i]?==aj ak
 |.tup is,.Tuple es _ _=>Dk S is es
 |_,_=>ao
where
 Dk (S:SI):List Nat->List ji->Bool
 |[],[]=>ak
 |i::is,.Name x _::es=>S.N[i]?==aj x&&S.fl[i]?==aj ak&&Dk S is es
 |_,_=>ao
abbrev IM(S:SI):CD->Bool
 |.nm _=>ak
 |.tup _=>S.calm
abbrev cx(k:Nat)(z:ji):Nat:=if z.ctorIdx=k then s1 z else 99
abbrev tq:List ExceptHandler->Nat
 |.ExceptHandler (aj c) _ _ _::_=>c.ctorIdx
 |_=>99
abbrev t1:qw->Nat
 |.Assign (t::_) _ _=>t.ctorIdx
 |.Raise (aj a) _ _=>cx 16 a
 |.Try _ h _ _ _=>tq h
 |_=>99
abbrev t2:CS->qw->Bool
 |.setC ..,.Assign _ z _=>cx 8 z==23
 |_,_=>ak
abbrev Dq:CS->Nat
 |.ret _=>3
 |.expr _=>24
 |.ifs _ _ _=>12
 |.set _ _=>5
 |.raise _ _ _=>16
 |.setC _ _ _ _ _ _=>5
 |.mM _ _ _=>5
 |.setM _ _ _=>5
 |.i8 _ _ _=>9
 |.pass=>25
 |_=>99
abbrev Dp:CS->Nat
 |.set _ _=>23
 |.raise _ _ _=>23
 |.setC _ _ _ _ _ _=>23
 |.mM _ _ _=>21
 |.setM _ _ _=>21
 |_=>99
abbrev cq(c:CS)(e:qw):Bool:=(Dq c==99||e.ctorIdx==Dq c)&&(Dp c==99||t1 e==Dp c)&&t2 c e
mutual
noncomputable def j0(S:SI)(lv:Nat):CS->qw->Bool
 |.ret e,.Return (aj x) _=>kE S e x
 |.expr e,.Expr x _=>!sI x&&kE S e x
 |.ifs t a b,.If x y z _=>kT S t x&&kB S lv a y&&kB S lv b z
 |.set i e,.Assign [.Name x _] y _=>S.N[i]?==aj x&&S.fl[i]?==aj ak&&!sI y&&kE S e y
 |.raise k e es,.Raise (aj (.Call (.Name x _) (y::ys) [] _)) bh _=>lv==0&&S.calm&&!isStar y&&kE S e y&&oW S es ys&&S.gv[k]?==aj ak&&D2 S k x
 |.setC i fl gv ci cc e,.Assign [.Name y _] (.ListComp elt [⟨.Name x _,iter,ifs,a⟩] scope _) _=>S.N[i]?==aj y&&S.fl[i]?==aj ak&&a==0&&xD S [x] scope fl gv&&!isSet iter&&kI S ao ci iter&&kC (S.cmp [x] fl gv) cc ifs&&kE (S.cmp [x] fl gv) e elt
 |.aug i neg e,.AugAssign (.Name x _) o y _=>S.N[i]?==aj x&&S.fl[i]?==aj ak&&o==(if neg then Operator.Sub else Operator.Add)&&kE S e y
 |.mM o i e,.Assign [.Subscript x y _] z _=>!isSlice y&&!sI z&&kE S o x&&kE S i y&&kE S e z
 |.setM o i e,.Assign [.Subscript x y _] z _=>!isSlice y&&!sI z&&kE S o x&&kE S i y&&kE S e z
 |.i8 ci tg b,.For cf iter body [] _=>lv !=1&&IM S tg&&!isSet iter&&AW S tg cf&&kI S (isTup cf&&S.calm) ci iter&&kB S lv b body
 |.pass,.Pass _=>ak
 |_,_=>ao
noncomputable def kB(S:SI)(lv:Nat):CB->List qw->Bool
 |.nil,[]=>ak
 |.cons s r,x::xs=>(cq s x&&j0 S lv s x)&&kB S lv r xs
 |_,_=>ao
end
abbrev kS(S:SI)(lv:Nat)(c:CS)(st:qw):Bool:=cq c st&&j0 S lv c st
structure Bh(X:Cx)(S:SI)(ex:aP->aW)(lv:Nat):Prop where
 si:lJ X S ex
 loc:∀(i:Nat)(x:Str),S.N[i]?=aj x->S.fl[i]?=aj ak->Loc X.env.scope x
 lcl:∀(i:Nat)(x:Str),S.N[i]?=aj x->S.lc[i]?=aj ak->X.env.kindOf x=aj .local
 fn:∀x,X.fn x=ak
 cls:∀(k:Nat)(x:Str)(a:bw),S.gl[k]?=aj (x,.cls a)->S.gv[k]?=aj ak->oS X.K a Ka "ValueError.__new__"=ak/\(wx X.K a).isSome=ak/\PySem.W.typeIn X.K (.ref a)=aj (.type "type")/\PySem.W.subIn X.K (.ref a) (.type "BaseException")=aj ak
 l0:lv≠1->PassesOwn (fj X.prog X.w) X.A X.env X.xe
 rz:lv=0->S.calm=ak->J1 X ex
 C4:X.stack=X.env::X.outer
 frm:X.env.frame=aj X.env.locals
def D1{t:Option ji}{n:Nat}{env:Env}(h:sI e=ao):oD e t n env=pure ao:=by
 cases e<;>first|rfl|exact absurd (show ak=ao from h) (by decide)
variable{x:Str}
private theorem Xm{S:SI}{k:Nat}(h:D2 S k x=ak):∃a,S.gl[k]?=aj (x,.cls a):=by
 unfold D2 at h;split at h
 .rename_i z a hg;have:=beq_iff_eq.mp h;subst this;exact⟨a,hg⟩
 .exact bK h
variable{ex:aP->aW}
def Vi{k:Nat}{t:oR}(h:T[k]?=aj (x,.cls a)):DI T ex k t=Iy ex a t:=by unfold DI;rw[h]
variable{lv:Nat}
def Xl{X:Cx}{S:SI}(Q:Bh X S ex lv){k:Nat}(h:kS S lv (.raise k e es) (.Raise (aj (.Call (.Name x np) (y::ys) [] cp)) bh pos)=ak) :
  fF X (.Raise (aj (.Call (.Name x np) (y::ys) [] cp)) bh pos) (DI S.gl ex k (aA (mE S.gl X.K ex e) (mA S.gl X.K ex es))):=by
 have h':(lv==0&&S.calm&&!isStar y&&kE S e y&&oW S es ys&&S.gv[k]?==aj ak&&D2 S k x)=ak:=h;simp only[bx,jc]at h';let⟨⟨⟨⟨⟨⟨h0,ff⟩,h1⟩,h2⟩,h3⟩,hv⟩,h⟩:=h';have hv:=beq_iff_eq.mp hv;let⟨a,hg⟩:=Xm h;rw[Vi hg];have l1:=Q.si.cm ff;have l2:=Q.rz (beq_iff_eq.mp h0) ff;let⟨g1,g2,g3,g4,g5⟩:=Q.si.gl _ _ _ hg hv;exact V1 l1 PySem.F.excBase_ValueError (by decide) PySem.F.excBase_ValueError g1 g4 (Q.cls _ _ _ hg hv).1 l2 (nF (eF Q.si e y h2) (tN Q.si es ys h3) (aV h1)) g2 (aV h1) (rA h3)
def MT{ex:aP->aW}{lv:Nat}(Q:Bh X S ex lv):∀{is:List Nat}{es:List ji},AW.Dk S is es=ak->c6 (DP X) es is
 |[],[],_=>.nil
 |[],_::_,h=>by exact bK h
 |_::_,[],h=>by exact bK h
 |i::is,e::es,h=>by
  cases e with
  |Name x p =>
   have h':(S.N[i]?==aj x&&S.fl[i]?==aj ak&&AW.Dk S is es)=ak:=h;simp only[bx]at h';have e1:=beq_iff_eq.mp h'.1.1;exact .cons ⟨x,p,rfl,by rw[Q.si.N];exact e1,Q.loc i x e1 (beq_iff_eq.mp h'.1.2),.inl (Q.fn x)⟩ (MT Q h'.2)
  |_=>exact bK h
def aHS(Q:Bh X S ex lv):∀{c:CD}{e:ji},IM S c=ak->AW S c e=ak->Fm X e (mG c)
 |.nm i,e,_,h=>by
  cases e with
  |Name x p =>
   have h':(S.N[i]?==aj x&&S.fl[i]?==aj ak)=ak:=h;simp only[bx]at h';have e1:=beq_iff_eq.mp h'.1;exact aBJ Q.si.nd (by rw[Q.si.N];exact e1) (Q.loc i x e1 (beq_iff_eq.mp h'.2)) (.inl (Q.fn x))
  |_=>exact bK h
 |.tup is,e,hc,h=>by
  cases e with
  |Tuple es k p=>exact aGY Q.si.nd (Q.si.cm hc) (MT Q h)
  |_=>exact bK h
def aLV{X:Cx}{S:SI}(Q:lJ X S ex){tt:Bool}(SY:tt=ak->X.calm=ak/\∃es kt pt,tg=.Tuple es kt pt):∀(c:CI)(e:ji),kI S tt c e=ak->sD X tg e (K7 S.gl X.K ex c)
 |.any c,e,h=>aBM (eF Q c e h)
 |.yT c,e,h=>by
  cases e with
  |Call f as ks p =>
   cases f with
   |Name r q =>
    cases as with
    |nil=>exact bK h
    |cons y yr =>
     cases yr with
     |cons _ _=>exact bK h
     |nil =>
      cases ks with
      |cons _ _=>exact bK h
      |nil =>
       have h':(r==("range":Str)&&oV S&&!isStar y&&kE S c y)=ak:=h;simp only[bx,jc]at h';let⟨⟨⟨h1,h2⟩,h3⟩,h4⟩:=h';have:=beq_iff_eq.mp h1;subst this;let⟨g1,g2⟩:=zO Q h2;exact VT g1 g2 (nF (eF Q c y h4) zS (aV h3)) (aV h3)
   |_=>exact bK h
  |_=>exact bK h
 |.yB a b,e,h=>by
  cases e with
  |Call f as ks p =>
   cases f with
   |Name r q =>
    match as,ks,h with
    |[],_,h=>exact bK h
    |[_],_,h=>exact bK h
    |_::_::_::_,_,h=>exact bK h
    |[_,_],_::_,h=>exact bK h
    |[y,z],[],h =>
     have h':(r==("range":Str)&&oV S&&!isStar y&&!isStar z&&kE S a y&&kE S b z)=ak:=h;simp only[bx,jc]at h';let⟨⟨⟨⟨⟨h1,h2⟩,h3⟩,h4⟩,h5⟩,h6⟩:=h';have:=beq_iff_eq.mp h1;subst this;let⟨g1,g2⟩:=zO Q h2;exact VR g1 g2 (nF (eF Q a y h5) (nF (eF Q b z h6) zS (aV h4)) (aV h3)) (by rw[aV h3,aV h4];rfl) (aV h4)
   |_=>exact bK h
  |_=>exact bK h
 |.keys c,e,h=>by
  have h':(S.calm&&kE S c e)=ak:=h;rw[bx]at h';exact Vz (Q.cm h'.1) (eF Q c e h'.2)
 |.xC c,e,h=>by
  have h':(S.calm&&kE S c e)=ak:=h;rw[bx]at h';exact Pd (Q.cm h'.1) (eF Q c e h'.2)
def Xk(h:isTup e=ak):∃es kt pt,e=.Tuple es kt pt:=by
 cases e<;>first|exact⟨_,_,_,rfl⟩|exact bK h
variable{r:Bool}
def jx{e:qw}(h:(cq c e&&r)=ak)(z:(Dq c==99)=ao:=by rfl):e.ctorIdx=Dq c:=by
 unfold cq at h;rw[z,B5]at h;simp only[bx]at h;exact beq_iff_eq.mp h.1.1.1
def jy(h:(cq c e&&r)=ak)(z:(Dp c==99)=ao:=by rfl):t1 e=Dp c:=by
 unfold cq at h;rw[z,B5]at h;simp only[bx]at h;exact beq_iff_eq.mp h.1.1.2
def LY{k:Nat}{z:ji}(h:cx k z=23):z.ctorIdx=k/\s1 z=23:=by
 unfold cx at h;by_cases q:z.ctorIdx=k
 .rw[if_pos q]at h;exact⟨q,h⟩
 .rw[if_neg q]at h;cases h
def SO(h:(cq c e&&r)=ak):t2 c e=ak:=by
 unfold cq at h;simp only[bx]at h;exact h.1.2
def Zx{e:qw}(h:e.ctorIdx=3):∃x p,e=.Return x p:=Stmt.Return.elim (motive_2:=(∃x p,· =.Return x p)) e h λ_ _=>⟨_,_,rfl⟩
def sJ{e:qw}(h:e.ctorIdx=5):∃l y p,e=.Assign l y p:=Stmt.Assign.elim (motive_2:=(∃l y p,· =.Assign l y p)) e h λ_ _ _=>⟨_,_,_,rfl⟩
def Vh{e:qw}(h:e.ctorIdx=9):∃t i b l p,e=.For t i b l p:=Stmt.For.elim (motive_2:=(∃t i b l p,· =.For t i b l p)) e h λ_ _ _ _ _=>⟨_,_,_,_,_,rfl⟩
def aCT{e:qw}(h:e.ctorIdx=12):∃x y z p,e=.If x y z p:=Stmt.If.elim (motive_2:=(∃x y z p,· =.If x y z p)) e h λ_ _ _ _=>⟨_,_,_,_,rfl⟩
def YB{e:qw}(h:e.ctorIdx=16):∃x y p,e=.Raise x y p:=Stmt.Raise.elim (motive_2:=(∃x y p,· =.Raise x y p)) e h λ_ _ _=>⟨_,_,_,rfl⟩
def Xj{e:qw}(h:e.ctorIdx=24):∃x p,e=.Expr x p:=Stmt.Expr.elim (motive_2:=(∃x p,· =.Expr x p)) e h λ_ _=>⟨_,_,rfl⟩
def Xi{e:qw}(h:e.ctorIdx=25):∃p,e=.Pass p:=Stmt.Pass.elim (motive_2:=(∃p,· =.Pass p)) e h λ_=>⟨_,rfl⟩
mutual
theorem KW:∀(c:CS){X:Cx}{S:SI}{ex:aP->aW}{lv:Nat},Bh X S ex lv->∀(st:qw),kS S lv c st=ak->fF X st (mS S.gl X.K ex c)
 |.ret e,X,S,ex,lv,Q,st,h=>by
  let⟨v,p,rfl⟩:=Zx (jx h);cases v with
  |some x=>exact aGL (eF Q.si e x h)
  |none=>exact bK h
 |.expr e,X,S,ex,lv,Q,st,h=>by
  let⟨x,p,rfl⟩:=Xj (jx h);have h':(!sI x&&kE S e x)=ak:=h;simp only[bx,jc]at h';exact aB0 (eF Q.si e x h'.2) (D1 h'.1)
 |.ifs t a b,X,S,ex,lv,Q,st,h=>by
  let⟨x,y,z,p,rfl⟩:=aCT (jx h);have h':(kT S t x&&kB S lv a y&&kB S lv b z)=ak:=h;simp only[bx]at h';exact aKV (tJ Q.si t x h'.1.1) (AQ a Q y h'.1.2) (AQ b Q z h'.2)
 |.set i e,X,S,ex,lv,Q,st,h=>by
  have jz:=jy h;let⟨ts,y,p,rfl⟩:=sJ (jx h);cases ts with
  |nil=>exact bK h
  |cons t r =>
   let⟨x,q,rfl⟩:=gF jz;cases r with
   |cons _ _=>exact bK h
   |nil =>
    have h':(S.N[i]?==aj x&&S.fl[i]?==aj ak&&!sI y&&kE S e y)=ak:=h;simp only[bx,jc]at h';have e1:=beq_iff_eq.mp h'.1.1.1;exact Mn (i:=i) Q.si.nd (by rw[Q.si.N];exact e1) (Q.loc i x e1 (beq_iff_eq.mp h'.1.1.2)) (eF Q.si e y h'.2) (D1 h'.1.2) (.inl (Q.fn x))
 |.setM o i e,X,S,ex,lv,Q,st,h=>by
  have jz:=jy h;let⟨ts,z,p,rfl⟩:=sJ (jx h);cases ts with
  |nil=>exact bK h
  |cons t r =>
   let⟨x,y,q,rfl⟩:=gC jz;cases r with
   |cons _ _=>exact bK h
   |nil =>
    have h':(!isSlice y&&!sI z&&kE S o x&&kE S i y&&kE S e z)=ak:=h;simp only[bx,jc]at h';exact aCB Q.si.hu (eF Q.si o x h'.1.1.2) (eF Q.si i y h'.1.2) (eF Q.si e z h'.2) (D1 h'.1.1.1.2)
 |.mM o i e,X,S,ex,lv,Q,st,h=>by
  have jz:=jy h;let⟨ts,z,p,rfl⟩:=sJ (jx h);cases ts with
  |nil=>exact bK h
  |cons t r =>
   let⟨x,y,q,rfl⟩:=gC jz;cases r with
   |cons _ _=>exact bK h
   |nil =>
    have h':(!isSlice y&&!sI z&&kE S o x&&kE S i y&&kE S e z)=ak:=h;simp only[bx,jc]at h';exact aBU Q.si.hu (eF Q.si o x h'.1.1.2) (eF Q.si i y h'.1.2) (eF Q.si e z h'.2) (D1 h'.1.1.1.2)
 |.raise k e es,X,S,ex,lv,Q,st,h=>by
  have jz:=jy h;let⟨a,b,p,rfl⟩:=YB (jx h);cases a with
  |none=>exact bK h
  |some a =>
   let⟨q1,q2⟩:=LY jz;let⟨f,as,ks,q,rfl⟩:=gB q1;let⟨x,np,rfl⟩:=gF q2;cases as with
   |nil=>exact bK h
   |cons y ys =>
    cases ks with
    |cons _ _=>exact bK h
    |nil =>
     cases b with
     |some _=>exact bK h
     |none=>exact Xl Q h
 |.setC i fl gv ci cc c,X,S,ex,lv,Q,st,h=>by
  have jz:=jy h;have j2:=SO h;let⟨ts,z,p,rfl⟩:=sJ (jx h);let⟨q1,q2⟩:=LY (beq_iff_eq.mp j2);let⟨elt,gens,scope,pp,rfl⟩:=sH q1;cases ts with
  |nil=>exact bK h
  |cons t r =>
   let⟨y,q,rfl⟩:=gF jz;cases gens with
   |nil=>cases r<;>exact bK h
   |cons g gr =>
    let⟨tg,it,ifs,a⟩:=g;let⟨x,px,rfl⟩:=gF q2;cases gr with
    |cons _ _=>cases r<;>exact bK h
    |nil =>
     cases r with
     |cons _ _=>exact bK h
     |nil =>
      have h':(S.N[i]?==aj y&&S.fl[i]?==aj ak&&a==0&&xD S [x] scope fl gv&&!isSet it&&kI S ao ci it&&kC (S.cmp [x] fl gv) cc ifs&&kE (S.cmp [x] fl gv) c elt)=ak:=h;simp only[bx,jc]at h';let⟨⟨⟨⟨⟨⟨⟨hy,SV⟩,h2⟩,h3⟩,h4⟩,h5⟩,h6⟩,h7⟩:=h';have:=beq_iff_eq.mp h2;subst this;have e1:=beq_iff_eq.mp hy;exact VV (i:=i) (jH Q.si h3) (λC s H fp ψ σ=>Nf (jH Q.si h3) Q.si.nd) PB Q.si.nd (by rw[Q.si.N];exact e1) (Q.loc i y e1 (beq_iff_eq.mp SV)) (Q.fn y) (FN (tt:=false) Q.si (λz=>nomatch z) ci it h5) (λC s H fp ψ=>FO (Q.si.cmp h3 C s H fp ψ) cc ifs h6) (λC s H fp ψ=>eF (Q.si.cmp h3 C s H fp ψ) c elt h7) (D3 h4)
 |.aug i neg e,X,S,ex,lv,Q,st,h=>by
  cases st with
  |AugAssign t o y p =>
   cases t with
   |Name x q =>
    have h':(S.N[i]?==aj x&&S.fl[i]?==aj ak&&o==(if neg then Operator.Sub else Operator.Add)&&kE S e y)=ak:=h;simp only[bx]at h';let⟨⟨⟨h1,h2⟩,h3⟩,h4⟩:=h';have e1:=beq_iff_eq.mp h1;have:=beq_iff_eq.mp h3;subst this;cases neg with
    |true=>exact Mi (i:=i) Q.si.nd (by rw[Q.si.N];exact e1) (Q.loc i x e1 (beq_iff_eq.mp h2)) WD (eF Q.si e y h4) (.inl (Q.fn x))
    |false=>exact Mi (i:=i) Q.si.nd (by rw[Q.si.N];exact e1) (Q.loc i x e1 (beq_iff_eq.mp h2)) WE (eF Q.si e y h4) (.inl (Q.fn x))
   |_=>exact bK h
  |_=>exact bK h
 |.i8 ci tg b,X,S,ex,lv,Q,st,h=>by
  let⟨cf,it,body,el,p,rfl⟩:=Vh (jx h);cases el with
  |cons _ _=>exact bK h
  |nil =>
   have h':(lv !=1&&IM S tg&&!isSet it&&AW S tg cf&&kI S (isTup cf&&S.calm) ci it&&kB S lv b body)=ak:=h;simp only[bx,jc]at h';let⟨⟨⟨⟨⟨h1,hg⟩,h2⟩,h3⟩,h4⟩,h5⟩:=h';exact aBN (Q.l0 (bne_iff_ne.mp h1)) (aLV Q.si (λz=>by rw[bx]at z;exact⟨Q.si.cm z.2,Xk z.1⟩) ci it h4) (aHS Q hg h3) (AQ b Q body h5) (D3 h2)
 |.pass,X,S,ex,lv,Q,st,h=>by
  let⟨_,rfl⟩:=Xi (jx h);exact aAZ
theorem AQ:∀(c:CB){X:Cx}{S:SI}{ex:aP->aW}{lv:Nat},Bh X S ex lv->∀(st:List qw),kB S lv c st=ak->ng X st (mB S.gl X.K ex c)
 |.nil,X,S,ex,lv,Q,st,h=>by
  cases st with
  |nil=>exact aGJ
  |cons _ _=>exact bK h
 |.cons s .nil,X,S,ex,lv,Q,st,h=>by
  match st,h with
  |[],h=>exact bK h
  |[x],h =>
   have h':(kS S lv s x&&kB S lv .nil [])=ak:=h;rw[bx]at h';exact aGK (KW s Q x h'.1)
  |x::y::ys,h =>
   have h':(kS S lv s x&&kB S lv .nil (y::ys))=ak:=h;rw[bx]at h';exact bK h'.2
 |.cons s (.cons s' r),X,S,ex,lv,Q,st,h=>by
  match st,h with
  |[],h=>exact bK h
  |x::ys,h =>
   have h':(kS S lv s x&&kB S lv (.cons s' r) ys)=ak:=h;rw[bx]at h';exact aAY (KW s Q x h'.1) (AQ (.cons s' r) Q ys h'.2)
end
end L4
namespace L4
open PySem PySem.Spec PyProof.Rows L2
abbrev aR(R:dU):dU:=λd G'=>∃G0,Le G0 G'/\R d G0
abbrev gW(EX:aW):aW:=λC G'=>∃G0,Le G0 G'/\EX C G0
abbrev xE(n m:Nat)(tb:aW->bC):qF:=λds G R EX=>ds.length=m/\tb (gW EX) ⟨λ_ G'=>aR R .ag G',aR R,λ_ _=>False,λ_ _=>False⟩ (Ez n ds) G
def aR.here{d:D}(h:R d G):aR R d G:=⟨G,.refl G,h⟩
def Xh{K:Fg}(h:sA K EX E):sA K (gW EX) E:=λC H' G' g ⟨G0,l,q⟩=>h C H' G0 (g.le l) q
variable{qt:Bool}{P:kj}{mg:Str->Option au}{base:ju}{x qual:Str}{st:qw}{f:bw}{fd:qj}{ps:List Str}
def Vg{w:jj}{K:Fg}{N:List Str}{k:Nat}{tb:aW->bC}(F:sL K x qual st f fd)(S:bG N ps (bL st))
  (fh:∀(c5:au)(A:mq)(outer:List Env)(s:cu)(H:Hp)(E:XK)(EX:aW),jC qt k (A.deeper (envOfC qual (bL st) s.heap.objs.size f c5))->sA K EX E ->
   ng (cS qt P w K mg base N qual (bL st) f c5 A outer s H E) (cP st) (tb EX)):cM qt P w K mg base (lF P w) (k+1) f fd ps (cX K (xE N.length ps.length tb)):=by
 refine(aB1 F S fh).imp ?_;rintro vs H Q E ⟨ds,G,R,EX,r,g,⟨hl,q⟩,kk,hE⟩;exact⟨ds,G,aR R,gW EX,r,g,⟨hl,q⟩,(by rintro v H' d G' r1 g1 ⟨G0,l,q⟩;exact kk v H' d G0 r1 (g1.le l) q),Xh hE⟩
abbrev J9(P:kj)(w:jj)(K:Fg)(mg:Str->Option au)(base:ju)(k:Nat)(x:Str):GT->Prop
 |.con d=>∃u v,mg x=aj u/\RelV v u/\∀H,RD K H d v
 |.cls a=>mg x=aj (.ref a)/\oS K a Ka "ValueError.__new__"=ak/\(wx K a).isSome=ak/\PySem.W.typeIn K (.ref a)=aj (.type "type")/\PySem.W.subIn K (.ref a) (.type "BaseException")=aj ak
 |.fn sp n qt=>∃f fd ps,cM qt P w K mg base (lF P w) k f fd ps (cX K sp)/\mg x=aj (.ref f)/\yh K (.ref f)=ak/\Binds K fd ps []
 |.bf b=>mg x=bh/\oh x=aj (G6 b)
 |.bt n=>mg x=bh/\oh x=aj (.type n)
 |.kl C sp dd=>∃j f fd ps ds cw,j+1=k/\Mk K C f/\cM ao P w K mg base (lF P w) j f fd ps (cX K sp)/\mg x=aj (.ref C)/\Binds K fd ps ds/\Vals cw ds/\∀H,cN K H dd cw
 |.me C m sp dd=>∃f fd ps ds cw,Ft K C/\Meth K C m f/\cM ao P w K mg base (lF P w) k f fd ps (cX K sp)/\Binds K fd ps ds/\Vals cw ds/\∀H,cN K H dd cw
 |.fl C f=>Ft K C/\NH K C f
abbrev IL(sc:b9)(x:Str):Bool:=match sc.names.lookup x with
 |some .local=>ak
 |some .cell=>ak
 |_=>ao
abbrev IK(sc:b9)(x:Str):Bool:=match sc.names.lookup x with
 |some .local=>ak
 |_=>ao
abbrev IJ(sc:b9)(x:Str):Bool:=match sc.names.lookup x with
 |some .globalImplicit=>ak
 |_=>ao
abbrev II(sc:b9)(x:Str):Bool:=match sc.names.lookup x with
 |some .cell=>ak
 |_=>ao
private theorem Vf{sc:b9}(h:II sc x=ak):sc.names.lookup x=aj .cell:=by
 unfold II at h;split at h
 .rename_i e;exact e
 .exact bK h
abbrev zk(S:SI)(sc:b9):Bool:=(jw S.N.length).all (λi=>match S.N[i]? with
  |none=>ao
  |some x=>x !=("__debug__":Str)&&x !=("__classdict__":Str)&&(S.fl[i]? !=aj ak||IL sc x)&&(S.lc[i]? !=aj ak||IK sc x)&&(S.ce[i]? !=aj ak||II sc x)) &&
 (jw S.gl.length).all (λk=>match S.gl[k]? with
  |none=>ao
  |some (y,_)=>(S.gv[k]? !=aj ak||IJ sc y)&&y !=("__debug__":Str)&&y !=("__name__":Str))
private theorem Ve(h:IL sc x=ak):Loc sc x:=by
 unfold IL at h;split at h
 .rename_i e;exact .inl e
 .rename_i e;exact .inr e
 .exact bK h
def Vd(h:Loc sc x):sv sc x:=h.elim .inl λz=>.inr (.inl z)
private theorem Vc{sc:b9}(h:IK sc x=ak):sc.names.lookup x=aj .local:=by
 unfold IK at h;split at h
 .rename_i e;exact e
 .exact bK h
private theorem Vb{sc:b9}(h:IJ sc x=ak):sc.names.lookup x=aj .globalImplicit:=by
 unfold IJ at h;split at h
 .rename_i e;exact e
 .exact bK h
variable{S:SI}
def EI{sc:b9}(h:zk S sc=ak){i:Nat}(e:S.N[i]?=aj x) :
  (x==("__debug__":Str))=ao/\(x==("__classdict__":Str))=ao/\(S.fl[i]?=aj ak->Loc sc x)/\(S.lc[i]?=aj ak->sc.names.lookup x=aj .local)/\(S.ce[i]?=aj ak->sc.names.lookup x=aj .cell):=by
 unfold zk at h;rw[bx]at h;have hi:i<S.N.length:=(jd.mp e).1;have q:=jl.mp h.1 i (ou.mpr hi);rw[e]at q;simp only[bx,bne_iff_ne,ne_eq,EW]at q;let⟨⟨⟨⟨q1,q2⟩,q3⟩,q4⟩,q5⟩:=q;refine⟨beq_eq_false_iff_ne.mpr q1,beq_eq_false_iff_ne.mpr q2,λz=>?_,λz=>?_,λz=>?_⟩
 .rcases q3 with q|q
  .exact absurd z q
  .exact Ve q
 .rcases q4 with q|q
  .exact absurd z q
  .exact Vc q
 .rcases q5 with q|q
  .exact absurd z q
  .exact Vf q
def Va{sc:b9}(h:zk S sc=ak){k:Nat}{g:GT}(e:S.gl[k]?=aj (x,g)):(S.gv[k]?=aj ak->sc.names.lookup x=aj .globalImplicit)/\(x==("__debug__":Str))=ao/\x≠"__name__":=by
 unfold zk at h;rw[bx]at h;have q:=jl.mp h.2 k (ou.mpr (jd.mp e).1);rw[e]at q;simp only[bx,bne_iff_ne,ne_eq,EW]at q;exact⟨λz=>Vb (q.1.1.resolve_left λn=>n z),beq_eq_false_iff_ne.mpr q.1.2,q.2⟩
def Xg{w:jj}{K:Fg}{k:Nat}{c:CB}(F:sL K x qual st f fd)(hS:bG S.N ps (bL st))
  (hc:S.calm=!qt)(hv:zk S (bL st)=ak)(hk:kB S 0 c (cP st)=ak)(hg:∀(j:Nat)(y:Str)(g:GT),S.gl[j]?=aj (y,g)->J9 P w K mg base k y g) :
  cM qt P w K mg base (lF P w) (k+1) f fd ps (cX K (xE S.N.length ps.length λEX=>mB S.gl K (λ_=>EX) c)):=by
 refine Vg F hS λc5 A outer s H E EX hr hE=>?_;refine AQ c (X:=cS qt P w K mg base S.N qual (bL st) f c5 A outer s H E) (S:=S) (ex:=λ_=>EX) (lv:=0) ?_ (cP st) hk;refine⟨⟨rfl,hS.nd,λi y e1 e2=>?_,λi y e1 e2=>.inl ((EI hv e1).2.2.2.2 e2),λj y g e=>?_,hr.units,λz=>hc.symm.trans z,aKY hE⟩,λi y e1 e2=>?_,λi y e1 e2=>?_,λ_=>rfl,λj y a e _=>?_,λ_=>Ki,λ_ _=>aKZ hE,rfl,rfl⟩
 .obtain⟨a1,a2,a3,a4⟩:=EI hv e1;exact⟨Vd (a3 e2),a1,a2⟩
 .obtain⟨a1,a2,a3⟩:=Va hv e;have z:=hg j y g e;refine⟨a1,a2,a3,?_⟩;cases g with
  |con d=>exact z
  |cls a=>exact⟨z.1,z.2.1⟩
  |fn sp n q2 =>
   intro hz;let⟨f',Be,x3,F',m',k',b'⟩:=z;refine⟨k,f',Be,x3,F',⟨λe=>hr.hd ?_,hr.dp,hr.un⟩,m',k',b'⟩;have hs:S.calm=ak:=hz.resolve_left (by rw[e];decide);rw[hc]at hs;simpa using hs
  |bf b=>exact z
  |bt n=>exact z
  |kl C sp dd =>
   intro hs;let⟨j',f',Be,x3,ds,cw,rfl,q1,q2,q3,q4,q5,q6⟩:=z;rw[hc]at hs;exact⟨j',f',Be,x3,ds,cw,q1,q2,⟨λ_=>hr.hd (by simpa using hs),hr.dp,hr.un⟩,q3,q4,q5,q6⟩
  |me C m sp dd =>
   intro hs;let⟨f',Be,x3,ds,cw,q1,q2,q3,q4,q5,q6⟩:=z;rw[hc]at hs;exact⟨k,f',Be,x3,ds,cw,q1,q2,q3,⟨λ_=>hr.hd (by simpa using hs),hr.dp,hr.un⟩,q4,q5,q6⟩
  |fl C f=>exact z
 .exact(EI hv e1).2.2.1 e2
 .exact(EI hv e1).2.2.2.1 e2
 .have z:=hg j y _ e;exact z.2
end L4
namespace L4
open PySem PySem.Spec PyProof.Rows L2
variable{P:Str->GT->Prop}
def zQ:∀(j:Nat)(y:Str)(g:GT),([]:List (Str×GT))[j]?=aj (y,g)->P y g:=λj y g h=>by simp at h
def dO{x:Str}{g:GT}{l:List (Str×GT)}(h:P x g)(r:∀(j:Nat)(y:Str)(g:GT),l[j]?=aj (y,g)->P y g):∀(j:Nat)(y:Str)(g':GT),((x,g)::l)[j]?=aj (y,g')->P y g'
 |0,y,g',e=>by simp at e;let⟨e1,e2⟩:=e;subst e1;subst e2;exact h
 |j+1,y,g',e=>r j y g' (by simpa using e)
section
end
def O8:oh "range"=aj (.type "range"):=by decide+kernel
def aCY:oh "set"=aj (.type "set"):=by decide+kernel
end L4
namespace L4
open PySem PySem.Spec PyProof.Rows L2
def N0{K:Fg}{ps:List Str}(h:∀us:List au,us.length=ps.length->ip fd ⟨us,[]⟩=pure (ps.zip us)):Binds K fd ps []:=Binds.all h
end L4
namespace L5
open PySem PySem.Spec PyProof.Rows L2 L4
abbrev AO(x:D)(f:Bool->Prop):Prop:=match x with
 |.bl k=>f k
 |_=>False
abbrev KU(x:D)(f:Int->Prop):Prop:=match x with
 |.int k=>f k
 |_=>False
def aCZ{k:Bool}{f:Bool->Prop}:AO (.bl k) f=f k:=rfl
def U9{k:Int}{f:Int->Prop}:KU (.int k) f=f k:=rfl
abbrev xF(xs:List D):Prop:=xs.length<=dh
def aD0:xF []=True:=eq_true (show 0<=dh by decide)
def aD1:xF [a0]=True:=eq_true (show 1<=dh by decide)
def aD2:xF [a0,a1]=True:=eq_true (show 2<=dh by decide)
def aD3:xF [a0,a1,a2]=True:=eq_true (show 3<=dh by decide)
def aD4:xF [a0,a1,a2,a3]=True:=eq_true (show 4<=dh by decide)
def aD5:xF [a0,a1,a2,a3,a4]=True:=eq_true (show 5<=dh by decide)
def aD6:xF [a0,a1,a2,a3,a4,a5]=True:=eq_true (show 6<=dh by decide)
def aD7:xF [a0,a1,a2,a3,a4,a5,a6]=True:=eq_true (show 7<=dh by decide)
variable{n:Nat}{r:R3}{ds:List D}
section
variable{t:bC}{F:eY}{G:Gp}{R:dU}{tt:wY}{K:Fg}
def aHV:aH t u F ρ G=t {F with nx:=u F} ρ G:=rfl
def aD8:aX F ρ G=F.nx ρ G:=rfl
def aD9:dF te F ρ G=te ρ G λ_ G1=>F.nx ρ G1:=rfl
def aHW:bA te F ρ G=te ρ G F.rt:=rfl
def aHX:bU tt t u F ρ G=tt ρ G λb G1=>if b=ak then t F ρ G1 else u F ρ G1:=rfl
def aHY{i:Nat}:bJ i te F ρ G=te ρ G λx G1=>F.nx (wV ρ i x) G1:=rfl
def x_c{d:D}:aK d ρ G R=R d G:=rfl
def aDA{d:D}:aB 0 (aj d::ρ) G R=R d G:=rfl
def aDB:aB (n+1) (o::ρ) G R=aB n ρ G R:=rfl
def MS{d:D}:wV (o::ρ) 0 d=aj d::ρ:=rfl
def MR{d:D}:wV (o::ρ) (n+1) d=o::wV ρ n d:=rfl
def MQ:DS (o::ρ) 0=bh::ρ:=rfl
def MP:DS (o::ρ) (n+1)=o::DS ρ n:=rfl
def aLX:aC r ta tb ρ G R=ta ρ G λx G1=>tb ρ G1 λy G2=>r x y G2 R:=rfl
def aDC{Q:Bool->Gp->Prop}:aL te ρ G Q=te ρ G λx G1=>AO x λk=>Q k G1:=rfl
def U8{r':R3}:gH r r' ta tb tc ρ G R=ta ρ G λx G1=>tb ρ G1 λy G2=>r x y G2 λz G3=>AO z λk=>if k=ak then tc ρ G3 λw G4=>r' y w G4 R else R (.bl ao) G3:=by
 unfold gH;congr 1;funext x G1;congr 1;funext y G2;congr 1;funext z G3;cases z with
 |bl k=>cases k<;>rfl
 |_=>rfl
def aHZ{Q:Bool->Gp->Prop}:wZ tt Fw ρ G Q=tt ρ G λc G1=>if c=ak then Fw ρ G1 Q else Q ao G1:=rfl
def aLY{Q:Bool->Gp->Prop}:wW tt Fw ρ G Q=tt ρ G λc G1=>if c=ak then Q ak G1 else Fw ρ G1 Q:=rfl
def aI0{Q:Bool->Gp->Prop}:jE tt ρ G Q=tt ρ G λc G1=>Q (!c) G1:=rfl
def aDD:nD ta tb ρ G R=ta ρ G λx G1=>AO x λk=>if k=ak then tb ρ G1 R else R (.bl ao) G1:=by
 unfold nD;congr 1;funext x G1;cases x with
 |bl k=>cases k<;>rfl
 |_=>rfl
def aDE:Ey ta ρ G R=ta ρ G λx G1=>AO x λk=>R (.bl (!k)) G1:=rfl
def aI1:we ta ρ G R=ta ρ G λx G1=>KU x λk=>R (.int (-k)) G1:=rfl
def aI2:aD ρ G Q=Q [] G:=rfl
def aDF{Q:List D->Gp->Prop}:aA te tA ρ G Q=te ρ G λx G1=>tA ρ G1 λxs G2=>Q (x::xs) G2:=rfl
def aI3:bI tA ρ G R=tA ρ G λxs G1=>xF xs/\R (.tup xs) G1:=rfl
def aI4:fW tA ρ G R=tA ρ G λxs G1=>xF xs/\∀p,G1 p=bh->R (.ref p) (aG G1 p (.lst xs)):=rfl
def aI5:BW ρ G R=∀p,G p=bh->R (.ref p) (aG G p (.bD ao [])):=rfl
def x_call{ex:aP->aW}:aU sp ex tA ρ G R=tA ρ G λds G1=>sp ds G1 R (ex ρ):=rfl
def aLZ{r:List D->Gp->dU->Prop}:dD r tA ρ G R=tA ρ G λxs G1=>r xs G1 R:=rfl
def x_m{T:String}{r:iL}:j3 T r te tA ρ G R=te ρ G λx G1=>oy T G1 x/\tA ρ G1 λxs G2=>r x xs G2 R:=rfl
def U7:oy "list" G (.ref p)=((bB G p).isSome=ak):=by unfold oy;simp
def Xf{i j:Int}:d7 (.int i) (.int j) G R=R (.int (i+j)) G:=rfl
def Xe{xs ys:List D}:d7 (.tup xs) (.tup ys) G R=(xs.length+ys.length<=dh/\R (.tup (xs++ys)) G):=rfl
def aI6{i j:Int}:uP (.int i) (.int j) G R=R (.int (i - j)) G:=rfl
def LX{i j:Int}:zF (.int i) (.int j) G R=(Bu i j/\R (.int (i*j)) G):=rfl
def aDG{i j:Int}:cW (.int i) (.int j) G R=(Gw i j/\R (.int (i / j)) G):=rfl
def aI7{i j:Int}:cZ (.int i) (.int j) G R=(0<j/\R (.int (i%j)) G):=rfl
def aI8{i j:Int}:zI (.int i) (.int j) G R=(Gv i j/\R (.int (i^j.toNat)) G):=rfl
def x_lt{i j:Int}:ir (.int i) (.int j) G R=R (.bl (decide (i<j))) G:=rfl
def aM0{i j:Int}:nc (.int i) (.int j) G R=R (.bl (decide (j<i))) G:=rfl
def aM1{i j:Int}:ja (.int i) (.int j) G R=R (.bl (decide (i<=j))) G:=rfl
def U6{j:Str}:DR (.str i) (.str j) G R=R (.bl (!(Builtin.Str.occurrences j i 0 j.length 1).isEmpty)) G:=rfl
def U5{i j:Int}:f9 (.int i) (.int j) G R=R (.bl (i==j)) G:=by
 show(bQ 20 (.int i)=ak/\bQ 20 (.int j)=ak/\_)=_;simp[bQ,aT]
def U4{i j:Int}:qU (.int i) (.int j) G R=R (.bl (!(i==j))) G:=by
 show(bQ 20 (.int i)=ak/\bQ 20 (.int j)=ak/\_)=_;simp[bQ,aT]
def U3:f9 (.str i) (.str j) G R=R (.bl (i==j)) G:=by
 show(bQ 20 (.str i)=ak/\bQ 20 (.str j)=ak/\_)=_;simp[bQ,aT]
def U2:qU (.str i) (.str j) G R=R (.bl (!(i==j))) G:=by
 show(bQ 20 (.str i)=ak/\bQ 20 (.str j)=ak/\_)=_;simp[bQ,aT]
def U1:f9 (.tup xs) (.tup ys) G R=(bQ 20 (.tup xs)=ak/\bQ 20 (.tup ys)=ak/\R (.bl (aT (.tup xs) (.tup ys))) G):=rfl
def U0:qU (.tup xs) (.tup ys) G R=(bQ 20 (.tup xs)=ak/\bQ 20 (.tup ys)=ak/\R (.bl (!aT (.tup xs) (.tup ys))) G):=rfl
def UZ{z:Str}:iK [.str z] G R=(z.length<=dh/\R (.int z.length) G):=rfl
def UY:iK [.tup ds] G R=R (.int ds.length) G:=rfl
def iR(h:bB G q=aj ds):iK [.ref q] G R=R (.int ds.length) G:=by unfold iK;simp only[h]
def UX{b:Bool}:Eb [.bl b] G R=R (.int (if b then 1 else 0)) G:=rfl
def HA{i:Int}{d:D}(h:z7 xs i=aj d):bV (.tup xs) (.int i) G R=R d G:=by unfold bV;simp only[h]
def yS{i:Int}{d:D}(e:bB G p=aj xs)(h:z7 xs i=aj d):bV (.ref p) (.int i) G R=R d G:=by unfold bV;simp only[e,h]
def X'{i:Int}:bN K [(.int i),.ty "int"] G R=R (.bl ak) G:=by
 show("int"∈zG/\R (.bl (L2.subB "int" "int")) G)=_;rw[show L2.subB "int" "int"=ak from by decide];simp[zG]
def abC{i:Int}:bN K [(.int i),.ty "bool"] G R=R (.bl ao) G:=by
 show("bool"∈zG/\R (.bl (L2.subB "int" "bool")) G)=_;rw[show L2.subB "int" "bool"=ao from by decide];simp[zG]
def V':bN K [(.str z),.ty "str"] G R=R (.bl ak) G:=by
 show("str"∈zG/\R (.bl (L2.subB "str" "str")) G)=_;rw[show L2.subB "str" "str"=ak from by decide];simp[zG]
def a82:bN K [(.tup xs),.ty "tuple"] G R=R (.bl ak) G:=by
 show("tuple"∈zG/\R (.bl (L2.subB "tuple" "tuple")) G)=_;rw[show L2.subB "tuple" "tuple"=ak from by decide];simp[zG]
def a83{t:Bool}(h:G q=aj (.bD t aa)):bN K [.ref q,.ty "dict"] G R=R (.bl ak) G:=by
 have e:xy G (.ref q)=aj "dict":=by unfold xy;simp only[h]
 unfold bN;simp only[e];rw[show L2.subB "dict" "dict"=ak from by decide];simp[zG]
def Iw{q C C':bw}{b:Bool}(h:G q=aj (.gE C))(e:xj K C)(k:sd K (.ref C) (.ref C')=aj b)(z:R (.bl b) G):bN K [.ref q,.ref C'] G R:=by
 unfold bN;simp only[yn,h];exact⟨b,e,k,z⟩
end
def bY(h:G p=aj (.lst xs)):bB G p=aj xs:=by unfold bB;rw[h]
def rB(h:G p=aj (.fi xs)):bB G p=aj xs:=by unfold bB;rw[h]
def bF:bB (aG G p (.lst xs)) p=aj xs:=bY aF
def cY{b:Bool}{P Q:Prop}(h1:b=ak->P)(h2:b=ao->Q):if b=ak then P else Q:=by
 cases b
 .exact h2 rfl
 .exact h1 rfl
abbrev kn(G:Gp)(d:D):Prop:=(xy G d).isSome=ak
section
def WO{α:Type}{a:α}{xs:List α}:z7 (a::xs) 0=aj a:=by
 unfold z7 qc;simp
def atS{α:Type}{a:α}{xs:List α}:z7 (a::xs) ((n+1:Nat):Int)=z7 xs (n:Int):=by
 unfold z7 qc;have h0:(0:Int)<=((n+1:Nat):Int):=by omega
 have h1:(0:Int)<=(n:Int):=by omega
 rw[if_pos h0,if_pos h1];by_cases h:n<xs.length
 .have a1:((n+1:Nat):Int)<((a::xs).length:Int):=by simp;omega
  have a2:(n:Int)<(xs.length:Int):=by omega
  rw[if_pos a1,if_pos a2];simp
 .have a1:¬ ((n+1:Nat):Int)<((a::xs).length:Int):=by simp;omega
  have a2:¬ (n:Int)<(xs.length:Int):=by omega
  rw[if_neg a1,if_neg a2];rfl
def BQ{α:Type}{xs:List α}:z7 xs (n:Int)=xs[n]?:=by
 unfold z7 qc;rw[if_pos ⋯];by_cases h:n<xs.length
 .rw[if_pos ⋯];simp
 .rw[if_neg ⋯];simp at h;simp[h]
def UW:bV (.tup (a::xs)) (.int 0) G R=R a G:=HA WO
def UU{b:D}:bV (.tup (a::b::xs)) (.int 1) G R=R b G:=HA (i:=((1:Nat):Int)) (by rw[atS,BQ];rfl)
def UT{b:D}:bV (.tup (a::b::c::xs)) (.int 2) G R=R c G:=HA (i:=((2:Nat):Int)) (by rw[atS,BQ];rfl)
end
section
end
section
def Q9{b:bw}{xs ys:List D}(h1:bB G a=aj xs)(h2:bB G b=aj ys)(s1:xs.all (bQ 20)=ak)(s2:ys.all (bQ 20)=ak):f9 (.ref a) (.ref b) G R=R (.bl (gO xs ys)) G:=by
 show qk G (.ref a) (.ref b) (λb=>R (.bl b) G)=_;unfold qk;simp only[h1,h2,s1,s2,true_and]
def yU{b:bw}{xs ys:List D}(h1:bB G a=aj xs)(h2:bB G b=aj ys)(s1:xs.all (bQ 20)=ak)(s2:ys.all (bQ 20)=ak):qU (.ref a) (.ref b) G R=R (.bl (!gO xs ys)) G:=by
 show qk G (.ref a) (.ref b) (λb=>R (.bl (!b)) G)=_;unfold qk;simp only[h1,h2,s1,s2,true_and]
end
section
variable{i j:Int}
def aDH(h:-18446744073709551616<i/\i<18446744073709551616):zF (.int i) (.int j) G R=R (.int (i*j)) G:=by
 rw[LX];exact propext ⟨λz=>z.2,λz=>⟨.inl ⟨by have:=h.1;omega,by have:=h.2;omega⟩,z⟩⟩
def aDI(h:-18446744073709551616<j/\j<18446744073709551616):zF (.int i) (.int j) G R=R (.int (i*j)) G:=by
 rw[LX];exact propext ⟨λz=>z.2,λz=>⟨.inr ⟨by have:=h.1;omega,by have:=h.2;omega⟩,z⟩⟩
def US(h:0<j/\j<1073741824):cW (.int i) (.int j) G R=R (.int (i / j)) G:=by
 rw[aDG];exact propext ⟨λz=>z.2,λz=>⟨h,z⟩⟩
def Hz(h:0<j):cZ (.int i) (.int j) G R=R (.int (i%j)) G:=by
 rw[aI7];exact propext ⟨λz=>z.2,λz=>⟨h,z⟩⟩
def aDJ(h:0<=j/\j<=1000000/\i.natAbs<18446744073709551616):zI (.int i) (.int j) G R=R (.int (i^j.toNat)) G:=by
 rw[aI8];exact propext ⟨λz=>z.2,λz=>⟨⟨h.1,h.2.1,h.2.2⟩,z⟩⟩
end
section
end
section
variable{b:Bool}{α:Type}{l:List α}
def Zw:(True/\P)=P:=true_and P
def Zv:(!true)=ao:=rfl
def U':(!false)=ak:=rfl
def Xd:((!b)=ak)=(b=ao):=by cases b<;>simp
def YA:(if True then P else Q)=P:=if_true ..
def Zu:(if False then P else Q)=Q:=if_false ..
def aI9:(ao=ak)=False:=by simp
def aIA:(ak=ao)=False:=by simp
def Zt:(a::l).length=l.length+1:=uw
def Yz:([]:List α).length=0:=rfl
def Yy{β:Type}{f:α->β}:(l.map f).length=l.length:=dw ..
end
end L5
namespace L6
open PySem PySem.Spec PyProof.Rows L2 L4 L5
abbrev DH(x:D)(G:Gp)(Q:Src->Gp->Prop):Prop:=match x with
 |.ref p=>(match bB G p with
  |some xs=>Q (.lst p xs) G
  |none=>False)
 |.tup xs=>Q (.bS xs) G
 |.str z=>Q (.bS (signs z)) G
 |_=>False
abbrev GY(x:D)(G:Gp)(Q:Src->Gp->Prop):Prop:=match x with
 |.ref p=>(match bB G p with
  |some xs=>Q (.lst p xs) G
  |none=>False)
 |.str z=>Q (.bS (signs z)) G
 |.tup xs=>xs.all eQ=ak/\∀a,(G a=bh∨G a=aj (.cE xs))->Q (.cE a xs) (aG G a (.cE xs))
 |_=>False
abbrev LW(xs:List D)(G:Gp)(Q:Src->Gp->Prop):Prop:=match xs with
 |[.int j]=>-(2^62)<=j/\j<2^62/\Q (.bS (uF 0 j)) G
 |_=>False
abbrev LV(xs:List D)(G:Gp)(Q:Src->Gp->Prop):Prop:=match xs with
 |[.int i,.int j]=>(-(2^62)<=i/\i<2^62/\-(2^62)<=j/\j<2^62)/\Q (.bS (uF i j)) G
 |_=>False
section
variable{Q:Src->Gp->Prop}{i j:Int}
def UR:Ax te ρ G Q=te ρ G λx G1=>DH x G1 Q:=rfl
def aIB:oo te ρ G Q=te ρ G λx G1=>GY x G1 Q:=rfl
def aDK:Aw ta ρ G Q=ta ρ G λxs G1=>LW xs G1 Q:=rfl
def aDL:Av ta ρ G Q=ta ρ G λxs G1=>LV xs G1 Q:=rfl
def O7(h:bB G p=aj xs):DH (.ref p) G Q=Q (.lst p xs) G:=by unfold DH;simp only[h]
def Xc:DH (.str z) G Q=Q (.bS (signs z)) G:=rfl
def n8(h:bB G p=aj xs):GY (.ref p) G Q=Q (.lst p xs) G:=by unfold GY;simp only[h]
def UQ(h:-4611686018427387904<=j/\j<4611686018427387904):LW [.int j] G Q=Q (.bS (uF 0 j)) G:=by
 show(_/\_/\_)=_;exact propext ⟨λz=>z.2.2,λz=>⟨⋯,⋯,z⟩⟩
def UP(h:-4611686018427387904<=i/\i<4611686018427387904/\-4611686018427387904<=j/\j<4611686018427387904):LV [.int i,.int j] G Q=Q (.bS (uF i j)) G:=by
 show((_/\_/\_/\_)/\_)=_;exact propext ⟨λz=>z.2,λz=>⟨⟨⋯,⋯,⋯,⋯⟩,z⟩⟩
end
abbrev vF(dv:D->Option (List D))(src:Src)(tc:wY)(te:cA)(ρ:aP)(G1:Gp)(R:dU):Prop:=src.items.length<dh/\∀p,G1 p=bh->∃P:Nat->List D->Gp->Prop,P 0 [] (aG G1 p (.lst [])) /\
 (∀k ds G,k<=src.items.length->P k ds G->src.ok G/\G p=aj (.lst ds)/\ds.length<=k) /\
 (∀k d ds G,src.items[k]?=aj d->P k ds G->∃ys,dv d=aj ys/\tc (ys.map aj++ρ) G λb G2=>if b=ak then te (ys.map aj++ρ) G2 λy G3=>G3 p=aj (.lst ds)/\P (k+1) (ds++[y]) (aG G3 p (.lst (ds++[y])))else P (k+1) ds G2) /\
 ∀ds G,P src.items.length ds G->∃G0,Le G0 G/\R (.ref p) G0
variable{dv:D->Option (List D)}{ti:eB}
def Ei:oU dv ti tc te ρ G R=ti ρ G λsrc G1=>vF dv src tc te ρ G1 R:=rfl
private theorem fL(l:Le G G')(h:bB G p=aj xs):bB G' p=aj xs:=by
 unfold bB at h ⊢;split at h
 .rename_i e;rw[l _ _ e];exact h
 .rename_i e;rw[l _ _ e];exact h
 .cases h
variable{src:Src}
def LU(l:Le G G')(h:src.ok G):src.ok G':=by
 cases src with
 |lst p xs=>exact fL l h
 |bS xs=>trivial
 |zip p q xs ys=>exact⟨fL l h.1,fL l h.2⟩
 |FY p o aa=>exact l _ _ h
 |key p o t aa=>exact l _ _ h
 |cE p xs=>exact l _ _ h
 |Gq p xs=>exact l _ _ h
 |kz p o aa=>exact l _ _ h
def MO(l:Le (aG G p o) G'):Le (aG G p o') (aG G' p o'):=λa u e=>by
 by_cases h:a=p
 .subst h;rw[aF]at e ⊢;exact e
 .rw[aM h]at e ⊢;exact l a u (by rw[aM h];exact e)
def O6(v:D->List D)(c:D->Bool)(f:D->D)(hl:src.items.length<dh)(af:src.ok G)(hv:∀d∈src.items,dv d=aj (v d))
  (hc:∀d∈src.items,∀G',Le G G'->∀Q:Bool->Gp->Prop,(∀eD,Le G' eD->Q (c d) eD)->tc ((v d).map aj++ρ) G' Q)
  (he:∀d∈src.items,c d=ak->∀G',Le G G'->∀Q:D->Gp->Prop,(∀eD,Le G' eD->Q (f d) eD)->te ((v d).map aj++ρ) G' Q)
  (h:∀p,G p=bh->R (.ref p) (aG G p (.lst ((src.items.filter c).map f)))):vF dv src tc te ρ G R:=by
 refine⟨hl,λp hp=>⟨λk ds G'=>ds=((src.items.take k).filter c).map f/\Le (aG G p (.lst ds)) G',⟨rfl,.refl _⟩,λk ds G' hk ⟨e,l⟩=>?_,λk d ds G' hd ⟨e,l⟩=>?_,λds G' ⟨e,l⟩=>?_⟩⟩
 .refine⟨LU ((Le.new hp).trans l) af,l p _ aF,?_⟩;rw[e,dw];exact wg (zc _ _) (by rw[Ce];omega)
 .have hm:d∈src.items:=qd hd
  have ht:src.items.take (k+1)=src.items.take k++[d]:=by
   rw[zm,hd];rfl
  refine⟨v d,hv d hm,hc d hm G' ((Le.new hp).trans l) _ λG2 l2=>?_⟩;cases eR:c d with
  |true =>
   rw[if_pos rfl];refine he d hm eR G2 (((Le.new hp).trans l).trans l2) _ λG3 l3=>?_;have l4:=(l.trans l2).trans l3;refine⟨l4 p _ aF,?_,MO l4⟩;rw[ht,List.filter_append,qe,←e];simp[eR]
  |false =>
   rw[if_neg (by decide)];refine⟨?_,l.trans l2⟩;rw[ht,List.filter_append,qe,←e];simp[eR]
 .rw[sg]at e;subst e;exact⟨_,l,h p hp⟩
def UO(c:D->Bool)(f:D->D)(hl:src.items.length<dh)(af:src.ok G)
  (hc:∀d∈src.items,∀G',Le G G'->∀Q:Bool->Gp->Prop,(∀eD,Le G' eD->Q (c d) eD)->tc (aj d::ρ) G' Q)
  (he:∀d∈src.items,c d=ak->∀G',Le G G'->∀Q:D->Gp->Prop,(∀eD,Le G' eD->Q (f d) eD)->te (aj d::ρ) G' Q)
  (h:∀p,G p=bh->R (.ref p) (aG G p (.lst ((src.items.filter c).map f)))):vF i9 src tc te ρ G R:=O6 (λd=>[d]) c f hl af (λ_ _=>rfl) hc he h
abbrev D0(src:Src)(tg:nL)(tb:bC)(F:eY)(ρ:aP)(G1:Gp):Prop:=∃P:Nat->aP->Gp->Prop,P 0 ρ G1/\(∀k ρ G,k<=src.items.length->P k ρ G->src.ok G) /\
 (∀k d ρ G,src.items[k]?=aj d->P k ρ G->tg d ρ λg7=>tb {F with nx:=P (k+1),ct:=P (k+1),bk:=F.nx} g7 G)/\∀ρ G,P src.items.length ρ G->F.nx ρ G
variable{tg:nL}{F:eY}
def aDM:nJ ti tg tb F ρ G=ti ρ G λsrc G1=>D0 src tg tb F ρ G1:=rfl
variable{i:Nat}{Q:aP->Prop}
def UN{d:D}:qG i d ρ Q=Q (wV ρ i d):=rfl
def MN{is:List Nat}{ds:List D}(h:ds.length=is.length):BG is (.tup ds) ρ Q=Q (rj ρ is ds):=propext ⟨λz=>z.2,λz=>⟨h,z⟩⟩
def UM:rj ρ is []=ρ:=by cases is<;>rfl
def NZ{d:D}:rj ρ (i::is) (d::ds)=rj (wV ρ i d) is ds:=rfl
variable{j:Int}
def Xb(P:Nat->aP->Gp->Prop)(h0:P 0 ρ G)
  (hb:∀(k:Nat) ρ G,(k:Int)<j->P k ρ G->tg (.int k) ρ λg7=>tb {F with nx:=P (k+1),ct:=P (k+1),bk:=F.nx} g7 G)(he:∀ρ G,P j.toNat ρ G->F.nx ρ G):D0 (.bS (uF 0 j)) tg tb F ρ G:=by
 have hlen:(Src.bS (uF 0 j)).items.length=j.toNat:=by simp[Src.items,uF]
 refine⟨P,h0,λ_ _ _ _ _=>trivial,λk d ρ G hd p=>?_,λρ G p=>he ρ G (hlen ▸ p)⟩;have hk:k<j.toNat:=by rw[←hlen];exact(jd.mp hd).1
 have e:d=.int k:=by
  have:(uF 0 j)[k]?=aj d:=hd;unfold uF at this;rw[kh,Fd ⋯]at this;simp at this;exact this.symm
 subst e;exact hb k ρ G ⋯ p
def rC{xs:List D}(P:Nat->aP->Gp->Prop)(h0:P 0 ρ G)(hs:∀k ρ G,P k ρ G->bB G q=aj xs)
  (hb:∀k d ρ G,xs[k]?=aj d->P k ρ G->tg d ρ λg7=>tb {F with nx:=P (k+1),ct:=P (k+1),bk:=F.nx} g7 G)(he:∀ρ G,P xs.length ρ G->F.nx ρ G):D0 (.lst q xs) tg tb F ρ G :=
 ⟨P,h0,λk ρ G _ p=>hs k ρ G p,hb,he⟩
section
def Ik{ds:List D}(h:bB G q=aj ds)(hb:ds.all y9=ak):wd [.ref q] G R=R (.bl (ds.all ve)) G:=by
 unfold wd;simp only[h,hb,true_and]
variable{i:Int}
def aIC:Eu [.int i,.int j] G R=R (.int (if j<i then j else i)) G:=rfl
def aID:yP [.int i,.int j] G R=R (.int (if i<j then j else i)) G:=rfl
def nO{ds:List D}{d:D}(h:G p=aj (.lst ds))(hl:ds.length<dh):fB (.ref p) [d] G R=R .ag (aG G p (.lst (ds++[d]))):=by
 unfold fB;simp only[h,hl,true_and]
def aIE{b:bw}{ds es:List D}(h:G p=aj (.lst ds))(h2:G b=aj (.lst es))(hl:ds.length+es.length<=dh):d7 (.ref p) (.ref b) G R=∀q,G q=bh->R (.ref q) (aG G q (.lst (ds++es))):=by
 unfold d7;simp only[h,h2,hl,true_and]
def Xa(h:bB G q=aj ds):BX [.ref q] G R=∀l,G l=bh->R (.ref l) (aG G l (.lst ds)):=by
 unfold BX;simp only[h]
end
def JR(P:D->Prop)(hl:src.items.length<dh)(af:src.ok G)
  (he:∀d∈src.items,∀G',Le G G'->∀Q:D->Gp->Prop,(∀y eD,P y->Le G' eD->Q y eD)->te (aj d::ρ) G' Q)
  (h:∀p ds,G p=bh->ds.length=src.items.length->(∀y∈ds,P y)->R (.ref p) (aG G p (.lst ds))):vF i9 src uT te ρ G R:=by
 refine⟨hl,λp hp=>⟨λk ds G'=>ds.length=k/\(∀y∈ds,P y)/\Le (aG G p (.lst ds)) G',⟨rfl,λy h=>by simp at h,.refl _⟩,λk ds G' hk ⟨e,a,l⟩=>?_,λk d ds G' hd ⟨e,a,l⟩=>?_,λds G' ⟨e,a,l⟩=>?_⟩⟩
 .exact⟨LU ((Le.new hp).trans l) af,l p _ aF,⋯⟩
 .refine⟨[d],rfl,?_⟩;rw[show ∀{ρ:aP}{G:Gp}{Q:Bool->Gp->Prop},uT ρ G Q=Q ak G from rfl,if_pos rfl];refine he d (qd hd) G' ((Le.new hp).trans l) _ λy G3 hy l3=>?_;have l4:=l.trans l3;refine⟨l4 p _ aF,by simp[e],λz hz=>?_,MO l4⟩;rcases uo.mp hz with m|m
  .exact a z m
  .rw[ql.mp m];exact hy
 .exact⟨_,l,h p ds hp e a⟩
section
variable{F:eY}
def aIF{f:Int->Int->Int}:Ea i f te F ρ G=aB i ρ G λx G0=>tI x λa=>te ρ G0 λy G1=>tI y λb=>F.nx (wV ρ i (.int (f a b))) G1:=rfl
def aIG{k:Int}{f:Int->Prop}:tI (.int k) f=f k:=rfl
def UL{a b:Int}:IP ao a b=a+b:=rfl
def O5:∀ns ms:List Int,ns.map D.int=ms.map D.int->ns=ms
 |[],[],_=>rfl
 |[],_::_,e=>by cases e
 |_::_,[],e=>by cases e
 |n::ns,m::ms,e=>by
  simp only[iw,List.cons.injEq]at e;let⟨e1,e2⟩:=e;cases e1;rw[O5 ns ms e2]
def GX{ns:List Int}(h:bB G q=aj (ns.map D.int)):zC [.ref q] G R=R (.int ns.sum) G:=by
 refine propext ⟨λz=>?_,λz=>?_⟩
 .have z':(match bB G q with
   |some ds=>∃ns:List Int,ds=ns.map D.int/\R (.int ns.sum) G
   |none=>False):=z
  rw[h]at z';let⟨ms,e,r⟩:=z';rw[O5 ns ms e];exact r
 .show(match bB G q with
   |some ds=>∃ns:List Int,ds=ns.map D.int/\R (.int ns.sum) G
   |none=>False)
  rw[h];exact⟨ns,rfl,z⟩
end
end L6
namespace L7
open PySem PySem.Spec PyProof.Rows L2 L4 L5 L6
section
variable{F:eY}
def aDN:rT ρ G R=∀p,G p=bh->R (.ref p) (aG G p (.bD ak [])):=rfl
def aDO{tv:cA}:uW to ti tv F ρ G=tv ρ G λv G1=>to ρ G1 λx G2=>ti ρ G2 λy G3=>D9 x y v F ρ G3:=rfl
end
end L7
namespace L8
open PySem PySem.Spec PyProof.Rows L2 L4 L5 L6 L7
section
def aM2{r:iL}{t:oR}:u7 r to t ρ G R=to ρ G λx G1=>rZ x G1/\t ρ G1 λxs G2=>r x xs G2 R:=rfl
def UK:EU to te tf ρ G R=to ρ G λx G1=>rZ x G1/\te ρ G1 λy G2=>tf ρ G2 λz G3=>uU x y G3 λ_ _ aa k=>R ((aQ aa k).getD z) G3:=rfl
def lG{t:Bool}(h:G p=aj (.bD t aa)):rZ (.ref p) G=True:=by
 unfold L2.rZ;simp only[h]
def v9{t:Bool}{k:DK}{P:bw->Bool->List (DK×D)->DK->Prop}(h:G p=aj (.bD t aa))(hk:zH y=aj k)(ht:qY k=t):uU (.ref p) y G P=P p t aa k:=by
 unfold L2.uU;simp only[h,hk];exact propext ⟨λz=>z.2,λz=>⟨ht,z⟩⟩
def Yx{t:Bool}{k:DK}{P:List (DK×D)->DK->Prop}(h:zJ G p=aj (t,aa))(hk:zH y=aj k)(ht:qY k=t):BU (.ref p) y G P=P aa k:=by
 unfold L2.BU;simp only[h,hk,ht,true_and]
def Yv{t:Bool}(h:G p=aj (.bD t aa)):zJ G p=aj (t,aa):=by unfold L2.zJ;rw[h]
def Yu{t:Bool}(h:G p=aj (.c9 o t aa)):zJ G p=aj (t,aa):=by unfold L2.zJ;rw[h]
def O4{t:Bool}{d:D}{k:DK}(h:zJ G p=aj (t,aa))(hk:zH y=aj k)(ht:qY k=t)(e:aQ aa k=aj d):aO (.ref p) y G R=R d G:=by
 unfold L2.aO;rw[Yx h hk ht];simp only[e]
def jW{t:Bool}{d:D}{k:DK}(h:G p=aj (.bD t aa))(hk:zH y=aj k)(ht:qY k=t)(e:aQ aa k=aj d):aO (.ref p) y G R=R d G:=O4 (Yv h) hk ht e
def Ij{aa:List (DK×D)}(h:G p=aj (.bD ao aa)):Ao [.ref p] G R=R (.int aa.length) G:=by
 unfold L2.Ao;simp only[h]
end
end L8
namespace L9
open PySem PySem.Spec PyProof.Rows L2 L4 L5 L6 L7 L8
variable{i:Int}{ps:List (Int×Int)}{M:List (List Key×bw)}
section
variable{F:eY}{p:bw}
@[simp]def ky(a p:Int):List Key:=[.inl a,.inl p]
def UJ:EN to ρ G R=to ρ G λx G1=>sG x G1 R:=rfl
def jX{a q:Int}:zH (.tup [.int a,.int q])=aj (.inr (ky a q)):=rfl
def rD:zH (.int i)=aj (.inl (.inl i)):=rfl
def mD{k:List Key}:∀{M:List (List Key×bw)},aQ (M.map n6) (.inr k)=(aQ M k).map D.ref
 |[]=>rfl
 |z::M=>by
  rw[iw];unfold aQ;by_cases c:z.1=k
  .rw[if_pos c,if_pos (by show(Sum.inr z.1:DK)=_;rw[c])];rfl
  .rw[if_neg c,if_neg (show ¬ (n6 z).1=Sum.inr k from λe=>c (jV _ _ e))];exact mD
def wM{i:Int}:∀{ps:List (Int×Int)},aQ (ps.map jD) (.inl (.inl i))=(aQ ps i).map D.int
 |[]=>rfl
 |z::M=>by
  rw[iw];unfold aQ;by_cases c:z.1=i
  .rw[if_pos c,if_pos (by show(Sum.inl (Sum.inl z.1):DK)=_;rw[c])];rfl
  .rw[if_neg c,if_neg (show ¬ (jD z).1=Sum.inl (Sum.inl i)from λe=>c (by have:=jU _ _ e;injection this))];exact wM
def Ii{v:Int}:bZ (ps.map jD) (.inl (.inl i)) (.int v)=(bZ ps i v).map jD:=by
 unfold bZ;rw[wM,Option.isSome_map];split
 ·rw[ni,ni];refine yx λz _=>?_;show(if(Sum.inl (Sum.inl z.1):DK)=_ then _ else _)=jD (if z.1=i then(z.1,v)else z);by_cases c:z.1=i
  .rw[if_pos c,if_pos (by rw[c])];rfl
  .rw[if_neg c,if_neg (λe=>c (by have:=jU _ _ e;injection this))]
 .rw[qe];rfl
def W9:bH (ps.map jD) (.inl (.inl i))=(bH ps i).map jD:=by
 unfold bH;rw[Ai];congr 1;refine List.filter_congr λz _=>?_;show(!decide ((Sum.inl (Sum.inl z.1):DK)=.inl (.inl i)))=_;by_cases c:z.1=i
 .rw[c];simp
 .rw[decide_eq_false c,decide_eq_false (λe=>c (by have:=jU _ _ e;injection this))]
def O3{k:List Key}:bH (M.map n6) (.inr k)=(bH M k).map n6:=by
 unfold bH;rw[Ai];congr 1;refine List.filter_congr λz _=>?_;show(!decide ((Sum.inr z.1:DK)=.inr k))=_;by_cases c:z.1=k
 .rw[c];simp
 .rw[decide_eq_false c,decide_eq_false (λe=>c (jV _ _ e))]
def W8{κ α:Type}[DecidableEq κ]{aa:List (κ×α)}{k:κ}{v:α}(h:aQ aa k=bh):bZ aa k v=aa++[(k,v)]:=by
 unfold bZ;rw[h];rfl
def NY{k:DK}{aa:List (DK×D)}(h:G p=aj (.bD ak aa))(hk:zH y=aj k)(ht:qY k=ak)(hl:aa.length<dh)(e:aQ aa k=bh):rh (.ref p) [y,z] G R=R z (aG G p (.bD ak (aa++[(k,z)]))):=by
 unfold L2.rh;simp only;rw[v9 h hk ht];simp only[e,W8 e];exact propext ⟨λw=>w.2.2,λw=>⟨trivial,hl,w⟩⟩
def UI{d:D}{k:DK}{aa:List (DK×D)}(h:G p=aj (.bD ak aa))(hk:zH y=aj k)(ht:qY k=ak)(hl:aa.length<dh)(e:aQ aa k=aj d):rh (.ref p) [y,z] G R=R d G:=by
 unfold L2.rh;simp only;rw[v9 h hk ht];simp only[e];exact propext ⟨λw=>w.2.2,λw=>⟨trivial,hl,w⟩⟩
def Ih{t:Bool}{d:D}{k:DK}(h:G p=aj (.bD t aa))(hk:zH y=aj k)(ht:qY k=t)(e:aQ aa k=aj d):Ap (.ref p) [y] G R=R d (aG G p (.bD t (bH aa k))):=by
 unfold L2.Ap;simp only;rw[v9 h hk ht];simp only[e]
def zR{t:Bool}{k:DK}{aa:List (DK×D)}(h:G p=aj (.bD t aa))(hk:zH y=aj k)(ht:qY k=t)(hl:aa.length<dh):D9 (.ref p) y v F ρ G=F.nx ρ (aG G p (.bD t (bZ aa k v))):=by
 unfold L2.D9;rw[v9 h hk ht];exact propext ⟨λw=>w.2,λw=>⟨hl,w⟩⟩
def W7(h:G p=aj (.bD ao (ps.map jD)))(hl:ps.length<64)(k:∀qs:List (Int×Int),qs.Perm ps->c7 qs->∀r,G r=bh->R (.ref r) (aG G r (.lst (qs.map bW)))):sG (.ref p) G R:=by
 unfold L2.sG;simp only[h];exact⟨ps,rfl,hl,k⟩
def W6{aa:List (DK×D)}(h:G p=aj (.bD ak aa))(e:(aa.map λq=>cK q.1)=ps.map bW)(nd:ps.Nodup)(hl:ps.length<64)(k:∀qs:List (Int×Int),qs.Perm ps->c7 qs->∀r,G r=bh->R (.ref r) (aG G r (.lst (qs.map bW)))):wK [.ref p] G R:=by
 unfold L2.wK;simp only[h];exact⟨ps,e,nd,hl,k⟩
def UH{neg:Bool}{N:List (List Key×bw)}{c:bw->List (Int×Int)}(h:G p=aj (.bD ak (M.map n6)))(h2:G q=aj (.bD ak (N.map n6)))(hc:∀z∈M++N,G z.2=aj (.bD ao ((c z.2).map jD)))(k:R (.bl (neg ^^ eqT c M N)) G):xA neg (.ref p) (.ref q) G R:=.inr ⟨p,q,M,N,c,rfl,rfl,h,h2,hc,k⟩
end
end L9
namespace J6
open PySem PySem.Spec PyProof.Rows L2 L4 L5 L6
section
variable{al t:Bool}{Q:Src->Gp->Prop}
def O2:yR al te ρ G Q=te ρ G λx G1=>wa al x G1 Q:=rfl
def UG(h:G p=aj (.bD t aa)):wa al (.ref p) G Q=∀od,Q (.key p od t aa) (aG G p (.c9 od t aa)):=by
 unfold L2.wa;simp only[h]
def Al{α β:Type}{f:α->β}{l:List α}{k:Nat}{d:β}(h:(l.map f)[k]?=aj d):∃q,l[k]?=aj q/\f q=d:=by
 rw[kh]at h;cases e:l[k]? with
 |none=>rw[e]at h;cases h
 |some q=>rw[e]at h;exact⟨q,rfl,jk.inj h⟩
end
end J6
namespace RV
open PySem PySem.Spec PyProof.Rows L2 L4 L5 L6
section
end
end RV
namespace L12
open PySem PySem.Spec PyProof.Rows L2 L4 L5 L6
section
end
end L12
namespace AD
open PySem PySem.Spec PyProof.Rows L2 L4 L5 L6
variable{F:eY}{tv:cA}
def aDP:EK ρ G R=∀p,G p=bh->R (.ref p) (aG G p (.rQ [])):=rfl
def JQ:fK te ρ G Q=te ρ G λx G1=>D5 x G1 Q:=rfl
def aDQ:uY to te tf ρ G R=to ρ G λx G1=>isNm x G1/\te ρ G1 λy G2=>tf ρ G2 λz G3=>y7 x y z G3 R:=rfl
def aDR:Em to ti tv F ρ G=tv ρ G λv G1=>to ρ G1 λx G2=>ti ρ G2 λy G3=>Bo x y v F ρ G3:=rfl
end AD
namespace AB
open PySem PySem.Spec PyProof.Rows L2 L4 L5 L6
variable{ks:List Str}
def aDS:El to te ρ G R=to ρ G λx G1=>isNm x G1/\te ρ G1 λy G2=>D6 x y G2 R:=rfl
def aDT:BR to ρ G R=to ρ G λx G1=>Ek x G1 R:=rfl
def UE:EL to ρ G R=to ρ G λx G1=>zM x G1 R:=rfl
def UD:Ep ks ta ρ G R=∀p,G p=bh->ta ρ (aG G p (.bD ao [])) λds G2=>G2 p=aj (.bD ao [])/\R (.ref p) (aG G2 p (.bD ao (x9 ks ds []))):=rfl
def NX{t:Bool}(h:G p=aj (.bD t aa))(k:R .ag (aG G p (.bD t []))):Ek (.ref p) G R:=⟨t,aa,h,k⟩
def W5{ps:List (Int×Int)}(h:bB G p=aj (ps.map bW))(hl:ps.length<63)(k:∀qs:List (Int×Int),c7 qs->(∀q,q∈qs↔q∈ps)->∀r,G r=bh->R (.ref r) (aG G r (.lst (qs.map bW)))):zM (.ref p) G R:=⟨ps,h,hl,k⟩
end AB
namespace Law
open PySem PySem.Spec PyProof.Rows L2 L4
abbrev top(i:Nat):qw:=PySem.Challenge.pw_depot_k34_rows_told.main.body.getD i (.Pass ⟨0,0,0,0⟩)
@[simp]def zT:qw:=top 4
@[simp]def Qr:qw:=top 5
@[simp]def O1:qw:=top 1
@[simp]def Q8:qw:=top 2
@[simp]def Q7:qw:=top 6
@[simp]def zU:qw:=top 9
@[simp]def xG:qw:=top 14
@[simp]def zV:qw:=top 16
@[simp]def vA:qw:=top 8
@[simp]def Rx:qw:=top 10
@[simp]def Rv:qw:=top 11
@[simp]def zW:qw:=top 12
@[simp]def Ru:qw:=top 15
@[simp]def vB:qw:=top 17
@[simp]def xH:qw:=top 18
@[simp]def rE:qw:=top 20
@[simp]def tM:qw:=top 21
@[simp]def xJ:qw:=top 19
@[simp]def zX:qw:=top 22
@[simp]def xK:qw:=top 23
@[simp]def tO:qw:=top 24
@[simp]def rF:qw:=top 25
@[simp]def Q6:qw:=top 26
@[simp]def Rt:qw:=top 13
@[simp]def Rr:qw:=top 27
@[simp]def xM:qw:=top 28
@[simp]def Rq:qw:=top 29
@[simp]def Rp:qw:=top 30
@[simp]def Bx:qw:=top 31
set_option genInjectivity false in
structure aY where
 zY:bw
 mF:qj
 Qq:bw
 wO:qj
 O0:bw
 zZ:qj
 Q5:bw
 sO:qj
 Q4:bw
 sU:qj
 RP:bw
 mH:qj
 xO:bw
 jY:qj
 RO:bw
 mJ:qj
 vC:bw
 iT:qj
 Ro:bw
 oX:qj
 Rn:bw
 oY:qj
 RN:bw
 mK:qj
 Rm:bw
 oZ:qj
 vD:bw
 iU:qj
 xP:bw
 jZ:qj
 rG:bw
 fM:qj
 tQ:bw
 gJ:qj
 xQ:bw
 kJ:qj
 RM:bw
 mL:qj
 xR:bw
 kW:qj
 tR:bw
 gK:qj
 rH:bw
 fO:qj
 Q3:bw
 sV:qj
 Rl:bw
 p7:qj
 Rk:bw
 p8:qj
 xT:bw
 kY:qj
 Rj:bw
 pA:qj
 Ri:bw
 pB:qj
 vE:bw
 LS:qj
abbrev vG(K:Fg)(A:aY)(ex:aP->aW):bC :=
  (bA (fW aD))
abbrev nP(K:Fg)(A:aY)(ex:aP->aW):bC :=
  aH (bU (aL (aC f9 (aC bV (aB 0) (aK (.int 0))) (aK (.str "count")))) (bA (fW (aA (bI (aA (aC bV (aB 0) (aK (.int 2))) (aA (aC bV (aB 0) (aK (.int 1))) (aA (aC uP (aC bV (aB 0) (aK (.int 4))) (aC bV (aB 0) (aK (.int 3)))) aD)))) aD))) aX) (vG K A ex)
abbrev iV(K:Fg)(A:aY)(ex:aP->aW):bC :=
  aH (bU (aL (aC f9 (aC bV (aB 0) (aK (.int 0))) (aK (.str "move")))) (bA (fW (aA (bI (aA (aC bV (aB 0) (aK (.int 2))) (aA (aC bV (aB 0) (aK (.int 1))) (aA (we (aC bV (aB 0) (aK (.int 4)))) aD)))) (aA (bI (aA (aC bV (aB 0) (aK (.int 3))) (aA (aC bV (aB 0) (aK (.int 1))) (aA (aC bV (aB 0) (aK (.int 4))) aD)))) aD)))) aX) (nP K A ex)
abbrev fD(K:Fg)(A:aY)(ex:aP->aW):bC :=
  aH (bU (aL (aC f9 (aC bV (aB 0) (aK (.int 0))) (aK (.str "go")))) (bA (fW (aA (bI (aA (aC bV (aB 0) (aK (.int 2))) (aA (aC bV (aB 0) (aK (.int 1))) (aA (we (aC bV (aB 0) (aK (.int 3)))) aD)))) aD))) aX) (iV K A ex)
abbrev cG(K:Fg)(A:aY)(ex:aP->aW):bC :=
  aH (bU (aL (aC f9 (aC bV (aB 0) (aK (.int 0))) (aK (.str "come")))) (bA (fW (aA (bI (aA (aC bV (aB 0) (aK (.int 4))) (aA (aC bV (aB 0) (aK (.int 1))) (aA (aC bV (aB 0) (aK (.int 5))) aD)))) aD))) aX) (fD K A ex)
abbrev eG(K:Fg)(A:aY):qF:=xE 1 1 λEX=>cG K A (λ_=>EX)
abbrev abI:CB:=(.cons (.ifs (.cmp .Eq (.ix (.var 0) (.con (.int 0))) (.con (.str "come"))) (.cons (.ret (.lst (.cons (.tup (.cons (.ix (.var 0) (.con (.int 4))) (.cons (.ix (.var 0) (.con (.int 1))) (.cons (.ix (.var 0) (.con (.int 5))) .nil)))) .nil))) .nil) .nil) (.cons (.ifs (.cmp .Eq (.ix (.var 0) (.con (.int 0))) (.con (.str "go"))) (.cons (.ret (.lst (.cons (.tup (.cons (.ix (.var 0) (.con (.int 2))) (.cons (.ix (.var 0) (.con (.int 1))) (.cons (.neg (.ix (.var 0) (.con (.int 3)))) .nil)))) .nil))) .nil) .nil) (.cons (.ifs (.cmp .Eq (.ix (.var 0) (.con (.int 0))) (.con (.str "move"))) (.cons (.ret (.lst (.cons (.tup (.cons (.ix (.var 0) (.con (.int 2))) (.cons (.ix (.var 0) (.con (.int 1))) (.cons (.neg (.ix (.var 0) (.con (.int 4)))) .nil)))) (.cons (.tup (.cons (.ix (.var 0) (.con (.int 3))) (.cons (.ix (.var 0) (.con (.int 1))) (.cons (.ix (.var 0) (.con (.int 4))) .nil)))) .nil)))) .nil) .nil) (.cons (.ifs (.cmp .Eq (.ix (.var 0) (.con (.int 0))) (.con (.str "count"))) (.cons (.ret (.lst (.cons (.tup (.cons (.ix (.var 0) (.con (.int 2))) (.cons (.ix (.var 0) (.con (.int 1))) (.cons (.bin .Sub (.ix (.var 0) (.con (.int 4))) (.ix (.var 0) (.con (.int 3)))) .nil)))) .nil))) .nil) .nil) (.cons (.ret (.lst .nil)) .nil)))))
abbrev abJ(K:Fg)(A:aY):SI:=⟨["row"],[ak],[ak],[ao],[],[],ak⟩
abbrev RL(K:Fg)(A:aY)(ex:aP->aW):bC :=
  (Ea 2 (IP ao) (dD zC (aA (Oz 3 (Ax (aU (eG K A) ex (aA (aB 3) aD))) (aL (aC f9 (aB 1) (aB 4))) (aB 2)) aD)))
abbrev Rh(K:Fg)(A:aY)(ex:aP->aW):bC :=
  (bA (aB 2))
abbrev Rg(K:Fg)(A:aY)(ex:aP->aW):bC :=
  aH (nJ (oo (aB 0)) (qG 3) (RL K A ex)) (Rh K A ex)
abbrev JP(K:Fg)(A:aY)(ex:aP->aW):bC :=
  aH (bJ 2 (aK (.int 0))) (Rg K A ex)
abbrev jJ(K:Fg)(A:aY):qF:=xE 4 2 λEX=>JP K A (λ_=>EX)
abbrev Yt:CB:=(.cons (.set 2 (.con (.int 0))) (.cons (.i8 (.any (.var 0)) (.nm 3) (.cons (.aug 2 ao (.call 1 (.cons (.zr 3 [ao,ak,ao,ao] [ao,ao] (.any (.call 0 (.cons (.var 3) .nil))) (.some (.cmp .Eq (.var 1) (.var 4))) (.var 2)) .nil))) .nil)) (.cons (.ret (.var 2)) .nil)))
abbrev Ys(K:Fg)(A:aY):SI:=⟨["rows","lot","left","row"],[ak,ak,ak,ak],[ak,ao,ak,ak],[ao,ak,ao,ao],[("changes_of",.fn (eG K A) 1 ao),("sum",.bf .sum)],[ak,ak],ak⟩
abbrev nQ(K:Fg)(A:aY)(ex:aP->aW):bC :=
  (bU (aL (aC f9 (dD Ao (aA (aB 4) aD)) (aK (.int 0)))) (dF (u7 Ap (aB 0) (aA (aB 1) aD))) aX)
abbrev Q2(K:Fg)(A:aY)(ex:aP->aW):bC :=
  aH (bU (aL (aC f9 (aC aO (aB 4) (aB 2)) (aK (.int 0)))) (dF (u7 Ap (aB 4) (aA (aB 2) aD))) aX) (nQ K A ex)
abbrev yV(K:Fg)(A:aY)(ex:aP->aW):bC :=
  aH (uW (aB 4) (aB 2) (aC d7 (EU (aB 4) (aB 2) (aK (.int 0))) (aB 3))) (Q2 K A ex)
abbrev nR(K:Fg)(A:aY)(ex:aP->aW):bC :=
  aH (bJ 4 (u7 rh (aB 0) (aA (aB 1) (aA BW aD)))) (yV K A ex)
abbrev jK(K:Fg)(A:aY):qF:=xE 5 4 λEX=>nR K A (λ_=>EX)
abbrev W2:CB:=(.cons (.set 4 (.dm .C5 (.var 0) (.var 1) (.cons .uC .nil))) (.cons (.mM (.var 4) (.var 2) (.bin .Add (.yz (.var 4) (.var 2) (.con (.int 0))) (.var 3))) (.cons (.ifs (.cmp .Eq (.jB (.var 4) (.var 2)) (.con (.int 0))) (.cons (.expr (.dm .pop (.var 4) (.var 2) .nil)) .nil) .nil) (.cons (.ifs (.cmp .Eq (.call 0 (.cons (.var 4) .nil)) (.con (.int 0))) (.cons (.expr (.dm .pop (.var 0) (.var 1) .nil)) .nil) .nil) .nil))))
abbrev W0(K:Fg)(A:aY):SI:=⟨["stacks","spot","lot","more","held"],[ak,ak,ak,ak,ak],[ak,ak,ak,ak,ak],[ao,ao,ao,ao,ao],[("len",.bf .Bm)],[ak],ak⟩
abbrev xU(K:Fg)(A:aY)(ex:aP->aW):bC :=
  (uW (aB 1) (aB 2) (dD sE (aA (EN (aC aO (aB 0) (aB 2))) aD)))
abbrev RK(K:Fg)(A:aY)(ex:aP->aW):bC :=
  (bA (aB 1))
abbrev RJ(K:Fg)(A:aY)(ex:aP->aW):bC :=
  aH (nJ (oo (dD uZ (aA (aB 0) aD))) (qG 2) (xU K A ex)) (RK K A ex)
abbrev yW(K:Fg)(A:aY)(ex:aP->aW):bC :=
  aH (bJ 1 rT) (RJ K A ex)
abbrev pC(K:Fg)(A:aY):qF:=xE 3 1 λEX=>yW K A (λ_=>EX)
abbrev Zs:CB:=(.cons (.set 1 .qr) (.cons (.i8 (.any (.call 0 (.cons (.var 0) .nil))) (.nm 2) (.cons (.mM (.var 1) (.var 2) (.call 2 (.cons (.sortI 1 (.jB (.var 0) (.var 2))) .nil))) .nil)) (.cons (.ret (.var 1)) .nil)))
abbrev Zr(K:Fg)(A:aY):SI:=⟨["stacks","told","spot"],[ak,ak,ak],[ak,ak,ak],[ao,ao,ao],[("sorted",.bf .BB),("sorted",.bf .v5),("dict",.bf .BA)],[ak,ak,ak],ak⟩
abbrev vH(K:Fg)(A:aY)(ex:aP->aW):bC :=
  (dF (aU (jK K A) ex (aA (aB 1) (aA (aB 3) (aA (aB 4) (aA (aB 5) aD))))))
abbrev xV(K:Fg)(A:aY)(ex:aP->aW):bC :=
  (nJ (oo (aU (eG K A) ex (aA (aB 2) aD))) (BG [3,4,5]) (vH K A ex))
abbrev RI(K:Fg)(A:aY)(ex:aP->aW):bC :=
  (bA (aU (pC K A) ex (aA (aB 1) aD)))
abbrev RH(K:Fg)(A:aY)(ex:aP->aW):bC :=
  aH (nJ (oo (aB 0)) (qG 2) (xV K A ex)) (RI K A ex)
abbrev yX(K:Fg)(A:aY)(ex:aP->aW):bC :=
  aH (bJ 1 rT) (RH K A ex)
abbrev fG(K:Fg)(A:aY):qF:=xE 6 1 λEX=>yX K A (λ_=>EX)
abbrev Zq:CB:=(.cons (.set 1 .qr) (.cons (.i8 (.any (.var 0)) (.nm 2) (.cons (.i8 (.any (.call 0 (.cons (.var 2) .nil))) (.tup [3,4,5]) (.cons (.expr (.call 1 (.cons (.var 1) (.cons (.var 3) (.cons (.var 4) (.cons (.var 5) .nil)))))) .nil)) .nil)) (.cons (.ret (.call 2 (.cons (.var 1) .nil))) .nil)))
abbrev Zp(K:Fg)(A:aY):SI:=⟨["rows","stacks","row","spot","lot","more"],[ak,ak,ak,ak,ak,ak],[ak,ak,ak,ak,ak,ak],[ao,ao,ao,ao,ao,ao],[("changes_of",.fn (eG K A) 1 ao),("change",.fn (jK K A) 4 ao),("in_order",.fn (pC K A) 1 ao)],[ak,ak,ak],ak⟩
abbrev sW(K:Fg)(A:aY)(ex:aP->aW):bC :=
  (bA (nD (dD (bN K) (aA (aB 0) (aA (aK (.ty "int")) aD))) (Ey (dD (bN K) (aA (aB 0) (aA (aK (.ty "bool")) aD))))))
abbrev bT(K:Fg)(A:aY):qF:=xE 1 1 λEX=>sW K A (λ_=>EX)
abbrev abK:CB:=(.cons (.ret (.mP (.cons (.call 1 (.cons (.var 0) (.cons (.mw 0) .nil))) (.cons (.Bl (.call 1 (.cons (.var 0) (.cons (.mw 2) .nil)))) .nil)))) .nil)
abbrev abL(K:Fg)(A:aY):SI:=⟨["_law_found"],[ak],[ak],[ao],[("int",.bt "int"),("isinstance",.bf .qf),("bool",.bt "bool")],[ak,ak,ak],ak⟩
abbrev qJ(K:Fg)(A:aY)(ex:aP->aW):bC :=
  (bA (dD zC (aA (rf 0 (nH (fK (aC aO (aB 0) (aK (.str "lie")))) (aL (aC f9 (aC bV (aB 0) (aK (.int 1))) (aB 2))) (aC xB (aC aO (aB 1) (aK (.str "lie"))) (aB 0)))) aD)))
abbrev bR(K:Fg)(A:aY):qF:=xE 2 2 λEX=>qJ K A (λ_=>EX)
abbrev a84:CB:=(.cons (.ret (.call 0 (.cons (.p6 0 (.comp [ak,ak] [ao] (.xC (.jB (.var 0) (.con (.str "lie")))) (.some (.cmp .Eq (.ix (.var 0) (.con (.int 1))) (.var 2))) (.qa (.jB (.var 1) (.con (.str "lie"))) (.var 0)))) .nil))) .nil)
abbrev a85(K:Fg)(A:aY):SI:=⟨["_law_state_here","_law_spot_here"],[ak,ak],[ao,ao],[ak,ak],[("sum",.bf .sum)],[ak],ak⟩
abbrev nT(K:Fg)(A:aY)(ex:aP->aW):bC :=
  (uW (aB 4) (aB 5) (aC xB (aC aO (aB 0) (aK (.str "lie"))) (bI (aA (aB 5) (aA (aB 2) aD)))))
abbrev pD(K:Fg)(A:aY)(ex:aP->aW):bC :=
  (uW (aB 1) (aB 2) (aB 4))
abbrev pF(K:Fg)(A:aY)(ex:aP->aW):bC :=
  aH (nJ (oo (aB 3)) (qG 5) (nT K A ex)) (pD K A ex)
abbrev pG(K:Fg)(A:aY)(ex:aP->aW):bC :=
  aH (bJ 4 BW) (pF K A ex)
abbrev lK(K:Fg)(A:aY)(ex:aP->aW):bC :=
  aH (bJ 3 (dD zN (aA (rf 0 (nH (fK (aC aO (aB 0) (aK (.str "lie")))) (aL (aC f9 (aC bV (aB 0) (aK (.int 1))) (aB 3))) (aC bV (aB 0) (aK (.int 0))))) aD))) (pG K A ex)
abbrev vI(K:Fg)(A:aY)(ex:aP->aW):bC :=
  (bA (aB 1))
abbrev vJ(K:Fg)(A:aY)(ex:aP->aW):bC :=
  aH (nJ (oo (EL (rf 0 (nH (fK (aC aO (aB 0) (aK (.str "lie")))) uT (aC bV (aB 0) (aK (.int 1))))))) (qG 2) (lK K A ex)) (vI K A ex)
abbrev sX(K:Fg)(A:aY)(ex:aP->aW):bC :=
  aH (bJ 1 rT) (vJ K A ex)
abbrev kZ(K:Fg)(A:aY):qF:=xE 6 1 λEX=>sX K A (λ_=>EX)
abbrev abM:CB:=(.cons (.set 1 .qr) (.cons (.i8 (.any (.zo 0 1 (.p6 0 (.comp [ao,ao,ao,ao,ao,ao] [ao,ao] (.xC (.jB (.var 0) (.con (.str "lie")))) .none (.ix (.var 0) (.con (.int 1))))))) (.nm 2) (.cons (.set 3 (.call 0 (.cons (.p6 0 (.comp [ao,ao,ak,ao,ao,ao] [ao,ao] (.xC (.jB (.var 0) (.con (.str "lie")))) (.some (.cmp .Eq (.ix (.var 0) (.con (.int 1))) (.var 3))) (.ix (.var 0) (.con (.int 0))))) .nil))) (.cons (.set 4 .uC) (.cons (.i8 (.any (.var 3)) (.nm 5) (.cons (.mM (.var 4) (.var 5) (.qa (.jB (.var 0) (.con (.str "lie"))) (.tup (.cons (.var 5) (.cons (.var 2) .nil))))) .nil)) (.cons (.mM (.var 1) (.var 2) (.var 4)) .nil))))) (.cons (.ret (.var 1)) .nil)))
abbrev abN(K:Fg)(A:aY):SI:=⟨["_law_state_here","_law_found","_law_spot_here","_law_lots","_law_there","_law_lot"],[ak,ak,ak,ak,ak,ak],[ak,ak,ao,ak,ak,ak],[ao,ao,ak,ao,ao,ao],[("sorted",.bf .v5),("set",.bt "set")],[ak,ak],ak⟩
abbrev rJ(K:Fg)(A:aY)(ex:aP->aW):bC :=
  (bA (aC cZ (aC d7 (aC zF (aB 2) (aB 2)) (aC zF (aK (.int 48271)) (aB 1))) (aK (.int 2147483629))))
abbrev rK(K:Fg)(A:aY)(ex:aP->aW):bC :=
  aH (bJ 2 (aC cZ (aC d7 (aC zF (aC bV (aB 0) (aC cZ (aB 1) (dD iK (aA (aB 0) aD)))) (aK (.int 48271))) (aC zF (aB 1) (aK (.int 104729)))) (aK (.int 2147483647)))) (rJ K A ex)
abbrev rM(K:Fg)(A:aY)(ex:aP->aW):bC :=
  aH (bU (aL (aC f9 (dD iK (aA (aB 0) aD)) (aK (.int 0)))) (bA (aK (.int 0))) aX) (rK K A ex)
abbrev nU(K:Fg)(A:aY)(ex:aP->aW):bC :=
  aH (bU (aL (aC ir (aB 1) (dD iK (aA (aB 0) aD)))) (bA (aC bV (aB 0) (aB 1))) aX) (rM K A ex)
abbrev cL(K:Fg)(A:aY):qF:=xE 3 2 λEX=>nU K A (λ_=>EX)
abbrev a6R:CB:=(.cons (.ifs (.cmp .Lt (.var 1) (.call 0 (.cons (.var 0) .nil))) (.cons (.ret (.ix (.var 0) (.var 1))) .nil) .nil) (.cons (.ifs (.cmp .Eq (.call 0 (.cons (.var 0) .nil)) (.con (.int 0))) (.cons (.ret (.con (.int 0))) .nil) .nil) (.cons (.set 2 (.bin .Mod (.bin .Add (.bin .Mult (.ix (.var 0) (.bin .Mod (.var 1) (.call 0 (.cons (.var 0) .nil)))) (.con (.int 48271))) (.bin .Mult (.var 1) (.con (.int 104729)))) (.con (.int 2147483647)))) (.cons (.ret (.bin .Mod (.bin .Add (.bin .Mult (.var 2) (.var 2)) (.bin .Mult (.con (.int 48271)) (.var 1))) (.con (.int 2147483629)))) .nil))))
abbrev a6S(K:Fg)(A:aY):SI:=⟨["_law_script","_law_k","_law_mixed"],[ak,ak,ak],[ak,ak,ak],[ao,ao,ao],[("len",.bf .len)],[ak],ak⟩
abbrev xW(K:Fg)(A:aY)(ex:aP->aW):bC :=
  (bA (bI (aA (aC d7 (aK (.int 1)) (aC cZ (aB 1) (aK (.int 5)))) (aA (aC d7 (aK (.int 1)) (aC cZ (aC cW (aB 1) (aK (.int 5))) (aK (.int 6)))) (aA (aC d7 (aK (.int 1)) (aC cZ (aC cW (aB 1) (aK (.int 30))) (aK (.int 20)))) aD)))))
abbrev xX(K:Fg)(A:aY)(ex:aP->aW):bC :=
  aH (bU (aL (aC f9 (aC cZ (aB 1) (aK (.int 8))) (aK (.int 5)))) (bA (bI (aA (aC d7 (aK (.int 2)) (aC cZ (aC cW (aB 1) (aK (.int 8))) (aK (.int 10)))) (aA (aC d7 (aK (.int 9)) (aC cZ (aC cW (aB 1) (aK (.int 80))) (aK (.int 4)))) (aA (aC d7 (aK (.int 1)) (aC cZ (aC cW (aB 1) (aK (.int 320))) (aK (.int 20)))) aD))))) aX) (xW K A ex)
abbrev vK(K:Fg)(A:aY)(ex:aP->aW):bC :=
  aH (bJ 1 (aU (cL K A) ex (aA (aB 0) (aA (aK (.int 0)) aD)))) (xX K A ex)
abbrev mQ(K:Fg)(A:aY):qF:=xE 2 1 λEX=>vK K A (λ_=>EX)
abbrev T':CB:=(.cons (.set 1 (.call 0 (.cons (.var 0) (.cons (.con (.int 0)) .nil)))) (.cons (.ifs (.cmp .Eq (.bin .Mod (.var 1) (.con (.int 8))) (.con (.int 5))) (.cons (.ret (.tup (.cons (.bin .Add (.con (.int 2)) (.bin .Mod (.bin .FloorDiv (.var 1) (.con (.int 8))) (.con (.int 10)))) (.cons (.bin .Add (.con (.int 9)) (.bin .Mod (.bin .FloorDiv (.var 1) (.con (.int 80))) (.con (.int 4)))) (.cons (.bin .Add (.con (.int 1)) (.bin .Mod (.bin .FloorDiv (.var 1) (.con (.int 320))) (.con (.int 20)))) .nil))))) .nil) .nil) (.cons (.ret (.tup (.cons (.bin .Add (.con (.int 1)) (.bin .Mod (.var 1) (.con (.int 5)))) (.cons (.bin .Add (.con (.int 1)) (.bin .Mod (.bin .FloorDiv (.var 1) (.con (.int 5))) (.con (.int 6)))) (.cons (.bin .Add (.con (.int 1)) (.bin .Mod (.bin .FloorDiv (.var 1) (.con (.int 30))) (.con (.int 20)))) .nil))))) .nil)))
abbrev S'(K:Fg)(A:aY):SI:=⟨["_law_script","_law_cell"],[ak,ak],[ak,ak],[ao,ao],[("_law_cell_at",.fn (cL K A) 2 ao)],[ak],ak⟩
abbrev vL(K:Fg)(A:aY)(ex:aP->aW):bC :=
  (bA (aC bV (fW (aA (aK (.int 1000)) (aA (aK (.int 12)) (aA (aK (.int 30)) (aA (aK (.int 7)) (aA (aC zI (aK (.int 10)) (aK (.int 6))) (aA (aK (.int 1)) aD))))))) (aC cZ (aC cW (aU (cL K A) ex (aA (aB 0) (aA (aK (.int 0)) aD))) (aK (.int 600))) (aK (.int 6)))))
abbrev mR(K:Fg)(A:aY):qF:=xE 1 1 λEX=>vL K A (λ_=>EX)
abbrev O':CB:=(.cons (.ret (.ix (.lst (.cons (.con (.int 1000)) (.cons (.con (.int 12)) (.cons (.con (.int 30)) (.cons (.con (.int 7)) (.cons (.bin .Pow (.con (.int 10)) (.con (.int 6))) (.cons (.con (.int 1)) .nil))))))) (.bin .Mod (.bin .FloorDiv (.call 0 (.cons (.var 0) (.cons (.con (.int 0)) .nil))) (.con (.int 600))) (.con (.int 6))))) .nil)
abbrev L'(K:Fg)(A:aY):SI:=⟨["_law_script"],[ak],[ak],[ao],[("_law_cell_at",.fn (cL K A) 2 ao)],[ak],ak⟩
abbrev sY(K:Fg)(A:aY)(ex:aP->aW):bC :=
  (bA (Ep ["plan","room","day","lots","lie","rows"] (aA (aB 0) (aA (aB 1) (aA (aK (.int 0)) (aA (fW aD) (aA EK (aA (fW aD) aD))))))))
abbrev lA(K:Fg)(A:aY):qF:=xE 2 2 λEX=>sY K A (λ_=>EX)
abbrev abO:CB:=(.cons (.ret (.Bz ["plan","room","day","lots","lie","rows"] (.cons (.var 0) (.cons (.var 1) (.cons (.con (.int 0)) (.cons (.lst .nil) (.cons .Bk (.cons (.lst .nil) .nil)))))))) .nil)
abbrev abP(K:Fg)(A:aY):SI:=⟨["_law_plan_here","_law_room_here"],[ak,ak],[ak,ak],[ao,ao],[],[],ak⟩
abbrev xY(K:Fg)(A:aY)(ex:aP->aW):bC :=
  (bU (aL (aC f9 (aC xB (aC aO (aB 0) (aK (.str "lie"))) (aB 4)) (aK (.int 0)))) (dF (El (aC aO (aB 0) (aK (.str "lie"))) (aB 4))) aX)
abbrev xZ(K:Fg)(A:aY)(ex:aP->aW):bC :=
  aH (Em (aC aO (aB 0) (aK (.str "lie"))) (aB 4) (aC d7 (uY (aC aO (aB 0) (aK (.str "lie"))) (aB 4) (aK (.int 0))) (aB 3))) (xY K A ex)
abbrev vM(K:Fg)(A:aY)(ex:aP->aW):bC :=
  aH (bJ 4 (bI (aA (aB 1) (aA (aB 2) aD)))) (xZ K A ex)
abbrev cH(K:Fg)(A:aY):qF:=xE 5 4 λEX=>vM K A (λ_=>EX)
abbrev K':CB:=(.cons (.set 4 (.tup (.cons (.var 1) (.cons (.var 2) .nil)))) (.cons (.setM (.jB (.var 0) (.con (.str "lie"))) (.var 4) (.bin .Add (.l9 (.jB (.var 0) (.con (.str "lie"))) (.var 4) (.con (.int 0))) (.var 3))) (.cons (.ifs (.cmp .Eq (.qa (.jB (.var 0) (.con (.str "lie"))) (.var 4)) (.con (.int 0))) (.cons (.expr (.yY (.jB (.var 0) (.con (.str "lie"))) (.var 4))) .nil) .nil) .nil)))
abbrev J'(K:Fg)(A:aY):SI:=⟨["_law_state_here","_law_lot","_law_spot_here","_law_more","_law_key"],[ak,ak,ak,ak,ak],[ak,ak,ak,ak,ak],[ao,ao,ao,ao,ao],[],[],ak⟩
abbrev rN(K:Fg)(A:aY)(ex:aP->aW):bC :=
  (bA (dD wd (aA (nH (Ax (aB 0)) uT (aC DR (aB 0) (aK (.str "abcdefghijklmnopqrstuvwxyz")))) aD)))
abbrev nW(K:Fg)(A:aY)(ex:aP->aW):bC :=
  aH (bU (wW (jE (aL (dD (bN K) (aA (aB 0) (aA (aK (.ty "str")) aD))))) (wW (aL (aC ir (dD iK (aA (aB 0) aD)) (aK (.int 1)))) (aL (aC nc (dD iK (aA (aB 0) aD)) (aK (.int 12)))))) (bA (aK (.bl ao))) aX) (rN K A ex)
abbrev gM(K:Fg)(A:aY):qF:=xE 1 1 λEX=>nW K A (λ_=>EX)
abbrev a6T:CB:=(.cons (.ifs (.or (.cons (.not (.val (.call 1 (.cons (.var 0) (.cons (.mw 0) .nil))))) (.cons (.cmp .Lt (.call 2 (.cons (.var 0) .nil)) (.con (.int 1))) (.cons (.cmp .Gt (.call 2 (.cons (.var 0) .nil)) (.con (.int 12))) .nil)))) (.cons (.ret (.con (.bl ao))) .nil) .nil) (.cons (.ret (.call 3 (.cons (.comp [ao] [ao,ao,ao,ao] (.any (.var 0)) .none (.cmp .In (.var 0) (.con (.str "abcdefghijklmnopqrstuvwxyz")))) .nil))) .nil))
abbrev a6U(K:Fg)(A:aY):SI:=⟨["_law_thing"],[ak],[ak],[ao],[("str",.bt "str"),("isinstance",.bf .qf),("len",.bf .len),("all",.bf .all)],[ak,ak,ak,ak],ak⟩
abbrev tU(K:Fg)(A:aY)(ex:aP->aW):bC :=
  (bA (nD (gH ja ir (aK (.int 0)) (aC bV (aB 1) (aK (.int 0))) (aC bV (aB 0) (aK (.int 0)))) (gH ja ja (aK (.int 1)) (aC bV (aB 1) (aK (.int 1))) (aC bV (aB 0) (aK (.int 1))))))
abbrev qK(K:Fg)(A:aY)(ex:aP->aW):bC :=
  aH (bU (wW (jE (aL (dD (bN K) (aA (aB 1) (aA (aK (.ty "tuple")) aD))))) (wW (aL (aC qU (dD iK (aA (aB 1) aD)) (aK (.int 2)))) (wW (jE (aL (aU (bT K A) ex (aA (aC bV (aB 1) (aK (.int 0))) aD)))) (jE (aL (aU (bT K A) ex (aA (aC bV (aB 1) (aK (.int 1))) aD))))))) (bA (aK (.bl ao))) aX) (tU K A ex)
abbrev dX(K:Fg)(A:aY):qF:=xE 2 2 λEX=>qK K A (λ_=>EX)
abbrev a86:CB:=(.cons (.ifs (.or (.cons (.not (.val (.call 1 (.cons (.var 1) (.cons (.mw 0) .nil))))) (.cons (.cmp .NotEq (.call 2 (.cons (.var 1) .nil)) (.con (.int 2))) (.cons (.not (.val (.call 3 (.cons (.ix (.var 1) (.con (.int 0))) .nil)))) (.cons (.not (.val (.call 3 (.cons (.ix (.var 1) (.con (.int 1))) .nil)))) .nil))))) (.cons (.ret (.con (.bl ao))) .nil) .nil) (.cons (.ret (.mP (.cons (.chain .LtE .Lt (.con (.int 0)) (.ix (.var 1) (.con (.int 0))) (.ix (.var 0) (.con (.int 0)))) (.cons (.chain .LtE .LtE (.con (.int 1)) (.ix (.var 1) (.con (.int 1))) (.ix (.var 0) (.con (.int 1)))) .nil)))) .nil))
abbrev a87(K:Fg)(A:aY):SI:=⟨["_law_plan_here","_law_thing"],[ak,ak],[ak,ak],[ao,ao],[("tuple",.bt "tuple"),("isinstance",.bf .qf),("len",.bf .len),("_law_whole",.fn (bT K A) 1 ao)],[ak,ak,ak,ak],ak⟩
abbrev jL(K:Fg)(A:aY)(ex:aP->aW):bC :=
  (bA (nD (aU (bT K A) ex (aA (aB 0) aD)) (gH ja ja (aB 1) (aB 0) (aC zI (aK (.int 10)) (aK (.int 6))))))
abbrev cU(K:Fg)(A:aY):qF:=xE 2 2 λEX=>jL K A (λ_=>EX)
abbrev a1K:CB:=(.cons (.ret (.mP (.cons (.call 0 (.cons (.var 0) .nil)) (.cons (.chain .LtE .LtE (.var 1) (.var 0) (.bin .Pow (.con (.int 10)) (.con (.int 6)))) .nil)))) .nil)
abbrev a1L(K:Fg)(A:aY):SI:=⟨["_law_thing","_law_least"],[ak,ak],[ak,ak],[ao,ao],[("_law_whole",.fn (bT K A) 1 ao)],[ak],ak⟩
abbrev nY(K:Fg)(A:aY)(ex:aP->aW):bC :=
  (bA (bI (aA (aK (.str "told")) (aA (aB 5) aD))))
abbrev nZ(K:Fg)(A:aY)(ex:aP->aW):bC :=
  aH (dF (j3 "list" fB (aC aO (aB 0) (aK (.str "rows"))) (aA (aB 6) aD))) (nY K A ex)
abbrev o7(K:Fg)(A:aY)(ex:aP->aW):bC :=
  aH (bJ 6 (aC d7 (aB 6) (bI (aA (aB 2) (aA (aB 3) (aA (aB 4) aD)))))) (nZ K A ex)
abbrev o8(K:Fg)(A:aY)(ex:aP->aW):bC :=
  aH (bJ 6 (bI (aA (aK (.str "come")) (aA (aB 5) (aA (aB 1) aD))))) (o7 K A ex)
abbrev pH(K:Fg)(A:aY)(ex:aP->aW):bC :=
  aH (dF (aU (cH K A) ex (aA (aB 0) (aA (aB 5) (aA (aB 3) (aA (aB 4) aD)))))) (o8 K A ex)
abbrev pI(K:Fg)(A:aY)(ex:aP->aW):bC :=
  aH (dF (j3 "list" fB (aC aO (aB 0) (aK (.str "lots"))) (aA (bI (aA (aB 1) (aA (aB 2) (aA (aC aO (aB 0) (aK (.str "day"))) aD)))) aD))) (pH K A ex)
abbrev pJ(K:Fg)(A:aY)(ex:aP->aW):bC :=
  aH (bJ 5 (dD iK (aA (aC aO (aB 0) (aK (.str "lots"))) aD))) (pI K A ex)
abbrev pL(K:Fg)(A:aY)(ex:aP->aW):bC :=
  aH (bU (aL (aC nc (aC d7 (aU (bR K A) ex (aA (aB 0) (aA (aB 3) aD))) (aB 4)) (aC aO (aB 0) (aK (.str "room"))))) (bA (bI (aA (aK (.str "no")) (aA (aK (.str "room")) aD)))) aX) (pJ K A ex)
abbrev pN(K:Fg)(A:aY)(ex:aP->aW):bC :=
  aH (bU (aL (aC ir (aB 2) (aC aO (aB 0) (aK (.str "day"))))) (bA (bI (aA (aK (.str "no")) (aA (aK (.str "day")) aD)))) aX) (pL K A ex)
abbrev pO(K:Fg)(A:aY)(ex:aP->aW):bC :=
  aH (bU (jE (aL (aU (cU K A) ex (aA (aB 4) (aA (aK (.int 1)) aD))))) (bA (bI (aA (aK (.str "no")) (aA (aK (.str "amount")) aD)))) aX) (pN K A ex)
abbrev iW(K:Fg)(A:aY)(ex:aP->aW):bC :=
  aH (bU (jE (aL (aU (dX K A) ex (aA (aC aO (aB 0) (aK (.str "plan"))) (aA (aB 3) aD))))) (bA (bI (aA (aK (.str "no")) (aA (aK (.str "bin")) aD)))) aX) (pO K A ex)
abbrev pP(K:Fg)(A:aY)(ex:aP->aW):bC :=
  aH (bU (wW (jE (aL (aU (bT K A) ex (aA (aB 2) aD)))) (jE (aL (gH ja ja (aK (.int 0)) (aB 2) (aK (.int 9999)))))) (bA (bI (aA (aK (.str "no")) (aA (aK (.str "day")) aD)))) aX) (iW K A ex)
abbrev lM(K:Fg)(A:aY)(ex:aP->aW):bC :=
  aH (bU (jE (aL (aU (gM K A) ex (aA (aB 1) aD)))) (bA (bI (aA (aK (.str "no")) (aA (aK (.str "ware")) aD)))) aX) (pP K A ex)
abbrev fP(K:Fg)(A:aY):qF:=xE 7 5 λEX=>lM K A (λ_=>EX)
abbrev a3L:CB:=(.cons (.ifs (.not (.val (.call 0 (.cons (.var 1) .nil)))) (.cons (.ret (.tup (.cons (.con (.str "no")) (.cons (.con (.str "ware")) .nil)))) .nil) .nil) (.cons (.ifs (.or (.cons (.not (.val (.call 1 (.cons (.var 2) .nil)))) (.cons (.not (.chain .LtE .LtE (.con (.int 0)) (.var 2) (.con (.int 9999)))) .nil))) (.cons (.ret (.tup (.cons (.con (.str "no")) (.cons (.con (.str "day")) .nil)))) .nil) .nil) (.cons (.ifs (.not (.val (.call 2 (.cons (.jB (.var 0) (.con (.str "plan"))) (.cons (.var 3) .nil))))) (.cons (.ret (.tup (.cons (.con (.str "no")) (.cons (.con (.str "bin")) .nil)))) .nil) .nil) (.cons (.ifs (.not (.val (.call 3 (.cons (.var 4) (.cons (.con (.int 1)) .nil))))) (.cons (.ret (.tup (.cons (.con (.str "no")) (.cons (.con (.str "amount")) .nil)))) .nil) .nil) (.cons (.ifs (.cmp .Lt (.var 2) (.jB (.var 0) (.con (.str "day")))) (.cons (.ret (.tup (.cons (.con (.str "no")) (.cons (.con (.str "day")) .nil)))) .nil) .nil) (.cons (.ifs (.cmp .Gt (.bin .Add (.call 4 (.cons (.var 0) (.cons (.var 3) .nil))) (.var 4)) (.jB (.var 0) (.con (.str "room")))) (.cons (.ret (.tup (.cons (.con (.str "no")) (.cons (.con (.str "room")) .nil)))) .nil) .nil) (.cons (.set 5 (.call 5 (.cons (.jB (.var 0) (.con (.str "lots"))) .nil))) (.cons (.expr (.bz .append (.jB (.var 0) (.con (.str "lots"))) (.cons (.tup (.cons (.var 1) (.cons (.var 2) (.cons (.jB (.var 0) (.con (.str "day"))) .nil)))) .nil))) (.cons (.expr (.call 6 (.cons (.var 0) (.cons (.var 5) (.cons (.var 3) (.cons (.var 4) .nil)))))) (.cons (.set 6 (.tup (.cons (.con (.str "come")) (.cons (.var 5) (.cons (.var 1) .nil))))) (.cons (.set 6 (.bin .Add (.var 6) (.tup (.cons (.var 2) (.cons (.var 3) (.cons (.var 4) .nil)))))) (.cons (.expr (.bz .append (.jB (.var 0) (.con (.str "rows"))) (.cons (.var 6) .nil))) (.cons (.ret (.tup (.cons (.con (.str "told")) (.cons (.var 5) .nil)))) .nil)))))))))))))
abbrev a3M(K:Fg)(A:aY):SI:=⟨["_law_state_here","_law_ware_here","_law_due_here","_law_spot_here","_law_amount_here","_law_lot","_law_row"],[ak,ak,ak,ak,ak,ak,ak],[ak,ak,ak,ak,ak,ak,ak],[ao,ao,ao,ao,ao,ao,ao],[("_law_is_ware",.fn (gM K A) 1 ao),("_law_whole",.fn (bT K A) 1 ao),("_law_is_bin",.fn (dX K A) 2 ao),("_law_is_amount",.fn (cU K A) 2 ao),("_law_filled",.fn (bR K A) 2 ao),("len",.bf .len),("_law_laid",.fn (cH K A) 4 ao)],[ak,ak,ak,ak,ak,ak,ak],ak⟩
abbrev qL(K:Fg)(A:aY)(ex:aP->aW):bC :=
  (bA (nD (aU (bT K A) ex (aA (aB 1) aD)) (gH ja ir (aK (.int 0)) (aB 1) (dD iK (aA (aC aO (aB 0) (aK (.str "lots"))) aD)))))
abbrev iY(K:Fg)(A:aY):qF:=xE 2 2 λEX=>qL K A (λ_=>EX)
abbrev a88:CB:=(.cons (.ret (.mP (.cons (.call 0 (.cons (.var 1) .nil)) (.cons (.chain .LtE .Lt (.con (.int 0)) (.var 1) (.call 1 (.cons (.jB (.var 0) (.con (.str "lots"))) .nil))) .nil)))) .nil)
abbrev a89(K:Fg)(A:aY):SI:=⟨["_law_state_here","_law_thing"],[ak,ak],[ak,ak],[ao,ao],[("_law_whole",.fn (bT K A) 1 ao),("len",.bf .len)],[ak,ak],ak⟩
abbrev vN(K:Fg)(A:aY)(ex:aP->aW):bC :=
  (bA (aK (.str "")))
abbrev vO(K:Fg)(A:aY)(ex:aP->aW):bC :=
  aH (bU (jE (aL (aU (cU K A) ex (aA (aB 3) (aA (aB 4) aD))))) (bA (aK (.str "amount"))) aX) (vN K A ex)
abbrev vP(K:Fg)(A:aY)(ex:aP->aW):bC :=
  aH (bU (jE (aL (dD wd (aA (nH (Ax (aB 2)) uT (aU (dX K A) sF (aA (aC aO (aB 1) (aK (.str "plan"))) (aA (aB 0) aD)))) aD)))) (bA (aK (.str "bin"))) aX) (vO K A ex)
abbrev sZ(K:Fg)(A:aY)(ex:aP->aW):bC :=
  aH (bU (jE (aL (aU (iY K A) ex (aA (aB 0) (aA (aB 1) aD))))) (bA (aK (.str "lot"))) aX) (vP K A ex)
abbrev d8(K:Fg)(A:aY):qF:=xE 5 5 λEX=>sZ K A (λ_=>EX)
abbrev abQ:CB:=(.cons (.ifs (.not (.val (.call 0 (.cons (.var 0) (.cons (.var 1) .nil))))) (.cons (.ret (.con (.str "lot"))) .nil) .nil) (.cons (.ifs (.not (.val (.call 2 (.cons (.comp [ak,ao,ao,ao,ao] [ao,ak,ao,ao] (.any (.var 2)) .none (.call 1 (.cons (.jB (.var 1) (.con (.str "plan"))) (.cons (.var 0) .nil)))) .nil)))) (.cons (.ret (.con (.str "bin"))) .nil) .nil) (.cons (.ifs (.not (.val (.call 3 (.cons (.var 3) (.cons (.var 4) .nil))))) (.cons (.ret (.con (.str "amount"))) .nil) .nil) (.cons (.ret (.con (.str ""))) .nil))))
abbrev abR(K:Fg)(A:aY):SI:=⟨["_law_state_here","_law_lot","_law_spots","_law_amount_here","_law_least"],[ak,ak,ak,ak,ak],[ao,ak,ak,ak,ak],[ak,ao,ao,ao,ao],[("_law_is_lot",.fn (iY K A) 2 ao),("_law_is_bin",.fn (dX K A) 2 ao),("all",.bf .all),("_law_is_amount",.fn (cU K A) 2 ao)],[ak,ao,ak,ak],ak⟩
abbrev tV(K:Fg)(A:aY)(ex:aP->aW):bC :=
  (bA (bI (aA (aK (.str "told")) (aA (aK .ag) aD))))
abbrev tW(K:Fg)(A:aY)(ex:aP->aW):bC :=
  aH (dF (j3 "list" fB (aC aO (aB 0) (aK (.str "rows"))) (aA (bI (aA (aK (.str "go")) (aA (aB 1) (aA (aB 2) (aA (aB 3) aD))))) aD))) (tV K A ex)
abbrev lO(K:Fg)(A:aY)(ex:aP->aW):bC :=
  aH (dF (aU (cH K A) ex (aA (aB 0) (aA (aB 1) (aA (aB 2) (aA (we (aB 3)) aD)))))) (tW K A ex)
abbrev lQ(K:Fg)(A:aY)(ex:aP->aW):bC :=
  aH (bU (aL (aC qU (aB 4) (aK (.str "")))) (bA (bI (aA (aK (.str "no")) (aA (aB 4) aD)))) aX) (lO K A ex)
abbrev tX(K:Fg)(A:aY)(ex:aP->aW):bC :=
  aH (bU (wZ (aL (aC f9 (aB 4) (aK (.str "")))) (aL (aC ir (uY (aC aO (aB 0) (aK (.str "lie"))) (bI (aA (aB 1) (aA (aB 2) aD))) (aK (.int 0))) (aB 3)))) (bJ 4 (aK (.str "little"))) aX) (lQ K A ex)
abbrev qM(K:Fg)(A:aY)(ex:aP->aW):bC :=
  aH (bJ 4 (aU (d8 K A) ex (aA (aB 0) (aA (aB 1) (aA (fW (aA (aB 2) aD)) (aA (aB 3) (aA (aK (.int 1)) aD))))))) (tX K A ex)
abbrev iZ(K:Fg)(A:aY):qF:=xE 5 4 λEX=>qM K A (λ_=>EX)
abbrev a8A:CB:=(.cons (.set 4 (.call 0 (.cons (.var 0) (.cons (.var 1) (.cons (.lst (.cons (.var 2) .nil)) (.cons (.var 3) (.cons (.con (.int 1)) .nil))))))) (.cons (.ifs (.and (.cons (.cmp .Eq (.var 4) (.con (.str ""))) (.cons (.cmp .Lt (.l9 (.jB (.var 0) (.con (.str "lie"))) (.tup (.cons (.var 1) (.cons (.var 2) .nil))) (.con (.int 0))) (.var 3)) .nil))) (.cons (.set 4 (.con (.str "little"))) .nil) .nil) (.cons (.ifs (.cmp .NotEq (.var 4) (.con (.str ""))) (.cons (.ret (.tup (.cons (.con (.str "no")) (.cons (.var 4) .nil)))) .nil) .nil) (.cons (.expr (.call 1 (.cons (.var 0) (.cons (.var 1) (.cons (.var 2) (.cons (.neg (.var 3)) .nil)))))) (.cons (.expr (.bz .append (.jB (.var 0) (.con (.str "rows"))) (.cons (.tup (.cons (.con (.str "go")) (.cons (.var 1) (.cons (.var 2) (.cons (.var 3) .nil))))) .nil))) (.cons (.ret (.tup (.cons (.con (.str "told")) (.cons (.con .ag) .nil)))) .nil))))))
abbrev a8B(K:Fg)(A:aY):SI:=⟨["_law_state_here","_law_lot","_law_spot_here","_law_amount_here","_law_wrong_here"],[ak,ak,ak,ak,ak],[ak,ak,ak,ak,ak],[ao,ao,ao,ao,ao],[("_law_wrong",.fn (d8 K A) 5 ao),("_law_laid",.fn (cH K A) 4 ao)],[ak,ak],ak⟩
abbrev lH(K:Fg)(A:aY)(ex:aP->aW):bC :=
  (dF (aU (cH K A) ex (aA (aB 0) (aA (aB 1) (aA (aB 3) (aA (aB 4) aD))))))
abbrev o9(K:Fg)(A:aY)(ex:aP->aW):bC :=
  (bA (bI (aA (aK (.str "told")) (aA (aK .ag) aD))))
abbrev pQ(K:Fg)(A:aY)(ex:aP->aW):bC :=
  aH (dF (j3 "list" fB (aC aO (aB 0) (aK (.str "rows"))) (aA (aB 7) aD))) (o9 K A ex)
abbrev pR(K:Fg)(A:aY)(ex:aP->aW):bC :=
  aH (bJ 7 (aC d7 (aB 7) (bI (aA (aB 3) (aA (aB 4) aD))))) (pQ K A ex)
abbrev j4(K:Fg)(A:aY)(ex:aP->aW):bC :=
  aH (bJ 7 (bI (aA (aK (.str "move")) (aA (aB 1) (aA (aB 2) aD))))) (pR K A ex)
abbrev j5(K:Fg)(A:aY)(ex:aP->aW):bC :=
  aH (bU (aL (aC qU (aB 2) (aB 3))) (aH (dF (aU (cH K A) ex (aA (aB 0) (aA (aB 1) (aA (aB 2) (aA (we (aB 4)) aD)))))) (lH K A ex)) aX) (j4 K A ex)
abbrev j6(K:Fg)(A:aY)(ex:aP->aW):bC :=
  aH (bU (aL (aC qU (aB 5) (aK (.str "")))) (bA (bI (aA (aK (.str "no")) (aA (aB 5) aD)))) aX) (j5 K A ex)
abbrev j7(K:Fg)(A:aY)(ex:aP->aW):bC :=
  aH (bU (wZ (aL (aB 6)) (aL (aC nc (aC d7 (aU (bR K A) ex (aA (aB 0) (aA (aB 3) aD))) (aB 4)) (aC aO (aB 0) (aK (.str "room")))))) (bJ 5 (aK (.str "room"))) aX) (j6 K A ex)
abbrev j8(K:Fg)(A:aY)(ex:aP->aW):bC :=
  aH (bJ 6 (nD (aC qU (aB 2) (aB 3)) (aC f9 (aB 5) (aK (.str ""))))) (j7 K A ex)
abbrev pU(K:Fg)(A:aY)(ex:aP->aW):bC :=
  aH (bU (wZ (aL (aC f9 (aB 5) (aK (.str "")))) (aL (aC ir (uY (aC aO (aB 0) (aK (.str "lie"))) (bI (aA (aB 1) (aA (aB 2) aD))) (aK (.int 0))) (aB 4)))) (bJ 5 (aK (.str "little"))) aX) (j8 K A ex)
abbrev lR(K:Fg)(A:aY)(ex:aP->aW):bC :=
  aH (bJ 5 (aU (d8 K A) ex (aA (aB 0) (aA (aB 1) (aA (fW (aA (aB 2) (aA (aB 3) aD))) (aA (aB 4) (aA (aK (.int 1)) aD))))))) (pU K A ex)
abbrev fQ(K:Fg)(A:aY):qF:=xE 8 5 λEX=>lR K A (λ_=>EX)
abbrev a3N:CB:=(.cons (.set 5 (.call 0 (.cons (.var 0) (.cons (.var 1) (.cons (.lst (.cons (.var 2) (.cons (.var 3) .nil))) (.cons (.var 4) (.cons (.con (.int 1)) .nil))))))) (.cons (.ifs (.and (.cons (.cmp .Eq (.var 5) (.con (.str ""))) (.cons (.cmp .Lt (.l9 (.jB (.var 0) (.con (.str "lie"))) (.tup (.cons (.var 1) (.cons (.var 2) .nil))) (.con (.int 0))) (.var 4)) .nil))) (.cons (.set 5 (.con (.str "little"))) .nil) .nil) (.cons (.set 6 (.mP (.cons (.cmp .NotEq (.var 2) (.var 3)) (.cons (.cmp .Eq (.var 5) (.con (.str ""))) .nil)))) (.cons (.ifs (.and (.cons (.val (.var 6)) (.cons (.cmp .Gt (.bin .Add (.call 1 (.cons (.var 0) (.cons (.var 3) .nil))) (.var 4)) (.jB (.var 0) (.con (.str "room")))) .nil))) (.cons (.set 5 (.con (.str "room"))) .nil) .nil) (.cons (.ifs (.cmp .NotEq (.var 5) (.con (.str ""))) (.cons (.ret (.tup (.cons (.con (.str "no")) (.cons (.var 5) .nil)))) .nil) .nil) (.cons (.ifs (.cmp .NotEq (.var 2) (.var 3)) (.cons (.expr (.call 2 (.cons (.var 0) (.cons (.var 1) (.cons (.var 2) (.cons (.neg (.var 4)) .nil)))))) (.cons (.expr (.call 2 (.cons (.var 0) (.cons (.var 1) (.cons (.var 3) (.cons (.var 4) .nil)))))) .nil)) .nil) (.cons (.set 7 (.tup (.cons (.con (.str "move")) (.cons (.var 1) (.cons (.var 2) .nil))))) (.cons (.set 7 (.bin .Add (.var 7) (.tup (.cons (.var 3) (.cons (.var 4) .nil))))) (.cons (.expr (.bz .append (.jB (.var 0) (.con (.str "rows"))) (.cons (.var 7) .nil))) (.cons (.ret (.tup (.cons (.con (.str "told")) (.cons (.con .ag) .nil)))) .nil))))))))))
abbrev a3O(K:Fg)(A:aY):SI:=⟨["_law_state_here","_law_lot","_law_one","_law_other","_law_amount_here","_law_wrong_here","_law_full","_law_row"],[ak,ak,ak,ak,ak,ak,ak,ak],[ak,ak,ak,ak,ak,ak,ak,ak],[ao,ao,ao,ao,ao,ao,ao,ao],[("_law_wrong",.fn (d8 K A) 5 ao),("_law_filled",.fn (bR K A) 2 ao),("_law_laid",.fn (cH K A) 4 ao)],[ak,ak,ak],ak⟩
abbrev lX(K:Fg)(A:aY)(ex:aP->aW):bC :=
  (bA (bI (aA (aK (.str "told")) (aA (aC uP (aB 3) (aB 5)) aD))))
abbrev oA(K:Fg)(A:aY)(ex:aP->aW):bC :=
  aH (dF (j3 "list" fB (aC aO (aB 0) (aK (.str "rows"))) (aA (aB 7) aD))) (lX K A ex)
abbrev oE(K:Fg)(A:aY)(ex:aP->aW):bC :=
  aH (bJ 7 (aC d7 (aB 7) (bI (aA (aB 5) (aA (aB 3) aD))))) (oA K A ex)
abbrev gP(K:Fg)(A:aY)(ex:aP->aW):bC :=
  aH (bJ 7 (bI (aA (aK (.str "count")) (aA (aB 1) (aA (aB 2) aD))))) (oE K A ex)
abbrev gQ(K:Fg)(A:aY)(ex:aP->aW):bC :=
  aH (bU (aL (aC qU (aB 3) (aB 5))) (dF (aU (cH K A) ex (aA (aB 0) (aA (aB 1) (aA (aB 2) (aA (aC uP (aB 3) (aB 5)) aD)))))) aX) (gP K A ex)
abbrev oF(K:Fg)(A:aY)(ex:aP->aW):bC :=
  aH (bU (wZ (aL (aC nc (aB 3) (aB 5))) (aL (aC nc (aB 6) (aC aO (aB 0) (aK (.str "room")))))) (bA (bI (aA (aK (.str "no")) (aA (aK (.str "room")) aD)))) aX) (gQ K A ex)
abbrev oG(K:Fg)(A:aY)(ex:aP->aW):bC :=
  aH (bJ 6 (aC uP (aC d7 (aU (bR K A) ex (aA (aB 0) (aA (aB 2) aD))) (aB 3)) (aB 5))) (oF K A ex)
abbrev oH(K:Fg)(A:aY)(ex:aP->aW):bC :=
  aH (bJ 5 (uY (aC aO (aB 0) (aK (.str "lie"))) (bI (aA (aB 1) (aA (aB 2) aD))) (aK (.int 0)))) (oG K A ex)
abbrev oJ(K:Fg)(A:aY)(ex:aP->aW):bC :=
  aH (bU (aL (aC qU (aB 4) (aK (.str "")))) (bA (bI (aA (aK (.str "no")) (aA (aB 4) aD)))) aX) (oH K A ex)
abbrev jM(K:Fg)(A:aY)(ex:aP->aW):bC :=
  aH (bJ 4 (aU (d8 K A) ex (aA (aB 0) (aA (aB 1) (aA (fW (aA (aB 2) aD)) (aA (aB 3) (aA (aK (.int 0)) aD))))))) (oJ K A ex)
abbrev eZ(K:Fg)(A:aY):qF:=xE 8 4 λEX=>jM K A (λ_=>EX)
abbrev a1M:CB:=(.cons (.set 4 (.call 0 (.cons (.var 0) (.cons (.var 1) (.cons (.lst (.cons (.var 2) .nil)) (.cons (.var 3) (.cons (.con (.int 0)) .nil))))))) (.cons (.ifs (.cmp .NotEq (.var 4) (.con (.str ""))) (.cons (.ret (.tup (.cons (.con (.str "no")) (.cons (.var 4) .nil)))) .nil) .nil) (.cons (.set 5 (.l9 (.jB (.var 0) (.con (.str "lie"))) (.tup (.cons (.var 1) (.cons (.var 2) .nil))) (.con (.int 0)))) (.cons (.set 6 (.bin .Sub (.bin .Add (.call 1 (.cons (.var 0) (.cons (.var 2) .nil))) (.var 3)) (.var 5))) (.cons (.ifs (.and (.cons (.cmp .Gt (.var 3) (.var 5)) (.cons (.cmp .Gt (.var 6) (.jB (.var 0) (.con (.str "room")))) .nil))) (.cons (.ret (.tup (.cons (.con (.str "no")) (.cons (.con (.str "room")) .nil)))) .nil) .nil) (.cons (.ifs (.cmp .NotEq (.var 3) (.var 5)) (.cons (.expr (.call 2 (.cons (.var 0) (.cons (.var 1) (.cons (.var 2) (.cons (.bin .Sub (.var 3) (.var 5)) .nil)))))) .nil) .nil) (.cons (.set 7 (.tup (.cons (.con (.str "count")) (.cons (.var 1) (.cons (.var 2) .nil))))) (.cons (.set 7 (.bin .Add (.var 7) (.tup (.cons (.var 5) (.cons (.var 3) .nil))))) (.cons (.expr (.bz .append (.jB (.var 0) (.con (.str "rows"))) (.cons (.var 7) .nil))) (.cons (.ret (.tup (.cons (.con (.str "told")) (.cons (.bin .Sub (.var 3) (.var 5)) .nil)))) .nil))))))))))
abbrev a1N(K:Fg)(A:aY):SI:=⟨["_law_state_here","_law_lot","_law_spot_here","_law_amount_here","_law_wrong_here","_law_before","_law_full","_law_row"],[ak,ak,ak,ak,ak,ak,ak,ak],[ak,ak,ak,ak,ak,ak,ak,ak],[ao,ao,ao,ao,ao,ao,ao,ao],[("_law_wrong",.fn (d8 K A) 5 ao),("_law_filled",.fn (bR K A) 2 ao),("_law_laid",.fn (cH K A) 4 ao)],[ak,ak,ak],ak⟩
abbrev RG(K:Fg)(A:aY)(ex:aP->aW):bC :=
  (bA (bI (aA (aK (.str "told")) (aA (aC aO (aB 0) (aK (.str "day"))) aD))))
abbrev RF(K:Fg)(A:aY)(ex:aP->aW):bC :=
  aH (dF (j3 "list" fB (aC aO (aB 0) (aK (.str "rows"))) (aA (bI (aA (aK (.str "day")) (aA (aC aO (aB 0) (aK (.str "day"))) aD))) aD))) (RG K A ex)
abbrev RE(K:Fg)(A:aY)(ex:aP->aW):bC :=
  aH (uW (aB 0) (aK (.str "day")) (aC d7 (aC aO (aB 0) (aK (.str "day"))) (aK (.int 1)))) (RF K A ex)
abbrev tD(K:Fg)(A:aY)(ex:aP->aW):bC :=
  aH (bU (aL (aC f9 (aC aO (aB 0) (aK (.str "day"))) (aK (.int 9999)))) (bA (bI (aA (aK (.str "no")) (aA (aK (.str "day")) aD)))) aX) (RE K A ex)
abbrev tE(K:Fg)(A:aY)(ex:aP->aW):bC :=
  aH (bU (aL (aC f9 (aC bV (aB 1) (aK (.int 0))) (aK (.str "count")))) (bA (aU (eZ K A) ex (aA (aB 0) (aA (aC bV (aB 1) (aK (.int 1))) (aA (aC bV (aB 1) (aK (.int 2))) (aA (aC bV (aB 1) (aK (.int 3))) aD)))))) aX) (tD K A ex)
abbrev mU(K:Fg)(A:aY)(ex:aP->aW):bC :=
  aH (bU (aL (aC f9 (aC bV (aB 1) (aK (.int 0))) (aK (.str "move")))) (bA (aU (fQ K A) ex (aA (aB 0) (aA (aC bV (aB 1) (aK (.int 1))) (aA (aC bV (aB 1) (aK (.int 2))) (aA (aC bV (aB 1) (aK (.int 3))) (aA (aC bV (aB 1) (aK (.int 4))) aD))))))) aX) (tE K A ex)
abbrev j9(K:Fg)(A:aY)(ex:aP->aW):bC :=
  aH (bU (aL (aC f9 (aC bV (aB 1) (aK (.int 0))) (aK (.str "go")))) (bA (aU (iZ K A) ex (aA (aB 0) (aA (aC bV (aB 1) (aK (.int 1))) (aA (aC bV (aB 1) (aK (.int 2))) (aA (aC bV (aB 1) (aK (.int 3))) aD)))))) aX) (mU K A ex)
abbrev dB(K:Fg)(A:aY)(ex:aP->aW):bC :=
  aH (bU (aL (aC f9 (aC bV (aB 1) (aK (.int 0))) (aK (.str "come")))) (bA (aU (fP K A) ex (aA (aB 0) (aA (aC bV (aB 1) (aK (.int 1))) (aA (aC bV (aB 1) (aK (.int 2))) (aA (aC bV (aB 1) (aK (.int 3))) (aA (aC bV (aB 1) (aK (.int 4))) aD))))))) aX) (j9 K A ex)
abbrev pW(K:Fg)(A:aY):qF:=xE 2 2 λEX=>dB K A (λ_=>EX)
abbrev Zo:CB:=(.cons (.ifs (.cmp .Eq (.ix (.var 1) (.con (.int 0))) (.con (.str "come"))) (.cons (.ret (.call 0 (.cons (.var 0) (.cons (.ix (.var 1) (.con (.int 1))) (.cons (.ix (.var 1) (.con (.int 2))) (.cons (.ix (.var 1) (.con (.int 3))) (.cons (.ix (.var 1) (.con (.int 4))) .nil))))))) .nil) .nil) (.cons (.ifs (.cmp .Eq (.ix (.var 1) (.con (.int 0))) (.con (.str "go"))) (.cons (.ret (.call 1 (.cons (.var 0) (.cons (.ix (.var 1) (.con (.int 1))) (.cons (.ix (.var 1) (.con (.int 2))) (.cons (.ix (.var 1) (.con (.int 3))) .nil)))))) .nil) .nil) (.cons (.ifs (.cmp .Eq (.ix (.var 1) (.con (.int 0))) (.con (.str "move"))) (.cons (.ret (.call 2 (.cons (.var 0) (.cons (.ix (.var 1) (.con (.int 1))) (.cons (.ix (.var 1) (.con (.int 2))) (.cons (.ix (.var 1) (.con (.int 3))) (.cons (.ix (.var 1) (.con (.int 4))) .nil))))))) .nil) .nil) (.cons (.ifs (.cmp .Eq (.ix (.var 1) (.con (.int 0))) (.con (.str "count"))) (.cons (.ret (.call 3 (.cons (.var 0) (.cons (.ix (.var 1) (.con (.int 1))) (.cons (.ix (.var 1) (.con (.int 2))) (.cons (.ix (.var 1) (.con (.int 3))) .nil)))))) .nil) .nil) (.cons (.ifs (.cmp .Eq (.jB (.var 0) (.con (.str "day"))) (.con (.int 9999))) (.cons (.ret (.tup (.cons (.con (.str "no")) (.cons (.con (.str "day")) .nil)))) .nil) .nil) (.cons (.mM (.var 0) (.con (.str "day")) (.bin .Add (.jB (.var 0) (.con (.str "day"))) (.con (.int 1)))) (.cons (.expr (.bz .append (.jB (.var 0) (.con (.str "rows"))) (.cons (.tup (.cons (.con (.str "day")) (.cons (.jB (.var 0) (.con (.str "day"))) .nil))) .nil))) (.cons (.ret (.tup (.cons (.con (.str "told")) (.cons (.jB (.var 0) (.con (.str "day"))) .nil)))) .nil))))))))
abbrev Zn(K:Fg)(A:aY):SI:=⟨["_law_state_here","_law_deed_here"],[ak,ak],[ak,ak],[ao,ao],[("_law_due_come",.fn (fP K A) 5 ao),("_law_due_go",.fn (iZ K A) 4 ao),("_law_due_move",.fn (fQ K A) 5 ao),("_law_due_count",.fn (eZ K A) 4 ao)],[ak,ak,ak,ak],ak⟩
abbrev qN(K:Fg)(A:aY)(ex:aP->aW):bC :=
  (bA (bI (aA (aC cZ (aB 1) (aC bV (aB 0) (aK (.int 0)))) (aA (aC d7 (aK (.int 1)) (aC cZ (aC cW (aB 1) (aK (.int 7))) (aC bV (aB 0) (aK (.int 1))))) aD))))
abbrev vQ(K:Fg)(A:aY)(ex:aP->aW):bC :=
  aH (bU (wZ (aL (aC nc (aC bV (aB 0) (aK (.int 1))) (aK (.int 9)))) (aL (aC f9 (aC cZ (aB 1) (aK (.int 5))) (aK (.int 2))))) (bA (aC bV (fW (aA (bI (aA (aK (.int 0)) (aA (aK (.int 10)) aD))) (aA (bI (aA (aK (.int 1)) (aA (aC uP (aC bV (aB 0) (aK (.int 1))) (aK (.int 9))) aD))) (aA (bI (aA (aK (.int 0)) (aA (aC bV (aB 0) (aK (.int 1))) aD))) (aA (bI (aA (aK (.int 1)) (aA (aK (.int 1)) aD))) aD))))) (aC cZ (aC cW (aB 1) (aK (.int 5))) (aK (.int 4))))) aX) (qN K A ex)
abbrev jA(K:Fg)(A:aY):qF:=xE 2 2 λEX=>vQ K A (λ_=>EX)
abbrev D':CB:=(.cons (.ifs (.and (.cons (.cmp .Gt (.ix (.var 0) (.con (.int 1))) (.con (.int 9))) (.cons (.cmp .Eq (.bin .Mod (.var 1) (.con (.int 5))) (.con (.int 2))) .nil))) (.cons (.ret (.ix (.lst (.cons (.tup (.cons (.con (.int 0)) (.cons (.con (.int 10)) .nil))) (.cons (.tup (.cons (.con (.int 1)) (.cons (.bin .Sub (.ix (.var 0) (.con (.int 1))) (.con (.int 9))) .nil))) (.cons (.tup (.cons (.con (.int 0)) (.cons (.ix (.var 0) (.con (.int 1))) .nil))) (.cons (.tup (.cons (.con (.int 1)) (.cons (.con (.int 1)) .nil))) .nil))))) (.bin .Mod (.bin .FloorDiv (.var 1) (.con (.int 5))) (.con (.int 4))))) .nil) .nil) (.cons (.ret (.tup (.cons (.bin .Mod (.var 1) (.ix (.var 0) (.con (.int 0)))) (.cons (.bin .Add (.con (.int 1)) (.bin .Mod (.bin .FloorDiv (.var 1) (.con (.int 7))) (.ix (.var 0) (.con (.int 1))))) .nil)))) .nil))
abbrev B'(K:Fg)(A:aY):SI:=⟨["_law_plan_here","_law_cell"],[ak,ak],[ak,ak],[ao,ao],[],[],ak⟩
abbrev yC(K:Fg)(A:aY)(ex:aP->aW):bC :=
  (bA (aC bV (aB 1) (aC cZ (aB 0) (aK (.int 7)))))
abbrev vR(K:Fg)(A:aY)(ex:aP->aW):bC :=
  aH (bJ 1 (fW (aA (aK (.str "a")) (aA (aK (.str "ab")) (aA (aK (.str "b")) (aA (aK (.str "aab")) (aA (aK (.str "abcdefghijkl")) (aA (aK (.str "abcdefghijkk")) (aA (aK (.str "z")) aD))))))))) (yC K A ex)
abbrev mV(K:Fg)(A:aY):qF:=xE 2 1 λEX=>vR K A (λ_=>EX)
abbrev Z9:CB:=(.cons (.set 1 (.lst (.cons (.con (.str "a")) (.cons (.con (.str "ab")) (.cons (.con (.str "b")) (.cons (.con (.str "aab")) (.cons (.con (.str "abcdefghijkl")) (.cons (.con (.str "abcdefghijkk")) (.cons (.con (.str "z")) .nil))))))))) (.cons (.ret (.ix (.var 1) (.bin .Mod (.var 0) (.con (.int 7))))) .nil))
abbrev Z8(K:Fg)(A:aY):SI:=⟨["_law_cell","_law_some"],[ak,ak],[ak,ak],[ao,ao],[],[],ak⟩
abbrev tY(K:Fg)(A:aY)(ex:aP->aW):bC :=
  (bA (aC bV (aB 8) (aC cZ (aB 3) (aK (.int 8)))))
abbrev tZ(K:Fg)(A:aY)(ex:aP->aW):bC :=
  aH (bJ 8 (aC d7 (aB 8) (fW (aA (dD yP (aA (aK (.int 1)) (aA (aB 5) aD))) (aA (aC d7 (aB 5) (aK (.int 1))) (aA (aB 6) (aA (aB 7) aD))))))) (tY K A ex)
abbrev u0(K:Fg)(A:aY)(ex:aP->aW):bC :=
  aH (bJ 8 (fW (aA (aB 6) (aA (dD yP (aA (aK (.int 1)) (aA (aB 4) aD))) (aA (aC d7 (aB 4) (aK (.int 1))) (aA (aB 7) aD)))))) (tZ K A ex)
abbrev u6(K:Fg)(A:aY)(ex:aP->aW):bC :=
  aH (bJ 7 (aC d7 (aK (.int 1)) (aC cZ (aC cW (aB 3) (aK (.int 8))) (dD yP (aA (aK (.int 1)) (aA (aB 4) aD)))))) (u0 K A ex)
abbrev u9(K:Fg)(A:aY)(ex:aP->aW):bC :=
  aH (bJ 6 (aC d7 (aK (.int 1)) (aC cZ (aC cW (aB 3) (aK (.int 8))) (aK (.int 9))))) (u6 K A ex)
abbrev uD(K:Fg)(A:aY)(ex:aP->aW):bC :=
  aH (bJ 5 (aC uP (aC aO (aB 0) (aK (.str "room"))) (aU (bR K A) ex (aA (aB 0) (aA (aB 2) aD))))) (u9 K A ex)
abbrev qO(K:Fg)(A:aY)(ex:aP->aW):bC :=
  aH (bJ 4 (uY (aC aO (aB 0) (aK (.str "lie"))) (bI (aA (aB 1) (aA (aB 2) aD))) (aK (.int 0)))) (uD K A ex)
abbrev fH(K:Fg)(A:aY):qF:=xE 9 4 λEX=>qO K A (λ_=>EX)
abbrev a8C:CB:=(.cons (.set 4 (.l9 (.jB (.var 0) (.con (.str "lie"))) (.tup (.cons (.var 1) (.cons (.var 2) .nil))) (.con (.int 0)))) (.cons (.set 5 (.bin .Sub (.jB (.var 0) (.con (.str "room"))) (.call 0 (.cons (.var 0) (.cons (.var 2) .nil))))) (.cons (.set 6 (.bin .Add (.con (.int 1)) (.bin .Mod (.bin .FloorDiv (.var 3) (.con (.int 8))) (.con (.int 9))))) (.cons (.set 7 (.bin .Add (.con (.int 1)) (.bin .Mod (.bin .FloorDiv (.var 3) (.con (.int 8))) (.call 1 (.cons (.con (.int 1)) (.cons (.var 4) .nil)))))) (.cons (.set 8 (.lst (.cons (.var 6) (.cons (.call 1 (.cons (.con (.int 1)) (.cons (.var 4) .nil))) (.cons (.bin .Add (.var 4) (.con (.int 1))) (.cons (.var 7) .nil)))))) (.cons (.set 8 (.bin .Add (.var 8) (.lst (.cons (.call 1 (.cons (.con (.int 1)) (.cons (.var 5) .nil))) (.cons (.bin .Add (.var 5) (.con (.int 1))) (.cons (.var 6) (.cons (.var 7) .nil))))))) (.cons (.ret (.ix (.var 8) (.bin .Mod (.var 3) (.con (.int 8))))) .nil)))))))
abbrev a8D(K:Fg)(A:aY):SI:=⟨["_law_state_here","_law_lot","_law_spot_here","_law_cell","_law_there","_law_room_here","_law_drawn","_law_part","_law_some"],[ak,ak,ak,ak,ak,ak,ak,ak,ak],[ak,ak,ak,ak,ak,ak,ak,ak,ak],[ao,ao,ao,ao,ao,ao,ao,ao,ao],[("_law_filled",.fn (bR K A) 2 ao),("max",.bf .max)],[ak,ak],ak⟩
abbrev jN(K:Fg)(A:aY)(ex:aP->aW):bC :=
  (bA (bI (aA (aK (.str "come")) (aA (aU (mV K A) ex (aA (aC cW (aB 2) (aK (.int 101))) aD)) (aA (aB 5) (aA (aB 3) (aA (aU (fH K A) ex (aA (aB 0) (aA (aK (.int 0)) (aA (aB 3) (aA (aC cW (aB 2) (aK (.int 211))) aD))))) aD)))))))
abbrev vU(K:Fg)(A:aY)(ex:aP->aW):bC :=
  (bA (bI (aA (aK (.str "count")) (aA (aB 6) (aA (aB 3) (aA (aC uP (aB 8) (dD Eb (aA (aC f9 (aC cZ (aC cW (aB 2) (aK (.int 7))) (aK (.int 3))) (aK (.int 1))) aD))) aD))))))
abbrev vV(K:Fg)(A:aY)(ex:aP->aW):bC :=
  aH (bU (aL (aC ir (aC cZ (aB 1) (aK (.int 11))) (aK (.int 9)))) (bA (bI (aA (aK (.str "move")) (aA (aB 6) (aA (aB 3) (aA (aB 4) (aA (aB 8) aD))))))) aX) (vU K A ex)
abbrev vX(K:Fg)(A:aY)(ex:aP->aW):bC :=
  aH (bU (aL (aC ir (aC cZ (aB 1) (aK (.int 11))) (aK (.int 7)))) (bA (bI (aA (aK (.str "go")) (aA (aB 6) (aA (aB 3) (aA (aB 8) aD)))))) aX) (vV K A ex)
abbrev lB(K:Fg)(A:aY)(ex:aP->aW):bC :=
  aH (bJ 8 (aU (fH K A) ex (aA (aB 0) (aA (aB 6) (aA (aB 3) (aA (aC cW (aB 2) (aK (.int 211))) aD)))))) (vX K A ex)
abbrev qP(K:Fg)(A:aY)(ex:aP->aW):bC :=
  aH (bU (wZ (aL (aC qU (aB 7) (fW aD))) (aL (aC nc (aC cZ (aB 2) (aK (.int 5))) (aK (.int 0))))) (bJ 3 (aC bV (aB 7) (aC cZ (aC cW (aB 2) (aK (.int 17))) (dD iK (aA (aB 7) aD))))) aX) (lB K A ex)
abbrev yD(K:Fg)(A:aY)(ex:aP->aW):bC :=
  aH (bJ 7 (dD zN (aA (rf 0 (nH (fK (aC aO (aB 0) (aK (.str "lie")))) (aL (aC f9 (aC bV (aB 0) (aK (.int 0))) (aB 7))) (aC bV (aB 0) (aK (.int 1))))) aD))) (qP K A ex)
abbrev qQ(K:Fg)(A:aY)(ex:aP->aW):bC :=
  aH (bJ 6 (aC cZ (aC cW (aB 2) (aK (.int 13))) (dD iK (aA (aC aO (aB 0) (aK (.str "lots"))) aD)))) (yD K A ex)
abbrev lC(K:Fg)(A:aY)(ex:aP->aW):bC :=
  aH (bU (aL (aC f9 (aC cZ (aB 1) (aK (.int 11))) (aK (.int 4)))) (bA (bI (aA (aK (.str "day")) aD))) aX) (qQ K A ex)
abbrev yE(K:Fg)(A:aY)(ex:aP->aW):bC :=
  aH (bU (wW (aL (aC ir (aC cZ (aB 1) (aK (.int 11))) (aK (.int 4)))) (aL (aC f9 (aC aO (aB 0) (aK (.str "lots"))) (fW aD)))) (aH (bJ 5 (dD yP (aA (aK (.int 0)) (aA (aC uP (aC d7 (aC aO (aB 0) (aK (.str "day"))) (aC cZ (aC cW (aB 2) (aK (.int 1009))) (aK (.int 7)))) (aK (.int 1))) aD)))) (jN K A ex)) aX) (lC K A ex)
abbrev yF(K:Fg)(A:aY)(ex:aP->aW):bC :=
  aH (bJ 4 (aU (jA K A) ex (aA (aC aO (aB 0) (aK (.str "plan"))) (aA (aC cW (aB 2) (aK (.int 10007))) aD)))) (yE K A ex)
abbrev yG(K:Fg)(A:aY)(ex:aP->aW):bC :=
  aH (bJ 3 (aU (jA K A) ex (aA (aC aO (aB 0) (aK (.str "plan"))) (aA (aC cW (aB 2) (aK (.int 3))) aD)))) (yF K A ex)
abbrev vY(K:Fg)(A:aY)(ex:aP->aW):bC :=
  aH (bJ 2 (aC cW (aB 1) (aK (.int 11)))) (yG K A ex)
abbrev mW(K:Fg)(A:aY):qF:=xE 9 2 λEX=>vY K A (λ_=>EX)
abbrev Z7:CB:=(.cons (.set 2 (.bin .FloorDiv (.var 1) (.con (.int 11)))) (.cons (.set 3 (.call 0 (.cons (.jB (.var 0) (.con (.str "plan"))) (.cons (.bin .FloorDiv (.var 2) (.con (.int 3))) .nil)))) (.cons (.set 4 (.call 0 (.cons (.jB (.var 0) (.con (.str "plan"))) (.cons (.bin .FloorDiv (.var 2) (.con (.int 10007))) .nil)))) (.cons (.ifs (.or (.cons (.cmp .Lt (.bin .Mod (.var 1) (.con (.int 11))) (.con (.int 4))) (.cons (.cmp .Eq (.jB (.var 0) (.con (.str "lots"))) (.lst .nil)) .nil))) (.cons (.set 5 (.call 1 (.cons (.con (.int 0)) (.cons (.bin .Sub (.bin .Add (.jB (.var 0) (.con (.str "day"))) (.bin .Mod (.bin .FloorDiv (.var 2) (.con (.int 1009))) (.con (.int 7)))) (.con (.int 1))) .nil)))) (.cons (.ret (.tup (.cons (.con (.str "come")) (.cons (.call 2 (.cons (.bin .FloorDiv (.var 2) (.con (.int 101))) .nil)) (.cons (.var 5) (.cons (.var 3) (.cons (.call 3 (.cons (.var 0) (.cons (.con (.int 0)) (.cons (.var 3) (.cons (.bin .FloorDiv (.var 2) (.con (.int 211))) .nil))))) .nil))))))) .nil)) .nil) (.cons (.ifs (.cmp .Eq (.bin .Mod (.var 1) (.con (.int 11))) (.con (.int 4))) (.cons (.ret (.tup (.cons (.con (.str "day")) .nil))) .nil) .nil) (.cons (.set 6 (.bin .Mod (.bin .FloorDiv (.var 2) (.con (.int 13))) (.call 4 (.cons (.jB (.var 0) (.con (.str "lots"))) .nil)))) (.cons (.set 7 (.call 5 (.cons (.p6 0 (.comp [ao,ao,ao,ao,ao,ao,ak,ao,ao] [ao,ao,ao,ao,ao,ao,ao] (.xC (.jB (.var 0) (.con (.str "lie")))) (.some (.cmp .Eq (.ix (.var 0) (.con (.int 0))) (.var 7))) (.ix (.var 0) (.con (.int 1))))) .nil))) (.cons (.ifs (.and (.cons (.cmp .NotEq (.var 7) (.lst .nil)) (.cons (.cmp .Gt (.bin .Mod (.var 2) (.con (.int 5))) (.con (.int 0))) .nil))) (.cons (.set 3 (.ix (.var 7) (.bin .Mod (.bin .FloorDiv (.var 2) (.con (.int 17))) (.call 4 (.cons (.var 7) .nil))))) .nil) .nil) (.cons (.set 8 (.call 3 (.cons (.var 0) (.cons (.var 6) (.cons (.var 3) (.cons (.bin .FloorDiv (.var 2) (.con (.int 211))) .nil)))))) (.cons (.ifs (.cmp .Lt (.bin .Mod (.var 1) (.con (.int 11))) (.con (.int 7))) (.cons (.ret (.tup (.cons (.con (.str "go")) (.cons (.var 6) (.cons (.var 3) (.cons (.var 8) .nil)))))) .nil) .nil) (.cons (.ifs (.cmp .Lt (.bin .Mod (.var 1) (.con (.int 11))) (.con (.int 9))) (.cons (.ret (.tup (.cons (.con (.str "move")) (.cons (.var 6) (.cons (.var 3) (.cons (.var 4) (.cons (.var 8) .nil))))))) .nil) .nil) (.cons (.ret (.tup (.cons (.con (.str "count")) (.cons (.var 6) (.cons (.var 3) (.cons (.bin .Sub (.var 8) (.call 6 (.cons (.cmp .Eq (.bin .Mod (.bin .FloorDiv (.var 2) (.con (.int 7))) (.con (.int 3))) (.con (.int 1))) .nil))) .nil)))))) .nil))))))))))))
abbrev Z6(K:Fg)(A:aY):SI:=⟨["_law_state_here","_law_cell","_law_more","_law_spot_here","_law_other","_law_due_here","_law_lot","_law_places","_law_amount_here"],[ak,ak,ak,ak,ak,ak,ak,ak,ak],[ak,ak,ak,ak,ak,ak,ao,ak,ak],[ao,ao,ao,ao,ao,ao,ak,ao,ao],[("_law_spot",.fn (jA K A) 2 ao),("max",.bf .max),("_law_ware",.fn (mV K A) 1 ao),("_law_amount",.fn (fH K A) 4 ao),("len",.bf .len),("sorted",.bf .v5),("int",.bt "int")],[ak,ak,ak,ak,ak,ak,ak],ak⟩
abbrev vZ(K:Fg)(A:aY)(ex:aP->aW):bC :=
  (dF (aU (pW K A) ex (aA (aB 2) (aA (aU (mW K A) ex (aA (aB 2) (aA (aU (cL K A) ex (aA (aB 0) (aA (aB 3) aD))) aD))) aD))))
abbrev yH(K:Fg)(A:aY)(ex:aP->aW):bC :=
  (bA (aB 2))
abbrev yI(K:Fg)(A:aY)(ex:aP->aW):bC :=
  aH (nJ (Av (aA (aK (.int 1)) (aA (dD Eu (aA (dD iK (aA (aB 0) aD)) (aA (aK (.int 41)) aD))) aD))) (qG 3) (vZ K A ex)) (yH K A ex)
abbrev yJ(K:Fg)(A:aY)(ex:aP->aW):bC :=
  aH (bJ 2 (aU (lA K A) ex (aA (aB 1) (aA (aU (mR K A) ex (aA (aB 0) aD)) aD)))) (yI K A ex)
abbrev wA(K:Fg)(A:aY)(ex:aP->aW):bC :=
  aH (bJ 1 (aU (mQ K A) ex (aA (aB 0) aD))) (yJ K A ex)
abbrev mX(K:Fg)(A:aY):qF:=xE 4 1 λEX=>wA K A (λ_=>EX)
abbrev Z5:CB:=(.cons (.set 1 (.call 0 (.cons (.var 0) .nil))) (.cons (.set 2 (.call 2 (.cons (.var 1) (.cons (.call 1 (.cons (.var 0) .nil)) .nil)))) (.cons (.i8 (.yB (.con (.int 1)) (.call 5 (.cons (.call 4 (.cons (.var 0) .nil)) (.cons (.con (.int 41)) .nil)))) (.nm 3) (.cons (.expr (.call 8 (.cons (.var 2) (.cons (.call 7 (.cons (.var 2) (.cons (.call 6 (.cons (.var 0) (.cons (.var 3) .nil))) .nil))) .nil)))) .nil)) (.cons (.ret (.var 2)) .nil))))
abbrev Z4(K:Fg)(A:aY):SI:=⟨["_law_script","_law_plan_here","_law_state_here","_law_k"],[ak,ak,ak,ak],[ak,ak,ak,ak],[ao,ao,ao,ao],[("_law_plan",.fn (mQ K A) 1 ao),("_law_room",.fn (mR K A) 1 ao),("_law_state",.fn (lA K A) 2 ao),("range",.bt "range"),("len",.bf .len),("min",.bf .min),("_law_cell_at",.fn (cL K A) 2 ao),("_law_deed",.fn (mW K A) 2 ao),("_law_due",.fn (pW K A) 2 ao)],[ak,ak,ak,ak,ak,ak,ak,ak,ak],ak⟩
abbrev Q1(K:Fg)(A:aY)(ex:aP->aW):bC :=
  (bU (wW (jE (aL (aU (bT K A) ex (aA (aB 6) aD)))) (aL (aC qU (aB 6) (dD zC (aA (aB 7) aD))))) (bA (aK (.bl ao))) aX)
abbrev Q0(K:Fg)(A:aY)(ex:aP->aW):bC :=
  aH (bJ 7 (nH (fK (aC aO (aB 1) (aK (.str "lie")))) (aL (aC f9 (aC bV (aB 0) (aK (.int 0))) (aB 6))) (aC xB (aC aO (aB 2) (aK (.str "lie"))) (aB 0)))) (Q1 K A ex)
abbrev OZ(K:Fg)(A:aY)(ex:aP->aW):bC :=
  aH (bJ 6 (aU (jJ K A) ex (aA (aB 2) (aA (aB 5) aD)))) (Q0 K A ex)
abbrev QZ(K:Fg)(A:aY)(ex:aP->aW):bC :=
  (dF (BR (aC aO (aB 8) (bI (aA (aK (.int 0)) (aA (aK (.int 1)) aD))))))
abbrev QY(K:Fg)(A:aY)(ex:aP->aW):bC :=
  aH (bU (wW (aL (aC qU (aC aO (aC aO (aB 8) (bI (aA (aK (.int 0)) (aA (aK (.int 1)) aD)))) (aB 5)) (aK (.int 3)))) (wW (aL (aC qU (aU (jJ K A) ex (aA (aB 2) (aA (aB 5) aD))) (aK (.int 3)))) (aL (aC (xA ak) (aB 4) (aB 3))))) (bA (aK (.bl ao))) aX) (QZ K A ex)
abbrev QX(K:Fg)(A:aY)(ex:aP->aW):bC :=
  aH (bJ 8 (aU (fG K A) ex (aA (aB 2) aD))) (QY K A ex)
abbrev QW(K:Fg)(A:aY)(ex:aP->aW):bC :=
  aH (dF (j3 "list" fB (aB 2) (aA (bI (aA (aK (.str "come")) (aA (aB 5) (aA (aK (.str "w")) (aA (aK (.int 9999)) (aA (bI (aA (aK (.int 0)) (aA (aK (.int 1)) aD))) (aA (aK (.int 3)) aD))))))) aD))) (QX K A ex)
abbrev Jo(K:Fg)(A:aY)(ex:aP->aW):bC :=
  (bA (nD (aC (xA ao) (aU (fG K A) ex (aA (aC aO (aB 1) (aK (.str "rows"))) aD)) (aB 3)) (nD (aC (xA ao) (aU (fG K A) ex (aA (fW aD) aD)) rT) (aC f9 (aU (jJ K A) ex (aA (fW aD) (aA (aK (.int 0)) aD))) (aK (.int 0))))))
abbrev Jn(K:Fg)(A:aY)(ex:aP->aW):bC :=
  aH (dF (BR (aB 4))) (Jo K A ex)
abbrev Ig(K:Fg)(A:aY)(ex:aP->aW):bC :=
  aH (bU (aL (aC ja (aC d7 (aU (bR K A) ex (aA (aB 1) (aA (bI (aA (aK (.int 0)) (aA (aK (.int 1)) aD))) aD))) (aK (.int 3))) (aC aO (aB 1) (aK (.str "room"))))) (aH (bJ 5 (dD iK (aA (aC aO (aB 1) (aK (.str "lots"))) aD))) (QW K A ex)) aX) (Jn K A ex)
abbrev Ie(K:Fg)(A:aY)(ex:aP->aW):bC :=
  aH (bU (aL (aC qU (aB 2) (aC aO (aB 1) (aK (.str "rows"))))) (bA (aK (.bl ao))) aX) (Ig K A ex)
abbrev Ic(K:Fg)(A:aY)(ex:aP->aW):bC :=
  aH (nJ (Aw (aA (aC d7 (dD iK (aA (aC aO (aB 1) (aK (.str "lots"))) aD)) (aK (.int 2))) aD)) (qG 5) (OZ K A ex)) (Ie K A ex)
abbrev Ib(K:Fg)(A:aY)(ex:aP->aW):bC :=
  aH (bU (jE (aL (dD wd (aA (rf 4 (nH (yR ak (aB 4)) uT (aC f9 (dD EJ (aA (aC aO (aB 5) (aB 0)) aD)) (dD uZ (aA (aC aO (aB 5) (aB 0)) aD))))) aD)))) (bA (aK (.bl ao))) aX) (Ic K A ex)
abbrev Ia(K:Fg)(A:aY)(ex:aP->aW):bC :=
  aH (bU (wW (jE (aL (dD (bN K) (aA (aB 4) (aA (aK (.ty "dict")) aD))))) (wW (aL (aC (xA ak) (aB 4) (aB 3))) (aL (aC qU (dD EJ (aA (aB 4) aD)) (dD uZ (aA (aB 3) aD)))))) (bA (aK (.bl ao))) aX) (Ib K A ex)
abbrev NW(K:Fg)(A:aY)(ex:aP->aW):bC :=
  aH (bJ 4 (aU (fG K A) ex (aA (aB 2) aD))) (Ia K A ex)
abbrev NV(K:Fg)(A:aY)(ex:aP->aW):bC :=
  aH (bJ 3 (aU (kZ K A) ex (aA (aB 1) aD))) (NW K A ex)
abbrev NU(K:Fg)(A:aY)(ex:aP->aW):bC :=
  aH (bJ 2 (dD BX (aA (aC aO (aB 1) (aK (.str "rows"))) aD))) (NV K A ex)
abbrev GW(K:Fg)(A:aY)(ex:aP->aW):bC :=
  aH (bJ 1 (aU (mX K A) ex (aA (aB 0) aD))) (NU K A ex)
abbrev Hy(K:Fg)(A:aY):qF:=xE 9 1 λEX=>GW K A (λ_=>EX)
abbrev Bw:CB:=(.cons (.set 1 (.call 0 (.cons (.var 0) .nil))) (.cons (.set 2 (.call 1 (.cons (.jB (.var 1) (.con (.str "rows"))) .nil))) (.cons (.set 3 (.call 2 (.cons (.var 1) .nil))) (.cons (.set 4 (.call 3 (.cons (.var 2) .nil))) (.cons (.ifs (.or (.cons (.not (.val (.call 5 (.cons (.var 4) (.cons (.mw 4) .nil))))) (.cons (.i7 ak (.var 4) (.var 3)) (.cons (.cmp .NotEq (.call 6 (.cons (.var 4) .nil)) (.call 7 (.cons (.var 3) .nil))) .nil)))) (.cons (.ret (.con (.bl ao))) .nil) .nil) (.cons (.ifs (.not (.val (.call 8 (.cons (.p6 4 (.comp [ao,ao,ao,ao,ak,ao,ao,ao,ao] [ao,ao,ao,ao,ao,ao,ak,ak,ao,ao,ao,ao,ao,ao,ao] (.keys (.var 4)) .none (.cmp .Eq (.call 6 (.cons (.jB (.var 5) (.var 0)) .nil)) (.call 7 (.cons (.jB (.var 5) (.var 0)) .nil))))) .nil)))) (.cons (.ret (.con (.bl ao))) .nil) .nil) (.cons (.i8 (.yT (.bin .Add (.call 10 (.cons (.jB (.var 1) (.con (.str "lots"))) .nil)) (.con (.int 2)))) (.nm 5) (.cons (.set 6 (.call 11 (.cons (.var 2) (.cons (.var 5) .nil)))) (.cons (.setC 7 [ao,ak,ao,ao,ao,ak,ao,ao,ao] [ao,ao,ao,ao,ao,ao,ao,ao,ao,ao,ao,ao,ao,ao,ao] (.xC (.jB (.var 1) (.con (.str "lie")))) (.some (.cmp .Eq (.ix (.var 0) (.con (.int 0))) (.var 6))) (.qa (.jB (.var 2) (.con (.str "lie"))) (.var 0))) (.cons (.ifs (.or (.cons (.not (.val (.call 12 (.cons (.var 6) .nil)))) (.cons (.cmp .NotEq (.var 6) (.call 13 (.cons (.var 7) .nil))) .nil))) (.cons (.ret (.con (.bl ao))) .nil) .nil) .nil)))) (.cons (.ifs (.cmp .NotEq (.var 2) (.jB (.var 1) (.con (.str "rows")))) (.cons (.ret (.con (.bl ao))) .nil) .nil) (.cons (.ifs (.cmp .LtE (.bin .Add (.call 14 (.cons (.var 1) (.cons (.tup (.cons (.con (.int 0)) (.cons (.con (.int 1)) .nil))) .nil))) (.con (.int 3))) (.jB (.var 1) (.con (.str "room")))) (.cons (.set 5 (.call 10 (.cons (.jB (.var 1) (.con (.str "lots"))) .nil))) (.cons (.expr (.bz .append (.var 2) (.cons (.tup (.cons (.con (.str "come")) (.cons (.var 5) (.cons (.con (.str "w")) (.cons (.con (.int 9999)) (.cons (.tup (.cons (.con (.int 0)) (.cons (.con (.int 1)) .nil))) (.cons (.con (.int 3)) .nil))))))) .nil))) (.cons (.set 8 (.call 3 (.cons (.var 2) .nil))) (.cons (.ifs (.or (.cons (.cmp .NotEq (.jB (.jB (.var 8) (.tup (.cons (.con (.int 0)) (.cons (.con (.int 1)) .nil)))) (.var 5)) (.con (.int 3))) (.cons (.cmp .NotEq (.call 11 (.cons (.var 2) (.cons (.var 5) .nil))) (.con (.int 3))) (.cons (.i7 ak (.var 4) (.var 3)) .nil)))) (.cons (.ret (.con (.bl ao))) .nil) .nil) (.cons (.expr (.Bj (.jB (.var 8) (.tup (.cons (.con (.int 0)) (.cons (.con (.int 1)) .nil)))))) .nil))))) .nil) (.cons (.expr (.Bj (.var 4))) (.cons (.ret (.mP (.cons (.i7 ao (.call 3 (.cons (.jB (.var 1) (.con (.str "rows"))) .nil)) (.var 3)) (.cons (.i7 ao (.call 3 (.cons (.lst .nil) .nil)) .qr) (.cons (.cmp .Eq (.call 11 (.cons (.lst .nil) (.cons (.con (.int 0)) .nil))) (.con (.int 0))) .nil))))) .nil)))))))))))
abbrev aIH(K:Fg)(A:aY):SI:=⟨["_law_script","_law_state_here","_law_handed","_law_due_here","_law_found","_law_lot","_law_left","_law_there","_law_more"],[ak,ak,ak,ak,ak,ak,ak,ak,ak],[ak,ao,ak,ak,ao,ao,ak,ak,ak],[ao,ak,ao,ao,ak,ak,ao,ao,ao],[("_law_rows",.fn (mX K A) 1 ao),("list",.bt "list"),("_law_lying",.fn (kZ K A) 1 ao),("lying_by",.fn (fG K A) 1 ao),("dict",.bt "dict"),("isinstance",.bf .qf),("list",.bf .BC),("sorted",.bf .BB),("all",.bf .all),("range",.bt "range"),("len",.bf .len),("left_of",.fn (jJ K A) 2 ao),("_law_whole",.fn (bT K A) 1 ao),("sum",.bf .sum),("_law_filled",.fn (bR K A) 2 ao)],[ak,ak,ak,ak,ak,ak,ak,ak,ak,ak,ak,ak,ak,ak,ak],ak⟩
structure yZ(K:Fg)(mg:Str->Option au)(x:Str)(st:qw)(f:bw)(d:qj)(ps:List Str):Prop where
 F:sL K x x st f d
 B:Binds K d ps []
 m:mg x=aj (.ref f)
structure Txt(K:Fg)(mg:Str->Option au)(A:aY):Prop where
 dZ:yZ K mg "changes_of" zT A.zY A.mF ["row"]
 nA:yZ K mg "left_of" Qr A.Qq A.wO ["rows","lot"]
 rO:yZ K mg "change" O1 A.O0 A.zZ ["stacks","spot","lot","more"]
 jO:yZ K mg "in_order" Q8 A.Q5 A.sO ["stacks"]
 jP:yZ K mg "lying_by" Q7 A.Q4 A.sU ["rows"]
 cQ:yZ K mg "_law_whole" zU A.RP A.mH ["_law_found"]
 cD:yZ K mg "_law_filled" xG A.xO A.jY ["_law_state_here","_law_spot_here"]
 fU:yZ K mg "_law_lying" zV A.RO A.mJ ["_law_state_here"]
 cR:yZ K mg "_law_cell_at" vA A.vC A.iT ["_law_script","_law_k"]
 gY:yZ K mg "_law_plan" Rx A.Ro A.oX ["_law_script"]
 gZ:yZ K mg "_law_room" Rv A.Rn A.oY ["_law_script"]
 fV:yZ K mg "_law_state" zW A.RN A.mK ["_law_plan_here","_law_room_here"]
 dI:yZ K mg "_law_laid" Ru A.Rm A.oZ ["_law_state_here","_law_lot","_law_spot_here","_law_more"]
 dY:yZ K mg "_law_is_ware" vB A.vD A.iU ["_law_thing"]
 dN:yZ K mg "_law_is_bin" xH A.xP A.jZ ["_law_plan_here","_law_thing"]
 cO:yZ K mg "_law_is_amount" rE A.rG A.fM ["_law_thing","_law_least"]
 dG:yZ K mg "_law_due_come" tM A.tQ A.gJ ["_law_state_here","_law_ware_here","_law_due_here","_law_spot_here","_law_amount_here"]
 eN:yZ K mg "_law_is_lot" xJ A.xQ A.kJ ["_law_state_here","_law_thing"]
 dJ:yZ K mg "_law_wrong" zX A.RM A.mL ["_law_state_here","_law_lot","_law_spots","_law_amount_here","_law_least"]
 eO:yZ K mg "_law_due_go" xK A.xR A.kW ["_law_state_here","_law_lot","_law_spot_here","_law_amount_here"]
 dH:yZ K mg "_law_due_move" tO A.tR A.gK ["_law_state_here","_law_lot","_law_one","_law_other","_law_amount_here"]
 d9:yZ K mg "_law_due_count" rF A.rH A.fO ["_law_state_here","_law_lot","_law_spot_here","_law_amount_here"]
 jQ:yZ K mg "_law_due" Q6 A.Q3 A.sV ["_law_state_here","_law_deed_here"]
 iB:yZ K mg "_law_spot" Rt A.Rl A.p7 ["_law_plan_here","_law_cell"]
 iC:yZ K mg "_law_ware" Rr A.Rk A.p8 ["_law_cell"]
 eU:yZ K mg "_law_amount" xM A.xT A.kY ["_law_state_here","_law_lot","_law_spot_here","_law_cell"]
 iD:yZ K mg "_law_deed" Rq A.Rj A.pA ["_law_state_here","_law_cell"]
 iG:yZ K mg "_law_rows" Rp A.Ri A.pB ["_law_script"]
 aII:yZ K mg "law" Bx A.vE A.LS ["_law_script"]
 GV:mg "all"=bh
 aDU:mg "bool"=bh
 MM:mg "dict"=bh
 LR:mg "int"=bh
 mY:mg "isinstance"=bh
 ph:mg "len"=bh
 ML:mg "list"=bh
 LQ:mg "max"=bh
 aIJ:mg "min"=bh
 NT:mg "range"=bh
 aIK:mg "set"=bh
 wB:mg "sorted"=bh
 aIL:mg "str"=bh
 GU:mg "sum"=bh
 UC:mg "tuple"=bh
end Law
namespace Law
open PySem PySem.Spec PyProof.Rows L2 L4 L5 L6
local macro_rules| `(tactic| walk_at "wp")=>`(tactic| first|(simp(maxSteps:=2000000) (implicitDefEqProofs:=false) (disch:=first|rfl|decide|assumption|omega) only[L5.aHV,L5.aD8,L5.aD9,L5.aHW,L5.aHX,L5.aHY,L5.x_c,L5.aDA,L5.aDB,L5.aLX,L5.aDC,L5.U8,L5.aHZ,L5.aLY,L5.aI0,L5.aDD,L5.aDE,L5.aI1,L5.aI2,L5.aDF,L5.aI3,L5.aI4,L5.aI5,L5.x_call,L5.aLZ,L5.x_m,L5.aCZ,L5.U9,L5.Xf,L5.Xe,L5.aI6,L5.aDH,L5.aDI,L5.US,L5.Hz,L5.aDJ,L5.x_lt,L5.aM0,L5.aM1,L5.U6,L5.U5,L5.U4,L5.U3,L5.U2,L5.U1,L5.U0,L5.UZ,L5.UY,L5.UX,L5.bF,L5.UW,L5.UU,L5.UT,L5.aD0,L5.aD1,L5.aD2,L5.aD3,L5.aD4,L5.aD5,L5.aD6,L5.aD7,L5.X',L5.abC,L5.V',L5.a82,L5.Zw,L5.Zv,L5.U',L5.Xd,L5.YA,L5.Zu,L5.aI9,L5.aIA,L5.Zt,L5.Yz,L5.Yy,L6.UR,L6.aIB,L6.aDK,L6.aDL,L6.Xc,L6.UQ,L6.UP,L6.Ei,L6.aDM,L6.UN,L6.MN,L6.UM,L6.aIC,L6.aID,L6.aIF,L6.aIG,L6.UL,L8.aM2,L8.UK,L9.UJ,AD.aDP,AD.JQ,AD.aDQ,AD.aDR,AB.aDS,AB.aDT,AB.UE,AB.UD,J6.O2,L7.aDN,L7.aDO,reduceIte,reduceCtorEq];try dsimp only[L5.MS,L5.MR,L5.MQ,L5.MP,L6.NZ])|dsimp only[L5.MS,L5.MR,L5.MQ,L5.MP,L6.NZ])
local macro_rules| `(tactic| exists $ls,*)=>`(tactic| (simp(implicitDefEqProofs:=false) only[$[$ls:term],*];repeat (first|(walk_at "wp")|(simp(implicitDefEqProofs:=false) only[$[$ls:term],*]))))
local macro_rules| `(tactic| symm)=>`(tactic| repeat (walk_at "wp"))
variable{v av more m i lo:Int}{F:eY}{ex:aP->aW}{st:bw}{ps:List (Int×Int)}{M:List (List Key×bw)}{c:bw->List (Int×Int)}{z:List Key×bw}{n:Nat}{ns:List Int}{pl:D}
section
variable{K:Fg}{A:aY}{G:Gp}{R:dU}{mg:Str->Option au}
open L7 L8 L9 J6 RV AD AB
def RC{κ:Type}[DecidableEq κ]{i:κ}{v:Int}:∀{ps:List (κ×Int)},(aQ ps i).isSome=ak->aQ (ps.map λkv=>if kv.1=i then(kv.1,v)else kv) i=aj v
 |[],h=>by cases h
 |z::ps,h=>by
  rw[iw];by_cases c:z.1=i
  .rw[if_pos c];unfold aQ;rw[if_pos c]
  .rw[if_neg c];unfold aQ at h ⊢;rw[if_neg c]at h ⊢;exact RC h
def Qp{κ:Type}[DecidableEq κ]{i:κ}{v:Int}:∀{ps:List (κ×Int)},aQ ps i=bh->aQ (ps++[(i,v)]) i=aj v
 |[],_=>by show(if i=i then aj v else bh)=_;rw[if_pos rfl]
 |z::ps,h=>by
  rw[E5];unfold aQ at h ⊢;by_cases c:z.1=i
  .rw[if_pos c]at h;cases h
  .rw[if_neg c]at h ⊢;exact Qp h
private theorem Fl{κ:Type}[DecidableEq κ]{ps:List (κ×Int)}{i:κ}:aQ (bZ ps i v) i=aj v:=by
 unfold bZ;split
 ·rename_i h;exact RC h
 .rename_i h;exact Qp (by simpa using h)
def UB{κ:Type}[DecidableEq κ]{ps:List (κ×Int)}{i:κ}:(bZ ps i v).length<=ps.length+1:=by
 unfold bZ;split
 ·rw[dw];omega
 .rw[yj];exact dz _
def MJ{κ:Type}[DecidableEq κ]{ps:List (κ×Int)}{i:κ}:bZ ps i v≠[]:=λe=>by
 have:=Fl (ps:=ps) (i:=i) (v:=v);rw[e]at this;cases this
def Jm{a p:Int}(he:G e=aj (.bD ao (ps.map jD)))(hl:ps.length<1000)
  (h1:(aQ ps av).getD 0+more≠0->∀G',G' e=aj (.bD ao ((bZ ps av ((aQ ps av).getD 0+more)).map jD))->(∀q u,q≠e->G q=aj u->G' q=aj u)->F.nx [aj (.ref st),aj (.tup [.int a,.int p]),aj (.int av),aj (.int more),aj (.ref e)] G')
  (h2:(aQ ps av).getD 0+more=0->∀G',G' e=aj (.bD ao ((bH (bZ ps av 0) av).map jD))->(∀q u,q≠e->G q=aj u->G' q=aj u)->nQ K A ex F [aj (.ref st),aj (.tup [.int a,.int p]),aj (.int av),aj (.int more),aj (.ref e)] G') :
  yV K A ex F [aj (.ref st),aj (.tup [.int a,.int p]),aj (.int av),aj (.int more),aj (.ref e)] G:=by
 have big:10000<dh:=by decide
 exists yV,lG he;rw[v9 he rD rfl]
 have eg:(aQ (ps.map jD) (.inl (.inl av))).getD (.int 0)=.int ((aQ ps av).getD 0):=by
  rw[wM];cases aQ ps av<;>rfl
 rw[eg];generalize hv:(aQ ps av).getD 0+more=v at h1 h2;symm;rw[hv,zR he rD rfl (by rw[dw];omega),Ii];generalize mv:aG G e _=G1;have e1:G1 e=aj (.bD ao ((bZ ps av v).map jD)):=by rw[←mv,aF]
 have k1:∀q u,q≠e->G q=aj u->G1 q=aj u:=λq u n z=>by rw[←mv,aM n];exact z
 have lp:=UB (ps:=ps) (i:=av) (v:=v);exists Q2,lG e1;rw[jW e1 rD rfl (by rw[wM,Fl];rfl)];symm;by_cases c:v=0
 .rw[if_pos (by rw[c];rfl)];rw[Ih e1 rD rfl (by rw[wM,Fl];rfl),W9];refine⟨by rw[lG e1];trivial,?_⟩;refine h2 c (aG G1 e (.bD ao ((bH (bZ ps av v) av).map jD))) (by rw[aF,c]) λq u n z=>?_;rw[aM n];exact k1 q u n z
 .rw[if_neg (by simpa using c)];exists nQ;rw[Ij e1];symm;rw[if_neg]
  .exact h1 c G1 e1 k1
  .simpa using MJ (ps:=ps) (i:=av) (v:=v)
def abX{a p:Int}(hs:G st=aj (.bD ak (M.map n6)))(hl:M.length<1000)(hk:aQ M (ky a p)=bh)(hm:more≠0)
  (h:∀e G',G e=bh->G' st=aj (.bD ak ((M++[(ky a p,e)]).map n6))->G' e=aj (.bD ao ([(av,more)].map jD))->(∀q u,q≠st->G q=aj u->G' q=aj u)->R .ag G'):jK K A [.ref st,.tup [.int a,.int p],.int av,.int more] G R EX:=by
 have big:10000<dh:=by decide
 refine⟨rfl,?_⟩;have h':∀e G',G e=bh->G' st=aj (.bD ak ((M++[(ky a p,e)]).map n6))->G' e=aj (.bD ao ([(av,more)].map jD))->(∀q u,q≠st->G q=aj u->G' q=aj u)->aR R .ag G':=λe G' a b c d=>aR.here (h e G' a b c d);clear h;show nR K A _ _ [aj (.ref st),aj (.tup [.int a,.int p]),aj (.int av),aj (.int more),bh] G;exists nR,lG hs;intro e he;have ne:e≠st:=λz=>by rw[z,hs]at he;cases he
 have yb:aG G e (.bD ao []) st=aj (.bD ak (M.map n6)):=fZ hs he;rw[NY yb jX rfl (by rw[dw];omega) (by rw[mD,hk];rfl)];generalize mv:aG (aG G e (.bD ao [])) st _=G1;have e1:G1 e=aj (.bD ao (([]:List (Int×Int)).map jD)):=by rw[←mv,aM ne,aF];rfl
 have s1:G1 st=aj (.bD ak ((M++[(ky a p,e)]).map n6)):=by rw[←mv,aF,qe];rfl
 have k1:∀q u,q≠st->G q=aj u->G1 q=aj u:=λq u n z=>by
  rw[←mv,aM n];exact fZ z he
 refine Jm e1 (by simp) (λ_ G2 e2 k2=>?_) λz=>?_
 .refine h' e G2 he (k2 _ _ (Ne.symm ne) s1) (by rw[e2];show aj (GO.bD ao ([(av,0+more)].map jD))=_;rw[Int.zero_add]) λq u n z=>k2 q u (λw=>by rw[w,he]at z;cases z) (k1 q u n z)
 .exact absurd z (by show(0:Int)+more≠0;rw[Int.zero_add];exact hm)
def abY{d:bw}{a p:Int}(hs:G st=aj (.bD ak (M.map n6)))(hl:M.length<1000)(hk:aQ M (ky a p)=aj d)(hd:G d=aj (.bD ao (ps.map jD)))(hp:ps.length<1000)
  (h1:(aQ ps av).getD 0+more≠0->∀G',G' d=aj (.bD ao ((bZ ps av ((aQ ps av).getD 0+more)).map jD))->(∀q u,q≠d->G q=aj u->G' q=aj u)->R .ag G')
  (h2:(aQ ps av).getD 0+more=0->bH (bZ ps av 0) av=[]->∀G',G' st=aj (.bD ak ((bH M (ky a p)).map n6))->(∀q u,q≠d->q≠st->G q=aj u->G' q=aj u)->R .ag G')
  (h3:(aQ ps av).getD 0+more=0->bH (bZ ps av 0) av≠[]->∀G',G' d=aj (.bD ao ((bH (bZ ps av 0) av).map jD))->(∀q u,q≠d->G q=aj u->G' q=aj u)->R .ag G'):jK K A [.ref st,.tup [.int a,.int p],.int av,.int more] G R EX:=by
 have big:10000<dh:=by decide
 refine⟨rfl,?_⟩;show nR K A _ _ [aj (.ref st),aj (.tup [.int a,.int p]),aj (.int av),aj (.int more),bh] G;exists nR,lG hs;intro e he;have ne:st≠d:=λz=>by rw[z,hd]at hs;cases hs
 have yb:aG G e (.bD ao []) st=aj (.bD ak (M.map n6)):=fZ hs he;have Tl:aG G e (.bD ao []) d=aj (.bD ao (ps.map jD)):=fZ hd he;rw[UI yb jX rfl (by rw[dw];omega) (by rw[mD,hk];rfl)];refine Jm Tl hp (λc G2 e2 k2=>aR.here (h1 c G2 e2 λq u n z=>k2 q u n (fZ z he))) λc G2 e2 k2=>?_;exists nQ;rw[Ij e2];symm;by_cases c2:bH (bZ ps av 0) av=[]
 .rw[c2,if_pos (by simp)];have s2:=k2 _ _ ne yb;exists lG s2;rw[Ih s2 jX rfl (by rw[mD,hk];rfl),O3];refine aR.here (h2 c c2 _ aF λq u n n2 z=>?_);rw[aM n2];exact k2 q u n (fZ z he)
 .rw[if_neg]
  .exact aR.here (h3 c c2 G2 e2 λq u n z=>k2 q u n (fZ z he))
  .have:=List.length_pos_iff.mpr c2;simp;omega
abbrev cn(M:List (List Key×bw))(c:bw->List (Int×Int))(k:List Key):List (Int×Int):=match aQ M k with
 |some d=>c d
 |none=>[]
variable{κ:Type}[DecidableEq κ]
abbrev bM(ps:List (κ×Int))(l:κ):Int:=(aQ ps l).getD 0
abbrev eP(ps:List (κ×Int)):Int:=(ps.map (·.2)).sum
def Fj:bM ([]:List (κ×Int)) l=0:=rfl
def cI{q:κ×Int}{ps:List (κ×Int)}:bM (q::ps) l=if q.1=l then q.2 else bM ps l:=by
 unfold bM;rw[aQ];split<;>rfl
def oK{q:κ×Int}{ps:List (κ×Int)}:eP (q::ps)=q.2+eP ps:=by simp[eP]
def UA{ps:List (κ×Int)}:eP (ps++qs)=eP ps+eP qs:=by simp[eP]
def oM{κ α:Type}[DecidableEq κ]{k:κ}:∀{l:List (κ×α)},aQ l k=bh↔k∉l.map (·.1)
 |[]=>by simp[aQ]
 |z::r=>by
  rw[aQ];by_cases c:z.1=k
  .simp[c]
  .have:¬ k=z.1:=λe=>c e.symm;simp[c,this,oM (l:=r)]
def jR{κ α:Type}[DecidableEq κ]{z:κ×α}:∀{l:List (κ×α)},(l.map (·.1)).Nodup->z∈l->aQ l z.1=aj z.2
 |[],_,h=>by cases h
 |y::r,nd,h=>by
  rw[iw,tu]at nd;rw[aQ];rcases lg.mp h with e|h
  .rw[if_pos (by rw[e]),e]
  .rw[if_neg (λc=>nd.1 (by rw[c];exact gk.mpr ⟨z,h,rfl⟩))];exact jR nd.2 h
private theorem lD{κ α:Type}[DecidableEq κ]{k:κ}{v:α}:∀{l:List (κ×α)},aQ l k=aj v->(k,v)∈l
 |[],h=>by cases h
 |z::r,h=>by
  rw[aQ]at h;split at h
  .rename_i c;cases h;rw[←c];exact .head _
  .exact qu _ (lD h)
def map_put{ps:List (κ×Int)}{w:Int}(nd:(ps.map (·.1)).Nodup):(∀l',bM (ps.map λkv=>if kv.1=l then(kv.1,w)else kv) l'=if l'=l/\l∈ps.map (·.1)then w else bM ps l')/\eP (ps.map λkv=>if kv.1=l then(kv.1,w)else kv)=eP ps+(if l∈ps.map (·.1)then w - bM ps l else 0):=by
 induction ps with
 |nil=>exact⟨λl'=>by simp[Fj],by simp[eP]⟩
 |cons q r ih =>
  rw[iw,tu]at nd;let⟨i1,i2⟩:=ih nd.2;by_cases c:q.1=l
  .have nl:l∉r.map (·.1):=c ▸ nd.1
   have er:(r.map λkv=>if kv.1=l then(kv.1,w)else kv)=r:=by
    conv=>rhs;rw[←List.map_id r]
    refine yx λz hz=>?_;rw[if_neg (λe=>nl (by rw[←e];exact gk.mpr ⟨z,hz,rfl⟩))];rfl
   refine⟨λl'=>?_,?_⟩
   .rw[iw,er,cI,cI,if_pos c];by_cases e:l'=l
    .subst e;simp[c]
    .have:¬ l=l':=λz=>e z.symm;simp[c,e,this]
   .rw[iw,er,oK,oK,if_pos c,cI,if_pos c];simp[c];omega
  .refine⟨λl'=>?_,?_⟩
   .rw[iw,if_neg c,cI,cI,i1];by_cases e:q.1=l'
    .subst e;simp[c]
    .have:¬ l=q.1:=λz=>c z.symm;rw[if_neg e,if_neg e];simp only[iw,lg,this,false_or]
   .rw[iw,if_neg c,oK,oK,i2,cI,if_neg c];have:¬ l=q.1:=λz=>c z.symm;simp only[iw,lg,this,false_or];omega
def Jl{ps:List (κ×Int)}(h:l∉ps.map (·.1)):bM ps l=0:=by unfold bM;rw[oM.mpr h];rfl
private theorem EH{ps:List (κ×Int)}{w:Int}(nd:(ps.map (·.1)).Nodup):(∀l',bM (bZ ps l w) l'=if l'=l then w else bM ps l')/\eP (bZ ps l w)=eP ps+w - bM ps l/\((bZ ps l w).map (·.1)).Nodup/\(∀q∈bZ ps l w,q∈ps∨q=(l,w))/\(bZ ps l w).length<=ps.length+1:=by
 have key:(aQ ps l).isSome=ak↔l∈ps.map (·.1):=by
  cases q:aQ ps l with
  |none=>simp only[Option.isSome_none,jf,false_iff];exact oM.mp q
  |some v=>simp only[Option.isSome_some,true_iff];exact gk.mpr ⟨_,lD q,rfl⟩
 unfold bZ;split
 ·rename_i h;have hm:=key.mp h;let⟨m1,m2⟩:=map_put (w:=w) (l:=l) nd;refine⟨λl'=>by rw[m1];simp only[hm,and_true],by rw[m2,if_pos hm];omega,?_,λq hq=>?_,by simp⟩
  .have:(ps.map λkv=>if kv.1=l then(kv.1,w)else kv).map (·.1)=ps.map (·.1):=by
    rw[ni];refine yx λz _=>?_;simp only[Function.comp];split<;>rfl
   rw[this];exact nd
  .obtain⟨z,hz,rfl⟩:=gk.mp hq;split
   ·rename_i c;exact .inr (by rw[c])
   .exact .inl hz
 .rename_i h;have hm:l∉ps.map (·.1):=λz=>h (key.mpr z);refine⟨λl'=>?_,by rw[UA,Jl hm];simp[eP],?_,λq hq=>?_,by simp⟩
  .have:∀qs:List (κ×Int),l∉qs.map (·.1)->bM (qs++[(l,w)]) l'=if l'=l then w else bM qs l':=by
    intro qs
    induction qs with
    |nil =>
     intro _;rw[List.nil_append,cI];by_cases e:l'=l
     .subst e;simp
     .have:¬ l=l':=λz=>e z.symm;simp[e,this]
    |cons q r ih =>
     intro hn;simp only[iw,lg,not_or]at hn;rw[E5,cI,cI,ih hn.2];by_cases e:q.1=l'
     .subst e;have:¬ q.1=l:=λz=>hn.1 z.symm;simp[this]
     .simp[e]
   exact this ps hm
  .rw[qe,zu];refine⟨nd,by simp,λa ha b hb e=>?_⟩;simp at hb;exact hm (by rw[←hb,←e];exact ha)
  .rcases uo.mp hq with hq|hq
   .exact .inl hq
   .exact .inr (ql.mp hq)
def Jk{ps:List (κ×Int)}(nd:(ps.map (·.1)).Nodup):(∀l',bM (bH ps l) l'=if l'=l then 0 else bM ps l')/\eP (bH ps l)=eP ps - bM ps l/\((bH ps l).map (·.1)).Nodup/\(∀q∈bH ps l,q∈ps/\q.1≠l)/\(bH ps l).length<=ps.length:=by
 have sub:∀q∈bH ps l,q∈ps/\q.1≠l:=λq hq=>by
  let⟨a,b⟩:=xg.mp hq;exact⟨a,by simpa using b⟩
 have both:(∀l',bM (bH ps l) l'=if l'=l then 0 else bM ps l')/\eP (bH ps l)=eP ps - bM ps l:=by
  clear sub
  induction ps with
  |nil=>exact⟨λl'=>by simp[bH,Fj],by simp[bH,eP,Fj]⟩
  |cons q r ih =>
   rw[iw,tu]at nd;let⟨i1,i2⟩:=ih nd.2;by_cases c:q.1=l
   .have e:bH (q::r) l=bH r l:=by simp[bH,c]
    have nl:l∉r.map (·.1):=c ▸ nd.1;refine⟨λl'=>?_,?_⟩
    .rw[e,i1,cI];by_cases z:l'=l
     .simp[z]
     .have:¬ l=l':=λw=>z w.symm;simp[z,c,this]
    .rw[e,i2,oK,cI,if_pos c,Jl nl];omega
   .have e:bH (q::r) l=q::bH r l:=by simp[bH,c]
    refine⟨λl'=>?_,?_⟩
    .rw[e,cI,cI,i1];by_cases z:q.1=l'
     .subst z;simp[c]
     .simp[z]
    .rw[e,oK,oK,i2,cI,if_neg c];omega
 refine⟨both.1,both.2,?_,sub,zc _ _⟩;exact nd.sublist ((JH).map _)
def OY{ps:List (κ×Int)}{w:Int}(h:(aQ ps l).isSome=ak):(bZ ps l w).length=ps.length:=by unfold bZ;rw[if_pos h,dw]
abbrev setC(c:bw->List (Int×Int))(d:bw)(ps:List (Int×Int)):bw->List (Int×Int):=λq=>if q=d then ps else c q
def iH{d:bw}:setC c d ps d=ps:=if_pos rfl
def wQ{d:bw}(h:q≠d):setC c d ps q=c q:=if_neg h
variable{st:bw}{M:List (List Key×bw)}{c:bw->List (Int×Int)}
def NS{k:List Key}(n:k≠k'):∀{M:List (List Key×bw)},aQ (M++[(k',e)]) k=aQ M k
 |[]=>by
  show(if k'=k then aj e else bh)=bh;rw[if_neg (Ne.symm n)]
 |z::r=>by
  rw[E5,aQ,aQ,NS n]
def Jj{k:List Key}(n:k≠k'):∀{M:List (List Key×bw)},aQ (bH M k') k=aQ M k
 |[]=>rfl
 |z::r=>by
  by_cases e:z.1=k'
  .have er:bH (z::r) k'=bH r k':=by simp[bH,e]
   rw[er,Jj n,aQ,if_neg (by rw[e];exact Ne.symm n)]
  .have er:bH (z::r) k'=z::bH r k':=by simp[bH,e]
   rw[er,aQ,aQ,Jj n]
def NR{z y:List Key×bw}:∀{M:List (List Key×bw)},(M.map (·.2)).Nodup->z∈M->y∈M->z.2=y.2->z=y
 |[],_,h,_,_=>by cases h
 |w::r,nd,h1,h2,e=>by
  rw[iw,tu]at nd;rcases lg.mp h1 with a|a<;>rcases lg.mp h2 with b|b
  .rw[a,b]
  .exact absurd (by rw[←a,e];exact gk.mpr ⟨_,b,rfl⟩) nd.1
  .exact absurd (by rw[←b,←e];exact gk.mpr ⟨_,a,rfl⟩) nd.1
  .exact NR nd.2 a b e
abbrev Kp(st:bw)(M M':List (List Key×bw))(G G':Gp):Prop:=(∀q u,q≠st->q∉M.map (·.2)->G q=aj u->G' q=aj u)/\∀q∈M'.map (·.2),q∈M.map (·.2)∨G q=bh
variable{l:Int}
def aDV(v:Int):bM [(av,v)] l=if l=av then v else 0:=by
 rw[cI];by_cases e:l=av
 .rw[if_pos e.symm,if_pos e]
 .rw[if_neg (Ne.symm e),if_neg e];rfl
structure SK(n:Nat)(st:bw)(M:List (List Key×bw))(c:bw->List (Int×Int))(G:Gp):Prop where
 st:G st=aj (.bD ak (M.map n6))
 ins:∀z∈M,G z.2=aj (.bD ao ((c z.2).map jD))
 kn:(M.map (·.1)).Nodup
 an:(M.map (·.2)).Nodup
 ks:∀z∈M,∃a p:Int,z.1=ky a p
 bn:∀z∈M,((c z.2).map (·.1)).Nodup/\(∀q∈c z.2,q.2≠0)/\c z.2≠[]/\(c z.2).length<=n
 len:M.length<=n
def Eh{k:List Key}{d:bw}(e:aQ M k=aj d):cn M c k=c d:=by unfold cn;rw[e]
def Hx{k:List Key}(e:aQ M k=bh):cn M c k=[]:=by unfold cn;rw[e]
def MI{k:List Key}{d:bw}(an:(M.map (·.2)).Nodup)(h1:z∈M)(h2:(k,d)∈M)(n:z.1≠k):z.2≠d:=λe=>by
 have:=NR an h1 h2 e;rw[this]at n;exact n rfl
def E1{α:Type}{l:List α}{a:α}(n:l.Nodup)(h:a∉l):(l++[a]).Nodup:=by
 rw[zu];exact⟨n,by simp,λx hx y hy=>by rw[ql.mp hy];exact λe=>h (e ▸ hx)⟩
def SK.aM4{k:List Key}{d:bw}(an:(M.map (·.2)).Nodup)(hk:aQ M k=aj d)(k':List Key):cn M (setC c d ps) k'=if k'=k then ps else cn M c k':=by
 by_cases e:k'=k
 .rw[if_pos e,e,Eh hk,iH]
 .rw[if_neg e];unfold cn;cases q:aQ M k' with
  |none=>rfl
  |some d' =>
   show setC c d ps d'=c d';exact wQ (MI (z:=(k',d')) an (lD q) (lD hk) e)
def H0{k:List Key}:∀{M:List (List Key×bw)},aQ M k=bh->aQ (M++[(k,e)]) k=aj e
 |[],_=>by show(if k=k then aj e else bh)=_;rw[if_pos rfl]
 |z::M,h=>by
  rw[E5];unfold aQ at h ⊢;by_cases c:z.1=k
  .rw[if_pos c]at h;cases h
  .rw[if_neg c]at h ⊢;exact H0 h
def a8E{a p:Int}(hs:G st=aj (.bD ak (M.map n6)))(hl:M.length<1000)(hk:aQ M (ky a p)=bh)
  (h:∀e G',G e=bh->G' st=aj (.bD ak (M.map n6))->(∀q u,G q=aj u->G' q=aj u)->R .ag G'):jK K A [.ref st,.tup [.int a,.int p],.int av,.int 0] G R EX:=by
 have big:10000<dh:=by decide
 refine⟨rfl,?_⟩;show nR K A _ _ [aj (.ref st),aj (.tup [.int a,.int p]),aj (.int av),aj (.int 0),bh] G;exists nR,lG hs;intro e he;have ne:e≠st:=λz=>by rw[z,hs]at he;cases he
 have yb:aG G e (.bD ao []) st=aj (.bD ak (M.map n6)):=fZ hs he;rw[NY yb jX rfl (by rw[dw];omega) (by rw[mD,hk];rfl)];generalize mv:aG (aG G e (.bD ao [])) st _=G1;have e1:G1 e=aj (.bD ao (([]:List (Int×Int)).map jD)):=by rw[←mv,aM ne,aF];rfl
 have s1:G1 st=aj (.bD ak ((M++[(ky a p,e)]).map n6)):=by rw[←mv,aF,qe];rfl
 have k1:∀q u,q≠st->G q=aj u->G1 q=aj u:=λq u n z=>by
  rw[←mv,aM n];exact fZ z he
 refine Jm e1 (by simp) (λz=>absurd rfl z) λ_ G2 e2 k2=>?_;exists nQ;have ed:bH (bZ ([]:List (Int×Int)) av 0) av=[]:=by simp[bH,bZ,aQ]
 rw[ed]at e2;rw[Ij e2];symm;have s2:=k2 _ _ (Ne.symm ne) s1;have vk:aQ (M++[(ky a p,e)]) (ky a p)=aj e:=H0 hk;exists lG s2;rw[Ih s2 jX rfl (by rw[mD,vk];rfl),O3]
 have TV:bH (M++[(ky a p,e)]) (ky a p)=M:=by
  unfold bH;rw[List.filter_append,uh,if_neg (by simp),List.filter_nil,se]
  exact JI.mpr λz hz=>by
   have:=oM.mp hk;simp only[jc,decide_eq_false_iff_not];exact λq=>this (gk.mpr ⟨z,hz,q⟩)
 rw[TV];refine aR.here (h e _ he aF λq u z=>?_);by_cases c:q=st
 .rw[c,hs]at z;cases z;rw[c,aF]
 .rw[aM c];exact k2 q u (λw=>by rw[w,he]at z;cases z) (k1 q u c z)
def aDW(S:SK n st M c G)(hn:n<900){a p:Int}
  (h:∀M' c' G',SK (n+1) st M' c' G'->(∀k l,bM (cn M' c' k) l=bM (cn M c k) l+if k=ky a p/\l=av then more else 0)->Kp st M M' G G'->R .ag G'):jK K A [.ref st,.tup [.int a,.int p],.int av,.int more] G R EX:=by
 have hl:=S.len;cases hk:aQ M (ky a p)with
 |none =>
  by_cases hm:more=0
  .subst hm;refine a8E S.st ⋯ hk λe G' he s1 k1=>h M c G' ⟨s1,λz hz=>k1 _ _ (S.ins z hz),S.kn,S.an,S.ks,λz hz=>⟨(S.bn z hz).1,(S.bn z hz).2.1,(S.bn z hz).2.2.1,E7 (S.bn z hz).2.2.2⟩,E7 hl⟩ (λk l=>by split<;>simp) ⟨λq u _ _ z=>k1 q u z,λq hq=>.inl hq⟩
  .refine abX S.st ⋯ hk hm λe G' he s1 e1 k1=>?_;have ne:∀z∈M,z.2≠e:=λz hz w=>by have:=S.ins z hz;rw[w,he]at this;cases this
   have nk:=oM.mp hk;have x6:∀z∈M,z.2≠st:=λz hz w=>by have:=S.ins z hz;rw[w,S.st]at this;cases this
   have ce:∀z∈M,setC c e [(av,more)] z.2=c z.2:=λz hz=>wQ (ne z hz);refine h (M++[(ky a p,e)]) (setC c e [(av,more)]) G' ⟨s1,λz hz=>?_,?_,?_,λz hz=>?_,λz hz=>?_,by simp;omega⟩ (λk l=>?_) ⟨λq u n1 _ z=>k1 q u n1 z,λq hq=>?_⟩
   .rcases uo.mp hz with hz|hz
    .rw[ce z hz];exact k1 _ _ (x6 z hz) (S.ins z hz)
    .rw[ql.mp hz];show G' e=_;rw[iH];exact e1
   .rw[qe];exact E1 S.kn nk
   .rw[qe];exact E1 S.an λw=>by
     let⟨z,hz,e⟩:=gk.mp w;exact ne z hz e
   .rcases uo.mp hz with hz|hz
    .exact S.ks z hz
    .rw[ql.mp hz];exact⟨a,p,rfl⟩
   .rcases uo.mp hz with hz|hz
    .rw[ce z hz];let⟨b1,b2,b3,b4⟩:=S.bn z hz;exact⟨b1,b2,b3,⋯⟩
    .rw[ql.mp hz];show((setC c e [(av,more)] e).map (·.1)).Nodup/\_;rw[iH];exact⟨by simp,λq hq=>by rw[ql.mp hq];exact hm,by simp,by simp⟩
   .by_cases e0:k=ky a p
    .subst e0;have v1:aQ (M++[(ky a p,e)]) (ky a p)=aj e:=H0 hk;rw[Eh v1,iH,Hx hk,aDV];simp[Fj]
    .have v1:cn (M++[(ky a p,e)]) (setC c e [(av,more)]) k=cn M c k:=by
      unfold cn;rw[NS e0];cases q:aQ M k with
      |none=>rfl
      |some d=>exact ce _ (lD q)
     rw[v1,if_neg (λw=>e0 w.1),oQ]
   .rw[qe]at hq;rcases uo.mp hq with hq|hq
    .exact .inl hq
    .rw[ql.mp hq];exact .inr he
 |some d =>
  have hd:=lD hk;have x6:∀z∈M,z.2≠st:=λz hz w=>by have:=S.ins z hz;rw[w,S.st]at this;cases this
  have bq:((c d).map (·.1)).Nodup/\(∀q∈c d,q.2≠0)/\c d≠[]/\(c d).length<=n:=S.bn _ hd;let⟨b1,b2,b3,b4⟩:=bq;have v0:(aQ (c d) av).getD 0=bM (c d) av:=rfl;let⟨p1,_,p3,p4,p5⟩:=EH (l:=av) (w:=bM (c d) av+more) b1
  have fin:∀(ps:List (Int×Int))(G':Gp),((ps.map (·.1)).Nodup/\(∀q∈ps,q.2≠0)/\ps≠[]/\ps.length<=n+1)->(∀l,bM ps l=bM (c d) l+if l=av then more else 0)->G' d=aj (.bD ao (ps.map jD))->(∀q u,q≠d->G q=aj u->G' q=aj u)->R .ag G':=λps G' hb hv e1 k1=>by
   refine h M (setC c d ps) G' ⟨k1 _ _ (Ne.symm (x6 _ hd)) S.st,λz hz=>?_,S.kn,S.an,S.ks,λz hz=>?_,⋯⟩ (λk l=>?_) ⟨λq u _ n2 z=>k1 q u (λw=>n2 (by rw[w];exact gk.mpr ⟨_,hd,rfl⟩)) z,λq hq=>.inl hq⟩
   .by_cases e:z.2=d
    .rw[e,iH];exact e1
    .rw[wQ e];exact k1 _ _ e (S.ins z hz)
   .by_cases e:z.2=d
    .rw[e,iH];exact hb
    .rw[wQ e];let⟨c1,c2,c3,c4⟩:=S.bn z hz;exact⟨c1,c2,c3,⋯⟩
   .rw[SK.aM4 S.an hk];by_cases e:k=ky a p
    .rw[if_pos e,hv,e,Eh hk];simp
    .rw[if_neg e,if_neg (λw=>e w.1),oQ]
  have vd:(aQ (c d) av).getD 0+more=0->∀l,bM (bH (bZ (c d) av 0) av) l=bM (c d) l+if l=av then more else 0:=λz l=>by
   have q1:=EH (l:=av) (w:=0) b1;have q2:=Jk (l:=av) q1.2.2.1;rw[q2.1 l,q1.1 l];rw[v0]at z;by_cases e:l=av
   .rw[if_pos e,if_pos e,e];omega
   .rw[if_neg e,if_neg e,if_neg e,oQ]
  have bd:((bH (bZ (c d) av 0) av).map (·.1)).Nodup/\(∀q∈bH (bZ (c d) av 0) av,q.2≠0)/\(bH (bZ (c d) av 0) av).length<=n+1:=by
   have q1:=EH (l:=av) (w:=0) b1;have q2:=Jk (l:=av) q1.2.2.1;refine⟨q2.2.2.1,λq hq=>?_,?_⟩
   .obtain⟨m1,m2⟩:=q2.2.2.2.1 q hq;rcases q1.2.2.2.1 q m1 with m|m
    .exact b2 q m
    .rw[m]at m2;exact absurd rfl m2
   .have:=q2.2.2.2.2;have:=q1.2.2.2.2;omega
  refine abY S.st ⋯ hk (S.ins _ hd) (by show(c d).length<1000;omega) (λz G' e1 k1=>?_) (λz ed G' s1 k1=>?_) λz ed G' e1 k1=>?_
  .refine fin _ G' ⟨p3,λq hq=>?_,MJ,⋯⟩ (λl=>?_) e1 k1
   .have z:bM (c d) av+more≠0:=z;rcases p4 q hq with m|m
    .exact b2 q m
    .rw[m];exact z
   .rw[p1 l];by_cases e:l=av
    .rw[if_pos e,if_pos e,e]
    .rw[if_neg e,if_neg e,oQ]
  .have vl:=vd z;rw[show bH (bZ (c (ky a p,d).2) av 0) av=bH (bZ (c d) av 0) av from rfl]at ed;rw[ed]at vl
   have sub:∀z∈bH M (ky a p),z∈M/\z.1≠ky a p:=λz hz=>by
    let⟨h1,h2⟩:=xg.mp hz;exact⟨h1,by simpa using h2⟩
   have sl:(bH M (ky a p)).Sublist M:=JH;refine h (bH M (ky a p)) c G' ⟨s1,λz hz=>k1 _ _ (MI S.an (sub z hz).1 hd (sub z hz).2) (x6 z (sub z hz).1) (S.ins z (sub z hz).1),(sl.map _).nodup S.kn,(sl.map _).nodup S.an,λz hz=>S.ks z (sub z hz).1,λz hz=>?_,?_⟩ (λk l=>?_) ⟨λq u n1 n2 z=>k1 q u (λw=>n2 (by rw[w];exact gk.mpr ⟨_,hd,rfl⟩)) n1 z,λq hq=>?_⟩
   .obtain⟨c1,c2,c3,c4⟩:=S.bn z (sub z hz).1;exact⟨c1,c2,c3,⋯⟩
   .have:=sl.length_le;omega
   .by_cases e:k=ky a p
    .have vn:aQ (bH M (ky a p)) k=bh:=oM.mpr λw=>by
      let⟨z,hz,q⟩:=gk.mp w;exact(sub z hz).2 (q.trans e)
     rw[Hx vn,e,Eh hk];have:=vl l;simpa using this
    .have:cn (bH M (ky a p)) c k=cn M c k:=by unfold cn;rw[Jj e]
     rw[this,if_neg (λw=>e w.1),oQ]
   .obtain⟨z,hz,e⟩:=gk.mp hq;exact .inl (gk.mpr ⟨z,(sub z hz).1,e⟩)
  .exact fin _ G' ⟨bd.1,bd.2.1,ed,bd.2.2⟩ (vd z) e1 k1
def BP(kn:(M.map (·.1)).Nodup)(h:z∈M):cn M c z.1=c z.2:=by
 unfold cn;rw[jR kn h]
def EG{κ α:Type}[DecidableEq κ]{k:κ}{v:α}{l:List (κ×α)}(h:k∉l.map (·.1)):bZ l k v=l++[(k,v)]:=by
 unfold bZ;rw[oM.mpr h];rfl
def Qo:∀qs:List (Int×Int),An (qs.map bW)=aj (qs.map λq=>(.inl q.1,.int q.2))
 |[]=>rfl
 |q::r=>by
  rw[iw,An,Qo r];rfl
def fold_all:∀(qs ds:List (Int×Int)),((ds++qs).map (·.1)).Nodup->BS (ds.map jD) (qs.map λq=>(.inl q.1,.int q.2))=(ds++qs).map jD
 |[],ds,_=>by rw[se];rfl
 |q::r,ds,nd=>by
  have hn:q.1∉ds.map (·.1):=λh=>by
   rw[qe,zu]at nd;exact nd.2.2 q.1 h q.1 (by simp) rfl
  show BS (bZ (ds.map jD) (.inl (.inl q.1)) (.int q.2)) (r.map λq=>(.inl q.1,.int q.2))=_;rw[Ii,EG hn,fold_all r (ds++[(q.1,q.2)]) (by rw[Cg];exact nd),Cg];rfl
def Yr{qs:List (Int×Int)}(h:bB G r=aj (qs.map bW))(nd:(qs.map (·.1)).Nodup):sE [.ref r] G R=∀e,G e=bh->R (.ref e) (aG G e (.bD ao (qs.map jD))):=by
 unfold L2.sE;simp only[h,Qo];rw[show BS [] (qs.map λq=>(.inl q.1,.int q.2))=qs.map jD from fold_all qs [] nd]
@[simp]def kq(q:Int×Int):List Key:=ky q.1 q.2
def NQ:∀{M:List (List Key×bw)},(∀z∈M,∃a p:Int,z.1=ky a p)->∃ps:List (Int×Int),M.map (·.1)=ps.map kq
 |[],_=>⟨[],rfl⟩
 |z::r,h=>by
  let⟨a,p,e⟩:=h z (.head _);let⟨ps,e2⟩:=NQ (M:=r) λy hy=>h y (.tail _ hy);exact⟨(a,p)::ps,by rw[iw,iw,e,e2]⟩
def sort_keys(h:G st=aj (.bD ak (M.map n6)))(kn:(M.map (·.1)).Nodup)(ks:∀z∈M,∃a p:Int,z.1=ky a p)(hl:M.length<64)(k:∀(qs:List (Int×Int))(r:bw),(qs.map kq).Perm (M.map (·.1))->c7 qs->G r=bh->R (.ref r) (aG G r (.lst (qs.map bW)))):wK [.ref st] G R:=by
 let⟨ps,e⟩:=NQ ks;have nd:ps.Nodup:=pb.of_map kq (λa b h e=>h (by rw[e])) (e ▸ kn);have len:ps.length=M.length:=by have:=congrArg pf e;simpa using this.symm
 refine W6 (ps:=ps) h ?_ nd ⋯ λqs p1 p2 r hr=>k qs r (e ▸ p1.map kq) p2 hr;rw[ni,show(λq:DK×D=>cK q.1)∘n6=(λks=>cK (.inr ks))∘(λz:List Key×bw=>z.1)from rfl,←ni,e,ni];rfl
structure Lyg(M:List (List Key×bw))(c:bw->List (Int×Int))(G:Gp)(t:bw)(qs:List (Int×Int))(N:List (List Key×bw))(c':bw->List (Int×Int))(G':Gp):Prop where
 t0:G t=bh
 tt:G' t=aj (.bD ak (N.map n6))
 ri:c7 qs
 kq:N.map (·.1)=qs.map kq
 ke:(N.map (·.1)).Perm (M.map (·.1))
 ins:∀z∈N,G' z.2=aj (.bD ao ((c' z.2).map jD))/\(c' z.2).Perm (cn M c z.1)/\c7 (c' z.2)/\G z.2=bh
def Yq(s:SK n st M c G)(hm:M.length<64)(hc:∀z∈M,(c z.2).length<64)(h:∀t qs N c' G',Le G G'->Lyg M c G t qs N c' G'->R (.ref t) G'):pC K A [.ref st] G R EX:=by
 have big:10000<dh:=by decide
 refine⟨rfl,?_⟩;show yW K A _ _ [aj (.ref st),bh,bh] G;exists yW;intro t ht;have l1:Le G (aG G t (.bD ak [])):=.new ht;exists RJ;refine Or.inl (sort_keys (l1 _ _ s.st) s.kn s.ks hm λqs r pq ri hr=>?_);have l2:Le (aG G t (.bD ak [])) (aG (aG G t (.bD ak [])) r (.lst (qs.map bW))):=.new hr;have nr:r≠t:=λz=>by rw[z]at hr;rw[aF]at hr;cases hr
 have qn:(qs.map kq).Nodup:=pq.nodup_iff.mpr s.kn;rw[n8 bF];refine rC (λk ρ G'=>bB G' r=aj (qs.map bW)/\∃r2 N c',ρ=[aj (.ref st),aj (.ref t),r2]/\Le G G'/\G' t=aj (.bD ak (N.map n6))/\N.map (·.1)=(qs.take k).map kq/\∀z∈N,G' z.2=aj (.bD ao ((c' z.2).map jD))/\(c' z.2).Perm (cn M c z.1)/\c7 (c' z.2)/\G z.2=bh) ⟨bF,_,[],c,rfl,l1.trans l2,l2 _ _ aF,rfl,λz hz=>nomatch hz⟩ (λk ρ G' h=>h.1) (λk d' ρ G' mn hh=>?_) λρ G' hh=>?_
 .obtain⟨hl,r2,N,c',rfl,l3,tt,ek,hi⟩:=hh;let⟨q,eq,rfl⟩:=Al mn;let⟨a,p⟩:=q;have Ta:kq (a,p)∈M.map (·.1):=pq.mem_iff.mp (gk.mpr ⟨_,qd eq,rfl⟩);let⟨⟨kk,d⟩,hz,e1⟩:=gk.mp Ta;have e1:kk=ky a p:=e1;subst e1;have vd:=jR s.kn hz;have SS:=hz;have hd:=s.ins _ hz;have bq:((c d).map (·.1)).Nodup/\(∀q∈c d,q.2≠0)/\c d≠[]/\(c d).length<=n:=s.bn _ hz;let⟨bn,_,_,bl⟩:=bq;exists xU;rw[show bW (a,p)=.tup [.int a,.int p]from rfl];rw[jW (l3 _ _ s.st) jX rfl (by rw[mD,vd];rfl)];symm;refine W7 (ps:=c d) (l3 _ _ hd) (hc _ hz) λps p1 p2 r3 h3=>?_;symm;have lr:Le G' (aG G' r3 (.lst (ps.map bW))):=.new h3;refine(show sE [.ref r3] (aG G' r3 (.lst (ps.map bW))) _ from ?_);rw[Yr bF ((p1.map _).nodup_iff.mpr bn)];intro e he;have le:Le _ (aG (aG G' r3 (.lst (ps.map bW))) e (.bD ao (ps.map jD))):=.new he;symm;have t3:=le _ _ (lr _ _ tt);have ne:e≠t:=λz=>by rw[z]at he;rw[lr _ _ tt]at he;cases he
  have nN:ky a p∉N.map (·.1):=by
   rw[ek];intro w;have kF:((qs.take (k+1)).map kq).Nodup:=qn.sublist ((Fc _ _).map _);rw[zm,eq,qe,zu]at kF;exact kF.2.2 _ w _ (by simp) rfl
  have lN:N.length<=k:=by
   have:=congrArg pf ek;simp at this;omega
  have lk:k<64:=by
   have h1:k<qs.length:=(jd.mp eq).1;have h2:=pq.length_eq;simp at h2;omega
  rw[zR t3 jX rfl (by rw[dw];omega)]
  have ep:bZ (N.map n6) (.inr (ky a p)) (.ref e)=(N++[(ky a p,e)]).map n6:=by
   rw[EG,qe]
   .rfl
   .intro w;let⟨z,hz,e2⟩:=gk.mp w;let⟨y,hy,rfl⟩:=gk.mp hz;exact nN (gk.mpr ⟨y,hy,Sum.inr.inj e2⟩)
  rw[ep]
  have ge:∀z∈N,z.2≠e:=λz hz w=>by
   have:=lr _ _ (hi z hz).1;rw[w,he]at this;cases this
  have gt:∀z∈N,z.2≠t:=λz hz w=>by
   have:=(hi z hz).1;rw[w,tt]at this;cases this
  refine⟨?_,_,N++[(ky a p,e)],setC c' e ps,rfl,λq u z=>?_,aF,?_,λz hz=>?_⟩
  .have z:=fL le (fL lr hl);unfold L2.bB at z ⊢;rw[aM nr];exact z
  .have nq:q≠t:=λw=>by rw[w,ht]at z;cases z
   rw[aM nq];exact le _ _ (lr _ _ (l3 _ _ z))
  .rw[qe,ek,zm,eq,qe];rfl
  .rcases uo.mp hz with hz|hz
   .obtain⟨i1,i2,i4,i3⟩:=hi z hz;rw[wQ (ge z hz),aM (gt z hz)];exact⟨le _ _ (lr _ _ i1),i2,i4,i3⟩
   .cases ql.mp hz;rw[show setC c' e ps (ky a p,e).2=ps from iH,show(ky a p,e).2=e from rfl,aM ne];refine⟨aF,?_,p2,?_⟩
    .rw[show cn M c (ky a p,e).1=c d from BP (z:=(ky a p,d)) s.kn SS];exact p1
    .cases ge:G e with
     |none=>rfl
     |some u =>
      have:=lr _ _ (l3 _ _ ge);rw[he]at this;cases this
 .obtain⟨_,r2,N,c',rfl,l,tt,ek,hi⟩:=hh;exists RK;refine(aR.here (h t qs N c' G' l ⟨ht,tt,ri,?_,?_,hi⟩))
  .rw[ek,dw,sg]
  .rw[ek,dw,sg];exact pq
def BO{α:Type}[DecidableEq α]{xs ys:List α}(h:xs.Nodup)(s:∀x∈xs,x∈ys):xs.length<=ys.length:=Ha h s
def z6{b:Int×Int}(h:kq a=kq b):a=b:=by
 have:a.1=b.1/\a.2=b.2:=by simpa[L9.ky]using h
 exact Prod.ext this.1 this.2
def Eg{qs:List (Int×Int)}{s:Int×Int}:kq s∈qs.map kq↔s∈qs:=⟨λh=>by let⟨z,hz,e⟩:=gk.mp h;rw[←z6 e];exact hz,λh=>gk.mpr ⟨s,h,rfl⟩⟩
inductive Rw where
 |br (l:Int) (w:Str) (u:Int) (b:Int×Int) (n:Int)
 |go (l:Int) (b:Int×Int) (n:Int)
 |move (l:Int) (b e:Int×Int) (n:Int)
 |count (l:Int) (b:Int×Int) (w n:Int)
 |day (d:Int)
abbrev Rw.d:Rw->D
 |.br l w u b n=>.tup [.str "come",.int l,.str w,.int u,bW b,.int n]
 |.go l b n=>.tup [.str "go",.int l,bW b,.int n]
 |.move l b e n=>.tup [.str "move",.int l,bW b,bW e,.int n]
 |.count l b w n=>.tup [.str "count",.int l,bW b,.int w,.int n]
 |.day d=>.tup [.str "day",.int d]
@[simp]def Ch:=(Int×Int)×Int×Int
abbrev Rw.ch:Rw->List Ch
 |.br l _ _ b n=>[(b,l,n)]
 |.go l b n=>[(b,l,-n)]
 |.move l b e n=>[(b,l,-n),(e,l,n)]
 |.count l b w n=>[(b,l,n - w)]
 |.day _=>[]
abbrev kM(z:Ch):D:=.tup [bW z.1,.int z.2.1,.int z.2.2]
abbrev z8(ws:List Rw):List Ch:=ws.flatMap Rw.ch
def Qn{w:Rw}(h:∀r,G r=bh->R (.ref r) (aG G r (.lst (w.ch.map kM)))):eG K A [w.d] G R EX:=by
 refine⟨rfl,?_⟩;have h':∀r,G r=bh->aR R (.ref r) (aG G r (.lst (w.ch.map kM))):=λr hr=>aR.here (h r hr);clear h;cases w with
 |br l w u b n =>
  show cG K A _ _ [aj (.tup [.str "come",.int l,.str w,.int u,bW b,.int n])] G;exists cG;exact h'
 |go l b n =>
  show cG K A _ _ [aj (.tup [.str "go",.int l,bW b,.int n])] G;exists cG,fD;exact h'
 |move l b e n =>
  show cG K A _ _ [aj (.tup [.str "move",.int l,bW b,bW e,.int n])] G;exists cG,fD,iV;exact h'
 |count l b w n =>
  show cG K A _ _ [aj (.tup [.str "count",.int l,bW b,.int w,.int n])] G;exists cG,fD,iV,nP;exact h'
 |day d =>
  show cG K A _ _ [aj (.tup [.str "day",.int d])] G;exists cG,fD,iV,nP,vG;exact h'
abbrev iI(cs:List Ch)(k:List Key)(l:Int):Int:=(cs.map λz=>if k=kq z.1/\l=z.2.1 then z.2.2 else 0).sum
variable{cs:List Ch}
def Fi{k:List Key}:iI (cs++ds) k l=iI cs k l+iI ds k l:=by simp[iI]
def Ji{z:Ch}{k:List Key}:iI [z] k l=if k=kq z.1/\l=z.2.1 then z.2.2 else 0:=by simp[iI]
structure Lb(n:Nat)(st:bw)(M:List (List Key×bw))(c:bw->List (Int×Int))(G0 G:Gp):Prop where
 s:SK n st M c G
 le:Le G0 G
 t0:G0 st=bh
 i0:∀z∈M,G0 z.2=bh
def Lb.new(b:Lb n st M c G0 G)(l:Le G G1):Lb n st M c G0 G1:=⟨⟨l _ _ b.s.st,λz hz=>l _ _ (b.s.ins z hz),b.s.kn,b.s.an,b.s.ks,b.s.bn,b.s.len⟩,b.le.trans l,b.t0,b.i0⟩
def Lb.step{c':bw->List (Int×Int)}(b:Lb n st M c G0 G)(s':SK (n+1) st M' c' G1)(kp:Kp st M M' G G1):Lb (n+1) st M' c' G0 G1:=by
 refine⟨s',λq u e=>kp.1 q u (λw=>?_) (λw=>?_) (b.le q u e),b.t0,λz hz=>?_⟩
 .rw[w,b.t0]at e;cases e
 .obtain⟨y,hy,w⟩:=gk.mp w;rw[←w,b.i0 y hy]at e;cases e
 .rcases kp.2 z.2 (gk.mpr ⟨z,hz,rfl⟩)with w|w
  .obtain⟨y,hy,w⟩:=gk.mp w;rw[←w];exact b.i0 y hy
  .cases q:G0 z.2 with
   |none=>rfl
   |some u=>rw[b.le _ _ q]at w;cases w
def OX{ws:List Rw}{k:Nat}{w:Rw}(h:ws[k]?=aj w):z8 (ws.take (k+1))=z8 (ws.take k)++w.ch:=by
 unfold z8;rw[zm,h,JF];simp
structure c8(f:Int×Int->Int->Int)(t:bw)(qs:List (Int×Int))(N:List (List Key×bw))(c:bw->List (Int×Int))(G:Gp):Prop where
 tt:G t=aj (.bD ak (N.map n6))
 ri:c7 qs
 kq:N.map (·.1)=qs.map kq
 mem:∀b,b∈qs↔∃l,f b l≠0
 ins:∀z∈N,∃b,z.1=Law.kq b/\G z.2=aj (.bD ao ((c z.2).map jD))/\c7 (c z.2)/\((c z.2).map (·.1)).Nodup/\∀q,q∈c z.2↔q.2=f b q.1/\q.2≠0
def Jh(nd:(ps.map (·.1)).Nodup)(nz:∀q∈ps,q.2≠0)(q:Int×Int):q∈ps↔q.2=bM ps q.1/\q.2≠0:=by
 refine⟨λh=>⟨by unfold bM;rw[jR nd h];rfl,nz q h⟩,?_⟩;rintro⟨h1,h2⟩;unfold bM at h1;cases e:aQ ps q.1 with
 |none=>rw[e]at h1;exact absurd h1 h2
 |some v =>
  rw[e]at h1;have:=lD e;rw[show q=(q.1,v)from Prod.ext rfl h1];exact this
def wR{ws:List Rw}(hq:bB G q=aj (ws.map Rw.d))(hn:ws.length<100)(W:List ((Int×Int)×Int))(hW:W.length<64)(hf:∀b l,iI (z8 ws) (kq b) l≠0->(b,l)∈W)
  (h:∀t qs N c' G',Le G G'->G t=bh->(∀z∈N,G z.2=bh)->c8 (λb l=>iI (z8 ws) (kq b) l) t qs N c' G'->R (.ref t) G'):fG K A [.ref q] G R EX:=by
 have big:10000<dh:=by decide
 refine⟨rfl,?_⟩;show yX K A _ _ [aj (.ref q),bh,bh,bh,bh,bh] G;exists yX;intro st dS;exists RH;have l0:Le G (aG G st (.bD ak [])):=.new dS;rw[n8 (fL l0 hq)];refine rC (λk ρ G'=>bB G' q=aj (ws.map Rw.d)/\∃r2 r3 r4 r5 n M c,ρ=[aj (.ref q),aj (.ref st),r2,r3,r4,r5]/\n<=2*k/\Lb n st M c G G'/\∀b l,bM (cn M c b) l=iI (z8 (ws.take k)) b l) ⟨fL l0 hq,bh,bh,bh,bh,0,[],λ_=>[],rfl,⋯,⟨⟨aF,λz hz=>(nomatch hz),by simp,by simp,λz hz=>(nomatch hz),λz hz=>(nomatch hz),dz _⟩,l0,dS,λz hz=>(nomatch hz)⟩,λb l=>rfl⟩ (λk ρ G' h=>h.1) (λk d ρ G' hd hh=>?_) λρ G' hh=>?_
 .obtain⟨A3,r2,r3,r4,r5,n,M,c,rfl,nk,lb,hv⟩:=hh;let⟨w,ew,rfl⟩:=Al hd;have hk:k<ws.length:=(jd.mp ew).1;exists xV;refine Qn λr hr=>?_;have l1:Le G' (aG G' r (.lst (w.ch.map kM))):=.new hr;symm;rw[n8 bF];have ln:w.ch.length<=2:=by cases w<;>simp[Rw.ch]
  refine rC (λj ρ G2=>bB G2 r=aj (w.ch.map kM)/\bB G2 q=aj (ws.map Rw.d)/\∃r3 r4 r5 n' M c,ρ=[aj (.ref q),aj (.ref st),aj w.d,r3,r4,r5]/\n'<=n+j/\Lb n' st M c G G2/\G r=bh/\∀b l,bM (cn M c b) l=iI (z8 (ws.take k)++w.ch.take j) b l) ⟨bF,fL l1 A3,r3,r4,r5,n,M,c,rfl,dz _,lb.new l1,?_,λb l=>by rw[hv,List.take_zero,se]⟩ (λj ρ G2 h=>h.1) (λj d ρ G2 hd hh=>?_) λρ G2 hh=>?_
  .cases e:G r with
   |none=>rfl
   |some u=>rw[lb.le _ _ e]at hr;cases hr
  .obtain⟨F5,qh,r3,r4,r5,n',M,c,rfl,nj,x8,r0,A1⟩:=hh;let⟨z,ez,rfl⟩:=Al hd;let⟨⟨a,p⟩,av,more⟩:=z;have hj:j<w.ch.length:=(jd.mp ez).1;show BG [3,4,5] (.tup [.tup [.int a,.int p],.int av,.int more]) _ _;rw[MN rfl];exists vH;refine aDW x8.s ⋯ λM' c' G3 s' SX kp=>?_;symm;have SM:=x8.step s' kp
   have K9:∀{q:bw}{xs:List D},bB G2 q=aj xs->(∀u,G2 q=aj u->G3 q=aj u)->bB G3 q=aj xs:=λ{q xs} e k=>by
    unfold L2.bB at e ⊢;cases e1:G2 q with
    |none=>rw[e1]at e;cases e
    |some u=>rw[e1]at e;rw[k u e1];exact e
   have kk:∀{q:bw}{xs:List D},bB G2 q=aj xs->∀u,G2 q=aj u->G3 q=aj u:=λ{q xs} e u eu=>by
    refine kp.1 q u (λw=>?_) (λw=>?_) eu
    .rw[w]at e;unfold L2.bB at e;rw[x8.s.st]at e;cases e
    .obtain⟨y,hy,w⟩:=gk.mp w;rw[←w]at e;unfold L2.bB at e;rw[x8.s.ins y hy]at e;cases e
   refine⟨K9 F5 (kk F5),K9 qh (kk qh),_,_,_,n'+1,M',c',rfl,⋯,SM,r0,λb l=>?_⟩;rw[SX,A1,zm,ez];show _=iI (z8 (ws.take k)++(w.ch.take j++[((a,p),av,more)])) b l;rw[←Cg,Fi (ds:=[_]),Ji]
  .obtain⟨F5,qh,r3,r4,r5,n',M,c,rfl,nj,x8,r0,A1⟩:=hh;refine⟨qh,_,_,_,_,n',M,c,rfl,?_,x8,λb l=>?_⟩
   .rw[dw]at nj;omega
   .rw[A1,dw,sg,OX ew]
 .obtain⟨A3,r2,r3,r4,r5,n,M,c,rfl,nk,lb,hv⟩:=hh;rw[dw,sg]at hv;exists RI
  have Lf:∀z∈M,∀b,z.1=kq b->∀y∈c z.2,(b,y.1)∈W:=λz hz b eb y hy=>hf b y.1 (by
   rw[←hv,←eb,BP lb.s.kn hz];let⟨b1,b2,_⟩:=lb.s.bn z hz;have:=((Jh b1 b2 y).mp hy);rw[←this.1];exact this.2)
  have hm:M.length<64:=by
   have:=BO (xs:=M.map (·.1)) (ys:=W.map λy=>kq y.1) lb.s.kn λk hk=>by
    let⟨z,hz,rfl⟩:=gk.mp hk;let⟨a,p,e⟩:=lb.s.ks z hz;let⟨_,_,b3,_⟩:=lb.s.bn z hz;let⟨y,hy⟩:=List.exists_mem_of_ne_nil _ b3;exact gk.mpr ⟨((a,p),y.1),Lf z hz (a,p) e y hy,e.symm⟩
   simp only[dw]at this;omega
  have hc:∀z∈M,(c z.2).length<64:=λz hz=>by
   let⟨a,p,e⟩:=lb.s.ks z hz;let⟨b1,_⟩:=lb.s.bn z hz
   have:=BO (xs:=(c z.2).map (·.1)) (ys:=W.map (·.2)) b1 λl hl=>by
    let⟨y,hy,rfl⟩:=gk.mp hl;exact gk.mpr ⟨((a,p),y.1),Lf z hz (a,p) e y hy,rfl⟩
   simp only[dw]at this;omega
  refine Yq lb.s hm hc λt qs N c' G2 le ly=>?_;symm
  have nn:∀x,G' x=bh->G x=bh:=λx hx=>by
   cases e:G x with
   |none=>rfl
   |some u=>rw[lb.le _ _ e]at hx;cases hx
  refine aR.here (h t qs N c' G2 (lb.le.trans le) (nn _ ly.t0) (λz hz=>nn _ (ly.ins z hz).2.2.2) ⟨ly.tt,ly.ri,ly.kq,λb=>?_,λz hz=>?_⟩)
  .have m1:b∈qs↔kq b∈M.map (·.1):=by rw[←Eg,←ly.kq];exact ly.ke.mem_iff
   rw[m1];constructor
   .intro hb;let⟨z,hz,e⟩:=gk.mp hb;let⟨b1,b2,b3,_⟩:=lb.s.bn z hz;let⟨y,hy⟩:=List.exists_mem_of_ne_nil _ b3;refine⟨y.1,?_⟩;have:=((Jh b1 b2 y).mp hy);show iI (z8 ws) (kq b) y.1≠0;rw[←hv,←e,BP lb.s.kn hz,←this.1];exact this.2
   .rintro⟨l,hl⟩;have hl:iI (z8 ws) (kq b) l≠0:=hl;rw[←hv]at hl;cases e:aQ M (kq b)with
    |none=>rw[Hx e]at hl;exact absurd rfl hl
    |some d=>exact gk.mpr ⟨_,lD e,rfl⟩
  .obtain⟨i1,i2,i3,i4⟩:=ly.ins z hz;have SQ:z.1∈M.map (·.1):=ly.ke.mem_iff.mp (gk.mpr ⟨z,hz,rfl⟩);let⟨y,hy,ey⟩:=gk.mp SQ;let⟨a,p,ek⟩:=lb.s.ks y hy;let⟨b1,b2,b3,_⟩:=lb.s.bn y hy;have eh:cn M c z.1=c y.2:=by rw[←ey];exact BP lb.s.kn hy
   rw[eh]at i2;refine⟨(a,p),ey.symm.trans ek,i1,i3,(i2.map _).nodup_iff.mpr b1,λx=>?_⟩;rw[i2.mem_iff,Jh b1 b2];show x.2=bM (c y.2) x.1/\_↔x.2=iI (z8 ws) (kq (a,p)) x.1/\_;rw[←hv,show kq (a,p)=y.1 from ek.symm,BP lb.s.kn hy]
abbrev ib(cs:List Ch)(l:Int):Int:=((cs.filter λz=>decide (z.2.1=l)).map λz=>z.2.2).sum
def NP:ib (cs++ds) l=ib cs l+ib ds l:=by simp[ib]
def Uz(hr:bB G r=aj (cs.map kM))(hl:cs.length<1000)
  (hc:∀z:Ch,∀G',Le G G'->∀Q:Bool->Gp->Prop,(∀eD,Le G' eD->Q (decide (z.2.1=l)) eD)->tc (aj (bW z.1)::aj (.int z.2.1)::aj (.int z.2.2)::ρ) G' Q)
  (he:∀z:Ch,∀G',Le G G'->∀Q:D->Gp->Prop,(∀eD,Le G' eD->Q (.int z.2.2) eD)->te (aj (bW z.1)::aj (.int z.2.1)::aj (.int z.2.2)::ρ) G' Q)
  (h:∀p,G p=bh->R (.ref p) (aG G p (.lst (((cs.filter λz=>decide (z.2.1=l)).map λz=>z.2.2).map D.int)))):vF (Bq 3) (.lst r (cs.map kM)) tc te ρ G R:=by
 have big:10000<dh:=by decide
 let v:D->List D:=λd=>match d with|.tup xs=>xs|_=>[]
 let c:D->Bool:=λd=>match d with|.tup [_,.int o,_]=>decide (o=l)|_=>ao
 let f:D->D:=λd=>match d with|.tup [_,_,m]=>m|_=>.ag
 refine O6 v c f (by show(cs.map kM).length<_;rw[dw];omega) hr (λd hd=>?_) (λd hd G' l' Q hQ=>?_) (λd hd _ G' l' Q hQ=>?_) λp hp=>?_
 .obtain⟨z,_,rfl⟩:=gk.mp hd;rfl
 .obtain⟨z,_,rfl⟩:=gk.mp hd;exact hc z G' l' Q hQ
 .obtain⟨z,_,rfl⟩:=gk.mp hd;exact he z G' l' Q hQ
 .have e:(((Src.lst r (cs.map kM)).items.filter c).map f)=((cs.filter λz=>decide (z.2.1=l)).map λz=>z.2.2).map D.int:=by
   show((cs.map kM).filter c).map f=_;rw[Ai,ni,ni];rfl
  rw[e];exact h p hp
def Jg{ws:List Rw}(hq:bB G q=aj (ws.map Rw.d))(h:∀G',Le G G'->R (.int (ib (z8 ws) l)) G'):jJ K A [.ref q,.int l] G R EX:=by
 have big:10000<dh:=by decide
 refine⟨rfl,?_⟩;show JP K A _ _ [aj (.ref q),aj (.int l),bh,bh] G;exists JP,Rg;rw[n8 hq];refine rC (λk ρ G'=>bB G' q=aj (ws.map Rw.d)/\∃r3,ρ=[aj (.ref q),aj (.int l),aj (.int (ib (z8 (ws.take k)) l)),r3]/\Le G G') ⟨hq,bh,rfl,.refl _⟩ (λk ρ G' h=>h.1) (λk d ρ G' hd hh=>?_) λρ G' hh=>?_
 .obtain⟨A3,r3,rfl,l1⟩:=hh;let⟨w,ew,rfl⟩:=Al hd;exists RL;refine Qn λr hr=>?_;have l2:Le G' (aG G' r (.lst (w.ch.map kM))):=.new hr;symm;rw[O7 bF];have ln:w.ch.length<=2:=by cases w<;>simp[Rw.ch]
  refine Uz (l:=l) bF ⋯ (λz G2 l3 Q hQ=>?_) (λz G2 l3 Q hQ=>?_) λp hp=>?_
  .symm;exact hQ G2 (.refl _)
  .symm;exact hQ G2 (.refl _)
  .have l3:Le _ (aG (aG G' r (.lst (w.ch.map kM))) p (.lst (((w.ch.filter λz=>decide (z.2.1=l)).map λz=>z.2.2).map D.int))):=.new hp;symm;rw[GX bF];symm;refine⟨fL l3 (fL l2 A3),aj w.d,?_,(l1.trans l2).trans l3⟩;rw[OX ew,NP];rfl
 .obtain⟨A3,r3,rfl,l1⟩:=hh;exists Rh;rw[sg];exact aR.here (h G' l1)
@[simp]def Kb:=Int×(Int×Int)
@[simp]def Wk:=Kb×Int
abbrev nk(k:Kb):NK:=([k.2.1,k.2.2],k.1)
abbrev wN(W:List Wk):List (NK×Int):=W.map λz=>(nk z.1,z.2)
@[simp]def kD(k:Kb):D:=.tup [.int k.1,.tup [.int k.2.1,.int k.2.2]]
def GS{k:Kb}(h:nk k=nk j):k=j:=by
 unfold nk at h;injection h with h1 h2;injection h1 with h1 h3;injection h3 with h3 _;exact Prod.ext h2 (Prod.ext h1 h3)
def zi{k:Kb}:∀{W:List Wk},(wN W).lookup (nk k)=aQ W k
 |[]=>rfl
 |z::W=>by
  show B1 (nk k) ((nk z.1,z.2)::wN W)=_;rw[vo,aQ];by_cases c:z.1=k
  .rw[if_pos c,c,beq_self_eq_true]
  .rw[if_neg c,show(nk k==nk z.1)=ao from beq_eq_false_iff_ne.mpr λe=>c (GS e).symm];exact zi
def aDX{k:Kb}:putN (wN W) (nk k) v=wN (bZ W k v):=by
 unfold putN bZ;rw[zi];split
 ·unfold wN;rw[ni,ni];refine yx λz _=>?_;show(if nk z.1=nk k then _ else _)=_;by_cases c:z.1=k
  .simp only[Function.comp,c,if_true]
  .have:¬ nk z.1=nk k:=λe=>c (GS e);simp only[Function.comp,c,this,if_false]
 .unfold wN;rw[qe];rfl
def Uy{k:Kb}:zt (wN W) (nk k)=wN (bH W k):=by
 unfold zt bH wN;rw[Ai];congr 1;refine List.filter_congr λz _=>?_;show(!decide (nk z.1=nk k))=!decide (z.1=k);by_cases c:z.1=k
 .simp[c]
 .have:¬ nk z.1=nk k:=λe=>c (GS e);simp[c,this]
abbrev stK(pl:D)(room day:Int)(L E Q:bw):List (DK×D):=[(.inl (.inr "plan"),pl),(.inl (.inr "room"),.int room),(.inl (.inr "day"),.int day),(.inl (.inr "lots"),.ref L),(.inl (.inr "lie"),.ref E),(.inl (.inr "rows"),.ref Q)]
section
variable{s:bw}{pl:D}{room day:Int}
def EF(h:G s=aj (.bD ao (stK pl room day L E Q))):aO (.ref s) (.str "plan") G R=R pl G:=jW h rfl rfl rfl
def Cs(h:G s=aj (.bD ao (stK pl room day L E Q))):aO (.ref s) (.str "room") G R=R (.int room) G:=jW h rfl rfl rfl
def wC(h:G s=aj (.bD ao (stK pl room day L E Q))):aO (.ref s) (.str "day") G R=R (.int day) G:=jW h rfl rfl rfl
def pX(h:G s=aj (.bD ao (stK pl room day L E Q))):aO (.ref s) (.str "lots") G R=R (.ref L) G:=jW h rfl rfl rfl
def fX(h:G s=aj (.bD ao (stK pl room day L E Q))):aO (.ref s) (.str "lie") G R=R (.ref E) G:=jW h rfl rfl rfl
def pY(h:G s=aj (.bD ao (stK pl room day L E Q))):aO (.ref s) (.str "rows") G R=R (.ref Q) G:=jW h rfl rfl rfl
def BN{k:Kb}(h:G E=aj (.rQ (wN W)))(q:R (.int ((aQ W k).getD m)) G):isNm (.ref E) G/\y7 (.ref E) (kD k) (.int m) G R:=⟨⟨_,h⟩,nk k,wN W,m,rfl,rfl,h,by rw[zi];exact q⟩
def BM(hs:G s=aj (.bD ao (stK pl room day L E Q))){W:List Wk}(he:G E=aj (.rQ (wN W)))(nd:(W.map (·.1)).Nodup)(nz:∀z∈W,z.2≠0)(hl:W.length<1000){b:Int×Int}
  (h:∀W' G',G' E=aj (.rQ (wN W'))->(∀q u,q≠E->G q=aj u->G' q=aj u)->(W'.map (·.1)).Nodup->(∀z∈W',z.2≠0)->(∀k,bM W' k=bM W k+if k=(l,b)then more else 0)->W'.length<=W.length+1->((aQ W (l,b)).isSome=ak->W'.length<=W.length)->R .ag G'):cH K A [.ref s,.int l,bW b,.int more] G R EX:=by
 have big:10000<dh:=by decide
 refine⟨rfl,?_⟩;have h':∀W' G',G' E=aj (.rQ (wN W'))->(∀q u,q≠E->G q=aj u->G' q=aj u)->(W'.map (·.1)).Nodup->(∀z∈W',z.2≠0)->(∀k,bM W' k=bM W k+if k=(l,b)then more else 0)->W'.length<=W.length+1->((aQ W (l,b)).isSome=ak->W'.length<=W.length)->aR R .ag G':=λW' G' a1 a2 a3 a4 a5 a6 a7=>aR.here (h W' G' a1 a2 a3 a4 a5 a6 a7);clear h;have ne:s≠E:=λz=>by rw[z,he]at hs;cases hs
 show vM K A _ _ [aj (.ref s),aj (.int l),aj (bW b),aj (.int more),bh] G;exists vM,xZ,fX hs;refine BN (k:=(l,b)) he ?_;symm;rw[fX hs];refine⟨nk (l,b),wN W,_,rfl,rfl,he,by unfold wN;rw[dw];omega,?_⟩;rw[aDX];generalize hv:(aQ W (l,b)).getD 0+more=v;let⟨p1,_,p3,p4,p5⟩:=EH (l:=(l,b)) (w:=v) nd;have v0:bM W (l,b)+more=v:=hv;have e1:aG G E (.rQ (wN (bZ W (l,b) v))) E=aj (.rQ (wN (bZ W (l,b) v))):=aF;have k1:∀q u,q≠E->G q=aj u->aG G E (.rQ (wN (bZ W (l,b) v))) q=aj u:=λq u n z=>by rw[aM n];exact z
 generalize aG G E (.rQ (wN (bZ W (l,b) v)))=G1 at e1 k1;have s1:=k1 _ _ ne hs;have vp:aQ (bZ W (l,b) v) (l,b)=aj v:=Fl;exists xY,fX s1;refine⟨nk (l,b),wN (bZ W (l,b) v),v,rfl,.inl e1,by rw[zi];exact vp,?_⟩;symm;by_cases c:v=0
 .rw[if_pos (by rw[c];rfl)];exists fX s1;refine⟨⟨_,e1⟩,nk (l,b),wN (bZ W (l,b) v),v,rfl,e1,by unfold wN;rw[dw];omega,by rw[zi];exact vp,?_⟩;rw[Uy];let⟨q1,_,q3,q4,q5⟩:=Jk (l:=(l,b)) p3;refine h' (bH (bZ W (l,b) v) (l,b)) _ aF (λq u n z=>by rw[aM n];exact k1 q u n z) q3 (λz hz=>?_) (λk=>?_) ⋯ λhh=>by have:=OY (w:=v) hh;omega
  .obtain⟨m1,m2⟩:=q4 z hz;rcases p4 z m1 with m|m
   .exact nz z m
   .rw[m]at m2;exact absurd rfl m2
  .rw[q1,p1];by_cases e:k=(l,b)
   .rw[if_pos e,if_pos e,e];omega
   .rw[if_neg e,if_neg e,if_neg e,oQ]
 .rw[if_neg (by simpa using c)];symm;refine h' (bZ W (l,b) v) G1 e1 k1 p3 (λz hz=>?_) (λk=>?_) p5 λhh=>by have:=OY (w:=v) hh;omega
  .rcases p4 z hz with m|m
   .exact nz z m
   .rw[m];exact c
  .rw[p1];by_cases e:k=(l,b)
   .rw[if_pos e,if_pos e,e];omega
   .rw[if_neg e,if_neg e,oQ]
end
abbrev dn(d:D):Kb:=match d with
 |.tup [.int l,.tup [.int a,.int p]]=>(l,(a,p))
 |_=>(0,(0,0))
section
variable{E:bw}{W:List Wk}
abbrev Ke(E:bw)(W:List Wk)(G G':Gp):Prop:=(∀q u,q≠E->G q=aj u->G' q=aj u)/\n5 G' E (wN W)
def EE(hE:G E=aj (.fb od (wN W)))(k0:∀q u,q≠E->G0 q=aj u->G q=aj u)(nd:(W.map (·.1)).Nodup)(hl:W.length<1000)(cc:Kb->Bool)(f:Wk->D)
  (hc:∀z∈W,∀G',Ke E W G0 G'->∀Q:Bool->Gp->Prop,Q (cc z.1) G'->tc (aj (kD z.1)::ρ) G' Q)
  (he:∀z∈W,cc z.1=ak->∀G',Ke E W G0 G'->∀Q:D->Gp->Prop,Q (f z) G'->te (aj (kD z.1)::ρ) G' Q)
  (h:∀q,G q=bh->R (.ref q) (aG G q (.lst ((W.filter λz=>cc z.1).map f)))):vF i9 (.kz E od (wN W)) tc te ρ G R:=by
 have big:10000<dh:=by decide
 have it:(Src.kz E od (wN W)).items=W.map λz=>kD z.1:=by
  show(wN W).map _=_;unfold wN;rw[ni];rfl
 have ke:∀G',Le G G'->Ke E W G0 G':=λG' l=>⟨λq u n e=>l _ _ (k0 q u n e),.inr ⟨od,l _ _ hE⟩⟩;refine UO (λd=>cc (dn d)) (λd=>f (dn d,(aQ W (dn d)).getD 0)) (by rw[it,dw];omega) hE (λd hd G' l Q hQ=>?_) (λd hd hf G' l Q hQ=>?_) λq hq=>?_
 .rw[it]at hd;let⟨z,hz,rfl⟩:=gk.mp hd;exact hc z hz G' (ke G' l) Q (hQ G' (.refl _))
 .rw[it]at hd;let⟨z,hz,rfl⟩:=gk.mp hd;have e:(aQ W z.1).getD 0=z.2:=by rw[jR nd hz];rfl
  have Gf:=hQ G' (.refl _);have e2:f (z.1,(aQ W z.1).getD 0)=f z:=by rw[e]
  exact he z hz hf G' (ke G' l) Q (e2 ▸ Gf)
 .have e1:((Src.kz E od (wN W)).items.filter λd=>cc (dn d)).map (λd=>f (dn d,(aQ W (dn d)).getD 0))=(W.filter λz=>cc z.1).map f:=by
   rw[it,Ai,ni];refine yx λz hz=>?_;have e:(aQ W z.1).getD 0=z.2:=by rw[jR nd (xg.mp hz).1];rfl
   show f (z.1,(aQ W z.1).getD 0)=f z;rw[e]
  rw[e1];exact h q hq
def WZ(hE:n5 G E (wN W))(nd:(W.map (·.1)).Nodup)(hl:W.length<1000)(cc:Kb->Bool)(f:Wk->D)
  (hc:∀z∈W,∀G',Ke E W G G'->∀Q:Bool->Gp->Prop,Q (cc z.1) G'->tc (aj (kD z.1)::ρ) G' Q)
  (he:∀z∈W,cc z.1=ak->∀G',Ke E W G G'->∀Q:D->Gp->Prop,Q (f z) G'->te (aj (kD z.1)::ρ) G' Q)
  (h:∀q G1,Ke E W G G1->(∀p,G1 p=bh->G p=bh)->G1 q=bh->R (.ref q) (aG G1 q (.lst ((W.filter λz=>cc z.1).map f)))):D5 (.ref E) G (λsrc G1=>vF i9 src tc te ρ G1 R):=by
 rcases hE with hE|⟨od,hE⟩
 .refine⟨wN W,.inl ⟨hE,λod=>?_⟩⟩;have k0:∀q u,q≠E->G q=aj u->aG G E (.fb od (wN W)) q=aj u:=λq u n e=>by rw[aM n];exact e
  exact EE aF k0 nd hl cc f hc he λq hq=>h q _ ⟨k0,.inr ⟨od,aF⟩⟩ (λp hp=>by
   by_cases c:p=E
   .rw[c,aF]at hp;cases hp
   .rw[aM c]at hp;exact hp) hq
 .exact⟨wN W,.inr ⟨od,hE,EE hE (λ_ _ _ e=>e) nd hl cc f hc he λq hq=>h q G ⟨λ_ _ _ e=>e,.inr ⟨od,hE⟩⟩ (λ_ e=>e) hq⟩⟩
def ED(hE:n5 G E (wN W))(nd:(W.map (·.1)).Nodup)(hl:W.length<1000)(ht:∀Q:dU,tl ρ G Q=Q (.ref E) G)(cc:Kb->Bool)(f:Wk->D)
  (hc:∀z∈W,∀G',Ke E W G G'->∀Q:Bool->Gp->Prop,Q (cc z.1) G'->tc (aj (kD z.1)::ρ) G' Q)
  (he:∀z∈W,cc z.1=ak->∀G',Ke E W G G'->∀Q:D->Gp->Prop,Q (f z) G'->te (aj (kD z.1)::ρ) G' Q)
  (h:∀q,G q=bh->R (.ref q) (aG G q (.lst ((W.filter λz=>cc z.1).map f)))):rf 0 (nH (fK tl) tc te) ρ G R:=by
 rcases hE with hE|⟨od,hE⟩
 .refine .inr ⟨E,.inr ⟨wN W,hE,?_⟩⟩;show oU i9 (fK tl) tc te ρ G _;rw[Ei,JQ,ht];refine⟨wN W,.inl ⟨hE,λod=>?_⟩⟩;refine EE aF (λq u n e=>by rw[aM n];exact e) nd hl cc f hc he λq hq=>?_;have nq:q≠E:=λz=>by rw[z,aF]at hq;cases hq
  rw[aM nq]at hq;have hh:=h q hq
  have e2:aG (aG (aG G E (.fb od (wN W))) q (.lst ((W.filter λz=>cc z.1).map f))) E (.rQ (wN W))=aG G q (.lst ((W.filter λz=>cc z.1).map f)):=by
   funext a;by_cases c1:a=E
   .rw[c1,aF,aM (Ne.symm nq),hE]
   .rw[aM c1];by_cases c2:a=q
    .rw[c2,aF,aF]
    .rw[aM c2,aM c2,aM c1]
  refine .inr ⟨⟨od,by rw[aM (Ne.symm nq),aF]⟩,?_⟩;rw[e2];exact hh
 .refine .inl ?_;show oU i9 (fK tl) tc te ρ G _;rw[Ei,JQ,ht];exact⟨wN W,.inr ⟨od,hE,EE hE (λ_ _ _ e=>e) nd hl cc f hc he h⟩⟩
def Hw{z:Wk}(nd:(W.map (·.1)).Nodup)(hz:z∈W)(h:n5 G E (wN W))(k:R (.int z.2) G):xB (.ref E) (kD z.1) G R:=⟨nk z.1,wN W,z.2,rfl,h,by rw[zi];exact jR nd hz,k⟩
end
def NO{a p:Int}:bQ (n+2) (.tup [.int a,.int p])=ak:=rfl
def HZ{b:Int×Int}:aT (bW b) (bW b')=decide (b=b'):=by
 show(decide (b.1=b'.1)&&(decide (b.2=b'.2)&&ak))=_;rw[EY,bx,bx,decide_eq_true_eq,decide_eq_true_eq,decide_eq_true_eq];exact⟨λz=>Prod.ext z.1 z.2.1,λz=>by rw[z];exact⟨rfl,rfl,rfl⟩⟩
section
variable{s:bw}{pl:D}{room day:Int}{W:List Wk}
def wD(hs:G s=aj (.bD ao (stK pl room day L E Q)))(he:n5 G E (wN W))(nd:(W.map (·.1)).Nodup)(hl:W.length<1000){b:Int×Int}(h:∀v G',Le G G'->R (.int v) G'):bR K A [.ref s,bW b] G R EX:=by
 have ne:s≠E:=λz=>by rcases he with he|⟨_,he⟩<;>(rw[z,he]at hs;cases hs)
 refine⟨rfl,?_⟩;show qJ K A _ _ [aj (.ref s),aj (bW b)] G;exists qJ;refine ED he nd hl (λQ=>?_) (λk=>decide (k.2=b)) (λz=>.int z.2) (λz hz G' ke Q hQ=>?_) (λz hz hf G' ke Q hQ=>?_) λq hq=>?_
 .symm;rw[fX hs]
 .symm;simpa[HZ,NO]using hQ
 .have s1:=ke.1 _ _ ne hs;symm;rw[fX s1];symm;exact Hw nd hz ke.2 hQ
 .symm;rw[show(W.filter λz=>decide (z.1.2=b)).map (λz=>D.int z.2)=((W.filter λz=>decide (z.1.2=b)).map (·.2)).map D.int by rw[ni];rfl];rw[GX bF];symm;exact aR.here (h _ _ (.new hq))
end
def wU(h:R (.bl ak) G):bT K A [.int i] G R EX:=by
 refine⟨rfl,?_⟩;show sW K A _ _ [aj (.int i)] G;exists sW;exact aR.here h
abbrev FZ(d:D):Prop:=∃b,d=.bl b
def MH{ds:List D}(h:∀y∈ds,FZ y):ds.all y9=ak:=jl.mpr λy hy=>by let⟨b,rfl⟩:=h y hy;rfl
def WY{w:Str}(hw:w.length<1000)(h:∀b G',Le G G'->R (.bl b) G'):gM K A [.str w] G R EX:=by
 have big:10000<dh:=by decide
 refine⟨rfl,?_⟩;have h':∀b G',Le G G'->aR R (.bl b) G':=λb G' l=>aR.here (h b G' l);clear h;show nW K A _ _ [aj (.str w)] G;exists nW;refine⟨⋯,cY (λ_=>h' ao G (.refl _)) λ_=>⟨⋯,cY (λ_=>h' ao G (.refl _)) λ_=>?_⟩⟩;exists rN;refine JR FZ (by show(L2.signs w).length<_;unfold L2.signs;rw[dw];exact wt hw ⋯) trivial (λd hd G' l Q hQ=>?_) λp ds hp hl hd=>?_
 .obtain⟨z,_,rfl⟩:=gk.mp (show d∈L2.signs w from hd);symm;exact hQ _ G' ⟨_,rfl⟩ (.refl _)
 .symm;rw[Ik bF (MH hd)];symm;exact h' _ _ (.new hp)
def NN{x y g:Int}{b:Int×Int}(h:∀t,R (.bl t) G):dX K A [.tup [.int x,.int y,.int g],bW b] G R EX:=by
 refine⟨rfl,?_⟩;have h':∀b,aR R (.bl b) G:=λb=>aR.here (h b);clear h;show qK K A _ _ [aj (.tup [.int x,.int y,.int g]),aj (.tup [.int b.1,.int b.2])] G;exists qK;refine wU ?_;symm;refine wU ?_;exists tU;by_cases c:0<=b.1
 .rw[if_pos (decide_eq_true c)];refine cY (λ_=>?_) λ_=>h' _;by_cases c2:1<=b.2
  .rw[if_pos (decide_eq_true c2)];exact h' _
  .rw[if_neg (by simpa using c2)];exact h' _
 .rw[if_neg (by simpa using c)];exact h' _
def NM(h:∀t:Bool,(t=ak->lo<=i)->R (.bl t) G):cU K A [.int i,.int lo] G R EX:=by
 refine⟨rfl,?_⟩;have h':∀t:Bool,(t=ak->lo<=i)->aR R (.bl t) G:=λt q=>aR.here (h t q);clear h;show jL K A _ _ [aj (.int i),aj (.int lo)] G;exists jL;refine wU ?_;symm;by_cases c:lo<=i
 .rw[if_pos (decide_eq_true c)];exact h' _ λ_=>c
 .rw[if_neg (by simpa using c)];exact h' _ λz=>by cases z
section
variable{s:bw}{pl:D}{room day:Int}
def Ux(hs:G s=aj (.bD ao (stK pl room day L E Q)))(lo:G L=aj (.lst ae))(h:∀t,R (.bl t) G):iY K A [.ref s,.int l] G R EX:=by
 refine⟨rfl,?_⟩;have h':∀b,aR R (.bl b) G:=λb=>aR.here (h b);clear h;show qL K A _ _ [aj (.ref s),aj (.int l)] G;exists qL;refine wU ?_;symm;by_cases c:0<=l
 .rw[pX hs];exists iR (bY lo);rw[if_pos (decide_eq_true c)];exact h' _
 .rw[pX hs];exists iR (bY lo);rw[if_neg (by simpa using c)];exact h' _
end
structure OK(n:Nat)(s L E Q:bw)(x y g room day:Int)(ae:List D)(W:List Wk)(ws:List Rw)(G:Gp):Prop where
 st:G s=aj (.bD ao (stK (.tup [.int x,.int y,.int g]) room day L E Q))
 lo:G L=aj (.lst ae)
 li:G E=aj (.rQ (wN W))
 ro:G Q=aj (.lst (ws.map Rw.d))
 nq:L≠Q
 nd:(W.map (·.1)).Nodup
 nz:∀z∈W,z.2≠0
 am:∀b l,bM W (l,b)=iI (z8 ws) (kq b) l
 lt:∀z∈z8 ws,z.2.1<ae.length
 wl:W.length<=n
 rl:ws.length<=n
 ll:ae.length<=n
 ls:ae.all (bQ 20)=ak
abbrev Ot(s L E Q:bw)(G G':Gp):Prop:=∀q u,q≠s->q≠L->q≠E->q≠Q->G q=aj u->G' q=aj u
section
variable{s:bw}{x y g room day:Int}{n:Nat}
def Ot.le(l:Le G G'):Ot s L E Q G G':=λq u _ _ _ _ e=>l q u e
def OK.le(o:OK n s L E Q x y g room day ae W ws G)(l:Le G G'):OK n s L E Q x y g room day ae W ws G':=⟨l _ _ o.st,l _ _ o.lo,l _ _ o.li,l _ _ o.ro,o.nq,o.nd,o.nz,o.am,o.lt,o.wl,o.rl,o.ll,o.ls⟩
def OK.up{m:Nat}(o:OK n s L E Q x y g room day ae W ws G)(h:n<=m):OK m s L E Q x y g room day ae W ws G:=⟨o.st,o.lo,o.li,o.ro,o.nq,o.nd,o.nz,o.am,o.lt,wg o.wl h,wg o.rl h,wg o.ll h,o.ls⟩
def OK.ne(o:OK n s L E Q x y g room day ae W ws G):s≠L/\s≠E/\s≠Q/\L≠E/\E≠Q:=by
 refine⟨λz=>?_,λz=>?_,λz=>?_,λz=>?_,λz=>?_⟩
 .have:=o.st;rw[z,o.lo]at this;cases this
 .have:=o.st;rw[z,o.li]at this;cases this
 .have:=o.st;rw[z,o.ro]at this;cases this
 .have:=o.lo;rw[z,o.li]at this;cases this
 .have:=o.li;rw[z,o.ro]at this;cases this
def HY(o:OK n s L E Q x y g room day ae W ws G){a:Int}{bs:List (Int×Int)}(hb:G sp=aj (.lst (bs.map bW)))(hl:bs.length<1000)(h:∀(z:Str) G',(z=""->lo<=a)->Le G G'->R (.str z) G'):d8 K A [.ref s,.int l,.ref sp,.int a,.int lo] G R EX:=by
 have big:10000<dh:=by decide
 refine⟨rfl,?_⟩;have h':∀(z:Str) G',(z=""->lo<=a)->Le G G'->aR R (.str z) G':=λz G' q l=>aR.here (h z G' q l);clear h;show sZ K A _ _ [aj (.ref s),aj (.int l),aj (.ref sp),aj (.int a),aj (.int lo)] G;exists sZ;refine Ux o.st o.lo λt=>?_;symm;cases t
 .symm;exact h' _ _ (λz=>absurd z (by decide)) (.refl _)
 exists vP;rw[O7 (bY hb)];refine JR FZ (by show(bs.map bW).length<_;rw[dw];omega) (bY hb) (λd hd G' l' Q' hQ=>?_) λp ds hp hl hd=>?_
 .obtain⟨b,_,rfl⟩:=gk.mp (show d∈bs.map bW from hd);symm;rw[EF (l' _ _ o.st)];symm;exact NN λt=>hQ _ G' ⟨_,rfl⟩ (.refl _)
 .have l1:Le G (aG G p (.lst ds)):=.new hp;symm;rw[Ik bF (MH hd)];generalize ds.all ve=t;symm;cases t
  .symm;exact h' _ _ (λz=>absurd z (by decide)) l1
  exists vO;refine NM λt ht=>?_;symm;cases t
  .symm;exact h' _ _ (λz=>absurd z (by decide)) l1
  exists vN;exact h' _ _ (λ_=>ht rfl) l1
end
section
variable{s L E Q:bw}{x y g room day:Int}{ae:List D}{W:List Wk}{ws:List Rw}{n:Nat}
abbrev Af(n:Nat)(s L E Q:bw)(x y g room:Int)(G:Gp)(R:dU):Prop:=∀d day ae W ws G',OK n s L E Q x y g room day ae W ws G'->Ot s L E Q G G'->R d G'
def Af.drop(h:Af n s L E Q x y g room G R):Af n s L E Q x y g room G (aR R):=λd day ae W ws G' o t=>aR.here (h d day ae W ws G' o t)
def Af.none(h:Af (n+1) s L E Q x y g room G R)(o:OK n s L E Q x y g room day ae W ws G){d:D}(l:Le G G'):R d G':=h d day ae W ws G' ((o.le l).up (oP _)) (.le l)
def vu(h:G p=aj (.lst ds)):oy "list" G (.ref p)=True:=by rw[U7,bY h];simp
def BL{r:Rw}{W':List Wk}{qE:List D}{DG:Int}(o:OK n s L E Q x y g room day ae W ws G)(s1:G2 s=aj (.bD ao (stK (.tup [.int x,.int y,.int g]) room DG L E Q)))(lo:G2 L=aj (.lst qE))(li:G2 E=aj (.rQ (wN W')))(ro:G2 Q=aj (.lst (ws.map Rw.d++[r.d])))(nd:(W'.map (·.1)).Nodup)(nz:∀z∈W',z.2≠0)
  (am:∀k,bM W' k=bM W k+iI r.ch (kq k.2) k.1)(lt:∀z∈r.ch,z.2.1<qE.length)(ll:ae.length<=qE.length)(wl:W'.length<=n+1)(l2:qE.length<=n+1)(l3:qE.all (bQ 20)=ak):OK (n+1) s L E Q x y g room DG qE W' (ws++[r]) G2:=by
 have e:z8 (ws++[r])=z8 ws++r.ch:=by unfold z8;rw[JF];simp
 refine⟨s1,lo,li,by rw[qe];exact ro,o.nq,nd,nz,λb l=>?_,λz hz=>?_,wl,by have:=o.rl;simp;omega,l2,l3⟩
 .rw[am,o.am,e,Fi]
 .rw[e]at hz;rcases uo.mp hz with hz|hz
  .have:=o.lt z hz;omega
  .exact lt z hz
def BK{k:Kb}{b:Int×Int}:(if k=(l,b)then v else 0)=iI [(b,l,v)] (kq k.2) k.1:=by
 rw[Ji];by_cases c:k=(l,b)
 .rw[if_pos c,if_pos ⟨by rw[c],by rw[c]⟩]
 .rw[if_neg c,if_neg λz=>c (Prod.ext z.2 (z6 z.1))]
variable{a:Int}
def Zm(o:OK n s L E Q x y g room day ae W ws G)(hn:n<60){w:Str}(hw:w.length<1000){u:Int}{b:Int×Int}(h:Af (n+1) s L E Q x y g room G R):fP K A [.ref s,.str w,.int u,bW b,.int a] G R EX:=by
 have big:10000<dh:=by decide
 have hl:=o.wl;refine⟨rfl,?_⟩;replace h:=h.drop;show lM K A _ _ [aj (.ref s),aj (.str w),aj (.int u),aj (bW b),aj (.int a),bh,bh] G;exists lM;refine WY hw λt G1 l1=>?_;have o1:=o.le l1;symm;cases t
 .symm;exact h.none o l1
 exists pP;refine wU ?_;symm
 have k3:iW K A (λ_=>gW EX) {nx:=λ_ G'=>aR R .ag G',rt:=aR R} [aj (.ref s),aj (.str w),aj (.int u),aj (bW b),aj (.int a),bh,bh] G1:=by
  exists iW;rw[EF o1.st];symm;refine NN λt=>?_;symm;cases t
  .symm;exact h.none o l1
  exists pO;refine NM λt _=>?_;symm;cases t
  .symm;exact h.none o l1
  exists pN;rw[wC o1.st];symm;refine cY (λ_=>h.none o l1) λ_=>?_;exists pL;refine wD o1.st (.inl o1.li) o1.nd ⋯ λv G2 l2=>?_;have o2:=o1.le l2;have n2:=o2.ne;symm;rw[Cs o2.st];symm;refine cY (λ_=>h.none o (l1.trans l2)) λ_=>?_;exists pJ;rw[pX o2.st];exists iR (bY o2.lo);exists pI;rw[pX o2.st];exists vu o2.lo;rw[wC o2.st];symm;rw[nO o2.lo (by have:=o2.ll;omega)];symm;generalize LI:aG G2 L _=G3;have k3:∀q u,q≠L->G2 q=aj u->G3 q=aj u:=λq u n e=>by rw[←LI,aM n];exact e
  have SG:G3 L=aj (.lst (ae++[.tup [.str w,.int u,.int day]])):=by rw[←LI,aF]
  exists pH;refine BM (k3 _ _ n2.1 o2.st) (k3 _ _ (Ne.symm n2.2.2.2.1) o2.li) o2.nd o2.nz ⋯ λW' G4 kG k4 kA kx kN sT _=>?_;exists o8,o7,nZ;have s4:=k4 _ _ n2.2.1 (k3 _ _ n2.1 o2.st);have ki:=k4 _ _ (Ne.symm n2.2.2.2.2) (k3 _ _ (Ne.symm o2.nq) o2.ro);have tS:=k4 _ _ n2.2.2.2.1 SG;rw[pY s4];exists vu ki;rw[nO ki (by rw[dw];have:=o2.rl;omega)];exists nY;have u5:∀q z,q≠Q->G4 q=aj z->aG G4 Q (.lst (ws.map Rw.d++[(Rw.br ae.length w u b a).d])) q=aj z:=λq z n e=>by rw[aM n];exact e
  refine⟨⋯,?_⟩;refine h _ day (ae++[.tup [.str w,.int u,.int day]]) W' (ws++[.br ae.length w u b a]) _ (BL o2 (u5 _ _ n2.2.2.1 s4) (u5 _ _ o2.nq tS) (u5 _ _ n2.2.2.2.2 kG) aF kA kx (λk=>by rw[kN,BK];rfl) (λz hz=>?_) (by simp) ⋯ (by have:=o2.ll;simp;omega) (by rw[List.all_append,o2.ls];rfl)) λq u n1 n2 n3 n4 e=>u5 _ _ n4 (k4 _ _ n3 (k3 _ _ n2 (l2 _ _ (l1 _ _ e))));cases ql.mp hz;simp;omega
 refine cY (λ_=>?_) λ_=>h.none o l1;split
 ·exact h.none o l1
 .exact k3
def WX(o:OK n s L E Q x y g room day ae W ws G)(hn:n<60)(hl:l<ae.length){b:Int×Int}(h:Af (n+1) s L E Q x y g room G R):iZ K A [.ref s,.int l,bW b,.int a] G R EX:=by
 have big:10000<dh:=by decide
 have wl:=o.wl;refine⟨rfl,?_⟩;replace h:=h.drop;show qM K A _ _ [aj (.ref s),aj (.int l),aj (bW b),aj (.int a),bh] G;exists qM;intro sp gf;have l0:Le G (aG G sp (.lst [bW b])):=.new gf;symm;refine HY (o.le l0) (bs:=[b]) aF (by simp) λz G1 _ l1=>?_;have l1:=l0.trans l1;have o1:=o.le l1;have n1:=o1.ne
 have k3:lO K A (λ_=>gW EX) {nx:=λ_ G'=>aR R .ag G',rt:=aR R} [aj (.ref s),aj (.int l),aj (bW b),aj (.int a),aj (.str "")] G1:=by
  exists lO;refine BM o1.st o1.li o1.nd o1.nz ⋯ λW' G4 kG k4 kA kx kN sT _=>?_;exists tW;have s4:=k4 _ _ n1.2.1 o1.st;have ki:=k4 _ _ (Ne.symm n1.2.2.2.2) o1.ro;have tS:=k4 _ _ n1.2.2.2.1 o1.lo;rw[pY s4];exists vu ki;rw[nO ki (by rw[dw];have:=o1.rl;omega)];exists tV;have u5:∀q z,q≠Q->G4 q=aj z->aG G4 Q (.lst (ws.map Rw.d++[(Rw.go l b a).d])) q=aj z:=λq z n e=>by rw[aM n];exact e
  refine h _ day ae W' (ws++[.go l b a]) _ (BL o1 (u5 _ _ n1.2.2.1 s4) (u5 _ _ o1.nq tS) (u5 _ _ n1.2.2.2.2 kG) aF kA kx (λk=>by rw[kN,BK];rfl) (λz hz=>?_) (dz _) ⋯ (by have:=o1.ll;omega) o1.ls) λq u m1 m2 m3 m4 e=>u5 _ _ m4 (k4 _ _ m3 (l1 _ _ e));cases ql.mp hz;exact hl
 have fin:∀z:Str,lQ K A (λ_=>gW EX) {nx:=λ_ G'=>aR R .ag G',rt:=aR R} [aj (.ref s),aj (.int l),aj (bW b),aj (.int a),aj (.str z)] G1:=λz=>by
  exists lQ;by_cases c:z=""
  .subst c;symm;exact k3
  .have e:(z==("":Str))=ao:=beq_eq_false_iff_ne.mpr c;simp only[e,zj,if_true];exact h.none o l1
 exists tX;by_cases c:z=""
 .subst c;symm;rw[fX o1.st];symm;refine BN (k:=(l,b)) o1.li ?_;symm;refine cY (λ_=>?_) λ_=>fin _;symm;exact fin _
 .have e:(z==("":Str))=ao:=beq_eq_false_iff_ne.mpr c;simp only[e,jf,if_false];exact fin _
end
section
variable{s:bw}{x y g room day:Int}{ae:List D}{n:Nat}
def aE0{k:Kb}(h:1<=bM W k):(aQ W k).isSome=ak:=by
 unfold bM at h;cases q:aQ W k with
 |none=>rw[q]at h;exact absurd h (by decide)
 |some _=>rfl
private theorem Zl(o:OK n s L E Q x y g room day ae W ws G)(hn:n<60){a:Int}(hl:l<ae.length){b:Int×Int}(h:Af (n+1) s L E Q x y g room G R):fQ K A [.ref s,.int l,bW b,bW e,.int a] G R EX:=by
 have big:10000<dh:=by decide
 have wl:=o.wl;refine⟨rfl,?_⟩;replace h:=h.drop;show lR K A _ _ [aj (.ref s),aj (.int l),aj (bW b),aj (bW e),aj (.int a),bh,bh,bh] G
 have k6:∀{G2:Gp}{r:Bool},Le G G2->1<=a/\a<=bM W (l,b)->j5 K A (λ_=>gW EX) {nx:=λ_ G'=>aR R .ag G',rt:=aR R} [aj (.ref s),aj (.int l),aj (bW b),aj (bW e),aj (.int a),aj (.str ""),aj (.bl r),bh] G2:=λ{G2 r} l2 ha=>by
  have o2:=o.le l2;have n1:=o2.ne
  have fin:∀{W':List Wk}{G4:Gp},G4 E=aj (.rQ (wN W'))->(∀q u,q≠E->G2 q=aj u->G4 q=aj u)->(W'.map (·.1)).Nodup->(∀z∈W',z.2≠0)->(∀k,bM W' k=bM W k+((if k=(l,b)then -a else 0)+if k=(l,e)then a else 0))->W'.length<=W.length+1->j4 K A (λ_=>gW EX) {nx:=λ_ G'=>aR R .ag G',rt:=aR R} [aj (.ref s),aj (.int l),aj (bW b),aj (bW e),aj (.int a),aj (.str ""),aj (.bl r),bh] G4:=λ{W' G4} kG k4 kA kx kN sT=>by
   exists j4,pR,pQ;have s4:=k4 _ _ n1.2.1 o2.st;have ki:=k4 _ _ (Ne.symm n1.2.2.2.2) o2.ro;have tS:=k4 _ _ n1.2.2.2.1 o2.lo;rw[pY s4];exists vu ki;rw[nO ki (by rw[dw];have:=o2.rl;omega)];exists o9;have u5:∀q z,q≠Q->G4 q=aj z->aG G4 Q (.lst (ws.map Rw.d++[(Rw.move l b e a).d])) q=aj z:=λq z n e=>by rw[aM n];exact e
   refine⟨⋯,?_⟩;refine h _ day ae W' (ws++[.move l b e a]) _ (BL o2 (u5 _ _ n1.2.2.1 s4) (u5 _ _ o2.nq tS) (u5 _ _ n1.2.2.2.2 kG) aF kA kx (λk=>by rw[kN,BK,BK,←Fi];rfl) (λz hz=>?_) (dz _) ⋯ (by have:=o2.ll;omega) o2.ls) λq u m1 m2 m3 m4 e=>u5 _ _ m4 (k4 _ _ m3 (l2 _ _ e));rcases lg.mp hz with rfl|hz
   .exact hl
   .cases ql.mp hz;exact hl
  exists j5;refine⟨rfl,rfl,?_⟩;have ee:aT (.tup [.int b.1,.int b.2]) (.tup [.int e.1,.int e.2])=decide (b=e):=HZ;split
  ·rename_i c;rw[ee]at c;have nk:∀{q u},q≠E->G2 q=aj u->G2 q=aj u:=λ_ e=>e;have hv:1<=bM W (l,b):=Int.le_trans ha.1 ha.2;have hs:=aE0 hv;symm;refine BM o2.st o2.li o2.nd o2.nz (Ar wl (wt hn (by decide))) λW3 G3 SH k3 tP Sz Yw _ Kv=>?_;have Kw:=Kv hs;clear Kv hs hv;exists lH;refine BM (k3 _ _ n1.2.1 o2.st) SH tP Sz (Ar (wg Kw wl) (wt hn (by decide))) λW4 G4 kG k4 kA kx kN sT _=>?_;symm;exact fin kG (λq u n e=>k4 q u n (k3 q u n e)) kA kx (λk=>by rw[kN,Yw,Int.add_assoc]) (wg sT (Nat.succ_le_succ Kw))
  .rename_i c;have c:b=e:=by rw[ee]at c;simpa using c
   exact fin o2.li (λ_ _ _ e=>e) o2.nd o2.nz (λk=>by
    rw[c];by_cases q:k=(l,e)
    .rw[if_pos q,if_pos q];omega
    .rw[if_neg q,if_neg q];omega) (oP _)
 have k5:∀{G2:Gp}{r:Bool}{z:Str},Le G G2->(z=""->1<=a/\a<=bM W (l,b))->j6 K A (λ_=>gW EX) {nx:=λ_ G'=>aR R .ag G',rt:=aR R} [aj (.ref s),aj (.int l),aj (bW b),aj (bW e),aj (.int a),aj (.str z),aj (.bl r),bh] G2:=λ{G2 r z} l2 ha=>by
  exists j6;by_cases c:z=""
  .subst c;symm;exact k6 l2 (ha rfl)
  .have e:(z==("":Str))=ao:=beq_eq_false_iff_ne.mpr c;simp only[e,zj,if_true];exact h.none o l2
 have k4:∀{G2:Gp}{r:Bool}{z:Str},Le G G2->(z=""->1<=a/\a<=bM W (l,b))->j7 K A (λ_=>gW EX) {nx:=λ_ G'=>aR R .ag G',rt:=aR R} [aj (.ref s),aj (.int l),aj (bW b),aj (bW e),aj (.int a),aj (.str z),aj (.bl r),bh] G2:=λ{G2 r z} l2 ha=>by
  have o2:=o.le l2;exists j7;cases r
  .symm;exact k5 l2 ha
  .symm;refine wD o2.st (.inl o2.li) o2.nd ⋯ λf G3 l3=>?_;symm;rw[Cs (o2.le l3).st];symm;refine cY (λ_=>?_) λ_=>k5 (l2.trans l3) ha;symm;exact k5 (l2.trans l3) λz=>absurd z (by decide)
 have k3:∀{G2:Gp}{z:Str},Le G G2->(z=""->1<=a/\a<=bM W (l,b))->j8 K A (λ_=>gW EX) {nx:=λ_ G'=>aR R .ag G',rt:=aR R} [aj (.ref s),aj (.int l),aj (bW b),aj (bW e),aj (.int a),aj (.str z),bh,bh] G2:=λ{G2 z} l2 ha=>by
  exists j8;refine⟨rfl,rfl,?_⟩;split
  ·exact k4 l2 ha
  .exact k4 l2 ha
 exists lR;intro sp gf;have l0:Le G (aG G sp (.lst [bW b,bW e])):=.new gf;symm;refine HY (o.le l0) (bs:=[b,e]) aF (by simp) λz G1 hz l1=>?_;have l1:=l0.trans l1;have o1:=o.le l1;exists pU;by_cases c:z=""
 .subst c;symm;rw[fX o1.st];symm;refine BN (k:=(l,b)) o1.li ?_;symm;refine cY (λ_=>?_) λq=>k3 l1 λ_=>⟨hz rfl,?_⟩
  .symm;exact k3 l1 λz=>absurd z (by decide)
  .have q:=of_decide_eq_false q;unfold bM;omega
 .have e:(z==("":Str))=ao:=beq_eq_false_iff_ne.mpr c;simp only[e,jf,if_false];exact k3 l1 λz=>absurd z c
end
section
variable{s:bw}{x y g room day:Int}{ae:List D}{n:Nat}
def Z3(o:OK n s L E Q x y g room day ae W ws G)(hn:n<60){a:Int}(hl:l<ae.length){b:Int×Int}(h:Af (n+1) s L E Q x y g room G R):eZ K A [.ref s,.int l,bW b,.int a] G R EX:=by
 have big:10000<dh:=by decide
 have wl:=o.wl;refine⟨rfl,?_⟩;replace h:=h.drop;show jM K A _ _ [aj (.ref s),aj (.int l),aj (bW b),aj (.int a),bh,bh,bh,bh] G;exists jM;intro sp gf;have l0:Le G (aG G sp (.lst [bW b])):=.new gf;symm;refine HY (o.le l0) (bs:=[b]) aF (by simp) λz G1 _ l1=>?_;have l1:=l0.trans l1;have o1:=o.le l1;exists oJ;by_cases c:z=""
 .subst c;exists oH;rw[fX o1.st];symm;refine BN (k:=(l,b)) o1.li ?_;generalize hv:(aQ W (l,b)).getD 0=v;exists oG;refine wD o1.st (.inl o1.li) o1.nd ⋯ λf G2 l2=>?_;have o2:=o1.le l2;have n1:=o2.ne;have l2:=l1.trans l2
  have fin:∀{W':List Wk}{G4:Gp},G4 E=aj (.rQ (wN W'))->(∀q u,q≠E->G2 q=aj u->G4 q=aj u)->(W'.map (·.1)).Nodup->(∀z∈W',z.2≠0)->(∀k,bM W' k=bM W k+if k=(l,b)then a - v else 0)->W'.length<=W.length+1->gP K A (λ_=>gW EX) {nx:=λ_ G'=>aR R .ag G',rt:=aR R} [aj (.ref s),aj (.int l),aj (bW b),aj (.int a),aj (.str ""),aj (.int v),aj (.int (f+a - v)),bh] G4:=λ{W' G4} kG k4 kA kx kN sT=>by
   exists gP,oE,oA;have s4:=k4 _ _ n1.2.1 o2.st;have ki:=k4 _ _ (Ne.symm n1.2.2.2.2) o2.ro;have tS:=k4 _ _ n1.2.2.2.1 o2.lo;rw[pY s4];exists vu ki;rw[nO ki (by rw[dw];have:=o2.rl;omega)];exists lX;have u5:∀q z,q≠Q->G4 q=aj z->aG G4 Q (.lst (ws.map Rw.d++[(Rw.count l b v a).d])) q=aj z:=λq z n e=>by rw[aM n];exact e
   refine⟨⋯,?_⟩;refine h _ day ae W' (ws++[.count l b v a]) _ (BL o2 (u5 _ _ n1.2.2.1 s4) (u5 _ _ o2.nq tS) (u5 _ _ n1.2.2.2.2 kG) aF kA kx (λk=>by rw[kN,BK];rfl) (λz hz=>?_) (dz _) ⋯ (by have:=o2.ll;omega) o2.ls) λq u m1 m2 m3 m4 e=>u5 _ _ m4 (k4 _ _ m3 (l2 _ _ e));cases ql.mp hz;exact hl
  have k6:gQ K A (λ_=>gW EX) {nx:=λ_ G'=>aR R .ag G',rt:=aR R} [aj (.ref s),aj (.int l),aj (bW b),aj (.int a),aj (.str ""),aj (.int v),aj (.int (f+a - v)),bh] G2:=by
   exists gQ;by_cases e:a=v
   .have e2:(a==v)=ak:=by rw[e];simp
    simp only[e2,vm,jf,if_false];exact fin o2.li (λ_ _ _ e=>e) o2.nd o2.nz (λk=>by rw[e];simp) (oP _)
   .have e2:(a==v)=ao:=beq_eq_false_iff_ne.mpr e;simp only[e2,zj,if_true];symm;refine BM o2.st o2.li o2.nd o2.nz ⋯ λW' G4 kG k4 kA kx kN sT _=>?_;symm;exact fin kG k4 kA kx kN sT
  exists oF;by_cases e:v<a
  .rw[if_pos (decide_eq_true e)];rw[Cs o2.st];symm;refine cY (λ_=>h.none o l2) λ_=>k6
  .rw[if_neg (by simpa using e)];exact k6
 .have e:(z==("":Str))=ao:=beq_eq_false_iff_ne.mpr c;simp only[e,zj,if_true];exact h.none o l1
end
inductive Dd where
 |br (w:Str) (u:Int) (b:Int×Int) (n:Int)
 |go (l:Int) (b:Int×Int) (n:Int)
 |move (l:Int) (b e:Int×Int) (n:Int)
 |count (l:Int) (b:Int×Int) (n:Int)
 |day
abbrev Dd.d:Dd->D
 |.br w u b n=>.tup [.str "come",.str w,.int u,bW b,.int n]
 |.go l b n=>.tup [.str "go",.int l,bW b,.int n]
 |.move l b e n=>.tup [.str "move",.int l,bW b,bW e,.int n]
 |.count l b n=>.tup [.str "count",.int l,bW b,.int n]
 |.day=>.tup [.str "day"]
abbrev Dd.ok(k:Nat):Dd->Prop
 |.br w _ _ _=>w.length<1000
 |.go l _ _=>l<k
 |.move l _ _ _=>l<k
 |.count l _ _=>l<k
 |.day=>True
section
variable{s:bw}{x y g room day:Int}{ae:List D}{n:Nat}
def aIM(o:OK n s L E Q x y g room day ae W ws G)(hn:n<60){dd:Dd}(hd:dd.ok ae.length)(h:Af (n+1) s L E Q x y g room G R):pW K A [.ref s,dd.d] G R EX:=by
 have big:10000<dh:=by decide
 have n1:=o.ne;refine⟨rfl,?_⟩;replace h:=h.drop;cases dd with
 |br w u b a =>
  show dB K A _ _ [aj (.ref s),aj (.tup [.str "come",.str w,.int u,bW b,.int a])] G;exists dB;exact Zm o hn hd h
 |go l b a =>
  show dB K A _ _ [aj (.ref s),aj (.tup [.str "go",.int l,bW b,.int a])] G;exists dB,j9;exact WX o hn hd h
 |move l b e a =>
  show dB K A _ _ [aj (.ref s),aj (.tup [.str "move",.int l,bW b,bW e,.int a])] G;exists dB,j9,mU;exact Zl o hn hd h
 |count l b a =>
  show dB K A _ _ [aj (.ref s),aj (.tup [.str "count",.int l,bW b,.int a])] G;exists dB,j9,mU,tE;exact Z3 o hn hd h
 |day =>
  have k5:tD K A (λ_=>gW EX) {nx:=λ_ G'=>aR R .ag G',rt:=aR R} [aj (.ref s),aj (.tup [.str "day"])] G:=by
   exists tD;rw[wC o.st];symm;refine cY (λ_=>h.none o (.refl _)) λ_=>?_;exists RE;rw[wC o.st];symm;rw[zR o.st rfl rfl (by show 6<_;omega)];have e1:aG G s (.bD ao (bZ (stK (.tup [.int x,.int y,.int g]) room day L E Q) (.inl (.inr "day")) (.int (day+1)))) s=aj (.bD ao (stK (.tup [.int x,.int y,.int g]) room (day+1) L E Q)):=by rw[aF];rfl
   have k1:∀q u,q≠s->G q=aj u->aG G s (.bD ao (bZ (stK (.tup [.int x,.int y,.int g]) room day L E Q) (.inl (.inr "day")) (.int (day+1)))) q=aj u:=λq u n e=>by rw[aM n];exact e
   generalize aG G s (.bD ao (bZ (stK (.tup [.int x,.int y,.int g]) room day L E Q) (.inl (.inr "day")) (.int (day+1))))=G1 at e1 k1;exists RF;rw[pY e1];have KR:=k1 _ _ (Ne.symm n1.2.2.1) o.ro;exists vu KR;rw[wC e1];symm;rw[nO KR (by rw[dw];have:=o.rl;omega)];have u5:∀q z,q≠Q->G1 q=aj z->aG G1 Q (.lst (ws.map Rw.d++[(Rw.day (day+1)).d])) q=aj z:=λq z n e=>by rw[aM n];exact e
   exists RG;refine Eq.mpr (wC (u5 _ _ n1.2.2.1 e1)) ?_;exact h _ (day+1) ae W (ws++[.day (day+1)]) _ (BL o (u5 _ _ n1.2.2.1 e1) (u5 _ _ o.nq (k1 _ _ (Ne.symm n1.1) o.lo)) (u5 _ _ n1.2.2.2.2 (k1 _ _ (Ne.symm n1.2.1) o.li)) aF o.nd o.nz (λk=>by show _=_+0;rw[oQ]) (λz hz=>nomatch hz) (dz _) (E7 o.wl) (E7 o.ll) o.ls) λq u m1 m2 m3 m4 e=>u5 _ _ m4 (k1 _ _ m1 e)
  show dB K A _ _ [aj (.ref s),aj (.tup [.str "day"])] G;exists dB,j9,mU,tE;exact k5
end
def MG{x y g c:Int}(hx:1<=x)(hy:1<=y)(h:∀(b:Int×Int) G',Le G G'->R (bW b) G'):jA K A [.tup [.int x,.int y,.int g],.int c] G R EX:=by
 refine⟨rfl,?_⟩;have h':∀(b:Int×Int) G',Le G G'->aR R (bW b) G':=λb G' l=>aR.here (h b G' l);clear h
 have k2:qN K A (λ_=>gW EX) {nx:=λ_ G'=>aR R .ag G',rt:=aR R} [aj (.tup [.int x,.int y,.int g]),aj (.int c)] G:=by
  exists qN;exact h' (_,_) G (.refl _)
 show vQ K A _ _ [aj (.tup [.int x,.int y,.int g]),aj (.int c)] G;exists vQ;by_cases c1:9<y
 .rw[if_pos (decide_eq_true c1)];refine cY (λ_=>?_) λ_=>k2;symm;intro p hp;symm
  have e:∃b:Int×Int,z7 [D.tup [.int 0,.int 10],D.tup [.int 1,.int (y - 9)],D.tup [.int 0,.int y],D.tup [.int 1,.int 1]] (c / 5%4)=aj (bW b):=by
   have:c / 5%4=0∨c / 5%4=1∨c / 5%4=2∨c / 5%4=3:=by omega
   rcases this with e|e|e|e<;>rw[e]
   .exact⟨(0,10),rfl⟩
   .exact⟨(1,y - 9),rfl⟩
   .exact⟨(0,y),rfl⟩
   .exact⟨(1,1),rfl⟩
  let⟨b,e⟩:=e;rw[yS bF e];symm;exact h' b _ (.new hp)
 .rw[if_neg (by simpa using c1)];exact k2
def Uw{c:Int}(h:∀(w:Str) G',w.length<1000->Le G G'->R (.str w) G'):mV K A [.int c] G R EX:=by
 refine⟨rfl,?_⟩;have h':∀(w:Str) G',w.length<1000->Le G G'->aR R (.str w) G':=λb G' q l=>aR.here (h b G' q l);clear h;show vR K A _ _ [aj (.int c),bh] G;exists vR;intro p hp;exists yC
 have e:∃w:Str,w.length<1000/\z7 [D.str "a",D.str "ab",D.str "b",D.str "aab",D.str "abcdefghijkl",D.str "abcdefghijkk",D.str "z"] (c%7)=aj (.str w):=by
  have:c%7=0∨c%7=1∨c%7=2∨c%7=3∨c%7=4∨c%7=5∨c%7=6:=by omega
  rcases this with e|e|e|e|e|e|e<;>rw[e]
  .exact⟨"a",by decide,rfl⟩
  .exact⟨"ab",by decide,rfl⟩
  .exact⟨"b",by decide,rfl⟩
  .exact⟨"aab",by decide,rfl⟩
  .exact⟨"abcdefghijkl",by decide,rfl⟩
  .exact⟨"abcdefghijkk",by decide,rfl⟩
  .exact⟨"z",by decide,rfl⟩
 let⟨w,hw,e⟩:=e;rw[yS bF e];symm;exact h' w _ hw (.new hp)
section
variable{s:bw}{x y g room day:Int}{n:Nat}
variable{c:Int}
def WJ{a0 a1 a2 a3 a4 a5 a6 a7:Int}:∃v:Int,z7 ([D.int a0,D.int a1,D.int a2,D.int a3]++[D.int a4,D.int a5,D.int a6,D.int a7]) (c%8)=aj (.int v):=by
 have:c%8=0∨c%8=1∨c%8=2∨c%8=3∨c%8=4∨c%8=5∨c%8=6∨c%8=7:=by omega
 rcases this with e|e|e|e|e|e|e|e<;>rw[e]<;>exact⟨_,rfl⟩
def P4(o:OK n s L E Q x y g room day ae W ws G)(hn:n<60){b:Int×Int}(h:∀v G',Le G G'->R (.int v) G'):fH K A [.ref s,.int l,bW b,.int c] G R EX:=by
 have big:10000<dh:=by decide
 have wl:=o.wl;refine⟨rfl,?_⟩;have h':∀v G',Le G G'->aR R (.int v) G':=λv G' l=>aR.here (h v G' l);clear h;show qO K A _ _ [aj (.ref s),aj (.int l),aj (bW b),aj (.int c),bh,bh,bh,bh,bh] G;exists qO;rw[fX o.st];symm;refine BN (k:=(l,b)) o.li ?_;generalize (aQ W (l,b)).getD 0=v;exists uD;rw[Cs o.st];symm;refine wD o.st (.inl o.li) o.nd ⋯ λf G1 l1=>?_;generalize room - f=r;exists u9,u6;generalize (1+c / 8%if 1<v then v else 1)=pt;generalize 1+c / 8%9=dr;exists u0;intro p1 S6;have l2:Le G1 _:=.new (o:=.lst [.int dr,.int (if 1<v then v else 1),.int (v+1),.int pt]) S6;exists tZ;intro p2 t6;symm;generalize room - f=r at t6 ⊢;have l3:Le _ _:=.new (o:=.lst [.int (if 1<r then r else 1),.int (r+1),.int dr,.int pt]) t6;rw[aIE (l3 _ _ aF) aF (by simp;omega)];intro p3 S5;let⟨v8,e8⟩:=WJ (c:=c) (a0:=dr) (a1:=if 1<v then v else 1) (a2:=v+1) (a3:=pt) (a4:=if 1<r then r else 1) (a5:=r+1) (a6:=dr) (a7:=pt);exists tY;rw[yS bF e8];symm;exact h' v8 _ (((l1.trans l2).trans l3).trans (.new S5))
end
section
variable{s:bw}
def aE2{c:Int}{b:Int×Int}{qs:List (Int×Int)}(hr:bB G r=aj (qs.map bW))(hk:∀(b':Int×Int) G',Le G G'->lB K A ex F [aj (.ref s),aj (.int c),aj (.int m),aj (bW b'),aj (bW e),bh,aj (.int l),aj (.ref r),bh] G'):qP K A ex F [aj (.ref s),aj (.int c),aj (.int m),aj (bW b),aj (bW e),bh,aj (.int l),aj (.ref r),bh] G:=by
 have sh:(qs.map bW).all (bQ 20)=ak:=jl.mpr λy hy=>by let⟨z,_,rfl⟩:=gk.mp hy;rfl
 exists qP;intro p hp;have l6:Le G (aG G p (.lst [])):=.new hp;have lr:=fL l6 hr;have lp:bB (aG G p (.lst [])) p=aj []:=bF;generalize aG G p (.lst [])=G1 at l6 lr lp;rw[yU lr lp sh rfl];cases qs with
 |nil =>
  have e0:(!gO (([]:List (Int×Int)).map bW) [])=ao:=by simp[L2.gO]
  rw[e0];symm;exact hk b G1 l6
 |cons q0 qs =>
  have e0:(!gO ((q0::qs).map bW) [])=ak:=by simp[L2.gO]
  rw[e0];symm;refine cY (λ_=>?_) λ_=>hk b G1 l6;have h1:0<(((q0::qs).map bW).length:Int):=by simp
  rw[iR lr];rw[Hz h1]
  obtain⟨b',e'⟩:∃b',z7 ((q0::qs).map bW) (m / 17%(((q0::qs).map bW).length:Int))=aj (bW b'):=by
   have g1:=Int.emod_nonneg (m / 17) (Int.ne_of_gt h1);have g2:=Int.emod_lt_of_pos (m / 17) h1;let⟨k,hk⟩:=Int.eq_ofNat_of_zero_le g1;rw[hk]at g2 ⊢;have g3:k<(q0::qs).length:=by rw[dw]at g2;exact Int.ofNat_lt.mp g2
   refine⟨(q0::qs)[k],?_⟩;rw[BQ,kh,gV g3];rfl
  rw[yS lr e'];exact hk b' G1 l6
end
section
variable{s:bw}{x y g room day:Int}{ae:List D}{n:Nat}
def Uv(o:OK n s L E Q x y g room day ae W ws G)(hn:n<60)(hx:1<=x)(hy:1<=y){c:Int}(h:∀(dd:Dd) G',dd.ok ae.length->Le G G'->R dd.d G'):mW K A [.ref s,.int c] G R EX:=by
 have big:10000<dh:=by decide
 have wl:=o.wl;refine⟨rfl,?_⟩;have h':∀(dd:Dd) G',dd.ok ae.length->Le G G'->aR R dd.d G':=λdd G' q l=>aR.here (h dd G' q l);clear h;show vY K A _ _ [aj (.ref s),aj (.int c),bh,bh,bh,bh,bh,bh,bh] G;exists vY,yG;generalize c / 11=m;rw[EF o.st];symm;refine MG hx hy λb G1 l1=>?_;have o1:=o.le l1;exists yF;rw[EF o1.st];symm;refine MG hx hy λe G2 l2=>?_;have l2:=l1.trans l2;have o2:=o.le l2
 have ky:∀{G2:Gp}{u:Int},Le G G2->jN K A (λ_=>gW EX) {nx:=lC K A (λ_=>gW EX) {nx:=λ_ G'=>aR R .ag G',rt:=aR R},rt:=aR R} [aj (.ref s),aj (.int c),aj (.int m),aj (bW b),aj (bW e),aj (.int u),bh,bh,bh] G2:=λ{G2 u} l2=>by
  exists jN;refine Uw λw G3 hw l3=>?_;have l3:=l2.trans l3;symm;refine P4 (o.le l3) hn λv G4 l4=>?_;symm;exact h' (.br w u b v) G4 hw (l3.trans l4)
 have k9:∀{l:Int}{b':Int×Int}{r7:Option D}{G3:Gp},Le G G3->l<ae.length->lB K A (λ_=>gW EX) {nx:=λ_ G'=>aR R .ag G',rt:=aR R} [aj (.ref s),aj (.int c),aj (.int m),aj (bW b'),aj (bW e),bh,aj (.int l),r7,bh] G3:=λ{l b' r7 G3} l3 hl=>by
  exists lB;refine P4 (o.le l3) hn λv G4 l4=>?_;have l4:=l3.trans l4;exists vX;refine cY (λ_=>h' (.go l b' v) G4 hl l4) λ_=>?_;exists vV;refine cY (λ_=>h' (.move l b' e v) G4 hl l4) λ_=>?_;exists vU;exact h' (.count l b' _) G4 hl l4
 have k6:∀{G3:Gp},Le G G3->ae≠[]->qQ K A (λ_=>gW EX) {nx:=λ_ G'=>aR R .ag G',rt:=aR R} [aj (.ref s),aj (.int c),aj (.int m),aj (bW b),aj (bW e),bh,bh,bh,bh] G3:=λ{G3} l3 fe=>by
  have o3:=o.le l3;have h0:0<(ae.length:Int):=by have:=List.length_pos_iff.mpr fe;omega
  exists qQ;rw[pX o3.st];exists iR (bY o3.lo)
  (try rw[Hz h0])
  have hl:m / 13%(ae.length:Int)<ae.length:=Int.emod_lt_of_pos _ h0;generalize m / 13%(ae.length:Int)=l at hl;exists yD;refine ED (.inl o3.li) o3.nd ⋯ (λQ=>?_) (λk=>decide (k.1=l)) (λz=>bW z.1.2) (λz hz G' ke Q hQ=>?_) (λz hz hf G' ke Q hQ=>?_) λq hq=>?_
  .symm;rw[fX o3.st]
  .symm;exact hQ
  .symm;exact hQ
  .symm;have l4:Le G3 _:=.new (o:=.lst ((W.filter λz=>decide (z.1.1=l)).map λz=>bW z.1.2)) hq;refine Or.inl ?_;show(match bB _ q with|some ds=>Hb ds _ _|none=>False);rw[bF]
   have kF:((W.filter λz=>decide (z.1.1=l)).map λz=>z.1.2).Nodup:=by
    rw[List.Nodup,uc];refine pb.imp_of_mem ?_ (pb.filter _ (uc.mp o3.nd));intro a b ha hb FW e;have h1:=of_decide_eq_true (xg.mp ha).2;have h2:=of_decide_eq_true (xg.mp hb).2;exact FW (Prod.ext (h1.trans h2.symm) e)
   have ln:((W.filter λz=>decide (z.1.1=l)).map λz=>z.1.2).length<64:=by
    rw[dw];exact Ar (zc _ _) (Ar wl ⋯)
   refine⟨(W.filter λz=>decide (z.1.1=l)).map λz=>z.1.2,by rw[ni];rfl,kF,ln,λqs pm ri r hr=>?_⟩;have l5:Le _ _:=.new (o:=.lst (qs.map bW)) hr;have l5:=(l3.trans l4).trans l5;symm;exact aE2 bF λb' G4 l6=>k9 (l5.trans l6) hl
 have k5:∀{G3:Gp},Le G G3->ae≠[]->lC K A (λ_=>gW EX) {nx:=λ_ G'=>aR R .ag G',rt:=aR R} [aj (.ref s),aj (.int c),aj (.int m),aj (bW b),aj (bW e),bh,bh,bh,bh] G3:=λ{G3} l3 fe=>by
  exists lC;refine cY (λ_=>h' .day G3 trivial l3) λ_=>k6 l3 fe
 exists yE;refine cY (λ_=>?_) λ_=>?_
 .rw[wC o2.st];symm;exact ky l2
 rw[pX o2.st];symm;intro p hp;have l6:Le G2 (aG G2 p (.lst [])):=.new hp;have lr:=fL l6 (bY o2.lo);have lp:bB (aG G2 p (.lst [])) p=aj []:=bF;generalize aG G2 p (.lst [])=G3 at l6 lr lp;have l6:=l2.trans l6;rw[Q9 lr lp o.ls rfl];by_cases e:ae=[]
 .have e0:gO ae []=ak:=by rw[e];simp[L2.gO]
  rw[e0];symm;rw[wC (o.le l6).st];symm;exact ky l6
 .have e0:gO ae []=ao:=by
   cases ae with
   |nil=>exact absurd rfl e
   |cons _ _=>simp[L2.gO]
  rw[e0];symm;exact k5 l6 e
end
abbrev cellAt(ns:List Int)(k:Nat):Int:=if k<ns.length then ns.getD k 0 else if ns=[]then 0 else
 let m:=(ns.getD (k%ns.length) 0*48271+k*104729)%2147483647
 (m*m+48271*k)%2147483629
def Hv(hG:G a=aj (.fi (ns.map D.int))){k:Nat}(hk:k<1000)(h:R (.int (cellAt ns k)) G):cL K A [.ref a,.int (k:Int)] G R EX:=by
 refine⟨rfl,?_⟩;replace h:=aR.here h;show nU K A _ _ [aj (.ref a),aj (.int k),bh] G;exists nU,iR (rB hG);by_cases c:k<ns.length
 .rw[if_pos (decide_eq_true ⋯)];have e:z7 (ns.map D.int) (k:Int)=aj (.int (ns.getD k 0)):=by rw[BQ];simp[c,vg]
  rw[yS (rB hG) e];rw[show cellAt ns k=ns.getD k 0 by unfold cellAt;rw[if_pos c]]at h;exact h
 .rw[if_neg (by simp;omega)];exists rM,iR (rB hG);by_cases hn:ns=[]
  .subst hn;rw[show cellAt [] k=0 by unfold cellAt;simp]at h;exact h
  .have h0:0<(ns.length:Int):=by cases ns with
    |nil=>exact absurd rfl hn
    |cons n r=>simp
   have e0:((ns.length:Int)==0)=ao:=by simp;exact hn
   rw[e0];exists rK,iR (rB hG);have hm:k%ns.length<ns.length:=z0 _ ⋯
   have e2:z7 (ns.map D.int) ((k:Int)%(ns.length:Int))=aj (.int (ns.getD (k%ns.length) 0)):=by
    rw[←Int.natCast_emod,BQ];simp[hm,vg]
   rw[yS (rB hG) e2];exists rJ
   have ec:cellAt ns k=((ns.getD (k%ns.length) 0*48271+(k:Int)*104729)%2147483647*((ns.getD (k%ns.length) 0*48271+(k:Int)*104729)%2147483647)+48271*(k:Int))%2147483629:=by
    unfold cellAt;rw[if_neg c,if_neg hn]
   rw[←ec];exact h
def Uu(hG:G a=aj (.fi (ns.map D.int)))(h:∀x y g:Int,1<=x->1<=y->R (.tup [.int x,.int y,.int g]) G):mQ K A [.ref a] G R EX:=by
 refine⟨rfl,?_⟩;have h':∀x y g:Int,1<=x->1<=y->aR R (.tup [.int x,.int y,.int g]) G:=λx y g a b=>aR.here (h x y g a b);clear h;show vK K A _ _ [aj (.ref a),bh] G;exists vK;refine Hv (k:=0) hG (by decide) ?_;generalize cellAt ns 0=c;exists xX;refine cY (λ_=>h' _ _ _ ?_ ?_) λ_=>?_
 .omega
 .omega
 exists xW;exact h' _ _ _ ⋯ ⋯
def Ut(hG:G a=aj (.fi (ns.map D.int)))(h:∀r G',Le G G'->R (.int r) G'):mR K A [.ref a] G R EX:=by
 refine⟨rfl,?_⟩;have h':∀r G',Le G G'->aR R (.int r) G':=λr G' l=>aR.here (h r G' l);clear h;show vL K A _ _ [aj (.ref a)] G;exists vL;intro p hp;have l1:Le G _:=.new (o:=.lst [.int 1000,.int 12,.int 30,.int 7,.int (10^6),.int 1]) hp;symm;refine Hv (k:=0) (l1 _ _ hG) (by decide) ?_;generalize cellAt ns 0=c;symm
 have e:∃v:Int,z7 [D.int 1000,D.int 12,D.int 30,D.int 7,D.int (10^6),D.int 1] (c / 600%6)=aj (.int v):=by
  have:c / 600%6=0∨c / 600%6=1∨c / 600%6=2∨c / 600%6=3∨c / 600%6=4∨c / 600%6=5:=by omega
  rcases this with e|e|e|e|e|e<;>rw[e]<;>exact⟨_,rfl⟩
 let⟨v,e⟩:=e;rw[yS bF e];symm;exact h' v _ l1
def Us{x y g room:Int}(h:∀s L E Q G',Le G G'->G s=bh->G L=bh->G E=bh->G Q=bh->OK 0 s L E Q x y g room 0 [] [] [] G'->R (.ref s) G'):lA K A [.tup [.int x,.int y,.int g],.int room] G R EX:=by
 refine⟨rfl,?_⟩;show sY K A _ _ [aj (.tup [.int x,.int y,.int g]),aj (.int room)] G;exists sY;intro s hs L hL E hE Q hQ;have l1:Le G (aG G s (.bD ao [])):=.new hs;have s1:aG G s (.bD ao []) s=aj (.bD ao []):=aF;generalize aG G s (.bD ao [])=G1 at hL hE hQ l1 s1 ⊢;have l2:Le G1 (aG G1 L (.lst [])):=.new hL;have s2:aG G1 L (.lst []) L=aj (.lst []):=aF;generalize aG G1 L (.lst [])=G2 at hE hQ l2 s2 ⊢;have l3:Le G2 (aG G2 E (.rQ [])):=.new hE;have s3:aG G2 E (.rQ []) E=aj (.rQ []):=aF;generalize aG G2 E (.rQ [])=G3 at hQ l3 s3 ⊢;have l4:Le G3 (aG G3 Q (.lst [])):=.new hQ;have s4:aG G3 Q (.lst []) Q=aj (.lst []):=aF;generalize aG G3 Q (.lst [])=G4 at l4 s4 ⊢
 have nn:∀{G G':Gp}{x:bw},Le G G'->G' x=bh->G x=bh:=λ{G G' x} l e=>by
  cases q:G x with
  |none=>rfl
  |some u=>rw[l _ _ q]at e;cases e
 have e1:=l4 _ _ (l3 _ _ (l2 _ _ s1));have e2:=l4 _ _ (l3 _ _ s2);have e3:=l4 _ _ s3;have n1:L≠s:=λz=>by rw[z,e1]at e2;cases e2
 have n2:E≠s:=λz=>by rw[z,e1]at e3;cases e3
 have n3:Q≠s:=λz=>by rw[z,e1]at s4;cases s4
 have n4:L≠Q:=λz=>by rw[←z,l3 _ _ s2]at hQ;cases hQ
 refine⟨e1,aR.here (h s L E Q _ (λq u e=>?_) hs (nn l1 hL) (nn (l1.trans l2) hE) (nn ((l1.trans l2).trans l3) hQ) ⟨?_,?_,?_,?_,n4,Ah,(λz hz=>nomatch hz),(λ_ _=>rfl),(λz hz=>nomatch hz),dz _,dz _,dz _,rfl⟩)⟩
 .rw[aM (λz=>by rw[z,hs]at e;cases e)];exact l4 _ _ (l3 _ _ (l2 _ _ (l1 _ _ e)))
 .rw[aF];rfl
 .rw[aM n1];exact e2
 .rw[aM n2];exact e3
 .rw[aM n3];exact s4
def Yp{tg:nL}{j:Int}(P:Nat->aP->Gp->Prop)(h0:P 0 ρ G)
  (hb:∀(k:Nat) ρ G,i+(k:Int)<j->P k ρ G->tg (.int (i+k)) ρ λg7=>tb {F with nx:=P (k+1),ct:=P (k+1),bk:=F.nx} g7 G)(he:∀ρ G,P (j - i).toNat ρ G->F.nx ρ G):D0 (.bS (uF i j)) tg tb F ρ G:=by
 have hlen:(Src.bS (uF i j)).items.length=(j - i).toNat:=by simp[Src.items,uF]
 refine⟨P,h0,λ_ _ _ _ _=>trivial,λk d ρ G hd p=>?_,λρ G p=>he ρ G (hlen ▸ p)⟩;have hk:k<(j - i).toNat:=by rw[←hlen];exact(jd.mp hd).1
 have e:d=.int (i+k):=by
  have:(uF i j)[k]?=aj d:=hd;unfold uF at this;rw[kh,Fd ⋯]at this;simp at this;exact this.symm
 subst e;exact hb k ρ G ⋯ p
def aE3(hl:ns.length<=63)(hG:G a=aj (.fi (ns.map D.int)))(h:∀s L E Q x y g room day ae W ws G',Le G G'->OK 50 s L E Q x y g room day ae W ws G'->R (.ref s) G'):mX K A [.ref a] G R EX:=by
 have big:10000<dh:=by decide
 refine⟨rfl,?_⟩;show wA K A _ _ [aj (.ref a),bh,bh,bh] G;exists wA;refine Uu hG λx y g hx hy=>?_;exists yJ;refine Ut hG λroom G1 l1=>?_;symm;refine Us λs L E Q G2 l2 hs hL hE hQ o=>?_;have Lc:=l1.trans l2;exists yI;rw[iR (rB (Lc _ _ hG))];symm;have hj:(if(41:Int)<(ns.length:Int)then(41:Int)else(ns.length:Int))<=41:=by split<;>omega
 generalize (if(41:Int)<(ns.length:Int)then(41:Int)else(ns.length:Int))=j at hj
 have nn:∀{x:bw},G1 x=bh->G x=bh:=λ{x} e=>by
  cases q:G x with
  |none=>rfl
  |some u=>rw[l1 _ _ q]at e;cases e
 have hs:=nn hs;have hL:=nn hL;have hE:=nn hE;have hQ:=nn hQ;refine Yp (λk ρ G'=>∃r3 day ae W ws,ρ=[aj (.ref a),aj (.tup [.int x,.int y,.int g]),aj (.ref s),r3]/\OK k s L E Q x y g room day ae W ws G'/\Le G G') ⟨bh,0,[],[],[],rfl,o,Lc⟩ (λk ρ G' hk hh=>?_) λρ G' hh=>?_
 .obtain⟨r3,day,ae,W,ws,rfl,o',l'⟩:=hh;exists vZ;rw[show(1+(k:Int))=((1+k:Nat):Int) by omega];refine Hv (l' _ _ hG) ⋯ ?_;symm;refine Uv o' ⋯ hx hy λdd G3 hd l3=>?_;symm;refine aIM (o'.le l3) ⋯ hd λd DG qE W' R7 G4 o4 ot=>?_;symm;refine⟨_,DG,qE,W',R7,rfl,o4,λq u e=>ot q u (λz=>?_) (λz=>?_) (λz=>?_) (λz=>?_) (l3 _ _ (l' _ _ e))⟩
  .rw[z,hs]at e;cases e
  .rw[z,hL]at e;cases e
  .rw[z,hE]at e;cases e
  .rw[z,hQ]at e;cases e
 .obtain⟨r3,day,ae,W,ws,rfl,o',l'⟩:=hh;exists yH;exact aR.here (h s L E Q x y g room day ae W ws G' l' (o'.up ⋯))
section
variable{s:bw}{x y g room day:Int}{n:Nat}
def aIN{t:bw}{b:Int×Int}{N:List (List Key×bw)}(o:OK n s L E Q x y g room day ae W ws G)(hn:n<60)(ht:G t=aj (.bD ak (N.map n6)))(hN:N.length<1000)(nb:kq b∉N.map (·.1))
  (h:∀(e:bw)(ps:List (Int×Int)) r3 r4 r5 G',G e=bh->G' t=aj (.bD ak ((N++[(kq b,e)]).map n6))->G' e=aj (.bD ao (ps.map jD))->(∀q u,q≠t->G q=aj u->G' q=aj u)->c7 ps->(ps.map (·.1)).Nodup->(∀q,q∈ps↔((q.1,b),q.2)∈W)->F.nx [aj (.ref s),aj (.ref t),aj (bW b),r3,r4,r5] G') :
  lK K A ex F [aj (.ref s),aj (.ref t),aj (bW b),r3,r4,r5] G:=by
 have big:10000<dh:=by decide
 have wl:=o.wl;exists lK;refine ED (.inl o.li) o.nd ⋯ (λQ=>?_) (λk=>decide (k.2=b)) (λz=>.int z.1.1) (λz hz G' ke Q hQ=>?_) (λz hz hf G' ke Q hQ=>?_) λq hq=>?_
 .symm;rw[fX o.st]
 .symm;simpa[HZ,NO]using hQ
 .symm;exact hQ
 .symm;have l1:Le G _:=.new (o:=.lst ((W.filter λz=>decide (z.1.2=b)).map λz=>D.int z.1.1)) hq
  have kF:((W.filter λz=>decide (z.1.2=b)).map λz=>z.1.1).Nodup:=by
   rw[List.Nodup,uc];refine pb.imp_of_mem ?_ (pb.filter _ (uc.mp o.nd));intro a c ha hc FW e;have h1:=of_decide_eq_true (xg.mp ha).2;have h2:=of_decide_eq_true (xg.mp hc).2;exact FW (Prod.ext e (h1.trans h2.symm))
  refine Or.inr ⟨q,(W.filter λz=>decide (z.1.2=b)).map λz=>z.1.1,rfl,?_,kF,?_,λms pm ri r hr=>?_⟩
  .rw[bF,ni];rfl
  .rw[dw];exact Ar (zc _ _) (Ar wl ⋯)
  have l2:Le _ _:=.new (o:=.lst (ms.map D.int)) hr;have lr:bB _ r=aj (ms.map D.int):=bF (G:=aG G q (.lst ((W.filter λz=>decide (z.1.2=b)).map λz=>D.int z.1.1))) (p:=r);have l3:=l1.trans l2;generalize aG (aG G q _) r _=G1 at lr l3
  have P6:∀m∈ms,∃v,((m,b),v)∈W:=λm hm=>by
   let⟨z,hz,e⟩:=gk.mp (pm.mem_iff.mp hm);let⟨h1,h2⟩:=xg.mp hz;have h2:=of_decide_eq_true h2;exact⟨z.2,by rw[show((m,b),z.2)=z from Prod.ext (Prod.ext e.symm h2.symm) rfl];exact h1⟩
  have vW:∀{m v},((m,b),v)∈W->bM W (m,b)=v:=λ{m v} h=>by unfold bM;rw[jR (z:=((m,b),v)) o.nd h];rfl
  have K3:ms.Nodup:=pm.nodup_iff.mpr kF;exists pG;intro e he;have l4:Le G1 (aG G1 e (.bD ao [])):=.new he;have e4:aG G1 e (.bD ao []) e=aj (.bD ao (([]:List (Int×Int)).map jD)):=aF
  have Ba:G e=bh:=by
   cases q:G e with
   |none=>rfl
   |some u=>rw[l3 _ _ q]at he;cases he
  generalize aG G1 e (.bD ao [])=G2 at l4 e4;have l5:=l3.trans l4;have o5:=o.le l5;have La:=fL l4 lr;have nr:r≠e:=λz=>by rw[z]at lr;unfold L2.bB at lr;rw[he]at lr;cases lr
  exists pF;rw[n8 La];refine rC (λk ρ G'=>bB G' r=aj (ms.map D.int)/\∃r5,ρ=[aj (.ref s),aj (.ref t),aj (bW b),aj (.ref r),aj (.ref e),r5]/\G' e=aj (.bD ao (((ms.take k).map λm=>(m,bM W (m,b))).map jD))/\∀q u,q≠e->G2 q=aj u->G' q=aj u) ⟨La,r5,rfl,e4,λ_ _ _ z=>z⟩ (λk ρ G' h=>h.1) (λk d ρ G' hd hh=>?_) λρ G' hh=>?_
  .obtain⟨ij,r5,rfl,e',k'⟩:=hh;let⟨m,em,rfl⟩:=Al hd;let⟨v,hv⟩:=P6 m (qd em);have ne:s≠e:=λz=>by have:=o.st;rw[z,Ba]at this;cases this
   have nE:E≠e:=λz=>by have:=o.li;rw[z,Ba]at this;cases this
   exists nT;rw[fX (k' _ _ ne o5.st)];symm;refine(show xB (.ref E) (kD (m,b)) G' _ from Hw (z:=((m,b),v)) o.nd hv (.inl (k' _ _ nE o5.li)) ?_);symm
   have lk:((ms.take k).map λm=>(m,bM W (m,b))).length<1000:=by
    rw[dw,Ce];have h1:=pm.length_eq;rw[dw]at h1;have h2:=zc (λz:Wk=>decide (z.1.2=b)) W;omega
   rw[zR e' rD rfl (by rw[dw];omega),Ii]
   have nm:m∉((ms.take k).map λm=>(m,bM W (m,b))).map (·.1):=λw=>by
    rw[ni]at w;let⟨m',A6,e1⟩:=gk.mp w;have e1:m'=m:=e1;subst e1;have tP:(ms.take (k+1)).Nodup:=K3.sublist (Fc _ _);rw[zm,em,zu]at tP;exact tP.2.2 _ A6 _ (by simp) rfl
   rw[EG nm];refine⟨?_,_,rfl,?_,λq u n z=>by rw[aM n];exact k' q u n z⟩
   .unfold L2.bB at ij ⊢;rw[aM nr];exact ij
   .rw[aF,zm,em,←vW hv];show aj (GO.bD ao (((ms.take k).map (λm=>(m,bM W (m,b)))++[(m,bM W (m,b))]).map jD))=aj (GO.bD ao (((ms.take k++[m]).map λm=>(m,bM W (m,b))).map jD));rw[qe (l₁:=ms.take k)];rfl
  .obtain⟨ij,r5,rfl,e',k'⟩:=hh;rw[dw,sg]at e';have nt:t≠e:=λz=>by rw[z,Ba]at ht;cases ht
   have t':=k' _ _ nt (l5 _ _ ht);exists pD;rw[zR t' jX rfl (by rw[dw];omega)]
   have ep:bZ (N.map n6) (.inr (ky b.1 b.2)) (.ref e)=(N++[(kq b,e)]).map n6:=by
    rw[EG,qe]
    .rfl
    .intro w;let⟨z,hz,e2⟩:=gk.mp w;let⟨y,hy,rfl⟩:=gk.mp hz;exact nb (gk.mpr ⟨y,hy,Sum.inr.inj e2⟩)
   rw[ep];refine h e (ms.map λm=>(m,bM W (m,b))) _ _ _ _ Ba aF (by rw[aM (Ne.symm nt)];exact e') (λq u n z=>by rw[aM n];exact k' q u (λw=>by rw[w,Ba]at z;cases z) (l5 _ _ z)) ?_ ?_ λq=>?_
   .unfold c7;rw[uc];exact ri.imp λh=>.inl h
   .rw[ni];exact(show(ms.map λm=>m).Nodup by rw[List.map_id'];exact K3)
   .constructor
    .intro hq;let⟨m,hm,rfl⟩:=gk.mp hq;let⟨v,hv⟩:=P6 m hm;show((m,b),bM W (m,b))∈W;rw[vW hv];exact hv
    .intro hq;refine gk.mpr ⟨q.1,pm.mem_iff.mpr (gk.mpr ⟨_,xg.mpr ⟨hq,decide_eq_true rfl⟩,rfl⟩),?_⟩;rw[vW hq]
end
section
variable{s:bw}{x y g room day:Int}{n:Nat}
def JO{W:List Wk}(nd:(W.map (·.1)).Nodup)(nz:∀z∈W,z.2≠0)(q:Wk):q∈W↔q.2=bM W q.1/\q.2≠0:=by
 refine⟨λh=>⟨by unfold bM;rw[jR nd h];rfl,nz q h⟩,?_⟩;rintro⟨h1,h2⟩;unfold bM at h1;cases e:aQ W q.1 with
 |none=>rw[e]at h1;exact absurd h1 h2
 |some v =>
  rw[e]at h1;have:=lD e;rw[show q=(q.1,v)from Prod.ext rfl h1];exact this
def Ur(o:OK n s L E Q x y g room day ae W ws G)(hn:n<60)(h:∀t qs N c' G',Le G G'->G t=bh->(∀z∈N,G z.2=bh)->c8 (λb l=>bM W (l,b)) t qs N c' G'->R (.ref t) G'):kZ K A [.ref s] G R EX:=by
 have big:10000<dh:=by decide
 have wl:=o.wl;refine⟨rfl,?_⟩;show sX K A _ _ [aj (.ref s),bh,bh,bh,bh,bh] G;exists sX;intro t ht;have l1:Le G (aG G t (.bD ak [])):=.new ht;have t1:aG G t (.bD ak []) t=aj (.bD ak (([]:List (List Key×bw)).map n6)):=aF;generalize aG G t (.bD ak [])=G1 at l1 t1;have o1:=o.le l1;exists vJ;refine ED (.inl o1.li) o1.nd ⋯ (λQ=>?_) (λ_=>ak) (λz=>bW z.1.2) (λz hz G' ke Q hQ=>?_) (λz hz hf G' ke Q hQ=>?_) λq hq=>?_
 .symm;rw[fX o1.st]
 .symm;exact hQ
 .symm;exact hQ
 .symm;have l2:Le G1 _:=.new (o:=.lst ((W.filter λ_=>ak).map λz=>bW z.1.2)) hq;refine W5 (ps:=W.map λz=>z.1.2) (by rw[bF,JI.mpr λ_ _=>rfl,ni];rfl) (by rw[dw];omega) λqs ri mem r hr=>?_;have l3:Le _ _:=.new (o:=.lst (qs.map bW)) hr;have lr:bB _ r=aj (qs.map bW):=bF (G:=aG G1 q (.lst ((W.filter λ_=>ak).map λz=>bW z.1.2))) (p:=r);have l4:=l2.trans l3;generalize aG (aG G1 q _) r _=G2 at lr l4;have l5:=l1.trans l4;have o2:=o.le l5;have nn:∀{a u},G a=aj u->a≠t:=λ{a u} e z=>by rw[z,ht]at e;cases e
  have qn:qs.Nodup:=ri.imp λ{a b} h e=>by rw[e]at h;unfold qI at h;omega
  have lq:qs.length<1000:=by
   have:=BO (ys:=W.map λz=>z.1.2) qn λb hb=>(mem b).mp hb;rw[dw]at this;omega
  have nr:r≠t:=λz=>by rw[z]at lr;unfold L2.bB at lr;rw[l4 _ _ t1]at lr;cases lr
  rw[n8 lr];refine rC (λk ρ G'=>bB G' r=aj (qs.map bW)/\∃r2 r3 r4 r5 N c',ρ=[aj (.ref s),aj (.ref t),r2,r3,r4,r5]/\G' t=aj (.bD ak (N.map n6))/\N.map (·.1)=(qs.take k).map kq/\(∀a u,a≠t->G2 a=aj u->G' a=aj u)/\∀z∈N,G z.2=bh/\∃b,z.1=kq b/\G' z.2=aj (.bD ao ((c' z.2).map jD))/\c7 (c' z.2)/\((c' z.2).map (·.1)).Nodup/\∀q,q∈c' z.2↔q.2=bM W (q.1,b)/\q.2≠0) ⟨lr,bh,bh,bh,bh,[],λ_=>[],rfl,l4 _ _ t1,rfl,λ_ _ _ e=>e,λz hz=>nomatch hz⟩ (λk ρ G' h=>h.1) (λk d ρ G' hd hh=>?_) λρ G' hh=>?_
  .obtain⟨ij,r2,r3,r4,r5,N,c',rfl,t',ek,k',hi⟩:=hh;let⟨b,eb,rfl⟩:=Al hd;have o':OK n s L E Q x y g room day ae W ws G':=⟨k' _ _ (nn o.st) o2.st,k' _ _ (nn o.lo) o2.lo,k' _ _ (nn o.li) o2.li,k' _ _ (nn o.ro) o2.ro,o.nq,o.nd,o.nz,o.am,o.lt,o.wl,o.rl,o.ll,o.ls⟩;have kb:k<qs.length:=(jd.mp eb).1
   have lN:N.length<=k:=by
    have:=congrArg pf ek;simp at this;omega
   have nb:kq b∉N.map (·.1):=by
    rw[ek,Eg];intro w;have tP:(qs.take (k+1)).Nodup:=qn.sublist (Fc _ _);rw[zm,eb,zu]at tP;exact tP.2.2 _ w _ (by simp) rfl
   symm;refine aIN o' hn t' ⋯ nb λe ps r3 r4 r5 G3 he t3 e3 k3 rp np mp=>?_
   have e0:G e=bh:=by
    cases q:G e with
    |none=>rfl
    |some u=>rw[k' _ _ (nn q) (l5 _ _ q)]at he;cases he
   have ge:∀z∈N,z.2≠e:=λz hz w=>by
    let⟨_,_,_,h1,_⟩:=hi z hz;rw[w,he]at h1;cases h1
   have gt:∀z∈N,z.2≠t:=λz hz w=>by
    let⟨_,_,_,h1,_⟩:=hi z hz;rw[w,t']at h1;cases h1
   refine⟨?_,_,r3,r4,r5,N++[(kq b,e)],setC c' e ps,rfl,t3,?_,λa u n z=>k3 _ _ n (k' _ _ n z),λz hz=>?_⟩
   .unfold L2.bB at ij ⊢;cases q:G' r with
    |none=>rw[q]at ij;cases ij
    |some u=>rw[q]at ij;rw[k3 _ _ nr q];exact ij
   .rw[qe,ek,zm,eb,qe];rfl
   .rcases uo.mp hz with hz|hz
    .obtain⟨h0,b',h1,h2,h3,h4,h5⟩:=hi z hz;rw[wQ (ge z hz)];exact⟨h0,b',h1,k3 _ _ (gt z hz) h2,h3,h4,h5⟩
    .rw[ql.mp hz];show G e=bh/\∃b',kq b=kq b'/\G3 e=aj (.bD ao ((setC c' e ps e).map jD))/\c7 (setC c' e ps e)/\((setC c' e ps e).map (·.1)).Nodup/\∀q,q∈setC c' e ps e↔q.2=bM W (q.1,b')/\q.2≠0;rw[iH];refine⟨e0,b,rfl,e3,rp,np,λq=>?_⟩;rw[mp];exact JO o.nd o.nz ((q.1,b),q.2)
  .obtain⟨ij,r2,r3,r4,r5,N,c',rfl,t',ek,k',hi⟩:=hh;rw[dw,sg]at ek;exists vI;refine aR.here (h t qs N c' G' (λa u e=>k' _ _ (nn e) (l5 _ _ e)) ht (λz hz=>(hi z hz).1) ⟨t',ri,ek,λb=>?_,λz hz=>(hi z hz).2⟩);rw[mem b];constructor
   .intro hb;let⟨z,hz,e⟩:=gk.mp hb;refine⟨z.1.1,?_⟩;have:=(JO o.nd o.nz z).mp hz;show bM W (z.1.1,b)≠0;rw[show(z.1.1,b)=z.1 from Prod.ext rfl e.symm,←this.1];exact this.2
   .rintro⟨l,hl⟩;have hl:bM W (l,b)≠0:=hl;exact gk.mpr ⟨((l,b),bM W (l,b)),(JO o.nd o.nz _).mpr ⟨rfl,hl⟩,rfl⟩
end
def Bv{α:Type}{r:α->α->Prop}(as:∀a b,r a b->r b a->False):∀{xs ys:List α},xs.Pairwise r->ys.Pairwise r->(∀z,z∈xs↔z∈ys)->xs=ys
 |[],[],_,_,_=>rfl
 |[],y::ys,_,_,h=>absurd ((h y).mpr (.head _)) (by simp)
 |x::xs,[],_,_,h=>absurd ((h x).mp (.head _)) (by simp)
 |x::xs,y::ys,hx,hy,h=>by
  rw[List.pairwise_cons]at hx hy
  have e:x=y:=by
   rcases lg.mp ((h x).mp (.head _))with e|m
   .exact e
   .rcases lg.mp ((h y).mpr (.head _))with e|m2
    .exact e.symm
    .exact(as _ _ (hy.1 _ m) (hx.1 _ m2)).elim
  subst e;have i:∀z,r x z->z≠x:=λz q e=>by rw[e]at q;exact as _ _ q q
  rw[Bv as hx.2 hy.2 λz=>⟨λm=>?_,λm=>?_⟩]
  .exact(lg.mp ((h z).mp (.tail _ m))).resolve_left (i z (hx.1 z m))
  .exact(lg.mp ((h z).mpr (.tail _ m))).resolve_left (i z (hy.1 z m))
def DZ(a b:Int×Int)(h:qI a b)(h2:qI b a):False:=by
 unfold qI at h h2;omega
def aIQ{qs:List (Int×Int)}(h:c7 qs):(qs.map kq).Nodup:=by
 rw[List.Nodup,uc]
 exact h.imp λ{a b} q e=>by
  have e2:=z6 e;rw[e2]at q;exact DZ _ _ q q
def aIR{qs:List (Int×Int)}(h:ps.map jD=qs.map jD):ps=qs:=(List.map_inj_right λa b e=>by
 injection e with e1 e2;injection e1 with e1;injection e1 with e1;injection e2 with e2;exact Prod.ext e1 e2).mp h
section
variable{f f':Int×Int->Int->Int}{t:bw}{N:List (List Key×bw)}{c c':bw->List (Int×Int)}
def c8.nd(a:c8 f t qs N c G):(N.map (·.1)).Nodup:=by rw[a.kq];exact aIQ a.ri
def c8.eq(hf:∀b l,f b l=f' b l)(a:c8 f t qs N c G)(b:c8 f' t' qs' N' c' G'):qs=qs'/\∀z∈N,∀y∈N',z.1=y.1->c z.2=c' y.2:=by
 refine⟨Bv DZ a.ri b.ri λq=>?_,λz hz y hy e=>?_⟩
 .rw[a.mem,b.mem];exact⟨λ⟨l,h⟩=>⟨l,by rw[←hf];exact h⟩,λ⟨l,h⟩=>⟨l,by rw[hf];exact h⟩⟩
 .obtain⟨p,h1,_,h2,_,h3⟩:=a.ins z hz;let⟨p',k1,_,k2,_,k3⟩:=b.ins y hy;have ep:p=p':=z6 (by rw[←h1,←k1,e]);subst ep;exact Bv DZ h2 k2 λq=>by rw[h3,k3,hf]
def EC{neg:Bool}(hf:∀b l,f b l=f' b l)(a:c8 f t qs N c G)(b:c8 f' t' qs' N' c' G)(k:R (.bl (!neg)) G):xA neg (.ref t) (.ref t') G R:=by
 let⟨e1,e2⟩:=a.eq hf b;have nk:N.map (·.1)=N'.map (·.1):=by rw[a.kq,b.kq,e1]
 have gN:∀z∈N,G z.2=aj (.bD ao ((c z.2).map jD)):=λz hz=>by let⟨_,_,h,_⟩:=a.ins z hz;exact h
 have LL:∀z∈N',G z.2=aj (.bD ao ((c' z.2).map jD)):=λz hz=>by let⟨_,_,h,_⟩:=b.ins z hz;exact h
 obtain⟨d,d1,d2⟩:∃d:bw->List (Int×Int),(∀z∈N,d z.2=c z.2)/\∀z∈N',d z.2=c' z.2:=by
  refine⟨λq=>if q∈N.map (·.2)then c q else c' q,λz hz=>if_pos (gk.mpr ⟨z,hz,rfl⟩),λz hz=>?_⟩;by_cases m:z.2∈N.map (·.2)
  .obtain⟨y,hy,e⟩:=gk.mp m;have h1:=gN y hy;have h2:=LL z hz;rw[e,h2]at h1;injection h1 with h1;injection h1 with _ h1;exact(if_pos m).trans (aIR h1).symm
  .exact if_neg m
 have et:eqT d N N'=ak:=by
  unfold L2.eqT;rw[show(N.length==N'.length)=ak by have:=congrArg pf nk;simpa using this,Bool.true_and,jl];intro z hz;have hm:z.1∈N'.map (·.1):=by rw[←nk];exact gk.mpr ⟨z,hz,rfl⟩
  let⟨y,hy,ey⟩:=gk.mp hm;have ey:y.1=z.1:=ey;rw[show aQ N' z.1=aj y.2 by rw[←ey];exact jR b.nd hy];show i6 (d z.2) (d y.2)=ak;rw[d1 z hz,d2 y hy,e2 z hz y hy ey.symm];let⟨_,_,_,_,h,_⟩:=b.ins y hy;exact Pn h
 refine UH (c:=d) a.tt b.tt (λz hz=>?_) (by rw[et,Bool.xor_true];exact k);rcases uo.mp hz with m|m
 .rw[d1 z m];exact gN z m
 .rw[d2 z m];exact LL z m
def c8.kp(a:c8 f t qs N c G)(h0:∀u,G t=aj u->G' t=aj u)(h:∀z∈N,∀u,G z.2=aj u->G' z.2=aj u):c8 f t qs N c G':=⟨h0 _ a.tt,a.ri,a.kq,a.mem,λz hz=>by
 let⟨b,h1,h2,h3⟩:=a.ins z hz;exact⟨b,h1,h z hz _ h2,h3⟩⟩
def c8.le(a:c8 f t qs N c G)(l:Le G G'):c8 f t qs N c G':=a.kp (λu e=>l _ _ e) λz _ u e=>l _ _ e
def c8.P5(a:c8 f t qs N c G){V:List ((Int×Int)×Int)}(hV:∀b l,f b l≠0->(b,l)∈V):N.length<=V.length:=by
 have:=BO (xs:=N.map (·.1)) (ys:=V.map λy=>Law.kq y.1) a.nd λk hk=>by
  rw[a.kq]at hk;let⟨b,hb,rfl⟩:=gk.mp hk;let⟨l,hl⟩:=(a.mem b).mp hb;exact gk.mpr ⟨(b,l),hV b l hl,rfl⟩
 simpa using this
def c8.aM6(a:c8 f t qs N c G){V:List ((Int×Int)×Int)}(hV:∀b l,f b l≠0->(b,l)∈V)(hz:z∈N):(c z.2).length<=V.length:=by
 let⟨b,_,_,_,h,m⟩:=a.ins z hz
 have:=BO (xs:=(c z.2).map (·.1)) (ys:=V.map (·.2)) h λk hk=>by
  let⟨q,hq,rfl⟩:=gk.mp hk;let⟨e1,e2⟩:=(m q).mp hq;exact gk.mpr ⟨(b,q.1),hV b q.1 (by rw[←e1];exact e2),rfl⟩
 simpa using this
def c8.up(a:c8 f t qs N c G)(hz:z∈N){ms:List Int}(pm:ms.Perm ((c z.2).map (·.1)))(ri:ms.Pairwise (· < ·)):ms=(c z.2).map (·.1):=by
 let⟨b,_,_,h,nd,m⟩:=a.ins z hz;refine Bv (λa b h1 h2=>absurd h1 ⋯) ri ?_ λy=>pm.mem_iff;rw[uc];have nd:(c z.2).Pairwise λa b=>a.1≠b.1:=uc.mp nd;refine(h.and nd).imp λ{a b} q=>?_;have h1:=q.1;have h2:=q.2;unfold qI at h1;omega
end
section
variable{κ:Type}[DecidableEq κ]
abbrev fs(p:κ->Bool):List (κ×Int)->Int
 |[]=>0
 |z::r=>(if p z.1 then z.2 else 0)+fs p r
def Hu{p:κ->Bool}:∀{xs ys:List (κ×Int)},fs p (xs++ys)=fs p xs+fs p ys
 |[],ys=>by show fs p ys=0+_;omega
 |z::r,ys=>by
  show _+fs p (r++ys)=_+_+_;rw[Hu];omega
def Ht{p:κ->Bool}:∀{xs:List (κ×Int)},fs p (xs.map λz=>(z.1,-z.2))=- fs p xs
 |[]=>rfl
 |z::r=>by
  show(if p z.1 then -z.2 else 0)+fs p (r.map λz=>(z.1,-z.2))=-(_+_);rw[Ht];split<;>omega
def Hs{p q:κ->Bool}:∀{xs:List (κ×Int)},fs p (xs.filter λz=>q z.1)=fs (λk=>q k&&p k) xs
 |[]=>rfl
 |z::r=>by
  have i:=Hs (p:=p) (q:=q) (xs:=r);show _=(if(q z.1&&p z.1)=ak then z.2 else 0)+fs (λk=>q k&&p k) r;rw[uh];by_cases c:q z.1=ak
  .rw[if_pos c,c,Bool.true_and];show _+fs p _=_;rw[i]
  .rw[if_neg c,i];simp[c]
def MF{p q:κ->Bool}:∀{xs:List (κ×Int)},fs p xs=fs (λk=>q k&&p k) xs+fs (λk=>!q k&&p k) xs
 |[]=>rfl
 |z::r=>by
  have i:=MF (p:=p) (q:=q) (xs:=r);show(if p z.1=ak then z.2 else 0)+fs p r=(if(q z.1&&p z.1)=ak then z.2 else 0)+fs (λk=>q k&&p k) r+((if(!q z.1&&p z.1)=ak then z.2 else 0)+fs (λk=>!q k&&p k) r);rw[i];cases q z.1<;>simp<;>omega
def GR{p:κ->Bool}(h:∀k,p k=ao):∀{xs:List (κ×Int)},fs p xs=0
 |[]=>rfl
 |z::r=>by
  show(if p z.1 then z.2 else 0)+fs p r=0;rw[h,GR h];rfl
def ME{p q:κ->Bool}(h:∀k,p k=q k):fs p xs=fs q xs:=by rw[show p=q from funext h]
def NL(p:κ->Bool):∀(n:Nat)(xs:List (κ×Int)),xs.length<=n->(∀k,fs (λj=>decide (j=k)) xs=0)->fs p xs=0
 |_,[],_,_=>rfl
 |0,_::_,h,_=>by simp at h
 |n+1,z::r,h,h0=>by
  have i:=NL p n ((z::r).filter λy=>!decide (y.1=z.1)) (by
   rw[uh,if_neg (by simp)];have:=zc (λy:κ×Int=>!decide (y.1=z.1)) r;simp at h
   omega) λk=>by
    rw[Hs (q:=λy=>!decide (y=z.1))];by_cases c:k=z.1
    .exact GR λj=>by
      by_cases e:j=k
      .simp[e,c]
      .simp[e]
    .rw[←h0 k]
     exact ME λj=>by
      by_cases e:j=k
      .simp[e,c]
      .simp[e]
  rw[Hs (q:=λy=>!decide (y=z.1))]at i;rw[MF (q:=λy=>!decide (y=z.1)),i,Int.zero_add];by_cases c:p z.1=ak
  .rw[←h0 z.1]
   exact ME λj=>by
    by_cases e:j=z.1
    .simp[e,c]
    .simp[e]
  .exact GR λj=>by
    by_cases e:j=z.1
    .simp[e,c]
    .simp[e]
def Uq(h:∀k,fs (λj=>decide (j=k)) xs=fs (λj=>decide (j=k)) ys)(p:κ->Bool):fs p xs=fs p ys:=by
 have:=NL p _ (xs++ys.map λz=>(z.1,-z.2)) (dz _) λk=>by rw[Hu,Ht,h];omega
 rw[Hu,Ht]at this;omega
def Hr:∀{xs:List (κ×Int)},(xs.map (·.1)).Nodup->∀k,fs (λj=>decide (j=k)) xs=bM xs k
 |[],_,_=>rfl
 |z::r,nd,k=>by
  rw[iw,tu]at nd;rw[cI];show(if decide (z.1=k)=ak then z.2 else 0)+fs _ r=_;by_cases c:z.1=k
  .have n:k∉r.map (·.1):=c ▸ nd.1;rw[Hr nd.2,Jl n];simp[c]
  .rw[Hr nd.2];simp[c]
def MD{p:κ->Bool}:∀{xs:List (κ×Int)},((xs.filter λz=>p z.1).map (·.2)).sum=fs p xs
 |[]=>rfl
 |z::r=>by
  rw[uh];show _=(if p z.1=ak then z.2 else 0)+fs p r;rw[←MD];by_cases c:p z.1=ak
  .simp[c]
  .simp[c]
end
abbrev DD(cs:List Ch):List Wk:=cs.map λz=>((z.2.1,z.1),z.2.2)
def MC{l:Int}:∀{cs:List Ch},fs (λk:Kb=>decide (k.1=l)) (DD cs)=ib cs l
 |[]=>rfl
 |z::r=>by
  show(if decide (z.2.1=l)=ak then z.2.2 else 0)+fs _ (DD r)=_;rw[MC];unfold ib;rw[uh];by_cases c:z.2.1=l
  .simp[c]
  .simp[c]
def MB{k:Kb}:∀{cs:List Ch},fs (λj:Kb=>decide (j=k)) (DD cs)=iI cs (kq k.2) k.1
 |[]=>rfl
 |z::r=>by
  show(if decide ((z.2.1,z.1)=k)=ak then z.2.2 else 0)+fs _ (DD r)=_;rw[MB];show _=(if kq k.2=kq z.1/\k.1=z.2.1 then z.2.2 else 0)+iI r (kq k.2) k.1;congr 1;by_cases c:(z.2.1,z.1)=k
  .rw[if_pos (decide_eq_true c),if_pos ⟨by rw[←c],by rw[←c]⟩]
  .rw[if_neg (by simpa using c),if_neg λw=>c (Prod.ext w.2.symm (z6 w.1).symm)]
def aIT{W:List Wk}(nd:(W.map (·.1)).Nodup)(am:∀b l,bM W (l,b)=iI cs (kq b) l)(l:Int):ib cs l=((W.filter λz=>decide (z.1.1=l)).map (·.2)).sum:=by
 rw[←MC,MD (p:=λk:Kb=>decide (k.1=l))];refine(Uq (λk=>?_) _).symm;rw[MB,Hr nd,←am]
def MA{l:Int}{k:List Key}:∀{cs:List Ch},(∀z∈cs,z.2.1≠l)->iI cs k l=0
 |[],_=>rfl
 |z::r,h=>by
  show(if k=kq z.1/\l=z.2.1 then z.2.2 else 0)+iI r k l=0;rw[MA λy hy=>h y (.tail _ hy),if_neg λw=>h z (.head _) w.2.symm];rfl
def aE4(h:∀z∈cs,z.2.1≠l):ib cs l=0:=by
 unfold ib;rw[List.filter_eq_nil_iff.mpr λz hz=>by simpa using h z hz];rfl
section
variable{s L E Q h t u:bw}{room day:Int}{ae:List D}{W:List Wk}{ws:List Rw}{qs qs':List (Int×Int)}{N N':List (List Key×bw)}{c c':bw->List (Int×Int)}{F:eY}{ex:aP->aW}
structure fm(s L E Q h t u:bw)(pl:D)(room day:Int)(ae:List D)(W:List Wk)(ws rs:List Rw)(qs:List (Int×Int))(N:List (List Key×bw))(c:bw->List (Int×Int))(qs':List (Int×Int))(N':List (List Key×bw))(c':bw->List (Int×Int))(G:Gp):Prop where
 st:G s=aj (.bD ao (stK pl room day L E Q))
 lo:G L=aj (.lst ae)
 li:n5 G E (wN W)
 ro:G Q=aj (.lst (ws.map Rw.d))
 ha:G h=aj (.lst (rs.map Rw.d))
 du:c8 (λb l=>bM W (l,b)) u qs N c G
 fo:c8 (λb l=>iI (z8 ws) (kq b) l) t qs' N' c' G
 nq:h≠Q
 nl:h≠L
 FU:t≠u
def fm.kp{pl:D}(b:fm s L E Q h t u pl room day ae W ws rs qs N c qs' N' c' G)(k:∀q v,q≠E->G q=aj v->G' q=aj v)(li:n5 G' E (wN W)):fm s L E Q h t u pl room day ae W ws rs qs N c qs' N' c' G':=by
 have d:∀{q:bw}{tt:Bool}{aa:List (DK×D)},G q=aj (.bD tt aa)->q≠E:=λ{q tt aa} e z=>by
  rcases b.li with w|⟨_,w⟩<;>rw[z,w]at e<;>cases e
 have l:∀{q:bw}{xs:List D},G q=aj (.lst xs)->q≠E:=λ{q xs} e z=>by
  rcases b.li with w|⟨_,w⟩<;>rw[z,w]at e<;>cases e
 exact⟨k _ _ (d b.st) b.st,k _ _ (l b.lo) b.lo,li,k _ _ (l b.ro) b.ro,k _ _ (l b.ha) b.ha,b.du.kp (λv e=>k _ _ (d b.du.tt) e) (λz hz v e=>by
  let⟨_,_,w,_⟩:=b.du.ins z hz;exact k _ _ (d w) e),b.fo.kp (λv e=>k _ _ (d b.fo.tt) e) (λz hz v e=>by
  let⟨_,_,w,_⟩:=b.fo.ins z hz;exact k _ _ (d w) e),b.nq,b.nl,b.FU⟩
def fm.le(b:fm s L E Q h t u pl room day ae W ws rs qs N c qs' N' c' G)(l:Le G G'):fm s L E Q h t u pl room day ae W ws rs qs N c qs' N' c' G':=b.kp (λq v _ e=>l _ _ e) (by
 rcases b.li with w|⟨od,w⟩
 .exact .inl (l _ _ w)
 .exact .inr ⟨od,l _ _ w⟩)
structure nS(ae:List D)(W:List Wk)(ws:List Rw):Prop where
 nd:(W.map (·.1)).Nodup
 nz:∀z∈W,z.2≠0
 am:∀b l,bM W (l,b)=iI (z8 ws) (kq b) l
 lt:∀z∈z8 ws,z.2.1<ae.length
 wl:W.length<=50
 rl:ws.length<=50
 ll:ae.length<=50
abbrev eA(W:List Wk):List ((Int×Int)×Int):=W.map λz=>(z.1.2,z.1.1)
def nS.eA(p:nS ae W ws)(b:Int×Int)(l:Int)(h:iI (z8 ws) (kq b) l≠0):(b,l)∈eA W:=by
 rw[←p.am]at h;unfold bM at h;cases e:aQ W (l,b)with
 |none=>rw[e]at h;exact absurd rfl h
 |some v=>exact gk.mpr ⟨_,lD e,rfl⟩
def Cr:(eA W).length=W.length:=by unfold eA;rw[dw]
def HX{ws:List Rw}:(ws.map Rw.d).all (bQ 20)=ak:=by
 rw[jl];intro d hd;let⟨w,_,rfl⟩:=gk.mp hd;cases w<;>rfl
def HW:(ps.map bW).all (bQ 20)=ak:=by
 rw[jl];intro d hd;let⟨w,_,rfl⟩:=gk.mp hd;rfl
def HV{ps:List Int}:(ps.map D.int).all (bQ 20)=ak:=by
 rw[jl];intro d hd;let⟨w,_,rfl⟩:=gk.mp hd;rfl
def Jf{xs:List D}(h:xs.all (bQ 20)=ak):gO xs xs=ak:=JV (n:=20) λx m=>jl.mp h x m
def aE5(hs:G s=aj (.bD ao (stK pl room day L E Q)))(ro:G Q=aj (.lst (ws.map Rw.d)))(p:nS ae W ws)(du:c8 (λb l=>bM W (l,b)) u qs N c G)(hR:∀G',F.rt (.bl ak) G') :
  Jo K A ex F [r0,aj (.ref s),r2,aj (.ref u),r4,r5,r6,r7,r8] G:=by
 have wl:=p.wl;have rl:=p.rl;exists Jo;rw[pY hs];symm;refine wR (bY ro) ⋯ (eA W) (by rw[Cr];omega) p.eA λt1 q1 N1 c1 G1 l1 _ _ ca=>?_;symm;refine EC (λb l=>(p.am b l).symm) ca (du.le l1) ?_;symm;intro e1 h1;symm;refine wR (ws:=[]) bF (by simp) [] (by simp) (λb l w=>absurd rfl w) λt2 q2 N2 c2 G2 l2 _ _ cb=>?_;symm;intro e2 h2;have l3:Le G2 (aG G2 e2 (.bD ak [])):=.new h2;symm;refine EC (f':=λ_ _=>0) (qs':=[]) (N':=[]) (c':=λ_=>[]) (λb l=>rfl) (cb.le l3) ⟨aF,.nil,rfl,λb=>⟨λw=>(nomatch w),λ⟨_,w⟩=>absurd rfl w⟩,λz hz=>nomatch hz⟩ ?_;symm;intro e3 h3;symm;refine Jg (ws:=[]) bF λG4 _=>?_;symm;exact hR _
def KB(b:fm s L E Q h t u pl room day ae W ws rs qs N c qs' N' c' G)(p:nS ae W ws)(hR:∀G',F.rt (.bl ak) G') :
  Jn K A ex F [r0,aj (.ref s),r2,aj (.ref u),aj (.ref t),r5,r6,r7,r8] G:=by
 exists Jn;refine NX b.fo.tt ?_;have k:∀{q v},q≠t->G q=aj v->aG G t (.bD ak []) q=aj v:=λ{q v} n e=>by rw[aM n];exact e
 have n1:s≠t:=λz=>by have w:=b.st;rw[z,b.fo.tt]at w;cases w
 have n2:Q≠t:=λz=>by have w:=b.ro;rw[z,b.fo.tt]at w;cases w
 refine aE5 (k n1 b.st) (k n2 b.ro) p (b.du.kp (λv e=>k (Ne.symm b.FU) e) λz hz v e=>k (λw=>?_) e) hR;let⟨_,_,q,_⟩:=b.du.ins z hz;rw[w,b.fo.tt]at q;cases q
end
section
variable{s t:bw}{room day:Int}{N:List (List Key×bw)}{c c':bw->List (Int×Int)}{F:eY}{ex:aP->aW}
def fm.app{rs':List Rw}(b:fm s L E Q h t u pl room day ae W ws rs qs N c qs' N' c' G):fm s L E Q h t u pl room day ae W ws rs' qs N c qs' N' c' (aG G h (.lst (rs'.map Rw.d))):=by
 have d:∀{q:bw}{tt:Bool}{aa:List (DK×D)},G q=aj (.bD tt aa)->q≠h:=λ{q tt aa} e z=>by rw[z,b.ha]at e;cases e
 have k:∀{q v},q≠h->G q=aj v->aG G h (.lst (rs'.map Rw.d)) q=aj v:=λ{q v} n e=>by rw[aM n];exact e
 have ne:E≠h:=λz=>by rcases b.li with w|⟨_,w⟩<;>rw[z,b.ha]at w<;>cases w
 refine⟨k (d b.st) b.st,k (Ne.symm b.nl) b.lo,?_,k (Ne.symm b.nq) b.ro,aF,b.du.kp (λv e=>k (d b.du.tt) e) (λz hz v e=>?_),b.fo.kp (λv e=>k (d b.fo.tt) e) (λz hz v e=>?_),b.nq,b.nl,b.FU⟩
 .rcases b.li with w|⟨od,w⟩
  .exact .inl (k ne w)
  .exact .inr ⟨od,k ne w⟩
 .obtain⟨_,_,w,_⟩:=b.du.ins z hz;exact k (d w) e
 .obtain⟨_,_,w,_⟩:=b.fo.ins z hz;exact k (d w) e
def OW{ws:List Rw}{r:Rw}:z8 (ws++[r])=z8 ws++r.ch:=by unfold z8;rw[JF];simp
def nine(b:fm s L E Q h t u pl room day ae W ws ws qs N c qs' N' c' G)(p:nS ae W ws)(hR:∀G',F.rt (.bl ak) G') :
  Ig K A ex F [r0,aj (.ref s),aj (.ref h),aj (.ref u),aj (.ref t),r5,r6,r7,r8] G:=by
 have big:10000<dh:=by decide
 have wl:=p.wl;have rl:=p.rl;have ll:=p.ll;exists Ig;refine wD (b:=(0,1)) b.st b.li p.nd ⋯ λv G1 l1=>?_;have b1:=b.le l1;symm;rw[Cs b1.st];symm;refine cY (λ_=>?_) λ_=>KB b1 p hR;rw[pX b1.st];exists iR (bY b1.lo);exists QW,vu b1.ha;rw[nO b1.ha (by rw[dw];omega)];exists QX;have b2:=b1.app (rs':=ws++[.br ae.length "w" 9999 (0,1) 3]);rw[show ws.map Rw.d++[D.tup [.str "come",.int ae.length,.str "w",.int 9999,.tup [.int 0,.int 1],.int 3]]=(ws++[Rw.br ae.length "w" 9999 (0,1) 3]).map Rw.d by rw[qe];rfl];generalize aG G1 h _=G2 at b2
 have am:∀(k:Int×Int) l,iI (z8 (ws++[.br ae.length "w" 9999 (0,1) 3])) (kq k) l=iI (z8 ws) (kq k) l+if kq k=kq (0,1)/\l=ae.length then 3 else 0:=λk l=>by
  rw[OW,Fi];show _+iI [((0,1),(ae.length:Int),3)] (kq k) l=_;rw[Ji]
 have no:∀z∈z8 ws,z.2.1≠(ae.length:Int):=λz hz=>by have:=p.lt z hz;omega
 have f3:iI (z8 (ws++[.br ae.length "w" 9999 (0,1) 3])) (kq (0,1)) ae.length=3:=by
  rw[am,MA no,if_pos ⟨rfl,rfl⟩];rfl
 have lf:ib (z8 (ws++[.br ae.length "w" 9999 (0,1) 3])) ae.length=3:=by
  rw[OW,NP,aE4 no];simp[ib,Rw.ch]
 refine wR (bY b2.ha) (by rw[yj];simp;omega) (((0,1),(ae.length:Int))::eA W) (by rw[uw,Cr];omega) (λk l w=>?_) λm qm Nm cm G3 l3 m0 n0 ca=>?_
 .rw[am]at w;by_cases e:kq k=kq (0,1)/\l=ae.length
  .rw[z6 e.1,e.2];exact .head _
  .rw[if_neg e,oQ]at w;exact .tail _ (p.eA k l w)
 have b3:=b2.le l3
 obtain⟨z,hz,ez⟩:∃z∈Nm,z.1=kq (0,1):=by
  have m1:(0,1)∈qm:=(ca.mem (0,1)).mpr ⟨ae.length,by show iI _ _ _≠0;rw[f3];decide⟩;have m2:kq (0,1)∈Nm.map (·.1):=by rw[ca.kq];exact gk.mpr ⟨_,m1,rfl⟩
  let⟨z,hz,e⟩:=gk.mp m2;exact⟨z,hz,e⟩
 have vd:aQ Nm (ky 0 1)=aj z.2:=by rw[show ky 0 1=z.1 from ez.symm];exact jR ca.nd hz
 let⟨k,ek,gz,_,nz,mz⟩:=ca.ins z hz;have ek:k=(0,1):=z6 (ek.symm.trans ez);subst ek;have vz:aQ (cm z.2) ae.length=aj 3:=jR (z:=((ae.length:Int),3)) nz ((mz _).mpr ⟨f3.symm,by show(3:Int)≠0;decide⟩);have dg:∀{G':Gp}{R:dU},G' m=aj (.bD ak (Nm.map n6))->aO (.ref m) (.tup [.int 0,.int 1]) G' R=R (.ref z.2) G':=λ{G' R} e=>jW e jX rfl (by rw[mD,vd];rfl);exists QY;rw[dg ca.tt];symm;rw[jW gz rD rfl (by rw[wM,vz];rfl)];symm;refine Jg (bY b3.ha) λG4 l4=>?_;rw[lf];have b4:=b3.le l4;symm;rw[if_neg (by decide)];refine EC (λb l=>(p.am b l).symm) b4.fo b4.du ?_;exists QZ;rw[dg (l4 _ _ ca.tt)];refine NX (l4 _ _ gz) ?_;refine KB (b2.le λq v e=>?_) p hR;have nq:q≠z.2:=λw=>by rw[w,n0 z hz]at e;cases e
 rw[aM nq];exact l4 _ _ (l3 _ _ e)
def C2(b:fm s L E Q h t u pl room day ae W ws ws qs N c qs' N' c' G)(p:nS ae W ws)(hR:∀G',F.rt (.bl ak) G') :
  Ie K A ex F [r0,aj (.ref s),aj (.ref h),aj (.ref u),aj (.ref t),r5,r6,r7,r8] G:=by
 exists Ie;rw[pY b.st];symm;rw[yU (bY b.ha) (bY b.ro) HX HX,Jf HX];symm;exact nine b p hR
def CN(b:fm s L E Q h t u pl room day ae W ws ws qs N c qs' N' c' G)(p:nS ae W ws)(hR:∀G',F.rt (.bl ak) G') :
  Ic K A ex F [r0,aj (.ref s),aj (.ref h),aj (.ref u),aj (.ref t),r5,r6,r7,r8] G:=by
 have big:10000<dh:=by decide
 have wl:=p.wl;have ll:=p.ll;exists Ic;rw[pX b.st];exists iR (bY b.lo);refine Xb (λk ρ G'=>∃r5 r6 r7,ρ=[r0,aj (.ref s),aj (.ref h),aj (.ref u),aj (.ref t),r5,r6,r7,r8]/\fm s L E Q h t u pl room day ae W ws ws qs N c qs' N' c' G') ⟨r5,r6,r7,rfl,b⟩ (λk ρ G' hk hh=>?_) λρ G' hh=>?_
 .obtain⟨r5,r6,r7,rfl,b⟩:=hh;exists OZ;refine Jg (bY b.ha) λG1 l1=>?_;have b1:=b.le l1;exists Q0;rw[fX b1.st];refine WZ b1.li p.nd ⋯ (λz=>decide (z.1=(k:Int))) (λz=>.int z.2) (λz hz G2 ke R' hQ=>?_) (λz hz _ G2 ke R' hQ=>?_) λq G2 ke _ hq=>?_
  .symm;exact hQ
  .have b2:=b1.kp ke.1 ke.2;symm;rw[fX b2.st];symm;exact Hw p.nd hz ke.2 hQ
  .have b2:=(b1.kp ke.1 ke.2).le (.new (o:=.lst ((W.filter λz=>decide (z.1.1=(k:Int))).map λz=>D.int z.2)) hq);exists Q1;refine wU ?_;symm;rw[show(W.filter λz=>decide (z.1.1=(k:Int))).map (λz=>D.int z.2)=((W.filter λz=>decide (z.1.1=(k:Int))).map (·.2)).map D.int by rw[ni];rfl]at b2 ⊢;rw[GX bF];symm;rw[aIT p.nd p.am,if_neg (by simp)];exact⟨_,_,_,rfl,b2⟩
 .obtain⟨r5,r6,r7,rfl,b⟩:=hh;exact C2 b p hR
end
section
variable{s t:bw}{room day:Int}{N:List (List Key×bw)}{c c':bw->List (Int×Int)}{F:eY}{ex:aP->aW}
def Sl(b:fm s L E Q h t u pl room day ae W ws ws qs N c qs' N' c' G)(p:nS ae W ws)(hR:∀G',F.rt (.bl ak) G') :
  Ib K A ex F [r0,aj (.ref s),aj (.ref h),aj (.ref u),aj (.ref t),r5,r6,r7,r8] G:=by
 have big:10000<dh:=by decide
 have wl:=p.wl;have cl:=Cr (W:=W);have nl:N'.length<=(eA W).length:=b.fo.P5 p.eA;exists Ib;refine .inr ⟨t,.inl ⟨ak,N'.map n6,b.fo.tt,?_⟩⟩;show oU i9 _ _ _ _ _ _;rw[Ei,O2];symm;rw[UG b.fo.tt];intro od;have kt:∀{q v},q≠t->G q=aj v->aG G t (.c9 od ak (N'.map n6)) q=aj v:=λ{q v} n e=>by rw[aM n];exact e
 have nt:∀z∈N',z.2≠t:=λz hz w=>by
  let⟨_,_,q,_⟩:=b.fo.ins z hz;rw[w,b.fo.tt]at q;cases q
 have it:(Src.key t od ak (N'.map n6)).items=N'.map λz=>cK (.inr z.1):=by
  show(N'.map n6).map _=_;rw[ni];rfl
 refine JR (λd=>d=.bl ak) (by rw[it,dw];omega) aF (λd hd G' l' R' hQ=>?_) λq ds hq hl hd=>?_
 .rw[it]at hd;let⟨z,hz,rfl⟩:=gk.mp hd;let⟨⟨a,e⟩,ez,gz,ri,nd,mz⟩:=b.fo.ins z hz;have LK:=l' _ _ (kt (nt z hz) gz);have vd:aQ N' (ky a e)=aj z.2:=by rw[show ky a e=z.1 from ez.symm];exact jR b.fo.nd hz
  have rd:=l' _ _ (aF (G:=G) (a:=t) (o:=.c9 od ak (N'.map n6)));have dg:∀{G1:Gp}{R:dU},Le G' G1->aO (.ref t) (.tup [.int a,.int e]) G1 R=R (.ref z.2) G1:=λ{G1 R} l=>O4 (Yu (l _ _ rd)) jX rfl (by rw[mD,vd];rfl);rw[show cK (.inr z.1)=.tup [.int a,.int e] by rw[ez];rfl];symm;rw[dg (.refl _)];symm;refine .inr ⟨z.2,_,rfl,LK,λl hl=>?_⟩;have l1:=Le.new (o:=.lst (((c' z.2).map jD).map λp=>cK p.1)) hl;symm;rw[dg l1];symm;have lc:(c' z.2).length<=(eA W).length:=b.fo.aM6 p.eA hz;refine .inr ⟨z.2,_,(c' z.2).map (·.1),rfl,l1 _ _ LK,by rw[ni,ni];rfl,nd,by rw[dw];omega,λms pm rm r hr=>?_⟩;have l2:=Le.new (o:=.lst (ms.map D.int)) hr;have em:=b.fo.up hz pm rm
  have ek:(((c' z.2).map jD).map λp=>cK p.1)=ms.map D.int:=by
   rw[em,ni,ni];rfl
  show f9 (.ref l) (.ref r) _ _;rw[Q9 (bY (l2 _ _ aF)) bF (by rw[ek];exact HV) HV,show gO (((c' z.2).map jD).map λp=>cK p.1) (ms.map D.int)=ak by rw[ek];exact Jf HV];exact hQ _ _ rfl (l1.trans l2)
 .have tq:t≠q:=λw=>by rw[←w,aF]at hq;cases hq
  refine⟨⟨od,by rw[aM tq,aF]⟩,?_⟩
  have g1:aG (aG (aG G t (.c9 od ak (N'.map n6))) q (.lst ds)) t (.bD ak (N'.map n6))=aG G q (.lst ds):=by
   funext e;by_cases c1:e=t
   .rw[c1,aF,aM tq,b.fo.tt]
   .rw[aM c1];by_cases c2:e=q
    .rw[c2,aF,aF]
    .rw[aM c2,aM c2,aM c1]
  rw[g1];have q0:G q=bh:=by rw[aM (Ne.symm tq)]at hq;exact hq
  symm;rw[Ik bF (jl.mpr λd m=>by rw[hd d m];rfl),show ds.all ve=ak from jl.mpr λd m=>by rw[hd d m];rfl];symm;exact CN (b.le (.new q0)) p hR
def Kr(b:fm s L E Q h t u pl room day ae W ws ws qs N c qs' N' c' G)(p:nS ae W ws)(hR:∀G',F.rt (.bl ak) G') :
  Ia K A ex F [r0,aj (.ref s),aj (.ref h),aj (.ref u),aj (.ref t),r5,r6,r7,r8] G:=by
 have wl:=p.wl;have cl:=Cr (W:=W);have hf:∀(k:Int×Int)(l:Int),bM W (l,k)≠0->(k,l)∈eA W:=λk l w=>p.eA k l (by rw[←p.am];exact w);have nl:N.length<=(eA W).length:=b.du.P5 hf;exists Ia,a83 b.fo.tt;refine EC (λb l=>(p.am b l).symm) b.fo b.du ?_;symm;refine .inl ?_;unfold L2.EO;simp only[b.fo.tt];intro q hq;have l1:=Le.new (o:=.lst ((N'.map n6).map λp=>cK p.1)) hq;have b1:=b.le l1;symm;refine .inl (sort_keys b1.du.tt b.du.nd (λz hz=>?_) ⋯ λqm r pm ri hr=>?_)
 .obtain⟨⟨a,e⟩,ez,_⟩:=b.du.ins z hz;exact⟨a,e,ez⟩
 have l2:=Le.new (o:=.lst (qm.map bW)) hr;have eq1:qs'=qs:=(b.fo.eq (λb l=>(p.am b l).symm) b.du).1
 have eq2:qm=qs:=Bv DZ ri b.du.ri λz=>by
  have:=pm.mem_iff (a:=kq z);rw[b.du.kq,Eg,Eg]at this;exact this
 have ek:((N'.map n6).map λp=>cK p.1)=qm.map bW:=by
  rw[eq2,←eq1,ni,show(λq:DK×D=>cK q.1)∘n6=(λks=>cK (.inr ks))∘(λz:List Key×bw=>z.1)from rfl,←ni,b.fo.kq,ni];rfl
 show qU (.ref q) (.ref r) _ _;rw[yU (bY (l2 _ _ aF)) bF (by rw[ek];exact HW) HW,show gO ((N'.map n6).map λp=>cK p.1) (qm.map bW)=ak by rw[ek];exact Jf HW];symm;exact Sl (b1.le l2) p hR
end
def main(T:Txt K mg A)(a:bw)(ns:List Int)(hl:ns.length<=63)(G:Gp)(hG:G a=aj (.fi (ns.map D.int))):Hy K A [.ref a] G (λd _=>d=.bl ak) (λ_ _=>False):=by
 refine⟨rfl,?_⟩;have hR:∀G':Gp,aR (λd _=>d=.bl ak) (.bl ak) G':=λG'=>aR.here (R:=λd _=>d=.bl ak) rfl;show GW K A _ _ [aj (.ref a),bh,bh,bh,bh,bh,bh,bh,bh] G;exists GW;refine aE3 hl hG λs L E Q x y g room day ae W ws G1 l1 o=>?_;have wl:=o.wl;have rl:=o.rl;have p:nS ae W ws:=⟨o.nd,o.nz,o.am,o.lt,o.wl,o.rl,o.ll⟩;exists NU;rw[pY o.st];symm;rw[Xa (bY o.ro)];intro h hh;have l2:Le G1 (aG G1 h (.lst (ws.map Rw.d))):=.new hh;have h2:aG G1 h (.lst (ws.map Rw.d)) h=aj (.lst (ws.map Rw.d)):=aF;generalize aG G1 h _=G2 at l2 h2;have nq:h≠Q:=λz=>by have w:=o.ro;rw[←z,hh]at w;cases w
 have nl:h≠L:=λz=>by have w:=o.lo;rw[←z,hh]at w;cases w
 exists NV;refine Ur (o.le l2) ⋯ λu qs N c G3 l3 _ _ du=>?_;exists NW;refine wR (bY (l3 _ _ h2)) ⋯ (eA W) (by rw[Cr];omega) p.eA λt qs' N' c' G4 l4 t0 _ fo=>?_;symm;have o4:=o.le ((l2.trans l3).trans l4);exact Kr ⟨o4.st,o4.lo,.inl o4.li,o4.ro,l4 _ _ (l3 _ _ h2),du.le l4,fo,nq,nl,λz=>by rw[z,du.tt]at t0;cases t0⟩ p λG'=>hR G'
end
end Law
namespace Law
open PySem PySem.Spec PyProof.Rows L2 L4
variable{qt:Bool}{x:Str}{st:qw}{f:bw}{ps:List Str}
section
variable{P:kj}{w:jj}{K:Fg}{mg:Str->Option au}{base:ju}{A:aY}
local macro_rules| `(tactic| walk_at "sc")=>`(tactic| exact⟨rfl,rfl,rfl,by decide+kernel,rfl,by decide+kernel,by decide+kernel⟩)
def oN{j k:Nat}{d:qj}{sp:qF}{n:Nat}(h:cM qt P w K mg base (lF P w) j f d ps (cX K sp))(t:yZ K mg x st f d ps)(hj:j<=k:=by decide):J9 P w K mg base k x (.fn sp n qt):=⟨_,_,_,h.mono hj,t.m,t.F.kp,t.B⟩
def dc{qual:Str}{fd:qj}{k:Nat}{S:SI}{c:CB}{tb:aW->bC}(F:sL K x qual st f fd)(hS:bG S.N ps (bL st))(hc:S.calm=!qt)(hv:zk S (bL st)=ak)(hk:kB S 0 c (cP st)=ak)(he:(λEX=>mB S.gl K (λ_=>EX) c)=tb)(hg:∀(j:Nat)(y:Str)(g:GT),S.gl[j]?=aj (y,g)->J9 P w K mg base k y g):cM qt P w K mg base (lF P w) (k+1) f fd ps (cX K (xE S.N.length ps.length tb)):=by
 rw[←he];exact Xg F hS hc hv hk hg
def yK(T:Txt K mg A):cM ao P w K mg base (lF P w) 1 A.zY A.mF ["row"] (cX K (eG K A)) :=
 dc (S:=abJ K A) (c:=abI) T.dZ.F (show bG ["row"] ["row"] _ from by walk_at "sc") rfl (by nofun) (by nofun) (by nofun) zQ
def Zk(T:Txt K mg A):cM ao P w K mg base (lF P w) 2 A.Qq A.wO ["rows","lot"] (cX K (jJ K A)) :=
 dc (S:=Ys K A) (c:=Yt) T.nA.F (show bG ["rows","lot","left","row"] ["rows","lot"] _ from by walk_at "sc") rfl (by nofun) (by nofun) (by nofun) (dO (oN (yK T) T.dZ) (dO ⟨T.GU,HJ⟩ zQ))
def Yo(T:Txt K mg A):cM ao P w K mg base (lF P w) 1 A.O0 A.zZ ["stacks","spot","lot","more"] (cX K (jK K A)) :=
 dc (S:=W0 K A) (c:=W2) T.rO.F (show bG ["stacks","spot","lot","more","held"] ["stacks","spot","lot","more"] _ from by walk_at "sc") rfl (by nofun) (by nofun) (by nofun) (dO ⟨T.ph,rW⟩ zQ)
def Z2(T:Txt K mg A):cM ao P w K mg base (lF P w) 1 A.Q5 A.sO ["stacks"] (cX K (pC K A)) :=
 dc (S:=Zr K A) (c:=Zs) T.jO.F (show bG ["stacks","told","spot"] ["stacks"] _ from by walk_at "sc") rfl (by nofun) (by nofun) (by nofun) (dO ⟨T.wB,qW⟩ (dO ⟨T.wB,qW⟩ (dO ⟨T.MM,OB⟩ zQ)))
def Z1(T:Txt K mg A):cM ao P w K mg base (lF P w) 2 A.Q4 A.sU ["rows"] (cX K (fG K A)) :=
 dc (S:=Zp K A) (c:=Zq) T.jP.F (show bG ["rows","stacks","row","spot","lot","more"] ["rows"] _ from by walk_at "sc") rfl (by nofun) (by nofun) (by nofun) (dO (oN (yK T) T.dZ) (dO (oN (Yo T) T.rO) (dO (oN (Z2 T) T.jO) zQ)))
def gG(T:Txt K mg A):cM ao P w K mg base (lF P w) 1 A.RP A.mH ["_law_found"] (cX K (bT K A)) :=
 dc (S:=abL K A) (c:=abK) T.cQ.F (show bG ["_law_found"] ["_law_found"] _ from by walk_at "sc") rfl (by nofun) (by nofun) (by nofun) (dO ⟨T.LR,Nj⟩ (dO ⟨T.mY,jT⟩ (dO ⟨T.aDU,VZ⟩ zQ)))
def fJ(T:Txt K mg A):cM ao P w K mg base (lF P w) 1 A.xO A.jY ["_law_state_here","_law_spot_here"] (cX K (bR K A)) :=
 dc (S:=a85 K A) (c:=a84) T.cD.F (show bG ["_law_state_here","_law_spot_here"] ["_law_state_here","_law_spot_here"] _ from by walk_at "sc") rfl (by nofun) (by nofun) (by nofun) (dO ⟨T.GU,HJ⟩ zQ)
def a8F(T:Txt K mg A):cM ao P w K mg base (lF P w) 1 A.RO A.mJ ["_law_state_here"] (cX K (kZ K A)) :=
 dc (S:=abN K A) (c:=abM) T.fU.F (show bG ["_law_state_here","_law_found","_law_spot_here","_law_lots","_law_there","_law_lot"] ["_law_state_here"] _ from by walk_at "sc") rfl (by nofun) (by nofun) (by nofun) (dO ⟨T.wB,qW⟩ (dO ⟨T.aIK,aCY⟩ zQ))
def lU(T:Txt K mg A):cM ao P w K mg base (lF P w) 1 A.vC A.iT ["_law_script","_law_k"] (cX K (cL K A)) :=
 dc (S:=a6S K A) (c:=a6R) T.cR.F (show bG ["_law_script","_law_k","_law_mixed"] ["_law_script","_law_k"] _ from by walk_at "sc") rfl (by nofun) (by nofun) (by nofun) (dO ⟨T.ph,rW⟩ zQ)
def ac7(T:Txt K mg A):cM ao P w K mg base (lF P w) 2 A.Ro A.oX ["_law_script"] (cX K (mQ K A)) :=
 dc (S:=S' K A) (c:=T') T.gY.F (show bG ["_law_script","_law_cell"] ["_law_script"] _ from by walk_at "sc") rfl (by nofun) (by nofun) (by nofun) (dO (oN (lU T) T.cR) zQ)
def ac8(T:Txt K mg A):cM ao P w K mg base (lF P w) 2 A.Rn A.oY ["_law_script"] (cX K (mR K A)) :=
 dc (S:=L' K A) (c:=O') T.gZ.F (show bG ["_law_script"] ["_law_script"] _ from by walk_at "sc") rfl (by nofun) (by nofun) (by nofun) (dO (oN (lU T) T.cR) zQ)
def a8G(T:Txt K mg A):cM ao P w K mg base (lF P w) 1 A.RN A.mK ["_law_plan_here","_law_room_here"] (cX K (lA K A)) :=
 dc (S:=abP K A) (c:=abO) T.fV.F (show bG ["_law_plan_here","_law_room_here"] ["_law_plan_here","_law_room_here"] _ from by walk_at "sc") rfl (by nofun) (by nofun) (by nofun) zQ
def mZ(T:Txt K mg A):cM ao P w K mg base (lF P w) 1 A.Rm A.oZ ["_law_state_here","_law_lot","_law_spot_here","_law_more"] (cX K (cH K A)) :=
 dc (S:=J' K A) (c:=K') T.dI.F (show bG ["_law_state_here","_law_lot","_law_spot_here","_law_more","_law_key"] ["_law_state_here","_law_lot","_law_spot_here","_law_more"] _ from by walk_at "sc") rfl (by nofun) (by nofun) (by nofun) zQ
def a3P(T:Txt K mg A):cM ao P w K mg base (lF P w) 1 A.vD A.iU ["_law_thing"] (cX K (gM K A)) :=
 dc (S:=a6U K A) (c:=a6T) T.dY.F (show bG ["_law_thing"] ["_law_thing"] _ from by walk_at "sc") rfl (by nofun) (by nofun) (by nofun) (dO ⟨T.aIL,aBD⟩ (dO ⟨T.mY,jT⟩ (dO ⟨T.ph,rW⟩ (dO ⟨T.GV,HI⟩ zQ))))
def wF(T:Txt K mg A):cM ao P w K mg base (lF P w) 2 A.xP A.jZ ["_law_plan_here","_law_thing"] (cX K (dX K A)) :=
 dc (S:=a87 K A) (c:=a86) T.dN.F (show bG ["_law_plan_here","_law_thing"] ["_law_plan_here","_law_thing"] _ from by walk_at "sc") rfl (by nofun) (by nofun) (by nofun) (dO ⟨T.UC,XT⟩ (dO ⟨T.mY,jT⟩ (dO ⟨T.ph,rW⟩ (dO (oN (gG T) T.cQ) zQ))))
def pZ(T:Txt K mg A):cM ao P w K mg base (lF P w) 2 A.rG A.fM ["_law_thing","_law_least"] (cX K (cU K A)) :=
 dc (S:=a1L K A) (c:=a1K) T.cO.F (show bG ["_law_thing","_law_least"] ["_law_thing","_law_least"] _ from by walk_at "sc") rfl (by nofun) (by nofun) (by nofun) (dO (oN (gG T) T.cQ) zQ)
def a1P(T:Txt K mg A):cM ao P w K mg base (lF P w) 3 A.tQ A.gJ ["_law_state_here","_law_ware_here","_law_due_here","_law_spot_here","_law_amount_here"] (cX K (fP K A)) :=
 dc (S:=a3M K A) (c:=a3L) T.dG.F (show bG ["_law_state_here","_law_ware_here","_law_due_here","_law_spot_here","_law_amount_here","_law_lot","_law_row"] ["_law_state_here","_law_ware_here","_law_due_here","_law_spot_here","_law_amount_here"] _ from by walk_at "sc") rfl (by nofun) (by nofun) (by nofun) (dO (oN (a3P T) T.dY) (dO (oN (gG T) T.cQ) (dO (oN (wF T) T.dN) (dO (oN (pZ T) T.cO) (dO (oN (fJ T) T.cD) (dO ⟨T.ph,rW⟩ (dO (oN (mZ T) T.dI) zQ)))))))
def a7I(T:Txt K mg A):cM ao P w K mg base (lF P w) 2 A.xQ A.kJ ["_law_state_here","_law_thing"] (cX K (iY K A)) :=
 dc (S:=a89 K A) (c:=a88) T.eN.F (show bG ["_law_state_here","_law_thing"] ["_law_state_here","_law_thing"] _ from by walk_at "sc") rfl (by nofun) (by nofun) (by nofun) (dO (oN (gG T) T.cQ) (dO ⟨T.ph,rW⟩ zQ))
def qR(T:Txt K mg A):cM ao P w K mg base (lF P w) 3 A.RM A.mL ["_law_state_here","_law_lot","_law_spots","_law_amount_here","_law_least"] (cX K (d8 K A)) :=
 dc (S:=abR K A) (c:=abQ) T.dJ.F (show bG ["_law_state_here","_law_lot","_law_spots","_law_amount_here","_law_least"] ["_law_state_here","_law_lot","_law_spots","_law_amount_here","_law_least"] _ from by walk_at "sc") rfl (by nofun) (by nofun) (by nofun) (dO (oN (a7I T) T.eN) (dO (oN (wF T) T.dN) (dO ⟨T.GV,HI⟩ (dO (oN (pZ T) T.cO) zQ))))
def a7J(T:Txt K mg A):cM ao P w K mg base (lF P w) 4 A.xR A.kW ["_law_state_here","_law_lot","_law_spot_here","_law_amount_here"] (cX K (iZ K A)) :=
 dc (S:=a8B K A) (c:=a8A) T.eO.F (show bG ["_law_state_here","_law_lot","_law_spot_here","_law_amount_here","_law_wrong_here"] ["_law_state_here","_law_lot","_law_spot_here","_law_amount_here"] _ from by walk_at "sc") rfl (by nofun) (by nofun) (by nofun) (dO (oN (qR T) T.dJ) (dO (oN (mZ T) T.dI) zQ))
def a1Q(T:Txt K mg A):cM ao P w K mg base (lF P w) 4 A.tR A.gK ["_law_state_here","_law_lot","_law_one","_law_other","_law_amount_here"] (cX K (fQ K A)) :=
 dc (S:=a3O K A) (c:=a3N) T.dH.F (show bG ["_law_state_here","_law_lot","_law_one","_law_other","_law_amount_here","_law_wrong_here","_law_full","_law_row"] ["_law_state_here","_law_lot","_law_one","_law_other","_law_amount_here"] _ from by walk_at "sc") rfl (by nofun) (by nofun) (by nofun) (dO (oN (qR T) T.dJ) (dO (oN (fJ T) T.cD) (dO (oN (mZ T) T.dI) zQ)))
def a0J(T:Txt K mg A):cM ao P w K mg base (lF P w) 4 A.rH A.fO ["_law_state_here","_law_lot","_law_spot_here","_law_amount_here"] (cX K (eZ K A)) :=
 dc (S:=a1N K A) (c:=a1M) T.d9.F (show bG ["_law_state_here","_law_lot","_law_spot_here","_law_amount_here","_law_wrong_here","_law_before","_law_full","_law_row"] ["_law_state_here","_law_lot","_law_spot_here","_law_amount_here"] _ from by walk_at "sc") rfl (by nofun) (by nofun) (by nofun) (dO (oN (qR T) T.dJ) (dO (oN (fJ T) T.cD) (dO (oN (mZ T) T.dI) zQ)))
def Z0(T:Txt K mg A):cM ao P w K mg base (lF P w) 5 A.Q3 A.sV ["_law_state_here","_law_deed_here"] (cX K (pW K A)) :=
 dc (S:=Zn K A) (c:=Zo) T.jQ.F (show bG ["_law_state_here","_law_deed_here"] ["_law_state_here","_law_deed_here"] _ from by walk_at "sc") rfl (by nofun) (by nofun) (by nofun) (dO (oN (a1P T) T.dG) (dO (oN (a7J T) T.eO) (dO (oN (a1Q T) T.dH) (dO (oN (a0J T) T.d9) zQ))))
def ac9(T:Txt K mg A):cM ao P w K mg base (lF P w) 1 A.Rl A.p7 ["_law_plan_here","_law_cell"] (cX K (jA K A)) :=
 dc (S:=B' K A) (c:=D') T.iB.F (show bG ["_law_plan_here","_law_cell"] ["_law_plan_here","_law_cell"] _ from by walk_at "sc") rfl (by nofun) (by nofun) (by nofun) zQ
def acA(T:Txt K mg A):cM ao P w K mg base (lF P w) 1 A.Rk A.p8 ["_law_cell"] (cX K (mV K A)) :=
 dc (S:=Z8 K A) (c:=Z9) T.iC.F (show bG ["_law_cell","_law_some"] ["_law_cell"] _ from by walk_at "sc") rfl (by nofun) (by nofun) (by nofun) zQ
def a7K(T:Txt K mg A):cM ao P w K mg base (lF P w) 2 A.xT A.kY ["_law_state_here","_law_lot","_law_spot_here","_law_cell"] (cX K (fH K A)) :=
 dc (S:=a8D K A) (c:=a8C) T.eU.F (show bG ["_law_state_here","_law_lot","_law_spot_here","_law_cell","_law_there","_law_room_here","_law_drawn","_law_part","_law_some"] ["_law_state_here","_law_lot","_law_spot_here","_law_cell"] _ from by walk_at "sc") rfl (by nofun) (by nofun) (by nofun) (dO (oN (fJ T) T.cD) (dO ⟨T.LQ,Nk⟩ zQ))
def acB(T:Txt K mg A):cM ao P w K mg base (lF P w) 3 A.Rj A.pA ["_law_state_here","_law_cell"] (cX K (mW K A)) :=
 dc (S:=Z6 K A) (c:=Z7) T.iD.F (show bG ["_law_state_here","_law_cell","_law_more","_law_spot_here","_law_other","_law_due_here","_law_lot","_law_places","_law_amount_here"] ["_law_state_here","_law_cell"] _ from by walk_at "sc") rfl (by nofun) (by nofun) (by nofun) (dO (oN (ac9 T) T.iB) (dO ⟨T.LQ,Nk⟩ (dO (oN (acA T) T.iC) (dO (oN (a7K T) T.eU) (dO ⟨T.ph,rW⟩ (dO ⟨T.wB,qW⟩ (dO ⟨T.LR,Nj⟩ zQ)))))))
def acC(T:Txt K mg A):cM ao P w K mg base (lF P w) 6 A.Ri A.pB ["_law_script"] (cX K (mX K A)) :=
 dc (S:=Z4 K A) (c:=Z5) T.iG.F (show bG ["_law_script","_law_plan_here","_law_state_here","_law_k"] ["_law_script"] _ from by walk_at "sc") rfl (by nofun) (by nofun) (by nofun) (dO (oN (ac7 T) T.gY) (dO (oN (ac8 T) T.gZ) (dO (oN (a8G T) T.fV) (dO ⟨T.NT,O8⟩ (dO ⟨T.ph,rW⟩ (dO ⟨T.aIJ,aBC⟩ (dO (oN (lU T) T.cR) (dO (oN (acB T) T.iD) (dO (oN (Z0 T) T.jQ) zQ)))))))))
def aE6(T:Txt K mg A):cM ao P w K mg base (lF P w) 7 A.vE A.LS ["_law_script"] (cX K (Hy K A)) :=
 dc (S:=aIH K A) (c:=Bw) T.aII.F (show bG ["_law_script","_law_state_here","_law_handed","_law_due_here","_law_found","_law_lot","_law_left","_law_there","_law_more"] ["_law_script"] _ from by walk_at "sc") rfl (by nofun) (by nofun) (by nofun) (dO (oN (acC T) T.iG) (dO ⟨T.ML,OC⟩ (dO (oN (a8F T) T.fU) (dO (oN (Z1 T) T.jP) (dO ⟨T.MM,OB⟩ (dO ⟨T.mY,jT⟩ (dO ⟨T.ML,OC⟩ (dO ⟨T.wB,qW⟩ (dO ⟨T.GV,HI⟩ (dO ⟨T.NT,O8⟩ (dO ⟨T.ph,rW⟩ (dO (oN (Zk T) T.nA) (dO (oN (gG T) T.cQ) (dO ⟨T.GU,HJ⟩ (dO (oN (fJ T) T.cD) zQ)))))))))))))))
end
abbrev DY(K:Fg):Sp:=λvs H Q _=>∃(a:bw)(ns:List Int),vs=[.ref a]/\bX K H a (ns.map V.int)/\ns.length<=63/\∀H',Q (.bl ak) H'
variable{mg:Str->Option au}
def Uo{K:Fg}{A:aY}(T:Txt K mg A):∀vs H Q E,DY K vs H Q E->cX K (Hy K A) vs H Q E:=by
 rintro vs H Q E ⟨a,ns,rfl,hS,hl,k⟩;refine⟨[.ref a],λb=>if b=a then aj (.fi (ns.map D.int))else bh,λd _=>d=.bl ak,λ_ _=>False,.cons (.ref a) .nil,λb o e=>?_,main T a ns hl _ (if_pos rfl),λv H' d G' r g e=>?_,λC H' G' g z=>z.elim⟩
 .have e2:(if b=a then aj (GO.fi (ns.map D.int))else bh)=aj o:=e;by_cases hb:b=a
  .subst hb;rw[if_pos rfl]at e2;cases e2;exact⟨_,hS,cN.ints ns⟩
  .rw[if_neg hb]at e2;cases e2
 .subst e;cases r;exact k H'
abbrev Cb(K:Fg)(x q:Str)(st:qw)(f:bw):Prop:=∃oc kV dc pm cd ct od an sl,K.lookup f=aj ⟨oc,od,.func (ux x q (dR st) (cP st) (bL st) .none kV dc pm an cd ct),sl⟩/\B6 K cd q=ak/\yh K (.ref f)=ak
def Cb.get{K:Fg}{q:Str}(b:Cb K x q st f)(ps:List Str)(h:∀kV dc pm an cd ct,∀us:List au,us.length=ps.length->ip (ux x q (dR st) (cP st) (bL st) .none kV dc pm an cd ct) ⟨us,[]⟩=pure (ps.zip us)):∃d,sL K x q st f d/\Binds K d ps []/\yh K (.ref f)=ak:=by
 let⟨oc,kV,dc,pm,cd,ct,od,an,sl,l,c,k⟩:=b;exact⟨_,NC (st:=st) l c k,N0 (h _ _ _ _ _ _),k⟩
abbrev Fb(K:Fg)(x:Str)(st:qw)(f:bw):Prop:=vh K nu x=aj (aj (.ref f))/\Cb K x x st f
def dP{q:Str}(k:∀kV dc pm an cd ct a,ip (ux q q (dR st) (cP st) (bL st) .none kV dc pm an cd ct) ⟨[a],[]⟩=pure (ps.zip [a])):∀kV dc pm an cd ct,∀us:List au,us.length=1->ip (ux q q (dR st) (cP st) (bL st) .none kV dc pm an cd ct) ⟨us,[]⟩=pure (ps.zip us):=λ_ _ _ _ _ _ us h=>by
 rcases us with _|⟨a,_|⟨_,_⟩⟩<;>first|exact k _ _ _ _ _ _ a|simp at h
def df{q:Str}(k:∀kV dc pm an cd ct a b,ip (ux q q (dR st) (cP st) (bL st) .none kV dc pm an cd ct) ⟨[a,b],[]⟩=pure (ps.zip [a,b])):∀kV dc pm an cd ct,∀us:List au,us.length=2->ip (ux q q (dR st) (cP st) (bL st) .none kV dc pm an cd ct) ⟨us,[]⟩=pure (ps.zip us):=λ_ _ _ _ _ _ us h=>by
 rcases us with _|⟨a,_|⟨b,_|⟨_,_⟩⟩⟩<;>first|exact k _ _ _ _ _ _ a b|simp at h
def Bg{q:Str}(k:∀kV dc pm an cd ct a b c d,ip (ux q q (dR st) (cP st) (bL st) .none kV dc pm an cd ct) ⟨[a,b,c,d],[]⟩=pure (ps.zip [a,b,c,d])):∀kV dc pm an cd ct,∀us:List au,us.length=4->ip (ux q q (dR st) (cP st) (bL st) .none kV dc pm an cd ct) ⟨us,[]⟩=pure (ps.zip us):=λ_ _ _ _ _ _ us h=>by
 rcases us with _|⟨a,_|⟨b,_|⟨c,_|⟨d,_|⟨_,_⟩⟩⟩⟩⟩<;>first|exact k _ _ _ _ _ _ a b c d|simp at h
def IH(k:∀kV dc pm an cd ct a b c d e,ip (ux q q (dR st) (cP st) (bL st) .none kV dc pm an cd ct) ⟨[a,b,c,d,e],[]⟩=pure (ps.zip [a,b,c,d,e])):∀kV dc pm an cd ct,∀us:List au,us.length=5->ip (ux q q (dR st) (cP st) (bL st) .none kV dc pm an cd ct) ⟨us,[]⟩=pure (ps.zip us):=λ_ _ _ _ _ _ us h=>by
 rcases us with _|⟨a,_|⟨b,_|⟨c,_|⟨d,_|⟨e,_|⟨_,_⟩⟩⟩⟩⟩⟩<;>first|exact k _ _ _ _ _ _ a b c d e|simp at h
def Fb.get{K:Fg}{q:Str}{st:qw}{f:bw}{h:ju}{mg:Str->Option au}(b:Fb K q st f)(XK:K.In h)(GG:h.Ns nu mg)(ps:List Str)(h:∀kV dc pm an cd ct,∀us:List au,us.length=ps.length->ip (ux q q (dR st) (cP st) (bL st) .none kV dc pm an cd ct) ⟨us,[]⟩=pure (ps.zip us)):∃d,yZ K mg q st f d ps:=by
 let⟨d,F,B,_⟩:=b.2.get ps h;exact⟨d,F,B,PySem.W.mg_of XK GG b.1⟩
abbrev Mb(K:Fg)(c:bw)(x q:Str)(st:qw)(f:bw):Prop:=zf K (.ref c) x=aj (aj (.ref f))/\PySem.W.isFn K (.ref f)=ak/\Cb K x q st f
def Mb.get{K:Fg}{c:bw}{x q:Str}{st:qw}{f:bw}(b:Mb K c x q st f)(ps:List Str)(h:∀kV dc pm an cd ct,∀us:List au,us.length=ps.length->ip (ux x q (dR st) (cP st) (bL st) .none kV dc pm an cd ct) ⟨us,[]⟩=pure (ps.zip us)):∃d,sL K x q st f d/\Binds K d ps []/\zf K (.ref c) x=aj (aj (.ref f))/\PySem.W.isFn K (.ref f)=ak/\yh K (.ref f)=ak:=by
 let⟨d,F,B,k⟩:=b.2.2.get ps h;exact⟨d,F,B,b.1,b.2.1,k⟩
def all_mk{l:PySem.W.OpenLaw}{w:jj}{K:Fg}{h:ju}{fa:bw}(XK:K.In h)(GG:h.Ns nu mg)(Th:mg "law"=aj (.ref fa))
  (dZ:Fb K "changes_of" zT acD)
  (nA:Fb K "left_of" Qr Yn)
  (rO:Fb K "change" O1 WW)
  (jO:Fb K "in_order" Q8 Zj)
  (jP:Fb K "lying_by" Q7 Zi)
  (cQ:Fb K "_law_whole" zU χ)
  (cD:Fb K "_law_filled" xG a8H)
  (fU:Fb K "_law_lying" zV ξ)
  (cR:Fb K "_law_cell_at" vA a7L)
  (gY:Fb K "_law_plan" Rx ZZ)
  (gZ:Fb K "_law_room" Rv ZY)
  (fV:Fb K "_law_state" zW ν)
  (dI:Fb K "_law_laid" Ru ZX)
  (dY:Fb K "_law_is_ware" vB a7M)
  (dN:Fb K "_law_is_bin" xH a8I)
  (cO:Fb K "_law_is_amount" rE a1R)
  (dG:Fb K "_law_due_come" tM a3Q)
  (eN:Fb K "_law_is_lot" xJ a8J)
  (dJ:Fb K "_law_wrong" zX μ)
  (eO:Fb K "_law_due_go" xK a8K)
  (dH:Fb K "_law_due_move" tO a3R)
  (d9:Fb K "_law_due_count" rF a1S)
  (jQ:Fb K "_law_due" Q6 Zh)
  (iB:Fb K "_law_spot" Rt ZW)
  (iC:Fb K "_law_ware" Rr ZV)
  (eU:Fb K "_law_amount" xM a8L)
  (iD:Fb K "_law_deed" Rq ZU)
  (iG:Fb K "_law_rows" Rp ZT)
  (vE:vh K nu "law"=aj (aj (.ref GQ)))
  (GP:K.lookup GQ=aj ⟨aM8,aM9,.func (ux "law" "law" (dR Bx) (cP Bx) (bL Bx) .none aMA aMB aMC aMD aE8 aME),aMF⟩)
  (Bw:B6 K aE8 "law"=ak)
  (GN:yh K (.ref GQ)=ak)
  (GL:vh K nu "all"=aj bh)
  (Hq:vh K nu "bool"=aj bh)
  (Ho:vh K nu "dict"=aj bh)
  (GK:vh K nu "int"=aj bh)
  (tG:vh K nu "isinstance"=aj bh)
  (GJ:vh K nu "len"=aj bh)
  (Hn:vh K nu "list"=aj bh)
  (GI:vh K nu "max"=aj bh)
  (GH:vh K nu "min"=aj bh)
  (HU:vh K nu "range"=aj bh)
  (GF:vh K nu "set"=aj bh)
  (Je:vh K nu "sorted"=aj bh)
  (GD:vh K nu "str"=aj bh)
  (GC:vh K nu "sum"=aj bh)
  (HS:vh K nu "tuple"=aj bh) :
  ∃fd:qj,(∀(s:cu)(v:au),BindsTo s fd ⟨[v],[]⟩ [("_law_script",v)])/\∀base:ju,K.In base->base.Ns nu mg->cM ao l.prog w K mg base (lF l.prog w) 7 fa fd ["_law_script"] (DY K):=by
 have e:=Th.symm.trans (PySem.W.mg_of XK GG vE);cases e;let⟨mF,θ⟩:=dZ.get XK GG ["row"] (dP λ_ _ _ _ _ _ _=>rfl);let⟨wO,Ym⟩:=nA.get XK GG ["rows","lot"] (df λ_ _ _ _ _ _ _ _=>rfl);let⟨zZ,WV⟩:=rO.get XK GG ["stacks","spot","lot","more"] (Bg λ_ _ _ _ _ _ _ _ _ _=>rfl);let⟨sO,Zg⟩:=jO.get XK GG ["stacks"] (dP λ_ _ _ _ _ _ _=>rfl);let⟨sU,Zf⟩:=jP.get XK GG ["rows"] (dP λ_ _ _ _ _ _ _=>rfl);let⟨mH,η⟩:=cQ.get XK GG ["_law_found"] (dP λ_ _ _ _ _ _ _=>rfl);let⟨jY,a8M⟩:=cD.get XK GG ["_law_state_here","_law_spot_here"] (df λ_ _ _ _ _ _ _ _=>rfl);let⟨mJ,ζ⟩:=fU.get XK GG ["_law_state_here"] (dP λ_ _ _ _ _ _ _=>rfl);let⟨iT,a7O⟩:=cR.get XK GG ["_law_script","_law_k"] (df λ_ _ _ _ _ _ _ _=>rfl);let⟨oX,ZS⟩:=gY.get XK GG ["_law_script"] (dP λ_ _ _ _ _ _ _=>rfl);let⟨oY,ZR⟩:=gZ.get XK GG ["_law_script"] (dP λ_ _ _ _ _ _ _=>rfl);let⟨mK,ε⟩:=fV.get XK GG ["_law_plan_here","_law_room_here"] (df λ_ _ _ _ _ _ _ _=>rfl);let⟨oZ,ZQ⟩:=dI.get XK GG ["_law_state_here","_law_lot","_law_spot_here","_law_more"] (Bg λ_ _ _ _ _ _ _ _ _ _=>rfl);let⟨iU,a7P⟩:=dY.get XK GG ["_law_thing"] (dP λ_ _ _ _ _ _ _=>rfl);let⟨jZ,a8N⟩:=dN.get XK GG ["_law_plan_here","_law_thing"] (df λ_ _ _ _ _ _ _ _=>rfl);let⟨fM,a1T⟩:=cO.get XK GG ["_law_thing","_law_least"] (df λ_ _ _ _ _ _ _ _=>rfl);let⟨gJ,a3S⟩:=dG.get XK GG ["_law_state_here","_law_ware_here","_law_due_here","_law_spot_here","_law_amount_here"] (IH λ_ _ _ _ _ _ _ _ _ _ _=>rfl);let⟨kJ,a8O⟩:=eN.get XK GG ["_law_state_here","_law_thing"] (df λ_ _ _ _ _ _ _ _=>rfl);let⟨mL,δ⟩:=dJ.get XK GG ["_law_state_here","_law_lot","_law_spots","_law_amount_here","_law_least"] (IH λ_ _ _ _ _ _ _ _ _ _ _=>rfl);let⟨kW,a8P⟩:=eO.get XK GG ["_law_state_here","_law_lot","_law_spot_here","_law_amount_here"] (Bg λ_ _ _ _ _ _ _ _ _ _=>rfl);let⟨gK,a3T⟩:=dH.get XK GG ["_law_state_here","_law_lot","_law_one","_law_other","_law_amount_here"] (IH λ_ _ _ _ _ _ _ _ _ _ _=>rfl);let⟨fO,a1U⟩:=d9.get XK GG ["_law_state_here","_law_lot","_law_spot_here","_law_amount_here"] (Bg λ_ _ _ _ _ _ _ _ _ _=>rfl);let⟨sV,Ze⟩:=jQ.get XK GG ["_law_state_here","_law_deed_here"] (df λ_ _ _ _ _ _ _ _=>rfl);let⟨p7,ZP⟩:=iB.get XK GG ["_law_plan_here","_law_cell"] (df λ_ _ _ _ _ _ _ _=>rfl);let⟨p8,ZO⟩:=iC.get XK GG ["_law_cell"] (dP λ_ _ _ _ _ _ _=>rfl);let⟨kY,a8Q⟩:=eU.get XK GG ["_law_state_here","_law_lot","_law_spot_here","_law_cell"] (Bg λ_ _ _ _ _ _ _ _ _ _=>rfl);let⟨pA,ZN⟩:=iD.get XK GG ["_law_state_here","_law_cell"] (df λ_ _ _ _ _ _ _ _=>rfl);let⟨pB,ZM⟩:=iG.get XK GG ["_law_script"] (dP λ_ _ _ _ _ _ _=>rfl);have Z:=λ{x:Str}(h:vh K nu x=aj bh)=>PySem.W.mg_none_of XK GG h;have T:Txt K mg ⟨acD,mF,Yn,wO,WW,zZ,Zj,sO,Zi,sU,χ,mH,a8H,jY,ξ,mJ,a7L,iT,ZZ,oX,ZY,oY,ν,mK,ZX,oZ,a7M,iU,a8I,jZ,a1R,fM,a3Q,gJ,a8J,kJ,μ,mL,a8K,kW,a3R,gK,a1S,fO,Zh,sV,ZW,p7,ZV,p8,a8L,kY,ZU,pA,ZT,pB,GQ,_⟩:=⟨θ,Ym,WV,Zg,Zf,η,a8M,ζ,a7O,ZS,ZR,ε,ZQ,a7P,a8N,a1T,a3S,a8O,δ,a8P,a3T,a1U,Ze,ZP,ZO,a8Q,ZN,ZM,⟨NC (st:=Bx) GP Bw GN,N0 (ps:=["_law_script"]) (λus hl=>match us,hl with|[_],_=>rfl),PySem.W.mg_of XK GG vE⟩,Z GL,Z Hq,Z Ho,Z GK,Z tG,Z GJ,Z Hn,Z GI,Z GH,Z HU,Z GF,Z Je,Z GD,Z GC,Z HS⟩;exact⟨_,λs v=>.of_eq rfl,λbase _ _=>(aE6 T).imp (Uo T)⟩
def walk{l:PySem.W.OpenLaw}{XP:(Str->Option au)->ju->Prop}{YP:jj->ju->Prop}{d:DefRec}{K:Params->jm}(hn:l.most=aj 63)(Bb:d.params.defaults=[])
  (hY:∀(w:jj)(h:ju),YP w h->(K w.params).In h)
  (F:∀(w:jj)(mg:Str->Option au)(fa:bw)(h:ju),(K w.params).In h->h.Ns nu mg->mg d.name=aj (.ref fa) ->
   ∃fd:qj,(∀(s:cu)(u:au),BindsTo s fd ⟨[u],[]⟩ [("_law_script",u)])/\∀base:ju,(K w.params).In base->base.Ns nu mg->cM ao l.prog w (K w.params) mg base (lF l.prog w) 7 fa fd ["_law_script"] (DY (K w.params))) :
  PySem.W.WalkO q loose XP YP l.row.toRowW d [] (λf vs=>PySem.call f vs) :=
 L2.Wo (n:=63) (k:=7) (x:="_law_script") (CX:=λw=>lF l.prog w) (sp:=λw=>DY (K w.params)) hn (by decide) Bb ⟨λ_=>rfl,by decide,by decide⟩ hY F (λ_ _ a ns hl _ hS=>⟨a,ns,rfl,hS,hl,λ_=>rfl⟩) (by rintro _ _ _ _ _ ⟨_,_,_,_,_,_,_,_,_,_,_,_,z⟩;exact z)
end Law
open PySem PySem.W PyProof.Rows
set_option tactic.hygienic true in
theorem PySem.Challenge.cw_depot_k34_rows_told_holds : PySem.Challenge.rw_depot_k34_rows_told.Holds := by
 w_on;refine PySem.W.holds_law Law.LN λKf=>?_;o_head (PySem.W.kHook Law.Dz.heap_1 Law.DA Law.Gj)
 case hl=>exact Law.TJ
 case hw=>w_witness2
 k_fill
 refine Law.walk (l:=PySem.Challenge.rw_depot_k34_rows_told) rfl rfl (λw h Y=>PySem.W.kIn_of Y) ?F
 case F =>
  intro w mg fa h KX G A5;refine' Law.all_mk KX G A5 ?dZ ?nA ?rO ?jO ?jP ?cQ ?cD ?fU ?cR ?gY ?gZ ?fV ?dI ?dY ?dN ?cO ?dG ?eN ?dJ ?eO ?dH ?d9 ?jQ ?iB ?iC ?eU ?iD ?iG ?vE ?GP ?Bw ?GN ?GL ?Hq ?Ho ?GK ?tG ?GJ ?Hn ?GI ?GH ?HU ?GF ?Je ?GD ?GC ?HS
  case dZ|nA|rO|jO|jP|cQ|cD|fU|cR|gY|gZ|fV|dI|dY|dN|cO|dG|eN|dJ|eO|dH|d9|jQ|iB|iC|eU|iD|iG=>exact⟨by k_is,_,_,_,_,_,_,_,_,_,by k_is,by k_is,by k_is⟩
  case vE|GP|Bw|GN|GL|Hq|Ho|GK|tG|GJ|Hn|GI|GH|HU|GF|Je|GD|GC|HS=>k_is
