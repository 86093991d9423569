import PyProof.Rows.All
import Wide.All
import OpenK.KLine
import OpenK.KOwn
import Wide.FinOn
import Lean
import PyProof.EqAt
import PyProof.EqKinds
import PyProof.TupleCall
import KE.KMinKey
import KE.KSortTup
import KE.KRevSl
import KE.KStateDown
import PyProof.Rows.Range3
import KE.KDictOf
import PyProof.AttrMissSeq
import KE.KRevIter
import KE.KItemsList
import KE.KPairComp
import KE.KEqDict
import KE.KDictSum
import KE.RegKIsAll
import KE.KNest
import KE.KClos
import PyProof.Draws
import PyProof.EnumMake
import KE.KDictLaws
import PySem.Challenge.RW_depot_k26_many_bins_and_lots
set_option Elab.async false
set_option linter.all false
set_option maxRecDepth 100000
set_option maxHeartbeats 4000000
set_option compiler.extract_closed false
def oP_ : Nat → Lean.Syntax → Lean.MacroM (Lean.TSyntax `rcasesPat)
  | 0, _ => Lean.Macro.throwUnsupported
  | n + 1, s => if s.isOfKind ``Lean.Parser.Term.anonymousCtor then do
      let xs ← s[1].getSepArgs.mapM (oP_ n)
      `(rcasesPat| ⟨$[$xs],*⟩)
    else if s.isIdent then `(rcasesPat| $(⟨s⟩):ident)
    else if s.isOfKind ``Lean.Parser.Term.hole then `(rcasesPat| _)
    else Lean.Macro.throwUnsupported
local macro_rules|`(⋯)=>`(by omega)
local macro_rules|`(∅)=>`(by kernel_rfl)
local macro_rules|`(tactic|let $p:term:=$e)=>do
  let q ← oP_ 9 p
  `(tactic|obtain $q:rcasesPat:=$e)
local macro_rules|`(command|abbrev $i:declId $s:optDeclSig $v:declVal)=>`(command|noncomputable def $i:declId $s:optDeclSig $v:declVal)
local macro_rules|`(command|@[simp]def $i:declId $s:optDeclSig $v:declVal)=>`(command|noncomputable abbrev $i:declId $s:optDeclSig $v:declVal)
local macro_rules|`(command|def $i:declId $s:optDeclSig $v:declVal)=>`(command|theorem $i:declId $(⟨Lean.mkNode ``Lean.Parser.Command.declSig #[s.raw[0],s.raw[1][0]]⟩):declSig $v:declVal)
local macro_rules|`(command|private theorem $i:declId $s:declSig $v:declVal)=>`(command|set_option tactic.hygienic true in theorem $i:declId $s:declSig $v:declVal)
open Option renaming some->aj,none->bh,some->ji,map_eq_some_iff->CA,isSome_iff_exists->Jf,isSome_map->IA,none->Cm
open Bool renaming true->ak,false->ao,and_eq_true->bx,not_eq_true'->gV,false_eq_true->ni,false_ne_true->ql,not_true->sT,false_or->EJ,true_xor->EI,or_eq_true->Ir,not_false->Io,false_xor->Im
open PySem renaming wpAny_bind->aq,Value->au,Addr->bw,Shared->cg,wpAny_pure->cj,sizeLine->dg,wpAny->dj,model->dz,Expr->ig,Around->jf,starEach->jj,World->jr,Heap->lg,Program->mz,mainGlobals->nj,Stmt->nu,FuncData->oh,compareOp->qb,bootBuiltins->qe,cLine->qg,wpAny_mono->rm,sysModules->um,backTo->ux,bindArgs->vg,CmpOp->vh,wpAny_holding->vp,wpAny_newObj_type->wg,attributeBase->xq,NameKind->yg,wpAny_field->yu,wpAny_Call_Name_kw->yw,wpAny_call_entry->yx,binaryOp->zc,behindInMarks->zf,wpAny_dictEntries->tm,DictEntry->ip,wpAny_truthy_bool->xt,wpAny_rule->kQ,Scope->dE,tupleKind_room_in1->Az,codeAny_builtin->xm,wpAny_typeNameOfWhole_keyiter->Jg,wpAny_callSpecial?_slot->Fc,rawInt->fS,pyNext->fR,wpAny_setField->xI,assignEach->ny,keywordEach->pV,swapsWith->md,Keyword->iX,codeAny->kc,ExcBaseFacts->xi,wpAny_typeNameOf_keyiter->Je,wpAny_Call_method0_late->Jd,wpAny_attempt->An,foldedSetIterable->E4,codeAny_mono->Am,plainId_quiet->Cp,letOwnedTupleGo->EW,wpAny_passesOwn->EV,tupleKind->xf,firstArgMember->N4
open PySem.Heap renaming get?_push_of_some->cu,lt_size->fj,get?_push_size->jd,SameBut->kh,get?_update_self->AB,get?_update_other->E9,size_push->Cr,MadeExcOf->Iq
open List renaming mem_map->dh,length_map->dw,getElem?_eq_getElem->gk,getElem?_eq_some_iff->iz,map_cons->jc,size_toArray->jg,map_append->jk,mem_of_getElem?->jm,map_map->jt,mem_cons->ju,mem_singleton->jw,mem_filter->kj,range->qd,mem_append->qj,length_cons->qm,mem_cons_of_mem->qp,getElem?_map->qu,all_eq_true->qx,getD->ug,length_filter_le->uh,pairwise_iff_getElem->uw,pairwise_map->vf,mem_append_right->vm,lookup_cons->vq,length_append->wu,nodup_cons->yc,pairwise_append->yd,getElem_mem->yh,map_congr_left->yp,nodup_append->yq,getElem?_append_right->zj,mem_range->zq,lookup->zu,mem_cons_self->xy,append_assoc->xp,filter_cons->xo,take_length->xn,nodup_nil->tj,getElem?_append_left->Fd,getElem?_cons_zero->Ff,append_nil->Aq,take_append_drop->E8,Pairwise->xj,replicate->Ap,mem_reverse->Cv,filter_cons_of_pos->Jc,filter_cons_of_neg->Jb,find?_cons->Cu,mem_append_left->IT,length_take->E0,mem_iff_getElem->IS,cons_append->EY,exists_cons_of_ne_nil->N8,length->Ak,filter_sublist->IQ,length_nil->EU,filter_map->ET,mem_filterMap->IP,filter_append->IZ,take_succ->EK,reverse_cons->Iz,take_of_length_le->N3,pairwise_reverse->N0,mem_iff_getElem?->NZ,filterMap_cons->NX
open Nat renaming le_refl->gw,lt_of_lt_of_le->je,ne_of_lt->jo,le_trans->qw,zero_le->qz,lt_of_le_of_lt->uc,zero_add->uq,lt_irrefl->vo,le_of_lt->wj,ne_of_gt->xu,lt_of_le_of_ne->xw,lt_trichotomy->Cy,le_succ_of_le->Cw,add_sub_cancel'->E7,min_eq_left->Ct,eq_zero_of_not_pos->Ja,one_pos->xk,lt_succ_of_lt->E5,succ_le_succ->EZ,sub_lt->xh,le_of_eq->Cn,pos_of_ne_zero->I0,lt_of_succ_lt->Iy,le_of_lt_succ->Iw,sub_pos_of_lt->Iv,le_of_add_right_le->N1
open PySem.W renaming kitOne->iw,Frag->jq,findIn->ou,fnOf->su,nsIn->uf,keepIn->wz,Looks->xg,subIn->xr,clsIn->yt,emptyDict->zy,kia_one->qr,excIn->nB,mg_of->qi,instObj->xl,typeIn->Ao,codeIn->Cq,plainGet->E2,isFn->Co,hasDictIn->IB,Hook->EH,hideAll->Iu,plainGet_of->NW,callWith_K0->NV,lookIn->Ip,callWith_K->N5
open Array renaming toList_append->qy,length_toList->uo,getElem?_eq_getElem->yj,size_map->zx,getD->i5,getElem?_toList->AA,getElem?_eq_some_iff->Fe,getElem?_eq_none->IU,eraseIdxIfInBounds->N7,toList_reverse->NY
open PyProof.Rows renaming seqObj->ud,IntsAre->hV
open Int renaming le_trans->ur,le_of_lt->zp,le_refl->kR,toNat_natCast->Cz
namespace Law
open PySem PySem.W PyProof.Rows
abbrev bX(n:Nat):nu:=PySem.Challenge.pw_depot_k26_many_bins_and_lots.main.body.getD n (.Pass ⟨0,0,0,0⟩)
abbrev ze:mz:={PySem.Challenge.pw_depot_k26_many_bins_and_lots with main:={PySem.Challenge.pw_depot_k26_many_bins_and_lots.main with body:=[bX 1,bX 2,bX 3,bX 4,bX 5,bX 6,bX 7,bX 9,bX 10,bX 11,bX 12,bX 13,bX 14,bX 16,bX 17,bX 18,bX 19,bX 21,bX 22,bX 23,bX 25,bX 26,bX 27,bX 28,bX 30,bX 31,bX 32,bX 33,bX 34,bX 35,bX 36,bX 37,bX 38]}}
def Yx{p:mz}{α:Type}{Yf:cg->α}{Ya:jr->α}{N:Nat}{g0:Bool}
  (e:opening p=plainProg p.main.scope.names)(hN:Nat.ble 600 N=ak)(f:∀s,fenceModules? p s=aj s)
  (h:∀(w:jr)(os:OsState),(topFrom treeTable p w N ⟨boot_heap w.params,#[],boot_drawn,boot_toks,os⟩).map (λs=>(openSeen q loose (importedModules p.main.body) Xt g0 s,Yf s))=aj (openGood q loose,Ya w)) :
  LeftO p q loose Xt Yf Ya N g0:=λw=>by
 obtain⟨⟨h1,gs,d,k,os⟩,e1,e'⟩:=CA.mp (boot_open e hN f w);obtain⟨rfl,rfl,rfl,rfl⟩:h1=boot_heap w.params/\gs=#[]/\d=boot_drawn/\k=boot_toks:=by simpa using e'
 unfold openEnds;rw[e1];exact h w os
@[simp]def Kx:cg->Bool:=λs=>xlAt ze [] s&&recOk (RowW.records (OpenRow.toRowW (OpenLaw.row PySem.Challenge.rw_depot_k26_many_bins_and_lots))) s
end Law
local macro_rules
 | `(tactic| o_head $H)=>`(tactic| refine PySem.W.holds_open (q:=Law.ze) (loose:=[]) (Xt:=Law.Kx) (XP:=PySem.W.XL Law.ze []) (Yf:=EH.obs $H) (Ya:=EH.val $H)
     (YP:=EH.says $H) (N:=5588) ?hl (EH.of $H) (EH.keeps $H) (λs e=>PySem.W.xl_of s (Bool.and_eq_true_iff.mp e).1) PySem.W.XL.keeps (by rfl) (by rfl) (by rfl)
     (λs e=>PySem.W.recFacts_of (Bool.and_eq_true_iff.mp e).2) (by rfl) (by first|assumption|decide+kernel) (by decide+kernel) ⟨rfl,rfl,rfl,rfl,rfl,by decide+kernel⟩ ?hw ?hc)
open PySem PySem.W in
def Law.Qe:OpenLaw.wellSaid PySem.Challenge.rw_depot_k26_many_bins_and_lots=ak:=by kernel_rfl
open PySem PySem.W in
def Law.Gy(h0:∀{α:Type}(Yf:cg->α)(Ya:jr->α),LeftO (OpenLaw.row PySem.Challenge.rw_depot_k26_many_bins_and_lots).prog Law.ze [] Law.Kx Yf Ya 5588)
  (h1:∀YP d,WalkO Law.ze [] (XL Law.ze []) YP (OpenRow.toRowW (OpenLaw.row PySem.Challenge.rw_depot_k26_many_bins_and_lots)) d [] (λf vs=>PySem.call f vs)):OpenLaw.Holds PySem.Challenge.rw_depot_k26_many_bins_and_lots:=by
 w_on;refine PySem.W.holds_law Law.Qe λOy=>?_;k_head
 case hl=>exact h0 _ _
 case hw=>w_witness2
 exact h1 _ _
@[simp]def Law.Gz:List Nat:=[2,3,15,22,23,24,25,28,35,36,37,40,47,48,49,52,59,60,61,64,71,72,73,76,83,84,85,88,95,96,97,100,102,103,105,106,107,109,110,112,113,114,116,117,119,120,121,123,124,126,127,128,130,131,133,134,135,137,138,140,141,142,144,145,147,148,149,151,152,154,155,156,158,159,161,162,163,165,166,168,169,170,172,173,175,176,184,185,187,188,190,191,192,194,195,197,198,199,201,202,204,205,206,208,209,211,212,213,215,216,218,219,220,222,223,225,226,227,229,230,232,233,234,237,238,239,241,242,244,245,246,248,249,251,252,253,255,256,258,259,260,261,262,263,264,267,269,270,272,273,274,276,277,279,280,281,284,285,286,289,290,291,293,294,296,297,298,300,301,303,304,305,307,308,310,311,312,315,316,317,320,321]
def Law.Ky:∀P,Law.Gz=(Law.Gy.heap_1 P).map (·.1):=λ_=>by kernel_rfl
open PySem PySem.W in
def Law.Yw:LeftO (OpenLaw.row PySem.Challenge.rw_depot_k26_many_bins_and_lots).prog Law.ze [] Law.Kx (Hook.obs (kHook Law.Gy.heap_1 Law.Gz Law.Ky)) (Hook.val (kHook Law.Gy.heap_1 Law.Gz Law.Ky)) 5588 :=
 Law.Yx (by kernel_rfl) (by kernel_rfl) (λs=>by kernel_rfl) (λw os=>by kernel_rfl)
local macro_rules|`(tactic|omega)=>`(tactic|first|lia|omega (config := {}))
set_option tactic.hygienic false
namespace L2
open PySem PySem.Spec PyProof.Rows
variable{h:lg}
section
structure Tr(B:lg)(x:bw)(C fl:au)(h:lg):Prop where
 ex:∃(o:Obj)(vs:Array au)(T:bw)(oT:Obj)(ts:Array au),h.get? x=aj o/\o.cls=C/\o.data=.fields vs/\vs[1]?=aj (.ref T)/\vs[2]?=aj .none/\B.get? T=bh/\T≠x/\h.get? T=aj oT/\oT.data=.fields ts/\ts[3]?=aj fl
structure sF(B:lg)(l:List Env)(x:bw)(C fl:au)(h:lg):Prop where
 stays:B.StaysIn h
 new:B.get? x=bh
 Nq:h.FunFrames B l
 tr:Tr B x C fl h
@[simp]def tN(B:lg)(l:List Env)(x:bw)(C:au)(h:lg):Prop:=sF B l x C .none h
variable{v:au}
section
variable{M:Model}{A:jf}{s:cg}{B:lg}{l:List Env}{env:Env}{outer:List Env}{x:bw}{fl:au}
def sF.fld(f:sF B l x C fl h):∃o vs,h.get? x=aj o/\o.cls=C/\o.data=.fields vs/\vs[2]?=aj .none:=by
 let⟨o,vs,_,_,_,h1,h2,h3,_,h5,_⟩:=f.tr.ex;exact⟨o,vs,h1,h2,h3,h5⟩
def zZ{a:bw}{o:Obj}{vs:Array au}{i:Nat}(e:h.get? a=aj o)(d:o.data=.fields vs) :
  (h.update a (Obj.mapFields (·.setIfInBounds i v))).get? a=aj (Obj.mapFields (·.setIfInBounds i v) o)/\(Obj.mapFields (·.setIfInBounds i v) o).data=.fields (vs.setIfInBounds i v)/\(Obj.mapFields (·.setIfInBounds i v) o).cls=o.cls /\
  (∀b,b≠a->(h.update a (Obj.mapFields (·.setIfInBounds i v))).get? b=h.get? b):=by
 have d':=Obj.data_mapFields d (·.setIfInBounds i v);exact⟨AB _ e (Obj.isFreed_of_fields d'),d',Obj.cls_mapFields _ _,λb hb=>E9 _ _ (Ne.symm hb)⟩
def CM{a b:bw}{o u:Obj}(e:h.get? a=aj o)(d:o.data=.fields vs)(e2:h.get? b=aj u)(n:∀ws,u.data≠.fields ws):b≠a:=λq=>by
 subst q;rw[e]at e2;cases e2;exact n vs d
def Ii(f:sF B l x C fl s.heap)(h:∀h',tN B l x C h'->s.heap.UpToSlots h'->Q () {s with heap:=h' }):dj M A (setFlight (.ref x) bh) Q E s:=by
 let⟨st,nw,fu,⟨o,vs,T,oT,ts,e1,e2,e3,e4,e5,e6,e7,e8,e9,Bq⟩⟩:=f;unfold setFlight;refine aq (yu e1 e3 e4 ?_);rw[if_pos (by simp)];have l3:3<ts.size:=(Fe.mp Bq).1;let⟨u1,u2,u3,u4⟩:=zZ (i:=3) (v:=(bh:Option bw).elim au.none λf=>fS f) e8 e9;refine xI e8 e9 l3 (h _ ⟨λb u q=>?_,nw,fu.of_keeps λb u q n=>⟨u,(u4 b (CM e8 e9 q n)).trans q,rfl⟩,⟨o,vs,T,_,_,(u4 x (Ne.symm e7)).trans e1,e2,e3,e4,e5,e6,e7,u1,u2,?_⟩⟩ λb u q n=>⟨u.slots,(u4 b (CM e8 e9 q n)).trans q⟩)
 .exact(u4 b λz=>by subst z;rw[e6]at q;cases q).trans (st b u q)
 .simp[l3]
def TU{t7:Bool}{o:Obj}{vs:Array au}(lz:A.frames=aj (env::outer))(hf:env.frame=aj L)(st:B.StaysIn s.heap)(nw:B.get? x=bh)(fu:s.heap.FunFrames B (env::outer))(e1:s.heap.get? x=aj o)(e2:o.cls=C)(e3:o.data=.fields vs)(e4:1<vs.size)(e5:vs[2]?=aj .none)
  (h:∀h',sF B (env::outer) x C (fS L) h'->s.heap.UpToSlots h'->Q () {s with heap:=h' }) :
  dj M A (do let a ←frameOf env;let pl ←entryPlaceOf L t7;let b ←EntryCells.newEntry head a .none (fS L) .none pl;setField (.ref x) 1 b) Q E s:=by
 have nf:x∉(env::outer).filterMap (·.frame):=λm=>by
  let⟨_,u,hu,hn⟩:=fu.mem m;rw[e1]at hu;cases hu;exact hn vs e3
 refine aq (wpAny_frameOf_fun lz fu hf λk so=>aq (wpAny_entryPlaceOf λpl ij=>?_));unfold EntryCells.newEntry newFields;refine aq (wg ?_ (ij.sizeOk5 _ _ _ _ _));have k1:k.get? x=aj o:=(so.2.1 x nf).trans e1;have OU:k.objs.size≠x:=λz=>absurd (fj k1) (by rw[z];exact vo _);have kB:∀b u,B.get? b=aj u->k.get? b=aj u:=λb u q=>(so.2.1 b λm=>by rw[(fu.mem m).1]at q;cases q).trans (st b u q);generalize hT:({cls:=.type "traceback",dict:=none,data:=.fields ([head,.ref L,.none,fS L,.none]++(if pl.isEmpty then Ap 6 au.none else pl)).toArray}:Obj)=oT;have p1:(k.push oT).get? x=aj o:=cu _ k1;let⟨u1,u2,u3,u4⟩:=zZ (i:=1) (v:=.ref k.objs.size) p1 e3;have keep:∀b u,b≠x->k.get? b=aj u->((k.push oT).update x (Obj.mapFields (·.setIfInBounds 1 (.ref k.objs.size)))).get? b=aj u:=λb u n q=>(u4 b n).trans (cu _ q)
 have pT:(k.push oT).get? k.objs.size=aj oT:=by
  subst hT;exact jd k rfl
 refine xI p1 e3 e4 (h _ ⟨λb u q=>keep b u (λz=>by subst z;rw[nw]at q;cases q) (kB b u q),nw,fu.of_keeps λb u q n=>?_,⟨_,_,k.objs.size,oT,_,u1,u3.trans e2,u2,?_,?_,?_,OU,(u4 _ OU).trans pT,by rw[←hT],?_⟩⟩ λb u q n=>?_)
 .obtain⟨sl,z⟩:=so.2.2 b u q;exact⟨_,keep b _ (CM e1 e3 q n) z,rfl⟩
 .simp[e4]
 .rw[Array.getElem?_setIfInBounds_ne (by decide)];exact e5
 .cases q:B.get? k.objs.size with
  |none=>rfl
  |some u=>exact absurd (fj (kB _ u q)) (vo _)
 .first|(simp;done)|(rcases ij with rfl|⟨_,_,_,_,_,_,_,rfl⟩<;>simp)
 .obtain⟨sl,z⟩:=so.2.2 b u q;exact⟨sl,keep b _ (CM e1 e3 q n) z⟩
def SE(lz:A.frames=aj (env::outer))(hf:env.frame=aj L)(f:tN B (env::outer) x C s.heap)(h:∀h',sF B (env::outer) x C (fS L) h'->s.heap.UpToSlots h'->Q () {s with heap:=h' }):dj M A (noteFrame (.ref x) env) Q E s:=by
 let⟨st,nw,fu,⟨o,vs,T,oT,ts,e1,e2,e3,e4,e5,e6,e7,e8,e9,Bq⟩⟩:=f;unfold noteFrame;simp only[hf];refine aq (yu e1 e3 e4 ?_);rw[if_pos (by simp)];refine aq (yu e8 e9 Bq ?_);rw[if_neg (by simp[fS])];have l3:3<ts.size:=(Fe.mp Bq).1;let⟨u1,u2,u3,u4⟩:=zZ (i:=3) (v:=.none) e8 e9;refine aq (xI e8 e9 l3 ?_);refine TU lz hf (λb u q=>(u4 b λz=>by subst z;rw[e6]at q;cases q).trans (st b u q)) nw (fu.of_keeps λb u q n=>⟨u,(u4 b (CM e8 e9 q n)).trans q,rfl⟩) ((u4 x (Ne.symm e7)).trans e1) e2 e3 (Fe.mp e4).1 e5 λh' f' up=>h h' f' ?_;exact λb u q n=>up b u ((u4 b (CM e8 e9 q n)).trans q) n
def sF.tail(f:sF B (env::outer) x C fl h):sF B outer x C fl h:=by
 let⟨st,nw,⟨_,_,fu⟩,tr⟩:=f;exact⟨st,nw,fu,tr⟩
def arP(lz:A.frames=aj (env::outer))(hf:env.frame=aj L)(f:tN B (env::outer) x C s.heap)(h:∀h',tN B outer x C h'->s.heap.UpToSlots h'->Q () {s with heap:=h' }):dj M A (leaving env (.ref x)) Q E s:=by
 unfold leaving;refine aq (SE lz hf f λh1 f1 up1=>Ii f1 λh2 f2 JA=>?_);exact h h2 f2.tail (up1.trans JA)
def ak1{h0:lg}(lz:A.frames=aj (env::outer))(hf:env.frame=aj L)(st:B.StaysIn h0)(fu:h0.FunFrames B (env::outer))(hm:Iq h0 s.heap x C us)(h:∀h',tN B outer x C h'->s.heap.UpToSlots h'->Q () {s with heap:=h' }):dj M A (leaving env (.ref x)) Q E s:=by
 let⟨t,e1,_,_⟩:=hm.there;unfold leaving noteFrame;simp only[hf];refine aq (aq (yu (vs:=#[.ref t,.none,.none,.none,.bool ao,.none]) (i:=1) e1 rfl rfl ?_));rw[if_neg (by simp)]
 have nw:B.get? x=bh:=by
  cases q:B.get? x with
  |none=>rfl
  |some u=>have:=st x u q;rw[hm.new]at this;cases this
 refine TU lz hf (λb u q=>hm.keeps b u (st b u q)) nw (fu.of_keeps λb u q _=>⟨u,hm.keeps b u q,rfl⟩) e1 rfl rfl (by simp) rfl λh1 f1 up1=>Ii f1 λh2 f2 JA=>?_;exact h h2 f2.tail (up1.trans JA)
end
abbrev zS(A:jf)(h:lg):Prop:=A.handled=bh∨∃x o vs,A.handled=aj (.ref x)/\h.get? x=aj o/\o.data=.fields vs/\vs[2]?=aj .none
def abF:entryFor table "proto.unchain"=aj Builtin.«proto.unchain» :=entryFor_of_fast ∅
section
variable{prog:mz}{w:jr}{A:jf}{E:au->cg->Prop}{s:cg}
def ap5{α:Type}{Q:α->cg->Prop}{a:bw}{oa:Obj}{ws:Array au}(hq:zS A s.heap)(ea:s.heap.get? a=aj oa)(da:oa.data=.fields ws)(la:2<ws.size)(na:∀x,A.handled=aj (.ref x)->x≠a)
  (h:∀h',(∀b,b≠a->h'.get? b=s.heap.get? b)->(∃o,h'.get? a=aj o/\o.cls=oa.cls)->E (.ref a) {s with heap:=h' }):dj (dz prog w) A (raiseNew (.ref a):Sem α) Q E s:=by
 unfold raiseNew;refine aq (wpAny_handled ?_);rcases hq with hn|⟨x,o,vs,hx,ex,dx,vx⟩
 .rw[hn];exact aq (cj (wpAny_throw (h s.heap (λ_ _=>rfl) ⟨oa,ea,rfl⟩)))
 .rw[hx];have ne:=na x hx;show dj (dz prog w) _ (if((au.ref x)!=(au.ref a))=ak then _ else _) _ _ _;rw[if_pos (by simpa using ne)];refine aq (vp (wpAny_runValue (xm abF ?_)));show dj (dz prog w) _ (field (.ref x) 2 >>= _) _ _ _;refine aq (yu ex dx vx ?_);show dj (dz prog w) _ (if((au.none:au)==au.none)=ak then _ else _) _ _ _;rw[if_pos (by decide)];refine aq (cj (cj ?_));let⟨u1,u2,u3,u4⟩:=zZ (i:=2) (v:=.ref x) ea da;show dj (dz prog w) _ (setField (.ref a) 2 (.ref x) >>= _) _ _ _;exact aq (xI ea da la (wpAny_throw (h _ u4 ⟨_,u1,u3⟩)))
def V5{α:Type}{Q:α->cg->Prop}(hq:zS A s.heap)(h:∀a h',(∀b o,s.heap.get? b=aj o->h'.get? b=aj o)->(∃o,h'.get? a=aj o/\o.cls=.type "StopIteration")->E (.ref a) {s with heap:=h' }) :
  dj (dz prog w) A (newExc (.type "StopIteration") [] >>= λe=>(raiseNew e:Sem α)) Q E s:=by
 refine aq ?_;unfold newExc newTuple;refine aq (wg (aq (wpAny_of_eq (a:=Value.none) (by simp only[N4];rfl) (wg ?_ (by size_fits)))) (by size_fits));generalize hh:s.heap.push {cls:=.type "tuple",data:=.seq ([]:List au).toArray}=h1;generalize ho:({cls:=.type "StopIteration",data:=.fields (#[.ref s.heap.objs.size,.none,.none,.none,.bool ao,.none]++ownMembersOf (.type "StopIteration") [])}:Obj)=o1;have k1:∀b o,s.heap.get? b=aj o->(h1.push o1).get? b=aj o:=λb o e=>cu _ (hh ▸ cu _ e)
 have ea:(h1.push o1).get? h1.objs.size=aj o1:=by
  subst ho;exact jd h1 rfl
 have old:∀b o,s.heap.get? b=aj o->b≠h1.objs.size:=λb o e z=>by
  have l1:b<h1.objs.size:=by
   rw[←hh,Cr];exact E5 (fj e)
  exact absurd l1 (by rw[z];exact vo _)
 refine ap5 (ws:=#[.ref s.heap.objs.size,.none,.none,.none,.bool ao,.none]++ownMembersOf (.type "StopIteration") []) ?_ ea (by rw[←ho]) (by simp[ownMembersOf]) (λx hx=>?_) λh' k c=>h h1.objs.size h' (λb o e=>(k b (old b o e)).trans (k1 b o e)) ?_
 .rcases hq with z|⟨x,o,vs,a1,a2,a3⟩
  .exact .inl z
  .exact .inr ⟨x,o,vs,a1,k1 _ _ a2,a3⟩
 .rcases hq with z|⟨x',o,vs,a1,a2,a3⟩
  .rw[z]at hx;cases hx
  .rw[a1]at hx;cases hx;exact old _ _ a2
 .obtain⟨o,e,c⟩:=c;exact⟨o,e,by rw[c,←ho]⟩
def UH{T id:String}{b:Builtin}(slot:Slot T (Str.ofString "__next__") id)(entry:entryFor table id=aj b)(hT:s.TypeIs (.ref it) T)(args:argsOk id ⟨[.ref it],[]⟩)
  (hb:dj (dz prog w) A.in1 (b ⟨[.ref it],[]⟩) (λ_ _=>False) (λe s'=>∃a o,e=.ref a/\s'.heap.get? a=aj o/\o.cls=.type "StopIteration"/\Q bh s') s):dj (dz prog w) A (fR (.ref it)) Q E s:=by
 unfold fR;refine aq (An (Fc hT slot (yx slot hT entry (rm hb (λ_ _ z=>z.elim) λe s' z=>?_) args)));let⟨a,o,rfl,e1,e2,q⟩:=z;exact aq (wpAny_isInstance (T:="StopIteration") (b:=true) ⟨o,e1,e2⟩ isSubtype_stop (cj q))
def ZJ{o:Obj}{i:Nat}(hq:zS A s.heap)(e:s.heap.get? it=aj o)(d:o.data=.fields vs)(l:vs[2]?≠aj .none):zS A (s.heap.update it (Obj.mapFields (·.setIfInBounds i v))):=by
 rcases hq with z|⟨x,ox,ws,a1,a2,a3,a4⟩
 .exact .inl z
 .refine .inr ⟨x,ox,ws,a1,?_,a3,a4⟩
  have ne:x≠it:=λz=>by
   subst z;rw[e]at a2;cases a2;rw[d]at a3;cases a3;exact l a4
  exact((zZ e d).2.2.2 x ne).trans a2
def ap6{l:bw}{i:Nat}{items:Array au}(hq:zS A s.heap)(hit:s.heap.IsListIter it l i)(hl:s.heap.IsList l items)(hx:items[i]?=bh)
  (h:∀h',Heap.ExtBut it s.heap h'->Q bh {s with heap:=h' }):dj (dz prog w) A (fR (.ref it)) Q E s:=by
 let⟨o,e1,c1,d1⟩:=id hit;let⟨ol,e2,_,nl,d2⟩:=hl;refine UH slot_listiter_next entry_listiter_next hit.typeIs (args_listiter_next _) ?_;show dj (dz prog w) _ (field (.ref it) 0 >>= _) _ _ s;refine aq (yu e1 d1 (x:=.ref l) rfl ?_);show dj (dz prog w) _ (field (.ref it) 1 >>= _) _ _ s;refine aq (yu e1 d1 (x:=.int i 0) rfl ?_);show dj (dz prog w) _ (seqItems? (.ref l) >>= _) _ _ s;refine aq (wpAny_seqItems e2 d2 ?_);simp only[hx,Cz];refine aq (kQ (aq (xI e1 d1 (by simp) ?_)));refine V5 (A:=A.in1) (ZJ hq e1 d1 (by simp)) λa h' k c=>?_;let⟨oa,ea,ca⟩:=c;exact⟨a,oa,rfl,ea,ca,h h' λb ob n e=>k b ob (((zZ e1 d1).2.2.2 b n).trans e)⟩
def arQ{x left step:Int}(hq:zS A s.heap)(hit:IsRangeIter s.heap it x left step)(FN:left<=0)
  (h:∀h',Heap.ExtBut it s.heap h'->Q bh {s with heap:=h' }):dj (dz prog w) A (fR (.ref it)) Q E s:=by
 refine UH F.slot_range_iterator_next F.entry_range_iterator_next ⟨_,hit,rfl⟩ (F.args_range_iterator_next_1 _) ?_;show dj (dz prog w) _ (field (.ref it) 0 >>= _) _ _ s;refine aq (yu hit rfl (i:=0) rfl ?_);show dj (dz prog w) _ (field (.ref it) 1 >>= _) _ _ s;refine aq (yu hit rfl (i:=1) rfl ?_);show dj (dz prog w) _ (field (.ref it) 2 >>= _) _ _ s;refine aq (yu hit rfl (i:=2) rfl ?_);show dj (dz prog w) _ (if left<=0 then _ else _) _ _ s;rw[if_pos FN];refine aq (kQ (aq ?_));refine V5 (A:=A.in1) hq λa h' k c=>?_;let⟨oa,ea,ca⟩:=c;exact⟨a,oa,rfl,ea,ca,h h' λb ob n e=>k b ob e⟩
end
end
section
@[simp]def Key:=Sum Int Str
abbrev qq:Key->au->Bool
 |.inl k,v=>au.isInt k v
 |.inr x,v=>au.isStrOf x v
abbrev aPF(w:jr):Key->Int
 |.inl k=>hashInt k
 |.inr x=>hashStr w x
def bZ:∀{k:Key}{v:au},qq k v=ak->(∃i t,k=Sum.inl i/\v=au.int i t)∨(∃x t,k=Sum.inr x/\v=au.str x t)
 |.inl i,v,h=>by
  let⟨t,e⟩:=Value.isInt_shape (k:=i) (v:=v) h;exact .inl ⟨i,t,rfl,e⟩
 |.inr x,v,h=>by
  let⟨t,e⟩:=Value.isStrOf_shape (x:=x) (v:=v) h;exact .inr ⟨x,t,rfl,e⟩
def ap7(i:Int)(t:Tok):qq (.inl i) (.int i t)=ak:=by simp[qq,au.isInt]
def ap8(x:Str)(t:Tok):qq (.inr x) (.str x t)=ak:=by simp[qq,au.isStrOf]
def aDY(a b:Int):decide ((Sum.inl a:Key)=Sum.inl b)=(a==b):=by
 by_cases e:a=b
 .subst e;simp
 .have h:¬ (Sum.inl a:Key)=Sum.inl b:=λq=>e (Sum.inl.inj q);rw[decide_eq_false h];exact(beq_eq_false_iff_ne.mpr e).symm
def aDZ(a b:Str):decide ((Sum.inr a:Key)=Sum.inr b)=decide (a=b):=by
 by_cases e:a=b
 .subst e;simp
 .have h:¬ (Sum.inr a:Key)=Sum.inr b:=λq=>e (Sum.inr.inj q);rw[decide_eq_false h,decide_eq_false e]
def aE0(a:Int)(b:Str):decide ((Sum.inl a:Key)=Sum.inr b)=ao:=decide_eq_false (λq=>nomatch q)
def aE1(a:Str)(b:Int):decide ((Sum.inr a:Key)=Sum.inl b)=ao:=decide_eq_false (λq=>nomatch q)
abbrev aF(prog:mz)(w:jr):PySem.KeyKind prog w Key where
 is:=qq
 hash:=aPF w
 inj:=λv a b ha hb=>by
  rcases bZ ha with⟨i,t,rfl,rfl⟩|⟨x,t,rfl,rfl⟩
  .rcases bZ hb with⟨j,u,rfl,e⟩|⟨y,u,rfl,e⟩
   .injection e with e1 _;rw[e1]
   .exact nomatch e
  .rcases bZ hb with⟨j,u,rfl,e⟩|⟨y,u,rfl,e⟩
   .exact nomatch e
   .injection e with e1 _;rw[e1]
 byValue:=λk v h=>by
  rcases bZ h with⟨i,t,rfl,rfl⟩|⟨x,t,rfl,rfl⟩<;>rfl
 pyHash:=λhv h=>by
  rcases bZ hv with⟨i,t,rfl,rfl⟩|⟨x,t,rfl,rfl⟩
  .exact wpAny_pyHash_int h
  .exact wpAny_pyHash_str h
 eqBool:=λhu hv h=>by
  rcases bZ hu with⟨i,t,rfl,rfl⟩|⟨x,t,rfl,rfl⟩
  .rcases bZ hv with⟨j,u,rfl,rfl⟩|⟨y,u,rfl,rfl⟩
   .rw[aDY]at h;exact wpAny_eqBool_int h
   .rw[aE0]at h;exact SeqAt.EqAt.int_str i t y u _ _ _ _ h
  .rcases bZ hv with⟨j,u,rfl,rfl⟩|⟨y,u,rfl,rfl⟩
   .rw[aE1]at h;exact SeqAt.EqAt.str_int x t j u _ _ _ _ h
   .rw[aDZ]at h;exact wpAny_eqBool_str h
 «strs» :=λk x t v h=>by
  rcases bZ h with⟨i,u,rfl,e⟩|⟨y,u,rfl,e⟩
  .exact nomatch e
  .injection e with e1 _;subst e1;cases v<;>rfl
def Wm(prog:mz)(w:jr)(i:Int)(t:Tok):(aF prog w).is (.inl i) (.int i t)=ak:=ap7 i t
def ag8(prog:mz)(w:jr)(x:Str)(t:Tok):(aF prog w).is (.inr x) (.str x t)=ak:=ap8 x t
end
section
inductive V where
 |ag|bl (b:Bool)|int (i:Int)|str (x:Str)|GF (b:Array UInt8)|GB (b:UInt64)|ref (a:bw)|ty (n:String)
 deriving DecidableEq
abbrev RelV:V->au->Prop
 |.ag,u=>u=au.none
 |.bl b,u=>u=au.bool b
 |.int i,u=>∃t,u=au.int i t
 |.str x,u=>∃t,u=au.str x t
 |.GF b,u=>∃t,u=au.bytes b t
 |.GB b,u=>∃t,u=au.float b t
 |.ref a,u=>u=au.ref a
 |.ty n,u=>u=au.type n
@[simp]def Vals:List V->List au->Prop:=Paired RelV
def Vals.length{xs:List V}{us:List au}(r:Vals xs us):xs.length=us.length:=Paired.length r
def Vals.get:∀{xs:List V}{us:List au}{i:Nat}{x:V},Vals xs us->xs[i]?=aj x->∃u,us[i]?=aj u/\RelV x u
 |_,_,_,_,.nil,e=>by simp at e
 |_,_,0,_,.cons r _,e=>by simp at e;subst e;exact⟨_,rfl,r⟩
 |_,_,i+1,x,.cons _ t,e=>by
  let⟨u,h1,h2⟩:=Vals.get (i:=i) (x:=x) t (by simpa using e);exact⟨u,by simpa using h1,h2⟩
def Vals.append:∀{xs ys:List V}{us ws:List au},Vals xs us->Vals ys ws->Vals (xs++ys) (us++ws)
 |_,_,_,_,.nil,s=>s
 |_,_,_,_,.cons r t,s=>.cons r (Vals.append t s)
abbrev vV:Option V->Option au->Prop
 |some v,aj u=>RelV v u
 |none,bh=>True
 |_,_=>False
abbrev KV{κ:Type}:List (κ×V)->List (κ×au)->Prop:=Paired λ(p:κ×V)(q:κ×au)=>p.1=q.1/\RelV p.2 q.2
abbrev kV:Key->V
 |.inl i=>.int i
 |.inr x=>.str x
inductive HO where
 |lst (xs:List V)
 |tup (xs:List V)
 |dK (kvs:List (Key×V))|dT (kvs:List (List Key×V))
 |set (S:Int->Bool) (n:Nat)
 |ins (C dx:bw) (fs:List (Str×V))
 |own (x:bw)
 |xd (fs:List (Str×V))
 |met (f x:bw)
 |F3 (lo hi:Int)
 |jJ (o:Obj) (u:HO)
 |i9 (ps:Array au)
 |ext (φ:lg->Prop)
@[simp]def Hp:=Addr->Option HO
abbrev upd(H:Hp)(a:bw)(o:HO):Hp:=λb=>if b=a then aj o else H b
def aK{a:bw}{o:HO}:upd H a o a=aj o:=by unfold upd;rw[if_pos rfl]
def aP{a b:bw}{o:HO}(h:b≠a):upd H a o b=H b:=by unfold upd;rw[if_neg h]
def Lr{H:Hp}{a b:bw}{o u:HO}(h:H a=aj o)(h':H b=aj u)(d:o≠u):a≠b:=by
 intro e;subst e;rw[h]at h';exact d (ji.inj h')
def n8{H:Hp}{a b:bw}{o:HO}(h:H a=aj o)(h':H b=bh):a≠b:=by
 intro e;subst e;rw[h]at h';cases h'
section
variable(P:mz)(w:jr)
abbrev iT(H:Hp)(h:lg)(a:bw):HO->Prop
 |.lst xs=>xs.length<=dg/\∃(its:List au)(n:Nat),Vals xs its/\h.get? a=aj {cls:=.type "list",data:=.seq its.toArray n}
 |.tup xs=>xs.length<=dg/\∃its:List au,Vals xs its/\IsTup h a its.toArray
 |.dK kvs=>kvs.length<=dg/\(a==um)=ao/\∃vs,KV kvs vs/\h.DictOf (aF P w) a vs
 |.dT kvs=>kvs.length<=dg/\(a==um)=ao/\∃xs:List (List Key×bw×au),
   Paired (λ(p:List Key×V)(q:List Key×bw×au)=>p.1=q.1/\H q.2.1=aj (.tup (p.1.map kV))/\RelV p.2 q.2.2) kvs xs /\
   ∃o es ep,h.get? a=aj o/\o.ExactDict/\o.data=.dict es ep/\es.toList=xs.map (entryOfKey (xf (aF P w)))/\(xs.map (·.1)).Nodup
 |.set S n=>h.SetOf (intKind P w) a S n
 |.ins C dx fs=>H dx=aj (.own a)/\fs.length<=1000/\dx≠a/\h.get? a=aj (xl C dx) /\
   ∃mA,h.Ns1 dx mA/\(∀f,vV (fs.lookup f) (mA f))/\PySem.Within mA (fs.map (·.1))
 |.own _=>∃o,h.get? a=aj o
 |.xd fs=>∃mA,h.Ns1 a mA/\∀f,vV (fs.lookup f) (mA f)
 |.F3 lo hi=>∃t u v,h.get? a=aj {cls:=.type "range",data:=.fields #[.int lo t,.int hi u,.int 1 v]}
 |.jJ o u=>h.get? a=aj o/\iT H h a u
 |.i9 ps=>h.get? a=aj {cls:=.none,data:=.fields ps}
 |.met f x=>h.get? a=aj (PySem.W.methodObj (.ref f) (.ref x))
 |.ext φ=>φ h/\(∃o,h.get? a=aj o)/\∀h1 h2:lg,φ h1->(∀o,h1.get? a=aj o->h2.get? a=aj o)->φ h2
abbrev bP(H:Hp)(h:lg):Prop:=∀a o,H a=aj o->iT P w H h a o
end
section
variable{w:jr}{h h':lg}{a:bw}{o:HO}
def iT.lt(x:iT P w H h a o):a<h.objs.size:=by
 cases o with
 |lst xs=>let⟨_,_,_,_,e⟩:=x;exact fj e
 |tup xs=>let⟨_,_,_,p⟩:=x;exact p.lt
 |dK kvs=>let⟨_,_,_,_,o,_,_,e,_⟩:=x;exact fj e
 |dT kvs=>let⟨_,_,_,_,o,_,_,e,_⟩:=x;exact fj e
 |set S n=>let⟨o,_,_,_,e,_⟩:=x;exact fj e
 |ins C dx fs=>let⟨_,_,_,e,_⟩:=x;exact fj e
 |own y=>let⟨_,e⟩:=x;exact fj e
 |xd fs=>let⟨_,⟨_,_,_,e,_⟩,_⟩:=x;exact fj e
 |F3 lo hi=>let⟨_,_,_,e⟩:=x;exact fj e
 |jJ ob u=>let⟨e,_⟩:=x;exact fj e
 |i9 ps=>exact fj (show h.get? a=aj _ from x)
 |met f y=>exact fj (show h.get? a=aj _ from x)
 |ext φ=>let⟨_,⟨_,e⟩,_⟩:=x;exact fj e
def Paired.nv{α β:Type}{F G:α->β->Prop}:∀{Fu:List α}{Ft:List β},Paired F Fu Ft->(∀a b,F a b->G a b)->Paired G Fu Ft
 |_,_,.nil,_=>.nil
 |_,_,.cons r t,f=>.cons (f _ _ r) (Paired.nv t f)
def iT.cf(x:iT P w H h a o)(k:∀b u,(b=a∨H b=aj (.own a))->h.get? b=aj u->h'.get? b=aj u)
  (ho:∀b,H b=aj (.own a)->H' b=aj (.own a))(ht:∀b xs,H b=aj (.tup xs)->H' b=aj (.tup xs)):iT P w H' h' a o:=by
 induction o with
 |lst xs=>let⟨z,its,n,r,e⟩:=x;exact⟨z,its,n,r,k _ _ (.inl rfl) e⟩
 |tup xs=>let⟨z,its,r,ob,e,c⟩:=x;exact⟨z,its,r,ob,k _ _ (.inl rfl) e,c⟩
 |dK kvs=>let⟨z,y,vs,r,ob,es,ep,e,c⟩:=x;exact⟨z,y,vs,r,ob,es,ep,k _ _ (.inl rfl) e,c⟩
 |dT kvs =>
  let⟨z,y,xs,r,ob,es,ep,e,c⟩:=x;exact⟨z,y,xs,Paired.nv r λp q z=>⟨z.1,ht _ _ z.2.1,z.2.2⟩,ob,es,ep,k _ _ (.inl rfl) e,c⟩
 |set S n=>let⟨ob,es,ep,t,e,c⟩:=x;exact⟨ob,es,ep,t,k _ _ (.inl rfl) e,c⟩
 |ins C dx fs =>
  let⟨d,z,ne,e,mA,⟨od,es,ep,e2,c⟩,r⟩:=x;exact⟨ho _ d,z,ne,k _ _ (.inl rfl) e,mA,⟨od,es,ep,k _ _ (.inr d) e2,c⟩,r⟩
 |own y=>let⟨ob,e⟩:=x;exact⟨ob,k _ _ (.inl rfl) e⟩
 |xd fs=>let⟨mA,⟨od,es,ep,e,c⟩,r⟩:=x;exact⟨mA,⟨od,es,ep,k _ _ (.inl rfl) e,c⟩,r⟩
 |F3 lo hi=>let⟨t,u,v,e⟩:=x;exact⟨t,u,v,k _ _ (.inl rfl) e⟩
 |jJ ob u ih=>let⟨e,q⟩:=x;exact⟨k _ _ (.inl rfl) e,ih q⟩
 |i9 ps =>
  have e:h.get? a=aj {cls:=.none,data:=.fields ps}:=x;show h'.get? a=aj {cls:=.none,data:=.fields ps};exact k a _ (.inl rfl) e
 |met f y =>
  have e:h.get? a=aj (PySem.W.methodObj (.ref f) (.ref y)):=x;show h'.get? a=aj (PySem.W.methodObj (.ref f) (.ref y));exact k a _ (.inl rfl) e
 |ext φ=>let⟨p,⟨o,e⟩,st⟩:=x;exact⟨st _ _ p λo q=>k _ _ (.inl rfl) q,⟨o,k _ _ (.inl rfl) e⟩,st⟩
def bP.lt(x:bP P w H h)(e:H a=aj o):a<h.objs.size:=(x a o e).lt
def bP.fresh(x:bP P w H h)(e:h.objs.size<=a):H a=bh:=by
 cases q:H a with
 |none=>rfl
 |some u=>exact absurd (je (x.lt q) e) (vo _)
def bP.kept(x:bP P w H h)(k:∀b u,h.get? b=aj u->h'.get? b=aj u):bP P w H h':=λa o e =>
 (x a o e).cf (λb u _ q=>k b u q) (λ_ q=>q) λ_ _ q=>q
def bP.laid(x:bP P w H h)(k:∀b u,h.get? b=aj u->h'.get? b=aj u)(hp:h.objs.size<=a)(new:iT P w (upd H a o) h' a o):bP P w (upd H a o) h':=λb u e=>by
 have hn:=x.fresh hp;by_cases hb:b=a
 .subst hb;rw[aK]at e;cases e;exact new
 .rw[aP hb]at e;exact(x b u e).cf (λc v _ q=>k c v q) (λc q=>by rw[aP (n8 q hn)];exact q) λc xs q=>by rw[aP (n8 q hn)];exact q
end
abbrev Rd(H:Hp)(a:bw)(u:HO):Prop:=H a=aj u∨∃o,H a=aj (.jJ o u)
def Rd.of{a:bw}(h:H a=aj u):Rd H a u:=.inl h
def Rd.ok{w:jr}{a:bw}(r:Rd H a u)(x:bP P w H h):iT P w H h a u:=by
 rcases r with r|⟨o,r⟩
 .exact x a u r
 .obtain⟨_,q⟩:=x a _ r;exact q
abbrev CQ:Option HO->Prop
 |some (.lst _)=>True
 |some (.dK _)=>True
 |some (.dT _)=>True
 |some (.set _ _)=>True
 |some (.ins _ _ _)=>True
 |some (.ext _)=>True
 |_=>False
section
variable{w:jr}{h h':lg}{x:bw}
def bP.write(ok:bP P w H h)(mu:CQ (H x))(he:e=x∨H e=aj (.own x))(k:∀b u,b≠e->h.get? b=aj u->h'.get? b=aj u)(Bk:∃u,h'.get? e=aj u)
  (new:iT P w (upd H x o') h' x o'):bP P w (upd H x o') h':=λb u q=>by
 have Vi:∀c y,H c=aj (.own y)->c≠x:=λc y r z=>by subst z;rw[r]at mu;exact mu
 have aPG:∀c xs,H c=aj (.tup xs)->c≠x:=λc xs r z=>by subst z;rw[r]at mu;exact mu
 by_cases hb:b=x
 .subst hb;rw[aK]at q;cases q;exact new
 .rw[aP hb]at q;by_cases y7:b=e
  .have q':H b=aj (.own x):=by
    rcases he with z|z
    .exact absurd (y7.trans z) hb
    .rw[y7];exact z
   rw[q]at q';cases q';let⟨v,hv⟩:=Bk;exact⟨v,by rw[y7];exact hv⟩
  .refine(ok b u q).cf (λc v hc r=>k c v ?_ r) (λc r=>by rw[aP (Vi c b r)];exact r) λc xs r=>by rw[aP (aPG c xs r)];exact r
   rcases hc with rfl|hc
   .exact y7
   .rintro rfl;rcases he with z|z
    .exact Vi c b hc z
    .rw[hc]at z;cases z;exact hb rfl
end
structure Un(fs ex:List bw)(H H':Hp)(h h':lg):Prop where
 keep:∀b o,h.get? b=aj o->H b=bh->b∉fs->b∉ex->h'.get? b=aj o
 slot:∀b o,h.get? b=aj o->H b=bh->b∈fs->b∉ex->∃sl,h'.get? b=aj {o with slots:=sl}
 free:∀b o,h.get? b=aj o->H b=bh->b∉ex->H' b=bh
 there:∀b o,h.get? b=aj o->b∉ex->∃o',h'.get? b=aj o'
 az:∀b xs,H b=aj (.tup xs)->H' b=aj (.tup xs)
 m7:∀b o u,H b=aj (.jJ o u)->H' b=aj (.jJ o u)
 xV:∀b ps,H b=aj (.i9 ps)->∃more,H' b=aj (.i9 (ps++more))
section
variable{fs ex:List bw}{h h1 h':lg}{a x:bw}{o:HO}
def Un.any(u:Un fs ex H H1 h h1){b:bw}{ob:Obj}(q:h.get? b=aj ob)(n:H b=bh)(hx:b∉ex):∃sl,h1.get? b=aj {ob with slots:=sl}:=by
 by_cases hb:b∈fs
 .exact u.slot b ob q n hb hx
 .exact⟨ob.slots,u.keep b ob q n hb hx⟩
def Un.kept(k:∀b u,h.get? b=aj u->h'.get? b=aj u):Un fs ex H H h h' :=
 ⟨λb ob q _ _ _=>k b ob q,λb ob q _ _ _=>⟨ob.slots,k b ob q⟩,λ_ _ _ n _=>n,λb ob q _=>⟨ob,k b ob q⟩,λ_ _ q=>q,λ_ _ _ q=>q,λ_ ps q=>⟨#[],by rw[q];simp⟩⟩
def Un.refl:Un fs ex H H h h:=Un.kept λ_ _ q=>q
def Un.laid(k:∀b u,h.get? b=aj u->h'.get? b=aj u)(hp:h.objs.size<=a)(hn:H a=bh):Un fs ex H (upd H a o) h h' where
 keep:=λb u q _ _ _=>k b u q
 slot:=λb u q _ _ _=>⟨u.slots,k b u q⟩
 free:=λb u q n _=>by rw[aP (jo (je (fj q) hp))];exact n
 there:=λb u q _=>⟨u,k b u q⟩
 az:=λb xs q=>by rw[aP (n8 q hn)];exact q
 m7:=λb u xs q=>by rw[aP (n8 q hn)];exact q
 xV:=λb ps q=>⟨#[],by rw[aP (n8 q hn),q];simp⟩
def Un.write(mu:CQ (H x))(he:e=x∨H e=aj (.own x))(k:∀b u,b≠e->h.get? b=aj u->h'.get? b=aj u)(Bk:∃u,h'.get? e=aj u):Un fs ex H (upd H x o) h h':=by
 have hx:∀b,H b=bh->b≠x:=λb n z=>by subst z;rw[n]at mu;exact mu
 have hb:∀b,H b=bh->b≠e:=λb n z=>by
  subst z;rcases he with r|r
  .exact hx b n r
  .rw[n]at r;cases r
 have hm:∀b u,H b=aj u->¬ CQ (aj u)->b≠x:=λb u q nm z=>by subst z;rw[q]at mu;exact nm mu
 refine⟨λb u q n _ _=>k b u (hb b n) q,λb u q n _ _=>⟨u.slots,k b u (hb b n) q⟩,λb u q n _=>by rw[aP (hx b n)];exact n,λb u q _=>?_,
  λb xs q=>by rw[aP (hm b _ q λz=>z)];exact q,λb u xs q=>by rw[aP (hm b _ q λz=>z)];exact q,λb ps q=>⟨#[],by rw[aP (hm b _ q λz=>z),q];simp⟩⟩
 by_cases y7:b=e
 .subst y7;exact Bk
 .exact⟨u,k b u y7 q⟩
end
abbrev FW(h:lg)(H:Hp):List bw:=(qd h.objs.size).filter λa=>(H a).isSome
abbrev sD(h:lg)(H:Hp):lg:=Iu h (FW h H)
def ap9(h:lg)(H:Hp):(sD h H).objs.size=h.objs.size:=PySem.W.hideAll_size _ _
def arS{b:bw}{o:Obj}(e:h.get? b=aj o)(n:H b=bh):(sD h H).get? b=aj o :=
 PySem.W.hideAll_get _ e λhm=>by
  have q:(H b).isSome=ak:=(kj.mp hm).2;rw[n]at q;simp at q
def ZI{b:bw}{o:Obj}(e:(sD h H).get? b=aj o):h.get? b=aj o/\H b=bh:=by
 have e':h.get? b=aj o:=PySem.W.of_hideAll (FW h H) e;refine⟨e',?_⟩;cases q:H b with
 |none=>rfl
 |some x =>
  have hm:b∈FW h H:=kj.mpr ⟨zq.mpr (fj e'),by simp[q]⟩;have z:(sD h H).get? b=bh:=PySem.W.hideAll_none (FW h H) hm;rw[z]at e;cases e
abbrev ZH(g h:lg)(L:bw):List (bw×Obj):=(qd h.objs.size).filterMap λa=>if a=L∨(g.get? a).isSome=ak then bh else(h.get? a).map λo=>(a,o)
abbrev rest(g h:lg)(L d:bw):List (bw×Obj):=(ZH g h L).filter λp=>decide (p.1≠d)
end
variable{v:V}{t':Nat}
section
structure Mod(K:jq)(mg:Str->Option au)(base:lg):Prop where
 oC:K.In base
 glob:base.Ns nj mg
 blt:∃mb,base.Ns builtinsNs mb/\∀x:Str,x≠"__name__"->mb x=qe x
 nolimit:base.NoLimit
structure Cx where
 prog:mz
 w:jr
 K:jq
 mg:Str->Option au
 base:lg
 A:jf
 N:List Str
 av:cg
 aw:Hp
 env:Env
 outer:List Env
 stack:List Env
 ex:List bw
 fn:Str->Bool
 calm:Bool
 pn:List (bw×Obj)
 tp:List (bw×List V)
 xe:au->cg->Prop
abbrev frs(l:List Env):List bw:=l.filterMap (·.frame)
@[simp]def Cx.fs(X:Cx):List bw:=frs X.outer
abbrev CN(sc:dE)(x:Str):Prop:=sc.names.lookup x=aj .local∨sc.names.lookup x=aj .cell∨sc.names.lookup x=aj .free
abbrev Loc(sc:dE)(x:Str):Prop:=sc.names.lookup x=aj .local∨sc.names.lookup x=aj .cell
abbrev Look(env:Env)(h:lg)(m:Str->Option au)(x:Str)(u:au):Prop :=
 (env.kindOf x=aj .local/\m x=aj u)∨((env.kindOf x=aj .cell∨env.kindOf x=aj .free)/\∃c,env.cells.lookup x=aj c/\h.IsCell c (aj u))
structure Cx.Ok(X:Cx):Prop where
 mod:Mod X.K X.mg X.base
 kind:X.env.scope.kind=.function
 glob:X.env.globals=nj
 blt:X.env.builtins=builtinsNs
 above:X.av.heap.objs.size<=X.env.locals
 inj:∀x y c,X.env.cells.lookup x=aj c->X.env.cells.lookup y=aj c->x=y
 has:∀x,(X.env.kindOf x=aj .cell∨X.env.kindOf x=aj .free)->∃c,X.env.cells.lookup x=aj c
 v5:∀x c,X.fn x=ak->X.env.cells.lookup x=aj c->X.av.heap.objs.size<=c
 hd:X.calm=ak->X.A.handled=bh
 frames:X.A.frames=aj X.stack
 kF:X.stack=X.outer∨(X.stack=X.env::X.outer/\X.env.frame=aj X.env.locals)
 DI:∀b∈X.ex,b≠X.env.locals/\∀x c,X.env.cells.lookup x=aj c->c≠b
 bs:∀b o,X.base.get? b=aj o->X.av.heap.get? b=aj o/\X.aw b=bh
 lP:X.base.objs.size<=X.av.heap.objs.size
 wx:∀b o,X.base.get? b=aj o->b∉X.ex
 zI:∀b∈X.ex,b∉X.fs
 iA:X.av.heap.FunFrames X.base X.outer
 ph:∀b∈X.fs,X.aw b=bh
abbrev x6(A:jf)(H:Hp):Prop:=A.handled=bh∨∃x o u vs,A.handled=aj (.ref x)/\H x=aj (.jJ o u)/\o.data=.fields vs/\vs[2]?=aj .none
def x6.mono{A:jf}(h:x6 A H)(f:∀b o u,H b=aj (.jJ o u)->H' b=aj (.jJ o u)):x6 A H':=by
 rcases h with z|⟨x,o,u,vs,a,b,c⟩
 .exact .inl z
 .exact .inr ⟨x,o,u,vs,a,f _ _ _ b,c⟩
def x6.heap{w:jr}{A:jf}(q:x6 A H)(af:bP P w H h):zS A h:=by
 rcases q with z|⟨x,o,u,vs,a,b,c⟩
 .exact .inl z
 .exact .inr ⟨x,o,vs,a,(af x _ b).1,c⟩
structure Inv(X:Cx)(ψ:List (bw×Obj))(σ:List (Option V))(H:Hp)(s:cg):Prop where
 ok:X.Ok
 os:s.os=X.av.os
 bare:AllBare s.gens
 base:Un X.fs X.ex X.aw H X.av.heap s.heap
 loc:∃m,s.heap.Ns X.env.locals m/\∀(i:Nat)(x:Str)(v:V),X.N[i]?=aj x->σ[i]?=aj (aj v)->CN X.env.scope x->∃u,RelV v u/\Look X.env s.heap m x u
 cell:∀x c,X.env.cells.lookup x=aj c->∃v,s.heap.IsCell c v
 free:H X.env.locals=bh
 oN:∀x c,X.env.cells.lookup x=aj c->H c=bh
 pin:∀p∈X.pn++ψ,s.heap.get? p.1=aj p.2/\H p.1=bh/\p.1≠X.env.locals/\p.1∉X.fs/\∀v,p.2.data≠.cell v
 af:bP X.prog X.w H s.heap
 len:σ.length=X.N.length
 dS:x6 X.A H
 tup:∀p∈X.tp,H p.1=aj (.tup p.2)
section
variable{X:Cx}{ψ:List (bw×Obj)}{σ:List (Option V)}{H H':Hp}{s:cg}{h':lg}
def Cx.Ok.aPH(ok:X.Ok){b:bw}{o:Obj}(e:X.base.get? b=aj o):b∉X.fs:=λhb=>by
 have:=(ok.iA.mem hb).1;rw[e]at this;cases this
def Inv.bs(I:Inv X ψ σ H s):∀b o,X.base.get? b=aj o->s.heap.get? b=aj o/\H b=bh:=λb o e =>
 ⟨I.base.keep b o (I.ok.bs b o e).1 (I.ok.bs b o e).2 (I.ok.aPH e) (I.ok.wx b o e),I.base.free b o (I.ok.bs b o e).1 (I.ok.bs b o e).2 (I.ok.wx b o e)⟩
def Inv.bk(I:Inv X ψ σ H s):∀b o,X.base.get? b=aj o->s.heap.get? b=aj o:=λb o e=>(I.bs b o e).1
def Inv.mod(I:Inv X ψ σ H s):Mod X.K X.mg X.base:=I.ok.mod
def Inv.de(I:Inv X ψ σ H s):X.K.In s.heap:=I.ok.mod.oC.keeps I.bk
def Inv.lt(I:Inv X ψ σ H s):X.env.locals<s.heap.objs.size:=let⟨_,hn,_⟩:=I.loc;hn.lt
def Inv.sz(I:Inv X ψ σ H s):X.av.heap.objs.size<=s.heap.objs.size:=qw I.ok.above (wj I.lt)
def Inv.aPI(I:Inv X ψ σ H s){a:bw}(h:s.heap.objs.size<=a):a∉X.fs:=λhb=>by
 let⟨_,o,ho,_⟩:=I.ok.iA.mem hb;exact absurd (je (fj ho) (qw I.sz h)) (vo _)
def Inv.mw(I:Inv X ψ σ H s):∀x c,X.env.cells.lookup x=aj c->c≠X.env.locals:=λx c e z=>by
 let⟨v,o,ho,hd⟩:=I.cell x c e;let⟨m,⟨o',es,ep,cS,jv,_⟩,_⟩:=I.loc;rw[z,cS]at ho;cases ho;rw[jv]at hd;cases hd
def Inv.iA(I:Inv X ψ σ H s):s.heap.FunFrames X.base X.outer:=by
 have all:∀(l:List Env),(∀b∈frs l,b∈X.fs)->X.av.heap.FunFrames X.base l->s.heap.FunFrames X.base l:=by
  intro l
  induction l with
  |nil=>intro _ _;trivial
  |cons env r ih =>
   intro hs hl;let⟨hk,⟨L,o,hf,hn,ho,hd⟩,hr⟩:=hl;have hL:L∈X.fs:=hs L (by unfold frs;rw[NX,hf];exact xy);let⟨sl,e⟩:=I.base.slot L o ho (I.ok.ph L hL) hL λz=>I.ok.zI L z hL;exact⟨hk,⟨L,_,hf,hn,e,hd⟩,ih (λb hb=>hs b (by unfold frs;rw[NX,hf];exact qp _ hb)) hr⟩
 exact all X.outer (λ_ hb=>hb) I.ok.iA
def Inv.stack(I:Inv X ψ σ H s):s.heap.FunFrames X.base X.stack:=by
 rcases I.ok.kF with e|⟨e,hf⟩
 .rw[e];exact I.iA
 .rw[e];let⟨m,hn,_⟩:=I.loc;refine .cons (by rw[I.ok.kind];decide) hf hn ?_ I.iA;exact Heap.get?_none_of_le (qw I.ok.lP I.ok.above)
def Inv.LY(I:Inv X ψ σ H s):∀b∈frs X.stack,b∈X.env.locals::X.fs:=λb hb=>by
 rcases I.ok.kF with e|⟨e,hf⟩
 .rw[e]at hb;exact qp _ hb
 .rw[e]at hb;unfold frs at hb;rw[NX,hf]at hb;exact hb
def Inv.MA(I:Inv X ψ σ H s):∀b∈frs X.stack,H b=bh:=λb hb=>by
 rcases ju.mp (I.LY b hb)with e|hb
 .rw[e];exact I.free
 .obtain⟨_,o,ho,_⟩:=I.ok.iA.mem hb;exact I.base.free b o ho (I.ok.ph b hb) λz=>I.ok.zI b z hb
def Inv.step{g':Array GenState}{d':Drawn}{ch:List bw}(I:Inv X ψ σ H s)
  (pf:∀b∈ch,(b∈X.ex∨X.av.heap.objs.size<=b)/\b≠X.env.locals/\(∀x c,X.env.cells.lookup x=aj c->c≠b)/\∀p∈X.pn++ψ,p.1≠b)
  (keep:∀b o,b≠X.env.locals->b∉X.fs->b∉ch->s.heap.get? b=aj o->H b=bh->h'.get? b=aj o)
  (slot:∀b o,b≠X.env.locals->b∈X.fs->b∉ch->s.heap.get? b=aj o->H b=bh->∃sl,h'.get? b=aj {o with slots:=sl})(free:∀b o,b∉ch->s.heap.get? b=aj o->H b=bh->H' b=bh)
  (there:∀b o,b∉ch->s.heap.get? b=aj o->∃o',h'.get? b=aj o')
  (az:∀b xs,H b=aj (.tup xs)->H' b=aj (.tup xs))(m7:∀b o u,H b=aj (.jJ o u)->H' b=aj (.jJ o u))(xV:∀b ps,H b=aj (.i9 ps)->∃more,H' b=aj (.i9 (ps++more)))
  (ns:∀m,s.heap.Ns X.env.locals m->h'.Ns X.env.locals m)(af:bP X.prog X.w H' h')(hg:AllBare g') :
  Inv X ψ σ H' {s with heap:=h',gens:=g',drawn:=d',toks:=t' }:=by
 have Pb:∀b o,X.av.heap.get? b=aj o->b≠X.env.locals:=λb o e=>jo (je (fj e) I.ok.above)
 have F7:∀b o,X.av.heap.get? b=aj o->b∉X.ex->b∉ch:=λb o e hx hb=>by
  rcases(pf b hb).1 with z|z
  .exact hx z
  .exact absurd (je (fj e) z) (vo _)
 have cellK:∀x c,X.env.cells.lookup x=aj c->∀v,s.heap.IsCell c v->h'.IsCell c v:=λx c e v ⟨o,ho,hd⟩=>by
  have Dj:c∉ch:=λz=>(pf c z).2.2.1 x c e rfl;by_cases hc:c∈X.fs
  .obtain⟨sl,q⟩:=slot c o (I.mw x c e) hc Dj ho (I.oN x c e);exact⟨_,q,hd⟩
  .exact⟨o,keep c o (I.mw x c e) hc Dj ho (I.oN x c e),hd⟩
 refine⟨I.ok,I.os,hg,⟨λb o e n hb hx=>?_,λb o e n hb hx=>?_,λb o e n hx=>?_,λb o e hx=>?_,λb xs e=>az b xs (I.base.az b xs e),λb o xs e=>m7 b o xs (I.base.m7 b o xs e),λb ps e=>?_⟩,?_,λx c e=>?_,?_,λx c e=>?_,λp hp=>?_,af,I.len,I.dS.mono m7,λp hp=>az _ _ (I.tup p hp)⟩
 .exact keep b o (Pb b o e) hb (F7 b o e hx) (I.base.keep b o e n hb hx) (I.base.free b o e n hx)
 .obtain⟨sl,e1⟩:=I.base.slot b o e n hb hx;let⟨Xj,e2⟩:=slot b _ (Pb b o e) hb (F7 b o e hx) e1 (I.base.free b o e n hx);exact⟨Xj,e2⟩
 .obtain⟨o',e1⟩:=I.base.there b o e hx;exact free b o' (F7 b o e hx) e1 (I.base.free b o e n hx)
 .obtain⟨o',e1⟩:=I.base.there b o e hx;exact there b o' (F7 b o e hx) e1
 .obtain⟨m1,e1⟩:=I.base.xV b ps e;let⟨m2,e2⟩:=xV b _ e1;exact⟨m1++m2,by rw[e2,Array.append_assoc]⟩
 .obtain⟨m,hn,hl⟩:=I.loc;refine⟨m,ns m hn,λi x v e1 e2 e3=>?_⟩;let⟨u,r,l⟩:=hl i x v e1 e2 e3;refine⟨u,r,?_⟩;rcases l with l|⟨k,c,e,z⟩
  .exact .inl l
  .exact .inr ⟨k,c,e,cellK x c e _ z⟩
 .obtain⟨v,z⟩:=I.cell x c e;exact⟨v,cellK x c e v z⟩
 .obtain⟨m,⟨o,_,_,ho,_⟩,_⟩:=I.loc;exact free _ o (λz=>(pf _ z).2.1 rfl) ho I.free
 .obtain⟨v,o,ho,hd⟩:=I.cell x c e;exact free c o (λz=>(pf c z).2.2.1 x c e rfl) ho (I.oN x c e)
 .obtain⟨e,n,ne,nf,d⟩:=I.pin p hp;have Dj:p.1∉ch:=λz=>(pf p.1 z).2.2.2 p hp rfl;exact⟨keep p.1 p.2 ne nf Dj e n,free p.1 p.2 Dj e n,ne,nf,d⟩
def Inv.un(I:Inv X ψ σ H s)(u:Un X.fs [] H H' s.heap h')(af:bP X.prog X.w H' h'):Inv X ψ σ H' {s with heap:=h',toks:=t' }:=by
 let⟨m,⟨o,es,ep,ho,r⟩,_⟩:=id I.loc;let⟨sl,hL⟩:=u.any ho I.free (by simp)
 exact I.step (g':=s.gens) (d':=s.drawn) (ch:=[]) (λ_ z=>nomatch z) (λb o _ hb _ e n=>u.keep b o e n hb (by simp)) (λb o _ hb _ e n=>u.slot b o e n hb (by simp)) (λb o _ e n=>u.free b o e n (by simp)) (λb o _ e=>u.there b o e (by simp)) u.az u.m7 u.xV (λm' hm=>by
  let⟨o',GC,KH,cS,r'⟩:=hm;rw[ho]at cS;cases cS;exact⟨_,GC,KH,hL,r'⟩) af I.bare
def Inv.call(I:Inv X ψ σ H s)(u:Un (frs X.stack) ch H H' s.heap h')(af:bP X.prog X.w H' h')(hg:AllBare g')
  (pf:∀b∈ch,(b∈X.ex∨X.av.heap.objs.size<=b)/\b≠X.env.locals/\(∀x c,X.env.cells.lookup x=aj c->c≠b)/\∀p∈X.pn++ψ,p.1≠b) :
  Inv X ψ σ H' {s with heap:=h',gens:=g',drawn:=d',toks:=t' }:=by
 let⟨m,⟨o,es,ep,ho,r⟩,_⟩:=id I.loc;let⟨sl,hL⟩:=u.any ho I.free λz=>(pf _ z).2.1 rfl
 exact I.step (ch:=ch) pf (λb o hL hb hc e n=>u.keep b o e n (λz=>(ju.mp (I.LY b z)).elim hL hb) hc) (λb o _ _ hc e n=>u.any e n hc) (λb o hc e n=>u.free b o e n hc) (λb o hc e=>u.there b o e hc) u.az u.m7 u.xV (λm' hm=>by
  let⟨o',GC,KH,cS,r'⟩:=hm;rw[ho]at cS;cases cS;exact⟨_,GC,KH,hL,r'⟩) af hg
def Inv.turned(I:Inv X ψ σ H s)(k:∀b o,b≠it->s.heap.get? b=aj o->h'.get? b=aj o)(hn:H it=bh)(hL:it≠X.env.locals)
  (h1:it∈X.ex∨X.av.heap.objs.size<=it)(h2:∀x c,X.env.cells.lookup x=aj c->c≠it)(h3:∀p∈X.pn++ψ,p.1≠it):Inv X ψ σ H {s with heap:=h',toks:=t' }:=by
 have Pa:∀b u,H b=aj u->b≠it:=λb u e z=>by rw[z,hn]at e;cases e
 refine I.step (g':=s.gens) (d':=s.drawn) (ch:=[it]) (λb hb=>?_) (λb o _ _ hc e _=>k b o (λz=>hc (by simp[z])) e) (λb o _ _ hc e _=>⟨o.slots,k b o (λz=>hc (by simp[z])) e⟩) (λ_ _ _ _ n=>n)
  (λb o hc e=>⟨o,k b o (λz=>hc (by simp[z])) e⟩) (λ_ _ e=>e) (λ_ _ _ e=>e) (λb ps e=>⟨#[],by rw[e];simp⟩) (λm hm=>?_) (λb u e=>?_) I.bare
 .have e:b=it:=by simpa using hb
  subst e;exact⟨h1,hL,h2,h3⟩
 .obtain⟨o,es,ep,ho,r⟩:=hm;exact⟨o,es,ep,k _ o (Ne.symm hL) ho,r⟩
 .refine(I.af b u e).cf (λc v hc q=>k c v ?_ q) (λ_ q=>q) λ_ _ q=>q;rcases hc with z|z
  .rw[z];exact Pa b u e
  .exact Pa c _ z
def Inv.tok(I:Inv X ψ σ H s)(t:Nat):Inv X ψ σ H {s with toks:=t}:=I.un (h':=s.heap) (t':=t) Un.refl I.af
def Inv.kept{t':Nat}(I:Inv X ψ σ H s)(k:∀b u,s.heap.get? b=aj u->h'.get? b=aj u):Inv X ψ σ H {s with heap:=h',toks:=t' }:=I.un (Un.kept k) (I.af.kept k)
def Inv.laid{a:bw}{o:HO}{t':Nat}(I:Inv X ψ σ H s)(k:∀b u,s.heap.get? b=aj u->h'.get? b=aj u)(hp:s.heap.objs.size<=a)(new:iT X.prog X.w (upd H a o) h' a o) :
  Inv X ψ σ (upd H a o) {s with heap:=h',toks:=t' }:=I.un (Un.laid k hp (I.af.fresh hp)) (I.af.laid k hp new)
def Inv.write{x:bw}{o:HO}{t':Nat}(I:Inv X ψ σ H s)(mu:CQ (H x))(he:e=x∨H e=aj (.own x))(k:∀b u,b≠e->s.heap.get? b=aj u->h'.get? b=aj u)(Bk:∃u,h'.get? e=aj u)
  (new:iT X.prog X.w (upd H x o) h' x o):Inv X ψ σ (upd H x o) {s with heap:=h',toks:=t' }:=I.un (Un.write mu he k Bk) (I.af.write mu he k Bk new)
def Inv.weak{aI:List (Option V)}(I:Inv X ψ σ H s)(hl:aI.length=σ.length)(w:∀(i:Nat) v,aI[i]?=aj (aj v)->σ[i]?=aj (aj v)):Inv X ψ aI H s :=
 ⟨I.ok,I.os,I.bare,I.base,let⟨m,hn,X3⟩:=I.loc;⟨m,hn,λi x v e1 e2 e3=>X3 i x v e1 (w i v e2) e3⟩,I.cell,I.free,I.oN,I.pin,I.af,hl.trans I.len,I.dS,I.tup⟩
def Inv.SD(I:Inv X ψ σ H s)(h:∀p∈Cs,s.heap.get? p.1=aj p.2/\H p.1=bh/\p.1≠X.env.locals/\p.1∉X.fs/\∀v,p.2.data≠.cell v):Inv X Cs σ H s :=
 ⟨I.ok,I.os,I.bare,I.base,I.loc,I.cell,I.free,I.oN,λp hp=>(qj.mp hp).elim (λz=>I.pin p (IT _ z)) (h p),I.af,I.len,I.dS,I.tup⟩
def NI{N:List Str}(hN:N.Nodup){i j:Nat}{x:Str}(a:N[i]?=aj x)(b:N[j]?=aj x):i=j:=by
 let⟨h1,e1⟩:=iz.mp a;let⟨h2,e2⟩:=iz.mp b;exact(List.getElem_inj hN).mp (e1.trans e2.symm)
def UG{M:Model}{A:jf}{i:Nat}{x:Str}(I:Inv X ψ σ H s)(hN:X.N.Nodup)(hi:X.N[i]?=aj x)(hx:Loc X.env.scope x)(r:RelV v u)
  (h:∀s',Inv X ψ (σ.set i (aj v)) H s'->(∃a,kh a s.heap s'.heap/\(a=X.env.locals∨X.env.cells.lookup x=aj a))->Q () s')(hf:X.fn x=ak∨X.env.scope.names.lookup x=aj .local:=by first|exact .inl rfl|exact .inr rfl|assumption):dj M A (storeName X.env x u) Q E s:=by
 let⟨m,hn,hl⟩:=id I.loc;have AQ:(X.env.scope.kind==.class||(X.env.scope.kind==.module&&X.env.locals !=X.env.globals))=ao:=by rw[I.ok.kind];rfl
 have FA:i<σ.length:=by rw[I.len];exact(iz.mp hi).1
 have mw:=I.mw
 have tracked:∀{a:bw}{h':lg},(∃o,s.heap.get? a=aj o/\H a=bh)->kh a s.heap h'->bP X.prog X.w H h':=λ{a h'} ha hs b ob e=>by
  let⟨_,_,bq⟩:=ha;refine(I.af b ob e).cf (λc w' hc q=>(hs.2 c ?_).trans q) (λ_ q=>q) λ_ _ q=>q;rintro rfl;rcases hc with rfl|hc
  .rw[bq]at e;cases e
  .rw[bq]at hc;cases hc
 rcases hx with hk|hk
 .refine wpAny_storeName_local hk hn (λh' Gq hs=>?_) AQ;let⟨oL,_,_,PC,_⟩:=id hn;refine h _ ⟨I.ok,I.os,I.bare,⟨λb o e n hb hx=>?_,λb o e n hb hx=>?_,I.base.free,λb o e hx=>?_,I.base.az,I.base.m7,I.base.xV⟩,⟨_,Gq,λj y v' e1 e2 e3=>?_⟩,λy c e=>?_,I.free,I.oN,λp hp=>?_,tracked ⟨oL,PC,I.free⟩ hs,by simpa using I.len,I.dS,I.tup⟩ ⟨_,hs,.inl rfl⟩
  .exact(hs.2 b (jo (je (fj e) I.ok.above))).trans (I.base.keep b o e n hb hx)
  .obtain⟨sl,e1⟩:=I.base.slot b o e n hb hx;exact⟨sl,(hs.2 b (jo (je (fj e) I.ok.above))).trans e1⟩
  .obtain⟨o',e1⟩:=I.base.there b o e hx;exact⟨o',(hs.2 b (jo (je (fj e) I.ok.above))).trans e1⟩
  .by_cases hj:j=i
   .subst hj;rw[hi]at e1;cases e1;rw[List.getElem?_set_self FA]at e2;cases e2;exact⟨u,r,.inl ⟨hk,by simp⟩⟩
   .rw[List.getElem?_set_ne (Ne.symm hj)]at e2;let⟨u',r',q⟩:=hl j y v' e1 e2 e3;refine⟨u',r',?_⟩;rcases q with⟨k,e⟩|⟨k,c,e,z⟩
    .refine .inl ⟨k,?_⟩;have:y≠x:=λe=>hj (NI hN e1 (e ▸ hi));simp[this,e]
    .exact .inr ⟨k,c,e,z.sameBut hs (mw y c e)⟩
  .obtain⟨w',z⟩:=I.cell y c e;exact⟨w',z.sameBut hs (mw y c e)⟩
  .obtain⟨e,n,ne,nf,d⟩:=I.pin p hp;exact⟨(hs.2 p.1 ne).trans e,n,ne,nf,d⟩
 .have DA:X.fn x=ak:=by
   rcases hf with z|z
   .exact z
   .rw[z]at hk;cases hk
  let⟨c,hc⟩:=I.ok.has x (.inl hk);let⟨w',z⟩:=I.cell x c hc;refine wpAny_storeName_cell I.ok.kind hk hc z (λh' PV hs=>?_);let⟨oc,Pz,aPJ⟩:=id z;refine h {s with heap:=h' } ⟨I.ok,I.os,I.bare,⟨λb o e n hb hx=>?_,λb o e n hb hx=>?_,I.base.free,λb o e hx=>?_,I.base.az,I.base.m7,I.base.xV⟩,⟨m,hn.sameBut hs (Ne.symm (mw x c hc)),λj y v' e1 e2 e3=>?_⟩,λy c' e=>?_,I.free,I.oN,λp hp=>?_,tracked ⟨oc,Pz,I.oN x c hc⟩ hs,by simpa using I.len,I.dS,I.tup⟩ ⟨c,hs,.inr hc⟩
  .exact(hs.2 b (jo (je (fj e) (I.ok.v5 x c DA hc)))).trans (I.base.keep b o e n hb hx)
  .obtain⟨sl,e1⟩:=I.base.slot b o e n hb hx;exact⟨sl,(hs.2 b (jo (je (fj e) (I.ok.v5 x c DA hc)))).trans e1⟩
  .obtain⟨o',e1⟩:=I.base.there b o e hx;exact⟨o',(hs.2 b (jo (je (fj e) (I.ok.v5 x c DA hc)))).trans e1⟩
  .by_cases hj:j=i
   .subst hj;rw[hi]at e1;cases e1;rw[List.getElem?_set_self FA]at e2;cases e2;exact⟨u,r,.inr ⟨.inl hk,c,hc,PV⟩⟩
   .rw[List.getElem?_set_ne (Ne.symm hj)]at e2;let⟨u',r',q⟩:=hl j y v' e1 e2 e3;refine⟨u',r',?_⟩;rcases q with q|⟨k,c',e,z'⟩
    .exact .inl q
    .refine .inr ⟨k,c',e,z'.sameBut hs ?_⟩;rintro rfl;exact hj (NI hN e1 (I.ok.inj _ _ _ e hc ▸ hi))
  .by_cases PU:c'=c
   .subst PU;exact⟨_,PV⟩
   .obtain⟨w2,z2⟩:=I.cell y c' e;exact⟨w2,z2.sameBut hs PU⟩
  .obtain⟨e,n,ne,nf,d⟩:=I.pin p hp;refine⟨(hs.2 p.1 ?_).trans e,n,ne,nf,d⟩;intro q;rw[q,Pz]at e;have q':oc=p.2:=ji.inj e;exact d w' (by rw[←q'];exact aPJ)
def NH{M:Model}{A:jf}{i:Nat}{x:Str}(I:Inv X ψ σ H s)(hN:X.N.Nodup)(hi:X.N[i]?=aj x)(hx:Loc X.env.scope x)(r:RelV v u)
  (h:∀s',Inv X ψ (σ.set i (aj v)) H s'->Q () s')(hf:X.fn x=ak∨X.env.scope.names.lookup x=aj .local:=by first|exact .inl rfl|exact .inr rfl|assumption):dj M A (storeName X.env x u) Q E s :=
 UG I hN hi hx r (λs' I' _=>h s' I') hf
def Inv.fE{s':cg}(I:Inv X ψ σ H s)(ho:s'.os=s.os)(u:Un (frs X.stack) ch H H' s.heap s'.heap)(af:bP X.prog X.w H' s'.heap)(hg:AllBare s'.gens)
  (pf:∀b∈ch,(b∈X.ex∨X.av.heap.objs.size<=b)/\b≠X.env.locals/\(∀x c,X.env.cells.lookup x=aj c->c≠b)/\∀p∈X.pn++ψ,p.1≠b):Inv X ψ σ H' s':=by
 let⟨h',g',d',t',o'⟩:=s';have e:o'=s.os:=ho;subst e;exact I.call (g':=g') (t':=t') (d':=d') u af hg pf
end
@[simp]def XK:=Value->Option bw->Hp->Prop
@[simp]def St:=List (Option V)
@[simp]def VK:=V->Hp->Prop
@[simp]def TE:=St->Hp->VK->Prop
@[simp]def TT:=St->Hp->(Bool->Hp->Prop)->Prop
@[simp]def TA:=St->Hp->(List V->Hp->Prop)->Prop
structure Ends where
 nx:St->Hp->Prop
 rt:VK
 bk:St->Hp->Prop:=λ_ _=>False
 ct:St->Hp->Prop:=λ_ _=>False
@[simp]def TS:=Ends->St->Hp->Prop
abbrev EP(X:Cx)(ψ:List (bw×Obj))(σ:St)(Q:VK)(u:au)(s':cg):Prop:=∃v H',Inv X ψ σ H' s'/\RelV v u/\Q v H'
abbrev TP(X:Cx)(ψ:List (bw×Obj))(σ:St)(Q:Bool->Hp->Prop)(b:Bool)(s':cg):Prop:=∃H',Inv X ψ σ H' s'/\Q b H'
abbrev AP(X:Cx)(ψ:List (bw×Obj))(σ:St)(Q:List V->Hp->Prop)(us:List au)(s':cg):Prop:=∃vs H',Inv X ψ σ H' s'/\Vals vs us/\Q vs H'
set_option tactic.hygienic true in
abbrev SP(X:Cx)(ψ:List (bw×Obj))(D:Ends)(f:Flow)(s':cg):Prop :=
 match f with
 |.next=>∃aI H',Inv X ψ aI H' s'/\D.nx aI H'
 |.brk=>∃aI H',Inv X ψ aI H' s'/\D.bk aI H'
 |.cont=>∃aI H',Inv X ψ aI H' s'/\D.ct aI H'
 |.ret u=>∃v aI H',Inv X ψ aI H' s'/\RelV v u/\D.rt v H'
abbrev PE(X:Cx)(e:ig)(t:TE):Prop :=
 ∀(ψ:List (bw×Obj))(s:cg)(σ:St)(H:Hp)(Q:VK),Inv X ψ σ H s->t σ H Q->dj (dz X.prog X.w) X.A (eval e X.env) (EP X ψ σ Q) X.xe s
abbrev PT(X:Cx)(e:ig)(t:TT):Prop :=
 ∀(ψ:List (bw×Obj))(s:cg)(σ:St)(H:Hp)(Q:Bool->Hp->Prop),Inv X ψ σ H s->t σ H Q->dj (dz X.prog X.w) X.A (isTrue e X.env (eval e X.env)) (TP X ψ σ Q) X.xe s
abbrev PW(X:Cx)(e:ig)(t:TT):Prop :=
 ∀(whole:Sem au)(ψ:List (bw×Obj))(s:cg)(σ:St)(H:Hp)(Q:Bool->Hp->Prop),Inv X ψ σ H s->t σ H Q->dj (dz X.prog X.w) X.A (isTrue e X.env whole) (TP X ψ σ Q) X.xe s
def PW.pt{t:TT}(h:PW X e t):PT X e t:=h _
abbrev PA(X:Cx)(es:List ig)(t:TA):Prop :=
 ∀(pos:Pos)(ψ:List (bw×Obj))(s:cg)(σ:St)(H:Hp)(Q:List V->Hp->Prop),Inv X ψ σ H s->t σ H Q->dj (dz X.prog X.w) X.A (spliced (ux pos (jj es X.env))) (AP X ψ σ Q) X.xe s
abbrev PS(X:Cx)(st:nu)(t:TS):Prop :=
 ∀(ψ:List (bw×Obj))(s:cg)(σ:St)(H:Hp)(D:Ends),Inv X ψ σ H s->t D σ H->dj (dz X.prog X.w) X.A (exec st X.env) (SP X ψ D) X.xe s
abbrev kg(X:Cx)(st:List nu)(t:TS):Prop :=
 ∀(ψ:List (bw×Obj))(s:cg)(σ:St)(H:Hp)(D:Ends),Inv X ψ σ H s->t D σ H->dj (dz X.prog X.w) X.A (execs st X.env) (SP X ψ D) X.xe s
def dH{α:Type}{t:Sem α}{Q Q':α->cg->Prop}{M:Model}{A:jf}{E:au->cg->Prop}{s:cg}(h:dj M A t Q E s)(hQ:∀a s,Q a s->Q' a s):dj M A t Q' E s:=wpAny_mono h hQ λ_ _ x=>x
end
variable{ψ:List (bw×Obj)}{pos:Pos}
section
section
variable{X:Cx}
def bin{a b:ig}{ta tb:TE}(ha:PE X a ta)(hb:PE X b tb){s:cg}{σ:St}{H:Hp}{R:V->V->Hp->Prop}(I:Inv X ψ σ H s)(h:ta σ H λx H1=>tb σ H1 λy H2=>R x y H2)
  {α:Type}{Q:α->cg->Prop}{f:au->au->Sem α}
  (hf:∀v u s2 x y H2,Inv X ψ σ H2 s2->RelV x v->RelV y u->R x y H2->dj (dz X.prog X.w) X.A (f v u) Q X.xe s2) :
  dj (dz X.prog X.w) X.A (eval a X.env) (λv ai=>dj (dz X.prog X.w) X.A (eval b X.env) (λu fg=>dj (dz X.prog X.w) X.A (f v u) Q X.xe fg) X.xe ai) X.xe s:=by
 refine dH (ha ψ s σ H _ I h) ?_;rintro v s1 ⟨x,H1,I1,r1,q1⟩;refine dH (hb ψ s1 σ H1 _ I1 q1) ?_;rintro u s2 ⟨y,H2,I2,r2,q2⟩;exact hf v u s2 x y H2 I2 r1 r2 q2
abbrev Vh(i:Nat):TE:=λσ H Q=>∃v,σ[i]?=aj (aj v)/\Q v H
abbrev tC(v:V):TE:=λ_ H Q=>Q v H
def aE2{i:Nat}{x:Str}(hN:X.N[i]?=aj x)(hv:CN X.env.scope x)(hd:(x==("__debug__":Str))=ao:=by decide)(gz:(x==("__classdict__":Str))=ao:=by decide):PE X (.Name x pos) (Vh i):=by
 intro ψ s σ H Q I h;let⟨v,e,h⟩:=h;let⟨m,hn,hl⟩:=I.loc;let⟨u,r,l⟩:=hl i x v hN e hv;have fin:EP X ψ σ Q u s:=⟨v,H,I,r,h⟩;rcases l with⟨hk,hm⟩|⟨hk,c,hc,kx⟩
 .exact wpAny_Name (wpAny_loadName_local I.ok.kind hk hn hm fin) hd
 .rcases hk with hk|hk
  .exact wpAny_Name (wpAny_loadName_cell I.ok.kind hk hc kx fin) hd
  .exact wpAny_Name (wpAny_loadName_free I.ok.kind hk hc kx fin gz) hd
def aE3{i j pos}:PE X (.Constant (.int i) j pos) (tC (.int i)):=λ_ _ _ H _ I h=>wpAny_Constant_int ⟨.int i,H,I.tok _,⟨_,rfl⟩,h⟩
def aK8{b j pos}:PE X (.Constant (.bool b) j pos) (tC (.bl b)):=λ_ _ _ H _ I h=>Constant_bool ⟨.bl b,H,I,rfl,h⟩
def aE4{j pos}:PE X (.Constant .none j pos) (tC .ag):=λ_ _ _ H _ I h=>Constant_none ⟨.ag,H,I,rfl,h⟩
def aE5{x j pos}:PE X (.Constant (.str x) j pos) (tC (.str x)):=λ_ _ _ H _ I h=>Calls.Constant_str ⟨.str x,H,I.tok _,⟨_,rfl⟩,h⟩
abbrev Gl(X:Cx)(x:Str):Prop:=X.env.kindOf x=aj .globalImplicit
def qF{s:cg}{x:Str}(I:Inv X ψ σ H s)(hg:Gl X x)(hm:X.mg x=aj u)(h:Q u s)
  (hd:(x==("__debug__":Str))=ao:=by decide):dj (dz X.prog X.w) X.A (eval (.Name x pos) X.env) Q E s :=
 Calls.Name_function_global I.ok.kind hg (Calls.loadGlobal_global (by rw[I.ok.glob];exact I.mod.glob.keeps I.bk) hm h) hd
def Ay{s:cg}{x:Str}(I:Inv X ψ σ H s)(hg:Gl X x)(hm:X.mg x=bh)(hv:qe x=aj u)(h:Q u s)
  (hn:x≠"__name__":=by decide)(hd:(x==("__debug__":Str))=ao:=by decide):dj (dz X.prog X.w) X.A (eval (.Name x pos) X.env) Q E s:=by
 let⟨mb,h1,h2⟩:=I.mod.blt;exact Calls.Name_function_global I.ok.kind hg (Calls.loadGlobal_builtin (by rw[I.ok.glob];exact I.mod.glob.keeps I.bk) hm (by rw[I.ok.blt];exact h1.keeps I.bk) ((h2 x hn).trans hv) h) hd
def ZG{x:Str}(hg:Gl X x)(hm:X.mg x=aj u)(r:RelV v u)(hd:(x==("__debug__":Str))=ao:=by decide):PE X (.Name x pos) (tC v) :=
 λ_ _ _ H _ I h=>qF I hg hm ⟨v,H,I,r,h⟩ hd
def ZF{x:Str}(hg:Gl X x)(hm:X.mg x=bh)(hv:qe x=aj u)(r:RelV v u)(hn:x≠"__name__":=by decide)(hd:(x==("__debug__":Str))=ao:=by decide):PE X (.Name x pos) (tC v) :=
 λ_ _ _ H _ I h=>Ay I hg hm hv ⟨v,H,I,r,h⟩ hn hd
variable{a b:ig}{ta tb:TE}{pos:Pos}
def IY(b:ig)(h:op≠.In)(h2:op≠.NotIn):zf op b=ao:=by
 have e1:(op==vh.In)=ao:=by cases op<;>first|rfl|exact absurd rfl h
 have e2:(op==vh.NotIn)=ao:=by cases op<;>first|rfl|exact absurd rfl h2
 cases b<;>simp[zf,e1,e2]
abbrev tB(t:TE):TT:=λσ H Q=>t σ H λx H1=>∃c,x=.bl c/\Q c H1
def aE6{e:ig}{t:TE}(h:PE X e t)(he:∀whole,isTrue e X.env whole=(do let v ←whole;standAt e.pos;holding [v] (truthy v)):=by intro _;rfl):PT X e (tB t):=by
 intro ψ s σ H Q I hw;refine isTrue_plain (dH (h ψ s σ H _ I hw) ?_) (he _);rintro v s1 ⟨x,H1,I1,r1,q1⟩;let⟨d,rfl,q⟩:=q1;cases r1;exact xt ⟨H1,I1,q⟩
variable{rest:List ig}
abbrev Vg(t u:TT):TT:=λσ H Q=>t σ H λc H1=>if c=ak then u σ H1 Q else Q ao H1
abbrev OV(t u:TT):TT:=λσ H Q=>t σ H λc H1=>if c=ak then Q ak H1 else u σ H1 Q
abbrev aPK(t:TT):TT:=λσ H Q=>t σ H λc H1=>Q (!c) H1
def ZE(ha:PT X a tA):PW X (.BoolOp .And [a] pos) tA:=by
 intro wh ψ s σ H Q I h;refine isTrue_and (dH (ha ψ s σ H Q I h) λc s1 e=>?_);cases c with
 |true=>exact isTrue_and_nil e
 |false=>exact e
def aE7(ha:PT X a tA):PW X (.BoolOp .Or [a] pos) tA:=by
 intro wh ψ s σ H Q I h;refine isTrue_or (dH (ha ψ s σ H Q I h) λc s1 e=>?_);cases c with
 |false=>exact isTrue_or_nil e
 |true=>exact e
def aE8(ha:PT X a tA)(hb:PW X (.BoolOp .And (b::rest) pos) JD):PW X (.BoolOp .And (a::b::rest) pos) (Vg tA JD):=by
 intro wh ψ s σ H Q I h;refine isTrue_and (dH (ha ψ s σ H _ I h) ?_);rintro c s1 ⟨H1,I1,q1⟩;cases c with
 |true=>exact hb wh ψ s1 σ H1 Q I1 q1
 |false=>exact⟨H1,I1,q1⟩
def aKA(ha:PT X a tA)(hb:PW X (.BoolOp .Or (b::rest) pos) JD):PW X (.BoolOp .Or (a::b::rest) pos) (OV tA JD):=by
 intro wh ψ s σ H Q I h;refine isTrue_or (dH (ha ψ s σ H _ I h) ?_);rintro c s1 ⟨H1,I1,q1⟩;cases c with
 |true=>exact⟨H1,I1,q1⟩
 |false=>exact hb wh ψ s1 σ H1 Q I1 q1
def aE9(ha:PT X a tA):PT X (.UnaryOp .Not a pos) (aPK tA):=by
 intro ψ s σ H Q I h;exact isTrue_not (ha ψ s σ H (λc H1=>Q (!c) H1) I h)
abbrev aKB(ta tb:TE):TE:=λσ H Q=>ta σ H λx H1=>∃c,x=.bl c/\if c=ak then tb σ H1 Q else Q (.bl ao) H1
abbrev aPL(ta tb:TE):TE:=λσ H Q=>ta σ H λx H1=>∃c,x=.bl c/\if c=ak then Q (.bl ak) H1 else tb σ H1 Q
abbrev aKC(ta:TE):TE:=λσ H Q=>ta σ H λx H1=>∃c,x=.bl c/\Q (.bl (!c)) H1
def aEA{op}{t:TE}(h:PE X a t):PE X (.BoolOp op [a] pos) t:=λψ s σ H Q I hw=>BoolOp_one (h ψ s σ H Q I hw)
def aEB(ha:PE X a ta)(hb:PE X (.BoolOp .And (b::rest) pos) tb):PE X (.BoolOp .And (a::b::rest) pos) (aKB ta tb):=by
 intro ψ s σ H Q I h;refine BoolOp_and (dH (ha ψ s σ H _ I h) ?_);rintro v s1 ⟨x,H1,I1,r1,q1⟩;let⟨c,rfl,q1⟩:=q1;cases r1;refine xt ?_;cases c with
 |true=>exact hb ψ s1 σ H1 Q I1 q1
 |false=>exact⟨.bl ao,H1,I1,rfl,q1⟩
def aKD(ha:PE X a ta)(hb:PE X (.BoolOp .Or (b::rest) pos) tb):PE X (.BoolOp .Or (a::b::rest) pos) (aPL ta tb):=by
 intro ψ s σ H Q I h;refine BoolOp_or (dH (ha ψ s σ H _ I h) ?_);rintro v s1 ⟨x,H1,I1,r1,q1⟩;let⟨c,rfl,q1⟩:=q1;cases r1;refine xt ?_;cases c with
 |false=>exact hb ψ s1 σ H1 Q I1 q1
 |true=>exact⟨.bl ak,H1,I1,rfl,q1⟩
def aEC(ha:PE X a ta):PE X (.UnaryOp .Not a pos) (aKC ta):=by
 intro ψ s σ H Q I h;refine UnaryOp_ (dH (ha ψ s σ H _ I h) ?_);rintro v s1 ⟨x,H1,I1,r1,q1⟩;let⟨c,rfl,q1⟩:=q1;cases r1;exact not_of (xt ⟨.bl (!c),H1,I1,rfl,q1⟩)
end
end
variable{es:List ig}{cm:Bool}
section
abbrev gc(K:jq)(H:Hp)(a:bw)(xs:List V):Prop :=
 Rd H a (.lst xs) ∨
  ∃(o:Obj)(its:Array au)(n:Nat),K.lookup a=aj o/\o.cls=.type "list"/\o.dict=bh/\o.data=.seq its n/\its.size<=dg/\Vals xs its.toList
abbrev eD(K:jq)(H:Hp)(a:bw)(xs:List V):Prop :=
 Rd H a (.tup xs) ∨
  ∃(o:Obj)(its:Array au)(n:Nat),K.lookup a=aj o/\o.cls=.type "tuple"/\o.data=.seq its n/\its.size<=dg/\Vals xs its.toList
abbrev aPM:au->Option V
 |.none=>aj .ag
 |.bool b=>aj (.bl b)
 |.int i _=>aj (.int i)
 |.str x _=>aj (.str x)
 |.bytes b _=>aj (.GF b)
 |.float b _=>aj (.GB b)
 |.ref a=>aj (.ref a)
 |.type n=>aj (.ty n)
 |_=>bh
def RelV.abs{x:V}(r:RelV x u):aPM u=aj x:=by
 cases x with
 |ag=>cases r;rfl
 |bl _=>cases r;rfl
 |int _=>let⟨t,rfl⟩:=r;rfl
 |str _=>let⟨t,rfl⟩:=r;rfl
 |GF _=>let⟨t,rfl⟩:=r;rfl
 |GB _=>let⟨t,rfl⟩:=r;rfl
 |ref _=>cases r;rfl
 |ty _=>cases r;rfl
def RelV.inj{x:V}(r:RelV x u)(q:RelV y u):x=y:=ji.inj (r.abs.symm.trans q.abs)
def Vals.inj:∀{xs ys:List V}{us:List au},Vals xs us->Vals ys us->xs=ys
 |_,_,_,.nil,.nil=>rfl
 |_,_,_,.cons r t,.cons r' t'=>by rw[r.inj r',Vals.inj t t']
section
variable{X:Cx}{ψ:List (bw×Obj)}{s:cg}{a:bw}{xs:List V}
def gc.of{K:jq}(h:H a=aj (.lst xs)):gc K H a xs:=.inl (.inl h)
def eD.of{K:jq}(h:H a=aj (.tup xs)):eD K H a xs:=.inl (.inl h)
def Inv.list(I:Inv X ψ σ H s)(h:gc X.K H a xs):∃its:List au,Vals xs its/\PlainL s.heap a its.toArray/\xs.length<=dg:=by
 rcases h with h|⟨o,its,n,hk,hc,hd,hs,hz,r⟩
 .obtain⟨z,its,n,r,e⟩:=h.ok I.af;exact⟨its,r,⟨_,n,e,rfl,rfl,rfl⟩,z⟩
 .refine⟨its.toList,r,⟨o,n,I.de a o hk,hc,hd,by simpa using hs⟩,?_⟩;have e:=r.length;simp only[uo]at e;omega
def Inv.tuple(I:Inv X ψ σ H s)(h:eD X.K H a xs):∃its:List au,Vals xs its/\IsTup s.heap a its.toArray/\xs.length<=dg:=by
 rcases h with h|⟨o,its,n,hk,hc,hs,hz,r⟩
 .obtain⟨z,its,r,p⟩:=h.ok I.af;exact⟨its,r,p,z⟩
 .refine⟨its.toList,r,⟨o,I.de a o hk,hc,n,by simpa using hs⟩,?_⟩;have e:=r.length;simp only[uo]at e;omega
def Inv.arU(I:Inv X ψ σ H s)(h:gc X.K H a xs)(h':gc X.K H a ys):xs=ys:=by
 let⟨its,r,⟨o,n,e,_,_,d⟩,_⟩:=I.list h;let⟨its',r',⟨o',n',e',_,_,d'⟩,_⟩:=I.list h';rw[e]at e';cases e';rw[d]at d';injection d' with d1 _;have:its=its':=by simpa using congrArg Array.toList d1
 subst this;exact r.inj r'
def Inv.UE(I:Inv X ψ σ H s)(h:eD X.K H a xs)(h':eD X.K H a ys):xs=ys:=by
 let⟨its,r,⟨o,e,_,n,d⟩,_⟩:=I.tuple h;let⟨its',r',⟨o',e',_,n',d'⟩,_⟩:=I.tuple h';rw[e]at e';cases e';rw[d]at d';injection d' with d1 _;have:its=its':=by simpa using congrArg Array.toList d1
 subst this;exact r.inj r'
end
section
end
section
variable{X:Cx}{st:nu}{rest:List nu}{t u:TS}{te:TE}{pos:Pos}
abbrev VV:TS:=λD σ H=>D.nx σ H
abbrev Vf(t u:TS):TS:=λD σ H=>t {D with nx:=u D} σ H
def ZD:kg X [] VV:=λ_ _ σ H _ I h=>wpAny_execs_nil ⟨σ,H,I,h⟩
private theorem arV(h1:PS X st t)(h2:kg X rest u):kg X (st::rest) (Vf t u):=by
 intro ψ s σ H D I h;refine wpAny_execs_cons (dH (h1 ψ s σ H {D with nx:=u D} I h) λf s1 q=>?_);cases f with
 |next =>
  let⟨aI,H',I',q⟩:=q;exact h2 ψ s1 aI H' D I' q
 |ret v=>exact q
 |brk=>exact q
 |cont=>exact q
private theorem ZC(h1:PS X st t):kg X [st] t:=by
 intro ψ s σ H D I h;refine wpAny_execs_cons (dH (h1 ψ s σ H D I h) λf s1 q=>?_);cases f with
 |next=>exact wpAny_execs_nil q
 |ret v=>exact q
 |brk=>exact q
 |cont=>exact q
def ZB:PS X (.Pass pos) VV:=λ_ _ σ H _ I h=>wpAny_Pass ⟨σ,H,I,h⟩
def Inv.quiet{s:cg}(I:Inv X ψ σ H s):interactive X.env=ao:=by simp[interactive,I.ok.kind]
abbrev aKF(te:TE):TS:=λD σ H=>te σ H λ_ H1=>D.nx σ H1
def ZA(he:PE X e te)(hs:md e bh pos.line X.env=pure ao:=by rfl):PS X (.Expr e pos) (aKF te):=by
 intro ψ s σ H D I h;exact wpAny_Expr_any (dH (he ψ s σ H _ I h) (by rintro v s1 ⟨x,H1,I1,r1,q1⟩;exact⟨σ,H1,I1,q1⟩)) I.quiet hs
abbrev aPN(te:TE):TS:=λD σ H=>te σ H D.rt
def aED(he:PE X e te):PS X (.Return (aj e) pos) (aPN te):=by
 intro ψ s σ H D I h;exact wpAny_Return_some (dH (he ψ s σ H _ I h) (by rintro v s1 ⟨x,H1,I1,r1,q1⟩;exact⟨x,σ,H1,I1,r1,q1⟩))
abbrev aPO(c:TT)(t u:TS):TS:=λD σ H=>c σ H λb H1=>if b=ak then t D σ H1 else u D σ H1
def aKG{c:ig}{a b:List nu}(hc:PT X c tc)(ha:kg X a t)(hb:kg X b u):PS X (.If c a b pos) (aPO tc t u):=by
 intro ψ s σ H D I h;refine wpAny_If (dH (hc ψ s σ H _ I h) ?_);rintro d s1 ⟨H1,I1,q1⟩;cases d with
 |true=>exact ha ψ s1 σ H1 D I1 q1
 |false=>exact hb ψ s1 σ H1 D I1 q1
end
@[simp]def TG:=V->St->Hp->(St->Hp->Prop)->Prop
@[simp]def AD:=List V->St->Hp->(St->Hp->Prop)->Prop
abbrev PG(X:Cx)(target:ig)(t:TG):Prop :=
 ∀(ψ:List (bw×Obj))(s:cg)(σ:St)(H:Hp)(v:V)(u:au)(Q:St->Hp->Prop),Inv X ψ σ H s->RelV v u->t v σ H Q ->
  dj (dz X.prog X.w) X.A (assign target X.env u) (λ_ s'=>∃aI H',Inv X ψ aI H' s'/\Q aI H') X.xe s
abbrev Fh(X:Cx)(ts:List ig)(t:AD):Prop :=
 ∀(ψ:List (bw×Obj))(s:cg)(σ:St)(H:Hp)(vs:List V)(us:List au)(Q:St->Hp->Prop),Inv X ψ σ H s->Vals vs us->t vs σ H Q ->
  dj (dz X.prog X.w) X.A (assignInOrder ((ny ts X.env).map (·.2)) us) (λ_ s'=>∃aI H',Inv X ψ aI H' s'/\Q aI H') X.xe s
section
variable{X:Cx}{pos:Pos}
abbrev Hq(i:Nat):TG:=λv σ H Q=>Q (σ.set i (aj v)) H
def Mz{i:Nat}{x:Str}(hN:X.N.Nodup)(hi:X.N[i]?=aj x)(hx:Loc X.env.scope x)(hf:X.fn x=ak∨X.env.scope.names.lookup x=aj .local:=by first|exact .inl rfl|exact .inr rfl|assumption):PG X (.Name x pos) (Hq i):=by
 intro ψ s σ H v u Q I r h;exact wpAny_assign_Name (NH I hN hi hx r (λs' I'=>⟨_,H,I',h⟩) hf)
abbrev Ve:AD:=λvs σ H Q=>vs=[]/\Q σ H
abbrev VU(t:TG)(u:AD):AD:=λvs σ H Q=>∃v r,vs=v::r/\t v σ H λaI H'=>u r aI H' Q
def Zz:Fh X [] Ve:=by
 intro ψ s σ H vs us Q I r h;let⟨e,h⟩:=h;subst e;cases r;exact assignInOrder_nil ⟨σ,H,I,h⟩
def arW{t:TG}(h1:PG X e t)(h2:Fh X es u)
  (hs:(ny (e::es) X.env).map (·.2)=assign e X.env::(ny es X.env).map (·.2):=by rfl):Fh X (e::es) (VU t u):=by
 intro ψ s σ H vs us Q I r h;let⟨v,vr,e1,h⟩:=h;subst e1;cases r with
 |cons r rr =>
  rw[hs];refine assignInOrder_cons (dH (h1 ψ s σ H _ _ _ I r h) ?_);rintro _ s1 ⟨FU,H1,I1,q1⟩;exact h2 ψ s1 FU H1 _ _ Q I1 rr q1
abbrev aPP(K:jq)(n:Nat)(t:AD):TG:=λv σ H Q=>∃a xs,v=.ref a/\eD K H a xs/\xs.length=n/\t xs σ H Q
def aEE{k:Nat}{t:AD}{n:Nat}(hc:X.calm=ak)(h:Fh X es t)
  (hn:(ny es X.env).length=n:=by rfl)(bE:(ny es X.env).findIdx? (·.1)=bh:=by rfl):PG X (.Tuple es k pos) (aPP X.K n t):=by
 intro ψ s σ H v u Q I r hw;let⟨a,xs,e1,hq,hl,hw⟩:=hw;subst e1;cases r;let⟨its,rv,ht,hz⟩:=I.tuple hq;refine assign_Tuple_tuple (I.ok.hd hc) ht (by simp[hn,←hl,rv.length]) bE λh' hx=>?_;have I1:Inv X ψ σ H {s with heap:=h' }:=I.kept (t':=s.toks) λb o e=>hx b o (jo (fj e)) e;exact h ψ _ σ H xs _ Q I1 (by simpa using rv) hw
abbrev Vd(te:TE)(g:TG):TS:=λD σ H=>te σ H λx H1=>g x σ H1 D.nx
def aEF{g:TG}(he:PE X e te)(hg:PG X tg g)(hs:swapsWithSole [tg] e pos.line X.env=pure ao:=by rfl)(hw:swappedStores [tg] e X.env=pure bh:=by rfl)
  (h1:(ny [tg] X.env).map (·.2)=[assign tg X.env]:=by rfl):PS X (.Assign [tg] e pos) (Vd te g):=by
 intro ψ s σ H D I h;refine wpAny_Assign_stores (dH (he ψ s σ H _ I h) ?_) hs hw;rintro v s1 ⟨x,H1,I1,r1,q1⟩;rw[h1];exact dH (hg ψ s1 σ H1 x v _ I1 r1 q1) λ_ s2 q=>q
def aEG{i:Nat}{x:Str}(hN:X.N.Nodup)(hi:X.N[i]?=aj x)(hx:Loc X.env.scope x)(he:PE X e te)(hs:md e (aj (.Name x pos')) pos.line X.env=pure ao:=by rfl)(hf:X.fn x=ak∨X.env.scope.names.lookup x=aj .local:=by first|exact .inl rfl|exact .inr rfl|assumption) :
  PS X (.Assign [.Name x pos'] e pos) (Vd te (Hq i)):=by
 intro ψ s σ H D I h;refine wpAny_Assign_Name (dH (he ψ s σ H _ I h) ?_) hs;rintro v s1 ⟨y,H1,I1,r1,q1⟩;exact NH I1 hN hi hx r1 (λs2 I2=>⟨_,H1,I2,q1⟩) hf
end
section
end
structure It where
 go:Nat->Hp->Prop
 AX:Nat->Hp->V->Hp->Prop
 stop:Nat->Hp->Prop
abbrev l9(X:Cx)(ψ:List (bw×Obj))(H:Hp)(b:bw):Prop :=
 H b=bh/\b≠X.env.locals/\b∉X.fs/\(b∈X.ex∨X.av.heap.objs.size<=b)/\(∀x c,X.env.cells.lookup x=aj c->c≠b)/\∀p∈X.pn++ψ,p.1≠b
def Inv.DZ{s:cg}{b:bw}(I:Inv X ψ σ H s)(hb:s.heap.objs.size<=b)(hn:H' b=bh):l9 X ψ H' b:=by
 refine⟨hn,xu (je I.lt hb),I.aPI hb,.inr (qw I.sz hb),λx c e z=>?_,λp hp z=>?_⟩
 .obtain⟨v,q⟩:=I.cell x c e;exact absurd (je q.lt (by rw[z];exact hb)) (vo _)
 .exact absurd (je (fj (I.pin p hp).1) (by rw[z];exact hb)) (vo _)
structure Turn(cm:Bool)(tl:List (bw×List V))(P:mz)(w:jr)(K:jq)(tg:ig)(J:It)(fp:List bw)(it:bw)(tn:Nat->lg->Prop):Prop where
 mem:it∈fp
 obj:∀i h,tn i h->∀b∈fp,∃o,h.get? b=aj o/\∀v,o.data≠.cell v
 keep:∀i h h',tn i h->(∀b∈fp,∀o,h.get? b=aj o->h'.get? b=aj o)->tn i h'
 item:∀(X:Cx),X.prog=P->X.w=w->X.K=K->(cm=ak->X.calm=ak)->(∀p∈tl,p∈X.tp)->∀(i:Nat)(ψ:List (bw×Obj))(s:cg)(σ:St)(H:Hp)(E:au->cg->Prop),Inv X ψ σ H s->(∀b∈fp,l9 X ψ H b)->tn i s.heap->J.go i H ->
  dj (dz P w) X.A (fR (.ref it)) (λr s1=>∃u,r=aj u /\
   dj (dz P w) X.A (EW tg (.ref it) u) (λ_ s2=>∃x H',Inv X ψ σ H' s2/\RelV x u/\J.AX i H x H'/\tn (i+1) s2.heap/\∀b∈fp,H' b=bh) E s1) E s
 done:∀(X:Cx),X.prog=P->X.w=w->X.K=K->(cm=ak->X.calm=ak)->(∀p∈tl,p∈X.tp)->∀(i:Nat)(ψ:List (bw×Obj))(s:cg)(σ:St)(H:Hp)(E:au->cg->Prop),Inv X ψ σ H s->(∀b∈fp,l9 X ψ H b)->tn i s.heap->J.stop i H ->
  dj (dz P w) X.A (fR (.ref it)) (λr s1=>r=bh/\Inv X ψ σ H s1) E s
 self:∀(A:jf)(i:Nat)(s:cg)(Q:au->cg->Prop)(E:au->cg->Prop),tn i s.heap->Q (.ref it) s->dj (dz P w) A (pyIter (.ref it)) Q E s
@[simp]def TI:=St->Hp->(It->Hp->Prop)->Prop
abbrev WL(X:Cx)(ψ:List (bw×Obj))(σ:St)(tg:ig)(R:It->Hp->Prop)(Gb:au)(s2:cg):Prop :=
 ∃(it:bw)(fp:List bw)(tn:Nat->lg->Prop)(J:It)(H':Hp),Gb=.ref it/\Inv X ψ σ H' s2/\Turn X.calm X.tp X.prog X.w X.K tg J fp it tn/\tn 0 s2.heap/\(∀b∈fp,l9 X ψ H' b)/\R J H'
abbrev PI(X:Cx)(tg iter:ig)(wi:TI):Prop :=
 ∀(ψ:List (bw×Obj))(s:cg)(σ:St)(H:Hp)(R:It->Hp->Prop),Inv X ψ σ H s->wi σ H R ->
  dj (dz X.prog X.w) X.A (eval iter X.env) (λv s1=>dj (dz X.prog X.w) X.A (pyIter v) (WL X ψ σ tg R) X.xe s1) X.xe s
def El{M:Model}{A:jf}{s:cg}{o:Obj}{n:String}(ho:s.heap.get? it=aj o)(hc:o.cls=.type n)(hd:o.data=.fields vs)
  (hn:["enumerate","zip","dict_itemiterator","dict_reverseitemiterator","odict_iterator","itertools.zip_longest","itertools.pairwise"].contains n=ao)(hQ:Q () s):dj M A (EW tg (.ref it) u) Q E s:=by
 unfold EW
 cases tg<;>first
  |exact cj hQ
  |(cases u<;>first
    |exact cj hQ
    |(refine aq (wpAny_load ho ?_)
      rw[hc,hd];show dj M A (if(["enumerate","zip","dict_itemiterator","dict_reverseitemiterator","odict_iterator","itertools.zip_longest","itertools.pairwise"].contains n&&vs[0]?==aj (fS _))=ak then _ else _) Q E s;rw[if_neg (by intro h;rw[hn,Bool.false_and]at h;cases h)];exact cj hQ))
abbrev Ou(K:jq)(a:bw):It :=
 ⟨λi H=>∃xs x,gc K H a xs/\xs[i]?=aj x,λi H x H'=>H'=H/\∀xs,gc K H a xs->xs[i]?=aj x,λi H=>∃xs,gc K H a xs/\xs.length<=i⟩
abbrev Fj(lo:Int)(n:Nat):It:=⟨λi _=>i<n,λi H x H'=>H'=H/\x=.int (lo+i),λi _=>n<=i⟩
def apA{w:jr}{K:jq}(a it:bw):Turn cm tl P w K tg (Ou K a) [it] it (λi h=>h.IsListIter it a i) where
 mem:=by simp
 obj:=λi h st b hb=>by
  have e:b=it:=by simpa using hb
  subst e;let⟨o,e,c,d⟩:=st;exact⟨o,e,λv z=>by rw[d]at z;cases z⟩
 keep:=λi h h' st k=>st.at λo e=>k it (by simp) o e
 item:=by
  intro X hP hw hK hc ht i ψ s σ H E I hf st hg;subst hP hw hK;let⟨xs,x,hq,hx⟩:=hg;let⟨its,rv,p,hz⟩:=I.list hq;let⟨u,hu,ru⟩:=rv.get hx;let⟨f0,f1,f2,f3,f4,f5⟩:=hf it (by simp);refine wpAny_pyNext_list_item st p.isList (x:=u) (by simpa using hu) λh' ae sb=>?_;have I1:Inv X ψ σ H {s with heap:=h' }:=I.turned (t':=s.toks) (λb o hb e=>(sb.2 b hb).trans e) f0 f1 f3 f4 f5;let⟨o,e,c,d⟩:=id ae;exact⟨u,rfl,El (s:={s with heap:=h' }) e c d (by decide) ⟨x,H,I1,ru,⟨rfl,λys hy=>by rw[I.arU hy hq];exact hx⟩,ae,λb hb=>(hf b hb).1⟩⟩
 done:=by
  intro X hP hw hK hc ht i ψ s σ H E I hf st hg;subst hP hw hK;let⟨xs,hq,hx⟩:=hg;let⟨its,rv,p,hz⟩:=I.list hq;let⟨f0,f1,f2,f3,f4,f5⟩:=hf it (by simp);have hl:=rv.length;exact ap6 (I.dS.heap I.af) st p.isList (by simp;omega) λh' eb=>⟨rfl,I.turned (t':=s.toks) (λb o hb e=>eb b o hb e) f0 f1 f3 f4 f5⟩
 self:=λ_ _ _ _ _ st h=>wpAny_pyIter_listiter st h
def ak5{w:jr}{K:jq}(it:bw)(lo:Int)(n:Nat):Turn cm tl P w K tg (Fj lo n) [it] it (λi h=>IsRangeIter h it (lo+(i:Nat)*1) ((n:Int) - (i:Nat)) 1) where
 mem:=by simp
 obj:=λi h st b hb=>by
  have e:b=it:=by simpa using hb
  subst e
  exact⟨_,st,λv z=>by
   have z':Data.fields _=Data.cell v:=z;cases z'⟩
 keep:=λi h h' st k=>k it (by simp) _ st
 item:=by
  intro X hP hw hK hc ht i ψ s σ H E I hf st hg;subst hP hw hK;let⟨f0,f1,f2,f3,f4,f5⟩:=hf it (by simp);have hi:i<n:=hg;refine wpAny_pyNext_range_item st ⋯ λh' ae kk=>?_;have I1:Inv X ψ σ H {s with heap:=h',toks:=s.toks+1}:=I.turned (λb o hb e=>(kk.2 b hb).trans e) f0 f1 f3 f4 f5
  have bg:IsRangeIter h' it (lo+((i+1:Nat):Int)*1) ((n:Int) - ((i+1:Nat):Int)) 1:=by
   have e1:lo+((i:Nat):Int)*1+1=lo+((i+1:Nat):Int)*1:=by omega
   have e2:(n:Int) - ((i:Nat):Int) - 1=(n:Int) - ((i+1:Nat):Int):=by omega
   rw[←e1,←e2];exact ae
  refine⟨_,rfl,El (s:={s with heap:=h',toks:=s.toks+1}) (n:="range_iterator") bg rfl rfl (by decide) ⟨.int (lo+i),H,I1,⟨s.toks,?_⟩,⟨rfl,rfl⟩,bg,λb hb=>(hf b hb).1⟩⟩;rw[Int.mul_one]
 done:=by
  intro X hP hw hK hc ht i ψ s σ H E I hf st hg;subst hP hw hK;let⟨f0,f1,f2,f3,f4,f5⟩:=hf it (by simp);exact arQ (I.dS.heap I.af) st (by have:n<=i:=hg;omega) λh' eb=>⟨rfl,I.turned (t':=s.toks) (λb o hb e=>eb b o hb e) f0 f1 f3 f4 f5⟩
 self:=λ_ _ _ _ _ st h=>wpAny_pyIter_rangeiter st h
end
section
section
variable{X:Cx}
def arY{s:cg}{lo hi:Int}{t v:Tok}{tk:Nat}(I:Inv X ψ σ H s)(h1:-(2^62)<=lo)(h2:lo<2^62)(h3:-(2^62)<=hi)(h4:hi<2^62)
  (q:R (Fj lo (hi - lo).toNat) H):dj (dz X.prog X.w) X.A (pyIter (.ref s.heap.objs.size)) (WL X ψ σ tg R) E {s with heap:=s.heap.push {cls:=.type "range",data:=.fields #[.int lo t,.int hi u,.int 1 v]},toks:=tk}:=by
 refine wpAny_pyIter_range (IsRange.new ..) (small_one h1 h2 h3 h4) ?_;have I1:Inv X ψ σ H {s with heap:=s.heap.push {cls:=.type "range",data:=.fields #[.int lo t,.int hi u,.int 1 v]},toks:=tk}:=I.kept λb o e=>cu _ e
 refine⟨(s.heap.push {cls:=.type "range",data:=.fields #[.int lo t,.int hi u,.int 1 v]}).objs.size,[(s.heap.push {cls:=.type "range",data:=.fields #[.int lo t,.int hi u,.int 1 v]}).objs.size],_,_,H,rfl,
  I1.kept (t':=tk) λb o e=>cu _ e,ak5 _ lo (hi - lo).toNat,?_,λb hb=>?_,q⟩
 .have e1:lo+((0:Nat):Int)*1=lo:=by simp
  have e2:(((hi - lo).toNat:Nat):Int) - ((0:Nat):Int)=Builtin.Range.rangeSize lo hi 1:=by rw[rangeSize_one];split<;>omega
  show IsRangeIter _ _ (lo+((0:Nat):Int)*1) ((((hi - lo).toNat:Nat):Int) - ((0:Nat):Int)) 1;rw[e1,e2];exact jd _ rfl
 .have e:b=(s.heap.push {cls:=.type "range",data:=.fields #[.int lo t,.int hi u,.int 1 v]}).objs.size:=by simpa using hb
  subst e;exact I1.DZ (gw _) (I1.af.fresh (gw _))
abbrev aKL(ta:TA):TI:=λσ H R=>ta σ H λvs H1=>∃j:Int,vs=[.int j]/\-(2^62)<=j/\j<2^62/\R (Fj 0 j.toNat) H1
def apB{a:ig}(hg:Gl X "range")(hm:X.mg "range"=bh)(ha:PA X [a] ta)(hs:jj [a] X.env=[(ao,eval a X.env)]:=by rfl):PI X tg (.Call (.Name "range" p) [a] [] pos) (aKL ta):=by
 intro ψ s σ H R I h;refine Call_ (Ay I hg hm boot_range (PyProof.Rows.callWith_type1 (dH (ha pos ψ s σ H _ I h) ?_) hs rfl));rintro us s1 ⟨vs,H1,I1,r1,q1⟩;let⟨j,e,q1,q2,q⟩:=q1;subst e;cases r1 with
 |cons r rr =>
  cases rr;let⟨t,rfl⟩:=r;exact call_range_1 (arY I1 ⋯ ⋯ q1 q2 (by simpa using q))
abbrev aPR(wi:TI)(g:TG)(tb:TS):TS:=λD σ H=>wi σ H λJ H1=>∃W:Nat->Nat->St->Hp->Prop,(∃m,W 0 m σ H1)/\∀i m σ H,W i m σ H ->
 (J.stop i H/\D.nx σ H)∨(J.go i H/\∃N:St->Hp->Prop,(∀aI H',N aI H'->∃m',m'<m/\W (i+1) m' aI H')/\∀x H',J.AX i H x H'->g x σ H' λdt H2=>tb {D with nx:=N,ct:=N,bk:=D.nx} dt H2)
abbrev Ck(fp:List bw)(h:lg):List (bw×Obj):=fp.filterMap λb=>(h.get? b).map λo=>(b,o)
def vX{b:bw}{o:Obj}(hb:b∈fp)(e:h.get? b=aj o):(b,o)∈Ck fp h:=IP.mpr ⟨b,hb,by rw[e];rfl⟩
def apC{p:bw×Obj}(hp:p∈Ck fp h):p.1∈fp/\h.get? p.1=aj p.2:=by
 let⟨b,hb,e⟩:=IP.mp hp;cases q:h.get? b with
 |none=>rw[q]at e;cases e
 |some o =>
  rw[q]at e;have e':(b,o)=p:=ji.inj e;subst e';exact⟨hb,q⟩
def Inv.pinned{s:cg}(I:Inv X ψ σ H s)(hf:∀b∈fp,l9 X ψ H b)(ho:∀b∈fp,∃o,s.heap.get? b=aj o/\∀v,o.data≠.cell v):Inv X (ψ++Ck fp s.heap) σ H s :=
 I.SD λp hp=>(qj.mp hp).elim (λz=>I.pin p (vm _ z)) λz=>by
  let⟨hb,e⟩:=apC z;let⟨f0,f1,f2,_⟩:=hf p.1 hb;let⟨o,e',d⟩:=ho p.1 hb;rw[e]at e';cases e';exact⟨e,f0,f1,f2,d⟩
def Inv.IX{s:cg}(I:Inv X (ψ++pl) σ H s):Inv X ψ σ H s:=I.SD λp hp=>I.pin p (vm _ (IT _ hp))
private theorem aEH{g:TG}(hp:PassesOwn (dz X.prog X.w) X.A X.env X.xe)(hi:PI X tg iter wi)(hg:PG X tg g)(hb:kg X body tb)
  (hs:∀x,E4 iter X.env x=pure x:=by intro _;rfl):PS X (.For tg iter body [] pos) (aPR wi g tb):=by
 intro ψ s σ H D I h;refine wpAny_For (dH (hi ψ s σ H _ I h) λv s1 h1=>dH h1 λGb s2 h2=>?_) hs;let⟨it,fp,tn,J,H2,e,I2,T,bg,f2,W,⟨m0,w0⟩,turn⟩:=h2;subst e;have AJ:∀{H':Hp},(∀b∈fp,H' b=bh)->∀b∈fp,l9 X ψ H' b:=λhn b hb=>⟨hn b hb,(f2 b hb).2⟩;refine codeAny_forLoop_any (λn s'=>∃i aI H',Inv X ψ aI H' s'/\tn i s'.heap/\(∀b∈fp,H' b=bh)/\W i n aI H') ?_ m0 ⟨0,σ,H2,I2,bg,λb hb=>(f2 b hb).1,w0⟩;rintro n s3 ⟨i,AW,H3,I3,ef,Qf,w3⟩;rcases turn i n AW H3 w3 with⟨stop,qn⟩|⟨go,N,hN,step⟩
 .refine EV hp (dH (T.done X rfl rfl rfl (λh=>h) (λ_ h=>h) i ψ s3 AW H3 X.xe I3 (AJ Qf) ef stop) ?_);rintro r s4 ⟨hr,I4⟩;subst hr;exact wpAny_execs_nil ⟨AW,H3,I4,qn⟩
 .refine EV hp (dH (T.item X rfl rfl rfl (λh=>h) (λ_ h=>h) i ψ s3 AW H3 X.xe I3 (AJ Qf) ef go) ?_);rintro r s4 ⟨u,hr,h4⟩;subst hr;refine EV hp (dH h4 λ_ s5 ⟨x,H5,I5,r5,y5,JG,Yz⟩=>?_);have I5':=I5.pinned (AJ Yz) (T.obj _ _ JG);refine EV hp (dH (hg _ s5 AW H5 x u _ I5' r5 (step x H5 y5)) λ_ s6 ⟨WX,H6,I6,q6⟩=>?_);refine EV hp (dH (hb _ s6 WX H6 _ I6 q6) λf s7 q7=>?_)
  have again:∀{ml:St}{H7:Hp},Inv X (ψ++Ck fp s5.heap) ml H7 s7->N ml H7->∃m,m<n/\∃i aI H',Inv X ψ aI H' s7/\tn i s7.heap/\(∀b∈fp,H' b=bh)/\W i m aI H':=λ{ml H7} I7 n7=>by
   let⟨m',hm,w7⟩:=hN ml H7 n7;refine⟨m',hm,i+1,ml,H7,I7.IX,T.keep _ _ _ JG λb hb o e=>(I7.pin (b,o) (vm _ (vm _ (vX hb e)))).1,λb hb=>?_,w7⟩;let⟨o,e,d⟩:=T.obj _ _ JG b hb;exact(I7.pin (b,o) (vm _ (vm _ (vX hb e)))).2.1
  cases f with
  |next=>let⟨ml,H7,I7,n7⟩:=q7;exact again I7 n7
  |cont=>let⟨ml,H7,I7,n7⟩:=q7;exact again I7 n7
  |brk=>let⟨ml,H7,I7,q7⟩:=q7;exact⟨ml,H7,I7.IX,q7⟩
  |ret v=>let⟨x7,ml,H7,I7,r7,q7⟩:=q7;exact⟨x7,ml,H7,I7.IX,r7,q7⟩
end
end
section
@[simp]def R2:=V->V->Hp->VK->Prop
abbrev b8(X:Cx)(f:au->au->Sem au)(r:R2):Prop :=
 ∀(ψ:List (bw×Obj))(s:cg)(σ:St)(H:Hp)(x y:V)(v u:au)(Q:VK),Inv X ψ σ H s->RelV x v->RelV y u->r x y H Q ->
  dj (dz X.prog X.w) X.A (f v u) (EP X ψ σ Q) X.xe s
abbrev Oo(X:Cx)(f:au->Sem au)(r:V->Hp->VK->Prop):Prop :=
 ∀(ψ:List (bw×Obj))(s:cg)(σ:St)(H:Hp)(x:V)(v:au)(Q:VK),Inv X ψ σ H s->RelV x v->r x H Q ->
  dj (dz X.prog X.w) X.A (f v) (EP X ψ σ Q) X.xe s
abbrev xc(X:Cx)(f:au)(r:List V->Hp->VK->Prop):Prop :=
 ∀(ψ:List (bw×Obj))(s:cg)(σ:St)(H:Hp)(xs:List V)(us:List au)(Q:VK),Inv X ψ σ H s->Vals xs us->r xs H Q ->
  dj (dz X.prog X.w) X.A (call f us) (EP X ψ σ Q) X.xe s
abbrev AZ(r:R2)(ta tb:TE):TE:=λσ H Q=>ta σ H λx H1=>tb σ H1 λy H2=>r x y H2 Q
abbrev Xb(r:V->Hp->VK->Prop)(ta:TE):TE:=λσ H Q=>ta σ H λx H1=>r x H1 Q
abbrev rI(C:Int->Int->Prop)(g:Int->Int->V):R2:=λx y H Q=>∃i j,x=.int i/\y=.int j/\C i j/\Q (g i j) H
abbrev rh(g:Int->Int->V):R2:=λx y H Q=>∃i j,x=.int i/\y=.int j/\Q (g i j) H
abbrev rU(g:Int->V):V->Hp->VK->Prop:=λx H Q=>∃i,x=.int i/\Q (g i) H
variable{r:R2}
section
variable{X:Cx}{a b:ig}{ta tb:TE}{pos:Pos}
def Np(ha:PE X a ta)(hb:PE X b tb){s:cg}{σ:St}{H:Hp}{R:V->V->Hp->Prop}(I:Inv X ψ σ H s)
  (h:ta σ H λx H1=>tb σ H1 λy H2=>R x y H2){Q:au->cg->Prop}{f:au->au->Sem au}
  (hf:∀v u s2 x y H2,Inv X ψ σ H2 s2->RelV x v->RelV y u->R x y H2->dj (dz X.prog X.w) X.A (f v u) Q X.xe s2) :
  dj (dz X.prog X.w) X.A (eval a X.env) (λv ai=>dj (dz X.prog X.w) X.A (eval b X.env) (λu fg=>dj (dz X.prog X.w) X.A (f v u) Q X.xe fg) X.xe ai) X.xe s:=by
 refine dH (ha ψ s σ H _ I h) ?_;rintro v s1 ⟨x,H1,I1,r1,q1⟩;refine dH (hb ψ s1 σ H1 _ I1 q1) ?_;rintro u s2 ⟨y,H2,I2,r2,q2⟩;exact hf v u s2 x y H2 I2 r1 r2 q2
def aKM(ho:b8 X (zc op) r)(ha:PE X a ta)(hb:PE X b tb):PE X (.BinOp a op b pos) (AZ r ta tb):=by
 intro ψ s σ H Q I h;exact wpAny_BinOp (Np ha hb I h λv u s2 x y H2 I2 rx ry q=>ho ψ s2 σ H2 x y v u Q I2 rx ry q)
def aKN{r:V->Hp->VK->Prop}(ho:Oo X (unaryOp op) r)(ha:PE X a ta):PE X (.UnaryOp op a pos) (Xb r ta):=by
 intro ψ s σ H Q I h;exact UnaryOp_ (dH (ha ψ s σ H _ I h) (by rintro v s1 ⟨x,H1,I1,r1,q1⟩;exact ho ψ s1 σ H1 x v Q I1 r1 q1))
def F4{g:Int->Int->Int}
  (rule:∀(i j:Int)(t u:Tok)(s:cg)(Q:au->cg->Prop)(E:au->cg->Prop),C i j->Q (.int (g i j) s.toks) {s with toks:=s.toks+1}->dj (dz X.prog X.w) X.A (f (.int i t) (.int j u)) Q E s) :
  b8 X f (rI C λi j=>.int (g i j)):=by
 intro ψ s σ H x y v u Q I rx ry h;let⟨i,j,rfl,rfl,hc,q⟩:=h;let⟨t,rfl⟩:=rx;let⟨t',rfl⟩:=ry;exact rule i j t t' s _ _ hc ⟨.int (g i j),H,I.tok _,⟨_,rfl⟩,q⟩
def Vc{g:Int->Int->Int}
  (rule:∀(i j:Int)(t u:Tok)(s:cg)(Q:au->cg->Prop)(E:au->cg->Prop),Q (.int (g i j) s.toks) {s with toks:=s.toks+1}->dj (dz X.prog X.w) X.A (f (.int i t) (.int j u)) Q E s) :
  b8 X f (rh λi j=>.int (g i j)):=by
 intro ψ s σ H x y v u Q I rx ry h;let⟨i,j,rfl,rfl,q⟩:=h;let⟨t,rfl⟩:=rx;let⟨t',rfl⟩:=ry;exact rule i j t t' s _ _ ⟨.int (g i j),H,I.tok _,⟨_,rfl⟩,q⟩
def Nn{g:Int->Int->Bool}
  (rule:∀(i j:Int)(t u:Tok)(s:cg)(Q:au->cg->Prop)(E:au->cg->Prop),Q (.bool (g i j)) s->dj (dz X.prog X.w) X.A (f (.int i t) (.int j u)) Q E s) :
  b8 X f (rh λi j=>.bl (g i j)):=by
 intro ψ s σ H x y v u Q I rx ry h;let⟨i,j,rfl,rfl,q⟩:=h;let⟨t,rfl⟩:=rx;let⟨t',rfl⟩:=ry;exact rule i j t t' s _ _ ⟨.bl (g i j),H,I,rfl,q⟩
abbrev Nm(i j:Int):Prop:=0<j/\j<1073741824
abbrev Nl(i j:Int):Prop:=0<=j/\j<=1000000/\i.natAbs<2^64
abbrev DY(i j:Int):Prop:=(-(2^64)<i/\i<2^64)∨(-(2^64)<j/\j<2^64)
def DY.ok{i j:Int}(h:DY i j):IntMulOk i j:=by
 rcases h with⟨h1,h2⟩|⟨h1,h2⟩
 .exact .of_left (intBits_le_64 h1 h2)
 .exact .of_right (intBits_le_64 h1 h2)
def aEM:b8 X (zc .Add) (rh λi j=>.int (i+j)):=Vc λ_ _ _ _ _ _ _ q=>add_int q
def aEN:b8 X (zc .Sub) (rh λi j=>.int (i - j)):=Vc λ_ _ _ _ _ _ _ q=>sub_int q
def aEO:b8 X (zc .Mult) (rI DY λi j=>.int (i*j)):=F4 λ_ _ _ _ _ _ _ hc q=>mul_int q hc.ok
def Zy:b8 X (zc .FloorDiv) (rI Nm λi j=>.int (i / j)):=F4 λi j _ _ _ _ _ hc q=>by
 have h1:(0:Int)<j:=hc.1;have h2:j<1073741824:=hc.2;exact floordiv_int ⋯ (by rw[Int.fdiv_eq_ediv_of_nonneg i ⋯];exact q) (.inl (PyProof.noPylong_small ⋯))
def aEP:b8 X (zc .Mod) (rI (λ_ j=>0<j) λi j=>.int (i%j)):=F4 λi j _ _ _ _ _ hc q=>by
 have h1:(0:Int)<j:=hc;exact mod_int' ⋯ (by rw[Int.fmod_eq_emod_of_nonneg i ⋯];exact q)
def aEQ:b8 X (zc .Pow) (rI Nl λi j=>.int (i^j.toNat)):=F4 λ_ _ _ _ _ _ _ hc q=>pow_int_small hc.1 hc.2.1 hc.2.2 q
def W9{g:Int->Int}
  (rule:∀(i:Int)(t:Tok)(s:cg)(Q:au->cg->Prop)(E:au->cg->Prop),Q (.int (g i) s.toks) {s with toks:=s.toks+1}->dj (dz X.prog X.w) X.A (f (.int i t)) Q E s) :
  Oo X f (rU λi=>.int (g i)):=by
 intro ψ s σ H x v Q I rx h;let⟨i,rfl,q⟩:=h;let⟨t,rfl⟩:=rx;exact rule i t s _ _ ⟨.int (g i),H,I.tok _,⟨_,rfl⟩,q⟩
def aER:Oo X (unaryOp .USub) (rU λi=>.int (-i)):=W9 λ_ _ _ _ _ q=>neg_int q
end
section
variable{a b c:ig}{ta tb tc:TE}{pos:Pos}
def aKP:b8 X (qb .Lt) (rh λi j=>.bl (decide (i<j))):=Nn λ_ _ _ _ _ _ _ q=>lt_int q
def aKQ:b8 X (qb .LtE) (rh λi j=>.bl (decide (i<=j))):=Nn λ_ _ _ _ _ _ _ q=>le_int q
def aKR:b8 X (qb .Gt) (rh λi j=>.bl (decide (j<i))):=Nn λ_ _ _ _ _ _ _ q=>gt_int q
def b8.or(h:b8 X f r)(h':b8 X f r'):b8 X f (λx y H Q=>r x y H Q∨r' x y H Q):=by
 intro ψ s σ H x y v u Q I rx ry q;rcases q with q|q
 .exact h ψ s σ H x y v u Q I rx ry q
 .exact h' ψ s σ H x y v u Q I rx ry q
def aPU(b:ig)(h:op≠.In:=by decide)(h2:op≠.NotIn:=by decide):zf op b=ao:=by
 have e1:(op==vh.In)=ao:=by cases op<;>first|rfl|exact absurd rfl h
 have e2:(op==vh.NotIn)=ao:=by cases op<;>first|rfl|exact absurd rfl h2
 cases b<;>simp[zf,e1,e2]
def Zx(ho:b8 X (qb op) r)(ha:PE X a ta)(hb:PE X b tb)(hm:zf op b=ao):PE X (.Compare a [op] [b] pos) (AZ r ta tb):=by
 intro ψ s σ H Q I h;exact wpAny_Compare1 (Np ha hb I h λv u s2 x y H2 I2 rx ry q=>ho ψ s2 σ H2 x y v u Q I2 rx ry q) hm
abbrev Lq(t:TE):TT:=λσ H Q=>t σ H λx H'=>∃k,x=.bl k/\Q k H'
def Zw(ho:b8 X (qb op) r)(ha:PE X a ta)(hb:PE X b tb)(hm:zf op b=ao):PT X (.Compare a [op] [b] pos) (Lq (AZ r ta tb)):=by
 intro ψ s σ H Q I h
 refine wpAny_isTrue_Compare1 (dH (ha ψ s σ H _ I h) λv s1 ⟨x,H1,I1,r1,q1⟩=>dH (hb ψ s1 σ H1 _ I1 q1) λu s2 ⟨y,H2,I2,r2,q2⟩ =>
  dH (ho ψ s2 σ H2 x y v u _ I2 r1 r2 q2) λc s3 ⟨z,H3,I3,r3,k,e,q3⟩=>?_) hm
 subst e;cases r3;exact xt ⟨H3,I3,q3⟩
abbrev LX(r r':R2)(ta tb tc:TE):TE:=λσ H Q=>ta σ H λx H1=>tb σ H1 λy H2=>r x y H2 λz H3=>∃k,z=.bl k /\
 (if k=ak then tc σ H3 λw' H4=>r' y w' H4 Q else Q (.bl ao) H3)
def as4(ho:b8 X (qb op) r)(cS:b8 X (qb mv) r')(ha:PE X a ta)(hb:PE X b tb)(hc:PE X c tc)
  (hm:lastMarks [op,mv] [b,c]=ao:=by with_unfolding_all rfl):PE X (.Compare a [op,mv] [b,c] pos) (LX r r' ta tb tc):=by
 intro ψ s σ H Q I h
 refine Compare_chain (dH (ha ψ s σ H _ I h) λv s1 ⟨x,H1,I1,r1,q1⟩=>chain_link (dH (hb ψ s1 σ H1 _ I1 q1) λu s2 ⟨y,H2,I2,r2,q2⟩ =>
  dH (ho ψ s2 σ H2 x y v u _ I2 r1 r2 q2) λd s3 ⟨z,H3,I3,r3,k,e,q3⟩=>?_)) hm
 subst e;cases r3;refine xt ?_;cases k with
 |false=>exact ite_ff ⟨.bl ao,H3,I3,rfl,q3⟩
 |true=>exact ite_tt (chain_last (dH (hc ψ s3 σ H3 _ I3 q3) λw' s4 ⟨z',H4,I4,r4,q4⟩=>cS ψ s4 σ H4 y z' u w' Q I4 r2 r4 q4))
def as5(ho:b8 X (qb op) r)(cS:b8 X (qb mv) r')(ha:PE X a ta)(hb:PE X b tb)(hc:PE X c tc)
  (hm:lastMarks [op,mv] [b,c]=ao:=by with_unfolding_all rfl):PT X (.Compare a [op,mv] [b,c] pos) (Lq (LX r r' ta tb tc)):=by
 intro ψ s σ H Q I h
 refine isTrue_chain (dH (ha ψ s σ H _ I h) λv s1 ⟨x,H1,I1,r1,q1⟩=>test_link (dH (hb ψ s1 σ H1 _ I1 q1) λu s2 ⟨y,H2,I2,r2,q2⟩ =>
  dH (ho ψ s2 σ H2 x y v u _ I2 r1 r2 q2) λd s3 ⟨z,H3,I3,r3,k,e,q3⟩=>?_)) hm
 subst e;cases r3;refine xt ?_;cases k with
 |false =>
  let⟨k',e',q'⟩:=q3;cases e';exact ite_ff ⟨H3,I3,q'⟩
 |true =>
  refine ite_tt (test_last (dH (hc ψ s3 σ H3 _ I3 q3) λw' s4 ⟨z',H4,I4,r4,q4⟩=>dH (cS ψ s4 σ H4 y z' u w' _ I4 r2 r4 q4) ?_));rintro d' s5 ⟨z2,H5,I5,r5,k2,e2,q5⟩;subst e2;cases r5;exact xt ⟨H5,I5,q5⟩
def EG:(dg:Nat)<2^63:=by rw[sizeLine_eq];decide
def ak7:b8 X (zc .Add) (λx y H Q=>∃i j,x=.str i/\y=.str j/\i.length+j.length<=dg/\Q (.str (i++j)) H):=by
 intro ψ s σ H x y v u Q I rx ry h;let⟨i,j,rfl,rfl,hz,q⟩:=h;let⟨t,rfl⟩:=rx;let⟨t',rfl⟩:=ry;exact add_str (λt' tk=>⟨.str (i++j),H,I.tok _,⟨_,rfl⟩,q⟩) hz
def vals1{x:V}(r:Vals [x] us):∃u,us=[u]/\RelV x u:=by
 cases r with
 |cons r1 r2=>cases r2;exact⟨_,rfl,r1⟩
def vals2{x:V}(r:Vals [x,y] us):∃u w',us=[u,w']/\RelV x u/\RelV y w':=by
 cases r with
 |cons r1 r2 =>
  cases r2 with
  |cons r3 r4=>cases r4;exact⟨_,_,rfl,r1,r3⟩
def apD:xc X (.type "int") (λxs H Q=>(∃i,xs=[.int i]/\Q (.int i) H)∨∃k,xs=[.bl k]/\Q (.int (if k then 1 else 0)) H):=by
 intro ψ s σ H xs us Q I r h;rcases h with⟨i,rfl,q⟩|⟨k,rfl,q⟩
 .obtain⟨u,rfl,t,rfl⟩:=vals1 r;exact call_int_int ⟨.int i,H,I,⟨_,rfl⟩,q⟩
 .obtain⟨u,rfl,r1⟩:=vals1 r;cases r1;exact call_int_bool ⟨.int (if k then 1 else 0),H,I.tok _,⟨_,rfl⟩,q⟩
end
end
variable{env:Env}
section
structure zC(h:lg)(x dx C:bw)(mA:Str->Option au):Prop where
 obj:h.get? x=aj (xl C dx)
 ns:h.Ns1 dx mA
 ne:dx≠x
private theorem apE{mA:Str->Option au}(n:h.Ns1 dx mA):∃od,h.get? dx=aj od/\∀name,Ip name od=aj (mA name):=by
 let⟨o,es,ep,ho,hd,hk,_,hm⟩:=n;refine⟨o,ho,λname=>?_⟩;have e:=hm name;unfold nsFind findBy at e;rw[←Array.find?_toList]at e;unfold Ip;rw[hd];dsimp only;split
 ·rename_i y q;rw[q]at e;exact congrArg aj e
 .rename_i q;rw[q]at e
  have a:es.toList.any (·.refKey)=ao:=by
   rw[List.any_eq_false];intro y hy;let⟨z,t,ba⟩:=hk y (Array.mem_toList_iff.mp hy);simp[ip.refKey,ba]
  have a':¬ es.toList.any (·.refKey)=ak:=by rw[a];exact ql
  rw[if_neg a'];exact congrArg aj e
def zC.look{x:bw}{mA:Str->Option au}(I:zC h x dx C mA):∃od,PySem.W.InstAt h x (xl C dx) C (aj od)/\∀name,Ip name od=aj (mA name) :=
 let⟨od,ho,hl⟩:=apE I.ns
 ⟨od,⟨I.obj,rfl,rfl,ho⟩,hl⟩
section
variable{prog:mz}{w:jr}{A:jf}{s:cg}{K:jq}{x:bw}{mA:Str->Option au}{v:au}
def get_map{expr:Bool}(X:K.In s.heap)(I:zC s.heap x dx C mA)(hg:E2 K C name=ak)(hh:IB K C=ak)
  (ha:ou K (.ref C) name=aj bh)(hv:mA name=aj v)(XO:PySem.W.handedIn v=ak)(h:Q v {s with toks:=s.toks+1}) :
  dj (dz prog w) A (getAttr (.ref x) name expr) Q E s:=by
 let⟨od,J,hl⟩:=I.look;exact PySem.W.get_value X J (NW hg).1 (PySem.W.findObj_own hh ha rfl (by rw[hl,hv])) XO h
def as6(X:K.In s.heap)(I:zC s.heap x dx C mA)(hg:E2 K C name=ak)
  (hf:ou K (.ref C) name=aj (aj (.ref f)))(ht:Co K (.ref f)=ak)(hv:mA name=bh)(h:Q (.ref f,[.ref x]) s) :
  dj (dz prog w) A (getMethod (.ref x) name pl) Q E s:=by
 let⟨od,J,hl⟩:=I.look;exact PySem.W.method_fn X J (NW hg).1 (NW hg).2 hf (beq_iff_eq.mp ht) (by show(Ip name od).map (·.isSome)=aj ao;rw[hl,hv];rfl) h
def Zv{ns:List Str}(X:K.In s.heap)(I:zC s.heap x dx C mA)
  (hs:ou K (.ref C) "__setattr__"=aj (aj (.builtin "object.__setattr__")))(hp:PySem.W.plainOver K C=ak)(ht:PySem.W.takerIn K C name=aj bh)(hh:IB K C=ak)
  (hw:PySem.Within mA ns)(hsz:ns.length<=dg)
  (h:∀h',zC h' x dx C (λy=>if y=name then aj v else mA y)->kh dx s.heap h'->Q () {s with heap:=h',toks:=s.toks+2}) :
  dj (dz prog w) A (setAttr (.ref x) name v) Q E s:=by
 let⟨od,J,hl⟩:=I.look;refine PySem.W.set_plain X J hs (PySem.W.osa_open (s:={s with toks:=s.toks+1}) (r:=none) X J hp ht λb=>?_);let⟨cd,hc,jv⟩:=PySem.W.any_some hh;have hx:s.heap.get? x=aj ⟨.ref C,aj dx,.plain,#[]⟩:=I.obj;refine aq (cj (aq (aq (wpAny_loadPart hx (aq (xg.here (s:={s with toks:=s.toks+1}) (PySem.W.looks_clsIn X hc) ?_))))));rw[jv];refine cj (a:=some dx) (aq (cj (aq ?_)));refine wpAny_nsSet1 (s:={s with toks:=s.toks+1}) I.ns λh' Go Be=>?_;let⟨oD,esD,epD,X0,Yd,Yh⟩:=Go.count (PySem.Within.cons name v hw);refine aq (wpAny_lookBehind X0 (by rw[Yd];exact pastItsLine_dict (qw Yh (by rw[qm];omega))) ?_);exact cj (h _ ⟨(Be.2 _ (Ne.symm I.ne)).trans I.obj,Go,I.ne⟩ Be)
def as7(X:K.In s.heap)(hm:PySem.W.makesIn K C=ak)
  (hi:ou K (.ref C) "__init__"=aj (aj (.ref f)))(hf:Ao K (.ref f)=aj (.type "function"))
  (h:kc (dz prog w) (A.under (.builtin "type.__call__" ⟨.ref C::vs,kw⟩)) (.call (.ref f) ⟨.ref (s.heap.objs.size+1)::vs,kw⟩) (PySem.W.InitBack (s.heap.objs.size+1) R)
   {s with heap:=(s.heap.push zy).push (xl C s.heap.objs.size)}) :
  kc (dz prog w) A (.call (.ref C) ⟨vs,kw⟩) R s:=by
 let⟨hh,g,d,t,os⟩:=s;exact PySem.W.make_core (PySem.W.makes_of X hm) (PySem.W.looks_findIn X hi) (λself=>PySem.W.bind_fn X self hf) (.inl rfl) h
end
abbrev vY(f:Str)(v:V):List (Str×V)->List (Str×V)
 |[]=>[(f,v)]
 |(g,x)::r=>if g=f then(g,v)::r else(g,x)::vY f v r
def Wl(f g:Str)(v:V):∀fs:List (Str×V),(vY f v fs).lookup g=if g=f then aj v else fs.lookup g
 |[]=>by
  show zu g [(f,v)]=_;by_cases h:g=f
  .have hb:(g==f)=ak:=beq_iff_eq.mpr h;simp only[zu,hb,if_pos h]
  .have hb:(g==f)=ao:=beq_eq_false_iff_ne.mpr h;simp only[zu,hb,if_neg h]
 |(k,x)::r=>by
  have ih:=Wl f g v r;rw[show vY f v ((k,x)::r)=(if k=f then(k,v)::r else(k,x)::vY f v r)from rfl];by_cases hk:k=f
  .rw[if_pos hk];by_cases h:g=k
   .have hb:(g==k)=ak:=beq_iff_eq.mpr h;simp only[zu,hb,if_pos (h.trans hk)]
   .have hb:(g==k)=ao:=beq_eq_false_iff_ne.mpr h;simp only[zu,hb,if_neg (λe:g=f=>h (e.trans hk.symm))]
  .rw[if_neg hk];by_cases h:g=k
   .have hb:(g==k)=ak:=beq_iff_eq.mpr h;simp only[zu,hb,if_neg (λe:g=f=>hk (h.symm.trans e))]
   .have hb:(g==k)=ao:=beq_eq_false_iff_ne.mpr h;simp only[zu,hb];exact ih
def NU(f:Str)(v:V):∀fs:List (Str×V),f∈(vY f v fs).map (·.1)/\∀g,g∈fs.map (·.1)->g∈(vY f v fs).map (·.1)
 |[]=>⟨by simp[vY],λg h=>by simp at h⟩
 |(k,x)::r=>by
  let⟨i1,i2⟩:=NU f v r;rw[show vY f v ((k,x)::r)=(if k=f then(k,v)::r else(k,x)::vY f v r)from rfl];by_cases hk:k=f
  .rw[if_pos hk];subst hk;exact⟨by simp,λg h=>by simpa using h⟩
  .rw[if_neg hk];refine⟨?_,λg h=>?_⟩
   .rw[jc];exact qp _ i1
   .rw[jc]at h ⊢;rcases ju.mp h with e|e
    .exact ju.mpr (.inl e)
    .exact qp _ (i2 g e)
def Wj(f:Str)(v:V):∀fs:List (Str×V),(vY f v fs).length<=fs.length+1
 |[]=>by simp[vY]
 |(k,x)::r=>by
  have ih:=Wj f v r;rw[show vY f v ((k,x)::r)=(if k=f then(k,v)::r else(k,x)::vY f v r)from rfl];by_cases hk:k=f
  .rw[if_pos hk,qm,qm];omega
  .rw[if_neg hk,qm,qm];omega
def vV.some_of{o:Option au}(r:vV (aj v) o):∃u,o=aj u/\RelV v u:=by
 cases o with
 |none=>exact(show False from r).elim
 |some u=>exact⟨u,rfl,r⟩
def vV.none_of{o:Option au}(r:vV bh o):o=bh:=by
 cases o with
 |none=>rfl
 |some u=>exact(show False from r).elim
def apF(r:RelV v u):PySem.W.handedIn u=ak:=by
 cases v with
 |ag=>cases(show u=au.none from r);rfl
 |bl b=>cases(show u=au.bool b from r);rfl
 |int i=>let⟨t,e⟩:=(show ∃t,u=au.int i t from r);cases e;rfl
 |str x=>let⟨t,e⟩:=(show ∃t,u=au.str x t from r);cases e;rfl
 |GF b=>let⟨t,e⟩:=(show ∃t,u=au.bytes b t from r);cases e;rfl
 |GB b=>let⟨t,e⟩:=(show ∃t,u=au.float b t from r);cases e;rfl
 |ref a=>cases(show u=au.ref a from r);rfl
 |ty n=>cases(show u=au.type n from r);rfl
section
variable{w:jr}{h:lg}{a:bw}{fs:List (Str×V)}
def My(af:bP P w H h)(e:H a=aj (.ins C dx fs)):∃mA,zC h a dx C mA/\(∀f,vV (fs.lookup f) (mA f))/\PySem.Within mA (fs.map (·.1))/\fs.length<=1000/\H dx=aj (.own a):=by
 let⟨d,z,ne,ob,mA,n,r,q⟩:=(show iT P w H h a (.ins C dx fs)from af a _ e);exact⟨mA,⟨ob,n,ne⟩,r,q,z,d⟩
end
structure iE(K:jq)(C:bw):Prop where
 pg:E2 K C Str.empty=ak
 hd:IB K C=ak
 po:PySem.W.plainOver K C=ak
 sa:ou K (.ref C) "__setattr__"=aj (aj (.builtin "object.__setattr__"))
def iE.get{K:jq}(c:iE K C)(f:Str):E2 K C f=ak:=c.pg
abbrev nA(K:jq)(C:bw)(f:Str):Prop:=ou K (.ref C) f=aj bh
def nA.FG{K:jq}(n:nA K C f):PySem.W.takerIn K C f=aj bh:=by
 unfold PySem.W.takerIn;rw[show ou K (.ref C) f=aj bh from n];rfl
structure Meth(K:jq)(C:bw)(m:Str)(f:bw):Prop where
 at_:ou K (.ref C) m=aj (aj (.ref f))
 fn:Co K (.ref f)=ak
 kp:wz K (.ref f)=ak
section
variable{X:Cx}{ψ:List (bw×Obj)}{s:cg}{a:bw}{fs:List (Str×V)}{v:V}{A:jf}
def ak9{b:Bool}(I:Inv X ψ σ H s)(e:H a=aj (.ins C dx fs))(c:iE X.K C)(n:nA X.K C f)(l:fs.lookup f=aj v)
  (h:∀u s',Inv X ψ σ H s'->RelV v u->Q u s'):dj (dz X.prog X.w) A (getAttr (.ref a) f b) Q E s:=by
 let⟨mA,O,r,_,_,_⟩:=My I.af e;let⟨u,hu,ru⟩:=vV.some_of (v:=v) (o:=mA f) (by rw[←l];exact r f);exact get_map I.de O (c.get f) c.hd n hu (apF ru) (h u _ (I.tok _) ru)
def V4{m:Str}{g:bw}(I:Inv X ψ σ H s)(e:H a=aj (.ins C dx fs))(c:iE X.K C)(k:Meth X.K C m g)(l:fs.lookup m=bh)
  (h:Q (.ref g,[.ref a]) s):dj (dz X.prog X.w) A (getMethod (.ref a) m pl) Q E s:=by
 let⟨mA,O,r,_,_,_⟩:=My I.af e;have hn:mA m=bh:=vV.none_of (by rw[←l];exact r m);exact as6 I.de O (c.get m) k.at_ k.fn hn h
def akA(I:Inv X ψ σ H s)(e:H a=aj (.ins C dx fs))(c:iE X.K C)(n:nA X.K C f)(hl:fs.length<1000)(ry:RelV y u)
  (h:∀s',Inv X ψ σ (upd H a (.ins C dx (vY f y fs))) s'->Q () s'):dj (dz X.prog X.w) A (setAttr (.ref a) f u) Q E s:=by
 let⟨mA,O,r,wi,_,ho⟩:=My I.af e;have hz:(fs.map (·.1)).length<=dg:=by rw[dw,sizeLine_eq];omega
 refine Zv I.de O c.sa c.po n.FG c.hd wi hz λh' O' sb=>h _ ?_;have hd:∃o,h'.get? dx=aj o:=let⟨o,_,_,e',_⟩:=O'.ns;⟨o,e'⟩
 refine I.write (x:=a) (e:=dx) (by rw[e];exact True.intro) (.inr ho) (λb q hb z=>(sb.2 b hb).trans z) hd ?_;refine⟨by rw[aP O.ne];exact ho,?_,O.ne,O'.obj,_,O'.ns,λg=>?_,λg hg=>?_⟩
 .have:=Wj f y fs;omega
 .show vV ((vY f y fs).lookup g) (if g=f then aj u else mA g);rw[Wl];by_cases q:g=f
  .rw[if_pos q,if_pos q];exact ry
  .rw[if_neg q,if_neg q];exact r g
 .by_cases q:g=f
  .rw[q];exact(NU f y fs).1
  .refine(NU f y fs).2 g (wi g λz=>hg ?_);show(if g=f then aj u else mA g)=bh;rw[if_neg q];exact z
def Inv.made(I:Inv X ψ σ H s):Inv X ψ σ (upd (upd H s.heap.objs.size (.own (s.heap.objs.size+1))) (s.heap.objs.size+1) (.ins C s.heap.objs.size []))
  {s with heap:=(s.heap.push zy).push (xl C s.heap.objs.size)}:=by
 have e1:(s.heap.push zy).get? s.heap.objs.size=aj zy:=jd s.heap rfl
 have e2:((s.heap.push zy).push (xl C s.heap.objs.size)).get? (s.heap.objs.size+1)=aj (xl C s.heap.objs.size):=by
  have:=jd (s.heap.push zy) (o:=xl C s.heap.objs.size) rfl
  rwa [Cr]at this
 have e3:(s.heap.push zy).Ns s.heap.objs.size (λ_=>bh):=⟨zy,#[],_,e1,rfl,(λe he=>absurd he (by simp)),λ_=>rfl⟩;have I1:=I.laid (a:=s.heap.objs.size) (o:=.own (s.heap.objs.size+1)) (h':=s.heap.push zy) (t':=s.toks) (λb u q=>cu _ q) (gw _) ⟨_,e1⟩;refine I1.laid (a:=s.heap.objs.size+1) (o:=.ins C s.heap.objs.size []) (t':=s.toks) (λb u q=>cu _ q) (Cn (Cr _ _)) ?_;have ne:s.heap.objs.size≠s.heap.objs.size+1:=jo (Nat.lt_succ_self _);refine⟨by rw[aP ne,aK],qz _,ne,e2,λ_=>bh,(Heap.Ns1.of_empty e3).at λo q=>cu _ q,λ_=>True.intro,λy hy=>absurd rfl hy⟩
def Zu{prog:mz}{w:jr}{f:Str}{s:cg}(hb:xq e f env (eval e env)=eval e env)
  (h:dj (dz prog w) A (eval e env) (λo ai=>dj (dz prog w) A (getAttr o f ak) Q E ai) E s):dj (dz prog w) A (eval (.Attribute e f pos) env) Q E s :=
 Attribute_any_ h (by rw[arm_eval_Attribute,hb])
end
abbrev aPV(K:jq)(ta:TE)(f:Str):TE:=λσ H Q=>ta σ H λx H1=>∃a C dx fs v,x=.ref a/\H1 a=aj (.ins C dx fs)/\iE K C/\nA K C f/\fs.lookup f=aj v/\Q v H1
abbrev aPW(K:jq)(ta tv:TE)(f:Str):TS:=λD σ H=>tv σ H λy H1=>ta σ H1 λx H2=>∃a C dx fs,x=.ref a/\H2 a=aj (.ins C dx fs)/\iE K C/\nA K C f/\fs.length<1000 /\
 D.nx σ (upd H2 a (.ins C dx (vY f y fs)))
section
variable{X:Cx}{o:ig}{pos:Pos}
def aES(he:PE X e ta)(hb:xq e f X.env (eval e X.env)=eval e X.env):PE X (.Attribute e f pos) (aPV X.K ta f):=by
 intro ψ s σ H Q I h;refine Zu hb (dH (he ψ s σ H _ I h) ?_);rintro u s1 ⟨x,H1,I1,rx,a,C,dx,fs,v,ex,ea,c,n,l,q⟩;subst ex;obtain rfl:u=au.ref a:=rx;exact ak9 I1 ea c n l λu' s2 I2 ru=>⟨v,H1,I2,ru,q⟩
def aET(ha:PE X o ta)(hv:PE X value tv)(hs:md value (aj (.Attribute o f pos')) pos.line X.env=pure ao):PS X (.Assign [.Attribute o f pos'] value pos) (aPW X.K ta tv f):=by
 intro ψ s σ H D I h;refine plainObj_wpAny_Assign_Attribute (dH (hv ψ s σ H _ I h) λu s1 ⟨y,H1,I1,ry,q⟩=>dH (ha ψ s1 σ H1 _ I1 q) ?_) hs;rintro ov s2 ⟨x,H2,I2,rx,a,C,dx,fs,ex,ea,c,n,l,q2⟩;subst ex;obtain rfl:ov=au.ref a:=rx;exact akA I2 ea c n l ry λs3 I3=>⟨σ,_,I3,q2⟩
end
section
end
end
variable{mg:Str->Option au}{base:lg}{outer:List Env}
section
structure lB(qt:Bool)(k:Nat)(A:jf):Prop where
 hd:qt=ao->A.handled=bh
 dp:A.depth+3*k+5<recursionLimit
 un:A.units+16*k+200<qg
def lB.mono{j k:Nat}{A:jf}(r:lB qt k A)(h:j<=k):lB qt j A:=⟨r.hd,by have:=r.dp;omega,by have:=r.un;omega⟩
def lB.deeper{k:Nat}{A:jf}(r:lB qt (k+1) A)(env:Env):lB qt k (A.deeper env) :=
 ⟨r.hd,by have:=r.dp;show A.depth+1+3*k+5<_;omega,by have:=r.un;show A.units+3+16*k+200<_;omega⟩
def akB{A:jf}:(A.under (.builtin "type.__call__" ⟨.ref C::us,kw⟩)).depth=A.depth+1:=by
 first|rfl|simp[jf.under,Code.weight,Code.isCreation,Code.isGuard,Code.isCaller,Code.frames,Code.isFrame,guardIds]
def akC{A:jf}:(A.under (.builtin "type.__call__" ⟨.ref C::us,kw⟩)).units=A.units+1:=by
 first|rfl|simp[jf.under,Code.cUnits,Code.frames,Code.isFrame]
def lB.make{k:Nat}{A:jf}(r:lB qt (k+1) A)(C:bw)(us:List au)(kw:List (Str×au)):lB qt k (A.under (.builtin "type.__call__" ⟨.ref C::us,kw⟩)) :=
 ⟨r.hd,by have:=r.dp;rw[akB];omega,by have:=r.un;rw[akC];omega⟩
def lB.depth{k:Nat}{A:jf}(r:lB qt k A):A.depth<recursionLimit:=by have:=r.dp;omega
def lB.units{k:Nat}{A:jf}(r:lB qt k A):A.units+64<qg:=by have:=r.un;omega
abbrev aPX:TA:=λ_ H Q=>Q [] H
abbrev aKS(ta:TE)(tr:TA):TA:=λσ H Q=>ta σ H λx H1=>tr σ H1 λxs H2=>Q (x::xs) H2
section
variable{X:Cx}{es:List ig}{t:TA}{pos:Pos}
def aEU:PA X [] aPX:=λ_ _ _ _ H Q I h=>Calls.spliced_nil ⟨[],H,I,.nil,h⟩
def Zt(ha:PE X e te)(hr:PA X es t)(hs:jj (e::es) X.env=(ao,eval e X.env)::jj es X.env:=by rfl):PA X (e::es) (aKS te t):=by
 intro pos ψ s σ H Q I h;rw[hs];show dj _ _ (spliced ((ao,eval e X.env)::ux pos (jj es X.env))) _ _ s;refine Calls.spliced_cons (dH (ha ψ s σ H _ I h) ?_);rintro u s1 ⟨x,H1,I1,r1,q1⟩;exact dH (hr pos ψ s1 σ H1 _ I1 q1) (by rintro us s2 ⟨xs,H2,I2,r2,q2⟩;exact⟨x::xs,H2,I2,.cons r1 r2,q2⟩)
abbrev aPY(t:TA):TE:=λσ H Q=>t σ H λxs H1=>xs.length<=dg/\∀p,H1 p=bh->Q (.ref p) (upd H1 p (.tup xs))
abbrev aPZ(t:TA):TE:=λσ H Q=>t σ H λxs H1=>xs.length<=dg/\∀p,H1 p=bh->Q (.ref p) (upd H1 p (.lst xs))
def aEV{x1}(h:PA X es t):PE X (.Tuple es x1 pos) (aPY t):=by
 intro ψ s σ H Q I hq;refine wpAny_Tuple_spliced (dH (h pos ψ s σ H _ I hq) λus s1 ⟨xs,H1,I1,r,z,q⟩=>⟨by rw[←r.length];exact z,?_⟩);have hf:H1 s1.heap.objs.size=bh:=I1.af.fresh (gw _);refine⟨.ref s1.heap.objs.size,upd H1 s1.heap.objs.size (.tup xs),I1.laid (t':=s1.toks) (λb u e=>cu _ e) (gw _) ?_,rfl,q _ hf⟩;exact⟨z,us,r,⟨_,jd _ rfl,rfl,_,rfl⟩⟩
def aEW(h:PA X es t):PE X (.List es pos) (aPZ t):=by
 intro ψ s σ H Q I hq;refine wpAny_List_spliced (dH (h pos ψ s σ H _ I hq) λus s1 ⟨xs,H1,I1,r,z,q⟩=>⟨by rw[←r.length];exact z,?_⟩);have hf:H1 s1.heap.objs.size=bh:=I1.af.fresh (gw _);refine⟨.ref s1.heap.objs.size,upd H1 s1.heap.objs.size (.lst xs),I1.laid (t':=s1.toks) (λb u e=>cu _ e) (gw _) ?_,rfl,q _ hf⟩;exact⟨z,us,0,r,jd _ rfl⟩
end
@[simp]def Sp:=List V->Hp->VK->XK->Prop
@[simp]def Fq:=List Env->Hp->cg->XK->au->cg->Prop
structure zz(P:mz)(w:jr)(K:jq)(mg:Str->Option au)(base:lg)(A:jf)(outer:List Env)(s:cg)(H:Hp):Prop where
 frames:A.frames=aj outer
 mod:Mod K mg base
 bs:∀b o,base.get? b=aj o->s.heap.get? b=aj o/\H b=bh
 lP:base.objs.size<=s.heap.objs.size
 iA:s.heap.FunFrames base outer
 ph:∀b∈frs outer,H b=bh
 af:bP P w H s.heap
 bare:AllBare s.gens
 dS:x6 A H
abbrev CE(outer:List Env)(P:mz)(w:jr)(H:Hp)(s:cg)(Q:VK)(u:au)(s':cg):Prop :=
 ∃v H',s'.os=s.os/\AllBare s'.gens/\Un (frs outer) [] H H' s.heap s'.heap/\bP P w H' s'.heap/\RelV v u/\Q v H'
abbrev CR(CX:Fq)(outer:List Env)(P:mz)(w:jr)(H:Hp)(s:cg)(Q:VK)(E:XK)(r:Result)(s':cg):Prop :=
 match r with
 |.ok (.ret u)=>CE outer P w H s Q u s'
 |.ok _=>False
 |.error e=>CX outer H s E e s'
structure c7(qt:Bool)(P:mz)(w:jr)(K:jq)(mg:Str->Option au)(base:lg)(CX:Fq)(k:Nat)(f:bw)(fd:oh)(ps:List Str)(sp:Sp):Prop where
 len:∀vs H Q E,sp vs H Q E->vs.length=ps.length
 run:∀(A:jf)(outer:List Env)(s:cg)(H:Hp)(args:Args)(us:List au)(vs:List V)(Q:VK)(E:XK),lB qt k A->zz P w K mg base A outer s H->BindsTo s fd args (ps.zip us)->Vals vs us->sp vs H Q E ->
  kc (dz P w) A (.call (.ref f) args) (CR CX outer P w H s Q E) s
def c7.mono{w:jr}{K:jq}{mg:Str->Option au}{base:lg}{j k:Nat}(F:c7 qt P w K mg base CX j f fd ps sp)(h:j<=k) :
  c7 qt P w K mg base CX k f fd ps sp:=⟨F.len,λA outer s H args us vs Q E hr=>F.run A outer s H args us vs Q E (hr.mono h)⟩
def c7.imp{w:jr}{K:jq}{k:Nat}(F:c7 qt P w K mg base CX k f fd ps sp)
  (h:∀vs H Q E,Xf vs H Q E->sp vs H Q E):c7 qt P w K mg base CX k f fd ps Xf :=
 ⟨λvs H Q E q=>F.len vs H Q E (h _ _ _ _ q),λA outer s H args us vs Q E hr he hb hv hs=>F.run A outer s H args us vs Q E hr he hb hv (h _ _ _ _ hs)⟩
def zz.make{w:jr}{K:jq}{A:jf}{s:cg}(e:zz P w K mg base A outer s H)(C:bw)(us:List au)(kw:List (Str×au)) :
  zz P w K mg base (A.under (.builtin "type.__call__" ⟨.ref C::us,kw⟩)) outer s H:=⟨by first|exact e.frames|(simpa[jf.under,Code.envs,Code.isFrame,pushEnvs]using e.frames),e.mod,e.bs,e.lP,e.iA,e.ph,e.af,e.bare,e.dS⟩
section
variable{X:Cx}{ψ:List (bw×Obj)}{s:cg}
def Inv.AR(I:Inv X ψ σ H s):zz X.prog X.w X.K X.mg X.base X.A X.stack s H :=
 ⟨I.ok.frames,I.ok.mod,I.bs,qw I.ok.lP I.sz,I.stack,I.MA,I.af,I.bare,I.dS⟩
end
abbrev Binds(K:jq)(fd:oh)(ps:List Str)(ds:List au):Prop :=
 ∀(s:cg)(us:List au),K.In s.heap->(us++ds).length=ps.length->BindsTo s fd ⟨us,[]⟩ (ps.zip (us++ds))
variable{ps:List Str}
def Binds.all{K:jq}(h:∀us:List au,us.length=ps.length->vg fd ⟨us,[]⟩=pure (ps.zip us)):Binds K fd ps []:=λs us _ hl=>by
 rw[Aq]at hl ⊢;exact .of_eq (h us hl)
section
variable{f C:bw}
structure Mk(K:jq)(C f:bw):Prop where
 makes:PySem.W.makesIn K C=ak
 init:ou K (.ref C) "__init__"=aj (aj (.ref f))
 fn:Co K (.ref f)=ak
 kp:wz K (.ref C)=ak
end
section
end
structure aU(N P:List Str)(sc:dE):Prop where
 kind:sc.kind=.function
 co:sc.isCoroutine=ao
 gen:sc.isGenerator=ao
 nd:N.Nodup
 pre:N.take P.length=P
 par:∀x∈P,sc.names.lookup x=aj .local∨sc.names.lookup x=aj .cell
 aEX:∀y∈sc.names,y.2≠.free
def UD{kindOf:Str->Option yg}{x:Str}:∀{binds:List (Str×au)}{m:Str->Option au},(∀v,(x,v)∉binds)->bindL kindOf binds m x=m x
 |[],_,_=>rfl
 |(n,v)::r,m,h=>by
  unfold bindL;rw[UD λw hw=>h w (qp _ hw)];split
  ·have:x≠n:=by rintro rfl;exact h v xy
   simp[this]
  .rfl
def UC{kindOf:Str->Option yg}{x:Str}:∀{binds:List (Str×au)}{m:Str->Option au},(∀v,(x,v)∉binds)->bindC kindOf binds m x=m x
 |[],_,_=>rfl
 |(n,v)::r,m,h=>by
  unfold bindC;rw[UC λw hw=>h w (qp _ hw)];split
  ·rfl
  .have:x≠n:=by rintro rfl;exact h v xy
   simp[this]
def UB{kindOf:Str->Option yg}{x:Str}{v:au}:∀{P:List Str}{vs:List au}{i:Nat}{m:Str->Option au},P.Nodup->P[i]?=aj x->vs[i]?=aj v->kindOf x=aj .local ->
  bindL kindOf (P.zip vs) m x=aj v
 |[],_,_,_,_,h,_,_=>by simp at h
 |_::_,[],_,_,_,_,h,_=>by simp at h
 |p::P,w::vs,0,m,nd,h1,h2,hk=>by
  simp at h1 h2;subst h1;subst h2;show bindL kindOf ((p,w)::P.zip vs) m p=_;unfold bindL;rw[UD λv hv=>(yc.mp nd).1 (List.of_mem_zip hv).1,if_pos hk];simp
 |p::P,w::vs,i+1,m,nd,h1,h2,hk=>by
  show bindL kindOf ((p,w)::P.zip vs) m x=_;unfold bindL;exact UB (i:=i) (yc.mp nd).2 (by simpa using h1) (by simpa using h2) hk
def UA{kindOf:Str->Option yg}{x:Str}{v:au}:∀{P:List Str}{vs:List au}{i:Nat}{m:Str->Option au},P.Nodup->P[i]?=aj x->vs[i]?=aj v->kindOf x≠aj .local ->
  bindC kindOf (P.zip vs) m x=aj v
 |[],_,_,_,_,h,_,_=>by simp at h
 |_::_,[],_,_,_,_,h,_=>by simp at h
 |p::P,w::vs,0,m,nd,h1,h2,hk=>by
  simp at h1 h2;subst h1;subst h2;show bindC kindOf ((p,w)::P.zip vs) m p=_;unfold bindC;rw[UC λv hv=>(yc.mp nd).1 (List.of_mem_zip hv).1,if_neg hk];simp
 |p::P,w::vs,i+1,m,nd,h1,h2,hk=>by
  show bindC kindOf ((p,w)::P.zip vs) m x=_;unfold bindC;exact UA (i:=i) (yc.mp nd).2 (by simpa using h1) (by simpa using h2) hk
abbrev start(N:List Str)(vs:List V):St:=vs.map aj++Ap (N.length - vs.length) bh
abbrev u0(qt:Bool)(CX:Fq)(P:mz)(w:jr)(K:jq)(mg:Str->Option au)(base:lg)(N:List Str)(qual:Str)(scope:dE)(f:bw)(cd:au)(A:jf)(outer:List Env)(s:cg)(H:Hp)(E:XK):Cx where
 prog:=P
 w:=w
 K:=K
 mg:=mg
 base:=base
 A:=A.deeper (envOfC qual scope s.heap.objs.size f cd)
 N:=N
 av:=s
 aw:=H
 env:=envOfC qual scope s.heap.objs.size f cd
 outer:=outer
 stack:=envOfC qual scope s.heap.objs.size f cd::outer
 ex:=[]
 calm:=!qt
 fn:=λ_=>ak
 pn:=[]
 tp:=[]
 xe:=λe s'=>dj (dz P w) (A.deeper (envOfC qual scope s.heap.objs.size f cd)) (leaving (envOfC qual scope s.heap.objs.size f cd) e) (λ_ rg=>CX outer H s E e rg) (λe' rg=>CX outer H s E e' rg) s'
def TR{sc:dE}{n:Nat}{x:Str}(h:sc.names.lookup x=aj .cell):∃c,(cellsFrom n sc.names []).lookup x=aj c:=by
 have q:=PySem.W.cellsFrom_some sc.names n [] (.inl h);exact Jf.mp q
def apH{w:jr}{K:jq}{N:List Str}{scope:dE}{A:jf}{s s1:cg}{vs:List V}
  (S:aU N ps scope)(hd:qt=ao->A.handled=bh)(e0:zz P w K mg base A outer s H)(hl:vs.length=ps.length)(r:Vals vs us)
  (x:InCallC s s.heap.objs.size (bindL (envOfC qual scope s.heap.objs.size f cd).kindOf (ps.zip us) λ_=>bh) (cellsFrom (s.heap.objs.size+1) scope.names []) (bindC (envOfC qual scope s.heap.objs.size f cd).kindOf (ps.zip us) λ_=>bh) s1) :
  Inv (u0 qt CX P w K mg base N qual scope f cd A outer s H E) [] (start N vs) H s1:=by
 have ij:ps.length<=N.length:=by have:=congrArg Ak S.pre;rw[E0]at this;omega
 let⟨h1,tk,rfl,hk⟩:=x.done;have Dh:∀b:bw,b∉(u0 qt CX P w K mg base N qual scope f cd A outer s H E).ex:=λb z=>absurd (show b∈([]:List bw)from z) (by simp)
 refine⟨⟨e0.mod,S.kind,rfl,rfl,gw _,λy z c h1 h2=>?_,λy hy=>?_,λy c _ h=>?_,λz=>hd (by cases qt with|false=>rfl|true=>cases z),jf.frames_deeper e0.frames,.inr ⟨rfl,rfl⟩,λb z=>absurd z (Dh b),e0.bs,e0.lP,λb _ _=>Dh b,λb z=>absurd z (Dh b),e0.iA,e0.ph⟩,
  rfl,e0.bare,Un.kept hk,⟨_,x.toInCall.ns,λi y v h1 h2 h3=>?_⟩,λy c h=>⟨_,x.cell y c h⟩,e0.af.fresh (gw _),λy c h=>?_,λp hp=>absurd (show p∈([]:List (bw×Obj))from hp) (by simp),e0.af.kept hk,?_,e0.dS,λp hp=>absurd (show p∈([]:List (bw×List V))from hp) (by simp)⟩
 .exact name_of_addr x.apart (PySem.mem_of_lookup h1) (PySem.mem_of_lookup h2)
 .have hy:scope.names.lookup y=aj .cell∨scope.names.lookup y=aj .free:=hy;rcases hy with hy|hy
  .exact TR hy
  .exact absurd rfl (S.aEX _ (PySem.mem_of_lookup hy))
 .exact wj (x.above y c (PySem.mem_of_lookup h))
 .have hi:i<vs.length:=by
   unfold start at h2;by_cases hi:i<vs.length
   .exact hi
   .rw[zj (by simpa using hi)]at h2;rw[List.getElem?_replicate]at h2;split at h2<;>cases h2
  have ha:vs[i]?=aj v:=by
   unfold start at h2;rw[Fd (by simpa using hi),qu]at h2;cases e:vs[i]? with
   |none=>rw[e]at h2;cases h2
   |some a=>rw[e]at h2;cases h2;rfl
  let⟨u,hu,rv⟩:=r.get ha
  have hp:ps[i]?=aj y:=by
   rw[←S.pre,List.getElem?_take_of_lt ⋯];exact h1
  have Pd:ps.Nodup:=by rw[←S.pre];exact S.nd.sublist (List.take_sublist _ _)
  refine⟨u,rv,?_⟩;rcases S.par y (jm hp)with k|k
  .exact .inl ⟨k,UB Pd hp hu k⟩
  .obtain⟨c,e⟩:=TR (n:=s.heap.objs.size+1) k;refine .inr ⟨.inl k,c,e,?_⟩;have q:=x.cell y c e;rw[UA Pd hp hu (by show scope.names.lookup y≠_;rw[k];decide)]at q;exact q
 .exact e0.af.fresh (wj (x.above y c (PySem.mem_of_lookup h)))
 .unfold start;show _=N.length;rw[wu,dw,List.length_replicate];omega
private theorem aKU{w:jr}{K:jq}{k:Nat}{kV ct:au}{an:Option bw}
  {N:List Str}(lk:K.lookup f=aj ⟨oc,od,.func (su name qual params body scope dV kV doc pm an eB ct),A7⟩)(gz:Cq K eB qual=ak)(S:aU N ps scope)
  (len:∀vs H Q E,sp vs H Q E->vs.length=ps.length)
  (ie:∀(A:jf)(outer:List Env)(s:cg)(H:Hp)(vs:List V)(Q:VK)(E:XK),lB qt k (A.deeper (envOfC qual scope s.heap.objs.size f eB))->sp vs H Q E ->
   ∃t,kg (u0 qt CX P w K mg base N qual scope f eB A outer s H E) body t/\t {nx:=λ_ H'=>Q .ag H',rt:=Q} (start N vs) H) :
  c7 qt P w K mg base CX (k+1) f (su name qual params body scope dV kV doc pm an eB ct) ps sp:=by
 refine⟨len,λA outer s H args us vs Q E hr e0 hb r uS=>?_⟩;have hl:=len _ _ _ _ uS;have KX:K.In s.heap:=e0.mod.oC.keeps λb o e=>(e0.bs b o e).1;have lim:s.heap.NoLimit:=e0.mod.nolimit.keeps λb o e=>(e0.bs b o e).1
 have FO:∀y∈ps.zip us,scope.names.lookup y.1=aj .local∨(scope.names.lookup y.1=aj .cell/\((cellsFrom (s.heap.objs.size+1) scope.names []).lookup y.1).isSome=ak):=λ⟨n,v⟩ hy=>by
  rcases S.par n (List.of_mem_zip hy).1 with q|q
  .exact .inl q
  .exact .inr ⟨q,PySem.W.cellsFrom_some _ _ _ (.inl q)⟩
 refine codeAny_call_function hr.depth (KX _ _ lk) rfl S.co S.gen rfl (PySem.W.codeRec_of KX gz) (hb _ _ _ _ ?_);refine wpAny_newFunctionEnv_cells S.kind FO λenv he s1 x=>?_;subst he;refine⟨lim.keeps x.toInCall.keep,codeAny_func ?_⟩;let⟨t,ht,hq⟩:=ie A outer s H vs Q E (hr.deeper _) uS;have I:Inv (u0 qt CX P w K mg base N qual scope f eB A outer s H E) [] (start N vs) H s1:=apH S hr.hd e0 hl r x;refine rm (ht [] s1 (start N vs) H _ I hq) (λfl s' hs=>?_) λe s' hs=>hs
 have fin:∀{aI:St}{H':Hp}{v:V}{u:au},Inv (u0 qt CX P w K mg base N qual scope f eB A outer s H E) [] aI H' s'->RelV v u->Q v H'->CE outer P w H s Q u s' :=
  λ{aI H' v u} J rv q=>⟨v,H',J.os,J.bare,J.base,J.af,rv,q⟩
 cases fl with
 |ret u =>
  let⟨v,aI,H',J,rv,q⟩:=hs;exact fin J rv q
 |next =>
  let⟨aI,H',J,q⟩:=hs;exact fin (v:=V.ag) (u:=Value.none) J rfl q
 |brk =>
  let⟨_,_,_,q⟩:=hs;exact False.elim q
 |cont =>
  let⟨_,_,_,q⟩:=hs;exact False.elim q
end
section
section
end
end
variable{h':lg}
section
section
variable{κ:Type}[DecidableEq κ]
abbrev ir(kvs:List (κ×V))(k:κ):Option V:=(kvs.find? λkv=>decide (kv.1=k)).map (·.2)
abbrev putK(kvs:List (κ×V))(k:κ)(v:V):List (κ×V) :=
 if(kvs.any λkv=>decide (kv.1=k))=ak then kvs.map (λkv=>if kv.1=k then(kv.1,v)else kv)else kvs++[(k,v)]
abbrev yF(kvs:List (κ×V))(k:κ):List (κ×V):=kvs.filter λkv=>decide (kv.1≠k)
def IW{p:κ×V}{r:List (κ×V)}{k:κ}(e:p.1=k):ir (p::r) k=aj p.2:=by simp[ir,Cu,e]
def IV{p:κ×V}{r:List (κ×V)}{k:κ}(e:¬ p.1=k):ir (p::r) k=ir r k:=by simp[ir,Cu,e]
def NG(k:κ):∀kvs:List (κ×V),(kvs.any λkv=>decide (kv.1=k))=(ir kvs k).isSome
 |[]=>rfl
 |p::r=>by
  rw[List.any_cons];by_cases e:p.1=k
  .simp only[IW e,decide_eq_true e,Bool.true_or,Option.isSome_some]
  .rw[IV e,decide_eq_false e,EJ];exact NG k r
def sO(kvs:List (κ×V))(k:κ)(v:V):(putK kvs k v).length<=kvs.length+1:=by
 unfold putK;split
 ·rw[dw];omega
 .rw[wu,qm,EU];omega
def vV.uQ{o:Option V}{u:Option au}(r:vV o u):o.isSome=u.isSome:=by
 cases o with
 |none=>cases u with
  |none=>rfl
  |some _=>exact(show False from r).elim
 |some _=>cases u with
  |none=>exact(show False from r).elim
  |some _=>rfl
def vV.getD{o:Option V}{u:Option au}(r:vV o u)(rd:RelV d d'):RelV (o.getD d) (u.getD d'):=by
 cases o with
 |none=>cases u with
  |none=>exact rd
  |some _=>exact(show False from r).elim
 |some _=>cases u with
  |none=>exact(show False from r).elim
  |some _=>exact r
def KV.val(r:KV kvs vs)(k:κ):vV (ir kvs k) (valueAt vs k):=by
 unfold KV at r
 induction r with
 |nil=>exact True.intro
 |@cons p q ps qs h t ih =>
  let⟨h1,h2⟩:=h;by_cases e:p.1=k
  .have e':q.1=k:=h1.symm.trans e;have b:valueAt (q::qs) k=aj q.2:=by simp[valueAt,Cu,e']
   rw[IW e,b];exact h2
  .have e':¬ q.1=k:=λz=>e (h1.trans z);have b:valueAt (q::qs) k=valueAt qs k:=by simp[valueAt,Cu,e']
   rw[IV e,b];exact ih
def KV.any{kvs:List (κ×V)}{vs:List (κ×au)}(r:KV kvs vs)(k:κ):(kvs.any λkv=>decide (kv.1=k))=vs.any λkv=>decide (kv.1=k):=by
 unfold KV at r
 induction r with
 |nil=>rfl
 |cons h t ih=>rw[List.any_cons,List.any_cons,ih,h.1]
def KV.AK{kvs:List (κ×V)}{vs:List (κ×au)}(r:KV kvs vs)(k:κ)(ry:RelV y u) :
  KV (kvs.map λkv=>if kv.1=k then(kv.1,y)else kv) (vs.map λkv=>if kv.1=k then(kv.1,u)else kv):=by
 unfold KV at r ⊢
 induction r with
 |nil=>exact .nil
 |@cons p q ps qs h t ih =>
  rw[jc,jc];refine .cons ?_ ih;let⟨h1,h2⟩:=h;by_cases e:p.1=k
  .rw[if_pos e,if_pos (h1.symm.trans e)];exact⟨h1,ry⟩
  .rw[if_neg e,if_neg (λz=>e (h1.trans z))];exact⟨h1,h2⟩
def KV.put(r:KV kvs vs)(k:κ)(ry:RelV y u):KV (putK kvs k y) (stored vs k u):=by
 unfold putK stored;rw[r.any k];by_cases e:(vs.any λkv=>decide (kv.1=k))=ak
 .rw[if_pos e,if_pos e];exact r.AK k ry
 .rw[if_neg e,if_neg e];exact Paired.snoc r ⟨rfl,ry⟩
def KV.drop(r:KV kvs vs)(k:κ):KV (yF kvs k) (without vs k):=by
 unfold KV at r ⊢;unfold yF without
 induction r with
 |nil=>exact .nil
 |@cons p q ps qs h t ih =>
  let⟨h1,h2⟩:=h;rw[xo,xo];by_cases e:p.1=k
  .have a:¬ decide (p.1≠k)=ak:=by simp[e]
   have b:¬ decide (q.1≠k)=ak:=by simp[h1.symm.trans e]
   rw[if_neg a,if_neg b];exact ih
  .have e':¬ q.1=k:=λz=>e (h1.trans z);have a:decide (p.1≠k)=ak:=by simp[e]
   have b:decide (q.1≠k)=ak:=by simp[e']
   rw[if_pos a,if_pos b];exact .cons ⟨h1,h2⟩ ih
def KV.length{kvs:List (κ×V)}{vs:List (κ×au)}(r:KV kvs vs):kvs.length=vs.length:=Paired.length r
def TQ(kvs:List (κ×V))(k:κ):(yF kvs k).length<=kvs.length:=uh _ _
end
def sR{w:jr}{k:Key}(r:RelV (kV k) u):(aF P w).is k u=ak:=by
 cases k with
 |inl i=>let⟨t,e⟩:=(show ∃t,u=au.int i t from r);subst e;exact Wm P w i t
 |inr x=>let⟨t,e⟩:=(show ∃t,u=au.str x t from r);subst e;exact ag8 P w x t
def NT{w:jr}:∀{ks:List Key}{us:List au},Vals (ks.map kV) us->ItemsAre (aF P w) ks us
 |[],_,r=>by rw[List.map_nil]at r;cases r;exact .nil
 |k::ks,_,r=>by
  rw[jc]at r;cases r with
  |cons h t=>exact .cons (sR h) (NT t)
@[simp]def KT(H:Hp):List (List Key×V)->List (List Key×bw×au)->Prop:=Paired λp q=>p.1=q.1/\H q.2.1=aj (.tup (p.1.map kV))/\RelV p.2 q.2.2
def KT.val(r:KT H kvs xs)(k:List Key):vV (ir kvs k) ((atKey xs k).map (·.2)):=by
 induction r with
 |nil=>exact True.intro
 |@cons p q ps qs h t ih =>
  let⟨h1,_,h2⟩:=h;by_cases e:p.1=k
  .have e':q.1=k:=h1.symm.trans e;have b:atKey (q::qs) k=aj q.2:=by simp[atKey,Cu,e']
   rw[IW e,b];exact h2
  .have e':¬ q.1=k:=λz=>e (h1.trans z);have b:atKey (q::qs) k=atKey qs k:=by simp[atKey,Cu,e']
   rw[IV e,b];exact ih
def KT.AK{kvs:List (List Key×V)}{xs:List (List Key×bw×au)}(r:KT H kvs xs)(k:List Key)(ry:RelV y u) :
  KT H (kvs.map λkv=>if kv.1=k then(kv.1,y)else kv) (xs.map (putAt k u)):=by
 induction r with
 |nil=>exact .nil
 |@cons p q ps qs h t ih =>
  rw[jc,jc];refine .cons ?_ ih;let⟨h1,h2,h3⟩:=h;unfold putAt;by_cases e:p.1=k
  .rw[if_pos e,if_pos (h1.symm.trans e)];exact⟨h1,h2,ry⟩
  .rw[if_neg e,if_neg (λz=>e (h1.trans z))];exact⟨h1,h2,h3⟩
def KT.put(r:KT H kvs xs)(k:List Key){b:bw}(hb:H b=aj (.tup (k.map kV)))(ry:RelV y u) :
  KT H (putK kvs k y) (storedH xs k b u):=by
 have e:(kvs.any λkv=>decide (kv.1=k))=(atKey xs k).isSome:=by
  rw[NG,(r.val k).uQ,IA]
 unfold putK storedH;rw[e];by_cases q:(atKey xs k).isSome=ak
 .rw[if_pos q,if_pos q];exact r.AK k ry
 .rw[if_neg q,if_neg q];exact Paired.snoc r ⟨rfl,hb,ry⟩
def KT.keeps(r:KT H kvs xs)(ht:∀b ys,H b=aj (.tup ys)->H' b=aj (.tup ys)):KT H' kvs xs :=
 Paired.nv r λ_ _ z=>⟨z.1,ht _ _ z.2.1,z.2.2⟩
section
variable{w:jr}{h:lg}{a:bw}
def VT(ok:bP P w H h)(e:Rd H a u):iT P w H h a u:=e.ok ok
def qo{kvs:List (Key×V)}(ok:bP P w H h)(e:Rd H a (.dK kvs)):kvs.length<=dg/\(a==um)=ao/\∃vs,KV kvs vs/\h.DictOf (aF P w) a vs :=
 show iT P w H h a (.dK kvs)from VT ok e
def xb{kvs:List (Key×V)}(ok:bP P w H h)(e:H a=aj (.dK kvs)):kvs.length<=dg/\(a==um)=ao/\∃vs,KV kvs vs/\h.DictOf (aF P w) a vs:=qo ok (.inl e)
def yG{ks:List Key}(ok:bP P w H h)(e:H a=aj (.tup (ks.map kV))):(xf (aF P w)).is h ks a:=by
 let⟨_,its,r,o,h1,h2,n,h3⟩:=(show iT P w H h a (.tup (ks.map kV))from ok a _ e);exact⟨o,its.toArray,n,h1,h2,h3,by simpa using NT r⟩
variable{kvs:List (List Key×V)}
def qk(ok:bP P w H h)(e:Rd H a (.dT kvs)):kvs.length<=dg/\(a==um)=ao /\
  ∃xs,KT H kvs xs/\h.DictOfH (xf (aF P w)) a xs:=by
 let⟨z,y,xs,r,o,es,ep,h1,h2,h3,h4,h5⟩:=(show iT P w H h a (.dT kvs)from VT ok e);refine⟨z,y,xs,r,o,es,ep,h1,h2,h3,h4,λx hx=>?_,h5⟩
 have all:∀{l:List (List Key×V)}{m:List (List Key×bw×au)},KT H l m->∀x∈m,(xf (aF P w)).is h x.1 x.2.1:=by
  intro l m q
  induction q with
  |nil=>intro x hx;exact nomatch hx
  |@cons p q ps qs hq t ih =>
   intro x hx;rcases ju.mp hx with e|hx
   .subst e;exact yG ok (by rw[←hq.1];exact hq.2.1)
   .exact ih x hx
 exact all r x hx
def Ek(ok:bP P w H h)(e:H a=aj (.dT kvs)):kvs.length<=dg/\(a==um)=ao /\
  ∃xs,KT H kvs xs/\h.DictOfH (xf (aF P w)) a xs:=qk ok (.inl e)
end
abbrev i0(H:Hp)(a:bw)(y:V)(r:Option V):Prop :=
 (∃kvs k,Rd H a (.dK kvs)/\y=kV k/\r=ir kvs k)∨∃kvs k b,Rd H a (.dT kvs)/\y=.ref b/\H b=aj (.tup (k.map kV))/\r=ir kvs k
abbrev zw(H:Hp)(a:bw)(y v:V)(H':Hp):Prop :=
 (∃kvs k,H a=aj (.dK kvs)/\y=kV k/\kvs.length<dg/\H'=upd H a (.dK (putK kvs k v))) ∨
 ∃kvs k b,H a=aj (.dT kvs)/\y=.ref b/\H b=aj (.tup (k.map kV))/\kvs.length<dg/\H'=upd H a (.dT (putK kvs k v))
def i0.k{a:bw}{k:Key}(e:H a=aj (.dK kvs)):i0 H a (kV k) (ir kvs k):=.inl ⟨kvs,k,.inl e,rfl,rfl⟩
def i0.t{a b:bw}{k:List Key}(e:H a=aj (.dT kvs))(eb:H b=aj (.tup (k.map kV))):i0 H a (.ref b) (ir kvs k):=.inr ⟨kvs,k,b,.inl e,rfl,eb,rfl⟩
def zw.k{a:bw}{kvs:List (Key×V)}{k:Key}{v:V}(e:H a=aj (.dK kvs))(hl:kvs.length<dg):zw H a (kV k) v (upd H a (.dK (putK kvs k v))):=.inl ⟨kvs,k,e,rfl,hl,rfl⟩
def zw.t{a b:bw}{kvs:List (List Key×V)}{k:List Key}(e:H a=aj (.dT kvs))(eb:H b=aj (.tup (k.map kV)))(hl:kvs.length<dg) :
  zw H a (.ref b) v (upd H a (.dT (putK kvs k v))):=.inr ⟨kvs,k,b,e,rfl,eb,hl,rfl⟩
section
variable{X:Cx}{ψ:List (bw×Obj)}{s:cg}{a:bw}{v:V}{r:au}{o:Option V}{A:jf}
def Inv.big(I:Inv X ψ σ H s):um<s.heap.objs.size:=by
 have h:nj<s.heap.objs.size:=(I.mod.glob.keeps I.bk).lt;exact Nat.lt_trans (by decide) h
def apI(hu:A.units+1<qg)(I:Inv X ψ σ H s)(g:i0 H a y (aj v))(ry:RelV y u)(h:∀w' s',Inv X ψ σ H s'->RelV v w'->Q w' s') :
  dj (dz X.prog X.w) A (getItem (.ref a) u) Q E s:=by
 rcases g with⟨kvs,k,e,ey,l⟩|⟨kvs,k,b,e,ey,eb,l⟩
 .subst ey;let⟨z,hd,vs,rel,dd⟩:=qo I.af e;let⟨w',hw,gI⟩:=vV.some_of (v:=v) (o:=valueAt vs k) (by rw[l];exact rel.val k);exact wpAny_getItem_of (sR ry) dd.mapOf hw (h w' _ (I.tok _) gI)
 .subst ey;cases(show u=au.ref b from ry);let⟨z,hd,xs,rel,dd⟩:=qk I.af e;let⟨w',hw,gI⟩:=vV.some_of (v:=v) (o:=(atKey xs k).map (·.2)) (by rw[l];exact rel.val k);let⟨p,hp,Bg⟩:=CA.mp hw;refine wpAny_getItem_heap (Az hu) (yG I.af eb) dd hp ?_;rw[Bg];exact h w' _ (I.tok _) gI
def aQ0(hu:A.units+1<qg)(I:Inv X ψ σ H s)(g:i0 H a y o)(ry:RelV y u)(h:∀s',Inv X ψ σ H s'->Q (.bool o.isSome) s') :
  dj (dz X.prog X.w) A (qb .In u (.ref a)) Q E s:=by
 rcases g with⟨kvs,k,e,ey,l⟩|⟨kvs,k,b,e,ey,eb,l⟩
 .subst ey;let⟨z,hd,vs,rel,dd⟩:=qo I.af e;refine wpAny_in_of (sR ry) hd dd.mapOf ?_;rw[←(rel.val k).uQ,←l];exact h _ (I.tok _)
 .subst ey;cases(show u=au.ref b from ry);let⟨z,hd,xs,rel,dd⟩:=qk I.af e;refine wpAny_in_heap (Az hu) (yG I.af eb) hd dd ?_;have q:=(rel.val k).uQ;rw[IA]at q;rw[←q,←l];exact h _ (I.tok _)
def Zs(hu:A.units+1<qg)(I:Inv X ψ σ H s)(g:i0 H a y o)(ry:RelV y u)(h:∀s',Inv X ψ σ H s'->Q (.bool (!o.isSome)) s') :
  dj (dz X.prog X.w) A (qb .NotIn u (.ref a)) Q E s:=by
 rcases g with⟨kvs,k,e,ey,l⟩|⟨kvs,k,b,e,ey,eb,l⟩
 .subst ey;let⟨z,hd,vs,rel,dd⟩:=qo I.af e;refine wpAny_notIn_of (sR ry) hd dd.mapOf ?_;rw[←(rel.val k).uQ,←l];exact h _ (I.tok _)
 .subst ey;cases(show u=au.ref b from ry);let⟨z,hd,xs,rel,dd⟩:=qk I.af e;refine wpAny_notIn_heap (Az hu) (yG I.af eb) hd dd ?_;have q:=(rel.val k).uQ;rw[IA]at q;rw[←q,←l];exact h _ (I.tok _)
def vZ{ob:HO}(I:Inv X ψ σ H s)(mu:CQ (H a))(hs:kh a s.heap h')(he:∃q,h'.get? a=aj q)(new:iT X.prog X.w (upd H a ob) h' a ob) :
  Inv X ψ σ (upd H a ob) {s with heap:=h',toks:=t' } :=
 I.write (x:=a) (e:=a) mu (.inl rfl) (λb q hb z=>(hs.2 b hb).trans z) he new
def LW{w:jr}{kvs:List (Key×V)}(z:kvs.length<=dg)(hd:(a==um)=ao)(rel:KV kvs vs)(dd:h'.DictOf (aF P w) a vs) :
  iT P w H' h' a (.dK kvs):=⟨z,hd,vs,rel,dd⟩
def apJ(hu:A.units+1<qg)(I:Inv X ψ σ H s)(g:zw H a y v H')(ry:RelV y u)(rv:RelV v r)(h:∀s',Inv X ψ σ H' s'->Q () s') :
  dj (dz X.prog X.w) A (setItem (.ref a) u r) Q E s:=by
 rcases g with⟨kvs,k,e,ey,l,eH⟩|⟨kvs,k,b,e,ey,eb,l,eH⟩
 .subst ey eH;let⟨z,hd,vs,rel,dd⟩:=xb I.af e;have hz:vs.length<=dg:=by rw[←rel.length];exact z
  have hl:(putK kvs k v).length<=dg:=by have:=sO kvs k v;omega
  refine wpAny_setItem_pairs (hsz:=hz) (sR ry) dd λh' iL hs=>h _ ?_;have he:∃q,h'.get? a=aj q:=let⟨q,_,_,hq,_⟩:=iL;⟨q,hq⟩
  exact vZ I (by rw[e];exact True.intro) hs he (LW hl hd (rel.put k rv) iL)
 .subst ey eH;cases(show u=au.ref b from ry);let⟨z,hd,xs,rel,dd⟩:=Ek I.af e;have hz:xs.length<=dg:=by rw[←Paired.length rel];exact z
  have hl:(putK kvs k v).length<=dg:=by have:=sO kvs k v;omega
  refine wpAny_setItem_heap (hsz:=hz) (Az hu) (yG I.af eb) dd λh' iL hs=>h _ ?_;let⟨q,es,ep,hq,h2,h3,h4,_,h5⟩:=iL;refine vZ I (by rw[e];exact True.intro) hs ⟨q,hq⟩ ⟨hl,hd,_,(rel.put k eb rv).keeps λc ys ec=>?_,q,es,ep,hq,h2,h3,h4,h5⟩;rw[aP (Lr ec e (λz=>nomatch z))];exact ec
end
section
variable{X:Cx}{ψ:List (bw×Obj)}{s:cg}{a:bw}{kvs:List (Key×V)}{k:Key}{A:jf}
def aKV{more:List au}(I:Inv X ψ σ H s)(e:H a=aj (.dK kvs))(ry:RelV (kV k) u)(l:ir kvs k=aj v)(hm:more=[]∨∃x,more=[x])
  (h:∀w' s',Inv X ψ σ (upd H a (.dK (yF kvs k))) s'->RelV v w'->Q w' s'):dj (dz X.prog X.w) A (call (.builtin "dict.pop") (.ref a::u::more)) Q E s:=by
 let⟨z,hd,vs,rel,dd⟩:=xb I.af e;let⟨w',hw,gI⟩:=vV.some_of (v:=v) (o:=valueAt vs k) (by rw[←l];exact rel.val k)
 have hp:(keyPart u).isSome=ak:=by
  cases k with
  |inl i=>let⟨t,q⟩:=(show ∃t,u=au.int i t from ry);subst q;rfl
  |inr x=>let⟨t,q⟩:=(show ∃t,u=au.str x t from ry);subst q;rfl
 have ha:argsOk "dict.pop" ⟨.ref a::u::more,[]⟩:=by
  rcases hm with q|⟨x,q⟩
  .subst q;exact PySem.F.args_dict_pop_2 _ _
  .subst q;exact PySem.F.args_dict_pop_3 _ _ _
 refine call_meetsIn PySem.F.slot_dict_pop dd.typeIs PySem.F.entry_dict_pop ha (meets_dict_pop_there (aF X.prog X.w) a (sR ry) more hm hp)
  ⟨vs,w',dd,by rw[←rel.length];exact z,hw,λh' iL hs=>h w' _ ?_ gI⟩
 have he:∃q,h'.get? a=aj q:=let⟨q,_,_,hq,_⟩:=iL;⟨q,hq⟩
 exact vZ I (by rw[e];exact True.intro) hs he (LW (qw (TQ kvs k) z) hd (rel.drop k) iL)
def aKW(I:Inv X ψ σ H s)(e:Rd H a (.dK kvs))(h:∀t s',Inv X ψ σ H s'->Q (.int kvs.length t) s'):dj (dz X.prog X.w) A (call (.builtin "len") [.ref a]) Q E s:=by
 let⟨z,hd,vs,rel,dd⟩:=qo I.af e;refine call_len_dict hd dd (by rw[←rel.length];rw[sizeLine_eq]at z;omega) ?_;rw[←rel.length];exact h _ _ (I.tok _)
end
abbrev GU(i:ig):Prop:=∀ov iv,subscripted i ao ov iv=operate [ov,iv] (getItem ov iv)
def SA{prog:mz}{w:jr}{A:jf}{s:cg}{T id:String} 
  (hl:typeLookup (.type T) "__getitem__"=pure (aj (.builtin id)))(hs:GU slice)
  (h:dj (dz prog w) A (eval value env) (λo ai=>dj (dz prog w) A (eval slice env) (λi fg=>fg.TypeIs o T/\dj (dz prog w) A (getItem o i) Q E fg) E ai) E s) :
  dj (dz prog w) A (eval (.Subscript value slice pos) env) Q E s:=by
 refine Subscript_ (rm h (λo ai h₁=>rm h₁ (λi fg cw=>?_) λ_ _ x=>x) λ_ _ x=>x);let⟨hT,cw⟩:=cw;unfold subscriptTail;refine aq ?_;rw[getitemInPython_of_ne hT.not_modules];refine aq (wpAny_specialOf hT hl ?_)
 have fin:dj (dz prog w) A (subscripted slice ao o i) (λr k7=>dj (dz prog w) A (letTemporaryGo value o r >>= λ_=>pure r) Q E k7) E fg:=by
  rw[hs o i];exact wpAny_operating (rm cw (λr k7 cn=>aq (wpAny_letTemporaryGo (cj cn))) λ_ _ x=>x)
 first
  |exact cj (aq fin)
  |exact aq (cj (aq fin))
  |exact aq fin
def agF{s:cg}{a:bw}{o:Option V}(I:Inv X ψ σ H s)(g:i0 H a y o):s.TypeIs (.ref a) "dict":=by
 rcases g with⟨kvs,k,e,_,_⟩|⟨kvs,k,b,e,_,_,_⟩
 .obtain⟨_,_,vs,_,dd⟩:=qo I.af e;exact dd.typeIs
 .obtain⟨_,_,xs,_,dd⟩:=qk I.af e;exact dd.typeIs
abbrev aKX(td ty:TE):TE:=λσ H Q=>td σ H λx H1=>ty σ H1 λy H2=>∃a v,x=.ref a/\i0 H2 a y (aj v)/\Q v H2
abbrev aKY(td ty tv:TE):TS:=λD σ H=>tv σ H λv H1=>td σ H1 λx H2=>ty σ H2 λy H3=>∃a H4,x=.ref a/\zw H3 a y v H4/\D.nx σ H4
section
variable{X:Cx}{o:ig}{pos:Pos}{ty:TE}
def Zr(hu:X.A.units+1<qg)(ho:PE X o td)(hi:PE X i ty)(hs:GU i):PE X (.Subscript o i pos) (aKX td ty):=by
 intro ψ s σ H Q I h;refine SA PySem.F.slot_dict_getitem.lookup hs (dH (ho ψ s σ H _ I h) λu s1 ⟨x,H1,I1,rx,q1⟩=>dH (hi ψ s1 σ H1 _ I1 q1) ?_);rintro iv s2 ⟨y,H2,I2,ry,a,v,ex,g,q2⟩;subst ex;obtain rfl:u=au.ref a:=rx;exact⟨agF I2 g,apI hu I2 g ry λw' s3 I3 gI=>⟨v,H2,I3,gI,q2⟩⟩
def Zq(hu:X.A.units+1<qg)(ho:PE X o td)(hi:PE X i ty)(hv:PE X value tv)(hs:md value (aj (.Subscript o i pos')) pos.line X.env=pure ao) :
  PS X (.Assign [.Subscript o i pos'] value pos) (aKY td ty tv):=by
 intro ψ s σ H D I h;refine wpAny_Assign_Subscript (dH (hv ψ s σ H _ I h) λr s1 ⟨v,H1,I1,rv,q1⟩=>dH (ho ψ s1 σ H1 _ I1 q1) λu s2 ⟨x,H2,I2,rx,q2⟩=>dH (hi ψ s2 σ H2 _ I2 q2) ?_) hs;rintro iv s3 ⟨y,H3,I3,ry,a,H4,ex,g,q3⟩;subst ex;obtain rfl:u=au.ref a:=rx;exact apJ hu I3 g ry rv λs4 I4=>⟨σ,H4,I4,q3⟩
end
def as8{w:jr}(h:lg)(hb:um<h.objs.size):iT P w H (h.push {cls:=.type "dict",data:=.dict #[]}) h.objs.size (.dK []) :=
 ⟨qz _,beq_eq_false_iff_ne.mpr (Ne.symm (jo hb)),[],.nil,Heap.DictOf.new h⟩
def as9{w:jr}(h:lg)(hb:um<h.objs.size):iT P w H (h.push {cls:=.type "dict",data:=.dict #[]}) h.objs.size (.dT []) :=
 ⟨qz _,beq_eq_false_iff_ne.mpr (Ne.symm (jo hb)),[],.nil,_,#[],0,jd _ rfl,⟨rfl,rfl,rfl⟩,rfl,rfl,tj⟩
abbrev aEY:TE:=λ_ H Q=>∀p,H p=bh->Q (.ref p) (upd H p (.dK []))
abbrev aEZ:TE:=λ_ H Q=>∀p,H p=bh->Q (.ref p) (upd H p (.dT []))
section
variable{pos:Pos}
def asA:PE X (.Dict [] [] pos) aEY:=λψ s σ H Q I h =>
 wpAny_Dict_empty ⟨.ref s.heap.objs.size,_,I.laid (a:=s.heap.objs.size) (o:=.dK []) (t':=s.toks) (λ_ _ q=>cu _ q) (gw _) (as8 s.heap I.big),rfl,h _ (I.af.fresh (gw _))⟩
def TN:PE X (.Dict [] [] pos) aEZ:=λψ s σ H Q I h =>
 wpAny_Dict_empty ⟨.ref s.heap.objs.size,_,I.laid (a:=s.heap.objs.size) (o:=.dT []) (t':=s.toks) (λ_ _ q=>cu _ q) (gw _) (as9 s.heap I.big),rfl,h _ (I.af.fresh (gw _))⟩
end
structure M1(X:Cx)(o:ig)(m:Str)(apos:Pos)(e:ig)(ah:Pos):Prop where
 base:xq o m X.env (eval o X.env)=eval o X.env
 KC:((ux ah (jj [e] X.env)).all (λx=>!x.1)&&(backToKw ah (pV [] X.env)).all (λx=>x.1.isSome)
  &&decide (([e]:List ig).length+([]:List iX).length+(if([]:List iX).isEmpty then 0 else 1)<30))=ak
 line:(apos.endLine==ah.line)=ak
 trees:ux ah (jj [e] X.env)=[(ao,eval e X.env)]
structure M2(X:Cx)(o:ig)(m:Str)(apos:Pos)(e f:ig)(ah:Pos):Prop where
 base:xq o m X.env (eval o X.env)=eval o X.env
 KC:((ux ah (jj [e,f] X.env)).all (λx=>!x.1)&&(backToKw ah (pV [] X.env)).all (λx=>x.1.isSome)
  &&decide (([e,f]:List ig).length+([]:List iX).length+(if([]:List iX).isEmpty then 0 else 1)<30))=ak
 line:(apos.endLine==ah.line)=ak
 trees:ux ah (jj [e,f] X.env)=[(ao,eval e X.env),(ao,eval f X.env)]
abbrev qS(H:Hp)(a:bw):Prop:=(∃kvs,Rd H a (.dK kvs))∨∃kvs,Rd H a (.dT kvs)
def EF{s:cg}{a:bw}(I:Inv X ψ σ H s)(d:qS H a) :
  s.TypeIs (.ref a) "dict"/\(∀b,au.ref a=.ref b->∃ob,s.heap.get? b=aj ob/\ob.dict=bh)/\(a==um)=ao:=by
 rcases d with⟨kvs,e⟩|⟨kvs,e⟩
 .obtain⟨_,hd,vs,_,dd⟩:=qo I.af e;refine⟨dd.typeIs,λb q=>?_,hd⟩;cases q;let⟨ob,_,_,h1,h2,_⟩:=dd;exact⟨ob,h1,h2.2.1⟩
 .obtain⟨_,hd,xs,_,dd⟩:=qk I.af e;refine⟨dd.typeIs,λb q=>?_,hd⟩;cases q;let⟨ob,_,_,h1,h2,_⟩:=dd;exact⟨ob,h1,h2.2.1⟩
section
variable{X:Cx}{ψ:List (bw×Obj)}{s:cg}{a:bw}{r:au}{o:Option V}{A:jf}
def aF0(hu:A.units+1<qg)(I:Inv X ψ σ H s)(g:i0 H a y o)(ry:RelV y u)(rd:RelV d r)(h:∀w' s',Inv X ψ σ H s'->RelV (o.getD d) w'->Q w' s') :
  dj (dz X.prog X.w) A (call (.builtin "dict.get") [.ref a,u,r]) Q E s:=by
 rcases g with⟨kvs,k,e,ey,l⟩|⟨kvs,k,b,e,ey,eb,l⟩
 .subst ey;let⟨z,hd,vs,rel,dd⟩:=qo I.af e;refine call_meetsIn PySem.F.slot_dict_get dd.typeIs PySem.F.entry_dict_get (PySem.F.args_dict_get_3 _ _ _) (meets_dict_get_default (aF X.prog X.w) a (sR ry) hd r) ⟨_,dd.mapOf,h _ _ (I.tok _) ?_⟩;rw[l];exact(rel.val k).getD rd
 .subst ey;cases(show u=au.ref b from ry);let⟨z,hd,xs,rel,dd⟩:=qk I.af e;refine call_meetsIn PySem.F.slot_dict_get dd.typeIs PySem.F.entry_dict_get (PySem.F.args_dict_get_3 _ _ _) (meetsH_dict_get_default (xf (aF X.prog X.w)) a b hd r) ⟨Az hu,k,xs,yG I.af eb,dd,h _ _ (I.tok _) ?_⟩;rw[l];exact(rel.val k).getD rd
end
abbrev aF1(td ty tx:TE):TE:=λσ H Q=>td σ H λx H1=>∃a,x=.ref a/\qS H1 a/\ty σ H1 λy H2=>tx σ H2 λz H3=>∃o,i0 H3 a y o/\Q (o.getD z) H3
section
variable{X:Cx}{o:ig}{ty:TE}
def asB(hu:X.A.units+1<qg)(ho:PE X o td)(he:PE X e ty)(hf:PE X f tx)(m:M2 X o "get" apos e f ah):PE X (.Call (.Attribute o "get" apos) [e,f] [] ah) (aF1 td ty tx):=by
 intro ψ s σ H Q I h;refine wpAny_Call_method m.base m.KC m.line PySem.F.plainAttrs_dict PySem.F.slot_dict_get PySem.F.type_dict_get (dH (ho ψ s σ H _ I h) ?_);rintro u s1 ⟨x,H1,I1,rx,a,ex,d,q1⟩;subst ex;obtain rfl:u=au.ref a:=rx;let⟨t1,t2,_⟩:=EF I1 d;refine⟨t1,t2,?_⟩;rw[m.trees]
 refine Calls.callWith_builtin rfl (Calls.evalArgs_plain (Calls.spliced_cons (dH (he ψ s1 σ H1 _ I1 q1) λiv s2 ⟨y,H2,I2,ry,q2⟩ =>
  Calls.spliced_cons (dH (hf ψ s2 σ H2 _ I2 q2) λfv s3 ⟨z,H3,I3,rz,ov,g,q3⟩=>Calls.spliced_nil ?_))))
 exact aF0 hu I3 g ry rz λw' s4 I4 gI=>⟨_,H3,I4,gI,q3⟩
end
section
end
section
end
end
end L2
namespace HT
open PySem PyProof.Rows
abbrev lexLt:List Int->List Int->Bool
 |[],[]=>ao
 |[],_::_=>ak
 |_::_,[]=>ao
 |x::xs,y::ys=>if x=y then lexLt xs ys else decide (x<y)
def akH(x y:Int)(xs ys:List Int):lexLt (x::xs) (y::ys)=if x=y then lexLt xs ys else decide (x<y):=rfl
def abG:lexLt [] []=ao:=rfl
def a8J(y:Int)(ys:List Int):lexLt [] (y::ys)=ak:=rfl
def a8K(x:Int)(xs:List Int):lexLt (x::xs) []=ao:=rfl
def asC(A:jf)(s:cg)(a:Int)(t:Tok)(c:Int)(u:Tok):∃e,SeqAt.EqAt A s (.int a t) (.int c u) e/\(e=ak↔a=c) :=
 ⟨(a==c),SeqAt.EqAt.int_int a t c u,by simp⟩
def TM(A:jf)(s:cg)(a:Int)(t:Tok)(c:Int)(u:Tok)(prog:mz)(w:jr)(E:au->cg->Prop)(Q:au->cg->Prop)(h:Q (.bool (decide (a<c))) s) :
  dj (dz prog w) A (richCompare .Lt (.int a t) (.int c u)) Q E s :=
 (PyProof.Rows.lt_int h:dj (dz prog w) A (qb .Lt (.int a t) (.int c u)) Q E s)
section
open PySem.SeqAt
open PySem.AutoSeq1 (wpAny_loadPart')
open PySem.MeetsSeq PySem.MeetsSeq2 PySem.MeetsSeq3
private theorem abH(l b:bw)(items a8:Array au)(n n2:Nat)(dd vT:Option bw)(sl kG:Array (Option au))(ns ms:List Int)(hi:hV items.toList ns)(hj:hV a8.toList ms) :
  Meets (Builtin.«tuple.__lt__» ⟨[.ref l,.ref b],[]⟩)
   (λ_ R s=>s.heap.get? l=aj {cls:=.type "tuple",dict:=dd,data:=.seq items n,slots:=sl}/\s.heap.get? b=aj {cls:=.type "tuple",dict:=vT,data:=.seq a8 n2,slots:=kG} /\
    R (.ok (.ret (.bool (lexLt ns ms)))) s) :=
 .of_wp λprog w A R s h=>by
  let⟨hp,g,d,tk,os⟩:=s;let⟨hl,hb,h⟩:=h;have f2:=AutoSeq1.sub_tuple_tuple;have z1:items.size=ns.length:=by rw[←hi.length];simp
  have z2:a8.size=ms.length:=by rw[←hj.length];simp
  wp_walk using wpAny_loadPart' hl,wpAny_loadPart' hb,wpAny_forIn_list _ (λrest b s'=>b.1=bh/\s'=⟨hp,g,d,tk,os⟩/\∃(vs ws:List au)(Ba Bb:List Int),rest=vs.zip ws /\
   hV vs Ba/\hV ws Bb/\Ba.length+a8.size=Bb.length+items.size/\R (.ok (.ret (.bool (lexLt Ba Bb)))) ⟨hp,g,d,tk,os⟩) _
  case turn =>
   rintro⟨y,x⟩ rest b s' ⟨Bl,rfl,vs,ws,Ba,Bb,hz,Kc,Gh,hlen,hR⟩;cases Kc with
   |nil=>rw[List.zip_nil_left]at hz;cases hz
   |cons a t aQ2 =>
    cases Gh with
    |nil=>rw[List.zip_nil_right]at hz;cases hz
    |cons c u aQ3 =>
     rw[List.zip_cons_cons]at hz;injection hz with XI hrest;injection XI with hy hx;subst hy hx;rw[akH]at hR;simp only[qm]at hlen;let⟨e,he,FC⟩:=asC A.in1 ⟨hp,g,d,tk,os⟩ a t c u;refine aq (he prog w _ _ ?_);cases e with
     |true =>
      rw[if_pos (FC.mp rfl)]at hR
      wp_walk
      exact⟨rfl,rfl,_,_,_,_,hrest,aQ2,aQ3,⋯,hR⟩
     |false =>
      rw[if_neg (λq=>absurd (FC.mpr q) ql)]at hR;have XU:=TM A.in1 ⟨hp,g,d,tk,os⟩ a t c u prog w
      wp_walk using XU
      exact⟨_,rfl,by simpa using hR⟩
  case fin =>
   rintro⟨b1,b2⟩ s' ⟨Bl,rfl,vs,ws,Ba,Bb,hz,Kc,Gh,hlen,hR⟩;simp only at Bl;subst Bl
   have hv:lexLt Ba Bb=decide (items.size<a8.size):=by
    cases Kc with
    |nil =>
     cases Gh with
     |nil =>
      simp only[EU]at hlen;rw[abG];exact(decide_eq_false ⋯).symm
     |cons c u hw =>
      simp only[EU,qm]at hlen;rw[a8J];exact(decide_eq_true ⋯).symm
    |cons a t hv =>
     cases Gh with
     |nil =>
      simp only[EU,qm]at hlen;rw[a8K];exact(decide_eq_false ⋯).symm
     |cons c u hw =>
      rw[List.zip_cons_cons]at hz;cases hz
   rw[hv]at hR
   wp_walk
   exact⟨_,rfl,by simpa[Builtin.Tuple.tupleCompareSizes]using hR⟩
  case h =>
   exact⟨rfl,rfl,items.toList,a8.toList,ns,ms,rfl,hi,hj,⋯,h⟩
end
section
variable{prog:mz}{w:jr}{A:jf}{s:cg}
def akI{l b:bw}{items a8:Array au}{ns:List Int}(hl:IsTup s.heap l items)(hb:IsTup s.heap b a8)(hi:hV items.toList ns)(hj:hV a8.toList ms)
  (hu:A.units<qg)(h:Q (.bool (lexLt ns ms)) s):dj (dz prog w) A (qb .Lt (.ref l) (.ref b)) Q E s:=by
 let⟨⟨cls,dd,data,sl⟩,ho,hc,n,hd⟩:=id hl;let⟨⟨FE,vT,data2,kG⟩,oQ,vF,n2,pe⟩:=id hb;simp only at hc hd vF pe;subst hc hd vF pe
 exact richCompare_meets_room (op:=.Lt) ⟨_,ho,rfl⟩ ⟨_,oQ,rfl⟩ PySem.F.slot_tuple_lt PySem.F.entry_tuple_lt (PySem.F.args_tuple_lt_2 _ _) (abH l b items a8 n n2 dd vT sl kG ns ms hi hj)
  ⟨ho,oQ,show au.bool (lexLt ns ms)≠au.notImplemented/\Q (.bool (lexLt ns ms)) s from⟨(λx=>nomatch x),h⟩⟩ hu
def Zp{t b:bw}{vs ws:List au}(ht:IsTup s.heap t vs.toArray)(hb:IsTup s.heap b ws.toArray)(hv:vs≠[])
  (h1:ws=[]->Q (.ref t) s)(h2:ws≠[]->Q (.ref s.heap.objs.size) {s with heap:=s.heap.push {cls:=.type "tuple",data:=.seq (vs++ws).toArray}})
  (hsz:vs.length+ws.length<=dg):dj (dz prog w) A (zc .Add (.ref t) (.ref b)) Q E s:=by
 let⟨⟨cls,dd,data,sl⟩,ho,hc,n,hd⟩:=id ht;let⟨⟨FE,vT,data2,kG⟩,oQ,vF,n2,pe⟩:=id hb;simp only at hc hd vF pe;subst hc hd vF pe;have e:vs.toArray++ws.toArray=(vs++ws).toArray:=by simp
 by_cases hw:ws=[]
 .exact concat_meets ⟨_,ho,rfl⟩ ⟨_,oQ,rfl⟩ noFill_tuple_add seq_tuple_add PySem.F.slot_tuple_add PySem.F.entry_tuple_add (PySem.F.args_tuple_add_2 _ _)
   (tuple_addW1 t b vs.toArray ws.toArray n n2 dd vT sl kG (by simpa using hv) (by simp[hw])) ⟨ho,oQ,h1 hw⟩
 .refine concat_meets ⟨_,ho,rfl⟩ ⟨_,oQ,rfl⟩ noFill_tuple_add seq_tuple_add PySem.F.slot_tuple_add PySem.F.entry_tuple_add (PySem.F.args_tuple_add_2 _ _)
   (tuple_addW2 t b vs.toArray ws.toArray n n2 dd vT sl kG (by simpa using hv) (by simpa using hw) (by rw[jg,jg];exact hsz)) ⟨ho,oQ,?_⟩
  rw[e];exact h2 hw
end
end HT
namespace L2
open PySem PySem.Spec PyProof.Rows
section
@[simp]def TO:=St->Hp->(Option Int->Hp->Prop)->Prop
abbrev PO(X:Cx)(e:Option ig)(t:TO):Prop :=
 ∀(ψ:List (bw×Obj))(s:cg)(σ:St)(H:Hp)(Q:Option Int->Hp->Prop),Inv X ψ σ H s->t σ H Q ->
  dj (dz X.prog X.w) X.A (evalPart e X.env) (λu s'=>∃o H',Inv X ψ σ H' s'/\IsPart u o/\Q o H') X.xe s
abbrev Zo:TO:=λ_ H Q=>Q bh H
abbrev aKZ(t:TE):TO:=λσ H Q=>t σ H λx H1=>∃i,x=.int i/\Q (aj i) H1
def intsAre_of{ns:List Int}:∀{us:List au},Vals (ns.map V.int) us->hV us ns:=by
 induction ns with
 |nil=>intro us r;rw[List.map_nil]at r;cases r;exact .nil
 |cons n ns ih =>
  intro us r;rw[jc]at r;cases r with
  |cons r1 r2 =>
   let⟨t,e⟩:=r1;subst e;exact .cons n t (ih r2)
section
variable{X:Cx}
def Zn:PO X bh Zo:=by
 intro ψ s σ H Q I h;rw[evalPart_none];exact cj ⟨bh,H,I,.none,h⟩
def Zm(h:PE X e te):PO X (aj e) (aKZ te):=by
 intro ψ s σ H Q I hw;rw[evalPart_some];refine dH (h ψ s σ H _ I hw) ?_;rintro u s1 ⟨x,H1,I1,r1,q1⟩;let⟨i,rfl,q⟩:=q1;let⟨t,rfl⟩:=r1;exact⟨aj i,H1,I1,.int i t,q⟩
abbrev aL0(K:jq):R2:=λx y H Q=>∃a b xs ys,x=.ref a/\y=.ref b/\eD K H a xs/\eD K H b ys/\xs≠[]/\xs.length+ys.length<=dg /\
 (ys=[]->Q (.ref a) H)/\(ys≠[]->∀p,H p=bh->Q (.ref p) (upd H p (.tup (xs++ys))))
def Vals.E6(r:Vals xs us):us=[]↔xs=[]:=by
 cases r with
 |nil=>simp
 |cons _ _=>simp
def Zl:b8 X (zc .Add) (aL0 X.K):=by
 intro ψ s σ H x y v u Q I rx ry h;let⟨a,b,xs,ys,rfl,rfl,ha,hb,hx,hz,q1,q2⟩:=h;cases rx;cases ry;let⟨its,r1,p1,_⟩:=I.tuple ha;let⟨eJ,r2,p2,_⟩:=I.tuple hb;refine HT.Zp p1 p2 (λz=>hx (r1.E6.mp z)) (λz=>⟨.ref a,H,I,rfl,q1 (r2.E6.mp z)⟩) (λz=>?_) (by rw[←r1.length,←r2.length];exact hz);refine⟨.ref s.heap.objs.size,_,I.laid (t':=s.toks) (o:=.tup (xs++ys)) (λb ob q=>cu _ q) (gw _) ?_,rfl,q2 (λw=>z (r2.E6.mpr w)) _ (I.af.fresh (gw _))⟩;exact⟨by rw[wu];exact hz,_,r1.append r2,IsTup.new _ _⟩
end
end
variable{r:R2}{v:au}
section
abbrev uB(n:Nat)(i:Int):Option Nat:=if 0<=i then(if i<n then aj i.toNat else bh)else if -(n:Int)<=i then aj (i+n).toNat else bh
abbrev dC{α:Type}(xs:List α)(i:Int):Option α:=(uB xs.length i).bind λj=>xs[j]?
def Zk{n:Nat}{i:Int}{j:Nat}(h:uB n i=aj j):seqIndex? i n=aj j/\j<n/\-(n:Int)<=i/\i<n:=by
 unfold uB at h;by_cases h0:0<=i
 .rw[if_pos h0]at h;by_cases h1:i<n
  .rw[if_pos h1]at h;have e:i.toNat=j:=ji.inj h;exact⟨by rw[seqIndex_of h0 h1,e],⋯,⋯,h1⟩
  .rw[if_neg h1]at h;cases h
 .rw[if_neg h0]at h;by_cases h1:-(n:Int)<=i
  .rw[if_pos h1]at h;have e:(i+n).toNat=j:=ji.inj h;exact⟨by rw[seqIndex_neg ⋯ h1,e],⋯,h1,⋯⟩
  .rw[if_neg h1]at h;cases h
def Mx{α:Type}{xs:List α}{i:Int}{v:α}(h:dC xs i=aj v):∃j,seqIndex? i xs.length=aj j/\xs[j]?=aj v/\j<xs.length/\-(xs.length:Int)<=i/\i<xs.length:=by
 unfold dC at h;cases e:uB xs.length i with
 |none=>rw[e]at h;cases h
 |some j =>
  rw[e]at h;let⟨h1,h2,h3,h4⟩:=Zk e;exact⟨j,h1,h,h2,h3,h4⟩
abbrev Mw(b:ig):Prop:=∀o i,subscripted b ao o i=operate [o,i] (getItem o i)
abbrev tJ(X:Cx)(r:R2):Prop :=
 ∀(value slice:ig)(ψ:List (bw×Obj))(s:cg)(σ:St)(H:Hp)(x y:V)(v u:au)(Q:VK),Inv X ψ σ H s->RelV x v->RelV y u->r x y H Q ->
  subscripted slice ao v u=operate [v,u] (getItem v u)->dj (dz X.prog X.w) X.A (subscriptTail value slice v u) (EP X ψ σ Q) X.xe s
abbrev MtR(X:Cx)(id:String)(r:V->List V->Hp->VK->Prop):Prop :=
 ∀(ψ:List (bw×Obj))(s:cg)(σ:St)(H:Hp)(x:V)(xs:List V)(v:au)(us:List au)(Q:VK),Inv X ψ σ H s->RelV x v->Vals xs us->r x xs H Q ->
  dj (dz X.prog X.w) X.A (call (.builtin id) (v::us)) (EP X ψ σ Q) X.xe s
section
variable{X:Cx}{a b:ig}{pos:Pos}
def tJ.or(h:tJ X r)(h':tJ X r'):tJ X (λx y H Q=>r x y H Q∨r' x y H Q):=by
 intro value slice ψ s σ H x y v u Q I rx ry q hs;rcases q with q|q
 .exact h value slice ψ s σ H x y v u Q I rx ry q hs
 .exact h' value slice ψ s σ H x y v u Q I rx ry q hs
def aL1(hr:tJ X r)(ha:PE X a ta)(hb:PE X b tb)(hs:Mw b):PE X (.Subscript a b pos) (AZ r ta tb):=by
 intro ψ s σ H Q I h;exact Subscript_ (Np ha hb I h λv u s2 x y H2 I2 rx ry q=>hr a b ψ s2 σ H2 x y v u Q I2 rx ry q (hs _ _))
abbrev Vb(K:jq):R2:=λx y H Q=>∃p xs i v,x=.ref p/\y=.int i/\gc K H p xs/\dC xs i=aj v/\Q v H
abbrev Va(K:jq):R2:=λx y H Q=>∃p xs i v,x=.ref p/\y=.int i/\eD K H p xs/\dC xs i=aj v/\Q v H
abbrev U9:R2:=λx y H Q=>∃z i c,x=.str z/\y=.int i/\z.length<=dg/\dC z.cps.toList i=aj c/\Q (.str ⟨#[c]⟩) H
def Zj:tJ X (Vb X.K):=by
 intro value slice ψ s σ H x y v u Q I rx ry h hs;let⟨p,xs,i,z,rfl,rfl,hq,he,q⟩:=h;cases rx;let⟨t,rfl⟩:=ry;let⟨its,r,pl,hz⟩:=I.list hq;let⟨j,h1,h2,h3,h4,h5⟩:=Mx he;let⟨w,ew,gI⟩:=r.get h2;have hl:=r.length;have hn:=EG;have fin:EP X ψ σ Q w s:=⟨z,H,I,gI,q⟩;by_cases h0:0<=i
 .have hj:i.toNat=j:=by
   rw[seqIndex_of h0 h5]at h1;exact ji.inj h1
  exact item_listR pl.isList h0 ⋯ (by rw[hj];simpa using ew) fin hs
 .have hj:(i+(its.toArray.size:Int)).toNat=j:=by
   rw[seqIndex_neg ⋯ h4]at h1;rw[jg,←hl];exact ji.inj h1
  exact subscriptTail_builtinR (x:=w) pl.isList.typeIs slot_list_getitem.lookup
   (wpAny_getItem_list_neg (Q:=λr s'=>r=w/\EP X ψ σ Q r s') pl.isList ⋯ (by rw[jg]<;>omega) ⋯ (by rw[hj];simpa using ew) ⟨rfl,fin⟩) hs
def aF2:tJ X (Va X.K):=by
 intro value slice ψ s σ H x y v u Q I rx ry h hs;let⟨p,xs,i,z,rfl,rfl,hq,he,q⟩:=h;cases rx;let⟨t,rfl⟩:=ry;let⟨its,r,pl,hz⟩:=I.tuple hq;let⟨j,h1,h2,h3,h4,h5⟩:=Mx he;let⟨w,ew,gI⟩:=r.get h2;have hl:=r.length;have hn:=EG;have fin:EP X ψ σ Q w s:=⟨z,H,I,gI,q⟩
 exact subscriptTail_builtinR (x:=w) pl.typeIs slot_tuple_getitem.lookup
  (getItem_tuple (j:=j) (Q:=λr s'=>r=w/\EP X ψ σ Q r s') pl ⋯ ⋯ (by rw[jg,←hl];exact h1) (by simpa using ew) ⟨rfl,fin⟩) hs
def aF3:tJ X U9:=by
 intro value slice ψ s σ H x y v u Q I rx ry h hs;let⟨z,i,c,rfl,rfl,hz,he,q⟩:=h;let⟨t,rfl⟩:=rx;let⟨t',rfl⟩:=ry;let⟨j,h1,h2,h3,h4,h5⟩:=Mx he;have hl:z.cps.toList.length=z.length:=by simp[Str.length]
 rw[hl]at h1 h4 h5;have hn:=EG
 exact tail_any (typeIs_str s z t) slot_str_getitem.lookup (getItem_str (c:=c) (by
  have e1:decide (i< -(2^63:Int))=ao:=decide_eq_false ⋯;have e2:decide (i≥2^63)=ao:=decide_eq_false ⋯;rw[e1,e2,Bool.or_false]) (by rw[h1];simpa using h2) ⟨.str ⟨#[c]⟩,H,I.tok _,⟨_,rfl⟩,q⟩) hs
abbrev Xu(K:jq):R2:=λx y H Q=>Vb K x y H Q∨Va K x y H Q∨U9 x y H Q
def aF4:tJ X (Xu X.K):=Zj.or (aF2.or aF3)
abbrev Ho:V->Bool
 |.ag=>ak
 |.bl _=>ak
 |.int _=>ak
 |.str _=>ak
 |_=>ao
abbrev KD:V->V->Bool
 |.ag,.ag=>ak
 |.bl a,.bl b=>a==b
 |.bl a,.int b=>(if a then 1 else 0)==b
 |.int a,.bl b=>a==(if b then 1 else 0)
 |.int a,.int b=>a==b
 |.str a,.str b=>a==b
 |_,_=>ao
def aF5{A:jf}{s:cg}{x:V}(ry:RelV y u)(rx:RelV x v)(fy:Ho y=ak)(fx:Ho x=ak):SeqAt.EqAt A s u v (KD y x):=by
 cases y with
 |ag =>
  cases ry;cases x with
  |ag=>cases rx;exact SeqAt.EqAt.same _
  |bl b=>cases rx;exact SeqAt.EqAt.none_bool b
  |int b=>let⟨t,rfl⟩:=rx;exact SeqAt.EqAt.none_int b t
  |str b=>let⟨t,rfl⟩:=rx;exact SeqAt.EqAt.none_str b t
  |_=>exact absurd (show ao=ak from fx) ql
 |bl a =>
  cases ry;cases x with
  |ag=>cases rx;exact SeqAt.EqAt.bool_none a
  |bl b=>cases rx;exact SeqAt.EqAt.bool_bool a b
  |int b=>let⟨t,rfl⟩:=rx;exact SeqAt.EqAt.bool_int a b t
  |str b=>let⟨t,rfl⟩:=rx;exact SeqAt.EqAt.bool_str a b t
  |_=>exact absurd (show ao=ak from fx) ql
 |int a =>
  let⟨t',rfl⟩:=ry;cases x with
  |ag=>cases rx;exact SeqAt.EqAt.int_none a t'
  |bl b=>cases rx;exact SeqAt.EqAt.int_bool a t' b
  |int b=>let⟨t,rfl⟩:=rx;exact SeqAt.EqAt.int_int a t' b t
  |str b=>let⟨t,rfl⟩:=rx;exact SeqAt.EqAt.int_str a t' b t
  |_=>exact absurd (show ao=ak from fx) ql
 |str a =>
  let⟨t',rfl⟩:=ry;cases x with
  |ag=>cases rx;exact SeqAt.EqAt.str_none a t'
  |bl b=>cases rx;exact SeqAt.EqAt.str_bool a t' b
  |int b=>let⟨t,rfl⟩:=rx;exact SeqAt.EqAt.str_int a t' b t
  |str b=>let⟨t,rfl⟩:=rx;exact SeqAt.EqAt.str_str a t' b t
  |_=>exact absurd (show ao=ak from fx) ql
 |_=>exact absurd (show ao=ak from fy) ql
def aeA:xc X (.builtin "len") (λxs H Q=>∃p ys,xs=[.ref p]/\(gc X.K H p ys∨eD X.K H p ys)/\Q (.int ys.length) H):=by
 intro ψ s σ H xs us Q I r h;let⟨p,ys,rfl,hq,q⟩:=h;let⟨u,rfl,rx⟩:=vals1 r;cases rx;have hn:=EG;rcases hq with hq|hq
 .obtain⟨its,r',pl,hz⟩:=I.list hq;have hlen:=r'.length;exact Calls.call_len_list pl.isList (by simp only[jg]<;>omega) ⟨.int ys.length,H,I.tok _,⟨s.toks+1,by rw[jg,hlen]⟩,q⟩
 .obtain⟨its,r',pl,hz⟩:=I.tuple hq;have hlen:=r'.length;exact len_tuple pl (by simp only[jg]<;>omega) ⟨.int ys.length,H,I.tok _,⟨s.toks+1,by rw[jg,hlen]⟩,q⟩
def aeB:xc X (.builtin "len") (λxs H Q=>∃z,xs=[.str z]/\z.length<=dg/\Q (.int z.length) H):=by
 intro ψ s σ H xs us Q I r h;let⟨z,rfl,hz,q⟩:=h;let⟨u,rfl,t,rfl⟩:=vals1 r;have hn:=EG;exact len_str ⋯ ⟨.int z.length,H,I.tok _,⟨_,rfl⟩,q⟩
def xc.or{r:List V->Hp->VK->Prop}(h:xc X f r)(h':xc X f r'):xc X f (λxs H Q=>r xs H Q∨r' xs H Q):=by
 intro ψ s σ H xs us Q I rs q;rcases q with q|q
 .exact h ψ s σ H xs us Q I rs q
 .exact h' ψ s σ H xs us Q I rs q
abbrev OS(K:jq)(T:String)(x:V)(H:Hp):Prop:=match x with
 |.str _=>T="str"
 |.int _=>T="int"
 |.ref p=>(T="list"/\∃xs,gc K H p xs)∨(T="tuple"/\∃o,K.lookup p=aj o/\o.cls=.type "tuple"/\o.dict=bh) ∨
   (T="dict"/\((∃kvs,H p=aj (.dK kvs))∨∃kvs,H p=aj (.dT kvs)))∨(T="set"/\∃S n,H p=aj (.set S n))
 |_=>False
def Rm{ψ:List (bw×Obj)}{s:cg}{T:String}{x:V}(I:Inv X ψ σ H s)(r:RelV x v)(ty:OS X.K T x H) :
  s.TypeIs v T/\∀a,v=.ref a->∃ob,s.heap.get? a=aj ob/\ob.dict=bh:=by
 cases x with
 |str z =>
  let⟨t,rfl⟩:=r;cases(show T="str" from ty);exact⟨typeIs_str s z t,λ_ e=>nomatch e⟩
 |int i =>
  let⟨t,rfl⟩:=r;cases(show T="int" from ty);exact⟨typeIs_int s i t,λ_ e=>nomatch e⟩
 |ref p =>
  cases r;rcases ty with⟨rfl,xs,hq⟩|⟨rfl,o,hk,hc,hd⟩|⟨rfl,hk⟩|⟨rfl,S,n,hk⟩
  .obtain⟨its,_,pl,_⟩:=I.list hq;refine⟨pl.isList.typeIs,λa e=>?_⟩;cases e;let⟨o,n,e,c,hd,_⟩:=pl;exact⟨o,e,hd⟩
  .refine⟨⟨o,I.de p o hk,hc⟩,λa e=>?_⟩;cases e;exact⟨o,I.de _ o hk,hd⟩
  .have z:∃o,s.heap.get? p=aj o/\o.ExactDict:=by
    rcases hk with⟨kvs,hk⟩|⟨kvs,hk⟩
    .obtain⟨_,_,_,_,o,_,_,e,ex,_⟩:=I.af p _ hk;exact⟨o,e,ex⟩
    .obtain⟨_,_,_,_,o,_,_,e,ex,_⟩:=I.af p _ hk;exact⟨o,e,ex⟩
   let⟨o,e,ex⟩:=z;refine⟨⟨o,e,ex.1⟩,λa e2=>?_⟩;cases e2;exact⟨o,e,ex.2.1⟩
  .obtain⟨o,_,_,_,e,ex,_⟩:=I.af p _ hk;refine⟨⟨o,e,ex.1⟩,λa e2=>?_⟩;cases e2;exact⟨o,e,ex.2.1⟩
 |_=>exact False.elim ty
end
end
variable{its:List au}{t':Nat}
section
abbrev MtM(X:Cx)(id:String)(r:V->List V->Hp->VK->Prop):Prop :=
 ∀(ψ:List (bw×Obj))(s:cg)(σ:St)(H:Hp)(x:V)(xs:List V)(v:au)(us:List au)(Q:VK),Inv X ψ σ H s->RelV x v->Vals xs us->r x xs H Q ->
  dj (dz X.prog X.w) X.A (call (.builtin id) (v::us)) (EP X ψ σ Q) X.xe s
def Vals.one{x:V}(h:Vals [x] us):∃u,us=[u]/\RelV x u:=by
 cases h with
 |cons r h=>cases h;exact⟨_,rfl,r⟩
def Vals.reverse{xs:List V}{us:List au}(h:Vals xs us):Vals xs.reverse us.reverse:=by
 induction h with
 |nil=>exact .nil
 |cons r t ih=>rw[Iz,Iz];exact Vals.append ih (.cons r .nil)
section
variable{ψ:List (bw×Obj)}{s:cg}{l:bw}{xs ys:List V}
def Inv.aQ5{its':List au}{n:Nat}(I:Inv X ψ σ H s)(hH:H l=aj (.lst xs))
  (e:s.heap.get? l=aj {cls:=.type "list",data:=.seq its.toArray n})(hf:f its.toArray=its'.toArray)(hv:Vals ys its')(hz:ys.length<=dg) :
  Inv X ψ σ (upd H l (.lst ys)) {s with heap:=s.heap.update l (Obj.mapSeq f),toks:=t' }:=by
 have q:=PySem.IsL.update e f;rw[hf]at q;refine I.write (x:=l) (e:=l) (by rw[hH];exact trivial) (.inl rfl) (λb' u hb hu=>(E9 s.heap (Obj.mapSeq f) (Ne.symm hb)).trans hu) ⟨_,q⟩ ?_;exact⟨hz,its',_,hv,q⟩
def Inv.U8(I:Inv X ψ σ H s)(hv:Vals ys its)(hz:ys.length<=dg) :
  Inv X ψ σ (upd H s.heap.objs.size (.lst ys)) {s with heap:=s.heap.push {cls:=.type "list",data:=.seq its.toArray},toks:=t' } :=
 I.laid (λ_ _ q=>cu _ q) (gw _) ⟨hz,its,0,hv,jd _ rfl⟩
def Inv.fresh(I:Inv X ψ σ H s):H s.heap.objs.size=bh:=I.af.fresh (gw _)
def Inv.Nk(I:Inv X ψ σ H s)(hH:H l=aj (.lst xs)):xs.length<=dg/\∃(its:List au)(n:Nat),Vals xs its/\xs.length=its.length/\s.heap.get? l=aj {cls:=.type "list",data:=.seq its.toArray n}:=by
 let⟨z,its,n,r,e⟩:=I.af l _ hH;exact⟨z,its,n,r,r.length,e⟩
end
section
abbrev Zi:V->List V->Hp->VK->Prop:=λx vs H Q=>∃l xs y,x=.ref l/\vs=[y]/\H l=aj (.lst xs)/\xs.length<dg/\Q .ag (upd H l (.lst (xs++[y])))
def Uz:MtM X "list.append" Zi:=by
 intro ψ s σ H x vs v us Q I rx rv h;let⟨l,xs,y,rfl,rfl,hH,hz,q⟩:=h;cases rx;let⟨u,rfl,ru⟩:=rv.one;let⟨z,its,n,r,hl,e⟩:=I.Nk hH;refine call_meets F.slot_list_append ⟨_,e,rfl⟩ F.entry_list_append (F.args_list_append_2 _ _) (PySem.list_append l its.toArray n u (by rw[jg];omega)) ⟨e,?_⟩;refine⟨.ag,_,I.aQ5 (its':=its++[u]) hH e (by simp) (r.append (.cons ru .nil)) ?_,rfl,q⟩;rw[wu,List.length_singleton];omega
abbrev aQ6:R2:=λx y H Q=>∃l b xs zs,x=.ref l/\y=.ref b/\H l=aj (.lst xs)/\H b=aj (.lst zs)/\xs.length+zs.length<=dg/\∀p,H p=bh->Q (.ref p) (upd H p (.lst (xs++zs)))
def aF7:b8 X (zc .Add) aQ6:=by
 intro ψ s σ H x y v u Q I rx ry h;let⟨l,b,xs,zs,rfl,rfl,hH,hB,hz,q⟩:=h;cases rx;cases ry;let⟨z,its,n,r,hl,e⟩:=I.Nk hH;let⟨z2,eJ,n2,r2,rq,e2⟩:=I.Nk hB;refine PySem.P.add_list e e2 ?_ (by rw[jg,jg];omega);have ea:its.toArray++eJ.toArray=(its++eJ).toArray:=by simp
 rw[ea];exact⟨.ref _,_,I.U8 (t':=s.toks) (r.append r2) (by rw[wu];omega),rfl,q _ I.fresh⟩
end
section
end
section
end
end
end L2
namespace WV
open PySem PySem.W PySem.Calls PyProof.Rows
variable{h:lg}
def a7A:∀(ns:List Int)(vs:List au),WellAll P h vs (ns.map WData.int)->hV vs ns:=by
 intro ns
 induction ns with
 |nil =>
  intro vs w;rw[List.map_nil]at w;cases w;exact .nil
 |cons n ns ih =>
  intro vs w;rw[jc]at w;cases w with
  |cons a b =>
   cases a;exact .cons _ _ (ih _ b)
variable{l:OpenLaw}
def apK{n:Nat}(hn:l.most=aj n) 
  (tT:l.row.toRowW.claim.pre args=ak)(Kb:WellAll P h vals args) :
  ∃a vs ns,vals=[au.ref a]/\args=[WData.list (ns.map WData.int)]/\h.get? a=aj {cls:=.type "list",data:=.seq vs.toArray}/\hV vs ns/\ns.length<=n:=by
 have Dv:WShape.hasAll [] args [.list .int]=ak:=(pre_splitW tT).1;have hc:l.pre.holds [] {args:=args}=ak:=(pre_splitW tT).2;let⟨d,r,rfl,h1,h2⟩:=hasAllW_cons Dv;obtain rfl:=hasAllW_nil h2;let⟨xs,rfl,h3⟩:=hasW_list h1;let⟨ns,rfl⟩:=items_int h3
 have hlen:ns.length<=n:=by
  unfold OpenLaw.pre at hc
  have h4:(WTm.not (.lt (.lit (.int (n:Int))) (.len (.arg 0)))).holds [] {args:=[.list (ns.map .int)]}=ak:=by
   have h4:=(holds_andW hc).1;rw[hn]at h4;exact h4
  have h5:=condW_of h4 (w_not (w_lt w_lit (w_len_list (w_arg rfl))));rw[dw]at h5;refine Nat.le_of_not_lt λq=>?_;have q':(n:Int)<((ns.length:Nat):Int):=by omega
  first
   |(rw[decide_eq_true q']at h5;exact absurd h5 (by decide))
   |(simp at h5;omega)
 cases Kb with
 |cons w1 w2 =>
  cases w2;cases w1 with
  |list ho fh=>exact⟨_,_,ns,rfl,rfl,ho,a7A ns _ fh,hlen⟩
def apL(l:OpenLaw)(args:List WData):l.row.toRowW.claim.post args (.bool ak) args=ak :=
 postW_of (r:=l.row.toRowW) (X:=(ak==ak))
  (show WShape.has [] (.bool ak) .bool=ak by first|rfl|decide|simp[WShape.has,WShape.arms,WShape.armsAll])
  (show(WTm.eq .res (.lit (.bool ak))).value [] {args:=args,res:=some (.bool ak),after:=args}=aj (.bool (ak==ak))from w_eq_bool (w_res rfl) w_lit) rfl
def agI{n:Nat}{d:DefRec}
  (hn:l.most=aj n)(DB:d.params.defaults=[])
  (call:∀(w:jr)(av ai:cg)(mg mb:Str->Option au)(fa:bw)(o:Obj)(pm cd doc:au)(a:bw)(vs:List au)(ns:List Int),
   Ground q loose [] XP w av mg mb ai.heap->YP w ai.heap ->
   ai.heap.get? fa=aj o->o.data=.func (docDef d.name d.params d.body d.scope pm cd doc)->ai.heap.CodeRec cd d.name->mg d.name=aj (.ref fa) ->
   ai.heap.get? a=aj {cls:=.type "list",data:=.seq vs.toArray}->hV vs ns->ns.length<=n->ai.gens=#[] ->
   kc (dz l.prog w) callerA (.call (.ref fa) ⟨[.ref a],[]⟩) (λr s'=>r=.ok (.ret (.bool ak))/\OldK ai.heap s'.heap/\s'.os=ai.os/\AllBare s'.gens) ai) :
  WalkO q loose XP YP l.row.toRowW d [] (λf vs=>PySem.call f vs):=by
 intro w av ai mg mb G Y fa o pm cd doc dV kV ho hd gz hD Dy hg args vals as tT hlay hrd Kb Bi;obtain rfl:dV=.none:=Dflts.none hD DB;obtain rfl:kV=.none:=Dflts.noKw hD;let⟨a,vs,ns,rfl,rfl,nK,hints,hlen⟩:=apK hn tT Kb;refine enter_call (Am (call w av ai mg mb fa o pm cd doc a vs ns G Y ho (fd_plain hd) gz Dy nK hints hlen hg) λr s' hq=>?_);let⟨rfl,h2,h3,h4⟩:=hq;exact⟨.inl ⟨.bool ak,.bool ak,[],rfl,λ_=>rfl,.bool ak,apL l _,λ_=>⟨xj.nil,λ_ hm=>(nomatch hm)⟩⟩,h2,h3,h4⟩
section
abbrev ledger(h:lg)(L d:bw):List (bw×Obj):=(qd h.objs.size).filterMap λa=>if a=L∨a=d then bh else(h.get? a).map λo=>(a,o)
end
end WV
namespace L2
open PySem PySem.Spec PyProof.Rows
variable{mg:Str->Option au}
section
def Uy:∀{vs:List au}{ns:List Int},hV vs ns->Vals (ns.map V.int) vs
 |_,_,.nil=>.nil
 |_,_,.cons n t h=>.cons ⟨t,rfl⟩ (Uy h)
abbrev AU(H:Hp):Prop:=∀b,H b=bh∨∃o xs,H b=aj (.jJ o (.lst xs))
private theorem asF{w:jr}{K:jq}{k:Nat}{a:bw}{x:Str}{ai:cg}{vs:List au}{ns:List Int}
  (KX:K.In ai.heap)(PF:ai.heap.Ns nj mg)(hb:ai.heap.Ns builtinsNs mb)(Yj:∀x:Str,x≠"__name__"->mb x=qe x)(OH:ai.heap.NoLimit)(hg:ai.gens=#[])
  (ha:ai.heap.get? a=aj {cls:=.type "list",data:=.seq vs.toArray})(hi:hV vs ns)(hl:ns.length<=dg)(hr:lB qt k callerA)
  (F:∀base:lg,K.In base->base.Ns nj mg->c7 qt P w K mg base CX k fa fd [x] sp)(FR:∀(s:cg)(u:au),BindsTo s fd ⟨[u],[]⟩ [(x,u)])
  (uS:∀H:Hp,AU H->gc K H a (ns.map V.int)->sp [.ref a] H (λv _=>v=.bl ak) λ_ _ _=>False)
  (Ku:∀H e s',CX [] H ai (λ_ _ _=>False) e s'->False) :
  kc (dz P w) callerA (.call (.ref fa) ⟨[.ref a],[]⟩) (λr s'=>r=.ok (.ret (.bool ak))/\OldK ai.heap s'.heap/\s'.os=ai.os/\AllBare s'.gens) ai:=by
 have rv:=Uy hi;have OB:=hi.length
 have core:∀H:Hp,AU H->gc K H a (ns.map V.int)->bP P w H ai.heap->(∀b,H b≠bh->b=a)->(H a≠bh->K.lookup a=bh) ->
   kc (dz P w) callerA (.call (.ref fa) ⟨[.ref a],[]⟩) (λr s'=>r=.ok (.ret (.bool ak))/\OldK ai.heap s'.heap/\s'.os=ai.os/\AllBare s'.gens) ai:=by
  intro H hO hS af hA hK;have Sz:∀{b:bw}{o:Obj},ai.heap.get? b=aj o->H b=bh->(sD ai.heap H).get? b=aj o:=λe n=>arS e n
  have Dh:∀{b:bw}{o:Obj}{es:Array ip}{ep:Nat},ai.heap.get? b=aj o->o.data=.dict es ep->H b=bh:=λ{b o es ep} e d=>by
   cases q:H b with
   |none=>rfl
   |some u =>
    have e':b=a:=hA b (by rw[q];simp);subst e';rw[ha]at e;cases e;have d':Data.seq vs.toArray _=Data.dict es ep:=d;cases d'
  have F5:∀{b:bw}{m:Str->Option au},ai.heap.Ns b m->(sD ai.heap H).Ns b m:=λ{b m} ⟨o,es,ep,e,d,r⟩=>⟨o,es,ep,Sz e (Dh e d),d,r⟩
  have P7:K.In (sD ai.heap H):=λb o e=>Sz (KX b o e) (by
   cases q:H b with
   |none=>rfl
   |some u =>
    have e':b=a:=hA b (by rw[q];simp);subst e';rw[hK (by rw[q];simp)]at e;cases e)
  have hM:Mod K mg (sD ai.heap H):=⟨P7,F5 PF,⟨mb,F5 hb,Yj⟩,let⟨mc,h1,h2⟩:=OH;⟨mc,F5 h1,h2⟩⟩;have e0:zz P w K mg (sD ai.heap H) callerA [] ai H:=⟨rfl,hM,λb o e=>ZI e,Cn (ap9 _ _),trivial,λb hb=>absurd (show b∈([]:List bw)from hb) (by simp),af,.of_eq hg,.inl rfl⟩;refine Am ((F _ P7 (F5 PF)).run callerA [] ai H ⟨[.ref a],[]⟩ [.ref a] [.ref a] _ _ hr e0 (FR ai (.ref a)) (.cons rfl .nil) (uS H hO hS)) λr s' h=>?_;cases r with
  |error e=>exact(Ku H e s' h).elim
  |ok fl =>
   cases fl with
   |next=>exact False.elim h
   |brk=>exact False.elim h
   |cont=>exact False.elim h
   |ret u =>
    let⟨v,H',os,bare,un,OG,r',q⟩:=h;have q':v=.bl ak:=q;subst q';obtain rfl:u=au.bool ak:=r';refine⟨rfl,OldK.of_keep λb o e=>?_,os,bare⟩;cases q:H b with
    |none=>exact un.keep b o e q (by intro z;exact absurd (show b∈([]:List bw)from z) (by simp)) (by simp)
    |some u =>
     rcases hO b with z|⟨ob,xs,z⟩
     .rw[q]at z;cases z
     .have z2:=un.m7 b ob _ z;let⟨e1,_⟩:=af b _ z;let⟨e2,_⟩:=OG b _ z2;rw[e]at e1;cases e1;exact e2
 cases hk:K.lookup a with
 |some o =>
  have e:=KX a o hk;rw[ha]at e;cases e;refine core (λ_=>bh) (λ_=>.inl rfl) (.inr ⟨_,vs.toArray,_,hk,rfl,rfl,rfl,by rw[jg,OB];exact hl,by simpa using rv⟩) (λb u z=>by have z':(bh:Option HO)=aj u:=z;cases z') (λb z=>absurd rfl z) λz=>absurd rfl z
 |none =>
  refine core (λb=>if b=a then aj (.jJ {cls:=.type "list",data:=.seq vs.toArray} (.lst (ns.map V.int)))else bh) (λb=>?_) (.inl (.inr ⟨{cls:=.type "list",data:=.seq vs.toArray},if_pos rfl⟩)) (λb u z=>?_) (λb z=>?_) λ_=>hk
  .by_cases hb:b=a
   .exact .inr ⟨_,_,if_pos hb⟩
   .exact .inl (if_neg hb)
  .by_cases hb:b=a
   .have z':=(if_pos hb).symm.trans z;cases z';subst hb;exact⟨ha,by rw[dw];exact hl,vs,_,rv,ha⟩
   .have z':=(if_neg hb).symm.trans z;cases z'
  .by_cases hb:b=a
   .exact hb
   .exact absurd (if_neg hb) z
end
section
def Zh{l:PySem.W.OpenLaw}{n k:Nat}{q:mz}{loose:List Str}{XP:(Str->Option au)->lg->Prop}{YP:jr->lg->Prop}{d:DefRec}{K:Params->jq}{CX:jr->Fq}{sp:jr->Sp}{x:Str}
  (hn:l.most=aj n)(Go:n<=dg)(DB:d.params.defaults=[])(hr:lB qt k callerA)
  (hY:∀(w:jr)(h:lg),YP w h->(K w.params).In h)
  (F:∀(w:jr)(mg:Str->Option au)(fa:bw)(h:lg),(K w.params).In h->h.Ns nj mg->mg d.name=aj (.ref fa) ->
   ∃fd:oh,(∀(s:cg)(u:au),BindsTo s fd ⟨[u],[]⟩ [(x,u)]) /\
    ∀base:lg,(K w.params).In base->base.Ns nj mg->c7 qt l.prog w (K w.params) mg base (CX w) k fa fd [x] (sp w))
  (uS:∀(w:jr)(H:Hp)(a:bw)(ns:List Int),ns.length<=n->AU H->gc (K w.params) H a (ns.map V.int)->sp w [.ref a] H (λv _=>v=.bl ak) λ_ _ _=>False)
  (Ku:∀(w:jr)(H:Hp)(s:cg)(e:au)(s':cg),CX w [] H s (λ_ _ _=>False) e s'->False) :
  PySem.W.WalkO q loose XP YP l.row.toRowW d [] (λf vs=>PySem.call f vs):=by
 refine WV.agI hn DB λw av ai mg mb fa o pm cd doc a vs ns G Y ho hd gz Dy nK hints hlen hg=>?_;have KX:=hY w _ Y;let⟨fd,hb,hF⟩:=F w mg fa _ KX G.T.g Dy;exact asF KX G.T.g G.T.b G.T.builtins G.T.nolimit hg nK hints (qw hlen Go) hr hF hb (λH hO hS=>uS w H a ns hlen hO hS) λH e s'=>Ku w H ai e s'
end
section
abbrev inClass(s:nu)(j:Nat):nu:=match s with
 |.ClassDef _ _ _ body _ _ _ _ _ _ _=>body.getD j (.Pass ⟨0,0,0,0⟩)
 |_=>.Pass ⟨0,0,0,0⟩
abbrev dI(s:nu):Arguments:=match s with
 |.FunctionDef _ a _ _ _ _ _ _ _ _=>a
 |_=>{posonlyargs:=[],args:=[],vararg:=none,kwonlyargs:=[],kw_defaults:=[],kwarg:=none,defaults:=[]}
abbrev cH(s:nu):List nu:=match s with
 |.FunctionDef _ _ b _ _ _ _ _ _ _=>b
 |_=>[]
abbrev aV(s:nu):dE:=match s with
 |.FunctionDef _ _ _ _ _ _ sc _ _ _=>sc
 |_=>{kind:=.function,names:=[],isGenerator:=false,isCoroutine:=false}
structure gu(K:jq)(x qual:Str)(st:nu)(f:bw)(fd:oh):Prop where
 ex:∃(oc:au)(od:Option bw)(dV kV doc pm:au)(an:Option bw)(eB ct:au)(A7:Array (Option au)),
  fd=su x qual (dI st) (cH st) (aV st) dV kV doc pm an eB ct/\K.lookup f=aj ⟨oc,od,.func fd,A7⟩/\Cq K eB qual=ak
 kp:wz K (.ref f)=ak
section
variable{K:jq}
def LV{x qual:Str}{st:nu}{f:bw}{oc:au}{od an:Option bw}{A7:Array (Option au)}{dV kV doc pm eB ct:au}(l:K.lookup f=aj ⟨oc,od,.func (su x qual (dI st) (cH st) (aV st) dV kV doc pm an eB ct),A7⟩)
  (c:Cq K eB qual=ak)(k:wz K (.ref f)=ak):gu K x qual st f (su x qual (dI st) (cH st) (aV st) dV kV doc pm an eB ct):=⟨⟨oc,od,dV,kV,doc,pm,an,eB,ct,A7,rfl,l,c⟩,k⟩
end
section
end
def BR{c A B:Prop}[Decidable c](h1:c->A)(h2:¬ c->B):if c then A else B:=by
 by_cases h:c
 .rw[if_pos h];exact h1 h
 .rw[if_neg h];exact h2 h
abbrev aS(H H':Hp):Prop:=∀b o,H b=aj o->H' b=aj o
def aS.refl(H:Hp):aS H H:=λ_ _ h=>h
section
end
section
variable{κ:Type}[DecidableEq κ]
end
end
variable{h:lg}
section
@[simp]def NK:=List Int×Int
abbrev nh(h:lg)(k:NK)(a:bw):Prop:=∃o b t n,h.get? a=aj o/\o.cls=.type "tuple"/\o.data=.seq #[.ref b,.int k.2 t] n/\∀(P:mz)(w:jr),IsTupleKey (aF P w) h (k.1.map Sum.inl) b
def Sy{x y:List Int}(h:x.map (Sum.inl:Int->Key)=y.map Sum.inl):x=y:=by
 induction x generalizing y with
 |nil=>cases y with
  |nil=>rfl
  |cons _ _=>cases h
 |cons a r ih=>cases y with
  |nil=>cases h
  |cons b q =>
   rw[jc,jc]at h;injection h with h1 h2;injection h1 with h1;rw[h1,ih h2]
def EE{P:mz}{w:jr}{a:bw}{x:NK}(hx:nh h x a)(hy:nh h y a):x=y:=by
 let⟨o,b,t,n,e1,e2,e3,e4⟩:=hx;let⟨o',b',t',n',g1,g2,g3,g4⟩:=hy;rw[e1]at g1;cases g1;rw[e3]at g3;simp only[Data.seq.injEq,Array.mk.injEq,List.cons.injEq,au.ref.injEq,au.int.injEq,and_true]at g3;let⟨⟨rfl,h2,_⟩,_⟩:=g3;have:=Sy ((e4 P w).inj (g4 P w));exact Prod.ext this h2
def asG{P:mz}{w:jr}{k:NK}{a:bw}{o:Obj}{es ep}(x:nh h k a)(ho:h.get? d=aj o)(hd:o.data=.dict es ep)(hs:kh d h h'):nh h' k a:=by
 let⟨o',b,t,n,e1,e2,e3,e4⟩:=x
 have lh:a≠d:=by
  rintro rfl;rw[e1]at ho;cases ho;rw[hd]at e3;exact nomatch e3
 exact⟨o',b,t,n,(hs.2 a lh).trans e1,e2,e3,λP w=>(e4 P w).keeps ho hd hs⟩
section
variable{prog:mz}{w:jr}{A:jf}{s:cg}
abbrev LU(prog:mz)(w:jr)(k:NK):Int:=reduceHash (Builtin.Tuple.tupleHashOf [tupleKeyHash (aF prog w) (k.1.map Sum.inl),(aF prog w).hash (.inl k.2)])
def Sx{k:NK}{a:bw}(x:nh s.heap k a):s.TypeIs (.ref a) "tuple":=let⟨o,_,_,_,ho,hc,_⟩:=x;⟨o,ho,hc⟩
def apO{k:NK}{a:bw}(hu:A.units+8<qg)(hk:nh s.heap k a)(h:Q (LU prog w k) {s with toks:=s.toks+(k.1.length+1+1+1)}) :
  dj (dz prog w) A (pyHash (.ref a)) Q E s:=by
 have hT:=Sx hk;let⟨o,b,t,n,ho,hc,hd,hi⟩:=hk;unfold pyHash
 first|unfold pyHashByItsType|skip
 first|refine aq (wpAny_cRoomFor_or (.inr ⋯) ?_)|skip
 refine aq (wpAny_specialOf hT PySem.F.slot_tuple_hash.lookup ?_);show dj _ _ (if(aj (au.builtin "tuple.__hash__")==aj au.none)=ak then _ else _) Q E s;rw[if_neg (by rw[beq_builtin_none];exact ql)];refine aq (wpAny_specialOf hT PySem.F.slot_tuple_hash.lookup ?_);show dj _ _ (callSpecialIfBoundUnlessNone? (.ref a) "__hash__" _ >>= _) Q E s;refine aq (wpAny_callSpecialIfBoundUnlessNone?_slot hT PySem.F.slot_tuple_hash (yx PySem.F.slot_tuple_hash hT PySem.F.entry_tuple_hash ?_ (PySem.F.args_tuple_hash_1 _)));show dj _ _ (Builtin.Tuple.tupleItemsOf (.ref a) >>= _) _ _ s;refine aq (wpAny_tupleItemsOf ho hd ?_);refine aq ?_;rw[←Array.forIn_toList];have hl:(k.1.map (Sum.inl:Int->Key)).length=k.1.length:=dw ..
 refine wpAny_forIn_list _
  (λrest (acc:Array Int) s'=>(rest=[au.ref b,.int k.2 t]/\acc=#[]/\s'=s)∨(rest=[au.int k.2 t]/\acc=#[tupleKeyHash (aF prog w) (k.1.map Sum.inl)]/\s'={s with toks:=s.toks+(k.1.length+1)})∨(rest=[]/\acc=#[tupleKeyHash (aF prog w) (k.1.map Sum.inl),(aF prog w).hash (.inl k.2)]/\s'={s with toks:=s.toks+(k.1.length+1+1)}))
  _ ?_ ?_ _ _ (.inl ⟨rfl,rfl,rfl⟩)
 .rintro x rest acc s' (⟨hr,rfl,rfl⟩|⟨hr,rfl,rfl⟩|⟨hr,_⟩)
  .injection hr with h1 h2;subst h1 h2;refine aq (wpAny_pyHash_tuple (knd:=aF prog w) (by show A.units+1<qg;omega) (hi prog w) ?_);rw[hl]
   first
    |exact cj (.inr (.inl ⟨rfl,rfl,rfl⟩))
    |exact aq (cj (cj (.inr (.inl ⟨rfl,rfl,rfl⟩))))
  .injection hr with h1 h2;subst h1 h2;refine aq ((aF prog w).pyHash (Wm prog w k.2 t) ?_)
   first
    |exact cj (.inr (.inr ⟨rfl,rfl,rfl⟩))
    |exact aq (cj (cj (.inr (.inr ⟨rfl,rfl,rfl⟩))))
  .cases hr
 .rintro acc s' (⟨hr,_⟩|⟨hr,_⟩|⟨_,rfl,rfl⟩)
  .cases hr
  .cases hr
  .show dj _ _ (retInt (Builtin.Tuple.tupleHashOf [tupleKeyHash (aF prog w) (k.1.map Sum.inl),(aF prog w).hash (.inl k.2)])) _ _ _;refine wpAny_ret_mkInt ?_;show dj _ _ (if(decide (-(2:Int)^63<=Builtin.Tuple.tupleHashOf [tupleKeyHash (aF prog w) (k.1.map Sum.inl),(aF prog w).hash (.inl k.2)])&&decide (Builtin.Tuple.tupleHashOf [tupleKeyHash (aF prog w) (k.1.map Sum.inl),(aF prog w).hash (.inl k.2)]<2^63))=ak then _ else _) Q E _;unfold LU reduceHash at h;by_cases hr:(decide (-(2:Int)^63<=Builtin.Tuple.tupleHashOf [tupleKeyHash (aF prog w) (k.1.map Sum.inl),(aF prog w).hash (.inl k.2)])&&decide (Builtin.Tuple.tupleHashOf [tupleKeyHash (aF prog w) (k.1.map Sum.inl),(aF prog w).hash (.inl k.2)]<2^63))=ak
   .rw[if_pos hr];rw[if_pos hr]at h;exact cj (by simpa[Nat.add_assoc]using h)
   .rw[if_neg hr];rw[if_neg hr]at h;exact aq (kQ (cj (by simpa[Nat.add_assoc]using h)))
def Zg(P:mz)(w0:jr){x:NK}{a b:bw}(hu:A.units+8<qg)(hx:nh s.heap x a)(hy:nh s.heap y b):SeqAt.EqAt A s (.ref a) (.ref b) (decide (x=y)):=by
 by_cases DE:a=b
 .subst DE;have e:x=y:=EE (P:=P) (w:=w0) hx hy;subst e;rw[decide_eq_true rfl];exact SeqAt.EqAt.same _
 .obtain⟨o,b1,t,n,e1,e2,e3,e4⟩:=hx;let⟨o',b2,t',n',g1,g2,g3,g4⟩:=hy;refine SeqAt.EqAt.of_refs DE ?_
  have z:=SeqAt.RcAt.tuples (A:=A) (s:=s) (e:=λj=>if j=0 then decide (x.1=y.1)else decide (x.2=y.2)) (show s.heap.IsTuple a #[.ref b1,.int x.2 t]from⟨o,e1,e2,n,e3⟩) (show s.heap.IsTuple b #[.ref b2,.int y.2 t']from⟨o',g1,g2,n',g3⟩) ⋯ (λj h1 h2=>by
   match j,h1,h2 with
   |0,_,_ =>
    rw[if_pos rfl];intro kr w' E' Q' hq
    have e:decide (x.1.map (Sum.inl:Int->Key)=y.1.map Sum.inl)=decide (x.1=y.1):=by
     rw[decide_eq_decide];exact⟨Sy,λz=>by rw[z]⟩
    exact wpAny_eqBool_tuple (knd:=aF kr w') (by show A.units+1<qg;omega) (e4 kr w') (g4 kr w') (by rw[e];exact hq)
   |1,_,_ =>
    rw[if_neg (by decide)];intro kr w' E' Q' hq
    exact wpAny_eqBool_int (by
     have e:(x.2==y.2)=decide (x.2=y.2):=rfl
     first
      |exact hq
      |(rw[e];exact hq))
   |j+2,h1,_=>exact absurd h1 (by simp))
  have e:((qd (min (#[au.ref b1,.int x.2 t]:Array au).size (#[au.ref b2,.int y.2 t']:Array au).size)).all (λj=>if j=0 then decide (x.1=y.1)else decide (x.2=y.2))&&(#[au.ref b1,.int x.2 t]:Array au).size==(#[au.ref b2,.int y.2 t']:Array au).size)=decide (x=y):=by
   show((qd 2).all _&&ak)=_;rw[show qd 2=[0,1]from rfl];simp only[List.all_cons,List.all_nil,Bool.and_true,if_true,Nat.one_ne_zero,if_false];rw[Bool.eq_iff_iff,bx,decide_eq_true_eq,decide_eq_true_eq,decide_eq_true_eq];exact⟨λz=>Prod.ext z.1 z.2,λz=>by rw[z];exact⟨rfl,rfl⟩⟩
  rw[e]at z;exact z
def akL{m:Nat}{ks:List Key}{a:bw}(hk:IsTupleKey (aF prog w) s.heap ks a)(h:Q ak s):dj (dz prog w) A (eqIsQuiet (m+1) (.ref a)) Q E s:=by
 have hT:=hk.typeIs;let⟨o,items,n,ho,_,hd,hi⟩:=hk;unfold eqIsQuiet;refine aq (wpAny_specialOf hT PySem.F.slot_tuple_eq.lookup ?_);show dj _ _ (isInstance (.ref a) (.type "tuple") >>= _) _ _ s;refine aq (wpAny_isInstance hT isSubtype_tuple_tuple ?_);simp only[sT,ni,if_false];refine aq (wpAny_seqItems ho hd ?_);refine aq ?_;show dj _ _ (forIn items _ _) _ _ s;rw[←Array.forIn_toList];refine wpAny_forIn_list _ (λrest r s'=>r.1=bh/\s'=s/\∀v∈rest,carriedByValue v=ak) _ ?_ ?_ _ _ ⟨rfl,rfl,hi.byValue⟩
 .rintro v rest r s' ⟨hr,rfl,fh⟩;rw[eqIsQuiet_byValue _ (fh v xy)];refine aq (cj ?_);simp only[sT,ni,if_false];exact cj ⟨rfl,rfl,λu ro=>fh u (qp _ ro)⟩
 .rintro⟨r1,r2⟩ s' ⟨hr,rfl,_⟩;simp only at hr;subst hr;exact cj h
def asH{k:NK}{a:bw}(hk:nh s.heap k a)(h:Q ak s):dj (dz prog w) A (eqIsQuiet 8 (.ref a)) Q E s:=by
 have hT:=Sx hk;let⟨o,b,t,n,ho,_,hd,hi⟩:=hk;unfold eqIsQuiet;refine aq (wpAny_specialOf hT PySem.F.slot_tuple_eq.lookup ?_);show dj _ _ (isInstance (.ref a) (.type "tuple") >>= _) _ _ s;refine aq (wpAny_isInstance hT isSubtype_tuple_tuple ?_);simp only[sT,ni,if_false];refine aq (wpAny_seqItems ho hd ?_);refine aq ?_;rw[←Array.forIn_toList];refine wpAny_forIn_list _ (λrest r s'=>r.1=bh/\s'=s/\∀v∈rest,v=.ref b∨v=.int k.2 t) _ ?_ ?_ _ _ ⟨rfl,rfl,λv hv=>by simpa using hv⟩
 .rintro v rest r s' ⟨hr,rfl,fh⟩;rcases fh v xy with rfl|rfl
  .refine aq (akL (m:=6) (hi prog w) ?_);simp only[sT,ni,if_false];exact cj ⟨rfl,rfl,λu ro=>fh u (qp _ ro)⟩
  .rw[eqIsQuiet_byValue _ rfl];refine aq (cj ?_);simp only[sT,ni,if_false];exact cj ⟨rfl,rfl,λu ro=>fh u (qp _ ro)⟩
 .rintro⟨r1,r2⟩ s' ⟨hr,rfl,_⟩;simp only at hr;subst hr;exact cj h
end
abbrev w5(prog:mz)(w:jr):HeapKind prog w NK where
 is:=nh
 hash:=LU prog w
 draws:=λk=>k.1.length+1+1+1
 room:=λA=>A.units+8<qg
 inj:=λhx hy=>EE (P:=prog) (w:=w) hx hy
 keeps:=λx ho hd hs=>asG (P:=prog) (w:=w) x ho hd hs
 pyHash:=λhu hk h=>apO hu hk h
 eqBool:=λhu hx hy h=>Zg prog w hu hx hy prog w _ _ h
 quiet:=λhk h=>asH hk h
end
variable{ψ:List (bw×Obj)}{v:V}{pos:Pos}{r:R2}
section
inductive D where
 |ag|bl (b:Bool)|int (i:Int)|str (x:Str)|tup (xs:List D)|ref (a:bw)|ty (n:String)
@[simp]def Fg:=jq
@[simp]def sC(H:Hp)(a:bw)(xs:List V):Prop:=H a=aj (.tup xs)
def zv{a:bw}(h:H a=aj (.tup xs)):sC H a xs:=h
mutual
inductive RD(K:Fg)(H:Hp):D->V->Prop where
 |ag:RD K H .ag .ag
 |bl (b:Bool):RD K H (.bl b) (.bl b)
 |int (i:Int):RD K H (.int i) (.int i)
 |str (x:Str):RD K H (.str x) (.str x)
 |ty (n:String):RD K H (.ty n) (.ty n)
 |ref (a:bw):RD K H (.ref a) (.ref a)
 |tup {a:bw} {xs:List V} {ds:List D}:eD K H a xs->cW K H ds xs->sC H a xs->RD K H (.tup ds) (.ref a)
inductive cW(K:Fg)(H:Hp):List D->List V->Prop where
 |nil:cW K H [] []
 |cons {d:D} {v:V} {ds:List D} {vs:List V}:RD K H d v->cW K H ds vs->cW K H (d::ds) (v::vs)
end
structure Ts(H H':Hp):Prop where
 az:∀a xs,H a=aj (.tup xs)->H' a=aj (.tup xs)
 m7:∀a o u,H a=aj (.jJ o u)->H' a=aj (.jJ o u)
def Ts.refl(H:Hp):Ts H H:=⟨λ_ _ h=>h,λ_ _ _ h=>h⟩
def Ts.trans(a:Ts H H1)(b:Ts H1 H2):Ts H H2:=⟨λc xs h=>b.az c xs (a.az c xs h),λc o u h=>b.m7 c o u (a.m7 c o u h)⟩
def Ts.same(s:aS H H'):Ts H H':=⟨λa _ h=>s a _ h,λa _ _ h=>s a _ h⟩
def Ts.rd(t:Ts H H'){a:bw}(h:Rd H a (.tup xs)):Rd H' a (.tup xs):=by
 rcases h with h|⟨o,h⟩
 .exact .inl (t.az _ _ h)
 .exact .inr ⟨o,t.m7 _ _ _ h⟩
def Ts.C5{K:Fg}(t:Ts H H'){a:bw}(h:eD K H a xs):eD K H' a xs:=h.elim (λq=>.inl (t.rd q)) .inr
def sC.mono(t:Ts H H'){a:bw}(h:sC H a xs):sC H' a xs:=t.az _ _ h
def cA{o:HO}(h:H p=bh):aS H (upd H p o):=λb u e=>by
 rw[aP (n8 e h)];exact e
mutual
theorem RD.mono{K:Fg}{H H':Hp}(t:Ts H H'):∀{d:D}{v:V},RD K H d v->RD K H' d v
 |_,_,.ag=>.ag
 |_,_,.bl b=>.bl b
 |_,_,.int i=>.int i
 |_,_,.str x=>.str x
 |_,_,.ty n=>.ty n
 |_,_,.ref a=>.ref a
 |_,_,.tup h r e=>.tup (t.C5 h) (cW.mono t r) (e.mono t)
theorem cW.mono{K:Fg}{H H':Hp}(t:Ts H H'):∀{ds:List D}{vs:List V},cW K H ds vs->cW K H' ds vs
 |_,_,.nil=>.nil
 |_,_,.cons h r=>.cons (RD.mono t h) (cW.mono t r)
end
section
variable{K:Fg}
def cW.length:∀{ds:List D}{vs:List V},cW K H ds vs->ds.length=vs.length
 |_,_,.nil=>rfl
 |_,_,.cons _ r=>congrArg (·+1) (cW.length r)
def cW.append:∀{ds:List D}{vs:List V}{es:List D}{ws:List V},cW K H ds vs->cW K H es ws->cW K H (ds++es) (vs++ws)
 |_,_,_,_,.nil,s=>s
 |_,_,_,_,.cons h r,s=>.cons h (cW.append r s)
def cW.get:∀{ds:List D}{vs:List V}{i:Nat}{d:D},cW K H ds vs->ds[i]?=aj d->∃v,vs[i]?=aj v/\RD K H d v
 |_,_,_,_,.nil,e=>by simp at e
 |_,_,0,_,.cons r _,e=>by simp at e;subst e;exact⟨_,rfl,r⟩
 |_,_,i+1,d,.cons _ t,e=>by
  let⟨u,h1,h2⟩:=cW.get (i:=i) (d:=d) t (by simpa using e);exact⟨u,by simpa using h1,h2⟩
def cW.DX:∀{ds:List D}{vs:List V}{i:Nat}{v:V},cW K H ds vs->vs[i]?=aj v->∃d,ds[i]?=aj d/\RD K H d v
 |_,_,_,_,.nil,e=>by simp at e
 |_,_,0,_,.cons r _,e=>by simp at e;subst e;exact⟨_,rfl,r⟩
 |_,_,i+1,d,.cons _ t,e=>by
  let⟨u,h1,h2⟩:=cW.DX (i:=i) (v:=d) t (by simpa using e);exact⟨u,by simpa using h1,h2⟩
def cW.ints(ns:List Int):cW K H (ns.map D.int) (ns.map V.int):=by
 induction ns with
 |nil=>exact .nil
 |cons n r ih=>exact .cons (.int n) ih
def cW.E6(r:cW K H ds vs):vs=[]↔ds=[]:=by
 cases r<;>simp
end
@[simp]def DK:=Key ⊕ List Key
inductive GO where
 |lst (ds:List D)|gL (ds:List D)|aZ (t:Bool) (kvs:List (DK×D))|ins (C:bw) (fs:List (Str×D))|fe (C:bw)|du (o:Obj) (t:Bool) (kvs:List (DK×D))|ot (ds:List D)|uR (kvs:List (NK×Int))|ej (o:Obj) (kvs:List (NK×Int))
@[simp]def Gp:=Addr->Option GO
abbrev aC(G:Gp)(a:bw)(o:GO):Gp:=λb=>if b=a then aj o else G b
def aB{a:bw}{o:GO}:aC G a o a=aj o:=by unfold aC;rw[if_pos rfl]
def aH{a b:bw}{o:GO}(h:b≠a):aC G a o b=G b:=by unfold aC;rw[if_neg h]
def eZ{a b:bw}{o:GO}(h:G b=aj u)(n:G a=bh):aC G a o b=aj u:=by
 rw[aH];exact h;intro e;subst e;rw[h]at n;cases n
abbrev Le(G G':Gp):Prop:=∀a o,G a=aj o->G' a=aj o
def Le.refl(G:Gp):Le G G:=λ_ _ h=>h
def Le.trans(a:Le G G1)(b:Le G1 G2):Le G G2:=λc o h=>b c o (a c o h)
def Le.new{a:bw}{o:GO}(n:G a=bh):Le G (aC G a o):=λ_ _ h=>eZ h n
abbrev kD:Key->D
 |.inl i=>.int i
 |.inr x=>.str x
abbrev kN:DK->D
 |.inl k=>kD k
 |.inr ks=>.tup (ks.map kD)
inductive c6{α β:Type}(P:α->β->Prop):List α->List β->Prop where
 |nil:c6 P [] []
 |cons {a:α} {b:β} {as:List α} {bs:List β}:P a b->c6 P as bs->c6 P (a::as) (b::bs)
def c6.imp{α β:Type}{P Q:α->β->Prop}(f:∀a b,P a b->Q a b):∀{as:List α}{bs:List β},c6 P as bs->c6 Q as bs
 |_,_,.nil=>.nil
 |_,_,.cons h r=>.cons (f _ _ h) (c6.imp f r)
def c6.length{α β:Type}{P:α->β->Prop}:∀{as:List α}{bs:List β},c6 P as bs->as.length=bs.length
 |_,_,.nil=>rfl
 |_,_,.cons _ r=>congrArg (·+1) (c6.length r)
abbrev qh(C a:bw)(h:lg):Prop:=∃o vs,h.get? a=aj o/\o.cls=.ref C/\o.data=.fields vs
abbrev dy(k:NK):D:=.tup [.tup (k.1.map D.int),.int k.2]
abbrev GS(P:mz)(w:jr)(a:bw)(xs:List (NK×bw×au))(h:lg):Prop:=(a==um)=ao/\∃o es ep,h.get? a=aj o/\o.ExactDict/\o.data=.dict es ep/\es.toList=xs.map (entryOfKey (w5 P w))/\(xs.map (·.1)).Nodup
abbrev wt(K:Fg)(H:Hp)(p:NK×Int)(x:NK×bw×au):Prop:=x.1=p.1/\RD K H (dy p.1) (.ref x.2.1)/\∃t,x.2.2=au.int p.2 t
abbrev tI(K:Fg)(H:Hp)(a:bw)(kvs:List (NK×Int))(o:HO):Prop:=(kvs=[]/\o=.dT [])∨∃(P:mz)(w:jr)(xs:List (NK×bw×au)),o=.ext (GS P w a xs)/\Paired (wt K H) kvs xs
def tI.imp{K:Fg}{a:bw}{o:HO}(h:tI K H a kvs o)(f:∀d v,RD K H d v->RD K H' d v):tI K H' a kvs o:=Or.imp id (λ⟨P,w,xs,e,r⟩=>⟨P,w,xs,e,Paired.nv r λ_ _ z=>⟨z.1,f _ _ z.2.1,z.2.2⟩⟩) h
def tI.no{K:Fg}{a:bw}{o:HO}(h:tI K H a kvs o):(∀xs,o≠.tup xs)/\(∀ob w,o≠.jJ ob w)/\(∀ps,o≠.i9 ps)/\∀x,o≠.own x:=by
 rcases h with⟨_,rfl⟩|⟨P,w,xs,rfl,_⟩<;>exact⟨(λ_ z=>nomatch z),(λ_ _ z=>nomatch z),(λ_ z=>nomatch z),(λ_ z=>nomatch z)⟩
abbrev OR(K:Fg)(H:Hp)(a:bw):GO->Prop
 |.lst ds=>∃xs,H a=aj (.lst xs)/\cW K H ds xs
 |.gL ds=>∃xs,gc K H a xs/\cW K H ds xs
 |.aZ t kvs=>(t=ao/\∃xs:List (Key×V),H a=aj (.dK xs)/\c6 (λp q=>p.1=.inl q.1/\RD K H p.2 q.2) kvs xs) ∨
   (t=ak/\∃xs:List (List Key×V),H a=aj (.dT xs)/\c6 (λp q=>p.1=.inr q.1/\RD K H p.2 q.2) kvs xs)
 |.ins C fs=>∃(dx:bw)(vs:List (Str×V)),H a=aj (.ins C dx vs)/\c6 (λp q=>p.1=q.1/\RD K H p.2 q.2) fs vs
 |.du o t kvs=>(t=ao/\∃xs:List (Key×V),H a=aj (.jJ o (.dK xs))/\c6 (λp q=>p.1=.inl q.1/\RD K H p.2 q.2) kvs xs) ∨
   (t=ak/\∃xs:List (List Key×V),H a=aj (.jJ o (.dT xs))/\c6 (λp q=>p.1=.inr q.1/\RD K H p.2 q.2) kvs xs)
 |.ot ds=>∃xs,eD K H a xs/\cW K H ds xs
 |.uR kvs=>∃o,H a=aj o/\tI K H a kvs o
 |.ej ob kvs=>∃o,H a=aj (.jJ ob o)/\tI K H a kvs o
 |.fe C=>∃o vs,H a=aj (.jJ o (.ext (qh C a)))/\o.data=.fields vs/\vs[2]?=aj .none
abbrev HR(K:Fg)(H:Hp)(G:Gp):Prop:=∀a o,G a=aj o->OR K H a o
def OR.keep{K:Fg}{a:bw}{o:GO}(t:Ts H H')(h:OR K H a o)(k:∀u,H a=aj u->H' a=aj u):OR K H' a o:=by
 cases o with
 |lst ds=>let⟨xs,e,r⟩:=h;exact⟨xs,k _ e,r.mono t⟩
 |gL ds =>
  let⟨xs,e,r⟩:=h;refine⟨xs,?_,r.mono t⟩;rcases e with(e|⟨o,e⟩)|e
  .exact .inl (.inl (k _ e))
  .exact .inl (.inr ⟨o,k _ e⟩)
  .exact .inr e
 |aZ b kvs =>
  rcases h with⟨z,xs,e,r⟩|⟨z,xs,e,r⟩
  .exact .inl ⟨z,xs,k _ e,r.imp λ_ _ q=>⟨q.1,q.2.mono t⟩⟩
  .exact .inr ⟨z,xs,k _ e,r.imp λ_ _ q=>⟨q.1,q.2.mono t⟩⟩
 |ins C fs=>let⟨dx,vs,e,r⟩:=h;exact⟨dx,vs,k _ e,r.imp λ_ _ q=>⟨q.1,q.2.mono t⟩⟩
 |du ob b kvs =>
  rcases h with⟨z,xs,e,r⟩|⟨z,xs,e,r⟩
  .exact .inl ⟨z,xs,k _ e,r.imp λ_ _ q=>⟨q.1,q.2.mono t⟩⟩
  .exact .inr ⟨z,xs,k _ e,r.imp λ_ _ q=>⟨q.1,q.2.mono t⟩⟩
 |fe C=>let⟨o,vs,e,r⟩:=h;exact⟨o,vs,k _ e,r⟩
 |ot ds=>let⟨xs,e,r⟩:=h;exact⟨xs,t.C5 e,r.mono t⟩
 |uR kvs=>let⟨o,e,r⟩:=h;exact⟨o,k _ e,r.imp λ_ _ z=>z.mono t⟩
 |ej ob kvs=>let⟨o,e,r⟩:=h;exact⟨o,k _ e,r.imp λ_ _ z=>z.mono t⟩
def HR.same{K:Fg}(h:HR K H G)(s:aS H H'):HR K H' G:=λa o e=>(h a o e).keep (.same s) λu q=>s a u q
def HR.le{K:Fg}(h:HR K H G')(l:Le G G'):HR K H G:=λa o e=>h a o (l a o e)
def HR.put{K:Fg}{o:HO}(h:HR K H G)(n:H p=bh)(new:OR K (upd H p o) p u):HR K (upd H p o) (aC G p u):=λa v e=>by
 by_cases q:a=p
 .subst q;rw[aB]at e;cases e;exact new
 .rw[aH q]at e;exact(h a v e).keep (.same (cA n)) λw z=>cA n a w z
def HR.turn{K:Fg}{o:HO}(h:HR K H G)(t:Ts H (upd H p o))(new:OR K (upd H p o) p u):HR K (upd H p o) (aC G p u):=λa v e=>by
 by_cases q:a=p
 .subst q;rw[aB]at e;cases e;exact new
 .rw[aH q]at e;exact(h a v e).keep t λw z=>by rw[aP q];exact z
def Ts.turn{o:HO}(e:H p=aj u)(h1:∀xs,u≠.tup xs)(h2:∀ob w,u≠.jJ ob w):Ts H (upd H p o):=by
 refine⟨λa xs q=>?_,λa ob w q=>?_⟩
 .rw[aP];exact q;intro z;subst z;rw[e]at q;exact h1 xs (ji.inj q)
 .rw[aP];exact q;intro z;subst z;rw[e]at q;exact h2 ob w (ji.inj q)
@[simp]def bL:=List (Option D)
@[simp]def iW:=D->Gp->Prop
@[simp]def bC:=bL->Gp->iW->Prop
@[simp]def df:=bL->Gp->(Bool->Gp->Prop)->Prop
@[simp]def sJ:=bL->Gp->(List D->Gp->Prop)->Prop
abbrev lS:bL->Nat->Option D
 |[],_=>bh
 |x::_,0=>x
 |_::r,n+1=>lS r n
abbrev iq:bL->Nat->D->bL
 |[],_,_=>[]
 |_::r,0,d=>aj d::r
 |x::r,n+1,d=>x::iq r n d
inductive SR(K:Fg)(H:Hp):bL->St->Prop where
 |nil:SR K H [] []
 |none {ρ:bL} {σ:St} {v:Option V}:SR K H ρ σ->SR K H (Cm::ρ) (v::σ)
 |some {ρ:bL} {σ:St} {d:D} {v:V}:RD K H d v->SR K H ρ σ->SR K H (ji d::ρ) (ji v::σ)
def SR.mono{K:Fg}(t:Ts H H'):∀{ρ:bL}{σ:St},SR K H ρ σ->SR K H' ρ σ
 |_,_,.nil=>.nil
 |_,_,.none r=>.none (SR.mono t r)
 |_,_,.some h r=>.some (h.mono t) (SR.mono t r)
def SR.get{K:Fg}:∀{ρ:bL}{σ:St}{i:Nat}{d:D},SR K H ρ σ->lS ρ i=ji d->∃v,σ[i]?=ji (ji v)/\RD K H d v
 |_,_,_,_,.nil,e=>by simp[lS]at e
 |_,_,0,_,.none _,e=>by simp[lS]at e
 |_,_,0,_,.some h _,e=>by simp[lS]at e;subst e;exact⟨_,rfl,h⟩
 |_,_,i+1,_,.none r,e=>by
  let⟨v,h1,h2⟩:=SR.get (i:=i) r (by simpa[lS]using e);exact⟨v,by simpa using h1,h2⟩
 |_,_,i+1,_,.some _ r,e=>by
  let⟨v,h1,h2⟩:=SR.get (i:=i) r (by simpa[lS]using e);exact⟨v,by simpa using h1,h2⟩
def SR.set{K:Fg}{v:V}(q:RD K H d v):∀{ρ:bL}{σ:St}(i:Nat),SR K H ρ σ->SR K H (iq ρ i d) (σ.set i (ji v))
 |_,_,_,.nil=>.nil
 |_,_,0,.none r=>.some q r
 |_,_,0,.some _ r=>.some q r
 |_,_,i+1,.none r=>.none (SR.set q i r)
 |_,_,i+1,.some h r=>.some h (SR.set q i r)
abbrev HK(n:Nat)(ds:List D):bL:=ds.map ji++Ap (n - ds.length) Cm
def SR.x9{K:Fg}:∀n:Nat,SR K H (Ap n Cm) (Ap n Cm)
 |0=>.nil
 |n+1=>.none (SR.x9 n)
def SR.entry{K:Fg}{k:Nat}:∀{ds:List D}{vs:List V},cW K H ds vs->SR K H (ds.map ji++Ap k Cm) (vs.map ji++Ap k Cm)
 |_,_,.nil=>SR.x9 k
 |_,_,.cons h r=>.some h (SR.entry r)
abbrev i8(K:Fg)(t:bC):TE:=λσ H Q=>∃ρ G R,SR K H ρ σ/\HR K H G/\t ρ G R/\∀v H' d G',Ts H H'->RD K H' d v->HR K H' G'->R d G'->Q v H'
abbrev oo(K:Fg)(t:df):TT:=λσ H Q=>∃ρ G R,SR K H ρ σ/\HR K H G/\t ρ G R/\∀b H' G',Ts H H'->HR K H' G'->R b G'->Q b H'
abbrev W8(K:Fg)(t:sJ):TA:=λσ H Q=>∃ρ G R,SR K H ρ σ/\HR K H G/\t ρ G R/\∀vs H' ds G',Ts H H'->cW K H' ds vs->HR K H' G'->R ds G'->Q vs H'
@[simp]def bY(X:Cx)(e:ig)(t:bC):Prop:=PE X e (i8 X.K t)
@[simp]def mh(X:Cx)(e:ig)(t:df):Prop:=PT X e (oo X.K t)
@[simp]def xS(X:Cx)(e:ig)(t:df):Prop:=PW X e (oo X.K t)
@[simp]def ff(X:Cx)(es:List ig)(t:sJ):Prop:=PA X es (W8 X.K t)
structure eU where
 nx:bL->Gp->Prop
 rt:iW
 bk:bL->Gp->Prop:=λ_ _=>False
 ct:bL->Gp->Prop:=λ_ _=>False
@[simp]def pI:=eU->bL->Gp->Prop
structure UpD(K:Fg)(E:eU)(F:Ends):Prop where
 nx:∀ρ G σ H',SR K H' ρ σ->HR K H' G->E.nx ρ G->F.nx σ H'
 rt:∀d G v H',RD K H' d v->HR K H' G->E.rt d G->F.rt v H'
 bk:∀ρ G σ H',SR K H' ρ σ->HR K H' G->E.bk ρ G->F.bk σ H'
 ct:∀ρ G σ H',SR K H' ρ σ->HR K H' G->E.ct ρ G->F.ct σ H'
abbrev C2(K:Fg)(t:pI):TS:=λF σ H=>∃ρ G E,SR K H ρ σ/\HR K H G/\t E ρ G/\UpD K E F
@[simp]def gf(X:Cx)(st:nu)(t:pI):Prop:=PS X st (C2 X.K t)
@[simp]def l7(X:Cx)(st:List nu)(t:pI):Prop:=kg X st (C2 X.K t)
section
variable{X:Cx}
def PE.imp{t:TE}(h:PE X e t)(k:∀σ H Q,t' σ H Q->t σ H Q):PE X e t':=λψ s σ H Q I q=>h ψ s σ H Q I (k _ _ _ q)
def PT.imp{t:TT}(h:PT X e t)(k:∀σ H Q,t' σ H Q->t σ H Q):PT X e t':=λψ s σ H Q I q=>h ψ s σ H Q I (k _ _ _ q)
def PW.imp{t:TT}(h:PW X e t)(k:∀σ H Q,t' σ H Q->t σ H Q):PW X e t':=λwh ψ s σ H Q I q=>h wh ψ s σ H Q I (k _ _ _ q)
def PA.imp{t:TA}(h:PA X e t)(k:∀σ H Q,t' σ H Q->t σ H Q):PA X e t':=λp ψ s σ H Q I q=>h p ψ s σ H Q I (k _ _ _ q)
def PS.imp{t:TS}(h:PS X e t)(k:∀F σ H,t' F σ H->t F σ H):PS X e t':=λψ s σ H F I q=>h ψ s σ H F I (k _ _ _ q)
abbrev KF(K:Fg)(H:Hp):Prop:=∀b o,K.lookup b=aj o->H b=bh
def sU{s:cg}(I:Inv X ψ σ H s):KF X.K H:=λb o e=>(I.bs b o (I.ok.mod.oC b o e)).2
def PE.kf{t:TE}(h:PE X e t):PE X e (λσ H Q=>t σ H λv H'=>KF X.K H'->Q v H'):=λψ s σ H Q I q =>
 dH (h ψ s σ H _ I q) λ_ _ ⟨v,H',I',r,q'⟩=>⟨v,H',I',r,q' (sU I')⟩
def kg.imp{t:TS}(h:kg X e t)(k:∀F σ H,t' F σ H->t F σ H):kg X e t':=λψ s σ H F I q=>h ψ s σ H F I (k _ _ _ q)
end
def m8{K:Fg}{o:HO}(g:HR K H G)(n:H p=bh)(k:KF K (upd H p o)):G p=bh:=by
 have kn:K.lookup p=bh:=by
  cases q:K.lookup p with
  |none=>rfl
  |some u=>have:=k p u q;rw[aK]at this;cases this
 cases q:G p with
 |none=>rfl
 |some u =>
  have z:=g p u q;cases u with
  |lst ds=>let⟨xs,e,_⟩:=z;rw[n]at e;cases e
  |gL ds =>
   let⟨xs,e,_⟩:=z;rcases e with(e|⟨o,e⟩)|⟨o,_,_,e,_⟩
   .rw[n]at e;cases e
   .rw[n]at e;cases e
   .rw[kn]at e;cases e
  |aZ tt kvs =>
   rcases z with⟨_,xs,e,_⟩|⟨_,xs,e,_⟩
   .rw[n]at e;cases e
   .rw[n]at e;cases e
  |du ob tt kvs =>
   rcases z with⟨_,xs,e,_⟩|⟨_,xs,e,_⟩
   .rw[n]at e;cases e
   .rw[n]at e;cases e
  |ins C fs=>let⟨dx,vs,e,_⟩:=z;rw[n]at e;cases e
  |fe C=>let⟨o,vs,e,_⟩:=z;rw[n]at e;cases e
  |uR kvs=>let⟨_,e,_⟩:=z;rw[n]at e;cases e
  |ej ob kvs=>let⟨_,e,_⟩:=z;rw[n]at e;cases e
  |ot ds =>
   let⟨xs,e,_⟩:=z;rcases e with(e|⟨o,e⟩)|⟨o,_,_,e,_⟩
   .rw[n]at e;cases e
   .rw[n]at e;cases e
   .rw[kn]at e;cases e
section
variable{X:Cx}{a b c:ig}{ta tb tc:bC}{pos:Pos}
abbrev eV(i:Nat):bC:=λρ G R=>match lS ρ i with
 |some d=>R d G
 |none=>False
abbrev lZ(d:D):bC:=λ_ G R=>R d G
private theorem aF8{K:Fg}{i:Nat}{Q:VK}(h:i8 K (eV i) σ H Q):Vh i σ H Q:=by
 let⟨ρ,G,R,s,g,t,k⟩:=h;unfold eV at t;split at t
 .rename_i d e;let⟨v,h1,h2⟩:=s.get e;exact⟨v,h1,k v H d G (.refl H) h2 g t⟩
 .exact t.elim
def BQ{K:Fg}(r:∀H,RD K H d v){Q:VK}(h:i8 K (lZ d) σ H Q):tC v σ H Q:=by
 let⟨ρ,G,R,s,g,t,k⟩:=h;exact k v H d G (.refl H) (r H) g t
def aL8(i:Nat){x:Str}(hN:X.N[i]?=aj x:=by rfl)(hv:CN X.env.scope x:=by first|exact Or.inl rfl|exact Or.inr (Or.inl rfl)|exact Or.inr (Or.inr rfl))(hd:(x==("__debug__":Str))=ao:=by decide)
  (gz:(x==("__classdict__":Str))=ao:=by decide):bY X (.Name x pos) (eV i):=PE.imp (aE2 hN hv hd gz) λ_ _ _ h=>aF8 h
def aL9{i j pos}:bY X (.Constant (.int i) j pos) (lZ (.int i)):=PE.imp aE3 λ_ _ _ h=>BQ (λ_=>.int i) h
def aQ8{b j pos}:bY X (.Constant (.bool b) j pos) (lZ (.bl b)):=PE.imp aK8 λ_ _ _ h=>BQ (λ_=>.bl b) h
def aLA{j pos}:bY X (.Constant .none j pos) (lZ .ag):=PE.imp aE4 λ_ _ _ h=>BQ (λ_=>.ag) h
def aLB{x j pos}:bY X (.Constant (.str x) j pos) (lZ (.str x)):=PE.imp aE5 λ_ _ _ h=>BQ (λ_=>.str x) h
def Rk{x:Str}(hg:Gl X x)(hm:X.mg x=aj u)(r:RelV v u)(rd:∀H,RD X.K H d v)(hd:(x==("__debug__":Str))=ao:=by decide):bY X (.Name x pos) (lZ d) :=
 PE.imp (ZG hg hm r hd) λ_ _ _ h=>BQ rd h
def aF9{x:Str}{n:String}(hg:Gl X x)(hm:X.mg x=bh)(hv:qe x=aj (.type n))(hn:x≠"__name__":=by decide)(hd:(x==("__debug__":Str))=ao:=by decide):bY X (.Name x pos) (lZ (.ty n)) :=
 PE.imp (ZF hg hm hv (v:=.ty n) rfl hn hd) λ_ _ _ h=>BQ (λ_=>.ty n) h
@[simp]def R3:=D->D->Gp->iW->Prop
abbrev WM(K:Fg)(r:R2)(r3:R3):Prop:=∀(H:Hp)(x y:D)(vx vy:V)(G:Gp)(R:iW)(Q:VK),RD K H x vx->RD K H y vy->HR K H G->r3 x y G R->(∀v H' d G',Ts H H'->RD K H' d v->HR K H' G'->R d G'->Q v H')->r vx vy H λv H'=>KF K H'->Q v H'
abbrev ng(X:Cx)(f:au->au->Sem au)(r3:R3):Prop:=∃r,b8 X f r/\WM X.K r r3
abbrev Jp(K:Fg)(r:R2)(r3:R3):Prop:=∀(H:Hp)(x y:D)(vx vy:V)(G:Gp)(R:iW)(Q:VK),RD K H x vx->RD K H y vy->HR K H G->r3 x y G R->(∀v H' d G',Ts H H'->RD K H' d v->HR K H' G'->R d G'->Q v H')->r vx vy H Q
abbrev rA(X:Cx)(f:au->au->Sem au)(r3:R3):Prop:=∃r,b8 X f r/\Jp X.K r r3
abbrev aG(r:R3)(ta tb:bC):bC:=λρ G R=>ta ρ G λx G1=>tb ρ G1 λy G2=>r x y G2 R
variable{r3:R3}
def aLC{K:Fg}(o:WM K r r3){Q:VK}(h:i8 K (aG r3 ta tb) σ H Q):AZ r (i8 K ta) (i8 K tb) σ H λv H'=>KF K H'->Q v H':=by
 let⟨ρ,G,R,s,g,t,k⟩:=h;refine⟨ρ,G,_,s,g,t,λvx H1 x G1 t1 rx g1 t'=>?_⟩;refine⟨ρ,G1,_,s.mono t1,g1,t',λvy H2 y G2 t2 ry g2 fo=>?_⟩;exact o H2 x y vx vy G2 R Q (rx.mono t2) ry g2 fo λv H' d G' t3=>k v H' d G' ((t1.trans t2).trans t3)
def LS{K:Fg}(o:Jp K r r3){Q:VK}(h:i8 K (aG r3 ta tb) σ H Q):AZ r (i8 K ta) (i8 K tb) σ H Q:=by
 let⟨ρ,G,R,s,g,t,k⟩:=h;refine⟨ρ,G,_,s,g,t,λvx H1 x G1 t1 rx g1 t'=>?_⟩;refine⟨ρ,G1,_,s.mono t1,g1,t',λvy H2 y G2 t2 ry g2 fo=>?_⟩;exact o H2 x y vx vy G2 R Q (rx.mono t2) ry g2 fo λv H' d G' t3=>k v H' d G' ((t1.trans t2).trans t3)
def aQ9(o:ng X (zc op) r3)(ha:bY X a ta)(hb:bY X b tb):bY X (.BinOp a op b pos) (aG r3 ta tb):=by
 let⟨r,o1,o2⟩:=o;exact PE.imp (PE.kf (aKM o1 ha hb)) λ_ _ _ h=>aLC o2 h
def Hn(o:rA X (qb op) r3)(ha:bY X a ta)(hb:bY X b tb)(hm:zf op b=ao):bY X (.Compare a [op] [b] pos) (aG r3 ta tb):=by
 let⟨r,o1,o2⟩:=o;exact PE.imp (Zx o1 ha hb hm) λ_ _ _ h=>LS o2 h
abbrev aO(t:bC):df:=λρ G R=>t ρ G λx G1=>match x with
 |.bl k=>R k G1
 |_=>False
def Mv{K:Fg}{t:TE}(f:∀σ H Q,i8 K t3 σ H Q->t σ H Q)(h:oo K (aO t3) σ H Q):Lq t σ H Q:=by
 let⟨ρ,G,R,s,g,u,k⟩:=h;refine f _ _ _ ⟨ρ,G,_,s,g,u,λv H' d G' t1 r g1 q=>?_⟩;cases r with
 |bl b=>exact⟨b,rfl,k b H' G' t1 g1 q⟩
 |_=>exact q.elim
def Hm(o:rA X (qb op) r3)(ha:bY X a ta)(hb:bY X b tb)(hm:zf op b=ao):mh X (.Compare a [op] [b] pos) (aO (aG r3 ta tb)):=by
 let⟨r,o1,o2⟩:=o;exact PT.imp (Zw o1 ha hb hm) λ_ _ _ h=>Mv (λ_ _ _=>LS o2) h
def aLD{e:ig}{t:bC}(h:bY X e t)(he:∀whole,isTrue e X.env whole=(do let v ←whole;standAt e.pos;holding [v] (truthy v)):=by intro _;rfl):mh X e (aO t) :=
 PT.imp (aE6 h he) λ_ _ _ h=>Mv (λ_ _ _ q=>q) h
abbrev sV(r r':R3)(ta tb tc:bC):bC:=λρ G R=>ta ρ G λx G1=>tb ρ G1 λy G2=>r x y G2 λz G3=>match z with
 |.bl ak=>tc ρ G3 λw G4=>r' y w G4 R
 |.bl ao=>R (.bl ao) G3
 |_=>False
variable{A3:R3}
def TL{K:Fg}(o:Jp K r r3)(o':Jp K r' A3){Q:VK}(h:i8 K (sV r3 A3 ta tb tc) σ H Q):LX r r' (i8 K ta) (i8 K tb) (i8 K tc) σ H Q:=by
 let⟨ρ,G,R,s,g,t,k⟩:=h;refine⟨ρ,G,_,s,g,t,λvx H1 x G1 t1 rx g1 t'=>?_⟩;refine⟨ρ,G1,_,s.mono t1,g1,t',λvy H2 y G2 t2 ry g2 fo=>?_⟩;refine o H2 x y vx vy G2 _ _ (rx.mono t2) ry g2 fo λv H3 d G3 t3 rd g3 q=>?_;cases rd with
 |bl b =>
  refine⟨b,rfl,?_⟩;cases b with
  |true =>
   rw[if_pos rfl];refine⟨ρ,G3,_,s.mono ((t1.trans t2).trans t3),g3,q,λvw H4 w G4 t4 gI g4 q'=>?_⟩;exact o' H4 y w vy vw G4 R Q (ry.mono (t3.trans t4)) gI g4 q' λv H' d G' t5=>k v H' d G' (((t1.trans t2).trans t3).trans (t4.trans t5))
  |false =>
   rw[if_neg ql];exact k _ H3 _ G3 ((t1.trans t2).trans t3) (.bl ao) g3 q
 |_=>exact q.elim
def Zf(o:rA X (qb op) r3)(o':rA X (qb mv) A3)(ha:bY X a ta)(hb:bY X b tb)(hc:bY X c tc)
  (hm:lastMarks [op,mv] [b,c]=ao:=by with_unfolding_all rfl):bY X (.Compare a [op,mv] [b,c] pos) (sV r3 A3 ta tb tc):=by
 let⟨r,o1,o2⟩:=o;let⟨r',JW,JV⟩:=o';exact PE.imp (as4 o1 JW ha hb hc hm) λ_ _ _ h=>TL o2 JV h
def Ze(o:rA X (qb op) r3)(o':rA X (qb mv) A3)(ha:bY X a ta)(hb:bY X b tb)(hc:bY X c tc)
  (hm:lastMarks [op,mv] [b,c]=ao:=by with_unfolding_all rfl):mh X (.Compare a [op,mv] [b,c] pos) (aO (sV r3 A3 ta tb tc)):=by
 let⟨r,o1,o2⟩:=o;let⟨r',JW,JV⟩:=o';exact PT.imp (as5 o1 JW ha hb hc hm) λ_ _ _ h=>Mv (λ_ _ _=>TL o2 JV) h
variable{sa sb:df}{rest:List ig}
abbrev Aj(t u:df):df:=λρ G R=>t ρ G λc G1=>if c=ak then u ρ G1 R else R ao G1
abbrev sA(t u:df):df:=λρ G R=>t ρ G λc G1=>if c=ak then R ak G1 else u ρ G1 R
abbrev uT(t:df):df:=λρ G R=>t ρ G λc G1=>R (!c) G1
def aFA{K:Fg}(h:oo K (Aj sa sb) σ H Q):Vg (oo K sa) (oo K sb) σ H Q:=by
 let⟨ρ,G,R,s,g,t,k⟩:=h;refine⟨ρ,G,_,s,g,t,λc H1 G1 t1 g1 q=>?_⟩;cases c with
 |true=>exact⟨ρ,G1,R,s.mono t1,g1,q,λb H' G' t2=>k b H' G' (t1.trans t2)⟩
 |false=>exact k ao H1 G1 t1 g1 q
def aLE{K:Fg}(h:oo K (sA sa sb) σ H Q):OV (oo K sa) (oo K sb) σ H Q:=by
 let⟨ρ,G,R,s,g,t,k⟩:=h;refine⟨ρ,G,_,s,g,t,λc H1 G1 t1 g1 q=>?_⟩;cases c with
 |false=>exact⟨ρ,G1,R,s.mono t1,g1,q,λb H' G' t2=>k b H' G' (t1.trans t2)⟩
 |true=>exact k ak H1 G1 t1 g1 q
def aFB(ha:mh X a sa):xS X (.BoolOp .And [a] pos) sa:=ZE ha
def aLF(ha:mh X a sa):xS X (.BoolOp .Or [a] pos) sa:=aE7 ha
def aLG(ha:mh X a sa)(hb:xS X (.BoolOp .And (b::rest) pos) sb):xS X (.BoolOp .And (a::b::rest) pos) (Aj sa sb):=PW.imp (aE8 ha hb) λ_ _ _ h=>aFA h
def aQA(ha:mh X a sa)(hb:xS X (.BoolOp .Or (b::rest) pos) sb):xS X (.BoolOp .Or (a::b::rest) pos) (sA sa sb):=PW.imp (aKA ha hb) λ_ _ _ h=>aLE h
def aLH(ha:mh X a sa):mh X (.UnaryOp .Not a pos) (uT sa):=PT.imp (aE9 ha) λσ H Q h=>by
 let⟨ρ,G,R,s,g,t,k⟩:=h;exact⟨ρ,G,_,s,g,t,λc H1 G1 t1 g1 q=>k (!c) H1 G1 t1 g1 q⟩
abbrev Ax(ta tb:bC):bC:=λρ G R=>ta ρ G λx G1=>match x with
 |.bl ak=>tb ρ G1 R
 |.bl ao=>R (.bl ao) G1
 |_=>False
abbrev VS(ta tb:bC):bC:=λρ G R=>ta ρ G λx G1=>match x with
 |.bl ak=>R (.bl ak) G1
 |.bl ao=>tb ρ G1 R
 |_=>False
abbrev HJ(ta:bC):bC:=λρ G R=>ta ρ G λx G1=>match x with
 |.bl c=>R (.bl (!c)) G1
 |_=>False
def VR{op}(h:bY X a ta):bY X (.BoolOp op [a] pos) ta:=aEA h
def aLI(ha:bY X a ta)(hb:bY X (.BoolOp .And (b::rest) pos) tb):bY X (.BoolOp .And (a::b::rest) pos) (Ax ta tb):=PE.imp (aEB ha hb) λσ H Q h=>by
 let⟨ρ,G,R,s,g,t,k⟩:=h;refine⟨ρ,G,_,s,g,t,λv H1 x G1 t1 r g1 q=>?_⟩;cases r with
 |bl c =>
  refine⟨c,rfl,?_⟩;cases c with
  |true=>exact⟨ρ,G1,R,s.mono t1,g1,q,λb H' d G' t2=>k b H' d G' (t1.trans t2)⟩
  |false=>exact k _ H1 _ G1 t1 (.bl ao) g1 q
 |_=>exact q.elim
def aQB(ha:bY X a ta)(hb:bY X (.BoolOp .Or (b::rest) pos) tb):bY X (.BoolOp .Or (a::b::rest) pos) (VS ta tb):=PE.imp (aKD ha hb) λσ H Q h=>by
 let⟨ρ,G,R,s,g,t,k⟩:=h;refine⟨ρ,G,_,s,g,t,λv H1 x G1 t1 r g1 q=>?_⟩;cases r with
 |bl c =>
  refine⟨c,rfl,?_⟩;cases c with
  |false=>exact⟨ρ,G1,R,s.mono t1,g1,q,λb H' d G' t2=>k b H' d G' (t1.trans t2)⟩
  |true=>exact k _ H1 _ G1 t1 (.bl ak) g1 q
 |_=>exact q.elim
def aLJ(ha:bY X a ta):bY X (.UnaryOp .Not a pos) (HJ ta):=PE.imp (aEC ha) λσ H Q h=>by
 let⟨ρ,G,R,s,g,t,k⟩:=h;refine⟨ρ,G,_,s,g,t,λv H1 x G1 t1 r g1 q=>?_⟩;cases r with
 |bl c=>exact⟨c,rfl,k _ H1 _ G1 t1 (.bl _) g1 q⟩
 |_=>exact q.elim
end
section
variable{X:Cx}{es:List ig}{t:sJ}{pos:Pos}
abbrev m9:sJ:=λ_ G R=>R [] G
abbrev cP(ta:bC)(tr:sJ):sJ:=λρ G R=>ta ρ G λx G1=>tr ρ G1 λxs G2=>R (x::xs) G2
def Lp:ff X [] m9:=PA.imp aEU λσ H Q h=>by
 let⟨ρ,G,R,s,g,t,k⟩:=h;exact k [] H [] G (.refl H) .nil g t
def Aw(ha:bY X e te)(hr:ff X es t)(hs:jj (e::es) X.env=(ao,eval e X.env)::jj es X.env:=by rfl):ff X (e::es) (cP te t):=PA.imp (Zt ha hr hs) λσ H Q h=>by
 let⟨ρ,G,R,s,g,t,k⟩:=h;refine⟨ρ,G,_,s,g,t,λv H1 x G1 t1 r g1 q=>?_⟩;refine⟨ρ,G1,_,s.mono t1,g1,q,λvs H2 xs G2 t2 rs g2 q'=>?_⟩;exact k (v::vs) H2 (x::xs) G2 (t1.trans t2) (.cons (r.mono t2) rs) g2 q'
abbrev mY(t:sJ):bC:=λρ G R=>t ρ G λxs G1=>xs.length<=dg/\R (.tup xs) G1
abbrev qf(t:sJ):bC:=λρ G R=>t ρ G λxs G1=>xs.length<=dg/\∀p,G1 p=bh->R (.ref p) (aC G1 p (.lst xs))
def aLK{x1}(h:ff X es t):bY X (.Tuple es x1 pos) (mY t):=PE.imp (aEV h) λσ H Q h=>by
 let⟨ρ,G,R,s,g,t,k⟩:=h;refine⟨ρ,G,_,s,g,t,λvs H1 xs G1 t1 r g1 q=>?_⟩;refine⟨by rw[←r.length];exact q.1,λp hp=>?_⟩;have sn:aS H1 (upd H1 p (.tup vs)):=cA hp;exact k (.ref p) _ (.tup xs) G1 (t1.trans (.same sn)) (.tup (eD.of aK) (r.mono (.same sn)) (zv aK)) (g1.same sn) q.2
def aLL(h:ff X es t):bY X (.List es pos) (qf t):=PE.imp (PE.kf (aEW h)) λσ H Q h=>by
 let⟨ρ,G,R,s,g,t,k⟩:=h;refine⟨ρ,G,_,s,g,t,λvs H1 xs G1 t1 r g1 q=>?_⟩;refine⟨by rw[←r.length];exact q.1,λp hp kf=>?_⟩;have sn:aS H1 (upd H1 p (.lst vs)):=cA hp;exact k (.ref p) _ (.ref p) _ (t1.trans (.same sn)) (.ref p) (g1.put (u:=.lst xs) hp ⟨vs,aK,r.mono (.same sn)⟩) (q.2 p (m8 g1 hp kf))
end
end
section
section
variable{X:Cx}{a b c:ig}{pos:Pos}
abbrev C9(C:Int->Int->Prop)(g:Int->Int->Int):R3:=λx y G R=>match x,y with
 |.int i,.int j=>C i j/\R (.int (g i j)) G
 |_,_=>False
abbrev U7(g:Int->Int->Int):R3:=λx y G R=>match x,y with
 |.int i,.int j=>R (.int (g i j)) G
 |_,_=>False
abbrev Nj(g:Int->Int->Bool):R3:=λx y G R=>match x,y with
 |.int i,.int j=>R (.bl (g i j)) G
 |_,_=>False
def Hk{g:Int->Int->Int}(h:b8 X f (rI C λi j=>.int (g i j))):ng X f (C9 C g):=by
 refine⟨_,h,λH x y vx vy G R Q rx ry gh h k=>?_⟩;cases rx with
 |int i =>
  cases ry with
  |int j=>exact⟨i,j,rfl,rfl,h.1,λ_=>k _ H _ G (.refl H) (.int _) gh h.2⟩
  |_=>exact False.elim h
 |_=>exact False.elim h
def aFD{g:Int->Int->Int}(h:b8 X f (rh λi j=>.int (g i j))):ng X f (U7 g):=by
 refine⟨_,h,λH x y vx vy G R Q rx ry gh h k=>?_⟩;cases rx with
 |int i =>
  cases ry with
  |int j=>exact⟨i,j,rfl,rfl,λ_=>k _ H _ G (.refl H) (.int _) gh h⟩
  |_=>exact False.elim h
 |_=>exact False.elim h
def Rj{g:Int->Int->Bool}(h:b8 X f (rh λi j=>.bl (g i j))):rA X f (Nj g):=by
 refine⟨_,h,λH x y vx vy G R Q rx ry gh h k=>?_⟩;cases rx with
 |int i =>
  cases ry with
  |int j=>exact⟨i,j,rfl,rfl,k _ H _ G (.refl H) (.bl _) gh h⟩
  |_=>exact False.elim h
 |_=>exact False.elim h
abbrev Ai:R3:=U7 λi j=>i - j
abbrev sQ:R3:=C9 DY λi j=>i*j
abbrev lC:R3:=C9 Nm λi j=>i / j
abbrev fM:R3:=C9 (λ_ j=>0<j) λi j=>i%j
abbrev Ej:R3:=C9 Nl λi j=>i^j.toNat
def aLO:ng X (zc .Sub) Ai:=aFD aEN
def aLP:ng X (zc .Mult) sQ:=Hk aEO
def aFE:ng X (zc .FloorDiv) lC:=Hk Zy
def aLQ:ng X (zc .Mod) fM:=Hk aEP
def aLR:ng X (zc .Pow) Ej:=Hk aEQ
abbrev BP:R3:=Nj λi j=>decide (i<j)
abbrev BO:R3:=Nj λi j=>decide (j<i)
def aQC:rA X (qb .Lt) BP:=Rj aKP
def aQD:rA X (qb .Gt) BO:=Rj aKR
abbrev DW:R3:=λx y G R=>match x,y with
 |.int i,.int j=>R (.bl (decide (i<=j))) G
 |.str i,.str j=>R (.bl (!decide (j.cps.toList<i.cps.toList))) G
 |_,_=>False
def apT:b8 X (qb .LtE) (λx y H Q=>∃i j,x=.str i/\y=.str j/\Q (.bl (!decide (j.cps.toList<i.cps.toList))) H):=by
 intro ψ s σ H x y v u Q I rx ry h;let⟨i,j,rfl,rfl,q⟩:=h;let⟨t,rfl⟩:=rx;let⟨t',rfl⟩:=ry;exact PySem.P.le_str ⟨.bl _,H,I,rfl,q⟩
def aQE:rA X (qb .LtE) DW:=by
 refine⟨_,aKQ.or apT,λH x y vx vy G R Q rx ry gh h k=>?_⟩;cases rx with
 |int i =>
  cases ry with
  |int j=>exact .inl ⟨i,j,rfl,rfl,k _ H _ G (.refl H) (.bl _) gh h⟩
  |_=>exact False.elim h
 |str i =>
  cases ry with
  |str j=>exact .inr ⟨i,j,rfl,rfl,k _ H _ G (.refl H) (.bl _) gh h⟩
  |_=>exact False.elim h
 |_=>exact False.elim h
abbrev gF:R3:=λx y G R=>match x,y with
 |.int i,.int j=>R (.int (i+j)) G
 |.str i,.str j=>i.length+j.length<=dg/\R (.str (i++j)) G
 |.tup xs,.tup ys=>xs.length+ys.length<=dg/\R (.tup (xs++ys)) G
 |.ref l,.ref m=>match G l,G m with
  |some (.lst xs),aj (.lst ys)=>xs.length+ys.length<=dg/\∀p,G p=bh->R (.ref p) (aC G p (.lst (xs++ys)))
  |_,_=>False
 |_,_=>False
def asN:b8 X (zc .Add) (λx y H Q=>∃a b ys,x=.ref a/\y=.ref b/\eD X.K H a []/\eD X.K H b ys/\Q (.ref b) H):=by
 intro ψ s σ H x y v u Q I rx ry h;let⟨a,b,ys,rfl,rfl,ha,hb,q⟩:=h;cases rx;cases ry;let⟨its,r1,p1,_⟩:=I.tuple ha;let⟨eJ,r2,p2,_⟩:=I.tuple hb;cases r1;let⟨⟨cls,dd,data,sl⟩,ho,hc,n,hd⟩:=id p1;let⟨⟨FE,vT,data2,kG⟩,oQ,vF,n2,pe⟩:=id p2;simp only at hc hd vF pe;subst hc hd vF pe
 exact concat_meets ⟨_,ho,rfl⟩ ⟨_,oQ,rfl⟩ noFill_tuple_add seq_tuple_add PySem.F.slot_tuple_add PySem.F.entry_tuple_add (PySem.F.args_tuple_add_2 _ _)
   (tuple_addW0 a b #[] eJ.toArray n n2 dd vT sl kG (by simp)) ⟨ho,oQ,⟨.ref b,H,I,rfl,q⟩⟩
private theorem aLS:ng X (zc .Add) gF:=by
 refine⟨_,aEM.or (ak7.or (Zl.or (asN.or aF7))),λH x y vx vy G R Q rx ry gh h k=>?_⟩;cases rx with
 |int i =>
  cases ry with
  |int j=>exact .inl ⟨i,j,rfl,rfl,λ_=>k _ H _ G (.refl H) (.int _) gh h⟩
  |_=>exact False.elim h
 |str i =>
  cases ry with
  |str j=>exact .inr (.inl ⟨i,j,rfl,rfl,h.1,λ_=>k _ H _ G (.refl H) (.str _) gh h.2⟩)
  |_=>exact False.elim h
 |@tup a xs ds ha ra ea =>
  cases ry with
  |@tup b ys es hb rb eb =>
   by_cases hn:ds=[]
   .subst hn;cases ra;exact .inr (.inr (.inr (.inl ⟨a,b,ys,rfl,rfl,ha,hb,λ_=>k _ H _ G (.refl H) (.tup hb rb eb) gh h.2⟩)))
   .refine .inr (.inr (.inl ⟨a,b,xs,ys,rfl,rfl,ha,hb,λz=>hn (ra.E6.mp z),by rw[←ra.length,←rb.length];exact h.1,λz _=>?_,λ_ p hp _=>?_⟩))
    .subst z;cases rb;have h2:=h.2;rw[Aq]at h2;exact k _ H _ G (.refl H) (.tup ha ra ea) gh h2
    .have sn:aS H (upd H p (.tup (xs++ys))):=cA hp;exact k _ _ _ G (.same sn) (.tup (eD.of aK) ((ra.append rb).mono (.same sn)) (zv aK)) (gh.same sn) h.2
  |_=>exact False.elim h
 |ref l =>
  cases ry with
  |ref m =>
   have h':(match G l,G m with
    |some (.lst xs),aj (.lst ys)=>xs.length+ys.length<=dg/\∀p,G p=bh->R (.ref p) (aC G p (.lst (xs++ys)))
    |_,_=>False):=h
   split at h'
   .rename_i xs ys e1 e2;let⟨xv,f1,r1⟩:=gh l _ e1;let⟨yv,f2,r2⟩:=gh m _ e2;refine .inr (.inr (.inr (.inr ⟨l,m,xv,yv,rfl,rfl,f1,f2,by rw[←r1.length,←r2.length];exact h'.1,λp hp kf=>?_⟩)));have sn:aS H (upd H p (.lst (xv++yv))):=cA hp;exact k _ _ _ _ (.same sn) (.ref p) (gh.put (u:=.lst (xs++ys)) hp ⟨_,aK,(r1.append r2).mono (.same sn)⟩) (h'.2 p (m8 gh hp kf))
   .exact h'.elim
  |_=>exact False.elim h
 |_=>exact False.elim h
abbrev bM(G:Gp)(a:bw):Option (List D):=match G a with
 |some (.lst ds)=>aj ds
 |some (.gL ds)=>aj ds
 |_=>bh
private theorem gH{K:Fg}(g:HR K H G){a:bw}(e:bM G a=aj ds):∃xs,gc K H a xs/\cW K H ds xs:=by
 unfold bM at e;split at e
 .rename_i YJ q;cases e;let⟨xs,h1,h2⟩:=g a _ q;exact⟨xs,gc.of h1,h2⟩
 .rename_i YJ q;cases e;exact g a _ q
 .cases e
abbrev iY:R3:=λx y G R=>match x,y with
 |.tup xs,.int i=>match dC xs i with
  |some d=>R d G
  |none=>False
 |.str z,.int i=>z.length<=dg/\match dC z.cps.toList i with
  |some c=>R (.str ⟨#[c]⟩) G
  |none=>False
 |.ref p,.int i=>match bM G p with
  |some xs=>(match dC xs i with
   |some d=>R d G
   |none=>False)
  |none=>False
 |_,_=>False
def Ri{K:Fg}(r:cW K H ds xs){i:Int}(e:dC ds i=aj d):∃v,dC xs i=aj v/\RD K H d v:=by
 unfold dC at e ⊢;rw[←r.length];cases q:uB ds.length i with
 |none=>rw[q]at e;cases e
 |some j =>
  rw[q]at e;exact r.get e
private theorem aQF(ha:bY X a ta)(hb:bY X b tb)(hs:Mw b):bY X (.Subscript a b pos) (aG iY ta tb):=by
 refine PE.imp (aL1 aF4 ha hb hs) λ_ _ _ h=>LS ?_ h;intro H x y vx vy G R Q rx ry gh h k;cases rx with
 |@tup p xs ds hp r =>
  cases ry with
  |int i =>
   have h':(match dC ds i with
    |some d=>R d G
    |none=>False):=h
   split at h'
   .rename_i d e;let⟨v,e1,e2⟩:=Ri r e;exact .inr (.inl ⟨p,xs,i,v,rfl,rfl,hp,e1,k v H d G (.refl H) e2 gh h'⟩)
   .exact h'.elim
  |_=>exact False.elim h
 |str z =>
  cases ry with
  |int i =>
   have h':z.length<=dg/\(match dC z.cps.toList i with
    |some c=>R (.str ⟨#[c]⟩) G
    |none=>False):=h
   let⟨hz,h'⟩:=h';split at h'
   .rename_i d e;exact .inr (.inr ⟨z,i,d,rfl,rfl,hz,e,k _ H _ G (.refl H) (.str _) gh h'⟩)
   .exact h'.elim
  |_=>exact False.elim h
 |ref p =>
  cases ry with
  |int i =>
   have h':(match bM G p with
    |some xs=>(match dC xs i with
     |some d=>R d G
     |none=>False)
    |none=>False):=h
   split at h'
   .rename_i ds e;let⟨xs,hp,r⟩:=gH gh e;split at h'
    .rename_i d e';let⟨v,e1,e2⟩:=Ri r e';exact .inl ⟨p,xs,i,v,rfl,rfl,hp,e1,k v H d G (.refl H) e2 gh h'⟩
    .exact h'.elim
   .exact h'.elim
  |_=>exact False.elim h
 |_=>exact False.elim h
@[simp]def CP:=bL->Gp->(Option Int->Gp->Prop)->Prop
abbrev W5(K:Fg)(t:CP):TO:=λσ H Q=>∃ρ G R,SR K H ρ σ/\HR K H G/\t ρ G R/\∀i H' G',Ts H H'->HR K H' G'->R i G'->Q i H'
@[simp]def Jo(X:Cx)(e:Option ig)(t:CP):Prop:=PO X e (W5 X.K t)
def PO.imp{t:TO}(h:PO X e t)(k:∀σ H Q,t' σ H Q->t σ H Q):PO X e t':=λψ s σ H Q I q=>h ψ s σ H Q I (k _ _ _ q)
abbrev TK:CP:=λ_ G R=>R bh G
abbrev Cj(t:bC):CP:=λρ G R=>t ρ G λx G1=>match x with
 |.int i=>R (aj i) G1
 |_=>False
def aFF:Jo X bh TK:=PO.imp Zn λσ H Q h=>by
 let⟨ρ,G,R,s,g,t,k⟩:=h;exact k bh H G (.refl H) g t
def Rh(h:bY X e te):Jo X (aj e) (Cj te):=PO.imp (Zm h) λσ H Q h=>by
 let⟨ρ,G,R,s,g,t,k⟩:=h;refine⟨ρ,G,_,s,g,t,λv H1 x G1 t1 r g1 q=>?_⟩;cases r with
 |int i=>exact⟨i,rfl,k _ H1 G1 t1 g1 q⟩
 |_=>exact False.elim q
end
end
variable{F:Ends}
section
section
variable{X:Cx}{st:nu}{rest:List nu}{t u:pI}{te:bC}{pos:Pos}
abbrev bH:pI:=λF ρ G=>F.nx ρ G
abbrev aL(t u:pI):pI:=λF ρ G=>t {F with nx:=u F} ρ G
def aLT:l7 X [] bH:=kg.imp ZD λF σ H h=>by
 let⟨ρ,G,E,s,g,q,d⟩:=h;exact d.nx ρ G σ H s g q
def aFG{K:Fg}(h:C2 K (aL t u) F σ H):Vf (C2 K t) (C2 K u) F σ H:=by
 let⟨ρ,G,E,s,g,q,d⟩:=h;exact⟨ρ,G,_,s,g,q,⟨λfi G' aI H' s1 g1 h=>⟨fi,G',E,s1,g1,h,d⟩,d.rt,d.bk,d.ct⟩⟩
def aFH(h1:gf X st t)(h2:l7 X rest u):l7 X (st::rest) (aL t u):=kg.imp (arV h1 h2) λ_ _ _ h=>aFG h
def aLU(h1:gf X st t):l7 X [st] t:=ZC h1
def aFI:gf X (.Pass pos) bH:=PS.imp ZB λF σ H h=>by
 let⟨ρ,G,E,s,g,q,d⟩:=h;exact d.nx ρ G σ H s g q
abbrev bT(te:bC):pI:=λF ρ G=>te ρ G λ_ G1=>F.nx ρ G1
def aFJ(he:bY X e te)(hs:md e bh pos.line X.env=pure ao:=by rfl):gf X (.Expr e pos) (bT te):=PS.imp (ZA he hs) λF σ H h=>by
 let⟨ρ,G,E,s,g,q,d⟩:=h;exact⟨ρ,G,_,s,g,q,λv H' x G' t1 r g1 h=>d.nx ρ G' σ H' (s.mono t1) g1 h⟩
abbrev cC(te:bC):pI:=λF ρ G=>te ρ G F.rt
def aLV(he:bY X e te):gf X (.Return (aj e) pos) (cC te):=PS.imp (aED he) λF σ H h=>by
 let⟨ρ,G,E,s,g,q,d⟩:=h;exact⟨ρ,G,_,s,g,q,λv H' x G' t1 r g1 h=>d.rt x G' v H' r g1 h⟩
abbrev cX(c:df)(t u:pI):pI:=λF ρ G=>c ρ G λb G1=>if b=ak then t F ρ G1 else u F ρ G1
def aQG{c:ig}{a b:List nu}{tc:df}(hc:mh X c tc)(ha:l7 X a t)(hb:l7 X b u):gf X (.If c a b pos) (cX tc t u):=PS.imp (aKG hc ha hb) λF σ H h=>by
 let⟨ρ,G,E,s,g,q,d⟩:=h;refine⟨ρ,G,_,s,g,q,λb H' G' t1 g1 h=>?_⟩;cases b with
 |true=>exact⟨ρ,G',E,s.mono t1,g1,h,d⟩
 |false=>exact⟨ρ,G',E,s.mono t1,g1,h,d⟩
abbrev cQ(i:Nat)(te:bC):pI:=λF ρ G=>te ρ G λx G1=>F.nx (iq ρ i x) G1
def VQ{i:Nat}{x:Str}(hN:X.N.Nodup)(hi:X.N[i]?=aj x)(hx:Loc X.env.scope x)(he:bY X e te)(hs:md e (aj (.Name x pos')) pos.line X.env=pure ao:=by rfl)(hf:X.fn x=ak∨X.env.scope.names.lookup x=aj .local:=by first|exact .inl rfl|exact .inr rfl|assumption) :
  gf X (.Assign [.Name x pos'] e pos) (cQ i te):=PS.imp (aEG hN hi hx he hs hf) λF σ H h=>by
 let⟨ρ,G,E,s,g,q,d⟩:=h;exact⟨ρ,G,_,s,g,q,λv H' x G' t1 r g1 h=>d.nx _ G' _ H' ((s.mono t1).set r i) g1 h⟩
end
section
def asR{K:Fg}{J:It}{g:TG}{tb:TS}{n:Nat}(Pv:Nat->St->Hp->Prop)(h0:Pv 0 σ H)
  (stop:∀σ H,Pv n σ H->J.stop n H)(go:∀i σ H,i<n->Pv i σ H->J.go i H)
  (hs:∀i x σ H H',i<n->Pv i σ H->J.AX i H x H'->g x σ H' λdt H2=>tb {F with nx:=Pv (i+1),ct:=Pv (i+1),bk:=F.nx} dt H2)(hd:∀σ H,Pv n σ H->F.nx σ H) :
  ∃W:Nat->Nat->St->Hp->Prop,(∃m,W 0 m σ H)/\∀i m σ H,W i m σ H ->
   (J.stop i H/\F.nx σ H)∨(J.go i H/\∃N:St->Hp->Prop,(∀aI H',N aI H'->∃m',m'<m/\W (i+1) m' aI H')/\∀x H',J.AX i H x H'->g x σ H' λdt H2=>tb {F with nx:=N,ct:=N,bk:=F.nx} dt H2):=by
 refine⟨λi m σ H=>m=n - i/\i<=n/\Pv i σ H,⟨n,by simp,qz _,h0⟩,?_⟩;rintro i m σ H ⟨rfl,hi,p⟩;by_cases ft:i<n
 .exact .inr ⟨go i σ H ft p,Pv (i+1),λaI H' p'=>⟨n - (i+1),⋯,rfl,ft,p'⟩,λx H' y=>hs i x σ H H' ft p y⟩
 .have e:i=n:=by omega
  subst e;exact .inl ⟨stop σ H p,hd σ H p⟩
end
@[simp]def eX:=Addr->Gp->Prop
@[simp]def kU:=List D->Gp->iW->eX->Prop
abbrev xN(K:Fg)(EX:eX)(E:XK):Prop:=∀C H' G',HR K H' G'->EX C G'->E (.ref C) bh H'
abbrev cT(K:Fg)(sp:kU):Sp:=λvs H Q E=>∃ds G R EX,cW K H ds vs/\HR K H G/\sp ds G R EX/\(∀v H' d G',RD K H' d v->HR K H' G'->R d G'->Q v H')/\xN K EX E
section
variable{EX:eX}
abbrev aQH(n m:Nat)(tb:eX->pI):kU:=λds G R EX=>ds.length=m/\tb EX ⟨λ_ G'=>R .ag G',R,λ_ _=>False,λ_ _=>False⟩ (HK n ds) G
end
end
variable{l:List Env}
section
abbrev m6(P:mz)(w:jr):Fq:=λouter H s E e s'=>∃(x C:bw)(H':Hp)(B:lg),e=.ref x/\tN B outer x (.ref C) s'.heap/\bP P w H' B /\
 (∀b o,s.heap.get? b=aj o->H b=bh->b∉frs outer->B.get? b=aj o)/\(∀b o,s.heap.get? b=aj o->b∉frs outer->∃o',B.get? b=aj o') /\
 Un (frs outer) [] H H' s.heap s'.heap/\s'.os=s.os/\AllBare s'.gens/\E (.ref C) bh H'
def Sv{b:bw}(h:b∈frs l):∃env∈l,env.frame=aj b:=IP.mp h
def Mu{b:bw}{env:Env}(h:env∈l)(e:env.frame=aj b):b∈frs l:=IP.mpr ⟨env,h,e⟩
section
variable{qt:Bool}{P:mz}{w:jr}{K:Fg}{mg:Str->Option au}{base:lg}{N:List Str}{qual:Str}{scope:dE}{f:bw}{cd:au}{A:jf}{outer:List Env}{av:cg}{aw:Hp}{E:XK}
@[simp]def eA(qt:Bool)(P:mz)(w:jr)(K:Fg)(mg:Str->Option au)(base:lg)(N:List Str)(qual:Str)(scope:dE)(f:bw)(cd:au)(A:jf)(outer:List Env)(av:cg)(aw:Hp)(E:XK):Cx:=u0 qt (m6 P w) P w K mg base N qual scope f cd A outer av aw E
def lO{X:Cx}{s:cg}(I:Inv X ψ σ H s)(bE:X.stack=X.env::X.outer)(hf:X.env.frame=aj X.env.locals){b:bw}{o:Obj}(e:X.av.heap.get? b=aj o)(n:b∉frs X.outer):b∉frs X.stack:=λhb=>by
 let⟨env,he,lz⟩:=Sv hb;rw[bE]at he;rcases ju.mp he with rfl|he
 .have z:X.env.locals=b:=ji.inj (hf.symm.trans lz);have h1:=I.ok.above;have h2:=fj e;rw[z]at h1;exact absurd (je h2 h1) (vo _)
 .exact n (Mu he lz)
def Zd{s:cg}(I:Inv (eA qt P w K mg base N qual scope f cd A outer av aw E) ψ σ H s)(hm:Iq s.heap h' e (.ref C) us)(q:E (.ref C) bh H) :
  (eA qt P w K mg base N qual scope f cd A outer av aw E).xe (.ref e) {s with heap:=h' }:=by
 have bE:(eA qt P w K mg base N qual scope f cd A outer av aw E).stack=(eA qt P w K mg base N qual scope f cd A outer av aw E).env::outer:=rfl;have kL:∀env∈(eA qt P w K mg base N qual scope f cd A outer av aw E).stack,∀b,env.frame=aj b->b∈frs (eA qt P w K mg base N qual scope f cd A outer av aw E).stack:=λenv he b hb=>Mu he hb;have hB:∀b o,(Iu s.heap (frs (eA qt P w K mg base N qual scope f cd A outer av aw E).stack)).get? b=aj o->s.heap.get? b=aj o:=λb o e=>PySem.W.of_hideAll _ e;have C3:∀b o,s.heap.get? b=aj o->b∉frs (eA qt P w K mg base N qual scope f cd A outer av aw E).stack->(Iu s.heap (frs (eA qt P w K mg base N qual scope f cd A outer av aw E).stack)).get? b=aj o:=λb o e n=>PySem.W.hideAll_get _ e n;have fr:=PySem.W.funFrames_hide I.stack kL;refine ak1 (B:=Iu s.heap (frs (eA qt P w K mg base N qual scope f cd A outer av aw E).stack)) (h0:=s.heap) I.ok.frames rfl hB fr hm λh2 k1 k4=>?_;have up:∀b o,s.heap.get? b=aj o->(∀vs,o.data≠.fields vs)->∃sl,h2.get? b=aj {o with slots:=sl}:=λb o e nd=>k4 b o (hm.keeps b o e) nd
 have vu:∀b∈frs outer,∀o,s.heap.get? b=aj o->∀vs,o.data≠.fields vs:=λb hb o e=>by
  let⟨_,o',cS,hd⟩:=I.iA.mem hb;rw[e]at cS;cases cS;exact hd
 refine⟨e,C,H,_,rfl,k1,?_,λb o eb nb hb=>?_,λb o eb hb=>?_,⟨λb o eb nb hb _=>?_,λb o eb nb hb _=>?_,λb o eb nb hx=>I.base.free b o eb nb hx,λb o eb hx=>?_,I.base.az,I.base.m7,I.base.xV⟩,I.os,I.bare,q⟩
 .intro b o hb;refine(I.af b o hb).cf (λc u hc eu=>C3 c u eu λhz=>?_) (λ_ z=>z) λ_ _ z=>z;have n:=I.MA c hz;rcases hc with rfl|hc
  .rw[hb]at n;cases n
  .rw[hc]at n;cases n
 .exact C3 b o (I.base.keep b o eb nb hb (by simp[u0])) (lO I bE rfl eb hb)
 .obtain⟨o',e'⟩:=I.base.there b o eb (by simp[u0]);exact⟨o',C3 b o' e' (lO I bE rfl eb hb)⟩
 .exact k1.stays b o (C3 b o (I.base.keep b o eb nb hb (by simp[u0])) (lO I bE rfl eb hb))
 .obtain⟨sl,e1⟩:=I.base.slot b o eb nb hb (by simp[u0]);let⟨kG,e2⟩:=up b _ e1 (vu b hb _ e1);exact⟨kG,e2⟩
 .obtain⟨o',e'⟩:=I.base.there b o eb (by simp[u0]);by_cases hb:b∈frs outer
  .obtain⟨sl,e1⟩:=up b o' e' (vu b hb o' e');exact⟨_,e1⟩
  .exact⟨o',k1.stays b o' (C3 b o' e' (lO I bE rfl eb hb))⟩
def Zc(hE:∀C H',E' C bh H'->E C bh H'){s:cg}(I:Inv (eA qt P w K mg base N qual scope f cd A outer av aw E) ψ σ H s)
  (c:m6 P w (eA qt P w K mg base N qual scope f cd A outer av aw E).stack H s E' e s'):(eA qt P w K mg base N qual scope f cd A outer av aw E).xe e s':=by
 let⟨x,C,H',B,rfl,fl,af,Bu,zr,un,os,bare,q⟩:=c;have bE:(eA qt P w K mg base N qual scope f cd A outer av aw E).stack=(eA qt P w K mg base N qual scope f cd A outer av aw E).env::outer:=rfl;refine arP (B:=B) I.ok.frames rfl fl λh2 k1 k4=>?_
 have PN:∀b∈frs outer,b∈frs (eA qt P w K mg base N qual scope f cd A outer av aw E).stack:=λb hb=>by
  let⟨env,he,hf⟩:=Sv hb;exact Mu (qp _ he) hf
 have vu:∀b∈frs outer,∀o,s'.heap.get? b=aj o->∀vs,o.data≠.fields vs:=λb hb o e=>by
  let⟨_,o',cS,hd⟩:=fl.Nq.mem (PN b hb);rw[e]at cS;cases cS;exact hd
 refine⟨x,C,H',B,rfl,k1,af,λb o eb nb hb=>?_,λb o eb hb=>?_,⟨λb o eb nb hb _=>?_,λb o eb nb hb _=>?_,λb o eb nb hx=>?_,λb o eb hx=>?_,λb xs z=>un.az b xs (I.base.az b xs z),λb o u z=>un.m7 b o u (I.base.m7 b o u z),λb ps z=>?_⟩,os.trans I.os,bare,hE _ _ q⟩
 .exact Bu b o (I.base.keep b o eb nb hb (by simp[u0])) (I.base.free b o eb nb (by simp[u0])) (lO I bE rfl eb hb)
 .obtain⟨o',e'⟩:=I.base.there b o eb (by simp[u0]);exact zr b o' e' (lO I bE rfl eb hb)
 .exact k1.stays b o (Bu b o (I.base.keep b o eb nb hb (by simp[u0])) (I.base.free b o eb nb (by simp[u0])) (lO I bE rfl eb hb))
 .obtain⟨sl,e1⟩:=I.base.slot b o eb nb hb (by simp[u0]);let⟨kG,e2⟩:=un.slot b _ e1 (I.base.free b o eb nb (by simp[u0])) (PN b hb) (by simp);let⟨Xi,e3⟩:=k4 b _ e2 (vu b hb _ e2);exact⟨Xi,e3⟩
 .obtain⟨o',e'⟩:=I.base.there b o eb (by simp[u0]);exact un.free b o' e' (I.base.free b o eb nb (by simp[u0])) (by simp)
 .obtain⟨o',e'⟩:=I.base.there b o eb (by simp[u0]);by_cases hb:b∈frs outer
  .obtain⟨o2,e2⟩:=un.there b o' e' (by simp);let⟨sl,e3⟩:=k4 b o2 e2 (vu b hb o2 e2);exact⟨_,e3⟩
  .obtain⟨o2,e2⟩:=zr b o' e' (lO I bE rfl eb hb);exact⟨o2,k1.stays b o2 e2⟩
 .obtain⟨m1,e1⟩:=I.base.xV b ps z;let⟨m2,e2⟩:=un.xV b _ e1;exact⟨m1++m2,by rw[e2,Array.append_assoc]⟩
end
abbrev qc(K:Fg)(EX:eX):XK:=λC _ H'=>∃c G',C=.ref c/\HR K H' G'/\EX c G'
structure nI(X:Cx)(EX:bL->eX):Prop where
 Ei:∀ψ σ H s ρ e s',Inv X ψ σ H s->SR X.K H ρ σ->m6 X.prog X.w X.stack H s (qc X.K (EX ρ)) e s'->X.xe e s'
structure Oq(X:Cx)(EX:bL->eX):Prop where
 made:∀ψ σ H s ρ C e us h',Inv X ψ σ H s->SR X.K H ρ σ->Iq s.heap h' e (.ref C) us->qc X.K (EX ρ) (.ref C) bh H->X.xe (.ref e) {s with heap:=h' }
section
variable{qt:Bool}{w:jr}{K:Fg}{mg:Str->Option au}{base:lg}{N:List Str}{A:jf}{outer:List Env}{av:cg}{aw:Hp}
def TJ(h:xN K EX E)(q:qc K EX C bh H'):E C bh H':=by
 let⟨c,G',rfl,g,q⟩:=q;exact h c H' G' g q
def aQJ(h:xN K EX E):nI (eA qt P w K mg base N qual scope f cd A outer av aw E) (λ_=>EX) :=
 ⟨λψ σ H s ρ e s' I _ c=>Zc (E':=qc K EX) (λC H' q=>TJ h q) I c⟩
def aQK(h:xN K EX E):Oq (eA qt P w K mg base N qual scope f cd A outer av aw E) (λ_=>EX) :=
 ⟨λψ σ H s ρ C e us h' I _ hm q=>Zd I hm (TJ h q)⟩
def Oz:PassesOwn (dz P w) (eA qt P w K mg base N qual scope f cd A outer av aw E).A (eA qt P w K mg base N qual scope f cd A outer av aw E).env (eA qt P w K mg base N qual scope f cd A outer av aw E).xe:=PassesOwn.leaving
end
section
variable{X:Cx}{k:Nat}{sp:kU}{EX:bL->eX}{x:Str}{pos:Pos}{es:List ig}{t:sJ}
abbrev aQ(sp:kU)(EX:bL->eX)(t:sJ):bC:=λρ G R=>t ρ G λds G1=>sp ds G1 R (EX ρ)
private theorem Su{s:cg}{Q Q':VK}(F:c7 qt X.prog X.w X.K X.mg X.base (m6 X.prog X.w) k f fd ps (cT X.K sp))(hr:lB qt k X.A)(hb:Binds X.K fd ps [])
  (hx:∀e s',m6 X.prog X.w X.stack H s E e s'->X.xe e s')
  (I:Inv X ψ σ H s)(r:Vals vs us)(h:cT X.K sp vs H Q E)(hQ:∀v H',Ts H H'->Q v H'->Q' v H'):dj (dz X.prog X.w) X.A (call (.ref f) us) (EP X ψ σ Q') X.xe s:=by
 have hl:(us++[]).length=ps.length:=by rw[Aq,←r.length];exact F.len _ _ _ _ h
 refine wpAny_call (Am (F.run X.A X.stack s H ⟨us,[]⟩ (us++[]) vs Q E hr I.AR (hb s us I.de hl) (by rw[Aq];exact r) h) λr s' hq=>?_);cases r with
 |error e=>exact hx e s' hq
 |ok fl =>
  cases fl with
  |ret u =>
   let⟨v,H',os,bare,un,af,r,q⟩:=hq;exact⟨v,H',I.fE (ch:=[]) os un af bare (λb z=>absurd z (by simp)),r,hQ v H' ⟨un.az,un.m7⟩ q⟩
  |next=>exact False.elim hq
  |brk=>exact False.elim hq
  |cont=>exact False.elim hq
def Zb(F:c7 qt X.prog X.w X.K X.mg X.base (m6 X.prog X.w) k f fd ps (cT X.K sp))(hr:lB qt k X.A)(hg:Gl X x)(hm:X.mg x=aj (.ref f))(hk:wz X.K (.ref f)=ak)(hb:Binds X.K fd ps [])(hx:nI X EX)
  (ha:ff X (e::es) t)(gS:(x==("__debug__":Str))=ao:=by decide)(he:jj (e::es) X.env=(ao,eval e X.env)::jj es X.env:=by rfl)(ij:(ux pos (jj es X.env)).any (·.1)=ao:=by rfl) :
  bY X (.Call (.Name x p) (e::es) [] pos) (aQ sp EX t):=by
 intro ψ s σ H Q I h;let⟨ρ,G,R,sr,g,q,kk⟩:=h;refine yw (qF I hg hm ?_ gS);refine N5 (h₀:=X.base) I.ok.mod.oC hk (dH (ha pos ψ s σ H (λvs H1=>Ts H H1/\∃ds G1,cW X.K H1 ds vs/\HR X.K H1 G1/\sp ds G1 R (EX ρ)) I ⟨ρ,G,_,sr,g,q,λvs H1 ds G1 t1 r1 g1 q1=>⟨t1,ds,G1,r1,g1,q1⟩⟩) λus s1 ⟨vs,H1,I1,r,t1,ds,G1,r1,g1,q1⟩=>⟨I1.de,?_⟩) he ij;refine Su (E:=qc X.K (EX ρ)) F hr hb (λe s' c=>hx.Ei ψ σ H1 s1 ρ e s' I1 (sr.mono t1) c) I1 r (Q:=λv H'=>∃d G',RD X.K H' d v/\HR X.K H' G'/\R d G') ⟨ds,G1,R,EX ρ,r1,g1,q1,λv H' d G' r2 g2 q2=>⟨d,G',r2,g2,q2⟩,λC H' G' g' q'=>⟨C,G',rfl,g',q'⟩⟩ (by rintro v H' t2 ⟨d,G',r2,g2,q2⟩;exact kk v H' d G' (t1.trans t2) r2 g2 q2)
def aFK{qt:Bool}{P:mz}{w:jr}{K:Fg}{base:lg}{x qual:Str}{st:nu}{f:bw}{fd:oh}{N ps:List Str}{k:Nat}{tb:eX->pI}(F:gu K x qual st f fd)(S:aU N ps (aV st))
  (ie:∀(eB:au)(A:jf)(outer:List Env)(s:cg)(H:Hp)(E:XK)(EX:eX),lB qt k (A.deeper (envOfC qual (aV st) s.heap.objs.size f eB))->xN K EX E ->
   l7 (eA qt P w K mg base N qual (aV st) f eB A outer s H E) (cH st) (tb EX)):c7 qt P w K mg base (m6 P w) (k+1) f fd ps (cT K (aQH N.length ps.length tb)):=by
 let⟨oc,od,dV,kV,doc,pm,an,eB,ct,A7,rfl,lk,gz⟩:=F.ex;have ij:ps.length<=N.length:=by have:=congrArg Ak S.pre;rw[E0]at this;omega
 refine aKU lk gz S (λvs H Q E h=>?_) λA outer s H vs Q E hr uS=>?_
 .obtain⟨ds,G,R,EX,r,g,⟨hl,q⟩,_⟩:=h;rw[←r.length,hl]
 .obtain⟨ds,G,R,EX,r,g,⟨hl,q⟩,kk,hE⟩:=uS;refine⟨_,ie eB A outer s H E EX hr hE,HK N.length ds,G,_,?_,g,q,⟨λρ G' aI H' s1 g1 q1=>kk .ag H' .ag G' .ag g1 q1,λd G' v H' r1 g1 q1=>kk v H' d G' r1 g1 q1,λ_ _ _ _ _ _ z=>z.elim,λ_ _ _ _ _ _ z=>z.elim⟩⟩;unfold HK start;rw[r.length];exact SR.entry r
end
section
variable{X:Cx}{C:bw}{iP:List au}{B Bn newId Di eM Dp:String}{EX:bL->eX}{x:Str}{pos:Pos}{es:List ig}{t:sJ}
private theorem Ih{K:Fg}(XK:K.In h)(q:nB K C iP newId=ak):∃bm N nm q bs hdct sn sub ab col dd k0 k1 k2 k3 k5 mN,h.get? C=aj (excClassObj nm q C N bs bm hdct sn sub ab col dd k0 k1 k2 k3 k5 newId)/\h.Ns N mN/\mN "__init__"=bh/\OwnTail h iP bm:=by
 unfold nB at q;split at q
 .rename_i dd cd sl ho;split at q
  .rename_i C' bm k0 k1 k2 k3 n k5 hm hs;simp only[bx,beq_iff_eq,gV]at q;let⟨⟨⟨⟨⟨rfl,rfl⟩,FD⟩,ht⟩,af⟩,ve⟩:=q;let⟨nm,bs,mro,ns,qn,hd,sn,sub,ab,col,del⟩:=cd;dsimp only at hm FD af ve;subst hm FD
   have XT:sl=#[k0,k1,k2,k3,aj (.builtin n),k5]:=by
    let⟨l⟩:=sl;simp only at hs;rw[hs]
   subst XT;exact⟨bm,ns,nm,qn,bs,hd,sn,sub,ab,col,dd,k0,k1,k2,k3,k5,_,XK _ _ ho,.of_isNs (PySem.W.isNs_of_in XK af),PySem.W.nsMap_none_of_in XK af ve,PySem.W.tail_of_in XK ht⟩
  .cases q
 .cases q
abbrev oA(EX:bL->eX)(C:bw)(t:sJ):pI:=λ_ ρ G=>t ρ G λds G1=>ds.length<=dg/\EX ρ C G1
def Za(hc:X.calm=ak)(Fn:xi Bn newId Dp GH)(zd:iP.contains (.type Bn)=ak)(FB:xi B Di eM iP)(hg:Gl X x)(hm:X.mg x=aj (.ref C))(hq:nB X.K C iP newId=ak)(hT:Oq X EX)
  (ha:ff X (e::es) t)(hd:(x==("__debug__":Str))=ao:=by decide)
  (he:jj (e::es) X.env=(ao,eval e X.env)::jj es X.env:=by rfl)(eP:(ux ah (jj es X.env)).any (·.1)=ao:=by rfl) :
  gf X (.Raise (aj (.Call (.Name x np) (e::es) [] ah)) bh pos) (oA EX C t):=by
 intro ψ s σ H F I h;let⟨ρ,G,E3,sr,g,q,dd⟩:=h;let⟨tl,N,nm,q',bs,hdct,sn,sub,ab,col,iL,k0,k1,k2,k3,k5,mN,hC,hN,ve,T⟩:=Ih I.mod.oC hq
 refine wpAny_Raise_call_subU (C:=C) (nm:=nm) (q:=q') (N:=N) (bs:=bs) (bm:=tl) (hdct:=hdct) (sn:=sn) (sub:=sub) (ab:=ab) (col:=col) (dd:=iL) (k0:=k0) (k1:=k1) (k2:=k2) (k3:=k3) (k5:=k5)
  Fn zd FB (mN:=mN) (T.hasType FB.hasBase) (I.ok.hd hc) (by rw[he];show(ao||(ux ah (jj es X.env)).any (·.1))=ao;rw[eP];rfl) ve (qF I hg hm ⟨rfl,?_⟩ hd)
 have hA:=ha ah ψ s σ H (λvs H1=>Ts H H1/\∃ds G1,cW X.K H1 ds vs/\HR X.K H1 G1/\ds.length<=dg/\EX ρ C G1) I ⟨ρ,G,_,sr,g,q,λvs H1 ds G1 t1 r1 g1 q1=>⟨t1,ds,G1,r1,g1,q1.1,q1.2⟩⟩;rw[he]at hA ⊢;refine Calls.evalArgs_plain (dH hA ?_);rintro us s2 ⟨vs,H2,I2,r2,t1,ds,G1,r1,g1,hl,q1⟩;exact⟨rfl,by rw[←r2.length,←r1.length];exact hl,I2.bk _ _ hC,hN.keeps I2.bk,T.keeps I2.bk,λh' e' Kg=>hT.made ψ σ H2 s2 ρ C e' us h' I2 (sr.mono t1) Kg ⟨C,G1,rfl,g1,q1⟩⟩
end
end
variable{B:lg}
section
abbrev nc:bL->Nat->bL
 |[],_=>[]
 |_::r,0=>bh::r
 |x::r,n+1=>x::nc r n
abbrev kP:St->Nat->St
 |[],_=>[]
 |_::r,0=>bh::r
 |x::r,n+1=>x::kP r n
def SR.DN{K:Fg}:∀{ρ:bL}{σ:St}(i:Nat),SR K H ρ σ->SR K H (nc ρ i) (kP σ i)
 |_,_,_,.nil=>.nil
 |_,_,0,.none r=>.none r
 |_,_,0,.some _ r=>.none r
 |_,_,i+1,.none r=>.none (SR.DN i r)
 |_,_,i+1,.some h r=>.some h (SR.DN i r)
def TH:∀(σ:St)(i:Nat),(kP σ i).length=σ.length
 |[],_=>rfl
 |_::_,0=>rfl
 |_::r,i+1=>congrArg (·+1) (TH r i)
def TF:∀(σ:St)(i j:Nat)(v:V),(kP σ i)[j]?=aj (aj v)->j≠i/\σ[j]?=aj (aj v)
 |[],_,_,_,h=>by simp[kP]at h
 |_::_,0,0,_,h=>by simp[kP]at h
 |_::_,0,j+1,_,h=>⟨⋯,by simpa[kP]using h⟩
 |_::_,i+1,0,_,h=>⟨⋯,by simpa[kP]using h⟩
 |_::r,i+1,j+1,v,h=>by
  let⟨a,b⟩:=TF r i j v (by simpa[kP]using h);exact⟨⋯,by simpa using b⟩
section
variable{X:Cx}
abbrev WZ(X:Cx)(EX:bL->eX):au->cg->Prop:=λe s'=>∃ψ σ H s ρ,Inv X ψ σ H s/\SR X.K H ρ σ/\m6 X.prog X.w X.stack H s (qc X.K (EX ρ)) e s'
@[simp]def GR(X:Cx)(pn:List (bw×Obj))(EX:bL->eX):Cx:={X with pn:=X.pn++pn,xe:=WZ {X with pn:=X.pn++pn} EX}
@[simp]def BN(X:Cx)(x:bw):Cx:={X with A:=X.A.mark (aj (.ref x)),calm:=false,xe:=λ_ _=>False}
def aLX(ok:X.Ok)(pn:List (bw×Obj))(E:au->cg->Prop):({X with pn:=pn,xe:=E}:Cx).Ok :=
 ⟨ok.mod,ok.kind,ok.glob,ok.blt,ok.above,ok.inj,ok.has,ok.v5,ok.hd,ok.frames,ok.kF,ok.DI,ok.bs,ok.lP,ok.wx,ok.zI,ok.iA,ok.ph⟩
def Y9{s:cg}(I:Inv X ψ σ H s)(E:au->cg->Prop):Inv ({X with pn:=X.pn++ψ,xe:=E}:Cx) [] σ H s :=
 ⟨aLX I.ok _ _,I.os,I.bare,I.base,I.loc,I.cell,I.free,I.oN,λp hp=>I.pin p (by simpa using hp),I.af,I.len,I.dS,I.tup⟩
def uU{s:cg}(I:Inv ({X with pn:=X.pn++ψ,xe:=E}:Cx) Cs σ H s):Inv X ψ σ H s :=
 ⟨⟨I.ok.mod,I.ok.kind,I.ok.glob,I.ok.blt,I.ok.above,I.ok.inj,I.ok.has,I.ok.v5,I.ok.hd,I.ok.frames,I.ok.kF,I.ok.DI,I.ok.bs,I.ok.lP,I.ok.wx,I.ok.zI,I.ok.iA,I.ok.ph⟩,I.os,I.bare,I.base,I.loc,I.cell,I.free,I.oN,λp hp=>I.pin p (IT _ hp),I.af,I.len,I.dS,I.tup⟩
def Ss{s:cg}(I:Inv X ψ σ H s)(x:bw)(q:x6 (X.A.mark (aj (.ref x))) H):Inv (BN X x) ψ σ H s :=
 ⟨⟨I.ok.mod,I.ok.kind,I.ok.glob,I.ok.blt,I.ok.above,I.ok.inj,I.ok.has,I.ok.v5,(λz=>nomatch z),I.ok.frames,I.ok.kF,I.ok.DI,I.ok.bs,I.ok.lP,I.ok.wx,I.ok.zI,I.ok.iA,I.ok.ph⟩,I.os,I.bare,I.base,I.loc,I.cell,I.free,I.oN,I.pin,I.af,I.len,q,I.tup⟩
def Jn{s:cg}{x:bw}(ok:X.Ok)(hn:X.A.handled=bh)(I:Inv (BN X x) ψ σ H s):Inv X ψ σ H s :=
 ⟨ok,I.os,I.bare,I.base,I.loc,I.cell,I.free,I.oN,I.pin,I.af,I.len,.inl hn,I.tup⟩
def aQL(pn:List (bw×Obj))(EX:bL->eX):nI (GR X pn EX) EX:=⟨λψ σ H s ρ e s' I sr c =>
 ⟨ψ,σ,H,s,ρ,⟨⟨I.ok.mod,I.ok.kind,I.ok.glob,I.ok.blt,I.ok.above,I.ok.inj,I.ok.has,I.ok.v5,I.ok.hd,I.ok.frames,I.ok.kF,I.ok.DI,I.ok.bs,I.ok.lP,I.ok.wx,I.ok.zI,I.ok.iA,I.ok.ph⟩,I.os,I.bare,I.base,I.loc,I.cell,I.free,I.oN,I.pin,I.af,I.len,I.dS,I.tup⟩,sr,c⟩⟩
def aFL{P:mz}{w:jr}{s s':cg}{x:bw}(fl:tN B l x (.ref C) s'.heap)(Bu:∀b o,s.heap.get? b=aj o->H b=bh->b∉frs l->B.get? b=aj o)
  (zr:∀b o,s.heap.get? b=aj o->b∉frs l->∃o',B.get? b=aj o')(un:Un (frs l) [] H H' s.heap s'.heap)(st:B.StaysIn h2)(up:s'.heap.UpToSlots h2):Un (frs l) [] H H' s.heap h2:=by
 have vu:∀b∈frs l,∀o,s'.heap.get? b=aj o->∀vs,o.data≠.fields vs:=λb hb o e=>by
  let⟨_,o',cS,hd⟩:=fl.Nq.mem hb;rw[e]at cS;cases cS;exact hd
 refine⟨λb o eb nb hb _=>st b o (Bu b o eb nb hb),λb o eb nb hb hx=>?_,un.free,λb o eb hx=>?_,un.az,un.m7,un.xV⟩
 .obtain⟨sl,e1⟩:=un.slot b o eb nb hb hx;let⟨kG,e2⟩:=up b _ e1 (vu b hb _ e1);exact⟨kG,e2⟩
 .by_cases hb:b∈frs l
  .obtain⟨o2,e2⟩:=un.there b o eb hx;let⟨sl,e3⟩:=up b o2 e2 (vu b hb o2 e2);exact⟨_,e3⟩
  .obtain⟨o2,e2⟩:=zr b o eb hb;exact⟨o2,st b o2 e2⟩
def Ig{M:Model}{A:jf}{s:cg}{i:Nat}{n:Str}(I:Inv X ψ σ H s)(hN:X.N.Nodup)(hi:X.N[i]?=aj n)(hl:X.env.kindOf n=aj .local)
  (h:∀s',Inv X ψ (kP σ i) H s'->Q () s'):dj M A (do bindName X.env n .none;unbindBehindTheSuite X.env n pos) Q E s:=by
 let⟨m,hn,Bi⟩:=id I.loc;have mw:=I.mw;refine wpAny_nameGoes_keeps hl hn (by rw[I.ok.kind];rfl) λh' v Gq hs=>?_;let⟨oL,_,_,PC,_⟩:=id hn;refine h _ ⟨I.ok,I.os,I.bare,⟨λb o e n hb hx=>?_,λb o e n hb hx=>?_,I.base.free,λb o e hx=>?_,I.base.az,I.base.m7,I.base.xV⟩,⟨_,Gq,λj y v' e1 e2 e3=>?_⟩,λy c e=>?_,I.free,I.oN,λp hp=>?_,λb ob e=>?_,(TH σ i).trans I.len,I.dS,I.tup⟩
 .exact(hs.2 b (jo (je (fj e) I.ok.above))).trans (I.base.keep b o e n hb hx)
 .obtain⟨sl,e1⟩:=I.base.slot b o e n hb hx;exact⟨sl,(hs.2 b (jo (je (fj e) I.ok.above))).trans e1⟩
 .obtain⟨o',e1⟩:=I.base.there b o e hx;exact⟨o',(hs.2 b (jo (je (fj e) I.ok.above))).trans e1⟩
 .obtain⟨hj,pj⟩:=TF σ i j v' e2;let⟨u',r',q⟩:=Bi j y v' e1 pj e3;refine⟨u',r',?_⟩;rcases q with⟨k,e⟩|⟨k,c,e,z⟩
  .refine .inl ⟨k,?_⟩;have:y≠n:=λe=>hj (NI hN e1 (e ▸ hi));simp[this,e]
  .exact .inr ⟨k,c,e,z.sameBut hs (mw y c e)⟩
 .obtain⟨w',z⟩:=I.cell y c e;exact⟨w',z.sameBut hs (mw y c e)⟩
 .obtain⟨e,n,ne,nf,d⟩:=I.pin p hp;exact⟨(hs.2 p.1 ne).trans e,n,ne,nf,d⟩
 .refine(I.af b ob e).cf (λc w' hc q=>(hs.2 c ?_).trans q) (λ_ q=>q) λ_ _ q=>q;rintro rfl;have bq:=I.free;rcases hc with z|hc
  .rw[z,e]at bq;cases bq
  .rw[bq]at hc;cases hc
private theorem aQM{M:Model}{A:jf}{K:Fg}{s:cg}{x:bw}{oe:Obj}{b:Bool}(KX:K.In s.heap)(he:s.heap.get? x=aj oe)(AQ:oe.cls=.ref C)
  (hc:(yt K Dc).isSome=ak)(ht:Ao K (.ref Dc)=aj (.type "type"))(hb:xr K (.ref Dc) (.type "BaseException")=aj ak)(hs:xr K (.ref C) (.ref Dc)=aj b)(h:Q b s):dj M A (excMatches (.ref x) (.ref Dc)) Q E s:=by
 have l1:xg M s.heap (typeOf (.ref Dc)) (.type "type"):=PySem.W.looks_typeIn KX ht;have l2:xg M s.heap (isSubtype (.ref Dc) (.type "BaseException")) ak:=PySem.W.looks_subIn KX hb;have l3:xg M s.heap (isSubtype (.ref C) (.ref Dc)) b:=PySem.W.looks_subIn KX hs
 have l4:xg M s.heap (typeOf (.ref x)) (.ref C):=by
  have z:=(xg.ld (M:=M) (part:=none) he).andThen (f:=λo=>pure o.cls) (b:=.ref C) (by rw[AQ];exact .now);exact z
 have l0:xg M s.heap (isSubtype (.type "type") (.type "tuple")) ao:=.of_pure tc_notTuple
 have lt:xg M s.heap (isType (.ref Dc)) ak:=by
  intro A' Q' E' s' k q;cases eK:yt K Dc with
  |none=>rw[eK]at hc;cases hc
  |some cd =>
   unfold yt at eK;split at eK
   .rename_i ho;unfold isType loadHead;exact aq (wpAny_loadPart (k _ _ (KX _ _ ho)) (cj q))
   .cases eK
 unfold excMatches isInstance isExcClass
 repeat (first|with_reducible refine xg.here l0 ?_|with_reducible refine xg.here l1 ?_|with_reducible refine xg.here l2 ?_|with_reducible refine xg.here l3 ?_|with_reducible refine xg.here l4 ?_|with_reducible refine xg.here lt ?_|wp_step)
 cases b<;>(wp_walk;exact h)
abbrev Eh(K:Fg)(Dc:bw)(i:Nat)(tb:(bL->eX)->pI)(th:pI):pI:=λF ρ G =>
 tb (λCZ C G1=>xr K (.ref C) (.ref Dc)=aj ak/\∀x,G1 x=bh->th {nx:=λb9 G2=>F.nx (nc b9 i) G2,rt:=F.rt,bk:=λb9 G2=>F.bk (nc b9 i) G2,ct:=λb9 G2=>F.ct (nc b9 i) G2} (iq CZ i (.ref x)) (aC G1 x (.fe C))) F ρ G
private theorem asT{s:cg}(h:SP (GR X ψ EX) [] F f s):SP X ψ F f s:=by
 cases f with
 |next=>let⟨aI,H',I,q⟩:=h;exact⟨aI,H',uU I,q⟩
 |brk=>let⟨aI,H',I,q⟩:=h;exact⟨aI,H',uU I,q⟩
 |cont=>let⟨aI,H',I,q⟩:=h;exact⟨aI,H',uU I,q⟩
 |ret u=>let⟨v,aI,H',I,r,q⟩:=h;exact⟨v,aI,H',uU I,r,q⟩
def TC{w:jr}{x:bw}(af:bP P w H B)(n:B.get? x=bh):H x=bh:=by
 cases e0:H x with
 |none=>rfl
 |some o =>
  have lt:=(af x o e0)
  obtain⟨o',cS⟩:∃o',B.get? x=aj o':=by
   cases o with
   |lst xs=>let⟨_,_,_,_,e⟩:=lt;exact⟨_,e⟩
   |tup xs=>let⟨_,_,_,o,e,_⟩:=lt;exact⟨_,e⟩
   |dK kvs=>let⟨_,_,_,_,o,_,_,e,_⟩:=lt;exact⟨_,e⟩
   |dT kvs=>let⟨_,_,_,_,o,_,_,e,_⟩:=lt;exact⟨_,e⟩
   |set S n=>let⟨o,_,_,_,e,_⟩:=lt;exact⟨_,e⟩
   |ins C dx fs=>let⟨_,_,_,e,_⟩:=lt;exact⟨_,e⟩
   |own y=>let⟨_,e⟩:=lt;exact⟨_,e⟩
   |xd fs=>let⟨_,⟨_,_,_,e,_⟩,_⟩:=lt;exact⟨_,e⟩
   |F3 lo hi=>let⟨_,_,_,e⟩:=lt;exact⟨_,e⟩
   |jJ ob u=>let⟨e,_⟩:=lt;exact⟨_,e⟩
   |i9 ps=>exact⟨_,(show B.get? x=aj _ from lt)⟩
   |met f y=>exact⟨_,(show B.get? x=aj _ from lt)⟩
   |ext φ=>let⟨_,⟨_,e⟩,_⟩:=lt;exact⟨_,e⟩
  rw[n]at cS;cases cS
private theorem aLY{n cx:Str}{i:Nat}
  (gT:X.calm=ak)(hN:X.N.Nodup)(hi:X.N[i]?=aj n)(hl:X.env.kindOf n=aj .local)(bE:X.stack=X.env::X.outer)(DA:X.env.frame=aj X.env.locals)
  (hg:Gl X cx)(hm:X.mg cx=aj (.ref Dc))(hc:(yt X.K Dc).isSome=ak)(ht:Ao X.K (.ref Dc)=aj (.type "type"))(Yi:xr X.K (.ref Dc) (.type "BaseException")=aj ak)
  (hb:∀pn EX,l7 (GR X pn EX) body (tb EX))(hh:∀x,l7 (BN X x) (OJ::km) th)(hd:(cx==("__debug__":Str))=ao:=by decide) :
  gf X (.Try body [.ExceptHandler (aj (.Name cx cp)) (aj n) (OJ::km) Fw] [] [] pos) (Eh X.K Dc i tb th):=by
 intro ψ s σ H F I h;let⟨ρ,G,E3,sr,g,q,d⟩:=h;refine wpAny_Try_except (rm (hb ψ _ [] s σ H F (Y9 I _) ⟨ρ,G,E3,sr,g,q,d⟩) (λf s1 q1=>?_) λe s1 q1=>?_)
 .have q2:=asT q1;cases f with
  |next=>exact wpAny_execs_nil q2
  |brk=>exact q2
  |cont=>exact q2
  |ret u=>exact q2
 .obtain⟨Cs,FU,H1,s0,CZ,I1,Xe,x,C,H',B,rfl,fl,af,Bu,zr,un,os,bare,c,G',e2,g',OF,XS⟩:=q1;cases e2;have J1:Inv X ψ FU H1 s0:=uU I1;have hn:X.A.handled=bh:=I.ok.hd gT;have lz:X.A.frames=aj (X.env::X.outer):=by rw[←bE];exact I.ok.frames
  have YB:tN B (X.env::X.outer) x (.ref C) s1.heap:=by rw[←bE];exact fl
  refine SE (B:=B) lz DA YB λh4 aLZ OY=>?_;refine Ii aLZ λh5 KB OX=>?_;have Pr:B.get? x=bh:=fl.new;have A8:H' x=bh:=TC af Pr
  have x8:∀(h6:lg)(oe:Obj)(ws:Array au),tN B (X.env::X.outer) x (.ref C) h6->s1.heap.UpToSlots h6->h6.get? x=aj oe->oe.cls=.ref C->oe.data=.fields ws ->
    Inv X ψ FU (upd H' x (.jJ oe (.ext (qh C x)))) {s1 with heap:=h6}/\Ts H1 (upd H' x (.jJ oe (.ext (qh C x)))):=by
   intro h6 oe ws Bp sm BM Lo B6;have yi:=aFL (P:=X.prog) (w:=X.w) fl Bu zr un Bp.stays sm
   have Xy:s0.heap.get? x=bh:=by
    cases e0:s0.heap.get? x with
    |none=>rfl
    |some o =>
     by_cases hx:x∈frs X.stack
     .obtain⟨_,o',cS,jv⟩:=Bp.Nq.mem (by rw[←bE];exact hx);rw[BM]at cS;cases cS;exact absurd B6 (jv ws)
     .obtain⟨o',cS⟩:=zr x o e0 hx;rw[Pr]at cS;cases cS
   have sn:aS H' (upd H' x (.jJ oe (.ext (qh C x)))):=cA A8;have A9:∀b o,s0.heap.get? b=aj o->b≠x:=λb o e z=>by subst z;rw[Xy]at e;cases e
   have JB:Un (frs X.stack) [] H1 (upd H' x (.jJ oe (.ext (qh C x)))) s0.heap h6:=⟨yi.keep,yi.slot,λb o e n hx=>by rw[aP (A9 b o e)];exact yi.free b o e n hx,yi.there,λb xs z=>sn _ _ (yi.az b xs z),λb o u z=>sn _ _ (yi.m7 b o u z),λb ps z=>by
    let⟨m,e⟩:=yi.xV b ps z;exact⟨m,sn _ _ e⟩⟩
   have aQP:bP X.prog X.w (upd H' x (.jJ oe (.ext (qh C x)))) h6:=λb o e=>by
    by_cases hb:b=x
    .subst hb;rw[aK]at e;cases e;refine⟨BM,⟨oe,ws,BM,Lo,B6⟩,⟨oe,BM⟩,λh1 h2 ⟨o1,w1,e1,e2,e3⟩ k=>⟨o1,w1,k _ e1,e2,e3⟩⟩
    .rw[aP hb]at e;exact((af.kept Bp.stays) b o e).cf (λ_ _ _ z=>z) (λc z=>sn _ _ z) λc xs z=>sn _ _ z
   exact⟨J1.fE (ch:=[]) (s':={s1 with heap:=h6}) os JB aQP bare (λb z=>absurd z (by simp)),JB.az,JB.m7⟩
  let⟨oe,OQ,Py,Fy,Fx,aQQ⟩:=KB.fld;let⟨J5,_⟩:=x8 h5 oe OQ KB (OY.trans OX) Py Fy Fx;refine wpAny_handleBy_cons (codeAny_handlers_test ?_) (by intro q;cases q);refine qF (X:=BN X x) (Ss J5 x (.inr ⟨x,oe,_,OQ,rfl,aK,Fx,aQQ⟩)) hg hm ?_ hd;refine aQM (K:=X.K) J5.de Py Fy hc ht Yi OF ?_;refine codeAny_handlers_suite_as ?_;refine Ii KB λh6 Bp Xg=>?_;let⟨JT,ws,BM,Lo,B6,VP⟩:=Bp.fld;let⟨J7,tt⟩:=x8 h6 JT ws Bp ((OY.trans OX).trans Xg) BM Lo B6;have gx:G' x=bh:=m8 (K:=X.K) g' A8 (sU (X:=X) J7);refine NH (X:=BN X x) (Ss J7 x (.inr ⟨x,JT,_,ws,rfl,aK,B6,VP⟩)) hN hi (.inl hl) (v:=.ref x) (u:=.ref x) rfl (λs8 J8=>?_) (.inr hl);have q8:=XS x gx
  refine rm (hh x ψ s8 _ _ {nx:=λdt H2=>F.nx (kP dt i) H2,rt:=F.rt,bk:=λdt H2=>F.bk (kP dt i) H2,ct:=λdt H2=>F.ct (kP dt i) H2} J8
   ⟨iq CZ i (.ref x),aC G' x (.fe C),_,(Xe.mono tt).set (.ref x) i,g'.put (u:=.fe C) A8 ⟨JT,ws,aK,B6,VP⟩,q8,⟨λb9 G2 dt H2 s2 g2 z=>d.nx _ G2 _ H2 (s2.DN i) g2 z,d.rt,λb9 G2 dt H2 s2 g2 z=>d.bk _ G2 _ H2 (s2.DN i) g2 z,λb9 G2 dt H2 s2 g2 z=>d.ct _ G2 _ H2 (s2.DN i) g2 z⟩⟩) (λf s9 q9=>?_) λ_ _ z=>z.elim
  cases f with
  |next=>let⟨dt,H2,I2,z⟩:=q9;exact Ig (Jn J7.ok hn I2) hN hi hl λF1 qV=>⟨_,H2,qV,z⟩
  |brk=>let⟨dt,H2,I2,z⟩:=q9;exact Ig (Jn J7.ok hn I2) hN hi hl λF1 qV=>⟨_,H2,qV,z⟩
  |cont=>let⟨dt,H2,I2,z⟩:=q9;exact Ig (Jn J7.ok hn I2) hN hi hl λF1 qV=>⟨_,H2,qV,z⟩
  |ret u=>let⟨v,dt,H2,I2,r2,z⟩:=q9;exact Ig (Jn J7.ok hn I2) hN hi hl λF1 qV=>⟨v,_,H2,qV,r2,z⟩
end
end
section
section
variable{X:Cx}{a b c:ig}{pos:Pos}
abbrev Ah(t:bC):bC:=λρ G R=>t ρ G λx G1=>match x with
 |.int i=>R (.int (-i)) G1
 |_=>False
def aM0(ha:bY X a ta):bY X (.UnaryOp .USub a pos) (Ah ta):=PE.imp (aKN aER ha) λσ H Q h=>by
 let⟨ρ,G,R,s,g,t,k⟩:=h;refine⟨ρ,G,_,s,g,t,λv H1 x G1 t1 r g1 q=>?_⟩;cases r with
 |int i=>exact⟨i,rfl,k _ H1 _ G1 t1 (.int _) g1 q⟩
 |_=>exact False.elim q
abbrev cI:Nat->D->Bool
 |0,.tup _=>ao
 |n+1,.tup xs=>xs.all (cI n)
 |_,.ref _=>ao
 |_,.ty _=>ao
 |_,_=>ak
mutual
noncomputable def aT:D->D->Bool
 |.ag,.ag=>ak
 |.bl a,.bl b=>a==b
 |.bl a,.int b=>(if a then 1 else 0)==b
 |.int a,.bl b=>a==(if b then 1 else 0)
 |.int a,.int b=>a==b
 |.str a,.str b=>a==b
 |.tup xs,.tup ys=>pS xs ys
 |_,_=>ao
noncomputable def pS:List D->List D->Bool
 |[],[]=>ak
 |x::xs,y::ys=>aT x y&&pS xs ys
 |_,_=>ao
end
abbrev j3(xs ys:List D)(j:Nat):Bool:=match xs[j]?,ys[j]? with
 |some a,aj b=>aT a b
 |_,_=>ao
def yH(n:Nat)(e:Nat->Bool):(qd (n+1)).all e=(e 0&&(qd n).all λj=>e (j+1)):=by
 rw[List.range_succ_eq_map,List.all_cons,List.all_map];rfl
def w6:∀(xs ys:List D),pS xs ys=((qd (min xs.length ys.length)).all (j3 xs ys)&&xs.length==ys.length)
 |[],[]=>rfl
 |[],y::ys=>by simp[pS]
 |x::xs,[]=>by simp[pS]
 |x::xs,y::ys=>by
  have ih:=w6 xs ys;have e:min (x::xs).length (y::ys).length=min xs.length ys.length+1:=by simp only[qm];omega
  rw[pS,ih,e,yH];have e0:j3 (x::xs) (y::ys) 0=aT x y:=rfl
  have e1:(λj=>j3 (x::xs) (y::ys) (j+1))=j3 xs ys:=by
   funext j;simp[j3]
  have e2:((x::xs).length==(y::ys).length)=(xs.length==ys.length):=by
   simp only[qm];by_cases h:xs.length=ys.length
   .simp[h]
   .have h':¬ (xs.length+1=ys.length+1):=by omega
    simp[h,h']
  rw[e0,e1,e2,Bool.and_assoc]
def cW.aM1{K:Fg}{n:Nat}(ih:∀{x y:D}{v:V},cI n x=ak->cI n y=ak->RD K H x v->RD K H y v->x=y):∀{xs ys:List D},(∀x∈xs,cI n x=ak)->(∀y∈ys,cI n y=ak)->cW K H xs vs->cW K H ys vs->xs=ys:=by
 induction vs with
 |nil=>intro xs ys _ _ h1 h2;cases h1;cases h2;rfl
 |cons v vs jh =>
  intro xs ys hx hy h1 h2;cases h1 with
  |cons a r =>
  cases h2 with
  |cons b t=>rw[ih (hx _ (xy ..)) (hy _ (xy ..)) a b,jh (λx m=>hx x (qp _ m)) (λy m=>hy y (qp _ m)) r t]
def RD.inj{s:cg}(I:Inv X ψ σ H s){n:Nat}:∀{x y:D}{v:V},cI n x=ak->cI n y=ak->RD X.K H x v->RD X.K H y v->x=y:=by
 induction n with
 |zero=>intro x y v hx hy h1 h2;cases h1<;>cases h2<;>first|rfl|cases hx|cases hy
 |succ n ih =>
  intro x y v hx hy h1 h2;cases h1 with
  |tup s1 r1 _ =>
   cases h2 with
   |tup s2 r2 _ =>
    have e:=I.UE s1 s2;subst e;rw[cW.aM1 ih (by simpa[cI]using hx) (by simpa[cI]using hy) r1 r2]
   |ref=>cases hy
  |ref=>cases hx
  |_=>cases h2;rfl
mutual
theorem rB:∀{n:Nat}{x:D},cI n x=ak->aT x x=ak
 |_,.ag,_=>rfl
 |_,.bl b,_=>by simp[aT]
 |_,.int b,_=>by simp[aT]
 |_,.str b,_=>by simp[aT]
 |n,.ref _,h=>by cases n<;>simp[cI]at h
 |n,.ty _,h=>by cases n<;>simp[cI]at h
 |0,.tup _,h=>by simp[cI]at h
 |n+1,.tup xs,h=>by rw[aT];exact Ux (n:=n) (by simpa[cI]using h)
theorem Ux:∀{n:Nat}{xs:List D},(∀x∈xs,cI n x=ak)->pS xs xs=ak
 |_,[],_=>rfl
 |n,x::xs,h=>by rw[pS,rB (h x (by simp)),Ux λy m=>h y (by simp[m])];rfl
end
def Vals.Eg{K:Fg}(r:cW K H ds xs)(v:Vals xs us){j:Nat}(e:us[j]?=aj u):∃d x,ds[j]?=aj d/\RD K H d x/\RelV x u:=by
 have hj:j<us.length:=(iz.mp e).1;have dA:j<xs.length:=by rw[v.length];exact hj
 have ex:xs[j]?=aj xs[j]:=gk dA;let⟨u',e1,r1⟩:=v.get ex;rw[e]at e1;cases e1;let⟨d,e2,r2⟩:=r.DX ex;exact⟨d,_,e2,r2,r1⟩
def NF{A:jf}{s:cg}{K:Fg}{n:Nat}{us ws:List au}(rx:cW K H xs vx)(ry:cW K H ys vy)(Jz:Vals vx us)(Jy:Vals vy ws)
  (ih:∀x∈xs,∀y∈ys,∀(v w:V)(u t:au),RD K H x v->RD K H y w->RelV v u->RelV w t->SeqAt.EqAt A s u t (aT x y)) :
  ∀j (h1:j<us.toArray.size) (h2:j<ws.toArray.size),SeqAt.EqAt A s us.toArray[j] ws.toArray[j] (j3 xs ys j):=by
 intro j h1 h2;have e1:us[j]?=aj us.toArray[j]:=by simp[gk (show j<us.length by simpa using h1)]
 have e2:ws[j]?=aj ws.toArray[j]:=by simp[gk (show j<ws.length by simpa using h2)]
 let⟨d,x,f1,f2,f3⟩:=Vals.Eg rx Jz e1;let⟨d',y,g1,g2,g3⟩:=Vals.Eg ry Jy e2;have e:j3 xs ys j=aT d d':=by simp[j3,f1,g1]
 rw[e];exact ih d (jm f1) d' (jm g1) x y _ _ f2 g2 f3 g3
abbrev F0:D->Bool
 |.ag=>ak
 |.bl _=>ak
 |.int _=>ak
 |.str _=>ak
 |_=>ao
def Sr{A:jf}{s:cg}{K:Fg}{x:D}{v:au}(hx:F0 x=ak)(hy:F0 y=ak)(rx:RD K H x vx)(ry:RD K H y vy)(ru:RelV vx u)(rv:RelV vy v):SeqAt.EqAt A s u v (aT x y):=by
 have fx:Ho vx=ak:=by cases rx<;>first|rfl|cases hx
 have fy:Ho vy=ak:=by cases ry<;>first|rfl|cases hy
 have e:KD vx vy=aT x y:=by cases rx<;>cases ry<;>first|(simp[KD,aT];done)|cases hx|cases hy
 rw[←e];exact aF5 ru rv fx fy
def ND{A:jf}{n:Nat}(h:A.units+(n+1)<qg):A.in1.units+n<qg:=by
 show A.units+1+n<qg;omega
inductive Vw(X:Cx)(H:Hp)(s:cg):D->au->Prop where
 |ag:Vw X H s .ag .none
 |bl (b:Bool):Vw X H s (.bl b) (.bool b)
 |int (i:Int) (t:Nat):Vw X H s (.int i) (.int i t)
 |str (z:Str) (t:Nat):Vw X H s (.str z) (.str z t)
 |tup {a:bw} {vs:List V} {ds:List D} {its:List au} (q:eD X.K H a vs) (r:cW X.K H ds vs) (c:sC H a vs) (w:Vals vs its) (p:s.heap.IsTuple a its.toArray):Vw X H s (.tup ds) (.ref a)
def vw{s:cg}(I:Inv X ψ σ H s){n:Nat}{x:D}(hx:cI n x=ak)(rx:RD X.K H x vx)(ru:RelV vx u):Vw X H s x u:=by
 cases rx with
 |ag=>cases ru;exact .ag
 |bl b=>cases ru;exact .bl b
 |int i=>let⟨t,rfl⟩:=ru;exact .int i t
 |str z=>let⟨t,rfl⟩:=ru;exact .str z t
 |tup q r c=>cases ru;let⟨its,w,p,_⟩:=I.tuple q;exact .tup q r c w p
 |_=>cases n<;>simp[cI]at hx
def ED{s:cg}(I:Inv X ψ σ H s):∀(n:Nat)(A:jf)(x y:D)(vx vy:V)(u v:au),A.units+n<qg->cI n x=ak->cI n y=ak->RD X.K H x vx->RD X.K H y vy->RelV vx u->RelV vy v->SeqAt.EqAt A s u v (aT x y):=by
 intro n
 induction n with
 |zero =>
  intro A x y vx vy u v hu hx hy rx ry ru rv;have sx:F0 x=ak:=by cases x<;>first|rfl|(simp[cI]at hx)
  have sy:F0 y=ak:=by cases y<;>first|rfl|(simp[cI]at hy)
  exact Sr sx sy rx ry ru rv
 |succ n ih =>
  intro A x y vx vy u v hu hx hy rx ry ru rv;have bz:A.units<qg:=by omega
  cases vw I hx rx ru with
  |@tup ax xs ds its Yl JK YH vv px =>
   cases vw I hy ry rv with
   |@tup ay ys es iF Yk JJ YG ww py =>
    by_cases DE:ax=ay
    .subst DE;have e:=RD.inj I (n:=n+1) hx hy (.tup Yl JK YH) (.tup Yk JJ YG);rw[e,rB hy];exact SeqAt.EqAt.same _
    .refine SeqAt.EqAt.of_refs DE ?_
     have z:=SeqAt.RcAt.tuples (e:=j3 ds es) px py bz (NF (n:=n) JK JJ vv ww λx mx y my v w u t r1 r2 r3 r4 =>
      ih A.in1 x y v w u t (ND hu) (qx.mp (by simpa[cI]using hx) x mx) (qx.mp (by simpa[cI]using hy) y my) r1 r2 r3 r4)
     have e:((qd (min its.toArray.size iF.toArray.size)).all (j3 ds es)&&its.toArray.size==iF.toArray.size)=aT (.tup ds) (.tup es):=by
      rw[aT,w6,jg,jg,←vv.length,←ww.length,←JK.length,←JJ.length]
     rw[e]at z;exact z
   |_=>simp only[aT];with_reducible first|exact SeqAt.EqAt.tuple_none px bz|exact SeqAt.EqAt.tuple_bool _ px bz|exact SeqAt.EqAt.tuple_int _ _ px bz|exact SeqAt.EqAt.tuple_str _ _ px bz
  |_ =>
   cases vw I hy ry rv with
   |tup _ _ _ _ py=>simp only[aT];with_reducible first|exact SeqAt.EqAt.none_tuple py bz|exact SeqAt.EqAt.bool_tuple _ py bz|exact SeqAt.EqAt.int_tuple _ _ py bz|exact SeqAt.EqAt.str_tuple _ _ py bz
   |_=>exact Sr rfl rfl rx ry ru rv
end
end
section
section
variable{X:Cx}
local macro_rules| `(tactic| walk_at "rc")=>`(tactic| first|exact SeqAt.RcAt.none_none|exact SeqAt.RcAt.none_bool _|exact SeqAt.RcAt.none_int _ _|exact SeqAt.RcAt.none_str _ _|exact SeqAt.RcAt.bool_none _|exact SeqAt.RcAt.bool_bool _ _|exact SeqAt.RcAt.bool_int _ _ _|exact SeqAt.RcAt.bool_str _ _ _|exact SeqAt.RcAt.int_none _ _|exact SeqAt.RcAt.int_bool _ _ _|exact SeqAt.RcAt.int_int _ _ _ _|exact SeqAt.RcAt.int_str _ _ _ _|exact SeqAt.RcAt.str_none _ _|exact SeqAt.RcAt.str_bool _ _ _|exact SeqAt.RcAt.str_int _ _ _ _|exact SeqAt.RcAt.str_str _ _ _ _)
def aQW{s:cg}(I:Inv X ψ σ H s)(n:Nat)(A:jf)(x y:D)(vx vy:V)(u v:au)(hu:A.units+(n+1)<qg)(hx:cI (n+1) x=ak)(hy:cI (n+1) y=ak)(rx:RD X.K H x vx)(ry:RD X.K H y vy)(ru:RelV vx u)(rv:RelV vy v):SeqAt.RcAt A s u v (aT x y):=by
 have bz:A.units<qg:=by omega
 cases vw I hx rx ru with
 |@tup a1 Jx zh DV h1 r1 _ C1 p1 =>
  cases vw I hy ry rv with
  |@tup a2 OO ds2 eJ h2 r2 _ C0 p2 =>
   have z:=SeqAt.RcAt.tuples (e:=j3 zh ds2) p1 p2 bz (NF (n:=n) r1 r2 C1 C0 λx mx y my v w u t q1 q2 q3 q4 =>
      ED I n A.in1 x y v w u t (ND hu) (qx.mp (by simpa[cI]using hx) x mx) (qx.mp (by simpa[cI]using hy) y my) q1 q2 q3 q4)
   have e:((qd (min DV.toArray.size eJ.toArray.size)).all (j3 zh ds2)&&DV.toArray.size==eJ.toArray.size)=aT (.tup zh) (.tup ds2):=by
    rw[aT,w6,jg,jg,←C1.length,←C0.length,←r1.length,←r2.length]
   rw[e]at z;exact z
  |_=>simp only[aT];with_reducible first|exact SeqAt.RcAt.tuple_none p1 bz|exact SeqAt.RcAt.tuple_bool _ p1 bz|exact SeqAt.RcAt.tuple_int _ _ p1 bz|exact SeqAt.RcAt.tuple_str _ _ p1 bz
 |_ =>
  cases vw I hy ry rv with
  |tup _ _ _ _ p2=>simp only[aT];with_reducible first|exact SeqAt.RcAt.none_tuple p2 bz|exact SeqAt.RcAt.bool_tuple _ p2 bz|exact SeqAt.RcAt.int_tuple _ _ p2 bz|exact SeqAt.RcAt.str_tuple _ _ p2 bz
  |_=>simp only[aT];with_reducible walk_at "rc"
local macro_rules| `(tactic| walk_at "rc")=>`(tactic| first|exact SeqAt.RcNeAt.none_none|exact SeqAt.RcNeAt.none_bool _|exact SeqAt.RcNeAt.none_int _ _|exact SeqAt.RcNeAt.none_str _ _|exact SeqAt.RcNeAt.bool_none _|exact SeqAt.RcNeAt.bool_bool _ _|exact SeqAt.RcNeAt.bool_int _ _ _|exact SeqAt.RcNeAt.bool_str _ _ _|exact SeqAt.RcNeAt.int_none _ _|exact SeqAt.RcNeAt.int_bool _ _ _|exact SeqAt.RcNeAt.int_int _ _ _ _|exact SeqAt.RcNeAt.int_str _ _ _ _|exact SeqAt.RcNeAt.str_none _ _|exact SeqAt.RcNeAt.str_bool _ _ _|exact SeqAt.RcNeAt.str_int _ _ _ _|exact SeqAt.RcNeAt.str_str _ _ _ _)
def aFO{s:cg}(I:Inv X ψ σ H s)(n:Nat)(A:jf)(x y:D)(vx vy:V)(u v:au)(hu:A.units+(n+1)<qg)(hx:cI (n+1) x=ak)(hy:cI (n+1) y=ak)(rx:RD X.K H x vx)(ry:RD X.K H y vy)(ru:RelV vx u)(rv:RelV vy v):SeqAt.RcNeAt A s u v (!aT x y):=by
 have bz:A.units<qg:=by omega
 cases vw I hx rx ru with
 |@tup a1 Jx zh DV h1 r1 _ C1 p1 =>
  cases vw I hy ry rv with
  |@tup a2 OO ds2 eJ h2 r2 _ C0 p2 =>
   have z:=SeqAt.RcNeAt.tuples (e:=j3 zh ds2) p1 p2 bz (NF (n:=n) r1 r2 C1 C0 λx mx y my v w u t q1 q2 q3 q4 =>
      ED I n A.in1 x y v w u t (ND hu) (qx.mp (by simpa[cI]using hx) x mx) (qx.mp (by simpa[cI]using hy) y my) q1 q2 q3 q4)
   have e:((qd (min DV.toArray.size eJ.toArray.size)).all (j3 zh ds2)&&DV.toArray.size==eJ.toArray.size)=aT (.tup zh) (.tup ds2):=by
    rw[aT,w6,jg,jg,←C1.length,←C0.length,←r1.length,←r2.length]
   rw[e]at z;exact z
  |_=>simp only[aT,Io,sT];with_reducible first|exact SeqAt.RcNeAt.tuple_none p1 bz|exact SeqAt.RcNeAt.tuple_bool _ p1 bz|exact SeqAt.RcNeAt.tuple_int _ _ p1 bz|exact SeqAt.RcNeAt.tuple_str _ _ p1 bz
 |_ =>
  cases vw I hy ry rv with
  |tup _ _ _ _ p2=>simp only[aT,Io,sT];with_reducible first|exact SeqAt.RcNeAt.none_tuple p2 bz|exact SeqAt.RcNeAt.bool_tuple _ p2 bz|exact SeqAt.RcNeAt.int_tuple _ _ p2 bz|exact SeqAt.RcNeAt.str_tuple _ _ p2 bz
  |_=>simp only[aT,Io,sT];with_reducible walk_at "rc"
abbrev KG(G:Gp)(x y:D)(k:Bool->Prop):Prop:=cI 20 x=ak/\cI 20 y=ak/\k (aT x y)
abbrev xW:R3:=λx y G R=>KG G x y λb=>R (.bl b) G
abbrev wA:R3:=λx y G R=>KG G x y λb=>R (.bl (!b)) G
def yI{r3:R3}(h:∀(ψ:List (bw×Obj))(s:cg)(σ:St)(H:Hp)(x y:D)(vx vy:V)(u v:au)(G:Gp)(R:iW)(Q:VK),Inv X ψ σ H s->RD X.K H x vx->RD X.K H y vy->RelV vx u->RelV vy v->HR X.K H G->r3 x y G R ->
   (∀w H' d G',Ts H H'->RD X.K H' d w->HR X.K H' G'->R d G'->Q w H')->dj (dz X.prog X.w) X.A (f u v) (EP X ψ σ Q) X.xe s):rA X f r3 :=
 ⟨λvx vy H Q=>∃x y G R,RD X.K H x vx/\RD X.K H y vy/\HR X.K H G/\r3 x y G R/\∀w H' d G',Ts H H'->RD X.K H' d w->HR X.K H' G'->R d G'->Q w H',
  λψ s σ H vx vy u v Q I ru rv ⟨x,y,G,R,rx,ry,g,q,k⟩=>h ψ s σ H x y vx vy u v G R Q I rx ry ru rv g q k,λH x y vx vy G R Q rx ry g q k=>⟨x,y,G,R,rx,ry,g,q,k⟩⟩
def Sq(hu:X.A.units+64<qg){neg:Bool}(Dx:op=if neg then .NotEq else .Eq){s:cg}{x:D}{v:au}{k:Bool->Prop}{Q:VK}(I:Inv X ψ σ H s)(rx:RD X.K H x vx)(ry:RD X.K H y vy)(ru:RelV vx u)(rv:RelV vy v)(g:HR X.K H G)
  (h:KG G x y k)(hk:∀b,k b->EP X ψ σ Q (.bool (neg ^^ b)) s):dj (dz X.prog X.w) X.A (qb op u v) (EP X ψ σ Q) X.xe s:=by
 have fin:∀{b:Bool},(if neg then SeqAt.RcNeAt X.A s u v (!b)else SeqAt.RcAt X.A s u v b)->k b->dj (dz X.prog X.w) X.A (qb op u v) (EP X ψ σ Q) X.xe s:=λ{b} z kb=>by
  have e:=hk b kb;cases neg with
  |true =>
   subst Dx;rw[EI]at e;exact z X.prog X.w X.xe _ e
  |false =>
   subst Dx;rw[Im]at e;exact z X.prog X.w X.xe _ e
 let⟨hx,hy,kk⟩:=h;refine fin (b:=aT x y) ?_ kk;have Pu:X.A.units+(19+1)<qg:=by omega
 cases neg with
 |true=>exact aFO I 19 X.A x y vx vy u v Pu hx hy rx ry ru rv
 |false=>exact aQW I 19 X.A x y vx vy u v Pu hx hy rx ry ru rv
def aQY(hu:X.A.units+64<qg):rA X (qb .Eq) xW:=yI λψ s σ H x y vx vy u v G R Q I rx ry ru rv g q k =>
 Sq (neg:=false) hu rfl I rx ry ru rv g q λb kb=>⟨.bl b,H,I,by rw[Im];rfl,k _ H (.bl b) G (.refl H) (.bl b) g kb⟩
def aQZ(hu:X.A.units+64<qg):rA X (qb .NotEq) wA:=yI λψ s σ H x y vx vy u v G R Q I rx ry ru rv g q k =>
 Sq (neg:=true) hu rfl I rx ry ru rv g q λb kb=>⟨.bl (!b),H,I,by rw[EI];rfl,k _ H (.bl (!b)) G (.refl H) (.bl (!b)) g kb⟩
end
end
section
open PySem.W PySem.Calls
open PySem.Builtin PySem.Builtin.ObjectAttr PySem.Builtin.Getset_descriptor
section
variable{prog:mz}{w:jr}{A:jf}{s:cg}{K:Fg}{x:bw}{o:Obj}
def abL{tp:au}(X:K.In s.heap)(hx:s.heap.get? x=aj o)(hc:o.cls=.ref C)(hm:mroIn K C (.type "object")=aj ak)
  (h:R (.ok (.ret (.ref C))) s):kc (dz prog w) A (.call (.builtin "getset_descriptor.__get__") ⟨[.builtin "object.__class__",.ref x,tp],[]⟩) R s:=by
 let⟨hh,g,dr,t,os⟩:=s;have L0:Looks (dz prog w) hh (typeOf (.ref x)) (.ref C):=hc ▸ (Looks.ld hx).andThen .now;have L1:=looks_mroIn (M:=model prog w) X hm;refine codeAny_call_builtin KF.slot_gs.plain KF.entry_gs (KF.slot_gs.check _ _ _ _ _ _ _ _ KF.type_class (KF.args_gs _ _ _) ?_);unfold Builtin.«getset_descriptor.__get__» descrGet;rw[dga_obj];refine aq (cj ?_);unfold descrGetter descrCheckInstance descrNameAndClass isInstance;simp only[KF.owner_class]
 repeat lk
 refine⟨Code.quiet_builtin _ (by decide+kernel),xm KF.entry_class ?_⟩;unfold Builtin.«object.__class__» shownTypeOf
 repeat lk
 exact h
def apW(X:K.In s.heap)(hx:s.heap.get? x=aj o)(hc:o.cls=.ref C)
  (X7:findIn K (.ref C) "__getattribute__"=aj (aj (.builtin "BaseException.__getattribute__")))(X6:findIn K (.ref C) "__getattr__"=aj bh)(ha:findIn K (.ref C) "__class__"=aj (aj (.builtin "object.__class__")))
  (hb:subIn K (.ref C) (.type "BaseException")=aj ak)(hm:mroIn K C (.type "object")=aj ak)(h:Q (aj (.ref C)) {s with toks:=s.toks+1}):dj (dz prog w) A (getAttr? (.ref x) "__class__") Q E s:=by
 let⟨hh,g,d,t,os⟩:=s;have L0:Looks (dz prog w) hh (typeOf (.ref x)) (.ref C):=hc ▸ (Looks.ld hx).andThen .now;have L1:=looks_findIn (M:=model prog w) X X7;have WO:=looks_findIn (M:=model prog w) X X6;have L3:=looks_findIn (M:=model prog w) X ha;have L4:=looks_subIn (M:=model prog w) X hb;unfold getAttr? getAttrBy? getAttrBy;refine aq (wpAny_mkText (aq (An (vp (aq (L0.at (aq (L1.at ?_))))))));have hx2:(au.builtin "BaseException.__getattribute__"==au.builtin "object.__getattribute__")=ao:=by decide+kernel
 have f3:=PySem.F.attr_ValueError.ga.bind (.ref x);have hk:builtinKind "BaseException.__getattribute__"=aj .slot:=by decide+kernel
 have AV:splitId "BaseException.__getattribute__"=aj ("BaseException","__getattribute__"):=by decide+kernel
 have Bm:=PySem.F.args_bexc_ga (.ref x) (.str "__class__" t)
 repeat (first|with_reducible refine L0.at ?_|with_reducible refine L1.at ?_|with_reducible refine WO.at ?_|with_reducible refine L3.at ?_|with_reducible refine L4.at ?_|wp_step)
 refine codeAny_call_builtin PySem.F.attr_ValueError.ga.plain PySem.F.entry_bexc_ga ?_;simp only[checkBuiltinCall,hk,AV];unfold isInstance;have f5:=PySem.F.typeOf_object_class;have f6:=PySem.F.slot_gs_get.lookup;have f7:=PySem.F.slot_gs_set.lookup
 repeat (any_goals (first|assumption|with_reducible refine L0.at ?_|with_reducible refine L1.at ?_|with_reducible refine WO.at ?_|with_reducible refine L3.at ?_|with_reducible refine L4.at ?_|wp_step))
 refine abL X hx hc hm ?_
 repeat (any_goals (first|assumption|wp_step))
end
end
variable{T:String}{σ:St}{R:iW}
section
variable{Q:VK}
section
variable{X:Cx}{x:Str}{pos:Pos}{e:ig}{es:List ig}{t:sJ}{id T:String}{r3:List D->Gp->iW->Prop}
abbrev jO(X:Cx)(f:au)(r3:List D->Gp->iW->Prop):Prop :=
 ∀(ψ:List (bw×Obj))(s:cg)(σ:St)(H:Hp)(xs:List D)(vs:List V)(us:List au)(G:Gp)(R:iW)(Q:VK),Inv X ψ σ H s->cW X.K H xs vs->Vals vs us->HR X.K H G->r3 xs G R ->
  (∀v H' d G',Ts H H'->RD X.K H' d v->HR X.K H' G'->R d G'->Q v H')->dj (dz X.prog X.w) X.A (call f us) (EP X ψ σ Q) X.xe s
def jO.of{r:List V->Hp->VK->Prop}(h:xc X f r)(i:∀(H:Hp)(xs:List D)(vs:List V)(G:Gp)(R:iW)(Q:VK),cW X.K H xs vs->HR X.K H G->r3 xs G R ->
  (∀v H' d G',Ts H H'->RD X.K H' d v->HR X.K H' G'->R d G'->Q v H')->r vs H λv H'=>KF X.K H'->Q v H'):jO X f r3:=λψ s σ H xs vs us G R Q I rx rv g q k =>
 dH (h ψ s σ H vs us _ I rv (i H xs vs G R Q rx g q k)) λ_ _ ⟨v,H',I',r,q'⟩=>⟨v,H',I',r,q' (sU I')⟩
abbrev jP(r3:List D->Gp->iW->Prop)(t:sJ):bC:=λρ G R=>t ρ G λxs G1=>r3 xs G1 R
def CL(hc:jO X (.builtin id) r3)(hg:Gl X x)(hm:X.mg x=bh)(hv:qe x=aj (.builtin id))(ha:ff X (e::es) t)(hn:x≠"__name__":=by decide)(gS:(x==("__debug__":Str))=ao:=by decide)
  (he:jj (e::es) X.env=(ao,eval e X.env)::jj es X.env:=by rfl)(ij:(ux pos (jj es X.env)).any (·.1)=ao:=by rfl):bY X (.Call (.Name x p) (e::es) [] pos) (jP r3 t):=by
 intro ψ s σ H Q I h;let⟨ρ,G,R,sr,g,q,kk⟩:=h;refine yw (Ay I hg hm hv ?_ hn gS)
 exact PyProof.Rows.callWith_builtin1 (dH (ha pos ψ s σ H (λvs H1=>Ts H H1/\∃ds G1,cW X.K H1 ds vs/\HR X.K H1 G1/\r3 ds G1 R) I ⟨ρ,G,_,sr,g,q,λvs H1 ds G1 t1 r1 g1 q1=>⟨t1,ds,G1,r1,g1,q1⟩⟩) λus s1 ⟨vs,H1,I1,r,t1,ds,G1,r1,g1,q1⟩ =>
  hc ψ s1 σ H1 ds vs us G1 R Q I1 r1 r g1 q1 λv H' d G' t2=>kk v H' d G' (t1.trans t2)) he ij
def TB(hc:jO X (.type T) r3)(hg:Gl X x)(hm:X.mg x=bh)(hv:qe x=aj (.type T))(ha:ff X (e::es) t)(hn:x≠"__name__":=by decide)(gS:(x==("__debug__":Str))=ao:=by decide)
  (he:jj (e::es) X.env=(ao,eval e X.env)::jj es X.env:=by rfl)(ij:(ux pos (jj es X.env)).any (·.1)=ao:=by rfl):bY X (.Call (.Name x p) (e::es) [] pos) (jP r3 t):=by
 intro ψ s σ H Q I h;let⟨ρ,G,R,sr,g,q,kk⟩:=h;refine yw (Ay I hg hm hv ?_ hn gS)
 exact PyProof.Rows.callWith_type1 (dH (ha pos ψ s σ H (λvs H1=>Ts H H1/\∃ds G1,cW X.K H1 ds vs/\HR X.K H1 G1/\r3 ds G1 R) I ⟨ρ,G,_,sr,g,q,λvs H1 ds G1 t1 r1 g1 q1=>⟨t1,ds,G1,r1,g1,q1⟩⟩) λus s1 ⟨vs,H1,I1,r,t1,ds,G1,r1,g1,q1⟩ =>
  hc ψ s1 σ H1 ds vs us G1 R Q I1 r1 r g1 q1 λv H' d G' t2=>kk v H' d G' (t1.trans t2)) he ij
abbrev yJ:List D->Gp->iW->Prop:=λxs G R=>match xs with
 |[.str z]=>z.length<=dg/\R (.int z.length) G
 |[.tup ds]=>R (.int ds.length) G
 |[.ref q]=>(match bM G q with
  |some ds=>R (.int ds.length) G
  |none=>False)
 |_=>False
private theorem aM4:jO X (.builtin "len") yJ:=jO.of (aeA.or aeB) λH xs vs G R Q rx g q k=>by
 cases rx with
 |nil=>exact False.elim q
 |cons r rr =>
  cases rr with
  |cons _ _=>cases r<;>exact False.elim q
  |nil =>
   cases r with
   |str z=>exact .inr ⟨z,rfl,q.1,λ_=>k _ H _ G (.refl H) (.int _) g q.2⟩
   |@tup a xs ds ha ra=>exact .inl ⟨a,xs,rfl,.inr ha,λ_=>by rw[←ra.length];exact k _ H _ G (.refl H) (.int _) g q⟩
   |ref a =>
    have q':(match bM G a with
     |some ds=>R (.int ds.length) G
     |none=>False):=q
    split at q'
    .rename_i ds e1;let⟨xs,h1,r1⟩:=gH g e1;exact .inl ⟨a,xs,rfl,.inl h1,λ_=>by rw[←r1.length];exact k _ H _ G (.refl H) (.int _) g q'⟩
    .exact q'.elim
   |_=>exact False.elim q
abbrev Ef:List D->Gp->iW->Prop:=λxs G R=>match xs with
 |[.int i]=>R (.int i) G
 |[.bl b]=>R (.int (if b then 1 else 0)) G
 |_=>False
def aM5:jO X (.type "int") Ef:=jO.of apD λH xs vs G R Q rx g q k=>by
 cases rx with
 |nil=>exact False.elim q
 |cons r rr =>
  cases rr with
  |cons _ _=>cases r<;>exact False.elim q
  |nil =>
   cases r with
   |int i=>exact .inl ⟨i,rfl,λ_=>k _ H _ G (.refl H) (.int _) g q⟩
   |bl b=>exact .inr ⟨b,rfl,λ_=>k _ H _ G (.refl H) (.int _) g q⟩
   |_=>exact False.elim q
abbrev kA(G:Gp):D->Option String
 |.ag=>aj "NoneType"
 |.bl _=>aj "bool"
 |.int _=>aj "int"
 |.str _=>aj "str"
 |.tup _=>aj "tuple"
 |.ref q=>(match G q with
  |some (.lst _)=>aj "list"
  |some (.gL _)=>aj "list"
  |some (.aZ _ _)=>aj "dict"
  |_=>bh)
 |.ty _=>bh
abbrev zg(G:Gp):D->Option bw
 |.ref q=>(match G q with
  |some (.fe C)=>aj C
  |_=>bh)
 |_=>bh
abbrev subB(T n:String):Bool:=T==n||(T=="bool"&&n=="int")
abbrev U6:List String:=["NoneType","bool","int","str","list","tuple","dict"]
abbrev iR:List String:=["int","bool","str","list","tuple","dict","ValueError"]
def aFQ:∀T∈U6,∀n∈iR,iw [] (.type T) (.type n)=aj (subB T n):=by decide+kernel
def qG(K:Fg){n:String}(h1:T∈U6)(h2:n∈iR):iw K (.type T) (.type n)=aj (subB T n):=aFQ T h1 n h2
structure nE(K:Fg)(C:bw):Prop where
 ga:ou K (.ref C) "__getattribute__"=aj (aj (.builtin "BaseException.__getattribute__"))
 gn:ou K (.ref C) "__getattr__"=aj bh
 cl:ou K (.ref C) "__class__"=aj (aj (.builtin "object.__class__"))
 be:xr K (.ref C) (.type "BaseException")=aj ak
 ob:PySem.W.mroIn K C (.type "object")=aj ak
 cs:(yt K C).isSome=ak
private theorem asY{K:Fg}{a:bw}(c:nE K C):PySem.W.KitX K (.ref a) (.ref C) (qh C a) where
 ty:=λM h X ⟨o,vs,h1,h2,_⟩=>h2 ▸ (xg.ld h1).andThen .now
 it:=λM h X _=>by
  intro A' Q' E' s' k q;cases eK:yt K C with
  |none=>have:=c.cs;rw[eK]at this;cases this
  |some cd =>
   unfold yt at eK;split at eK
   .rename_i ho;unfold isType loadHead;exact aq (wpAny_loadPart (k _ _ (X _ _ ho)) (cj q))
   .cases eK
 ne:=λh tp dd its n sl X XR=>by
  refine Bool.eq_false_iff.mpr λq=>?_;have e:C=tp:=Value.ref.inj (beq_iff_eq.mp q);subst e;cases eK:yt K C with
  |none=>have:=c.cs;rw[eK]at this;cases this
  |some cd =>
   unfold yt at eK;split at eK
   .rename_i ho;have z:=(X _ _ ho).symm.trans XR;cases z
   .cases eK
 ca:=λX ⟨o,vs,h1,h2,_⟩ k=>apW X h1 h2 c.ga c.gn c.cl c.be c.ob k
abbrev aD(K:Fg):List D->Gp->iW->Prop:=λxs G R=>match xs with
 |[x,.ty n]=>(match kA G x with
  |some T=>n∈iR/\R (.bl (subB T n)) G
  |none=>(match zg G x with
   |some C=>∃b,nE K C/\iw K (.ref C) (.type n)=aj b/\R (.bl b) G
   |none=>False))
 |[x,.ref C']=>(match zg G x with
  |some C=>∃b,nE K C/\iw K (.ref C) (.ref C')=aj b/\R (.bl b) G
  |none=>False)
 |_=>False
private theorem Rg{x:D}(h:zg G x=aj C):∃a,x=.ref a/\G a=aj (.fe C):=by
 cases x with
 |ref q =>
  refine⟨q,rfl,?_⟩
  have h':(match G q with
   |some (.fe C)=>aj C
   |_=>bh)=aj C:=h
  split at h'
  .rename_i e1;cases h';exact e1
  .cases h'
 |_=>cases h
def qH{s:cg}{H:Hp}{a C:bw}{c:au}{b:Bool}{G:Gp}(I:Inv X ψ σ H s)(g:HR X.K H G)(e:G a=aj (.fe C))(hc:nE X.K C)(hk:iw X.K (.ref C) c=aj b)(q:R (.bl b) G)
  (k:∀v H' d G',Ts H H'->RD X.K H' d v->HR X.K H' G'->R d G'->Q v H'):dj (dz X.prog X.w) X.A (call (.builtin "isinstance") [.ref a,c]) (EP X ψ σ Q) X.xe s:=by
 let⟨o0,vs0,z,_⟩:=g a _ e;let⟨_,z1,_,_⟩:=I.af a _ z;exact qr (asY hc) I.de z1 hk (λz=>nomatch z) λtk=>⟨.bl b,H,I.tok tk,rfl,k _ H _ G (.refl H) (.bl b) g q⟩
private theorem aFR{s:cg}{H:Hp}{x:D}{vx:V}{u:au}{n:String}{G:Gp}(I:Inv X ψ σ H s)(rx:RD X.K H x vx)(ru:RelV vx u)(g:HR X.K H G)(e:kA G x=aj T)(hn:n∈iR)(q:R (.bl (subB T n)) G)
  (k:∀v H' d G',Ts H H'->RD X.K H' d v->HR X.K H' G'->R d G'->Q v H'):dj (dz X.prog X.w) X.A (call (.builtin "isinstance") [u,.type n]) (EP X ψ σ Q) X.xe s:=by
 have fin:∀tk,EP X ψ σ Q (.bool (subB T n)) {s with toks:=tk}:=λtk=>⟨.bl _,H,I.tok tk,rfl,k _ H _ G (.refl H) (.bl _) g q⟩;cases rx with
 |ag=>cases ru;cases e;exact qr PySem.W.kitx_none I.de True.intro (qG _ (by decide) hn) (λz=>nomatch z) fin
 |bl b=>cases ru;cases e;exact qr PySem.W.kitx_bool I.de True.intro (qG _ (by decide) hn) (λz=>nomatch z) fin
 |int i=>let⟨t,rfl⟩:=ru;cases e;exact qr PySem.W.kitx_int I.de True.intro (qG _ (by decide) hn) (λz=>nomatch z) fin
 |str i=>let⟨t,rfl⟩:=ru;cases e;exact qr PySem.W.kitx_str I.de True.intro (qG _ (by decide) hn) (λz=>nomatch z) fin
 |ty n=>cases e
 |@tup a xs ds ha ra =>
  cases ru;cases e;let⟨its,_,p,_⟩:=I.tuple ha;let⟨o,h1,h2,_⟩:=p;exact qr PySem.W.kitx_tuple I.de ⟨o,h1,h2⟩ (qG _ (by decide) hn) (λz=>nomatch z) fin
 |ref a =>
  cases ru
  have e':(match G a with
   |some (.lst _)=>aj "list"
   |some (.gL _)=>aj "list"
   |some (.aZ _ _)=>aj "dict"
   |_=>bh)=aj T:=e
  split at e'
  .rename_i ds e1;cases e';let⟨xs,h1,_⟩:=gH g (show bM G a=aj ds by unfold bM;rw[e1]);let⟨its,_,p,_⟩:=I.list h1;let⟨o,n',h1,h2,_⟩:=p;exact qr PySem.W.kitx_list I.de ⟨o,h1,h2⟩ (qG _ (by decide) hn) (λz=>nomatch z) fin
  .rename_i ds e1;cases e';let⟨xs,h1,_⟩:=gH g (show bM G a=aj ds by unfold bM;rw[e1]);let⟨its,_,p,_⟩:=I.list h1;let⟨o,n',h1,h2,_⟩:=p;exact qr PySem.W.kitx_list I.de ⟨o,h1,h2⟩ (qG _ (by decide) hn) (λz=>nomatch z) fin
  .rename_i kvs e1;cases e';rcases g a _ e1 with⟨_,xs,h1,_⟩|⟨_,xs,h1,_⟩
   .obtain⟨_,_,vs,_,o,es,ep,h1,h2,_⟩:=I.af a _ h1;exact qr PySem.W.kitx_dict I.de ⟨o,h1,h2.1⟩ (qG _ (by decide) hn) (λz=>nomatch z) fin
   .obtain⟨_,_,xs,_,o,es,ep,h1,h2,_⟩:=I.af a _ h1;exact qr PySem.W.kitx_dict I.de ⟨o,h1,h2.1⟩ (qG _ (by decide) hn) (λz=>nomatch z) fin
  .cases e'
private theorem aeK:jO X (.builtin "isinstance") (aD X.K):=by
 intro ψ s σ H xs vs us G R Q I rx rv g q k;cases rx with
 |nil=>exact False.elim q
 |@cons x v ds ws r1 rr =>
  cases rr with
  |nil=>cases r1<;>exact False.elim q
  |@cons y v2 ds2 W0 r2 Xq =>
   cases Xq with
   |cons _ _=>cases r2<;>exact False.elim q
   |nil =>
    let⟨u1,u2,rfl,JI,F2⟩:=vals2 rv;cases r2 with
    |ty n =>
     cases F2
     have q':(match kA G x with
      |some T=>n∈iR/\R (.bl (subB T n)) G
      |none=>(match zg G x with
       |some C=>∃b,nE X.K C/\iw X.K (.ref C) (.type n)=aj b/\R (.bl b) G
       |none=>False)):=q
     split at q'
     .rename_i T eT;exact aFR I r1 JI g eT q'.1 q'.2 k
     .split at q'
      .rename_i C eC;let⟨a,rfl,ea⟩:=Rg eC;let⟨b,hc,hk,q'⟩:=q';cases r1;cases JI;exact qH I g ea hc hk q' k
      .exact q'.elim
    |ref C' =>
     cases F2
     have q':(match zg G x with
      |some C=>∃b,nE X.K C/\iw X.K (.ref C) (.ref C')=aj b/\R (.bl b) G
      |none=>False):=q
     split at q'
     .rename_i C eC;let⟨a,rfl,ea⟩:=Rg eC;let⟨b,hc,hk,q'⟩:=q';cases r1;cases JI;exact qH I g ea hc hk q' k
     .exact q'.elim
    |_=>exact False.elim q
end
end
variable{id:String}
section
section
variable{X:Cx}
abbrev wq(T:String)(G:Gp):D->Prop
 |.str _=>T="str"
 |.ref p=>T="list"/\(bM G p).isSome=ak
 |_=>False
def Rf{K:Fg}{x:D}(g:HR K H G)(r:RD K H x v)(h:wq T G x):OS K T v H:=by
 cases r with
 |str z=>exact h
 |ref p =>
  let⟨rfl,h⟩:=h;let⟨ds,e⟩:=Jf.mp h;let⟨xs,hq,_⟩:=gH g e;exact .inl ⟨rfl,xs,hq⟩
 |_=>exact False.elim h
@[simp]def i6:=D->List D->Gp->iW->Prop
abbrev m4(X:Cx)(id:String)(r3:i6):Prop :=
 ∀(ψ:List (bw×Obj))(s:cg)(σ:St)(H:Hp)(x:D)(xs:List D)(vx:V)(vs:List V)(u:au)(us:List au)(G:Gp)(R:iW)(Q:VK),Inv X ψ σ H s->RD X.K H x vx->cW X.K H xs vs->RelV vx u->Vals vs us->HR X.K H G->r3 x xs G R ->
  (∀v H' d G',Ts H H'->RD X.K H' d v->HR X.K H' G'->R d G'->Q v H')->dj (dz X.prog X.w) X.A (call (.builtin id) (u::us)) (EP X ψ σ Q) X.xe s
variable{r3:i6}
def m4.of{r:V->List V->Hp->VK->Prop}(h:MtR X id r)(i:∀(H:Hp)(x:D)(xs:List D)(vx:V)(vs:List V)(G:Gp)(R:iW)(Q:VK),RD X.K H x vx->cW X.K H xs vs->HR X.K H G->r3 x xs G R ->
  (∀v H' d G',Ts H H'->RD X.K H' d v->HR X.K H' G'->R d G'->Q v H')->r vx vs H λv H'=>KF X.K H'->Q v H'):m4 X id r3:=λψ s σ H x xs vx vs u us G R Q I rx rs ru rv g q k =>
 dH (h ψ s σ H vx vs u us _ I ru rv (i H x xs vx vs G R Q rx rs g q k)) λ_ _ ⟨v,H',I',r,q'⟩=>⟨v,H',I',r,q' (sU I')⟩
abbrev C4(T:String)(r:i6)(to:bC)(t:sJ):bC:=λρ G R=>to ρ G λx G1=>wq T G1 x/\t ρ G1 λxs G2=>r x xs G2 R
abbrev Ni(T:String)(r:i6)(to:bC):bC:=λρ G R=>to ρ G λx G1=>wq T G1 x/\r x [] G1 R
def U5{o:ig}{es:List ig}{t:sJ}{apos ah:Pos}(pa:PlainAttrs T)(slot:Slot T name id)(Ds:typeOf (.builtin id)=pure (.type "method_descriptor"))(hm:m4 X id r3)(ho:bY X o to)(ha:ff X (e::es) t)
  (br:xq o name X.env (eval o X.env)=eval o X.env:=by rfl)
  (AO:((ux ah (jj (e::es) X.env)).all (λx=>!x.1)&&(backToKw ah (pV [] X.env)).all (λx=>x.1.isSome)
   &&decide ((e::es).length+([]:List iX).length+(if([]:List iX).isEmpty then 0 else 1)<30))=ak:=by rfl)
  (bp:(apos.endLine==ah.line)=ak:=by rfl)(hs:jj (e::es) X.env=(ao,eval e X.env)::jj es X.env:=by rfl)(eP:(ux ah (jj es X.env)).any (·.1)=ao:=by rfl) :
  bY X (.Call (.Attribute o name apos) (e::es) [] ah) (C4 T r3 to t):=by
 intro ψ s σ H Q I h;let⟨ρ,G,R,sr,g,q,kk⟩:=h;refine wpAny_Call_method_late br AO bp rfl (dH (ho ψ s σ H (λvx H1=>Ts H H1/\∃x G1,RD X.K H1 x vx/\HR X.K H1 G1/\wq T G1 x/\t ρ G1 λxs G2=>r3 x xs G2 R) I ⟨ρ,G,_,sr,g,q,λv H1 x G1 t1 r1 g1 q1=>⟨t1,x,G1,r1,g1,q1⟩⟩) ?_);rintro v s1 ⟨vx,H1,I1,r1,t1,x,G1,rx,g1,ty,q1⟩;let⟨h1,h2⟩:=Rm I1 r1 (Rf g1 rx ty);refine⟨T,id,pa,slot,Ds,h1,h2,?_⟩;have hA:=ha ah ψ s1 σ H1 (λvs H2=>Ts H1 H2/\∃xs G2,cW X.K H2 xs vs/\HR X.K H2 G2/\r3 x xs G2 R) I1 ⟨ρ,G1,_,sr.mono t1,g1,q1,λvs H2 xs G2 t2 r2 g2 q2=>⟨t2,xs,G2,r2,g2,q2⟩⟩;rw[hs]at hA ⊢;refine Calls.callWith_builtin (by show(ao||(ux ah (jj es X.env)).any (·.1))=ao;rw[eP]<;>rfl) (Calls.evalArgs_plain ?_);exact dH hA (by rintro us s2 ⟨vs,H2,I2,r2,t2,xs,G2,rs,g2,q2⟩;exact hm ψ s2 σ H2 x xs vx vs v us G2 R Q I2 (rx.mono t2) rs r1 r2 g2 q2 λv H' d G' t3=>kk v H' d G' ((t1.trans t2).trans t3))
def VO{o:ig}{apos ah:Pos}(pa:PlainAttrs T)(slot:Slot T name id)(Ds:typeOf (.builtin id)=pure (.type "method_descriptor"))(hm:m4 X id r3)(ho:bY X o to)
  (br:xq o name X.env (eval o X.env)=eval o X.env:=by rfl)(bp:(apos.endLine==ah.line)=ak:=by rfl):bY X (.Call (.Attribute o name apos) [] [] ah) (Ni T r3 to):=by
 intro ψ s σ H Q I h;let⟨ρ,G,R,sr,g,q,kk⟩:=h;refine Jd br bp (dH (ho ψ s σ H (λvx H1=>Ts H H1/\∃x G1,RD X.K H1 x vx/\HR X.K H1 G1/\wq T G1 x/\r3 x [] G1 R) I ⟨ρ,G,_,sr,g,q,λv H1 x G1 t1 r1 g1 q1=>⟨t1,x,G1,r1,g1,q1⟩⟩) ?_);rintro v s1 ⟨vx,H1,I1,r1,t1,x,G1,rx,g1,ty,q1⟩;let⟨h1,h2⟩:=Rm I1 r1 (Rf g1 rx ty);exact⟨T,id,pa,slot,Ds,h1,h2,Calls.callWith_builtin rfl (PySem.evalArgs_none (hm ψ s1 σ H1 x [] vx [] v [] G1 R Q I1 rx .nil r1 .nil g1 q1 λv H' d G' t3=>kk v H' d G' (t1.trans t3)))⟩
abbrev Tz:i6:=λx xs G R=>match x,xs with
 |.ref p,[d]=>(match G p with
  |some (.lst ds)=>ds.length<dg/\R .ag (aC G p (.lst (ds++[d])))
  |_=>False)
 |_,_=>False
private theorem Tx:m4 X "list.append" Tz:=m4.of Uz λH x xs vx vs G R Q rx rs g q k=>by
 cases rx with
 |ref p =>
  cases rs with
  |nil=>exact False.elim q
  |@cons d v ds ws r rr =>
   cases rr with
   |cons _ _=>exact False.elim q
   |nil =>
    have q':(match G p with
     |some (.lst ds)=>ds.length<dg/\R .ag (aC G p (.lst (ds++[d])))
     |_=>False):=q
    split at q'
    .rename_i ds e1;let⟨ys,f1,r1⟩:=g p _ e1;refine⟨p,ys,v,rfl,rfl,f1,by rw[←r1.length];exact q'.1,λ_=>?_⟩;have tt:Ts H (upd H p (.lst (ys++[v]))):=.turn f1 (λ_ z=>nomatch z) (λ_ _ z=>nomatch z);exact k _ _ _ _ tt .ag (g.turn (u:=.lst (ds++[d])) tt ⟨_,aK,(r1.append (.cons r .nil)).mono tt⟩) q'.2
    .exact q'.elim
 |_=>cases rs<;>exact False.elim q
abbrev u6:bC:=λ_ G R=>∀p,G p=bh->R (.ref p) (aC G p (.aZ ao []))
def aFT:bY X (.Dict [] [] pos) u6:=PE.imp (PE.kf asA) λσ H Q h=>by
 let⟨ρ,G,R,s,g,q,k⟩:=h;intro p hp kf;have sn:aS H (upd H p (.dK [])):=cA hp;exact k _ _ _ _ (.same sn) (.ref p) (g.put (u:=.aZ ao []) hp (.inl ⟨rfl,[],aK,.nil⟩)) (q p (m8 g hp kf))
abbrev wB:bC:=λ_ G R=>∀p,G p=bh->R (.ref p) (aC G p (.aZ ak []))
def Y8:bY X (.Dict [] [] pos) wB:=PE.imp (PE.kf TN) λσ H Q h=>by
 let⟨ρ,G,R,s,g,q,k⟩:=h;intro p hp kf;have sn:aS H (upd H p (.dT [])):=cA hp;exact k _ _ _ _ (.same sn) (.ref p) (g.put (u:=.aZ ak []) hp (.inr ⟨rfl,[],aK,.nil⟩)) (q p (m8 g hp kf))
end
end
end L2
namespace L2
open PySem
def oE:qe "isinstance"=aj (.builtin "isinstance"):=by decide+kernel
def EC:qe "len"=aj (.builtin "len"):=by decide+kernel
def LR:qe "sum"=aj (.builtin "sum"):=by decide+kernel
def lQ:qe "sorted"=aj (.builtin "sorted"):=by decide+kernel
def Rc:qe "int"=aj (.type "int"):=by decide+kernel
def Y7:qe "bool"=aj (.type "bool"):=by decide+kernel
def Tw:qe "tuple"=aj (.type "tuple"):=by decide+kernel
def Y6:qe "list"=aj (.type "list"):=by decide+kernel
def Y5:qe "dict"=aj (.type "dict"):=by decide+kernel
def abM:qe "ValueError"=aj (.type "ValueError"):=by decide+kernel
end L2
namespace L2
open PySem PySem.Spec PyProof.Rows
variable{lo:Int}
section
inductive Src where
 |lst (p:bw) (xs:List D)|oP (xs:List D)|zip (p q:bw) (xs ys:List D)|J3 (p:bw) (o:Obj) (kvs:List (DK×D))|key (p:bw) (o:Obj) (t:Bool) (kvs:List (DK×D))|ot (p:bw) (xs:List D)|KI (p:bw) (xs:List D)|oz (p:bw) (o:Obj) (kvs:List (NK×Int))
abbrev YD(xs:List D):List D:=xs.zipIdx.map λz=>.tup [.int z.2,z.1]
abbrev Xv(xs ys:List D):List D:=(xs.zip ys).map λz=>.tup [z.1,z.2]
abbrev Src.items:Src->List D
 |.lst _ xs=>xs
 |.oP xs=>xs
 |.zip _ _ xs ys=>Xv xs ys
 |.J3 _ _ kvs=>kvs.map λz=>.tup [kN z.1,z.2]
 |.key _ _ _ kvs=>kvs.map λz=>kN z.1
 |.ot _ xs=>xs
 |.KI _ xs=>YD xs
 |.oz _ _ kvs=>kvs.map λz=>dy z.1
abbrev Src.ok(G:Gp):Src->Prop
 |.lst p xs=>bM G p=aj xs
 |.oP _=>True
 |.zip p q xs ys=>bM G p=aj xs/\bM G q=aj ys
 |.J3 p o kvs=>G p=aj (.du o ao kvs)
 |.key p o t kvs=>G p=aj (.du o t kvs)
 |.ot p xs=>G p=aj (.ot xs)
 |.KI p xs=>G p=aj (.ot xs)
 |.oz p o kvs=>G p=aj (.ej o kvs)
abbrev wo(K:Fg)(H1:Hp)(src:Src)(J:It):Prop:=∀H2 G2,Ts H1 H2->HR K H2 G2->src.ok G2 ->
 (∀i,i<src.items.length->J.go i H2)/\(∀i v H',i<src.items.length->J.AX i H2 v H'->aS H2 H'/\∃d,src.items[i]?=aj d/\RD K H' d v)/\J.stop src.items.length H2
@[simp]def fT:=bL->Gp->(Src->Gp->Prop)->Prop
abbrev W6(K:Fg)(t:fT):TI:=λσ H Q=>∃ρ G R,SR K H ρ σ/\HR K H G/\t ρ G R/\∀src J H' G',Ts H H'->HR K H' G'->wo K H' src J->R src G'->Q J H'
@[simp]def x4(X:Cx)(tg iter:ig)(t:fT):Prop:=PI X tg iter (W6 X.K t)
abbrev signs(z:Str):List D:=z.cps.toList.map λc=>.str ⟨#[c]⟩
abbrev Av(te:bC):fT:=λρ G R=>te ρ G λx G1=>match x with
 |.ref p=>(match bM G1 p with
  |some xs=>R (.lst p xs) G1
  |none=>False)
 |_=>False
def apZ{K:Fg}:wo K H1 (.lst p xs) (Ou K p):=λH2 G2 t g ok=>by
 let⟨vs,hq,rv⟩:=gH g (show bM G2 p=aj xs from ok);refine⟨λi hi=>?_,λi v H' hi hy=>?_,⟨vs,hq,Cn rv.length.symm⟩⟩
 .have kM:i<xs.length:=hi;let⟨y,e1,_⟩:=rv.get (gk kM);exact⟨vs,y,hq,e1⟩
 .obtain⟨rfl,hy⟩:=hy;let⟨d,e1,e2⟩:=rv.DX (hy vs hq);exact⟨.refl _,d,e1,e2⟩
def at6{K:Fg}{n:Nat}:wo K H1 (.oP ((qd n).map λ(i:Nat)=>.int (lo+(i:Int)))) (Fj lo n):=λH2 G2 t g ok=>by
 refine⟨λi hi=>?_,λi v H' hi hy=>?_,?_⟩
 .have kM:i<n:=by simpa[Src.items]using hi
  exact kM
 .obtain⟨rfl,rfl⟩:=hy;have kM:i<n:=by simpa[Src.items]using hi
  exact⟨.refl _,.int (lo+i),by simp[Src.items,kM],.int _⟩
 .show n<=_;simp[Src.items]
section
def PI.imp{t:TI}(h:PI X tg e t)(k:∀σ H Q,t' σ H Q->t σ H Q):PI X tg e t':=λψ s σ H Q I q=>h ψ s σ H Q I (k _ _ _ q)
abbrev sv(lo hi:Int):List D:=(qd (hi - lo).toNat).map λ(i:Nat)=>.int (lo+(i:Int))
abbrev Ci(ta:sJ):fT:=λρ G R=>ta ρ G λxs G1=>match xs with
 |[.int j]=>-(2^62)<=j/\j<2^62/\R (.oP (sv 0 j)) G1
 |_=>False
end
end
variable{env:Env}
section
abbrev rC(cells:List (Str×bw)):List (Str×yg)->List (Str×bw)->List (Str×bw)
 |[],cs=>cs
 |(n,k)::r,cs=>rC cells r (if k=.free then(match cells.lookup n with
  |some a=>(n,a)::cs
  |none=>cs)else cs)
def uV{scope:dE}(h:∀y∈scope.names,y.2=.free->∃c,env.cells.lookup y.1=aj c):closureFor scope env=pure (rC env.cells scope.names []):=by
 unfold closureFor
 have all:∀(l:List (Str×yg))(cs:List (Str×bw)),(∀y∈l,y.2=.free->∃c,env.cells.lookup y.1=aj c) ->
   (forIn l cs λ(x:Str×yg)(r:List (Str×bw))=>(if(x.2==yg.free)=ak then do
    let a ←cellOf env x.1
    pure (ForInStep.yield ((x.1,a)::r))else pure (ForInStep.yield r):Sem (ForInStep (List (Str×bw)))))=(pure (rC env.cells l cs):Sem (List (Str×bw))):=by
  intro l
  induction l with
  |nil=>intro cs _;rfl
  |cons y r ih =>
   intro cs hl;let⟨n,k⟩:=y;rw[List.forIn_cons];by_cases hk:k=.free
   .subst hk;let⟨c,hc⟩:=hl (n,.free) (by simp) rfl;have e:cellOf env n=pure c:=by unfold cellOf;rw[hc]
    simp only[beq_self_eq_true,if_true,e];show(forIn r ((n,c)::cs) _:Sem _)=_;rw[ih _ λy hy=>hl y (by simp[hy])];simp only[rC,if_true,hc]
   .have Kj:(k==yg.free)=ao:=by simpa using hk
    simp only[Kj,ni,if_false];show(forIn r cs _:Sem _)=_;rw[ih _ λy hy=>hl y (by simp[hy])];simp only[rC,if_neg hk]
 have z:=all scope.names [] h;exact congrArg (λm=>m >>= λcs=>pure cs) z
private theorem lR{cells:List (Str×bw)}:∀{l:List (Str×yg)}{cs:List (Str×bw)}{y:Str}{c:bw},(rC cells l cs).lookup y=aj c->(∀c,cs.lookup y=aj c->cells.lookup y=aj c)->cells.lookup y=aj c
 |[],cs,y,c,h,k=>k c h
 |(n,kd)::r,cs,y,c,h,k=>by
  unfold rC at h;refine lR h λc' h'=>?_;by_cases hk:kd=.free
  .rw[if_pos hk]at h';split at h'
   .rename_i a ha;rw[vq]at h';split at h'
    .rename_i e;have e':y=n:=beq_iff_eq.mp e;subst e';rw[ha];exact h'
    .exact k c' h'
   .exact k c' h'
  .rw[if_neg hk]at h';exact k c' h'
def V3{cells:List (Str×bw)}:∀{l:List (Str×yg)}{cs:List (Str×bw)}{y:Str},(∃c,cs.lookup y=aj c)->∃c,(rC cells l cs).lookup y=aj c
 |[],cs,y,h=>h
 |(n,kd)::r,cs,y,h=>by
  unfold rC;refine V3 ?_;by_cases hk:kd=.free
  .rw[if_pos hk];split
   ·rw[vq];split
    ·exact⟨_,rfl⟩
    .exact h
   .exact h
  .rw[if_neg hk];exact h
def NS{cells:List (Str×bw)}{c:bw}(hc:cells.lookup y=aj c):∀{l:List (Str×yg)}{cs:List (Str×bw)},(y,yg.free)∈l->∃c,(rC cells l cs).lookup y=aj c
 |[],cs,h=>by simp at h
 |(n,kd)::r,cs,h=>by
  unfold rC;rcases ju.mp h with e|h
  .cases e;refine V3 ?_;rw[if_pos rfl,hc];simp
  .exact NS hc h
private theorem mem_of_lookup{α:Type}:∀{l:List (Str×α)}{y:Str}{k:α},l.lookup y=aj k->(y,k)∈l
 |[],_,_,h=>by simp at h
 |(n,kd)::r,y,k,h=>by
  rw[vq]at h;split at h
  .rename_i e;have e':y=n:=beq_iff_eq.mp e;cases h;subst e';simp
  .exact qp _ (mem_of_lookup h)
structure yK(X:Cx)(xs:List Str)(scope:dE):Prop where
 kind:scope.kind=.function
 LQ:∀y∈scope.names,y.2≠.cell
 locs:∀y∈scope.names,y.2=.local->scope.names.lookup y.1=aj .local
 var:∀x∈xs,scope.names.lookup x=aj .local
 frees:∀y∈scope.names,y.2=.free->X.env.kindOf y.1=aj .cell∨X.env.kindOf y.1=aj .free
 out:∀x∈xs,x∉X.N
 nd:xs.Nodup
 only:∀y∈X.N,scope.names.lookup y≠aj .local
@[simp]def qI(X:Cx)(xs:List Str)(scope:dE)(C:bw)(k7:cg)(OL:Hp)(fp:List bw)(ψ:List (bw×Obj)):Cx :=
 {X with N:=xs++X.N,av:=k7,aw:=OL,env:=compEnvC scope (rC X.env.cells scope.names []) C X.env,outer:=X.stack,stack:=X.stack,ex:=fp,fn:=λ_=>ao,pn:=X.pn++ψ,xe:=λ_ _=>False}
abbrev nn(xs:List Str)(σ:St):St:=xs.map (λ_=>bh)++σ
def Rb{xs:List Str}{i:Nat}{v:V}(h:(nn xs σ)[i]?=aj (aj v)):∃j,i=xs.length+j/\σ[j]?=aj (aj v):=by
 unfold nn at h;by_cases c:i<xs.length
 .rw[Fd (by simpa using c)]at h;simp at h
 .rw[zj (by simpa using c)]at h;exact⟨i - xs.length,⋯,by simpa using h⟩
def So{α:Type}{xs ys:List α}{j:Nat}:(xs++ys)[xs.length+j]?=ys[j]?:=by
 rw[zj ⋯];congr 1;omega
def fQ{env:Env}{k:yg}:∀{names:List (Str×yg)},(names.map λ(n,k)=>if(k==.free&&env.scope.kind==.function&&env.kindOf n==aj .cell)then(n,.cell)else(n,k)).lookup y=aj k ->
  ∃k',names.lookup y=aj k'/\(k=k'∨(k=.cell/\k'=.free))
 |[],h=>by simp at h
 |(n,kd)::r,h=>by
  rw[jc]at h;by_cases hc:(kd==.free&&env.scope.kind==.function&&env.kindOf n==aj .cell)=ak
  .have h':zu y ((n,yg.cell)::(r.map λ(n,k)=>if(k==.free&&env.scope.kind==.function&&env.kindOf n==aj .cell)then(n,.cell)else(n,k)))=aj k:=by
    simp only[hc,if_true]at h;exact h
   rw[vq]at h' ⊢;cases hx:y==n with
   |true =>
    rw[hx]at h';cases h';refine⟨kd,rfl,.inr ⟨rfl,?_⟩⟩;simp only[bx,beq_iff_eq]at hc;exact hc.1.1
   |false =>
    rw[hx]at h';exact fQ h'
  .have h':zu y ((n,kd)::(r.map λ(n,k)=>if(k==.free&&env.scope.kind==.function&&env.kindOf n==aj .cell)then(n,.cell)else(n,k)))=aj k:=by
    simp only[hc,if_false]at h;exact h
   rw[vq]at h' ⊢;cases hx:y==n with
   |true =>
    rw[hx]at h';cases h';exact⟨_,rfl,.inl rfl⟩
   |false =>
    rw[hx]at h';exact fQ h'
end
variable{tk:Nat}
section
section
variable{X:Cx}{ψ:List (bw×Obj)}{s:cg}
def Mt(I:Inv X ψ σ H s){b:bw}(hb:b∈frs X.stack):b=X.env.locals∨b∈X.fs:=ju.mp (I.LY b hb)
def aFU(I:Inv X ψ σ H s)(c:yK X xs scope)(hC:s.heap.objs.size<=C)(hf:∀b∈fp,l9 X ψ H b/\b<s.heap.objs.size):(qI X xs scope C s H fp ψ).Ok where
 mod:=I.ok.mod
 kind:=c.kind
 glob:=I.ok.glob
 blt:=I.ok.blt
 above:=hC
 inj:=λy z d h1 h2=>I.ok.inj y z d (lR h1 λ_ h=>by simp at h) (lR h2 λ_ h=>by simp at h)
 has:=λy h=>by
  have hy:(y,yg.free)∈scope.names:=by
   rcases h with h|h
   .obtain⟨k',e,z⟩:=fQ (env:=X.env) (names:=scope.names) h;rcases z with z|⟨_,z⟩
    .subst z;exact absurd rfl (c.LQ _ (mem_of_lookup e))
    .subst z;exact mem_of_lookup e
   .obtain⟨k',e,z⟩:=fQ (env:=X.env) (names:=scope.names) h;rcases z with z|⟨z,_⟩
    .subst z;exact mem_of_lookup e
    .cases z
  let⟨d,hd⟩:=I.ok.has y (c.frees _ hy rfl);exact NS hd hy
 v5:=λ_ _ h=>absurd h (by simp)
 hd:=I.ok.hd
 frames:=I.ok.frames
 kF:=.inl rfl
 DI:=λb hb=>by
  let⟨⟨f0,f1,f2,f3,f4,f5⟩,lt⟩:=hf b hb;exact⟨jo (je lt hC),λy d h=>f4 y d (lR h λ_ h=>by simp at h)⟩
 bs:=λb o e=>I.bs b o e
 lP:=qw I.ok.lP I.sz
 wx:=λb o e hb=>by
  let⟨⟨f0,f1,f2,f3,f4,f5⟩,lt⟩:=hf b hb;rcases f3 with z|z
  .exact I.ok.wx b o e z
  .exact absurd (je (fj e) (qw I.ok.lP z)) (vo _)
 zI:=λb hb hs=>by
  let⟨⟨f0,f1,f2,f3,f4,f5⟩,lt⟩:=hf b hb;rcases Mt I hs with z|z
  .exact f1 z
  .exact f2 z
 iA:=I.stack
 ph:=λb hb=>I.MA b hb
def aFV(I:Inv X ψ σ H s)(c:yK X xs scope)(hC:s.heap.objs.size=C)(hf:∀b∈fp,l9 X ψ H b/\b<s.heap.objs.size){h₁:lg}{m:Str->Option au}(hn:h₁.Ns C m)(hk:∀b o,s.heap.get? b=aj o->h₁.get? b=aj o) :
  Inv (qI X xs scope C s H fp ψ) [] (nn xs σ) H {s with heap:=h₁,toks:=tk}:=by
 have lt:∀b o,s.heap.get? b=aj o->b≠C:=λb o e=>by rw[←hC];exact jo (fj e)
 refine⟨aFU I c (Cn hC) hf,rfl,I.bare,Un.kept hk,⟨m,hn,λi y v e1 e2 e3=>?_⟩,λy d e=>?_,I.af.fresh (Cn hC),λy d e=>I.oN y d (lR e λ_ h=>by simp at h),λp hp=>?_,I.af.kept hk,by simp[nn,I.len],I.dS,I.tup⟩
 .obtain⟨i,rfl,pj⟩:=Rb e2
  .have rS:X.N[i]?=aj y:=So.symm.trans e1;have hy:y∈X.N:=jm rS
   have free:(y,yg.free)∈scope.names:=by
    have YI:∃k,(relabel scope X.env).names.lookup y=aj k/\(k=.local∨k=.cell∨k=.free):=by
     rcases e3 with h|h|h
     .exact⟨_,h,.inl rfl⟩
     .exact⟨_,h,.inr (.inl rfl)⟩
     .exact⟨_,h,.inr (.inr rfl)⟩
    let⟨k,h,hk⟩:=YI;let⟨k',e,z⟩:=fQ (env:=X.env) (names:=scope.names) h;rcases z with z|⟨_,z⟩
    .subst z;rcases hk with rfl|rfl|rfl
     .exact absurd e (c.only y hy)
     .exact absurd rfl (c.LQ _ (mem_of_lookup e))
     .exact mem_of_lookup e
    .subst z;exact mem_of_lookup e
   have Gs:=c.frees _ free rfl;let⟨m',Gq,Bi⟩:=I.loc;have AY:CN X.env.scope y:=Gs.elim (λz=>.inr (.inl z)) λz=>.inr (.inr z);let⟨u,r,l⟩:=Bi i y v rS pj AY;refine⟨u,r,.inr ⟨?_,?_⟩⟩
   .rcases e3 with h|h|h
    .obtain⟨k',e,z⟩:=fQ (env:=X.env) (names:=scope.names) h;rcases z with z|⟨z,_⟩
     .subst z;exact absurd e (c.only y hy)
     .cases z
    .exact .inl h
    .exact .inr h
   .rcases l with⟨hl,_⟩|⟨_,d,hd,kx⟩
    .rcases Gs with z|z
     .rw[z]at hl;cases hl
     .rw[z]at hl;cases hl
    .obtain⟨d',jv⟩:=NS (cells:=X.env.cells) (l:=scope.names) (cs:=[]) hd free;have:=lR jv λ_ h=>by simp at h
     rw[hd]at this;cases this;refine⟨d,jv,?_⟩;let⟨o,ho,cK⟩:=kx;exact⟨o,hk _ _ ho,cK⟩
 .obtain⟨w,o,ho,cK⟩:=I.cell y d (lR e λ_ h=>by simp at h);exact⟨w,o,hk _ _ ho,cK⟩
 .have Kf:p∈X.pn++ψ:=by simpa using hp
  let⟨e,n,ne,nf,d⟩:=I.pin p Kf;refine⟨hk _ _ e,n,lt _ _ e,λz=>?_,d⟩;rcases Mt I z with z|z
  .exact ne z
  .exact nf z
def Y4(I:Inv X ψ σ H s)(hC:s.heap.objs.size=C)(hf:∀b∈fp,l9 X ψ H b/\b<s.heap.objs.size){s':cg}(J:Inv (qI X xs scope C s H fp ψ) Cs aI H' s')(hs:kh C s'.heap h') :
  Inv X ψ σ H' {s' with heap:=h',toks:=tk}:=by
 have ne:∀b o,s.heap.get? b=aj o->b≠C:=λb o e=>by rw[←hC];exact jo (fj e)
 have u:Un (frs X.stack) fp H H' s.heap s'.heap:=J.base;have bq:H' C=bh:=J.free;refine I.fE (ch:=fp) J.os ⟨λb o e n hb hx=>?_,λb o e n hb hx=>?_,u.free,λb o e hx=>?_,u.az,u.m7,u.xV⟩ (λb o e=>?_) J.bare (λb hb=>?_)
 .exact(hs.2 b (ne b o e)).trans (u.keep b o e n hb hx)
 .obtain⟨sl,e1⟩:=u.slot b o e n hb hx;exact⟨sl,(hs.2 b (ne b o e)).trans e1⟩
 .obtain⟨o',e1⟩:=u.there b o e hx;exact⟨o',(hs.2 b (ne b o e)).trans e1⟩
 .refine(J.af b o e).cf (λd w hd q=>(hs.2 d ?_).trans q) (λ_ q=>q) λ_ _ q=>q;rintro rfl;rcases hd with z|z
  .rw[z]at bq;rw[e]at bq;cases bq
  .rw[bq]at z;cases z
 .obtain⟨⟨f0,f1,f2,f3,f4,f5⟩,lt⟩:=hf b hb;exact⟨f3,f1,f4,f5⟩
end
end
variable{ψ:List (bw×Obj)}{pos:Pos}
section
abbrev Au:df:=λ_ G R=>R ak G
abbrev BL(X:Cx)(ifs:List ig)(tc:df):Prop :=
 ∀(ψ:List (bw×Obj))(s:cg)(σ:St)(H:Hp)(Q:Bool->Hp->Prop),Inv X ψ σ H s->oo X.K tc σ H Q ->
  dj (dz X.prog X.w) X.A (forIn ifs ak λc r=>if r=ak then do let ok ←isTrue c X.env (eval c X.env);pure (ForInStep.yield ok)else pure (ForInStep.yield r)) (TP X ψ σ Q) X.xe s
def Y3:BL X [] Au:=λψ s σ H Q I h=>by
 let⟨ρ,G,R,sr,g,q,k⟩:=h;exact cj ⟨H,I,k ak H G (.refl H) g q⟩
def Y2{c:ig}{tc:df}(hc:mh X c tc):BL X [c] tc:=λψ s σ H Q I h=>by
 rw[List.forIn_cons];simp only[if_true];refine aq (aq (dH (hc ψ s σ H Q I h) λb s1 q=>?_));exact cj (cj q)
section
variable{X:Cx}{x:Str}{xs:List Str}{dQ:ig}{dv:D->Option (List D)}{scope:dE}{iter elt:ig}{ifs:List ig}{pos:Pos}{ti:fT}{tc:df}{te:bC}
structure GQ(X:Cx)(ψ:List (bw×Obj))(H':Hp)(C:bw)(h:lg):Prop where
 ns:∃m,h.Ns C m
 free:H' C=bh
 loc:C≠X.env.locals
 young:X.av.heap.objs.size<=C
 cells:∀y d,X.env.cells.lookup y=aj d->d≠C
 ψ:∀p∈X.pn++ψ,p.1≠C
def GQ.turn{X:Cx}{s:cg}(o:GQ X ψ H' C s.heap)(I:Inv X ψ σ H' s)(hs:kh C s.heap h'):Inv X ψ σ H' {s with heap:=h' } :=
 I.turned (t':=s.toks) (λb ob hb e=>(hs.2 b hb).trans e) o.free o.loc (.inr o.young) o.cells o.ψ
abbrev GP(Y:Cx)(dQ:ig)(xs:List Str)(dv:D->Option (List D))(σ:St):Prop:=∀(ψ:List (bw×Obj))(s:cg)(H:Hp)(v:V)(u:au)(d:D)(ds:List D),Inv Y ψ (nn xs σ) H s->RelV v u->RD Y.K H d v->dv d=aj ds ->
 dj (dz Y.prog Y.w) Y.A (assign dQ Y.env u) (λ_ s'=>∃vs,cW Y.K H ds vs/\Inv Y ψ (vs.map aj++σ) H s') Y.xe s
def Ra{K:Fg}(s:SR K H ρ σ):∀{ds:List D}{vs:List V},cW K H ds vs->SR K H (ds.map aj++ρ) (vs.map aj++σ)
 |_,_,.nil=>s
 |_,_,.cons h r=>.some h (Ra s r)
private theorem at9{prog:mz}{w:jr}{A:jf}{s:cg}{elt iter:ig}{ifs:List ig}{scope:dE}(J:Nat->cg->Prop)
  (turn:∀n s,J n s->dj (dz prog w) A (fR it) (λr s1=>match r with
   |none=>R (.ok .next) s1
   |some v=>dj (dz prog w) A (EW target it v) (λ_ OZ=>dj (dz prog w) A (assign target env v) (λ_ s2 =>
     dj (dz prog w) A (forIn ifs ak λc r=>if r=ak then do let ok ←isTrue c env (eval c env);pure (ForInStep.yield ok)else pure (ForInStep.yield r)) (λok s3 =>
      if ok=ak then dj (dz prog w) A (eval elt env) (λx s4 =>
         dj (dz prog w) A (call (.builtin "list.append") [acc,x]) (λ_ s5=>∃m,m<n/\J m s5) (notedBy (dz prog w) A env λe s'=>R (.error e) s') s4) (notedBy (dz prog w) A env λe s'=>R (.error e) s') s3
      else ∃m,m<n/\J m s3) (notedBy (dz prog w) A env λe s'=>R (.error e) s') s2) (notedBy (dz prog w) A env λe s'=>R (.error e) s') OZ) (notedBy (dz prog w) A env λe s'=>R (.error e) s') s1) (notedBy (dz prog w) A env λe s'=>R (.error e) s') s)
  (n:Nat)(h:J n s):kc (dz prog w) A (.compLoop (.ListComp elt [⟨target,iter,ifs,0⟩] scope pos) 0 it acc env) R s:=by
 refine codeAny_loop rfl J (λn s hJ=>?_) n h;show dj _ A ((compTurn (.ListComp elt [⟨target,iter,ifs,0⟩] scope pos) 0 it acc env).onRaise (λz=>do noteFrame z env;theTreesLotGoes z)) _ _ s;refine wpAny_noted ?_;rw[compTurn_list];refine aq (wpAny_standAt (aq (rm (turn n s hJ) (λr s1 h1=>?_) λ_ _ z=>z)));cases r with
 |none=>exact cj h1
 |some v =>
  refine aq (rm h1 (λ_ OZ Yv=>?_) λ_ _ z=>z);refine aq (rm Yv (λ_ s2 h2=>aq (rm h2 (λok s3 h3=>?_) λ_ _ z=>z)) λ_ _ z=>z);cases ok with
  |false=>exact cj ⟨rfl,h3⟩
  |true=>exact aq (aq (rm h3 (λx s4 h4=>aq (rm h4 (λ_ s5 h5=>cj (cj ⟨rfl,h5⟩)) λ_ _ z=>z)) λ_ _ z=>z))
private theorem Uw(c:yK X xs scope)(hT:∀C s H fp ψ σ,GP (qI X xs scope C s H fp ψ) dQ xs dv σ)(vE:∀d ds,dv d=aj ds->ds.length=xs.length)(hc:∀C s H fp ψ,BL (qI X xs scope C s H fp ψ) ifs tc)(he:∀C s H fp ψ,bY (qI X xs scope C s H fp ψ) elt te){s2:cg}{σ:St}{H H2:Hp}{ρ:bL}{G1:Gp}{R:iW}{it:bw}{fp:List bw}{tn:Nat->lg->Prop}{J:It}{src:Src}{RR:au->bw->Result->cg->Prop}(sr:SR X.K H ρ σ)(I2:Inv X ψ σ H2 s2)(T:Turn X.calm X.tp X.prog X.w X.K dQ J fp it tn)(bg:tn 0 s2.heap)(f2:∀b∈fp,l9 X ψ H2 b)(t1:Ts H H2)(g1:HR X.K H2 G1)(sj:wo X.K H2 src J)
  (hlen:src.items.length<dg)(body:∀p,G1 p=bh->∃P:Nat->List D->Gp->Prop,P 0 [] (aC G1 p (.lst [])) /\
   (∀k ds G,k<=src.items.length->P k ds G->src.ok G/\G p=aj (.lst ds)/\ds.length<=k) /\
   (∀k d ds G,src.items[k]?=aj d->P k ds G->∃ys,dv d=aj ys/\tc (ys.map aj++ρ) G λb G2=>if b=ak then te (ys.map aj++ρ) G2 λy G3=>G3 p=aj (.lst ds)/\P (k+1) (ds++[y]) (aC G3 p (.lst (ds++[y])))else P (k+1) ds G2) /\
   ∀ds G,P src.items.length ds G->∃G0,Le G0 G/\R (.ref p) G0)
  (Yr:∀Da C s5 H' G0,Inv X ψ σ H' s5->GQ X ψ H' C s5.heap->Ts H H'->HR X.K H' G0->R (.ref Da) G0->RR (.ref Da) C (.ok .next) s5) :
  dj (dz X.prog X.w) X.A (newList []) (λacc k7=>dj (dz X.prog X.w) X.A (newFunctionEnv scope X.env.globals (rC X.env.cells scope.names []) [] X.env.qual bh .none (aj X.env)) (λFF k6 =>
   kc (dz X.prog X.w) X.A (.compStart (.ListComp elt [⟨dQ,iter,ifs,0⟩] scope pos) 0 (.ref it) acc {FF with scope:=relabel scope X.env}) (RR acc FF.locals) k6) X.xe k7) X.xe s2:=by
 refine wg ?_;have I3:=I2.U8 (its:=[]) (ys:=[]) (t':=s2.toks) .nil (by decide);have hD:H2 s2.heap.objs.size=bh:=I2.fresh;have kf:=sU I3;have gD:G1 s2.heap.objs.size=bh:=m8 g1 hD kf;let⟨P,p0,Dd,JO,pend⟩:=body _ gD
 have Pn:∀b∈fp,b<s2.heap.objs.size:=λb hb=>by
  let⟨o,e,_⟩:=T.obj 0 _ bg b hb;exact fj e
 have OE:(s2.heap.push {cls:=.type "list",data:=.seq ([]:List au).toArray}).objs.size=s2.heap.objs.size+1:=Cr ..
 have Gw:∀b∈fp,l9 X ψ (upd H2 s2.heap.objs.size (.lst [])) b/\b<(s2.heap.push {cls:=.type "list",data:=.seq ([]:List au).toArray}).objs.size:=λb hb=>by
  let⟨f0,fr⟩:=f2 b hb;exact⟨⟨by rw[aP (jo (Pn b hb))];exact f0,fr⟩,by rw[OE];exact E5 (Pn b hb)⟩
 refine wpAny_newFunctionEnv c.LQ (by intro y hy;simp at hy) (λh₁ oj oi=>?_) c.kind;dsimp only at oj oi ⊢;generalize Yt:s2.heap.push {cls:=.type "list",data:=.seq ([]:List au).toArray}=h3 at *;generalize hDe:s2.heap.objs.size=Da at *;have VN:∀b o,h3.get? b=aj o->h₁.get? b=aj o:=λb o e=>oi.extBut b o (jo (fj e)) (cu _ e)
 show kc (dz X.prog X.w) X.A (Code.compStart (elt.ListComp [{target:=dQ,iter:=iter,ifs:=ifs,is_async:=0}] scope pos) 0 (au.ref it) (au.ref Da) (compEnvC scope (rC X.env.cells scope.names []) h3.objs.size X.env))
  (RR (.ref Da) h3.objs.size) {s2 with heap:=h₁,toks:=s2.toks+([]:List (Str×au)).length}
 have J0:=aFV (tk:=s2.toks+([]:List (Str×au)).length) I3 c rfl Gw oj VN;have A0:tn 0 h₁:=T.keep _ _ _ bg λb hb o e=>VN b o (by rw[←Yt];exact cu _ e);have g0:HR X.K (upd H2 Da (.lst [])) (aC G1 Da (.lst [])):=g1.put (u:=.lst []) hD ⟨[],aK,.nil⟩;have Xa:Ts H2 (upd H2 Da (.lst [])):=.same (cA hD)
 have loop:∀k6:cg,Inv (qI X xs scope h3.objs.size {s2 with heap:=h3,toks:=s2.toks} (upd H2 Da (.lst [])) fp ψ) [] (nn xs σ) (upd H2 Da (.lst [])) k6->tn 0 k6.heap ->
   kc (dz X.prog X.w) X.A (.compLoop (.ListComp elt [⟨dQ,iter,ifs,0⟩] scope pos) 0 (.ref it) (.ref Da) (compEnvC scope (rC X.env.cells scope.names []) h3.objs.size X.env)) (RR (.ref Da) h3.objs.size) k6:=by
  intro k6 J4 ja
  refine at9 (λn s'=>∃i ds H' G',Inv (qI X xs scope h3.objs.size {s2 with heap:=h3,toks:=s2.toks} (upd H2 Da (.lst [])) fp ψ) [] (nn xs σ) H' s'/\tn i s'.heap/\(∀b∈fp,H' b=bh)/\HR X.K H' G'/\P i ds G'/\i<=src.items.length/\n=src.items.length - i/\Ts H2 H') (λn s' hI=>?_) src.items.length
   ⟨0,[],_,_,J4,ja,λb hb=>(Gw b hb).1.1,g0,p0,qz _,by simp,Xa⟩
  let⟨i,ds,H',G',J,st,fr,g',p,kM,rfl,ts⟩:=hI;let⟨ok,hDl,PR⟩:=Dd i ds G' kM p;let⟨Xl,aR4,aMA⟩:=sj H' G' ts g' ok
  have KA:∀{H':Hp},(∀b∈fp,H' b=bh)->∀b∈fp,l9 (qI X xs scope h3.objs.size {s2 with heap:=h3,toks:=s2.toks} (upd H2 Da (.lst [])) fp ψ) [] H' b:=λhn b hb=>by
   let⟨⟨f0,f1,YC,f3,f4,f5⟩,lt⟩:=Gw b hb;refine⟨hn b hb,jo lt,λhs=>?_,.inl hb,λy d e=>f4 y d (lR e λ_ h=>by simp at h),λp' Kf=>f5 p' (by simpa using Kf)⟩;rcases Mt I3 hs with z|z
   .exact f1 z
   .exact YC z
  by_cases ft:i<src.items.length
  .refine rm (T.item (qI X xs scope h3.objs.size {s2 with heap:=h3,toks:=s2.toks} (upd H2 Da (.lst [])) fp ψ) rfl rfl rfl (λh=>h) (λ_ h=>h) i [] s' (nn xs σ) H' (λ_ _=>False) J (KA fr) st (Xl i ft)) ?_ λ_ _ z=>z.elim;rintro r s5 ⟨u,hr,h5⟩;subst hr
   obtain⟨d0,ys,Yg,ey,aR6⟩:∃d ys,src.items[i]?=aj d/\dv d=aj ys/\tc (ys.map aj++ρ) G' λb G2=>if b=ak then te (ys.map aj++ρ) G2 λy G3=>G3 Da=aj (.lst ds)/\P (i+1) (ds++[y]) (aC G3 Da (.lst (ds++[y])))else P (i+1) ds G2:=by
    have hd:src.items[i]?=aj src.items[i]:=gk ft;let⟨ys,e,z⟩:=JO i _ ds G' hd p;exact⟨_,ys,hd,e,z⟩
   show dj _ _ (EW dQ (.ref it) u) _ _ s5;refine rm h5 ?_ λ_ _ z=>z.elim;rintro _ s6 ⟨vx,H6,I6,r6,y6,JF,Yy⟩;let⟨sm,d,hd,rd⟩:=aR4 i vx H6 ft y6;have g':=g'.same sm;have ts:=ts.trans (.same sm);obtain rfl:d0=d:=ji.inj (Yg.symm.trans hd);have I6':=I6.pinned (KA Yy) (T.obj _ _ JF);refine rm (hT _ _ _ _ _ _ _ s6 H6 vx u _ _ I6' r6 rd ey) ?_ λ_ _ z=>z.elim;rintro _ s7 ⟨vs,O0,I7⟩;have lv:vs.length=xs.length:=by rw[←O0.length];exact vE _ _ ey
   have Q9:∀{rg:cg}{Ow:St}{Fm:Hp},Inv (qI X xs scope h3.objs.size {s2 with heap:=h3,toks:=s2.toks} (upd H2 Da (.lst [])) fp ψ) ([]++Ck fp s6.heap) Ow Fm rg->tn (i+1) rg.heap/\∀b∈fp,Fm b=bh:=λJs=>by
    refine⟨T.keep _ _ _ JF λb hb o e=>(Js.pin (b,o) (vm _ (vm _ (vX hb e)))).1,λb hb=>?_⟩;let⟨o,e,_⟩:=T.obj _ _ JF b hb;exact(Js.pin (b,o) (vm _ (vm _ (vX hb e)))).2.1
   have down:∀{rg:cg}{Fm:Hp},Inv (qI X xs scope h3.objs.size {s2 with heap:=h3,toks:=s2.toks} (upd H2 Da (.lst [])) fp ψ) ([]++Ck fp s6.heap) (vs.map aj++σ) Fm rg->Inv (qI X xs scope h3.objs.size {s2 with heap:=h3,toks:=s2.toks} (upd H2 Da (.lst [])) fp ψ) [] (nn xs σ) Fm rg:=λJs =>
    Js.IX.weak (by simp[nn,lv]) λj v e=>by
     let⟨j',rfl,e'⟩:=Rb e;rw[←lv,show vs.length=(vs.map aj).length by simp,So];exact e'
   have OW:SR X.K H6 (ys.map aj++ρ) (vs.map aj++σ):=Ra (sr.mono (t1.trans ts)) O0
   refine rm (hc _ _ _ _ _ _ s7 (vs.map aj++σ) H6 (λb H8=>Ts H6 H8/\∃G8,HR X.K H8 G8/\(if b=ak then te (ys.map aj++ρ) G8 λy G3=>G3 Da=aj (.lst ds)/\P (i+1) (ds++[y]) (aC G3 Da (.lst (ds++[y])))else P (i+1) ds G8)) I7
    ⟨ys.map aj++ρ,G',_,OW,g',aR6,λb H8 G8 t8 g8 q8=>⟨t8,G8,g8,q8⟩⟩) (λb s8 ⟨H8,I8,t8,G8,g8,q8⟩=>?_) λ_ _ z=>z.elim
   cases b with
   |false =>
    rw[if_neg (by decide)];have JL:P (i+1) ds G8:=by simpa using q8
    let⟨a1,a2⟩:=Q9 I8;exact⟨src.items.length - (i+1),⋯,i+1,ds,H8,G8,down I8,a1,a2,g8,JL,ft,rfl,ts.trans t8⟩
   |true =>
    rw[if_pos rfl];have JL:te (ys.map aj++ρ) G8 λy G3=>G3 Da=aj (.lst ds)/\P (i+1) (ds++[y]) (aC G3 Da (.lst (ds++[y]))):=by simpa using q8
    refine rm (he _ _ _ _ _ _ s8 (vs.map aj++σ) H8 (λvy H9=>Ts H8 H9/\∃y G9,RD X.K H9 y vy/\HR X.K H9 G9/\G9 Da=aj (.lst ds)/\P (i+1) (ds++[y]) (aC G9 Da (.lst (ds++[y])))) I8 ⟨ys.map aj++ρ,G8,_,OW.mono t8,g8,JL,λvy H9 y G9 t9 r9 g9 q9=>⟨t9,y,G9,r9,g9,q9⟩⟩) ?_ λ_ _ z=>z.elim;rintro uy s9 ⟨vy,H9,I9,ry,t9,y,G9,Xo,g9,Yu,q9⟩;let⟨ws,P9,rws⟩:=g9 Da _ Yu;have aMC:ws.length<dg:=by rw[←rws.length];omega
    refine rm (Uz (X:=qI X xs scope h3.objs.size {s2 with heap:=h3,toks:=s2.toks} (upd H2 Da (.lst [])) fp ψ) _ s9 (vs.map aj++σ) H9 (.ref Da) [vy] (.ref Da) [uy] (λ_ WU=>WU=upd H9 Da (.lst (ws++[vy]))) I9 rfl (.cons ry .nil) ⟨Da,ws,vy,rfl,rfl,P9,aMC,rfl⟩) ?_ λ_ _ z=>z.elim;rintro _ F1 ⟨_,WU,qV,_,Bq⟩;subst Bq;let⟨a1,a2⟩:=Q9 qV;have tt:Ts H9 (upd H9 Da (.lst (ws++[vy]))):=.turn P9 (λ_ z=>nomatch z) (λ_ _ z=>nomatch z);exact⟨src.items.length - (i+1),⋯,i+1,ds++[y],_,_,down qV,a1,a2,g9.turn (u:=.lst (ds++[y])) tt ⟨_,aK,(rws.append (.cons Xo .nil)).mono tt⟩,q9,ft,rfl,((ts.trans t8).trans t9).trans tt⟩
  .have YF:i=src.items.length:=by omega
   subst YF;refine rm (T.done (qI X xs scope h3.objs.size {s2 with heap:=h3,toks:=s2.toks} (upd H2 Da (.lst [])) fp ψ) rfl rfl rfl (λh=>h) (λ_ h=>h) _ [] s' (nn xs σ) H' (λ_ _=>False) J (KA fr) st aMA) ?_ λ_ _ z=>z.elim;rintro r s5 ⟨hr,J5⟩;subst hr;let⟨m5,X1,_⟩:=id J5.loc;let⟨G0,l0,q0⟩:=pend ds G' p;have I5:Inv X ψ σ H' s5:=Y4 (tk:=s5.toks) I3 rfl Gw J5 (kh.refl _ _);refine Yr Da _ s5 H' G0 I5 ⟨⟨m5,X1⟩,J5.free,xu I3.lt,I3.sz,λy d e z=>?_,λp hp z=>?_⟩ (t1.trans ts) (g'.le l0) q0
   .obtain⟨w,o,ho,_⟩:=I3.cell y d e;rw[z]at ho;exact absurd (fj ho) (vo _)
   .have:=(I3.pin p hp).1;rw[z]at this;exact absurd (fj this) (vo _)
 exact codeAny_compStart_list (loop _ J0 A0) (T.self X.A 0 _ _ _ A0 (loop _ J0 A0))
abbrev ES(dv:D->Option (List D))(ti:fT)(tc:df)(te:bC):bC:=λρ G R=>ti ρ G λsrc G1=>src.items.length<dg/\∀p,G1 p=bh->∃P:Nat->List D->Gp->Prop,P 0 [] (aC G1 p (.lst [])) /\
 (∀k ds G,k<=src.items.length->P k ds G->src.ok G/\G p=aj (.lst ds)/\ds.length<=k) /\
 (∀k d ds G,src.items[k]?=aj d->P k ds G->∃ys,dv d=aj ys/\tc (ys.map aj++ρ) G λb G2=>if b=ak then te (ys.map aj++ρ) G2 λy G3=>G3 p=aj (.lst ds)/\P (k+1) (ds++[y]) (aC G3 p (.lst (ds++[y])))else P (k+1) ds G2) /\
 ∀ds G,P src.items.length ds G->∃G0,Le G0 G/\R (.ref p) G0
abbrev mP(d:D):Option (List D):=some [d]
@[simp]def wC(ti:fT)(tc:df)(te:bC):bC:=ES mP ti tc te
def Tv(d:D)(ds:List D)(h:mP d=aj ds):ds.length=[x].length:=by
 unfold mP at h;cases h;rfl
def Q8(c:yK X xs scope)(dS:X.N.Nodup):(xs++X.N).Nodup:=yq.mpr ⟨c.nd,dS,λa ha b hb e=>c.out a ha (e ▸ hb)⟩
def Q7(c:yK X [x] scope)(dS:X.N.Nodup){s:cg}:GP (qI X [x] scope C s H fp ψ) (.Name x px) [x] mP σ:=by
 intro Cs s' H' v u d ds I r rd e;unfold mP at e;cases e;have Xw:PG (qI X [x] scope C s H fp ψ) (.Name x px) (Hq 0):=Mz (Q8 c dS) rfl (.inl (lookup_relabel_local (c.var x (by simp)))) (.inr (lookup_relabel_local (c.var x (by simp))));refine rm (Xw Cs s' (nn [x] σ) H' v u (λaI H2=>aI=[v].map aj++σ/\H2=H') I r ⟨rfl,rfl⟩) ?_ λ_ _ z=>z;rintro _ s2 ⟨dt,H2,I2,e2,e3⟩;subst e2;subst e3;exact⟨[v],.cons rd .nil,I2⟩
def Sn(c:yK X xs scope)(hT:∀C s H fp ψ σ,GP (qI X xs scope C s H fp ψ) dQ xs dv σ)(vE:∀d ds,dv d=aj ds->ds.length=xs.length)(hi:x4 X dQ iter ti)(hc:∀C s H fp ψ,BL (qI X xs scope C s H fp ψ) ifs tc)(he:∀C s H fp ψ,bY (qI X xs scope C s H fp ψ) elt te)
  (hs:∀y,E4 iter X.env y=pure y):bY X (.ListComp elt [⟨dQ,iter,ifs,0⟩] scope pos) (ES dv ti tc te):=by
 intro ψ s σ H Q I h;let⟨ρ,G,R,sr,g,q,kk⟩:=h;rw[eval_ListComp];refine wpAny_comprehension_free (use:=none) rfl hs (uV λy hy hf=>I.ok.has y.1 (c.frees y hy hf)) c.kind c.locs ?_
 refine dH (hi ψ s σ H (λJ H1=>Ts H H1/\∃src G1,HR X.K H1 G1/\wo X.K H1 src J/\(src.items.length<dg/\∀p,G1 p=bh->∃P:Nat->List D->Gp->Prop,P 0 [] (aC G1 p (.lst [])) /\
   (∀k ds G,k<=src.items.length->P k ds G->src.ok G/\G p=aj (.lst ds)/\ds.length<=k) /\
   (∀k d ds G,src.items[k]?=aj d->P k ds G->∃ys,dv d=aj ys/\tc (ys.map aj++ρ) G λb G2=>if b=ak then te (ys.map aj++ρ) G2 λy G3=>G3 p=aj (.lst ds)/\P (k+1) (ds++[y]) (aC G3 p (.lst (ds++[y])))else P (k+1) ds G2) /\
   ∀ds G,P src.items.length ds G->∃G0,Le G0 G/\R (.ref p) G0)) I ⟨ρ,G,_,sr,g,q,λsrc J H' G' t1 g1 sj q1=>⟨t1,src,G',g1,sj,q1⟩⟩) λv s1 h1=>dH h1 λGb s2 hz=>?_
 let⟨it,fp,tn,J,H2,e,I2,T,bg,f2,t1,src,G1,g1,sj,hlen,body⟩:=hz;subst e
 exact Uw (RR:=λacc C=>compPost (dz X.prog X.w) X.A X.xe bh (EP X ψ σ Q) acc C) c hT vE hc he sr I2 T bg f2 t1 g1 sj hlen body λDa C s5 H' G0 I5 o ts g0 q0=>by
  let⟨m,hn⟩:=o.ns;exact⟨m,hn,λh' kK=>⟨.ref Da,H',o.turn I5 kK,rfl,kk _ H' _ G0 ts (.ref Da) g0 q0⟩⟩
private theorem Y1{i:Nat}(c:yK X xs scope)(hT:∀C s H fp ψ σ,GP (qI X xs scope C s H fp ψ) dQ xs dv σ)(vE:∀d ds,dv d=aj ds->ds.length=xs.length)(dS:X.N.Nodup)(hy:X.N[i]?=aj y)(hl:Loc X.env.scope y)(hf:X.fn y=ak)(hi:x4 X dQ iter ti)(hc:∀C s H fp ψ,BL (qI X xs scope C s H fp ψ) ifs tc)(he:∀C s H fp ψ,bY (qI X xs scope C s H fp ψ) elt te)
  (hs:∀y,E4 iter X.env y=pure y):gf X (.Assign [.Name y py] (.ListComp elt [⟨dQ,iter,ifs,0⟩] scope pos) Ox) (cQ i (ES dv ti tc te)):=by
 have Gk:∃b,md (.ListComp elt [⟨dQ,iter,ifs,0⟩] scope pos) (aj (.Name y py)) Ox.line X.env=pure b:=⟨_,rfl⟩;let⟨b,Gk⟩:=Gk;cases b with
 |false=>exact VQ dS hy hl (Sn c hT vE hi hc he hs) Gk (.inl hf)
 |true =>
  intro ψ s σ H F I h;let⟨ρ,G,E,sr,g,q,d⟩:=h;rw[exec_Assign_Name_used _ _ _ _ Gk];refine aq (wpAny_standAt (aq ?_));show dj _ X.A (do let _ ←comprehension (.ListComp elt [⟨dQ,iter,ifs,0⟩] scope pos) scope X.env _ (newList []) ao (eval iter X.env) (aj (assign (.Name y py) X.env))) _ _ s;refine aq (rm (wpAny_comprehension_free (use:=some (assign (.Name y py) X.env)) (Q:=λ_ s'=>SP X ψ F .next s') rfl hs (uV λy hy hf=>I.ok.has y.1 (c.frees y hy hf)) c.kind c.locs ?_) (λ_ s' hq=>cj (cj hq)) λ_ _ e=>e)
  refine dH (hi ψ s σ H (λJ H1=>Ts H H1/\∃src G1,HR X.K H1 G1/\wo X.K H1 src J/\(src.items.length<dg/\∀p,G1 p=bh->∃P:Nat->List D->Gp->Prop,P 0 [] (aC G1 p (.lst [])) /\
    (∀k ds G,k<=src.items.length->P k ds G->src.ok G/\G p=aj (.lst ds)/\ds.length<=k) /\
    (∀k d ds G,src.items[k]?=aj d->P k ds G->∃ys,dv d=aj ys/\tc (ys.map aj++ρ) G λb G2=>if b=ak then te (ys.map aj++ρ) G2 λy G3=>G3 p=aj (.lst ds)/\P (k+1) (ds++[y]) (aC G3 p (.lst (ds++[y])))else P (k+1) ds G2) /\
    ∀ds G,P src.items.length ds G->∃G0,Le G0 G/\E.nx (iq ρ i (.ref p)) G0)) I ⟨ρ,G,_,sr,g,q,λsrc J H' G' t1 g1 sj q1=>⟨t1,src,G',g1,sj,q1⟩⟩) λv s1 h1=>dH h1 λGb s2 hz=>?_
  let⟨it,fp,tn,J,H2,e,I2,T,bg,f2,t1,src,G1,g1,sj,hlen,body⟩:=hz;subst e;refine Uw (R:=λz G0=>E.nx (iq ρ i z) G0) (RR:=λacc C=>compPost (dz X.prog X.w) X.A X.xe (aj (assign (.Name y py) X.env)) (λ_ s'=>SP X ψ F .next s') acc C) c hT vE hc he sr I2 T bg f2 t1 g1 sj hlen body λDa C s5 H' G0 I5 o ts g0 q0=>?_;show dj _ X.A (assign (.Name y py) X.env (.ref Da)) _ _ s5;refine wpAny_assign_Name (UG (v:=.ref Da) I5 dS hy hl rfl ?_ (.inl hf));rintro s6 I6 ⟨a,Pw,ha⟩;let⟨m,hn⟩:=o.ns
  have Qb:C≠a:=by
   rcases ha with rfl|ha
   .exact o.loc
   .exact λz=>o.cells y a ha z.symm
  have o6:GQ X ψ H' C s6.heap:=⟨⟨m,hn.sameBut Pw Qb⟩,o.free,o.loc,o.young,o.cells,o.ψ⟩;refine⟨m,hn.sameBut Pw Qb,λh' kK=>⟨_,H',o6.turn I6 kK,d.nx _ G0 _ H' ((sr.mono ts).set (.ref Da) i) g0 q0⟩⟩
end
end
variable{es:List ig}{l:ig}
section
@[simp]def qv:=D->bL->(bL->Prop)->Prop
abbrev W7(K:Fg)(t:qv):TG:=λv σ H Q=>∃ρ d R,SR K H ρ σ/\RD K H d v/\t d ρ R/\∀fi aI,SR K H fi aI->R fi->Q aI H
@[simp]def Fi(X:Cx)(tg:ig)(t:qv):Prop:=PG X tg (W7 X.K t)
abbrev yL(i:Nat):qv:=λd ρ Q=>Q (iq ρ i d)
abbrev xa:bL->List Nat->List D->bL
 |ρ,i::is,d::ds=>xa (iq ρ i d) is ds
 |ρ,_,_=>ρ
abbrev B5(is:List Nat):qv:=λd ρ Q=>match d with
 |.tup ds=>ds.length=is.length/\Q (xa ρ is ds)
 |_=>False
abbrev Lm:St->List Nat->List V->St
 |σ,i::is,v::vs=>Lm (σ.set i (aj v)) is vs
 |σ,_,_=>σ
def SR.sets{K:Fg}:∀{is:List Nat}{ds:List D}{vs:List V}{ρ:bL}{σ:St},cW K H ds vs->SR K H ρ σ->SR K H (xa ρ is ds) (Lm σ is vs)
 |[],_,_,_,_,_,s=>s
 |_::_,_,_,_,_,.nil,s=>s
 |i::is,_,_,_,_,.cons h r,s=>SR.sets (is:=is) r (s.set h i)
section
variable{X:Cx}
def PG.imp{t:TG}(h:PG X e t)(k:∀v σ H Q,t' v σ H Q->t v σ H Q):PG X e t':=λψ s σ H v u Q I r q=>h ψ s σ H v u Q I r (k _ _ _ _ q)
def aFW{i:Nat}{x:Str}(hN:X.N.Nodup)(hi:X.N[i]?=aj x)(hx:Loc X.env.scope x)(hf:X.fn x=ak∨X.env.scope.names.lookup x=aj .local):Fi X (.Name x pos) (yL i) :=
 PG.imp (Mz hN hi hx hf) λv σ H Q h=>by
 let⟨ρ,d,R,s,r,q,k⟩:=h;exact k _ _ (s.set r i) q
structure Nh(X:Cx)(e:ig)(i:Nat):Prop where
 ex:∃x pos,e=.Name x pos/\X.N[i]?=aj x/\Loc X.env.scope x/\(X.fn x=ak∨X.env.scope.names.lookup x=aj .local)
abbrev Ng:List Nat->AD
 |[]=>Ve
 |i::is=>VU (Hq i) (Ng is)
def Sm:∀{is:List Nat}{vs:List V}{σ:St}{H:Hp}{Q:St->Hp->Prop},vs.length=is.length->Q (Lm σ is vs) H->Ng is vs σ H Q
 |[],[],_,_,_,_,q=>⟨rfl,q⟩
 |[],_::_,_,_,_,h,_=>by simp at h
 |_::_,[],_,_,_,h,_=>by simp at h
 |i::is,v::vs,σ,H,Q,h,q=>⟨v,vs,rfl,Sm (is:=is) (by simpa using h) q⟩
def Uv(hN:X.N.Nodup):∀{es:List ig}{is:List Nat},c6 (Nh X) es is->Fh X es (Ng is)/\(ny es X.env).length=is.length/\(ny es X.env).findIdx? (·.1)=bh
 |_,_,.nil=>⟨Zz,rfl,rfl⟩
 |_,_,.cons (a:=e) (b:=i) h r=>by
  let⟨x,pos,rfl,h1,h2,h3⟩:=h.ex;let⟨a1,a2,a3⟩:=Uv hN r;refine⟨arW (Mz hN h1 h2 h3) a1 rfl,?_,?_⟩
  .show(ny _ X.env).length+1=_;rw[a2];rfl
  .show((ao,assign (.Name x pos) X.env)::ny _ X.env).findIdx? (·.1)=bh;rw[List.findIdx?_cons];simp[a3]
def VM{k:Nat}(hN:X.N.Nodup)(hc:X.calm=ak)(h:c6 (Nh X) es is):Fi X (.Tuple es k pos) (B5 is):=by
 let⟨a1,a2,a3⟩:=Uv hN h;refine PG.imp (aEE hc a1 a2 a3) λv σ H Q h=>?_;let⟨ρ,d,R,s,r,q,k⟩:=h;cases r with
 |@tup a vs ds hq rv =>
  have q':ds.length=is.length/\R (xa ρ is ds):=q;exact⟨a,vs,rfl,hq,by rw[←rv.length];exact q'.1,Sm (by rw[←rv.length];exact q'.1) (k _ _ (SR.sets rv s) q'.2)⟩
 |_=>exact False.elim q
abbrev BK(K:Fg)(src:Src)(J:It):Prop:=∀H2 G2,HR K H2 G2->src.ok G2 ->
 (∀i,i<src.items.length->J.go i H2)/\(∀i v H',i<src.items.length->J.AX i H2 v H'->aS H2 H'/\∃d,src.items[i]?=aj d/\RD K H' d v)/\J.stop src.items.length H2
abbrev aR9(K:Fg)(t:fT):TI:=λσ H Q=>∃ρ G R,SR K H ρ σ/\HR K H G/\t ρ G R/\∀src J H' G',Ts H H'->HR K H' G'->BK K src J->R src G'->Q J H'
@[simp]def AE(X:Cx)(tg iter:ig)(t:fT):Prop:=PI X tg iter (aR9 X.K t)
abbrev BJ(te:bC):fT:=λρ G R=>te ρ G λx G1=>match x with
 |.ref p=>(match bM G1 p with
  |some xs=>R (.lst p xs) G1
  |none=>False)
 |_=>False
def aq3{K:Fg}:BK K (.lst p xs) (Ou K p):=λH2 G2 g ok=>apZ (H1:=H2) H2 G2 (.refl _) g ok
def atF{K:Fg}{n:Nat}:BK K (.oP ((qd n).map λ(i:Nat)=>.int (lo+(i:Int)))) (Fj lo n):=λH2 G2 g ok=>at6 (H1:=H2) H2 G2 (.refl _) g ok
def GN{t:fT}(h:AE X tg e t):x4 X tg e t:=PI.imp h λσ H Q ⟨ρ,G,R,sr,g,q,k⟩=>⟨ρ,G,R,sr,g,q,λsrc J H' G' t1 g1 sS r=>k src J H' G' t1 g1 (λH2 G2 _ g2 ok=>sS H2 G2 g2 ok) r⟩
private theorem Q6(hl:bY X l te):AE X tg l (BJ te):=by
 intro ψ s σ H R I h;let⟨ρ,G,R3,sr,g,q,k⟩:=h
 refine dH (hl ψ s σ H (λv H1=>Ts H H1/\∃x G1,RD X.K H1 x v/\HR X.K H1 G1/\(match x with
  |.ref p=>(match bM G1 p with
   |some xs=>R3 (.lst p xs) G1
   |none=>False)
  |_=>False)) I ⟨ρ,G,_,sr,g,q,λv H1 x G1 t1 r g1 q1=>⟨t1,x,G1,r,g1,q1⟩⟩) λv s1 ⟨x,H1,I1,r1,t1,d,G1,rd,g1,q1⟩=>?_
 cases rd with
 |ref a =>
  have JN:(match bM G1 a with
   |some xs=>R3 (.lst a xs) G1
   |none=>False):=q1
  split at JN
  .rename_i xs e;cases r1;let⟨vs,hq,rv⟩:=gH g1 e;let⟨its,yl,p,hz⟩:=I1.list hq;refine wpAny_pyIter_list p.isList ?_;refine⟨s1.heap.objs.size,[s1.heap.objs.size],_,_,H1,rfl,I1.kept (t':=s1.toks) λb o e=>cu _ e,apA a _,⟨_,jd _ rfl,rfl,rfl⟩,λb hb=>?_,k _ _ H1 G1 t1 g1 aq3 JN⟩;have e:b=s1.heap.objs.size:=by simpa using hb
   subst e;exact I1.DZ (gw _) (I1.af.fresh (gw _))
  .exact JN.elim
 |_=>exact q1.elim
def aME(hl:bY X l te):x4 X tg l (Av te):=GN (Q6 hl)
def Sl{a:ig}(hg:Gl X "range")(hm:X.mg "range"=bh)(ha:ff X [a] ta)(hs:jj [a] X.env=[(ao,eval a X.env)]):AE X tg (.Call (.Name "range" p) [a] [] pos) (Ci ta) :=
 PI.imp (apB hg hm ha hs) λσ H Q h=>by
 let⟨ρ,G,R,s,g,q,k⟩:=h;refine⟨ρ,G,_,s,g,q,λvs H1 ds G1 t1 r g1 h1=>?_⟩;cases r with
 |nil=>exact h1.elim
 |cons r rr =>
  cases rr with
  |cons _ _=>cases r<;>exact False.elim h1
  |nil =>
   cases r with
   |int j =>
    let⟨l1,l2,h1⟩:=h1;refine⟨j,rfl,l1,l2,k _ _ H1 G1 t1 g1 ?_ h1⟩;unfold sv;rw[show(j - 0).toNat=j.toNat by omega];exact atF
   |_=>exact False.elim h1
def aG0{a:ig}(hg:Gl X "range")(hm:X.mg "range"=bh)(ha:ff X [a] ta)(hs:jj [a] X.env=[(ao,eval a X.env)]):x4 X tg (.Call (.Name "range" p) [a] [] pos) (Ci ta):=GN (Sl hg hm ha hs)
abbrev yM(ti:fT)(tg:qv)(tb:pI):pI:=λF ρ G=>ti ρ G λsrc G1=>∃P:Nat->bL->Gp->Prop,P 0 ρ G1/\(∀k ρ G,k<=src.items.length->P k ρ G->src.ok G) /\
 (∀k d ρ G,src.items[k]?=aj d->P k ρ G->tg d ρ λb9=>tb {F with nx:=P (k+1),ct:=P (k+1),bk:=F.nx} b9 G)/\∀ρ G,P src.items.length ρ G->F.nx ρ G
def aG1{ti:fT}{tg:qv}(hp:PassesOwn (dz X.prog X.w) X.A X.env X.xe)(hi:AE X dQ iter ti)(hg:Fi X dQ tg)(hb:l7 X body tb)
  (hs:∀x,E4 iter X.env x=pure x):gf X (.For dQ iter body [] pos) (yM ti tg tb):=PS.imp (aEH hp hi hg hb hs) λF σ H h=>by
 let⟨ρ,G,E,s,g,q,d⟩:=h
 refine⟨ρ,G,λsrc G1=>∃P:Nat->bL->Gp->Prop,P 0 ρ G1/\(∀k ρ G,k<=src.items.length->P k ρ G->src.ok G) /\
  (∀k d ρ G,src.items[k]?=aj d->P k ρ G->tg d ρ λb9=>tb {E with nx:=P (k+1),ct:=P (k+1),bk:=E.nx} b9 G)/\∀ρ G,P src.items.length ρ G->E.nx ρ G,s,g,q,λsrc J H1 G1 t1 g1 sj ⟨P,p0,Dd,JO,pend⟩=>?_⟩
 refine asR (K:=X.K) (n:=src.items.length) (λk dt H2=>∃fi G',SR X.K H2 fi dt/\HR X.K H2 G'/\P k fi G') ⟨ρ,G1,s.mono t1,g1,p0⟩ (λdt H2 ⟨fi,G',s2,g2,p⟩=>?_) (λk dt H2 hk ⟨fi,G',s2,g2,p⟩=>?_) (λk y dt H2 H3 hk ⟨fi,G',s2,g2,p⟩ hy=>?_)
  (λdt H2 ⟨fi,G',s2,g2,p⟩=>d.nx fi G' dt H2 s2 g2 (pend fi G' p))
 .exact(sj H2 G' g2 (Dd _ fi G' (gw _) p)).2.2
 .exact(sj H2 G' g2 (Dd _ fi G' (wj hk) p)).1 k hk
 .obtain⟨sm,dk,e1,e2⟩:=(sj H2 G' g2 (Dd _ fi G' (wj hk) p)).2.1 k y H3 hk hy;refine⟨fi,dk,_,s2.mono (.same sm),e2,JO k dk fi G' e1 p,λb9 AW s3 q3=>?_⟩;exact⟨b9,G',_,s3,g2.same sm,q3,⟨λJw G4 WY H4 s4 g4 q4=>⟨Jw,G4,s4,g4,q4⟩,d.rt,d.nx,λJw G4 WY H4 s4 g4 q4=>⟨Jw,G4,s4,g4,q4⟩⟩⟩
end
end
section
abbrev DU:D->Bool
 |.bl _=>ak
 |_=>ao
abbrev DT:D->Bool
 |.bl b=>b
 |_=>ao
abbrev yk(ds:List D)(i:Nat):Bool:=match ds[i]? with
 |some d=>DT d
 |none=>ao
section
def aq4{K:Fg}{ds:List D}(r:cW K H ds vs)(v:Vals vs us)(hb:ds.all DU=ak){i:Nat}(e:us[i]?=aj u):u=.bool (yk ds i):=by
 let⟨d,x,h1,h2,h3⟩:=Vals.Eg r v e;have hd:DU d=ak:=qx.mp hb d (jm h1);unfold yk;rw[h1];cases h2 with
 |bl b=>exact h3
 |_=>cases hd
end
end
section
section
variable{X:Cx}{pos:Pos}
abbrev EB(is:List Nat)(te:bC):pI:=λF ρ G=>te ρ G λd G1=>B5 is d ρ λb9=>F.nx b9 G1
def aG3{k:Nat}{tp:Pos}(hg:Fi X (.Tuple es k tp) (B5 is))(he:bY X e te)(hs:swapsWithSole [.Tuple es k tp] e pos.line X.env=pure ao)(hw:swappedStores [.Tuple es k tp] e X.env=pure bh)
  (h1:(ny [.Tuple es k tp] X.env).map (·.2)=[assign (.Tuple es k tp) X.env]):gf X (.Assign [.Tuple es k tp] e pos) (EB is te):=PS.imp (aEF he hg hs hw h1) λF σ H h=>by
 let⟨ρ,G,E,s,g,q,d⟩:=h;exact⟨ρ,G,_,s,g,q,λv H' x G' t1 r g1 h=>⟨ρ,x,_,s.mono t1,r,h,λfi aI s' q'=>d.nx fi G' aI H' s' g1 q'⟩⟩
end
def ints_of{K:Fg}:∀{ns:List Int}{vs:List V}{us:List au},cW K H (ns.map D.int) vs->Vals vs us->∃ys:List (Int×Tok),us=ys.map (λp=>au.int p.1 p.2)/\ys.map (·.1)=ns
 |[],_,_,r,v=>by cases r;cases v;exact⟨[],rfl,rfl⟩
 |n::ns,_,_,r,v=>by
  cases r with
  |cons h r =>
   cases h with
   |int i =>
    cases v with
    |cons hu v =>
     let⟨t,rfl⟩:=hu;let⟨ys,e1,e2⟩:=ints_of r v;exact⟨(n,t)::ys,by rw[e1];rfl,by rw[jc,e2]⟩
abbrev U4(xs:List D)(G:Gp)(P:List D->Prop)(O:Prop):Prop:=match xs with
 |[.ref q]=>(match bM G q with
  |some ds=>P ds
  |none=>False)
 |_=>O
abbrev Ee:List D->Gp->iW->Prop:=λxs G R=>U4 xs G (λds=>∃ns:List Int,ds=ns.map D.int/\R (.int ns.sum) G) False
section
variable{X:Cx}
private theorem aRB{s:cg}(I:Inv X ψ σ H s)(rx:cW X.K H xs vs)(rv:Vals vs us)(g:HR X.K H G)
  (h:U4 xs G P O):(∃a ds ys its,us=[.ref a]/\cW X.K H ds ys/\Vals ys its/\s.heap.IsList a its.toArray/\P ds)∨O:=by
 cases rx with
 |nil=>exact .inr h
 |cons r1 rr =>
  cases rr with
  |cons _ _=>cases r1<;>exact .inr h
  |nil =>
   cases r1 with
   |ref a =>
    let⟨u,rfl,ru⟩:=vals1 rv;cases ru
    have q':(match bM G a with
     |some ds=>P ds
     |none=>False):=h
    split at q'
    .rename_i ds e1;let⟨ys,hq,r1⟩:=gH g e1;let⟨its,yl,p,hz⟩:=I.list hq;exact .inl ⟨a,ds,ys,its,rfl,r1,yl,p.isList,q'⟩
    .exact q'.elim
   |_=>exact .inr h
def int_list{s:cg}{a:bw}{zs:List (Int×Tok)}(p:s.heap.IsList a (zs.map λp=>au.int p.1 p.2).toArray):s.heap.IsList a (intItems zs.toArray):=by
 have:intItems zs.toArray=(zs.map λp=>au.int p.1 p.2).toArray:=by simp[intItems]
 rw[this];exact p
def aMG(hc:X.calm=ak):jO X (.builtin "sum") Ee:=by
 intro ψ s σ H xs vs us G R Q I rx rv g q k;rcases aRB I rx rv g q with⟨a,ds,ys,its,rfl,r1,yl,p,ns,rfl,q'⟩|z
 .obtain⟨zs,rfl,e2⟩:=ints_of r1 yl;refine sum_intListG (I.ok.hd hc) (int_list p) λh' tk t' kk=>?_
  have e3:preSum (numAt zs.toArray) zs.toArray.size=ns.sum:=by
   rw[preSum_eq,N3 (by simp)];rw[←e2]
  rw[e3];exact⟨.int _,H,I.kept kk,⟨t',rfl⟩,k _ H _ G (.refl H) (.int _) g q'⟩
 .exact z.elim
end
end
variable{v:au}
section
abbrev yN(f:D->D->Bool):List D->List D->Bool
 |x::xs,y::ys=>f x y&&yN f xs ys
 |_,_=>ak
abbrev pJ(f:D->D->Bool):List D->List D->Bool
 |[],[]=>ak
 |x::xs,y::ys=>f x y&&pJ f xs ys
 |_,_=>ao
abbrev okN(G:Gp):Nat->D->D->Bool
 |0,x,y=>cI 10 x&&cI 10 y
 |n+1,x,y=>match x,y with
  |.ref p,.ref q=>(match bM G p,bM G q with
   |some xs,aj ys=>yN (okN G n) xs ys
   |_,_=>ao)
  |.tup xs,.tup ys=>yN (okN G n) xs ys
  |x,y=>cI 10 x&&cI 10 y
abbrev c5(G:Gp):Nat->D->D->Bool
 |0,x,y=>aT x y
 |n+1,x,y=>match x,y with
  |.ref p,.ref q=>(match bM G p,bM G q with
   |some xs,aj ys=>pJ (c5 G n) xs ys
   |_,_=>ao)
  |.tup xs,.tup ys=>pJ (c5 G n) xs ys
  |x,y=>aT x y
@[simp]def Xx(G:Gp)(x y:D):Bool:=okN G 4 x y
@[simp]def eq2(G:Gp)(x y:D):Bool:=c5 G 4 x y
@[simp]def Nf(G:Gp)(xs ys:List D):Bool:=yN (okN G 4) xs ys
@[simp]def BI(G:Gp)(xs ys:List D):Bool:=pJ (c5 G 4) xs ys
abbrev lT(f:D->D->Bool)(xs ys:List D)(j:Nat):Bool:=match xs[j]?,ys[j]? with
 |some a,aj b=>f a b
 |_,_=>ao
def lE(f:D->D->Bool):∀(xs ys:List D),pJ f xs ys=((qd (min xs.length ys.length)).all (lT f xs ys)&&xs.length==ys.length)
 |[],[]=>rfl
 |[],y::ys=>by simp[pJ]
 |x::xs,[]=>by simp[pJ]
 |x::xs,y::ys=>by
  have ih:=lE f xs ys;have e:min (x::xs).length (y::ys).length=min xs.length ys.length+1:=by simp only[qm];omega
  rw[pJ,ih,e,yH];have e0:lT f (x::xs) (y::ys) 0=f x y:=rfl
  have e1:(λj=>lT f (x::xs) (y::ys) (j+1))=lT f xs ys:=by
   funext j;simp[lT]
  have e2:((x::xs).length==(y::ys).length)=(xs.length==ys.length):=by
   simp only[qm];by_cases h:xs.length=ys.length
   .simp[h]
   .have h':¬ (xs.length+1=ys.length+1):=by omega
    simp[h,h']
  rw[e0,e1,e2,Bool.and_assoc]
def ER:∀{xs ys:List D}{j:Nat}{x y:D},yN f xs ys=ak->xs[j]?=aj x->ys[j]?=aj y->f x y=ak
 |[],_,_,_,_,_,h,_=>by simp at h
 |_::_,[],_,_,_,_,_,h=>by simp at h
 |a::xs,b::ys,0,x,y,h,e1,e2=>by
  rw[yN,bx]at h;simp at e1 e2;subst e1;subst e2;exact h.1
 |a::xs,b::ys,j+1,x,y,h,e1,e2=>by
  rw[yN,bx]at h;exact ER h.2 (by simpa using e1) (by simpa using e2)
def Jm{g:D->D->Bool}(h:∀x,f x x=ak->g x x=ak):∀{xs:List D},yN f xs xs=ak->pJ g xs xs=ak
 |[],_=>rfl
 |x::xs,q=>by
  rw[yN,bx]at q;rw[pJ,h x q.1,Jm h q.2];rfl
def yO:∀(n:Nat)(x:D),okN G n x x=ak->c5 G n x x=ak
 |0,x,h=>rB (n:=10) (by have:(cI 10 x&&cI 10 x)=ak:=h;rwa [Bool.and_self]at this)
 |n+1,x,h=>by
  cases x with
  |ref p =>
   replace h:(match bM G p,bM G p with
    |some xs,aj ys=>yN (okN G n) xs ys
    |_,_=>ao)=ak:=h
   show(match bM G p,bM G p with
    |some xs,aj ys=>pJ (c5 G n) xs ys
    |_,_=>ao)=ak
   cases e:bM G p with
   |none=>rw[e]at h;cases h
   |some xs=>rw[e]at h;exact Jm (yO n) h
  |tup xs=>exact Jm (yO n) (show yN (okN G n) xs xs=ak from h)
  |ag=>rfl
  |bl b=>cases b<;>rfl
  |int i=>exact rB (n:=10) rfl
  |str z=>exact rB (n:=10) rfl
  |ty m=>cases h
section
variable{X:Cx}
def Ms{A:jf}{s:cg}{K:Fg}{us ws:List au}(rx:cW K H xs vx)(ry:cW K H ys vy)(Jz:Vals vx us)(Jy:Vals vy ws)
  (ih:∀(j:Nat)(x y:D),xs[j]?=aj x->ys[j]?=aj y->∀(v w:V)(u t:au),RD K H x v->RD K H y w->RelV v u->RelV w t->SeqAt.EqAt A s u t (f x y)) :
  ∀j (h1:j<us.toArray.size) (h2:j<ws.toArray.size),SeqAt.EqAt A s us.toArray[j] ws.toArray[j] (lT f xs ys j):=by
 intro j h1 h2;have e1:us[j]?=aj us.toArray[j]:=by simp[gk (show j<us.length by simpa using h1)]
 have e2:ws[j]?=aj ws.toArray[j]:=by simp[gk (show j<ws.length by simpa using h2)]
 let⟨d,x,f1,f2,f3⟩:=Vals.Eg rx Jz e1;let⟨d',y,g1,g2,g3⟩:=Vals.Eg ry Jy e2;have e:lT f xs ys j=f d d':=by simp[lT,f1,g1]
 rw[e];exact ih j d d' f1 g1 x y _ _ f2 g2 f3 g3
private theorem Q5{s:cg}(I:Inv X ψ σ H s):∀(n:Nat){x y:D}{v:V},okN G n x y=ak->RD X.K H x v->RD X.K H y v->c5 G n x y=ak:=by
 have base:∀{x y:D}{v:V},(cI 10 x&&cI 10 y)=ak->RD X.K H x v->RD X.K H y v->aT x y=ak:=λh rx ry=>by
  rw[bx]at h;rw[RD.inj I h.1 h.2 rx ry];exact rB h.2
 have lists:∀(n:Nat),(∀{x y:D}{v:V},okN G n x y=ak->RD X.K H x v->RD X.K H y v->c5 G n x y=ak)->∀{xs ys:List D}{vs:List V},yN (okN G n) xs ys=ak->cW X.K H xs vs->cW X.K H ys vs->pJ (c5 G n) xs ys=ak:=λn ih {xs ys vs} h r1 r2=>by
  rw[lE,r1.length,r2.length];simp only[Nat.min_self,beq_self_eq_true,Bool.and_true,qx,zq];intro j hj;let⟨d,e1,q1⟩:=r1.DX (gk hj);let⟨d',e2,q2⟩:=r2.DX (gk hj);unfold lT;rw[e1,e2];exact ih (ER h e1 e2) q1 q2
 intro n
 induction n with
 |zero=>exact λh rx ry=>base h rx ry
 |succ n ih =>
  intro x y v h rx ry;unfold okN at h;unfold c5;split at h
  .rename_i p q;cases rx;cases ry;split at h
   .rename_i xs ys e1 e2;rw[e1]at e2;cases e2;exact Jm (yO n) h
   .cases h
  .rename_i xs ys;cases rx with
   |@tup a vs _ h1 r1 _ =>
   cases ry with
   |@tup _ ws _ h2 r2 _ =>
   obtain rfl:=I.UE h1 h2;exact lists n ih h r1 r2
  .rename_i n1 n2;exact base h rx ry
private theorem aG5{s:cg}(I:Inv X ψ σ H s)(g:HR X.K H G):∀(n:Nat)(A:jf){x y:D}{vx vy:V}{u v:au},A.units+12+n<qg->okN G n x y=ak->RD X.K H x vx->RD X.K H y vy->RelV vx u->RelV vy v->SeqAt.EqAt A s u v (c5 G n x y):=by
 intro n
 induction n with
 |zero =>
  intro A x y vx vy u v hu h rx ry ru rv;have h':(cI 10 x&&cI 10 y)=ak:=h;rw[bx]at h';exact ED I 10 A x y vx vy u v ⋯ h'.1 h'.2 rx ry ru rv
 |succ n ih =>
  intro A x y vx vy u v hu h rx ry ru rv;have all:=h
  have Gj:A.in1.units+12+n<qg:=by
   show A.units+1+12+n<qg;omega
  unfold okN at h;split at h
  .rename_i p q;split at h
   .rename_i xs ys e1 e2;cases rx;cases ry;cases ru;cases rv;by_cases Dw:p=q
    .subst Dw;rw[Q5 I _ all (.ref p) (.ref p)];exact SeqAt.EqAt.same _
    .have e:c5 G (n+1) (.ref p) (.ref q)=pJ (c5 G n) xs ys:=by
      show(match bM G p,bM G q with
       |some xs,aj ys=>pJ (c5 G n) xs ys
       |_,_=>ao)=_
      rw[e1,e2]
     rw[e];let⟨v1,h1,r1⟩:=gH g e1;let⟨v2,h2,r2⟩:=gH g e2;let⟨its,vv,q1,_⟩:=I.list h1;let⟨iF,ww,q2,_⟩:=I.list h2;have A4:=Ms (f:=c5 G n) r1 r2 vv ww λj x y e1 e2 v w u t q1 q2 q3 q4=>ih A.in1 Gj (ER h e1 e2) q1 q2 q3 q4;have s1:its.toArray.size=xs.length:=by rw[jg,←vv.length,←r1.length]
     have s2:iF.toArray.size=ys.length:=by rw[jg,←ww.length,←r2.length]
     refine SeqAt.EqAt.of_refs Dw ?_;by_cases hl:xs.length=ys.length
     .have z:=SeqAt.RcAt.lists q1.isList q2.isList (show its.toArray.size=iF.toArray.size by rw[s1,s2];exact hl) ⋯ A4
      have e:(qd its.toArray.size).all (lT (c5 G n) xs ys)=pJ (c5 G n) xs ys:=by
       rw[lE,s1,hl];simp
      rw[e]at z;exact z
     .rw[lE,show(xs.length==ys.length)=ao by simpa using hl,Bool.and_false];exact SeqAt.RcAt.lists_lengths q1.isList q2.isList (by rw[s1,s2];simpa using hl) ⋯
   .cases h
  .rename_i xs ys;cases rx with
   |@tup a1 Jx _ h1 r1 c1 =>
   cases ry with
   |@tup a2 OO _ h2 r2 c2 =>
   cases ru;cases rv;by_cases Dw:a1=a2
   .subst Dw;rw[Q5 I _ all (.tup h1 r1 c1) (.tup h2 r2 c2)];exact SeqAt.EqAt.same _
   .obtain⟨its,vv,px,_⟩:=I.tuple h1;let⟨iF,ww,py,_⟩:=I.tuple h2;have A4:=Ms (f:=c5 G n) r1 r2 vv ww λj x y e1 e2 v w u t q1 q2 q3 q4=>ih A.in1 Gj (ER h e1 e2) q1 q2 q3 q4;have z:=SeqAt.RcAt.tuples (show s.heap.IsTuple a1 its.toArray from px) (show s.heap.IsTuple a2 iF.toArray from py) ⋯ A4
    have e:((qd (min its.toArray.size iF.toArray.size)).all (lT (c5 G n) xs ys)&&its.toArray.size==iF.toArray.size)=c5 G (n+1) (.tup xs) (.tup ys):=by
     show _=pJ (c5 G n) xs ys;rw[lE,jg,jg,←vv.length,←ww.length,←r1.length,←r2.length]
    rw[e]at z;exact SeqAt.EqAt.of_refs Dw z
  .rename_i n1 n2;rw[bx]at h;have b:=ED I 10 A x y vx vy u v ⋯ h.1 h.2 rx ry ru rv;unfold c5;split
   ·exact(n1 _ _ rfl rfl).elim
   .exact(n2 _ _ rfl rfl).elim
   .exact b
def aG6{s:cg}(I:Inv X ψ σ H s)(g:HR X.K H G){A:jf}{x:D}(hu:A.units+20<qg)(h:Xx G x y=ak)(rx:RD X.K H x vx)(ry:RD X.K H y vy)(ru:RelV vx u)(rv:RelV vy v):SeqAt.EqAt A s u v (eq2 G x y):=aG5 I g 4 A ⋯ h rx ry ru rv
abbrev BH(G:Gp)(x y:D)(k:Bool->Prop):Prop:=match x,y with
 |.ref a,.ref b=>(match bM G a,bM G b with
  |some xs,aj ys=>Nf G xs ys=ak/\k (BI G xs ys)
  |_,_=>False)
 |_,_=>False
abbrev Ed:R3:=λx y G R=>BH G x y λb=>R (.bl b) G
abbrev w9:R3:=λx y G R=>BH G x y λb=>R (.bl (!b)) G
private theorem Tu(hu:X.A.units+64<qg){neg:Bool}(Dx:op=if neg then .NotEq else .Eq){s:cg}{x:D}{k:Bool->Prop}{Q:VK}(I:Inv X ψ σ H s)(rx:RD X.K H x vx)(ry:RD X.K H y vy)(ru:RelV vx u)(rv:RelV vy v)(g:HR X.K H G)
  (h:BH G x y k)(hk:∀b,k b->EP X ψ σ Q (.bool (neg ^^ b)) s):dj (dz X.prog X.w) X.A (qb op u v) (EP X ψ σ Q) X.xe s:=by
 have fin:∀{b:Bool},(if neg then SeqAt.RcNeAt X.A s u v (!b)else SeqAt.RcAt X.A s u v b)->k b->dj (dz X.prog X.w) X.A (qb op u v) (EP X ψ σ Q) X.xe s:=λ{b} z kb=>by
  have e:=hk b kb;cases neg with
  |true =>
   subst Dx;rw[EI]at e;exact z X.prog X.w X.xe _ e
  |false =>
   subst Dx;rw[Im]at e;exact z X.prog X.w X.xe _ e
 have bz:X.A.units<qg:=by omega
 have Gj:X.A.in1.units+20<qg:=by
  show X.A.units+1+20<qg;omega
 unfold BH at h;split at h
 .rename_i a b;split at h
  .rename_i ds es e1 e2;let⟨ok,kk⟩:=h;cases rx;cases ry;cases ru;cases rv;let⟨v1,h1,r1⟩:=gH g e1;let⟨v2,h2,r2⟩:=gH g e2;let⟨its,vv,q1,_⟩:=I.list h1;let⟨iF,ww,q2,_⟩:=I.list h2;have p1:=q1.isList;have p2:=q2.isList;have A4:=Ms (f:=eq2 G) r1 r2 vv ww λj x y e1 e2 v w u t q1 q2 q3 q4=>aG6 (A:=X.A.in1) I g Gj (ER ok e1 e2) q1 q2 q3 q4;have s1:its.toArray.size=ds.length:=by rw[jg,←vv.length,←r1.length]
   have s2:iF.toArray.size=es.length:=by rw[jg,←ww.length,←r2.length]
   refine fin (b:=pJ (eq2 G) ds es) ?_ kk;by_cases hl:ds.length=es.length
   .have hsz:its.toArray.size=iF.toArray.size:=by rw[s1,s2];exact hl
    have e:(qd its.toArray.size).all (lT (eq2 G) ds es)=pJ (eq2 G) ds es:=by
     rw[lE,s1,hl];simp
    cases neg with
    |true =>
     have z:=SeqAt.RcNeAt.lists p1 p2 hsz bz A4;rw[e]at z;exact z
    |false =>
     have z:=SeqAt.RcAt.lists p1 p2 hsz bz A4;rw[e]at z;exact z
   .have lh:(its.toArray.size !=iF.toArray.size)=ak:=by rw[s1,s2];simpa using hl
    have e:pJ (eq2 G) ds es=ao:=by
     rw[lE];have:(ds.length==es.length)=ao:=by simpa using hl
     rw[this,Bool.and_false]
    rw[e];cases neg with
    |true=>exact SeqAt.RcNeAt.lists_lengths p1 p2 lh bz
    |false=>exact SeqAt.RcAt.lists_lengths p1 p2 lh bz
  .exact h.elim
 .exact h.elim
def aMH(hu:X.A.units+64<qg):rA X (qb .Eq) Ed:=yI λψ s σ H x y vx vy u v G R Q I rx ry ru rv g q k =>
 Tu (neg:=false) hu rfl I rx ry ru rv g q λb kb=>⟨.bl b,H,I,by rw[Im];rfl,k _ H (.bl b) G (.refl H) (.bl b) g kb⟩
def aMI(hu:X.A.units+64<qg):rA X (qb .NotEq) w9:=yI λψ s σ H x y vx vy u v G R Q I rx ry ru rv g q k =>
 Tu (neg:=true) hu rfl I rx ry ru rv g q λb kb=>⟨.bl (!b),H,I,by rw[EI];rfl,k _ H (.bl (!b)) G (.refl H) (.bl (!b)) g kb⟩
end
end
section
section
variable{X:Cx}{C:bw}{iP GH:List au}{B Bn newId Di eM Dp:String}{x:Str}{es:List ig}{t:sJ}
abbrev Ll(C:bw)(t:sJ):bC:=λρ G R=>t ρ G λds G1=>ds.length<=dg/\∀x,G1 x=bh->R (.ref x) (aC G1 x (.fe C))
def atN{s:cg}{x:bw}(I:Inv X ψ σ H s)(hm:Iq s.heap h' x (.ref C) us) :
  ∃o vs,H x=bh/\Inv X ψ σ (upd H x (.jJ o (.ext (qh C x)))) {s with heap:=h' }/\o.data=.fields vs/\vs[2]?=aj .none:=by
 let⟨t,e1,_,_⟩:=hm.there;have A8:H x=bh:=TC I.af hm.new;refine⟨{cls:=.ref C,data:=.fields #[.ref t,.none,.none,.none,.bool ao,.none]},#[.ref t,.none,.none,.none,.bool ao,.none],A8,?_,rfl,rfl⟩;generalize ho:({cls:=.ref C,data:=.fields #[.ref t,.none,.none,.none,.bool ao,.none]}:Obj)=o at e1;have sn:aS H (upd H x (.jJ o (.ext (qh C x)))):=cA A8;have A9:∀b u,s.heap.get? b=aj u->b≠x:=λb u e z=>by subst z;rw[hm.new]at e;cases e
 refine I.fE (ch:=[]) (s':={s with heap:=h' }) rfl ⟨λb u e n _ _=>hm.keeps b u e,λb u e n _ _=>⟨u.slots,hm.keeps b u e⟩,λb u e n _=>by rw[aP (A9 b u e)];exact n,λb u e _=>⟨u,hm.keeps b u e⟩,λb xs z=>sn _ _ z,λb u v z=>sn _ _ z,λb ps z=>⟨#[],by rw[Array.append_empty];exact sn _ _ z⟩⟩ (λb u e=>?_) I.bare λb z=>absurd z (by simp);by_cases hb:b=x
 .subst hb;rw[aK]at e;cases e;exact⟨e1,⟨o,_,e1,by rw[←ho],by rw[←ho]⟩,⟨o,e1⟩,λh1 h2 ⟨o1,w1,e1,e2,e3⟩ k=>⟨o1,w1,k _ e1,e2,e3⟩⟩
 .rw[aP hb]at e;exact((I.af.kept hm.keeps) b u e).cf (λ_ _ _ z=>z) (λc z=>sn _ _ z) λc xs z=>sn _ _ z
def Tq{σ:St}{H:Hp}{s:cg}{us:List au}{G:Gp}{R:iW}{Q:VK}(Fn:xi Bn newId Dp GH)(zd:iP.contains (.type Bn)=ak)(FB:xi B Di eM iP)(hq:nB X.K C iP newId=ak)(I:Inv X ψ σ H s)(g:HR X.K H G)(hl:us.length<=dg)(q:∀x,G x=bh->R (.ref x) (aC G x (.fe C)))
  (k:∀v H' d G',Ts H H'->RD X.K H' d v->HR X.K H' G'->R d G'->Q v H'):dj (dz X.prog X.w) X.A (call (.ref C) us) (EP X ψ σ Q) X.xe s:=by
 let⟨tl,N,nm,q',bs,hdct,sn,sub,ab,col,iL,k0,k1,k2,k3,k5,mN,hC,hN,ve,T⟩:=Ih I.mod.oC hq;let⟨h,g0,d0,t0,O4⟩:=s;refine wpAny_call_exc_subU (hrest:=hl) Fn zd FB (T.keeps I.bk) (I.bk _ _ hC) (hN.keeps I.bk) ve λh' x hm=>?_;let⟨o,vs,nx,J,d1,d2⟩:=atN I hm;have sn:aS H (upd H x (.jJ o (.ext (qh C x)))):=cA nx;exact⟨.ref x,_,J,rfl,k _ _ _ _ (.same sn) (.ref x) (g.put (u:=.fe C) nx ⟨o,vs,aK,d1,d2⟩) (q x (m8 (K:=X.K) g nx (sU (X:=X) J)))⟩
def aMJ(Fn:xi Bn newId Dp GH)(zd:iP.contains (.type Bn)=ak)(FB:xi B Di eM iP)(hg:Gl X x)(hm:X.mg x=aj (.ref C))(hq:nB X.K C iP newId=ak)(ha:ff X (e::es) t)(hd:(x==("__debug__":Str))=ao)
  (he:jj (e::es) X.env=(ao,eval e X.env)::jj es X.env)(ij:(ux ah (jj es X.env)).any (·.1)=ao):bY X (.Call (.Name x np) (e::es) [] ah) (Ll C t):=by
 intro ψ s σ H Q I h;let⟨ρ,G,R,sr,g,q,kk⟩:=h;let⟨tl,N,nm,q',bs,hdct,sn,sub,ab,col,iL,k0,k1,k2,k3,k5,mN,hC,hN,ve,T⟩:=Ih I.mod.oC hq;refine wpAny_Call_ofName (qF I hg hm ?_ hd);unfold callWith;have hA:=ha ah ψ s σ H (λvs H1=>Ts H H1/\∃ds G1,cW X.K H1 ds vs/\HR X.K H1 G1/\ds.length<=dg/\∀x,G1 x=bh->R (.ref x) (aC G1 x (.fe C))) I ⟨ρ,G,_,sr,g,q,λvs H1 ds G1 t1 r1 g1 q1=>⟨t1,ds,G1,r1,g1,q1.1,q1.2⟩⟩;have Bg:(ux ah (jj (e::es) X.env)).any (·.1)=ao:=by rw[he];show(ao||(ux ah (jj es X.env)).any (·.1))=ao;rw[ij];rfl
 rw[he]at hA Bg ⊢;refine aq (vp (Calls.evalArgs_plain (dH hA λus s2 ⟨vs,H2,I2,r2,t1,ds,G1,r1,g1,hl,q1⟩=>aq (wpAny_standAt ?_))));have rq:us.length<=dg:=by rw[←r2.length,←r1.length];exact hl
 simp only[Bg];let⟨h0,g0,d0,t0,O4⟩:=s2;refine aq (wpAny_keeperOf_exc (I2.bk _ _ hC) ?_);refine aq (dH (Tq Fn zd FB hq I2 g1 rq q1 λv H' d G' t3=>kk v H' d G' (t1.trans t3)) λv s3 q3=>aq (vp (wpAny_point (cj q3))))
def aG7(Fn:xi Bn newId Dp GH)(zd:iP.contains (.type Bn)=ak)(FB:xi B Di eM iP)(hg:Gl X x)(hm:X.mg x=aj (.ref C))(hq:nB X.K C iP newId=ak)(hd:(x==("__debug__":Str))=ao):bY X (.Call (.Name x np) [] [] ah) (Ll C m9):=by
 intro ψ s σ H Q I h;let⟨ρ,G,R,sr,g,⟨hl,q⟩,kk⟩:=h;let⟨tl,N,nm,q',bs,hdct,sn,sub,ab,col,iL,k0,k1,k2,k3,k5,mN,hC,hN,ve,T⟩:=Ih I.mod.oC hq;refine wpAny_Call_ofName (qF I hg hm ?_ hd);unfold callWith;refine aq (vp (PySem.evalArgs_none (aq (wpAny_standAt ?_))));let⟨h0,g0,d0,t0,O4⟩:=s;refine aq (wpAny_keeperOf_exc (I.bk _ _ hC) ?_);refine aq (dH (Tq (us:=[]) Fn zd FB hq I g (qz _) q kk) λv s3 q3=>aq (vp (wpAny_point (cj q3))))
end
end
section
abbrev DS(C:bw)(f:Str)(x:D)(G:Gp)(R:iW):Prop:=match x with
 |.ref a=>(match G a with
  |some (.ins C' fs)=>C'=C/\(match fs.lookup f with
   |some d=>R d G
   |none=>False)
  |_=>False)
 |_=>False
abbrev jN(C:bw)(ta:bC)(f:Str):bC:=λρ G R=>ta ρ G λx G1=>DS C f x G1 R
private theorem V2{K:Fg}:∀{fs:List (Str×D)}{vs:List (Str×V)}{d:D},c6 (λp q=>p.1=q.1/\RD K H p.2 q.2) fs vs->fs.lookup f=aj d->∃v,vs.lookup f=aj v/\RD K H d v
 |_,_,_,.nil,e=>by cases e
 |(g,x)::fs,(g',y)::vs,d,.cons h r,e=>by
  let⟨rfl,h2⟩:=h;unfold zu at e ⊢;split at e
  .rename_i q;rw[q];cases e;exact⟨y,rfl,h2⟩
  .rename_i q;rw[q];exact V2 r e
abbrev Ec(f:Str)(d:D):List (Str×D)->List (Str×D)
 |[]=>[(f,d)]
 |(g,x)::r=>if g=f then(g,d)::r else(g,x)::Ec f d r
def Sk{K:Fg}{v:V}(h:RD K H d v):∀{fs:List (Str×D)}{vs:List (Str×V)},c6 (λp q=>p.1=q.1/\RD K H p.2 q.2) fs vs->c6 (λp q=>p.1=q.1/\RD K H p.2 q.2) (Ec f d fs) (vY f v vs)
 |_,_,.nil=>.cons ⟨rfl,h⟩ .nil
 |(g,x)::fs,(g',y)::vs,.cons q r=>by
  let⟨rfl,q2⟩:=q;unfold Ec vY;by_cases c:g=f
  .rw[if_pos c,if_pos c];exact .cons ⟨rfl,h⟩ r
  .rw[if_neg c,if_neg c];exact .cons ⟨rfl,q2⟩ (Sk h r)
section
variable{X:Cx}{o:ig}{f:Str}{C:bw}{pos:Pos}{ta tv:bC}
private theorem aMK(he:bY X e ta)(c:iE X.K C)(n:nA X.K C f)(hb:xq e f X.env (eval e X.env)=eval e X.env):bY X (.Attribute e f pos) (jN C ta f):=by
 refine PE.imp (aES he hb) λσ H Q h=>?_;let⟨ρ,G,R,s,g,t,k⟩:=h;refine⟨ρ,G,_,s,g,t,λv H1 x G1 t1 rx g1 t'=>?_⟩;unfold DS at t';split at t'
 .rename_i a;split at t'
  .rename_i C' fs e1;let⟨rfl,t'⟩:=t';split at t'
   .rename_i d e2;let⟨dx,vs,e3,r⟩:=g1 a _ e1;let⟨w,e4,rw⟩:=V2 r e2;cases rx;exact⟨a,_,dx,vs,w,rfl,e3,c,n,e4,k w H1 d G1 t1 rw g1 t'⟩
   .exact t'.elim
  .exact t'.elim
 .exact t'.elim
abbrev Ea(C:bw)(f:Str)(x y:D)(F:eU)(ρ:bL)(G:Gp):Prop:=match x with
 |.ref a=>(match G a with
  |some (.ins C' fs)=>C'=C/\fs.length<1000/\F.nx ρ (aC G a (.ins C (Ec f y fs)))
  |_=>False)
 |_=>False
abbrev Ch(C:bw)(ta tv:bC)(f:Str):pI:=λF ρ G=>tv ρ G λy G1=>ta ρ G1 λx G2=>Ea C f x y F ρ G2
private theorem aG8(ha:bY X o ta)(hv:bY X value tv)(c:iE X.K C)(n:nA X.K C f)(hs:md value (aj (.Attribute o f pos')) pos.line X.env=pure ao):gf X (.Assign [.Attribute o f pos'] value pos) (Ch C ta tv f):=by
 refine PS.imp (aET ha hv hs) λF σ H h=>?_;let⟨ρ,G,E,s,g,t,u⟩:=h;refine⟨ρ,G,_,s,g,t,λy H1 d G1 t1 ry g1 t'=>?_⟩;refine⟨ρ,G1,_,s.mono t1,g1,t',λv H2 x G2 t2 rx g2 fo=>?_⟩;unfold Ea at fo;split at fo
 .rename_i a;split at fo
  .rename_i C' fs e1;let⟨rfl,hl,fo⟩:=fo;let⟨dx,vs,e3,r⟩:=g2 a _ e1;have Xp:=ry.mono t2;have tt:Ts H2 (upd H2 a (.ins C' dx (vY f y vs))):=Ts.turn e3 (λ_ z=>by cases z) (λ_ _ z=>by cases z);cases rx;refine⟨a,_,dx,vs,rfl,e3,c,n,by rw[←r.length];exact hl,u.nx ρ _ σ _ ((s.mono t1).mono t2 |>.mono tt) (HR.turn g2 tt ?_) fo⟩;exact⟨dx,_,aK,(Sk Xp r).imp λ_ _ q=>⟨q.1,q.2.mono tt⟩⟩
  .exact fo.elim
 .exact fo.elim
end
variable{Q:VK}
section
variable{X:Cx}{qt:Bool}{k:Nat}{f C:bw}{fd:oh}{ps:List Str}{sp:kU}{EX:bL->eX}{x m:Str}{p pos apos:Pos}{o:ig}{es:List ig}{t:sJ}{ta:bC}{dd:List D}{b7:List V}{ds:List au}
private theorem Tp{s:cg}{Q':VK}(F:c7 qt X.prog X.w X.K X.mg X.base (m6 X.prog X.w) k f fd ps (cT X.K sp))(hr:lB qt k X.A)(hb:Binds X.K fd ps ds)(hd:Vals b7 ds)
  (hx:∀e s',m6 X.prog X.w X.stack H s E e s'->X.xe e s')
  (I:Inv X ψ σ H s)(r:Vals vs us)(h:cT X.K sp (vs++b7) H Q E)(hQ:∀v H',Ts H H'->Q v H'->Q' v H'):dj (dz X.prog X.w) X.A (call (.ref f) us) (EP X ψ σ Q') X.xe s:=by
 have hl:(us++ds).length=ps.length:=by rw[←(r.append hd).length];exact F.len _ _ _ _ h
 refine wpAny_call (Am (F.run X.A X.stack s H ⟨us,[]⟩ (us++ds) (vs++b7) Q E hr I.AR (hb s us I.de hl) (r.append hd) h) λr s' hq=>?_);cases r with
 |error e=>exact hx e s' hq
 |ok fl =>
  cases fl with
  |ret u =>
   let⟨v,H',os,bare,un,af,r,q⟩:=hq;exact⟨v,H',I.fE (ch:=[]) os un af bare (λb z=>absurd z (by simp)),r,hQ v H' ⟨un.az,un.m7⟩ q⟩
  |next=>exact False.elim hq
  |brk=>exact False.elim hq
  |cont=>exact False.elim hq
abbrev D9(C:bw)(m:Str)(x:D)(G:Gp):Prop:=∃a fs,x=.ref a/\G a=aj (.ins C fs)/\fs.lookup m=bh
abbrev iZ(C:bw)(m:Str)(sp:kU)(dd:List D)(EX:bL->eX)(ta:bC)(t:sJ):bC:=λρ G R=>ta ρ G λx G1=>D9 C m x G1/\t ρ G1 λds G2=>sp (x::(ds++dd)) G2 R (EX ρ)
private theorem NC{K:Fg}{f:Str}:∀{fs:List (Str×D)}{vs:List (Str×V)},c6 (λp q=>p.1=q.1/\RD K H p.2 q.2) fs vs->fs.lookup f=bh->vs.lookup f=bh
 |_,_,.nil,e=>rfl
 |(g,x)::fs,(g',y)::vs,.cons h r,e=>by
  let⟨rfl,h2⟩:=h;unfold zu at e ⊢;split at e
  .cases e
  .rename_i q;rw[q];exact NC r e
def Y0(ho:bY X o ta)(c:iE X.K C)(hm:Meth X.K C m f)(F:c7 qt X.prog X.w X.K X.mg X.base (m6 X.prog X.w) k f fd ps (cT X.K sp))(hr:lB qt k X.A)(hb:Binds X.K fd ps ds)(hd:Vals b7 ds)(fc:∀H,cW X.K H dd b7)(hx:nI X EX)
  (ha:ff X (e::es) t)(bE:jj (e::es) X.env=(ao,eval e X.env)::jj es X.env)(ij:(ux pos (jj es X.env)).any (·.1)=ao)
  (ht:eval (.Call (.Attribute o m apos) (e::es) [] pos) X.env=(do
   let ov ←eval o X.env
   standAt apos.atName
   let(f,first) ←holding [ov] (getMethod ov m pl)
   callWith pos f first (ux pos (jj (e::es) X.env)) (backToKw pos (pV [] X.env)))) :
  bY X (.Call (.Attribute o m apos) (e::es) [] pos) (iZ C m sp dd EX ta t):=by
 intro ψ s σ H Q I h;let⟨ρ,G,R,sr,g,q,kk⟩:=h;refine PySem.W.methodCall_KW (pl:=pl) (dH (ho ψ s σ H (λv H1=>∃d G1,Ts H H1/\RD X.K H1 d v/\HR X.K H1 G1/\D9 C m d G1/\t ρ G1 λds G2=>sp (d::(ds++dd)) G2 R (EX ρ)) I ⟨ρ,G,_,sr,g,q,λv H1 d G1 t1 r1 g1 q1=>⟨d,G1,t1,r1,g1,q1⟩⟩) ?_) ht;rintro u s1 ⟨x,H1,I1,rx,d,G1,t1,r1,g1,⟨a,fs,ed,ea,el⟩,q1⟩;subst ed;cases r1;obtain rfl:u=au.ref a:=rx;let⟨dx,vs,e3,r⟩:=g1 a _ ea;refine V4 I1 e3 c hm (NC r el) ?_;refine N5 (first:=[.ref a]) (h₀:=X.base) I.ok.mod.oC hm.kp (dH (ha pos ψ s1 σ H1 (λvs H2=>Ts H1 H2/\∃ds G2,cW X.K H2 ds vs/\HR X.K H2 G2/\sp (.ref a::(ds++dd)) G2 R (EX ρ)) I1 ⟨ρ,G1,_,sr.mono t1,g1,q1,λvs H2 ds G2 t2 r2 g2 q2=>⟨t2,ds,G2,r2,g2,q2⟩⟩) λus s2 ⟨vs,H2,I2,r,t2,ds2,G2,r2,g2,q2⟩=>⟨I2.de,?_⟩) bE ij;refine Tp (us:=.ref a::us) (vs:=.ref a::vs) (E:=qc X.K (EX ρ)) F hr hb hd (λe s' c=>hx.Ei ψ σ H2 s2 ρ e s' I2 ((sr.mono t1).mono t2) c) I2 (.cons rfl r) (Q:=λv H'=>∃d G',RD X.K H' d v/\HR X.K H' G'/\R d G') ⟨.ref a::(ds2++dd),G2,R,EX ρ,.cons (.ref a) (r2.append (fc H2)),g2,q2,λv H' d G' r3 g3 q3=>⟨d,G',r3,g3,q3⟩,λC H' G' g' q'=>⟨C,G',rfl,g',q'⟩⟩ (by rintro v H' t3 ⟨d,G',r3,g3,q3⟩;exact kk v H' d G' ((t1.trans t2).trans t3) r3 g3 q3)
def atP(ho:bY X o ta)(c:iE X.K C)(hm:Meth X.K C m f)(F:c7 qt X.prog X.w X.K X.mg X.base (m6 X.prog X.w) k f fd ps (cT X.K sp))(hr:lB qt k X.A)(hb:Binds X.K fd ps ds)(hd:Vals b7 ds)(fc:∀H,cW X.K H dd b7)(hx:nI X EX)
  (ht:eval (.Call (.Attribute o m apos) [] [] pos) X.env=(do
   let ov ←eval o X.env
   standAt apos.atName
   let(f,first) ←holding [ov] (getMethod ov m pl)
   callWith pos f first (ux pos (jj [] X.env)) (backToKw pos (pV [] X.env)))) :
  bY X (.Call (.Attribute o m apos) [] [] pos) (iZ C m sp dd EX ta m9):=by
 intro ψ s σ H Q I h;let⟨ρ,G,R,sr,g,q,kk⟩:=h;refine PySem.W.methodCall_KW (pl:=pl) (dH (ho ψ s σ H (λv H1=>∃d G1,Ts H H1/\RD X.K H1 d v/\HR X.K H1 G1/\D9 C m d G1/\m9 ρ G1 λds G2=>sp (d::(ds++dd)) G2 R (EX ρ)) I ⟨ρ,G,_,sr,g,q,λv H1 d G1 t1 r1 g1 q1=>⟨d,G1,t1,r1,g1,q1⟩⟩) ?_) ht;rintro u s1 ⟨x,H1,I1,rx,d,G1,t1,r1,g1,⟨a,fs,ed,ea,el⟩,q1⟩;subst ed;cases r1;obtain rfl:u=au.ref a:=rx;let⟨dx,vs,e3,r⟩:=g1 a _ ea;refine V4 I1 e3 c hm (NC r el) ?_;refine NV (first:=[.ref a]) I1.de hm.kp ?_;refine Tp (us:=[.ref a]) (vs:=[.ref a]) (E:=qc X.K (EX ρ)) F hr hb hd (λe s' c=>hx.Ei ψ σ H1 s1 ρ e s' I1 (sr.mono t1) c) I1 (.cons rfl .nil) (Q:=λv H'=>∃d G',RD X.K H' d v/\HR X.K H' G'/\R d G') ⟨.ref a::dd,G1,R,EX ρ,.cons (.ref a) (fc H1),g1,q1,λv H' d G' r3 g3 q3=>⟨d,G',r3,g3,q3⟩,λC H' G' g' q'=>⟨C,G',rfl,g',q'⟩⟩ (by rintro v H' t3 ⟨d,G',r3,g3,q3⟩;exact kk v H' d G' (t1.trans t3) r3 g3 q3)
abbrev EA(C:bw)(sp:kU)(dd:List D)(EX:bL->eX)(t:sJ):bC:=λρ G R=>t ρ G λds G1=>∀x,G1 x=bh->sp (.ref x::(ds++dd)) (aC G1 x (.ins C [])) (λv G2=>v=.ag/\R (.ref x) G2) (EX ρ)
private theorem Uu{σ:St}{H:Hp}{s:cg}{G:Gp}{R:iW}{us:List au}{vs:List V}{ds2:List D}{ρ:bL}(M:Mk X.K C f)(F:c7 qt X.prog X.w X.K X.mg X.base (m6 X.prog X.w) k f fd ps (cT X.K sp))(hr:lB qt (k+1) X.A)(hb:Binds X.K fd ps ds)(hd:Vals b7 ds)(fc:∀H,cW X.K H dd b7)(hx:nI X EX)
  (I:Inv X ψ σ H s)(sr:SR X.K H ρ σ)(g:HR X.K H G)(r:Vals vs us)(r2:cW X.K H ds2 vs)(h:∀x,G x=bh->sp (.ref x::(ds2++dd)) (aC G x (.ins C [])) (λv G2=>v=.ag/\R (.ref x) G2) (EX ρ))
  (hQ:∀v H' d G',Ts H H'->RD X.K H' d v->HR X.K H' G'->R d G'->Q v H'):dj (dz X.prog X.w) X.A (call (.ref C) us) (EP X ψ σ Q) X.xe s:=by
 have n1:H (s.heap.objs.size+1)=bh:=I.af.fresh (Nat.le_succ _);have n0:H s.heap.objs.size=bh:=I.af.fresh (gw _);have ne:s.heap.objs.size+1≠s.heap.objs.size:=Nat.succ_ne_self _;have I2:=Inv.made (C:=C) I
 have kl:X.K.lookup (s.heap.objs.size+1)=bh:=by
  cases q:X.K.lookup (s.heap.objs.size+1)with
  |none=>rfl
  |some u=>have:=sU I2 _ u q;rw[aK]at this;cases this
 have gn:G (s.heap.objs.size+1)=bh:=m8 (o:=.ins C s.heap.objs.size []) g n1 λb u e=>by
  by_cases c:b=s.heap.objs.size+1
  .subst c;rw[kl]at e;cases e
  .rw[aP c];exact sU I b u e
 have t1:Ts H (upd H s.heap.objs.size (.own (s.heap.objs.size+1))):=.same (cA n0);have Pg:upd H s.heap.objs.size (.own (s.heap.objs.size+1)) (s.heap.objs.size+1)=bh:=by rw[aP ne];exact n1
 have t2:Ts (upd H s.heap.objs.size (.own (s.heap.objs.size+1))) (upd (upd H s.heap.objs.size (.own (s.heap.objs.size+1))) (s.heap.objs.size+1) (.ins C s.heap.objs.size [])):=.same (cA Pg);have g1:HR X.K (upd H s.heap.objs.size (.own (s.heap.objs.size+1))) G:=g.same (cA n0);have g2:HR X.K (upd (upd H s.heap.objs.size (.own (s.heap.objs.size+1))) (s.heap.objs.size+1) (.ins C s.heap.objs.size [])) (aC G (s.heap.objs.size+1) (.ins C [])):=g1.put Pg ⟨s.heap.objs.size,[],aK,.nil⟩
 have hq:cT X.K sp (V.ref (s.heap.objs.size+1)::(vs++b7)) (upd (upd H s.heap.objs.size (.own (s.heap.objs.size+1))) (s.heap.objs.size+1) (.ins C s.heap.objs.size [])) (λv H'=>v=.ag/\∃G',HR X.K H' G'/\R (.ref (s.heap.objs.size+1)) G') (qc X.K (EX ρ)) :=
  ⟨.ref (s.heap.objs.size+1)::(ds2++dd),_,_,EX ρ,.cons (.ref _) (((r2.mono t1).mono t2).append (fc _)),g2,h _ gn,λv H' d G' r3 g3 q3=>by
   let⟨rfl,q3⟩:=q3;cases r3;exact⟨rfl,G',g3,q3⟩,λC H' G' g' q'=>⟨C,G',rfl,g',q'⟩⟩
 have rr:Vals (V.ref (s.heap.objs.size+1)::(vs++b7)) (au.ref (s.heap.objs.size+1)::(us++ds)):=.cons rfl (r.append hd)
 have hl:(au.ref (s.heap.objs.size+1)::us++ds).length=ps.length:=by
  have e:=rr.length;rw[F.len _ _ _ _ hq]at e;exact e.symm
 refine wpAny_call (as7 (f:=f) I.de M.makes M.init (beq_iff_eq.mp M.fn) (Am (F.run _ X.stack _ _ ⟨au.ref (s.heap.objs.size+1)::us,[]⟩ (au.ref (s.heap.objs.size+1)::(us++ds)) _ _ _ (hr.make C us [])
  (I2.AR.make C us []) (hb _ (au.ref (s.heap.objs.size+1)::us) I2.de hl) rr hq) λr s' u7=>?_))
 cases r with
 |error e=>exact hx.Ei ψ σ _ _ ρ e s' I2 ((sr.mono t1).mono t2) u7
 |ok fl =>
  cases fl with
  |ret u =>
   let⟨v,H',os,bare,un,af,rv,ev,G',g3,q3⟩:=u7;subst ev;exact⟨rv,⟨V.ref (s.heap.objs.size+1),H',I2.fE (ch:=[]) os un af bare (λb z=>absurd z (by simp)),rfl,hQ _ H' (.ref _) G' ((t1.trans t2).trans ⟨un.az,un.m7⟩) (.ref _) g3 q3⟩⟩
  |next=>exact False.elim u7
  |brk=>exact False.elim u7
  |cont=>exact False.elim u7
def YZ(M:Mk X.K C f)(F:c7 qt X.prog X.w X.K X.mg X.base (m6 X.prog X.w) k f fd ps (cT X.K sp))(hr:lB qt (k+1) X.A)(hg:Gl X x)(hm:X.mg x=aj (.ref C))(hb:Binds X.K fd ps ds)(hd:Vals b7 ds)(fc:∀H,cW X.K H dd b7)(hx:nI X EX)
  (ha:ff X (e::es) t)(gS:(x==("__debug__":Str))=ao)(he:jj (e::es) X.env=(ao,eval e X.env)::jj es X.env)(ij:(ux pos (jj es X.env)).any (·.1)=ao) :
  bY X (.Call (.Name x p) (e::es) [] pos) (EA C sp dd EX t):=by
 intro ψ s σ H Q I h;let⟨ρ,G,R,sr,g,q,kk⟩:=h;refine yw (qF I hg hm ?_ gS);refine N5 (h₀:=X.base) I.ok.mod.oC M.kp (dH (ha pos ψ s σ H (λvs H1=>Ts H H1/\∃ds G1,cW X.K H1 ds vs/\HR X.K H1 G1/\∀x,G1 x=bh->sp (.ref x::(ds++dd)) (aC G1 x (.ins C [])) (λv G2=>v=.ag/\R (.ref x) G2) (EX ρ)) I ⟨ρ,G,_,sr,g,q,λvs H1 ds G1 t1 r1 g1 q1=>⟨t1,ds,G1,r1,g1,q1⟩⟩) λus s1 ⟨vs,H1,I1,r,t1,ds,G1,r1,g1,q1⟩=>⟨I1.de,?_⟩) he ij;exact Uu M F hr hb hd fc hx I1 (sr.mono t1) g1 r r1 q1 λv H' d G' t2=>kk v H' d G' (t1.trans t2)
def atQ(M:Mk X.K C f)(F:c7 qt X.prog X.w X.K X.mg X.base (m6 X.prog X.w) k f fd ps (cT X.K sp))(hr:lB qt (k+1) X.A)(hg:Gl X x)(hm:X.mg x=aj (.ref C))(hb:Binds X.K fd ps ds)(hd:Vals b7 ds)(fc:∀H,cW X.K H dd b7)(hx:nI X EX)
  (gS:(x==("__debug__":Str))=ao):bY X (.Call (.Name x p) [] [] pos) (EA C sp dd EX m9):=by
 intro ψ s σ H Q I h;let⟨ρ,G,R,sr,g,q,kk⟩:=h;refine yw (qF I hg hm ?_ gS);exact NV I.de M.kp (Uu (us:=[]) (vs:=[]) (ds2:=[]) M F hr hb hd fc hx I sr g .nil .nil q λv H' d G' t2=>kk v H' d G' t2)
end
end
section
section
end
section
end
section
end
section
end
end
section
abbrev Lk:D->Option Key
 |.int i=>aj (.inl i)
 |.str x=>aj (.inr x)
 |_=>bh
abbrev Ez:List D->Option (List Key)
 |[]=>aj []
 |d::r=>match Lk d,Ez r with
  |some k,aj ks=>aj (k::ks)
  |_,_=>bh
abbrev xX:D->Option DK
 |.int i=>aj (.inl (.inl i))
 |.str x=>aj (.inl (.inr x))
 |.tup ds=>(match Ez ds with
  |some ks=>aj (.inr ks)
  |none=>bh)
 |_=>bh
abbrev pY:DK->Bool
 |.inl _=>ao
 |.inr _=>ak
section
variable{κ:Type}[DecidableEq κ]{α:Type}
abbrev aJ:List (κ×α)->κ->Option α
 |[],_=>bh
 |p::r,k=>if p.1=k then aj p.2 else aJ r k
abbrev cM(kvs:List (κ×α))(k:κ)(v:α):List (κ×α):=if(aJ kvs k).isSome=ak then kvs.map (λkv=>if kv.1=k then(kv.1,v)else kv)else kvs++[(k,v)]
abbrev bK(kvs:List (κ×α))(k:κ):List (κ×α):=kvs.filter λkv=>!decide (kv.1=k)
end
variable{v:V}
def Sj{K:Fg}{k:Key}(r:RD K H d v)(e:Lk d=aj k):v=kV k:=by
 cases r<;>first
  |(cases e;rfl)
  |cases e
private theorem To{K:Fg}:∀{ds:List D}{vs:List V}{ks:List Key},cW K H ds vs->Ez ds=aj ks->vs=ks.map kV
 |_,_,_,.nil,e=>by cases e;rfl
 |d::ds,v::vs,ks,.cons h r,e=>by
  unfold Ez at e;split at e
  .rename_i k ks' e1 e2;cases e;rw[Sj h e1,To r e2];rfl
  .cases e
@[simp]def uW{κ:Type}(K:Fg)(H:Hp)(f:κ->DK):List (DK×D)->List (κ×V)->Prop:=c6 λp q=>p.1=f q.1/\RD K H p.2 q.2
section
variable{κ:Type}[DecidableEq κ]{K:Fg}
def val_two(hf:∀a b,f a=f b->a=b){k:κ}:∀{kvs:List (DK×D)}{xs:List (κ×V)},uW K H f kvs xs->(∀d,aJ kvs (f k)=aj d->∃v,ir xs k=aj v/\RD K H d v)/\(aJ kvs (f k)=bh->ir xs k=bh)
 |_,_,.nil=>⟨λd e=>(nomatch e),λ_=>rfl⟩
 |p::kvs,q::xs,.cons h r=>by
  let⟨h1,h2⟩:=h;by_cases c:q.1=k
  .have c2:p.1=f k:=by rw[h1,c]
   unfold aJ;rw[if_pos c2,IW c];exact⟨λd e=>by cases e;exact⟨_,rfl,h2⟩,λe=>(nomatch e)⟩
  .have c2:¬ p.1=f k:=λz=>c (hf _ _ (h1.symm.trans z));unfold aJ;rw[if_neg c2,IV c];exact val_two hf r
def atU(hf:∀a b,f a=f b->a=b){k:κ}(t:uW K H f kvs xs):(aJ kvs (f k)).isSome=(ir xs k).isSome:=by
 have z:=val_two hf (k:=k) t;cases e:aJ kvs (f k)with
 |none=>rw[z.2 e];rfl
 |some d=>let⟨v,e2,_⟩:=z.1 d e;rw[e2];rfl
def Si{g:DK×D->DK×D}{h:κ×V->κ×V}(gh:∀p q,p.1=f q.1/\RD K H p.2 q.2->(g p).1=f (h q).1/\RD K H (g p).2 (h q).2):∀{kvs:List (DK×D)}{xs:List (κ×V)},uW K H f kvs xs->uW K H f (kvs.map g) (xs.map h)
 |_,_,.nil=>.nil
 |_,_,.cons z r=>.cons (gh _ _ z) (Si gh r)
def Tn{p:DK×D}{q:κ×V}(z:p.1=f q.1/\RD K H p.2 q.2):∀{kvs:List (DK×D)}{xs:List (κ×V)},uW K H f kvs xs->uW K H f (kvs++[p]) (xs++[q])
 |_,_,.nil=>.cons z .nil
 |_,_,.cons y r=>.cons y (Tn z r)
def EO(hf:∀a b,f a=f b->a=b){k:κ}(rd:RD K H d v)(t:uW K H f kvs xs):uW K H f (cM kvs (f k) d) (putK xs k v):=by
 unfold cM putK;rw[NG,atU hf t];split
 ·refine Si ?_ t;rintro p q ⟨h1,h2⟩;by_cases c:q.1=k
  .rw[if_pos (show p.1=f k by rw[h1,c]),if_pos c];exact⟨h1,rd⟩
  .rw[if_neg (show ¬ p.1=f k from λz=>c (hf _ _ (h1.symm.trans z))),if_neg c];exact⟨h1,h2⟩
 .exact Tn (p:=(f k,d)) (q:=(k,v)) ⟨rfl,rd⟩ t
end
def kY(a b:Key)(h:(Sum.inl a:DK)=.inl b):a=b:=by cases h;rfl
def qJ(a b:List Key)(h:(Sum.inr a:DK)=.inr b):a=b:=by cases h;rfl
abbrev sW(x y:D)(G:Gp)(P:bw->Bool->List (DK×D)->DK->Prop):Prop:=match x with
 |.ref a=>(match G a,xX y with
  |some (.aZ t kvs),aj k=>pY k=t/\P a t kvs k
  |_,_=>False)
 |_=>False
abbrev Ag(K:Fg)(H:Hp)(a:bw)(vy:V)(kvs:List (DK×D))(k:DK):Prop :=
 (∃k' xs,k=.inl k'/\H a=aj (.dK xs)/\uW K H .inl kvs xs/\vy=kV k')∨∃ks xs b,k=.inr ks/\H a=aj (.dT xs)/\uW K H .inr kvs xs/\vy=.ref b/\H b=aj (.tup (ks.map kV))
private theorem HF{K:Fg}{k:DK}(ry:RD K H y vy)(e:xX y=aj k):(∃k',k=.inl k'/\vy=kV k')∨∃ks b,k=.inr ks/\vy=.ref b/\H b=aj (.tup (ks.map kV)):=by
 cases ry with
 |int i=>cases e;exact .inl ⟨_,rfl,rfl⟩
 |str x=>cases e;exact .inl ⟨_,rfl,rfl⟩
 |@tup a xs ds hq r e0 =>
  have e':(match Ez ds with
   |some ks=>aj (Sum.inr ks:DK)
   |none=>bh)=aj k:=e
  split at e'
  .rename_i ks e1;cases e';have:=To r e1;subst this;exact .inr ⟨ks,a,rfl,rfl,e0⟩
  .cases e'
 |_=>cases e
private theorem rD{K:Fg}{x:D}(rx:RD K H x vx)(ry:RD K H y vy)(g:HR K H G)(h:sW x y G P) :
  ∃a kvs k,x=.ref a/\vx=.ref a/\G a=aj (.aZ (pY k) kvs)/\xX y=aj k/\P a (pY k) kvs k/\Ag K H a vy kvs k:=by
 unfold sW at h;split at h
 .rename_i a;split at h
  .rename_i t kvs k e1 e2;let⟨rfl,h⟩:=h;cases rx;refine⟨a,kvs,k,rfl,rfl,e1,e2,h,?_⟩;rcases g a _ e1 with⟨z,xs,e3,r⟩|⟨z,xs,e3,r⟩
   .rcases HF ry e2 with⟨k',rfl,rfl⟩|⟨ks,b,rfl,_⟩
    .exact .inl ⟨k',xs,rfl,e3,r,rfl⟩
    .cases z
   .rcases HF ry e2 with⟨k',rfl,rfl⟩|⟨ks,b,rfl,rfl,eb⟩
    .cases z
    .exact .inr ⟨ks,xs,b,rfl,e3,r,rfl,eb⟩
  .exact h.elim
 .exact h.elim
def Ag.get{K:Fg}{a:bw}{k:DK}(h:Ag K H a vy kvs k):(∀d,aJ kvs k=aj d->∃v,i0 H a vy (aj v)/\RD K H d v)/\(aJ kvs k=bh->i0 H a vy bh):=by
 rcases h with⟨k',xs,rfl,e,r,rfl⟩|⟨ks,xs,b,rfl,e,r,rfl,eb⟩
 .have z:=val_two kY (k:=k') r;exact⟨λd e2=>(z.1 d e2).elim λv q=>⟨v,by rw[←q.1];exact .k e,q.2⟩,λe2=>by rw[←z.2 e2];exact .k e⟩
 .have z:=val_two qJ (k:=ks) r;exact⟨λd e2=>(z.1 d e2).elim λv q=>⟨v,by rw[←q.1];exact .t e eb,q.2⟩,λe2=>by rw[←z.2 e2];exact .t e eb⟩
def Ag.any{K:Fg}{a:bw}{k:DK}(h:Ag K H a vy kvs k):∃o,i0 H a vy o/\o.isSome=(aJ kvs k).isSome/\∀d v,RD K H d v->RD K H ((aJ kvs k).getD d) (o.getD v):=by
 have z:=h.get;cases e:aJ kvs k with
 |none=>exact⟨bh,z.2 e,rfl,λd v r=>r⟩
 |some d=>let⟨v,g,r⟩:=z.1 d e;exact⟨aj v,g,rfl,λ_ _ _=>r⟩
def Ag.put{K:Fg}{a:bw}{kvs:List (DK×D)}{k:DK}(g:HR K H G)(h:Ag K H a vy kvs k)(rv:RD K H d v)(hl:kvs.length<dg):∃H',zw H a vy v H'/\Ts H H'/\HR K H' (aC G a (.aZ (pY k) (cM kvs k d))):=by
 rcases h with⟨k',xs,rfl,e,r,rfl⟩|⟨ks,xs,b,rfl,e,r,rfl,eb⟩
 .have tt:Ts H (upd H a (.dK (putK xs k' v))):=.turn e (λ_ z=>nomatch z) (λ_ _ z=>nomatch z);exact⟨_,.k e (by rw[←r.length];exact hl),tt,g.turn (u:=.aZ ao _) tt (.inl ⟨rfl,_,aK,(EO kY rv r).imp λ_ _ q=>⟨q.1,q.2.mono tt⟩⟩)⟩
 .have tt:Ts H (upd H a (.dT (putK xs ks v))):=.turn e (λ_ z=>nomatch z) (λ_ _ z=>nomatch z);exact⟨_,.t e eb (by rw[←r.length];exact hl),tt,g.turn (u:=.aZ ak _) tt (.inr ⟨rfl,_,aK,(EO qJ rv r).imp λ_ _ q=>⟨q.1,q.2.mono tt⟩⟩)⟩
abbrev sP(G:Gp)(a:bw):Option (Bool×List (DK×D)):=match G a with
 |some (.aZ t kvs)=>aj (t,kvs)
 |some (.du _ t kvs)=>aj (t,kvs)
 |_=>bh
private theorem atV{K:Fg}{a:bw}{t:Bool}(g:HR K H G)(e:sP G a=aj (t,kvs)) :
  (t=ao/\∃xs:List (Key×V),Rd H a (.dK xs)/\uW K H .inl kvs xs)∨(t=ak/\∃xs:List (List Key×V),Rd H a (.dT xs)/\uW K H .inr kvs xs):=by
 unfold sP at e;split at e
 .rename_i t' OC q;cases e;rcases g a _ q with⟨z,xs,e2,tw⟩|⟨z,xs,e2,tw⟩
  .exact .inl ⟨z,xs,.inl e2,tw⟩
  .exact .inr ⟨z,xs,.inl e2,tw⟩
 .rename_i o t' OC q;cases e;rcases g a _ q with⟨z,xs,e2,tw⟩|⟨z,xs,e2,tw⟩
  .exact .inl ⟨z,xs,.inr ⟨o,e2⟩,tw⟩
  .exact .inr ⟨z,xs,.inr ⟨o,e2⟩,tw⟩
 .cases e
abbrev Ey(x y:D)(G:Gp)(P:List (DK×D)->DK->Prop):Prop:=match x with
 |.ref a=>(match sP G a,xX y with
  |some (t,kvs),aj k=>pY k=t/\P kvs k
  |_,_=>False)
 |_=>False
private theorem aq7{K:Fg}{x:D}(rx:RD K H x vx)(ry:RD K H y vy)(g:HR K H G)(h:Ey x y G P) :
  ∃a kvs k,x=.ref a/\vx=.ref a/\P kvs k/\∀d,aJ kvs k=aj d->∃v,i0 H a vy (aj v)/\RD K H d v:=by
 unfold Ey at h;split at h
 .rename_i a;split at h
  .rename_i t kvs k e1 e2;let⟨rfl,h⟩:=h;cases rx;refine⟨a,kvs,k,rfl,rfl,h,λd ed=>?_⟩;rcases atV g e1 with⟨z,xs,e3,r⟩|⟨z,xs,e3,r⟩
   .rcases HF ry e2 with⟨k',rfl,rfl⟩|⟨ks,b,rfl,_⟩
    .obtain⟨v,e4,rv⟩:=(val_two kY (k:=k') r).1 d ed;exact⟨v,.inl ⟨xs,k',e3,rfl,e4.symm⟩,rv⟩
    .cases z
   .rcases HF ry e2 with⟨k',rfl,rfl⟩|⟨ks,b,rfl,rfl,eb⟩
    .cases z
    .obtain⟨v,e4,rv⟩:=(val_two qJ (k:=ks) r).1 d ed;exact⟨v,.inr ⟨xs,ks,b,e3,rfl,eb,e4.symm⟩,rv⟩
  .exact h.elim
 .exact h.elim
abbrev j4:R3:=λx y G R=>Ey x y G λkvs k=>match aJ kvs k with
 |some d=>R d G
 |none=>False
abbrev D8:R3:=λx y G R=>sW y x G λ_ _ kvs k=>R (.bl (aJ kvs k).isSome) G
abbrev Q4:R3:=λx y G R=>sW y x G λ_ _ kvs k=>R (.bl (!(aJ kvs k).isSome)) G
section
variable{X:Cx}{o:ig}{to ti tv te tf:bC}{pos:Pos}
private theorem aML(hu:X.A.units+64<qg)(ho:bY X o to)(hi:bY X i ti)(hs:GU i):bY X (.Subscript o i pos) (aG j4 to ti):=by
 refine PE.imp (Zr ⋯ ho hi hs) λσ H Q h=>?_;let⟨ρ,G,R,s,g,t,k⟩:=h;refine⟨ρ,G,_,s,g,t,λvx H1 x G1 t1 rx g1 t'=>?_⟩;refine⟨ρ,G1,_,s.mono t1,g1,t',λvy H2 y G2 t2 ry g2 fo=>?_⟩;let⟨a,kvs,kk,rfl,rfl,q,dd⟩:=aq7 (rx.mono t2) ry g2 fo;split at q
 .rename_i d e2;let⟨v,gg,rv⟩:=dd d e2;exact⟨a,v,rfl,gg,k v H2 d G2 (t1.trans t2) rv g2 q⟩
 .exact q.elim
def aMM(hu:X.A.units+64<qg):rA X (qb .In) D8:=yI λψ s σ H x y vx vy u v G R Q I rx ry ru rv g q k=>by
 let⟨a,kvs,kk,rfl,rfl,e1,_,q,dd⟩:=rD ry rx g q;let⟨o,gg,eo,_⟩:=dd.any;obtain rfl:v=au.ref a:=rv;exact aQ0 ⋯ I gg ru λs' I'=>⟨.bl o.isSome,H,I',rfl,k _ H (.bl _) G (.refl H) (.bl _) g (by rw[eo];exact q)⟩
def aG9(hu:X.A.units+64<qg):rA X (qb .NotIn) Q4:=yI λψ s σ H x y vx vy u v G R Q I rx ry ru rv g q k=>by
 let⟨a,kvs,kk,rfl,rfl,e1,_,q,dd⟩:=rD ry rx g q;let⟨o,gg,eo,_⟩:=dd.any;obtain rfl:v=au.ref a:=rv;exact Zs ⋯ I gg ru λs' I'=>⟨.bl (!o.isSome),H,I',rfl,k _ H (.bl _) G (.refl H) (.bl _) g (by rw[eo];exact q)⟩
abbrev B4(x y v:D)(F:eU)(ρ:bL)(G:Gp):Prop:=sW x y G λa t kvs k=>kvs.length<dg/\F.nx ρ (aC G a (.aZ t (cM kvs k v)))
abbrev As(to ti tv:bC):pI:=λF ρ G=>tv ρ G λv G1=>to ρ G1 λx G2=>ti ρ G2 λy G3=>B4 x y v F ρ G3
def aGA(hu:X.A.units+64<qg)(ho:bY X o to)(hi:bY X i ti)(hv:bY X value tv)(hs:md value (aj (.Subscript o i pos')) pos.line X.env=pure ao):gf X (.Assign [.Subscript o i pos'] value pos) (As to ti tv):=by
 refine PS.imp (Zq ⋯ ho hi hv hs) λF σ H h=>?_;let⟨ρ,G,E,s,g,t,u⟩:=h;refine⟨ρ,G,_,s,g,t,λv H1 d G1 t1 rv g1 t'=>?_⟩;refine⟨ρ,G1,_,s.mono t1,g1,t',λvx H2 x G2 t2 rx g2 fo=>?_⟩;refine⟨ρ,G2,_,s.mono (t1.trans t2),g2,fo,λvy H3 y G3 t3 ry g3 t4=>?_⟩;let⟨a,kvs,kk,rfl,rfl,e1,_,⟨hl,q⟩,dd⟩:=rD (rx.mono t3) ry g3 t4;let⟨H4,pp,tt,g4⟩:=dd.put g3 (rv.mono (t2.trans t3)) hl;exact⟨a,H4,rfl,pp,u.nx ρ _ σ _ (s.mono (((t1.trans t2).trans t3).trans tt)) g4 q⟩
abbrev u9(x:D)(G:Gp):Prop:=match x with
 |.ref a=>(match G a with
  |some (.aZ _ _)=>True
  |_=>False)
 |_=>False
private theorem Ut{K:Fg}{x:D}(rx:RD K H x vx)(g:HR K H G)(h:u9 x G):∃a,x=.ref a/\vx=.ref a/\qS H a:=by
 unfold u9 at h;split at h
 .rename_i a;split at h
  .rename_i t kvs e;cases rx;rcases g a _ e with⟨_,xs,e2,_⟩|⟨_,xs,e2,_⟩
   .exact⟨a,rfl,rfl,.inl ⟨xs,.inl e2⟩⟩
   .exact⟨a,rfl,rfl,.inr ⟨xs,.inl e2⟩⟩
  .exact h.elim
 .exact h.elim
abbrev sX(to te tf:bC):bC:=λρ G R=>to ρ G λx G1=>u9 x G1/\te ρ G1 λy G2=>tf ρ G2 λz G3=>sW x y G3 λ_ _ kvs k=>R ((aJ kvs k).getD z) G3
def YY(hu:X.A.units+64<qg)(ho:bY X o to)(he:bY X e te)(hf:bY X f tf)(m:M2 X o "get" apos e f ah):bY X (.Call (.Attribute o "get" apos) [e,f] [] ah) (sX to te tf):=by
 refine PE.imp (asB ⋯ ho he hf m) λσ H Q h=>?_;let⟨ρ,G,R,s,g,t,k⟩:=h;refine⟨ρ,G,_,s,g,t,λvx H1 x G1 t1 rx g1 t'=>?_⟩;let⟨jn,t'⟩:=t';let⟨a,rfl,rfl,ia⟩:=Ut rx g1 jn;refine⟨a,rfl,ia,?_⟩;refine⟨ρ,G1,_,s.mono t1,g1,t',λvy H2 y G2 t2 ry g2 fo=>?_⟩;refine⟨ρ,G2,_,s.mono (t1.trans t2),g2,fo,λvz H3 z G3 t3 rz g3 t4=>?_⟩;let⟨a',kvs,kk,e,_,e1,_,q,dd⟩:=rD (rx.mono (t2.trans t3)) (ry.mono t3) g3 t4;cases e;let⟨o,gg,eo,hd⟩:=dd.any;exact⟨o,gg,k _ H3 _ G3 ((t1.trans t2).trans t3) (hd z vz rz) g3 q⟩
end
end
section
section
variable{prog:mz}{w:jr}{K:Type}[DecidableEq K]{knd:HeapKind prog w K}{A:jf}{s:cg}{a:bw}{k:K}{xs:List (K×bw×au)}
def aGB{xs:List (K×bw×au)}{o:Obj}{es ep}(ba:knd.is s.heap k a)(ho:s.heap.get? d=aj o)(hc:o.ExactDict)(hd:o.data=.dict es ep)(he:es.toList=xs.map (entryOfKey knd))(oS:∀x∈xs,knd.is s.heap x.1 x.2.1)(hn:(xs.map (·.1)).Nodup)(yY:∀(j:Nat)(p:bw×au),xs[j]?≠aj (k,p)) :
  (s.heap.update d (Obj.mapDictKeys (·.push ⟨knd.hash k,.ref a,v⟩))).DictOfH knd d (storedH xs k a v):=by
 have nk:k∉xs.map (·.1):=not_mem_keys_of_get yY;refine⟨_,_,ep+1,AB _ ho (Obj.isFreed_of_dict (Obj.data_mapDictKeys hd _)),hc.mapDictKeys _,Obj.data_mapDictKeys hd _,?_,?_,?_⟩<;>rw[storedH_new (atKey_none_of_get yY)]
 .simp[he,entryOfKey]
 .intro x hx;rcases qj.mp hx with hx|hx
  .exact knd.keeps (oS x hx) ho hd (kh.update ..)
  .rw[jw]at hx;subst hx;exact knd.keeps ba ho hd (kh.update ..)
 .rw[jk,yq];refine⟨hn,by simp,λx hx y hy e=>?_⟩;rw[List.map_singleton,jw]at hy;exact nk (by rw[←show y=k from hy,←e];exact hx)
def aGC(hu:knd.room A)(ba:knd.is s.heap k a)(hm:s.heap.DictOfH knd d xs)(hsz:xs.length<=dg)
  (h1:∀p,atKey xs k=aj p->Q p.2 {s with toks:=s.toks+knd.draws k})
  (h2:atKey xs k=bh->∀h',h'.DictOfH knd d (storedH xs k a v)->kh d s.heap h'->Q v {s with heap:=h',toks:=s.toks+knd.draws k}):dj (dz prog w) A (dictSetDefault d (.ref a) v) Q E s:=by
 let⟨o,es,ep,ho,hc,hd,he,oS,hn⟩:=hm;unfold dictSetDefault;refine vp (aq (knd.pyHash hu ba (aq (wpAny_dictFind_heap (s:={s with toks:=s.toks+knd.draws k}) hu ba ho hd he oS hn ?_ ?_))))
 .intro yY;refine aq (kQ (aq (wpAny_updateDictKeys (s:={s with toks:=s.toks+knd.draws k}) ho hd (cj (h2 (atKey_none_of_get yY) _ (aGB ba ho hc hd he oS hn yY) (kh.update ..))) (hz:=by have e:=size_of_entries he;omega))))
 .intro j p hj;refine aq (tm (s:={s with toks:=s.toks+knd.draws k}) ho hd ?_);rw[entry_at he j,hj];exact aq (kQ (cj (h1 p (atKey_of_get hn hj))))
def abN(hu:knd.room A.in1)(ba:knd.is s.heap k a)(hs:(d==um)=ao)(hm:s.heap.DictOfH knd d xs)(hsz:xs.length<=dg)
  (h1:∀p,atKey xs k=aj p->Q p.2 {s with toks:=s.toks+knd.draws k})
  (h2:atKey xs k=bh->∀h',h'.DictOfH knd d (storedH xs k a v)->kh d s.heap h'->Q v {s with heap:=h',toks:=s.toks+knd.draws k}):dj (dz prog w) A (call (.builtin "dict.setdefault") [.ref d,.ref a,v]) Q E s:=by
 refine call_meetsIn (S:=λA' R s'=>knd.room A'.in1/\s'=s/\(∀p,atKey xs k=aj p->R (.ok (.ret p.2)) {s with toks:=s.toks+knd.draws k})/\(atKey xs k=bh->∀h',h'.DictOfH knd d (storedH xs k a v)->kh d s.heap h'->R (.ok (.ret v)) {s with heap:=h',toks:=s.toks+knd.draws k})) PySem.F.slot_dict_setdefault hm.typeIs PySem.F.entry_dict_setdefault (PySem.F.args_dict_setdefault_3 _ _ _) (.of_wp ?_) ⟨hu,rfl,h1,h2⟩;rintro A' R s' ⟨ro,e,g1,g2⟩;subst e;unfold Builtin.«dict.setdefault»;refine aq ?_;unfold Builtin.Dict.keyAndDefault;refine aq (wpAny_notOrdered_dict hm.typeIs ?_);show dj _ _ (pure (d,au.ref a,aj v)) _ _ _;refine cj ?_;show dj _ _ (if(d==um)=ak then _ else(dictSetDefault d (.ref a) v >>= _)) _ _ _;rw[if_neg (by rw[hs];exact ql)];exact aq (aGC ro ba hm hsz (λp hp=>cj ⟨p.2,rfl,g1 p hp⟩) λhn h' Kg kK=>cj ⟨v,rfl,g2 hn h' Kg kK⟩)
abbrev oO(xs:List (K×bw×au))(k:K):List (K×bw×au):=xs.filter λx=>decide (x.1≠k)
def ahF{xs:List (K×bw×au)}(hn:(xs.map (·.1)).Nodup){j:Nat}(hj:xs[j]?=aj (k,p)):oO xs k=xs.eraseIdx j:=by
 induction xs generalizing j with
 |nil=>simp at hj
 |cons x r ih =>
  rw[jc,yc]at hn;cases j with
  |zero =>
   simp at hj;subst hj
   have:∀y∈r,decide (y.1≠k)=ak:=λy hy=>by
    simp only[decide_eq_true_eq];intro e;exact hn.1 (dh.mpr ⟨y,hy,e⟩)
   rw[oO,xo,if_neg (by simp),List.filter_eq_self.mpr this];rfl
  |succ j =>
   have dA:r[j]?=aj (k,p):=by simpa using hj
   have ne:x.1≠k:=λe=>hn.1 (by rw[e];exact dh.mpr ⟨(k,p),jm dA,rfl⟩);have:=ih hn.2 dA;simp[oO,xo,ne]at this ⊢;exact this
variable{p:bw×au}
def YX(hu:knd.room A)(ba:knd.is s.heap k a)(hm:s.heap.DictOfH knd d xs)(hsz:xs.length<=dg)(hp:atKey xs k=aj p)
  (h:∀h' e,e.key=.ref p.1->e.val=p.2->h'.DictOfH knd d (oO xs k)->kh d s.heap h'->Q (aj e) {s with heap:=h',toks:=s.toks+knd.draws k}):dj (dz prog w) A (Builtin.Dict.takeOut d (.ref a)) Q E s:=by
 let⟨o,es,ep,ho,hc,hd,he,oS,hn⟩:=hm;unfold Builtin.Dict.takeOut;refine vp (aq (knd.pyHash hu ba (aq (wpAny_dictFind_heap (s:={s with toks:=s.toks+knd.draws k}) hu ba ho hd he oS hn ?_ ?_))))
 .intro yY;rw[atKey_none_of_get yY]at hp;cases hp
 .intro j q hj;rw[atKey_of_get hn hj]at hp;cases hp;refine aq (tm (s:={s with toks:=s.toks+knd.draws k}) ho hd ?_);rw[entry_at he j,hj];refine aq (wpAny_updateDictKeys (s:={s with toks:=s.toks+knd.draws k}) ho hd (cj (h _ _ rfl rfl ⟨_,_,ep+1,AB _ ho (Obj.isFreed_of_dict (Obj.data_mapDictKeys hd _)),hc.mapDictKeys _,Obj.data_mapDictKeys hd _,?_,?_,?_⟩ (kh.update ..))) (hz:=by have e:=size_of_entries he;omega) (hf:=?_))
  .rw[ahF hn hj];have X4:j<es.size:=by rw[size_of_entries he];exact(iz.mp hj).1
   have em:∀(l:List (K×bw×au))(j:Nat),(l.map (entryOfKey knd)).eraseIdx j=(l.eraseIdx j).map (entryOfKey knd):=by
    intro l
    induction l with
    |nil=>intro j;rfl
    |cons x r ih=>intro j;cases j with
     |zero=>rfl
     |succ j=>simp[ih]
   simp[N7,X4,he,em]
  .intro x hx;exact knd.keeps (oS x (kj.mp hx).1) ho hd (kh.update ..)
  .exact(IQ.map _).nodup hn
  .show(es.eraseIdxIfInBounds j).size<=es.size+1;unfold N7;split<;>simp<;>omega
def aGD(hu:knd.room A.in1)(ba:knd.is s.heap k a)(hm:s.heap.DictOfH knd d xs)(hsz:xs.length<=dg)(hp:atKey xs k=aj p)
  (h:∀h',h'.DictOfH knd d (oO xs k)->kh d s.heap h'->Q p.2 {s with heap:=h',toks:=s.toks+knd.draws k}):dj (dz prog w) A (call (.builtin "dict.pop") [.ref d,.ref a]) Q E s:=by
 refine call_meetsIn (S:=λA' R s'=>knd.room A'.in1/\s'=s/\∀h',h'.DictOfH knd d (oO xs k)->kh d s.heap h'->R (.ok (.ret p.2)) {s with heap:=h',toks:=s.toks+knd.draws k}) PySem.F.slot_dict_pop hm.typeIs PySem.F.entry_dict_pop (PySem.F.args_dict_pop_2 _ _) (.of_wp ?_) ⟨hu,rfl,h⟩;rintro A' R s' ⟨ro,e,g⟩;subst e;have lh:xs≠[]:=λe=>by subst e;cases hp
 let⟨o,es,ep,ho,hc,hd,he,oS,hn⟩:=id hm;unfold Builtin.«dict.pop»;refine aq ?_;unfold Builtin.Dict.keyAndDefault;refine aq (wpAny_notOrdered_dict hm.typeIs ?_);show dj _ _ (pure (d,au.ref a,bh)) _ _ _;refine cj ?_
 have e0:es.isEmpty=ao:=by
  have:=size_of_entries he;rw[Array.isEmpty_eq_false_iff];intro z;subst z;exact lh (List.length_eq_zero_iff.mp this.symm)
 show dj _ _ (dictEntries d >>= _) _ _ _;refine aq (tm ho hd ?_);rw[e0];refine aq (cj ?_);show dj _ _ (Builtin.Dict.takeOut d (au.ref a) >>= _) _ _ _;refine aq (YX ro ba hm hsz hp λh' e e1 e2 dd hs=>?_);refine aq (wpAny_letGo (cj ⟨_,rfl,?_⟩));rw[e2];exact g h' dd hs
end
def KT.drop(r:KT H kvs xs)(k:List Key):KT H (yF kvs k) (oO xs k):=by
 unfold yF oO
 induction r with
 |nil=>exact .nil
 |@cons p q ps qs h t ih =>
  rw[xo,xo];by_cases e:p.1=k
  .rw[if_neg (by simp[e]),if_neg (by simp[h.1.symm.trans e])];exact ih
  .rw[if_pos (by simp[e]),if_pos (by simp;exact λz=>e (h.1.trans z))];exact .cons h ih
def IM{κ:Type}[DecidableEq κ]{K:Fg}{f:κ->DK}(hf:∀a b,f a=f b->a=b){k:κ}:∀{kvs:List (DK×D)}{xs:List (κ×V)},uW K H f kvs xs->uW K H f (bK kvs (f k)) (yF xs k)
 |_,_,.nil=>.nil
 |p::kvs,q::xs,.cons h r=>by
  unfold bK yF;rw[xo,xo];by_cases c:q.1=k
  .rw[if_neg (by simp[show p.1=f k by rw[h.1,c]]),if_neg (by simp[c])];exact IM hf r
  .rw[if_pos (by simp;exact λz=>c (hf _ _ (h.1.symm.trans z))),if_pos (by simp[c])];exact .cons h (IM hf r)
abbrev sk(r:i6)(to:bC)(t:sJ):bC:=λρ G R=>to ρ G λx G1=>u9 x G1/\t ρ G1 λxs G2=>r x xs G2 R
section
variable{X:Cx}
def Nd{o:ig}{t:sJ}{apos ah:Pos}{id:String}{r3:i6}(slot:Slot "dict" name id)(Ds:typeOf (.builtin id)=pure (.type "method_descriptor"))(hm:m4 X id r3)(ho:bY X o to)(ha:ff X (e::es) t)
  (br:xq o name X.env (eval o X.env)=eval o X.env)
  (AO:((ux ah (jj (e::es) X.env)).all (λx=>!x.1)&&(backToKw ah (pV [] X.env)).all (λx=>x.1.isSome)
   &&decide ((e::es).length+([]:List iX).length+(if([]:List iX).isEmpty then 0 else 1)<30))=ak)
  (bp:(apos.endLine==ah.line)=ak)(hs:jj (e::es) X.env=(ao,eval e X.env)::jj es X.env)(eP:(ux ah (jj es X.env)).any (·.1)=ao) :
  bY X (.Call (.Attribute o name apos) (e::es) [] ah) (sk r3 to t):=by
 intro ψ s σ H Q I h;let⟨ρ,G,R,sr,g,q,kk⟩:=h;refine wpAny_Call_method_late br AO bp rfl (dH (ho ψ s σ H (λvx H1=>Ts H H1/\∃x G1,RD X.K H1 x vx/\HR X.K H1 G1/\u9 x G1/\t ρ G1 λxs G2=>r3 x xs G2 R) I ⟨ρ,G,_,sr,g,q,λv H1 x G1 t1 r1 g1 q1=>⟨t1,x,G1,r1,g1,q1⟩⟩) ?_);rintro v s1 ⟨vx,H1,I1,r1,t1,x,G1,rx,g1,ty,q1⟩;let⟨a,rfl,rfl,ia⟩:=Ut rx g1 ty;obtain rfl:v=au.ref a:=r1;let⟨h1,h2,_⟩:=EF I1 ia;refine⟨"dict",id,PySem.F.plainAttrs_dict,slot,Ds,h1,h2,?_⟩;have hA:=ha ah ψ s1 σ H1 (λvs H2=>Ts H1 H2/\∃xs G2,cW X.K H2 xs vs/\HR X.K H2 G2/\r3 (.ref a) xs G2 R) I1 ⟨ρ,G1,_,sr.mono t1,g1,q1,λvs H2 xs G2 t2 r2 g2 q2=>⟨t2,xs,G2,r2,g2,q2⟩⟩;rw[hs]at hA ⊢;refine Calls.callWith_builtin (by show(ao||(ux ah (jj es X.env)).any (·.1))=ao;rw[eP]<;>rfl) (Calls.evalArgs_plain ?_);exact dH hA (by rintro us s2 ⟨vs,H2,I2,r2,t2,xs,G2,rs,g2,q2⟩;exact hm ψ s2 σ H2 (.ref a) xs (.ref a) vs (.ref a) us G2 R Q I2 (.ref a) rs rfl r2 g2 q2 λv H' d G' t3=>kk v H' d G' ((t1.trans t2).trans t3))
abbrev p9:i6:=λx xs G R=>match xs with
 |[y,z]=>sW x y G λa t kvs k=>t=ak/\kvs.length<dg/\(match aJ kvs k with
  |some d=>R d G
  |none=>R z (aC G a (.aZ t (cM kvs k z))))
 |_=>False
private theorem aMN(hu:X.A.units+64<qg):m4 X "dict.setdefault" p9:=by
 intro ψ s σ H x xs vx vs u us G R Q I rx rs ru rv g q k;unfold p9 at q;split at q
 case h_2=>exact q.elim
 case h_1 y z =>
  cases rs with
  |cons ry rs =>
  cases rs with
  |@cons _ vz _ _ rz rs =>
  cases rs;cases rv with
  |cons A1 rv =>
  cases rv with
  |cons C7 rv =>
  cases rv;let⟨a,kvs,kk,rfl,rfl,e1,_,⟨ht,hl,q⟩,dd⟩:=rD rx ry g q;obtain rfl:u=au.ref a:=ru;rcases dd with⟨k',ys,rfl,_⟩|⟨ks,ys,b,rfl,e,r,rfl,eb⟩
  .cases ht
  .cases A1;let⟨z1,hd,ws,rel,dc⟩:=Ek I.af e;have hw:=val_two qJ (k:=ks) r;have hv:=rel.val ks;have lw:ws.length<=dg:=by rw[←Paired.length rel];exact z1
   refine abN (Az ⋯) (yG I.af eb) hd dc lw (λp hp=>?_) λhn h' Br hs=>?_
   .rw[hp]at hv;cases e2:aJ kvs (.inr ks)with
    |none=>rw[hw.2 e2]at hv;exact(show False from hv).elim
    |some d =>
     rw[e2]at q;let⟨v,e3,rd⟩:=hw.1 d e2;rw[e3]at hv;exact⟨v,H,I.tok _,hv,k v H d G (.refl H) rd g q⟩
   .rw[hn]at hv;cases e2:aJ kvs (.inr ks)with
    |some d =>
     let⟨v,e3,rd⟩:=hw.1 d e2;rw[e3]at hv;exact(show False from hv).elim
    |none =>
     rw[e2]at q;have tt:Ts H (upd H a (.dT (putK ys ks vz))):=.turn e (λ_ z=>nomatch z) (λ_ _ z=>nomatch z);let⟨q0,es,ep,hq,g2,g3,g4,_,g5⟩:=Br;have rq:∀v:V,(putK ys ks v).length<=dg:=λv=>by have:=sO ys ks v;rw[←r.length]at this;omega
     refine⟨_,_,vZ (t':=_) (ob:=.dT (putK ys ks vz)) I (by rw[e];exact True.intro) hs ⟨q0,hq⟩ ⟨rq _,hd,_,(rel.put ks eb C7).keeps λc zs ec=>?_,q0,es,ep,hq,g2,g3,g4,g5⟩,C7,k _ _ z _ tt (rz.mono tt) (g.turn (u:=.aZ ak _) tt (.inr ⟨rfl,_,aK,(EO qJ rz r).imp λ_ _ q=>⟨q.1,q.2.mono tt⟩⟩)) q⟩;rw[aP (Lr ec e (λz=>nomatch z))];exact ec
abbrev Cg:i6:=λx xs G R=>match xs with
 |[y]=>sW x y G λa t kvs k=>(match aJ kvs k with
  |some d=>R d (aC G a (.aZ t (bK kvs k)))
  |none=>False)
 |_=>False
private theorem aGF(hu:X.A.units+64<qg):m4 X "dict.pop" Cg:=by
 intro ψ s σ H x xs vx vs u us G R Q I rx rs ru rv g q k
 match xs,rs,q with
 |[],_,q=>exact q.elim
 |_::_::_,_,q=>exact q.elim
 |[y],.cons ry .nil,q =>
  cases rv with
  |cons A1 rv =>
  cases rv;let⟨a,kvs,kk,rfl,rfl,e1,_,q,dd⟩:=rD rx ry g q;obtain rfl:u=au.ref a:=ru;split at q
  .rename_i d e2;rcases dd with⟨k',ys,rfl,e,r,rfl⟩|⟨ks,ys,b,rfl,e,r,rfl,eb⟩
   .obtain⟨v,e3,rd⟩:=(val_two kY (k:=k') r).1 d e2;have tt:Ts H (upd H a (.dK (yF ys k'))):=.turn e (λ_ z=>nomatch z) (λ_ _ z=>nomatch z);exact aKV I e A1 e3 (.inl rfl) λw' s' I' gI=>⟨v,_,I',gI,k v _ d _ tt (rd.mono tt) (g.turn (u:=.aZ ao _) tt (.inl ⟨rfl,_,aK,(IM kY r).imp λ_ _ q=>⟨q.1,q.2.mono tt⟩⟩)) q⟩
   .obtain⟨v,e3,rd⟩:=(val_two qJ (k:=ks) r).1 d e2;cases A1;let⟨z1,hd,ws,rel,dc⟩:=Ek I.af e;have hv:=rel.val ks;rw[e3]at hv;have lw:ws.length<=dg:=by rw[←Paired.length rel];exact z1
    cases hp:atKey ws ks with
    |none=>rw[hp]at hv;exact(show False from hv).elim
    |some p =>
     rw[hp]at hv;have tt:Ts H (upd H a (.dT (yF ys ks))):=.turn e (λ_ z=>nomatch z) (λ_ _ z=>nomatch z);refine aGD (Az ⋯) (yG I.af eb) dc lw hp λh' Br hs=>?_;let⟨q0,es,ep,hq,g2,g3,g4,_,g5⟩:=Br;refine⟨v,_,vZ (t':=_) (ob:=.dT (yF ys ks)) I (by rw[e];exact True.intro) hs ⟨q0,hq⟩ ⟨qw (TQ ys ks) z1,hd,_,(rel.drop ks).keeps λc zs ec=>?_,q0,es,ep,hq,g2,g3,g4,g5⟩,hv,k v _ d _ tt (rd.mono tt) (g.turn (u:=.aZ ak _) tt (.inr ⟨rfl,_,aK,(IM qJ r).imp λ_ _ q=>⟨q.1,q.2.mono tt⟩⟩)) q⟩;rw[aP (Lr ec e (λz=>nomatch z))];exact ec
  .exact q.elim
abbrev Cf:List D->Gp->iW->Prop:=λxs G R=>match xs with
 |[.ref a]=>(match G a with
  |some (.aZ ao kvs)=>R (.int kvs.length) G
  |_=>False)
 |_=>False
private theorem aGG:jO X (.builtin "len") Cf:=by
 intro ψ s σ H xs vs us G R Q I rx rv g q k;unfold Cf at q;split at q
 .rename_i a;split at q
  .rename_i kvs e1;cases rx with
   |cons r1 rr =>
   cases rr;cases r1;cases rv with
   |cons rv rr =>
   cases rr;cases rv;rcases g a _ e1 with⟨_,ys,e,r⟩|⟨z,_⟩
   .refine aKW I (.inl e) λt s' I'=>⟨.int ys.length,H,I',⟨t,rfl⟩,k _ H (.int kvs.length) G (.refl H) (by rw[r.length];exact .int _) g q⟩
   .cases z
  .exact q.elim
 .exact q.elim
end
end
section
open PySem.W
section
variable{cmp:Nat->Nat->(Bool->cg->Prop)->cg->Prop}{I:cg->Prop}{kf:Nat->Int}
abbrev ky(kf:Nat->Int)(p:Array Nat)(i:Nat):Int:=kf (p.getD i 0)
abbrev Up(kf:Nat->Int)(p:Array Nat)(k:Nat):Prop:=∀i j,i<=j->j<k->ky kf p i<=ky kf p j
abbrev Down(kf:Nat->Int)(p:Array Nat)(k:Nat):Prop:=∀i j,i<j->j<k->ky kf p j<ky kf p i
abbrev k9(cmp:Nat->Nat->(Bool->cg->Prop)->cg->Prop)(I:cg->Prop)(kf:Nat->Int)(n:Nat):Prop:=∀i j C s,i<n->j<n->I s->(∀s',I s'->C (decide (kf i<kf j)) s')->cmp i j C s
structure Pm(n:Nat)(p:Array Nat):Prop where
 size:p.size=n
 perm:p.toList.Perm (qd n)
def Pm.lt{n:Nat}{p:Array Nat}(h:Pm n p){i:Nat}(hi:i<n):p.getD i 0<n:=by
 have hs:i<p.size:=by rw[h.size];exact hi
 have e:p.getD i 0=p[i]:=by simp[i5,hs]
 rw[e];exact zq.mp (h.perm.mem_iff.mp (by simp))
def Pm.inj{n:Nat}{p:Array Nat}(h:Pm n p){i j:Nat}(hi:i<n)(hj:j<n)(e:p.getD i 0=p.getD j 0):i=j:=by
 have hs:i<p.size:=by rw[h.size];exact hi
 have ht:j<p.size:=by rw[h.size];exact hj
 have nd:p.toList.Nodup:=(h.perm.nodup_iff).mpr List.nodup_range;have e1:p.getD i 0=p[i]:=by simp[i5,hs]
 have e2:p.getD j 0=p[j]:=by simp[i5,ht]
 rw[e1,e2]at e;have key:=uw.mp nd;have kK:i<p.toList.length:=by simpa using hs
 have Dt:j<p.toList.length:=by simpa using ht
 rcases Cy i j with c|c|c
 .exact absurd (by simpa using e) (key i j kK Dt c)
 .exact c
 .exact absurd (by simpa using e.symm) (key j i Dt kK c)
def oF{p q:Array Nat}{i j:Nat}(h:p[i]?=q[j]?):p.getD i 0=q.getD j 0:=by
 rw[Array.getD_eq_getD_getElem?,Array.getD_eq_getD_getElem?,h]
def Q3{p:Array Nat}{n k:Nat}(hn:n<=p.size)(hk:k<n):ky kf (kas_rev p 0 n) k=ky kf p (n - 1 - k):=by
 unfold ky kas_rev;have e:=getElem?_mirror_all (xs:=p) (i:=0) (j:=n) hn k;rw[if_pos ⟨qz _,hk⟩,uq]at e;rw[oF e]
def Pm.rev{n m:Nat}(h:Pm n p):Pm n (kas_rev p 0 m):=⟨by rw[kas_rev_size];exact h.size,((mirror_perm p 0 m _).toList).trans h.perm⟩
def Down.up{p:Array Nat}{n:Nat}(hn:n<=p.size)(h:Down kf p n):Up kf (kas_rev p 0 n) n:=λi j gN hj=>by
 rw[Q3 hn ⋯,Q3 hn hj];by_cases c:i=j
 .subst c;exact kR _
 .exact zp (h (n - 1 - j) (n - 1 - i) ⋯ ⋯)
def LP{n:Nat}(hc:k9 cmp I kf n)(P:Pm n p):∀(f a:Nat)(s:cg),1<=a->a+f<=n->Up kf p a->I s->(∀m s',a<=m->m<=a+f->Up kf p m->(m<a+f->ky kf p m<ky kf p (m - 1))->I s'->Q m s')->(kas_asc p f a).kasWp cmp Q s
 |0,a,s,h1,h2,u,i,h=>h a s (gw _) (gw _) u (λz=>absurd z (vo _)) i
 |f+1,a,s,h1,h2,u,i,h=>by
  show cmp (p.getD a 0) (p.getD (a - 1) 0) _ s;refine hc _ _ _ s (P.lt ⋯) (P.lt ⋯) i λs' i'=>?_;by_cases c:kf (p.getD a 0)<kf (p.getD (a - 1) 0)
  .rw[decide_eq_true c];dsimp only;rw[if_pos rfl];exact h a s' (gw _) ⋯ u (λ_=>c) i'
  .rw[decide_eq_false c];dsimp only;rw[if_neg (by decide)];refine LP hc P f (a+1) s' ⋯ ⋯ (λx y yB hy=>?_) i' λm s2 l1 l2 u2 l3 i2=>h m s2 ⋯ ⋯ u2 (λz=>l3 ⋯) i2;by_cases cy:y<a
   .exact u x y yB cy
   .have ey:y=a:=by omega
    subst ey;by_cases cx:x=y
    .subst cx;exact kR _
    .have:=u x (y - 1) ⋯ ⋯;have c':ky kf p (y - 1)<=ky kf p y:=by unfold ky;omega
     omega
def Sh{n:Nat}(hc:k9 cmp I kf n)(hd:∀i j,i<n->j<n->kf i=kf j->i=j)(P:Pm n p):∀(f a:Nat)(s:cg),2<=a->a+f<=n->Down kf p a->I s->(∀m s',a<=m->m<=a+f->Down kf p m->I s'->Q (p,m,0) s')->(kas_desc f p a 0).kasWp cmp Q s
 |0,a,s,h1,h2,u,i,h=>h a s (gw _) (gw _) u i
 |f+1,a,s,h1,h2,u,i,h=>by
  show cmp (p.getD a 0) (p.getD (a - 1) 0) _ s;refine hc _ _ _ s (P.lt ⋯) (P.lt ⋯) i λs' i'=>?_;by_cases c:kf (p.getD a 0)<kf (p.getD (a - 1) 0)
  .rw[decide_eq_true c];dsimp only;rw[if_pos rfl,if_neg ⋯];refine Sh hc hd P f (a+1) s' ⋯ ⋯ (λx y yB hy=>?_) i' λm s2 l1 l2 u2 i2=>h m s2 ⋯ ⋯ u2 i2;by_cases cy:y<a
   .exact u x y yB cy
   .have ey:y=a:=by omega
    subst ey;have c':ky kf p y<ky kf p (y - 1):=c;by_cases cx:x=y - 1
    .subst cx;exact c'
    .have:=u x (y - 1) ⋯ ⋯;omega
  .rw[decide_eq_false c];dsimp only;rw[if_neg (by decide)];show cmp (p.getD (a - 1) 0) (p.getD a 0) _ s';refine hc _ _ _ s' (P.lt ⋯) (P.lt ⋯) i' λs2 i2=>?_
   have ne:kf (p.getD a 0)≠kf (p.getD (a - 1) 0):=λz=>by
    have:=P.inj (i:=a) (j:=a - 1) ⋯ ⋯ (hd _ _ (P.lt ⋯) (P.lt ⋯) z);omega
   rw[decide_eq_true (show kf (p.getD (a - 1) 0)<kf (p.getD a 0) by omega)];dsimp only;rw[if_pos rfl];exact h a s2 (gw _) ⋯ u i2
def atZ{n:Nat}(hc:k9 cmp I kf n)(hd:∀i j,i<n->j<n->kf i=kf j->i=j)(h2:2<=n)(P:Pm n p){s:cg}(i:I s)(h:∀m q s',1<=m->m<=n->Pm n q->Up kf q m->I s'->Q (m,q) s'):(kas_count n p).kasWp cmp Q s:=by
 unfold kas_count;rw[KasT.kasWp_bind];refine LP hc P (n - 1) 1 s (gw _) ⋯ (λx y yB hy=>by have:x=y:=⋯;subst this;exact kR _) i λm s' l1 l2 u l3 i'=>?_;by_cases c:m=n
 .subst c;rw[if_pos (by simp)];exact h m p s' l1 ⋯ P u i'
 .rw[if_neg (by simpa using c)];by_cases c1:m>1
  .rw[if_pos c1];show cmp (p.getD 0 0) (p.getD (m - 1) 0) _ s';refine hc _ _ _ s' (P.lt ⋯) (P.lt ⋯) i' λs2 i2=>?_
   have ne:kf (p.getD 0 0)≠kf (p.getD (m - 1) 0):=λz=>by
    have:=P.inj (i:=0) (j:=m - 1) ⋯ ⋯ (hd _ _ (P.lt ⋯) (P.lt ⋯) z);omega
   have le:ky kf p 0<=ky kf p (m - 1):=u 0 (m - 1) ⋯ ⋯;unfold ky at le;rw[decide_eq_true (show kf (p.getD 0 0)<kf (p.getD (m - 1) 0) by omega)];dsimp only;rw[if_pos rfl];exact h m p s2 l1 ⋯ P u i2
  .rw[if_neg c1];have e1:m=1:=by omega
   subst e1;unfold kas_descPart;rw[KasT.kasWp_bind];refine Sh hc hd P (n - (1+1)) (1+1) s' ⋯ ⋯ (λx y yB hy=>?_) i' λm s2 k1 k2 dn i2=>?_
   .have ex:x=0:=by omega
    have ey:y=1:=by omega
    subst ex;subst ey;exact l3 ⋯
   .dsimp only;rw[if_neg ⋯];unfold kas_tail3;rw[KasT.kasWp_bind];refine LP hc (P.rev (m:=m)) (n - m) m s2 ⋯ ⋯ (dn.up (by rw[P.size];omega)) i2 λk s3 q1 q2 u3 _ i3=>h k _ s3 ⋯ ⋯ P.rev u3 i3
def NB{n:Nat}(hc:k9 cmp I kf n)(P:Pm n p){k:Nat}(hk:k<n)(u:Up kf p k):∀(f l r:Nat)(s:cg),l<=r->r<=k->r - l<=f->(∀x,x<l->ky kf p x<=ky kf p k)->(∀x,r<=x->x<k->ky kf p k<ky kf p x)->I s ->
   (∀m s',m<=k->(∀x,x<m->ky kf p x<=ky kf p k)->(∀x,m<=x->x<k->ky kf p k<ky kf p x)->I s'->Q m s')->(kas_place p k f l r).kasWp cmp Q s
 |0,l,r,s,h1,h2,h3,a,b,i,h=>h l s ⋯ a (λx hx=>b x ⋯) i
 |f+1,l,r,s,h1,h2,h3,a,b,i,h=>by
  unfold kas_place;by_cases c0:l≥r
  .rw[if_pos c0];exact h l s ⋯ a (λx hx=>b x ⋯) i
  .rw[if_neg c0];show cmp (p.getD k 0) (p.getD ((l+r) / 2) 0) _ s;refine hc _ _ _ s (P.lt ⋯) (P.lt ⋯) i λs' i'=>?_;by_cases c:kf (p.getD k 0)<kf (p.getD ((l+r) / 2) 0)
   .rw[decide_eq_true c];dsimp only;rw[if_pos rfl];refine NB hc P hk u f l ((l+r) / 2) s' ⋯ ⋯ ⋯ a (λx hx XN=>?_) i' h;have:=u ((l+r) / 2) x hx XN;have c':ky kf p k<ky kf p ((l+r) / 2):=c;omega
   .rw[decide_eq_false c];dsimp only;rw[if_neg (by decide)];refine NB hc P hk u f ((l+r) / 2+1) r s' ⋯ ⋯ ⋯ (λx hx=>?_) b i' h;have:=u x ((l+r) / 2) ⋯ ⋯;have c':ky kf p ((l+r) / 2)<=ky kf p k:=by unfold ky;omega
    omega
def Ex{n:Nat}(hc:k9 cmp I kf n):∀(f k:Nat)(p:Array Nat)(s:cg),Pm n p->1<=k->k+f=n->Up kf p k->I s->(∀q s',Pm n q->Up kf q n->I s'->Q q s')->(kas_bin f p k).kasWp cmp Q s
 |0,k,p,s,P,h1,h2,u,i,h=>h p s P (by rw[←h2];exact u) i
 |f+1,k,p,s,P,h1,h2,u,i,h=>by
  unfold kas_bin;rw[KasT.kasWp_bind];refine NB hc P ⋯ u k 0 k s (qz _) (gw _) ⋯ (λx hx=>absurd hx (Nat.not_lt_zero _)) (λx hx hk=>absurd hx ⋯) i λm s' l1 a b i'=>?_;have hs:k<p.size:=by rw[P.size];omega
  refine Ex hc f (k+1) _ s' ⟨by rw[bubble_size];exact P.size,((bubble_perm p k _).toList).trans P.perm⟩ ⋯ ⋯ (λx y yB hy=>?_) i' h
  have e:∀z,ky kf (bubble p k (k - m)) z=if z=m then ky kf p k else if m<z/\z<=k then ky kf p (z - 1)else ky kf p z:=λz=>by
   have e:=getElem?_bubble hs (k - m) ⋯ z;rw[show k - (k - m)=m by omega]at e;by_cases c:z=m
   .rw[if_pos c]at e ⊢;exact congrArg kf (oF e)
   .rw[if_neg c]at e ⊢;by_cases c2:m<z/\z<=k
    .rw[if_pos c2]at e ⊢;exact congrArg kf (oF e)
    .rw[if_neg c2]at e ⊢;exact congrArg kf (oF e)
  have e1:ky kf (bubble p k (k - m)) m=ky kf p k:=by rw[e,if_pos rfl]
  have e2:∀z,m<z->z<=k->ky kf (bubble p k (k - m)) z=ky kf p (z - 1):=λz h1 h2=>by rw[e,if_neg ⋯,if_pos ⟨h1,h2⟩]
  have e3:∀z,z<m->ky kf (bubble p k (k - m)) z=ky kf p z:=λz h1=>by rw[e,if_neg ⋯,if_neg ⋯]
  rcases Cy x m with c|c|c
  .rw[e3 x c];rcases Cy y m with d|d|d
   .rw[e3 y d];exact u x y yB ⋯
   .rw[d,e1];exact a x c
   .rw[e2 y d ⋯];exact u x (y - 1) ⋯ ⋯
  .rw[c,e1];by_cases d:y=m
   .rw[d,e1];exact kR _
   .rw[e2 y ⋯ ⋯];exact zp (b (y - 1) ⋯ ⋯)
  .rw[e2 x c ⋯,e2 y ⋯ ⋯];exact u (x - 1) (y - 1) ⋯ ⋯
def YW{n:Nat}(hc:k9 cmp I kf n)(hd:∀i j,i<n->j<n->kf i=kf j->i=j)(h2:2<=n){s:cg}(i:I s)(h:∀q s',Pm n q->Up kf q n->I s'->Q q s'):(kas_sort n).kasWp cmp Q s:=by
 unfold kas_sort;rw[KasT.kasWp_bind];refine atZ hc hd h2 ⟨by simp,by simp⟩ i λm q s' l1 l2 P u i'=>?_;dsimp only;by_cases c:m<n
 .rw[if_pos c];have e:max m 1=m:=by omega
  rw[e];exact Ex hc (n - m) m q s' P l1 ⋯ u i' h
 .rw[if_neg c];have:m=n:=by omega
  subst this;exact h q s' P u i'
end
section
variable{prog:mz}{w:jr}{A:jf}{s:cg}
abbrev Hj(prog:mz)(w:jr)(A:jf)(s:cg)(kf:Nat->Int)(vs:List au)(h':lg):Prop :=
 ∃κ,(∀Q:SortKind->cg->Prop,Q κ {s with heap:=h' }->dj (dz prog w) A (keyKind' vs.toArray) Q (λ_ _=>False) {s with heap:=h' })/\∀i j (C:Bool->cg->Prop),i<vs.length->j<vs.length->C (decide (kf i<kf j)) {s with heap:=h' }->kas_ask prog w A κ vs i j C {s with heap:=h' }
def aq8{l:List au}(h:l.length<2):(l.toArray.zip l.toArray).map (·.2)=((qd l.length).toArray.toList.map λi=>l.getD i au.none).toArray:=by
 cases l with
 |nil=>simp
 |cons v r =>
  cases r with
  |nil=>simp
  |cons _ _=>simp at h;omega
end
abbrev uD(a b:Int×Int):Prop:=a.1<b.1∨(a.1=b.1/\a.2<b.2)
instance (a b:Int×Int):Decidable (uD a b):=by unfold uD;infer_instance
abbrev dJ:List (Int×Int)->Prop:=xj uD
abbrev enc(M:Int)(a:Int×Int):Int:=a.1*M+a.2
def yP{M B:Int}(hM:2*B<M){a b:Int×Int}(ha:-B<=a.2/\a.2<=B)(hb:-B<=b.2/\b.2<=B):enc M a<enc M b↔uD a b:=by
 unfold enc uD;have m0:0<=M:=by omega
 rcases Int.lt_trichotomy a.1 b.1 with c|c|c
 .have:a.1*M<=(b.1 - 1)*M:=Int.mul_le_mul_of_nonneg_right ⋯ m0;rw[Int.sub_mul,Int.one_mul]at this;exact⟨λ_=>.inl c,λ_=>by omega⟩
 .rw[c];exact⟨λ_=>.inr ⟨rfl,⋯⟩,λh=>by rcases h with h|h<;>omega⟩
 .have:b.1*M<=(a.1 - 1)*M:=Int.mul_le_mul_of_nonneg_right ⋯ m0;rw[Int.sub_mul,Int.one_mul]at this;exact⟨λ_=>by omega,λh=>by rcases h with h|h<;>omega⟩
def NA:∀ps:List (Int×Int),∃B:Int,0<=B/\∀p∈ps,-B<=p.2/\p.2<=B
 |[]=>⟨0,kR _,λp h=>by cases h⟩
 |p::r=>by
  let⟨B,b0,h⟩:=NA r;refine⟨B+p.2.natAbs,⋯,λq hq=>?_⟩;rcases ju.mp hq with rfl|hq
  .omega
  .have:=h q hq;omega
section
variable{prog:mz}{w:jr}{A:jf}{s:cg}
abbrev EN(h:lg)(ps:List (Int×Int))(vs:List au):Prop:=vs.length=ps.length/\∀(i:Nat)(p:Int×Int),ps[i]?=aj p->∃(a:bw)(o:Obj)(n:Nat)(x y:Tok),vs[i]?=aj (au.ref a)/\h.get? a=aj o/\o.cls=au.type "tuple"/\o.data=.seq #[.int p.1 x,.int p.2 y] n
def EN.om{h:lg}:∀{ps:List (Int×Int)}{vs:List au},EN h ps vs->∃fs:List au,KatTups h vs fs/\fs.length=ps.length/\∀v∈fs,∃i t,v=.int i t
 |[],[],_=>⟨[],trivial,rfl,λv h=>by cases h⟩
 |[],_::_,H=>absurd H.1 (by simp)
 |_::_,[],H=>absurd H.1 (by simp)
 |p::ps,v::vs,H=>by
  let⟨a,o,n,x,y,e1,e2,e3,e4⟩:=H.2 0 p rfl;let⟨fs,k1,k2,k3⟩:=EN.om (h:=h) (ps:=ps) (vs:=vs) ⟨by simpa using H.1,λi q hq=>by simpa using H.2 (i+1) q (by simpa using hq)⟩;have rS:v=.ref a:=by simpa using e1
  subst rS;refine⟨.int p.1 x::fs,KatTups.cons e2 e3 e4 rfl k1,by simp[k2],λu hu=>?_⟩;rcases ju.mp hu with rfl|hu
  .exact⟨_,_,rfl⟩
  .exact k3 u hu
def Us{ps:List (Int×Int)}{vs:List au}{M B:Int}(hM:2*B<M)(hB:∀p∈ps,-B<=p.2/\p.2<=B)(l2:2<=vs.length)(hp:EN h' ps vs):Hj prog w A s (λi=>enc M (ps.getD i (0,0))) vs h':=by
 let⟨fs,k1,k2,k3⟩:=hp.om;have len:=hp.1;refine⟨tuples' (au.type "int"!=au.type "tuple"),λQ hQ=>kat_kind (s:={s with heap:=h' }) k1 ⋯ (λv hv=>?_) (by simp) hQ,λi j C hi hj hC=>?_⟩
 .obtain⟨i,t,rfl⟩:=k3 v hv;exact .now
 .obtain⟨p,ep⟩:∃p,ps[i]?=aj p:=⟨_,gk ⋯⟩;obtain⟨q,eq⟩:∃q,ps[j]?=aj q:=⟨_,gk ⋯⟩;let⟨a,o,n,x,y,a1,a2,a3,a4⟩:=hp.2 i p ep;let⟨b,o',n',x',y',b1,b2,b3,b4⟩:=hp.2 j q eq;have ga:vs.getD i au.none=.ref a:=by simp[ug,a1]
  have gb:vs.getD j au.none=.ref b:=by simp[ug,b1]
  have gp:ps.getD i (0,0)=p:=by simp[ug,ep]
  have gq:ps.getD j (0,0)=q:=by simp[ug,eq]
  have key:=yP hM (hB p (jm ep)) (hB q (jm eq))
  have hC:C (decide (enc M p<enc M q)) {s with heap:=h' }:=by
   have e:decide (enc M (ps.getD i (0,0))<enc M (ps.getD j (0,0)))=decide (enc M p<enc M q):=by rw[decide_eq_decide,gp,gq]
   rw[←e];exact hC
  unfold kas_ask;rw[ga,gb];refine kat_lt (s:={s with heap:=h' }) a2 a4 b2 b4 ?_;refine kat_cons (wpAny_eqBool_int ?_);refine kat_go (λe=>kat_yes (kat_cons (wpAny_eqBool_int (kat_go (λe2=>kat_yes (kat_nil ?_)) λe2=>kat_no (kat_one _ _ ?_))))) λe=>kat_no (oneLt_int ?_)
  .have c1:p.1=q.1:=by simpa using e
   have c2:p.2=q.2:=by simpa using e2
   rw[decide_eq_false (show ¬ enc M p<enc M q from λz=>by rcases key.mp z with z|z<;>omega)]at hC;exact hC
  .have c1:p.1=q.1:=by simpa using e
   have c2:p.2≠q.2:=by simpa using e2
   refine CmpOf.ints_lt (prog:=prog) (w:=w) (A:=A) (P:=λi v=>∃t,v=.int (if i=0 then p.2 else q.2) t) (λi=>if i=0 then p.2 else q.2) (λi v h=>h) 0 1 _ _ _ _ _ ⟨y,rfl⟩ ⟨y',rfl⟩ ?_
   have:decide (enc M p<enc M q)=decide ((if(0:Nat)=0 then p.2 else q.2)<(if(1:Nat)=0 then p.2 else q.2)):=by
    rw[decide_eq_decide,key,if_pos rfl,if_neg (by decide)];unfold uD;omega
   rw[this]at hC;exact(show PySem.W.BoolBack C (.bool _) _ from hC)
  .have c1:p.1≠q.1:=by simpa using e
   have:decide (enc M p<enc M q)=decide (p.1<q.1):=by
    rw[decide_eq_decide,key];unfold uD;omega
   rw[this]at hC;exact hC
end
end
end L2
namespace TS
open PySem PyProof.Rows
abbrev sY:Bool->Keyed->Array Keyed->Nat->Nat->Nat->StateT SortSt Sem (Option Nat):=sortPriv%PySem.Builtin.gallop
abbrev IL:Array Keyed->Array Keyed->StateT SortSt Sem (Array Keyed):=sortPriv%PySem.Builtin.mergeLo
abbrev IK:Array Keyed->Array Keyed->StateT SortSt Sem (Array Keyed):=sortPriv%PySem.Builtin.mergeHi
@[simp]def setG(st:SortSt)(g:Nat):SortSt:=SortSt.mk' (kindOf st) (arrOf st) (pendingOf st) g (failedOf st)
@[simp]def GL(st:SortSt)(a:Array Keyed):SortSt:=SortSt.mk' (kindOf st) a (pendingOf st) (gallopOf st) (failedOf st)
@[simp]def Nc(st:SortSt)(a:Array (Nat×Nat×Nat)):SortSt:=SortSt.mk' (kindOf st) (arrOf st) a (gallopOf st) (failedOf st)
def akT(left:Bool)(k0:Keyed)(a0:Array Keyed)(b0 n h0:Nat):sY left k0 a0 b0 n h0=(do
 let bf (i:Nat):StateT SortSt Sem (Option Bool):=do
  let x ←elem' a0 (b0+i)
  if left then lt' x k0 else return (←lt' k0 x).map (!·)
 let mut u1:=0
 let mut u2:=1
 let mut c1:=0
 let mut c2:=0
 let aj r0 ←bf h0|return bh
 if r0 then
  let u3:=n - h0
  for _ in [0:n] do
   if u2≥u3 then break
   let aj r1 ←bf (h0+u2)|return bh
   if !r1 then break
   u1:=u2
   u2:=2*u2+1
  c1:=h0+u1+1
  c2:=h0+min u2 u3
 else
  let u3:=h0+1
  for _ in [0:n] do
   if u2≥u3 then break
   let aj r2 ←bf (h0 - u2)|return bh
   if r2 then break
   u1:=u2
   u2:=2*u2+1
  c1:=h0+1 - min u2 u3
  c2:=h0 - u1
 for _ in [0:n] do
  if c1≥c2 then break
  let m:=c1+(c2 - c1) / 2
  let aj r1 ←bf m|return bh
  if r1 then c1:=m+1 else c2:=m
 return aj c2):=rfl
variable{p:Array Nat}{left:Bool}{key:Nat}
section
variable{M:Model}{A:jf}{E:au->cg->Prop}{s:cg}{f:Nat->Keyed}{kf:Nat->Int}{N:Nat}{κ:SortKind}
abbrev pM(M:Model)(A:jf)(E:au->cg->Prop)(s:cg)(f:Nat->Keyed)(kf:Nat->Int)(N:Nat)(κ:SortKind):Prop :=
 ∀(i j:Nat)(st:SortSt)(Q:Option Bool->SortSt->Prop),i<N->j<N->kindOf st=κ->Q (aj (decide (kf i<kf j))) st->wpS M A E s (lt' (f i) (f j)) Q st
@[simp]def at'(p:Array Nat)(i:Nat):Nat:=p.getD i 0
abbrev In(N:Nat)(p:Array Nat):Prop:=∀i,i<p.size->at' p i<N
def bN{i:Nat}{st:SortSt}{Q:Keyed->SortSt->Prop}(hi:i<p.size)(h:Q (f (at' p i)) st):wpS M A E s (elem' (p.map f) i) Q st:=by
 have e:(p.map f)[i]?=aj (f (at' p i)):=by simp[at',i5,hi]
 rw[elem'_eq,e];exact wpS_pure h
abbrev vU(kf:Nat->Int)(left:Bool)(key x:Nat):Bool:=if left=ak then decide (kf x<kf key)else !decide (kf key<kf x)
@[simp]def U3(left:Bool)(key:Keyed)(arr:Array Keyed)(i:Nat):StateT SortSt Sem (Option Bool):=do
 let x ←elem' arr i
 if left then lt' x key else return (←lt' key x).map (!·)
def HE(hL:pM M A E s f kf N κ)(hk:key<N)(hp:In N p){i:Nat}(hi:i<p.size){st:SortSt}(hs:kindOf st=κ){Q:Option Bool->SortSt->Prop}(h:Q (aj (vU kf left key (at' p i))) st) :
  wpS M A E s (U3 left (f key) (p.map f) i) Q st:=by
 refine wpS_bind (bN hi ?_);unfold vU at h;cases left with
 |true =>
  simp only[if_true]at h ⊢;exact hL _ _ _ _ (hp _ hi) hk hs h
 |false =>
  simp only[ni,if_false]at h ⊢;exact wpS_bind (hL _ _ _ _ hk (hp _ hi) hs (wpS_pure h))
private theorem Q2(hL:pM M A E s f kf N κ)(hk:key<N)(hp:In N p){base n:Nat}(hb:base+n<=p.size)(mono:∀i j,i<=j->j<n->vU kf left key (at' p (base+j))=ak->vU kf left key (at' p (base+i))=ak)
  {st:SortSt}(hs:kindOf st=κ){lo hi:Nat}(h1:lo<=hi)(h2:hi<=n)(Bi:∀i,i<lo->vU kf left key (at' p (base+i))=ak)(X5:∀i,hi<=i->i<n->vU kf left key (at' p (base+i))=ao) :
  wpS M A E s (forIn [:n] (bh,lo,hi) λ(x:Nat)(__s:Option (Option Nat)×Nat×Nat) =>
    if __s.snd.fst≥__s.snd.snd then pure (ForInStep.done (bh,__s.snd.fst,__s.snd.snd))
    else do
     let __x ←U3 left (f key) (p.map f) (base+(__s.snd.fst+(__s.snd.snd - __s.snd.fst) / 2))
     match __x with
     |some more =>
      if more=ak then pure (ForInStep.yield (bh,__s.snd.fst+(__s.snd.snd - __s.snd.fst) / 2+1,__s.snd.snd))
      else pure (ForInStep.yield (bh,__s.snd.fst,__s.snd.fst+(__s.snd.snd - __s.snd.fst) / 2))
     |x=>pure (ForInStep.done (aj bh,__s.snd.fst,__s.snd.snd))) (λc ae=>ae=st/\∃l r,c=(bh,l,r)/\l=r/\r<=n/\(∀i,i<l->vU kf left key (at' p (base+i))=ak)/\(∀i,r<=i->i<n->vU kf left key (at' p (base+i))=ao)) st:=by
 refine(wpS_forRange (I:=λx c ae=>ae=st/\∃l r,c=(bh,l,r)/\l<=r/\r<=n/\r+x<=n+l/\(∀i,i<l->vU kf left key (at' p (base+i))=ak)/\(∀i,r<=i->i<n->vU kf left key (at' p (base+i))=ao)) ?step ?fin ⟨rfl,lo,hi,rfl,h1,h2,⋯,Bi,X5⟩)
 case fin =>
  rintro c ae ⟨rfl,l,r,rfl,a0,a1,a4,a2,a3⟩;exact⟨rfl,l,r,rfl,⋯,a1,a2,a3⟩
 case step =>
  rintro x c ae _ hx ⟨rfl,l,r,rfl,a0,a1,a4,a2,a3⟩;dsimp only;by_cases o5:l≥r
  .rw[if_pos o5];exact wpS_pure ⟨rfl,l,r,rfl,⋯,a1,a2,a3⟩
  .rw[if_neg o5];refine wpS_bind (HE hL hk hp ⋯ hs ?_);cases e:vU kf left key (at' p (base+(l+(r - l) / 2)))with
   |true =>
    simp only[if_true];exact wpS_pure ⟨rfl,_,_,rfl,⋯,a1,⋯,λi hi=>mono i (l+(r - l) / 2) ⋯ ⋯ e,a3⟩
   |false =>
    simp only[ni,if_false];refine wpS_pure ⟨rfl,_,_,rfl,⋯,⋯,⋯,a2,λi hi hn=>?_⟩;cases e2:vU kf left key (at' p (base+i))with
    |false=>rfl
    |true=>rw[mono _ i hi hn e2]at e;cases e
private theorem Ce(hL:pM M A E s f kf N κ)(hk:key<N)(hp:In N p){base n hint:Nat}(hb:base+n<=p.size)(hh:hint<n)(mono:∀i j,i<=j->j<n->vU kf left key (at' p (base+j))=ak->vU kf left key (at' p (base+i))=ak)
  {st:SortSt}(hs:kindOf st=κ){Q:Option Nat->SortSt->Prop}
  (h:∀k,k<=n->(∀i,i<k->vU kf left key (at' p (base+i))=ak)->(∀i,k<=i->i<n->vU kf left key (at' p (base+i))=ao)->Q (aj k) st) :
  wpS M A E s (sY left (f key) (p.map f) base n hint) Q st:=by
 have neg:∀i j,i<=j->j<n->vU kf left key (at' p (base+i))=ao->vU kf left key (at' p (base+j))=ao:=λi j gN hj e=>by
  cases e2:vU kf left key (at' p (base+j))with
  |false=>rfl
  |true=>rw[mono i j gN hj e2]at e;cases e
 rw[akT];dsimp only;refine wpS_bind (HE hL hk hp ⋯ hs ?_);cases e0:vU kf left key (at' p (base+hint))with
 |true =>
  simp only[if_true]
  refine wpS_bind (wpS_mono (wpS_forRange (I:=λx c ae=>ae=st/\∃l o,c=(bh,l,o)/\l<o/\x<o/\hint+l<n/\vU kf left key (at' p (base+(hint+l)))=ak)
   (Q:=λc ae=>ae=st/\∃l o,c=(bh,l,o)/\l<o/\hint+l<n/\vU kf left key (at' p (base+(hint+l)))=ak/\(n - hint<=o∨vU kf left key (at' p (base+(hint+o)))=ao)) ?step ?fin ⟨rfl,0,1,rfl,⋯,⋯,⋯,e0⟩) ?post)
  case post =>
   rintro c ae ⟨rfl,l,o,rfl,a0,a1,a2,a3⟩;refine wpS_bind (wpS_mono (Q2 (lo:=hint+l+1) (hi:=hint+min o (n - hint)) hL hk hp hb mono hs ⋯ ⋯ (λi hi=>mono i (hint+l) ⋯ a1 a2) (λi hi hn=>?_)) λc bg z=>?_)
   .rcases a3 with a3|a3
    .omega
    .by_cases q:n - hint<=o
     .omega
     .exact neg (hint+o) i ⋯ hn a3
   .obtain⟨rfl,l,r,rfl,rfl,a1,a2,a3⟩:=z;exact wpS_pure (h l a1 a2 a3)
  case fin =>
   rintro c ae ⟨rfl,l,o,rfl,a0,a4,a1,a2⟩;exact⟨rfl,l,o,rfl,a0,a1,a2,.inl ⋯⟩
  case step =>
   rintro x c ae _ hx ⟨rfl,l,o,rfl,a0,a4,a1,a2⟩;dsimp only;by_cases o5:o≥n - hint
   .rw[if_pos o5];exact wpS_pure ⟨rfl,l,o,rfl,a0,a1,a2,.inl o5⟩
   .rw[if_neg o5];refine wpS_bind (HE hL hk hp ⋯ hs ?_);cases e:vU kf left key (at' p (base+(hint+o)))with
    |true =>
     simp only[sT,ni,if_false];exact wpS_pure ⟨rfl,_,_,rfl,⋯,⋯,⋯,e⟩
    |false =>
     simp only[Io,if_true];exact wpS_pure ⟨rfl,l,o,rfl,a0,a1,a2,.inr e⟩
 |false =>
  simp only[ni,if_false]
  refine wpS_bind (wpS_mono (wpS_forRange (I:=λx c ae=>ae=st/\∃l o,c=(bh,l,o)/\l<o/\x<o/\l<=hint/\vU kf left key (at' p (base+(hint - l)))=ao)
   (Q:=λc ae=>ae=st/\∃l o,c=(bh,l,o)/\l<o/\l<=hint/\vU kf left key (at' p (base+(hint - l)))=ao/\(hint+1<=o∨vU kf left key (at' p (base+(hint - o)))=ak)) ?step ?fin ⟨rfl,0,1,rfl,⋯,⋯,⋯,e0⟩) ?post)
  case post =>
   rintro c ae ⟨rfl,l,o,rfl,a0,a1,a2,a3⟩;refine wpS_bind (wpS_mono (Q2 (lo:=hint+1 - min o (hint+1)) (hi:=hint - l) hL hk hp hb mono hs ⋯ ⋯ (λi hi=>?_) (λi hi hn=>neg _ i (show hint - l<=i from hi) hn a2)) λc bg z=>?_)
   .rcases a3 with a3|a3
    .exfalso;omega
    .exact mono i (hint - o) ⋯ ⋯ a3
   .obtain⟨rfl,l,r,rfl,rfl,a1,a2,a3⟩:=z;exact wpS_pure (h l a1 a2 a3)
  case fin =>
   rintro c ae ⟨rfl,l,o,rfl,a0,a4,a1,a2⟩;exact⟨rfl,l,o,rfl,a0,a1,a2,.inl ⋯⟩
  case step =>
   rintro x c ae _ hx ⟨rfl,l,o,rfl,a0,a4,a1,a2⟩;dsimp only;by_cases o5:o≥hint+1
   .rw[if_pos o5];exact wpS_pure ⟨rfl,l,o,rfl,a0,a1,a2,.inl o5⟩
   .rw[if_neg o5];refine wpS_bind (HE hL hk hp ⋯ hs ?_);cases e:vU kf left key (at' p (base+(hint - o)))with
    |false =>
     simp only[ni,if_false];exact wpS_pure ⟨rfl,_,_,rfl,⋯,⋯,⋯,e⟩
    |true =>
     simp only[if_true];exact wpS_pure ⟨rfl,l,o,rfl,a0,a1,a2,.inr e⟩
end
end TS
namespace TS
open PySem PyProof.Rows
section
variable{kf:Nat->Int}{W o la lb:List Nat}
@[simp]def Le(kf:Nat->Int)(x y:Nat):Prop:=kf x<=kf y
abbrev Out(kf:Nat->Int)(W l:List Nat):Prop:=l.Pairwise (Le kf)/\l.Perm W
structure MI(kf:Nat->Int)(W o la lb:List Nat):Prop where
 ha:(o++la).Pairwise (Le kf)
 hb:(o++lb).Pairwise (Le kf)
 hp:(o++la++lb).Perm W
def MI.a(h:MI kf W o (l1++l2) lb)(q:∀x∈l1,∀y∈lb,kf x<=kf y):MI kf W (o++l1) l2 lb:=by
 let⟨a,b,c⟩:=h;refine⟨by simpa[xp]using a,?_,by simpa[xp]using c⟩;rw[yd]at a b;rw[xp,yd,yd];have a2:=yd.mp a.2.1;refine⟨b.1,⟨a2.1,b.2.1,q⟩,λx hx y hy=>?_⟩;rcases qj.mp hy with hy|hy
 .exact a.2.2 x hx y (IT _ hy)
 .exact b.2.2 x hx y hy
def MI.swap(h:MI kf W o la lb):MI kf W o lb la:=⟨h.hb,h.ha,(by rw[xp,xp];exact(List.perm_append_comm).append_left o:(o++lb++la).Perm (o++la++lb)).trans h.hp⟩
def MI.b(h:MI kf W o la (l1++l2))(q:∀x∈l1,∀y∈la,kf x<=kf y):MI kf W (o++l1) la l2:=(h.swap.a q).swap
def MI.Q1(h:MI kf W o la []):Out kf W (o++la++[]):=⟨by simpa using h.ha,h.hp⟩
def MI.Q0(h:MI kf W o [] lb):Out kf W (o++[]++lb):=⟨by simpa using h.hb,h.hp⟩
def MI.last{x:Nat}(h:MI kf W o [x] lb)(q:∀y∈lb,kf y<=kf x):Out kf W (o++lb++[x]):=by
 refine⟨?_,h.swap.hp⟩;have a:=yd.mp h.ha;rw[yd];refine⟨h.hb,by simp,λy hy z hz=>?_⟩;rcases qj.mp hy with hy|hy
 .exact a.2.2 y hy z hz
 .rw[jw.mp hz];exact q y hy
end
section
variable{p:Array Nat}
def CK(i:Nat):((p.map f).extract i (p.map f).size).toList=(p.toList.drop i).map f:=by
 simp[List.map_drop];exact N3 (by simp)
def Sg(i k:Nat):((p.map f).extract i (i+k)).toList=((p.toList.drop i).take k).map f:=by
 simp[List.map_drop,List.map_take]
def Mr{i:Nat}(h:i<p.size):p.toList.drop i=[at' p i]++p.toList.drop (i+1):=by
 have h':i<p.toList.length:=by simpa using h
 rw[List.drop_eq_getElem_cons h'];simp[at',i5,h]
def Tl(i k:Nat):p.toList.drop i=(p.toList.drop i).take k++p.toList.drop (i+k):=by
 rw[←List.drop_drop,E8]
def yQ{i:Nat}(h:i=p.size):p.toList.drop i=[]:=by
 subst h;simp
def lU{i x:Nat}(h:x∈p.toList.drop i):∃j,i<=j/\j<p.size/\x=at' p j:=by
 let⟨j,hj,e⟩:=IS.mp h;have dA:i+j<p.size:=by simpa[Nat.lt_sub_iff_add_lt,Nat.add_comm]using hj
 refine⟨i+j,⋯,dA,?_⟩;rw[←e];simp[at',i5,dA]
def V1{i k x:Nat}(h:x∈(p.toList.drop i).take k):∃j,j<k/\i+j<p.size/\x=at' p (i+j):=by
 let⟨j,hj,e⟩:=IS.mp h
 have dA:j<k/\i+j<p.size:=by
  have:j<min k (p.size - i):=by simpa using hj
  omega
 refine⟨j,dA.1,dA.2,?_⟩;rw[←e];simp[at',i5,dA.2]
end
abbrev Up(kf:Nat->Int)(p:Array Nat):Prop:=∀i j,i<=j->j<p.size->kf (at' p i)<=kf (at' p j)
variable{ia ib:Nat}
section
variable{f:Nat->Keyed}{kf:Nat->Int}{pa pb:Array Nat}{W:List Nat}
abbrev bI(st ae:SortSt):Prop:=kindOf ae=kindOf st/\arrOf ae=arrOf st/\pendingOf ae=pendingOf st/\failedOf ae=failedOf st
def bI.aE{st:SortSt}:bI st st:=⟨rfl,rfl,rfl,rfl⟩
def bI.setG{st ae:SortSt}(h:bI st ae)(g:Nat):bI st (setG ae g):=h
abbrev GoodR(f:Nat->Keyed)(kf:Nat->Int)(W:List Nat)(r:Array Keyed):Prop:=∃l:List Nat,r.toList=l.map f/\Out kf W l
abbrev LI(f:Nat->Keyed)(kf:Nat->Int)(W:List Nat)(pa pb:Array Nat)(out:Array Keyed)(ia ib:Nat):Prop:=∃o:List Nat,out.toList=o.map f/\MI kf W o (pa.toList.drop ia) (pb.toList.drop ib)
def LI.B3{out:Array Keyed}(h:LI f kf W pa pb out ia ib)(hb:ib<pb.size)(q:∀j,ia<=j->j<pa.size->kf (at' pb ib)<=kf (at' pa j)):LI f kf W pa pb (out.push (f (at' pb ib))) ia (ib+1):=by
 let⟨o,e,m⟩:=h;rw[Mr hb]at m;refine⟨o++[at' pb ib],by simp[e],m.b λx hx y hy=>?_⟩;let⟨j,j1,j2,rfl⟩:=lU hy;rw[jw.mp hx];exact q j j1 j2
def LI.Af{out:Array Keyed}(h:LI f kf W pa pb out ia ib)(ha:ia<pa.size)(q:∀j,ib<=j->j<pb.size->kf (at' pa ia)<=kf (at' pb j)):LI f kf W pa pb (out.push (f (at' pa ia))) (ia+1) ib:=by
 let⟨o,e,m⟩:=h;rw[Mr ha]at m;refine⟨o++[at' pa ia],by simp[e],m.a λx hx y hy=>?_⟩;let⟨j,j1,j2,rfl⟩:=lU hy;rw[jw.mp hx];exact q j j1 j2
def LI.GK{out:Array Keyed}{k:Nat}(h:LI f kf W pa pb out ia ib)(q:∀i j,i<k->ia+i<pa.size->ib<=j->j<pb.size->kf (at' pa (ia+i))<=kf (at' pb j)):LI f kf W pa pb (out++(pa.map f).extract ia (ia+k)) (ia+k) ib:=by
 let⟨o,e,m⟩:=h;rw[Tl ia k]at m;refine⟨o++(pa.toList.drop ia).take k,by rw[qy,Sg,e,jk],m.a λx hx y hy=>?_⟩;let⟨j,j1,j2,rfl⟩:=lU hy;let⟨i,i1,i2,rfl⟩:=V1 hx;exact q i j i1 i2 j1 j2
def LI.Nb{out:Array Keyed}{k:Nat}(h:LI f kf W pa pb out ia ib)(q:∀i j,i<k->ib+i<pb.size->ia<=j->j<pa.size->kf (at' pb (ib+i))<=kf (at' pa j)):LI f kf W pa pb (out++(pb.map f).extract ib (ib+k)) ia (ib+k):=by
 let⟨o,e,m⟩:=h;rw[Tl ib k]at m;refine⟨o++(pb.toList.drop ib).take k,by rw[qy,Sg,e,jk],m.b λx hx y hy=>?_⟩;let⟨j,j1,j2,rfl⟩:=lU hy;let⟨i,i1,i2,rfl⟩:=V1 hx;exact q i j i1 i2 j1 j2
def LI.B2{out:Array Keyed}(h:LI f kf W pa pb out ia ib)(e:ib=pb.size):GoodR f kf W (out++(pa.map f).extract ia (pa.map f).size++(pb.map f).extract ib (pb.map f).size):=by
 let⟨o,eo,m⟩:=h;rw[yQ e]at m;exact⟨_,by rw[qy,qy,CK,CK,yQ e,eo];simp,m.Q1⟩
def LI.B1{out:Array Keyed}(h:LI f kf W pa pb out ia ib)(e:ia=pa.size):GoodR f kf W (out++(pa.map f).extract ia (pa.map f).size++(pb.map f).extract ib (pb.map f).size):=by
 let⟨o,eo,m⟩:=h;rw[yQ e]at m;exact⟨_,by rw[qy,qy,CK,CK,yQ e,eo];simp,m.Q0⟩
def LI.Hi{out:Array Keyed}(h:LI f kf W pa pb out ia ib)(e:ia+1=pa.size)(hl:∀j,j<pb.size->kf (at' pb j)<=kf (at' pa (pa.size - 1))):GoodR f kf W (out++(pb.map f).extract ib (pb.map f).size++(pa.map f).extract ia (pa.map f).size):=by
 let⟨o,eo,m⟩:=h;have e2:pa.toList.drop ia=[at' pa ia]:=by rw[Mr ⋯,yQ e];rfl
 rw[e2]at m;refine⟨_,by rw[qy,qy,CK,CK,e2,eo];simp,m.last λy hy=>?_⟩;let⟨j,j1,j2,rfl⟩:=lU hy;rw[show ia=pa.size - 1 by omega];exact hl j j2
end
end TS
namespace TS
open PySem PyProof.Rows
variable{p:Array Nat}{key:Nat}{Q:Array Keyed->SortSt->Prop}
section
variable{M:Model}{A:jf}{E:au->cg->Prop}{s:cg}{f:Nat->Keyed}{kf:Nat->Int}{N:Nat}{κ:SortKind}{pa pb:Array Nat}{W:List Nat}
abbrev LG(f:Nat->Keyed)(kf:Nat->Int)(W:List Nat)(pa pb:Array Nat)(out:Array Keyed)(ia ib n:Nat):Prop:=LI f kf W pa pb out ia ib/\ia+1<pa.size/\ib<pb.size/\n<=ia+ib
def aM{α:Type}{c:Prop}[Decidable c]{m1 m2:StateT SortSt Sem α}{Q:α->SortSt->Prop}{st:SortSt}(h1:c->wpS M A E s m1 Q st)(h2:¬ c->wpS M A E s m2 Q st):wpS M A E s (if c then m1 else m2) Q st:=by
 split
 ·exact h1 ‹_›
 .exact h2 ‹_›
def Hh(u:Up kf p):p.toList.Pairwise (Le kf) :=
 uw.mpr λi j hi hj gN=>by simpa[at',i5,show i<p.size by simpa using hi,show j<p.size by simpa using hj]using u i j ⋯ (by simpa using hj)
def wm{x:Nat}:vU kf ao key x=ak↔kf x<=kf key:=by simp[vU]
def Lj{x:Nat}:vU kf ao key x=ao↔kf key<kf x:=by simp[vU]
def zo{x:Nat}:vU kf ak key x=ak↔kf x<kf key:=by simp[vU]
def Hg{x:Nat}:vU kf ak key x=ao↔kf key<=kf x:=by simp[vU]
def Ie(u:Up kf p){left:Bool}{base n:Nat}(hb:base+n<=p.size)(i j:Nat)(gN:i<=j)(hj:j<n)(e:vU kf left key (at' p (base+j))=ak):vU kf left key (at' p (base+i))=ak:=by
 have:=u (base+i) (base+j) ⋯ ⋯;cases left with
 |true=>exact zo.2 (Int.lt_of_le_of_lt this (zo.1 e))
 |false=>exact wm.2 (ur this (wm.1 e))
@[simp]def RA:Type:=Option (Array Keyed)
abbrev mf{τ:Type}(M:Model)(A:jf)(E:au->cg->Prop)(s:cg)(κ:SortKind)(G:Array Keyed->Prop)(D K:τ->Prop)(m:StateT SortSt Sem (ForInStep (RA×τ))):Prop :=
 ∀(st:SortSt)(Q:ForInStep (RA×τ)->SortSt->Prop),kindOf st=κ->(∀ae,bI st ae->∀v t,G v->Q (.done (aj v,t)) ae)->(∀ae,bI st ae->∀t,(D t->Q (.done (bh,t)) ae)/\(K t->Q (.yield (bh,t)) ae))->wpS M A E s m Q st
section
variable{α β γ:Type}(t:Nat)(S1:Nat->α->β->γ->Nat->Nat->StateT SortSt Sem (ForInStep (RA×α×β×γ×Nat×Nat)))(S2:α->β->γ->Nat->Nat->Nat->StateT SortSt Sem (ForInStep (RA×α×β×γ×Nat×Nat×Nat)))
@[simp]def JR{τ:Type}(r:RA)(f:Array Keyed->StateT SortSt Sem τ)(m:StateT SortSt Sem τ):StateT SortSt Sem τ:=Break.runK.match_1 (λ_=>StateT SortSt Sem τ) r f λ_=>m
abbrev XB(r:RA×α×β×γ×Nat×Nat×Nat):StateT SortSt Sem (ForInStep (RA×α×β×γ×Nat)) :=
 JR r.1 (λv=>pure (.done (aj v,r.2.1,r.2.2.1,r.2.2.2.1,r.2.2.2.2.1))) do
  modify λs=>setG s (r.2.2.2.2.1+1)
  pure (.yield (bh,r.2.1,r.2.2.1,r.2.2.2.1,r.2.2.2.2.1+1))
abbrev XC(g:Nat)(r:RA×α×β×γ×Nat×Nat):StateT SortSt Sem (ForInStep (RA×α×β×γ×Nat)) :=
 JR r.1 (λv=>pure (.done (aj v,r.2.1,r.2.2.1,r.2.2.2.1,g))) do
  rule "list.sort.gallop"
  forIn [0:t] (bh,r.2.1,r.2.2.1,r.2.2.2.1,g+1,r.2.2.2.2.1,r.2.2.2.2.2) (λ_ c=>S2 c.2.1 c.2.2.1 c.2.2.2.1 c.2.2.2.2.1 c.2.2.2.2.2.1 c.2.2.2.2.2.2) >>= XB
abbrev Ph(c:RA×α×β×γ×Nat):StateT SortSt Sem (ForInStep (RA×α×β×γ×Nat)) :=
 forIn [0:t] (bh,c.2.1,c.2.2.1,c.2.2.2.1,0,0) (λ_ d=>S1 c.2.2.2.2 d.2.1 d.2.2.1 d.2.2.2.1 d.2.2.2.2.1 d.2.2.2.2.2) >>= XC t S2 c.2.2.2.2
abbrev XA(r:RA×α×β×γ×Nat):StateT SortSt Sem (Array Keyed):=JR r.1 pure (unsupported "internal:list.sort.merge-bound")
abbrev JY(i:α)(j:β)(o:γ):StateT SortSt Sem (Array Keyed):=do
 let w ←get
 forIn [0:t] (bh,i,j,o,gallopOf w) (λ_ c=>Ph t S1 S2 c) >>= XA
@[simp]def Hz{τ:Type}(H:Nat->α->β->γ->Prop)(n:Nat)(z:α×β×γ×τ):Prop:=H n z.1 z.2.1 z.2.2.1
variable{t}{S1}{S2}{G:Array Keyed->Prop}{H:Nat->α->β->γ->Prop}(h0:0<t)(hm:∀n i j o,H (n+1) i j o->H n i j o)(hz:∀i j o,¬ H (t+1) i j o)
 (h1:∀x g i j o c d,H (x+1) i j o->mf M A E s κ G (Hz H (x+2)) (Hz H (x+2)) (S1 g i j o c d))(h2:∀x i j o g c d,H (x+2) i j o->mf M A E s κ G (Hz H (x+2)) (Hz H (x+2)) (S2 i j o g c d)){st:SortSt}(hs:kindOf st=κ)
abbrev Ans{τ:Type}(G:Array Keyed->Prop)(K:τ->Prop)(c:RA×τ):Prop:=∃r z,c=(r,z)/\((∃v,r=aj v/\G v)∨r=bh/\K z)
def bI.trans{a b c:SortSt}(h:bI a b)(k:bI b c):bI a c:=⟨k.1.trans h.1,k.2.1.trans h.2.1,k.2.2.1.trans h.2.2.1,k.2.2.2.trans h.2.2.2⟩
def Li{τ:Type}{n:Nat}{b:Nat->RA×τ->StateT SortSt Sem (ForInStep (RA×τ))}{K:Nat->τ->Prop}{D:τ->Prop}(hb:∀y z,K y z->mf M A E s κ G D (K (y+1)) (b y (bh,z)))(he:∀z,K n z->D z)(hs:kindOf st=κ){z:τ}(h:K 0 z):wpS M A E s (forIn [0:n] (bh,z) b) (λc ae=>bI st ae/\Ans G D c) st:=by
 refine wpS_forRange (I:=λy c ae=>bI st ae/\∃z,c=(bh,z)/\K y z) ?_ ?_ ⟨bI.aE,_,rfl,h⟩
 .rintro y c ae _ hy ⟨S,z,rfl,k⟩;exact hb y z k _ _ (S.1.trans hs) (λbg S2 v t g=>⟨S.trans S2,_,_,rfl,.inl ⟨v,rfl,g⟩⟩) λbg S2 t=>⟨λk=>⟨S.trans S2,_,_,rfl,.inr ⟨rfl,k⟩⟩,λk=>⟨S.trans S2,_,rfl,k⟩⟩
 .rintro c ae ⟨S,z,rfl,k⟩;rw[Nat.zero_max]at k;exact⟨S,_,_,rfl,.inr ⟨rfl,he z k⟩⟩
include h0 hm h1 h2 in
def aGJ{x:Nat}{c:α×β×γ×Nat}(h:Hz H (x+1) c):mf M A E s κ G (λ_=>False) (Hz H (x+2)) (Ph t S1 S2 (bh,c)):=by
 intro st Q hs hd hn;refine wpS_bind (wpS_mono (Li (G:=G) (K:=λy z=>if y=0 then Hz H (x+1) z else Hz H (x+2) z) (D:=Hz H (x+2)) (λy z k=>?_) (λz k=>by rwa [if_neg (xu h0)]at k) hs (by exact h)) ?_)
 .refine h1 x _ _ _ _ _ _ ?_;by_cases e:y=0
  .rwa [if_pos e]at k
  .rw[if_neg e]at k;exact hm _ _ _ _ k
 rintro c ae ⟨S,r,z,rfl,⟨v,rfl,g⟩|⟨rfl,k⟩⟩
 .exact wpS_pure (hd ae S _ _ g)
 refine wpS_bind (wpS_lift (kQ ⟨rfl,wpS_bind (wpS_mono (Li (G:=G) (K:=λ_=>Hz H (x+2)) (D:=Hz H (x+2)) (λy z k=>h2 x _ _ _ _ _ _ k) (λz k=>k) (S.1.trans hs) k) ?_)⟩));rintro c bg ⟨S2,r,z,rfl,⟨v,rfl,g⟩|⟨rfl,k⟩⟩
 .exact wpS_pure (hd bg (S.trans S2) _ _ g)
 .exact wpS_bind (wpS_modify (wpS_pure ((hn _ ((S.trans S2).setG _) _).2 k)))
include h0 hm h1 h2 hz in
def QZ(hs:kindOf st=κ){o:γ}(h:H 1 i j o)(hq:∀r ae,bI st ae->G r->Q r ae):wpS M A E s (JY t S1 S2 i j o) Q st:=by
 refine wpS_bind (wpS_get (wpS_bind (wpS_mono (Li (G:=G) (K:=λy=>Hz H (y+1)) (D:=λ_=>False) (λy z k=>aGJ h0 hm h1 h2 k) (λ_ k=>hz _ _ _ k) hs (by exact h)) ?_)));rintro c ae ⟨S,r,z,rfl,⟨v,rfl,g⟩|⟨rfl,k⟩⟩
 .exact wpS_pure (hq _ _ S g)
 .exact k.elim
end
structure Jt(M:Model)(A:jf)(E:au->cg->Prop)(s:cg)(f:Nat->Keyed)(kf:Nat->Int)(N:Nat)(κ:SortKind)(pa pb:Array Nat):Prop where
 hL:pM M A E s f kf N κ
 ia:In N pa
 ib:In N pb
 ua:Up kf pa
 ub:Up kf pb
 na:1<=pa.size
 nb:1<=pb.size
 hf:kf (at' pb 0)<kf (at' pa 0)
 hl:∀j,j<pb.size->kf (at' pb j)<=kf (at' pa (pa.size - 1))
@[simp]def Lz:Type:=RA×Array Keyed×Nat×Nat×Nat×Nat×Nat
abbrev uA(a b o:Array Keyed)(i j:Nat):Array Keyed:=o++a.extract i a.size++b.extract j b.size
abbrev Ga(a b o:Array Keyed)(i j:Nat):Array Keyed:=o++b.extract j b.size++a.extract i a.size
abbrev Po(a b:Array Keyed)(g:Nat)(o:Array Keyed)(i j c d:Nat):StateT SortSt Sem (ForInStep (RA×Array Keyed×Nat×Nat×Nat×Nat)):=do
 let y ←elem' b j
 let x ←elem' a i
 let w ←lt' y x
 match w with
 |some w =>
  if w=ak then
   let y ←elem' b j
   if(j+1==b.size)=ak then pure (.done (aj (uA a b (o.push y) i (j+1)),o.push y,i,j+1,0,d+1))
   else if d+1≥g then pure (.done (bh,o.push y,i,j+1,0,d+1))else pure (.yield (bh,o.push y,i,j+1,0,d+1))
  else
   let x ←elem' a i
   if(i+1+1==a.size)=ak then pure (.done (aj (Ga a b (o.push x) (i+1) j),o.push x,i+1,j,c+1,0))
   else if c+1≥g then pure (.done (bh,o.push x,i+1,j,c+1,0))else pure (.yield (bh,o.push x,i+1,j,c+1,0))
 |x=>pure (.done (aj (uA a b o i j),o,i,j,c,d))
abbrev Lh(a b o:Array Keyed)(i j g c d:Nat):StateT SortSt Sem (ForInStep Lz):=do
 let x ←elem' a i
 if(i+1+1==a.size)=ak then pure (.done (aj (Ga a b (o.push x) (i+1) j),o.push x,i+1,j,g,c,d))
 else if(decide (c<7)&&decide (d<7))=ak then pure (.done (bh,o.push x,i+1,j,g,c,d))else pure (.yield (bh,o.push x,i+1,j,g,c,d))
abbrev Lg(a b o:Array Keyed)(i j g c d:Nat):StateT SortSt Sem (ForInStep Lz):=do
 let y ←elem' b j
 if(j+1==b.size)=ak then pure (.done (aj (uA a b (o.push y) i (j+1)),o.push y,i,j+1,g,c,d))
 else do
  let x ←elem' a i
  let r ←sY ak x b (j+1) (b.size - (j+1)) 0
  match r with
  |some k=>if k>0 then(if(j+1+k==b.size)=ak then pure (.done (aj (uA a b (o.push y++b.extract (j+1) (j+1+k)) i (j+1+k)),o.push y++b.extract (j+1) (j+1+k),i,j+1+k,g,c,k))else Lh a b (o.push y++b.extract (j+1) (j+1+k)) i (j+1+k) g c k)else Lh a b (o.push y) i (j+1) g c k
  |x=>pure (.done (aj (uA a b (o.push y) i (j+1)),o.push y,i,j+1,g,c,d))
abbrev J2(a b o:Array Keyed)(i j g c d:Nat):StateT SortSt Sem (ForInStep Lz):=do
 modify λs=>setG s g
 let y ←elem' b j
 let r ←sY ao y a i (a.size - i) 0
 match r with
 |some k=>if k>0 then(if(i+k+1==a.size)=ak then pure (.done (aj (Ga a b (o++a.extract i (i+k)) (i+k) j),o++a.extract i (i+k),i+k,j,g,k,d))else if(i+k==a.size)=ak then pure (.done (aj (uA a b (o++a.extract i (i+k)) (i+k) j),o++a.extract i (i+k),i+k,j,g,k,d))else Lg a b (o++a.extract i (i+k)) (i+k) j g k d)else Lg a b o i j g k d
 |x=>pure (.done (aj (uA a b o i j),o,i,j,g,c,d))
def aMQ(a b:Array Keyed):IL a b=(do
 rule "list.sort.merge-lo"
 let y ←elem' b 0
 if(1==b.size)=ak then pure (uA a b #[y] 0 1)
 else if(0+1==a.size)=ak then pure (Ga a b #[y] 0 1)
 else JY (a.size+b.size) (Po a b) (λo i j g c d=>if g>1 then J2 a b o i j (g - 1) c d else J2 a b o i j g c d) #[y] 0 1):=rfl
section
variable(B:Jt M A E s f kf N κ pa pb)
@[simp]def LH(f:Nat->Keyed)(kf:Nat->Int)(W:List Nat)(pa pb:Array Nat)(n:Nat)(o:Array Keyed)(i j:Nat):Prop:=LG f kf W pa pb o i j n
def bne{a b:Nat}(h:¬ (a==b)=ak):a≠b:=λz=>h (beq_iff_eq.mpr z)
def sd{a:Nat}{f:Nat->Keyed}(h:¬ (a==(p.map f).size)=ak):a≠p.size:=λz=>h (beq_iff_eq.mpr (z.trans zx.symm))
def sg{a:Nat}{f:Nat->Keyed}(h:(a==(p.map f).size)=ak):a=p.size:=(eq_of_beq h).trans zx
include B
def Tj{o:Array Keyed}{i j g c d n:Nat}(L:LI f kf W pa pb o i j)(l1:i+1<pa.size)(l2:j<pb.size)(l3:n<=i+j)(q:∀k,j<=k->k<pb.size->kf (at' pa i)<=kf (at' pb k)):mf M A E s κ (GoodR f kf W) (Hz (LH f kf W pa pb) n) (Hz (LH f kf W pa pb) n) (Lh (pa.map f) (pb.map f) o i j g c d):=by
 intro st Q hs hd hn;have eW:=Iy l1;have L4:=L.Af eW q;refine wpS_bind (bN eW ?_);refine aM (λe=>wpS_pure (hd _ bI.aE _ _ (L4.Hi (sg e) B.hl))) λe=>?_;have G4:LH f kf W pa pb n _ _ _:=⟨L4,xw l1 (sd e),l2,⋯⟩;exact aM (λ_=>wpS_pure ((hn _ bI.aE _).1 G4)) λ_=>wpS_pure ((hn _ bI.aE _).2 G4)
def Ti{o:Array Keyed}{i j g c d n:Nat}(L:LI f kf W pa pb o i j)(l1:i+1<pa.size)(l2:j<pb.size)(l3:n<=i+j)(q:∀k,i<=k->k<pa.size->kf (at' pb j)<kf (at' pa k)):mf M A E s κ (GoodR f kf W) (Hz (LH f kf W pa pb) n) (Hz (LH f kf W pa pb) n) (Lg (pa.map f) (pb.map f) o i j g c d):=by
 intro st Q hs hd hn;have zb:(pb.map f).size=pb.size:=zx ..;have eW:=Iy l1;have L2:=L.B3 l2 λj j1 j2=>zp (q j j1 j2);refine wpS_bind (bN l2 ?_);refine aM (λe=>wpS_pure (hd _ bI.aE _ _ (L2.B2 (sg e)))) λe=>?_;have e':j+1<pb.size:=xw l2 (sd e);refine wpS_bind (bN eW (wpS_bind (Ce (base:=j+1) (n:=(pb.map f).size - (j+1)) (hint:=0) B.hL (B.ia i eW) B.ib (by rw[zb];omega) (by rw[zb];omega) (Ie B.ub (by rw[zb];omega)) hs λk k1 k2 k3=>?_)));rw[zb]at k1 k3;have q3:=λx (j1:j+1+k<=x) (j2:x<pb.size)=>Hg.1 ((show j+1+(x - (j+1))=x by omega) ▸ k3 (x - (j+1)) ⋯ ⋯);refine aM (λkp=>?_) λkz=>?_
 .have L3:=L2.Nb (k:=k) λx y hi h1 j1 j2=>ur (zp (zo.1 (k2 x hi))) (B.ua _ y j1 j2);refine aM (λe=>wpS_pure (hd _ bI.aE _ _ (L3.B2 (sg e)))) λe=>?_;exact Tj B L3 l1 (by have:=sd e;omega) ⋯ q3 st Q hs hd hn
 .obtain rfl:k=0:=Ja kz;exact Tj B L2 l1 e' ⋯ q3 st Q hs hd hn
def QY{o:Array Keyed}{i j g c d n:Nat}(L:LH f kf W pa pb n o i j):mf M A E s κ (GoodR f kf W) (Hz (LH f kf W pa pb) n) (Hz (LH f kf W pa pb) n) (J2 (pa.map f) (pb.map f) o i j g c d):=by
 let⟨L,l1,l2,l3⟩:=L;intro st Q hs hd hn;have za:(pa.map f).size=pa.size:=zx ..;refine wpS_bind (wpS_modify (wpS_bind (bN l2 (wpS_bind (Ce (base:=i) (n:=(pa.map f).size - i) (hint:=0) B.hL (B.ib _ l2) B.ia (by rw[za];omega) (by rw[za];omega) (Ie B.ua (by rw[za];omega)) (by exact hs) λk k1 k2 k3=>?_)))));rw[za]at k1 k3;have qa:=λx (j1:i+k<=x) (j2:x<pa.size)=>Lj.1 ((show i+(x - i)=x by omega) ▸ k3 (x - i) ⋯ ⋯);have S:bI st (setG st g):=bI.aE;refine aM (λkp=>?_) λkz=>?_
 .have LA:=L.GK (k:=k) λx y hi h1 j1 j2=>ur (wm.1 (k2 x hi)) (B.ub j y j1 j2);refine aM (λe=>wpS_pure (hd _ S _ _ (LA.Hi (sg e) B.hl))) λe=>?_;refine aM (λe=>wpS_pure (hd _ S _ _ (LA.B1 (sg e)))) λe2=>?_;exact Ti B LA (by have:=sd e;have:=sd e2;omega) l2 ⋯ qa _ Q hs (λae S'=>hd ae (S.trans S')) λae S'=>hn ae (S.trans S')
 .obtain rfl:k=0:=Ja kz;exact Ti B L l1 l2 l3 qa _ Q hs (λae S'=>hd ae (S.trans S')) λae S'=>hn ae (S.trans S')
def aGK{o:Array Keyed}{i j g c d n:Nat}(L:LH f kf W pa pb n o i j):mf M A E s κ (GoodR f kf W) (Hz (LH f kf W pa pb) (n+1)) (Hz (LH f kf W pa pb) (n+1)) (Po (pa.map f) (pb.map f) g o i j c d):=by
 let⟨L,l1,l2,l3⟩:=L;intro st Q hs hd hn;have eW:=Iy l1;refine wpS_bind (bN l2 (wpS_bind (bN eW (wpS_bind (B.hL _ _ _ _ (B.ib _ l2) (B.ia _ eW) hs ?_)))));refine aM (λhw=>?_) λhw=>?_
 .have L2:=L.B3 l2 λx j1 j2=>ur (zp (of_decide_eq_true hw)) (B.ua i x j1 j2);refine wpS_bind (bN l2 (aM (λe=>wpS_pure (hd _ bI.aE _ _ (L2.B2 (sg e)))) λe=>?_));have G2:LH f kf W pa pb (n+1) _ _ _:=⟨L2,l1,xw l2 (sd e),EZ l3⟩;exact aM (λ_=>wpS_pure ((hn _ bI.aE _).1 G2)) λ_=>wpS_pure ((hn _ bI.aE _).2 G2)
 .have L2:=L.Af eW λx j1 j2=>ur (Int.not_lt.mp λz=>hw (decide_eq_true z)) (B.ub j x j1 j2);refine wpS_bind (bN eW (aM (λe=>wpS_pure (hd _ bI.aE _ _ (L2.Hi (sg e) B.hl))) λe=>?_));have G2:LH f kf W pa pb (n+1) _ _ _:=⟨L2,xw l1 (sd e),l2,⋯⟩;exact aM (λ_=>wpS_pure ((hn _ bI.aE _).1 G2)) λ_=>wpS_pure ((hn _ bI.aE _).2 G2)
def aMR{st:SortSt}(hs:kindOf st=κ)(h:∀r ae,bI st ae->GoodR f kf (pa.toList++pb.toList) r->Q r ae):wpS M A E s (IL (pa.map f) (pb.map f)) Q st:=by
 have L0:LI f kf (pa.toList++pb.toList) pa pb #[f (at' pb 0)] 0 1:=by
  have:LI f kf (pa.toList++pb.toList) pa pb #[] 0 0:=⟨[],rfl,Hh B.ua,Hh B.ub,List.Perm.refl _⟩;exact this.B3 B.nb λj _ j2=>ur (zp B.hf) (B.ua 0 j (qz _) j2)
 rw[aMQ];refine wpS_bind (wpS_lift (kQ ⟨rfl,wpS_bind (bN B.nb ?_)⟩));refine aM (λe1=>wpS_pure (h _ _ bI.aE (L0.B2 (sg e1)))) λe1=>?_;refine aM (λe2=>wpS_pure (h _ _ bI.aE (L0.Hi (sg e2) B.hl))) λe2=>?_;refine QZ (H:=LH f kf (pa.toList++pb.toList) pa pb) (by rw[zx];exact Nat.add_pos_left B.na _) (λn i j o h=>⟨h.1,h.2.1,h.2.2.1,Nat.le_of_succ_le h.2.2.2⟩) (λo i j h=>?_) (λx g i j o c d k=>aGK B k) (λx i j o g c d k=>?_) hs ⟨L0,xw B.na (sd e2),xw B.nb (sd e1),gw _⟩ h
 .obtain⟨_,h1,h2,h3⟩:=h;rw[zx,zx]at h3;omega
 .exact λst Q hs hd hn=>aM (λ_=>QY B k st Q hs hd hn) λ_=>QY B k st Q hs hd hn
end
end
end TS
namespace TS
open PySem PyProof.Rows
section
variable{kf:Nat->Int}{W:List Nat}{p:Array Nat}
def Out.rev{l:List Nat}(h:Out (λx=>- kf x) W l):Out kf W l.reverse:=⟨N0.mpr (h.1.imp λz=>by have:- kf _<=- kf _:=z;show kf _<=kf _;omega),(List.reverse_perm l).trans h.2⟩
def Cd(n:Nat):((p.map f).extract 0 n).toList=(p.toList.take n).map f:=by simp[List.map_take]
def Se{n:Nat}(h:n<p.size):(p.toList.take (n+1)).reverse=[at' p n]++(p.toList.take n).reverse:=by
 rw[List.take_succ_eq_append_getElem (by simpa using h),List.reverse_append];simp[at',i5,h]
def au9{i n:Nat}(h:i<=n):(p.toList.take n).reverse=((p.toList.take n).drop i).reverse++(p.toList.take i).reverse:=by
 rw[←List.reverse_append];congr 1;have:=(E8 i (p.toList.take n)).symm
 rwa [List.take_take,Ct h]at this
def aGL{i n:Nat}:((p.map f).extract i n).reverse.toList=(((p.toList.take n).drop i).reverse).map f:=by
 simp[List.map_take,List.map_drop,List.drop_take]
def sZ{n x:Nat}(h:x∈(p.toList.take n).reverse):∃j,j<n/\j<p.size/\x=at' p j:=by
 let⟨j,hj,e⟩:=IS.mp (Cv.mp h)
 have dA:j<n/\j<p.size:=by
  have:j<min n p.size:=by simpa using hj
  omega
 refine⟨j,dA.1,dA.2,?_⟩;rw[←e];simp[at',i5,dA.2]
def Ur{i n x:Nat}(h:x∈((p.toList.take n).drop i).reverse):∃j,i<=j/\j<n/\j<p.size/\x=at' p j:=by
 let⟨j,hj,e⟩:=IS.mp (Cv.mp h)
 have dA:i+j<n/\i+j<p.size:=by
  have:j<min n p.size - i:=by simpa using hj
  omega
 refine⟨i+j,⋯,dA.1,dA.2,?_⟩;rw[←e];simp[at',i5,dA.2]
end
variable{na nb:Nat}
section
variable{M:Model}{A:jf}{E:au->cg->Prop}{s:cg}{f:Nat->Keyed}{kf:Nat->Int}{N:Nat}{κ:SortKind}{pa pb:Array Nat}{W:List Nat}
abbrev HI(f:Nat->Keyed)(kf:Nat->Int)(W:List Nat)(pa pb:Array Nat)(out:Array Keyed)(na nb:Nat):Prop:=∃o:List Nat,out.toList=o.map f/\MI (λx=>- kf x) W o (pa.toList.take na).reverse (pb.toList.take nb).reverse
def HI.Af{out:Array Keyed}(h:HI f kf W pa pb out (na+1) nb)(ha:na<pa.size)(q:∀j,j<nb->j<pb.size->kf (at' pb j)<=kf (at' pa na)):HI f kf W pa pb (out.push (f (at' pa na))) na nb:=by
 let⟨o,e,m⟩:=h;rw[Se ha]at m;refine⟨o++[at' pa na],by simp[e],m.a λx hx y hy=>?_⟩;let⟨j,j1,j2,rfl⟩:=sZ hy;rw[jw.mp hx];have:=q j j1 j2;omega
def HI.swap{out:Array Keyed}{na nb:Nat}(h:HI f kf W pa pb out na nb):HI f kf W pb pa out nb na:=let⟨o,e,m⟩:=h;⟨o,e,m.swap⟩
def HI.B3{out:Array Keyed}(h:HI f kf W pa pb out na (nb+1))(hb:nb<pb.size)(q:∀j,j<na->j<pa.size->kf (at' pa j)<=kf (at' pb nb)):HI f kf W pa pb (out.push (f (at' pb nb))) na nb:=(h.swap.Af hb q).swap
def HI.GK{out:Array Keyed}{i:Nat}(h:HI f kf W pa pb out na nb)(hi:i<=na)(q:∀k j,i<=k->k<na->k<pa.size->j<nb->j<pb.size->kf (at' pb j)<=kf (at' pa k)):HI f kf W pa pb (out++((pa.map f).extract i na).reverse) i nb:=by
 let⟨o,e,m⟩:=h;rw[au9 hi]at m;refine⟨o++((pa.toList.take na).drop i).reverse,by rw[qy,aGL,e,jk],m.a λx hx y hy=>?_⟩;let⟨j,j1,j2,rfl⟩:=sZ hy;let⟨k,k1,k2,k3,rfl⟩:=Ur hx;have:=q k j k1 k2 k3 j1 j2;omega
def HI.Nb{out:Array Keyed}{i:Nat}(h:HI f kf W pa pb out na nb)(hi:i<=nb)(q:∀k j,i<=k->k<nb->k<pb.size->j<na->j<pa.size->kf (at' pa j)<=kf (at' pb k)):HI f kf W pa pb (out++((pb.map f).extract i nb).reverse) na i:=(h.swap.GK hi q).swap
def HI.B1{out:Array Keyed}(h:HI f kf W pa pb out na nb)(e:na=0):GoodR f kf W ((pa.map f).extract 0 na++(pb.map f).extract 0 nb++out.reverse):=by
 let⟨o,eo,m⟩:=h;subst e;exact⟨_,by rw[qy,qy,Cd,Cd,NY,eo];simp,m.Q0.rev⟩
def HI.B2{out:Array Keyed}(h:HI f kf W pa pb out na nb)(e:nb=0):GoodR f kf W ((pa.map f).extract 0 na++(pb.map f).extract 0 nb++out.reverse):=by
 let⟨o,eo,m⟩:=h;subst e;exact⟨_,by rw[qy,qy,Cd,Cd,NY,eo];simp,m.Q1.rev⟩
def HI.HD{out:Array Keyed}(h:HI f kf W pa pb out na nb)(e:nb=1)(z:1<=pb.size)(hf:∀j,j<pa.size->kf (at' pb 0)<=kf (at' pa j)):GoodR f kf W ((pb.map f).extract 0 nb++(pa.map f).extract 0 na++out.reverse):=by
 let⟨o,eo,m⟩:=h;subst e;have e2:(pb.toList.take 1).reverse=[at' pb 0]:=by rw[Se ⋯];rfl
 have e3:pb.toList.take 1=[at' pb 0]:=by rw[←List.reverse_reverse (pb.toList.take 1),e2];rfl
 rw[e2]at m;refine⟨_,by rw[qy,qy,Cd,Cd,e3,NY,eo];simp,(m.swap.last λy hy=>?_).rev⟩;let⟨j,j1,j2,rfl⟩:=sZ hy;have:=hf j j2;omega
abbrev HG(f:Nat->Keyed)(kf:Nat->Int)(W:List Nat)(pa pb:Array Nat)(out:Array Keyed)(na nb n:Nat):Prop:=HI f kf W pa pb out na nb/\1<=na/\na<=pa.size/\2<=nb/\nb<=pb.size/\na+nb+n<=pa.size+pb.size
@[simp]def Kz:Type:=RA×Nat×Nat×Array Keyed×Nat×Nat×Nat
abbrev vt(a b o:Array Keyed)(i j:Nat):Array Keyed:=a.extract 0 i++b.extract 0 j++o.reverse
abbrev Gu(a b o:Array Keyed)(i j:Nat):Array Keyed:=b.extract 0 j++a.extract 0 i++o.reverse
abbrev PM(a b:Array Keyed)(g i j:Nat)(o:Array Keyed)(c d:Nat):StateT SortSt Sem (ForInStep (RA×Nat×Nat×Array Keyed×Nat×Nat)):=do
 let y ←elem' b (j - 1)
 let x ←elem' a (i - 1)
 let w ←lt' y x
 match w with
 |some w =>
  if w=ak then
   let x ←elem' a (i - 1)
   if(i - 1==0)=ak then pure (.done (aj (vt a b (o.push x) (i - 1) j),i - 1,j,o.push x,c+1,0))
   else if c+1≥g then pure (.done (bh,i - 1,j,o.push x,c+1,0))else pure (.yield (bh,i - 1,j,o.push x,c+1,0))
  else
   let y ←elem' b (j - 1)
   if(j - 1==1)=ak then pure (.done (aj (Gu a b (o.push y) i (j - 1)),i,j - 1,o.push y,0,d+1))
   else if d+1≥g then pure (.done (bh,i,j - 1,o.push y,0,d+1))else pure (.yield (bh,i,j - 1,o.push y,0,d+1))
 |x=>pure (.done (aj (vt a b o i j),i,j,o,c,d))
abbrev Lf(a b o:Array Keyed)(i j g c d:Nat):StateT SortSt Sem (ForInStep Kz):=do
 let x ←elem' a (i - 1)
 if(i - 1==0)=ak then pure (.done (aj (vt a b (o.push x) (i - 1) j),i - 1,j,o.push x,g,c,d))
 else if(decide (c<7)&&decide (d<7))=ak then pure (.done (bh,i - 1,j,o.push x,g,c,d))else pure (.yield (bh,i - 1,j,o.push x,g,c,d))
abbrev Ld(a b o:Array Keyed)(i j g c d:Nat):StateT SortSt Sem (ForInStep Kz):=do
 let y ←elem' b (j - 1)
 if(j - 1==1)=ak then pure (.done (aj (Gu a b (o.push y) i (j - 1)),i,j - 1,o.push y,g,c,d))
 else do
  let x ←elem' a (i - 1)
  let r ←sY ak x b 0 (j - 1) (j - 1 - 1)
  match r with
  |some k=>if j - 1 - k>0 then(if(k==1)=ak then pure (.done (aj (Gu a b (o.push y++(b.extract k (j - 1)).reverse) i k),i,k,o.push y++(b.extract k (j - 1)).reverse,g,c,j - 1 - k))else if(k==0)=ak then pure (.done (aj (vt a b (o.push y++(b.extract k (j - 1)).reverse) i k),i,k,o.push y++(b.extract k (j - 1)).reverse,g,c,j - 1 - k))else Lf a b (o.push y++(b.extract k (j - 1)).reverse) i k g c (j - 1 - k))else Lf a b (o.push y) i (j - 1) g c (j - 1 - k)
  |x=>pure (.done (aj (vt a b (o.push y) i (j - 1)),i,j - 1,o.push y,g,c,d))
abbrev Kk(a b:Array Keyed)(i j:Nat)(o:Array Keyed)(g c d:Nat):StateT SortSt Sem (ForInStep Kz):=do
 modify λs=>setG s g
 let y ←elem' b (j - 1)
 let r ←sY ao y a 0 i (i - 1)
 match r with
 |some k=>if i - k>0 then(if(k==0)=ak then pure (.done (aj (vt a b (o++(a.extract k i).reverse) k j),k,j,o++(a.extract k i).reverse,g,i - k,d))else Ld a b (o++(a.extract k i).reverse) k j g (i - k) d)else Ld a b o i j g (i - k) d
 |x=>pure (.done (aj (vt a b o i j),i,j,o,g,c,d))
def aMS(a b:Array Keyed):IK a b=(do
 rule "list.sort.merge-hi"
 let x ←elem' a (a.size - 1)
 if(a.size - 1==0)=ak then pure (vt a b #[x] (a.size - 1) b.size)
 else if(b.size==1)=ak then pure (Gu a b #[x] (a.size - 1) b.size)
 else JY (a.size+b.size) (PM a b) (λi j o g c d=>if g>1 then Kk a b i j o (g - 1) c d else Kk a b i j o g c d) (a.size - 1) b.size #[x]):=rfl
section
variable(B:Jt M A E s f kf N κ pa pb)
@[simp]def HH(f:Nat->Keyed)(kf:Nat->Int)(W:List Nat)(pa pb:Array Nat)(n i j:Nat)(o:Array Keyed):Prop:=HG f kf W pa pb o i j n
include B
def Jt.Gx(j:Nat)(hj:j<pa.size):kf (at' pb 0)<=kf (at' pa j):=ur (zp B.hf) (B.ua 0 j (qz _) hj)
def Th{o:Array Keyed}{i j g c d n:Nat}(L:HI f kf W pa pb o (i+1) j)(l1:i<pa.size)(l2:2<=j)(fN:j<=pb.size)(l3:i+j+n<=pa.size+pb.size)(q:∀x,x<j->x<pb.size->kf (at' pb x)<=kf (at' pa i)):mf M A E s κ (GoodR f kf W) (Hz (HH f kf W pa pb) n) (Hz (HH f kf W pa pb) n) (Lf (pa.map f) (pb.map f) o (i+1) j g c d):=by
 intro st Q hs hd hn;have L4:=L.Af l1 q;refine wpS_bind (bN (i:=i) l1 ?_);refine aM (λe=>wpS_pure (hd _ bI.aE _ _ (L4.B1 (eq_of_beq e)))) λe=>?_;have G4:HH f kf W pa pb n _ _ _:=⟨L4,I0 (bne e),wj l1,l2,fN,l3⟩;exact aM (λ_=>wpS_pure ((hn _ bI.aE _).1 G4)) λ_=>wpS_pure ((hn _ bI.aE _).2 G4)
def Tg{o:Array Keyed}{i j g c d n:Nat}(L:HI f kf W pa pb o (i+1) (j+1))(l1:i<pa.size)(l2:1<=j)(fN:j<pb.size)(l3:i+j+n<=pa.size+pb.size)(q:∀x,x<i+1->x<pa.size->kf (at' pa x)<=kf (at' pb j)):mf M A E s κ (GoodR f kf W) (Hz (HH f kf W pa pb) n) (Hz (HH f kf W pa pb) n) (Ld (pa.map f) (pb.map f) o (i+1) (j+1) g c d):=by
 intro st Q hs hd hn;have L2:=L.B3 fN q;refine wpS_bind (bN (i:=j) fN ?_);refine aM (λe=>wpS_pure (hd _ bI.aE _ _ (L2.HD (eq_of_beq e) B.nb B.Gx))) λe=>?_;have e':j≠1:=bne e;have l4:=wj fN;refine wpS_bind (bN (i:=i) l1 (wpS_bind (Ce (base:=0) (n:=j) (hint:=j - 1) B.hL (B.ia i l1) B.ib (by rwa [uq]) (xh l2 xk) (Ie B.ub (by rwa [uq])) hs λk k1 k2 k3=>?_)));have q3:=λx (j1:x<k) (j2:x<pb.size)=>zp (zo.1 (uq x ▸ k2 x j1));refine aM (λkp=>?_) λkz=>?_
 .have L3:=L2.Nb (i:=k) k1 λx y hi h1 h2 j1 j2=>ur (B.ua y i (Iw j1) l1) (Hg.1 (uq x ▸ k3 x hi h1));refine aM (λe=>wpS_pure (hd _ bI.aE _ _ (L3.HD (eq_of_beq e) B.nb B.Gx))) λe=>?_;refine aM (λe=>wpS_pure (hd _ bI.aE _ _ (L3.B2 (eq_of_beq e)))) λe2=>?_;exact Th B L3 l1 (by have:=bne e;have:=bne e2;omega) (qw k1 l4) ⋯ q3 st Q hs hd hn
 .obtain rfl:k=j:=Nat.le_antisymm k1 (Nat.sub_eq_zero_iff_le.mp (Ja kz));exact Th B L2 l1 ⋯ l4 l3 q3 st Q hs hd hn
def QX{o:Array Keyed}{i j g c d n:Nat}(L:HH f kf W pa pb n i j o):mf M A E s κ (GoodR f kf W) (Hz (HH f kf W pa pb) n) (Hz (HH f kf W pa pb) n) (Kk (pa.map f) (pb.map f) i j o g c d):=by
 let⟨L,l1,eW,l2,fN,l3⟩:=L;intro st Q hs hd hn;obtain _|j:=j
 .cases l2
 have l2:=Nat.le_of_succ_le_succ l2;refine wpS_bind (wpS_modify (wpS_bind (bN (i:=j) fN (wpS_bind (Ce (base:=0) (n:=i) (hint:=i - 1) B.hL (B.ib _ fN) B.ia (by rwa [uq]) (xh l1 xk) (Ie B.ua (by rwa [uq])) (by exact hs) λk k1 k2 k3=>?_)))));have qa:=λx (j1:x<k) (j2:x<pa.size)=>wm.1 (uq x ▸ k2 x j1);have S:bI st (setG st g):=bI.aE;refine aM (λkp=>?_) λkz=>?_
 .have LA:=L.GK (i:=k) k1 λx y hi h1 h2 j1 j2=>ur (B.ub y j (Iw j1) fN) (zp (Lj.1 (uq x ▸ k3 x hi h1)));refine aM (λe=>wpS_pure (hd _ S _ _ (LA.B1 (eq_of_beq e)))) λe=>?_;obtain _|k:=k
  .exact absurd rfl (bne e)
  exact Tg B LA (je k1 eW) l2 fN ⋯ qa _ Q hs (λae S'=>hd ae (S.trans S')) λae S'=>hn ae (S.trans S')
 .obtain rfl:k=i:=Nat.le_antisymm k1 (Nat.sub_eq_zero_iff_le.mp (Ja kz));obtain _|k:=k
  .cases l1
  exact Tg B L eW l2 fN ⋯ qa _ Q hs (λae S'=>hd ae (S.trans S')) λae S'=>hn ae (S.trans S')
def aGM{o:Array Keyed}{i j g c d n:Nat}(L:HH f kf W pa pb n i j o):mf M A E s κ (GoodR f kf W) (Hz (HH f kf W pa pb) (n+1)) (Hz (HH f kf W pa pb) (n+1)) (PM (pa.map f) (pb.map f) g i j o c d):=by
 let⟨L,l1,eW,l2,fN,l3⟩:=L;intro st Q hs hd hn;obtain _|j:=j
 .cases l2
 obtain _|i:=i
 .cases l1
 refine wpS_bind (bN (i:=j) fN (wpS_bind (bN (i:=i) eW (wpS_bind (B.hL _ _ _ _ (B.ib _ fN) (B.ia _ eW) hs ?_)))));refine aM (λhw=>?_) λhw=>?_
 .have L2:=L.Af eW λx j1 j2=>ur (B.ub x j (Iw j1) fN) (zp (of_decide_eq_true hw));refine wpS_bind (bN (i:=i) eW (aM (λe=>wpS_pure (hd _ bI.aE _ _ (L2.B1 (eq_of_beq e)))) λe=>?_));have G2:HH f kf W pa pb (n+1) _ _ _:=⟨L2,I0 (bne e),wj eW,l2,fN,⋯⟩;exact aM (λ_=>wpS_pure ((hn _ bI.aE _).1 G2)) λ_=>wpS_pure ((hn _ bI.aE _).2 G2)
 .have L2:=L.B3 fN λx j1 j2=>ur (B.ua x i (Iw j1) eW) (Int.not_lt.mp λz=>hw (decide_eq_true z));refine wpS_bind (bN (i:=j) fN (aM (λe=>wpS_pure (hd _ bI.aE _ _ (L2.HD (eq_of_beq e) B.nb B.Gx))) λe=>?_));have G2:HH f kf W pa pb (n+1) _ _ _:=⟨L2,l1,eW,xw (Nat.le_of_succ_le_succ l2) (bne e).symm,wj fN,⋯⟩;exact aM (λ_=>wpS_pure ((hn _ bI.aE _).1 G2)) λ_=>wpS_pure ((hn _ bI.aE _).2 G2)
def aMT{st:SortSt}(hs:kindOf st=κ){Q:Array Keyed->SortSt->Prop}(h:∀r ae,bI st ae->GoodR f kf (pa.toList++pb.toList) r->Q r ae):wpS M A E s (IK (pa.map f) (pb.map f)) Q st:=by
 have na:=B.na
 have L0:HI f kf (pa.toList++pb.toList) pa pb #[f (at' pa (pa.size - 1))] (pa.size - 1) pb.size:=by
  have ea:pa.size - 1+1=pa.toList.length:=Nat.sub_add_cancel na
  have:HI f kf (pa.toList++pb.toList) pa pb #[] (pa.size - 1+1) pb.size:=by
   rw[HI,ea,xn,show pb.size=pb.toList.length from rfl,xn];exact⟨[],rfl,N0.mpr ((Hh B.ua).imp λz=>Int.neg_le_neg z),N0.mpr ((Hh B.ub).imp λz=>Int.neg_le_neg z),(List.reverse_perm _).append (List.reverse_perm _)⟩
  exact this.Af (xh na xk) λj _ j2=>B.hl j j2
 rw[aMS,zx,zx];refine wpS_bind (wpS_lift (kQ ⟨rfl,wpS_bind (bN (i:=pa.size - 1) (xh na xk) ?_)⟩));refine aM (λe1=>wpS_pure (h _ _ bI.aE (L0.B1 (eq_of_beq e1)))) λe1=>?_;refine aM (λe2=>wpS_pure (h _ _ bI.aE (L0.HD (eq_of_beq e2) B.nb B.Gx))) λe2=>?_;refine QZ (H:=HH f kf (pa.toList++pb.toList) pa pb) (Nat.add_pos_left na _) (λn i j o h=>⟨h.1,h.2.1,h.2.2.1,h.2.2.2.1,h.2.2.2.2.1,Nat.le_of_succ_le h.2.2.2.2.2⟩) (λi j o h=>?_) (λx g i j o c d k=>aGM B k) (λx i j o g c d k=>?_) hs ⟨L0,I0 (bne e1),Nat.sub_le _ _,xw B.nb (bne e2).symm,gw _,⋯⟩ h
 .obtain⟨_,h1,_,h2,_,h3⟩:=h;omega
 .exact λst Q hs hd hn=>aM (λ_=>QX B k st Q hs hd hn) λ_=>QX B k st Q hs hd hn
end
end
end TS
namespace TS
open PySem PyProof.Rows
open PySem.W (kas_swaps_map)
abbrev lF(kf:Nat->Int)(p:Array Nat)(lo hi:Nat):Prop:=∀i j,lo<=i->i<=j->j<hi->kf (at' p i)<=kf (at' p j)
abbrev we(kf:Nat->Int)(p:Array Nat)(lo hi:Nat):Prop:=∀i j,lo<=i->i<=j->j<hi->kf (at' p j)<=kf (at' p i)
abbrev Off(p q:Array Nat)(lo:Nat):Prop:=∀i,i<lo->at' q i=at' p i
variable{lo:Nat}
section
variable{kf:Nat->Int}{N:Nat}{p:Array Nat}
def LO{i j k:Nat}(hj:j<=p.size):at' (mirror p i j ((j - i) / 2)) k=if i<=k/\k<j then at' p (i+j - 1 - k)else at' p k:=by
 have e:=getElem?_mirror_all (xs:=p) (i:=i) hj k;split at e
 .rw[if_pos ‹_›];exact L2.oF e
 .rw[if_neg ‹_›];exact L2.oF e
def LN{src d k:Nat}(hs:src<p.size)(hd:d<=src):at' (bubble p src d) k=if k=src - d then at' p src else if src - d<k/\k<=src then at' p (k - 1)else at' p k:=by
 have e:=getElem?_bubble (xs:=p) hs d hd k;by_cases h1:k=src - d
 .rw[if_pos h1]at e ⊢;exact L2.oF e
 .rw[if_neg h1]at e ⊢;by_cases h2:src - d<k/\k<=src
  .rw[if_pos h2]at e ⊢;exact L2.oF e
  .rw[if_neg h2]at e ⊢;exact L2.oF e
def aGN{i j d:Nat}(h:L2.Pm N p):L2.Pm N (mirror p i j d):=⟨by rw[mirror_size];exact h.size,((mirror_perm p i j d).toList).trans h.perm⟩
def aGO{i d:Nat}(h:L2.Pm N p):L2.Pm N (bubble p i d):=⟨by rw[bubble_size];exact h.size,((bubble_perm p i d).toList).trans h.perm⟩
def lF.more{n:Nat}(u:lF kf p lo (lo+n))(hn:1<=n)(h:¬ kf (at' p (lo+n))<kf (at' p (lo+n - 1))):lF kf p lo (lo+(n+1)):=λi j h1 h2 h3=>by
 by_cases c:j<lo+n
 .exact u i j h1 h2 c
 .obtain rfl:j=lo+n:=by omega
  by_cases d:i=lo+n
  .subst d;exact kR _
  .exact ur (u i (lo+n - 1) h1 ⋯ ⋯) ⋯
def we.more{n:Nat}(u:we kf p lo (lo+n))(hn:1<=n)(h:kf (at' p (lo+n))<kf (at' p (lo+n - 1))):we kf p lo (lo+(n+1)):=λi j h1 h2 h3=>by
 by_cases c:j<lo+n
 .exact u i j h1 h2 c
 .obtain rfl:j=lo+n:=by omega
  by_cases d:i=lo+n
  .subst d;exact kR _
  .exact ur (zp h) (u i (lo+n - 1) h1 ⋯ ⋯)
def we.rev{n:Nat}(u:we kf p lo (lo+n))(hp:lo+n<=p.size):lF kf (mirror p lo (lo+n) ((lo+n - lo) / 2)) lo (lo+n):=λi j h1 h2 h3=>by
 rw[LO hp,LO hp,if_pos ⟨h1,⋯⟩,if_pos ⟨⋯,h3⟩];exact u _ _ ⋯ ⋯ ⋯
end
variable{Q:Unit->SortSt->Prop}
section
variable{M:Model}{A:jf}{s:cg}{f:Nat->Keyed}{kf:Nat->Int}{N:Nat}{κ:SortKind}{p:Array Nat}
structure AS(f:Nat->Keyed)(κ:SortKind)(pd:Array (Nat×Nat×Nat))(p:Array Nat)(st:SortSt):Prop where
 kind:kindOf st=κ
 arr:arrOf st=p.map f
 pend:pendingOf st=pd
 fail:failedOf st=bh
def Bc(hL:pM M A E s f kf N κ)(P:L2.Pm N p){st:SortSt}(S:AS f κ pd p st){i j:Nat}(hi:i<N)(hj:j<N){Q:Option Bool->SortSt->Prop}(h:Q (aj (decide (kf (at' p i)<kf (at' p j)))) st):wpS M A E s (ltAt' i j) Q st:=by
 rw[ltAt'_eq];refine wpS_bind (wpS_get ?_);rw[S.arr];have z:=P.size;exact wpS_bind (bN ⋯ (wpS_bind (bN ⋯ (hL _ _ _ _ (P.lt hi) (P.lt hj) S.kind h))))
def aRE{st:SortSt}(S:AS f κ pd p st){i j:Nat}(h:∀ae,AS f κ pd (mirror p i j ((j - i) / 2)) ae->Q () ae):wpS M A E s (reverseSlice' i j) Q st:=by
 rw[reverseSlice'_eq];refine wpS_modify (h _ ⟨S.kind,?_,S.pend,S.fail⟩);show mirror (arrOf st) i j ((j - i) / 2)=_;rw[S.arr];exact kas_swaps_map f (λk=>i+k) (λk=>j - 1 - k) _ p
def aRF{st:SortSt}(S:AS f κ pd p st){k l:Nat}(h:∀ae,AS f κ pd (bubble p k (k - l)) ae->Q () ae):wpS M A E s (moveDown' k l) Q st:=by
 rw[moveDown'_eq];refine wpS_modify (h _ ⟨S.kind,?_,S.pend,S.fail⟩);show bubble (arrOf st) k (k - l)=_;rw[S.arr];exact kas_swaps_map f (λi=>k - i) (λi=>k - i - 1) _ p
private theorem QW(hL:pM M A E s f kf N κ)(hd:∀i j,i<N->j<N->kf i=kf j->i=j)(P:L2.Pm N p){st:SortSt}(S:AS f κ pd p st){nr:Nat}(h1:1<=nr)(hn:lo+nr=N){Q:Option Nat->SortSt->Prop}
  (h:∀m q ae,AS f κ pd q ae->L2.Pm N q->Off p q lo->1<=m->m<=nr->lF kf q lo (lo+m)->Q (aj m) ae):wpS M A E s (countRun' lo nr) Q st:=by
 have one:∀(p:Array Nat)(l:Nat),lF kf p l (l+1):=λp l i j a b c=>by
  obtain rfl:i=j:=by omega
  exact kR _
 rw[countRun'_eq]
 refine wpS_bind (wpS_mono (wpS_forRange (I:=λx c ae=>ae=st/\c=(bh,x)/\lF kf p lo (lo+x))
  (Q:=λc ae=>ae=st/\∃n,c=(bh,n)/\1<=n/\n<=nr/\lF kf p lo (lo+n)/\(n<nr->kf (at' p (lo+n))<kf (at' p (lo+n - 1)))) ?step ?fin ⟨rfl,rfl,one _ _⟩) ?post)
 case fin =>
  rintro c ae ⟨rfl,rfl,u⟩;rw[show max 1 nr=nr by omega]at u ⊢;exact⟨rfl,nr,rfl,h1,gw _,u,λz=>absurd z (vo _)⟩
 case step =>
  rintro x c ae x1 x2 ⟨rfl,rfl,u⟩;refine wpS_bind (Bc hL P S (i:=lo+x) (j:=lo+x - 1) ⋯ ⋯ ?_);refine aM (λc=>wpS_pure ⟨rfl,x,rfl,x1,⋯,u,λ_=>of_decide_eq_true c⟩) λc=>wpS_pure ⟨rfl,rfl,u.more x1 λz=>c (decide_eq_true z)⟩
 case post =>
  rintro c ae ⟨rfl,n,rfl,n1,n2,u,hs⟩;refine aM (λ_=>wpS_pure (h n p _ S P (λ_ _=>rfl) n1 n2 u)) λc=>?_;have c':n≠nr:=λz=>c (by simpa using z);have hs:=hs ⋯;refine aM (λg=>?_) λg=>?_
  .have g:n>1:=g;refine wpS_bind (Bc hL P S (i:=lo) (j:=lo+n - 1) ⋯ ⋯ ?_);refine aM (λ_=>wpS_pure (h n p _ S P (λ_ _=>rfl) n1 n2 u)) λc=>?_;exfalso;refine c (decide_eq_true ?_);rcases Int.lt_or_eq_of_le (u lo (lo+n - 1) ⋯ ⋯ ⋯)with z|z
   .exact z
   .have:=P.inj (show lo<N by omega) (show lo+n - 1<N by omega) (hd _ _ (P.lt ⋯) (P.lt ⋯) z);omega
  .obtain rfl:n=1:=by
    have:¬ (n>1):=g;omega
   refine wpS_bind (wpS_lift (kQ ⟨rfl,?_⟩));have z:=P.size
   refine wpS_bind (wpS_mono (wpS_forRange (I:=λx c bg=>bg=ae/\c=(bh,x,0)/\we kf p lo (lo+x))
    (Q:=λc bg=>bg=ae/\∃n,c=(bh,n,0)/\2<=n/\n<=nr/\we kf p lo (lo+n)) ?nL ?Na ⟨rfl,rfl,?aMU⟩) ?Lc)
   case aMU =>
    refine we.more (n:=1) (λi j a b c=>?_) (gw _) hs;obtain rfl:i=j:=by omega
    exact kR _
   case Na =>
    rintro c bg ⟨rfl,rfl,u⟩;rw[show max (1+1) nr=nr by omega]at u ⊢;exact⟨rfl,nr,rfl,⋯,gw _,u⟩
   case nL =>
    rintro x c bg x1 x2 ⟨rfl,rfl,u⟩;refine wpS_bind (Bc hL P S (i:=lo+x) (j:=lo+x - 1) ⋯ ⋯ ?_);refine aM (λc=>?_) λc=>?_
    .exact aM (λz=>absurd z (vo 0)) λ_=>wpS_pure ⟨rfl,rfl,u.more ⋯ (of_decide_eq_true c)⟩
    .refine wpS_bind (Bc hL P S (i:=lo+x - 1) (j:=lo+x) ⋯ ⋯ ?_);refine aM (λc=>wpS_pure ⟨rfl,x,rfl,x1,⋯,u⟩) λc2=>?_;exfalso
     have e:kf (at' p (lo+x))=kf (at' p (lo+x - 1)):=by
      have a1:¬ kf (at' p (lo+x))<kf (at' p (lo+x - 1)):=λz=>c (decide_eq_true z);have a2:¬ kf (at' p (lo+x - 1))<kf (at' p (lo+x)):=λz=>c2 (decide_eq_true z);omega
     have:=P.inj (show lo+x<N by omega) (show lo+x - 1<N by omega) (hd _ _ (P.lt ⋯) (P.lt ⋯) e);omega
   case Lc =>
    rintro c bg ⟨rfl,n,rfl,n1,n2,u⟩;refine aM (λz=>absurd z (vo 0)) λ_=>?_;refine wpS_bind (aRE S λef S3=>?_);have P3:=aGN (i:=lo) (j:=lo+n) (d:=(lo+n - lo) / 2) P;have u3:=u.rev ⋯
    have o3:Off p (mirror p lo (lo+n) ((lo+n - lo) / 2)) lo:=λi hi=>by
     rw[LO ⋯,if_neg ⋯]
    refine wpS_bind (wpS_mono (wpS_forRange (I:=λx c ae=>ae=ef/\c=(bh,x)/\lF kf (mirror p lo (lo+n) ((lo+n - lo) / 2)) lo (lo+x))
     (Q:=λc ae=>ae=ef/\∃m,c=(bh,m)/\1<=m/\m<=nr/\lF kf (mirror p lo (lo+n) ((lo+n - lo) / 2)) lo (lo+m)) ?aMV ?OI ⟨rfl,rfl,u3⟩) ?FH)
    case OI =>
     rintro c ae ⟨rfl,rfl,u⟩;rw[show max n nr=nr by omega]at u ⊢;exact⟨rfl,nr,rfl,h1,gw _,u⟩
    case aMV =>
     rintro x c ae x1 x2 ⟨rfl,rfl,u⟩;have x1:n<=x:=x1;have x2:x<nr:=x2;refine wpS_bind (Bc hL P3 S3 (i:=lo+x) (j:=lo+x - 1) ⋯ ⋯ ?_);exact aM (λc=>wpS_pure ⟨rfl,x,rfl,⋯,⋯,u⟩) λc=>wpS_pure ⟨rfl,rfl,u.more ⋯ λz=>c (decide_eq_true z)⟩
    case FH =>
     rintro c ae ⟨rfl,m,rfl,m1,m2,u⟩;exact wpS_pure (h m _ _ S3 P3 o3 m1 m2 u)
end
end TS
namespace TS
open PySem PyProof.Rows
open PySem.W (kas_swaps_map)
section
variable{M:Model}{A:jf}{s:cg}{kf:Nat->Int}{N:Nat}{κ:SortKind}{p:Array Nat}
def aGQ{lo k l:Nat}(hk:lo+k<p.size)(hl:l<=k)(u:lF kf p lo (lo+k))(h1:∀i,i<l->kf (at' p (lo+i))<=kf (at' p (lo+k)))(h2:∀i,l<=i->i<k->kf (at' p (lo+k))<kf (at' p (lo+i))) :
  lF kf (bubble p (lo+k) (lo+k - (lo+l))) lo (lo+(k+1)):=λi j a b c=>by
 have H1:∀x,lo<=x->x<lo+l->kf (at' p x)<=kf (at' p (lo+k)):=λx x1 x2=>(show lo+(x - lo)=x by omega) ▸ h1 (x - lo) ⋯;have H2:∀x,lo+l<=x->x<lo+k->kf (at' p (lo+k))<=kf (at' p x):=λx x1 x2=>zp ((show lo+(x - lo)=x by omega) ▸ h2 (x - lo) ⋯ ⋯);rw[LN hk ⋯,LN hk ⋯,show lo+k - (lo+k - (lo+l))=lo+l by omega];by_cases i1:i=lo+l
 .rw[if_pos i1];by_cases j1:j=lo+l
  .rw[if_pos j1];exact kR _
  .rw[if_neg j1,if_pos ⋯];exact H2 _ ⋯ ⋯
 .rw[if_neg i1];by_cases i2:lo+l<i/\i<=lo+k
  .rw[if_pos i2,if_neg ⋯,if_pos ⋯];exact u _ _ ⋯ ⋯ ⋯
  .rw[if_neg i2];by_cases j1:j=lo+l
   .rw[if_pos j1];exact H1 _ a ⋯
   .rw[if_neg j1];by_cases j2:lo+l<j/\j<=lo+k
    .rw[if_pos j2];exact u _ _ a ⋯ ⋯
    .rw[if_neg j2];exact u _ _ a b ⋯
private theorem Ex(hL:pM M A E s f kf N κ)(P:L2.Pm N p){st:SortSt}(S:AS f κ pd p st){lo n ok:Nat}(ho:1<=ok)(hon:ok<=n)(hn:lo+n<=N)(u:lF kf p lo (lo+ok)){Q:Bool->SortSt->Prop}
  (h:∀q ae,AS f κ pd q ae->L2.Pm N q->Off p q lo->lF kf q lo (lo+n)->Q ak ae):wpS M A E s (binarySort' lo n ok) Q st:=by
 rw[binarySort'_eq]
 refine wpS_bind (wpS_mono (wpS_forRange (I:=λk c ae=>c=(bh,())/\∃q,AS f κ pd q ae/\L2.Pm N q/\Off p q lo/\lF kf q lo (lo+k))
  (Q:=λc ae=>c=(bh,())/\∃q,AS f κ pd q ae/\L2.Pm N q/\Off p q lo/\lF kf q lo (lo+n)) ?step ?fin ⟨rfl,p,S,P,λ_ _=>rfl,by rw[show max ok 1=ok by omega];exact u⟩) ?post)
 case post =>
  rintro c ae ⟨rfl,q,S,P,o,u⟩;exact wpS_pure (h q _ S P o u)
 case fin =>
  rintro c ae ⟨rfl,q,S,P,o,u⟩;rw[show max (max ok 1) n=n by omega]at u;exact⟨rfl,q,S,P,o,u⟩
 case step =>
  rintro k c ae k1 k2 ⟨rfl,q,S,P,o,u⟩;have z:=P.size
  refine wpS_bind (wpS_mono (wpS_forRange (I:=λx c bg=>bg=ae/\∃l r,c=(bh,l,r)/\l<=r/\r<=k/\r+x<=k+l/\(∀i,i<l->kf (at' q (lo+i))<=kf (at' q (lo+k)))/\(∀i,r<=i->i<k->kf (at' q (lo+k))<kf (at' q (lo+i))))
   (Q:=λc bg=>bg=ae/\∃l r,c=(bh,l,r)/\l<=k/\(∀i,i<l->kf (at' q (lo+i))<=kf (at' q (lo+k)))/\(∀i,l<=i->i<k->kf (at' q (lo+k))<kf (at' q (lo+i)))) ?FJ ?OD ⟨rfl,0,k,rfl,⋯,⋯,⋯,λi hi=>by omega,λi a b=>by omega⟩) ?FK)
  case OD =>
   rintro c bg ⟨rfl,l,r,rfl,a0,a1,a2,a3,a4⟩;obtain rfl:l=r:=by omega
   exact⟨rfl,l,l,rfl,a1,a3,a4⟩
  case FJ =>
   rintro x c bg _ hx ⟨rfl,l,r,rfl,a0,a1,a2,a3,a4⟩;refine aM (λg=>?_) λg=>?_
   .have g:l≥r:=g;obtain rfl:l=r:=by omega
    exact wpS_pure ⟨rfl,l,l,rfl,a1,a3,a4⟩
   .have g:¬ l≥r:=g;refine wpS_bind (Bc hL P S (i:=lo+k) (j:=lo+(l+r) / 2) ⋯ ⋯ ?_);refine aM (λc=>wpS_pure ⟨rfl,l,(l+r) / 2,rfl,⋯,⋯,⋯,a3,λi b1 b2=>?_⟩) λc=>wpS_pure ⟨rfl,(l+r) / 2+1,r,rfl,⋯,⋯,⋯,λi b1=>?_,a4⟩
    .exact Int.lt_of_lt_of_le (of_decide_eq_true c) (u _ _ ⋯ ⋯ ⋯)
    .have c:¬ kf (at' q (lo+k))<kf (at' q (lo+(l+r) / 2)):=λz=>c (decide_eq_true z);exact ur (u _ (lo+(l+r) / 2) ⋯ ⋯ ⋯) (Int.not_lt.mp c)
  case FK =>
   rintro c bg ⟨rfl,l,r,rfl,a1,a3,a4⟩;refine wpS_bind (aRF S λef S3=>wpS_pure ⟨rfl,_,S3,aGO P,λi hi=>?_,aGQ ⋯ a1 u a3 a4⟩);show at' (bubble q (lo+k) (lo+k - (lo+l))) i=at' p i;rw[LN ⋯ ⋯,if_neg ⋯,if_neg ⋯];exact o i hi
def ahN(i:Nat):mergeAt' i=(do
 let s ←get
 let(aj (s1,n1,w0),aj (s2,n2,_)):=((pendingOf s)[i]?,(pendingOf s)[i+1]?)|unsupported "internal:list.sort.pending"
 set (Nc s (((pendingOf s).setIfInBounds i (s1,n1+n2,w0)).eraseIdxIfInBounds (i+1)))
 let aj k ←sY ao (←elem' (arrOf s) s2) (arrOf s) s1 n1 0|return ao
 let(s1,n1):=(s1+k,n1 - k)
 if n1==0 then return ak
 let aj n2 ←sY ak (←elem' (arrOf s) (s1+n1 - 1)) (arrOf s) s2 n2 (n2 - 1)|return ao
 if n2==0 then return ak
 let x0:=(arrOf s).extract s1 s2
 let y0:=(arrOf s).extract s2 (s2+n2)
 let g0 ←if n1<=n2 then IL x0 y0 else IK x0 y0
 modify λs=>GL s (g0.toList.zipIdx.foldl (λa (p,j)=>a.setIfInBounds (s1+j) p) (arrOf s))
 return (failedOf (←get)).isNone):=rfl
end
end TS
namespace TS
open PySem PyProof.Rows
def IJ{α:Type}(sa:Nat):∀(l:List α)(j:Nat)(a:Array α),sa+j+l.length<=a.size->((l.zipIdx j).foldl (λa (p,j)=>a.setIfInBounds (sa+j) p) a).toList=a.toList.take (sa+j)++l++a.toList.drop (sa+j+l.length)
 |[],j,a,h=>by simp
 |x::l,j,a,h=>by
  rw[List.zipIdx_cons,List.foldl_cons];rw[IJ sa l (j+1) _ (by rw[Array.size_setIfInBounds];simp at h;omega)];simp only[qm]at h;dsimp only;rw[Array.toList_setIfInBounds,show sa+(j+1)=sa+j+1 by omega,List.take_set,List.drop_set_of_lt ⋯,List.take_succ_eq_append_getElem (by simp;omega),List.set_append_right _ _ (by simp;omega)];rw[show sa+j - (List.take (sa+j) a.toList).length=0 by simp;omega];simp;congr 1;omega
section
variable{M:Model}{A:jf}{s:cg}{kf:Nat->Int}{N:Nat}{κ:SortKind}{p:Array Nat}
def YV{σ:Type}{st ae:σ}{Q:PUnit->σ->Prop}(h:Q ⟨⟩ ae):wpS M A E s (set ae:StateT σ Sem PUnit) Q st:=by
 unfold wpS;rw[StateT.run_set];exact cj ⟨rfl,h⟩
def Sd{base n:Nat}(u:lF kf p base (base+n)){left:Bool}{key:Nat}(i j:Nat)(gN:i<=j)(hj:j<n)(e:vU kf left key (at' p (base+j))=ak):vU kf left key (at' p (base+i))=ak:=by
 have:=u (base+i) (base+j) ⋯ ⋯ ⋯;cases left with
 |true=>exact zo.2 (Int.lt_of_le_of_lt this (zo.1 e))
 |false=>exact wm.2 (ur this (wm.1 e))
def QV{a b i:Nat}(hb:b<=p.size)(hi:i<b - a):at' (p.extract a b) i=at' p (a+i):=by
 apply L2.oF;rw[Array.getElem?_extract,Ct hb,if_pos hi]
def YU(u:p.toList.Pairwise (Le kf)):lF kf p 0 p.size:=λi j _ b c=>by
 by_cases e:i=j
 .subst e;exact kR _
 .have:=uw.mp u i j (by simp;omega) (by simpa using c) ⋯;simpa[at',i5,c,show i<p.size by omega]using this
def VL{a b:Nat}(hb:b<=p.size)(u:lF kf p a b):((p.toList.take b).drop a).Pairwise (Le kf) :=
 uw.mpr λi j hi hj gN=>by
  have dA:j<b - a:=by simp at hj;omega
  have:=u (a+i) (a+j) ⋯ ⋯ ⋯;simpa[at',i5,show a+i<p.size by omega,show a+j<p.size by omega]using this
def mem_mid{i n x:Nat}(h:x∈((p.toList.take n).drop i)):∃j,i<=j/\j<n/\j<p.size/\x=at' p j:=Ur (Cv.mpr h)
def He{a b:Nat}:(p.extract a b).toList=(p.toList.take b).drop a:=by simp[List.drop_take]
def aGR(hL:pM M A E s f kf N κ)(P:L2.Pm N p){st:SortSt}{n1 n2 pw q0:Nat}(S:AS f κ #[(0,n1,pw),(n1,n2,q0)] p st)(h1:1<=n1)(h2:1<=n2)(e:n1+n2=N)(ua:lF kf p 0 n1)(ub:lF kf p n1 N){Q:Bool->SortSt->Prop}
  (h:∀q ae,AS f κ #[(0,N,pw)] q ae->L2.Pm N q->lF kf q 0 N->Q ak ae):wpS M A E s (mergeAt' 0) Q st:=by
 have z:=P.size;have hI:In N p:=λi hi=>P.lt ⋯;have e0:(pendingOf st)[0]?=aj (0,n1,pw):=by rw[S.pend];rfl
 have e1:(pendingOf st)[0+1]?=aj (n1,n2,q0):=by rw[S.pend];rfl
 rw[ahN];refine wpS_bind (wpS_get ?_);rw[e0,e1];have S1:AS f κ #[(0,N,pw)] p (Nc st (((pendingOf st).setIfInBounds 0 (0,n1+n2,pw)).eraseIdxIfInBounds (0+1))):=⟨S.kind,S.arr,by show((pendingOf st).setIfInBounds 0 (0,n1+n2,pw)).eraseIdxIfInBounds (0+1)=_;rw[S.pend,e];simp[N7,Array.setIfInBounds],S.fail⟩;refine wpS_bind (YV ?_);generalize Nc st (((pendingOf st).setIfInBounds 0 (0,n1+n2,pw)).eraseIdxIfInBounds (0+1))=A0 at S1 ⊢;rw[S.arr];refine wpS_bind (bN (i:=n1) ⋯ (wpS_bind (Ce (base:=0) (n:=n1) (hint:=0) hL (P.lt ⋯) hI ⋯ ⋯ (Sd (by rw[uq];exact ua)) S1.kind λk k1 k2 k3=>?_)));simp only[uq]at k2 k3;refine aM (λc=>?_) λc=>?_
 .have c:n1 - k=0:=by simpa using c
  refine wpS_pure (h p _ S1 P λi j a b d=>?_);by_cases i1:n1<=i
  .exact ub i j i1 b d
  .by_cases j1:j<n1
   .exact ua i j a b j1
   .exact ur (wm.1 (k2 i ⋯)) (ub n1 j ⋯ ⋯ d)
 have c:k<n1:=Nat.lt_of_sub_ne_zero λz=>c (by simpa using z);have ek:0+k+(n1 - k) - 1=n1 - 1:=by rw[uq,E7 k1]
 rw[show(0+k,n1 - k).1+(0+k,n1 - k).2 - 1=n1 - 1 from ek];clear ek;have Pf:n1 - 1<p.size:=by clear c;omega
 have zn:n1<=p.size:=by clear c;omega
 refine wpS_bind (bN (i:=n1 - 1) Pf (wpS_bind (Ce (base:=n1) (n:=n2) (hint:=n2 - 1) hL (P.lt (z ▸ Pf)) hI (by rw[e,z];exact gw _) (xh h2 xk) (Sd (by rw[e];exact ub)) S1.kind λm m1 m2 m3=>?_)));refine aM (λc=>?_) λc2=>?_
 .have c:m=0:=by simpa using c
  subst c;refine wpS_pure (h p _ S1 P λi j a b d=>?_);by_cases i1:n1<=i
  .exact ub i j i1 b d
  .by_cases j1:j<n1
   .exact ua i j a b j1
   .exact ur (ua i (n1 - 1) a (Nat.le_sub_one_of_lt (Nat.lt_of_not_le i1)) (xh h1 xk)) (E7 (Nat.le_of_not_lt j1) ▸ Hg.1 (m3 (j - n1) (qz _) (Nat.sub_lt_left_of_lt_add (Nat.le_of_not_lt j1) (e ▸ d))))
 have c2:0<m:=I0 λz=>c2 (by simpa using z);have zm:n1+m<=p.size:=by rw[z,←e];exact Nat.add_le_add_left m1 _
 have xe:(p.map f).extract (0+k) n1=(p.extract k n1).map f:=by rw[uq];simp
 have ye:(p.map f).extract n1 (n1+m)=(p.extract n1 (n1+m)).map f:=by simp
 show wpS M A E s (do
   let merged ←if n1 - k<=m then IL ((p.map f).extract (0+k) n1) ((p.map f).extract n1 (n1+m))else IK ((p.map f).extract (0+k) n1) ((p.map f).extract n1 (n1+m))
   modify λs=>GL s (merged.toList.zipIdx.foldl (λa (p,j)=>a.setIfInBounds (0+k+j) p) (arrOf s))
   return (failedOf (←get)).isNone) Q A0
 rw[xe,ye];have za:(p.extract k n1).size=n1 - k:=by rw[Array.size_extract,Ct zn]
 have zb:(p.extract n1 (n1+m)).size=m:=by rw[Array.size_extract,Ct zm,Nat.add_sub_cancel_left]
 have aa:∀i,i<n1 - k->at' (p.extract k n1) i=at' p (k+i):=λi hi=>QV zn hi;have ab:∀i,i<m->at' (p.extract n1 (n1+m)) i=at' p (n1+i):=λi hi=>QV zm (by rwa [Nat.add_sub_cancel_left]);have ki:∀i,i<(p.extract k n1).size->k+i<n1:=λi hi=>Nat.add_comm k i ▸ Nat.add_lt_of_lt_sub (za ▸ hi);have mi:∀i,i<(p.extract n1 (n1+m)).size->n1+i<N:=λi hi=>z ▸ je (Nat.add_lt_add_left (zb ▸ hi) _) zm;have Ia:In N (p.extract k n1):=λi hi=>by rw[aa i (za ▸ hi)];exact P.lt (je (ki i hi) (z ▸ zn))
 have Ib:In N (p.extract n1 (n1+m)):=λi hi=>by rw[ab i (zb ▸ hi)];exact P.lt (mi i hi)
 have Ua:Up kf (p.extract k n1):=λi j gN hj=>by rw[aa i (uc gN (za ▸ hj)),aa j (za ▸ hj)];exact ua _ _ (qz _) (Nat.add_le_add_left gN _) (ki j hj)
 have Ub:Up kf (p.extract n1 (n1+m)):=λi j gN hj=>by rw[ab i (uc gN (zb ▸ hj)),ab j (zb ▸ hj)];exact ub _ _ (Nat.le_add_right _ _) (Nat.add_le_add_left gN _) (mi j hj)
 have Hf:kf (at' (p.extract n1 (n1+m)) 0)<kf (at' (p.extract k n1) 0):=by rw[aa 0 (Iv c),ab 0 c2];exact Lj.1 (k3 k (gw _) c)
 have Hl:∀j,j<(p.extract n1 (n1+m)).size->kf (at' (p.extract n1 (n1+m)) j)<=kf (at' (p.extract k n1) ((p.extract k n1).size - 1)):=λj hj=>by
  rw[ab j (zb ▸ hj),za,aa _ (xh (Iv c) xk),←Nat.add_sub_assoc (Iv c),E7 k1];exact zp (zo.1 (m2 j (zb ▸ hj)))
 have fin:∀r ae,bI A0 ae->GoodR f kf ((p.extract k n1).toList++(p.extract n1 (n1+m)).toList) r->wpS M A E s (do
   modify λs=>GL s (r.toList.zipIdx.foldl (λa (p,j)=>a.setIfInBounds (0+k+j) p) (arrOf s))
   return (failedOf (←get)).isNone) Q ae:=by
  rintro r ae ⟨s1,s2,s3,s4⟩ ⟨l,el,lp,lw⟩;have ll:l.length=n1 - k+m:=by rw[lw.length_eq,wu,uo,uo,za,zb]
  have ln:k+(n1 - k+m)=n1+m:=by rw[←Nat.add_assoc,E7 k1]
  refine wpS_bind (wpS_modify (wpS_bind (wpS_get ?_)))
  have ev:(r.toList.zipIdx.foldl (λa (p,j)=>a.setIfInBounds (0+k+j) p) (arrOf ae))=((p.toList.take k++l++p.toList.drop (n1+m)).toArray).map f:=by
   apply Array.ext';rw[s2,S1.arr,IJ (0+k) r.toList 0 _ (by rw[el,dw,ll,Nat.add_zero,uq,ln,zx];exact zm),el];simp[List.map_take,List.map_drop,ll];rw[ln]
  have hf:(failedOf (GL ae (r.toList.zipIdx.foldl (λa (p,j)=>a.setIfInBounds (0+k+j) p) (arrOf ae)))).isNone=ak:=by
   show(failedOf ae).isNone=ak;rw[s4,S1.fail];rfl
  rw[hf]
  have mp:p.toList=p.toList.take k++((p.extract k n1).toList++(p.extract n1 (n1+m)).toList)++p.toList.drop (n1+m):=by
   rw[He,He]
   have a1:(p.toList.take n1)=p.toList.take k++(p.toList.take n1).drop k:=by
    have:=(E8 k (p.toList.take n1)).symm
    rwa [List.take_take,Ct k1]at this
   have a2:(p.toList.take (n1+m))=p.toList.take n1++(p.toList.take (n1+m)).drop n1:=by
    have:=(E8 n1 (p.toList.take (n1+m))).symm
    rwa [List.take_take,Ct (Nat.le_add_right _ _)]at this
   rw[←xp,←a1,←a2,E8]
  have pm:(p.toList.take k++l++p.toList.drop (n1+m)).Perm p.toList:=by
   conv=>rhs;rw[mp]
   exact(lw.append_left _).append_right _
  have P2:L2.Pm N (p.toList.take k++l++p.toList.drop (n1+m)).toArray:=⟨by rw[←z];simpa using pm.length_eq,pm.trans P.perm⟩;refine wpS_pure (h _ _ ⟨s1.trans S1.kind,ev,s3.trans S1.pend,s4.trans S1.fail⟩ P2 ?_)
  have D1:∀x,x∈p.toList.drop (n1+m)->∃j,n1+m<=j/\j<N/\x=at' p j:=λx hx=>by
   let⟨j,a,b,c⟩:=lU hx;exact⟨j,a,z ▸ b,c⟩
  have T1:∀x,x∈p.toList.take k->∃j,j<k/\x=at' p j:=λx hx=>by
   let⟨j,a,b,c⟩:=sZ (Cv.mpr hx);exact⟨j,a,c⟩
  have M1:∀x,x∈l->(∃j,k<=j/\j<n1/\x=at' p j)∨∃j,n1<=j/\j<n1+m/\x=at' p j:=λx hx=>by
   have:=lw.mem_iff.mp hx;rw[He,He]at this;rcases qj.mp this with q|q
   .obtain⟨j,a,b,c,d⟩:=mem_mid q;exact .inl ⟨j,a,b,d⟩
   .obtain⟨j,a,b,c,d⟩:=mem_mid q;exact .inr ⟨j,a,b,d⟩
  rw[←P2.size];refine YU ?_;show(p.toList.take k++l++p.toList.drop (n1+m)).Pairwise (Le kf);have tb:∀i j,i<k->n1<=j->j<N->kf (at' p i)<=kf (at' p j):=λi j hi hj hn=>ur (wm.1 (k2 i hi)) (ub n1 j (gw _) hj hn);have ad:∀i j,i<n1->n1+m<=j->j<N->kf (at' p i)<=kf (at' p j):=λi j hi hj hn=>ur (ua i (n1 - 1) (qz _) (Nat.le_sub_one_of_lt hi) (xh h1 xk)) (E7 (N1 hj) ▸ Hg.1 (m3 (j - n1) (Nat.le_sub_of_add_le (Nat.add_comm n1 m ▸ hj)) (Nat.sub_lt_left_of_lt_add (N1 hj) (e ▸ hn))));rw[yd,yd];refine⟨⟨?_,lp,λx hx y hy=>?_⟩,?_,λx hx y hy=>?_⟩
  .have:=VL (a:=0) (b:=k) (qw k1 zn) (λi j a b c=>ua i j a b (je c k1));simpa using this
  .obtain⟨i,hi,rfl⟩:=T1 x hx;rcases M1 y hy with⟨j,a,b,rfl⟩|⟨j,a,b,rfl⟩
   .exact ua i j (qz _) (wj (je hi a)) b
   .exact tb i j hi a (je b (z ▸ zm))
  .have:=VL (a:=n1+m) (b:=N) (Cn z.symm) (λi j a b c=>ub i j (N1 a) b c)
   rwa [N3 (by simp[z])]at this
  .obtain⟨j,j1,j2,rfl⟩:=D1 y hy;rcases qj.mp hx with hx|hx
   .obtain⟨i,hi,rfl⟩:=T1 x hx;exact ad i j (je hi k1) j1 j2
   .rcases M1 x hx with⟨i,a,b,rfl⟩|⟨i,a,b,rfl⟩
    .exact ad i j b j1 j2
    .exact ub i j a (wj (je b j1)) j2
 have B:Jt M A E s f kf N κ _ _:=⟨hL,Ia,Ib,Ua,Ub,Nat.lt_of_lt_of_eq (Iv c) za.symm,Nat.lt_of_lt_of_eq c2 zb.symm,Hf,Hl⟩;exact aM (λ_=>wpS_bind (aMR B S1.kind fin)) λ_=>wpS_bind (aMT B S1.kind fin)
end
end TS
namespace TS
open PySem PyProof.Rows
section
variable{M:Model}{A:jf}{s:cg}{f:Nat->Keyed}{kf:Nat->Int}{N:Nat}{κ:SortKind}
def AS.push{pd:Array (Nat×Nat×Nat)}{st:SortSt}(S:AS f κ pd p st)(x:Nat×Nat×Nat):AS f κ (pd.push x) p (setPending st ((pendingOf st).push x)):=⟨S.kind,S.arr,by show(pendingOf st).push x=_;rw[S.pend],S.fail⟩
def mod_one{α:Type}(x:α)(g:α->α):(#[x]:Array α).modify (#[x].size - 1) g=#[g x]:=by
 apply Array.ext';simp[Array.toList_modify]
def AS.aRG{st:SortSt}{x:Nat×Nat×Nat}(S:AS f κ #[x] p st)(g:Nat×Nat×Nat->Nat×Nat×Nat):AS f κ #[g x] p (setPending st ((pendingOf st).modify ((pendingOf st).size - 1) g)):=⟨S.kind,S.arr,by show(pendingOf st).modify _ g=_;rw[S.pend];exact mod_one x g,S.fail⟩
abbrev One(f:Nat->Keyed)(κ:SortKind)(kf:Nat->Int)(N:Nat)(st:SortSt):Prop:=∃q pw,AS f κ #[(0,N,pw)] q st/\L2.Pm N q/\lF kf q 0 N
abbrev c6(f:Nat->Keyed)(κ:SortKind)(kf:Nat->Int)(N:Nat)(st:SortSt):Prop:=∃q n1 n2 pw,AS f κ #[(0,n1,pw),(n1,n2,0)] q st/\L2.Pm N q/\1<=n1/\1<=n2/\n1+n2=N/\lF kf q 0 n1/\lF kf q n1 N
private theorem YT(hL:pM M A E s f kf N κ)(hd:∀i j,i<N->j<N->kf i=kf j->i=j)(gX:64<=N)(GJ:N<128)(P:L2.Pm N p){st:SortSt}(S:AS f κ #[] p st){Q:Unit->SortSt->Prop}
  (h:∀q ae,arrOf ae=q.map f->failedOf ae=bh->L2.Pm N q->lF kf q 0 N->Q () ae):wpS M A E s sortRuns' Q st:=by
 have z:=P.size;have za:(arrOf st).size=N:=by rw[S.arr,zx,z]
 rw[sortRuns'_eq];refine wpS_bind (wpS_get ?_)
 have Bh:minRun' N N 0=N / 2+N%2:=by
  obtain⟨r,rfl⟩:∃r,N=r+3:=⟨N - 3,⋯⟩;rw[minRun'_succ,if_neg ⋯,minRun'_succ,if_pos ⋯];omega
 rw[za];clear za;obtain⟨mr,YE⟩:∃mr,mr=minRun' N N 0:=⟨_,rfl⟩;rw[←YE]at Bh;have hm:N<=2*mr:=by rw[Bh];clear Bh;omega
 have hm1:mr<N:=by rw[Bh];clear Bh;omega
 clear Bh
 refine wpS_bind (wpS_mono (wpS_forRange (I:=λx c ae=>(x=0/\c=(bh,0)/\AS f κ #[] p ae)∨(x=1/\∃n1 q,c=(bh,n1)/\1<=n1/\mr<=n1/\n1<=N/\AS f κ #[(0,n1,0)] q ae/\L2.Pm N q/\lF kf q 0 n1)∨(2<=x/\c=(bh,N)/\c6 f κ kf N ae))
  (Q:=λc ae=>c.1=bh/\(One f κ kf N ae∨c6 f κ kf N ae)) ?step ?fin (.inl ⟨rfl,rfl,S⟩)) ?post)
 case fin =>
  rintro c ae (⟨a,_⟩|⟨a,_⟩|⟨_,rfl,T⟩)
  .exfalso;have:max 0 N=0:=a;omega
  .exfalso;have:max 0 N=1:=a;omega
  .exact⟨rfl,.inr T⟩
 case post =>
  rintro⟨c1,c2⟩ ae ⟨rfl,T⟩
  refine wpS_bind (wpS_mono (wpS_forRange (I:=λx c ae=>c=(bh,())/\(One f κ kf N ae∨(x=0/\c6 f κ kf N ae)))
   (Q:=λc ae=>c=(bh,())/\One f κ kf N ae) ?nL ?Na ⟨rfl,T.imp id λt=>⟨rfl,t⟩⟩) ?Lc)
  case Na =>
   rintro c ae ⟨rfl,o|⟨a,_⟩⟩
   .exact⟨rfl,o⟩
   .exfalso;have:max 0 N=0:=a;omega
  case Lc =>
   rintro c ae ⟨rfl,q,pw,S,P,u⟩;exact wpS_pure (h q _ S.arr S.fail P u)
  case nL =>
   rintro x c ae _ hx ⟨rfl,o|⟨rfl,q,n1,n2,pw,S,P,a1,a2,e,u1,u2⟩⟩
   .refine wpS_bind (wpS_get (aM (λ_=>wpS_pure ⟨rfl,o⟩) λc=>?_));let⟨q,pw,S,P,u⟩:=o;exfalso;refine c ?_;show(pendingOf ae).size<=1;rw[S.pend];exact gw 1
   .refine wpS_bind (wpS_get ?_);rw[S.pend];refine aM (λc=>absurd (show 2<=1 from c) ⋯) λ_=>?_;refine wpS_bind (aGR hL P S a1 a2 e u1 u2 λq bg S2 P2 u=>?_);exact wpS_pure ⟨rfl,.inl ⟨q,pw,S2,P2,u⟩⟩
 case step =>
  rintro x c ae _ hx (⟨rfl,rfl,S⟩|⟨rfl,n1,q,rfl,a1,a2,a3,S,P,u⟩|⟨_,rfl,T⟩)
  .refine aM (λc=>absurd (show 0≥N from c) ⋯) λ_=>?_;refine wpS_bind (QW hL hd P S (lo:=0) (nr:=N - 0) ⋯ ⋯ λm q bg S2 P2 _ m1 m2 u=>?_);rw[uq]at u;refine aM (λlt=>?_) λlt=>?_
   .have lt:m<minRun' N N 0:=lt;refine wpS_bind (wpS_lift (kQ ⟨rfl,?_⟩));refine wpS_bind (Ex hL P2 S2 (lo:=0) (n:=min (N - 0) (minRun' N N 0)) m1 ⋯ ⋯ (by rw[uq];exact u) λq3 ef S3 P3 _ u3=>?_);refine wpS_bind (wpS_get ?_);rw[S3.pend];refine wpS_bind (wpS_modify (wpS_pure (.inr (.inl ⟨rfl,min (N - 0) (minRun' N N 0),q3,by rw[uq],⋯,⋯,⋯,S3.push _,P3,by rwa [uq]at u3⟩))))
   .have lt:¬ m<minRun' N N 0:=lt;refine wpS_bind (wpS_get ?_);rw[S2.pend];refine wpS_bind (wpS_modify (wpS_pure (.inr (.inl ⟨rfl,m,q,by rw[uq],⋯,⋯,⋯,S2.push _,P2,u⟩))))
  .refine aM (λc=>?_) λc=>?_
   .have c:n1≥N:=c;obtain rfl:n1=N:=by omega
    exact wpS_pure ⟨rfl,.inl ⟨q,0,S,P,u⟩⟩
   have c:¬ n1≥N:=c;refine wpS_bind (QW hL hd P S (lo:=n1) (nr:=N - n1) ⋯ ⋯ λm q2 bg S2 P2 o2 m1 m2 u2=>?_);have u1:lF kf q2 0 n1:=λi j x1 x2 x3=>by rw[o2 i ⋯,o2 j ⋯];exact u i j x1 x2 x3
   have key:∀q3 ef,AS f κ #[(0,n1,0)] q3 ef->L2.Pm N q3->lF kf q3 0 n1->lF kf q3 n1 N->∀pw,c6 f κ kf N (setPending (setPending ef ((pendingOf ef).modify ((pendingOf ef).size - 1) λx=>match x with|(st,len,snd)=>(st,len,pw))) ((pendingOf (setPending ef ((pendingOf ef).modify ((pendingOf ef).size - 1) λx=>match x with|(st,len,snd)=>(st,len,pw)))).push (n1,N - n1,0))) :=
    λq3 ef S3 P3 v1 v2 pw=>⟨q3,n1,N - n1,pw,AS.push (S3.aRG λx=>match x with|(st,len,snd)=>(st,len,pw)) (n1,N - n1,0),P3,a1,⋯,⋯,v1,v2⟩
   have O3:∀(q3:Array Nat)(ef:SortSt)(pw:Nat),AS f κ #[(0,n1,0)] q3 ef->wpS M A E s (forIn [:N] (bh,()) λ(x:Nat)(__s:Option Unit×Unit)=>do
      let g ←get
      match if(pendingOf g).size>1 then(pendingOf g)[(pendingOf g).size - 2]? else bh with
       |some (_,_,FI)=>if FI<=pw then pure (ForInStep.done (bh,()))else do
              let b ←mergeAt' ((pendingOf g).size - 2)
              if(!b)=ak then pure (ForInStep.done (aj (),()))else pure (ForInStep.yield (bh,()))
       |x=>pure (ForInStep.done (bh,()))) (λc ja=>c=(bh,())/\ja=ef) ef:=λq3 ef pw S3=>by
    refine wpS_forRange (I:=λ_ c ja=>c=(bh,())/\ja=ef) ?_ (λc ja e=>e) ⟨rfl,rfl⟩;rintro x c ja _ _ ⟨e1,e2⟩;subst e2;refine wpS_bind (wpS_get ?_);rw[show(if(pendingOf ja).size>1 then(pendingOf ja)[(pendingOf ja).size - 2]? else bh)=bh by rw[S3.pend];rfl];exact wpS_pure ⟨rfl,rfl⟩
   refine aM (λlt=>?_) λlt=>?_
   .have lt:m<minRun' N N 0:=lt;refine wpS_bind (wpS_lift (kQ ⟨rfl,?_⟩));refine wpS_bind (Ex hL P2 S2 (lo:=n1) (n:=min (N - n1) (minRun' N N 0)) m1 ⋯ ⋯ u2 λq3 ef S3 P3 o3 u3=>?_);have e3:min (N - n1) (minRun' N N 0)=N - n1:=by omega
    have v1:lF kf q3 0 n1:=λi j x1 x2 x3=>by rw[o3 i ⋯,o3 j ⋯];exact u1 i j x1 x2 x3
    rw[e3,show n1+(N - n1)=N by omega]at u3;refine wpS_bind (wpS_get ?_);rw[S3.pend];refine wpS_bind (wpS_mono (O3 q3 ef _ S3) ?_);rintro c ja ⟨e1,e2⟩;subst e1;subst e2;refine wpS_bind (wpS_modify (wpS_bind (wpS_modify (wpS_pure (.inr (.inr ⟨gw _,?_,?_⟩))))))
    .show(bh,n1+min (N - n1) (minRun' N N 0))=(bh,N);rw[e3,show n1+(N - n1)=N by omega]
    .have:=key q3 ja S3 P3 v1 u3;rw[←e3]at this;exact this _
   .have lt:¬ m<minRun' N N 0:=lt;obtain rfl:m=N - n1:=by omega
    rw[show n1+(N - n1)=N by omega]at u2;refine wpS_bind (wpS_get ?_);rw[S2.pend];refine wpS_bind (wpS_mono (O3 q2 bg _ S2) ?_);rintro c ja ⟨e1,e2⟩;subst e1;subst e2;refine wpS_bind (wpS_modify (wpS_bind (wpS_modify (wpS_pure (.inr (.inr ⟨gw _,?_,key q2 ja S2 P2 u1 u2 _⟩))))));show(bh,n1+(N - n1))=(bh,N);rw[show n1+(N - n1)=N by omega]
  .exact aM (λ_=>wpS_pure ⟨rfl,.inr T⟩) λc=>absurd (show N≥N from gw _) c
end
end TS
namespace L2
open PySem PySem.Spec PyProof.Rows
section
open PySem.W
variable{vs:List au}
section
variable{prog:mz}{w:jr}{A:jf}{s:cg}
def aq9{κ:SortKind}{kf:Nat->Int}(k2:∀i j (C:Bool->cg->Prop),i<vs.length->j<vs.length->C (decide (kf i<kf j)) s->kas_ask prog w A κ vs i j C s):TS.pM (dz prog w) A E s (kas_item (vs.toArray.zip vs.toArray)) kf vs.length κ:=λi j st Q hi hj hk h=>by
 rw[lt'_eq];refine wpS_bind (wpS_get ?_);rw[hk];have z:=k2 i j (λc s'=>s'=s/\c=decide (kf i<kf j)) hi hj ⟨rfl,rfl⟩;unfold kas_ask at z;refine wpS_bind (wpS_lift (An (rm ?_ (λc s' (hc:s'=s/\c=decide (kf i<kf j))=>?_) λ_ _ (hF:False)=>hF.elim)))
 .have e:=kas_item_eq vs;have e1:(kas_item (vs.toArray.zip vs.toArray) i).1=vs.getD i au.none:=by rw[show vs.toArray.zip vs.toArray=pairsOf vs from rfl,e]
  have e2:(kas_item (vs.toArray.zip vs.toArray) j).1=vs.getD j au.none:=by rw[show vs.toArray.zip vs.toArray=pairsOf vs from rfl,e]
  rw[e1,e2];exact z
 .obtain⟨rfl,rfl⟩:=hc;exact⟨rfl,wpS_pure h⟩
def aGS{κ:SortKind}{kf:Nat->Int}(l2:2<=vs.length)(GJ:vs.length<128)(hd:∀i j,i<vs.length->j<vs.length->kf i=kf j->i=j)
  (k2:∀i j (C:Bool->cg->Prop),i<vs.length->j<vs.length->C (decide (kf i<kf j)) s->kas_ask prog w A κ vs i j C s) :
  dj (dz prog w) A (sortRuns'.run (SortSt.mk' κ (vs.toArray.zip vs.toArray) #[] 7 bh)) (λr s'=>s'=s/\failedOf r.2=bh/\∃q,Pm vs.length q/\Up kf q vs.length/\arrOf r.2=q.map (kas_item (vs.toArray.zip vs.toArray))) E s:=by
 by_cases gX:vs.length<64
 .exact kat_run (Q:=λae s'=>s'=s/\failedOf ae=bh/\∃q,Pm vs.length q/\Up kf q vs.length/\arrOf ae=q.map (kas_item (vs.toArray.zip vs.toArray))) (G:=λq s'=>s'=s/\Pm vs.length q/\Up kf q vs.length) rfl l2 gX (λp ae s' a1 a2 a3 a4=>⟨a4.1,a3,p,a4.2.1,a4.2.2,a2⟩)
   (YW (I:=λs'=>s'=s) (λi j C s' hi hj es hC=>by subst es;exact k2 i j C hi hj (hC _ rfl)) hd l2 rfl λq s' P u es=>⟨es,P,u⟩)
 .have P0:Pm vs.length (List.toArray (qd vs.length)):=⟨by simp,by simp⟩;have zs:(vs.toArray.zip vs.toArray).size=vs.length:=by simp
  have er:(List.toArray (qd vs.length)).map (kas_item (vs.toArray.zip vs.toArray))=vs.toArray.zip vs.toArray:=by
   have:=kas_range (vs.toArray.zip vs.toArray)
   rwa [zs]at this
  exact TS.YT (Q:=λ_ ae=>failedOf ae=bh/\∃q,Pm vs.length q/\Up kf q vs.length/\arrOf ae=q.map (kas_item (vs.toArray.zip vs.toArray))) (aq9 k2) hd ⋯ GJ P0 (st:=SortSt.mk' κ (vs.toArray.zip vs.toArray) #[] 7 bh) ⟨rfl,er.symm,rfl,rfl⟩ λq ae a b P u=>⟨b,q,P,λi j gN hj=>u i j (qz _) gN hj,a⟩
def Uq{kf:Nat->Int}{a:bw}{n:Nat}(ho:s.heap.get? a=aj (ud "list" vs.toArray n))(GJ:vs.length<128)(hd:∀i j,i<vs.length->j<vs.length->kf i=kf j->i=j)
  (hk:2<=vs.length->∀h':lg,(∀b o,b≠a->s.heap.get? b=aj o->h'.get? b=aj o)->Hj prog w A s kf vs h')
  (h:∀q,Pm vs.length q->Up kf q vs.length->P (.done (.ret .none)) {s with heap:=sortedHeap s.heap a vs (q.toList.map λi=>vs.getD i au.none).toArray}):dj (dz prog w) A (Builtin.«list.sort» ⟨[.ref a],[]⟩) P E s:=by
 have big:1000<dg:=by decide
 have la:a<s.heap.objs.size:=fj ho;rw[list_sort_plain];refine aq (listItems_at ho rfl (aq (listUpdate_at ho rfl ?_ (by rw[jg];omega) (qz _))));obtain⟨e1,PD⟩:∃e1,(s.heap.update a (Obj.mapSeq λ_=>(#[]:Array au))).get? a=aj (ud "list" #[] e1):=⟨_,get?_update_seq ho λ_=>#[]⟩;refine aq (seqEpoch_at PD rfl (aq (wpAny_newTuple ?_ (by show vs.length<=_;omega))));refine aq (wpAny_newList ?_ (qz _));refine vp ?_;have s0:=kh.update s.heap a (Obj.mapSeq λ_=>(#[]:Array au));have kp:∀b o,b≠a->s.heap.get? b=aj o->(((s.heap.update a (Obj.mapSeq λ_=>(#[]:Array au))).push (ud "tuple" vs.toArray 0)).push (ud "list" #[] 0)).get? b=aj o:=λb o hb e=>cu _ (cu _ ((s0.2 b hb).trans e));have Gn:(((s.heap.update a (Obj.mapSeq λ_=>(#[]:Array au))).push (ud "tuple" vs.toArray 0)).push (ud "list" #[] 0)).get? a=aj (ud "list" #[] e1):=cu _ (cu _ PD);show dj (dz prog w) A _ P E {s with heap:=((s.heap.update a (Obj.mapSeq λ_=>(#[]:Array au))).push (ud "tuple" vs.toArray 0)).push (ud "list" #[] 0)};dsimp only;by_cases c2:vs.toArray.size<2
 .rw[if_pos c2,if_pos c2];refine aq (cj ?_);rw[StateT.run_pure];refine aq (cj ?_);dsimp only;have c3:vs.length<2:=by simpa using c2
  have eo:(arrOf (SortSt.mk' general' (vs.toArray.zip vs.toArray) #[] 7 bh)).map (·.2)=((qd vs.length).toArray.toList.map λi=>vs.getD i au.none).toArray:=by
   show(vs.toArray.zip vs.toArray).map (·.2)=_;exact aq8 c3
  refine aq (seqEpoch_at Gn rfl ?_);rw[eo];refine aq (listUpdate_at Gn rfl ?_ (qz _) (by simp;omega));simp only[bne_self_eq_false,ni,if_false];exact cj (h (qd vs.length).toArray ⟨by rw[jg,List.length_range],.refl _⟩ λi j gN hj=>by have:i=j:=⋯;subst this;exact kR _)
 .rw[if_neg c2,if_neg c2];have l2:2<=vs.length:=by rw[jg]at c2;omega
  let⟨κ,k1,k2⟩:=hk l2 _ kp;refine aq (rm (k1 (λOM s'=>OM=κ/\s'={s with heap:=((s.heap.update a (Obj.mapSeq λ_=>(#[]:Array au))).push (ud "tuple" vs.toArray 0)).push (ud "list" #[] 0)}) ⟨rfl,rfl⟩) (λOM s' ⟨q1,q2⟩=>?_) λ_ _ z=>z.elim);subst q1;subst q2;refine aq (rm (aGS (s:={s with heap:=((s.heap.update a (Obj.mapSeq λ_=>(#[]:Array au))).push (ud "tuple" vs.toArray 0)).push (ud "list" #[] 0)}) l2 GJ hd k2) ?_ λ_ _ e=>e);rintro⟨⟨⟩,ae⟩ s' ⟨es,hf,q,P,u,Ym⟩;subst es;dsimp only;refine aq (seqEpoch_at Gn rfl ?_);rw[kat_snds rfl Ym];refine aq (listUpdate_at Gn rfl ?_ (qz _) (by rw[jg,dw,uo,P.size];omega));rw[hf];simp only[bne_self_eq_false,ni,if_false];exact cj (h q P u)
end
end
variable{ψ:List (bw×Obj)}{q:Array Nat}
section
open PySem.W
def getD_at{α:Type}{l:List α}{i:Nat}{d:α}(h:i<l.length):l.getD i d=l[i]:=by simp[ug,h]
@[simp]def eY(q:Int×Int):D:=.tup [.int q.1,.int q.2]
variable{ps:List (Int×Int)}
section
variable{X:Cx}
def pairs_at{s:cg}(I:Inv X ψ σ H s)(r:cW X.K H (ps.map eY) xs)(rv:Vals xs us):EN s.heap ps us:=by
 refine⟨by rw[←rv.length,←r.length,dw],λi p hp=>?_⟩;let⟨v,e1,rd⟩:=r.get (i:=i) (d:=eY p) (by rw[qu,hp];rfl);let⟨u,e2,ru⟩:=rv.get e1;cases rd with
 |@tup a zs _ hq rz _ =>
  obtain rfl:u=au.ref a:=ru;let⟨its,vi,⟨o,h1,h2,n,h3⟩,_⟩:=I.tuple hq;cases rz with
  |cons ra rb =>
  cases rb with
  |cons rb rc =>
  cases rc;cases ra;cases rb;cases vi with
  |cons va vb =>
  cases vb with
  |cons vb vc =>
  cases vc;let⟨x,rfl⟩:=va;let⟨y,rfl⟩:=vb;exact⟨a,o,n,x,y,e2,h1,h2,h3⟩
def Uo{M B:Int}(hM:2*B<M)(hB:∀p∈ps,-B<=p.2/\p.2<=B)(nd:ps.Nodup)(P:Pm ps.length q)(u:Up (λi=>enc M (ps.getD i (0,0))) q ps.length):(q.toList.map λi=>ps.getD i (0,0)).Perm ps/\dJ (q.toList.map λi=>ps.getD i (0,0)):=by
 have J9:(qd ps.length).map (λi=>ps.getD i (0,0))=ps:=by
  apply List.ext_getElem (by simp);intro i h1 h2;simp[h2]
 refine⟨by have:=P.perm.map λi=>ps.getD i (0,0);rw[J9]at this;exact this,?_⟩;unfold dJ;rw[vf,uw];intro i j hi hj gN;have li:i<q.size:=by simpa using hi
 have lj:j<q.size:=by simpa using hj
 have gi:q.toList[i]=q.getD i 0:=by simp[i5,li]
 have gj:q.toList[j]=q.getD j 0:=by simp[i5,lj]
 rw[gi,gj];have bi:=P.lt (i:=i) (by rw[←P.size];exact li);have bj:=P.lt (i:=j) (by rw[←P.size];exact lj);have le:enc M (ps.getD (q.getD i 0) (0,0))<=enc M (ps.getD (q.getD j 0) (0,0)):=u i j (wj gN) (by rw[←P.size];exact lj);have mi:ps.getD (q.getD i 0) (0,0)∈ps:=by rw[getD_at bi];exact yh _
 have mj:ps.getD (q.getD j 0) (0,0)∈ps:=by rw[getD_at bj];exact yh _
 have k1:=yP hM (hB _ mi) (hB _ mj);have k2:=yP hM (hB _ mj) (hB _ mi);refine k1.mp ?_;rcases Int.lt_or_eq_of_le le with z|z
 .exact z
 .exfalso
  have e:ps.getD (q.getD i 0) (0,0)=ps.getD (q.getD j 0) (0,0):=by
   have n1:¬ uD (ps.getD (q.getD i 0) (0,0)) (ps.getD (q.getD j 0) (0,0)):=λw=>absurd (k1.mpr w) ⋯;have n2:¬ uD (ps.getD (q.getD j 0) (0,0)) (ps.getD (q.getD i 0) (0,0)):=λw=>absurd (k2.mpr w) ⋯;unfold uD at n1 n2;exact Prod.ext ⋯ ⋯
  have e2:ps[q.getD i 0]=ps[q.getD j 0]:=by rw[getD_at bi,getD_at bj]at e;exact e
  have key:=uw.mp nd;rcases Cy (q.getD i 0) (q.getD j 0)with w|w|w
  .exact key _ _ bi bj w e2
  .have:=P.inj (by rw[←P.size];exact li) (by rw[←P.size];exact lj) w;omega
  .exact key _ _ bj bi w e2.symm
def Tf{K:Fg}{ps:List (Int×Int)}{xs:List V}(r:cW K H (ps.map eY) xs):∀{l:List Nat},(∀i∈l,i<ps.length)->cW K H ((l.map λi=>ps.getD i (0,0)).map eY) (l.map λi=>xs.getD i .ag)
 |[],_=>.nil
 |i::l,h=>by
  let⟨v,e1,rd⟩:=r.get (i:=i) (d:=eY (ps.getD i (0,0))) (by have:=h i (by simp);simp[ug,this]);have:xs.getD i .ag=v:=by simp[ug,e1]
  refine .cons ?_ (Tf r λj hj=>h j (by simp[hj]));show RD K H (eY (ps.getD i (0,0))) (xs.getD i .ag);rw[this];exact rd
def NR{xs:List V}{us:List au}(r:Vals xs us):∀{l:List Nat},(∀i∈l,i<xs.length)->Vals (l.map λi=>xs.getD i .ag) (l.map λi=>us.getD i au.none)
 |[],_=>.nil
 |i::l,h=>by
  have hi:=h i (by simp);let⟨u,e1,ru⟩:=r.get (gk hi);have e2:xs.getD i .ag=xs[i]:=by simp[ug,hi]
  have e3:us.getD i au.none=u:=by simp[ug,e1]
  refine .cons ?_ (NR r λj hj=>h j (by simp[hj]));show RelV (xs.getD i .ag) (us.getD i au.none);rw[e2,e3];exact ru
abbrev aMW(ds:List D)(G:Gp)(R:iW):Prop:=∃ps:List (Int×Int),ds=ps.map eY/\ps.Nodup/\ps.length<128/\∀qs:List (Int×Int),qs.Perm ps->dJ qs->∀r,G r=bh->R (.ref r) (aC G r (.lst (qs.map eY)))
end
end
variable{h h':lg}
section
open PySem.W
abbrev j5(h:lg)(d:bw)(es:Array ip)(ep:Nat):Prop:=∃o,h.get? d=aj o/\o.ExactDict/\o.data=.dict es ep
section
variable{prog:mz}{w:jr}{A:jf}{s:cg}{es:Array ip}{ep i:Nat}
def j5.typeIs(hm:j5 s.heap d es ep):s.TypeIs (.ref d) "dict":=let⟨o,ho,hc,_⟩:=hm;⟨o,ho,hc.1⟩
def j5.lt(hm:j5 h d es ep):d<h.objs.size:=let⟨_,ho,_⟩:=hm;fj ho
def j5.at(hm:j5 h d es ep)(k:∀o,h.get? d=aj o->h'.get? d=aj o):j5 h' d es ep:=let⟨o,ho,r⟩:=hm;⟨o,k o ho,r⟩
def Mq(hd:(d==um)=ao)(hm:j5 s.heap d es ep)(hQ:Q (.ref s.heap.objs.size) {s with heap:=s.heap.push {cls:=.type "dict_keyiterator",data:=.fields #[.ref d,.int 0 0,.int es.size 0,.int ep 0]}}):dj (dz prog w) A (pyIter (.ref d)) Q E s:=by
 have T:=hm.typeIs;let⟨o,ho,hc,bo⟩:=hm;refine wpAny_pyIter_slot T F.slot_dict_iter (yx F.slot_dict_iter T F.entry_dict_iter ?_ (F.args_dict_iter_1 _));unfold Builtin.«dict.__iter__»;refine aq ?_;unfold Builtin.Dict.dictSlotNone;refine aq (wpAny_notOrdered_dict T ?_);show dj _ _ (pure (au.ref d)) _ _ s;refine cj ?_;show dj _ _ (Builtin.Dict.showsAll d >>= _) _ _ s;unfold Builtin.Dict.showsAll;rw[if_neg (by rw[hd];exact ql)];refine aq (cj (aq (tm ho bo (aq (wpAny_dictEpoch ho bo (aq (wg (cj ⟨_,rfl,"dict_keyiterator",_,⟨_,jd _ rfl,rfl⟩,F.slot_dict_keyiterator_next.lookup,?_⟩))))))));simpa[fS]using hQ
def Ic{e:ip}(hit:s.heap.IsKeyIter it d i es.size ep)(hm:j5 s.heap d es ep)(hx:es[i]?=aj e)
  (hQ:∀h',h'.IsKeyIter it d (i+1) es.size ep->kh it s.heap h'->Q (aj e.key) {s with heap:=h' }):dj (dz prog w) A (fR (.ref it)) Q E s:=by
 let⟨o,ho,hc,hd⟩:=id hit;let⟨od,cK,gz,fc⟩:=hm;have lt:i<es.size:=(Fe.mp hx).1;unfold fR;refine aq (An (Fc (name:=Str.ofString "__next__") hit.typeIs F.slot_dict_keyiterator_next (yx F.slot_dict_keyiterator_next hit.typeIs F.entry_dict_keyiterator_next ?_ (F.args_dict_keyiterator_next_1 _))));refine aq (cj ?_);refine aq ?_;refine aq ?_
 (first|refine aq (Jg hit.typeIs (cj ?_))|refine aq (Je hit.typeIs (cj ?_)));refine aq (wpAny_fieldsOf ho hd ?_)
 have own:Builtin.Dict_items.ownsTuple "dict_keyiterator"=ao:=by decide
 simp only[own,ni,if_false];show dj _ _ (if(au.ref d==au.none)=ak then _ else _) _ _ s;rw[if_neg (show ¬ ((au.ref d==au.none)=ak)from ql)];refine aq (cj (aq (tm cK fc ?_)));rw[if_neg (by simp)];refine aq (cj (aq (wpAny_dictEpoch cK fc ?_)));rw[if_neg (by simp)];refine cj ?_;simp only[show ¬ ((i:Int)<0)from by omega,if_false,Cz,hx];refine aq ?_
 (first|refine aq (Jg hit.typeIs (cj ?_))|refine aq (Je hit.typeIs (cj ?_)));refine aq (wpAny_isOneOf_keyiter hit.typeIs ?_)
 show dj _ _ (setField (.ref it) 1 (fS ((i:Int)+1)) >>= _) _ _ s;refine aq (xI ho hd (by simp) ?_);have t6:(s.heap.update it (Obj.mapFields (·.setIfInBounds 1 (fS ((i:Int)+1))))).IsKeyIter it d (i+1) es.size ep:=⟨_,AB _ ho (Obj.isFreed_of_fields (Obj.data_mapFields hd _)),(Obj.cls_mapFields ..).trans hc,by rw[Obj.data_mapFields hd];simp[fS]⟩;refine aq (vp (aq (wpAny_isOneOf_keyiter (s:={s with heap:=s.heap.update it (Obj.mapFields (·.setIfInBounds 1 (fS ((i:Int)+1))))}) t6.typeIs ?_)));show dj _ _ (pure e.key) _ _ _;exact cj (cj ⟨_,rfl,cj (hQ _ t6 (kh.update ..))⟩)
def HC(hh:A.handled=bh)(hit:s.heap.IsKeyIter it d i es.size ep)(hm:j5 s.heap d es ep)(hx:es.size<=i)(hQ:∀h',Heap.ExtBut it s.heap h'->Q bh {s with heap:=h' }):dj (dz prog w) A (fR (.ref it)) Q E s:=by
 let⟨o,ho,hc,hd⟩:=id hit;let⟨od,cK,gz,fc⟩:=hm;unfold fR;refine aq (An (Fc (name:=Str.ofString "__next__") hit.typeIs F.slot_dict_keyiterator_next (yx F.slot_dict_keyiterator_next hit.typeIs F.entry_dict_keyiterator_next ?_ (F.args_dict_keyiterator_next_1 _))));refine aq (cj ?_);refine aq ?_;refine aq ?_
 (first|refine aq (Jg hit.typeIs (cj ?_))|refine aq (Je hit.typeIs (cj ?_)));refine aq (wpAny_fieldsOf ho hd ?_)
 have own:Builtin.Dict_items.ownsTuple "dict_keyiterator"=ao:=by decide
 simp only[own,ni,if_false];show dj _ _ (if(au.ref d==au.none)=ak then _ else _) _ _ s;rw[if_neg (show ¬ ((au.ref d==au.none)=ak)from ql)];refine aq (cj (aq (tm cK fc ?_)));rw[if_neg (by simp)];refine aq (cj (aq (wpAny_dictEpoch cK fc ?_)));rw[if_neg (by simp)];refine cj ?_;simp only[show ¬ ((i:Int)<0)from by omega,if_false,Cz,IU hx];refine aq ?_
 (first|refine aq (Jg hit.typeIs (cj ?_))|refine aq (Je hit.typeIs (cj ?_)));show dj _ _ (setField (.ref it) 0 .none >>= _) _ _ s
 refine aq (xI ho hd (by simp) ?_);show dj _ _ (newExc (.type "StopIteration") [] >>= _) _ _ _;refine aq ?_;simp only[newExc,newTuple];refine aq (wg ?_ (by size_fits));refine aq (m:=firstArgMember _ _) (wpAny_of_eq (a:=Value.none) (by first|rfl|(simp only[N4];rfl)) (wg ?_ (by size_fits)));simp only[raiseNew];refine aq (wpAny_handled ?_);rw[show A.in1.handled=bh from hh];refine aq (cj (wpAny_throw ?_));refine aq (wpAny_isInstance (T:="StopIteration") (b:=true) ⟨_,jd _ rfl,rfl⟩ isSubtype_stop ?_);refine cj (hQ _ λb o' hb e=>?_);exact cu _ (cu _ (((kh.update _ _ _).2 b hb).trans e))
def χ(hh:A.handled=bh)(I:bw)(lh:d≠I):Walks prog w A I [I,d] [I] es.size (λi v=>∃e,es[i]?=aj e/\v=e.key) (λi h=>h.IsKeyIter I d i es.size ep/\j5 h d es ep) where
 sub:=λb hb=>by simp at hb;simp[hb]
 frame:=λ_ _ _ st hk=>⟨st.1.at λo e=>hk I (by simp) o e,st.2.at λo e=>hk d (by simp) o e⟩
 item:=λi s Q E hi st hQ=>by
  have hx:es[i]?=aj es[i]:=yj hi;exact Ic st.1 st.2 hx λh' t6 kK=>hQ _ h' s.toks ⟨_,hx,rfl⟩ ⟨t6,st.2.at λo e=>kK.extBut _ o lh e⟩ λb o hb e=>kK.extBut b o (λh=>hb (by simp[h])) e
 done:=λs Q E st hQ=>HC hh st.1 st.2 (gw _) λh' Yb=>hQ h' s.toks λb o hb e=>Yb b o (λh=>hb (by simp[h])) e
 self:=λ_ _ _ _ st hQ=>wpAny_pyIter_keyiter st.1 hQ
def QU(lo:(d==um)=ao):KdlSrc prog w "dict" d d es.size (λi v=>∃e,es[i]?=aj e/\v=e.key) (λh=>j5 h d es ep) where
 type:=λ_ hm=>hm.typeIs
 there:=λ_ hm=>⟨hm.lt,hm.lt⟩
 keep:=λ_ _ hm hk=>hm.at λo e=>hk d (.inl rfl) o e
 notList:=by decide
 notTuple:=by decide
 hint:=λ_ _ _ _ hm hq=>kdl_hint_dict hm.typeIs hq
 iter:=λ_ s hh hm=>⟨_,_,(λ_ _ hq=>Mq lo hm hq),χ hh _ (jo hm.lt),⟨⟨_,jd _ rfl,rfl,rfl⟩,hm.at λo e=>cu _ e⟩⟩
end
end
variable{es:Array ip}
section
open PySem.W
@[simp]def x5(h:lg)(it d:bw)(i n ep:Nat)(x:au)(f:Bool)(ok ov:au):Prop:=h.get? it=aj {cls:=.type "dict_itemiterator",dict:=none,data:=.fields #[x,.bool f,.ref d,.int i 0,.int n 0,.int ep 0,ok,ov],slots:=#[]}
abbrev AG(h:lg)(it d S:bw)(i n ep:Nat):Prop:=∃x f ok ov,x5 h it d i n ep x f ok ov/\(x=.none/\f=ao∨∃a oa,x=fS (a:Nat)/\h.get? a=aj oa/\a≠it/\a≠S)
abbrev A6(e:ip):Obj:={cls:=.type "tuple",data:=.seq #[e.key,e.val]}
section
variable{prog:mz}{w:jr}{A:jf}{s:cg}{es:Array ip}{ep i:Nat}
def AG.keep{n:Nat}(y:AG h it d S i n ep)(k:∀b o,b≠S->h.get? b=aj o->h'.get? b=aj o)(n1:it≠S):AG h' it d S i n ep:=by
 let⟨x,f,ok,ov,h1,h2⟩:=y;refine⟨x,f,ok,ov,k _ _ n1 h1,h2.imp id ?_⟩;rintro⟨a,oa,e1,e2,e3,e4⟩;exact⟨a,oa,e1,k _ _ e4 e2,e3,e4⟩
def YS(st:AG s.heap it d S i es.size ep)(hS:S<s.heap.objs.size)(hm:j5 s.heap d es ep)(hx:es[i]?=aj e)
  (hQ:∀h',AG h' it d S (i+1) es.size ep->h'.get? s.heap.objs.size=aj (A6 e)->h'.objs.size=s.heap.objs.size+1->(∀b o,b≠it->s.heap.get? b=aj o->h'.get? b=aj o)->Q (aj (.ref s.heap.objs.size)) {s with heap:=h' }):dj (dz prog w) A (fR (.ref it)) Q E s:=by
 let⟨hp,g,dr,tk,os⟩:=s;let⟨x,f,ok,ov,hit,al⟩:=st;let⟨od,cK,gz,fc⟩:=hm;have hT:cg.TypeIs ⟨hp,g,dr,tk,os⟩ (.ref it) "dict_itemiterator":=⟨_,hit,rfl⟩;have lt:i<es.size:=(Fe.mp hx).1;unfold fR;refine aq (An (Fc (name:=Str.ofString "__next__") hT F.slot_dict_itemiterator_next (yx F.slot_dict_itemiterator_next hT F.entry_dict_itemiterator_next ?_ (F.args_dict_itemiterator_next_1 _))));refine aq (cj ?_);refine aq ?_;refine aq ?_
 (first|refine aq (wpAny_typeNameOfWhole_itemiter hT (cj ?_))|refine aq (wpAny_typeNameOf_itemiter hT (cj ?_)));refine aq (wpAny_fieldsOf hit rfl ?_)
 have own:Builtin.Dict_items.ownsTuple "dict_itemiterator"=ak:=by decide
 simp only[own,if_true];show dj _ _ (if(au.ref d==au.none)=ak then _ else _) _ _ _;rw[if_neg (show ¬ ((au.ref d==au.none)=ak)from ql)];refine aq (cj (aq (tm cK fc ?_)));rw[if_neg (by simp)];refine aq (cj (aq (wpAny_dictEpoch cK fc ?_)));rw[if_neg (by simp)];refine cj ?_;simp only[show ¬ ((i:Int)<0)from by omega,if_false,Cz,hx];refine aq ?_
 (first|refine aq (wpAny_typeNameOfWhole_itemiter hT (cj ?_))|refine aq (wpAny_typeNameOf_itemiter hT (cj ?_)));refine aq (wpAny_isOneOf_itemiter hT ?_)
 show dj _ _ (setField (.ref it) 3 (fS ((i:Int)+1)) >>= _) _ _ ⟨hp,g,dr,tk,os⟩;refine aq (wpAny_setField_rec hit (by simp) λh₁ ic hZ=>?_);replace hZ:kh it hp h₁:=hZ
 replace ic:x5 h₁ it d (i+1) es.size ep x f ok ov:=by
  have e:((i+1:Nat):Int)=(i:Int)+1:=by omega
  unfold x5;rw[e];simpa[fS]using ic
 have og:cg.TypeIs ⟨h₁,g,dr,tk,os⟩ (.ref it) "dict_itemiterator":=⟨_,ic,rfl⟩;refine aq (vp (aq (wpAny_isOneOf_itemiter og (aq (wpAny_isOneOf_itemiter og ?_)))));show dj _ _ (Builtin.Dict_items.pairFromOwner (.ref it) 6 e.key e.val) _ _ ⟨h₁,g,dr,tk,os⟩;unfold Builtin.Dict_items.pairFromOwner;refine aq (wpAny_newTuple ?_);have dP:x5 (h₁.push (A6 e)) it d (i+1) es.size ep x f ok ov:=cu _ ic;have ku:h₁.objs.size=hp.objs.size:=hZ.1;have PK:it<hp.objs.size:=fj hit;obtain⟨cw,fA⟩:∃cw,h₁.push (A6 e)=cw:=⟨_,rfl⟩;have ya:cw.get? hp.objs.size=aj (A6 e):=by rw[←fA,←ku];exact jd _ rfl
 have FL:cw.objs.size=hp.objs.size+1:=by rw[←fA,Cr,ku]
 have yb:∀b o,b≠it->hp.get? b=aj o->cw.get? b=aj o:=λb o hb e=>by rw[←fA];exact cu _ (hZ.extBut b o hb e)
 rw[fA]at dP;show dj _ _ (Builtin.Dict_items.ownedTupleIsFree (.ref it) >>= _) _ _ ⟨h₁.push (A6 e),g,dr,tk,os⟩;rw[fA,ku];clear fA ic hZ og ku h₁
 have fin:∀cn x' f' yo JQ,x5 cn it d (i+1) es.size ep x' f' yo JQ->kh it cw cn->(x'=.none/\f'=ao∨∃a oa,x'=fS (a:Nat)/\cw.get? a=aj oa/\a≠it/\a≠S)->Q (aj (.ref hp.objs.size)) ⟨cn,g,dr,tk,os⟩:=λcn x' f' yo JQ eL a9 al'=>by
  refine hQ cn ⟨x',f',yo,JQ,eL,al'.imp id ?_⟩ (a9.extBut _ _ (xu PK) ya) (by show cn.objs.size=hp.objs.size+1;rw[a9.1,FL]) λb o hb e=>a9.extBut b o hb (yb b o hb e);rintro⟨a,oa,e1,e2,e3,e4⟩;exact⟨a,oa,e1,a9.extBut _ _ e3 e2,e3,e4⟩
 refine aq ?_;unfold Builtin.Dict_items.ownedTupleIsFree;refine aq (yu dP rfl (x:=x) rfl ?_);rcases al with⟨rfl,rfl⟩|⟨a,oa,rfl,ha,Ko,PY⟩
 .refine cj ?_;simp only[if_true];refine aq (yu dP rfl (x:=ok) rfl (aq (yu dP rfl (x:=ov) rfl (aq (wpAny_setField_rec dP (by simp) λcn eL a9=>?_)))));replace a9:kh it cw cn:=a9;replace eL:x5 cn it d (i+1) es.size ep .none ao e.key ov:=eL;refine aq (wpAny_setField_rec eL (by simp) λAM n5 nX=>?_);replace nX:kh it cn AM:=nX;replace n5:x5 AM it d (i+1) es.size ep .none ao e.key e.val:=n5;refine aq (wpAny_setField_rec n5 (by simp) λAL n4 nV=>?_);replace nV:kh it AM AL:=nV;replace n4:x5 AL it d (i+1) es.size ep (fS (hp.objs.size:Nat)) ao e.key e.val:=n4;refine aq (wpAny_setField_rec n4 (by simp) λFv FQ nS=>?_);replace nS:kh it AL Fv:=nS;exact aq (wpAny_letGo (cj (cj ⟨_,rfl,cj (fin Fv _ _ _ _ FQ (((a9.trans nX).trans nV).trans nS) (.inr ⟨_,_,rfl,ya,xu PK,xu hS⟩))⟩)))
 .have n9:cw.get? a=aj oa:=yb a oa Ko ha;show dj _ _ (loadIfAlive ((a:Int).toNat) >>= _) _ _ _;rw[Cz];refine aq (kdx_alive n9 ?_);simp only[Option.isNone_some,ni,if_false];refine aq (yu dP rfl (x:=.bool f) rfl ?_);cases f with
  |true =>
   rw[if_neg (show ¬ ((au.bool ak !=au.bool ak)=ak)from ql)];refine cj ?_;simp only[ni,if_false];exact cj (cj ⟨_,rfl,cj (fin cw _ _ _ _ dP (kh.refl _ _) (.inr ⟨a,oa,rfl,n9,Ko,PY⟩))⟩)
  |false =>
   rw[if_pos (show(au.bool ao !=au.bool ak)=ak from rfl)];refine aq (wpAny_setField_rec dP (by simp) λcn eL a9=>?_);replace a9:kh it cw cn:=a9;refine cj ?_;simp only[ni,if_false];exact cj (cj ⟨_,rfl,cj (fin cn _ _ _ _ eL a9 (.inr ⟨a,oa,rfl,n9,Ko,PY⟩))⟩)
def aGU(hh:A.handled=bh)(st:AG s.heap it d S i es.size ep)(hm:j5 s.heap d es ep)(hx:es.size<=i)(hQ:∀h',Heap.ExtBut it s.heap h'->Q bh {s with heap:=h' }):dj (dz prog w) A (fR (.ref it)) Q E s:=by
 let⟨x,f,ok,ov,hit,al⟩:=st;let⟨od,cK,gz,fc⟩:=hm;have hT:s.TypeIs (.ref it) "dict_itemiterator":=⟨_,hit,rfl⟩;unfold fR;refine aq (An (Fc (name:=Str.ofString "__next__") hT F.slot_dict_itemiterator_next (yx F.slot_dict_itemiterator_next hT F.entry_dict_itemiterator_next ?_ (F.args_dict_itemiterator_next_1 _))));refine aq (cj ?_);refine aq ?_;refine aq ?_
 (first|refine aq (wpAny_typeNameOfWhole_itemiter hT (cj ?_))|refine aq (wpAny_typeNameOf_itemiter hT (cj ?_)));refine aq (wpAny_fieldsOf hit rfl ?_)
 have own:Builtin.Dict_items.ownsTuple "dict_itemiterator"=ak:=by decide
 simp only[own,if_true];show dj _ _ (if(au.ref d==au.none)=ak then _ else _) _ _ s;rw[if_neg (show ¬ ((au.ref d==au.none)=ak)from ql)];refine aq (cj (aq (tm cK fc ?_)));rw[if_neg (by simp)];refine aq (cj (aq (wpAny_dictEpoch cK fc ?_)));rw[if_neg (by simp)];refine cj ?_;simp only[show ¬ ((i:Int)<0)from by omega,if_false,Cz,IU hx];refine aq ?_
 (first|refine aq (wpAny_typeNameOfWhole_itemiter hT (cj ?_))|refine aq (wpAny_typeNameOf_itemiter hT (cj ?_)));show dj _ _ (setField (.ref it) 2 .none >>= _) _ _ s
 refine aq (xI hit rfl (by simp) ?_);show dj _ _ (newExc (.type "StopIteration") [] >>= _) _ _ _;refine aq ?_;simp only[newExc,newTuple];refine aq (wg ?_ (by size_fits));refine aq (m:=firstArgMember _ _) (wpAny_of_eq (a:=Value.none) (by first|rfl|(simp only[N4];rfl)) (wg ?_ (by size_fits)));simp only[raiseNew];refine aq (wpAny_handled ?_);rw[show A.in1.handled=bh from hh];refine aq (cj (wpAny_throw ?_));refine aq (wpAny_isInstance (T:="StopIteration") (b:=true) ⟨_,jd _ rfl,rfl⟩ isSubtype_stop ?_);exact cj (hQ _ (((kh.update ..).extBut.push _).push _))
end
structure zl(es:Array ip)(Pl:bw)(h:lg)(as:List bw):Prop where
 rise:as.Pairwise (· < ·)
 above:∀a∈as,Pl<a
 pairs:∀(j:Nat)(a:bw),as[j]?=aj a->∃e,es[j]?=aj e/\h.get? a=aj (A6 e)
def zl.lt(g:zl es Pl h as){a:bw}(ha:a∈as):a<h.objs.size:=by
 let⟨j,hj⟩:=NZ.mp ha;let⟨_,_,e⟩:=g.pairs j a hj;exact fj e
section
variable{prog:mz}{w:jr}{A:jf}{s:cg}{r:bw}{es:Array ip}{ep:Nat}
def YR(hh:A.handled=bh)(P1:S<I)(Yo:d≠S)(Ys:d≠I)(hn:es.size<=dg)(res:au){h₁:lg}
  (hR:∀h' tk acc c as,(∀b o,b≠S->b≠I->h₁.get? b=aj o->h'.get? b=aj o)->h'.get? S=aj (ud "list" acc c)->as.length=es.size->zl es I h' as->acc.toList=as.map au.ref->R (.ok (.ret res)) {s with heap:=h',toks:=tk}) :
  ∀(k i:Nat)(h:lg)(tk c:Nat)(acc:Array au)(as:List bw),es.size - i=k->i<=es.size->AG h I d S i es.size ep->j5 h d es ep->(∀b o,b≠S->b≠I->h₁.get? b=aj o->h.get? b=aj o) ->
   h.get? S=aj (ud "list" acc c)->acc.toList=as.map au.ref->as.length=i->zl es I h as->I<h.objs.size->kc (dz prog w) A (.builtin "list.extend.loop" ⟨[.ref S,.ref I,res],[]⟩) R {s with heap:=h,toks:=tk}:=by
 have lh:S≠I:=jo P1;intro k
 induction k with
 |zero =>
  intro i h tk c acc as hk hi bE hD n3 hS a7 Kn hG Kr;refine xm PySem.F.entry_extend_loop ?_;rw[jf.under_plainId PySem.F.plain_extend_loop _];show dj _ A.in1 (fR (.ref I) >>= _) _ _ _;refine aq (aGU (s:={s with heap:=h,toks:=tk}) (A:=A.in1) hh bE hD ⋯ λh' he=>cj (hR h' tk acc c as (λb o h1 h2 e=>he b o h2 (n3 b o h1 h2 e)) (he S _ lh hS) ⋯ ⟨hG.rise,hG.above,λj a hj=>?_⟩ a7));let⟨e,e1,e3⟩:=hG.pairs j a hj;exact⟨e,e1,he a _ (xu (hG.above a (jm hj))) e3⟩
 |succ k ih =>
  intro i h tk c acc as hk hi bE hD n3 hS a7 Kn hG Kr;have ft:i<es.size:=by omega
  have hsz:acc.size=i:=by rw[←uo,a7,dw,Kn]
  refine xm PySem.F.entry_extend_loop ?_;rw[jf.under_plainId PySem.F.plain_extend_loop _];show dj _ A.in1 (fR (.ref I) >>= _) _ _ _;refine aq (YS (s:={s with heap:=h,toks:=tk}) bE (fj hS) hD (yj ft) λh' tS ht hz vj=>?_);dsimp only at ht hz vj ⊢;have Bo:=vj S _ lh hS;have up:∀b o,b≠S->h'.get? b=aj o->(h'.update S (Obj.mapSeq (·.push (au.ref h.objs.size)))).get? b=aj o:=λb o hb e=>(E9 _ _ hb.symm).trans e;have Yn:S<h.objs.size:=fj hS;have Dt:=up _ _ (xu Yn) ht;show dj _ A.in1 (updateSeq S (·.push (au.ref h.objs.size)) >>= _) _ _ _;refine aq (wpAny_updateSeq Bo rfl (cj ⟨Cp PySem.F.plain_extend_loop _,?_⟩) (by rw[hsz];omega) (by show(acc.push (au.ref h.objs.size)).size<=dg+1;rw[Array.size_push,hsz];omega));refine ih (i+1) _ tk _ (acc.push (au.ref h.objs.size)) (as++[h.objs.size]) ⋯ ft (tS.keep up lh.symm) (hD.at λo e=>up d o Yo (vj d o Ys e)) (λb o h1 h2 e=>up b o h1 (vj b o h2 (n3 b o h1 h2 e))) (AB _ Bo rfl) (by rw[Array.toList_push,a7,jk];rfl) (by rw[wu,Kn];rfl) ⟨yd.mpr ⟨hG.rise,List.pairwise_singleton _ _,λa ha b hb=>?_⟩,λa ha=>?_,λj b hj=>?_⟩ (Nat.lt_trans Kr (fj Dt))
  .rw[jw.mp hb];exact hG.lt ha
  .rcases qj.mp ha with ha|ha
   .exact hG.above a ha
   .rw[jw.mp ha];exact Kr
  .rcases Nat.lt_or_ge j as.length with h1|h1
   .rw[Fd h1]at hj;let⟨e,e1,e3⟩:=hG.pairs j b hj;have hb:=hG.above b (jm hj);exact⟨e,e1,up b _ (xu (Nat.lt_trans P1 hb)) (vj b _ (xu hb) e3)⟩
   .rw[zj h1]at hj;let⟨h2,h3⟩:=iz.mp hj;have h4:j=i:=by simp at h2;omega
    subst h4;simp at h3;subst h3;exact⟨_,yj ft,Dt⟩
def YQ(hv:s.heap.IsItemsView r d)(hm:j5 s.heap d es ep)(hQ:Q (.ref s.heap.objs.size) {s with heap:=s.heap.push {cls:=.type "dict_itemiterator",data:=.fields #[.none,.bool ao,.ref d,.int 0 0,.int es.size 0,.int ep 0,.none,.none]}}):dj (dz prog w) A (pyIter (.ref r)) Q E s:=by
 let⟨ov,XZ,hcv,vE⟩:=id hv;let⟨o,ho,hc,bo⟩:=hm;refine wpAny_pyIter_slot hv.typeIs F.slot_dict_items_iter (yx F.slot_dict_items_iter hv.typeIs F.entry_dict_items_iter ?_ (F.args_dict_items_iter_1 _));unfold Builtin.«dict_items.__iter__»;refine aq (cj (aq ?_));unfold Builtin.Dict_items.dictOf;refine aq (yu XZ vE (x:=.ref d) rfl (cj (aq ?_)));unfold Builtin.Dict_items.newIterator;refine aq (tm ho bo (aq (wpAny_dictEpoch ho bo ?_)));simp only[show Builtin.Dict_items.ownsTuple "dict_itemiterator"=ak by decide,if_true];refine wg (cj ⟨_,rfl,"dict_itemiterator",_,⟨_,jd _ rfl,rfl⟩,F.slot_dict_itemiterator_next.lookup,?_⟩) (by simp only[sizeOk,Builtin.Dict_items.ownedTupleFields,jg,wu,qm,EU,sizeLine_eq];omega);simpa[fS,Builtin.Dict_items.ownedTupleFields]using hQ
def akY(hh:A.handled=bh)(hv:s.heap.IsItemsView r d)(hm:j5 s.heap d es ep)(hn:es.size<=dg)
  (h:∀(h':lg)(tk:Nat)(as:List bw),(∀b o,s.heap.get? b=aj o->h'.get? b=aj o)->as.length=es.size->zl es s.heap.objs.size h' as->R (as.map au.ref) {s with heap:=h',toks:=tk}):dj (dz prog w) A (collect (.ref r)) R E s:=by
 have hr:r<s.heap.objs.size:=let⟨_,ho,_⟩:=hv;fj ho
 have hd:d<s.heap.objs.size:=hm.lt
 let S:=s.heap.objs.size
 let h0:=s.heap.push (ud "list" #[] 0)
 have Pq:h0.objs.size=S+1:=Cr ..
 let J6:Obj:={cls:=.type "dict_itemiterator",data:=.fields #[.none,.bool ao,.ref d,.int 0 0,.int es.size 0,.int ep 0,.none,.none]}
 have Yq:h0.get? S=aj (ud "list" #[] 0):=jd _ rfl;have Kq:(h0.push J6).get? S=aj (ud "list" #[] 0):=cu _ Yq;have Kd:h0.IsItemsView r d:=let⟨o,ho,x⟩:=hv;⟨o,cu _ ho,x⟩
 have PH:j5 h0 d es ep:=hm.at λo e=>cu _ e
 let RR:Result->cg->Prop:=λq s'=>∃(h':lg)(tk:Nat)(acc:Array au)(c:Nat)(as:List bw),q=.ok (.ret (.ref S))/\s'={s with heap:=h',toks:=tk}/\(∀b o,s.heap.get? b=aj o->h'.get? b=aj o)/\h'.get? S=aj (ud "list" acc c)/\as.length=es.size/\zl es S h' as/\acc.toList=as.map au.ref
 have key:∀(h:lg)(c₁ tk:Nat),(∀b o,b≠S->(h0.push J6).get? b=aj o->h.get? b=aj o)->h.get? S=aj (ud "list" #[] c₁)->kc (dz prog w) A (.builtin "list.extend.loop" ⟨[.ref S,.ref (S+1),.ref S],[]⟩) RR {s with heap:=h,toks:=tk}:=λh c₁ tk hk FT=>by
  have hI:h.get? (S+1)=aj J6:=hk _ _ ⋯ (by rw[←Pq];exact jd _ rfl)
  exact YR (h₁:=s.heap) hh (Nat.lt_succ_self S) (jo hd) (jo (E5 hd)) hn _ (λh' FX acc c as Kj Bo hl hG a7=>⟨h',FX,acc,c,as,rfl,rfl,λb o e=>Kj b o (jo (fj e)) (jo (E5 (fj e))) e,Bo,hl,⟨hG.rise,λa ha=>Iy (hG.above a ha),hG.pairs⟩,a7⟩)
   es.size 0 h tk c₁ #[] [] (Nat.sub_zero _) (qz _) ⟨_,_,_,_,hI,.inl ⟨rfl,rfl⟩⟩ (PH.at λo e=>hk d o (jo hd) (cu _ e)) (λb o hb _ e=>hk b o hb (cu _ (cu _ e))) FT rfl rfl ⟨.nil,nofun,λj a hj=>by simp at hj⟩ (fj hI)
 unfold collect;refine aq (wpAny_runValue (xm entry_proto_collect' ?_));rw[jf.under_plainId PySem.F.plain_proto_collect _];show dj _ A.in1 (newList [] >>= λl=>again (.builtin "list.__iadd__" ⟨[l,.ref r],[]⟩)) _ _ s;refine aq (wg (cj ⟨Cp PySem.F.plain_list_iadd _,xm entry_list_iadd' ?_⟩));rw[jf.under_plainId PySem.F.plain_list_iadd _];show dj _ A.in1 (Builtin.List.listExtendWith (.ref S) (.ref r) (.ref S)) _ _ {s with heap:=h0};unfold Builtin.List.listExtendWith;refine aq (wpAny_typeOf (T:="dict_items") (s:={s with heap:=h0}) Kd.typeIs ?_);have h1:Builtin.List.listSameRef (.ref S) (.ref r)=ao:=by simp[Builtin.List.listSameRef];exact xu hr
 simp only[h1,show(au.type "dict_items"==au.type "list")=ao by decide,show(au.type "dict_items"==au.type "tuple")=ao by decide,Bool.or_false,ni,if_false];refine aq (YQ (s:={s with heap:=h0}) Kd PH ?_);rw[show({s with heap:=h0}:cg).heap.objs.size=S+1 from Pq];refine aq (vp (kdx_hint (let⟨o,ho,hc,_⟩:=Kd;⟨o,cu _ ho,hc⟩) (wpAny_ite_split (λ_=>?_) λ_=>cj ⟨Cp PySem.F.plain_extend_loop _,Am (key _ 0 _ (λb o _ e=>e) Kq) λq fg y=>?_⟩)));refine aq (kQ (aq ?_));show dj _ _ (updateSeq S (·.push .none) >>= λ_=>updateSeq S (·.pop)) _ _ _;have yf:=AB (Obj.mapSeq (·.push au.none)) Kq rfl;refine aq (wpAny_updateSeq Kq rfl (wpAny_updateSeq (hz:=by seq_fits) yf rfl (cj ⟨Cp PySem.F.plain_extend_loop _,Am (key _ _ _ (λb o hb e=>(E9 _ _ hb.symm).trans ((E9 _ _ hb.symm).trans e)) (AB (Obj.mapSeq (·.pop)) yf rfl)) λq fg y=>?_⟩)))
 all_goals
  let⟨h',tk,OK,c',as,rfl,rfl,hk,Bo,hl,hG,a7⟩:=y;show dj _ A (load S >>= _) _ _ _;refine aq (wpAny_load Bo (cj ?_));show R OK.toList _;rw[a7];exact h h' tk as hk hl hG
end
end
variable{pos:Pos}
section
open PySem.W
section
end
def Sb{K:Fg}:∀{ds:List D}{vs:List V},cW K H ds vs->cW K H ds.reverse vs.reverse
 |_,_,.nil=>.nil
 |d::ds,v::vs,.cons h r=>by rw[Iz,Iz];exact cW.append (Sb r) (.cons h .nil)
section
variable{X:Cx}
def ahP{s:cg}{a:bw}{xs:List V}{Q:VK}(I:Inv X ψ σ H s)(hx:gc X.K H a xs)(hs:s.heap.IsSliceOf sl .none .none vk)(pk:IsPart vk (aj (-1)))(q:∀p,H p=bh->KF X.K (upd H p (.lst xs.reverse))->Q (.ref p) (upd H p (.lst xs.reverse))) :
  s.TypeIs (.ref a) "list"/\dj (dz X.prog X.w) X.A (getItem (.ref a) (.ref sl)) (EP X ψ σ Q) X.xe s:=by
 let⟨its,r,ht,hz⟩:=I.list hx;have hlen:=r.length;refine⟨ht.isList.typeIs,?_⟩;refine wpAny_getItem_list_slice ht.isList hs .none .none pk (by decide) ?_ (by rw[jg]<;>omega);rw[krv_pick];have J:=I.laid (t':=s.toks) (o:=.lst xs.reverse) (h':=s.heap.push {cls:=.type "list",data:=.seq its.reverse.toArray}) (λb ob q=>cu _ q) (gw _) ⟨by rw[List.length_reverse];exact hz,_,0,r.reverse,jd _ rfl⟩;exact⟨.ref s.heap.objs.size,_,J,rfl,q _ (I.af.fresh (gw _)) (sU J)⟩
abbrev B0(x:D)(G:Gp)(R:iW):Prop:=match x with
 |.ref a=>(match bM G a with
  |some ds=>∀q,G q=bh->R (.ref q) (aC G q (.lst ds.reverse))
  |none=>False)
 |_=>False
abbrev D7(te:bC)(tk:CP):bC:=λρ G R=>te ρ G λx G1=>tk ρ G1 λo G2=>o=aj (-1)/\B0 x G2 R
private theorem aMX{k:ig}(he:bY X e te)(hk:Jo X (aj k) tk):bY X (.Subscript e (.Slice bh bh (aj k) p2) pos) (D7 te tk):=by
 intro ψ s σ H Q I h;let⟨ρ,G,R,sr,g,q,kk⟩:=h;refine Subscript_ (dH (he ψ s σ H (λvx H1=>Ts H H1/\∃x G1,RD X.K H1 x vx/\HR X.K H1 G1/\tk ρ G1 λo G2=>o=aj (-1)/\B0 x G2 R) I ⟨ρ,G,_,sr,g,q,λv H1 x G1 t1 r1 g1 q1=>⟨t1,x,G1,r1,g1,q1⟩⟩) ?_);rintro v s1 ⟨vx,H1,I1,r1,t1,x,G1,rx,g1,q1⟩;refine wpAny_Slice ?_;rw[evalPart_none];refine cj ?_;refine cj ?_;refine dH (hk ψ s1 σ H1 (λo H2=>Ts H1 H2/\∃G2,HR X.K H2 G2/\o=aj (-1)/\B0 x G2 R) I1 ⟨ρ,G1,_,sr.mono t1,g1,q1,λo H2 G2 t2 g2 q2=>⟨t2,G2,g2,q2⟩⟩) ?_;rintro vk s3 ⟨o,H3,I3,pk,t3,G3,g3,eo,q3⟩;subst eo;have I4:Inv X ψ σ H3 {s3 with heap:=s3.heap.push {cls:=.type "slice",data:=.fields #[.none,.none,vk]}}:=I3.kept (t':=s3.toks) λb ob q=>cu _ q;cases rx with
 |ref a =>
  have JM:(match bM G3 a with
   |some ds=>∀q,G3 q=bh->R (.ref q) (aC G3 q (.lst ds.reverse))
   |none=>False):=q3
  split at JM
  .rename_i ds e1;let⟨xs,hq,ra⟩:=gH g3 e1;cases r1
   let⟨ht,hg⟩:=ahP (s:={s3 with heap:=s3.heap.push {cls:=.type "slice",data:=.fields #[.none,.none,vk]}}) (Q:=Q) I4 hq (Heap.IsSliceOf.new ..) pk λp hp kf=>by
    have sn:aS H3 (upd H3 p (.lst xs.reverse)):=cA hp;have rr:cW X.K H3 ds.reverse xs.reverse:=Sb ra;exact kk _ _ _ _ ((t1.trans t3).trans (.same sn)) (.ref p) (g3.put (u:=.lst ds.reverse) hp ⟨_,aK,rr.mono (.same sn)⟩) (JM p (m8 g3 hp kf))
   show dj (dz X.prog X.w) X.A (subscriptTail e (.Slice bh bh (aj k) p2) (.ref a) (.ref s3.heap.objs.size)) (EP X ψ σ Q) X.xe {s3 with heap:=s3.heap.push {cls:=.type "slice",data:=.fields #[.none,.none,vk]}};exact tail_any (ops:=[.ref a,.ref s3.heap.objs.size]) ht slot_list_getitem.lookup hg (by with_unfolding_all rfl)
  .exact JM.elim
 |_=>exact False.elim q3
end
end
section
open PySem.W
def YO:typeLookup (.type "list") "keys"=pure bh:=by rw[typeLookup_type,builtinLookup_eq_fast];kernel_rfl
section
variable{prog:mz}{w:jr}{A:jf}{s:cg}
def YN{a:bw}{o:Obj}{k:Nat} 
  (hx:s.heap.get? a=aj o)(hc:o.cls=.type "list")(bo:o.data=.seq xs k)(hd:o.dict=bh)(hA:A.handled=bh)
  (h:∀h' tk,(∀b o,s.heap.get? b=aj o->h'.get? b=aj o)->Q bh {s with heap:=h',toks:=tk}) :
  dj (dz prog w) A (getAttr? (.ref a) "keys") Q E s:=by
 let⟨c,lL,dat,sl⟩:=o;simp only at hc bo hd;subst hc bo hd;let⟨hp,g,d,tk,os⟩:=s;have hT:∀FX,(⟨hp,g,d,FX,os⟩:cg).TypeIs (.ref a) "list":=λ_=>⟨_,hx,rfl⟩;have f1:=sub_AttributeError;have f3:=F.slot_list_getattribute.lookup;have f4:=F.slot_list_getattribute.bind (.ref a);have f5:=am_list_getattr_none;unfold getAttr? getAttrBy? getAttrBy
 repeat (any_goals (first|assumption|exact hT _|((with_reducible show dj _ _ (call (au.builtin "list.__getattribute__") _ _) _ _ _);refine call_meets F.slot_list_getattribute (hT _) am_entry_list_getattribute (F.args_list_getattribute_2 _ _) (meets_getattribute_miss_list a xs k sl "keys" _ YO (by decide) (by decide)) ⟨hx,hA,λh' FX e Pt=>?_⟩)|wp_step))
 let⟨t',u',he⟩:=Pt.there;show dj _ _ (getattributeRaised _ _ _ _ _ _ _) _ _ _;unfold getattributeRaised
 repeat (any_goals (first|assumption|wp_step))
 exact h _ _ Pt.keeps
def Te:entryFor table "dict.update.loop"=aj Builtin.«dict.update.loop» :=entryFor_of_fast ∅
def II:plainId "dict.update.loop"=ak:=by decide+kernel
end
end
section
open PySem.W
abbrev VJ(kvs:List (DK×D))(ps:List (List Key×D)):List (DK×D):=ps.foldl (λacc p=>cM acc (.inr p.1) p.2) kvs
section
def Jl{K:Fg}:∀(ks:List Key),cW K H (ks.map kD) (ks.map kV)
 |[]=>.nil
 |.inl i::r=>.cons (.int i) (Jl r)
 |.inr x::r=>.cons (.str x) (Jl r)
def Td{K:Fg}:∀{kvs:List (DK×D)}{ys:List (List Key×V)}{ws:List (List Key×bw×au)},uW K H .inr kvs ys->KT H ys ws->cW K H (kvs.map λp=>kN p.1) (ws.map λx=>.ref x.2.1)
 |_,_,_,.nil,.nil=>.nil
 |p::kvs,q::ys,x::ws,.cons h r,.cons h' r'=>by
  refine .cons ?_ (Td r r');show RD K H (kN p.1) (.ref x.2.1);rw[h.1];have e:=h'.2.1;exact .tup (eD.of e) (Jl _) (zv e)
end
end
section
section
end
end
variable{r:bw}{us:List au}{h1:lg}{tk:Nat}
section
open PySem.W
variable{vs:List au}
section
variable{prog:mz}{w:jr}{A:jf}{s:cg}
def Sa{out:Array au}{b:bw}(e:h.get? b=aj u):(sortedHeap (h.push (ud "list" vs.toArray 0)) h.objs.size vs out).get? b=aj u:=by
 have n0:b≠h.objs.size:=jo (fj e);unfold sortedHeap;rw[(kh.update _ _ _).2 b n0];refine cu _ (cu _ ?_);rw[(kh.update _ _ _).2 b n0];exact cu _ e
def QT{out:Array au}:∃c,(sortedHeap (h.push (ud "list" vs.toArray 0)) h.objs.size vs out).get? h.objs.size=aj (ud "list" out c):=by
 have oL:(h.push (ud "list" vs.toArray 0)).get? h.objs.size=aj (ud "list" vs.toArray 0):=jd _ rfl;unfold sortedHeap;obtain⟨c1,e1⟩:∃c,((h.push (ud "list" vs.toArray 0)).update h.objs.size (Obj.mapSeq λ_=>#[])).get? h.objs.size=aj (ud "list" #[] c):=⟨_,get?_update_seq oL λ_=>#[]⟩;exact⟨_,get?_update_seq (cu _ (cu _ e1)) λ_=>out⟩
def R9{kf:Nat->Int} 
  (M9:∀(R:List au->cg->Prop)(E:au->cg->Prop),(∀h' tk,(∀b o,s.heap.get? b=aj o->h'.get? b=aj o)->R vs {s with heap:=h',toks:=tk})->dj (dz prog w) A.in1 (collect (.ref r)) R E s)
  (gX:vs.length<128)(hd:∀i j,i<vs.length->j<vs.length->kf i=kf j->i=j)
  (hk:2<=vs.length->∀(s':cg)(h':lg),(∀b o,s.heap.get? b=aj o->h'.get? b=aj o)->Hj prog w A.in1.in1 s' kf vs h')
  (h:∀(q:Array Nat)(h1:lg)(tk:Nat)(h':lg)(c:Nat),Pm vs.length q->Up kf q vs.length->(∀b o,s.heap.get? b=aj o->h1.get? b=aj o)->(∀b o,h1.get? b=aj o->h'.get? b=aj o)->h'.get? h1.objs.size=aj (ud "list" (q.toList.map λi=>vs.getD i au.none).toArray c)->Q (.ref h1.objs.size) {s with heap:=h',toks:=tk}):dj (dz prog w) A (call (.builtin "sorted") [.ref r]) Q E s:=by
 have big:1000<dg:=by decide
 refine Calls.call_function_entry kind_sorted plain_sorted entry_sorted (args_sorted1 _) ?_;unfold Builtin.«sorted»;refine aq (m:=checkCount "sorted" 1 1 _) (cj (aq (M9 _ _ λh1 tk k1=>aq (wpAny_newList ?_ ⋯))));have oL:(h1.push (ud "list" vs.toArray 0)).get? h1.objs.size=aj (ud "list" vs.toArray 0):=jd _ rfl;have kp:∀b o,s.heap.get? b=aj o->(h1.push (ud "list" vs.toArray 0)).get? b=aj o:=λb o e=>cu _ (k1 b o e);refine aq (vp (yx (s:={s with heap:=h1.push (ud "list" vs.toArray 0),toks:=tk}) slot_list_sort ⟨_,oL,rfl⟩ entry_list_sort (Uq (kf:=kf) (s:={s with heap:=h1.push (ud "list" vs.toArray 0),toks:=tk}) oL gX hd (λl2 h' k'=>?_) λq P u=>⟨_,rfl,cj ⟨_,rfl,?_⟩⟩) (args_list_sort _)))
 .exact hk l2 _ h' λb o e=>k' b o (jo (fj (k1 b o e))) (kp b o e)
 .obtain⟨c,hc⟩:=QT (h:=h1) (vs:=vs) (out:=(q.toList.map λi=>vs.getD i au.none).toArray);exact h q h1 tk _ c P u k1 (λb o e=>Sa e) hc
end
variable{ps:List (Int×Int)}
section
variable{X:Cx}
def Tc{σ:St}{H:Hp}{s:cg}(I:Inv X ψ σ H s){G:Gp}{R:iW}{Q:VK}(g:HR X.K H G){xs:List V}(r:cW X.K H (ps.map eY) xs)(rv:Vals xs us)(nd:ps.Nodup)(gX:ps.length<128){M B:Int}(hM:2*B<M)(hB:∀p∈ps,-B<=p.2/\p.2<=B)
  (k:∀v H' d G',Ts H H'->RD X.K H' d v->HR X.K H' G'->R d G'->Q v H')(h:∀qs:List (Int×Int),qs.Perm ps->dJ qs->∀r,G r=bh->R (.ref r) (aC G r (.lst (qs.map eY))))(P:Pm us.length q)(u:Up (λi=>enc M (ps.getD i (0,0))) q us.length){c:Nat}(k1:∀b o,s.heap.get? b=aj o->h1.get? b=aj o)(k2:∀b o,h1.get? b=aj o->h'.get? b=aj o)(ho:h'.get? h1.objs.size=aj (ud "list" (q.toList.map λi=>us.getD i au.none).toArray c)):EP X ψ σ Q (.ref h1.objs.size) {s with heap:=h',toks:=tk}:=by
 have big:1000<dg:=by decide
 have l1:us.length=ps.length:=by rw[←rv.length,←r.length,dw]
 have l2:xs.length=ps.length:=by rw[←r.length,dw]
 rw[l1]at P u;let⟨p1,p2⟩:=Uo hM hB nd P u;have kL:∀i∈q.toList,i<ps.length:=λi hi=>zq.mp (P.perm.mem_iff.mp hi);have I1:Inv X ψ σ H {s with heap:=h1,toks:=tk}:=I.kept (t':=tk) k1;have fr:H h1.objs.size=bh:=I1.af.fresh (gw _);have sn:aS H (upd H h1.objs.size (.lst (q.toList.map λi=>xs.getD i .ag))):=cA fr
 have J:Inv X ψ σ (upd H h1.objs.size (.lst (q.toList.map λi=>xs.getD i .ag))) {s with heap:=h',toks:=tk} :=
  I1.laid (t':=tk) (λb o e=>k2 b o e) (gw _) ⟨by rw[dw,uo,P.size];omega,_,c,NR rv λi hi=>by rw[l2];exact kL i hi,ho⟩
 have kf:=sU J;exact⟨.ref h1.objs.size,_,J,rfl,k _ _ (.ref _) _ (.same sn) (.ref _) (g.put (u:=.lst _) fr ⟨_,aK,(Tf r kL).mono (.same sn)⟩) (h _ p1 p2 _ (m8 g fr kf))⟩
def R8(nd:ps.Nodup){M B:Int}(hM:2*B<M)(hB:∀p∈ps,-B<=p.2/\p.2<=B):∀i j,i<ps.length->j<ps.length->enc M (ps.getD i (0,0))=enc M (ps.getD j (0,0))->i=j:=λi j hi hj e'=>by
 have mi:ps.getD i (0,0)∈ps:=by simp[ug,hi]
 have mj:ps.getD j (0,0)∈ps:=by simp[ug,hj]
 have k1:=yP hM (hB _ mi) (hB _ mj);have k2:=yP hM (hB _ mj) (hB _ mi)
 have ee:ps.getD i (0,0)=ps.getD j (0,0):=by
  have n1:¬ uD (ps.getD i (0,0)) (ps.getD j (0,0)):=λw=>absurd (k1.mpr w) ⋯;have n2:¬ uD (ps.getD j (0,0)) (ps.getD i (0,0)):=λw=>absurd (k2.mpr w) ⋯;unfold uD at n1 n2;exact Prod.ext ⋯ ⋯
 have e2:ps[i]=ps[j]:=by simpa[ug,hi,hj]using ee
 have key:=uw.mp nd;rcases Cy i j with w|w|w
 .exact absurd e2 (key _ _ hi hj w)
 .exact w
 .exact absurd e2.symm (key _ _ hj hi w)
def YM{s:cg}(I:Inv X ψ σ H s){a:bw}(e:H a=aj (.dT ys)):∃(es:Array ip)(ep:Nat)(ws:List (List Key×bw×au)),(a==um)=ao/\j5 s.heap a es ep/\es.size<=dg/\KT H ys ws/\∀acc:Array au,ItemsOf (λi v=>∃e,es[i]?=aj e/\v=e.key) acc es.size->acc.toList=ws.map λx=>au.ref x.2.1:=by
 let⟨z1,hd,ws,rel,o,es,ep,ho,DD,bo,he,oS,hn⟩:=Ek I.af e;have lw:es.size=ws.length:=size_of_entries he;have JZ:ws.length=ys.length:=(Paired.length rel).symm;refine⟨es,ep,ws,hd,⟨o,ho,DD,bo⟩,⋯,rel,λacc a7=>?_⟩;apply List.ext_getElem?;intro i;by_cases hi:i<ws.length
 .have Gv:i<acc.size:=by rw[a7.1,lw];exact hi
  let⟨en,e1,e2⟩:=a7.2 i acc[i] (yj Gv);have e3:es.toList[i]?=aj en:=by rw[AA];exact e1
  rw[he,qu,gk hi]at e3;have e4:entryOfKey (xf (aF X.prog X.w)) ws[i]=en:=by simpa using e3
  rw[AA,yj Gv,e2,←e4,qu,gk hi];rfl
 .rw[List.getElem?_eq_none (by rw[uo,a7.1,lw];omega),List.getElem?_eq_none (by simp;omega)]
def Um:∀l:List (List Key×bw×au),Vals (l.map λx=>V.ref x.2.1) (l.map λx=>au.ref x.2.1)
 |[]=>.nil
 |_::r=>.cons rfl (Um r)
abbrev H0:List D->Gp->iW->Prop:=λxs G R=>match xs with
 |[.ref a]=>(match G a with
  |some (.aZ ak kvs)=>aMW (kvs.map λp=>kN p.1) G R
  |_=>False)
 |_=>False
private theorem YL(hc:X.calm=ak):jO X (.builtin "sorted") H0:=by
 intro ψ s σ H xs vs us G R Q I rx rv g q k;unfold H0 at q;split at q
 .rename_i a;split at q
  .rename_i kvs e1;let⟨ps,ep,nd,gX,h⟩:=q;cases rx with
   |cons r1 rr =>
   cases rr;cases r1;cases rv with
   |cons rv rr =>
   cases rr;cases rv;rcases g a _ e1 with⟨z,_⟩|⟨_,ys,e,r⟩
   .cases z
   .obtain⟨es,epo,ws,fq,raw,hz,rel,fh⟩:=YM I e;have mn:=Td r rel;rw[ep]at mn;have vi:=Um ws;let⟨B,b0,hB⟩:=NA ps;have hp:=pairs_at I mn vi;have hM:2*B<2*B+1:=by omega
    refine R9 (kf:=λi=>enc (2*B+1) (ps.getD i (0,0))) (vs:=ws.map λx=>au.ref x.2.1) (λR' E' hR=>kdu_collect (QU fq) (I.ok.hd hc) raw hz λh' tk acc kk a7=>?_) (by rw[hp.1];exact gX) (λi j hi hj e=>?_) (λl2 s' h' kp=>Us hM hB l2 ⟨hp.1,λi p ei=>?_⟩) λq h1 tk h' c P u k1 k2 ho=>Tc I g mn vi nd gX hM hB k h P u k1 k2 ho
    .rw[fh acc a7];exact hR h' tk kk
    .rw[hp.1]at hi hj;exact R8 nd hM hB i j hi hj e
    .obtain⟨a,o,n,x,y,z1,z2,z3,z4⟩:=hp.2 i p ei;exact⟨a,o,n,x,y,z1,kp _ _ z2,z3,z4⟩
  .exact q.elim
 .exact q.elim
end
end
section
open Builtin.Str
section
end
section
end
end
section
section
end
end
variable{v:au}{l:bw}{its:Array au}
section
open PySem.W
section
variable{prog:mz}{w:jr}{A:jf}{s:cg}
abbrev BZ(xs ps:List (Key×au)):List (Key×au):=ps.foldl (λacc x=>stored acc x.1 x.2) xs
def Mp(hm:h.DictOf (aF prog w) d xs)(k:∀o,h.get? d=aj o->h'.get? d=aj o):h'.DictOf (aF prog w) d xs:=by
 let⟨o,es,ep,h1,r⟩:=hm;exact⟨o,es,ep,k _ h1,r⟩
abbrev DR(prog:mz)(w:jr)(I d:bw)(h:lg)(v:au)(x:Key×au):Prop:=∃p o n key,v=.ref p/\h.get? p=aj o/\o.cls=.type "tuple"/\o.data=.seq #[key,x.2] n/\(aF prog w).is x.1 key=ak/\p≠I/\p≠d
def DR.keep{x:Key×au}(q:DR prog w I d h v x)(k:∀b o,b≠d->b≠I->h.get? b=aj o->h'.get? b=aj o):DR prog w I d h' v x:=by
 let⟨p,o,n,key,e,h1,h2,h3,h4,h5,h6⟩:=q;exact⟨p,o,n,key,e,k _ _ h6 h5 h1,h2,h3,h4,h5,h6⟩
variable{ps:List (Key×au)}
def ξ(hh:A.handled=bh)(Kl:d≠I)(PJ:l≠I)(dM:l≠d)(hlen:its.size=ps.length) :
  ∀(k i:Nat)(s:cg)(xs:List (Key×au))(j:Int)(t:Tok),ps.length - i=k->i<=ps.length->s.heap.IsListIter I l i->s.heap.IsList l its->s.heap.DictOf (aF prog w) d xs->xs.length+(ps.length - i)<=dg ->
   (∀(i:Nat)(v:au)(x:Key×au),its[i]?=aj v->ps[i]?=aj x->DR prog w I d s.heap v x) ->
   (∀h' tk,h'.DictOf (aF prog w) d (BZ xs (ps.drop i))->(∀b o,b≠d->b≠I->s.heap.get? b=aj o->h'.get? b=aj o)->R (.ok (.ret .none)) {s with heap:=h',toks:=tk}) ->
   kc (dz prog w) A (.builtin "dict.update.loop" ⟨[.ref d,.ref I,.int j t,.none],[]⟩) R s:=by
 intro k
 induction k with
 |zero =>
  intro i s xs j t hk hi bE hl hd hz hp hR;have kL:i=ps.length:=by omega
  refine xm Te ?_;rw[jf.under_plainId II _];show dj _ A.in1 (fR (.ref I) >>= _) _ _ s;have W:=Walks.list (prog:=prog) (w:=w) (A:=A.in1) hh I l PJ its;refine aq (W.done s _ _ (by rw[hlen,←kL];exact⟨bE,hl⟩) λh' tk kk=>?_);have jv:h'.DictOf (aF prog w) d xs:=Mp hd (λo e=>kk _ _ (by simpa using Kl) e);show dj _ A.in1 (Builtin.Dict.addKeywords d [] >>= _) _ _ _;refine aq (cj (cj ?_));refine hR h' tk (by rw[kL,List.drop_length];exact jv) λb o h1 h2 e=>kk b o (by simpa using h2) e
 |succ k ih =>
  intro i s xs j t hk hi bE hl hd hz hp hR;have ft:i<ps.length:=by omega
  refine xm Te ?_;rw[jf.under_plainId II _];show dj _ A.in1 (fR (.ref I) >>= _) _ _ s;have W:=Walks.list (prog:=prog) (w:=w) (A:=A.in1) hh I l PJ its;refine aq (W.item i s _ _ ⋯ ⟨bE,hl⟩ λv h' tk hP tS kk=>?_);obtain⟨x,Ka⟩:∃x,ps[i]?=aj x:=⟨_,gk ft⟩;have k1:∀b o,b≠d->b≠I->s.heap.get? b=aj o->h'.get? b=aj o:=λb o _ h2 e=>kk b o (by simpa using h2) e;have jv:h'.DictOf (aF prog w) d xs:=Mp hd (λo e=>kk _ _ (by simpa using Kl) e);let⟨p,o,n,key,rfl,q1,q2,q3,ba,_,_⟩:=(hp i v x hP Ka).keep k1;refine aq (vp (aq (wpAny_tryCatch ?_)));unfold Builtin.Dict.pairItems;refine aq (wpAny_typeOf (s:={s with heap:=h',toks:=tk}) (T:="tuple") ⟨o,q1,q2⟩ ?_);rw[if_pos (by decide)];refine aq (wpAny_seqItems (s:={s with heap:=h',toks:=tk}) q1 q3 (cj ?_));show dj _ A.in1 (holding [key,x.2] (dictSet d key x.2)) _ _ _;refine vp (wpAny_dictSet_pairs (s:={s with heap:=h',toks:=tk}) ba jv (λh2 pe Be=>?_) ⋯);have k2:∀b o,b≠d->b≠I->s.heap.get? b=aj o->h2.get? b=aj o:=λb o h1 hI e=>(Be.2 b h1).trans (k1 b o h1 hI e);refine cj ⟨Cp II _,ih (i+1) _ (stored xs x.1 x.2) _ _ ⋯ ft (tS.1.at λo e=>(Be.2 I (Ne.symm Kl)).trans e) (tS.2.at λo e=>(Be.2 l dM).trans e) pe (by have:=stored_length_le xs x.1 x.2;omega) (λi v x e1 e2=>(hp i v x e1 e2).keep k2) λh3 JC DC k3=>?_⟩;refine hR h3 JC ?_ λb o h1 hI e=>k3 b o h1 hI (k2 b o h1 hI e)
  have:ps.drop i=x::ps.drop (i+1):=by
   rw[List.drop_eq_getElem_cons ft];rw[gk ft]at Ka;cases Ka;rfl
  rw[this];exact DC
abbrev GI(prog:mz)(w:jr)(h:lg)(v:au)(x:Key×au):Prop:=∃p o n key,v=.ref p/\h.get? p=aj o/\o.cls=.type "tuple"/\o.data=.seq #[key,x.2] n/\(aF prog w).is x.1 key=ak
def GI.ok{x:Key×au}(q:GI prog w h v x)(hI:h.objs.size<=I)(hd:h.objs.size<=d)(k:∀b o,h.get? b=aj o->h'.get? b=aj o):DR prog w I d h' v x:=by
 let⟨p,o,n,key,e,h1,h2,h3,h4⟩:=q;have l1:=fj h1;exact⟨p,o,n,key,e,k _ _ h1,h2,h3,h4,jo (je l1 hI),jo (je l1 hd)⟩
def ν{o:Obj}{n:Nat}(hh:A.handled=bh)(hl:s.heap.get? l=aj o)(hc:o.cls=.type "list")(bo:o.data=.seq its n)(Yc:o.dict=bh)(hlen:its.size=ps.length)(hz:ps.length<=dg)
  (hp:∀(i:Nat)(v:au)(x:Key×au),its[i]?=aj v->ps[i]?=aj x->GI prog w s.heap v x)
  (h:∀h' tk,h'.DictOf (aF prog w) s.heap.objs.size (BZ [] ps)->(∀b o,s.heap.get? b=aj o->h'.get? b=aj o)->Q (.ref s.heap.objs.size) {s with heap:=h',toks:=tk}) :
  dj (dz prog w) A (call (.type "dict") [.ref l]) Q E s:=by
 refine callType_codes (Q₁:=λobj ai=>obj=.ref s.heap.objs.size/\ai={s with heap:=s.heap.push {cls:=.type "dict",data:=.dict #[]}}) F.kt_called_dict (F.kt_typeCall_dict_1 _) F.entry_dict_init (kt_code_dict_new _ ⟨rfl,rfl⟩) ?_;rintro obj ai ⟨rfl,rfl⟩;have kp:∀b o,s.heap.get? b=aj o->(s.heap.push {cls:=.type "dict",data:=.dict #[]}).get? b=aj o:=λb o e=>cu _ e;have AN:(s.heap.push {cls:=.type "dict",data:=.dict #[]}).DictOf (aF prog w) s.heap.objs.size []:=Heap.DictOf.new s.heap;have PR:l≠s.heap.objs.size:=jo (fj hl);refine⟨AN.typeIs,F.args_dict_init_2 _ _,?_⟩;unfold Builtin.«dict.__init__»;refine aq ?_;unfold Builtin.Dict.selfAndRest;refine aq (wpAny_notOrdered_dict AN.typeIs ?_);show dj _ _ (pure (s.heap.objs.size,[au.ref l])) _ _ _;refine cj ?_;show dj _ _ (Builtin.Dict.updateFrom "dict.__init__" s.heap.objs.size (.ref l) [] .none) _ _ _;unfold Builtin.Dict.updateFrom;refine aq (wpAny_typeOf (T:="list") ⟨o,kp _ _ hl,hc⟩ ?_);rw[if_pos (by decide)];refine aq (YN (kp _ _ hl) hc bo Yc hh λh' tk k1=>?_);rw[if_pos (by rfl)];refine aq (kQ ?_);have Kh:h'.IsList l its:=⟨o,k1 _ _ (kp _ _ hl),hc,n,bo⟩;refine aq (wpAny_pyIter_list (s:={s with heap:=h',toks:=tk}) Kh ?_);have k2:∀b o,s.heap.get? b=aj o->(h'.push {cls:=.type "list_iterator",data:=.fields #[.ref l,fS 0]}).get? b=aj o:=λb o e=>cu _ (k1 _ _ (kp _ _ e));have JE:s.heap.objs.size<h'.objs.size:=fj (k1 s.heap.objs.size _ (jd _ rfl));refine cj ⟨Cp II _,ξ (A:=A.in1) (its:=its) (ps:=ps) hh (jo JE) (jo (fj Kh.choose_spec.1)) PR hlen ps.length 0 _ [] _ _ rfl (qz _) ⟨_,jd _ rfl,rfl,rfl⟩ (Kh.at λo e=>cu _ e) (Mp AN (λo e=>cu _ (k1 _ _ e))) (by simp;omega) (λi v x e1 e2=>(hp i v x e1 e2).ok (wj JE) (gw _) k2) λh3 JC DC k3=>?_⟩;exact⟨rfl,h h3 JC DC λb o e=>k3 b o (jo (fj e)) (jo (Nat.lt_trans (fj e) JE)) (k2 b o e)⟩
end
abbrev VI:D->Option (Key×D)
 |.tup [y,z]=>(match Lk y with
  |some k=>aj (k,z)
  |none=>bh)
 |_=>bh
abbrev Cc:List D->Option (List (Key×D))
 |[]=>aj []
 |d::r=>match VI d,Cc r with
  |some p,aj ps=>aj (p::ps)
  |_,_=>bh
abbrev Ew(kvs:List (DK×D))(ps:List (Key×D)):List (DK×D):=ps.foldl (λacc p=>cM acc (.inl p.1) p.2) kvs
inductive BG(K:Fg)(H:Hp):List (Key×D)->List (Key×au)->Prop where
 |nil:BG K H [] []
 |cons {k:Key} {vz:V} {u:au} {d:D} {kvs:List (Key×D)} {ps:List (Key×au)}:RD K H d vz->RelV vz u->BG K H kvs ps->BG K H ((k,d)::kvs) ((k,u)::ps)
def aqB(ps:List (Key×au)):∀xs,(BZ xs ps).length<=xs.length+ps.length:=by
 induction ps with
 |nil=>intro xs;simp[BZ]
 |cons p r ih =>
  intro xs;have:=ih (stored xs p.1 p.2);have:=stored_length_le xs p.1 p.2;simp only[BZ,List.foldl_cons,qm]at *;omega
def BG.fold{K:Fg}(h:BG K H kvs ps):∀{k0:List (DK×D)}{y0:List (Key×V)}{p0:List (Key×au)},KV y0 p0->uW K H .inl k0 y0->∃ys,KV ys (BZ p0 ps)/\uW K H .inl (Ew k0 kvs) ys:=by
 induction h with
 |nil=>intro k0 y0 p0 a b;exact⟨y0,a,b⟩
 |@cons k vz u d kvs ps rd rv _ ih =>
  intro k0 y0 p0 a c;exact ih (KV.put a k rv) (EO kY rd c)
section
variable{X:Cx}
private theorem R7{ψ:List (bw×Obj)}{s:cg}(I:Inv X ψ σ H s):∀{ds:List D}{zs:List V}{its:List au}{kvs:List (Key×D)},cW X.K H ds zs->Vals zs its->Cc ds=aj kvs ->
  ∃ps,BG X.K H kvs ps/\its.length=ps.length/\∀(i:Nat)(v:au)(x:Key×au),its[i]?=aj v->ps[i]?=aj x->GI X.prog X.w s.heap v x
 |_,_,_,_,.nil,.nil,e=>by cases e;exact⟨[],.nil,rfl,λi v x e=>by simp at e⟩
 |d::ds,z::zs,u::its,kvs,.cons r rs,.cons v vs,e=>by
  unfold Cc at e;split at e
  .rename_i p A5 e1 e2;cases e;let⟨ps,hp,hl,hq⟩:=R7 I rs vs e2;unfold VI at e1;split at e1
   .rename_i y z';split at e1
    .rename_i k e3;cases e1;cases r with
     |@tup a xs _ sq rr _ =>
     obtain rfl:u=au.ref a:=v;cases rr with
     |cons r1 rr =>
     cases rr with
     |@cons _ vz _ _ r2 rr =>
     cases rr;have ek:=Sj r1 e3;subst ek;let⟨i2,vi,⟨o,h1,h2,n,h3⟩,_⟩:=I.tuple sq;cases vi with
     |@cons _ uk _ _ va vi =>
     cases vi with
     |@cons _ uz _ _ vb vi =>
     cases vi;refine⟨(k,uz)::ps,.cons r2 vb hp,by simp[hl],λi v x e1 e2=>?_⟩;cases i with
     |zero =>
      simp at e1 e2;subst e1 e2;exact⟨a,o,n,uk,rfl,h1,h2,by simpa using h3,sR va⟩
     |succ i=>exact hq i v x (by simpa using e1) (by simpa using e2)
    .cases e1
   .cases e1
  .cases e
abbrev wD:List D->Gp->iW->Prop:=λxs G R=>match xs with
 |[.ref a]=>(match bM G a with
  |some ds=>(match Cc ds with
   |some kvs=>∀r,G r=bh->R (.ref r) (aC G r (.aZ ao (Ew [] kvs)))
   |none=>False)
  |none=>False)
 |_=>False
private theorem aA0(hc:X.calm=ak):jO X (.type "dict") wD:=by
 intro ψ s σ H xs vs us G R Q I rx rv g q k;unfold wD at q;split at q
 .rename_i a;split at q
  .rename_i ds e1;split at q
   .rename_i kvs e2;cases rx with
    |cons r1 rr =>
    cases rr;cases r1;cases rv with
    |cons rv rr =>
    cases rr;cases rv;let⟨zs,hq,r⟩:=gH g e1;let⟨its,vi,⟨o,n,h1,h2,h3,h4⟩,hz⟩:=I.list hq;let⟨ps,hp,hl,vS⟩:=R7 I r vi e2;have XV:ps.length<=dg:=by rw[←hl,←vi.length];exact hz
    refine ν (I.ok.hd hc) h1 h2 h4 h3 (by simpa using hl) XV (λi v x e1 e2=>vS i v x (by simpa using e1) e2) λh' tk hd kk=>?_;let⟨ys,kt,tw⟩:=hp.fold (k0:=[]) (y0:=[]) (p0:=[]) .nil .nil;have fr:H s.heap.objs.size=bh:=I.af.fresh (gw _);have sn:aS H (upd H s.heap.objs.size (.dK ys)):=cA fr;have XJ:ys.length<=dg:=by rw[KV.length kt];have:=aqB ps [];simp at this;omega
    have J:Inv X ψ σ (upd H s.heap.objs.size (.dK ys)) {s with heap:=h',toks:=tk}:=I.laid (t':=tk) (o:=.dK ys) kk (gw _) ⟨XJ,(by have:=I.big;simp;exact xu this),_,kt,hd⟩;exact⟨.ref s.heap.objs.size,_,J,rfl,k _ _ (.ref _) _ (.same sn) (.ref _) (g.put (u:=.aZ ao _) fr (.inl ⟨rfl,ys,aK,tw.imp λ_ _ z=>⟨z.1,z.2.mono (.same sn)⟩⟩)) (q _ (m8 g fr (sU J)))⟩
   .exact q.elim
  .exact q.elim
 .exact q.elim
end
end
section
open PySem.W
section
end
section
end
end
variable{as:List bw}
section
open PySem.W
section
variable{prog:mz}{w:jr}{A:jf}{E:au->cg->Prop}{s:cg}
def Tb{CV:List au->lg->Prop}{Q:au->cg->Prop}
  (M9:∀(R:List au->cg->Prop)(E:au->cg->Prop),(∀vs h' tk,(∀b o,s.heap.get? b=aj o->h'.get? b=aj o)->CV vs h'->R vs {s with heap:=h',toks:=tk})->dj (dz prog w) A.in1 (collect (.ref r)) R E s)
  (hm:∀vs h1 tk,(∀b o,s.heap.get? b=aj o->h1.get? b=aj o)->CV vs h1->vs.length<128/\∃kf:Nat->Int,(∀i j,i<vs.length->j<vs.length->kf i=kf j->i=j) /\
   (2<=vs.length->∀h':lg,(∀b o,h1.get? b=aj o->h'.get? b=aj o)->Hj prog w A.in1.in1 {s with toks:=tk} kf vs h') /\
   ∀(q:Array Nat)(h':lg)(c:Nat),Pm vs.length q->Up kf q vs.length->(∀b o,h1.get? b=aj o->h'.get? b=aj o)->h'.get? h1.objs.size=aj (ud "list" (q.toList.map λi=>vs.getD i au.none).toArray c)->Q (.ref h1.objs.size) {s with heap:=h',toks:=tk}):dj (dz prog w) A (call (.builtin "sorted") [.ref r]) Q E s:=by
 have big:1000<dg:=by decide
 refine Calls.call_function_entry kind_sorted plain_sorted entry_sorted (args_sorted1 _) ?_;unfold Builtin.«sorted»;refine aq (m:=checkCount "sorted" 1 1 _) (cj (aq (M9 _ _ λvs h1 tk k1 cv=>?_)));let⟨gX,kf,hd,hk,h⟩:=hm vs h1 tk k1 cv;refine aq (wpAny_newList ?_ ⋯);have oL:(h1.push (ud "list" vs.toArray 0)).get? h1.objs.size=aj (ud "list" vs.toArray 0):=jd _ rfl;refine aq (vp (yx (s:={s with heap:=h1.push (ud "list" vs.toArray 0),toks:=tk}) slot_list_sort ⟨_,oL,rfl⟩ entry_list_sort (Uq (kf:=kf) (s:={s with heap:=h1.push (ud "list" vs.toArray 0),toks:=tk}) oL gX hd (λl2 h' k'=>?_) λq P u=>⟨_,rfl,cj ⟨_,rfl,?_⟩⟩) (args_list_sort _)))
 .exact hk l2 h' λb o e=>k' b o (jo (fj e)) (cu _ e)
 .obtain⟨c,hc⟩:=QT (h:=h1) (vs:=vs) (out:=(q.toList.map λi=>vs.getD i au.none).toArray);exact h q _ c P u (λb o e=>Sa e) hc
end
section
variable{X:Cx}
def Inv.grown{s:cg}{t':Nat}(I:Inv X ψ σ H s)(k:∀b u,s.heap.get? b=aj u->h'.get? b=aj u)(hs:aS H H')(hn:∀b u,H' b=aj u->H b=aj u∨(s.heap.objs.size<=b/\iT X.prog X.w H' h' b u)):Inv X ψ σ H' {s with heap:=h',toks:=t' }:=by
 refine I.un ⟨λb ob q _ _ _=>k b ob q,λb ob q _ _ _=>⟨ob.slots,k b ob q⟩,λb ob q n _=>?_,λb ob q _=>⟨ob,k b ob q⟩,λb xs q=>hs _ _ q,λb o u q=>hs _ _ q,λb ps q=>⟨#[],by rw[hs _ _ q];simp⟩⟩ λa o e=>?_
 .cases z:H' b with
  |none=>rfl
  |some u =>
   rcases hn b u z with w|⟨w,_⟩
   .rw[n]at w;cases w
   .exact absurd (fj q) (Nat.not_lt.mpr w)
 .rcases hn a o e with w|⟨_,w⟩
  .exact(I.af a o w).cf (λc v _ q=>k c v q) (λc q=>hs _ _ q) λc xs q=>hs _ _ q
  .exact w
variable{σ:St}
def Ul{H:Hp}{s:cg}(I:Inv X ψ σ H s)(k:∀b u,s.heap.get? b=aj u->h1.get? b=aj u){ys:Nat->List V}{us:Nat->List au}(nd:as.Nodup)(hi:∀a∈as,s.heap.objs.size<=a)
  (ht:∀j a,as[j]?=aj a->Vals (ys j) (us j)/\(ys j).length<=dg/\IsTup h1 a (us j).toArray):∃H1,Inv X ψ σ H1 {s with heap:=h1,toks:=tk}/\aS H H1/\∀j a,as[j]?=aj a->H1 a=aj (.tup (ys j)):=by
 have fr:∀a∈as,H a=bh:=λa ha=>I.af.fresh (hi a ha)
 let H1:Hp:=λb=>if b∈as then aj (.tup (ys (as.idxOf b)))else H b
 have sm:aS H H1:=λb o e=>by
  show(if b∈as then _ else _)=_;rw[if_neg]
  .exact e
  .intro z;rw[fr b z]at e;cases e
 have iS:∀j a,as[j]?=aj a->H1 a=aj (.tup (ys j)):=λj a e=>by
  let⟨hj,e2⟩:=iz.mp e;show(if a∈as then _ else _)=_;rw[if_pos (jm e),←e2,nd.idxOf_getElem]
 refine⟨H1,I.grown k sm λb u e=>?_,sm,iS⟩;by_cases z:b∈as
 .right;refine⟨hi b z,?_⟩;let⟨j,hj⟩:=NZ.mp z;have e3:=iS j b hj;rw[e3]at e;cases e;let⟨t1,t2,t3⟩:=ht j b hj;exact⟨t2,us j,t1,t3⟩
 .left;have e':(if b∈as then aj (.tup (ys (as.idxOf b)))else H b)=aj u:=e;rw[if_neg z]at e';exact e'
abbrev qK(p:Int×Int):DK×D:=(.inl (.inl p.1),.int p.2)
def Eu{K:Fg}:∀{ps:List (Int×Int)}{ys:List (Key×V)},uW K H .inl (ps.map qK) ys->ys=ps.map λp=>(.inl p.1,.int p.2)
 |[],_,.nil=>rfl
 |p::ps,y::ys,.cons h r=>by
  let⟨k,v⟩:=y;let⟨h1,h2⟩:=h
  have e1:(Sum.inl p.1:Key)=k:=by
   have:(Sum.inl (Sum.inl p.1):DK)=.inl k:=h1;exact kY _ _ this
  cases h2;rw[Eu r,←e1];rfl
def BY:∀{ps:List (Int×Int)}{vs:List (Key×au)},KV (ps.map λp=>((.inl p.1:Key),V.int p.2)) vs->vs.length=ps.length/\vs.map (·.1)=ps.map (λp=>(.inl p.1:Key))/\∀(j:Nat)(p:Int×Int),ps[j]?=aj p->∃t,vs[j]?=aj (.inl p.1,au.int p.2 t)
 |[],_,.nil=>⟨rfl,rfl,λj p e=>by simp at e⟩
 |p::ps,v::vs,.cons h r=>by
  let⟨a1,a2,a3⟩:=BY r;let⟨k,u⟩:=v;let⟨h1,t,h2⟩:=h;cases h1;cases h2;refine⟨by simp[a1],by simp[a2],λj q e=>?_⟩;cases j with
  |zero=>simp at e;subst e;exact⟨t,rfl⟩
  |succ j=>exact a3 j q (by simpa using e)
def Nz{K:Fg}:∀{ps:List (Int×Int)}{as:List bw},as.length=ps.length->(∀(j:Nat)(a:bw)(p:Int×Int),as[j]?=aj a->ps[j]?=aj p->H a=aj (.tup [.int p.1,.int p.2]))->cW K H (ps.map eY) (as.map V.ref)
 |[],[],_,_=>.nil
 |p::ps,a::as,hl,h=>by
  have e:=h 0 a p rfl rfl;exact .cons (.tup (.inl (.of e)) (.cons (.int _) (.cons (.int _) .nil)) (zv e)) (Nz (by simpa using hl) λj b q e1 e2=>h (j+1) b q (by simpa using e1) (by simpa using e2))
def HZ:∀as:List bw,Vals (as.map V.ref) (as.map au.ref)
 |[]=>.nil
 |_::r=>.cons rfl (HZ r)
def akZ{H:Hp}{s:cg}{G:Gp}{R:iW}{Q:VK}(hc:X.calm=ak)(I:Inv X ψ σ H s)(g:HR X.K H G){a:bw}{ps:List (Int×Int)}(e:G a=aj (.aZ ao (ps.map qK)))(gX:ps.length<128)(hv:s.heap.IsItemsView r a)
  (h:∀qs:List (Int×Int),qs.Perm ps->dJ qs->∀r,G r=bh->R (.ref r) (aC G r (.lst (qs.map eY))))(k:∀v H' d G',Ts H H'->RD X.K H' d v->HR X.K H' G'->R d G'->Q v H'):dj (dz X.prog X.w) X.A (call (.builtin "sorted") [.ref r]) (EP X ψ σ Q) X.xe s:=by
 have big:1000<dg:=by decide
 rcases g a _ e with⟨_,ys,e1,tw⟩|⟨z,_⟩
 .have ey:=Eu tw;subst ey;let⟨z1,fq,vs,kv,hd⟩:=xb I.af e1;let⟨l1,l2,l3⟩:=BY kv;let⟨o,es,ep,q1,q2,q3,q4,q5,q6⟩:=hd;have vS:s.heap.DictAt (aF X.prog X.w) a vs ep:=⟨o,es,q1,q2,q3,q4,q5,q6⟩;have nk:(ps.map λp=>(.inl p.1:Key)).Nodup:=by rw[←l2];exact q6
  have nd:ps.Nodup:=(vf.mp nk).imp λh z=>h (by rw[z]);refine Tb (CV:=λus h'=>∃as:List bw,us=as.map au.ref/\as.length=ps.length/\KdxG (aF X.prog X.w) vs s.heap.objs.size h' as) (λR' E' hR=>kdx_collect (I.ok.hd hc) hv vS ⋯ λh' tk as kk hl hG=>hR _ h' tk kk ⟨as,rfl,hl.trans l1,hG⟩) λus h1 tk k1 cv=>?_;let⟨as,rfl,hl,hG⟩:=cv
  have ex:∀j:Nat,∃uu:List au,∀b,as[j]?=aj b->Vals [V.int (ps.getD j (0,0)).1,V.int (ps.getD j (0,0)).2] uu/\IsTup h1 b uu.toArray:=λj=>by
   cases ea:as[j]? with
   |none=>exact⟨[],λb z=>by cases z⟩
   |some b =>
    let⟨key,kk,x,p1,p2,p3⟩:=hG.pairs j b ea;have hj:j<ps.length:=by rw[←hl];exact(iz.mp ea).1
    let⟨t,p4⟩:=l3 j ps[j] (gk hj);rw[p4]at p1;cases p1;have gd:ps.getD j (0,0)=ps[j]:=getD_at hj;refine⟨[key,au.int ps[j].2 t],λb' z=>?_⟩;cases z;rw[gd];refine⟨.cons ?_ (.cons ⟨t,rfl⟩ .nil),⟨_,p3,rfl,_,rfl⟩⟩;rcases bZ (show qq (Sum.inl ps[j].1) key=ak from p2)with⟨i,t',e1,e2⟩|⟨i,t',e1,e2⟩
    .cases e1;exact⟨t',e2⟩
    .cases e1
  let⟨us,Dr⟩:=Classical.axiomOfChoice ex;let⟨H1,I1,sm,iS⟩:=Ul (tk:=tk) I k1 (as:=as) (ys:=λj=>[V.int (ps.getD j (0,0)).1,V.int (ps.getD j (0,0)).2]) (us:=us) (hG.rise.imp jo) (λb hb=>wj (hG.above b hb)) λj b e=>⟨(Dr j b e).1,by show 2<=dg;omega,(Dr j b e).2⟩
  have mn:cW X.K H1 (ps.map eY) (as.map V.ref):=Nz hl λj b p e1 e2=>by
   have z:=iS j b e1;let⟨hj,e3⟩:=iz.mp e2;rw[getD_at hj,e3]at z;exact z
  have vi:=HZ as;let⟨B,b0,hB⟩:=NA ps;have hp:=pairs_at I1 mn vi;have hM:2*B<2*B+1:=by omega
  have g1:HR X.K H1 G:=g.same sm;refine⟨by rw[hp.1];exact gX,λi=>enc (2*B+1) (ps.getD i (0,0)),λi j hi hj e=>?_,λl2 h' kp=>Us hM hB l2 ⟨hp.1,λi p ei=>?_⟩,λq h' c P u k2 ho=>?_⟩
  .rw[hp.1]at hi hj;exact R8 nd hM hB i j hi hj e
  .obtain⟨a,o,n,x,y,z1,z2,z3,z4⟩:=hp.2 i p ei;exact⟨a,o,n,x,y,z1,kp _ _ z2,z3,z4⟩
  .exact Tc (s:={s with heap:=h1,toks:=tk}) (h1:=h1) (tk:=tk) I1 g1 mn vi nd gX hM hB (λv H' d G' t=>k v H' d G' ((Ts.same sm).trans t)) h P u (λ_ _ z=>z) k2 ho
 .cases z
def aA1{K:Fg}{a:bw}(g:HR K H G)(e:G a=aj (.aZ ao kvs)):qS H a:=by
 rcases g a _ e with⟨_,ys,e1,_⟩|⟨z,_⟩
 .exact .inl ⟨ys,.of e1⟩
 .cases z
def Ta:∀l:List Int,preSum (λi=>l.getD i 0) l.length=l.sum
 |[]=>rfl
 |x::l=>by
  rw[qm,kdu_shift,List.sum_cons,←Ta l];rfl
abbrev yR(x:D)(G:Gp)(R:iW):Prop:=match x with
 |.ref a=>(match G a with
  |some (.aZ ao kvs)=>∃ps:List (Int×Int),kvs=ps.map qK/\R (.int (ps.map (·.2)).sum) G
  |_=>False)
 |_=>False
private theorem aqC{x:D}(h:yR x G R):∃a,∃ps:List (Int×Int),x=.ref a/\G a=aj (.aZ ao (ps.map qK))/\R (.int (ps.map (·.2)).sum) G:=by
 unfold yR at h;split at h
 .split at h
  .rename_i e;let⟨ps,rfl,h1⟩:=h;exact⟨_,ps,rfl,e,h1⟩
  .exact h.elim
 .exact h.elim
abbrev HB(to:bC):bC:=λρ G R=>to ρ G λx G1=>yR x G1 R
def aGW{o:ig}{x:Str}{apos ah:Pos}(hc:X.calm=ak)(ho:bY X o to)(hg:Gl X x)(hm:X.mg x=bh)(hv:qe x=aj (.builtin "sum"))(hn:x≠"__name__")(gS:(x==("__debug__":Str))=ao)
  (br:xq o "values" X.env (eval o X.env)=eval o X.env)(bp:(apos.endLine==ah.line)=ak) :
  bY X (.Call (.Name x p) [.Call (.Attribute o "values" apos) [] [] ah] [] pos) (HB to):=by
 intro ψ s σ H Q I h;let⟨ρ,G,R,sr,g,q,kk⟩:=h;refine yw (Ay I hg hm hv ?_ hn gS);refine PyProof.Rows.callWith_builtin1 (Calls.spliced_cons ?_);refine Jd br bp (dH (ho ψ s σ H (λvx H1=>Ts H H1/\∃x G1,RD X.K H1 x vx/\HR X.K H1 G1/\yR x G1 R) I ⟨ρ,G,_,sr,g,q,λv H1 x G1 t1 r1 g1 q1=>⟨t1,x,G1,r1,g1,q1⟩⟩) ?_);rintro v s1 ⟨vx,H1,I1,r1,t1,x1,G1,rx,g1,q1⟩;let⟨a,ps,rfl,e1,hq⟩:=aqC q1;cases rx;obtain rfl:v=au.ref a:=r1;let⟨h1,h2,h3⟩:=EF I1 (aA1 g1 e1);refine⟨"dict","dict.values",PySem.F.plainAttrs_dict,PySem.F.slot_dict_values,PySem.F.type_dict_values,h1,h2,Calls.callWith_builtin rfl (PySem.evalArgs_none ?_)⟩;rcases g1 a _ e1 with⟨_,ys,e2,tw⟩|⟨z,_⟩
 .have ey:=Eu tw;subst ey;let⟨z1,fq,vs,kv,hd⟩:=xb I1.af e2;let⟨l1,l2,l3⟩:=BY kv;refine call_meetsIn PySem.F.slot_dict_values h1 PySem.F.entry_dict_values (PySem.F.args_dict_values_1 _) (meets_dict_values (aF X.prog X.w) a fq) ⟨⟨vs,hd⟩,?_⟩;refine Calls.spliced_nil ?_;let⟨o,es,ep,q1,q2,q3,q4,q5,q6⟩:=hd
  let oV:Obj:={cls:=.type "dict_values",data:=.fields #[.ref a]}
  have vS:(s1.heap.push oV).DictAt (aF X.prog X.w) a vs ep:=⟨o,es,cu _ q1,q2,q3,q4,q5,q6⟩;have Gi:(s1.heap.push oV).IsValuesView s1.heap.objs.size a:=⟨_,jd _ rfl,rfl,rfl⟩;refine call_sum_walkAnyS ?_;have KS:=kdl_values (prog:=X.prog) (w:=X.w) (knd:=aF X.prog X.w) (r:=s1.heap.objs.size) (d:=a) (kvs:=vs) (ep:=ep);let⟨oI,St,hit,W,st⟩:=KS.iter X.A.in1 {s1 with heap:=s1.heap.push oV} (I1.ok.hd hc) ⟨Gi,vS⟩;refine hit _ _ ⟨(s1.heap.push oV).objs.size,_,_,_,vs.length,_,_,(λi=>(ps.map (·.2)).getD i 0),rfl,W.toS,st,λb hb=>?_,?_,λs' t' hm=>?_⟩
  .show b<((s1.heap.push oV).push oI).objs.size;rw[size_push'];rcases ju.mp hb with e|hb
   .rw[e];exact Nat.lt_succ_self _
   .rw[jw.mp hb];exact E5 (KS.there _ ⟨Gi,vS⟩).2
  .intro i v hP;let⟨k,hk⟩:=hP;have hi:i<ps.length:=by rw[←l1];exact(iz.mp hk).1
   let⟨t,p4⟩:=l3 i ps[i] (gk hi);rw[p4]at hk;cases hk;refine⟨t,?_⟩;have:(ps.map (·.2)).getD i 0=ps[i].2:=by simp[ug,hi]
   show au.int ps[i].2 t=au.int ((ps.map (·.2)).getD i 0) t;rw[this]
  .have hk:∀b o,s1.heap.get? b=aj o->s'.heap.get? b=aj o:=λb o e =>
    hm.heap b o (λhI=>absurd (fj e) (by have z:=jw.mp hI;rw[z];show ¬ (s1.heap.push oV).objs.size<_;rw[size_push'];exact Nat.not_lt.mpr (Nat.le_succ _))) (cu _ (cu _ e))
   rw[Moved.eq_with hm];have e5:vs.length=(ps.map (·.2)).length:=by rw[dw,l1]
   rw[e5,Ta];exact⟨.int _,H1,I1.kept hk,⟨t',rfl⟩,kk _ H1 _ G1 t1 (.int _) g1 hq⟩
 .cases z
end
end
section
open PySem.W
section
section
variable{κ:Type}[DecidableEq κ]
end
end
abbrev cE(z:List Key×bw):DK×D:=(.inr z.1,.ref z.2)
def μ{M:List (List Key×bw)}{k:List Key}(h:aJ M k=aj y):(k,y)∈M:=by
 induction M with
 |nil=>cases h
 |cons z M ih =>
  unfold aJ at h;by_cases c:z.1=k
  .rw[if_pos c]at h;cases h;rw[←c];exact xy ..
  .rw[if_neg c]at h;exact qp _ (ih h)
section
variable{X:Cx}
def VH{s:cg}(I:Inv X ψ σ H s)(g:HR X.K H G){a:bw}{ps:List (Int×Int)}(e:G a=aj (.aZ ao (ps.map qK))):(a==um)=ao/\(ps.map (·.1)).Nodup/\∃ka,KV (ps.map λp=>((.inl p.1:Key),V.int p.2)) ka/\s.heap.DictOf (aF X.prog X.w) a ka:=by
 rcases g a _ e with⟨_,ys,e1,tw⟩|⟨z,_⟩
 .have ey:=Eu tw;subst ey;let⟨z1,fq,vs,kv,hd⟩:=xb I.af e1;refine⟨fq,?_,vs,kv,hd⟩;have l2:=(BY kv).2.1;let⟨o,es,ep,q1,q2,q3,q4,q5,q6⟩:=hd;rw[l2]at q6;exact vf.mpr ((vf.mp q6).imp λh z=>h (by rw[z]))
 .cases z
abbrev BX(neg:Bool):R3:=λx y G R=>∃a b,∃ps:List (Int×Int),x=.ref a/\y=.ref b/\G a=aj (.aZ ao (ps.map qK))/\G b=aj (.aZ ao [])/\R (.bl (neg ^^ ps.isEmpty)) G
def aMZ(hu:X.A.units+64<qg){neg:Bool}:rA X (qb (if neg then .NotEq else .Eq)) (BX neg):=yI λψ s σ H x y vx vy u v G R Q I rx ry ru rv g q k=>by
 have in1:X.A.in1.units=X.A.units+1:=rfl;let⟨a,b,ps,rfl,rfl,e1,e2,q⟩:=q;cases rx;cases ry;obtain rfl:u=au.ref a:=ru;obtain rfl:v=au.ref b:=rv;let⟨n1,_,ka,va,da⟩:=VH I g e1;let⟨n2,_,kb,vb,db⟩:=VH (ps:=[]) I g e2;have l1:=(BY va).1;cases vb;have fin:∀bb:Bool,bb=(neg ^^ ps.isEmpty)->EP X ψ σ Q (.bool bb) s:=λbb eb=>⟨.bl bb,H,I,rfl,k _ H (.bl bb) G (.refl H) (.bl _) g (by rw[eb];exact q)⟩;have hk:ka.length=([]:List (Key×au)).length->ka=[]:=List.length_eq_zero_iff.mp;cases neg with
 |false=>exact keq_eq (r:=true) n1 n2 da db ⋯ (λz=>by rw[hk z];exact .nil) (fin _ (by cases ps<;>simp_all))
 |true=>exact keq_ne (r:=true) n1 n2 da db ⋯ (λz=>by rw[hk z];exact .nil) (fin _ (by cases ps<;>simp_all))
end
end
section
open PySem.W
section
abbrev uX:i6:=λx xs G R=>match x,xs with
 |.ref q,[.bl b]=>(match bM G q with
  |some ds=>ds.all DU=ak/\∃j:Nat,ds[j]?=aj (.bl b)/\(∀m,m<j->ds[m]?≠aj (.bl b))/\R (.int j) G
  |none=>False)
 |_,_=>False
private theorem S9:m4 X "list.index" uX:=λψ s σ H x xs vx vs u us G R Q I rx rs ru rv g q k=>by
 have big:dg<2^62:=by decide
 unfold uX at q;split at q
 .rename_i a b;split at q
  .rename_i ds e1;let⟨ab,j,h1,h2,q⟩:=q;cases rx;obtain rfl:u=au.ref a:=ru;cases rs with
   |cons r1 rr =>
   cases rr;cases r1;let⟨u2,rfl,F2⟩:=vals1 rv;obtain rfl:u2=au.bool b:=F2;let⟨ws,hq,r1⟩:=gH g e1;let⟨its,yl,pl,hz⟩:=I.list hq;have len:its.length=ds.length:=by rw[←yl.length,←r1.length]
   have lw:ds.length=ws.length:=r1.length;have jl:j<ds.length:=(iz.mp h1).1;have iS:∀m (hm:m<its.toArray.size),its.toArray[m]=au.bool (yk ds m):=λm hm=>aq4 r1 yl ab (i:=m) (by rw[gk (by simpa using hm)];simp)
   have tr:∀m,m<ds.length->(yk ds m=b↔ds[m]?=aj (.bl b)):=λm hm=>by
    have hb:DU ds[m]=ak:=qx.mp ab _ (yh hm);unfold yk;rw[gk hm];cases z:ds[m]with
    |bl c=>simp[DT]
    |_=>rw[z]at hb;cases hb
   let⟨o,n,p1,p2,p3,p4⟩:=pl;have hT:s.TypeIs (.ref a) "list":=⟨o,p1,p2⟩;have nK:s.heap.get? a=aj {cls:=.type "list",dict:=o.dict,data:=.seq its.toArray n,slots:=o.slots}:=by rw[p1];cases o;simp_all
   refine call_meets PySem.F.slot_list_index hT PySem.F.entry_list_index (PySem.F.args_list_index_2 _ _) (SeqAt.list_indexAt a its.toArray n o.dict o.slots (.bool b) (λv=>match v with|.bool c=>PyData.eqv (.bool c) (.bool b)|_=>ao) j (by simpa[len]using jl) ⋯ ?_ ?_) ⟨nK,?_,⟨.int j,H,I.tok _,⟨_,rfl⟩,k _ H _ G (.refl H) (.int _) g q⟩⟩
   .rw[iS j (by simpa[len]using jl),(tr j jl).mpr h1];cases b<;>rfl
   .intro m hm ft;have js:m<ds.length:=by rw[←len];simpa using hm
    rw[iS m hm];have ne:yk ds m≠b:=λz=>h2 m ft ((tr m js).mp z);cases c:yk ds m<;>cases b<;>first|rfl|exact absurd c ne
   .intro y hy;let⟨m,hm,rfl⟩:=Array.mem_iff_getElem.mp hy;rw[iS m hm];exact keq_flat (PyProof.V.Flat.bool _) (PyProof.V.Flat.bool _)
  .exact q.elim
 .exact q.elim
end
end
variable{ep:Nat}{cm al:Bool}{en:Array ip}
section
open PySem.W
structure Fz(X:Cx)(p:bw):Prop where
 free:∀ob,X.av.heap.get? p=aj ob->X.aw p=bh->p∈X.ex
 tup:∀xs,X.aw p≠aj (.tup xs)
 jJ:∀o w,X.aw p≠aj (.jJ o w)
 i9:∀ps,X.aw p≠aj (.i9 ps)
section
variable{ψ:List (bw×Obj)}{s:cg}
def Fz.of(I:Inv X ψ σ H s)(hu:H p=aj u)(h1:∀xs,u≠.tup xs)(h2:∀ob w,u≠.jJ ob w)(h3:∀ps,u≠.i9 ps):Fz X p:=by
 refine⟨λob q n=>?_,λxs q=>?_,λo w q=>?_,λps q=>?_⟩
 .apply Classical.byContradiction;intro hx;have:=I.base.free p ob q n hx;rw[hu]at this;cases this
 .have:=I.base.az p xs q;rw[hu]at this;exact h1 xs (ji.inj this)
 .have:=I.base.m7 p o w q;rw[hu]at this;exact h2 o w (ji.inj this)
 .obtain⟨more,this⟩:=I.base.xV p ps q;rw[hu]at this;exact h3 _ (ji.inj this)
end
section
variable{X:Cx}{ψ:List (bw×Obj)}{s:cg}
def Inv.freeze(I:Inv X ψ σ H s){a:bw}{o:Obj}(hu:H a=aj u)(h1:∀xs,u≠.tup xs)(h2:∀ob w,u≠.jJ ob w)(h3:∀ps,u≠.i9 ps)(h4:∀x,u≠.own x)(ho:s.heap.get? a=aj o):Inv X ψ σ (upd H a (.jJ o u)) s:=by
 have ne:∀{b:bw}{v:HO},H b=aj v->v≠u->b≠a:=λe n z=>by subst z;rw[hu]at e;exact n (ji.inj e).symm
 have no:∀{b:bw},H b=bh->upd H a (.jJ o u) b=bh:=λ{b} e=>by
  rw[aP];exact e;intro z;subst z;rw[hu]at e;cases e
 have kt:∀b xs,H b=aj (.tup xs)->upd H a (.jJ o u) b=aj (.tup xs):=λb xs q=>by rw[aP (ne q λz=>h1 xs z.symm)];exact q
 have kf:∀b ob w,H b=aj (.jJ ob w)->upd H a (.jJ o u) b=aj (.jJ ob w):=λb ob w q=>by rw[aP (ne q λz=>h2 ob w z.symm)];exact q
 have ko:∀b x,H b=aj (.own x)->upd H a (.jJ o u) b=aj (.own x):=λb x q=>by rw[aP (ne q λz=>h4 x z.symm)];exact q
 refine⟨I.ok,I.os,I.bare,⟨I.base.keep,I.base.slot,λb ob q n hx=>no (I.base.free b ob q n hx),I.base.there,λb xs q=>kt b xs (I.base.az b xs q),λb ob w q=>kf b ob w (I.base.m7 b ob w q),λb ps q=>?_⟩,I.loc,I.cell,no I.free,λx c e=>no (I.oN x c e),λp hp=>?_,λb v e=>?_,I.len,I.dS.mono kf,λp hp=>kt _ _ (I.tup p hp)⟩
 .obtain⟨more,e⟩:=I.base.xV b ps q;exact⟨more,by rw[aP (ne e λz=>h3 _ z.symm)];exact e⟩
 .obtain⟨z1,z2,z3⟩:=I.pin p hp;exact⟨z1,no z2,z3⟩
 .by_cases hb:b=a
  .subst hb;rw[aK]at e;obtain rfl:=ji.inj e;exact⟨ho,(I.af b u hu).cf (λ_ _ _ q=>q) (λc q=>ko c _ q) λc xs q=>kt c xs q⟩
  .rw[aP hb]at e;exact(I.af b v e).cf (λ_ _ _ q=>q) (λc q=>ko c _ q) λc xs q=>kt c xs q
def aGX(r:KV ys vs):∀{i:Nat}{k:Key}{y:V},ys[i]?=aj (k,y)->∃u,vs[i]?=aj (k,u)/\RelV y u:=by
 induction r with
 |nil=>intro i k y e;simp at e
 |@cons p q _ _ h _ ih =>
  intro i k y e;cases i with
  |zero =>
   simp only[Ff,ji.injEq]at e;subst e;let⟨q1,q2⟩:=q;let⟨h1,h2⟩:=h;exact⟨q2,by simp only[Ff];rw[show q1=k from h1.symm],h2⟩
  |succ i=>simpa using ih (by simpa using e)
def aA2{k:Key}{key:au}(h:qq k key=ak):RelV (kV k) key:=by
 rcases bZ h with⟨i,t,e1,e2⟩|⟨i,t,e1,e2⟩
 .subst e1;exact⟨t,e2⟩
 .subst e1;exact⟨t,e2⟩
def θ{a:bw}{od:Obj}(I:Inv X ψ σ H s)(hd:od.data=.dict es ep)(hq:H a=aj (.jJ od (.dK ys))) :
  ∃vs,KV ys vs/\s.heap.DictAt (aF X.prog X.w) a vs ep/\vs.length=es.size/\(a==um)=ao:=by
 let⟨cK,_⟩:=(show s.heap.get? a=aj od/\_ from I.af a _ hq);let⟨_,fq,vs,kv,o1,DJ,DL,g1,g2,g3,g4,g5,g6⟩:=qo I.af (.inr ⟨od,hq⟩);rw[cK]at g1;obtain rfl:=ji.inj g1;rw[hd]at g3;injection g3 with e1 e2;subst e1 e2;exact⟨vs,kv,⟨od,es,cK,g2,hd,g4,g5,g6⟩,by rw[←g5.length];simp,fq⟩
end
def QS{K:Fg}:∀k:Key,RD K H (kD k) (kV k)
 |.inl i=>.int i
 |.inr x=>.str x
def S8{K:Fg}:∀ks:List Key,cW K H (ks.map kD) (ks.map kV)
 |[]=>.nil
 |k::ks=>.cons (QS k) (S8 ks)
def R6{α β:Type}{P:α->β->Prop}{as:List α}{bs:List β}(t:c6 P as bs):∀{i:Nat}{b:β},bs[i]?=aj b->∃a,as[i]?=aj a/\P a b:=by
 induction t with
 |nil=>intro i b e;simp at e
 |@cons a b _ _ h _ ih =>
  intro i c e;cases i with
  |zero=>simp only[Ff,ji.injEq]at e;subst e;exact⟨a,rfl,h⟩
  |succ i=>simpa using ih (by simpa using e)
section
end
abbrev WT(a:bw)(od:Obj):It :=
 ⟨λi H=>∃ys:List (Key×V),H a=aj (.jJ od (.dK ys))/\i<ys.length,
  λi H v H'=>H'=H/\∀ys,H a=aj (.jJ od (.dK ys))->∃k y,ys[i]?=aj (k,y)/\v=kV k,
  λi H=>∃ys:List (Key×V),H a=aj (.jJ od (.dK ys))/\ys.length<=i⟩
abbrev WS(a:bw)(od:Obj):It :=
 ⟨λi H=>∃ys:List (List Key×V),H a=aj (.jJ od (.dT ys))/\i<ys.length,
  λi H v H'=>H'=H/\∀ys,H a=aj (.jJ od (.dT ys))->∃ks y q,ys[i]?=aj (ks,y)/\v=.ref q/\H q=aj (.tup (ks.map kV)),
  λi H=>∃ys:List (List Key×V),H a=aj (.jJ od (.dT ys))/\ys.length<=i⟩
section
variable{ψ:List (bw×Obj)}{s:cg}
variable{od:Obj}
def S7{a:bw}{ys:List (Key×V)}(I:Inv X ψ σ H s)(hd:od.data=.dict es ep)(hq:H a=aj (.jJ od (.dK ys))) :
  j5 s.heap a es ep/\es.size=ys.length/\∀(i:Nat)(k:Key)(y:V),ys[i]?=aj (k,y)->∃e:ip,es[i]?=aj e/\RelV (kV k) e.key:=by
 let⟨vs,kv,hm,hn,_⟩:=θ I hd hq;let⟨Dg,GC,h1,h2,h3,h4,h5,h6⟩:=hm;let⟨cK,_⟩:=(show s.heap.get? a=aj od/\_ from I.af a _ hq);rw[cK]at h1;obtain rfl:=ji.inj h1;rw[hd]at h3;injection h3 with e1 e2;subst e1;refine⟨⟨od,cK,h2,hd⟩,by rw[←hn];exact(Paired.length kv).symm,λi k y e=>?_⟩;let⟨u,hu,_⟩:=aGX kv e;have lt:i<es.size:=by rw[←hn];exact(iz.mp hu).1
 let⟨ba,_⟩:=h5.get? (e:=es[i]) (by simp[lt]) hu;exact⟨es[i],by simp[lt],aA2 ba⟩
def aGY(r:KT H ys xs):∀{i:Nat}{ks:List Key}{y:V},ys[i]?=aj (ks,y)->∃q u,xs[i]?=aj (ks,q,u)/\H q=aj (.tup (ks.map kV)):=by
 induction r with
 |nil=>intro i k y e;simp at e
 |@cons p q _ _ h _ ih =>
  intro i ks y e;cases i with
  |zero =>
   simp only[Ff,ji.injEq]at e;subst e;let⟨q1,q2,q3⟩:=q;let⟨h1,h2,h3⟩:=h;obtain rfl:ks=q1:=h1;exact⟨q2,q3,rfl,h2⟩
  |succ i=>simpa using ih (by simpa using e)
def Uk{a:bw}{ys:List (List Key×V)}(I:Inv X ψ σ H s)(hd:od.data=.dict es ep)(hq:H a=aj (.jJ od (.dT ys))) :
  j5 s.heap a es ep/\es.size=ys.length/\∀(i:Nat)(ks:List Key)(y:V),ys[i]?=aj (ks,y)->∃(e:ip)(q:bw),es[i]?=aj e/\e.key=au.ref q/\H q=aj (.tup (ks.map kV)):=by
 let⟨cK,_⟩:=(show s.heap.get? a=aj od/\_ from I.af a _ hq);let⟨_,fq,xs,kt,o1,DJ,DL,g1,g2,g3,g4,g5⟩:=qk I.af (.inr ⟨od,hq⟩);rw[cK]at g1;obtain rfl:=ji.inj g1;rw[hd]at g3;injection g3 with e1 e2;subst e1;have hl:es.size=xs.length:=by rw[←uo,g4,dw]
 refine⟨⟨od,cK,g2,hd⟩,by rw[hl];exact(Paired.length kt).symm,λi ks y e=>?_⟩;let⟨q,u,hx,hh⟩:=aGY kt e;refine⟨entryOfKey (xf (aF X.prog X.w)) (ks,q,u),q,?_,rfl,hh⟩;rw[←AA,g4,qu,hx];rfl
end
def aqD(M8:cm=ak){w:jr}{K:Fg}{a:bw}{od:Obj}(hd:od.data=.dict en ep) :
  Turn cm tl P w K tg (WT a od) [it] it (λi h=>h.IsKeyIter it a i en.size ep) where
 mem:=by simp
 obj:=λi h st b hb=>by
  have e:b=it:=by simpa using hb
  subst e;let⟨o,e,c,d⟩:=st;exact⟨o,e,λv z=>by rw[d]at z;cases z⟩
 keep:=λi h h' st k=>st.at λo e=>k it (by simp) o e
 item:=by
  intro X hP hw hK gT ht i ψ s σ H E I hf st hg;subst hP hw hK;let⟨ys,hq,hi⟩:=hg;let⟨hm,hn,hk⟩:=S7 I hd hq;have hx:ys[i]?=aj (ys[i].1,ys[i].2):=gk hi;let⟨e,he,rk⟩:=hk i _ _ hx;let⟨f0,f1,f2,f3,f4,f5⟩:=hf it (by simp);refine Ic st hm he λh' ae sb=>?_;have I1:Inv X ψ σ H {s with heap:=h' }:=I.turned (t':=s.toks) (λb o hb e=>(sb.2 b hb).trans e) f0 f1 f3 f4 f5;let⟨o,e,c,d⟩:=id ae;exact⟨_,rfl,El (s:={s with heap:=h' }) e c d (by decide) ⟨kV ys[i].1,H,I1,rk,⟨rfl,λzs z=>by rw[hq]at z;cases z;exact⟨_,_,hx,rfl⟩⟩,ae,λb hb=>(hf b hb).1⟩⟩
 done:=by
  intro X hP hw hK gT ht i ψ s σ H E I hf st hg;subst hP hw hK;let⟨ys,hq,hi⟩:=hg;let⟨hm,hn,hk⟩:=S7 I hd hq;let⟨f0,f1,f2,f3,f4,f5⟩:=hf it (by simp);exact HC (I.ok.hd (gT M8)) st hm ⋯ λh' eb=>⟨rfl,I.turned (t':=s.toks) (λb o hb e=>eb b o hb e) f0 f1 f3 f4 f5⟩
 self:=λ_ _ _ _ _ st h=>wpAny_pyIter_keyiter st h
def al0(M8:cm=ak){w:jr}{K:Fg}{a:bw}{od:Obj}(hd:od.data=.dict en ep) :
  Turn cm tl P w K tg (WS a od) [it] it (λi h=>h.IsKeyIter it a i en.size ep) where
 mem:=by simp
 obj:=λi h st b hb=>by
  have e:b=it:=by simpa using hb
  subst e;let⟨o,e,c,d⟩:=st;exact⟨o,e,λv z=>by rw[d]at z;cases z⟩
 keep:=λi h h' st k=>st.at λo e=>k it (by simp) o e
 item:=by
  intro X hP hw hK gT ht i ψ s σ H E I hf st hg;subst hP hw hK;let⟨ys,hq,hi⟩:=hg;let⟨hm,hn,hk⟩:=Uk I hd hq;have hx:ys[i]?=aj (ys[i].1,ys[i].2):=gk hi;let⟨e,q,he,ek,hh⟩:=hk i _ _ hx;let⟨f0,f1,f2,f3,f4,f5⟩:=hf it (by simp);refine Ic st hm he λh' ae sb=>?_;have I1:Inv X ψ σ H {s with heap:=h' }:=I.turned (t':=s.toks) (λb o hb e=>(sb.2 b hb).trans e) f0 f1 f3 f4 f5;let⟨o,e',c,d⟩:=id ae;exact⟨_,rfl,El (s:={s with heap:=h' }) e' c d (by decide) ⟨.ref q,H,I1,ek,⟨rfl,λzs z=>by rw[hq]at z;cases z;exact⟨_,_,q,hx,rfl,hh⟩⟩,ae,λb hb=>(hf b hb).1⟩⟩
 done:=by
  intro X hP hw hK gT ht i ψ s σ H E I hf st hg;subst hP hw hK;let⟨ys,hq,hi⟩:=hg;let⟨hm,hn,hk⟩:=Uk I hd hq;let⟨f0,f1,f2,f3,f4,f5⟩:=hf it (by simp);exact HC (I.ok.hd (gT M8)) st hm ⋯ λh' eb=>⟨rfl,I.turned (t':=s.toks) (λb o hb e=>eb b o hb e) f0 f1 f3 f4 f5⟩
 self:=λ_ _ _ _ _ st h=>wpAny_pyIter_keyiter st h
abbrev CW(a:bw)(od:Obj):Bool->It
 |false=>WT a od
 |true=>WS a od
def η{K:Fg}{t:Bool}:wo K H1 (.key p od t kvs) (CW p od t):=λH2 G2 t' g ok=>by
 have yo:G2 p=aj (.du od t kvs):=ok;rcases g p _ yo with⟨rfl,ys,e,tw⟩|⟨rfl,ys,e,tw⟩
 .have hl:(Src.key p od ao kvs).items.length=ys.length:=by simp[Src.items,tw.length]
  refine⟨λi hi=>⟨ys,e,by rw[hl]at hi;exact hi⟩,λi v H' hi hy=>?_,⟨ys,e,by rw[hl];exact gw _⟩⟩;let⟨rfl,hy⟩:=hy;let⟨k,y,e1,rfl⟩:=hy ys e;let⟨⟨dk,d⟩,e2,r1,r2⟩:=R6 tw e1;have r1:dk=.inl k:=r1;subst r1;exact⟨.refl _,kD k,by simp[Src.items,e2,kN],QS k⟩
 .have hl:(Src.key p od ak kvs).items.length=ys.length:=by simp[Src.items,tw.length]
  refine⟨λi hi=>⟨ys,e,by rw[hl]at hi;exact hi⟩,λi v H' hi hy=>?_,⟨ys,e,by rw[hl];exact gw _⟩⟩;let⟨rfl,hy⟩:=hy;let⟨ks,y,q,e1,rfl,hh⟩:=hy ys e;let⟨⟨dk,d⟩,e2,r1,r2⟩:=R6 tw e1;have r1:dk=.inr ks:=r1;subst r1;exact⟨.refl _,.tup (ks.map kD),by simp[Src.items,e2,kN],.tup (eD.of hh) (S8 ks) (zv hh)⟩
def ζ{K:Fg}{t:Bool}:BK K (.key p od t kvs) (CW p od t):=λH2 G2 g ok=>η (H1:=H2) H2 G2 (.refl _) g ok
abbrev Ae(al:Bool)(x:D)(G1:Gp)(R:Src->Gp->Prop):Prop:=match x with
 |.ref p=>(match G1 p with
  |some (.aZ t kvs)=>∀od,R (.key p od t kvs) (aC G1 p (.du od t kvs))
  |some (.du od t kvs)=>al=ak/\R (.key p od t kvs) G1
  |_=>False)
 |_=>False
abbrev Ar(al:Bool)(te:bC):fT:=λρ G R=>te ρ G λx G1=>Ae al x G1 R
private theorem ε{x:D}(h:Ae al x G1 R):∃p t kvs,x=.ref p/\((G1 p=aj (.aZ t kvs)/\∀od,R (.key p od t kvs) (aC G1 p (.du od t kvs)))∨∃od,G1 p=aj (.du od t kvs)/\al=ak/\R (.key p od t kvs) G1):=by
 unfold Ae at h;split at h
 .rename_i p;split at h
  .rename_i t kvs e;exact⟨p,t,kvs,rfl,.inl ⟨e,h⟩⟩
  .rename_i od t kvs e;exact⟨p,t,kvs,rfl,.inr ⟨od,e,h⟩⟩
  .exact h.elim
 .exact h.elim
section
variable{X:Cx}{ψ:List (bw×Obj)}{σ:St}{H:Hp}{s:cg}
def Ny{a:bw}(I:Inv X ψ σ H s)(d:qS H a):∃od en ep,s.heap.get? a=aj od/\od.ExactDict/\od.data=.dict en ep/\(a==um)=ao:=by
 rcases d with⟨kvs,e⟩|⟨kvs,e⟩
 .obtain⟨_,hd,vs,_,od,en,ep,h1,h2,h3,_⟩:=qo I.af e;exact⟨od,en,ep,h1,h2,h3,hd⟩
 .obtain⟨_,hd,vs,_,od,en,ep,h1,h2,h3,_⟩:=qk I.af e;exact⟨od,en,ep,h1,h2,h3,hd⟩
def R5{K:Fg}{a:bw}{t:Bool}(g:HR K H G)(e:G a=aj (.aZ t kvs))(od:Obj) :
  ∃u,H a=aj u/\(∀xs,u≠.tup xs)/\(∀ob w,u≠.jJ ob w)/\(∀ps,u≠.i9 ps)/\(∀x,u≠.own x)/\Ts H (upd H a (.jJ od u))/\HR K (upd H a (.jJ od u)) (aC G a (.du od t kvs)):=by
 rcases g a _ e with⟨z,ys,e2,tw⟩|⟨z,ys,e2,tw⟩
 .have tt:Ts H (upd H a (.jJ od (.dK ys))):=Ts.turn e2 (λxs z=>nomatch z) (λob w z=>nomatch z);exact⟨_,e2,(λxs z=>nomatch z),(λob w z=>nomatch z),(λps z=>nomatch z),(λx z=>nomatch z),tt,g.turn tt (.inl ⟨z,ys,aK,tw.imp λ_ _ q=>⟨q.1,q.2.mono tt⟩⟩)⟩
 .have tt:Ts H (upd H a (.jJ od (.dT ys))):=Ts.turn e2 (λxs z=>nomatch z) (λob w z=>nomatch z);exact⟨_,e2,(λxs z=>nomatch z),(λob w z=>nomatch z),(λps z=>nomatch z),(λx z=>nomatch z),tt,g.turn tt (.inr ⟨z,ys,aK,tw.imp λ_ _ q=>⟨q.1,q.2.mono tt⟩⟩)⟩
def S6{K:Fg}{a:bw}{t:Bool}(g:HR K H G)(e:G a=aj (.aZ t kvs)):qS H a:=by
 rcases g a _ e with⟨_,ys,e2,_⟩|⟨_,ys,e2,_⟩
 .exact .inl ⟨ys,.inl e2⟩
 .exact .inr ⟨ys,.inl e2⟩
def aA3{K:Fg}{a:bw}{t:Bool}(g:HR K H G)(e:G a=aj (.du od t kvs)):qS H a:=by
 rcases g a _ e with⟨_,ys,e2,_⟩|⟨_,ys,e2,_⟩
 .exact .inl ⟨ys,.inr ⟨od,e2⟩⟩
 .exact .inr ⟨ys,.inr ⟨od,e2⟩⟩
def QR{w:jr}{K:Fg}{a:bw}{od:Obj}(t:Bool)(hd:od.data=.dict en ep) :
  Turn ak tl P w K tg (CW a od t) [it] it (λi h=>h.IsKeyIter it a i en.size ep):=by
 cases t with
 |false=>exact aqD rfl hd
 |true=>exact al0 rfl hd
def aA4{SJ:Hp->Src->It->Prop}{e tg:ig}{te:bC}(hc:X.calm=ak)(he:bY X e te)(PZ:∀H p od t kvs,(al=ao->Fz X p)->SJ H (.key p od t kvs) (CW p od t)) :
  PI X tg e (λσ H Q=>∃ρ G R,SR X.K H ρ σ/\HR X.K H G/\Ar al te ρ G R/\∀src J H' G',Ts H H'->HR X.K H' G'->SJ H' src J->R src G'->Q J H'):=by
 intro ψ s σ H Q I h;let⟨ρ,G,R,sr,g,q,kk⟩:=h;refine dH (he ψ s σ H (λvx H1=>Ts H H1/\∃x G1,RD X.K H1 x vx/\HR X.K H1 G1/\Ae al x G1 R) I ⟨ρ,G,_,sr,g,q,λv H1 x G1 t1 r1 g1 q1=>⟨t1,x,G1,r1,g1,q1⟩⟩) ?_;rintro v s1 ⟨vx,H1,I1,r1,t1,x1,G1,rx,g1,q1⟩;let⟨a,t,kvs,rfl,q2⟩:=ε q1;cases rx;obtain rfl:v=au.ref a:=r1
 have jn:qS H1 a:=by
  rcases q2 with⟨e1,_⟩|⟨od,e1,_⟩
  .exact S6 g1 e1
  .exact aA3 g1 e1
 let⟨od,en,ep,o1,o2,o3,fq⟩:=Ny I1 jn;refine Mq fq ⟨od,o1,o2,o3⟩ ?_;have I3:Inv X ψ σ H1 {s1 with heap:=s1.heap.push {cls:=.type "dict_keyiterator",data:=.fields #[.ref a,.int 0 0,.int en.size 0,.int ep 0]},toks:=s1.toks}:=I1.kept λb o e=>cu _ e;have JU:(s1.heap.push {cls:=.type "dict_keyiterator",data:=.fields #[.ref a,.int 0 0,.int en.size 0,.int ep 0]}).get? a=aj od:=cu _ o1;have hit:(s1.heap.push {cls:=.type "dict_keyiterator",data:=.fields #[.ref a,.int 0 0,.int en.size 0,.int ep 0]}).IsKeyIter s1.heap.objs.size a 0 en.size ep:=⟨_,jd _ rfl,rfl,rfl⟩;have GA:H1 s1.heap.objs.size=bh:=I1.af.fresh (gw _);rcases q2 with⟨e1,q3⟩|⟨Dg,e1,ha,q3⟩
 .obtain⟨u,hu,u1,u2,u3,u4,tt,g4⟩:=R5 g1 e1 od;have I4:=I3.freeze hu u1 u2 u3 u4 JU;have na:s1.heap.objs.size≠a:=xu (fj o1);refine⟨s1.heap.objs.size,[s1.heap.objs.size],_,CW a od t,_,rfl,I4,(show Turn X.calm X.tp X.prog X.w X.K tg _ _ _ _ from hc ▸ QR t o3),hit,λb hb=>?_,kk _ _ _ _ (t1.trans tt) g4 (PZ _ a od t kvs λ_=>Fz.of I1 hu u1 u2 u3) (q3 od)⟩;have e:b=s1.heap.objs.size:=by simpa using hb
  subst e;exact I1.DZ (gw _) (by rw[aP na];exact GA)
 .have O8:s1.heap.get? a=aj Dg:=by
   rcases g1 a _ e1 with⟨_,zs,e2,_⟩|⟨_,zs,e2,_⟩
   .exact(show s1.heap.get? a=aj Dg/\_ from I1.af a _ e2).1
   .exact(show s1.heap.get? a=aj Dg/\_ from I1.af a _ e2).1
  rw[o1]at O8;obtain rfl:=ji.inj O8;refine⟨s1.heap.objs.size,[s1.heap.objs.size],_,CW a od t,_,rfl,I3,(show Turn X.calm X.tp X.prog X.w X.K tg _ _ _ _ from hc ▸ QR t o3),hit,λb hb=>?_,kk _ _ _ _ t1 g1 (PZ _ a od t kvs λz=>by rw[ha]at z;cases z) q3⟩;have e:b=s1.heap.objs.size:=by simpa using hb
  subst e;exact I1.DZ (gw _) GA
def R4(hc:X.calm=ak)(he:bY X e te):AE X tg e (Ar ak te):=aA4 (SJ:=λ_=>BK X.K) hc he λ_ _ _ _ _ _=>ζ
def aH0(hc:X.calm=ak)(he:bY X e te):x4 X tg e (Ar ak te):=GN (R4 hc he)
end
end
section
open PySem.W
structure Tt(H H':Hp):Prop where
 az:∀a xs,H a=aj (.tup xs)->H' a=aj (.tup xs)
 aRN:∀a o xs,H a=aj (.jJ o (.tup xs))->H' a=aj (.jJ o (.tup xs))
def Tt.C5{K:Fg}(t:Tt H H'){a:bw}(h:eD K H a xs):eD K H' a xs:=by
 rcases h with(h|⟨o,h⟩)|h
 .exact .inl (.inl (t.az _ _ h))
 .exact .inl (.inr ⟨o,t.aRN _ _ _ h⟩)
 .exact .inr h
def sC.jV(t:Tt H H'){a:bw}(h:sC H a xs):sC H' a xs:=t.az _ _ h
mutual
theorem RD.jV{K:Fg}{H H':Hp}(t:Tt H H'):∀{d:D}{v:V},RD K H d v->RD K H' d v
 |_,_,.ag=>.ag
 |_,_,.bl b=>.bl b
 |_,_,.int i=>.int i
 |_,_,.str x=>.str x
 |_,_,.ty n=>.ty n
 |_,_,.ref a=>.ref a
 |_,_,.tup h r e=>.tup (t.C5 h) (cW.jV t r) (e.jV t)
theorem cW.jV{K:Fg}{H H':Hp}(t:Tt H H'):∀{ds:List D}{vs:List V},cW K H ds vs->cW K H' ds vs
 |_,_,.nil=>.nil
 |_,_,.cons h r=>.cons (RD.jV t h) (cW.jV t r)
end
def OR.VG{K:Fg}{a:bw}{o:GO}(t:Tt H H')(h:OR K H a o)(k:∀u,H a=aj u->H' a=aj u):OR K H' a o:=by
 cases o with
 |lst ds=>let⟨xs,e,r⟩:=h;exact⟨xs,k _ e,r.jV t⟩
 |gL ds =>
  let⟨xs,e,r⟩:=h;refine⟨xs,?_,r.jV t⟩;rcases e with(e|⟨o,e⟩)|e
  .exact .inl (.inl (k _ e))
  .exact .inl (.inr ⟨o,k _ e⟩)
  .exact .inr e
 |aZ b kvs =>
  rcases h with⟨z,xs,e,r⟩|⟨z,xs,e,r⟩
  .exact .inl ⟨z,xs,k _ e,r.imp λ_ _ q=>⟨q.1,q.2.jV t⟩⟩
  .exact .inr ⟨z,xs,k _ e,r.imp λ_ _ q=>⟨q.1,q.2.jV t⟩⟩
 |ins C fs=>let⟨dx,vs,e,r⟩:=h;exact⟨dx,vs,k _ e,r.imp λ_ _ q=>⟨q.1,q.2.jV t⟩⟩
 |du ob b kvs =>
  rcases h with⟨z,xs,e,r⟩|⟨z,xs,e,r⟩
  .exact .inl ⟨z,xs,k _ e,r.imp λ_ _ q=>⟨q.1,q.2.jV t⟩⟩
  .exact .inr ⟨z,xs,k _ e,r.imp λ_ _ q=>⟨q.1,q.2.jV t⟩⟩
 |fe C=>let⟨o,vs,e,r⟩:=h;exact⟨o,vs,k _ e,r⟩
 |ot ds=>let⟨xs,e,r⟩:=h;exact⟨xs,t.C5 e,r.jV t⟩
 |uR kvs=>let⟨o,e,r⟩:=h;exact⟨o,k _ e,r.imp λ_ _ z=>z.jV t⟩
 |ej ob kvs=>let⟨o,e,r⟩:=h;exact⟨o,k _ e,r.imp λ_ _ z=>z.jV t⟩
def δ{K:Fg}{t:Bool}(g:HR K H G)(e:G p=aj (.du od t kvs)) :
  ∃u,H p=aj (.jJ od u)/\(∀xs,u≠.tup xs)/\(∀ob w,u≠.jJ ob w)/\qS H p/\Tt H (upd H p u)/\HR K (upd H p u) (aC G p (.aZ t kvs)):=by
 have key:∀u,H p=aj (.jJ od u)->(∀xs,u≠.tup xs)->Tt H (upd H p u):=λu hu h1=>by
  refine⟨λa xs q=>?_,λa o xs q=>?_⟩
  .rw[aP];exact q;intro z;subst z;rw[hu]at q;cases q
  .rw[aP];exact q;intro z;subst z;rw[hu]at q;cases q;exact h1 xs rfl
 have rest:∀u,Tt H (upd H p u)->OR K (upd H p u) p (.aZ t kvs)->HR K (upd H p u) (aC G p (.aZ t kvs)):=λu tt new a v q=>by
  by_cases z:a=p
  .subst z;rw[aB]at q;obtain rfl:=ji.inj q;exact new
  .rw[aH z]at q;exact(g a v q).VG tt λw y=>by rw[aP z];exact y
 rcases g p _ e with⟨z,xs,e2,tw⟩|⟨z,xs,e2,tw⟩
 .have tt:=key _ e2 (λxs z=>nomatch z);exact⟨_,e2,(λxs z=>nomatch z),(λob w z=>nomatch z),.inl ⟨xs,.inr ⟨od,e2⟩⟩,tt,rest _ tt (.inl ⟨z,xs,aK,tw.imp λ_ _ q=>⟨q.1,q.2.jV tt⟩⟩)⟩
 .have tt:=key _ e2 (λxs z=>nomatch z);exact⟨_,e2,(λxs z=>nomatch z),(λob w z=>nomatch z),.inr ⟨xs,.inr ⟨od,e2⟩⟩,tt,rest _ tt (.inr ⟨z,xs,aK,tw.imp λ_ _ q=>⟨q.1,q.2.jV tt⟩⟩)⟩
variable{od:Obj}
section
variable{ψ:List (bw×Obj)}{s:cg}
def aH1(I:Inv X ψ σ H s)(jn:qS H p)(hu:H p=aj (.jJ od u)):∃en ep,od.data=.dict en ep:=by
 let⟨Dg,en,ep,o1,_,o3,_⟩:=Ny I jn;have e:=(show s.heap.get? p=aj od/\_ from I.af p _ hu).1;rw[e]at o1;cases o1;exact⟨en,ep,o3⟩
def Inv.U2(I:Inv X ψ σ H s)(fz:Fz X p)(hu:H p=aj (.jJ od u))(h1:∀xs,u≠.tup xs)(jn:∃en ep,od.data=.dict en ep):Inv X ψ σ (upd H p u) s:=by
 have ne:∀{b:bw}{v:HO},H b=aj v->v≠.jJ od u->b≠p:=λe n z=>by subst z;rw[hu]at e;exact n (ji.inj e).symm
 have no:∀{b:bw},H b=bh->upd H p u b=bh:=λ{b} e=>by
  rw[aP];exact e;intro z;subst z;rw[hu]at e;cases e
 have kt:∀b xs,H b=aj (.tup xs)->upd H p u b=aj (.tup xs):=λb xs q=>by rw[aP (ne q λz=>nomatch z)];exact q
 have ko:∀b x,H b=aj (.own x)->upd H p u b=aj (.own x):=λb x q=>by rw[aP (ne q λz=>nomatch z)];exact q
 let⟨ho,af⟩:=(show s.heap.get? p=aj od/\iT X.prog X.w H s.heap p u from I.af p _ hu);refine⟨I.ok,I.os,I.bare,⟨I.base.keep,I.base.slot,λb ob q n hx=>?_,I.base.there,λb xs q=>kt b xs (I.base.az b xs q),λb ob w q=>?_,λb ps q=>?_⟩,I.loc,I.cell,no I.free,λx c e=>no (I.oN x c e),λq hq=>?_,λb v e=>?_,I.len,?_,λq hq=>kt _ _ (I.tup q hq)⟩
 .exact no (I.base.free b ob q n hx)
 .have:=I.base.m7 b ob w q;rw[aP];exact this;intro z;subst z;exact fz.jJ ob w q
 .obtain⟨more,e⟩:=I.base.xV b ps q;exact⟨more,by rw[aP (ne e λz=>nomatch z)];exact e⟩
 .obtain⟨z1,z2,z3⟩:=I.pin q hq;exact⟨z1,no z2,z3⟩
 .by_cases hb:b=p
  .subst hb;rw[aK]at e;obtain rfl:=ji.inj e;exact af.cf (λ_ _ _ q=>q) (λc q=>ko c _ q) λc xs q=>kt c xs q
  .rw[aP hb]at e;exact(I.af b v e).cf (λ_ _ _ q=>q) (λc q=>ko c _ q) λc xs q=>kt c xs q
 .rcases I.dS with z|⟨x,o,w,vs,a,b,c,d⟩
  .exact .inl z
  .refine .inr ⟨x,o,w,vs,a,?_,c,d⟩;rw[aP];exact b;intro z;subst z;rw[hu]at b;cases b;let⟨en,ep,o3⟩:=jn;rw[o3]at c;cases c
end
section
end
section
end
end
section
open PySem.W
section
end
end
section
section
open AutoSeq1 (wpAny_loadPart')
end
section
end
section
end
section
open PySem.SeqAt
open PySem.AutoSeq1 (wpAny_loadPart')
open PySem.MeetsSeq PySem.MeetsSeq2 PySem.MeetsSeq3
end
end
section
section
def NQ{K:Fg}:∀{ns:List Int}{vs:List V},cW K H (ns.map D.int) vs->vs=ns.map V.int
 |[],_,.nil=>rfl
 |n::ns,_,.cons r rr=>by cases r;rw[NQ rr];rfl
def Uj:∀(ns ms:List Int),pS (ns.map D.int) (ms.map D.int)=decide (ns=ms)
 |[],[]=>rfl
 |[],_::_=>rfl
 |_::_,[]=>rfl
 |n::ns,m::ms=>by
  show(aT (.int n) (.int m)&&pS (ns.map D.int) (ms.map D.int))=_;rw[Uj ns ms];have:aT (.int n) (.int m)=decide (n=m):=by rw[aT];exact Bool.eq_iff_iff.mpr (by simp)
  rw[this];simp[Bool.decide_and]
def Ui(n:Nat)(ns:List Int):cI (n+1) (.tup (ns.map D.int))=ak:=by
 simp only[cI,qx,dh];rintro x ⟨i,_,rfl⟩;cases n<;>rfl
end
end
section
section
open Classical in
end
end
section
open PySem.W
section
end
section
end
end
section
open PySem.W
abbrev putN(kvs:List (NK×Int))(k:NK)(n:Int):List (NK×Int):=if(kvs.lookup k).isSome then kvs.map (λp=>if p.1=k then(p.1,n)else p)else kvs++[(k,n)]
section
variable{K:Fg}{k:NK}{kvs:List (NK×Int)}
def Lb(r:Paired (wt K H) kvs xs):(kvs.lookup k=bh/\atKey xs k=bh)∨∃n p,kvs.lookup k=aj n/\atKey xs k=aj p/\∃t,p.2=au.int n t:=by
 induction r with
 |nil=>exact .inl ⟨rfl,rfl⟩
 |@cons p x kvs xs h r ih =>
  let⟨m,d⟩:=p;let⟨h1,h2,h3⟩:=h;unfold atKey at ih ⊢;by_cases c:k=m
  .subst c;refine .inr ⟨d,x.2,by rw[vq,beq_self_eq_true],?_,h3⟩;rw[List.find?_cons_of_pos (by rw[h1];exact decide_eq_true rfl)];rfl
  .have c2:¬ x.1=k:=λe=>c (e.symm.trans h1);rw[List.find?_cons_of_neg (by simpa using c2),vq,show(k==m)=ao from beq_eq_false_iff_ne.mpr c];exact ih
def aH2(r:Paired (wt K H) kvs xs):∀x∈xs,RD K H (dy x.1) (.ref x.2.1):=by
 induction r with
 |nil=>exact λx hx=>nomatch hx
 |cons h r ih =>
  intro x hx;rcases ju.mp hx with rfl|hx
  .rw[h.1];exact h.2.1
  .exact ih x hx
def aH3{b:bw}{n:Int}{t:Tok}(r:Paired (wt K H) kvs xs)(sq:RD K H (dy k) (.ref b)):Paired (wt K H) (putN kvs k n) (storedH xs k b (.int n t)):=by
 unfold putN;rcases Lb (k:=k) r with⟨z1,z2⟩|⟨d',p,z1,z2,_⟩
 .rw[z1,storedH_new z2];exact Paired.snoc r ⟨rfl,sq,t,rfl⟩
 .rw[z1,storedH_old z2];clear z1 z2;show Paired (wt K H) (kvs.map λp=>if p.1=k then(p.1,n)else p) _
  induction r with
  |nil=>exact .nil
  |@cons p x kvs xs h r ih =>
   rw[jc,jc];refine .cons ?_ ih;let⟨h1,h2,h3⟩:=h;by_cases c:p.1=k
   .rw[if_pos c];unfold putAt;rw[if_pos (by rw[h1];exact c)];exact⟨h1,h2,t,rfl⟩
   .rw[if_neg c];unfold putAt;rw[if_neg (by rw[h1];exact c)];exact⟨h1,h2,h3⟩
end
section
variable{X:Cx}{ψ:List (bw×Obj)}{s:cg}
def Hd{k:NK}{a:bw}(I:Inv X ψ σ H s)(r:RD X.K H (dy k) (.ref a)):nh s.heap k a:=by
 unfold dy at r;cases r with
 |@tup _ zs _ hq rz _ =>
  cases rz with
  |cons ra rb =>
  cases rb with
  |cons rb rn =>
  cases rn;cases rb;cases ra with
  |@tup b ys _ hb A2 _ =>
  have e:ys=k.1.map V.int:=NQ A2;subst e;let⟨its,r,⟨o,h1,h2,n,h3⟩,_⟩:=I.tuple hq;let⟨iF,r2,⟨o2,g1,g2,n2,g3⟩,_⟩:=I.tuple hb;cases r with
  |cons ra r =>
  cases r with
  |cons rb r =>
  cases r;cases ra;let⟨t,rfl⟩:=rb;refine⟨o,b,t,n,h1,h2,h3,λP w=>⟨o2,iF.toArray,n2,g1,g2,g3,?_⟩⟩;have e:k.1.map V.int=(k.1.map (Sum.inl:Int->Key)).map kV:=by rw[jt];rfl
  rw[e]at r2;simpa using NT r2
def aH4{w:jr}{x:NK×bw×au}:entryOfKey (w5 P w) x=entryOfKey (w5 P' w') x:=by
 have e:(x.1.1.map (Sum.inl:Int->Key)).map (aF P w).hash=(x.1.1.map (Sum.inl:Int->Key)).map (aF P' w').hash:=by
  rw[jt,jt];rfl
 show(⟨reduceHash (Builtin.Tuple.tupleHashOf [reduceHash (Builtin.Tuple.tupleHashOf ((x.1.1.map (Sum.inl:Int->Key)).map (aF P w).hash)),(aF P w).hash (.inl x.1.2)]),_,_⟩:ip)=⟨reduceHash (Builtin.Tuple.tupleHashOf [reduceHash (Builtin.Tuple.tupleHashOf ((x.1.1.map (Sum.inl:Int->Key)).map (aF P' w').hash)),(aF P' w').hash (.inl x.1.2)]),_,_⟩;rw[e];rfl
def BW{a:bw}{o:HO}(I:Inv X ψ σ H s)(hr:Rd H a o)(r:tI X.K H a kvs o):∃xs,Paired (wt X.K H) kvs xs/\(a==um)=ao/\s.heap.DictOfH (w5 X.prog X.w) a xs:=by
 rcases r with⟨rfl,rfl⟩|⟨P,w,xs,rfl,r⟩
 .obtain⟨_,hd,ws,rel,o,es,ep,h1,h2,h3,h4,_⟩:=qk I.af hr;cases rel;exact⟨[],.nil,hd,⟨o,es,ep,h1,h2,h3,h4,(λx hx=>nomatch hx),tj⟩⟩
 .have z:iT X.prog X.w H s.heap a (.ext (GS P w a xs)):=by
   rcases hr with e|⟨o,e⟩
   .exact I.af a _ e
   .exact(show s.heap.get? a=aj o/\_ from I.af a _ e).2
  let⟨⟨hd,o,es,ep,h1,h2,h3,h4,h5⟩,_⟩:=z;have al:=aH2 r;exact⟨xs,r,hd,⟨o,es,ep,h1,h2,h3,by rw[h4];exact yp λx hx=>aH4,λx hx=>Hd I (al x hx),h5⟩⟩
abbrev oy(G:Gp)(a:bw)(kvs:List (NK×Int)):Prop:=G a=aj (.uR kvs)∨∃od,G a=aj (.ej od kvs)
def LM{a:bw}(I:Inv X ψ σ H s)(g:HR X.K H G)(h:oy G a kvs):∃xs,Paired (wt X.K H) kvs xs/\(a==um)=ao/\s.heap.DictOfH (w5 X.prog X.w) a xs:=by
 rcases h with e|⟨od,e⟩
 .obtain⟨o,e2,r⟩:=g a _ e;exact BW I (.inl e2) r
 .obtain⟨o,e2,r⟩:=g a _ e;exact BW I (.inr ⟨od,e2⟩) r
def LL{k:NK}{v:V}(r:RD X.K H (dy k) v):∃a,v=.ref a:=by
 unfold dy at r;cases r;exact⟨_,rfl⟩
end
section
variable{X:Cx}{o:ig}{to ti tv te tf:bC}{pos:Pos}
abbrev HY:bC:=λ_ G R=>∀p,G p=bh->R (.ref p) (aC G p (.uR []))
def aA5:bY X (.Dict [] [] pos) HY:=PE.imp (PE.kf TN) λσ H Q h=>by
 let⟨ρ,G,R,sr,g,q,k⟩:=h;intro p hp kf;exact k _ _ (.ref p) _ (.same (cA hp)) (.ref p) (g.put (u:=.uR []) hp ⟨_,aK,.inl ⟨rfl,rfl⟩⟩) (q p (m8 g hp kf))
abbrev sN:R3:=λx y G R=>match x with
 |.ref a=>∃k kvs n,y=dy k/\oy G a kvs/\kvs.lookup k=aj n/\R (.int n) G
 |_=>False
def aN2(hu:X.A.units+64<qg)(ho:bY X o to)(hi:bY X i ti)(hs:GU i):bY X (.Subscript o i pos) (aG sN to ti):=by
 intro ψ s σ H Q I h;let⟨ρ,G,R,sr,g,t,k⟩:=h
 refine SA PySem.F.slot_dict_getitem.lookup hs (dH (ho ψ s σ H (λv H1=>Ts H H1/\∃x G1,RD X.K H1 x v/\HR X.K H1 G1/\ti ρ G1 λy G2=>sN x y G2 R) I ⟨ρ,G,_,sr,g,t,λv H1 d G1 t1 r1 g1 q1=>⟨t1,d,G1,r1,g1,q1⟩⟩) λu s1 ⟨vx,H1,I1,rx,t1,x,G1,C8,g1,q1⟩ =>
  dH (hi ψ s1 σ H1 (λv H2=>Ts H1 H2/\∃y G2,RD X.K H2 y v/\HR X.K H2 G2/\sN x y G2 R) I1 ⟨ρ,G1,_,sr.mono t1,g1,q1,λv H2 d G2 t2 r2 g2 q2=>⟨t2,d,G2,r2,g2,q2⟩⟩) λiv s2 ⟨vy,H2,I2,ry,t2,y,G2,ue,g2,q2⟩=>?_)
 cases x with
 |ref ad =>
  let⟨kk,kvs,n,rfl,e1,e2,q2⟩:=q2;cases C8;obtain rfl:u=au.ref ad:=rx;let⟨b,rfl⟩:=LL ue;obtain rfl:iv=au.ref b:=ry;let⟨xs,r,hd,dd⟩:=LM I2 g2 e1;rcases Lb (k:=kk) r with⟨z,_⟩|⟨n',p,z1,z2,t',z3⟩
  .rw[z]at e2;cases e2
  .rw[z1]at e2;cases e2;exact⟨dd.typeIs,wpAny_getItem_heap (knd:=w5 X.prog X.w) (by show X.A.units+1+8<qg;omega) (Hd I2 ue) dd z2 ⟨.int n,H2,I2.tok _,⟨t',z3⟩,k (.int n) H2 (.int n) G2 (t1.trans t2) (.int _) g2 q2⟩⟩
 |_=>exact q2.elim
abbrev BE(x y z:D)(G:Gp)(R:iW):Prop:=match x with
 |.ref a=>∃k kvs m,y=dy k/\z=.int m/\G a=aj (.uR kvs)/\R (.int ((kvs.lookup k).getD m)) G
 |_=>False
abbrev isNm(x:D)(G:Gp):Prop:=match x with
 |.ref a=>∃kvs,G a=aj (.uR kvs)
 |_=>False
abbrev Et(to te tf:bC):bC:=λρ G R=>to ρ G λx G1=>isNm x G1/\te ρ G1 λy G2=>tf ρ G2 λz G3=>BE x y z G3 R
def aH5(hu:X.A.units+64<qg)(ho:bY X o to)(he:bY X e te)(hf:bY X f tf)(m:M2 X o "get" apos e f ah):bY X (.Call (.Attribute o "get" apos) [e,f] [] ah) (Et to te tf):=by
 intro ψ s σ H Q I h;let⟨ρ,G,R,sr,g,t,k⟩:=h;refine wpAny_Call_method m.base m.KC m.line PySem.F.plainAttrs_dict PySem.F.slot_dict_get PySem.F.type_dict_get (dH (ho ψ s σ H (λv H1=>Ts H H1/\∃x G1,RD X.K H1 x v/\HR X.K H1 G1/\isNm x G1/\te ρ G1 λy G2=>tf ρ G2 λz G3=>BE x y z G3 R) I ⟨ρ,G,_,sr,g,t,λv H1 d G1 t1 r1 g1 q1=>⟨t1,d,G1,r1,g1,q1⟩⟩) ?_);rintro u s1 ⟨vx,H1,I1,rx,t1,x,G1,C8,g1,Pp,q1⟩;cases x with
 |ref a =>
  let⟨kv1,e1⟩:=Pp;cases C8;obtain rfl:u=au.ref a:=rx;let⟨Jx,r1,hd,Qi⟩:=LM I1 g1 (.inl e1);have ty:=Qi.typeIs;refine⟨ty,?_,?_⟩
  .intro a1 ea;cases ea;let⟨o1,es,ep,h1,h2,_⟩:=Qi;exact⟨o1,h1,h2.2.1⟩
  rw[m.trees]
  refine Calls.callWith_builtin rfl (Calls.evalArgs_plain (Calls.spliced_cons (dH (he ψ s1 σ H1 (λv H2=>Ts H1 H2/\∃y G2,RD X.K H2 y v/\HR X.K H2 G2/\tf ρ G2 λz G3=>BE (.ref a) y z G3 R) I1 ⟨ρ,G1,_,sr.mono t1,g1,q1,λv H2 d G2 t2 r2 g2 q2=>⟨t2,d,G2,r2,g2,q2⟩⟩) λiv s2 ⟨vy,H2,I2,ry,t2,y,G2,ue,g2,q2⟩ =>
   Calls.spliced_cons (dH (hf ψ s2 σ H2 (λv H3=>Ts H2 H3/\∃z G3,RD X.K H3 z v/\HR X.K H3 G3/\BE (.ref a) y z G3 R) I2 ⟨ρ,G2,_,sr.mono (t1.trans t2),g2,q2,λv H3 d G3 t3 r3 g3 q3=>⟨t3,d,G3,r3,g3,q3⟩⟩) λfv s3 ⟨vz,H3,I3,rz,t3,z,G3,Xs,g3,q3⟩=>Calls.spliced_nil ?_))))
  let⟨kk,kvs,mm,rfl,rfl,e3,q3⟩:=q3;have rk:=ue.mono t3;let⟨b,rfl⟩:=LL rk;obtain rfl:iv=au.ref b:=ry;cases Xs;let⟨tz,rfl⟩:=rz;let⟨xs,r,DC,dd⟩:=LM I3 g3 (.inl e3);refine call_meetsIn PySem.F.slot_dict_get dd.typeIs PySem.F.entry_dict_get (PySem.F.args_dict_get_3 _ _ _) (meetsH_dict_get_default (w5 X.prog X.w) a b DC _) ⟨by show X.A.units+1+8<qg;omega,kk,xs,Hd I3 rk,dd,?_⟩;rcases Lb (k:=kk) r with⟨z1,z2⟩|⟨n',p,z1,z2,t',z3⟩
  .rw[z2];rw[z1]at q3;exact⟨.int mm,H3,I3.tok _,⟨tz,rfl⟩,k (.int mm) H3 (.int mm) G3 ((t1.trans t2).trans t3) (.int _) g3 q3⟩
  .rw[z2];rw[z1]at q3;exact⟨.int n',H3,I3.tok _,⟨t',z3⟩,k (.int n') H3 (.int n') G3 ((t1.trans t2).trans t3) (.int _) g3 q3⟩
 |_=>exact Pp.elim
abbrev BD(x y d:D)(F:eU)(ρ:bL)(G:Gp):Prop:=match x with
 |.ref a=>∃k kvs n,y=dy k/\d=.int n/\G a=aj (.uR kvs)/\kvs.length<1000000/\F.nx ρ (aC G a (.uR (putN kvs k n)))
 |_=>False
abbrev Es(to ti tv:bC):pI:=λF ρ G=>tv ρ G λv G1=>to ρ G1 λx G2=>ti ρ G2 λy G3=>BD x y v F ρ G3
def aH6(hu:X.A.units+64<qg)(ho:bY X o to)(hi:bY X i ti)(hv:bY X value tv)(hs:md value (aj (.Subscript o i pos')) pos.line X.env=pure ao):gf X (.Assign [.Subscript o i pos'] value pos) (Es to ti tv):=by
 intro ψ s σ H D I h;let⟨ρ,G,F,sr,g,t,up⟩:=h;have big:1000000<dg:=by decide
 refine wpAny_Assign_Subscript (dH (hv ψ s σ H (λv H1=>Ts H H1/\∃d G1,RD X.K H1 d v/\HR X.K H1 G1/\to ρ G1 λx G2=>ti ρ G2 λy G3=>BD x y d F ρ G3) I ⟨ρ,G,_,sr,g,t,λv H1 d G1 t1 r1 g1 q1=>⟨t1,d,G1,r1,g1,q1⟩⟩) λr s1 ⟨v,H1,I1,rv,t1,d,G1,rd,g1,q1⟩ =>
  dH (ho ψ s1 σ H1 (λv H2=>Ts H1 H2/\∃x G2,RD X.K H2 x v/\HR X.K H2 G2/\ti ρ G2 λy G3=>BD x y d F ρ G3) I1 ⟨ρ,G1,_,sr.mono t1,g1,q1,λv H2 d G2 t2 r2 g2 q2=>⟨t2,d,G2,r2,g2,q2⟩⟩) λu s2 ⟨vx,H2,I2,rx,t2,x,G2,C8,g2,q2⟩ =>
  dH (hi ψ s2 σ H2 (λv H3=>Ts H2 H3/\∃y G3,RD X.K H3 y v/\HR X.K H3 G3/\BD x y d F ρ G3) I2 ⟨ρ,G2,_,sr.mono (t1.trans t2),g2,q2,λv H3 d G3 t3 r3 g3 q3=>⟨t3,d,G3,r3,g3,q3⟩⟩) λiv s3 ⟨vy,H3,I3,ry,t3,y,G3,ue,g3,q3⟩=>?_) hs
 cases x with
 |ref a =>
  let⟨kk,kvs,n,rfl,rfl,e1,lk,q3⟩:=q3;cases C8;cases rd;obtain rfl:u=au.ref a:=rx;let⟨OT,rfl⟩:=rv;let⟨b,rfl⟩:=LL ue;obtain rfl:iv=au.ref b:=ry;let⟨o3,eo,ok⟩:=g3 a _ e1;let⟨xs,r0,hd,dd⟩:=BW I3 (.inl eo) ok;have no:=ok.no;have mu:CQ (aj o3):=by rcases ok with⟨_,rfl⟩|⟨_,_,_,rfl,_⟩<;>exact True.intro
  have lx:xs.length=kvs.length:=(Paired.length r0).symm;refine wpAny_setItem_heap (knd:=w5 X.prog X.w) (by show X.A.units+1+8<qg;omega) (Hd I3 ue) dd (λh' iL kK=>?_) ⋯;have rp:=aH3 (n:=n) (t:=OT) r0 ue;generalize storedH xs kk b (au.int n OT)=ys at iL rp;let⟨q0,es,ep,z1,z2,z3,z4,_,z5⟩:=iL;have tt:Ts H3 (upd H3 a (.ext (GS X.prog X.w a ys))):=.turn eo no.1 no.2.1;refine⟨σ,_,vZ (t':=_) (ob:=.ext (GS X.prog X.w a ys)) I3 (by rw[eo];exact mu) kK ⟨q0,z1⟩ ⟨⟨hd,q0,es,ep,z1,z2,z3,z4,z5⟩,⟨q0,z1⟩,λh1 h2 z kp=>?_⟩,up.nx ρ _ σ _ (sr.mono (((t1.trans t2).trans t3).trans tt)) (g3.turn (u:=.uR (putN kvs kk n)) tt ⟨_,aK,.inr ⟨X.prog,X.w,ys,rfl,Paired.nv rp λ_ _ z=>⟨z.1,z.2.1.mono tt,z.2.2⟩⟩⟩) q3⟩;let⟨y0,o1,DJ,DL,y1,y2⟩:=z;exact⟨y0,o1,DJ,DL,kp _ y1,y2⟩
 |_=>exact q3.elim
end
end
section
open PySem.W
@[simp]def Jq(K:Fg)(H:Hp)(a:bw)(od:Obj)(kvs:List (NK×Int)):Prop:=∃o,H a=aj (.jJ od o)/\tI K H a kvs o
abbrev Jr(K:Fg)(a:bw)(od:Obj)(kvs:List (NK×Int)):It :=
 ⟨λi H=>Jq K H a od kvs/\i<kvs.length,λi H v H'=>H'=H/\∃k n,kvs[i]?=aj (k,n)/\RD K H (dy k) v,λi H=>Jq K H a od kvs/\kvs.length<=i⟩
def al3{α β:Type}{P:α->β->Prop}{as:List α}{bs:List β}(r:Paired P as bs):∀{i:Nat}{a:α},as[i]?=aj a->∃b,bs[i]?=aj b/\P a b:=by
 induction r with
 |nil=>intro i a e;simp at e
 |@cons a b _ _ h _ ih =>
  intro i c e;cases i with
  |zero=>simp only[Ff,ji.injEq]at e;subst e;exact⟨b,rfl,h⟩
  |succ i=>simpa using ih (by simpa using e)
section
variable{X:Cx}{ψ:List (bw×Obj)}{s:cg}
def R1{a:bw}{od:Obj}{kvs:List (NK×Int)}(I:Inv X ψ σ H s)(hd:od.data=.dict en ep)(h:Jq X.K H a od kvs) :
  j5 s.heap a en ep/\en.size=kvs.length/\∀(i:Nat)(k:NK)(n:Int),kvs[i]?=aj (k,n)->∃(e:ip)(q:bw),en[i]?=aj e/\e.key=au.ref q/\RD X.K H (dy k) (.ref q):=by
 let⟨o,hq,ok⟩:=h;have cK:=(show s.heap.get? a=aj od/\_ from I.af a _ hq).1;let⟨xs,r,_,o1,DJ,DL,g1,g2,g3,g4,_⟩:=BW I (.inr ⟨od,hq⟩) ok;rw[cK]at g1;obtain rfl:=ji.inj g1;rw[hd]at g3;injection g3 with e1 e2;subst e1;have hl:en.size=xs.length:=by rw[←uo,g4,dw]
 refine⟨⟨od,cK,g2,hd⟩,by rw[hl];exact(Paired.length r).symm,λi k n e=>?_⟩;let⟨⟨k',q,u⟩,hx,h1,h2,_⟩:=al3 r e;refine⟨entryOfKey (w5 X.prog X.w) (k',q,u),q,?_,rfl,h2⟩;rw[←AA,g4,qu,hx];rfl
end
def ω{w:jr}{K:Fg}{a:bw}{od:Obj}(hd:od.data=.dict en ep) :
  Turn ak tl P w K tg (Jr K a od kvs) [it] it (λi h=>h.IsKeyIter it a i en.size ep) where
 mem:=by simp
 obj:=λi h st b hb=>by
  have e:b=it:=by simpa using hb
  subst e;let⟨o,e,c,d⟩:=st;exact⟨o,e,λv z=>by rw[d]at z;cases z⟩
 keep:=λi h h' st k=>st.at λo e=>k it (by simp) o e
 item:=by
  intro X hP hw hK gT ht i ψ s σ H E I hf st hg;subst hP hw hK;let⟨nf,hi⟩:=hg;let⟨hm,hn,hk⟩:=R1 I hd nf;have hx:kvs[i]?=aj (kvs[i].1,kvs[i].2):=gk hi;let⟨e,q,he,ek,hh⟩:=hk i _ _ hx;let⟨f0,f1,f2,f3,f4,f5⟩:=hf it (by simp);refine Ic st hm he λh' ae sb=>?_;have I1:Inv X ψ σ H {s with heap:=h' }:=I.turned (t':=s.toks) (λb o hb e=>(sb.2 b hb).trans e) f0 f1 f3 f4 f5;let⟨o,e',c,d⟩:=id ae;exact⟨_,rfl,El (s:={s with heap:=h' }) e' c d (by decide) ⟨.ref q,H,I1,ek,⟨rfl,_,_,hx,hh⟩,ae,λb hb=>(hf b hb).1⟩⟩
 done:=by
  intro X hP hw hK gT ht i ψ s σ H E I hf st hg;subst hP hw hK;let⟨nf,hi⟩:=hg;let⟨hm,hn,hk⟩:=R1 I hd nf;let⟨f0,f1,f2,f3,f4,f5⟩:=hf it (by simp);exact HC (I.ok.hd (gT rfl)) st hm ⋯ λh' eb=>⟨rfl,I.turned (t':=s.toks) (λb o hb e=>eb b o hb e) f0 f1 f3 f4 f5⟩
 self:=λ_ _ _ _ _ st h=>wpAny_pyIter_keyiter st h
def π{K:Fg}:wo K H1 (.oz p od kvs) (Jr K p od kvs):=λH2 G2 t g ok=>by
 have nf:Jq K H2 p od kvs:=g p _ (show G2 p=aj (.ej od kvs)from ok);have hl:(Src.oz p od kvs).items.length=kvs.length:=by simp[Src.items]
 refine⟨λi hi=>⟨nf,by rw[hl]at hi;exact hi⟩,λi v H' hi hy=>?_,⟨nf,by rw[hl];exact gw _⟩⟩;let⟨rfl,k,n,e,r⟩:=hy;exact⟨.refl _,dy k,by simp[Src.items,e],r⟩
abbrev Hc(x:D)(G1:Gp)(R:Src->Gp->Prop):Prop:=match x with
 |.ref p=>∃kvs,G1 p=aj (.uR kvs)/\∀od,R (.oz p od kvs) (aC G1 p (.ej od kvs))
 |_=>False
abbrev qL(te:bC):fT:=λρ G R=>te ρ G λx G1=>Hc x G1 R
section
variable{X:Cx}
def Z'{K:Fg}:BK K (.oz p od kvs) (Jr K p od kvs):=λH2 G2 g ok=>π (H1:=H2) H2 G2 (.refl _) g ok
def S5(hc:X.calm=ak)(he:bY X e te):AE X tg e (qL te):=by
 intro ψ s σ H Q I h;let⟨ρ,G,R,sr,g,q,kk⟩:=h;refine dH (he ψ s σ H (λvx H1=>Ts H H1/\∃x G1,RD X.K H1 x vx/\HR X.K H1 G1/\Hc x G1 R) I ⟨ρ,G,_,sr,g,q,λv H1 x G1 t1 r1 g1 q1=>⟨t1,x,G1,r1,g1,q1⟩⟩) ?_;rintro v s1 ⟨vx,H1,I1,r1,t1,x1,G1,rx,g1,q1⟩;cases x1 with
 |ref a =>
  let⟨kvs,e1,q3⟩:=q1;cases rx;obtain rfl:v=au.ref a:=r1;let⟨u,hu,ok⟩:=g1 a _ e1;let⟨xs,_,fq,od,en,ep,o1,o2,o3,_⟩:=BW I1 (.inl hu) ok;let⟨u1,u2,u3,u4⟩:=ok.no;refine Mq fq ⟨od,o1,o2,o3⟩ ?_;have I3:Inv X ψ σ H1 {s1 with heap:=s1.heap.push {cls:=.type "dict_keyiterator",data:=.fields #[.ref a,.int 0 0,.int en.size 0,.int ep 0]},toks:=s1.toks}:=I1.kept λb o e=>cu _ e;have JU:(s1.heap.push {cls:=.type "dict_keyiterator",data:=.fields #[.ref a,.int 0 0,.int en.size 0,.int ep 0]}).get? a=aj od:=cu _ o1;have hit:(s1.heap.push {cls:=.type "dict_keyiterator",data:=.fields #[.ref a,.int 0 0,.int en.size 0,.int ep 0]}).IsKeyIter s1.heap.objs.size a 0 en.size ep:=⟨_,jd _ rfl,rfl,rfl⟩;have GA:H1 s1.heap.objs.size=bh:=I1.af.fresh (gw _);have tt:Ts H1 (upd H1 a (.jJ od u)):=Ts.turn hu u1 u2;have g4:HR X.K (upd H1 a (.jJ od u)) (aC G1 a (.ej od kvs)):=g1.turn tt ⟨u,aK,ok.imp λ_ _ z=>z.mono tt⟩;have I4:=I3.freeze hu u1 u2 u3 u4 JU;have na:s1.heap.objs.size≠a:=xu (fj o1);refine⟨s1.heap.objs.size,[s1.heap.objs.size],_,Jr X.K a od kvs,_,rfl,I4,(show Turn X.calm X.tp X.prog X.w X.K tg _ _ _ _ from hc ▸ ω o3),hit,λb hb=>?_,kk _ _ _ _ (t1.trans tt) g4 Z' (q3 od)⟩;have e:b=s1.heap.objs.size:=by simpa using hb
  subst e;exact I1.DZ (gw _) (by rw[aP na];exact GA)
 |_=>exact q1.elim
def aA6(hc:X.calm=ak)(he:bY X e te):x4 X tg e (qL te):=GN (S5 hc he)
end
def aA7{K:Fg}(g:HR K H G)(e:G p=aj (.ej od kvs)) :
  ∃u,H p=aj (.jJ od u)/\(∀xs,u≠.tup xs)/\Tt H (upd H p u)/\HR K (upd H p u) (aC G p (.uR kvs)):=by
 let⟨u,hu,ok⟩:=g p _ e
 have tt:Tt H (upd H p u):=by
  refine⟨λa xs q=>?_,λa o xs q=>?_⟩
  .rw[aP];exact q;intro z;subst z;rw[hu]at q;cases q
  .rw[aP];exact q;intro z;subst z;rw[hu]at q;cases q;exact ok.no.1 xs rfl
 refine⟨u,hu,ok.no.1,tt,λa v q=>?_⟩;by_cases z:a=p
 .subst z;rw[aB]at q;obtain rfl:=ji.inj q;exact⟨u,aK,ok.imp λ_ _ z=>z.jV tt⟩
 .rw[aH z]at q;exact(g a v q).VG tt λw y=>by rw[aP z];exact y
abbrev D6(i:Nat)(te:bC):bC:=λρ G R=>∃p,lS ρ i=aj (.ref p)/\((∃t kvs,G p=aj (.aZ t kvs)/\te ρ G λd G1=>(∃od,G1 p=aj (.du od t kvs))/\R d (aC G1 p (.aZ t kvs)))∨∃kvs,G p=aj (.uR kvs)/\te ρ G λd G1=>R d G1∨((∃od,G1 p=aj (.ej od kvs))/\R d (aC G1 p (.uR kvs))))
def aN4{i:Nat}(he:bY X e te):bY X e (D6 i te):=by
 intro ψ s σ H Q I h;let⟨ρ,G,R,sr,g,⟨p,_,q⟩,kk⟩:=h
 have fin:∀{H1:Hp}{u:HO},(∀o w,H p≠aj (.jJ o w))->Ts H H1->Tt H1 (upd H1 p u)->Ts H (upd H1 p u):=λnf t1 tt=>⟨λa xs z=>tt.az _ _ (t1.az _ _ z),λa o w z=>by
  rw[aP];exact t1.m7 _ _ _ z;intro c;subst c;exact nf _ _ z⟩
 rcases q with⟨t,kvs,hp,q⟩|⟨kvs,hp,q⟩
 .obtain⟨w0,Dq,w1,w2,w3,_⟩:=R5 g hp default;have fz:Fz X p:=Fz.of I Dq w1 w2 w3;refine dH (he ψ s σ H (λv H1=>Ts H H1/\∃d G1,RD X.K H1 d v/\HR X.K H1 G1/\(∃od,G1 p=aj (.du od t kvs))/\R d (aC G1 p (.aZ t kvs))) I ⟨ρ,G,_,sr,g,q,λv H1 d G1 t1 r1 g1 q1=>⟨t1,d,G1,r1,g1,q1.1,q1.2⟩⟩) ?_;rintro u s1 ⟨v,H1,I1,r1,t1,d,G1,rd,g1,⟨od,e1⟩,q1⟩;let⟨w,hw,v1,v2,jn,tt,g'⟩:=δ g1 e1;exact⟨v,_,I1.U2 fz hw v1 (aH1 I1 jn hw),r1,kk v _ d _ (fin (λo x z=>by rw[Dq]at z;exact w2 _ _ (ji.inj z)) t1 tt) (rd.jV tt) g' q1⟩
 .obtain⟨w0,Dq,ok⟩:=g p _ hp;let⟨w1,w2,w3,w4⟩:=ok.no;have fz:Fz X p:=Fz.of I Dq w1 w2 w3;refine dH (he ψ s σ H (λv H1=>Ts H H1/\∃d G1,RD X.K H1 d v/\HR X.K H1 G1/\(R d G1∨((∃od,G1 p=aj (.ej od kvs))/\R d (aC G1 p (.uR kvs))))) I ⟨ρ,G,_,sr,g,q,λv H1 d G1 t1 r1 g1 q1=>⟨t1,d,G1,r1,g1,q1⟩⟩) ?_;rintro u s1 ⟨v,H1,I1,r1,t1,d,G1,rd,g1,q1⟩;rcases q1 with q1|⟨⟨od,e1⟩,q1⟩
  .exact⟨v,H1,I1,r1,kk v _ d _ t1 rd g1 q1⟩
  let⟨w,hw,v1,tt,g'⟩:=aA7 g1 e1
  have jn:∃en ep,od.data=.dict en ep:=by
   let⟨o,hq,yo⟩:=g1 p _ e1;have cK:=(show s1.heap.get? p=aj od/\_ from I1.af p _ hq).1;let⟨xs,_,_,o1,DJ,DL,Qd,_,g3,_⟩:=BW I1 (.inr ⟨od,hq⟩) yo;rw[cK]at Qd;cases Qd;exact⟨_,_,g3⟩
  exact⟨v,_,I1.U2 fz hw v1 jn,r1,kk v _ d _ (fin (λo x z=>by rw[Dq]at z;exact w2 _ _ (ji.inj z)) t1 tt) (rd.jV tt) g' q1⟩
end
variable{ks:List NK}
section
open PySem.W
abbrev ltN(a b:NK):Bool:=if a.1=b.1 then decide (a.2<b.2)else HT.lexLt a.1 b.1
section
variable{X:Cx}{ψ:List (bw×Obj)}{s:cg}
def Nx(I:Inv X ψ σ H s){k:NK}{v:V}(r:RD X.K H (dy k) v)(rv:RelV v u):∃a o n b t,u=.ref a/\s.heap.get? a=aj o/\o.cls=au.type "tuple"/\o.data=.seq #[.ref b,.int k.2 t] n/\RD X.K H (.tup (k.1.map D.int)) (.ref b):=by
 unfold dy at r;cases r with
 |@tup a zs _ hq rz _ =>
  obtain rfl:u=au.ref a:=rv;let⟨its,vi,⟨o,h1,h2,n,h3⟩,_⟩:=I.tuple hq;cases rz with
  |cons ra rb =>
  cases rb with
  |cons rb rn =>
  cases rn;cases rb;cases vi with
  |cons va vb =>
  cases vb with
  |cons vb vn =>
  cases vn;let⟨t,rfl⟩:=vb;cases ra with
  |@tup b ys _ hb A2 eb =>
  cases va;exact⟨a,o,n,b,t,rfl,h1,h2,h3,.tup hb A2 eb⟩
def R0(I:Inv X ψ σ H s){ns:List Int}{b:bw}(r:RD X.K H (.tup (ns.map D.int)) (.ref b)):∃its,IsTup s.heap b its/\hV its.toList ns:=by
 cases r with
 |@tup _ ys _ hb A2 eb =>
  let⟨its,vi,p,_⟩:=I.tuple hb;have e:ys=ns.map V.int:=NQ A2;subst e;exact⟨its.toArray,p,by simpa using intsAre_of vi⟩
def Uh(I:Inv X ψ σ H s):∀{ks:List NK}{xs:List V}{us:List au},cW X.K H (ks.map dy) xs->Vals xs us->∃fs:List au,KatTups s.heap us fs/\fs.length=ks.length/\∀v∈fs,∃b o,v=.ref b/\s.heap.get? b=aj o/\o.cls=au.type "tuple"
 |[],_,_,.nil,.nil=>⟨[],trivial,rfl,λv h=>by cases h⟩
 |k::ks,_,_,.cons r rs,.cons v vs=>by
  let⟨fs,k1,k2,k3⟩:=Uh I rs vs;let⟨a,o,n,b,t,rfl,h1,h2,h3,rb⟩:=Nx I r v;refine⟨.ref b::fs,KatTups.cons h1 h2 h3 rfl k1,by simp[k2],λu hu=>?_⟩;rcases ju.mp hu with rfl|hu
  .cases rb with
   |@tup _ ys _ hb A2 eb =>
    let⟨its,vi,⟨o2,q1,q2,_⟩,_⟩:=I.tuple hb;exact⟨b,o2,rfl,q1,q2⟩
  .exact k3 u hu
def aH7(I:Inv X ψ σ H s){A:jf}(hu:A.units+32<qg)(r:cW X.K H (ks.map dy) xs)(rv:Vals xs us)(l2:2<=us.length){kf:Nat->Int}(Ki:∀i j a b,ks[i]?=aj a->ks[j]?=aj b->ltN a b=decide (kf i<kf j)) :
  ∃κ,(∀Q:SortKind->cg->Prop,Q κ s->dj (dz X.prog X.w) A (keyKind' us.toArray) Q (λ_ _=>False) s)/\∀i j (C:Bool->cg->Prop),i<us.length->j<us.length->C (decide (kf i<kf j)) s->kas_ask X.prog X.w A κ us i j C s:=by
 let⟨fs,k1,k2,k3⟩:=Uh I r rv;have lx:xs.length=ks.length:=by rw[←r.length,dw]
 have len:us.length=ks.length:=by rw[←rv.length,lx]
 refine⟨tuples' (au.type "tuple"!=au.type "tuple"),λQ hQ=>kat_kind k1 ⋯ (λv hv=>?_) (by simp) hQ,λi j C hi hj hC=>?_⟩
 .obtain⟨b,o,rfl,q1,q2⟩:=k3 v hv;rw[←q2];exact(Looks.ld q1).andThen .now
 .have get:∀i,i<us.length->∃k v,ks[i]?=aj k/\RD X.K H (dy k) v/\RelV v (us.getD i au.none):=λi hi=>by
   let⟨v,e1,rd⟩:=r.get (i:=i) (d:=dy (ks[i]'⋯)) (by simp[qu,gk (show i<ks.length by omega)]);let⟨u,e2,ru⟩:=rv.get e1;exact⟨_,v,gk ⋯,rd,by simpa[ug,e2]using ru⟩
  let⟨ka,va,ea,ra,ua⟩:=get i hi;let⟨kb,vb,eb,rb,ub⟩:=get j hj;let⟨a,o,n,b,t,ga,h1,h2,h3,O2⟩:=Nx I ra ua;let⟨a',o',n',b',t',gb,g1,g2,g3,O1⟩:=Nx I rb ub;rw[←Ki i j ka kb ea eb]at hC;unfold kas_ask;rw[ga,gb,show(au.type "tuple"!=au.type "tuple")=ao by simp];let⟨i1,p1,q1⟩:=R0 I O2;let⟨i2,p2,q2⟩:=R0 I O1;refine kat_lt h1 h3 g1 g3 ?_;show KatLex X.prog X.w A ao _ C [(.ref b,.ref b'),(.int ka.2 t,.int kb.2 t')] 0 s;unfold ltN at hC;have E1:=ED I 8 A _ _ _ _ (.ref b) (.ref b') ⋯ (Ui 7 ka.1) (Ui 7 kb.1) O2 O1 rfl rfl;rw[aT,Uj]at E1;refine kat_cons (E1 _ _ _ _ (kat_go (λe=>kat_yes (kat_cons (wpAny_eqBool_int (kat_go (λe3=>kat_yes (kat_nil ?_)) λe3=>kat_no (kat_one _ _ ?_))))) λe=>kat_no (kat_one _ _ (HT.akI p1 p2 q1 q2 ⋯ ?_))))
  .rw[if_pos (of_decide_eq_true e)]at hC;have:ka.2=kb.2:=by simpa using e3
   rw[this]at hC;simpa using hC
  .rw[if_pos (of_decide_eq_true e)]at hC;exact HT.TM _ _ _ _ _ _ _ _ _ _ hC
  .rw[if_neg (of_decide_eq_false e)]at hC;exact hC
end
section
def Ug{K:Fg}{ds:List D}{xs:List V}(r:cW K H ds xs):∀{l:List Nat},(∀i∈l,i<ds.length)->cW K H (l.map λi=>ds.getD i .ag) (l.map λi=>xs.getD i .ag)
 |[],_=>.nil
 |i::l,h=>by
  have hi:=h i (by simp);let⟨v,e1,rd⟩:=r.get (gk hi);have e2:ds.getD i .ag=ds[i]:=by simp[ug,hi]
  have e3:xs.getD i .ag=v:=by simp[ug,e1]
  refine .cons ?_ (Ug r λj hj=>h j (by simp[hj]));show RD K H (ds.getD i .ag) (xs.getD i .ag);rw[e2,e3];exact rd
end
end
section
open PySem.W
section
variable{X:Cx}
def al4{σ:St}{H:Hp}{s:cg}{c:Nat}(I:Inv X ψ σ H s)(k:∀b u,s.heap.get? b=aj u->h1.get? b=aj u){ys:Nat->List V}{us:Nat->List au}(nd:as.Nodup)(hi:∀a∈as,s.heap.objs.size<a)
  (ht:∀j a,as[j]?=aj a->Vals (ys j) (us j)/\(ys j).length<=dg/\IsTup h1 a (us j).toArray)(hl:as.length<=dg)(hS:h1.get? s.heap.objs.size=aj (ud "list" (as.map au.ref).toArray c)) :
  ∃H1,Inv X ψ σ H1 {s with heap:=h1,toks:=tk}/\aS H H1/\H1 s.heap.objs.size=aj (.lst (as.map V.ref))/\∀j a,as[j]?=aj a->H1 a=aj (.tup (ys j)):=by
 have fr:∀a∈as,H a=bh:=λa ha=>I.af.fresh (wj (hi a ha));have f0:H s.heap.objs.size=bh:=I.af.fresh (gw _)
 let H1:Hp:=λb=>if b=s.heap.objs.size then aj (.lst (as.map V.ref))else if b∈as then aj (.tup (ys (as.idxOf b)))else H b
 have e0:H1 s.heap.objs.size=aj (.lst (as.map V.ref)):=if_pos rfl;have e1:∀{b},b≠s.heap.objs.size->H1 b=if b∈as then aj (.tup (ys (as.idxOf b)))else H b:=λn=>if_neg n
 have sm:aS H H1:=λb o e=>by
  rw[e1 (λz=>by rw[z,f0]at e;cases e),if_neg (λz=>by rw[fr b z]at e;cases e)];exact e
 have iS:∀j a,as[j]?=aj a->H1 a=aj (.tup (ys j)):=λj a e=>by
  let⟨hj,e2⟩:=iz.mp e;have ma:=jm e;rw[e1 (xu (hi a ma)),if_pos ma,←e2,nd.idxOf_getElem]
 refine⟨H1,I.grown k sm λb u e=>?_,sm,e0,iS⟩;by_cases y:b=s.heap.objs.size
 .subst y;rw[e0]at e;cases e;exact .inr ⟨gw _,by rw[dw];exact hl,_,c,HZ as,hS⟩
 .by_cases z:b∈as
  .right;refine⟨wj (hi b z),?_⟩;let⟨j,hj⟩:=NZ.mp z;rw[iS j b hj]at e;cases e;let⟨t1,t2,t3⟩:=ht j b hj;exact⟨t2,us j,t1,t3⟩
  .left;rw[e1 y,if_neg z]at e;exact e
abbrev HX(x:D)(G:Gp)(R:iW):Prop:=match x with
 |.ref a=>∃ps:List (Int×Int),G a=aj (.aZ ao (ps.map qK))/\ps.length<1000000/\∀l,G l=bh->R (.ref l) (aC G l (.lst (ps.map eY)))
 |_=>False
abbrev HW(to:bC):bC:=λρ G R=>to ρ G λx G1=>HX x G1 R
def aA8{o:ig}{x:Str}{apos ah:Pos}(hc:X.calm=ak)(ho:bY X o to)(hg:Gl X x)(hm:X.mg x=bh)(hv:qe x=aj (.type "list"))(hn:x≠"__name__")(gS:(x==("__debug__":Str))=ao)
  (br:xq o "items" X.env (eval o X.env)=eval o X.env)(bp:(apos.endLine==ah.line)=ak) :
  bY X (.Call (.Name x p) [.Call (.Attribute o "items" apos) [] [] ah] [] pos) (HW to):=by
 intro ψ s σ H Q I h;have big:1000000<dg:=by decide
 let⟨ρ,G,R,sr,g,q,kk⟩:=h;refine yw (Ay I hg hm hv ?_ hn gS);refine PyProof.Rows.callWith_type1 (Calls.spliced_cons ?_);refine Jd br bp (dH (ho ψ s σ H (λvx H1=>Ts H H1/\∃x G1,RD X.K H1 x vx/\HR X.K H1 G1/\HX x G1 R) I ⟨ρ,G,_,sr,g,q,λv H1 x G1 t1 r1 g1 q1=>⟨t1,x,G1,r1,g1,q1⟩⟩) ?_);rintro v s1 ⟨vx,H1,I1,r1,t1,x1,G1,rx,g1,q1⟩;cases x1 with
 |ref a =>
  let⟨ps,e1,pl,hq⟩:=q1;cases rx;obtain rfl:v=au.ref a:=r1;rcases g1 a _ e1 with⟨_,ys,ed,tw⟩|⟨z,_⟩
  .have ey:=Eu tw;subst ey;let⟨h1,h2,h3⟩:=EF I1 (.inl ⟨_,.inl ed⟩);refine⟨"dict","dict.items",PySem.F.plainAttrs_dict,PySem.F.slot_dict_items,PySem.F.type_dict_items,h1,h2,Calls.callWith_builtin rfl (PySem.evalArgs_none ?_)⟩;let⟨z1,fq,vs,kv,hd⟩:=xb I1.af ed;refine call_meetsIn PySem.F.slot_dict_items h1 PySem.F.entry_dict_items (PySem.F.args_dict_items_1 _) (meets_dict_items (aF X.prog X.w) a fq) ⟨⟨vs,hd⟩,?_⟩;refine Calls.spliced_nil ?_;let⟨l1,l2,l3⟩:=BY kv;let⟨o,es,ep,q1,q2,q3,q4,q5,q6⟩:=hd;have I2:Inv X ψ σ H1 {s1 with heap:=s1.heap.push {cls:=.type "dict_items",data:=.fields #[.ref a]},toks:=s1.toks}:=I1.kept λb o e=>cu _ e;have vS:(s1.heap.push {cls:=.type "dict_items",data:=.fields #[.ref a]}).DictAt (aF X.prog X.w) a vs ep:=⟨o,es,cu _ q1,q2,q3,q4,q5,q6⟩;have Gi:(s1.heap.push {cls:=.type "dict_items",data:=.fields #[.ref a]}).IsItemsView s1.heap.objs.size a:=⟨_,jd _ rfl,rfl,rfl⟩;generalize s1.heap.push {cls:=.type "dict_items",data:=.fields #[.ref a]}=hp at *;refine kdx_call (s:={s1 with heap:=hp}) (knd:=aF X.prog X.w) (I1.ok.hd hc) Gi vS ⋯ λh' tk acc c as k2 hS hl hG a7=>?_
   have ex:∀j:Nat,∃uu:List au,∀b,as[j]?=aj b->Vals [V.int (ps.getD j (0,0)).1,V.int (ps.getD j (0,0)).2] uu/\IsTup h' b uu.toArray:=λj=>by
    cases ea:as[j]? with
    |none=>exact⟨[],λb z=>by cases z⟩
    |some b =>
     let⟨key,kk,x,p1,p2,p3⟩:=hG.pairs j b ea;have hj:j<ps.length:=by rw[←l1,←hl];exact(iz.mp ea).1
     let⟨t,p4⟩:=l3 j ps[j] (gk hj);rw[p4]at p1;cases p1;have gd:ps.getD j (0,0)=ps[j]:=getD_at hj;refine⟨[key,au.int ps[j].2 t],λb' z=>?_⟩;cases z;rw[gd];refine⟨.cons ?_ (.cons ⟨t,rfl⟩ .nil),⟨_,p3,rfl,_,rfl⟩⟩;rcases bZ (show qq (Sum.inl ps[j].1) key=ak from p2)with⟨i,t',e1,e2⟩|⟨i,t',e1,e2⟩
     .cases e1;exact⟨t',e2⟩
     .cases e1
   let⟨us,Dr⟩:=Classical.axiomOfChoice ex;have la:as.length=ps.length:=hl.trans l1;have Yp:h'.get? hp.objs.size=aj (ud "list" (as.map au.ref).toArray c):=by rw[←a7];simpa using hS
   let⟨H2,J,sm,e0,iS⟩:=al4 (tk:=tk) (c:=c) I2 k2 (as:=as) (ys:=λj=>[V.int (ps.getD j (0,0)).1,V.int (ps.getD j (0,0)).2]) (us:=us) (hG.rise.imp jo) (λb hb=>hG.above b hb) (λj b e=>⟨(Dr j b e).1,by show 2<=dg;omega,(Dr j b e).2⟩) ⋯ Yp
   have mn:cW X.K H2 (ps.map eY) (as.map V.ref):=Nz la λj b p e1 e2=>by
    have z:=iS j b e1;let⟨hj,e3⟩:=iz.mp e2;rw[getD_at hj,e3]at z;exact z
   have fr:H1 hp.objs.size=bh:=I2.af.fresh (gw _);refine⟨.ref hp.objs.size,_,J,rfl,kk _ _ (.ref _) _ (t1.trans (.same sm)) (.ref _) (λb u e=>?_) (hq _ (m8 (o:=.lst []) g1 fr λb o e=>by rw[aP (λz=>by have:=sU J b o e;rw[z,e0]at this;cases this)];exact sU I2 b o e))⟩;by_cases y:b=hp.objs.size
   .subst y;rw[aB]at e;cases e;exact⟨_,e0,mn⟩
   .rw[aH y]at e;exact(g1 b u e).keep (.same sm) λw z=>sm b w z
  .cases z
 |_=>exact q1.elim
end
end
section
open PySem.W
section
variable{X:Cx}{ψ:List (bw×Obj)}{s:cg}{G:Gp}{R:iW}{Q:VK}
def RZ{c:Nat}{ds:List D}(I:Inv X ψ σ H {s with heap:=h1,toks:=tk})(g:HR X.K H G)(r:cW X.K H ds xs)(rv:Vals xs us)(hl:ds.length<128)(k:∀v H' d G',Ts H H'->RD X.K H' d v->HR X.K H' G'->R d G'->Q v H')
  (h:∀r,G r=bh->R (.ref r) (aC G r (.lst (q.toList.map λi=>ds.getD i .ag))))(P:Pm us.length q)(k2:∀b o,h1.get? b=aj o->h'.get? b=aj o)(ho:h'.get? h1.objs.size=aj (ud "list" (q.toList.map λi=>us.getD i au.none).toArray c)):EP X ψ σ Q (.ref h1.objs.size) {s with heap:=h',toks:=tk}:=by
 have big:1000<dg:=by decide
 have l1:us.length=ds.length:=by rw[←rv.length,←r.length]
 rw[l1]at P;have kL:∀i∈q.toList,i<ds.length:=λi hi=>zq.mp (P.perm.mem_iff.mp hi);have fr:H h1.objs.size=bh:=I.af.fresh (gw _);have sn:aS H (upd H h1.objs.size (.lst (q.toList.map λi=>xs.getD i .ag))):=cA fr
 have J:Inv X ψ σ (upd H h1.objs.size (.lst (q.toList.map λi=>xs.getD i .ag))) {s with heap:=h',toks:=tk} :=
  I.laid (t':=tk) (λb o e=>k2 b o e) (gw _) ⟨by rw[dw,uo,P.size];omega,_,c,NR rv λi hi=>by rw[←r.length];exact kL i hi,ho⟩
 exact⟨.ref h1.objs.size,_,J,rfl,k _ _ (.ref _) _ (.same sn) (.ref _) (g.put (u:=.lst _) fr ⟨_,aK,(Ug r kL).mono (.same sn)⟩) (h _ (m8 g fr (sU J)))⟩
abbrev JX(k:NK):DK×D:=(.inr (k.1.map Sum.inl),.int k.2)
def QQ{K:Fg}:∀{ks:List NK}{as:List bw},as.length=ks.length->(∀(j:Nat)(a:bw)(k:NK),as[j]?=aj a->ks[j]?=aj k->∃b,H a=aj (.tup [.ref b,.int k.2])/\RD K H (.tup (k.1.map D.int)) (.ref b))->cW K H (ks.map dy) (as.map V.ref)
 |[],[],_,_=>.nil
 |k::ks,a::as,hl,h=>by
  let⟨b,e,rd⟩:=h 0 a k rfl rfl;exact .cons (.tup (.inl (.of e)) (.cons rd (.cons (.int _) .nil)) (zv e)) (QQ (by simpa using hl) λj b q e1 e2=>h (j+1) b q (by simpa using e1) (by simpa using e2))
def VF{K:Fg}:∀{ks:List NK}{ys:List (List Key×V)}{ws:List (List Key×bw×au)},uW K H .inr (ks.map JX) ys->KT H ys ws->ws.length=ks.length/\∀(j:Nat)(k:NK),ks[j]?=aj k->∃b t,ws[j]?=aj (k.1.map .inl,b,au.int k.2 t)/\RD K H (.tup (k.1.map D.int)) (.ref b)
 |[],_,_,.nil,.nil=>⟨rfl,λj k e=>by simp at e⟩
 |k::ks,y::ys,w::ws,.cons h r,.cons h' r'=>by
  let⟨a1,a2⟩:=VF r r';let⟨y1,y2⟩:=y;let⟨w1,w2,w3⟩:=w;let⟨h1,h2⟩:=h;let⟨g1,g2,g3⟩:=h';obtain rfl:k.1.map Sum.inl=y1:=Sum.inr.inj h1;cases h2;let⟨t,rfl⟩:=g3;obtain rfl:=g1;refine⟨by simp[a1],λj q e=>?_⟩;cases j with
  |zero =>
   obtain rfl:k=q:=by simpa using e
   have z:RD K H (.tup ((k.1.map Sum.inl).map kD)) (.ref w2):=.tup (eD.of g2) (Jl _) (zv g2);rw[jt]at z;exact⟨w2,t,rfl,z⟩
  |succ j=>exact a2 j q (by simpa using e)
abbrev VE(ks:List NK)(G:Gp)(R:iW):Prop:=ks.length<128/\∃kf:Nat->Int,(∀i j a b,ks[i]?=aj a->ks[j]?=aj b->ltN a b=decide (kf i<kf j))/\(∀i j,i<ks.length->j<ks.length->kf i=kf j->i=j)/\∀q:Array Nat,Pm ks.length q->Up kf q ks.length->∀r,G r=bh->R (.ref r) (aC G r (.lst (q.toList.map λi=>(ks.map dy).getD i .ag)))
def ai2(hc:X.calm=ak)(hu:X.A.units+64<qg)(I:Inv X ψ σ H s)(g:HR X.K H G){a:bw}(e:G a=aj (.aZ ak (ks.map JX)))(hv:s.heap.IsItemsView r a)(h:VE ks G R)
  (k:∀v H' d G',Ts H H'->RD X.K H' d v->HR X.K H' G'->R d G'->Q v H'):dj (dz X.prog X.w) X.A (call (.builtin "sorted") [.ref r]) (EP X ψ σ Q) X.xe s:=by
 have big:1000<dg:=by decide
 let⟨gX,kf,Ki,hd,h⟩:=h;rcases g a _ e with⟨z,_⟩|⟨_,ys,e1,tw⟩
 .cases z
 .obtain⟨z1,fq,ws,rel,o,es,ep,ho,DD,bo,he,oS,hn⟩:=Ek I.af e1;let⟨lw,Ln⟩:=VF tw rel;have le:es.size=ks.length:=(size_of_entries he).trans lw;refine Tb (CV:=λus h'=>∃as:List bw,us=as.map au.ref/\as.length=es.size/\zl es s.heap.objs.size h' as) (λR' E' hR=>akY (I.ok.hd hc) hv ⟨o,ho,DD,bo⟩ ⋯ λh' tk as kk hl hG=>hR _ h' tk kk ⟨as,rfl,hl,hG⟩) λus h1 tk k1 cv=>?_;let⟨as,rfl,hl,hG⟩:=cv
  have ex:∀j:Nat,∃p:bw×Tok,∀k b,ks[j]?=aj k->as[j]?=aj b->RD X.K H (.tup (k.1.map D.int)) (.ref p.1)/\IsTup h1 b #[.ref p.1,.int k.2 p.2]:=λj=>by
   cases ea:ks[j]? with
   |none=>exact⟨(0,0),λk b z=>by cases z⟩
   |some k =>
    let⟨b,t,p1,p2⟩:=Ln j k ea;refine⟨(b,t),λk' c z1 z2=>?_⟩;cases z1;let⟨en,q1,q2⟩:=hG.pairs j c z2;rw[←AA,he,qu,p1]at q1;cases q1;exact⟨p2,_,q2,rfl,_,rfl⟩
  let⟨f,hf⟩:=Classical.axiomOfChoice ex
  let⟨H1,I1,sm,iS⟩:=Ul (tk:=tk) I k1 (as:=as) (ys:=λj=>[V.ref (f j).1,V.int (ks.getD j ([],0)).2]) (us:=λj=>[.ref (f j).1,.int (ks.getD j ([],0)).2 (f j).2]) (hG.rise.imp jo) (λb hb=>wj (hG.above b hb)) λj b e=>by
   let⟨hj,_⟩:=iz.mp e;have hk:ks[j]?=aj (ks.getD j ([],0)):=by rw[ug,gk ⋯];rfl
   exact⟨.cons rfl (.cons ⟨_,rfl⟩ .nil),by show 2<=dg;omega,(hf j _ b hk e).2⟩
  have mn:cW X.K H1 (ks.map dy) (as.map V.ref):=QQ ⋯ λj b q e1 e2=>by
   have z:=iS j b e1;rw[ug,e2]at z;exact⟨_,z,(hf j q b e2 e1).1.mono (.same sm)⟩
  have vi:=HZ as;have la:(as.map au.ref).length=ks.length:=by rw[dw];omega
  refine⟨⋯,kf,λi j hi hj e=>hd i j ⋯ ⋯ e,λl2 h' kp=>aH7 (s:={s with heap:=h',toks:=tk}) (I1.kept (t':=tk) kp) (by show X.A.units+1+1+32<qg;omega) mn vi l2 Ki,λq h' c P u k2 ho=>?_⟩;exact RZ I1 (g.same sm) mn vi (by rw[dw];exact gX) (λv H' d G' t=>k v H' d G' ((Ts.same sm).trans t)) (h q (by rw[←la];exact P) (by rw[←la];exact u)) P k2 ho
end
section
variable{X:Cx}
def aqG{prog:mz}{w:jr}(d:bw)(hd:(d==um)=ao):MeetsIn prog w (Builtin.«dict.items» ⟨[.ref d],[]⟩) (λ_ R s=>(∃es ep,j5 s.heap d es ep)/\R (.ok (.ret (.ref s.heap.objs.size))) {s with heap:=s.heap.push {cls:=.type "dict_items",data:=.fields #[.ref d]}}) :=
 .of_wp λA R s ⟨⟨es,ep,hm⟩,h⟩=>by
  unfold Builtin.«dict.items»;refine aq ?_;unfold Builtin.Dict.noArgs;refine aq (wpAny_notOrdered_dict hm.typeIs ?_);show dj _ _ (pure d) _ _ s;refine cj ?_;show dj _ _ (Builtin.Dict.showsAll d >>= _) _ _ s;unfold Builtin.Dict.showsAll;rw[if_neg (by rw[hd];exact ql)];exact aq (cj (aq (wg (cj ⟨_,rfl,h⟩))))
abbrev CJ(x:D)(G:Gp)(R:iW):Prop:=(∃a,∃ps:List (Int×Int),x=.ref a/\G a=aj (.aZ ao (ps.map qK))/\ps.length<128/\∀qs:List (Int×Int),qs.Perm ps->dJ qs->∀r,G r=bh->R (.ref r) (aC G r (.lst (qs.map eY))))∨∃a ks,x=.ref a/\G a=aj (.aZ ak (ks.map JX))/\VE ks G R
abbrev tD(to:bC):bC:=λρ G R=>to ρ G λx G1=>CJ x G1 R
def aA9{o:ig}{x:Str}{apos ah:Pos}(hc:X.calm=ak)(hu:X.A.units+64<qg)(ho:bY X o to)(hg:Gl X x)(hm:X.mg x=bh)(hv:qe x=aj (.builtin "sorted"))(hn:x≠"__name__")(gS:(x==("__debug__":Str))=ao)
  (br:xq o "items" X.env (eval o X.env)=eval o X.env)(bp:(apos.endLine==ah.line)=ak):bY X (.Call (.Name x p) [.Call (.Attribute o "items" apos) [] [] ah] [] pos) (tD to):=by
 intro ψ s σ H Q I h;let⟨ρ,G,R,sr,g,q,kk⟩:=h;refine yw (Ay I hg hm hv ?_ hn gS);refine PyProof.Rows.callWith_builtin1 (Calls.spliced_cons ?_);refine Jd br bp (dH (ho ψ s σ H (λvx H1=>Ts H H1/\∃x G1,RD X.K H1 x vx/\HR X.K H1 G1/\CJ x G1 R) I ⟨ρ,G,_,sr,g,q,λv H1 x G1 t1 r1 g1 q1=>⟨t1,x,G1,r1,g1,q1⟩⟩) ?_);rintro v s1 ⟨vx,H1,I1,r1,t1,x1,G1,rx,g1,q1⟩
 obtain⟨a,t,kvs,rfl,e1,k⟩:∃a t kvs,x1=.ref a/\G1 a=aj (.aZ t kvs)/\∀s2 r,Inv X ψ σ H1 s2->s2.heap.IsItemsView r a->dj (dz X.prog X.w) X.A (call (.builtin "sorted") [.ref r]) (EP X ψ σ Q) X.xe s2:=by
  rcases q1 with⟨a,ps,e0,e1,gX,hq⟩|⟨a,ks,e0,e1,hq⟩
  .exact⟨a,_,_,e0,e1,λs2 r I2 hv=>akZ hc I2 g1 e1 gX hv hq λv H' d G' t=>kk v H' d G' (t1.trans t)⟩
  .exact⟨a,_,_,e0,e1,λs2 r I2 hv=>ai2 hc hu I2 g1 e1 hv hq λv H' d G' t=>kk v H' d G' (t1.trans t)⟩
 cases rx;obtain rfl:v=au.ref a:=r1;have jn:=S6 g1 e1;let⟨h1,h2,h3⟩:=EF I1 jn;let⟨od,en,ep,o1,o2,o3,o4⟩:=Ny I1 jn;refine⟨"dict","dict.items",PySem.F.plainAttrs_dict,PySem.F.slot_dict_items,PySem.F.type_dict_items,h1,h2,Calls.callWith_builtin rfl (PySem.evalArgs_none (call_meetsIn PySem.F.slot_dict_items h1 PySem.F.entry_dict_items (PySem.F.args_dict_items_1 _) (aqG a o4) ⟨⟨en,ep,od,o1,o2,o3⟩,Calls.spliced_nil ?_⟩))⟩;exact k {s1 with heap:=s1.heap.push {cls:=.type "dict_items",data:=.fields #[.ref a]}} _ (I1.kept (t':=s1.toks) λb o e=>cu _ e) ⟨_,jd _ rfl,rfl,rfl⟩
abbrev RY:List D->Gp->iW->Prop:=λxs G R=>∃a kvs,∃ns:List Int,xs=[.ref a]/\G a=aj (.aZ ao kvs)/\kvs.map (·.1)=ns.map (λn=>.inl (.inl n))/\ns.Nodup/\ns.length<128/\∀q:Array Nat,Pm ns.length q->∀r,G r=bh->R (.ref r) (aC G r (.lst (q.toList.map λi=>(ns.map D.int).getD i .ag)))
def QP{K:Fg}:∀{ns:List Int}{kvs:List (DK×D)}{ys:List (Key×V)},uW K H .inl kvs ys->kvs.map (·.1)=ns.map (λn=>(.inl (.inl n):DK))->ys.map (·.1)=ns.map (λn=>(.inl n:Key))
 |[],[],_,.nil,_=>rfl
 |[],_::_,_,.cons _ _,e=>by cases e
 |_::_,[],_,.nil,e=>by cases e
 |n::ns,p::kvs,y::ys,.cons h r,e=>by
  injection e with e1 e2;have h1:(.inl (.inl n):DK)=.inl y.1:=Eq.trans (Eq.symm (show p.1=.inl (.inl n)from e1)) h.1;show y.1::_=_::_;rw[QP r e2,←Sum.inl.inj h1]
def S4:∀{ns:List Int}{us:List au},us.length=ns.length->(∀(i:Nat)(n:Int),ns[i]?=aj n->∃t,us[i]?=aj (au.int n t))->hV us ns
 |[],[],_,_=>.nil
 |n::ns,u::us,hl,h=>by
  let⟨t,e⟩:=h 0 n rfl;cases e;exact .cons n t (S4 (by simpa using hl) λi m e=>h (i+1) m (by simpa using e))
def Nw:∀{ns:List Int}{us:List au},hV us ns->∀i,i<us.length->∃t,us.getD i au.none=.int (ns.getD i 0) t
 |_,_,.nil,i,h=>by simp at h
 |_,_,.cons n t r,0,_=>⟨t,rfl⟩
 |_,_,.cons n t r,i+1,h=>by simpa using Nw r i (by simpa using h)
def VD:∀{ns:List Int}{us:List au},hV us ns->Vals (ns.map V.int) us
 |[],_,.nil=>.nil
 |_::_,_,.cons _ t r=>.cons ⟨t,rfl⟩ (VD r)
def U1{K:Fg}:∀ns:List Int,cW K H (ns.map D.int) (ns.map V.int)
 |[]=>.nil
 |n::ns=>.cons (.int n) (U1 ns)
def aAA(hc:X.calm=ak):jO X (.builtin "sorted") RY:=by
 intro ψ s σ H xs vs us G R Q I rx rv g q k;let⟨a,kvs,ns,rfl,e1,ek,nd,hl,h⟩:=q;cases rx with
 |cons r1 rr =>
 cases rr;cases r1;cases rv with
 |cons rv rr =>
 cases rr;cases rv;rcases g a _ e1 with⟨_,ys,e,tw⟩|⟨z,_⟩
 .obtain⟨z1,fq,vs,kv,o,es,ep,ho,DD,bo,hko,Ke,hn⟩:=xb I.af e
  have lv:vs.map (·.1)=ns.map (λn=>(.inl n:Key)):=by
   rw[←QP tw ek];clear Ke hn tw e z1
   induction kv with
   |nil=>rfl
   |cons h r ih=>rw[jc,jc,ih,h.1]
  have ln:vs.length=ns.length:=by simpa using congrArg Ak lv
  have le:es.toList.length=vs.length:=Ke.length
  have iu:hV (es.toList.map (·.key)) ns:=S4 (by rw[dw];omega) λi n ei=>by
   let⟨hi,_⟩:=iz.mp ei;have z:=congrArg (·[i]?) lv;rw[qu,qu,ei,gk (show i<vs.length by omega)]at z;have z2:(vs[i]'⋯).1=.inl n:=by simpa using z
   have z3:es.toList[i]?=aj (es.toList[i]'⋯):=gk ⋯;let⟨hk,_⟩:=Ke.get? z3 (show vs[i]?=aj ((vs[i]'⋯).1,(vs[i]'⋯).2)from gk ⋯);rw[z2]at hk;rcases bZ (show qq (Sum.inl n) _=ak from hk)with⟨m,t,y1,y2⟩|⟨m,t,y1,y2⟩
   .cases y1;exact⟨t,by rw[qu,z3];exact congrArg aj y2⟩
   .cases y1
  have lu:(es.toList.map (·.key)).length=ns.length:=iu.length;refine R9 (kf:=λi=>ns.getD i 0) (vs:=es.toList.map (·.key)) (λR' E' hR=>kdu_collect (QU fq) (I.ok.hd hc) ⟨o,ho,DD,bo⟩ (by rw[←uo];have:1000<dg:=(by decide);omega) λh' tk acc kk a7=>?_) ⋯ (λi j hi hj e=>?_) (λl2 s' h' kp=>⟨oneType',λQ hQ=>by rw[ksk_kind (by simpa using iu) (by simpa using l2)];exact cj hQ,λi j C hi hj hC=>?_⟩) λq h1 tk h' c P u k1 k2 ho=>RZ (I.kept (t':=tk) k1) g (U1 ns) (VD iu) (by simpa using hl) k (h q (by rw[←lu];exact P)) P k2 ho
  .have:acc.toList=es.toList.map (·.key):=by
    apply List.ext_getElem?;intro i;rw[qu,AA,AA];by_cases hi:i<es.size
    .obtain⟨en,y1,y2⟩:=a7.2 i _ (yj (by rw[a7.1];exact hi));rw[yj (by rw[a7.1];exact hi),y2,y1];rfl
    .rw[IU (by rw[a7.1];omega),IU ⋯];rfl
   rw[this];exact hR h' tk kk
  .rw[lu]at hi hj;exact(List.getElem_inj nd).mp (by simpa[ug,hi,hj]using e)
  .unfold kas_ask;let⟨t1,y1⟩:=Nw iu i hi;let⟨t2,y2⟩:=Nw iu j hj;rw[y1,y2];exact kat_lt_int hC
 .cases z
abbrev mD:List D->Gp->iW->Prop:=λxs G R=>H0 xs G R∨RY xs G R
def Y'(hc:X.calm=ak):jO X (.builtin "sorted") mD:=λψ s σ H xs vs us G R Q I rx rv g q k=>q.elim (λq=>YL hc ψ s σ H xs vs us G R Q I rx rv g q k) λq=>aAA hc ψ s σ H xs vs us G R Q I rx rv g q k
abbrev sM:i6:=λx xs G R=>match xs with
 |[y,z]=>sW x y G λa t kvs k=>t=ao/\kvs.length<dg/\(match aJ kvs k with
  |some d=>R d G
  |none=>R z (aC G a (.aZ t (cM kvs k z))))
 |_=>False
private theorem aN6(hu:X.A.units+64<qg):m4 X "dict.setdefault" sM:=by
 intro ψ s σ H x xs vx vs u us G R Q I rx rs ru rv g q k;unfold sM at q;split at q
 case h_2=>exact q.elim
 case h_1 y z =>
  cases rs with
  |cons ry rs =>
  cases rs with
  |@cons _ vz _ _ rz rs =>
  cases rs;cases rv with
  |@cons _ uy _ _ A1 rv =>
  cases rv with
  |@cons _ uz _ _ C7 rv =>
  cases rv;let⟨a,kvs,kk,rfl,rfl,e1,_,⟨ht,hl,q⟩,dd⟩:=rD rx ry g q;obtain rfl:u=au.ref a:=ru;rcases dd with⟨k',ys,rfl,e,r,rfl⟩|⟨ks,ys,b,rfl,_⟩
  .obtain⟨z1,hd,ws,rel,dc⟩:=xb I.af e;have hw:=val_two kY (k:=k') r;have hv:=rel.val k';refine call_meetsIn PySem.F.slot_dict_setdefault dc.typeIs PySem.F.entry_dict_setdefault (PySem.F.args_dict_setdefault_3 _ _ _) (kt_meets_setdefault (aF X.prog X.w) a (sR A1) hd uz) ⟨ws,dc,by rw[←rel.length];exact z1,λv hp=>?_,λhn h' Br hs=>?_⟩
   .rw[hp]at hv;cases e2:aJ kvs (.inl k')with
    |none=>rw[hw.2 e2]at hv;exact(show False from hv).elim
    |some d =>
     rw[e2]at q;let⟨v,e3,rd⟩:=hw.1 d e2;rw[e3]at hv;exact⟨v,H,I.tok _,hv,k v H d G (.refl H) rd g q⟩
   .rw[hn]at hv;cases e2:aJ kvs (.inl k')with
    |some d =>
     let⟨v,e3,rd⟩:=hw.1 d e2;rw[e3]at hv;exact(show False from hv).elim
    |none =>
     rw[e2]at q;have tt:Ts H (upd H a (.dK (putK ys k' vz))):=.turn e (λ_ z=>nomatch z) (λ_ _ z=>nomatch z);have rq:(putK ys k' vz).length<=dg:=by have:=sO ys k' vz;rw[←r.length]at this;omega
     have he:∃q,h'.get? a=aj q:=let⟨q,_,_,hq,_⟩:=Br;⟨q,hq⟩
     exact⟨_,_,vZ (t':=_) (ob:=.dK (putK ys k' vz)) I (by rw[e];exact True.intro) hs he (LW rq hd (rel.put k' C7) Br),C7,k _ _ z _ tt (rz.mono tt) (g.turn (u:=.aZ ao _) tt (.inl ⟨rfl,_,aK,(EO kY rz r).imp λ_ _ q=>⟨q.1,q.2.mono tt⟩⟩)) q⟩
  .cases ht
end
end
section
open PySem.W
section
end
end
end L2
namespace L4
open PySem PySem.Spec PyProof.Rows L2
inductive BF where
 |len|uC|sum|w8|DQ|Ad|D5
 deriving DecidableEq
inductive MK where
 |append|Ca
 deriving DecidableEq
inductive DM where
 |C6|pop|FZ
 deriving DecidableEq
inductive GT where
 |con (d:D)|cls (a:bw)|fn (sp:kU) (n:Nat) (qt:Bool)|bf (b:BF)|bt (n:String)|kl (C:bw) (sp:kU) (dd:List D)|me (C:bw) (m:Str) (sp:kU) (dd:List D)|fl (C:bw) (f:Str)
structure SI where
 N:List Str
 fl:List Bool
 lc:List Bool
 ce:List Bool
 gl:List (Str×GT)
 gv:List Bool
 calm:Bool
mutual
inductive CE where
 |var (i:Nat)|con (d:D)|d4 (k:Nat)|neg (a:CE)|DP (a:CE)|bin (o:Operator) (a b:CE)|cmp (o:vh) (a b:CE)|chain (o o':vh) (a b c:CE)
 |BC (es:di)|tup (es:di)|lst (es:di)|lL|ix (a b:CE)|call (k:Nat) (es:di)|hX (m:MK) (o:CE) (es:di)
 |comp (fl gv:List Bool) (ci:CI) (cc:CC) (e:CE)|lI (neg:Bool) (a b:CE)|fld (k:Nat) (o:CE)|mZ (k:Nat) (o:CE) (es:di)|ik (a b:CE)|rV (neg:Bool) (a b:CE)|pv (o e f:CE)|wc|rev (a k:CE)|dm (m:DM) (o e:CE) (es:di)|sortI (k:Nat) (o:CE)|BB (k:Nat) (o:CE)|rX (neg:Bool) (a b:CE)|DO|uv (a b:CE)|yy (o e f:CE)|FY (i:Nat) (a:CE)|listI (k:Nat) (o:CE)
inductive di where
 |nil|cons (e:CE) (r:di)
inductive CT where
 |cmp (o:vh) (a b:CE)|chain (o o':vh) (a b c:CE)|not (t:CT)|and (ts:tP)|or (ts:tP)|val (e:CE)|lI (neg:Bool) (a b:CE)|rV (neg:Bool) (a b:CE)|rX (neg:Bool) (a b:CE)
inductive tP where
 |nil|cons (t:CT) (r:tP)
inductive CO where
 |none|some (e:CE)
inductive CI where
 |any (e:CE)|BA (e:CE)|keys (e:CE)|Ac (e:CE)
inductive CC where
 |none|some (t:CT)
end
@[simp]def SI.cmp(S:SI)(xs:List Str)(fl gv:List Bool):SI:=⟨xs++S.N,xs.map (λ_=>ak)++fl,xs.map (λ_=>ak)++S.N.map (λ_=>ao),xs.map (λ_=>ao)++fl,S.gl,gv,S.calm⟩
abbrev zk:bC:=λ_ _ _=>False
abbrev VC:df:=λ_ _ _=>False
abbrev qA:bL->eX:=λ_ _ _=>False
abbrev VB:Operator->R3
 |.Add=>gF
 |.Sub=>Ai
 |.Mult=>sQ
 |.FloorDiv=>lC
 |.Mod=>fM
 |.Pow=>Ej
 |_=>λ_ _ _ _=>False
abbrev Ab:vh->R3
 |.Eq=>xW
 |.NotEq=>wA
 |.Lt=>BP
 |.LtE=>DW
 |.Gt=>BO
 |_=>λ_ _ _ _=>False
abbrev La:Bool->R3
 |true=>w9
 |false=>Ed
abbrev U0(K:Fg):BF->List D->Gp->iW->Prop
 |.len=>yJ
 |.uC=>aD K
 |.sum=>Ee
 |.w8=>λ_ _ _=>False
 |.DQ=>Cf
 |.Ad=>mD
 |.D5=>wD
abbrev M7(n:String):List D->Gp->iW->Prop:=if n="int" then Ef else λ_ _ _=>False
abbrev KJ:DM->Str
 |.C6=>"setdefault"
 |.FZ=>"setdefault"
 |.pop=>"pop"
abbrev Qh:DM->i6
 |.C6=>p9
 |.FZ=>sM
 |.pop=>Cg
abbrev F8:MK->String
 |.append=>"list"
 |.Ca=>"list"
abbrev F9:MK->i6
 |.append=>Tz
 |.Ca=>uX
abbrev Dl:MK->Str
 |.append=>"append"
 |.Ca=>"index"
abbrev M6(T:List (Str×GT))(k:Nat):bC:=match T[k]? with
 |some (_,.con d)=>lZ d
 |some (_,.cls a)=>lZ (.ref a)
 |some (_,.bt n)=>lZ (.ty n)
 |_=>zk
abbrev M5(T:List (Str×GT))(K:Fg)(ex:bL->eX)(k:Nat)(t:sJ):bC:=match T[k]? with
 |some (_,.fn sp _ _)=>aQ sp ex t
 |some (_,.cls a)=>Ll a t
 |some (_,.bf b)=>jP (U0 K b) t
 |some (_,.bt n)=>jP (M7 n) t
 |some (_,.kl C sp dd)=>EA C sp dd ex t
 |_=>zk
abbrev M4(T:List (Str×GT))(k:Nat)(t:bC):bC:=match T[k]? with
 |some (_,.fl C f)=>jN C t f
 |_=>zk
abbrev M3(T:List (Str×GT))(ex:bL->eX)(k:Nat)(to:bC)(t:sJ):bC:=match T[k]? with
 |some (_,.me C m sp dd)=>iZ C m sp dd ex to t
 |_=>zk
abbrev M0:Bool->R3
 |true=>Q4
 |false=>D8
mutual
noncomputable def mE(T:List (Str×GT))(K:Fg)(ex:bL->eX):CE->bC
 |.var i=>eV i
 |.con d=>lZ d
 |.d4 k=>M6 T k
 |.neg a=>Ah (mE T K ex a)
 |.DP a=>HJ (mE T K ex a)
 |.bin o a b=>aG (VB o) (mE T K ex a) (mE T K ex b)
 |.cmp o a b=>aG (Ab o) (mE T K ex a) (mE T K ex b)
 |.chain o o' a b c=>sV (Ab o) (Ab o') (mE T K ex a) (mE T K ex b) (mE T K ex c)
 |.BC es=>MZ T K ex es
 |.tup es=>mY (mA T K ex es)
 |.lst es=>qf (mA T K ex es)
 |.lL=>u6
 |.ix a b=>aG iY (mE T K ex a) (mE T K ex b)
 |.call k es=>M5 T K ex k (mA T K ex es)
 |.hX m o .nil=>Ni (F8 m) (F9 m) (mE T K ex o)
 |.hX m o (.cons e r)=>C4 (F8 m) (F9 m) (mE T K ex o) (cP (mE T K ex e) (mA T K ex r))
 |.comp _ _ ci cc e=>wC (mI T K ex ci) (mC T K cc) (mE T K qA e)
 |.lI neg a b=>aG (La neg) (mE T K ex a) (mE T K ex b)
 |.fld k o=>M4 T k (mE T K ex o)
 |.mZ k o es=>M3 T ex k (mE T K ex o) (mA T K ex es)
 |.ik a b=>aG j4 (mE T K ex a) (mE T K ex b)
 |.rV neg a b=>aG (M0 neg) (mE T K ex a) (mE T K ex b)
 |.pv o e f=>sX (mE T K ex o) (mE T K ex e) (mE T K ex f)
 |.wc=>wB
 |.rev a k=>D7 (mE T K ex a) (Cj (mE T K ex k))
 |.dm m o e es=>sk (Qh m) (mE T K ex o) (cP (mE T K ex e) (mA T K ex es))
 |.sortI _ o=>tD (mE T K ex o)
 |.BB _ o=>HB (mE T K ex o)
 |.rX neg a b=>aG (BX neg) (mE T K ex a) (mE T K ex b)
 |.DO=>HY
 |.uv a b=>aG sN (mE T K ex a) (mE T K ex b)
 |.yy o e f=>Et (mE T K ex o) (mE T K ex e) (mE T K ex f)
 |.FY i a=>D6 i (mE T K ex a)
 |.listI _ o=>HW (mE T K ex o)
noncomputable def mA(T:List (Str×GT))(K:Fg)(ex:bL->eX):di->sJ
 |.nil=>m9
 |.cons e r=>cP (mE T K ex e) (mA T K ex r)
noncomputable def MZ(T:List (Str×GT))(K:Fg)(ex:bL->eX):di->bC
 |.nil=>zk
 |.cons e .nil=>mE T K ex e
 |.cons e (.cons e' r)=>Ax (mE T K ex e) (MZ T K ex (.cons e' r))
noncomputable def Pj(T:List (Str×GT))(K:Fg)(ex:bL->eX):di->bC
 |.nil=>zk
 |.cons e .nil=>mE T K ex e
 |.cons e (.cons e' r)=>VS (mE T K ex e) (Pj T K ex (.cons e' r))
noncomputable def mT(T:List (Str×GT))(K:Fg)(ex:bL->eX):CT->df
 |.cmp o a b=>aO (aG (Ab o) (mE T K ex a) (mE T K ex b))
 |.chain o o' a b c=>aO (sV (Ab o) (Ab o') (mE T K ex a) (mE T K ex b) (mE T K ex c))
 |.not t=>uT (mT T K ex t)
 |.and ts=>K9 T K ex ts
 |.or ts=>MY T K ex ts
 |.val e=>aO (mE T K ex e)
 |.lI neg a b=>aO (aG (La neg) (mE T K ex a) (mE T K ex b))
 |.rV neg a b=>aO (aG (M0 neg) (mE T K ex a) (mE T K ex b))
 |.rX neg a b=>aO (aG (BX neg) (mE T K ex a) (mE T K ex b))
noncomputable def K9(T:List (Str×GT))(K:Fg)(ex:bL->eX):tP->df
 |.nil=>VC
 |.cons e .nil=>mT T K ex e
 |.cons e (.cons e' r)=>Aj (mT T K ex e) (K9 T K ex (.cons e' r))
noncomputable def MY(T:List (Str×GT))(K:Fg)(ex:bL->eX):tP->df
 |.nil=>VC
 |.cons e .nil=>mT T K ex e
 |.cons e (.cons e' r)=>sA (mT T K ex e) (MY T K ex (.cons e' r))
noncomputable def mO(T:List (Str×GT))(K:Fg)(ex:bL->eX):CO->CP
 |.none=>TK
 |.some e=>Cj (mE T K ex e)
noncomputable def mI(T:List (Str×GT))(K:Fg)(ex:bL->eX):CI->fT
 |.any e=>Av (mE T K ex e)
 |.BA e=>Ci (cP (mE T K ex e) m9)
 |.keys e=>Ar ak (mE T K ex e)
 |.Ac e=>qL (mE T K ex e)
noncomputable def mC(T:List (Str×GT))(K:Fg):CC->df
 |.none=>Au
 |.some t=>mT T K qA t
end
abbrev isStar:ig->Bool
 |.Starred ..=>ak
 |_=>ao
abbrev isSlice:ig->Bool
 |.Slice ..=>ak
 |_=>ao
abbrev bO:ig->Bool
 |.Call (.Name id _) [] [] _=>id !=("super":Str)
 |_=>ak
abbrev isSet:ig->Bool
 |.Set ..=>ak
 |_=>ao
abbrev aHH:BF->String
 |.len=>"len"
 |.uC=>"isinstance"
 |.sum=>"sum"
 |.w8=>"sorted"
 |.DQ=>"len"
 |.Ad=>"sorted"
 |.D5=>"dict"
abbrev K8:BF->au
 |.D5=>.type "dict"
 |b=>.builtin (aHH b)
abbrev LK:BF->Bool
 |.len=>ak
 |.uC=>ak
 |.DQ=>ak
 |.w8=>ak
 |_=>ao
abbrev EM(S:SI):Bool:=(qd S.gl.length).any λk=>S.gv[k]?==aj ak&&match S.gl[k]? with
 |some (y,.bt n)=>y==("range":Str)&&n=="range"
 |_=>ao
abbrev MX(S:SI)(y:Str):Bool:=(qd S.N.length).any λi=>S.N[i]?==aj y&&S.ce[i]?==aj ak
abbrev HA:List Str->Bool
 |[]=>ak
 |x::r=>!r.contains x&&HA r
abbrev wy(S:SI)(xs:List Str)(scope:dE)(fl gv:List Bool):Bool :=
 scope.kind==.function&&scope.names.all (λy=>y.2 !=.cell&&(y.2 !=.local||scope.names.lookup y.1==aj .local)&&(y.2 !=.free||MX S y.1)) &&
 xs.all (λx=>scope.names.lookup x==aj .local&&!S.N.contains x&&x !=("__debug__":Str)&&x !=("__classdict__":Str))&&HA xs &&
 S.N.all (λy=>scope.names.lookup y !=aj .local) &&
 (qd S.N.length).all (λi=>fl[i]? !=aj ak||(S.fl[i]?==aj ak&&match S.N[i]? with
  |some y=>scope.names.lookup y==aj .free
  |none=>ao)) &&
 (qd S.gl.length).all (λk=>gv[k]? !=aj ak||match S.gl[k]? with
  |some (y,_)=>scope.names.lookup y==aj .globalImplicit
  |none=>ao)
abbrev VA:D->Const->Bool
 |.int i,.int j=>i==j
 |.str s,.str t=>s==t
 |.bl b,.bool c=>b==c
 |.ag,.none=>ak
 |_,_=>ao
abbrev plainT:ig->Bool
 |.UnaryOp .Not _ _=>ao
 |.BoolOp ..=>ao
 |.IfExp ..=>ao
 |.Compare ..=>ao
 |_=>ak
abbrev K7(S:SI)(k:Nat)(x:Str):Bool:=match S.gl[k]? with
 |some (y,.con _)=>y==x
 |some (y,.cls _)=>y==x
 |some (y,.bt _)=>y==x
 |_=>ao
abbrev Hb(S:SI)(k:Nat)(x:Str)(e:Bool):Bool:=match S.gl[k]? with
 |some (y,.fn _ _ qt)=>y==x&&(qt||S.calm)
 |some (y,.cls _)=>y==x
 |some (y,.bf b)=>y==x&&e&&(S.calm||LK b)
 |some (y,.bt _)=>y==x&&e
 |some (y,.kl _ _ _)=>y==x&&S.calm
 |_=>ao
abbrev Bz(S:SI)(k:Nat)(x:Str):Bool:=match S.gl[k]? with
 |some (_,.fl _ f)=>f==x
 |_=>ao
abbrev HQ(S:SI)(k:Nat)(x:Str):Bool:=match S.gl[k]? with
 |some (_,.me _ m _ _)=>m==x
 |_=>ao
abbrev Bx(S:SI)(k:Nat)(x:Str)(nm:String):Bool:=match S.gl[k]? with
 |some (y,.bf b)=>y==x&&K8 b==.builtin nm
 |_=>ao
abbrev HP(S:SI)(k:Nat)(x:Str)(nm:String):Bool:=match S.gl[k]? with
 |some (y,.bt n)=>y==x&&n==nm
 |_=>ao
abbrev yS:ig->Option (ig×Str×Bool)
 |.Call (.Attribute y n ap) [] [] cp=>aj (y,n,ap.endLine==cp.line)
 |_=>bh
abbrev s1:ig->Nat
 |.Call f _ _ _=>f.ctorIdx
 |.ListComp _ (g::_) _ _=>g.target.ctorIdx
 |_=>99
abbrev Gf:CE->Nat
 |.var _=>23
 |.con _=>19
 |.d4 _=>23
 |.neg _=>3
 |.DP _=>3
 |.bin _ _ _=>2
 |.cmp _ _ _=>15
 |.chain _ _ _ _ _=>15
 |.BC _=>0
 |.tup _=>25
 |.lst _=>24
 |.lL=>6
 |.ix _ _=>21
 |.call _ _=>16
 |.hX _ _ _=>16
 |.comp _ _ _ _ _=>8
 |.lI _ _ _=>15
 |.fld _ _=>20
 |.mZ _ _ _=>16
 |.ik _ _=>21
 |.rV _ _ _=>15
 |.pv _ _ _=>16
 |.wc=>6
 |.rev _ _=>21
 |.dm _ _ _ _=>16
 |.sortI _ _=>16
 |.BB _ _=>16
 |.rX _ _ _=>15
 |.DO=>6
 |.uv _ _=>21
 |.yy _ _ _=>16
 |.listI _ _=>16
 |_=>99
abbrev Gg:CE->Nat
 |.call _ _=>23
 |.hX _ _ _=>20
 |.comp _ _ _ _ _=>23
 |.mZ _ _ _=>20
 |.pv _ _ _=>20
 |.dm _ _ _ _=>20
 |.sortI _ _=>23
 |.BB _ _=>23
 |.yy _ _ _=>20
 |.listI _ _=>23
 |_=>99
abbrev ck(c:CE)(e:ig):Bool:=(Gf c==99||e.ctorIdx==Gf c)&&(Gg c==99||s1 e==Gg c)
mutual
noncomputable def k0(S:SI):CE->ig->Bool
 |.var i,.Name x _=>S.N[i]?==aj x&&S.fl[i]?==aj ak
 |.con d,.Constant c _ _=>VA d c
 |.d4 k,.Name x _=>S.gv[k]?==aj ak&&K7 S k x
 |.neg a,.UnaryOp .USub e _=>(ck a e&&k0 S a e)
 |.DP a,.UnaryOp .Not e _=>(ck a e&&k0 S a e)
 |.bin o a b,.BinOp x o' y _=>o==o'&&(ck a x&&k0 S a x)&&(ck b y&&k0 S b y)
 |.cmp o a b,.Compare x [o'] [y] _=>o==o'&&!behindInMarks o' y&&(ck a x&&k0 S a x)&&(ck b y&&k0 S b y)
 |.chain o o' a b c,.Compare x [p,p'] [y,z] _=>o==p&&o'==p'&&!lastMarks [p,p'] [y,z]&&(ck a x&&k0 S a x)&&(ck b y&&k0 S b y)&&(ck c z&&k0 S c z)
 |.BC es,.BoolOp .And xs _=>uP S es xs
 |.tup es,.Tuple xs _ _=>uP S es xs
 |.lst es,.List xs _=>uP S es xs
 |.lL,.Dict [] [] _=>ak
 |.ix a b,.Subscript x y _=>!isSlice y&&(ck a x&&k0 S a x)&&(ck b y&&k0 S b y)
 |.call k es,.Call (.Name x _) xs [] _=>uP S es xs&&S.gv[k]?==aj ak&&Hb S k x (!xs.isEmpty)
 |.hX m o es,.Call (.Attribute y n ap) xs [] cp=>n==Dl m&&bO y&&ap.endLine==cp.line&&decide (xs.length<30)&&(ck o y&&k0 S o y)&&uP S es xs
 |.comp fl gv ci cc e,.ListComp elt [⟨.Name x _,iter,ifs,a⟩] scope _=>a==0&&wy S [x] scope fl gv&&!isSet iter&&kI S ao ci iter&&kC (S.cmp [x] fl gv) cc ifs&&(ck e elt&&k0 (S.cmp [x] fl gv) e elt)
 |.lI neg a b,.Compare x [o'] [y] _=>o'==(if neg then vh.NotEq else vh.Eq)&&(ck a x&&k0 S a x)&&(ck b y&&k0 S b y)
 |.fld k o,.Attribute y n _=>Bz S k n&&bO y&&(ck o y&&k0 S o y)
 |.mZ k o es,.Call (.Attribute y n ap) xs [] cp=>HQ S k n&&S.calm&&bO y&&ap.endLine==cp.line&&decide (xs.length<30)&&(ck o y&&k0 S o y)&&uP S es xs
 |.ik a b,.Subscript x y _=>!isSlice y&&(ck a x&&k0 S a x)&&(ck b y&&k0 S b y)
 |.rV neg a b,.Compare x [o'] [y] _=>o'==(if neg then vh.NotIn else vh.In)&&!behindInMarks o' y&&(ck a x&&k0 S a x)&&(ck b y&&k0 S b y)
 |.pv o e f,.Call (.Attribute y n ap) [x,z] [] cp=>n==("get":Str)&&bO y&&ap.endLine==cp.line&&!isStar x&&!isStar z&&(ck o y&&k0 S o y)&&(ck e x&&k0 S e x)&&(ck f z&&k0 S f z)
 |.wc,.Dict [] [] _=>ak
 |.rev a k,.Subscript x (.Slice bh bh (aj y) _) _=>(ck a x&&k0 S a x)&&(ck k y&&k0 S k y)
 |.dm m o e es,.Call (.Attribute y n ap) (x::xs) [] cp=>n==KJ m&&bO y&&ap.endLine==cp.line&&decide ((x::xs).length<30)&&(ck o y&&k0 S o y)&&!isStar x&&(ck e x&&k0 S e x)&&uP S es xs
 |.sortI k o,.Call (.Name x _) [w] [] _=>S.calm&&S.gv[k]?==aj ak&&Bx S k x "sorted"&&(match yS w with
  |some (y,n,l)=>l&&n==("items":Str)&&bO y&&(ck o y&&k0 S o y)
  |none=>ao)
 |.BB k o,.Call (.Name x _) [w] [] _=>S.calm&&S.gv[k]?==aj ak&&Bx S k x "sum"&&(match yS w with
  |some (y,n,l)=>l&&n==("values":Str)&&bO y&&(ck o y&&k0 S o y)
  |none=>ao)
 |.rX neg a b,.Compare x [o'] [y] _=>o'==(if neg then vh.NotEq else vh.Eq)&&(ck a x&&k0 S a x)&&(ck b y&&k0 S b y)
 |.DO,.Dict [] [] _=>ak
 |.uv a b,.Subscript x y _=>!isSlice y&&(ck a x&&k0 S a x)&&(ck b y&&k0 S b y)
 |.yy o e f,.Call (.Attribute y n ap) [x,z] [] cp=>n==("get":Str)&&bO y&&ap.endLine==cp.line&&!isStar x&&!isStar z&&(ck o y&&k0 S o y)&&(ck e x&&k0 S e x)&&(ck f z&&k0 S f z)
 |.FY _ a,x=>(ck a x&&k0 S a x)
 |.listI k o,.Call (.Name x _) [w] [] _=>S.calm&&S.gv[k]?==aj ak&&HP S k x "list"&&(match yS w with
  |some (y,n,l)=>l&&n==("items":Str)&&bO y&&(ck o y&&k0 S o y)
  |none=>ao)
 |_,_=>ao
noncomputable def uP(S:SI):di->List ig->Bool
 |.nil,[]=>ak
 |.cons e r,x::xs=>!isStar x&&(ck e x&&k0 S e x)&&uP S r xs
 |_,_=>ao
noncomputable def kT(S:SI):CT->ig->Bool
 |.cmp o a b,.Compare x [o'] [y] _=>o==o'&&!behindInMarks o' y&&(ck a x&&k0 S a x)&&(ck b y&&k0 S b y)
 |.chain o o' a b c,.Compare x [p,p'] [y,z] _=>o==p&&o'==p'&&!lastMarks [p,p'] [y,z]&&(ck a x&&k0 S a x)&&(ck b y&&k0 S b y)&&(ck c z&&k0 S c z)
 |.not t,.UnaryOp .Not e _=>kT S t e
 |.and ts,.BoolOp .And xs _=>kH S ts xs
 |.or ts,.BoolOp .Or xs _=>kH S ts xs
 |.lI neg a b,.Compare x [o'] [y] _=>o'==(if neg then vh.NotEq else vh.Eq)&&(ck a x&&k0 S a x)&&(ck b y&&k0 S b y)
 |.rV neg a b,.Compare x [o'] [y] _=>o'==(if neg then vh.NotIn else vh.In)&&!behindInMarks o' y&&(ck a x&&k0 S a x)&&(ck b y&&k0 S b y)
 |.rX neg a b,.Compare x [o'] [y] _=>o'==(if neg then vh.NotEq else vh.Eq)&&(ck a x&&k0 S a x)&&(ck b y&&k0 S b y)
 |.val e,x=>plainT x&&(ck e x&&k0 S e x)
 |_,_=>ao
noncomputable def kH(S:SI):tP->List ig->Bool
 |.nil,[]=>ak
 |.cons e r,x::xs=>kT S e x&&kH S r xs
 |_,_=>ao
noncomputable def kO(S:SI):CO->Option ig->Bool
 |.none,bh=>ak
 |.some e,aj x=>(ck e x&&k0 S e x)
 |_,_=>ao
noncomputable def kI(S:SI)(tt:Bool):CI->ig->Bool
 |.any e,x=>(ck e x&&k0 S e x)
 |.BA e,.Call (.Name r _) [y] [] _=>r==("range":Str)&&EM S&&!isStar y&&(ck e y&&k0 S e y)
 |.keys e,x=>S.calm&&(ck e x&&k0 S e x)
 |.Ac e,x=>S.calm&&(ck e x&&k0 S e x)
 |_,_=>ao
noncomputable def kC(S:SI):CC->List ig->Bool
 |.none,[]=>ak
 |.some t,[x]=>kT S t x
 |_,_=>ao
end
abbrev kE(S:SI)(c:CE)(e:ig):Bool:=ck c e&&k0 S c e
end L4
namespace L4
open PySem PySem.Spec PyProof.Rows L2
variable{env:Env}
def aW{es:List ig}(h:isStar e=ao):jj (e::es) env=(ao,eval e env)::jj es env:=by
 cases e<;>first|rfl|(exact absurd (show ak=ao from h) (by decide))
def rE{env:Env}{pos:Pos}:∀{cs:di}{xs:List ig},uP S cs xs=ak->(ux pos (jj xs env)).any (·.1)=ao
 |.nil,[],_=>rfl
 |.nil,_::_,h=>absurd (show ao=ak from h) (by decide)
 |.cons _ _,[],h=>absurd (show ao=ak from h) (by decide)
 |.cons e r,x::xs,h=>by
  have h':(!isStar x&&kE S e x&&uP S r xs)=ak:=h;simp only[bx,gV]at h';rw[aW h'.1.1];show(ao||(ux pos (jj xs env)).any (·.1))=ao;rw[rE h'.2];rfl
def iU{o:ig}{n:Str}(h:bO o=ak):xq o n env (eval o env)=eval o env:=by
 cases o with
 |Call f args oB pos =>
  cases f with
  |Name id p =>
   cases args with
   |nil =>
    cases oB with
    |nil =>
     have h':(id !=("super":Str))=ak:=h;unfold xq;simp only[h',Bool.true_or,if_true]
    |cons _ _=>rfl
   |cons _ _=>cases oB<;>rfl
  |_=>rfl
 |_=>rfl
@[simp]def Jv:List au:=[.type "ValueError",.type "Exception",.type "BaseException",.type "object"]
abbrev UZ(X:Cx)(cm:Bool)(x:Str):GT->Prop
 |.con d=>∃u v,X.mg x=aj u/\RelV v u/\∀H,RD X.K H d v
 |.cls a=>X.mg x=aj (.ref a)/\nB X.K a Jv "ValueError.__new__"=ak
 |.fn sp n qt=>(qt=ak∨cm=ak)->∃k f fd ps,c7 qt X.prog X.w X.K X.mg X.base (m6 X.prog X.w) k f fd ps (cT X.K sp)/\lB qt k X.A/\X.mg x=aj (.ref f)/\wz X.K (.ref f)=ak/\Binds X.K fd ps []
 |.bf b=>X.mg x=bh/\qe x=aj (K8 b)
 |.bt n=>X.mg x=bh/\qe x=aj (.type n)
 |.kl C sp dd=>cm=ak->∃k f fd ps ds b7,Mk X.K C f/\c7 ao X.prog X.w X.K X.mg X.base (m6 X.prog X.w) k f fd ps (cT X.K sp)/\lB ao (k+1) X.A/\X.mg x=aj (.ref C)/\Binds X.K fd ps ds/\Vals b7 ds/\∀H,cW X.K H dd b7
 |.me C m sp dd=>cm=ak->∃k f fd ps ds b7,iE X.K C/\Meth X.K C m f/\c7 ao X.prog X.w X.K X.mg X.base (m6 X.prog X.w) k f fd ps (cT X.K sp)/\lB ao k X.A/\Binds X.K fd ps ds/\Vals b7 ds/\∀H,cW X.K H dd b7
 |.fl C f=>iE X.K C/\nA X.K C f
structure qM(X:Cx)(S:SI)(ex:bL->eX):Prop where
 N:X.N=S.N
 nd:X.N.Nodup
 AY:∀(i:Nat)(x:Str),S.N[i]?=aj x->S.fl[i]?=aj ak->CN X.env.scope x/\(x==("__debug__":Str))=ao/\(x==("__classdict__":Str))=ao
 ce:∀(i:Nat)(x:Str),S.N[i]?=aj x->S.ce[i]?=aj ak->X.env.kindOf x=aj .cell∨X.env.kindOf x=aj .free
 gm:∀(k:Nat)(x:Str)(g:GT),S.gl[k]?=aj (x,g)->(S.gv[k]?=aj ak->Gl X x)/\(x==("__debug__":Str))=ao/\x≠"__name__"/\UZ X S.calm x g
 hu:X.A.units+64<qg
 cm:S.calm=ak->X.calm=ak
 cat:nI X ex
def qM.gl{S:SI}{ex:bL->eX}(Q:qM X S ex)(k:Nat)(x:Str)(g:GT)(h:S.gl[k]?=aj (x,g))(hv:S.gv[k]?=aj ak):Gl X x/\(x==("__debug__":Str))=ao/\x≠"__name__"/\UZ X S.calm x g :=
 ⟨(Q.gm k x g h).1 hv,(Q.gm k x g h).2⟩
section
variable{X:Cx}{ex:bL->eX}
def QO:bY X e zk:=λ_ _ _ _ _ _ ⟨_,_,_,_,_,z,_⟩=>z.elim
def aAG{o:Operator}:ng X (zc o) (VB o):=by
 have no:∀{f:au->au->Sem au},ng X f (λ_ _ _ _=>False):=λ{f}=>⟨λ_ _ _ _=>False,λ_ _ _ _ _ _ _ _ _ _ _ _ h=>h.elim,λ_ _ _ _ _ _ _ _ _ _ _ h _=>h.elim⟩;exact match o with
 |.Add=>aLS
 |.Sub=>aLO
 |.Mult=>aLP
 |.FloorDiv=>aFE
 |.Mod=>aLQ
 |.Pow=>aLR
 |.MatMult=>no
 |.Div=>no
 |.LShift=>no
 |.RShift=>no
 |.BitOr=>no
 |.BitXor=>no
 |.BitAnd=>no
def CH{o:vh}(hu:X.A.units+64<qg):rA X (qb o) (Ab o):=by
 have no:∀{f:au->au->Sem au},rA X f (λ_ _ _ _=>False):=λ{f}=>yI λ_ _ _ _ _ _ _ _ _ _ _ _ _ _ _ _ _ _ _ h _=>h.elim;exact match o with
 |.Eq=>aQY hu
 |.NotEq=>aQZ hu
 |.Lt=>aQC
 |.LtE=>aQE
 |.Gt=>aQD
 |.GtE=>no
 |.Is=>no
 |.IsNot=>no
 |.In=>no
 |.NotIn=>no
private theorem aNB{n:String}:jO X (.type n) (M7 n):=by
 unfold M7;split
 ·rename_i h;subst h;exact aM5
 .skip
  exact λ_ _ _ _ _ _ _ _ _ _ _ _ _ _ h _=>h.elim
def X'{qt:Bool}{k:Nat}{x:Str}{pos:Pos}(F:c7 qt X.prog X.w X.K X.mg X.base (m6 X.prog X.w) k f fd ps (cT X.K sp))(hr:lB qt k X.A)(hg:Gl X x)(hm:X.mg x=aj (.ref f))(hk:wz X.K (.ref f)=ak)(hb:Binds X.K fd ps [])(hx:nI X ex)
  (gS:(x==("__debug__":Str))=ao):bY X (.Call (.Name x p) [] [] pos) (aQ sp ex m9):=by
 intro ψ s σ H Q I h;let⟨ρ,G,R,sr,g,q,kk⟩:=h;refine yw (qF I hg hm ?_ gS);refine NV I.de hk ?_;exact Su (E:=qc X.K (ex ρ)) F hr hb (λe s' c=>hx.Ei ψ σ H s ρ e s' I sr c) I .nil (Q:=λv H'=>∃d G',RD X.K H' d v/\HR X.K H' G'/\R d G') ⟨[],G,R,ex ρ,.nil,g,q,λv H' d G' r2 g2 q2=>⟨d,G',r2,g2,q2⟩,λC H' G' g' q'=>⟨C,G',rfl,g',q'⟩⟩ (by rintro v H' t2 ⟨d,G',r2,g2,q2⟩;exact kk v H' d G' t2 r2 g2 q2)
def yU{xs:List ig}{cs:di}(h:uP S cs xs=ak)(hl:xs.length<30):((ux cp (jj xs X.env)).all (λx=>!x.1)&&(backToKw cp (pV [] X.env)).all (λx=>x.1.isSome)
   &&decide (xs.length+([]:List iX).length+(if([]:List iX).isEmpty then 0 else 1)<30))=ak:=by
 have h1:(ux cp (jj xs X.env)).all (λx=>!x.1)=ak:=by
  rw[qx];intro y hy;have:=rE (env:=X.env) (pos:=cp) h;rw[List.any_eq_false]at this;have:=this y hy;simpa using this
 have h2:(decide (xs.length+([]:List iX).length+(if([]:List iX).isEmpty then 0 else 1)<30))=ak:=decide_eq_true (by simpa using hl);rw[h1,h2];rfl
end
end L4
namespace L4
open PySem PySem.Spec PyProof.Rows L2
variable{pos ap cp:Pos}{es:List ig}{m:MK}{cs:di}{env:Env}{neg:Bool}
section
variable{X:Cx}{S:SI}{ex:bL->eX}
def aHJ{c:Const}{j:Nat}(h:VA d c=ak):bY X (.Constant c j pos) (lZ d):=by
 cases d<;>cases c<;>first|exact absurd (show ao=ak from h) (by decide)|skip
 .exact aLA
 .have:=beq_iff_eq.mp h;subst this;exact aQ8
 .have:=beq_iff_eq.mp h;subst this;exact aL9
 .have:=beq_iff_eq.mp h;subst this;exact aLB
def aHK{e:ig}(h:plainT e=ak):∀whole,isTrue e X.env whole=(do let v ←whole;standAt e.pos;holding [v] (truthy v)):=by
 cases e with
 |UnaryOp op x p=>cases op<;>first|exact absurd (show ao=ak from h) (by decide)|(intro _;rfl)
 |BoolOp _ _ _=>exact absurd (show ao=ak from h) (by decide)
 |IfExp _ _ _ _=>exact absurd (show ao=ak from h) (by decide)
 |Compare _ _ _ _=>exact absurd (show ao=ak from h) (by decide)
 |_=>intro _;rfl
def K6(h:isSlice e=ao):Mw e:=by
 cases e with
 |Slice _ _ _ _=>exact absurd (show ak=ao from h) (by decide)
 |_=>intro _ _;rfl
def aNC(Q:qM X S ex){k:Nat}{x:Str}{b:BF}(hk:S.gl[k]?=aj (x,.bf b))(hv:S.gv[k]?=aj ak)(hc:(S.calm||LK b)=ak){t:sJ}(ha:ff X (e::es) t)(he:isStar e=ao)(hp:(ux pos (jj es X.env)).any (·.1)=ao):bY X (.Call (.Name x p) (e::es) [] pos) (jP (U0 X.K b) t):=by
 let⟨h1,h2,h3,h4⟩:=Q.gl _ _ _ hk hv
 have cm:LK b=ao->X.calm=ak:=λz=>by
  rw[z,Bool.or_false]at hc;exact Q.cm hc
 cases b with
 |len=>exact CL aM4 h1 h4.1 h4.2 ha h3 h2 (aW he) hp
 |uC=>exact CL aeK h1 h4.1 h4.2 ha h3 h2 (aW he) hp
 |sum=>exact CL (aMG (cm rfl)) h1 h4.1 h4.2 ha h3 h2 (aW he) hp
 |w8=>exact CL (λ_ _ _ _ _ _ _ _ _ _ _ _ _ _ q _=>q.elim) h1 h4.1 h4.2 ha h3 h2 (aW he) hp
 |DQ=>exact CL aGG h1 h4.1 h4.2 ha h3 h2 (aW he) hp
 |Ad=>exact CL (Y' (cm rfl)) h1 h4.1 h4.2 ha h3 h2 (aW he) hp
 |D5=>exact TB (aA0 (cm rfl)) h1 h4.1 h4.2 ha h3 h2 (aW he) hp
def aAH{o:ig}(ho:bY X o to)(hb:bO o=ak)(hl:(ap.endLine==cp.line)=ak):bY X (.Call (.Attribute o (Dl m) ap) [] [] cp) (Ni (F8 m) (F9 m) to):=by
 cases m with
 |append=>exact VO PySem.F.plainAttrs_list PySem.F.slot_list_append PySem.F.type_list_append Tx ho (iU hb) hl
 |Ca=>exact VO PySem.F.plainAttrs_list PySem.F.slot_list_index PySem.F.type_list_index S9 ho (iU hb) hl
def V'{o:ig}{t:sJ}(ho:bY X o to)(ha:ff X (e::es) t)(hb:bO o=ak)(hl:(ap.endLine==cp.line)=ak)(hk:uP S cs (e::es)=ak)(hn:(e::es).length<30) :
  bY X (.Call (.Attribute o (Dl m) ap) (e::es) [] cp) (C4 (F8 m) (F9 m) to t):=by
 have he:isStar e=ao:=by
  cases cs with
  |nil=>exact absurd (show ao=ak from hk) (by decide)
  |cons c r =>
   have h':(!isStar e&&kE S c e&&uP S r es)=ak:=hk;simp only[bx,gV]at h';exact h'.1.1
 have hp:(ux cp (jj es X.env)).any (·.1)=ao:=by
  have:=rE (env:=X.env) (pos:=cp) hk;rw[aW he]at this;have z:(ao||(ux cp (jj es X.env)).any (·.1))=ao:=this;simpa using z
 cases m with
 |append=>exact U5 PySem.F.plainAttrs_list PySem.F.slot_list_append PySem.F.type_list_append Tx ho ha (iU hb) (yU hk hn) hl (aW he) hp
 |Ca=>exact U5 PySem.F.plainAttrs_list PySem.F.slot_list_index PySem.F.type_list_index S9 ho ha (iU hb) (yU hk hn) hl (aW he) hp
def aND{m:DM}{o:ig}{t:sJ}(hu:X.A.units+64<qg)(ho:bY X o to)(ha:ff X (e::es) t)(hb:bO o=ak)(hl:(ap.endLine==cp.line)=ak)(hk:uP S cs (e::es)=ak)(hn:(e::es).length<30) :
  bY X (.Call (.Attribute o (KJ m) ap) (e::es) [] cp) (sk (Qh m) to t):=by
 have he:isStar e=ao:=by
  cases cs with
  |nil=>exact absurd (show ao=ak from hk) (by decide)
  |cons c r =>
   have h':(!isStar e&&kE S c e&&uP S r es)=ak:=hk;simp only[bx,gV]at h';exact h'.1.1
 have hp:(ux cp (jj es X.env)).any (·.1)=ao:=by
  have:=rE (env:=X.env) (pos:=cp) hk;rw[aW he]at this;have z:(ao||(ux cp (jj es X.env)).any (·.1))=ao:=this;simpa using z
 cases m with
 |C6=>exact Nd PySem.F.slot_dict_setdefault PySem.F.type_dict_setdefault (aMN hu) ho ha (iU hb) (yU hk hn) hl (aW he) hp
 |FZ=>exact Nd PySem.F.slot_dict_setdefault PySem.F.type_dict_setdefault (aN6 hu) ho ha (iU hb) (yU hk hn) hl (aW he) hp
 |pop=>exact Nd PySem.F.slot_dict_pop PySem.F.type_dict_pop (aGF hu) ho ha (iU hb) (yU hk hn) hl (aW he) hp
local macro_rules| `(tactic| walk_at "off")=>`(tactic| exact absurd (show ao=ak from by assumption) (by decide))
private theorem aHL(Q:qM X S ex){k:Nat}{x:Str}(h:kE S (.d4 k) (.Name x p)=ak):bY X (.Name x p) (M6 S.gl k):=by
 have h':(S.gv[k]?==aj ak&&K7 S k x)=ak:=h;rw[bx]at h';let⟨hv,h⟩:=h';have hv:=beq_iff_eq.mp hv;unfold K7 at h;unfold M6;split at h
 .rename_i y d hk;have:=beq_iff_eq.mp h;subst this;let⟨h1,h2,h3,u,v,h4,h5,h6⟩:=Q.gl _ _ _ hk hv;exact Rk h1 h4 h5 h6 h2
 .rename_i y d hk;have:=beq_iff_eq.mp h;subst this;let⟨h1,h2,h3,h4⟩:=Q.gl _ _ _ hk hv;exact Rk h1 h4.1 (v:=.ref d) rfl (λ_=>.ref _) h2
 .rename_i y d hk;have:=beq_iff_eq.mp h;subst this;let⟨h1,h2,h3,h4⟩:=Q.gl _ _ _ hk hv;exact aF9 h1 h4.1 h4.2 h3 h2
 .exact absurd h (by decide)
private theorem aAI(Q:qM X S ex){k:Nat}{es:di}{x:Str}{xs:List ig}(ha:ff X xs (mA S.gl X.K ex es))(hk:uP S es xs=ak)(hv:S.gv[k]?=aj ak)(h:Hb S k x (!xs.isEmpty)=ak):bY X (.Call (.Name x p) xs [] pos) (M5 S.gl X.K ex k (mA S.gl X.K ex es)):=by
 unfold Hb at h;unfold M5
 have one:∀{e:ig}{r:List ig},xs=e::r->isStar e=ao/\(ux pos (jj r X.env)).any (·.1)=ao:=λ{e r} z=>by
  subst z;cases es with
  |nil=>exact absurd (show ao=ak from hk) (by decide)
  |cons c cr =>
   have h':(!isStar e&&kE S c e&&uP S cr r)=ak:=hk;simp only[bx,gV]at h';exact⟨h'.1.1,rE h'.2⟩
 split at h
 .rename_i y sp n qt hg;rw[bx]at h;let⟨h,hc⟩:=h;have:=beq_iff_eq.mp h;subst this;let⟨h1,h2,h3,h4⟩:=Q.gl _ _ _ hg hv;let⟨j,f,fd,ps,F,hr,hm,vj,hb⟩:=h4 (Ir _ _ |>.mp hc);cases xs with
  |nil =>
   cases es with
   |nil=>exact X' F hr h1 hm vj hb Q.cat h2
   |cons _ _=>exact absurd (show ao=ak from hk) (by decide)
  |cons e r=>exact Zb F hr h1 hm vj hb Q.cat ha h2 (aW (one rfl).1) (one rfl).2
 .rename_i y a hg;have:=beq_iff_eq.mp h;subst this;let⟨h1,h2,h3,h4,h5⟩:=Q.gl _ _ _ hg hv;cases xs with
  |nil =>
   cases es with
   |nil=>exact aG7 PySem.F.excBase_ValueError (by decide) PySem.F.excBase_ValueError h1 h4 h5 h2
   |cons _ _=>exact absurd (show ao=ak from hk) (by decide)
  |cons e r=>exact aMJ PySem.F.excBase_ValueError (by decide) PySem.F.excBase_ValueError h1 h4 h5 ha h2 (aW (one rfl).1) (one rfl).2
 .rename_i y b hg;rw[bx,bx]at h;let⟨⟨h,hc⟩,gT⟩:=h;have:=beq_iff_eq.mp h;subst this;cases xs with
  |nil=>exact absurd (show ao=ak from hc) (by decide)
  |cons e r=>exact aNC Q hg hv gT ha (one rfl).1 (one rfl).2
 .rename_i y n hg;rw[bx]at h;let⟨h,hc⟩:=h;have:=beq_iff_eq.mp h;subst this;let⟨h1,h2,h3,h4⟩:=Q.gl _ _ _ hg hv;cases xs with
  |nil=>exact absurd (show ao=ak from hc) (by decide)
  |cons e r=>exact TB aNB h1 h4.1 h4.2 ha h3 h2 (aW (one rfl).1) (one rfl).2
 .rename_i y C sp dd hg;rw[bx]at h;let⟨h,hc⟩:=h;have:=beq_iff_eq.mp h;subst this;let⟨h1,h2,h3,h4⟩:=Q.gl _ _ _ hg hv;let⟨kk,f,fd,ps,ds,b7,q1,q2,q3,q4,q5,q6,q7⟩:=h4 hc;cases xs with
  |nil =>
   cases es with
   |nil=>exact atQ q1 q2 q3 h1 q4 q5 q6 q7 Q.cat h2
   |cons _ _=>exact absurd (show ao=ak from hk) (by decide)
  |cons e r=>exact YZ q1 q2 q3 h1 q4 q5 q6 q7 Q.cat ha h2 (aW (one rfl).1) (one rfl).2
 .exact absurd h (by decide)
def rF{names:List (Str×yg)}{k:yg}(h:names.lookup y=aj k) :
  (names.map λ(n,k)=>if(k==.free&&env.scope.kind==.function&&env.kindOf n==aj .cell)then(n,.cell)else(n,k)).lookup y=aj k ∨
  (k=.free/\(names.map λ(n,k)=>if(k==.free&&env.scope.kind==.function&&env.kindOf n==aj .cell)then(n,.cell)else(n,k)).lookup y=aj .cell):=by
 induction names with
 |nil=>simp at h
 |cons p r ih =>
  let⟨n,kd⟩:=p;rw[vq]at h;show zu y ((if(kd==.free&&env.scope.kind==.function&&env.kindOf n==aj .cell)=ak then(n,yg.cell)else(n,kd))::_)=aj k∨(k=.free/\zu y ((if(kd==.free&&env.scope.kind==.function&&env.kindOf n==aj .cell)=ak then(n,yg.cell)else(n,kd))::_)=aj .cell);cases hx:y==n with
  |true =>
   rw[hx]at h;have Gs:kd=k:=by simpa using h
   subst Gs;by_cases hc:(kd==.free&&env.scope.kind==.function&&env.kindOf n==aj .cell)=ak
   .rw[if_pos hc,vq,hx];refine .inr ⟨?_,rfl⟩;simp only[bx,beq_iff_eq]at hc;exact hc.1.1
   .rw[if_neg hc,vq,hx];exact .inl rfl
  |false =>
   rw[hx]at h;have z:=ih h;by_cases hc:(kd==.free&&env.scope.kind==.function&&env.kindOf n==aj .cell)=ak
   .rw[if_pos hc,vq,hx];exact z
   .rw[if_neg hc,vq,hx];exact z
def Ue:∀{xs:List Str},HA xs=ak->xs.Nodup
 |[],_=>tj
 |x::r,h=>by
  have h':(!r.contains x&&HA r)=ak:=h;rw[bx]at h';exact yc.mpr ⟨by simpa using h'.1,Ue h'.2⟩
def Wi{xs:List Str}{scope:dE}{fl gv:List Bool}(h:wy S xs scope fl gv=ak) :
  scope.kind=.function/\(∀y∈scope.names,y.2≠.cell/\(y.2=.local->scope.names.lookup y.1=aj .local)/\(y.2=.free->MX S y.1=ak)) /\
  (∀x∈xs,scope.names.lookup x=aj .local/\x∉S.N/\(x==("__debug__":Str))=ao/\(x==("__classdict__":Str))=ao)/\xs.Nodup/\(∀y∈S.N,scope.names.lookup y≠aj .local) /\
  (∀(i:Nat)(y:Str),S.N[i]?=aj y->fl[i]?=aj ak->S.fl[i]?=aj ak/\scope.names.lookup y=aj .free) /\
  ∀(k:Nat)(y:Str)(g:GT),S.gl[k]?=aj (y,g)->gv[k]?=aj ak->scope.names.lookup y=aj .globalImplicit:=by
 unfold wy at h;simp only[bx]at h;let⟨⟨⟨⟨⟨⟨h1,h2⟩,h3⟩,h4⟩,h5⟩,h8⟩,h9⟩:=h;refine⟨beq_iff_eq.mp h1,λy hy=>?_,λx hx=>?_,Ue h4,λy hy=>?_,λi y e1 e2=>?_,λk y g e1 e2=>?_⟩
 .have z:=qx.mp h2 y hy;simp only[bx,bne_iff_ne,ne_eq,Ir,beq_iff_eq]at z;let⟨⟨z1,z2⟩,z3⟩:=z;exact⟨z1,λe=>z2.resolve_left λn=>n e,λe=>z3.resolve_left λn=>n e⟩
 .have z:=qx.mp h3 x hx;simp only[bx]at z;let⟨⟨⟨z1,z2⟩,z3⟩,z4⟩:=z;exact⟨beq_iff_eq.mp z1,by simpa using z2,by simpa using z3,by simpa using z4⟩
 .have z:=qx.mp h5 y hy;simpa using z
 .have z:=qx.mp h8 i (zq.mpr (iz.mp e1).1);rw[e2,e1]at z;simpa using z
 .have z:=qx.mp h9 k (zq.mpr (iz.mp e1).1);rw[e2,e1]at z;simpa using z
def uY(Q:qM X S ex){fl gv:List Bool}(h:wy S xs scope fl gv=ak):yK X xs scope:=by
 let⟨h1,h2,h3,h4,h5,h8,h9⟩:=Wi h;refine⟨h1,λy hy=>(h2 y hy).1,λy hy=>(h2 y hy).2.1,λx hx=>(h3 x hx).1,λy hy e=>?_,λx hx=>by rw[Q.N];exact(h3 x hx).2.1,h4,by rw[Q.N];exact h5⟩;have z:=(h2 y hy).2.2 e;unfold MX at z;let⟨i,_,z⟩:=List.any_eq_true.mp z;rw[bx]at z;exact Q.ce i y.1 (beq_iff_eq.mp z.1) (beq_iff_eq.mp z.2)
def QN{X:Cx}:nI X qA:=⟨by rintro _ _ _ _ _ _ _ _ _ ⟨_,_,_,_,_,_,_,_,_,_,_,_,_,_,_,_,z⟩;exact z.elim⟩
def Ud{α:Type}{xs ys:List α}{i:Nat}{y:α}(h:(xs++ys)[i]?=aj y):(i<xs.length/\y∈xs)∨∃j,i=xs.length+j/\ys[j]?=aj y:=by
 by_cases c:i<xs.length
 .rw[Fd c]at h;exact .inl ⟨c,jm h⟩
 .rw[zj ⋯]at h;exact .inr ⟨i - xs.length,⋯,h⟩
def RX{α β:Type}{xs:List α}{f:α->β}{ys:List β}{j:Nat}:(xs.map f++ys)[xs.length+j]?=ys[j]?:=by
 rw[zj (by simp)];congr 1;simp
def qM.cmp(Q:qM X S ex){fl gv:List Bool}(h:wy S xs scope fl gv=ak)(C:bw)(s:cg)(H:Hp)(fp:List bw)(ψ:List (bw×Obj)):qM (qI X xs scope C s H fp ψ) (S.cmp xs fl gv) qA:=by
 let⟨h1,h2,h3,h4,h5,h8,h9⟩:=Wi h;refine⟨by show xs++X.N=xs++S.N;rw[Q.N],Q8 (uY Q h) Q.nd,λi y e1 e2=>?_,λi y e1 e2=>?_,λk y g e1=>?_,Q.hu,Q.cm,QN⟩
 .rcases Ud e1 with⟨_,m⟩|⟨j,rfl,rS⟩
  .obtain⟨a1,a2,a3,a4⟩:=h3 y m;exact⟨.inl (lookup_relabel_local a1),a3,a4⟩
  .have pj:fl[j]?=aj ak:=RX.symm.trans e2;let⟨a1,a2⟩:=h8 j y rS pj;let⟨_,b2,b3⟩:=Q.AY j y rS a1;refine⟨?_,b2,b3⟩;rcases rF (env:=X.env) a2 with z|⟨_,z⟩
   .exact .inr (.inr z)
   .exact .inr (.inl z)
 .rcases Ud e1 with⟨c,m⟩|⟨j,rfl,rS⟩
  .have pj:(xs.map (λ_=>ao)++fl)[i]?=aj ak:=e2;rw[Fd (by simpa using c)]at pj;simp at pj
  .have pj:fl[j]?=aj ak:=RX.symm.trans e2;let⟨a1,a2⟩:=h8 j y rS pj;rcases rF (env:=X.env) a2 with z|⟨_,z⟩
   .exact .inr z
   .exact .inl z
 .obtain⟨b1,b2,b3,b4⟩:=Q.gm k y g e1;refine⟨λe2=>?_,b2,b3,?_⟩
  .rcases rF (env:=X.env) (h9 k y g e1 e2)with z|⟨z,_⟩
   .exact z
   .cases z
  .cases g<;>exact b4
def RW{o:vh}(hu:X.A.units+64<qg)(h:(o==(if neg then vh.NotEq else vh.Eq))=ak):rA X (qb o) (La neg):=by
 have:=beq_iff_eq.mp h;subst this;cases neg with
 |true=>exact aMI hu
 |false=>exact aMH hu
private theorem S0(Q:qM X S ex)(h:EM S=ak):Gl X "range"/\X.mg "range"=bh:=by
 unfold EM at h;let⟨k,_,h⟩:=List.any_eq_true.mp h;rw[bx]at h;let⟨hv,h⟩:=h;split at h
 .rename_i y n e;rw[bx]at h;have:=beq_iff_eq.mp h.1;subst this;let⟨g1,g2,g3,g4⟩:=Q.gl _ _ _ e (beq_iff_eq.mp hv);exact⟨g1,g4.1⟩
 .exact absurd h (by decide)
private theorem RV{k:Nat}{x:Str}(h:Bz S k x=ak):∃y C,S.gl[k]?=aj (y,.fl C x):=by
 unfold Bz at h;split at h
 .rename_i y C f e;have:=beq_iff_eq.mp h;subst this;exact⟨y,C,e⟩
 .exact absurd h (by decide)
private theorem aAJ{k:Nat}{x:Str}(h:HQ S k x=ak):∃y C sp dd,S.gl[k]?=aj (y,.me C x sp dd):=by
 unfold HQ at h;split at h
 .rename_i y C m sp dd e;have:=beq_iff_eq.mp h;subst this;exact⟨y,C,sp,dd,e⟩
 .exact absurd h (by decide)
def QM{o:vh}(hu:X.A.units+64<qg)(h:(o==(if neg then vh.NotIn else vh.In))=ak):rA X (qb o) (M0 neg):=by
 have:=beq_iff_eq.mp h;subst this;cases neg with
 |true=>exact aG9 hu
 |false=>exact aMM hu
def aAK{o:ig}{m:Str}{args:List ig}(hb:xq o m env (eval o env)=eval o env)(hf:((ux cp (jj args env)).all (λx=>!x.1)&&(backToKw cp (pV [] env)).all (λx=>x.1.isSome)
   &&decide (args.length+([]:List iX).length+(if([]:List iX).isEmpty then 0 else 1)<30))=ak)(hl:(ap.endLine==cp.line)=ak):∃pl:Sem Bool,eval (.Call (.Attribute o m ap) args [] cp) env=(do
   let ov ←eval o env
   standAt ap.atName
   let(f,first) ←holding [ov] (getMethod ov m pl)
   callWith cp f first (ux cp (jj args env)) (backToKw cp (pV [] env))):=by
 rw[arm_eval_Call,hb];have FP:methodCallForm (args.length+([]:List iX).length) (ux cp (jj args env)) (backToKw cp (pV [] env))=ak:=hf;have Fw:methodCallPos ak o env ap cp=pure cp:=by unfold methodCallPos;simp[hl]
 refine⟨?_,?_⟩
 rotate_left
 .unfold methodCall;rw[FP];simp only[Fw,pure_bind];rfl
private theorem RU(Q:qM X S ex){k:Nat}{x:Str}{nm:String}(h:Bx S k x nm=ak)(hv:S.gv[k]?=aj ak):Gl X x/\X.mg x=bh/\qe x=aj (.builtin nm)/\x≠"__name__"/\(x==("__debug__":Str))=ao:=by
 unfold Bx at h;split at h
 .rename_i y b e;rw[bx]at h;have e1:=beq_iff_eq.mp h.1;have e2:=beq_iff_eq.mp h.2;subst e1;let⟨g1,g2,g3,g4⟩:=Q.gl _ _ _ e hv;exact⟨g1,g4.1,by rw[←e2];exact g4.2,g3,g2⟩
 .exact absurd h (by decide)
private theorem aAL(Q:qM X S ex){k:Nat}{x:Str}{nm:String}(h:HP S k x nm=ak)(hv:S.gv[k]?=aj ak):Gl X x/\X.mg x=bh/\qe x=aj (.type nm)/\x≠"__name__"/\(x==("__debug__":Str))=ao:=by
 unfold HP at h;split at h
 .rename_i y b e;rw[bx]at h;have e1:=beq_iff_eq.mp h.1;have e2:=beq_iff_eq.mp h.2;subst e1;let⟨g1,g2,g3,g4⟩:=Q.gl _ _ _ e hv;exact⟨g1,g4.1,by rw[←e2];exact g4.2,g3,g2⟩
 .exact absurd h (by decide)
def Nv{w:ig}{n:Str}{l:Bool}(h:yS w=aj (y,n,l)):∃ap cp,w=.Call (.Attribute y n ap) [] [] cp/\l=(ap.endLine==cp.line):=by
 unfold yS at h;split at h
 .cases h;exact⟨_,_,rfl,rfl⟩
 .cases h
def QL{o:vh}(hu:X.A.units+64<qg)(h:(o==(if neg then vh.NotEq else vh.Eq))=ak):rA X (qb o) (BX neg):=by
 have:=beq_iff_eq.mp h;subst this;exact aMZ hu
def K5(h:isSet e=ao):∀x,E4 e env x=pure x:=by
 cases e<;>first|(intro _;rfl)|exact absurd (show ak=ao from h) (by decide)
end
end L4
namespace L4
open PySem PySem.Spec PyProof.Rows L2
def aX{P:Prop}(h:ao=ak):P:=absurd h (by decide)
variable{r:Bool}
def ix{c:CE}{e:ig}(h:(ck c e&&r)=ak)(z:(Gf c==99)=ao:=by rfl):e.ctorIdx=Gf c:=by
 unfold ck at h;rw[z,EJ,bx,bx]at h;exact beq_iff_eq.mp h.1.1
def iy{c:CE}(h:(ck c e&&r)=ak)(z:(Gg c==99)=ao:=by rfl):s1 e=Gg c:=by
 unfold ck at h;rw[z,EJ,bx,bx]at h;exact beq_iff_eq.mp h.1.2
def al7{e:ig}(h:e.ctorIdx=0):∃o l p,e=.BoolOp o l p:=Expr.BoolOp.elim (motive_1:=(∃o l p,· =.BoolOp o l p)) e h λ_ _ _=>⟨_,_,_,rfl⟩
def aqN{e:ig}(h:e.ctorIdx=2):∃x o y p,e=.BinOp x o y p:=Expr.BinOp.elim (motive_1:=(∃x o y p,· =.BinOp x o y p)) e h λ_ _ _ _=>⟨_,_,_,_,rfl⟩
def Wh{e:ig}(h:e.ctorIdx=3):∃o x p,e=.UnaryOp o x p:=Expr.UnaryOp.elim (motive_1:=(∃o x p,· =.UnaryOp o x p)) e h λ_ _ _=>⟨_,_,_,rfl⟩
def Nu{e:ig}(h:e.ctorIdx=6):∃k l p,e=.Dict k l p:=Expr.Dict.elim (motive_1:=(∃k l p,· =.Dict k l p)) e h λ_ _ _=>⟨_,_,_,rfl⟩
def Ww{e:ig}(h:e.ctorIdx=8):∃x l s p,e=.ListComp x l s p:=Expr.ListComp.elim (motive_1:=(∃x l s p,· =.ListComp x l s p)) e h λ_ _ _ _=>⟨_,_,_,_,rfl⟩
def oR{e:ig}(h:e.ctorIdx=15):∃x o l p,e=.Compare x o l p:=Expr.Compare.elim (motive_1:=(∃x o l p,· =.Compare x o l p)) e h λ_ _ _ _=>⟨_,_,_,_,rfl⟩
def j6{e:ig}(h:e.ctorIdx=16):∃f l k p,e=.Call f l k p:=Expr.Call.elim (motive_1:=(∃f l k p,· =.Call f l k p)) e h λ_ _ _ _=>⟨_,_,_,_,rfl⟩
def af2{e:ig}(h:e.ctorIdx=19):∃c j p,e=.Constant c j p:=Expr.Constant.elim (motive_1:=(∃c j p,· =.Constant c j p)) e h λ_ _ _=>⟨_,_,_,rfl⟩
def dN{e:ig}(h:e.ctorIdx=20):∃y n p,e=.Attribute y n p:=Expr.Attribute.elim (motive_1:=(∃y n p,· =.Attribute y n p)) e h λ_ _ _=>⟨_,_,_,rfl⟩
def iK{e:ig}(h:e.ctorIdx=21):∃x y p,e=.Subscript x y p:=Expr.Subscript.elim (motive_1:=(∃x y p,· =.Subscript x y p)) e h λ_ _ _=>⟨_,_,_,rfl⟩
def gY{e:ig}(h:e.ctorIdx=23):∃x p,e=.Name x p:=Expr.Name.elim (motive_1:=(∃x p,· =.Name x p)) e h λ_ _=>⟨_,_,rfl⟩
def U'{e:ig}(h:e.ctorIdx=24):∃l p,e=.List l p:=Expr.List.elim (motive_1:=(∃l p,· =.List l p)) e h λ_ _=>⟨_,_,rfl⟩
def Uc{e:ig}(h:e.ctorIdx=25):∃l j p,e=.Tuple l j p:=Expr.Tuple.elim (motive_1:=(∃l j p,· =.Tuple l j p)) e h λ_ _ _=>⟨_,_,_,rfl⟩
mutual
theorem fU{X:Cx}{S:SI}{ex:bL->eX}(Q:qM X S ex):∀(c:CE)(e:ig),kE S c e=ak->bY X e (mE S.gl X.K ex c)
 |.var i,e,h=>by
  let⟨x,p,rfl⟩:=gY (ix h);have h':(S.N[i]?==aj x&&S.fl[i]?==aj ak)=ak:=h;rw[bx]at h';have e1:=beq_iff_eq.mp h'.1;let⟨v1,v2,v3⟩:=Q.AY i x e1 (beq_iff_eq.mp h'.2);exact aL8 i (by rw[Q.N];exact e1) v1 v2 v3
 |.con d,e,h=>by
  let⟨c,j,p,rfl⟩:=af2 (ix h);exact aHJ h
 |.d4 k,e,h=>by
  let⟨x,p,rfl⟩:=gY (ix h);exact aHL Q h
 |.neg a,e,h=>by
  let⟨op,x,p,rfl⟩:=Wh (ix h);cases op with
  |USub=>exact aM0 (fU Q a x h)
  |_=>exact aX h
 |.DP a,e,h=>by
  let⟨op,x,p,rfl⟩:=Wh (ix h);cases op with
  |Not=>exact aLJ (fU Q a x h)
  |_=>exact aX h
 |.bin o a b,e,h=>by
  let⟨x,o',y,p,rfl⟩:=aqN (ix h);have h':(o==o'&&kE S a x&&kE S b y)=ak:=h;simp only[bx]at h';have:=beq_iff_eq.mp h'.1.1;subst this;exact aQ9 aAG (fU Q a x h'.1.2) (fU Q b y h'.2)
 |.cmp o a b,e,h=>by
  let⟨x,ops,ys,p,rfl⟩:=oR (ix h)
  match ops,ys,h with
  |[o'],[y],h =>
   have h':(o==o'&&!behindInMarks o' y&&kE S a x&&kE S b y)=ak:=h;simp only[bx,gV]at h';have:=beq_iff_eq.mp h'.1.1.1;subst this;exact Hn (CH Q.hu) (fU Q a x h'.1.2) (fU Q b y h'.2) h'.1.1.2
  |[],_,h=>exact aX h
  |_::_::_,_,h=>exact aX h
  |[_],[],h=>exact aX h
  |[_],_::_::_,h=>exact aX h
 |.chain o o' a b c,e,h=>by
  let⟨x,ops,ys,p,rfl⟩:=oR (ix h)
  match ops,ys,h with
  |[p1,p2],[y,z],h =>
   have h':(o==p1&&o'==p2&&!lastMarks [p1,p2] [y,z]&&kE S a x&&kE S b y&&kE S c z)=ak:=h;simp only[bx,gV]at h';have e1:=beq_iff_eq.mp h'.1.1.1.1.1;have e2:=beq_iff_eq.mp h'.1.1.1.1.2;subst e1;subst e2;exact Zf (CH Q.hu) (CH Q.hu) (fU Q a x h'.1.1.2) (fU Q b y h'.1.2) (fU Q c z h'.2) h'.1.1.1.2
  |[],_,h=>exact aX h
  |[_],_,h=>exact aX h
  |_::_::_::_,_,h=>exact aX h
  |[_,_],[],h=>exact aX h
  |[_,_],[_],h=>exact aX h
  |[_,_],_::_::_::_,h=>exact aX h
 |.BC es,e,h=>by
  let⟨op,xs,p,rfl⟩:=al7 (ix h);cases op with
  |And=>exact Vz Q es xs p h
  |Or=>exact aX h
 |.tup es,e,h=>by
  let⟨xs,j,p,rfl⟩:=Uc (ix h);exact aLK (uj Q es xs h)
 |.lst es,e,h=>by
  let⟨xs,p,rfl⟩:=U' (ix h);exact aLL (uj Q es xs h)
 |.lL,e,h=>by
  let⟨ks,vs,p,rfl⟩:=Nu (ix h)
  match ks,vs,h with
  |[],[],_=>exact aFT
  |_::_,_,h=>exact aX h
  |[],_::_,h=>exact aX h
 |.ix a b,e,h=>by
  let⟨x,y,p,rfl⟩:=iK (ix h);have h':(!isSlice y&&kE S a x&&kE S b y)=ak:=h;simp only[bx,gV]at h';exact aQF (fU Q a x h'.1.2) (fU Q b y h'.2) (K6 h'.1.1)
 |.call k es,e,h=>by
  have jz:=iy h;let⟨f,xs,oB,p,rfl⟩:=j6 (ix h);let⟨x,q,rfl⟩:=gY jz;cases oB with
  |nil =>
   have h':(uP S es xs&&S.gv[k]?==aj ak&&Hb S k x (!xs.isEmpty))=ak:=h;simp only[bx]at h';exact aAI Q (uj Q es xs h'.1.1) h'.1.1 (beq_iff_eq.mp h'.1.2) h'.2
  |cons _ _=>exact aX h
 |.hX m o .nil,e,h=>by
  have jz:=iy h;let⟨f,xs,oB,p,rfl⟩:=j6 (ix h);let⟨y,n,ap,rfl⟩:=dN jz;cases oB with
  |nil =>
   have h':(n==Dl m&&bO y&&ap.endLine==p.line&&decide (xs.length<30)&&kE S o y&&uP S .nil xs)=ak:=h;simp only[bx]at h';let⟨⟨⟨⟨⟨h1,h2⟩,h3⟩,h4⟩,h5⟩,h6⟩:=h';have:=beq_iff_eq.mp h1;subst this;cases xs with
   |nil=>exact aAH (fU Q o y h5) h2 h3
   |cons _ _=>exact aX h6
  |cons _ _=>exact aX h
 |.hX m o (.cons c r),e,h=>by
  have jz:=iy h;let⟨f,xs,oB,p,rfl⟩:=j6 (ix h);let⟨y,n,ap,rfl⟩:=dN jz;cases oB with
  |nil =>
   have h':(n==Dl m&&bO y&&ap.endLine==p.line&&decide (xs.length<30)&&kE S o y&&uP S (.cons c r) xs)=ak:=h;simp only[bx]at h';let⟨⟨⟨⟨⟨h1,h2⟩,h3⟩,h4⟩,h5⟩,h6⟩:=h';have:=beq_iff_eq.mp h1;subst this;cases xs with
   |nil=>exact aX h6
   |cons x xs =>
    have h7:(!isStar x&&kE S c x&&uP S r xs)=ak:=h6;simp only[bx,gV]at h7;exact V' (fU Q o y h5) (Aw (fU Q c x h7.1.2) (uj Q r xs h7.2) (aW h7.1.1)) h2 h3 h6 (of_decide_eq_true h4)
  |cons _ _=>exact aX h
 |.comp fl gv ci cc c,e,h=>by
  have jz:=iy h;let⟨elt,gens,scope,p,rfl⟩:=Ww (ix h);cases gens with
  |nil=>exact aX h
  |cons g gr =>
   let⟨tg,it,ifs,a⟩:=g;let⟨x,px,rfl⟩:=gY jz;cases gr with
   |cons _ _=>exact aX h
   |nil =>
    have h':(a==0&&wy S [x] scope fl gv&&!isSet it&&kI S ao ci it&&kC (S.cmp [x] fl gv) cc ifs&&kE (S.cmp [x] fl gv) c elt)=ak:=h;simp only[bx,gV]at h';let⟨⟨⟨⟨⟨h2,h3⟩,h4⟩,h5⟩,h6⟩,h7⟩:=h';have:=beq_iff_eq.mp h2;subst this;exact Sn (uY Q h3) (λC s H fp ψ σ=>Q7 (uY Q h3) Q.nd) Tv (O6 (tt:=false) Q (λz=>nomatch z) ci it h5) (λC s H fp ψ=>O7 (Q.cmp h3 C s H fp ψ) cc ifs h6) (λC s H fp ψ=>fU (Q.cmp h3 C s H fp ψ) c elt h7) (K5 h4)
 |.fld k c,e,h=>by
  let⟨y,n,p,rfl⟩:=dN (ix h);have h':(Bz S k n&&bO y&&kE S c y)=ak:=h;simp only[bx]at h';let⟨z,C,hg⟩:=RV h'.1.1;let⟨_,_,_,g⟩:=Q.gm _ _ _ hg;show bY X _ (M4 S.gl k _);unfold M4;rw[hg];exact aMK (fU Q c y h'.2) g.1 g.2 (iU h'.1.2)
 |.mZ k c cs,e,h=>by
  have jz:=iy h;let⟨f,as,ks,p,rfl⟩:=j6 (ix h);let⟨y,n,ap,rfl⟩:=dN jz;cases ks with
  |cons _ _=>exact aX h
  |nil =>
   have h':(HQ S k n&&S.calm&&bO y&&ap.endLine==p.line&&decide (as.length<30)&&kE S c y&&uP S cs as)=ak:=h;simp only[bx]at h';let⟨⟨⟨⟨⟨⟨h1,h2⟩,h3⟩,h4⟩,h5⟩,h6⟩,h7⟩:=h';let⟨z,C,sp,dd,hg⟩:=aAJ h1;let⟨_,_,_,g⟩:=Q.gm _ _ _ hg;let⟨kk,f,fd,ps,ds,b7,q1,q2,q3,q4,q5,q6,q7⟩:=g h2;let⟨pl,ht⟩:=aAK (env:=X.env) (m:=n) (iU h3) (yU (X:=X) (cp:=p) h7 (of_decide_eq_true h5)) h4;show bY X _ (M3 S.gl ex k _ _);unfold M3;rw[hg];cases cs with
   |nil =>
    cases as with
    |cons _ _=>exact aX h7
    |nil=>exact atP (fU Q c y h6) q1 q2 q3 q4 q5 q6 q7 Q.cat ht
   |cons c1 cr =>
    cases as with
    |nil=>exact aX h7
    |cons a1 ar =>
     have h8:(!isStar a1&&kE S c1 a1&&uP S cr ar)=ak:=h7;simp only[bx,gV]at h8;exact Y0 (fU Q c y h6) q1 q2 q3 q4 q5 q6 q7 Q.cat (Aw (fU Q c1 a1 h8.1.2) (uj Q cr ar h8.2) (aW h8.1.1)) (aW h8.1.1) (rE h8.2) ht
 |.ik a b,e,h=>by
  let⟨x,y,p,rfl⟩:=iK (ix h);have h':(!isSlice y&&kE S a x&&kE S b y)=ak:=h;simp only[bx,gV]at h';exact aML Q.hu (fU Q a x h'.1.2) (fU Q b y h'.2) (K6 h'.1.1)
 |.rV neg a b,e,h=>by
  let⟨x,ops,ys,p,rfl⟩:=oR (ix h)
  match ops,ys,h with
  |[o'],[y],h =>
   have h':(o'==(if neg then vh.NotIn else vh.In)&&!behindInMarks o' y&&kE S a x&&kE S b y)=ak:=h;simp only[bx,gV]at h';exact Hn (QM Q.hu h'.1.1.1) (fU Q a x h'.1.2) (fU Q b y h'.2) h'.1.1.2
  |[],_,h=>exact aX h
  |_::_::_,_,h=>exact aX h
  |[_],[],h=>exact aX h
  |[_],_::_::_,h=>exact aX h
 |.pv c d f,e,h=>by
  have jz:=iy h;let⟨g,as,ks,p,rfl⟩:=j6 (ix h);let⟨y,n,ap,rfl⟩:=dN jz
  match as,ks,h with
  |[],_,h=>exact aX h
  |[_],_,h=>exact aX h
  |_::_::_::_,_,h=>exact aX h
  |[_,_],_::_,h=>exact aX h
  |[x,z],[],h =>
   have h':(n==("get":Str)&&bO y&&ap.endLine==p.line&&!isStar x&&!isStar z&&kE S c y&&kE S d x&&kE S f z)=ak:=h;simp only[bx,gV]at h';let⟨⟨⟨⟨⟨⟨⟨h0,h1⟩,h2⟩,h3⟩,h4⟩,h5⟩,h6⟩,h7⟩:=h';have:=beq_iff_eq.mp h0;subst this
   have k2:uP S (.cons d (.cons f .nil)) [x,z]=ak:=by
    show(!isStar x&&kE S d x&&(!isStar z&&kE S f z&&ak))=ak;rw[h3,h4,h6,h7];rfl
   exact YY Q.hu (fU Q c y h5) (fU Q d x h6) (fU Q f z h7) ⟨iU h1,yU (X:=X) (cp:=p) k2 (show 2<30 by decide),h2,by rw[aW h3,aW h4];rfl⟩
 |.DO,e,h=>by
  let⟨ks,vs,p,rfl⟩:=Nu (ix h)
  match ks,vs,h with
  |[],[],_=>exact aA5
  |_::_,_,h=>exact aX h
  |[],_::_,h=>exact aX h
 |.uv a b,e,h=>by
  let⟨x,y,p,rfl⟩:=iK (ix h);have h':(!isSlice y&&kE S a x&&kE S b y)=ak:=h;simp only[bx,gV]at h';exact aN2 Q.hu (fU Q a x h'.1.2) (fU Q b y h'.2) (K6 h'.1.1)
 |.yy c d f,e,h=>by
  have jz:=iy h;let⟨g,as,ks,p,rfl⟩:=j6 (ix h);let⟨y,n,ap,rfl⟩:=dN jz
  match as,ks,h with
  |[],_,h=>exact aX h
  |[_],_,h=>exact aX h
  |_::_::_::_,_,h=>exact aX h
  |[_,_],_::_,h=>exact aX h
  |[x,z],[],h =>
   have h':(n==("get":Str)&&bO y&&ap.endLine==p.line&&!isStar x&&!isStar z&&kE S c y&&kE S d x&&kE S f z)=ak:=h;simp only[bx,gV]at h';let⟨⟨⟨⟨⟨⟨⟨h0,h1⟩,h2⟩,h3⟩,h4⟩,h5⟩,h6⟩,h7⟩:=h';have:=beq_iff_eq.mp h0;subst this
   have k2:uP S (.cons d (.cons f .nil)) [x,z]=ak:=by
    show(!isStar x&&kE S d x&&(!isStar z&&kE S f z&&ak))=ak;rw[h3,h4,h6,h7];rfl
   exact aH5 Q.hu (fU Q c y h5) (fU Q d x h6) (fU Q f z h7) ⟨iU h1,yU (X:=X) (cp:=p) k2 (show 2<30 by decide),h2,by rw[aW h3,aW h4];rfl⟩
 |.listI k c,e,h=>by
  have jz:=iy h;let⟨f,as,ks,p,rfl⟩:=j6 (ix h);let⟨x,q,rfl⟩:=gY jz
  match as,ks,h with
  |[],_,h=>exact aX h
  |_::_::_,_,h=>exact aX h
  |[_],_::_,h=>exact aX h
  |[w],[],h =>
   have h':(S.calm&&S.gv[k]?==aj ak&&HP S k x "list"&&(match yS w with
    |some (y,n,l)=>l&&n==("items":Str)&&bO y&&kE S c y
    |none=>ao))=ak:=h
   simp only[bx]at h';let⟨⟨⟨h1,h2⟩,h3⟩,h4⟩:=h';cases q2:yS w with
   |none=>rw[q2]at h4;exact aX h4
   |some z =>
    let⟨y,n,l⟩:=z;rw[q2]at h4;simp only[bx]at h4;let⟨⟨⟨h5,h6⟩,h7⟩,h8⟩:=h4;have e6:=beq_iff_eq.mp h6;subst e6;let⟨ap,cp,rfl,rfl⟩:=Nv q2;let⟨g1,g2,g3,g4,g5⟩:=aAL Q h3 (beq_iff_eq.mp h2);exact aA8 (Q.cm h1) (fU Q c y h8) g1 g2 g3 g4 g5 (iU h7) h5
 |.FY i c,e,h=>aN4 (fU Q c e h)
 |.wc,e,h=>by
  let⟨ks,vs,p,rfl⟩:=Nu (ix h)
  match ks,vs,h with
  |[],[],_=>exact Y8
  |_::_,_,h=>exact aX h
  |[],_::_,h=>exact aX h
 |.rev a k,e,h=>by
  let⟨x,y,p,rfl⟩:=iK (ix h);cases y with
  |Slice l u st q =>
   match l,u,st,h with
   |none,bh,aj z,h =>
    have h':(kE S a x&&kE S k z)=ak:=h;simp only[bx]at h';exact aMX (fU Q a x h'.1) (Rh (fU Q k z h'.2))
   |some _,_,_,h=>exact aX h
   |none,aj _,_,h=>exact aX h
   |none,bh,bh,h=>exact aX h
  |_=>exact aX h
 |.dm m o c r,e,h=>by
  have jz:=iy h;let⟨f,xs,oB,p,rfl⟩:=j6 (ix h);let⟨y,n,ap,rfl⟩:=dN jz
  match xs,oB,h with
  |[],_,h=>exact aX h
  |_::_,_::_,h=>exact aX h
  |x::xs,[],h =>
   have h':(n==KJ m&&bO y&&ap.endLine==p.line&&decide ((x::xs).length<30)&&kE S o y&&!isStar x&&kE S c x&&uP S r xs)=ak:=h;simp only[bx]at h';let⟨⟨⟨⟨⟨⟨⟨h1,h2⟩,h3⟩,h4⟩,h5⟩,h6⟩,h7⟩,h8⟩:=h';have:=beq_iff_eq.mp h1;subst this
   have hk:uP S (.cons c r) (x::xs)=ak:=by
    show(!isStar x&&kE S c x&&uP S r xs)=ak;rw[h6,h7,h8];rfl
   simp only[gV]at h6;exact aND Q.hu (fU Q o y h5) (Aw (fU Q c x h7) (uj Q r xs h8) (aW h6)) h2 h3 hk (of_decide_eq_true h4)
 |.sortI k c,e,h=>by
  have jz:=iy h;let⟨f,as,ks,p,rfl⟩:=j6 (ix h);let⟨x,q,rfl⟩:=gY jz
  match as,ks,h with
  |[],_,h=>exact aX h
  |_::_::_,_,h=>exact aX h
  |[_],_::_,h=>exact aX h
  |[w],[],h =>
   have h':(S.calm&&S.gv[k]?==aj ak&&Bx S k x "sorted"&&(match yS w with
    |some (y,n,l)=>l&&n==("items":Str)&&bO y&&kE S c y
    |none=>ao))=ak:=h
   simp only[bx]at h';let⟨⟨⟨h1,h2⟩,h3⟩,h4⟩:=h';cases q2:yS w with
   |none=>rw[q2]at h4;exact aX h4
   |some z =>
    let⟨y,n,l⟩:=z;rw[q2]at h4;simp only[bx]at h4;let⟨⟨⟨h5,h6⟩,h7⟩,h8⟩:=h4;have e6:=beq_iff_eq.mp h6;subst e6;let⟨ap,cp,rfl,rfl⟩:=Nv q2;let⟨g1,g2,g3,g4,g5⟩:=RU Q h3 (beq_iff_eq.mp h2);exact aA9 (Q.cm h1) Q.hu (fU Q c y h8) g1 g2 g3 g4 g5 (iU h7) h5
 |.BB k c,e,h=>by
  have jz:=iy h;let⟨f,as,ks,p,rfl⟩:=j6 (ix h);let⟨x,q,rfl⟩:=gY jz
  match as,ks,h with
  |[],_,h=>exact aX h
  |_::_::_,_,h=>exact aX h
  |[_],_::_,h=>exact aX h
  |[w],[],h =>
   have h':(S.calm&&S.gv[k]?==aj ak&&Bx S k x "sum"&&(match yS w with
    |some (y,n,l)=>l&&n==("values":Str)&&bO y&&kE S c y
    |none=>ao))=ak:=h
   simp only[bx]at h';let⟨⟨⟨h1,h2⟩,h3⟩,h4⟩:=h';cases q2:yS w with
   |none=>rw[q2]at h4;exact aX h4
   |some z =>
    let⟨y,n,l⟩:=z;rw[q2]at h4;simp only[bx]at h4;let⟨⟨⟨h5,h6⟩,h7⟩,h8⟩:=h4;have e6:=beq_iff_eq.mp h6;subst e6;let⟨ap,cp,rfl,rfl⟩:=Nv q2;let⟨g1,g2,g3,g4,g5⟩:=RU Q h3 (beq_iff_eq.mp h2);exact aGW (Q.cm h1) (fU Q c y h8) g1 g2 g3 g4 g5 (iU h7) h5
 |.rX neg a b,e,h=>by
  let⟨x,ops,ys,p,rfl⟩:=oR (ix h)
  match ops,ys,h with
  |[o'],[y],h =>
   have h':(o'==(if neg then vh.NotEq else vh.Eq)&&kE S a x&&kE S b y)=ak:=h;simp only[bx]at h'
   have hb:zf o' y=ao:=by
    have:=beq_iff_eq.mp h'.1.1;subst this;exact IY _ (by cases neg<;>decide) (by cases neg<;>decide)
   exact Hn (QL Q.hu h'.1.1) (fU Q a x h'.1.2) (fU Q b y h'.2) hb
  |[],_,h=>exact aX h
  |_::_::_,_,h=>exact aX h
  |[_],[],h=>exact aX h
  |[_],_::_::_,h=>exact aX h
 |.lI neg a b,e,h=>by
  let⟨x,ops,ys,p,rfl⟩:=oR (ix h)
  match ops,ys,h with
  |[o'],[y],h =>
   have h':(o'==(if neg then vh.NotEq else vh.Eq)&&kE S a x&&kE S b y)=ak:=h;simp only[bx]at h'
   have hb:zf o' y=ao:=by
    have:=beq_iff_eq.mp h'.1.1;subst this;exact IY _ (by cases neg<;>decide) (by cases neg<;>decide)
   exact Hn (RW Q.hu h'.1.1) (fU Q a x h'.1.2) (fU Q b y h'.2) hb
  |[],_,h=>exact aX h
  |_::_::_,_,h=>exact aX h
  |[_],[],h=>exact aX h
  |[_],_::_::_,h=>exact aX h
theorem uj{X:Cx}{S:SI}{ex:bL->eX}(Q:qM X S ex):∀(c:di)(es:List ig),uP S c es=ak->ff X es (mA S.gl X.K ex c)
 |.nil,es,h=>by
  cases es with
  |nil=>exact Lp
  |cons _ _=>exact aX h
 |.cons c r,es,h=>by
  cases es with
  |nil=>exact aX h
  |cons x xs =>
   have h7:(!isStar x&&kE S c x&&uP S r xs)=ak:=h;simp only[bx,gV]at h7;exact Aw (fU Q c x h7.1.2) (uj Q r xs h7.2) (aW h7.1.1)
theorem Vz{X:Cx}{S:SI}{ex:bL->eX}(Q:qM X S ex):∀(c:di)(es:List ig)(p:Pos),uP S c es=ak->bY X (.BoolOp .And es p) (MZ S.gl X.K ex c)
 |.nil,es,p,h=>QO
 |.cons c .nil,es,p,h=>by
  match es,h with
  |[],h=>exact aX h
  |[x],h =>
   have h7:(!isStar x&&kE S c x&&uP S .nil [])=ak:=h;simp only[bx,gV]at h7;exact VR (fU Q c x h7.1.2)
  |x::y::ys,h =>
   have h7:(!isStar x&&kE S c x&&uP S .nil (y::ys))=ak:=h;simp only[bx,gV]at h7;exact aX h7.2
 |.cons c (.cons c' r),es,p,h=>by
  match es,h with
  |[],h=>exact aX h
  |[x],h =>
   have h7:(!isStar x&&kE S c x&&uP S (.cons c' r) [])=ak:=h;simp only[bx,gV]at h7;exact aX h7.2
  |x::y::ys,h =>
   have h7:(!isStar x&&kE S c x&&uP S (.cons c' r) (y::ys))=ak:=h;simp only[bx,gV]at h7;exact aLI (fU Q c x h7.1.2) (Vz Q (.cons c' r) (y::ys) p h7.2)
theorem aRQ{X:Cx}{S:SI}{ex:bL->eX}(Q:qM X S ex):∀(c:di)(es:List ig)(p:Pos),uP S c es=ak->bY X (.BoolOp .Or es p) (Pj S.gl X.K ex c)
 |.nil,es,p,h=>QO
 |.cons c .nil,es,p,h=>by
  match es,h with
  |[],h=>exact aX h
  |[x],h =>
   have h7:(!isStar x&&kE S c x&&uP S .nil [])=ak:=h;simp only[bx,gV]at h7;exact VR (fU Q c x h7.1.2)
  |x::y::ys,h =>
   have h7:(!isStar x&&kE S c x&&uP S .nil (y::ys))=ak:=h;simp only[bx,gV]at h7;exact aX h7.2
 |.cons c (.cons c' r),es,p,h=>by
  match es,h with
  |[],h=>exact aX h
  |[x],h =>
   have h7:(!isStar x&&kE S c x&&uP S (.cons c' r) [])=ak:=h;simp only[bx,gV]at h7;exact aX h7.2
  |x::y::ys,h =>
   have h7:(!isStar x&&kE S c x&&uP S (.cons c' r) (y::ys))=ak:=h;simp only[bx,gV]at h7;exact aQB (fU Q c x h7.1.2) (aRQ Q (.cons c' r) (y::ys) p h7.2)
theorem ym{X:Cx}{S:SI}{ex:bL->eX}(Q:qM X S ex):∀(c:CT)(e:ig),kT S c e=ak->mh X e (mT S.gl X.K ex c)
 |.cmp o a b,e,h=>by
  cases e with
  |Compare x ops ys p =>
   match ops,ys,h with
   |[o'],[y],h =>
    have h':(o==o'&&!behindInMarks o' y&&kE S a x&&kE S b y)=ak:=h;simp only[bx,gV]at h';have:=beq_iff_eq.mp h'.1.1.1;subst this;exact Hm (CH Q.hu) (fU Q a x h'.1.2) (fU Q b y h'.2) h'.1.1.2
   |[],_,h=>exact aX h
   |_::_::_,_,h=>exact aX h
   |[_],[],h=>exact aX h
   |[_],_::_::_,h=>exact aX h
  |_=>exact aX h
 |.chain o o' a b c,e,h=>by
  cases e with
  |Compare x ops ys p =>
   match ops,ys,h with
   |[p1,p2],[y,z],h =>
    have h':(o==p1&&o'==p2&&!lastMarks [p1,p2] [y,z]&&kE S a x&&kE S b y&&kE S c z)=ak:=h;simp only[bx,gV]at h';have e1:=beq_iff_eq.mp h'.1.1.1.1.1;have e2:=beq_iff_eq.mp h'.1.1.1.1.2;subst e1;subst e2;exact Ze (CH Q.hu) (CH Q.hu) (fU Q a x h'.1.1.2) (fU Q b y h'.1.2) (fU Q c z h'.2) h'.1.1.1.2
   |[],_,h=>exact aX h
   |[_],_,h=>exact aX h
   |_::_::_::_,_,h=>exact aX h
   |[_,_],[],h=>exact aX h
   |[_,_],[_],h=>exact aX h
   |[_,_],_::_::_::_,h=>exact aX h
  |_=>exact aX h
 |.not t,e,h=>by
  cases e with
  |UnaryOp op x p =>
   cases op with
   |Not=>exact aLH (ym Q t x h)
   |_=>exact aX h
  |_=>exact aX h
 |.and ts,e,h=>by
  cases e with
  |BoolOp op xs p =>
   cases op with
   |And=>exact PW.pt (QK Q ts xs p h)
   |Or=>exact aX h
  |_=>exact aX h
 |.or ts,e,h=>by
  cases e with
  |BoolOp op xs p =>
   cases op with
   |Or=>exact PW.pt (Vy Q ts xs p h)
   |And=>exact aX h
  |_=>exact aX h
 |.rV neg a b,e,h=>by
  cases e with
  |Compare x ops ys p =>
   match ops,ys,h with
   |[o'],[y],h =>
    have h':(o'==(if neg then vh.NotIn else vh.In)&&!behindInMarks o' y&&kE S a x&&kE S b y)=ak:=h;simp only[bx,gV]at h';exact Hm (QM Q.hu h'.1.1.1) (fU Q a x h'.1.2) (fU Q b y h'.2) h'.1.1.2
   |[],_,h=>exact aX h
   |_::_::_,_,h=>exact aX h
   |[_],[],h=>exact aX h
   |[_],_::_::_,h=>exact aX h
  |_=>exact aX h
 |.lI neg a b,e,h=>by
  cases e with
  |Compare x ops ys p =>
   match ops,ys,h with
   |[o'],[y],h =>
    have h':(o'==(if neg then vh.NotEq else vh.Eq)&&kE S a x&&kE S b y)=ak:=h;simp only[bx]at h'
    have hb:zf o' y=ao:=by
     have:=beq_iff_eq.mp h'.1.1;subst this;exact IY _ (by cases neg<;>decide) (by cases neg<;>decide)
    exact Hm (RW Q.hu h'.1.1) (fU Q a x h'.1.2) (fU Q b y h'.2) hb
   |[],_,h=>exact aX h
   |_::_::_,_,h=>exact aX h
   |[_],[],h=>exact aX h
   |[_],_::_::_,h=>exact aX h
  |_=>exact aX h
 |.rX neg a b,e,h=>by
  cases e with
  |Compare x ops ys p =>
   match ops,ys,h with
   |[o'],[y],h =>
    have h':(o'==(if neg then vh.NotEq else vh.Eq)&&kE S a x&&kE S b y)=ak:=h;simp only[bx]at h'
    have hb:zf o' y=ao:=by
     have:=beq_iff_eq.mp h'.1.1;subst this;exact IY _ (by cases neg<;>decide) (by cases neg<;>decide)
    exact Hm (QL Q.hu h'.1.1) (fU Q a x h'.1.2) (fU Q b y h'.2) hb
   |[],_,h=>exact aX h
   |_::_::_,_,h=>exact aX h
   |[_],[],h=>exact aX h
   |[_],_::_::_,h=>exact aX h
  |_=>exact aX h
 |.val c,e,h=>by
  have h':(plainT e&&kE S c e)=ak:=h;rw[bx]at h';exact aLD (fU Q c e h'.2) (aHK h'.1)
theorem QK{X:Cx}{S:SI}{ex:bL->eX}(Q:qM X S ex):∀(c:tP)(es:List ig)(p:Pos),kH S c es=ak->xS X (.BoolOp .And es p) (K9 S.gl X.K ex c)
 |.nil,es,p,h=>λ_ _ _ _ _ _ _ ⟨_,_,_,_,_,z,_⟩=>z.elim
 |.cons c .nil,es,p,h=>by
  match es,h with
  |[],h=>exact aX h
  |[x],h =>
   have h7:(kT S c x&&kH S .nil [])=ak:=h;simp only[bx]at h7;exact aFB (ym Q c x h7.1)
  |x::y::ys,h =>
   have h7:(kT S c x&&kH S .nil (y::ys))=ak:=h;simp only[bx]at h7;exact aX h7.2
 |.cons c (.cons c' r),es,p,h=>by
  match es,h with
  |[],h=>exact aX h
  |[x],h =>
   have h7:(kT S c x&&kH S (.cons c' r) [])=ak:=h;simp only[bx]at h7;exact aX h7.2
  |x::y::ys,h =>
   have h7:(kT S c x&&kH S (.cons c' r) (y::ys))=ak:=h;simp only[bx]at h7;exact aLG (ym Q c x h7.1) (QK Q (.cons c' r) (y::ys) p h7.2)
theorem Vy{X:Cx}{S:SI}{ex:bL->eX}(Q:qM X S ex):∀(c:tP)(es:List ig)(p:Pos),kH S c es=ak->xS X (.BoolOp .Or es p) (MY S.gl X.K ex c)
 |.nil,es,p,h=>λ_ _ _ _ _ _ _ ⟨_,_,_,_,_,z,_⟩=>z.elim
 |.cons c .nil,es,p,h=>by
  match es,h with
  |[],h=>exact aX h
  |[x],h =>
   have h7:(kT S c x&&kH S .nil [])=ak:=h;simp only[bx]at h7;exact aLF (ym Q c x h7.1)
  |x::y::ys,h =>
   have h7:(kT S c x&&kH S .nil (y::ys))=ak:=h;simp only[bx]at h7;exact aX h7.2
 |.cons c (.cons c' r),es,p,h=>by
  match es,h with
  |[],h=>exact aX h
  |[x],h =>
   have h7:(kT S c x&&kH S (.cons c' r) [])=ak:=h;simp only[bx]at h7;exact aX h7.2
  |x::y::ys,h =>
   have h7:(kT S c x&&kH S (.cons c' r) (y::ys))=ak:=h;simp only[bx]at h7;exact aQA (ym Q c x h7.1) (Vy Q (.cons c' r) (y::ys) p h7.2)
theorem okO{X:Cx}{S:SI}{ex:bL->eX}(Q:qM X S ex):∀(c:CO)(e:Option ig),kO S c e=ak->Jo X e (mO S.gl X.K ex c)
 |.none,e,h=>by
  cases e with
  |none=>exact aFF
  |some _=>exact aX h
 |.some c,e,h=>by
  cases e with
  |none=>exact aX h
  |some x=>exact Rh (fU Q c x h)
theorem O6{X:Cx}{S:SI}{ex:bL->eX}(Q:qM X S ex){tg:ig}{tt:Bool}(XQ:tt=ak->X.calm=ak/\∃es kt pt,tg=.Tuple es kt pt):∀(c:CI)(e:ig),kI S tt c e=ak->x4 X tg e (mI S.gl X.K ex c)
 |.any c,e,h=>aME (fU Q c e h)
 |.BA c,e,h=>by
  cases e with
  |Call f as ks p =>
   cases f with
   |Name r q =>
    cases as with
    |nil=>exact aX h
    |cons y yr =>
     cases yr with
     |cons _ _=>exact aX h
     |nil =>
      cases ks with
      |cons _ _=>exact aX h
      |nil =>
       have h':(r==("range":Str)&&EM S&&!isStar y&&kE S c y)=ak:=h;simp only[bx,gV]at h';let⟨⟨⟨h1,h2⟩,h3⟩,h4⟩:=h';have:=beq_iff_eq.mp h1;subst this;let⟨g1,g2⟩:=S0 Q h2;exact aG0 g1 g2 (Aw (fU Q c y h4) Lp (aW h3)) (aW h3)
   |_=>exact aX h
  |_=>exact aX h
 |.keys c,e,h=>by
  have h':(S.calm&&kE S c e)=ak:=h;rw[bx]at h';exact aH0 (Q.cm h'.1) (fU Q c e h'.2)
 |.Ac c,e,h=>by
  have h':(S.calm&&kE S c e)=ak:=h;rw[bx]at h';exact aA6 (Q.cm h'.1) (fU Q c e h'.2)
theorem O7{X:Cx}{S:SI}(Q:qM X S qA):∀(c:CC)(es:List ig),kC S c es=ak->BL X es (mC S.gl X.K c)
 |.none,es,h=>by
  cases es with
  |nil=>exact Y3
  |cons _ _=>exact aX h
 |.some t,es,h=>by
  match es,h with
  |[],h=>exact aX h
  |[x],h=>exact Y2 (ym Q t x h)
  |_::_::_,h=>exact aX h
end
end L4
namespace L4
open PySem PySem.Spec PyProof.Rows L2
inductive Fs where
 |nm (i:Nat)|tup (is:List Nat)
mutual
inductive CS where
 |ret (e:CE)|expr (e:CE)|ifs (t:CT) (a b:CB)|set (i:Nat) (e:CE)
 |raise (k:Nat) (e:CE) (es:di)|Bw (k i:Nat) (b h:CB)|pass
 |setC (i:Nat) (fl gv:List Bool) (ci:CI) (cc:CC) (e:CE)|sf (ci:CI) (tg:Fs) (b:CB)
 |zi (is:List Nat) (e:CE)|wb (k:Nat) (o e:CE)|se (o i e:CE)|setM (o i e:CE)
inductive CB where
 |nil|cons (s:CS) (r:CB)
end
abbrev K4:pI:=λ_ _ _=>False
@[simp]def SI.Km(S:SI):SI:={S with calm:=false}
abbrev Pk(T:List (Str×GT))(K:Fg)(ex:bL->eX):CI->fT
 |.any e=>BJ (mE T K ex e)
 |.BA e=>Ci (cP (mE T K ex e) m9)
 |.keys e=>Ar ak (mE T K ex e)
 |.Ac e=>qL (mE T K ex e)
abbrev mG:Fs->qv
 |.nm i=>yL i
 |.tup is=>B5 is
abbrev HN(T:List (Str×GT))(ex:bL->eX)(k:Nat)(t:sJ):pI:=match T[k]? with
 |some (_,.cls a)=>oA ex a t
 |_=>K4
abbrev HM(T:List (Str×GT))(K:Fg)(k i:Nat)(tb:(bL->eX)->pI)(th:pI):pI:=match T[k]? with
 |some (_,.cls a)=>Eh K a i tb th
 |_=>K4
abbrev MW(T:List (Str×GT))(k:Nat)(to te:bC):pI:=match T[k]? with
 |some (_,.fl C f)=>Ch C to te f
 |_=>K4
abbrev BV(S:SI)(k:Nat)(x:Str):Bool:=match S.gl[k]? with
 |some (z,.cls _)=>z==x
 |_=>ao
mutual
noncomputable def mS(T:List (Str×GT))(K:Fg)(ex:bL->eX):CS->pI
 |.ret e=>cC (mE T K ex e)
 |.expr e=>bT (mE T K ex e)
 |.ifs t a b=>cX (mT T K ex t) (mB T K ex a) (mB T K ex b)
 |.set i e=>cQ i (mE T K ex e)
 |.raise k e es=>HN T ex k (cP (mE T K ex e) (mA T K ex es))
 |.Bw k i b h=>HM T K k i (λAH=>mB T K AH b) (mB T K qA h)
 |.setC i _ _ ci cc e=>cQ i (wC (mI T K ex ci) (mC T K cc) (mE T K qA e))
 |.sf ci tg b=>yM (Pk T K ex ci) (mG tg) (mB T K ex b)
 |.zi is e=>EB is (mE T K ex e)
 |.wb k o e=>MW T k (mE T K ex o) (mE T K ex e)
 |.se o i e=>As (mE T K ex o) (mE T K ex i) (mE T K ex e)
 |.setM o i e=>Es (mE T K ex o) (mE T K ex i) (mE T K ex e)
 |.pass=>bH
noncomputable def mB(T:List (Str×GT))(K:Fg)(ex:bL->eX):CB->pI
 |.nil=>bH
 |.cons s .nil=>mS T K ex s
 |.cons s (.cons s' r)=>aL (mS T K ex s) (mB T K ex (.cons s' r))
end
abbrev isTup:ig->Bool
 |.Tuple ..=>ak
 |_=>ao
abbrev nC:ig->Bool
 |.ListComp ..=>ak
 |.SetComp ..=>ak
 |.DictComp ..=>ak
 |_=>ao
abbrev yz(S:SI):Fs->ig->Bool
 |.nm i,.Name x _=>S.N[i]?==aj x&&S.fl[i]?==aj ak
 |.tup is,.Tuple es _ _=>Bd S is es
 |_,_=>ao
where
 Bd (S:SI):List Nat->List ig->Bool
 |[],[]=>ak
 |i::is,.Name x _::es=>S.N[i]?==aj x&&S.fl[i]?==aj ak&&Bd S is es
 |_,_=>ao
abbrev MV(S:SI):Fs->Bool
 |.nm _=>ak
 |.tup _=>S.calm
abbrev cx(k:Nat)(z:ig):Nat:=if z.ctorIdx=k then s1 z else 99
abbrev tq:List ExceptHandler->Nat
 |.ExceptHandler (aj c) _ _ _::_=>c.ctorIdx
 |_=>99
abbrev t1:nu->Nat
 |.Assign (t::_) _ _=>t.ctorIdx
 |.Raise (aj a) _ _=>cx 16 a
 |.Try _ h _ _ _=>tq h
 |_=>99
abbrev t2:CS->nu->Bool
 |.setC ..,.Assign _ z _=>cx 8 z==23
 |_,_=>ak
abbrev Ge:CS->Nat
 |.ret _=>3
 |.expr _=>24
 |.ifs _ _ _=>12
 |.set _ _=>5
 |.raise _ _ _=>16
 |.Bw _ _ _ _=>17
 |.setC _ _ _ _ _ _=>5
 |.zi _ _=>5
 |.wb _ _ _=>5
 |.se _ _ _=>5
 |.setM _ _ _=>5
 |.sf _ _ _=>9
 |.pass=>25
abbrev Gd:CS->Nat
 |.set _ _=>23
 |.raise _ _ _=>23
 |.Bw _ _ _ _=>23
 |.setC _ _ _ _ _ _=>23
 |.zi _ _=>25
 |.wb _ _ _=>20
 |.se _ _ _=>21
 |.setM _ _ _=>21
 |_=>99
abbrev cq(c:CS)(e:nu):Bool:=(Ge c==99||e.ctorIdx==Ge c)&&(Gd c==99||t1 e==Gd c)&&t2 c e
mutual
noncomputable def j0(S:SI)(lv:Nat):CS->nu->Bool
 |.ret e,.Return (aj x) _=>kE S e x
 |.expr e,.Expr x _=>!nC x&&kE S e x
 |.ifs t a b,.If x y z _=>kT S t x&&kB S lv a y&&kB S lv b z
 |.set i e,.Assign [.Name x _] y _=>S.N[i]?==aj x&&S.fl[i]?==aj ak&&!nC y&&kE S e y
 |.raise k e es,.Raise (aj (.Call (.Name x _) (y::ys) [] _)) bh _=>lv==0&&S.calm&&!isStar y&&kE S e y&&uP S es ys&&S.gv[k]?==aj ak&&BV S k x
 |.Bw k i b h,.Try y [.ExceptHandler (aj (.Name x _)) (aj n) (z::zs) _] [] [] _=>lv==0&&S.calm&&S.N[i]?==aj n&&S.lc[i]?==aj ak&&kB S 1 b y&&kB S.Km 2 h (z::zs)&&S.gv[k]?==aj ak&&BV S k x
 |.setC i fl gv ci cc e,.Assign [.Name y _] (.ListComp elt [⟨.Name x _,iter,ifs,a⟩] scope _) _=>S.N[i]?==aj y&&S.fl[i]?==aj ak&&a==0&&wy S [x] scope fl gv&&!isSet iter&&kI S ao ci iter&&kC (S.cmp [x] fl gv) cc ifs&&kE (S.cmp [x] fl gv) e elt
 |.zi is e,.Assign [.Tuple es _ _] y _=>S.calm&&!isTup y&&!nC y&&yz.Bd S is es&&kE S e y
 |.wb k o e,.Assign [.Attribute x n _] z _=>Bz S k n&&!nC z&&kE S o x&&kE S e z
 |.se o i e,.Assign [.Subscript x y _] z _=>!isSlice y&&!nC z&&kE S o x&&kE S i y&&kE S e z
 |.setM o i e,.Assign [.Subscript x y _] z _=>!isSlice y&&!nC z&&kE S o x&&kE S i y&&kE S e z
 |.sf ci tg b,.For dQ iter body [] _=>lv !=1&&MV S tg&&!isSet iter&&yz S tg dQ&&kI S (isTup dQ&&S.calm) ci iter&&kB S lv b body
 |.pass,.Pass _=>ak
 |_,_=>ao
noncomputable def kB(S:SI)(lv:Nat):CB->List nu->Bool
 |.nil,[]=>ak
 |.cons s r,x::xs=>(cq s x&&j0 S lv s x)&&kB S lv r xs
 |_,_=>ao
end
abbrev kS(S:SI)(lv:Nat)(c:CS)(st:nu):Bool:=cq c st&&j0 S lv c st
structure mM(X:Cx)(S:SI)(ex:bL->eX)(lv:Nat):Prop where
 si:qM X S ex
 loc:∀(i:Nat)(x:Str),S.N[i]?=aj x->S.fl[i]?=aj ak->Loc X.env.scope x
 Dm:∀(i:Nat)(x:Str),S.N[i]?=aj x->S.lc[i]?=aj ak->X.env.kindOf x=aj .local
 fn:∀x,X.fn x=ak
 cls:∀(k:Nat)(x:Str)(a:bw),S.gl[k]?=aj (x,.cls a)->S.gv[k]?=aj ak->nB X.K a Jv "ValueError.__new__"=ak/\(yt X.K a).isSome=ak/\Ao X.K (.ref a)=aj (.type "type")/\xr X.K (.ref a) (.type "BaseException")=aj ak
 l0:lv≠1->PassesOwn (dz X.prog X.w) X.A X.env X.xe
 rz:lv=0->S.calm=ak->Oq X ex
 kF:X.stack=X.env::X.outer
 DG:X.env.frame=aj X.env.locals
variable{env:Env}
def BU{t:Option ig}{n:Nat}(h:nC e=ao):md e t n env=pure ao:=by
 cases e<;>first|rfl|exact absurd (show ak=ao from h) (by decide)
def aHQ{es:List ig}{k:Nat}{tp:Pos}(h:isTup e=ao):swappedStores [.Tuple es k tp] e env=pure bh:=by
 cases e<;>first|rfl|exact absurd (show ak=ao from h) (by decide)
variable{ex:bL->eX}{lv:Nat}
def mM.tr(Q:mM X S ex lv)(pn:List (bw×Obj))(EX:bL->eX):mM (GR X pn EX) S EX 1 where
 si:=⟨Q.si.N,Q.si.nd,Q.si.AY,Q.si.ce,λk x g h=>by
  let⟨h1,h2,h3,h4⟩:=Q.si.gm k x g h;refine⟨h1,h2,h3,?_⟩;cases g<;>exact h4,Q.si.hu,Q.si.cm,aQL pn EX⟩
 loc:=Q.loc
 Dm:=Q.Dm
 fn:=Q.fn
 cls:=Q.cls
 l0:=λz=>absurd rfl z
 rz:=λz=>absurd z (by decide)
 kF:=Q.kF
 DG:=Q.DG
def mM.ha{S:SI}(Q:mM X S ex lv)(x:bw):mM (BN X x) S.Km qA 2 where
 si:=⟨Q.si.N,Q.si.nd,Q.si.AY,Q.si.ce,λk y g h=>by
  let⟨h1,h2,h3,h4⟩:=Q.si.gm k y g h;refine⟨h1,h2,h3,?_⟩;cases g with
  |fn sp n qt =>
   intro z;have hq:qt=ak:=z.resolve_right (show ¬ (ao=ak) by decide);subst hq;let⟨k,f,fd,ps,F,hr,r⟩:=h4 (.inl rfl);exact⟨k,f,fd,ps,F,⟨(λz=>nomatch z),hr.dp,hr.un⟩,r⟩
  |kl C sp dd=>exact λz=>nomatch z
  |me C m sp dd=>exact λz=>nomatch z
  |_=>exact h4,Q.si.hu,λz=>absurd (show ao=ak from z) (by decide),QN⟩
 loc:=Q.loc
 Dm:=Q.Dm
 fn:=Q.fn
 cls:=Q.cls
 l0:=λ_=>PassesOwn.never
 rz:=λz=>absurd z (by decide)
 kF:=Q.kF
 DG:=Q.DG
private theorem SZ{S:SI}{k:Nat}{x:Str}(h:BV S k x=ak):∃a,S.gl[k]?=aj (x,.cls a):=by
 unfold BV at h;split at h
 .rename_i z a hg;have:=beq_iff_eq.mp h;subst this;exact⟨a,hg⟩
 .exact aX h
def aAO{k:Nat}{x:Str}{a:bw}{t:sJ}(h:T[k]?=aj (x,.cls a)):HN T ex k t=oA ex a t:=by unfold HN;rw[h]
def aAP{K:Fg}{k i:Nat}{x:Str}{a:bw}(h:T[k]?=aj (x,.cls a)):HM T K k i tb th=Eh K a i tb th:=by unfold HM;rw[h]
def T'{X:Cx}{S:SI}(Q:mM X S ex lv){k:Nat}{es:di}{x:Str}{pos:Pos}(h:kS S lv (.raise k e es) (.Raise (aj (.Call (.Name x np) (y::ys) [] cp)) bh pos)=ak) :
  gf X (.Raise (aj (.Call (.Name x np) (y::ys) [] cp)) bh pos) (HN S.gl ex k (cP (mE S.gl X.K ex e) (mA S.gl X.K ex es))):=by
 have h':(lv==0&&S.calm&&!isStar y&&kE S e y&&uP S es ys&&S.gv[k]?==aj ak&&BV S k x)=ak:=h;simp only[bx,gV]at h';let⟨⟨⟨⟨⟨⟨h0,gT⟩,h1⟩,h2⟩,h3⟩,hv⟩,h⟩:=h';have hv:=beq_iff_eq.mp hv;let⟨a,hg⟩:=SZ h;rw[aAO hg];have l1:=Q.si.cm gT;have l2:=Q.rz (beq_iff_eq.mp h0) gT;let⟨g1,g2,g3,g4,g5⟩:=Q.si.gl _ _ _ hg hv;exact Za l1 PySem.F.excBase_ValueError (by decide) PySem.F.excBase_ValueError g1 g4 (Q.cls _ _ _ hg hv).1 l2 (Aw (fU Q.si e y h2) (uj Q.si es ys h3) (aW h1)) g2 (aW h1) (rE h3)
def LJ{ex:bL->eX}{lv:Nat}(Q:mM X S ex lv):∀{is:List Nat}{es:List ig},yz.Bd S is es=ak->c6 (Nh X) es is
 |[],[],_=>.nil
 |[],_::_,h=>by exact aX h
 |_::_,[],h=>by exact aX h
 |i::is,e::es,h=>by
  cases e with
  |Name x p =>
   have h':(S.N[i]?==aj x&&S.fl[i]?==aj ak&&yz.Bd S is es)=ak:=h;simp only[bx]at h';have e1:=beq_iff_eq.mp h'.1.1;exact .cons ⟨x,p,rfl,by rw[Q.si.N];exact e1,Q.loc i x e1 (beq_iff_eq.mp h'.1.2),.inl (Q.fn x)⟩ (LJ Q h'.2)
  |_=>exact aX h
def aNG(Q:mM X S ex lv):∀{c:Fs}{e:ig},MV S c=ak->yz S c e=ak->Fi X e (mG c)
 |.nm i,e,_,h=>by
  cases e with
  |Name x p =>
   have h':(S.N[i]?==aj x&&S.fl[i]?==aj ak)=ak:=h;simp only[bx]at h';have e1:=beq_iff_eq.mp h'.1;exact aFW Q.si.nd (by rw[Q.si.N];exact e1) (Q.loc i x e1 (beq_iff_eq.mp h'.2)) (.inl (Q.fn x))
  |_=>exact aX h
 |.tup is,e,hc,h=>by
  cases e with
  |Tuple es k p=>exact VM Q.si.nd (Q.si.cm hc) (LJ Q h)
  |_=>exact aX h
def aRR{X:Cx}{S:SI}(Q:qM X S ex){tt:Bool}(XQ:tt=ak->X.calm=ak/\∃es kt pt,tg=.Tuple es kt pt):∀(c:CI)(e:ig),kI S tt c e=ak->AE X tg e (Pk S.gl X.K ex c)
 |.any c,e,h=>Q6 (fU Q c e h)
 |.BA c,e,h=>by
  cases e with
  |Call f as ks p =>
   cases f with
   |Name r q =>
    cases as with
    |nil=>exact aX h
    |cons y yr =>
     cases yr with
     |cons _ _=>exact aX h
     |nil =>
      cases ks with
      |cons _ _=>exact aX h
      |nil =>
       have h':(r==("range":Str)&&EM S&&!isStar y&&kE S c y)=ak:=h;simp only[bx,gV]at h';let⟨⟨⟨h1,h2⟩,h3⟩,h4⟩:=h';have:=beq_iff_eq.mp h1;subst this;let⟨g1,g2⟩:=S0 Q h2;exact Sl g1 g2 (Aw (fU Q c y h4) Lp (aW h3)) (aW h3)
   |_=>exact aX h
  |_=>exact aX h
 |.keys c,e,h=>by
  have h':(S.calm&&kE S c e)=ak:=h;rw[bx]at h';exact R4 (Q.cm h'.1) (fU Q c e h'.2)
 |.Ac c,e,h=>by
  have h':(S.calm&&kE S c e)=ak:=h;rw[bx]at h';exact S5 (Q.cm h'.1) (fU Q c e h'.2)
def N'(h:isTup e=ak):∃es kt pt,e=.Tuple es kt pt:=by
 cases e<;>first|exact⟨_,_,_,rfl⟩|exact aX h
variable{r:Bool}
def jx{c:CS}{e:nu}(h:(cq c e&&r)=ak)(z:(Ge c==99)=ao:=by rfl):e.ctorIdx=Ge c:=by
 unfold cq at h;rw[z,EJ]at h;simp only[bx]at h;exact beq_iff_eq.mp h.1.1.1
def jy{c:CS}(h:(cq c e&&r)=ak)(z:(Gd c==99)=ao:=by rfl):t1 e=Gd c:=by
 unfold cq at h;rw[z,EJ]at h;simp only[bx]at h;exact beq_iff_eq.mp h.1.1.2
def Vx{k:Nat}{z:ig}(h:cx k z=23):z.ctorIdx=k/\s1 z=23:=by
 unfold cx at h;by_cases q:z.ctorIdx=k
 .rw[if_pos q]at h;exact⟨q,h⟩
 .rw[if_neg q]at h;cases h
def XF{c:CS}(h:(cq c e&&r)=ak):t2 c e=ak:=by
 unfold cq at h;simp only[bx]at h;exact h.1.2
def alA{e:nu}(h:e.ctorIdx=3):∃x p,e=.Return x p:=Stmt.Return.elim (motive_2:=(∃x p,· =.Return x p)) e h λ_ _=>⟨_,_,rfl⟩
def nD{e:nu}(h:e.ctorIdx=5):∃l y p,e=.Assign l y p:=Stmt.Assign.elim (motive_2:=(∃l y p,· =.Assign l y p)) e h λ_ _ _=>⟨_,_,_,rfl⟩
def aAQ{e:nu}(h:e.ctorIdx=9):∃t i b l p,e=.For t i b l p:=Stmt.For.elim (motive_2:=(∃t i b l p,· =.For t i b l p)) e h λ_ _ _ _ _=>⟨_,_,_,_,_,rfl⟩
def aHR{e:nu}(h:e.ctorIdx=12):∃x y z p,e=.If x y z p:=Stmt.If.elim (motive_2:=(∃x y z p,· =.If x y z p)) e h λ_ _ _ _=>⟨_,_,_,_,rfl⟩
def aqP{e:nu}(h:e.ctorIdx=16):∃x y p,e=.Raise x y p:=Stmt.Raise.elim (motive_2:=(∃x y p,· =.Raise x y p)) e h λ_ _ _=>⟨_,_,_,rfl⟩
def aAR{e:nu}(h:e.ctorIdx=17):∃y h l f p,e=.Try y h l f p:=Stmt.Try.elim (motive_2:=(∃y h l f p,· =.Try y h l f p)) e h λ_ _ _ _ _=>⟨_,_,_,_,_,rfl⟩
def K'{e:nu}(h:e.ctorIdx=24):∃x p,e=.Expr x p:=Stmt.Expr.elim (motive_2:=(∃x p,· =.Expr x p)) e h λ_ _=>⟨_,_,rfl⟩
def J'{e:nu}(h:e.ctorIdx=25):∃p,e=.Pass p:=Stmt.Pass.elim (motive_2:=(∃p,· =.Pass p)) e h λ_=>⟨_,rfl⟩
mutual
theorem O5:∀(c:CS){X:Cx}{S:SI}{ex:bL->eX}{lv:Nat},mM X S ex lv->∀(st:nu),kS S lv c st=ak->gf X st (mS S.gl X.K ex c)
 |.ret e,X,S,ex,lv,Q,st,h=>by
  let⟨v,p,rfl⟩:=alA (jx h);cases v with
  |some x=>exact aLV (fU Q.si e x h)
  |none=>exact aX h
 |.expr e,X,S,ex,lv,Q,st,h=>by
  let⟨x,p,rfl⟩:=K' (jx h);have h':(!nC x&&kE S e x)=ak:=h;simp only[bx,gV]at h';exact aFJ (fU Q.si e x h'.2) (BU h'.1)
 |.ifs t a b,X,S,ex,lv,Q,st,h=>by
  let⟨x,y,z,p,rfl⟩:=aHR (jx h);have h':(kT S t x&&kB S lv a y&&kB S lv b z)=ak:=h;simp only[bx]at h';exact aQG (ym Q.si t x h'.1.1) (yn a Q y h'.1.2) (yn b Q z h'.2)
 |.set i e,X,S,ex,lv,Q,st,h=>by
  have jz:=jy h;let⟨ts,y,p,rfl⟩:=nD (jx h);cases ts with
  |nil=>exact aX h
  |cons t r =>
   let⟨x,q,rfl⟩:=gY jz;cases r with
   |cons _ _=>exact aX h
   |nil =>
    have h':(S.N[i]?==aj x&&S.fl[i]?==aj ak&&!nC y&&kE S e y)=ak:=h;simp only[bx,gV]at h';have e1:=beq_iff_eq.mp h'.1.1.1;exact VQ (i:=i) Q.si.nd (by rw[Q.si.N];exact e1) (Q.loc i x e1 (beq_iff_eq.mp h'.1.1.2)) (fU Q.si e y h'.2) (BU h'.1.2) (.inl (Q.fn x))
 |.wb k o e,X,S,ex,lv,Q,st,h=>by
  have jz:=jy h;let⟨ts,z,p,rfl⟩:=nD (jx h);cases ts with
  |nil=>exact aX h
  |cons t r =>
   let⟨x,n,q,rfl⟩:=dN jz;cases r with
   |cons _ _=>exact aX h
   |nil =>
    have h':(Bz S k n&&!nC z&&kE S o x&&kE S e z)=ak:=h;simp only[bx,gV]at h';let⟨y,C,hg⟩:=RV h'.1.1.1;let⟨_,_,_,g⟩:=Q.si.gm _ _ _ hg;show gf X _ (MW S.gl k _ _);unfold MW;rw[hg];exact aG8 (fU Q.si o x h'.1.2) (fU Q.si e z h'.2) g.1 g.2 (BU h'.1.1.2)
 |.setM o i e,X,S,ex,lv,Q,st,h=>by
  have jz:=jy h;let⟨ts,z,p,rfl⟩:=nD (jx h);cases ts with
  |nil=>exact aX h
  |cons t r =>
   let⟨x,y,q,rfl⟩:=iK jz;cases r with
   |cons _ _=>exact aX h
   |nil =>
    have h':(!isSlice y&&!nC z&&kE S o x&&kE S i y&&kE S e z)=ak:=h;simp only[bx,gV]at h';exact aH6 Q.si.hu (fU Q.si o x h'.1.1.2) (fU Q.si i y h'.1.2) (fU Q.si e z h'.2) (BU h'.1.1.1.2)
 |.se o i e,X,S,ex,lv,Q,st,h=>by
  have jz:=jy h;let⟨ts,z,p,rfl⟩:=nD (jx h);cases ts with
  |nil=>exact aX h
  |cons t r =>
   let⟨x,y,q,rfl⟩:=iK jz;cases r with
   |cons _ _=>exact aX h
   |nil =>
    have h':(!isSlice y&&!nC z&&kE S o x&&kE S i y&&kE S e z)=ak:=h;simp only[bx,gV]at h';exact aGA Q.si.hu (fU Q.si o x h'.1.1.2) (fU Q.si i y h'.1.2) (fU Q.si e z h'.2) (BU h'.1.1.1.2)
 |.raise k e es,X,S,ex,lv,Q,st,h=>by
  have jz:=jy h;let⟨a,b,p,rfl⟩:=aqP (jx h);cases a with
  |none=>exact aX h
  |some a =>
   let⟨q1,q2⟩:=Vx jz;let⟨f,as,ks,q,rfl⟩:=j6 q1;let⟨x,np,rfl⟩:=gY q2;cases as with
   |nil=>exact aX h
   |cons y ys =>
    cases ks with
    |cons _ _=>exact aX h
    |nil =>
     cases b with
     |some _=>exact aX h
     |none=>exact T' Q h
 |.Bw k i b hb,X,S,ex,lv,Q,st,h=>by
  have jz:=jy h;let⟨y,hs,el,fin,p,rfl⟩:=aAR (jx h);cases hs with
  |nil=>exact aX h
  |cons hd tl =>
   let⟨ty,nm,km,hp⟩:=hd;cases ty with
   |none=>cases jz
   |some ty =>
    let⟨x,cp,rfl⟩:=gY jz;cases tl with
    |cons _ _=>cases nm<;>cases km<;>exact aX h
    |nil =>
     cases nm with
     |none=>exact aX h
     |some n =>
      cases km with
      |nil=>exact aX h
      |cons z zs =>
       cases el with
       |cons _ _=>exact aX h
       |nil =>
        cases fin with
        |cons _ _=>exact aX h
        |nil =>
         have h':(lv==0&&S.calm&&S.N[i]?==aj n&&S.lc[i]?==aj ak&&kB S 1 b y&&kB S.Km 2 hb (z::zs)&&S.gv[k]?==aj ak&&BV S k x)=ak:=h;simp only[bx]at h';let⟨⟨⟨⟨⟨⟨⟨h0,gT⟩,h1⟩,h2⟩,h3⟩,h4⟩,hv⟩,h⟩:=h';have hv:=beq_iff_eq.mp hv;let⟨a,hg⟩:=SZ h;show gf X _ (HM S.gl X.K k i (λAH=>mB S.gl X.K AH b) (mB S.gl X.K qA hb));rw[aAP hg];have e1:=beq_iff_eq.mp h1;let⟨g1,g2,g3,g4,g5⟩:=Q.si.gl _ _ _ hg hv;let⟨c1,c2,c3,c4⟩:=Q.cls _ _ _ hg hv;exact aLY (i:=i) (Q.si.cm gT) Q.si.nd (by rw[Q.si.N];exact e1) (Q.Dm i n e1 (beq_iff_eq.mp h2)) Q.kF Q.DG g1 g4 c2 c3 c4 (λpn EX=>yn b (Q.tr pn EX) y h3) (λxx=>yn hb (Q.ha xx) (z::zs) h4) g2
 |.setC i fl gv ci cc c,X,S,ex,lv,Q,st,h=>by
  have jz:=jy h;have j2:=XF h;let⟨ts,z,p,rfl⟩:=nD (jx h);let⟨q1,q2⟩:=Vx (beq_iff_eq.mp j2);let⟨elt,gens,scope,pp,rfl⟩:=Ww q1;cases ts with
  |nil=>exact aX h
  |cons t r =>
   let⟨y,q,rfl⟩:=gY jz;cases gens with
   |nil=>cases r<;>exact aX h
   |cons g gr =>
    let⟨tg,it,ifs,a⟩:=g;let⟨x,px,rfl⟩:=gY q2;cases gr with
    |cons _ _=>cases r<;>exact aX h
    |nil =>
     cases r with
     |cons _ _=>exact aX h
     |nil =>
      have h':(S.N[i]?==aj y&&S.fl[i]?==aj ak&&a==0&&wy S [x] scope fl gv&&!isSet it&&kI S ao ci it&&kC (S.cmp [x] fl gv) cc ifs&&kE (S.cmp [x] fl gv) c elt)=ak:=h;simp only[bx,gV]at h';let⟨⟨⟨⟨⟨⟨⟨hy,XM⟩,h2⟩,h3⟩,h4⟩,h5⟩,h6⟩,h7⟩:=h';have:=beq_iff_eq.mp h2;subst this;have e1:=beq_iff_eq.mp hy;exact Y1 (i:=i) (uY Q.si h3) (λC s H fp ψ σ=>Q7 (uY Q.si h3) Q.si.nd) Tv Q.si.nd (by rw[Q.si.N];exact e1) (Q.loc i y e1 (beq_iff_eq.mp XM)) (Q.fn y) (O6 (tt:=false) Q.si (λz=>nomatch z) ci it h5) (λC s H fp ψ=>O7 (Q.si.cmp h3 C s H fp ψ) cc ifs h6) (λC s H fp ψ=>fU (Q.si.cmp h3 C s H fp ψ) c elt h7) (K5 h4)
 |.zi is e,X,S,ex,lv,Q,st,h=>by
  have jz:=jy h;let⟨ts,y,p,rfl⟩:=nD (jx h);cases ts with
  |nil=>exact aX h
  |cons t r =>
   let⟨es,k,tp,rfl⟩:=Uc jz;cases r with
   |cons _ _=>exact aX h
   |nil =>
    have h':(S.calm&&!isTup y&&!nC y&&yz.Bd S is es&&kE S e y)=ak:=h;simp only[bx,gV]at h';let⟨⟨⟨⟨h1,h2⟩,h3⟩,h4⟩,h5⟩:=h';exact aG3 (VM Q.si.nd (Q.si.cm h1) (LJ Q h4)) (fU Q.si e y h5) (show md y (aj (.Tuple es k tp)) p.line X.env=pure ao from BU h3) (aHQ h2) rfl
 |.sf ci tg b,X,S,ex,lv,Q,st,h=>by
  let⟨dQ,it,body,el,p,rfl⟩:=aAQ (jx h);cases el with
  |cons _ _=>exact aX h
  |nil =>
   have h':(lv !=1&&MV S tg&&!isSet it&&yz S tg dQ&&kI S (isTup dQ&&S.calm) ci it&&kB S lv b body)=ak:=h;simp only[bx,gV]at h';let⟨⟨⟨⟨⟨h1,hg⟩,h2⟩,h3⟩,h4⟩,h5⟩:=h';exact aG1 (Q.l0 (bne_iff_ne.mp h1)) (aRR Q.si (λz=>by rw[bx]at z;exact⟨Q.si.cm z.2,N' z.1⟩) ci it h4) (aNG Q hg h3) (yn b Q body h5) (K5 h2)
 |.pass,X,S,ex,lv,Q,st,h=>by
  let⟨_,rfl⟩:=J' (jx h);exact aFI
theorem yn:∀(c:CB){X:Cx}{S:SI}{ex:bL->eX}{lv:Nat},mM X S ex lv->∀(st:List nu),kB S lv c st=ak->l7 X st (mB S.gl X.K ex c)
 |.nil,X,S,ex,lv,Q,st,h=>by
  cases st with
  |nil=>exact aLT
  |cons _ _=>exact aX h
 |.cons s .nil,X,S,ex,lv,Q,st,h=>by
  match st,h with
  |[],h=>exact aX h
  |[x],h =>
   have h':(kS S lv s x&&kB S lv .nil [])=ak:=h;rw[bx]at h';exact aLU (O5 s Q x h'.1)
  |x::y::ys,h =>
   have h':(kS S lv s x&&kB S lv .nil (y::ys))=ak:=h;rw[bx]at h';exact aX h'.2
 |.cons s (.cons s' r),X,S,ex,lv,Q,st,h=>by
  match st,h with
  |[],h=>exact aX h
  |x::ys,h =>
   have h':(kS S lv s x&&kB S lv (.cons s' r) ys)=ak:=h;rw[bx]at h';exact aFH (O5 s Q x h'.1) (yn (.cons s' r) Q ys h'.2)
end
end L4
namespace L4
open PySem PySem.Spec PyProof.Rows L2
abbrev aY(R:iW):iW:=λd G'=>∃G0,Le G0 G'/\R d G0
abbrev yV(EX:eX):eX:=λC G'=>∃G0,Le G0 G'/\EX C G0
abbrev bu(n m:Nat)(tb:eX->pI):kU:=λds G R EX=>ds.length=m/\tb (yV EX) ⟨λ_ G'=>aY R .ag G',aY R,λ_ _=>False,λ_ _=>False⟩ (HK n ds) G
def aY.here(h:R d G):aY R d G:=⟨G,.refl G,h⟩
def yV.here(h:R d G):yV R d G:=⟨G,.refl G,h⟩
def D'{K:Fg}(h:xN K EX E):xN K (yV EX) E:=λC H' G' g ⟨G0,l,q⟩=>h C H' G0 (g.le l) q
variable{qt:Bool}{P:mz}{mg:Str->Option au}{base:lg}{fd:oh}{ps:List Str}
def aAS{w:jr}{K:Fg}{x qual:Str}{st:nu}{f:bw}{N:List Str}{k:Nat}{tb:eX->pI}(F:gu K x qual st f fd)(S:aU N ps (aV st))
  (ie:∀(eB:au)(A:jf)(outer:List Env)(s:cg)(H:Hp)(E:XK)(EX:eX),lB qt k (A.deeper (envOfC qual (aV st) s.heap.objs.size f eB))->xN K EX E ->
   l7 (eA qt P w K mg base N qual (aV st) f eB A outer s H E) (cH st) (tb EX)):c7 qt P w K mg base (m6 P w) (k+1) f fd ps (cT K (bu N.length ps.length tb)):=by
 refine(aFK F S ie).imp ?_;rintro vs H Q E ⟨ds,G,R,EX,r,g,⟨hl,q⟩,kk,hE⟩;exact⟨ds,G,aY R,yV EX,r,g,⟨hl,q⟩,(by rintro v H' d G' r1 g1 ⟨G0,l,q⟩;exact kk v H' d G0 r1 (g1.le l) q),D' hE⟩
abbrev Fo(P:mz)(w:jr)(K:Fg)(mg:Str->Option au)(base:lg)(k:Nat)(x:Str):GT->Prop
 |.con d=>∃u v,mg x=aj u/\RelV v u/\∀H,RD K H d v
 |.cls a=>mg x=aj (.ref a)/\nB K a Jv "ValueError.__new__"=ak/\(yt K a).isSome=ak/\Ao K (.ref a)=aj (.type "type")/\xr K (.ref a) (.type "BaseException")=aj ak
 |.fn sp n qt=>∃f fd ps,c7 qt P w K mg base (m6 P w) k f fd ps (cT K sp)/\mg x=aj (.ref f)/\wz K (.ref f)=ak/\Binds K fd ps []
 |.bf b=>mg x=bh/\qe x=aj (K8 b)
 |.bt n=>mg x=bh/\qe x=aj (.type n)
 |.kl C sp dd=>∃j f fd ps ds b7,j+1=k/\Mk K C f/\c7 ao P w K mg base (m6 P w) j f fd ps (cT K sp)/\mg x=aj (.ref C)/\Binds K fd ps ds/\Vals b7 ds/\∀H,cW K H dd b7
 |.me C m sp dd=>∃f fd ps ds b7,iE K C/\Meth K C m f/\c7 ao P w K mg base (m6 P w) k f fd ps (cT K sp)/\Binds K fd ps ds/\Vals b7 ds/\∀H,cW K H dd b7
 |.fl C f=>iE K C/\nA K C f
abbrev MU(sc:dE)(x:Str):Bool:=match sc.names.lookup x with
 |some .local=>ak
 |some .cell=>ak
 |_=>ao
abbrev MT(sc:dE)(x:Str):Bool:=match sc.names.lookup x with
 |some .local=>ak
 |_=>ao
abbrev MS(sc:dE)(x:Str):Bool:=match sc.names.lookup x with
 |some .globalImplicit=>ak
 |_=>ao
abbrev MR(sc:dE)(x:Str):Bool:=match sc.names.lookup x with
 |some .cell=>ak
 |_=>ao
private theorem aAT{sc:dE}{x:Str}(h:MR sc x=ak):sc.names.lookup x=aj .cell:=by
 unfold MR at h;split at h
 .rename_i e;exact e
 .exact aX h
abbrev BS(S:SI)(sc:dE):Bool:=(qd S.N.length).all (λi=>match S.N[i]? with
  |none=>ao
  |some x=>x !=("__debug__":Str)&&x !=("__classdict__":Str)&&(S.fl[i]? !=aj ak||MU sc x)&&(S.lc[i]? !=aj ak||MT sc x)&&(S.ce[i]? !=aj ak||MR sc x)) &&
 (qd S.gl.length).all (λk=>match S.gl[k]? with
  |none=>ao
  |some (y,_)=>(S.gv[k]? !=aj ak||MS sc y)&&y !=("__debug__":Str)&&y !=("__name__":Str))
private theorem aAU{x:Str}(h:MU sc x=ak):Loc sc x:=by
 unfold MU at h;split at h
 .rename_i e;exact .inl e
 .rename_i e;exact .inr e
 .exact aX h
def aAV{x:Str}(h:Loc sc x):CN sc x:=h.elim .inl λz=>.inr (.inl z)
private theorem aAW{sc:dE}{x:Str}(h:MT sc x=ak):sc.names.lookup x=aj .local:=by
 unfold MT at h;split at h
 .rename_i e;exact e
 .exact aX h
private theorem aAX{sc:dE}{x:Str}(h:MS sc x=ak):sc.names.lookup x=aj .globalImplicit:=by
 unfold MS at h;split at h
 .rename_i e;exact e
 .exact aX h
variable{S:SI}
def HV{sc:dE}(h:BS S sc=ak){i:Nat}{x:Str}(e:S.N[i]?=aj x) :
  (x==("__debug__":Str))=ao/\(x==("__classdict__":Str))=ao/\(S.fl[i]?=aj ak->Loc sc x)/\(S.lc[i]?=aj ak->sc.names.lookup x=aj .local)/\(S.ce[i]?=aj ak->sc.names.lookup x=aj .cell):=by
 unfold BS at h;rw[bx]at h;have hi:i<S.N.length:=(iz.mp e).1;have q:=qx.mp h.1 i (zq.mpr hi);rw[e]at q;simp only[bx,bne_iff_ne,ne_eq,Ir]at q;let⟨⟨⟨⟨q1,q2⟩,q3⟩,q4⟩,q5⟩:=q;refine⟨beq_eq_false_iff_ne.mpr q1,beq_eq_false_iff_ne.mpr q2,λz=>?_,λz=>?_,λz=>?_⟩
 .rcases q3 with q|q
  .exact absurd z q
  .exact aAU q
 .rcases q4 with q|q
  .exact absurd z q
  .exact aAW q
 .rcases q5 with q|q
  .exact absurd z q
  .exact aAT q
def aAY{sc:dE}(h:BS S sc=ak){k:Nat}{x:Str}{g:GT}(e:S.gl[k]?=aj (x,g)):(S.gv[k]?=aj ak->sc.names.lookup x=aj .globalImplicit)/\(x==("__debug__":Str))=ao/\x≠"__name__":=by
 unfold BS at h;rw[bx]at h;have q:=qx.mp h.2 k (zq.mpr (iz.mp e).1);rw[e]at q;simp only[bx,bne_iff_ne,ne_eq,Ir]at q;exact⟨λz=>aAX (q.1.1.resolve_left λn=>n z),beq_eq_false_iff_ne.mpr q.1.2,q.2⟩
def Z9{w:jr}{K:Fg}{x qual:Str}{st:nu}{f:bw}{k:Nat}{c:CB}(F:gu K x qual st f fd)(hS:aU S.N ps (aV st))
  (hc:S.calm=!qt)(hv:BS S (aV st)=ak)(hk:kB S 0 c (cH st)=ak)(hg:∀(j:Nat)(y:Str)(g:GT),S.gl[j]?=aj (y,g)->Fo P w K mg base k y g) :
  c7 qt P w K mg base (m6 P w) (k+1) f fd ps (cT K (bu S.N.length ps.length λEX=>mB S.gl K (λ_=>EX) c)):=by
 refine aAS F hS λeB A outer s H E EX hr hE=>?_;refine yn c (X:=eA qt P w K mg base S.N qual (aV st) f eB A outer s H E) (S:=S) (ex:=λ_=>EX) (lv:=0) ?_ (cH st) hk;refine⟨⟨rfl,hS.nd,λi y e1 e2=>?_,λi y e1 e2=>.inl ((HV hv e1).2.2.2.2 e2),λj y g e=>?_,hr.units,λz=>hc.symm.trans z,aQJ hE⟩,λi y e1 e2=>?_,λi y e1 e2=>?_,λ_=>rfl,λj y a e _=>?_,λ_=>Oz,λ_ _=>aQK hE,rfl,rfl⟩
 .obtain⟨a1,a2,a3,a4⟩:=HV hv e1;exact⟨aAV (a3 e2),a1,a2⟩
 .obtain⟨a1,a2,a3⟩:=aAY hv e;have z:=hg j y g e;refine⟨a1,a2,a3,?_⟩;cases g with
  |con d=>exact z
  |cls a=>exact⟨z.1,z.2.1⟩
  |fn sp n q2 =>
   intro hz;let⟨f',DH,A5,F',m',k',b'⟩:=z;refine⟨k,f',DH,A5,F',⟨λe=>hr.hd ?_,hr.dp,hr.un⟩,m',k',b'⟩;have hs:S.calm=ak:=hz.resolve_left (by rw[e];decide);rw[hc]at hs;simpa using hs
  |bf b=>exact z
  |bt n=>exact z
  |kl C sp dd =>
   intro hs;let⟨j',f',DH,A5,ds,b7,rfl,q1,q2,q3,q4,q5,q6⟩:=z;rw[hc]at hs;exact⟨j',f',DH,A5,ds,b7,q1,q2,⟨λ_=>hr.hd (by simpa using hs),hr.dp,hr.un⟩,q3,q4,q5,q6⟩
  |me C m sp dd =>
   intro hs;let⟨f',DH,A5,ds,b7,q1,q2,q3,q4,q5,q6⟩:=z;rw[hc]at hs;exact⟨k,f',DH,A5,ds,b7,q1,q2,q3,⟨λ_=>hr.hd (by simpa using hs),hr.dp,hr.un⟩,q4,q5,q6⟩
  |fl C f=>exact z
 .exact(HV hv e1).2.2.1 e2
 .exact(HV hv e1).2.2.2.1 e2
 .have z:=hg j y _ e;exact z.2
end L4
namespace L4
open PySem PySem.Spec PyProof.Rows L2
def cb{P:Str->GT->Prop}:∀(j:Nat)(y:Str)(g:GT),([]:List (Str×GT))[j]?=aj (y,g)->P y g:=λj y g h=>by simp at h
def cJ{P:Str->GT->Prop}{x:Str}{g:GT}{l:List (Str×GT)}(h:P x g)(r:∀(j:Nat)(y:Str)(g:GT),l[j]?=aj (y,g)->P y g):∀(j:Nat)(y:Str)(g':GT),((x,g)::l)[j]?=aj (y,g')->P y g'
 |0,y,g',e=>by simp at e;let⟨e1,e2⟩:=e;subst e1;subst e2;exact h
 |j+1,y,g',e=>r j y g' (by simpa using e)
section
variable{w:jr}{K:Fg}{mg:Str->Option au}{base:lg}{k:Nat}{x:Str}
def rL{z:Int}(h:∃t,mg x=aj (.int z t)):Fo P w K mg base k x (.con (.int z)):=by
 let⟨t,h⟩:=h;exact⟨_,.int z,h,⟨t,rfl⟩,λ_=>.int z⟩
end
def Z8:qe "range"=aj (.type "range"):=by decide+kernel
end L4
namespace L4
open PySem PySem.Spec PyProof.Rows L2
variable{ps:List Str}
def RQ{K:Fg}(h:∀us:List au,us.length=ps.length->vg fd ⟨us,[]⟩=pure (ps.zip us)):Binds K fd ps []:=Binds.all h
variable{fd:oh}
def aB0{K:Fg}{n:Nat}(e:K.lookup T=aj ⟨oc,od,.seq #[u] n,sl⟩)
  (h:∀us:List au,us.length=ps.length->∃k:Option (Array au)->Sem (List (Str×au)),fd.defaults=.ref T/\vg fd ⟨us,[]⟩=seqItems? fd.defaults >>= k/\k (aj #[u])=pure (ps.zip us)):Binds K fd ps []:=λs us hK hl=>by
 rw[Aq]at hl ⊢;let⟨k,h0,h1,h2⟩:=h us hl;exact PySem.W.binds_K hK h0 e rfl h1 h2
def aB1{K:Fg}{n:Nat}(e:K.lookup T=aj ⟨oc,od,.seq #[u] n,sl⟩)
  (h:∀us:List au,us.length+1=ps.length->∃k:Option (Array au)->Sem (List (Str×au)),fd.defaults=.ref T/\vg fd ⟨us,[]⟩=seqItems? fd.defaults >>= k/\k (aj #[u])=pure (ps.zip (us++[u]))):Binds K fd ps [u]:=λs us hK hl=>by
 let⟨k,h0,h1,h2⟩:=h us (by simpa using hl);exact PySem.W.binds_K hK h0 e rfl h1 h2
end L4
namespace L5
open PySem PySem.Spec PyProof.Rows L2 L4
abbrev Df(x:D)(f:Bool->Prop):Prop:=match x with
 |.bl k=>f k
 |_=>False
abbrev JS(x:D)(f:Int->Prop):Prop:=match x with
 |.int k=>f k
 |_=>False
def QJ{k:Bool}:Df (.bl k) f=f k:=rfl
def aB2{k:Int}:JS (.int k) f=f k:=rfl
abbrev sL(xs:List D):Prop:=xs.length<=dg
def aHX:sL []=True:=eq_true (show 0<=dg by decide)
variable{a0:D}
def aHY:sL [a0]=True:=eq_true (show 1<=dg by decide)
variable{a1:D}
def QI:sL [a0,a1]=True:=eq_true (show 2<=dg by decide)
def aHZ:sL [a0,a1,a2]=True:=eq_true (show 3<=dg by decide)
def aI0:sL [a0,a1,a2,a3]=True:=eq_true (show 4<=dg by decide)
def aI1:sL [a0,a1,a2,a3,a4]=True:=eq_true (show 5<=dg by decide)
variable{r:R3}{T:String}{ds:List D}
section
variable{t:pI}{F:eU}{G:Gp}{R:iW}{tt FV:df}{K:Fg}
def Ha:aL t u F ρ G=t {F with nx:=u F} ρ G:=rfl
def aI2:bH F ρ G=F.nx ρ G:=rfl
def aI3:bT te F ρ G=te ρ G λ_ G1=>F.nx ρ G1:=rfl
def aNJ:cC te F ρ G=te ρ G F.rt:=rfl
def Vv:cX tt t u F ρ G=tt ρ G λb G1=>if b=ak then t F ρ G1 else u F ρ G1:=rfl
def G7{i:Nat}:cQ i te F ρ G=te ρ G λx G1=>F.nx (iq ρ i x) G1:=rfl
def x_raise:oA EX C tA F ρ G=tA ρ G λds G1=>sL ds/\EX ρ C G1:=rfl
def aNK{i:Nat}:Eh K C i bd t F ρ G=bd (λCZ C' G1=>xr K (.ref C') (.ref C)=aj ak/\∀x,G1 x=bh->t {nx:=λb9 G2=>F.nx (nc b9 i) G2,rt:=F.rt,bk:=λb9 G2=>F.bk (nc b9 i) G2,ct:=λb9 G2=>F.ct (nc b9 i) G2} (iq CZ i (.ref x)) (aC G1 x (.fe C'))) F ρ G:=rfl
def x_c:lZ d ρ G R=R d G:=rfl
def Hy:eV 0 (aj d::ρ) G R=R d G:=rfl
def Hx{o:Option D}{n:Nat}:eV (n+1) (o::ρ) G R=eV n ρ G R:=rfl
def QH{o:Option D}:iq (o::ρ) 0 d=aj d::ρ:=rfl
def QG{o:Option D}{n:Nat}:iq (o::ρ) (n+1) d=o::iq ρ n d:=rfl
def QF{o:Option D}:nc (o::ρ) 0=bh::ρ:=rfl
def QE{o:Option D}{n:Nat}:nc (o::ρ) (n+1)=o::nc ρ n:=rfl
def HL:aG r ta tb ρ G R=ta ρ G λx G1=>tb ρ G1 λy G2=>r x y G2 R:=rfl
def QD:aO te ρ G Q=te ρ G λx G1=>Df x λk=>Q k G1:=rfl
def aB4{r':R3}:sV r r' ta tb tc ρ G R=ta ρ G λx G1=>tb ρ G1 λy G2=>r x y G2 λz G3=>Df z λk=>if k=ak then tc ρ G3 λw G4=>r' y w G4 R else R (.bl ao) G3:=by
 unfold sV;congr 1;funext x G1;congr 1;funext y G2;congr 1;funext z G3;cases z with
 |bl k=>cases k<;>rfl
 |_=>rfl
def aNL:Aj tt FV ρ G Q=tt ρ G λc G1=>if c=ak then FV ρ G1 Q else Q ao G1:=rfl
def aRT:sA tt FV ρ G Q=tt ρ G λc G1=>if c=ak then Q ak G1 else FV ρ G1 Q:=rfl
def aNM:uT tt ρ G Q=tt ρ G λc G1=>Q (!c) G1:=rfl
def aI4:Ax ta tb ρ G R=ta ρ G λx G1=>Df x λk=>if k=ak then tb ρ G1 R else R (.bl ao) G1:=by
 unfold Ax;congr 1;funext x G1;cases x with
 |bl k=>cases k<;>rfl
 |_=>rfl
def aI5:HJ ta ρ G R=ta ρ G λx G1=>Df x λk=>R (.bl (!k)) G1:=rfl
def aNN:Ah ta ρ G R=ta ρ G λx G1=>JS x λk=>R (.int (-k)) G1:=rfl
def Vu:m9 ρ G Q=Q [] G:=rfl
def Hw:cP te tA ρ G Q=te ρ G λx G1=>tA ρ G1 λxs G2=>Q (x::xs) G2:=rfl
def K3:mY tA ρ G R=tA ρ G λxs G1=>sL xs/\R (.tup xs) G1:=rfl
def Vt:qf tA ρ G R=tA ρ G λxs G1=>sL xs/\∀p,G1 p=bh->R (.ref p) (aC G1 p (.lst xs)):=rfl
def aNO:u6 ρ G R=∀p,G p=bh->R (.ref p) (aC G p (.aZ ao [])):=rfl
def x_call{ex:bL->eX}:aQ sp ex tA ρ G R=tA ρ G λds G1=>sp ds G1 R (ex ρ):=rfl
def aRU{r:List D->Gp->iW->Prop}:jP r tA ρ G R=tA ρ G λxs G1=>r xs G1 R:=rfl
def x_m{r:i6}:C4 T r te tA ρ G R=te ρ G λx G1=>wq T G1 x/\tA ρ G1 λxs G2=>r x xs G2 R:=rfl
def aB5:wq "list" G (.ref p)=((bM G p).isSome=ak):=by unfold wq;simp
def aI6:Cj te ρ G Q=te ρ G λx G1=>JS x λk=>Q (aj k) G1:=rfl
def IH{i j:Int}:gF (.int i) (.int j) G R=R (.int (i+j)) G:=rfl
def aNP{i j:Int}:Ai (.int i) (.int j) G R=R (.int (i - j)) G:=rfl
def Vs{i j:Int}:sQ (.int i) (.int j) G R=(DY i j/\R (.int (i*j)) G):=rfl
def aI7{i j:Int}:lC (.int i) (.int j) G R=(Nm i j/\R (.int (i / j)) G):=rfl
def aNQ{i j:Int}:fM (.int i) (.int j) G R=(0<j/\R (.int (i%j)) G):=rfl
def aNR{i j:Int}:Ej (.int i) (.int j) G R=(Nl i j/\R (.int (i^j.toNat)) G):=rfl
def x_lt{i j:Int}:BP (.int i) (.int j) G R=R (.bl (decide (i<j))) G:=rfl
def aRV{i j:Int}:BO (.int i) (.int j) G R=R (.bl (decide (j<i))) G:=rfl
def aRW{i j:Int}:DW (.int i) (.int j) G R=R (.bl (decide (i<=j))) G:=rfl
def RP{i j:Int}:xW (.int i) (.int j) G R=R (.bl (i==j)) G:=by
 show(cI 20 (.int i)=ak/\cI 20 (.int j)=ak/\_)=_;simp[cI,aT]
def RO{i j:Int}:wA (.int i) (.int j) G R=R (.bl (!(i==j))) G:=by
 show(cI 20 (.int i)=ak/\cI 20 (.int j)=ak/\_)=_;simp[cI,aT]
def aB6:xW (.str i) (.str j) G R=R (.bl (i==j)) G:=by
 show(cI 20 (.str i)=ak/\cI 20 (.str j)=ak/\_)=_;simp[cI,aT]
def aB7:wA (.str i) (.str j) G R=R (.bl (!(i==j))) G:=by
 show(cI 20 (.str i)=ak/\cI 20 (.str j)=ak/\_)=_;simp[cI,aT]
def aB8:xW (.tup xs) (.tup ys) G R=(cI 20 (.tup xs)=ak/\cI 20 (.tup ys)=ak/\R (.bl (aT (.tup xs) (.tup ys))) G):=rfl
def RN:wA (.tup xs) (.tup ys) G R=(cI 20 (.tup xs)=ak/\cI 20 (.tup ys)=ak/\R (.bl (!aT (.tup xs) (.tup ys))) G):=rfl
def aB9{z:Str}:yJ [.str z] G R=(z.length<=dg/\R (.int z.length) G):=rfl
def aBA:yJ [.tup ds] G R=R (.int ds.length) G:=rfl
def Mo(h:bM G q=aj ds):yJ [.ref q] G R=R (.int ds.length) G:=by unfold yJ;simp only[h]
def aBB{b:Bool}:Ef [.bl b] G R=R (.int (if b then 1 else 0)) G:=rfl
def LF{i:Int}(h:dC xs i=aj d):iY (.tup xs) (.int i) G R=R d G:=by unfold iY;simp only[h]
def LD{i:Int}(e:bM G p=aj xs)(h:dC xs i=aj d):iY (.ref p) (.int i) G R=R d G:=by unfold iY;simp only[e,h]
def ai9:aD K [.ag,.ty "int"] G R=R (.bl ao) G:=by
 show("int"∈iR/\R (.bl (L2.subB "NoneType" "int")) G)=_;rw[show L2.subB "NoneType" "int"=ao from by decide];simp[iR]
def af9:aD K [.ag,.ty "bool"] G R=R (.bl ao) G:=by
 show("bool"∈iR/\R (.bl (L2.subB "NoneType" "bool")) G)=_;rw[show L2.subB "NoneType" "bool"=ao from by decide];simp[iR]
def abP:aD K [.ag,.ty "tuple"] G R=R (.bl ao) G:=by
 show("tuple"∈iR/\R (.bl (L2.subB "NoneType" "tuple")) G)=_;rw[show L2.subB "NoneType" "tuple"=ao from by decide];simp[iR]
def alD{b:Bool}:aD K [(.bl b),.ty "int"] G R=R (.bl ak) G:=by
 show("int"∈iR/\R (.bl (L2.subB "bool" "int")) G)=_;rw[show L2.subB "bool" "int"=ak from by decide];simp[iR]
def aiA{b:Bool}:aD K [(.bl b),.ty "bool"] G R=R (.bl ak) G:=by
 show("bool"∈iR/\R (.bl (L2.subB "bool" "bool")) G)=_;rw[show L2.subB "bool" "bool"=ak from by decide];simp[iR]
def afA{b:Bool}:aD K [(.bl b),.ty "tuple"] G R=R (.bl ao) G:=by
 show("tuple"∈iR/\R (.bl (L2.subB "bool" "tuple")) G)=_;rw[show L2.subB "bool" "tuple"=ao from by decide];simp[iR]
def aiB{i:Int}:aD K [(.int i),.ty "int"] G R=R (.bl ak) G:=by
 show("int"∈iR/\R (.bl (L2.subB "int" "int")) G)=_;rw[show L2.subB "int" "int"=ak from by decide];simp[iR]
def afB{i:Int}:aD K [(.int i),.ty "bool"] G R=R (.bl ao) G:=by
 show("bool"∈iR/\R (.bl (L2.subB "int" "bool")) G)=_;rw[show L2.subB "int" "bool"=ao from by decide];simp[iR]
def abQ{i:Int}:aD K [(.int i),.ty "tuple"] G R=R (.bl ao) G:=by
 show("tuple"∈iR/\R (.bl (L2.subB "int" "tuple")) G)=_;rw[show L2.subB "int" "tuple"=ao from by decide];simp[iR]
def aiC:aD K [(.str z),.ty "int"] G R=R (.bl ao) G:=by
 show("int"∈iR/\R (.bl (L2.subB "str" "int")) G)=_;rw[show L2.subB "str" "int"=ao from by decide];simp[iR]
def afC:aD K [(.str z),.ty "bool"] G R=R (.bl ao) G:=by
 show("bool"∈iR/\R (.bl (L2.subB "str" "bool")) G)=_;rw[show L2.subB "str" "bool"=ao from by decide];simp[iR]
def abR:aD K [(.str z),.ty "tuple"] G R=R (.bl ao) G:=by
 show("tuple"∈iR/\R (.bl (L2.subB "str" "tuple")) G)=_;rw[show L2.subB "str" "tuple"=ao from by decide];simp[iR]
def aiD:aD K [(.tup xs),.ty "int"] G R=R (.bl ao) G:=by
 show("int"∈iR/\R (.bl (L2.subB "tuple" "int")) G)=_;rw[show L2.subB "tuple" "int"=ao from by decide];simp[iR]
def afD:aD K [(.tup xs),.ty "bool"] G R=R (.bl ao) G:=by
 show("bool"∈iR/\R (.bl (L2.subB "tuple" "bool")) G)=_;rw[show L2.subB "tuple" "bool"=ao from by decide];simp[iR]
def abS:aD K [(.tup xs),.ty "tuple"] G R=R (.bl ak) G:=by
 show("tuple"∈iR/\R (.bl (L2.subB "tuple" "tuple")) G)=_;rw[show L2.subB "tuple" "tuple"=ak from by decide];simp[iR]
def qH{q C C':bw}{b:Bool}(h:G q=aj (.fe C))(e:nE K C)(k:iw K (.ref C) (.ref C')=aj b)(z:R (.bl b) G):aD K [.ref q,.ref C'] G R:=by
 unfold aD;simp only[zg,h];exact⟨b,e,k,z⟩
def aBC{n:String}{b:Bool}(h:G q=aj (.fe C))(e:nE K C)(k:iw K (.ref C) (.type n)=aj b)(z:R (.bl b) G):aD K [.ref q,.ty n] G R:=by
 unfold aD;simp only[zg,kA,h];exact⟨b,e,k,z⟩
end
def dU(h:G p=aj (.lst xs)):bM G p=aj xs:=by unfold bM;rw[h]
def yW(h:G p=aj (.gL xs)):bM G p=aj xs:=by unfold bM;rw[h]
def dB:bM (aC G p (.lst xs)) p=aj xs:=dU aB
def aBD(h:R d G)(l:Le G G'):aY R d G':=⟨G,l,h⟩
def Mn{b:Bool}{P Q:Prop}(h1:b=ak->P)(h2:b=ao->Q):if b=ak then P else Q:=by
 cases b
 .exact h2 rfl
 .exact h1 rfl
abbrev kn(G:Gp)(d:D):Prop:=(kA G d).isSome=ak
def QC(h:kn G (.ref q)):kA G (.ref q)=aj "list" ∨ kA G (.ref q)=aj "dict":=by
 unfold kn at h
 have e:kA G (.ref q)=(match G q with
  |some (.lst _)=>aj "list"
  |some (.gL _)=>aj "list"
  |some (.aZ _ _)=>aj "dict"
  |_=>bh):=rfl
 rw[e]at h ⊢;split at h
 .exact .inl rfl
 .exact .inl rfl
 .exact .inr rfl
 .simp at h
def QB{b:List D}:kn G (.tup b):=rfl
section
variable{K:Fg}
def QA{x:D}{n:String}(e:kA G x=aj T)(hn:n∈iR):aD K [x,.ty n] G R=R (.bl (L2.subB T n)) G:=by
 show(match kA G x with
  |some T=>n∈iR/\R (.bl (L2.subB T n)) G
  |none=>_)=_
 rw[e];exact propext ⟨λh=>h.2,λh=>⟨hn,h⟩⟩
def alE(h:kn G (.ref q)):aD K [.ref q,.ty "int"] G R=R (.bl ao) G:=by
 rcases QC h with e|e<;>rw[QA e (by decide)]<;>rfl
def Wv(h:kn G (.ref q)):aD K [.ref q,.ty "tuple"] G R=R (.bl ao) G:=by
 rcases QC h with e|e<;>rw[QA e (by decide)]<;>rfl
def Ln{α:Type}{a:α}{xs:List α}:dC (a::xs) 0=aj a:=by
 unfold dC uB;simp
def atS{α:Type}{a:α}{xs:List α}{n:Nat}:dC (a::xs) ((n+1:Nat):Int)=dC xs (n:Int):=by
 unfold dC uB;have h0:(0:Int)<=((n+1:Nat):Int):=by omega
 have h1:(0:Int)<=(n:Int):=by omega
 rw[if_pos h0,if_pos h1];by_cases h:n<xs.length
 .have a1:((n+1:Nat):Int)<((a::xs).length:Int):=by simp;omega
  have a2:(n:Int)<(xs.length:Int):=by omega
  rw[if_pos a1,if_pos a2];simp
 .have a1:¬ ((n+1:Nat):Int)<((a::xs).length:Int):=by simp;omega
  have a2:¬ (n:Int)<(xs.length:Int):=by omega
  rw[if_neg a1,if_neg a2];rfl
def Er{α:Type}{xs:List α}{n:Nat}:dC xs (n:Int)=xs[n]?:=by
 unfold dC uB;rw[if_pos ⋯];by_cases h:n<xs.length
 .rw[if_pos ⋯];simp
 .rw[if_neg ⋯];simp at h;simp[h]
def aBE{a:D}:iY (.tup (a::xs)) (.int 0) G R=R a G:=LF Ln
def aBF{a b:D}:iY (.tup (a::b::xs)) (.int 1) G R=R b G:=LF (i:=((1:Nat):Int)) (by rw[atS,Er];rfl)
def aBG{a b c:D}:iY (.tup (a::b::c::xs)) (.int 2) G R=R c G:=LF (i:=((2:Nat):Int)) (by rw[atS,Er];rfl)
end
section
end
section
end
section
variable{i j:Int}
def aI8(h:-18446744073709551616<i/\i<18446744073709551616):sQ (.int i) (.int j) G R=R (.int (i*j)) G:=by
 rw[Vs];exact propext ⟨λz=>z.2,λz=>⟨.inl ⟨by have:=h.1;omega,by have:=h.2;omega⟩,z⟩⟩
def aI9(h:-18446744073709551616<j/\j<18446744073709551616):sQ (.int i) (.int j) G R=R (.int (i*j)) G:=by
 rw[Vs];exact propext ⟨λz=>z.2,λz=>⟨.inr ⟨by have:=h.1;omega,by have:=h.2;omega⟩,z⟩⟩
def EL(h:0<j/\j<1073741824):lC (.int i) (.int j) G R=R (.int (i / j)) G:=by
 rw[aI7];exact propext ⟨λz=>z.2,λz=>⟨h,z⟩⟩
def B9(h:0<j):fM (.int i) (.int j) G R=R (.int (i%j)) G:=by
 rw[aNQ];exact propext ⟨λz=>z.2,λz=>⟨h,z⟩⟩
def Qz(h:0<=j/\j<=1000000/\i.natAbs<18446744073709551616):Ej (.int i) (.int j) G R=R (.int (i^j.toNat)) G:=by
 rw[aNR];exact propext ⟨λz=>z.2,λz=>⟨⟨h.1,h.2.1,h.2.2⟩,z⟩⟩
end
section
variable{i:Int}
def Z7{α:Type}{xs:List α}{i:Int}(h0:0<=i)(h1:i<(xs.length:Int)):∃d,dC xs i=aj d/\d∈xs:=by
 let⟨n,rfl⟩:=Int.eq_ofNat_of_zero_le h0;have hn:n<xs.length:=by omega
 exact⟨xs[n],by rw[Er];simp[hn],yh hn⟩
def LC{xs:List D}(e:bM G p=aj xs)(h0:0<=i)(h1:i<(xs.length:Int))(h:∀d∈xs,R d G):iY (.ref p) (.int i) G R:=by
 let⟨d,h2,h3⟩:=Z7 h0 h1;rw[LD e h2];exact h d h3
variable{P:D->Prop}
def all_nil:∀d∈([]:List D),P d:=λ_ h=>by simp at h
def all_cons{a:D}{r:List D}(h1:P a)(h2:∀d∈r,P d):∀d∈a::r,P d:=λd h=>by
 rcases ju.mp h with rfl|h
 .exact h1
 .exact h2 d h
end
section
variable{b:Bool}{α:Type}{a:α}{l:List α}
def V0:(True/\P)=P:=true_and P
def alG:(!true)=ao:=rfl
def Z6:((!b)=ak)=(b=ao):=by cases b<;>simp
def aqQ:(if True then P else Q)=P:=if_true ..
def alH:(if False then P else Q)=Q:=if_false ..
def aNS:(ao=ak)=False:=by simp
def aNT:(ak=ao)=False:=by simp
def alI:(a::l).length=l.length+1:=qm
def aqR:([]:List α).length=0:=rfl
def aqS{β:Type}{f:α->β}:(l.map f).length=l.length:=dw ..
end
end L5
namespace L6
open PySem PySem.Spec PyProof.Rows L2 L4 L5
abbrev MQ(x:D)(G:Gp)(Q:Src->Gp->Prop):Prop:=match x with
 |.ref p=>(match bM G p with
  |some xs=>Q (.lst p xs) G
  |none=>False)
 |_=>False
abbrev K1(x:D)(G:Gp)(Q:Src->Gp->Prop):Prop:=match x with
 |.ref p=>(match bM G p with
  |some xs=>Q (.lst p xs) G
  |none=>False)
 |_=>False
abbrev Vr(xs:List D)(G:Gp)(Q:Src->Gp->Prop):Prop:=match xs with
 |[.int j]=>-(2^62)<=j/\j<2^62/\Q (.oP (sv 0 j)) G
 |_=>False
section
variable{j:Int}
def aBH:Av te ρ G Q=te ρ G λx G1=>MQ x G1 Q:=rfl
def aNU:BJ te ρ G Q=te ρ G λx G1=>K1 x G1 Q:=rfl
def aIB:Ci ta ρ G Q=ta ρ G λxs G1=>Vr xs G1 Q:=rfl
def IG(h:bM G p=aj xs):MQ (.ref p) G Q=Q (.lst p xs) G:=by unfold MQ;simp only[h]
def NP(h:bM G p=aj xs):K1 (.ref p) G Q=Q (.lst p xs) G:=by unfold K1;simp only[h]
def aBI(h:-4611686018427387904<=j/\j<4611686018427387904):Vr [.int j] G Q=Q (.oP (sv 0 j)) G:=by
 show(_/\_/\_)=_;exact propext ⟨λz=>z.2.2,λz=>⟨⋯,⋯,z⟩⟩
end
abbrev Aa(dv:D->Option (List D))(src:Src)(tc:df)(te:bC)(ρ:bL)(G1:Gp)(R:iW):Prop:=src.items.length<dg/\∀p,G1 p=bh->∃P:Nat->List D->Gp->Prop,P 0 [] (aC G1 p (.lst [])) /\
 (∀k ds G,k<=src.items.length->P k ds G->src.ok G/\G p=aj (.lst ds)/\ds.length<=k) /\
 (∀k d ds G,src.items[k]?=aj d->P k ds G->∃ys,dv d=aj ys/\tc (ys.map aj++ρ) G λb G2=>if b=ak then te (ys.map aj++ρ) G2 λy G3=>G3 p=aj (.lst ds)/\P (k+1) (ds++[y]) (aC G3 p (.lst (ds++[y])))else P (k+1) ds G2) /\
 ∀ds G,P src.items.length ds G->∃G0,Le G0 G/\R (.ref p) G0
variable{tc:df}
def Qy{dv:D->Option (List D)}{ti:fT}:ES dv ti tc te ρ G R=ti ρ G λsrc G1=>Aa dv src tc te ρ G1 R:=rfl
private theorem CG(l:Le G G')(h:bM G p=aj xs):bM G' p=aj xs:=by
 unfold bM at h ⊢;split at h
 .rename_i e;rw[l _ _ e];exact h
 .rename_i e;rw[l _ _ e];exact h
 .cases h
variable{src:Src}
def K0(l:Le G G')(h:src.ok G):src.ok G':=by
 cases src with
 |lst p xs=>exact CG l h
 |oP xs=>trivial
 |zip p q xs ys=>exact⟨CG l h.1,CG l h.2⟩
 |J3 p o kvs=>exact l _ _ h
 |key p o t kvs=>exact l _ _ h
 |ot p xs=>exact l _ _ h
 |KI p xs=>exact l _ _ h
 |oz p o kvs=>exact l _ _ h
def LB{o:GO}(l:Le (aC G p o) G'):Le (aC G p o') (aC G' p o'):=λa u e=>by
 by_cases h:a=p
 .subst h;rw[aB]at e ⊢;exact e
 .rw[aH h]at e ⊢;exact l a u (by rw[aH h];exact e)
def Z5{dv:D->Option (List D)}(v:D->List D)(c:D->Bool)(f:D->D)(hl:src.items.length<dg)(af:src.ok G)(hv:∀d∈src.items,dv d=aj (v d))
  (hc:∀d∈src.items,∀G',Le G G'->∀Q:Bool->Gp->Prop,(∀d6,Le G' d6->Q (c d) d6)->tc ((v d).map aj++ρ) G' Q)
  (he:∀d∈src.items,c d=ak->∀G',Le G G'->∀Q:D->Gp->Prop,(∀d6,Le G' d6->Q (f d) d6)->te ((v d).map aj++ρ) G' Q)
  (h:∀p,G p=bh->R (.ref p) (aC G p (.lst ((src.items.filter c).map f)))):Aa dv src tc te ρ G R:=by
 refine⟨hl,λp hp=>⟨λk ds G'=>ds=((src.items.take k).filter c).map f/\Le (aC G p (.lst ds)) G',⟨rfl,.refl _⟩,λk ds G' hk ⟨e,l⟩=>?_,λk d ds G' hd ⟨e,l⟩=>?_,λds G' ⟨e,l⟩=>?_⟩⟩
 .refine⟨K0 ((Le.new hp).trans l) af,l p _ aB,?_⟩;rw[e,dw];exact qw (uh _ _) (by rw[E0];omega)
 .have hm:d∈src.items:=jm hd
  have ht:src.items.take (k+1)=src.items.take k++[d]:=by
   rw[EK,hd];rfl
  refine⟨v d,hv d hm,hc d hm G' ((Le.new hp).trans l) _ λG2 l2=>?_⟩;cases gz:c d with
  |true =>
   rw[if_pos rfl];refine he d hm gz G2 (((Le.new hp).trans l).trans l2) _ λG3 l3=>?_;have l4:=(l.trans l2).trans l3;refine⟨l4 p _ aB,?_,LB l4⟩;rw[ht,IZ,jk,←e];simp[gz]
  |false =>
   rw[if_neg (by decide)];refine⟨?_,l.trans l2⟩;rw[ht,IZ,jk,←e];simp[gz]
 .rw[xn]at e;subst e;exact⟨_,l,h p hp⟩
def HU(c:D->Bool)(f:D->D)(hl:src.items.length<dg)(af:src.ok G)
  (hc:∀d∈src.items,∀G',Le G G'->∀Q:Bool->Gp->Prop,(∀d6,Le G' d6->Q (c d) d6)->tc (aj d::ρ) G' Q)
  (he:∀d∈src.items,c d=ak->∀G',Le G G'->∀Q:D->Gp->Prop,(∀d6,Le G' d6->Q (f d) d6)->te (aj d::ρ) G' Q)
  (h:∀p,G p=bh->R (.ref p) (aC G p (.lst ((src.items.filter c).map f)))):Aa mP src tc te ρ G R:=Z5 (λd=>[d]) c f hl af (λ_ _=>rfl) hc he h
def comp_map(f:D->D)(hl:src.items.length<dg)(af:src.ok G)
  (he:∀d∈src.items,∀G',Le G G'->∀Q:D->Gp->Prop,(∀d6,Le G' d6->Q (f d) d6)->te (aj d::ρ) G' Q)
  (h:∀p,G p=bh->R (.ref p) (aC G p (.lst (src.items.map f)))):Aa mP src Au te ρ G R :=
 HU (λ_=>ak) f hl af (λd _ G' _ Q h=>h G' (.refl _)) (λd hd _=>he d hd) λp hp=>by
  have:src.items.filter (λ_=>ak)=src.items:=List.filter_eq_self.mpr λ_ _=>rfl;rw[this];exact h p hp
abbrev GZ(src:Src)(tg:qv)(tb:pI)(F:eU)(ρ:bL)(G1:Gp):Prop:=∃P:Nat->bL->Gp->Prop,P 0 ρ G1/\(∀k ρ G,k<=src.items.length->P k ρ G->src.ok G) /\
 (∀k d ρ G,src.items[k]?=aj d->P k ρ G->tg d ρ λb9=>tb {F with nx:=P (k+1),ct:=P (k+1),bk:=F.nx} b9 G)/\∀ρ G,P src.items.length ρ G->F.nx ρ G
variable{tg:qv}{F:eU}
def aIC{ti:fT}:yM ti tg tb F ρ G=ti ρ G λsrc G1=>GZ src tg tb F ρ G1:=rfl
def aBJ{i:Nat}:yL i d ρ Q=Q (iq ρ i d):=rfl
def Ep{is:List Nat}{ds:List D}(h:ds.length=is.length):B5 is (.tup ds) ρ Q=Q (xa ρ is ds):=propext ⟨λz=>z.2,λz=>⟨h,z⟩⟩
def aBK:xa ρ is []=ρ:=by cases is<;>rfl
def RM{i:Nat}:xa ρ (i::is) (d::ds)=xa (iq ρ i d) is ds:=rfl
def Z4{j:Int}(P:Nat->bL->Gp->Prop)(h0:P 0 ρ G)
  (hb:∀(k:Nat) ρ G,(k:Int)<j->P k ρ G->tg (.int k) ρ λb9=>tb {F with nx:=P (k+1),ct:=P (k+1),bk:=F.nx} b9 G)(he:∀ρ G,P j.toNat ρ G->F.nx ρ G):GZ (.oP (sv 0 j)) tg tb F ρ G:=by
 have hlen:(Src.oP (sv 0 j)).items.length=j.toNat:=by simp[Src.items,sv]
 refine⟨P,h0,λ_ _ _ _ _=>trivial,λk d ρ G hd p=>?_,λρ G p=>he ρ G (hlen ▸ p)⟩;have hk:k<j.toNat:=by rw[←hlen];exact(iz.mp hd).1
 have e:d=.int k:=by
  have:(sv 0 j)[k]?=aj d:=hd;unfold sv at this;rw[qu,List.getElem?_range ⋯]at this;simp at this;exact this.symm
 subst e;exact hb k ρ G ⋯ p
def Nt{xs:List D}(P:Nat->bL->Gp->Prop)(h0:P 0 ρ G)(hs:∀k ρ G,P k ρ G->bM G q=aj xs)
  (hb:∀k d ρ G,xs[k]?=aj d->P k ρ G->tg d ρ λb9=>tb {F with nx:=P (k+1),ct:=P (k+1),bk:=F.nx} b9 G)(he:∀ρ G,P xs.length ρ G->F.nx ρ G):GZ (.lst q xs) tg tb F ρ G :=
 ⟨P,h0,λk ρ G _ p=>hs k ρ G p,hb,he⟩
section
def aNV{b:bw}{ds es:List D}(h:G p=aj (.lst ds))(h2:G b=aj (.lst es))(hl:ds.length+es.length<=dg):gF (.ref p) (.ref b) G R=∀q,G q=bh->R (.ref q) (aC G q (.lst (ds++es))):=by
 unfold gF;simp only[h,h2,hl,true_and]
end
section
variable{F:eU}
def aID:EB is te F ρ G=te ρ G λd G1=>B5 is d ρ λb9=>F.nx b9 G1:=rfl
def SY:∀ns ms:List Int,ns.map D.int=ms.map D.int->ns=ms
 |[],[],_=>rfl
 |[],_::_,e=>by cases e
 |_::_,[],e=>by cases e
 |n::ns,m::ms,e=>by
  simp only[jc,List.cons.injEq]at e;let⟨e1,e2⟩:=e;cases e1;rw[SY ns ms e2]
def Vq{ns:List Int}(h:bM G q=aj (ns.map D.int)):Ee [.ref q] G R=R (.int ns.sum) G:=by
 refine propext ⟨λz=>?_,λz=>?_⟩
 .have z':(match bM G q with
   |some ds=>∃ns:List Int,ds=ns.map D.int/\R (.int ns.sum) G
   |none=>False):=z
  rw[h]at z';let⟨ms,e,r⟩:=z';rw[SY ns ms e];exact r
 .show(match bM G q with
   |some ds=>∃ns:List Int,ds=ns.map D.int/\R (.int ns.sum) G
   |none=>False)
  rw[h];exact⟨ns,rfl,z⟩
def aBL(h1:bM G p=aj xs)(h2:bM G q=aj ys):Ed (.ref p) (.ref q) G R=(Nf G xs ys=ak/\R (.bl (BI G xs ys)) G):=by
 unfold Ed BH;simp only[h1,h2]
def RL(h1:bM G p=aj xs)(h2:bM G q=aj ys):w9 (.ref p) (.ref q) G R=(Nf G xs ys=ak/\R (.bl (!BI G xs ys)) G):=by
 unfold w9 BH;simp only[h1,h2]
end
end L6
namespace L7
open PySem PySem.Spec PyProof.Rows L2 L4 L5 L6
section
variable{F:eU}
def aNW:D7 te tk ρ G R=te ρ G λx G1=>tk ρ G1 λo G2=>o=aj (-1)/\B0 x G2 R:=rfl
def Vp{ds:List D}(h:bM G p=aj ds):B0 (.ref p) G R=∀q,G q=bh->R (.ref q) (aC G q (.lst ds.reverse)):=by
 unfold L2.B0;simp only[h]
def aIE:wB ρ G R=∀p,G p=bh->R (.ref p) (aC G p (.aZ ak [])):=rfl
def aIF{ti:bC}:As to ti tv F ρ G=tv ρ G λv G1=>to ρ G1 λx G2=>ti ρ G2 λy G3=>B4 x y v F ρ G3:=rfl
@[simp]def rj(q:Int×Int):DK:=.inr [.inl q.1,.inl q.2]
abbrev ent(q:Int×Int):DK×D:=(rj q,.bl ak)
abbrev setG(M:List (Int×Int)):GO:=.aZ ak (M.map ent)
abbrev MP(M:List (Int×Int))(q:Int×Int):List (Int×Int):=if q∈M then M else M++[q]
def aBN{r:Int×Int}(h:rj q=rj r):q=r:=by
 have h:(Sum.inr [.inl q.1,.inl q.2]:DK)=.inr [.inl r.1,.inl r.2]:=h;simp only[Sum.inr.injEq,List.cons.injEq,Sum.inl.injEq,and_true]at h;exact Prod.ext h.1 h.2
def RK:∀{M:List (Int×Int)},(aJ (M.map ent) (rj q)).isSome=decide (q∈M)
 |[]=>rfl
 |r::M=>by
  rw[jc];unfold aJ;by_cases c:r=q
  .subst c;rw[if_pos (show(ent r).1=rj r from rfl)];simp
  .rw[if_neg (show ¬ (ent r).1=rj q from λz=>c (aBN z)),RK];have:q≠r:=λz=>c z.symm;simp[this]
def aBO{M:List (Int×Int)}:cM (M.map ent) (rj q) (.bl ak)=(MP M q).map ent:=by
 unfold cM MP;rw[RK];by_cases c:q∈M
 .rw[if_pos c,if_pos (by simpa using c),jt];apply yp;intro r _;show(if(ent r).1=rj q then((ent r).1,D.bl ak)else ent r)=ent r;split<;>rfl
 .rw[if_neg c,if_neg (by simpa using c),jk];rfl
def IJ:∀{M N:List (Int×Int)},VJ (N.map ent) (M.map λq=>([.inl q.1,.inl q.2],.bl ak))=(M.foldl MP N).map ent
 |[],N=>rfl
 |q::M,N=>by
  rw[jc,List.foldl_cons];show VJ (cM (N.map ent) (rj q) (.bl ak)) _=_;rw[aBO,IJ]
end
end L7
namespace L8
open PySem PySem.Spec PyProof.Rows L2 L4 L5 L6 L7
section
variable{F:eU}{m:Str}{fs:List (Str×D)}
def aNX:jN C ta f ρ G R=ta ρ G λx G1=>DS C f x G1 R:=rfl
def lG(h:G p=aj (.ins C fs))(e:fs.lookup f=aj d):DS C f (.ref p) G R=R d G:=by
 unfold L2.DS;simp only[h,e];exact propext ⟨λz=>z.2,λz=>⟨trivial,z⟩⟩
def aIH:Ch C ta tv f F ρ G=tv ρ G λy G1=>ta ρ G1 λx G2=>Ea C f x y F ρ G2:=rfl
def Mm(h:G p=aj (.ins C fs))(hl:fs.length<1000):Ea C f (.ref p) y F ρ G=F.nx ρ (aC G p (.ins C (Ec f y fs))):=by
 unfold L2.Ea;simp only[h];exact propext ⟨λz=>z.2.2,λz=>⟨trivial,hl,z⟩⟩
def oG(h:G p=aj (.ins C fs))(e:fs.lookup m=bh):D9 C m (.ref p) G=True:=eq_true ⟨p,fs,rfl,h,e⟩
def aBP{t:sJ}:iZ C m sp dd EX ta t ρ G R=ta ρ G λx G1=>D9 C m x G1/\t ρ G1 λds G2=>sp (x::(ds++dd)) G2 R (EX ρ):=rfl
def aBQ{t:sJ}:EA C sp dd EX t ρ G R=t ρ G λds G1=>∀x,G1 x=bh->sp (.ref x::(ds++dd)) (aC G1 x (.ins C [])) (λv G2=>v=.ag/\R (.ref x) G2) (EX ρ):=rfl
def aRX{r:i6}{t:sJ}:sk r to t ρ G R=to ρ G λx G1=>u9 x G1/\t ρ G1 λxs G2=>r x xs G2 R:=rfl
def aBR:sX to te tf ρ G R=to ρ G λx G1=>u9 x G1/\te ρ G1 λy G2=>tf ρ G2 λz G3=>sW x y G3 λ_ _ kvs k=>R ((aJ kvs k).getD z) G3:=rfl
def gZ{t:Bool}(h:G p=aj (.aZ t kvs)):u9 (.ref p) G=True:=by
 unfold L2.u9;simp only[h]
def jW{t:Bool}{k:DK}(h:G p=aj (.aZ t kvs))(hk:xX y=aj k)(ht:pY k=t):sW (.ref p) y G P=P p t kvs k:=by
 unfold L2.sW;simp only[h,hk];exact propext ⟨λz=>z.2,λz=>⟨ht,z⟩⟩
def aqT{t:Bool}{k:DK}(h:sP G p=aj (t,kvs))(hk:xX y=aj k)(ht:pY k=t):Ey (.ref p) y G P=P kvs k:=by
 unfold L2.Ey;simp only[h,hk,ht,true_and]
def aqU{t:Bool}(h:G p=aj (.aZ t kvs)):sP G p=aj (t,kvs):=by unfold L2.sP;rw[h]
def aqV{o:Obj}{t:Bool}(h:G p=aj (.du o t kvs)):sP G p=aj (t,kvs):=by unfold L2.sP;rw[h]
def SX{t:Bool}{k:DK}(h:sP G p=aj (t,kvs))(hk:xX y=aj k)(ht:pY k=t)(e:aJ kvs k=aj d):j4 (.ref p) y G R=R d G:=by
 unfold L2.j4;rw[aqT h hk ht];simp only[e]
def mF{t:Bool}{k:DK}(h:G p=aj (.aZ t kvs))(hk:xX y=aj k)(ht:pY k=t)(e:aJ kvs k=aj d):j4 (.ref p) y G R=R d G:=SX (aqU h) hk ht e
def RJ{kvs:List (DK×D)}(h:G p=aj (.aZ ao kvs)):Cf [.ref p] G R=R (.int kvs.length) G:=by
 unfold L2.Cf;simp only[h]
end
end L8
namespace L9
open PySem PySem.Spec PyProof.Rows L2 L4 L5 L6 L7 L8
variable{ps:List (Int×Int)}
section
variable{F:eU}{p:bw}
@[simp]def ky(a p:Int):List Key:=[.inl a,.inl p]
def aBS:tD to ρ G R=to ρ G λx G1=>CJ x G1 R:=rfl
def aII:HB to ρ G R=to ρ G λx G1=>yR x G1 R:=rfl
def qN{a q:Int}:xX (.tup [.int a,.int q])=aj (.inr (ky a q)):=rfl
def rG{i:Int}:xX (.int i)=aj (.inl (.inl i)):=rfl
def qO{k:List Key}:∀{M:List (List Key×bw)},aJ (M.map cE) (.inr k)=(aJ M k).map D.ref
 |[]=>rfl
 |z::M=>by
  rw[jc];unfold aJ;by_cases c:z.1=k
  .rw[if_pos c,if_pos (by show(Sum.inr z.1:DK)=_;rw[c])];rfl
  .rw[if_neg c,if_neg (show ¬ (cE z).1=Sum.inr k from λe=>c (qJ _ _ e))];exact qO
def tE{i:Int}:∀{ps:List (Int×Int)},aJ (ps.map qK) (.inl (.inl i))=(aJ ps i).map D.int
 |[]=>rfl
 |z::M=>by
  rw[jc];unfold aJ;by_cases c:z.1=i
  .rw[if_pos c,if_pos (by show(Sum.inl (Sum.inl z.1):DK)=_;rw[c])];rfl
  .rw[if_neg c,if_neg (show ¬ (qK z).1=Sum.inl (Sum.inl i)from λe=>c (by have:=kY _ _ e;injection this))];exact tE
def RH{i v:Int}:cM (ps.map qK) (.inl (.inl i)) (.int v)=(cM ps i v).map qK:=by
 unfold cM;rw[tE,IA];split
 ·rw[jt,jt];refine yp λz _=>?_;show(if(Sum.inl (Sum.inl z.1):DK)=_ then _ else _)=qK (if z.1=i then(z.1,v)else z);by_cases c:z.1=i
  .rw[if_pos c,if_pos (by rw[c])];rfl
  .rw[if_neg c,if_neg (λe=>c (by have:=kY _ _ e;injection this))]
 .rw[jk];rfl
def Z3{i:Int}:bK (ps.map qK) (.inl (.inl i))=(bK ps i).map qK:=by
 unfold bK;rw[ET];congr 1;refine List.filter_congr λz _=>?_;show(!decide ((Sum.inl (Sum.inl z.1):DK)=.inl (.inl i)))=_;by_cases c:z.1=i
 .rw[c];simp
 .rw[decide_eq_false c,decide_eq_false (λe=>c (by have:=kY _ _ e;injection this))]
def Z2{k:List Key}{M:List (List Key×bw)}:bK (M.map cE) (.inr k)=(bK M k).map cE:=by
 unfold bK;rw[ET];congr 1;refine List.filter_congr λz _=>?_;show(!decide ((Sum.inr z.1:DK)=.inr k))=_;by_cases c:z.1=k
 .rw[c];simp
 .rw[decide_eq_false c,decide_eq_false (λe=>c (qJ _ _ e))]
def IF{κ α:Type}[DecidableEq κ]{kvs:List (κ×α)}{k:κ}{v:α}(h:aJ kvs k=bh):cM kvs k v=kvs++[(k,v)]:=by
 unfold cM;rw[h];rfl
def RG{k:DK}{kvs:List (DK×D)}(h:G p=aj (.aZ ak kvs))(hk:xX y=aj k)(ht:pY k=ak)(hl:kvs.length<dg)(e:aJ kvs k=bh):p9 (.ref p) [y,z] G R=R z (aC G p (.aZ ak (kvs++[(k,z)]))):=by
 unfold L2.p9;simp only;rw[jW h hk ht];simp only[e,IF e];exact propext ⟨λw=>w.2.2,λw=>⟨trivial,hl,w⟩⟩
def RF{k:DK}{kvs:List (DK×D)}(h:G p=aj (.aZ ak kvs))(hk:xX y=aj k)(ht:pY k=ak)(hl:kvs.length<dg)(e:aJ kvs k=aj d):p9 (.ref p) [y,z] G R=R d G:=by
 unfold L2.p9;simp only;rw[jW h hk ht];simp only[e];exact propext ⟨λw=>w.2.2,λw=>⟨trivial,hl,w⟩⟩
def RE{t:Bool}{k:DK}(h:G p=aj (.aZ t kvs))(hk:xX y=aj k)(ht:pY k=t)(e:aJ kvs k=aj d):Cg (.ref p) [y] G R=R d (aC G p (.aZ t (bK kvs k))):=by
 unfold L2.Cg;simp only;rw[jW h hk ht];simp only[e]
def HS{t:Bool}{v:D}{k:DK}{kvs:List (DK×D)}(h:G p=aj (.aZ t kvs))(hk:xX y=aj k)(ht:pY k=t)(hl:kvs.length<dg):B4 (.ref p) y v F ρ G=F.nx ρ (aC G p (.aZ t (cM kvs k v))):=by
 unfold L2.B4;rw[jW h hk ht];exact propext ⟨λw=>w.2,λw=>⟨hl,w⟩⟩
def aIJ{t:Bool}{k:DK}(h:G p=aj (.aZ t kvs))(hk:xX y=aj k)(ht:pY k=t):D8 y (.ref p) G R=R (.bl (aJ kvs k).isSome) G:=by
 unfold L2.D8;rw[jW h hk ht]
def IE(h:G p=aj (.aZ ao (ps.map qK)))(hl:ps.length<128)(k:∀qs:List (Int×Int),qs.Perm ps->dJ qs->∀r,G r=bh->R (.ref r) (aC G r (.lst (qs.map eY)))):CJ (.ref p) G R:=.inl ⟨p,ps,rfl,h,hl,k⟩
def aBT(h:G p=aj (.aZ ao (ps.map qK)))(k:R (.int (ps.map (·.2)).sum) G):yR (.ref p) G R:=by
 unfold L2.yR;simp only[h];exact⟨ps,rfl,k⟩
def Nr{kvs:List (DK×D)}(h:G p=aj (.aZ ak kvs))(e:(kvs.map λq=>kN q.1)=ps.map eY)(nd:ps.Nodup)(hl:ps.length<128)(k:∀qs:List (Int×Int),qs.Perm ps->dJ qs->∀r,G r=bh->R (.ref r) (aC G r (.lst (qs.map eY)))):mD [.ref p] G R:=by
 refine .inl ?_;unfold L2.H0;simp only[h];exact⟨ps,e,nd,hl,k⟩
def aqW{ds:List D}{b:Bool}(h:bM G q=aj ds)(ha:ds.all DU=ak)(j:Nat)(hj:ds[j]?=aj (.bl b))(hn:∀m,m<j->ds[m]?≠aj (.bl b))(k:R (.int j) G):uX (.ref q) [.bl b] G R:=by
 unfold L2.uX;simp only[h];exact⟨ha,j,hj,hn,k⟩
end
end L9
namespace Ot
open PySem PySem.Spec PyProof.Rows L2 L4 L5 L6
section
variable{al t:Bool}
def Z1:Ar al te ρ G Q=te ρ G λx G1=>Ae al x G1 Q:=rfl
def aBU(h:G p=aj (.aZ t kvs)):Ae al (.ref p) G Q=∀od,Q (.key p od t kvs) (aC G p (.du od t kvs)):=by
 unfold L2.Ae;simp only[h]
def aIK{α β:Type}{f:α->β}{l:List α}{k:Nat}{d:β}(h:(l.map f)[k]?=aj d):∃q,l[k]?=aj q/\f q=d:=by
 rw[qu]at h;cases e:l[k]? with
 |none=>rw[e]at h;cases h
 |some q=>rw[e]at h;exact⟨q,rfl,ji.inj h⟩
end
end Ot
namespace WQ
open PySem PySem.Spec PyProof.Rows L2 L4 L5 L6
section
end
end WQ
namespace L12
open PySem PySem.Spec PyProof.Rows L2 L4 L5 L6
section
end
end L12
namespace AF
open PySem PySem.Spec PyProof.Rows L2 L4 L5 L6
variable{F:eU}{ti:bC}
def aIM:HY ρ G R=∀p,G p=bh->R (.ref p) (aC G p (.uR [])):=rfl
def T9:qL te ρ G Q=te ρ G λx G1=>Hc x G1 Q:=rfl
def aIN:Et to te tf ρ G R=to ρ G λx G1=>isNm x G1/\te ρ G1 λy G2=>tf ρ G2 λz G3=>BE x y z G3 R:=rfl
def aIO:Es to ti tv F ρ G=tv ρ G λv G1=>to ρ G1 λx G2=>ti ρ G2 λy G3=>BD x y v F ρ G3:=rfl
def aBV:HW to ρ G R=to ρ G λx G1=>HX x G1 R:=rfl
def aIP{i:Nat}(h1:lS ρ i=aj (.ref p))(h2:G p=aj (.uR kvs))(h:te ρ G λd G1=>R d G1∨((∃od,G1 p=aj (.ej od kvs))/\R d (aC G1 p (.uR kvs)))):D6 i te ρ G R:=⟨p,h1,.inr ⟨kvs,h2,h⟩⟩
def Z0{ps:List (Int×Int)}(h:G p=aj (.aZ ao (ps.map qK)))(hl:ps.length<1000000)(k:∀l,G l=bh->R (.ref l) (aC G l (.lst (ps.map eY)))):HX (.ref p) G R:=⟨ps,h,hl,k⟩
end AF
namespace Law
open PySem PySem.Spec PyProof.Rows L2 L4
abbrev top(i:Nat):nu:=PySem.Challenge.pw_depot_k26_many_bins_and_lots.main.body.getD i (.Pass ⟨0,0,0,0⟩)
@[simp]def VZ:nu:=top 12
@[simp]def T8:nu:=top 13
@[simp]def Wg:nu:=top 14
@[simp]def T7:nu:=top 17
@[simp]def Wf:nu:=top 18
@[simp]def SW:nu:=top 19
@[simp]def VY:nu:=top 21
@[simp]def VX:nu:=top 22
@[simp]def WK:nu:=top 23
@[simp]def SV:nu:=top 26
@[simp]def VW:nu:=top 27
@[simp]def dW:nu:=inClass (top 28) 0
@[simp]def uZ:nu:=inClass (top 28) 6
@[simp]def pZ:nu:=inClass (top 28) 10
@[simp]def WJ:nu:=inClass (top 28) 1
@[simp]def v7:nu:=inClass (top 28) 4
@[simp]def oU:nu:=inClass (top 28) 9
@[simp]def yX:nu:=inClass (top 28) 2
@[simp]def xF:nu:=inClass (top 28) 3
@[simp]def yZ:nu:=inClass (top 28) 5
@[simp]def v8:nu:=inClass (top 28) 7
@[simp]def xG:nu:=inClass (top 28) 8
@[simp]def z6:nu:=top 30
@[simp]def We:nu:=top 31
@[simp]def WI:nu:=top 32
@[simp]def WH:nu:=top 33
@[simp]def T6:nu:=top 34
@[simp]def Wd:nu:=top 35
@[simp]def z7:nu:=top 36
@[simp]def UT:nu:=top 37
@[simp]def D4:nu:=top 38
set_option genInjectivity false in
structure kX where
 US:bw
 wF:oh
 T5:bw
 Jk:oh
 Wc:bw
 tG:oh
 T4:bw
 Jj:oh
 Wb:bw
 tH:oh
 SU:bw
 ID:oh
 UR:bw
 wG:oh
 UQ:bw
 wH:oh
 WG:bw
 oH:oh
 SS:bw
 IC:oh
 UP:bw
 wI:oh
 bA:bw
 gJ:oh
 fV:bw
 fW:oh
 dD:bw
 dF:oh
 jX:bw
 jY:oh
 fX:bw
 fY:oh
 cY:bw
 cZ:oh
 j7:bw
 j8:oh
 iB:bw
 iC:oh
 j9:bw
 jA:oh
 fZ:bw
 gA:oh
 iD:bw
 iG:oh
 z8:bw
 mH:oh
 Wa:bw
 tK:oh
 WE:bw
 oJ:oh
 WD:bw
 oK:oh
 T3:bw
 Ji:oh
 V9:bw
 tL:oh
 z9:bw
 mJ:oh
 UO:bw
 wJ:oh
 z0:bw
 Vo:oh
 mK:bw
 mL:bw
 qP:bw
 qQ:bw
 gK:bw
 bV:bw
 aR:bw
 aA:bw
@[simp]def RT:=Fg->kX->(bL->eX)->pI
@[simp]def RS:=Fg->kX->kU
@[simp]def RI:=Fg->kX->SI
@[simp]def ci(i:Int):CE:=.con (.int i)
@[simp]def ti(i:Int):bC:=lZ (.int i)
@[simp]def dX:CE:=.var 0
@[simp]def qC:CE:=.var 1
@[simp]def tM:CE:=.var 2
@[simp]def cz:CE:=.var 3
@[simp]def d5:CE:=.var 4
@[simp]def iO:CE:=.var 5
@[simp]def il:CE:=.var 6
@[simp]def hU:CE:=.var 7
@[simp]def g7:CE:=.var 8
@[simp]def Bs:CE:=.var 9
@[simp]def Bv:CE:=.var 10
@[simp]def dO:bC:=eV 0
@[simp]def oM:bC:=eV 1
@[simp]def rH:bC:=eV 2
@[simp]def bS:bC:=eV 3
@[simp]def c9:bC:=eV 4
@[simp]def fI:bC:=eV 5
@[simp]def fF:bC:=eV 6
@[simp]def fk:bC:=eV 7
@[simp]def eS:bC:=eV 8
@[simp]def oq:bC:=eV 9
@[simp]def pE:bC:=eV 10
@[simp]def e0:di:=.nil
@[simp]def e1(a1:CE):di:=.cons a1 .nil
@[simp]def e2(a1 a2:CE):di:=.cons a1 (.cons a2 .nil)
@[simp]def e3(a1 a2 a3:CE):di:=.cons a1 (.cons a2 (.cons a3 .nil))
@[simp]def e4(a1 a2 a3 a4:CE):di:=.cons a1 (.cons a2 (.cons a3 (.cons a4 .nil)))
@[simp]def e5(a1 a2 a3 a4 a5:CE):di:=.cons a1 (.cons a2 (.cons a3 (.cons a4 (.cons a5 .nil))))
@[simp]def t2(a1 a2:CT):tP:=.cons a1 (.cons a2 .nil)
@[simp]def b0:CB:=.nil
@[simp]def b1(a1:CS):CB:=.cons a1 .nil
@[simp]def b2(a1 a2:CS):CB:=.cons a1 (.cons a2 .nil)
@[simp]def b3(a1 a2 a3:CS):CB:=.cons a1 (.cons a2 (.cons a3 .nil))
@[simp]def b4(a1 a2 a3 a4:CS):CB:=.cons a1 (.cons a2 (.cons a3 (.cons a4 .nil)))
@[simp]def b5(a1 a2 a3 a4 a5:CS):CB:=.cons a1 (.cons a2 (.cons a3 (.cons a4 (.cons a5 .nil))))
@[simp]def b6(a1 a2 a3 a4 a5 a6:CS):CB:=.cons a1 (.cons a2 (.cons a3 (.cons a4 (.cons a5 (.cons a6 .nil)))))
@[simp]def bc:=CB.cons
@[simp]def u1(a1:bC):sJ:=cP a1 m9
@[simp]def u2(a1 a2:bC):sJ:=cP a1 (cP a2 m9)
@[simp]def u3(a1 a2 a3:bC):sJ:=cP a1 (cP a2 (cP a3 m9))
@[simp]def u4(a1 a2 a3 a4:bC):sJ:=cP a1 (cP a2 (cP a3 (cP a4 m9)))
@[simp]def u5(a1 a2 a3 a4 a5:bC):sJ:=cP a1 (cP a2 (cP a3 (cP a4 (cP a5 m9))))
abbrev wK:RT:=λK A ex=>(cC (Ax (jP (aD K) (u2 dO (lZ (.ty "int")))) (Ax (HJ (jP (aD K) (u2 dO (lZ (.ty "bool"))))) (sV DW DW oM dO rH))))
abbrev cD:RS:=λK A=>bu 3 3 λEX=>wK K A (λ_=>EX)
abbrev alL:CB:=(b1 (.ret (.BC (e3 (.call 1 (e2 dX (.d4 0))) (.DP (.call 1 (e2 dX (.d4 2)))) (.chain .LtE .LtE qC dX tM)))))
abbrev alM:RI:=λK A=>⟨["thing","least","most"],[ak,ak,ak],[ak,ak,ak],[ao,ao,ao],[("int",.bt "int"),("isinstance",.bf .uC),("bool",.bt "bool")],[ak,ak,ak],ak⟩
abbrev V8:RT:=λK A ex=>(cC (Ax (aQ (cD K A) ex (u3 (aG iY dO (ti 0)) (ti 0) (aG Ai oM (ti 1)))) (aQ (cD K A) ex (u3 (aG iY dO (ti 1)) rH bS))))
abbrev v9:RT:=λK A ex=>aL (cX (sA (uT (aO (jP (aD K) (u2 dO (lZ (.ty "tuple")))))) (aO (aG wA (jP yJ (u1 dO)) (ti 2)))) (cC (lZ (.bl ao))) bH) (V8 K A ex)
abbrev wL:RS:=λK A=>bu 4 4 λEX=>v9 K A (λ_=>EX)
abbrev aqZ:CB:=(b2 (.ifs (.or (t2 (.not (.val (.call 1 (e2 dX (.d4 0))))) (.cmp .NotEq (.call 2 (e1 dX)) (ci 2)))) (b1 (.ret (.con (.bl ao)))) b0) (.ret (.BC (e2 (.call 3 (e3 (.ix dX (ci 0)) (ci 0) (.bin .Sub qC (ci 1)))) (.call 3 (e3 (.ix dX (ci 1)) tM cz))))))
abbrev ar0:RI:=λK A=>⟨["thing","aisles","first","last"],[ak,ak,ak,ak],[ak,ak,ak,ak],[ao,ao,ao,ao],[("tuple",.bt "tuple"),("isinstance",.bf .uC),("len",.bf .len),("is_whole",.fn (cD K A) 3 ao)],[ak,ak,ak,ak],ak⟩
abbrev zA:RT:=λK A ex=>(cC (aQ (cD K A) ex (u3 dO (ti 1) (ti 1000000))))
abbrev qR:RS:=λK A=>bu 1 1 λEX=>zA K A (λ_=>EX)
abbrev aiN:CB:=(b1 (.ret (.call 1 (e3 dX (ci 1) (.d4 0)))))
abbrev aiO:RI:=λK A=>⟨["thing"],[ak],[ak],[ao],[("MOST_AMOUNT",.con (.int 1000000)),("is_whole",.fn (cD K A) 3 ao)],[ak,ak],ak⟩
abbrev V7:RT:=λK A ex=>(cC (aQ (cD K A) ex (u3 (aG iY dO (ti 2)) (ti 1) (ti 20))))
abbrev V6:RT:=λK A ex=>aL (cX (sA (uT (aO (aQ (cD K A) ex (u3 (aG iY dO (ti 0)) (ti 1) (ti 26))))) (uT (aO (aQ (cD K A) ex (u3 (aG iY dO (ti 1)) (ti 1) (ti 99)))))) (cC (lZ (.bl ao))) bH) (V7 K A ex)
abbrev vA:RT:=λK A ex=>aL (cX (sA (uT (aO (jP (aD K) (u2 dO (lZ (.ty "tuple")))))) (aO (aG wA (jP yJ (u1 dO)) (ti 3)))) (cC (lZ (.bl ao))) bH) (V6 K A ex)
abbrev wM:RS:=λK A=>bu 1 1 λEX=>vA K A (λ_=>EX)
abbrev ar3:CB:=(b3 (.ifs (.or (t2 (.not (.val (.call 1 (e2 dX (.d4 0))))) (.cmp .NotEq (.call 2 (e1 dX)) (ci 3)))) (b1 (.ret (.con (.bl ao)))) b0) (.ifs (.or (t2 (.not (.val (.call 4 (e3 (.ix dX (ci 0)) (ci 1) (.d4 3))))) (.not (.val (.call 4 (e3 (.ix dX (ci 1)) (ci 1) (.d4 5))))))) (b1 (.ret (.con (.bl ao)))) b0) (.ret (.call 4 (e3 (.ix dX (ci 2)) (ci 1) (.d4 6)))))
abbrev ar4:RI:=λK A=>⟨["thing"],[ak],[ak],[ao],[("tuple",.bt "tuple"),("isinstance",.bf .uC),("len",.bf .len),("MOST_AISLES",.con (.int 26)),("is_whole",.fn (cD K A) 3 ao),("MOST_PLACES",.con (.int 99)),("MOST_GAP",.con (.int 20))],[ak,ak,ak,ak,ak,ak,ak],ak⟩
abbrev zB:RT:=λK A ex=>(cX (uT (aO (aQ (wM K A) ex (u1 dO)))) (oA ex A.mL (u1 (lZ (.str "a tuple of 1 to 26 aisles, 1 to 99 places and a gap from 1 to 20 is wanted")))) bH)
abbrev gM:RS:=λK A=>bu 1 1 λEX=>zB K A (λ_=>EX)
abbrev aiP:CB:=(b1 (.ifs (.not (.val (.call 0 (e1 dX)))) (b1 (.raise 1 (.con (.str "a tuple of 1 to 26 aisles, 1 to 99 places and a gap from 1 to 20 is wanted")) e0)) b0))
abbrev aiQ:RI:=λK A=>⟨["plan"],[ak],[ak],[ao],[("is_plan",.fn (wM K A) 1 ao),("NoPlan",.cls A.mL)],[ak,ak],ak⟩
abbrev UN:RT:=λK A ex=>(cC (aQ (wL K A) ex (u4 oM (aG iY dO (ti 0)) (ti 1) (aG iY dO (ti 1)))))
abbrev ML:RT:=λK A ex=>aL (bT (aQ (gM K A) ex (u1 dO))) (UN K A ex)
abbrev Jh:RS:=λK A=>bu 2 2 λEX=>ML K A (λ_=>EX)
abbrev ZZ:CB:=(b2 (.expr (.call 0 (e1 dX))) (.ret (.call 1 (e4 qC (.ix dX (ci 0)) (ci 1) (.ix dX (ci 1))))))
abbrev ZY:RI:=λK A=>⟨["plan","thing"],[ak,ak],[ak,ak],[ao,ao],[("need_plan",.fn (gM K A) 1 ao),("is_pair",.fn (wL K A) 4 ao)],[ak,ak],ak⟩
abbrev Om:RT:=λK A ex=>(cX (uT (aO (aQ (cD K A) ex (u3 dO (ti 0) (aG Ai oM (ti 1)))))) (oA ex A.qQ (u1 (lZ (.str "there is no lot of that number")))) bH)
abbrev cF:RS:=λK A=>bu 2 2 λEX=>Om K A (λ_=>EX)
abbrev alN:CB:=(b1 (.ifs (.not (.val (.call 0 (e3 dX (ci 0) (.bin .Sub qC (ci 1)))))) (b1 (.raise 1 (.con (.str "there is no lot of that number")) e0)) b0))
abbrev alO:RI:=λK A=>⟨["thing","lots"],[ak,ak],[ak,ak],[ao,ao],[("is_whole",.fn (cD K A) 3 ao),("NoLot",.cls A.qQ)],[ak,ak],ak⟩
abbrev Ol:RT:=λK A ex=>(cX (uT (aO (aQ (Jh K A) ex (u2 dO oM)))) (oA ex A.qP (u1 (lZ (.str "a bin of the plan is wanted")))) bH)
abbrev bG:RS:=λK A=>bu 2 2 λEX=>Ol K A (λ_=>EX)
abbrev alP:CB:=(b1 (.ifs (.not (.val (.call 0 (e2 dX qC)))) (b1 (.raise 1 (.con (.str "a bin of the plan is wanted")) e0)) b0))
abbrev alQ:RI:=λK A=>⟨["plan","thing"],[ak,ak],[ak,ak],[ao,ao],[("is_bin",.fn (Jh K A) 2 ao),("NoBin",.cls A.qP)],[ak,ak],ak⟩
abbrev uE:RT:=λK A ex=>(cX (uT (aO (aQ (qR K A) ex (u1 dO)))) (oA ex A.gK (u1 (lZ (.str "a whole number from 1 to 10 ** 6 is wanted")))) bH)
abbrev bQ:RS:=λK A=>bu 1 1 λEX=>uE K A (λ_=>EX)
abbrev abV:CB:=(b1 (.ifs (.not (.val (.call 0 (e1 dX)))) (b1 (.raise 1 (.con (.str "a whole number from 1 to 10 ** 6 is wanted")) e0)) b0))
abbrev abW:RI:=λK A=>⟨["thing"],[ak],[ak],[ao],[("is_amount",.fn (qR K A) 1 ao),("NoAmount",.cls A.gK)],[ak,ak],ak⟩
abbrev wO:RT:=λK A ex=>(cX (aO (aG xW (jP Cf (u1 c9)) (ti 0))) (bT (sk Cg dO (u1 oM))) bH)
abbrev UM:RT:=λK A ex=>aL (cX (aO (aG xW (aG j4 c9 rH) (ti 0))) (bT (sk Cg c9 (u1 rH))) bH) (wO K A ex)
abbrev Oj:RT:=λK A ex=>aL (As c9 rH (aG gF (sX c9 rH (ti 0)) bS)) (UM K A ex)
abbrev zE:RT:=λK A ex=>aL (cQ 4 (sk p9 dO (u2 oM u6))) (Oj K A ex)
abbrev dR:RS:=λK A=>bu 5 4 λEX=>zE K A (λ_=>EX)
abbrev ZX:CB:=(b4 (.set 4 (.dm .C6 dX qC (e1 .lL))) (.se d5 tM (.bin .Add (.pv d5 tM (ci 0)) cz)) (.ifs (.cmp .Eq (.ik d5 tM) (ci 0)) (b1 (.expr (.dm .pop d5 tM e0))) b0) (.ifs (.cmp .Eq (.call 0 (e1 d5)) (ci 0)) (b1 (.expr (.dm .pop dX qC e0))) b0))
abbrev ZW:RI:=λK A=>⟨["stacks","spot","lot","more","held"],[ak,ak,ak,ak,ak],[ak,ak,ak,ak,ak],[ao,ao,ao,ao,ao],[("len",.bf .DQ)],[ak],ak⟩
abbrev WC:RT:=λK A ex=>(As oM rH (jP wD (u1 (tD (aG j4 dO rH)))))
abbrev Wu:RT:=λK A ex=>(cC oM)
abbrev Wt:RT:=λK A ex=>aL (yM (BJ (jP mD (u1 dO))) (yL 2) (WC K A ex)) (Wu K A ex)
abbrev Oi:RT:=λK A ex=>aL (cQ 1 wB) (Wt K A ex)
abbrev zF:RS:=λK A=>bu 3 1 λEX=>Oi K A (λ_=>EX)
abbrev alR:CB:=(b3 (.set 1 .wc) (.sf (.any (.call 0 (e1 dX))) (.nm 2) (b1 (.se qC tM (.call 2 (e1 (.sortI 1 (.ik dX tM))))))) (.ret qC))
abbrev alS:RI:=λK A=>⟨["stacks","told","spot"],[ak,ak,ak],[ak,ak,ak],[ao,ao,ao],[("sorted",.bf .Ad),("sorted",.bf .w8),("dict",.bf .D5)],[ak,ak,ak],ak⟩
abbrev oW:RT:=λK A ex=>(Ch A.aA dO wB "stacks")
abbrev oX:RT:=λK A ex=>aL (Ch A.aA dO rH "room") (oW K A ex)
abbrev oY:RT:=λK A ex=>aL (Ch A.aA dO oM "layout") (oX K A ex)
abbrev oZ:RT:=λK A ex=>aL (bT (aQ (bQ K A) ex (u1 rH))) (oY K A ex)
abbrev lH:RT:=λK A ex=>aL (bT (aQ (gM K A) ex (u1 oM))) (oZ K A ex)
abbrev fO:RS:=λK A=>bu 3 3 λEX=>lH K A (λ_=>EX)
abbrev dY:CB:=(b5 (.expr (.call 0 (e1 qC))) (.expr (.call 1 (e1 tM))) (.wb 2 dX qC) (.wb 3 dX tM) (.wb 4 dX .wc))
abbrev a2F:RI:=λK A=>⟨["self","plan","room"],[ak,ak,ak],[ak,ak,ak],[ao,ao,ao],[("need_plan",.fn (gM K A) 1 ao),("need_amount",.fn (bQ K A) 1 ao),("Shelves.layout",.fl A.aA "layout"),("Shelves.room",.fl A.aA "room"),("Shelves.stacks",.fl A.aA "stacks")],[ak,ak,ao,ao,ao],ak⟩
abbrev rJ:RT:=λK A ex=>(cC (HB (sX (jN A.aA dO "stacks") oM u6)))
abbrev nF:RT:=λK A ex=>aL (bT (aQ (bG K A) ex (u2 (jN A.aA dO "layout") oM))) (rJ K A ex)
abbrev d9:RS:=λK A=>bu 2 2 λEX=>nF K A (λ_=>EX)
abbrev a5O:CB:=(b2 (.expr (.call 1 (e2 (.fld 0 dX) qC))) (.ret (.BB 2 (.pv (.fld 3 dX) qC .lL))))
abbrev a5P:RI:=λK A=>⟨["self","spot"],[ak,ak],[ak,ak],[ao,ao],[("Shelves.layout",.fl A.aA "layout"),("need_bin",.fn (bG K A) 2 ao),("sum",.bf .sum),("Shelves.stacks",.fl A.aA "stacks")],[ao,ak,ak,ao],ak⟩
abbrev jQ:RT:=λK A ex=>(cX (aO (aG BO (aG gF (iZ A.aA "filled" (d9 K A) [] ex dO (u1 oM)) rH) (jN A.aA dO "room"))) (oA ex A.bV (u1 (lZ (.str "the bin would have more than its room")))) bH)
abbrev cG:RS:=λK A=>bu 3 3 λEX=>jQ K A (λ_=>EX)
abbrev a0O:CB:=(b1 (.ifs (.cmp .Gt (.bin .Add (.mZ 0 dX (e1 qC)) tM) (.fld 1 dX)) (b1 (.raise 2 (.con (.str "the bin would have more than its room")) e0)) b0))
abbrev a0P:RI:=λK A=>⟨["self","spot","amount"],[ak,ak,ak],[ak,ak,ak],[ao,ao,ao],[("Shelves.filled#1",.me A.aA "filled" (d9 K A) []),("Shelves.room",.fl A.aA "room"),("NoRoom",.cls A.bV)],[ao,ao,ak],ak⟩
abbrev xH:RT:=λK A ex=>(bT (aQ (dR K A) ex (u4 (jN A.aA dO "stacks") rH oM bS)))
abbrev xJ:RT:=λK A ex=>aL (bT (iZ A.aA "need_room" (cG K A) [] ex dO (u2 rH bS))) (xH K A ex)
abbrev xK:RT:=λK A ex=>aL (bT (aQ (bQ K A) ex (u1 bS))) (xJ K A ex)
abbrev xM:RT:=λK A ex=>aL (bT (aQ (bG K A) ex (u2 (jN A.aA dO "layout") rH))) (xK K A ex)
abbrev uF:RT:=λK A ex=>aL (bT (aQ (cF K A) ex (u2 oM (ti 1000)))) (xM K A ex)
abbrev jB:RS:=λK A=>bu 4 4 λEX=>uF K A (λ_=>EX)
abbrev abX:CB:=(b5 (.expr (.call 1 (e2 qC (.d4 0)))) (.expr (.call 3 (e2 (.fld 2 dX) tM))) (.expr (.call 4 (e1 cz))) (.expr (.mZ 5 dX (e2 tM cz))) (.expr (.call 7 (e4 (.fld 6 dX) tM qC cz))))
abbrev abY:RI:=λK A=>⟨["self","lot","spot","amount"],[ak,ak,ak,ak],[ak,ak,ak,ak],[ao,ao,ao,ao],[("MOST_LOTS",.con (.int 1000)),("need_lot",.fn (cF K A) 2 ao),("Shelves.layout",.fl A.aA "layout"),("need_bin",.fn (bG K A) 2 ao),("need_amount",.fn (bQ K A) 1 ao),("Shelves.need_room#2",.me A.aA "need_room" (cG K A) []),("Shelves.stacks",.fl A.aA "stacks"),("change",.fn (dR K A) 4 ao)],[ak,ak,ao,ak,ak,ao,ao,ak],ak⟩
abbrev rK:RT:=λK A ex=>(cC (sX (sX (jN A.aA dO "stacks") rH u6) oM (ti 0)))
abbrev rM:RT:=λK A ex=>aL (bT (aQ (bG K A) ex (u2 (jN A.aA dO "layout") rH))) (rK K A ex)
abbrev nG:RT:=λK A ex=>aL (bT (aQ (cF K A) ex (u2 oM (ti 1000)))) (rM K A ex)
abbrev iV:RS:=λK A=>bu 3 3 λEX=>nG K A (λ_=>EX)
abbrev a5Q:CB:=(b3 (.expr (.call 1 (e2 qC (.d4 0)))) (.expr (.call 3 (e2 (.fld 2 dX) tM))) (.ret (.pv (.pv (.fld 4 dX) tM .lL) qC (ci 0))))
abbrev a5R:RI:=λK A=>⟨["self","lot","spot"],[ak,ak,ak],[ak,ak,ak],[ao,ao,ao],[("MOST_LOTS",.con (.int 1000)),("need_lot",.fn (cF K A) 2 ao),("Shelves.layout",.fl A.aA "layout"),("need_bin",.fn (bG K A) 2 ao),("Shelves.stacks",.fl A.aA "stacks")],[ak,ak,ao,ak,ao],ak⟩
abbrev jC:RT:=λK A ex=>(cX (aO (aG BP (iZ A.aA "amount" (iV K A) [] ex dO (u2 oM rH)) bS)) (oA ex A.aR (u1 (lZ (.str "less of the lot lies in the bin")))) bH)
abbrev bU:RS:=λK A=>bu 4 4 λEX=>jC K A (λ_=>EX)
abbrev zG:CB:=(b1 (.ifs (.cmp .Lt (.mZ 0 dX (e2 qC tM)) cz) (b1 (.raise 1 (.con (.str "less of the lot lies in the bin")) e0)) b0))
abbrev zH:RI:=λK A=>⟨["self","lot","spot","amount"],[ak,ak,ak,ak],[ak,ak,ak,ak],[ao,ao,ao,ao],[("Shelves.amount#2",.me A.aA "amount" (iV K A) []),("TooLittle",.cls A.aR)],[ao,ak],ak⟩
abbrev vB:RT:=λK A ex=>(bT (aQ (dR K A) ex (u4 (jN A.aA dO "stacks") rH oM (Ah bS))))
abbrev vC:RT:=λK A ex=>aL (bT (iZ A.aA "need_there" (bU K A) [] ex dO (u3 oM rH bS))) (vB K A ex)
abbrev vD:RT:=λK A ex=>aL (bT (aQ (bQ K A) ex (u1 bS))) (vC K A ex)
abbrev vG:RT:=λK A ex=>aL (bT (aQ (bG K A) ex (u2 (jN A.aA dO "layout") rH))) (vD K A ex)
abbrev rN:RT:=λK A ex=>aL (bT (aQ (cF K A) ex (u2 oM (ti 1000)))) (vG K A ex)
abbrev iH:RS:=λK A=>bu 4 4 λEX=>rN K A (λ_=>EX)
abbrev aaA:CB:=(b5 (.expr (.call 1 (e2 qC (.d4 0)))) (.expr (.call 3 (e2 (.fld 2 dX) tM))) (.expr (.call 4 (e1 cz))) (.expr (.mZ 5 dX (e3 qC tM cz))) (.expr (.call 7 (e4 (.fld 6 dX) tM qC (.neg cz)))))
abbrev aaB:RI:=λK A=>⟨["self","lot","spot","amount"],[ak,ak,ak,ak],[ak,ak,ak,ak],[ao,ao,ao,ao],[("MOST_LOTS",.con (.int 1000)),("need_lot",.fn (cF K A) 2 ao),("Shelves.layout",.fl A.aA "layout"),("need_bin",.fn (bG K A) 2 ao),("need_amount",.fn (bQ K A) 1 ao),("Shelves.need_there#3",.me A.aA "need_there" (bU K A) []),("Shelves.stacks",.fl A.aA "stacks"),("change",.fn (dR K A) 4 ao)],[ak,ak,ao,ak,ak,ao,ao,ak],ak⟩
abbrev zJ:RT:=λK A ex=>(bT (aQ (dR K A) ex (u4 (jN A.aA dO "stacks") bS oM c9)))
abbrev zK:RT:=λK A ex=>aL (bT (aQ (dR K A) ex (u4 (jN A.aA dO "stacks") rH oM (Ah c9)))) (zJ K A ex)
abbrev a4C:RT:=λK A ex=>(cX (aO (aG wA rH bS)) (aL (bT (iZ A.aA "need_room" (cG K A) [] ex dO (u2 bS c9))) (zK K A ex)) bH)
abbrev a4D:RT:=λK A ex=>aL (bT (iZ A.aA "need_there" (bU K A) [] ex dO (u3 oM rH c9))) (a4C K A ex)
abbrev a4E:RT:=λK A ex=>aL (bT (aQ (bQ K A) ex (u1 c9))) (a4D K A ex)
abbrev a4F:RT:=λK A ex=>aL (bT (aQ (bG K A) ex (u2 (jN A.aA dO "layout") bS))) (a4E K A ex)
abbrev a4G:RT:=λK A ex=>aL (bT (aQ (bG K A) ex (u2 (jN A.aA dO "layout") rH))) (a4F K A ex)
abbrev a7F:RT:=λK A ex=>aL (bT (aQ (cF K A) ex (u2 oM (ti 1000)))) (a4G K A ex)
abbrev nH:RS:=λK A=>bu 5 5 λEX=>a7F K A (λ_=>EX)
abbrev a7G:CB:=(b6 (.expr (.call 1 (e2 qC (.d4 0)))) (.expr (.call 3 (e2 (.fld 2 dX) tM))) (.expr (.call 3 (e2 (.fld 2 dX) cz))) (.expr (.call 4 (e1 d5))) (.expr (.mZ 5 dX (e3 qC tM d5))) (.ifs (.cmp .NotEq tM cz) (b3 (.expr (.mZ 6 dX (e2 cz d5))) (.expr (.call 8 (e4 (.fld 7 dX) tM qC (.neg d5)))) (.expr (.call 8 (e4 (.fld 7 dX) cz qC d5)))) b0))
abbrev a7H:RI:=λK A=>⟨["self","lot","one","other","amount"],[ak,ak,ak,ak,ak],[ak,ak,ak,ak,ak],[ao,ao,ao,ao,ao],[("MOST_LOTS",.con (.int 1000)),("need_lot",.fn (cF K A) 2 ao),("Shelves.layout",.fl A.aA "layout"),("need_bin",.fn (bG K A) 2 ao),("need_amount",.fn (bQ K A) 1 ao),("Shelves.need_there#3",.me A.aA "need_there" (bU K A) []),("Shelves.need_room#2",.me A.aA "need_room" (cG K A) []),("Shelves.stacks",.fl A.aA "stacks"),("change",.fn (dR K A) 4 ao)],[ak,ak,ao,ak,ak,ao,ao,ao,ak],ak⟩
abbrev vH:RT:=λK A ex=>(cC (tD (sX (jN A.aA dO "stacks") oM u6)))
abbrev rO:RT:=λK A ex=>aL (bT (aQ (bG K A) ex (u2 (jN A.aA dO "layout") oM))) (vH K A ex)
abbrev kZ:RS:=λK A=>bu 2 2 λEX=>rO K A (λ_=>EX)
abbrev aaC:CB:=(b2 (.expr (.call 1 (e2 (.fld 0 dX) qC))) (.ret (.sortI 2 (.pv (.fld 3 dX) qC .lL))))
abbrev aaD:RI:=λK A=>⟨["self","spot"],[ak,ak],[ak,ak],[ao,ao],[("Shelves.layout",.fl A.aA "layout"),("need_bin",.fn (bG K A) 2 ao),("sorted",.bf .w8),("Shelves.stacks",.fl A.aA "stacks")],[ao,ak,ak,ao],ak⟩
abbrev rP:RT:=λK A ex=>(cC (wC (Av (jP mD (u1 (jN A.aA dO "stacks")))) (aO (aG D8 rH (aG j4 (jN A.aA oM "stacks") dO))) (mY (u2 dO (aG j4 (aG j4 (jN A.aA oM "stacks") dO) rH)))))
abbrev nJ:RT:=λK A ex=>aL (bT (aQ (cF K A) ex (u2 oM (ti 1000)))) (rP K A ex)
abbrev f9:RS:=λK A=>bu 2 2 λEX=>nJ K A (λ_=>EX)
abbrev a5S:CB:=(b2 (.expr (.call 1 (e2 qC (.d4 0)))) (.ret (.comp [ak,ak] [ao,ao,ao,ao] (.any (.call 3 (e1 (.fld 2 dX)))) (.some (.rV ao tM (.ik (.fld 2 qC) dX))) (.tup (e2 dX (.ik (.ik (.fld 2 qC) dX) tM))))))
abbrev a5T:RI:=λK A=>⟨["self","lot"],[ak,ak],[ao,ao],[ak,ak],[("MOST_LOTS",.con (.int 1000)),("need_lot",.fn (cF K A) 2 ao),("Shelves.stacks",.fl A.aA "stacks"),("sorted",.bf .Ad)],[ak,ak,ao,ak],ak⟩
abbrev pK:RT:=λK A ex=>(cC (aQ (zF K A) ex (u1 (jN A.aA dO "stacks"))))
abbrev jK:RS:=λK A=>bu 1 1 λEX=>pK K A (λ_=>EX)
abbrev a7I:CB:=(b1 (.ret (.call 1 (e1 (.fld 0 dX)))))
abbrev a7J:RI:=λK A=>⟨["self"],[ak],[ak],[ao],[("Shelves.stacks",.fl A.aA "stacks"),("in_order",.fn (zF K A) 1 ao)],[ao,ak],ak⟩
abbrev vI:RT:=λK A ex=>(cC (aG fM (aG gF (aG sQ rH rH) (aG sQ (ti 48271) oM)) (ti 2147483629)))
abbrev vJ:RT:=λK A ex=>aL (cQ 2 (aG fM (aG gF (aG sQ (aG iY dO (aG fM oM (jP yJ (u1 dO)))) (ti 48271)) (aG sQ oM (ti 104729))) (ti 2147483647))) (vI K A ex)
abbrev vK:RT:=λK A ex=>aL (cX (aO (aG Ed dO (qf m9))) (cC (ti 0)) bH) (vJ K A ex)
abbrev rQ:RT:=λK A ex=>aL (cX (aO (aG BP oM (jP yJ (u1 dO)))) (cC (aG iY dO oM)) bH) (vK K A ex)
abbrev bB:RS:=λK A=>bu 3 2 λEX=>rQ K A (λ_=>EX)
abbrev aaE:CB:=(b4 (.ifs (.cmp .Lt qC (.call 0 (e1 dX))) (b1 (.ret (.ix dX qC))) b0) (.ifs (.lI ao dX (.lst e0)) (b1 (.ret (ci 0))) b0) (.set 2 (.bin .Mod (.bin .Add (.bin .Mult (.ix dX (.bin .Mod qC (.call 0 (e1 dX)))) (ci 48271)) (.bin .Mult qC (ci 104729))) (ci 2147483647))) (.ret (.bin .Mod (.bin .Add (.bin .Mult tM tM) (.bin .Mult (ci 48271) qC)) (ci 2147483629))))
abbrev aaF:RI:=λK A=>⟨["_law_script","_law_k","_law_mixed"],[ak,ak,ak],[ak,ak,ak],[ao,ao,ao],[("len",.bf .len)],[ak],ak⟩
abbrev WB:RT:=λK A ex=>(cC (mY (u3 c9 fI (aG gF (ti 1) (aG fM (aG lC rH (ti 104)) (ti 20))))))
abbrev WA:RT:=λK A ex=>aL (cQ 5 (aG iY (qf (u2 (aG gF (ti 1) (aG fM bS (ti 6))) (aG gF (ti 1) (aG fM bS (ti 99))))) (jP Ef (u1 (aG xW (aG fM (aG lC bS (ti 99)) (ti 4)) (ti 1)))))) (WB K A ex)
abbrev Wz:RT:=λK A ex=>aL (cQ 4 (aG iY (qf (u2 (aG gF (ti 1) (aG fM rH (ti 4))) (aG gF (ti 1) (aG fM rH (ti 26))))) (jP Ef (u1 (aG xW (aG fM (aG lC rH (ti 26)) (ti 4)) (ti 1)))))) (WA K A ex)
abbrev Wy:RT:=λK A ex=>aL (cQ 3 (aQ (bB K A) ex (u2 dO (aG gF oM (ti 1))))) (Wz K A ex)
abbrev zL:RT:=λK A ex=>aL (cQ 2 (aQ (bB K A) ex (u2 dO oM))) (Wy K A ex)
abbrev qT:RS:=λK A=>bu 6 2 λEX=>zL K A (λ_=>EX)
abbrev aiR:CB:=(b5 (.set 2 (.call 0 (e2 dX qC))) (.set 3 (.call 0 (e2 dX (.bin .Add qC (ci 1))))) (.set 4 (.ix (.lst (e2 (.bin .Add (ci 1) (.bin .Mod tM (ci 4))) (.bin .Add (ci 1) (.bin .Mod tM (ci 26))))) (.call 1 (e1 (.cmp .Eq (.bin .Mod (.bin .FloorDiv tM (ci 26)) (ci 4)) (ci 1)))))) (.set 5 (.ix (.lst (e2 (.bin .Add (ci 1) (.bin .Mod cz (ci 6))) (.bin .Add (ci 1) (.bin .Mod cz (ci 99))))) (.call 1 (e1 (.cmp .Eq (.bin .Mod (.bin .FloorDiv cz (ci 99)) (ci 4)) (ci 1)))))) (.ret (.tup (e3 d5 iO (.bin .Add (ci 1) (.bin .Mod (.bin .FloorDiv tM (ci 104)) (ci 20)))))))
abbrev aiS:RI:=λK A=>⟨["_law_script","_law_k","_law_cell","_law_other","_law_aisles","_law_places"],[ak,ak,ak,ak,ak,ak],[ak,ak,ak,ak,ak,ak],[ao,ao,ao,ao,ao,ao],[("_law_cell_at",.fn (bB K A) 2 ao),("int",.bt "int")],[ak,ak],ak⟩
abbrev xO:RT:=λK A ex=>(cC (mY (u2 (lZ (.str "refused")) (C4 "list" uX oM (u1 (lZ (.bl ak)))))))
abbrev xP:RT:=λK A ex=>aL (cX (sA (uT (aO (jP (aD K) (u2 dO (lZ (.ty "ValueError")))))) (aO (aG wA (jP yJ (u1 (wC (Av oM) (aO dO) dO))) (ti 1)))) (cC (mY (u2 (lZ (.str "other")) (ti 7)))) bH) (xO K A ex)
abbrev xQ:RT:=λK A ex=>aL (cQ 1 (aG gF oM (qf (u2 (jP (aD K) (u2 dO (lZ (.ref A.aR)))) (jP (aD K) (u2 dO (lZ (.ref A.bV)))))))) (xP K A ex)
abbrev uG:RT:=λK A ex=>aL (cQ 1 (qf (u4 (jP (aD K) (u2 dO (lZ (.ref A.mL)))) (jP (aD K) (u2 dO (lZ (.ref A.qQ)))) (jP (aD K) (u2 dO (lZ (.ref A.qP)))) (jP (aD K) (u2 dO (lZ (.ref A.gK))))))) (xQ K A ex)
abbrev gB:RS:=λK A=>bu 2 1 λEX=>uG K A (λ_=>EX)
abbrev abZ:CB:=(b4 (.set 1 (.lst (e4 (.call 1 (e2 dX (.d4 0))) (.call 1 (e2 dX (.d4 2))) (.call 1 (e2 dX (.d4 3))) (.call 1 (e2 dX (.d4 4)))))) (.set 1 (.bin .Add qC (.lst (e2 (.call 1 (e2 dX (.d4 5))) (.call 1 (e2 dX (.d4 6))))))) (.ifs (.or (t2 (.not (.val (.call 1 (e2 dX (.d4 7))))) (.cmp .NotEq (.call 8 (e1 (.comp [ao,ao] [ao,ao,ao,ao,ao,ao,ao,ao,ao] (.any qC) (.some (.val dX)) dX))) (ci 1)))) (b1 (.ret (.tup (e2 (.con (.str "other")) (ci 7))))) b0) (.ret (.tup (e2 (.con (.str "refused")) (.hX .Ca qC (e1 (.con (.bl ak))))))))
abbrev ac0:RI:=λK A=>⟨["_law_e","_law_marks"],[ak,ak],[ak,ak],[ao,ao],[("NoPlan",.cls A.mL),("isinstance",.bf .uC),("NoLot",.cls A.qQ),("NoBin",.cls A.qP),("NoAmount",.cls A.gK),("TooLittle",.cls A.aR),("NoRoom",.cls A.bV),("ValueError",.bt "ValueError"),("len",.bf .len)],[ak,ak,ak,ak,ak,ak,ak,ak,ak],ao⟩
abbrev uH:RT:=λK A ex=>(cC (jP Ee (u1 (D6 0 (wC (qL dO) (aO (aG xW (aG iY dO (ti 0)) rH)) (aG sN oM dO))))))
abbrev mQ:RS:=λK A=>bu 2 2 λEX=>uH K A (λ_=>EX)
abbrev ac1:CB:=(b1 (.ret (.call 0 (e1 (.FY 0 (.comp [ak,ak] [ao] (.Ac dX) (.some (.cmp .Eq (.ix dX (ci 0)) tM)) (.uv qC dX)))))))
abbrev ac2:RI:=λK A=>⟨["_law_model","_law_spot"],[ak,ak],[ao,ao],[ak,ak],[("sum",.bf .sum)],[ak],ak⟩
abbrev wQ:RT:=λK A ex=>(cC (lZ .ag))
abbrev zM:RT:=λK A ex=>aL (cX (aO (aG wA bS (lZ (.str "take")))) (Es dO (mY (u2 oq c9)) (aG gF (Et dO (mY (u2 oq c9)) (ti 0)) fk)) bH) (wQ K A ex)
abbrev zN:RT:=λK A ex=>aL (cX (aO (aG wA bS (lZ (.str "put")))) (Es dO (mY (u2 fI c9)) (aG Ai eS fk)) bH) (zM K A ex)
abbrev zO:RT:=λK A ex=>aL (cX (Aj (aO (aG wA bS (lZ (.str "take")))) (aO (aG BO (aG gF (aQ (mQ K A) ex (u2 dO oq)) fk) oM))) (cC (mY (u2 (lZ (.str "refused")) (ti 5)))) bH) (zN K A ex)
abbrev zP:RT:=λK A ex=>aL (cX (Aj (aO (aG xW bS (lZ (.str "shift")))) (aO (aG xW fI fF))) (cC (lZ .ag)) bH) (zO K A ex)
abbrev zQ:RT:=λK A ex=>aL (cX (aO (aG xW bS (lZ (.str "shift")))) (cQ 9 fF) bH) (zP K A ex)
abbrev zR:RT:=λK A ex=>aL (cQ 9 fI) (zQ K A ex)
abbrev zT:RT:=λK A ex=>aL (cX (Aj (aO (aG wA bS (lZ (.str "put")))) (aO (aG BP eS fk))) (cC (mY (u2 (lZ (.str "refused")) (ti 4)))) bH) (zR K A ex)
abbrev zU:RT:=λK A ex=>aL (cQ 8 (Et dO (mY (u2 fI c9)) (ti 0))) (zT K A ex)
abbrev vL:RT:=λK A ex=>aL (EB [3,4,5,6,7] rH) (zU K A ex)
abbrev lJ:RS:=λK A=>bu 10 3 λEX=>vL K A (λ_=>EX)
abbrev ar5:CB:=(bc (.zi [3,4,5,6,7] tM) (bc (.set 8 (.yy dX (.tup (e2 iO d5)) (ci 0))) (bc (.ifs (.and (t2 (.cmp .NotEq cz (.con (.str "put"))) (.cmp .Lt g7 hU))) (b1 (.ret (.tup (e2 (.con (.str "refused")) (ci 4))))) b0) (bc (.set 9 iO) (b6 (.ifs (.cmp .Eq cz (.con (.str "shift"))) (b1 (.set 9 il)) b0) (.ifs (.and (t2 (.cmp .Eq cz (.con (.str "shift"))) (.cmp .Eq iO il))) (b1 (.ret (.con .ag))) b0) (.ifs (.and (t2 (.cmp .NotEq cz (.con (.str "take"))) (.cmp .Gt (.bin .Add (.call 0 (e2 dX Bs)) hU) qC))) (b1 (.ret (.tup (e2 (.con (.str "refused")) (ci 5))))) b0) (.ifs (.cmp .NotEq cz (.con (.str "put"))) (b1 (.setM dX (.tup (e2 iO d5)) (.bin .Sub g7 hU))) b0) (.ifs (.cmp .NotEq cz (.con (.str "take"))) (b1 (.setM dX (.tup (e2 Bs d5)) (.bin .Add (.yy dX (.tup (e2 Bs d5)) (ci 0)) hU))) b0) (.ret (.con .ag)))))))
abbrev ar6:RI:=λK A=>⟨["_law_model","_law_room","_law_deed","_law_word","_law_lot","_law_one","_law_other","_law_amount","_law_there","_law_goal"],[ak,ak,ak,ak,ak,ak,ak,ak,ak,ak],[ak,ak,ak,ak,ak,ak,ak,ak,ak,ak],[ao,ao,ao,ao,ao,ao,ao,ao,ao,ao],[("_law_filled",.fn (mQ K A) 2 ao)],[ak],ak⟩
abbrev a5U:RT:=λK A ex=>(cC (iZ A.aA "shift" (nH K A) [] ex dO (u4 bS c9 fI fF)))
abbrev vM:RT:=λK A ex=>aL (cX (aO (aG xW rH (lZ (.str "take")))) (cC (iZ A.aA "take" (iH K A) [] ex dO (u3 bS c9 fF))) bH) (a5U K A ex)
abbrev uI:RT:=λK A ex=>(Eh K A.mK 7 (λAH=>aL (cX (aO (aG xW (eV 2) (lZ (.str "put")))) (cC (iZ A.aA "put" (jB K A) [] AH (eV 0) (cP (eV 3) (cP (eV 4) (cP (eV 6) m9))))) bH) (vM K A AH)) (cC (aQ (gB K A) qA (cP (eV 7) m9))))
abbrev p8:RT:=λK A ex=>aL (EB [2,3,4,5,6] oM) (uI K A ex)
abbrev gO:RS:=λK A=>bu 8 2 λEX=>p8 K A (λ_=>EX)
abbrev aiT:CB:=(b2 (.zi [2,3,4,5,6] qC) (.Bw 0 7 (b3 (.ifs (.cmp .Eq tM (.con (.str "put"))) (b1 (.ret (.mZ 1 dX (e3 cz d5 il)))) b0) (.ifs (.cmp .Eq tM (.con (.str "take"))) (b1 (.ret (.mZ 2 dX (e3 cz d5 il)))) b0) (.ret (.mZ 3 dX (e4 cz d5 iO il)))) (b1 (.ret (.call 4 (e1 hU))))))
abbrev aiU:RI:=λK A=>⟨["_law_shelves","_law_deed","_law_word","_law_lot","_law_one","_law_other","_law_amount","_law_e"],[ak,ak,ak,ak,ak,ak,ak,ak],[ak,ak,ak,ak,ak,ak,ak,ak],[ao,ao,ao,ao,ao,ao,ao,ao],[("DepotError",.cls A.mK),("Shelves.put#3",.me A.aA "put" (jB K A) []),("Shelves.take#3",.me A.aA "take" (iH K A) []),("Shelves.shift#4",.me A.aA "shift" (nH K A) []),("_law_raised",.fn (gB K A) 1 ak)],[ak,ao,ao,ao,ak],ak⟩
abbrev pA:RT:=λK A ex=>(cX (aO (aG wA (aQ (gO K A) ex (u2 oM pE)) (aQ (lJ K A) ex (u3 c9 bS pE)))) (cC (lZ (.bl ao))) bH)
abbrev tO:RT:=λK A ex=>(cX (aO (aG xW (aG fM (aG lC fF (ti 2600)) (ti 4)) (ti 1))) (aL (cQ 10 (mY (u5 (lZ (.str "take")) oq eS eS (aG gF (ti 1) (aG fM (aG lC fF (ti 10400)) (ti 500)))))) (pA K A ex)) bH)
abbrev tQ:RT:=λK A ex=>aL (cX (aO (aG wA (aQ (gO K A) ex (u2 oM pE)) (aQ (lJ K A) ex (u3 c9 bS pE)))) (cC (lZ (.bl ao))) bH) (tO K A ex)
abbrev tR:RT:=λK A ex=>aL (cQ 10 (mY (u5 (lZ (.str "put")) oq eS eS (aG gF (ti 1) (aG fM (aG lC fk (ti 3000)) (ti 1000)))))) (tQ K A ex)
abbrev tU:RT:=λK A ex=>aL (cQ 9 (aG iY (qf (u3 (aG fM fk (ti 1000)) (aG fM fk (ti 4)) (aG Ai (ti 999) (aG fM fk (ti 3))))) (aG fM (aG lC fk (ti 1000)) (ti 3)))) (tR K A ex)
abbrev tV:RT:=λK A ex=>aL (cQ 8 (mY (u2 (aG fM fF (aG iY rH (ti 0))) (aG gF (ti 1) (aG fM (aG lC fF (ti 26)) (aG iY rH (ti 1))))))) (tU K A ex)
abbrev tW:RT:=λK A ex=>aL (cQ 7 (aQ (bB K A) ex (u2 dO (aG gF (ti 100) fI)))) (tV K A ex)
abbrev pL:RT:=λK A ex=>aL (cQ 6 (aQ (bB K A) ex (u2 dO (aG gF (ti 4) fI)))) (tW K A ex)
abbrev vN:RT:=λK A ex=>(cC (lZ (.bl ak)))
abbrev rR:RT:=λK A ex=>aL (yM (Ci (u1 (aG gF (ti 30) (aG fM (aQ (bB K A) ex (u2 dO (ti 3))) (ti 61))))) (yL 5) (pL K A ex)) (vN K A ex)
abbrev lA:RS:=λK A=>bu 11 5 λEX=>rR K A (λ_=>EX)
abbrev aaG:CB:=(b2 (.sf (.BA (.bin .Add (ci 30) (.bin .Mod (.call 1 (e2 dX (ci 3))) (ci 61)))) (.nm 5) (bc (.set 6 (.call 1 (e2 dX (.bin .Add (ci 4) iO)))) (b6 (.set 7 (.call 1 (e2 dX (.bin .Add (ci 100) iO)))) (.set 8 (.tup (e2 (.bin .Mod il (.ix tM (ci 0))) (.bin .Add (ci 1) (.bin .Mod (.bin .FloorDiv il (ci 26)) (.ix tM (ci 1))))))) (.set 9 (.ix (.lst (e3 (.bin .Mod hU (ci 1000)) (.bin .Mod hU (ci 4)) (.bin .Sub (ci 999) (.bin .Mod hU (ci 3))))) (.bin .Mod (.bin .FloorDiv hU (ci 1000)) (ci 3)))) (.set 10 (.tup (e5 (.con (.str "put")) Bs g7 g7 (.bin .Add (ci 1) (.bin .Mod (.bin .FloorDiv hU (ci 3000)) (ci 1000)))))) (.ifs (.cmp .NotEq (.call 2 (e2 qC Bv)) (.call 3 (e3 d5 cz Bv))) (b1 (.ret (.con (.bl ao)))) b0) (.ifs (.cmp .Eq (.bin .Mod (.bin .FloorDiv il (ci 2600)) (ci 4)) (ci 1)) (b2 (.set 10 (.tup (e5 (.con (.str "take")) Bs g7 g7 (.bin .Add (ci 1) (.bin .Mod (.bin .FloorDiv il (ci 10400)) (ci 500)))))) (.ifs (.cmp .NotEq (.call 2 (e2 qC Bv)) (.call 3 (e3 d5 cz Bv))) (b1 (.ret (.con (.bl ao)))) b0)) b0)))) (.ret (.con (.bl ak))))
abbrev aaH:RI:=λK A=>⟨["_law_script","_law_shelves","_law_plan_here","_law_room","_law_model","_law_k","_law_cell","_law_other","_law_spot","_law_lot","_law_deed"],[ak,ak,ak,ak,ak,ak,ak,ak,ak,ak,ak],[ak,ak,ak,ak,ak,ak,ak,ak,ak,ak,ak],[ao,ao,ao,ao,ao,ao,ao,ao,ao,ao,ao],[("range",.bt "range"),("_law_cell_at",.fn (bB K A) 2 ao),("_law_done",.fn (gO K A) 2 ao),("_law_do",.fn (lJ K A) 3 ao)],[ak,ak,ak,ak],ak⟩
abbrev xR:RT:=λK A ex=>(cQ 5 (D7 fI (Cj (Ah (ti 1)))))
abbrev xT:RT:=λK A ex=>(cX (sA (aO (aG wA (iZ A.aA "filled" (d9 K A) [] ex dO (u1 fF)) (jP Ee (u1 (wC (Av fk) Au (aG iY dO (ti 1))))))) (aO (aG w9 (iZ A.aA "held" (kZ K A) [] ex dO (u1 fF)) fk))) (cC (lZ (.bl ao))) bH)
abbrev uJ:RT:=λK A ex=>aL (cQ 7 (tD (aG j4 oM fF))) (xT K A ex)
abbrev uK:RT:=λK A ex=>(cX (aO (aG w9 (iZ A.aA "places" (f9 K A) [] ex dO (u1 eS)) (tD (aG j4 rH eS)))) (cC (lZ (.bl ao))) bH)
abbrev Ws:RT:=λK A ex=>(cC (lZ (.bl ak)))
abbrev Wr:RT:=λK A ex=>aL (yM (BJ c9) (yL 8) (uK K A ex)) (Ws K A ex)
abbrev wR:RT:=λK A ex=>aL (yM (BJ fI) (yL 6) (uJ K A ex)) (Wr K A ex)
abbrev wU:RT:=λK A ex=>aL (cX (aO bS) (aL (cQ 4 (D7 c9 (Cj (Ah (ti 1))))) (xR K A ex)) bH) (wR K A ex)
abbrev Wq:RT:=λK A ex=>aL (cQ 5 (jP mD (u1 oM))) (wU K A ex)
abbrev Oh:RT:=λK A ex=>aL (cQ 4 (jP mD (u1 rH))) (Wq K A ex)
abbrev tX:RS:=λK A=>bu 9 4 λEX=>Oh K A (λ_=>EX)
abbrev alT:CB:=(b6 (.set 4 (.call 0 (e1 tM))) (.set 5 (.call 0 (e1 qC))) (.ifs (.val cz) (b2 (.set 4 (.rev d5 (.neg (ci 1)))) (.set 5 (.rev iO (.neg (ci 1))))) b0) (.sf (.any iO) (.nm 6) (b2 (.set 7 (.sortI 1 (.ik qC il))) (.ifs (.or (t2 (.cmp .NotEq (.mZ 2 dX (e1 il)) (.call 3 (e1 (.comp [ao,ao,ao,ao,ao,ao,ao,ao,ao] [ao,ao,ao,ao,ao,ao] (.any hU) .none (.ix dX (ci 1)))))) (.lI ak (.mZ 4 dX (e1 il)) hU))) (b1 (.ret (.con (.bl ao)))) b0))) (.sf (.any d5) (.nm 8) (b1 (.ifs (.lI ak (.mZ 5 dX (e1 g7)) (.sortI 1 (.ik tM g7))) (b1 (.ret (.con (.bl ao)))) b0))) (.ret (.con (.bl ak))))
abbrev alU:RI:=λK A=>⟨["_law_shelves","_law_by_bin","_law_by_lot","_law_turned","_law_lots","_law_spots","_law_spot","_law_due","_law_lot"],[ak,ak,ak,ak,ak,ak,ak,ak,ak],[ak,ak,ak,ak,ak,ak,ak,ak,ak],[ao,ao,ao,ao,ao,ao,ao,ao,ao],[("sorted",.bf .Ad),("sorted",.bf .w8),("Shelves.filled#1",.me A.aA "filled" (d9 K A) []),("sum",.bf .sum),("Shelves.held#1",.me A.aA "held" (kZ K A) []),("Shelves.places#1",.me A.aA "places" (f9 K A) [])],[ak,ak,ao,ak,ao,ao],ak⟩
abbrev Wx:RT:=λK A ex=>(As (aG j4 fk (aG iY eS (ti 1))) (aG iY eS (ti 0)) (aG sN fI eS))
abbrev UL:RT:=λK A ex=>(cX (aO (aG BO (aG sN fI eS) (ti 0))) (aL (As (aG j4 fF (aG iY eS (ti 0))) (aG iY eS (ti 1)) (aG sN fI eS)) (Wx K A ex)) bH)
abbrev UK:RT:=λK A ex=>aL (bT (sk sM fk (u2 (aG iY eS (ti 1)) wB))) (UL K A ex)
abbrev MJ:RT:=λK A ex=>aL (bT (sk p9 fF (u2 (aG iY eS (ti 0)) u6))) (UK K A ex)
abbrev SQ:RT:=λK A ex=>(cC (aQ (tX K A) ex (u4 c9 fF fk (aG xW (aG fM (aG lC rH (ti 7)) (ti 2)) (ti 1)))))
abbrev Il:RT:=λK A ex=>aL (cX (aO (aG w9 (wC (Ar ak oq) Au (mY (u2 dO (HW (aG j4 pE dO))))) pE)) (cC (lZ (.bl ao))) bH) (SQ K A ex)
abbrev MH:RT:=λK A ex=>aL (cQ 10 (wC (Av (jP mD (u1 fF))) (aO (aG (BX ak) (aG j4 fk dO) u6)) (mY (u2 dO (tD (aG j4 fk dO)))))) (Il K A ex)
abbrev Ik:RT:=λK A ex=>aL (cQ 9 (iZ A.aA "lying" (jK K A) [] ex c9 m9)) (MH K A ex)
abbrev Ml:RT:=λK A ex=>aL (yM (qL fI) (yL 8) (MJ K A ex)) (Ik K A ex)
abbrev RC:RT:=λK A ex=>aL (cQ 7 u6) (Ml K A ex)
abbrev Mj:RT:=λK A ex=>aL (cQ 6 wB) (RC K A ex)
abbrev RB:RT:=λK A ex=>aL (cX (uT (aO (aQ (lA K A) ex (u5 dO c9 oM bS fI)))) (cC (lZ (.bl ao))) bH) (Mj K A ex)
abbrev Rz:RT:=λK A ex=>aL (cQ 5 HY) (RB K A ex)
abbrev Ry:RT:=λK A ex=>aL (cQ 4 (EA A.aA (fO K A) [] ex (u2 oM bS))) (Rz K A ex)
abbrev Rx:RT:=λK A ex=>aL (cQ 3 (aG iY (qf (u2 (aG gF (ti 1) (aG fM (aG lC rH (ti 2)) (aG Ej (ti 10) (ti 6)))) (aG gF (ti 1) (aG fM (aG lC rH (ti 2)) (ti 3000))))) (aG fM rH (ti 2)))) (Ry K A ex)
abbrev Rw:RT:=λK A ex=>aL (cQ 2 (aQ (bB K A) ex (u2 dO (ti 2)))) (Rx K A ex)
abbrev KZ:RT:=λK A ex=>aL (cQ 1 (aQ (qT K A) ex (u2 dO (ti 0)))) (Rw K A ex)
abbrev Hv:RS:=λK A=>bu 11 1 λEX=>KZ K A (λ_=>EX)
abbrev D3:CB:=(bc (.set 1 (.call 0 (e2 dX (ci 0)))) (bc (.set 2 (.call 1 (e2 dX (ci 2)))) (bc (.set 3 (.ix (.lst (e2 (.bin .Add (ci 1) (.bin .Mod (.bin .FloorDiv tM (ci 2)) (.bin .Pow (ci 10) (ci 6)))) (.bin .Add (ci 1) (.bin .Mod (.bin .FloorDiv tM (ci 2)) (ci 3000))))) (.bin .Mod tM (ci 2)))) (bc (.set 4 (.call 2 (e2 qC cz))) (bc (.set 5 .DO) (bc (.ifs (.not (.val (.call 3 (e5 dX d5 qC cz iO)))) (b1 (.ret (.con (.bl ao)))) b0) (bc (.set 6 .wc) (b6 (.set 7 .lL) (.sf (.Ac iO) (.nm 8) (b3 (.expr (.dm .C6 il (.ix g7 (ci 0)) (e1 .lL))) (.expr (.dm .FZ hU (.ix g7 (ci 1)) (e1 .wc))) (.ifs (.cmp .Gt (.uv iO g7) (ci 0)) (b2 (.se (.ik il (.ix g7 (ci 0))) (.ix g7 (ci 1)) (.uv iO g7)) (.se (.ik hU (.ix g7 (ci 1))) (.ix g7 (ci 0)) (.uv iO g7))) b0))) (.set 9 (.mZ 4 d5 e0)) (.setC 10 [ao,ao,ao,ao,ao,ao,ak,ao,ao,ao,ao] [ao,ao,ao,ao,ao,ao,ak,ao,ao] (.any (.call 5 (e1 il))) (.some (.rX ak (.ik hU dX) .lL)) (.tup (e2 dX (.sortI 6 (.ik hU dX))))) (.ifs (.lI ak (.comp [ao,ao,ao,ao,ao,ao,ao,ao,ao,ak,ao] [ao,ao,ao,ao,ao,ao,ao,ak,ao] (.keys Bs) .none (.tup (e2 dX (.listI 7 (.ik Bv dX))))) Bv) (b1 (.ret (.con (.bl ao)))) b0) (.ret (.call 8 (e4 d5 il hU (.cmp .Eq (.bin .Mod (.bin .FloorDiv tM (ci 7)) (ci 2)) (ci 1)))))))))))))
abbrev aNY:RI:=λK A=>⟨["_law_script","_law_plan_here","_law_cell","_law_room","_law_shelves","_law_model","_law_by_bin","_law_by_lot","_law_pair","_law_told","_law_due"],[ak,ak,ak,ak,ak,ak,ak,ak,ak,ak,ak],[ak,ak,ak,ak,ak,ak,ao,ak,ak,ao,ak],[ao,ao,ao,ao,ao,ao,ak,ao,ao,ak,ao],[("_law_plan",.fn (qT K A) 2 ao),("_law_cell_at",.fn (bB K A) 2 ao),("Shelves",.kl A.aA (fO K A) []),("_law_put_all",.fn (lA K A) 5 ao),("Shelves.lying#0",.me A.aA "lying" (jK K A) []),("sorted",.bf .Ad),("sorted",.bf .w8),("list",.bt "list"),("_law_all",.fn (tX K A) 4 ao)],[ak,ak,ak,ak,ao,ak,ao,ao,ak],ak⟩
structure eR(K:Fg)(mg:Str->Option au)(x:Str)(st:nu)(f:bw)(d:oh)(ps:List Str):Prop where
 F:gu K x x st f d
 B:Binds K d ps []
 m:mg x=aj (.ref f)
structure rf(K:Fg)(mg:Str->Option au)(x:Str)(c:bw):Prop where
 m:mg x=aj (.ref c)
 x:nB K c Jv "ValueError.__new__"=ak
 cs:(yt K c).isSome=ak
 ty:Ao K (.ref c)=aj (.type "type")
 be:xr K (.ref c) (.type "BaseException")=aj ak
structure Txt(K:Fg)(mg:Str->Option au)(A:kX):Prop where
 gP:eR K mg "is_whole" VZ A.US A.wF ["thing","least","most"]
 qX:eR K mg "is_pair" T8 A.T5 A.Jk ["thing","aisles","first","last"]
 lV:eR K mg "is_amount" Wg A.Wc A.tG ["thing"]
 qY:eR K mg "is_plan" T7 A.T4 A.Jj ["thing"]
 jD:eR K mg "need_plan" Wf A.Wb A.tH ["plan"]
 vO:eR K mg "is_bin" SW A.SU A.ID ["plan","thing"]
 fL:eR K mg "need_lot" VY A.UR A.wG ["thing","lots"]
 dZ:eR K mg "need_bin" VX A.UQ A.wH ["plan","thing"]
 cV:eR K mg "need_amount" WK A.WG A.oH ["thing"]
 pB:eR K mg "change" SV A.SS A.IC ["stacks","spot","lot","more"]
 nO:eR K mg "in_order" VW A.UP A.wI ["stacks"]
 a2H:gu K "__init__" "Shelves.__init__" dW A.bA A.gJ
 a2I:Binds K A.gJ ["self","plan","room"] []
 alV:Meth K A.aA "__init__" A.bA
 alW:∃t,Binds K A.gJ ["self","plan","room"] [.int 1000 t]
 nP:gu K "filled" "Shelves.filled" uZ A.fV A.fW
 jL:Binds K A.fW ["self","spot"] []
 vP:Meth K A.aA "filled" A.fV
 jR:gu K "need_room" "Shelves.need_room" pZ A.dD A.dF
 fP:Binds K A.dF ["self","spot","amount"] []
 qD:Meth K A.aA "need_room" A.dD
 uL:gu K "put" "Shelves.put" WJ A.jX A.jY
 uM:Binds K A.jY ["self","lot","spot","amount"] []
 ac3:Meth K A.aA "put" A.jX
 nQ:gu K "amount" "Shelves.amount" v7 A.fX A.fY
 nR:Binds K A.fY ["self","lot","spot"] []
 a5V:Meth K A.aA "amount" A.fX
 jE:gu K "need_there" "Shelves.need_there" oU A.cY A.cZ
 fB:Binds K A.cZ ["self","lot","spot","amount"] []
 pC:Meth K A.aA "need_there" A.cY
 rT:gu K "take" "Shelves.take" yX A.j7 A.j8
 rW:Binds K A.j8 ["self","lot","spot","amount"] []
 aaM:Meth K A.aA "take" A.j7
 pN:gu K "shift" "Shelves.shift" xF A.iB A.iC
 pO:Binds K A.iC ["self","lot","one","other","amount"] []
 a7K:Meth K A.aA "shift" A.iB
 rY:gu K "held" "Shelves.held" yZ A.j9 A.jA
 rZ:Binds K A.jA ["self","spot"] []
 aaN:Meth K A.aA "held" A.j9
 nT:gu K "places" "Shelves.places" v8 A.fZ A.gA
 nU:Binds K A.gA ["self","lot"] []
 a5W:Meth K A.aA "places" A.fZ
 pP:gu K "lying" "Shelves.lying" xG A.iD A.iG
 pQ:Binds K A.iG ["self"] []
 a7L:Meth K A.aA "lying" A.iD
 d7:eR K mg "_law_cell_at" z6 A.z8 A.mH ["_law_script","_law_k"]
 lW:eR K mg "_law_plan" We A.Wa A.tK ["_law_script","_law_k"]
 iM:eR K mg "_law_raised" WI A.WE A.oJ ["_law_e"]
 iQ:eR K mg "_law_filled" WH A.WD A.oK ["_law_model","_law_spot"]
 qZ:eR K mg "_law_do" T6 A.T3 A.Ji ["_law_model","_law_room","_law_deed"]
 lX:eR K mg "_law_done" Wd A.V9 A.tL ["_law_shelves","_law_deed"]
 gC:eR K mg "_law_put_all" z7 A.z9 A.mJ ["_law_script","_law_shelves","_law_plan_here","_law_room","_law_model"]
 nW:eR K mg "_law_all" UT A.UO A.wJ ["_law_shelves","_law_by_bin","_law_by_lot","_law_turned"]
 aNZ:eR K mg "law" D4 A.z0 A.Vo ["_law_script"]
 aN:iE K A.aA
 alX:Mk K A.aA A.bA
 alY:mg "Shelves"=aj (.ref A.aA)
 cN:nA K A.aA "layout"
 xU:nA K A.aA "room"
 bJ:nA K A.aA "stacks"
 mR:rf K mg "DepotError" A.mK
 vQ:rf K mg "NoPlan" A.mL
 CF:rf K mg "NoBin" A.qP
 CD:rf K mg "NoLot" A.qQ
 nY:rf K mg "NoAmount" A.gK
 pD:rf K mg "NoRoom" A.bV
 ZV:nE K A.bV
 vR:iw K (.ref A.bV) (.type "ValueError")=aj ak
 gG:rf K mg "TooLittle" A.aR
 aiX:nE K A.aR
 mU:iw K (.ref A.aR) (.type "ValueError")=aj ak
 dG:xr K (.ref A.bV) (.ref A.mK)=aj ak
 fC:iw K (.ref A.bV) (.ref A.gK)=aj ao
 jF:iw K (.ref A.bV) (.ref A.qP)=aj ao
 jG:iw K (.ref A.bV) (.ref A.qQ)=aj ao
 iI:iw K (.ref A.bV) (.ref A.mL)=aj ao
 iJ:iw K (.ref A.bV) (.ref A.bV)=aj ak
 eE:iw K (.ref A.bV) (.ref A.aR)=aj ao
 cO:xr K (.ref A.aR) (.ref A.mK)=aj ak
 d8:iw K (.ref A.aR) (.ref A.gK)=aj ao
 fD:iw K (.ref A.aR) (.ref A.qP)=aj ao
 fG:iw K (.ref A.aR) (.ref A.qQ)=aj ao
 eF:iw K (.ref A.aR) (.ref A.mL)=aj ao
 eG:iw K (.ref A.aR) (.ref A.bV)=aj ao
 cR:iw K (.ref A.aR) (.ref A.aR)=aj ak
 jZ:∃t,mg "MOST_AISLES"=aj (.int 26 t)
 kJ:∃t,mg "MOST_PLACES"=aj (.int 99 t)
 kW:∃t,mg "MOST_AMOUNT"=aj (.int 1000000 t)
 sE:∃t,mg "MOST_GAP"=aj (.int 20 t)
 fH:∃t,mg "MOST_LOTS"=aj (.int 1000 t)
 afL:mg "ValueError"=bh
 aIQ:mg "bool"=bh
 aIR:mg "dict"=bh
 Vn:mg "int"=bh
 qU:mg "isinstance"=bh
 D2:mg "len"=bh
 aIS:mg "list"=bh
 aBW:mg "range"=bh
 pF:mg "sorted"=bh
 KY:mg "sum"=bh
 Rv:mg "tuple"=bh
end Law
namespace Law
open PySem PySem.Spec PyProof.Rows L2 L4 L5 L6
local macro_rules| `(tactic| walk_at "wp")=>`(tactic| first|(simp(maxSteps:=2000000) (implicitDefEqProofs:=false) (disch:=first|rfl|decide|assumption|omega) only[ti,dO,oM,rH,bS,c9,fI,fF,fk,eS,oq,pE,u1,u2,u3,u4,u5,L5.Ha,L5.aI2,L5.aI3,L5.aNJ,L5.Vv,L5.G7,L5.x_raise,L5.x_c,L5.Hy,L5.Hx,L5.HL,L5.QD,L5.aB4,L5.aNL,L5.aRT,L5.aNM,L5.aI4,L5.aI5,L5.aNN,L5.Vu,L5.Hw,L5.K3,L5.Vt,L5.aNO,L5.x_call,L5.aRU,L5.x_m,L5.aI6,L5.aNK,L5.QJ,L5.aB2,L5.IH,L5.aNP,L5.aI8,L5.aI9,L5.EL,L5.B9,L5.Qz,L5.x_lt,L5.aRV,L5.aRW,L5.RP,L5.RO,L5.aB6,L5.aB7,L5.aB8,L5.RN,L5.aB9,L5.aBA,L5.aBB,L5.dB,L5.aBE,L5.aBF,L5.aBG,L5.aHX,L5.aHY,L5.QI,L5.aHZ,L5.aI0,L5.aI1,L5.ai9,L5.af9,L5.abP,L5.alD,L5.aiA,L5.afA,L5.aiB,L5.afB,L5.abQ,L5.aiC,L5.afC,L5.abR,L5.aiD,L5.afD,L5.abS,L5.V0,L5.alG,L5.Z6,L5.aqQ,L5.alH,L5.aNS,L5.aNT,L5.alI,L5.aqR,L5.aqS,L6.aBH,L6.aNU,L6.aIB,L6.aBI,L6.Qy,L6.aIC,L6.aBJ,L6.Ep,L6.aBK,L6.aID,L8.aNX,L8.aIH,L8.aBP,L8.aBQ,L8.aRX,L8.aBR,L9.aBS,L9.aII,AF.aIM,AF.T9,AF.aIN,AF.aIO,AF.aBV,Ot.Z1,L7.aNW,L7.aIE,L7.aIF,reduceIte,reduceCtorEq];try dsimp only[L5.QH,L5.QG,L5.QF,L5.QE,L6.RM])|dsimp only[L5.QH,L5.QG,L5.QF,L5.QE,L6.RM])
local macro_rules| `(tactic| exists $ls,*)=>`(tactic| (simp(implicitDefEqProofs:=false) only[$[$ls:term],*];repeat (first|(walk_at "wp")|(simp(implicitDefEqProofs:=false) only[$[$ls:term],*]))))
local macro_rules| `(tactic| symm)=>`(tactic| repeat (walk_at "wp"))
variable{ns:List Int}{l v lot room am:Int}{F:eU}{ex:bL->eX}{sh m r:bw}{zs:List ((Int×Int)×List (Int×Int))}{src:Src}{tc:df}{kvs:List (DK×D)}
section
variable{K:Fg}{A:kX}{G:Gp}{mg:Str->Option au}
open L7 L8 L9 Ot WQ AF
abbrev gy(d:D)(a b:Int):Bool:=match d with
 |.int i=>decide (a<=i)&&decide (i<=b)
 |_=>ao
private theorem lK{a b:Int}(hd:kn G d)(h:R (.bl (gy d a b)) G):cD K A [d,.int a,.int b] G R EX:=by
 refine⟨rfl,?_⟩;replace h:=aY.here h;show wK K A _ _ [aj d,aj (.int a),aj (.int b)] G;cases d
 case ref q=>exists wK,alE hd;exact h
 case ty n=>simp[kn,kA]at hd
 all_goals exists wK
 case int i =>
  by_cases c:a<=i
  .simp only[c,decide_true,if_true];simpa[gy,c]using h
  .simp only[c,decide_false,ni,if_false];simpa[gy,c]using h
 all_goals exact h
abbrev cellAt(ns:List Int)(k:Nat):Int:=if k<ns.length then ns.getD k 0 else if ns=[]then 0 else
 let m:=(ns.getD (k%ns.length) 0*48271+k*104729)%2147483647
 (m*m+48271*k)%2147483629
def B8{a:bw}(hG:G a=aj (.gL (ns.map D.int))){k:Nat}(hk:k<1000)(h:R (.int (cellAt ns k)) G):bB K A [.ref a,.int (k:Int)] G R EX:=by
 refine⟨rfl,?_⟩;replace h:=aY.here h;show rQ K A _ _ [aj (.ref a),aj (.int k),bh] G;exists rQ,Mo (yW hG);by_cases c:k<ns.length
 .rw[if_pos (decide_eq_true ⋯)];have e:dC (ns.map D.int) (k:Int)=aj (.int (ns.getD k 0)):=by rw[Er];simp[c,ug]
  rw[LD (yW hG) e];rw[show cellAt ns k=ns.getD k 0 by unfold cellAt;rw[if_pos c]]at h;exact h
 .rw[if_neg (by simp;omega)];exists vK;intro p hp;rw[aBL (yW (eZ hG hp)) dB];let⟨G0,l,h⟩:=h;refine⟨by cases ns<;>rfl,?_⟩;by_cases hn:ns=[]
  .subst hn;rw[show cellAt [] k=0 by unfold cellAt;simp]at h;simp only[List.map_nil,pJ];symm;exact⟨G0,l.trans (.new hp),h⟩
  .have e0:BI (aC G p (.lst [])) (ns.map D.int) []=ao:=by cases ns with
    |nil=>exact absurd rfl hn
    |cons n r=>rfl
   have h0:0<(ns.length:Int):=by cases ns with
    |nil=>exact absurd rfl hn
    |cons n r=>simp
   simp only[e0];exists vJ,Mo (yW (eZ hG hp));have hm:k%ns.length<ns.length:=Nat.mod_lt _ ⋯
   have e2:dC (ns.map D.int) ((k:Int)%(ns.length:Int))=aj (.int (ns.getD (k%ns.length) 0)):=by
    rw[←Int.natCast_emod,Er];simp[hm,ug]
   rw[LD (yW (eZ hG hp)) e2];exists vI;refine⟨G0,l.trans (.new hp),?_⟩
   have ec:cellAt ns k=((ns.getD (k%ns.length) 0*48271+(k:Int)*104729)%2147483647*((ns.getD (k%ns.length) 0*48271+(k:Int)*104729)%2147483647)+48271*(k:Int))%2147483629:=by
    unfold cellAt;rw[if_neg c,if_neg hn]
   rw[←ec];exact h
abbrev yA(d:D)(n a b:Int):Bool:=match d with
 |.tup [x,y]=>gy x 0 (n - 1)&&gy y a b
 |_=>ao
private theorem ar7{n a b:Int}(hd:kn G d)(hc:∀x y,d=.tup [x,y]->kn G x/\kn G y)(h:R (.bl (yA d n a b)) G):wL K A [d,.int n,.int a,.int b] G R EX:=by
 refine⟨rfl,?_⟩;replace h:=aY.here h;show v9 K A _ _ [aj d,aj (.int n),aj (.int a),aj (.int b)] G;cases d
 case ref q=>exists v9,Wv hd;exact h
 case ty n=>simp[kn,kA]at hd
 case tup xs =>
  exists v9
  match xs,h,hc with
  |[],h,_=>exact h
  |[x],h,_=>exact h
  |x::y::z::r,h,_ =>
   have e:((((x::y::z::r).length:Nat):Int)==2)=ao:=by simp;omega
   simp only[e];exact h
  |[x,y],h,hc =>
   let⟨h1,h2⟩:=hc x y rfl;exists V8;refine lK h1 ?_;symm;refine Mn (λe=>lK h2 ?_) λe=>?_
   .simpa[yA,e]using h
   .simpa[yA,e]using h
 all_goals exists v9
 all_goals exact h
def aIU{i j n a b:Int}:yA (.tup [.int i,.int j]) n a b=(decide (0<=i)&&decide (i<=n - 1)&&(decide (a<=j)&&decide (j<=b))):=rfl
abbrev wa(d:D):Bool:=match d with
 |.tup [x,y,z]=>gy x 1 26&&(gy y 1 99&&gy z 1 20)
 |_=>ao
private theorem ar8(hd:kn G d)(hc:∀x y z,d=.tup [x,y,z]->kn G x/\kn G y/\kn G z)(h:R (.bl (wa d)) G):wM K A [d] G R EX:=by
 refine⟨rfl,?_⟩;replace h:=aY.here h;show vA K A _ _ [aj d] G;cases d
 case ref q=>exists vA,Wv hd;exact h
 case ty n=>simp[kn,kA]at hd
 case tup xs =>
  exists vA
  match xs,h,hc with
  |[],h,_=>exact h
  |[x],h,_=>exact h
  |[x,y],h,_=>exact h
  |x::y::z::w::r,h,_ =>
   have e:((((x::y::z::w::r).length:Nat):Int)==3)=ao:=by simp;omega
   simp only[e];exact h
  |[x,y,z],h,hc =>
   let⟨h1,h2,h3⟩:=hc x y z rfl;exists V6;refine lK h1 ?_;symm;refine BR (λe=>?_) λe=>?_
   .simpa[wa,e]using h
   .have e:gy x 1 26=ak:=by simpa using e
    refine lK h2 ?_;symm;refine BR (λe2=>?_) λe2=>?_
    .simpa[wa,e2]using h
    .have e2:gy y 1 99=ak:=by simpa using e2
     exists V7;refine lK h3 ?_;simpa[wa,e,e2]using h
 all_goals exists vA
 all_goals exact h
def aj0(hd:kn G d)(hc:∀x y z,d=.tup [x,y,z]->kn G x/\kn G y/\kn G z)(h0:wa d=ao->EX A.mL G)(h1:wa d=ak->R .ag G):gM K A [d] G R EX:=by
 refine⟨rfl,?_⟩;show zB K A _ _ [aj d] G;exists zB;refine ar8 hd hc ?_;symm;exact BR (λe=>yV.here (h0 e)) λe=>aY.here (h1 (by simpa using e))
abbrev eQ(x y g:Nat):D:=.tup [.int x,.int y,.int g]
structure tF(x y g:Nat):Prop where
 x0:1<=x
 x1:x<=26
 y0:1<=y
 y1:y<=99
 g0:1<=g
 g1:g<=20
def aBY{x y g:Nat}(o:tF x y g):wa (eQ x y g)=ak:=by
 let⟨_,_,_,_,_,_⟩:=o;simp[wa,eQ,gy];omega
def T2{x y g:Nat}(o:tF x y g)(h:R .ag G):gM K A [eQ x y g] G R EX :=
 aj0 QB (λa b c e=>by cases e;exact⟨rfl,rfl,rfl⟩) (λe=>by rw[aBY o]at e;cases e) λ_=>h
def alZ(hd:kn G d)(h0:gy d 0 999=ao->EX A.qQ G)(h1:gy d 0 999=ak->R .ag G):cF K A [d,.int 1000] G R EX:=by
 refine⟨rfl,?_⟩;show Om K A _ _ [aj d,aj (.int 1000)] G;exists Om;refine lK hd ?_;symm;exact BR (λe=>yV.here (h0 e)) λe=>aY.here (h1 (by simpa using e))
def aj1(hd:kn G d)(h:R (.bl (gy d 1 1000000)) G):qR K A [d] G R EX:=by
 refine⟨rfl,?_⟩;show zA K A _ _ [aj d] G;exists zA;exact lK hd (aY.here h)
def ac4(hd:kn G d)(h0:gy d 1 1000000=ao->EX A.gK G)(h1:gy d 1 1000000=ak->R .ag G):bQ K A [d] G R EX:=by
 refine⟨rfl,?_⟩;show uE K A _ _ [aj d] G;exists uE;refine aj1 hd ?_;symm;exact BR (λe=>yV.here (h0 e)) λe=>aY.here (h1 (by simpa using e))
def ZU{x y g:Nat}(o:tF x y g)(hd:kn G d)(hc:∀x y,d=.tup [x,y]->kn G x/\kn G y)(h:R (.bl (yA d x 1 y)) G):Jh K A [eQ x y g,d] G R EX:=by
 refine⟨rfl,?_⟩;show ML K A _ _ [aj (eQ x y g),aj d] G;exists ML;refine T2 o ?_;unfold eQ;exists UN;exact ar7 hd hc (aY.here h)
def am0{x y g:Nat}(o:tF x y g)(hd:kn G d)(hc:∀x y,d=.tup [x,y]->kn G x/\kn G y)(h0:yA d x 1 y=ao->EX A.qP G)(h1:yA d x 1 y=ak->R .ag G):bG K A [eQ x y g,d] G R EX:=by
 refine⟨rfl,?_⟩;show Ol K A _ _ [aj (eQ x y g),aj d] G;exists Ol;refine ZU o hd hc ?_;symm;exact BR (λe=>yV.here (h0 e)) λe=>aY.here (h1 (by simpa using e))
structure fw(x y:Nat)(a p:Int):Prop where
 a0:0<=a
 a1:a<x
 p0:1<=p
 p1:p<=y
def Ij(hl:0<=l/\l<=999)(h:R .ag G):cF K A [.int l,.int 1000] G R EX:=alZ rfl (λe=>by simp[gy]at e;omega) λ_=>h
def MG(hl:1<=l/\l<=1000000)(h:R .ag G):bQ K A [.int l] G R EX:=ac4 rfl (λe=>by simp[gy]at e;omega) λ_=>h
def zV{x y g:Nat}(o:tF x y g){a p:Int}(b:fw x y a p)(h:R .ag G):bG K A [eQ x y g,.tup [.int a,.int p]] G R EX:=by
 let⟨b1,b2,b3,b4⟩:=b;refine am0 o QB (λx y e=>by cases e;exact⟨rfl,rfl⟩) (λe=>?_) λ_=>h;rw[aIU]at e;simp at e;omega
def Wo{i v:Int}:∀{ps:List (Int×Int)},(aJ ps i).isSome=ak->aJ (ps.map λkv=>if kv.1=i then(kv.1,v)else kv) i=aj v
 |[],h=>by cases h
 |z::ps,h=>by
  rw[jc];by_cases c:z.1=i
  .rw[if_pos c];unfold aJ;rw[if_pos c]
  .rw[if_neg c];unfold aJ at h ⊢;rw[if_neg c]at h ⊢;exact Wo h
def TZ{i v:Int}:∀{ps:List (Int×Int)},aJ ps i=bh->aJ (ps++[(i,v)]) i=aj v
 |[],_=>by show(if i=i then aj v else bh)=_;rw[if_pos rfl]
 |z::ps,h=>by
  rw[EY];unfold aJ at h ⊢;by_cases c:z.1=i
  .rw[if_pos c]at h;cases h
  .rw[if_neg c]at h ⊢;exact TZ h
private theorem MF{i:Int}:aJ (cM ps i v) i=aj v:=by
 unfold cM;split
 ·rename_i h;exact Wo h
 .rename_i h;exact TZ (by simpa using h)
def aBZ{ps:List (Int×Int)}{i:Int}:(cM ps i v).length<=ps.length+1:=by
 unfold cM;split
 ·rw[dw];omega
 .rw[wu];exact gw _
def Qx{i:Int}:cM ps i v≠[]:=λe=>by
 have:=MF (ps:=ps) (i:=i) (v:=v);rw[e]at this;cases this
def SO{st:bw}{a p more:Int}{ps:List (Int×Int)}(he:G e=aj (.aZ ao (ps.map qK)))(hl:ps.length<1000)
  (h1:(aJ ps lot).getD 0+more≠0->∀G',G' e=aj (.aZ ao ((cM ps lot ((aJ ps lot).getD 0+more)).map qK))->(∀q u,q≠e->G q=aj u->G' q=aj u)->F.nx [aj (.ref st),aj (.tup [.int a,.int p]),aj (.int lot),aj (.int more),aj (.ref e)] G')
  (h2:(aJ ps lot).getD 0+more=0->∀G',G' e=aj (.aZ ao ((bK (cM ps lot 0) lot).map qK))->(∀q u,q≠e->G q=aj u->G' q=aj u)->wO K A ex F [aj (.ref st),aj (.tup [.int a,.int p]),aj (.int lot),aj (.int more),aj (.ref e)] G') :
  Oj K A ex F [aj (.ref st),aj (.tup [.int a,.int p]),aj (.int lot),aj (.int more),aj (.ref e)] G:=by
 have big:10000<dg:=by decide
 exists Oj,gZ he;rw[jW he rG rfl]
 have eg:(aJ (ps.map qK) (.inl (.inl lot))).getD (.int 0)=.int ((aJ ps lot).getD 0):=by
  rw[tE];cases aJ ps lot<;>rfl
 rw[eg];generalize hv:(aJ ps lot).getD 0+more=v at h1 h2;symm;rw[hv,HS he rG rfl (by rw[dw];omega),RH];generalize gE:aC G e _=G1;have e1:G1 e=aj (.aZ ao ((cM ps lot v).map qK)):=by rw[←gE,aB]
 have k1:∀q u,q≠e->G q=aj u->G1 q=aj u:=λq u n z=>by rw[←gE,aH n];exact z
 have lp:=aBZ (ps:=ps) (i:=lot) (v:=v);exists UM,gZ e1;rw[mF e1 rG rfl (by rw[tE,MF];rfl)];symm;by_cases c:v=0
 .rw[if_pos (by rw[c];rfl)];rw[RE e1 rG rfl (by rw[tE,MF];rfl),Z3];refine⟨by rw[gZ e1];trivial,?_⟩;refine h2 c (aC G1 e (.aZ ao ((bK (cM ps lot v) lot).map qK))) (by rw[aB,c]) λq u n z=>?_;rw[aH n];exact k1 q u n z
 .rw[if_neg (by simpa using c)];exists wO;rw[RJ e1];symm;rw[if_neg]
  .exact h1 c G1 e1 k1
  .simpa using Qx (ps:=ps) (i:=lot) (v:=v)
def afM{st:bw}{M:List (List Key×bw)}{a p more:Int}(hs:G st=aj (.aZ ak (M.map cE)))(hl:M.length<1000)(hk:aJ M (ky a p)=bh)(hm:more≠0)
  (h:∀e G',G e=bh->G' st=aj (.aZ ak ((M++[(ky a p,e)]).map cE))->G' e=aj (.aZ ao ([(lot,more)].map qK))->(∀q u,q≠st->G q=aj u->G' q=aj u)->R .ag G'):dR K A [.ref st,.tup [.int a,.int p],.int lot,.int more] G R EX:=by
 have big:10000<dg:=by decide
 refine⟨rfl,?_⟩;have h':∀e G',G e=bh->G' st=aj (.aZ ak ((M++[(ky a p,e)]).map cE))->G' e=aj (.aZ ao ([(lot,more)].map qK))->(∀q u,q≠st->G q=aj u->G' q=aj u)->aY R .ag G':=λe G' a b c d=>aY.here (h e G' a b c d);clear h;show zE K A _ _ [aj (.ref st),aj (.tup [.int a,.int p]),aj (.int lot),aj (.int more),bh] G;exists zE,gZ hs;intro e he;have ne:e≠st:=λz=>by rw[z,hs]at he;cases he
 have Gm:aC G e (.aZ ao []) st=aj (.aZ ak (M.map cE)):=eZ hs he;rw[RG Gm qN rfl (by rw[dw];omega) (by rw[qO,hk];rfl)];generalize gE:aC (aC G e (.aZ ao [])) st _=G1;have e1:G1 e=aj (.aZ ao (([]:List (Int×Int)).map qK)):=by rw[←gE,aH ne,aB];rfl
 have s1:G1 st=aj (.aZ ak ((M++[(ky a p,e)]).map cE)):=by rw[←gE,aB,jk];rfl
 have k1:∀q u,q≠st->G q=aj u->G1 q=aj u:=λq u n z=>by
  rw[←gE,aH n];exact eZ z he
 refine SO e1 (by simp) (λ_ G2 e2 k2=>?_) λz=>?_
 .refine h' e G2 he (k2 _ _ (Ne.symm ne) s1) (by rw[e2];show aj (GO.aZ ao ([(lot,0+more)].map qK))=_;rw[Int.zero_add]) λq u n z=>k2 q u (λw=>by rw[w,he]at z;cases z) (k1 q u n z)
 .exact absurd z (by show(0:Int)+more≠0;rw[Int.zero_add];exact hm)
def afN{st:bw}{M:List (List Key×bw)}{ps:List (Int×Int)}{a p more:Int}(hs:G st=aj (.aZ ak (M.map cE)))(hl:M.length<1000)(hk:aJ M (ky a p)=aj d)(hd:G d=aj (.aZ ao (ps.map qK)))(hp:ps.length<1000)
  (h1:(aJ ps lot).getD 0+more≠0->∀G',G' d=aj (.aZ ao ((cM ps lot ((aJ ps lot).getD 0+more)).map qK))->(∀q u,q≠d->G q=aj u->G' q=aj u)->R .ag G')
  (h2:(aJ ps lot).getD 0+more=0->bK (cM ps lot 0) lot=[]->∀G',G' st=aj (.aZ ak ((bK M (ky a p)).map cE))->(∀q u,q≠d->q≠st->G q=aj u->G' q=aj u)->R .ag G')
  (h3:(aJ ps lot).getD 0+more=0->bK (cM ps lot 0) lot≠[]->∀G',G' d=aj (.aZ ao ((bK (cM ps lot 0) lot).map qK))->(∀q u,q≠d->G q=aj u->G' q=aj u)->R .ag G'):dR K A [.ref st,.tup [.int a,.int p],.int lot,.int more] G R EX:=by
 have big:10000<dg:=by decide
 refine⟨rfl,?_⟩;show zE K A _ _ [aj (.ref st),aj (.tup [.int a,.int p]),aj (.int lot),aj (.int more),bh] G;exists zE,gZ hs;intro e he;have ne:st≠d:=λz=>by rw[z,hd]at hs;cases hs
 have Gm:aC G e (.aZ ao []) st=aj (.aZ ak (M.map cE)):=eZ hs he;have Ye:aC G e (.aZ ao []) d=aj (.aZ ao (ps.map qK)):=eZ hd he;rw[RF Gm qN rfl (by rw[dw];omega) (by rw[qO,hk];rfl)];refine SO Ye hp (λc G2 e2 k2=>aY.here (h1 c G2 e2 λq u n z=>k2 q u n (eZ z he))) λc G2 e2 k2=>?_;exists wO;rw[RJ e2];symm;by_cases c2:bK (cM ps lot 0) lot=[]
 .rw[c2,if_pos (by simp)];have s2:=k2 _ _ ne Gm;exists gZ s2;rw[RE s2 qN rfl (by rw[qO,hk];rfl),Z2];refine aY.here (h2 c c2 _ aB λq u n n2 z=>?_);rw[aH n2];exact k2 q u n (eZ z he)
 .rw[if_neg]
  .exact aY.here (h3 c c2 G2 e2 λq u n z=>k2 q u n (eZ z he))
  .have:=List.length_pos_iff.mpr c2;simp;omega
@[simp]def JH(A:kX)(x y g:Nat)(room:Int)(st:bw):GO:=.ins A.aA [("layout",eQ x y g),("room",.int room),("stacks",.ref st)]
abbrev dM(M:List (List Key×bw))(c:bw->List (Int×Int))(k:List Key):List (Int×Int):=match aJ M k with
 |some d=>c d
 |none=>[]
structure SH(A:kX)(sh:bw)(x y g:Nat)(room:Int)(st:bw)(M:List (List Key×bw))(c:bw->List (Int×Int))(G:Gp):Prop where
 o:tF x y g
 sh:G sh=aj (JH A x y g room st)
 st:G st=aj (.aZ ak (M.map cE))
 ins:∀z∈M,G z.2=aj (.aZ ao ((c z.2).map qK))
def SH.le{x y g:Nat}{st:bw}{M:List (List Key×bw)}{c:bw->List (Int×Int)}(s:SH A sh x y g room st M c G)(l:Le G G'):SH A sh x y g room st M c G':=⟨s.o,l _ _ s.sh,l _ _ s.st,λz hz=>l _ _ (s.ins z hz)⟩
def SH.get{F:D->Gp->Prop}{x y g:Nat}{st:bw}{M:List (List Key×bw)}{c:bw->List (Int×Int)}(s:SH A sh x y g room st M c G){a p:Int}(h:∀d G',Le G G'->G' d=aj (.aZ ao ((dM M c (ky a p)).map qK))->F (.ref d) G'):∀e,G e=bh->sW (.ref st) (.tup [.int a,.int p]) (aC G e (.aZ ao [])) λ_ _ kvs k=>F ((aJ kvs k).getD (.ref e)) (aC G e (.aZ ao [])):=by
 intro e he;have l:Le G (aC G e (.aZ ao [])):=.new he;rw[jW (l _ _ s.st) qN rfl,qO];unfold dM at h;cases hv:aJ M (ky a p)with
 |none=>rw[hv]at h;exact h e _ l aB
 |some d=>rw[hv]at h;exact h d _ l (l _ _ (s.ins _ (μ hv)))
def ZT{x y g:Nat}{st:bw}{M:List (List Key×bw)}{c:bw->List (Int×Int)}(s:SH A sh x y g room st M c G){a p:Int}(hl:0<=lot/\lot<=999)(b:fw x y a p)(h:∀G',Le G G'->R (.int ((aJ (dM M c (ky a p)) lot).getD 0)) G'):iV K A [.ref sh,.int lot,.tup [.int a,.int p]] G R EX:=by
 refine⟨rfl,?_⟩;have h':∀G',Le G G'->aY R (.int ((aJ (dM M c (ky a p)) lot).getD 0)) G':=λG' l=>aY.here (h G' l);clear h;show nG K A _ _ [aj (.ref sh),aj (.int lot),aj (.tup [.int a,.int p])] G;exists nG;refine Ij hl ?_;exists rM;rw[lG s.sh rfl];symm;refine zV s.o b ?_;exists rK;rw[lG s.sh rfl];exists gZ s.st;refine s.get (F:=λd G'=>u9 d G'/\sW d (.int lot) G' λ_ _ kvs k=>aY R ((aJ kvs k).getD (.int 0)) G') λd G1 l e1=>⟨by rw[gZ e1];trivial,?_⟩;rw[jW e1 rG rfl,tE];have eg:((aJ (dM M c (ky a p)) lot).map D.int).getD (.int 0)=.int ((aJ (dM M c (ky a p)) lot).getD 0):=by cases aJ (dM M c (ky a p)) lot<;>rfl
 rw[eg];exact h' G1 l
def SN{x y g:Nat}{st:bw}{M:List (List Key×bw)}{c:bw->List (Int×Int)}(s:SH A sh x y g room st M c G){a p:Int}(b:fw x y a p)(h:∀G',Le G G'->R (.int ((dM M c (ky a p)).map (·.2)).sum) G'):d9 K A [.ref sh,.tup [.int a,.int p]] G R EX:=by
 refine⟨rfl,?_⟩;have h':∀G',Le G G'->aY R (.int ((dM M c (ky a p)).map (·.2)).sum) G':=λG' l=>aY.here (h G' l);clear h;show nF K A _ _ [aj (.ref sh),aj (.tup [.int a,.int p])] G;exists nF;rw[lG s.sh rfl];symm;refine zV s.o b ?_;exists rJ;rw[lG s.sh rfl];exists gZ s.st;refine s.get (F:=λd G'=>yR d G' (aY R)) λd G1 l e1=>?_;exact aBT e1 (h' G1 l)
def aj4{x y g:Nat}{st:bw}{M:List (List Key×bw)}{c:bw->List (Int×Int)}(s:SH A sh x y g room st M c G){a p:Int}(b:fw x y a p)(h0:room<((dM M c (ky a p)).map (·.2)).sum+am->EX A.bV G)(h1:((dM M c (ky a p)).map (·.2)).sum+am<=room->∀G',Le G G'->R .ag G'):cG K A [.ref sh,.tup [.int a,.int p],.int am] G R EX:=by
 refine⟨rfl,?_⟩;show jQ K A _ _ [aj (.ref sh),aj (.tup [.int a,.int p]),aj (.int am)] G;exists jQ,oG s.sh (m:="filled") rfl;refine SN s b λG1 l=>?_;generalize ((dM M c (ky a p)).map (·.2)).sum=f at *;symm;rw[lG (l _ _ s.sh) rfl];symm;refine Mn (λe=>?_) λe=>?_
 .exact⟨G,l,h0 (by simpa using e)⟩
 .exact aY.here (h1 (by simpa using e) G1 l)
def afO{x y g:Nat}{st:bw}{M:List (List Key×bw)}{c:bw->List (Int×Int)}(s:SH A sh x y g room st M c G){a p:Int}(hl:0<=lot/\lot<=999)(b:fw x y a p)(h0:(aJ (dM M c (ky a p)) lot).getD 0<am->EX A.aR G)(h1:am<=(aJ (dM M c (ky a p)) lot).getD 0->∀G',Le G G'->R .ag G'):bU K A [.ref sh,.int lot,.tup [.int a,.int p],.int am] G R EX:=by
 refine⟨rfl,?_⟩;show jC K A _ _ [aj (.ref sh),aj (.int lot),aj (.tup [.int a,.int p]),aj (.int am)] G;exists jC,oG s.sh (m:="amount") rfl;refine ZT s hl b λG1 l=>?_;generalize (aJ (dM M c (ky a p)) lot).getD 0=f at *;symm;refine Mn (λe=>?_) λe=>?_
 .exact⟨G,l,h0 (by simpa using e)⟩
 .exact aY.here (h1 (by simpa using e) G1 l)
def aO0{x y g:Nat}{st:bw}{M:List (List Key×bw)}{c:bw->List (Int×Int)}(s:SH A sh x y g room st M c G){a p:Int}(hl:0<=lot/\lot<=999)(b:fw x y a p)(ha:1<=am/\am<=1000000)(h0:room<((dM M c (ky a p)).map (·.2)).sum+am->EX A.bV G)
  (h1:((dM M c (ky a p)).map (·.2)).sum+am<=room->∀(G1:Gp)(R':iW)(Fp:eX),Le G G1->(∀G2,R .ag G2->R' .ag G2)->dR K A [.ref st,.tup [.int a,.int p],.int lot,.int am] G1 R' Fp):jB K A [.ref sh,.int lot,.tup [.int a,.int p],.int am] G R EX:=by
 refine⟨rfl,?_⟩;show uF K A _ _ [aj (.ref sh),aj (.int lot),aj (.tup [.int a,.int p]),aj (.int am)] G;exists uF;refine Ij hl ?_;exists xM;rw[lG s.sh rfl];symm;refine zV s.o b ?_;exists xK;refine MG ha ?_;exists xJ,oG s.sh (m:="need_room") rfl;refine aj4 s b (λe=>yV.here (h0 e)) λe G1 l=>?_;exists xH;rw[lG (l _ _ s.sh) rfl];symm;exact h1 e G1 _ _ l λG2 z=>aY.here z
def aIV{x y g:Nat}{st:bw}{M:List (List Key×bw)}{c:bw->List (Int×Int)}(s:SH A sh x y g room st M c G){a p:Int}(hl:0<=lot/\lot<=999)(b:fw x y a p)(ha:1<=am/\am<=1000000)(h0:(aJ (dM M c (ky a p)) lot).getD 0<am->EX A.aR G)
  (h1:am<=(aJ (dM M c (ky a p)) lot).getD 0->∀(G1:Gp)(R':iW)(Fp:eX),Le G G1->(∀G2,R .ag G2->R' .ag G2)->dR K A [.ref st,.tup [.int a,.int p],.int lot,.int (-am)] G1 R' Fp):iH K A [.ref sh,.int lot,.tup [.int a,.int p],.int am] G R EX:=by
 refine⟨rfl,?_⟩;show rN K A _ _ [aj (.ref sh),aj (.int lot),aj (.tup [.int a,.int p]),aj (.int am)] G;exists rN;refine Ij hl ?_;exists vG;rw[lG s.sh rfl];symm;refine zV s.o b ?_;exists vD;refine MG ha ?_;exists vC,oG s.sh (m:="need_there") rfl;refine afO s hl b (λe=>yV.here (h0 e)) λe G1 l=>?_;exists vB;rw[lG (l _ _ s.sh) rfl];symm;exact h1 e G1 _ _ l λG2 z=>aY.here z
abbrev bW(ps:List (Int×Int))(l:Int):Int:=(aJ ps l).getD 0
abbrev uN(ps:List (Int×Int)):Int:=(ps.map (·.2)).sum
def sG:bW [] l=0:=rfl
def cU{q:Int×Int}:bW (q::ps) l=if q.1=l then q.2 else bW ps l:=by
 unfold bW;rw[aJ];split<;>rfl
def fJ{q:Int×Int}:uN (q::ps)=q.2+uN ps:=by simp[uN]
def aC0:uN (ps++qs)=uN ps+uN qs:=by simp[uN]
def fK{κ α:Type}[DecidableEq κ]{k:κ}:∀{l:List (κ×α)},aJ l k=bh↔k∉l.map (·.1)
 |[]=>by simp[aJ]
 |z::r=>by
  rw[aJ];by_cases c:z.1=k
  .simp[c]
  .have:¬ k=z.1:=λe=>c e.symm;simp[c,this,fK (l:=r)]
def jT{κ α:Type}[DecidableEq κ]{z:κ×α}:∀{l:List (κ×α)},(l.map (·.1)).Nodup->z∈l->aJ l z.1=aj z.2
 |[],_,h=>by cases h
 |y::r,nd,h=>by
  rw[jc,yc]at nd;rw[aJ];rcases ju.mp h with e|h
  .rw[if_pos (by rw[e]),e]
  .rw[if_neg (λc=>nd.1 (by rw[c];exact dh.mpr ⟨z,h,rfl⟩))];exact jT nd.2 h
private theorem jM{κ α:Type}[DecidableEq κ]{k:κ}{v:α}:∀{l:List (κ×α)},aJ l k=aj v->(k,v)∈l
 |[],h=>by cases h
 |z::r,h=>by
  rw[aJ]at h;split at h
  .rename_i c;cases h;rw[←c];exact .head _
  .exact qp _ (jM h)
def map_put{ps:List (Int×Int)}{w:Int}(nd:(ps.map (·.1)).Nodup):(∀l',bW (ps.map λkv=>if kv.1=l then(kv.1,w)else kv) l'=if l'=l/\l∈ps.map (·.1)then w else bW ps l')/\uN (ps.map λkv=>if kv.1=l then(kv.1,w)else kv)=uN ps+(if l∈ps.map (·.1)then w - bW ps l else 0):=by
 induction ps with
 |nil=>exact⟨λl'=>by simp[sG],by simp[uN]⟩
 |cons q r ih =>
  rw[jc,yc]at nd;let⟨i1,i2⟩:=ih nd.2;by_cases c:q.1=l
  .have nl:l∉r.map (·.1):=c ▸ nd.1
   have er:(r.map λkv=>if kv.1=l then(kv.1,w)else kv)=r:=by
    conv=>rhs;rw[←List.map_id r]
    refine yp λz hz=>?_;rw[if_neg (λe=>nl (by rw[←e];exact dh.mpr ⟨z,hz,rfl⟩))];rfl
   refine⟨λl'=>?_,?_⟩
   .rw[jc,er,cU,cU,if_pos c];by_cases e:l'=l
    .subst e;simp[c]
    .have:¬ l=l':=λz=>e z.symm;simp[c,e,this]
   .rw[jc,er,fJ,fJ,if_pos c,cU,if_pos c];simp[c];omega
  .refine⟨λl'=>?_,?_⟩
   .rw[jc,if_neg c,cU,cU,i1];by_cases e:q.1=l'
    .subst e;simp[c]
    .have:¬ l=q.1:=λz=>c z.symm;rw[if_neg e,if_neg e];simp only[jc,ju,this,false_or]
   .rw[jc,if_neg c,fJ,fJ,i2,cU,if_neg c];have:¬ l=q.1:=λz=>c z.symm;simp only[jc,ju,this,false_or];omega
def SM{ps:List (Int×Int)}(h:l∉ps.map (·.1)):bW ps l=0:=by unfold bW;rw[fK.mpr h];rfl
private theorem Mi{ps:List (Int×Int)}{w:Int}(nd:(ps.map (·.1)).Nodup):(∀l',bW (cM ps l w) l'=if l'=l then w else bW ps l')/\uN (cM ps l w)=uN ps+w - bW ps l/\((cM ps l w).map (·.1)).Nodup/\(∀q∈cM ps l w,q∈ps∨q=(l,w))/\(cM ps l w).length<=ps.length+1:=by
 have key:(aJ ps l).isSome=ak↔l∈ps.map (·.1):=by
  cases q:aJ ps l with
  |none=>simp only[Option.isSome_none,ni,false_iff];exact fK.mp q
  |some v=>simp only[Option.isSome_some,true_iff];exact dh.mpr ⟨_,jM q,rfl⟩
 unfold cM;split
 ·rename_i h;have hm:=key.mp h;let⟨m1,m2⟩:=map_put (w:=w) (l:=l) nd;refine⟨λl'=>by rw[m1];simp only[hm,and_true],by rw[m2,if_pos hm];omega,?_,λq hq=>?_,by simp⟩
  .have:(ps.map λkv=>if kv.1=l then(kv.1,w)else kv).map (·.1)=ps.map (·.1):=by
    rw[jt];refine yp λz _=>?_;simp only[Function.comp];split<;>rfl
   rw[this];exact nd
  .obtain⟨z,hz,rfl⟩:=dh.mp hq;split
   ·rename_i c;exact .inr (by rw[c])
   .exact .inl hz
 .rename_i h;have hm:l∉ps.map (·.1):=λz=>h (key.mpr z);refine⟨λl'=>?_,by rw[aC0,SM hm];simp[uN],?_,λq hq=>?_,by simp⟩
  .have:∀qs:List (Int×Int),l∉qs.map (·.1)->bW (qs++[(l,w)]) l'=if l'=l then w else bW qs l':=by
    intro qs
    induction qs with
    |nil =>
     intro _;rw[List.nil_append,cU];by_cases e:l'=l
     .subst e;simp
     .have:¬ l=l':=λz=>e z.symm;simp[e,this]
    |cons q r ih =>
     intro hn;simp only[jc,ju,not_or]at hn;rw[EY,cU,cU,ih hn.2];by_cases e:q.1=l'
     .subst e;have:¬ q.1=l:=λz=>hn.1 z.symm;simp[this]
     .simp[e]
   exact this ps hm
  .rw[jk,yq];refine⟨nd,by simp,λa ha b hb e=>?_⟩;simp at hb;exact hm (by rw[←hb,←e];exact ha)
  .rcases qj.mp hq with hq|hq
   .exact .inl hq
   .exact .inr (jw.mp hq)
def SK{ps:List (Int×Int)}(nd:(ps.map (·.1)).Nodup):(∀l',bW (bK ps l) l'=if l'=l then 0 else bW ps l')/\uN (bK ps l)=uN ps - bW ps l/\((bK ps l).map (·.1)).Nodup/\(∀q∈bK ps l,q∈ps/\q.1≠l)/\(bK ps l).length<=ps.length:=by
 have sub:∀q∈bK ps l,q∈ps/\q.1≠l:=λq hq=>by
  let⟨a,b⟩:=kj.mp hq;exact⟨a,by simpa using b⟩
 have both:(∀l',bW (bK ps l) l'=if l'=l then 0 else bW ps l')/\uN (bK ps l)=uN ps - bW ps l:=by
  clear sub
  induction ps with
  |nil=>exact⟨λl'=>by simp[bK,sG],by simp[bK,uN,sG]⟩
  |cons q r ih =>
   rw[jc,yc]at nd;let⟨i1,i2⟩:=ih nd.2;by_cases c:q.1=l
   .have e:bK (q::r) l=bK r l:=by simp[bK,c]
    have nl:l∉r.map (·.1):=c ▸ nd.1;refine⟨λl'=>?_,?_⟩
    .rw[e,i1,cU];by_cases z:l'=l
     .simp[z]
     .have:¬ l=l':=λw=>z w.symm;simp[z,c,this]
    .rw[e,i2,fJ,cU,if_pos c,SM nl];omega
   .have e:bK (q::r) l=q::bK r l:=by simp[bK,c]
    refine⟨λl'=>?_,?_⟩
    .rw[e,cU,cU,i1];by_cases z:q.1=l'
     .subst z;simp[c]
     .simp[z]
    .rw[e,fJ,fJ,i2,cU,if_neg c];omega
 refine⟨both.1,both.2,?_,sub,uh _ _⟩;exact nd.sublist ((IQ).map _)
def ME(h:∀q∈ps,1<=q.2):0<=bW ps l:=by
 unfold bW;cases q:aJ ps l with
 |none=>exact kR _
 |some v=>have:=h _ (jM q);simp only at this;show 0<=v;omega
structure Ju(room:Int)(ps:List (Int×Int)):Prop where
 ne:ps≠[]
 nd:(ps.map (·.1)).Nodup
 pos:∀q∈ps,1<=q.2
 sm:uN ps<=room
structure c8(room:Int)(n:Nat)(M:List (List Key×bw))(c:bw->List (Int×Int)):Prop where
 kn:(M.map (·.1)).Nodup
 an:(M.map (·.2)).Nodup
 bn:∀z∈M,Ju room (c z.2)/\(c z.2).length<=n
 ks:∀z∈M,∃a p:Int,z.1=ky a p
 len:M.length<=n
def c8.nil{c:bw->List (Int×Int)}:c8 room 0 [] c:=⟨by simp,by simp,(λz hz=>by cases hz),(λz hz=>by cases hz),by simp⟩
def c8.up{n m:Nat}{M:List (List Key×bw)}{c:bw->List (Int×Int)}(h:c8 room n M c)(l:n<=m):c8 room m M c:=⟨h.kn,h.an,λz hz=>⟨(h.bn z hz).1,qw (h.bn z hz).2 l⟩,h.ks,qw h.len l⟩
abbrev setC(c:bw->List (Int×Int))(d:bw)(ps:List (Int×Int)):bw->List (Int×Int):=λq=>if q=d then ps else c q
def nZ{c:bw->List (Int×Int)}:setC c d ps d=ps:=if_pos rfl
def wV{c:bw->List (Int×Int)}(h:q≠d):setC c d ps q=c q:=if_neg h
variable{sh:bw}{x y g:Nat}{room:Int}{st:bw}{M:List (List Key×bw)}{c:bw->List (Int×Int)}
def Ru{k:List Key}(n:k≠k'):∀{M:List (List Key×bw)},aJ (M++[(k',e)]) k=aJ M k
 |[]=>by
  show(if k'=k then aj e else bh)=bh;rw[if_neg (Ne.symm n)]
 |z::r=>by
  rw[EY,aJ,aJ,Ru n]
def MD{k:List Key}(n:k≠k'):∀{M:List (List Key×bw)},aJ (bK M k') k=aJ M k
 |[]=>rfl
 |z::r=>by
  by_cases e:z.1=k'
  .have er:bK (z::r) k'=bK r k':=by simp[bK,e]
   rw[er,MD n,aJ,if_neg (by rw[e];exact Ne.symm n)]
  .have er:bK (z::r) k'=z::bK r k':=by simp[bK,e]
   rw[er,aJ,aJ,MD n]
def Mh{z y:List Key×bw}:∀{M:List (List Key×bw)},(M.map (·.2)).Nodup->z∈M->y∈M->z.2=y.2->z=y
 |[],_,h,_,_=>by cases h
 |w::r,nd,h1,h2,e=>by
  rw[jc,yc]at nd;rcases ju.mp h1 with a|a<;>rcases ju.mp h2 with b|b
  .rw[a,b]
  .exact absurd (by rw[←a,e];exact dh.mpr ⟨_,b,rfl⟩) nd.1
  .exact absurd (by rw[←b,←e];exact dh.mpr ⟨_,a,rfl⟩) nd.1
  .exact Mh nd.2 a b e
abbrev Kp(st:bw)(M M':List (List Key×bw))(G G':Gp):Prop:=(∀q u,q≠st->q∉M.map (·.2)->G q=aj u->G' q=aj u)/\∀q∈M'.map (·.2),q∈M.map (·.2)∨G q=bh
def Kp.le{st:bw}{M M1:List (List Key×bw)}(l:Le G0 G)(h:Kp st M M1 G G1):Kp st M M1 G0 G1:=⟨λq u n1 n2 e=>h.1 q u n1 n2 (l _ _ e),λq hq=>by
 rcases h.2 q hq with z|z
 .exact .inl z
 .right;cases e:G0 q with
  |none=>rfl
  |some u=>rw[l _ _ e]at z;cases z⟩
def Eo{M:List (List Key×bw)}{c:bw->List (Int×Int)}{z:List Key×bw}(kn:(M.map (·.1)).Nodup)(h:z∈M):dM M c z.1=c z.2:=by
 unfold dM;rw[jT kn h]
def qW{n:Nat}{M:List (List Key×bw)}{c:bw->List (Int×Int)}{k:List Key}(hr:0<=room)(v:c8 room n M c):((dM M c k).map (·.1)).Nodup/\(∀q∈dM M c k,1<=q.2)/\uN (dM M c k)<=room/\(dM M c k).length<=n:=by
 unfold dM;cases e:aJ M k with
 |none=>exact⟨tj,(λq hq=>by cases hq),hr,qz _⟩
 |some d =>
  let⟨b,l⟩:=v.bn _ (jM e);exact⟨b.nd,b.pos,b.sm,l⟩
def aIW(v:Int):bW [(lot,v)] l=if l=lot then v else 0:=by
 rw[cU];by_cases e:l=lot
 .rw[if_pos e.symm,if_pos e]
 .rw[if_neg (Ne.symm e),if_neg e];rfl
abbrev CY(M:List (List Key×bw))(c:bw->List (Int×Int))(M':List (List Key×bw))(c':bw->List (Int×Int))(k:List Key)(lot more:Int):Prop:=(∀l,bW (dM M' c' k) l=bW (dM M c k) l+if l=lot then more else 0)/\uN (dM M' c' k)=uN (dM M c k)+more
def Rt(s:SH A sh x y g room st M c G){n:Nat}(v:c8 room n M c){k:List Key}(hk:aJ M k=aj d){more:Int}{ps:List (Int×Int)}(b:Ju room ps)(hl:ps.length<=n+1)(hv:∀l,bW ps l=bW (c d) l+if l=lot then more else 0)(fq:uN ps=uN (c d)+more)(e:G' d=aj (.aZ ao (ps.map qK)))(Bj:∀q u,q≠d->G q=aj u->G' q=aj u) :
  SH A sh x y g room st M (setC c d ps) G'/\c8 room (n+1) M (setC c d ps)/\CY M c M (setC c d ps) k lot more/\(∀k',k'≠k->dM M (setC c d ps) k'=dM M c k')/\Kp st M M G G':=by
 have hm:=jM hk;have hd:=s.ins _ hm;have ne:sh≠d:=λz=>by have:=s.sh;rw[z,hd]at this;cases this
 have Xz:st≠d:=λz=>by have:=s.st;rw[z,hd]at this;cases this
 refine⟨⟨s.o,Bj _ _ ne s.sh,Bj _ _ Xz s.st,λz hz=>?_⟩,⟨v.kn,v.an,λz hz=>?_,v.ks,Cw v.len⟩,?_,λk' n'=>?_,λq u n1 n2 w=>Bj q u (λz=>n2 (by rw[z];exact dh.mpr ⟨_,hm,rfl⟩)) w,λq hq=>.inl hq⟩
 .by_cases w:z.2=d
  .rw[w,nZ];exact e
  .rw[wV w];exact Bj _ _ w (s.ins z hz)
 .by_cases w:z.2=d
  .rw[w,nZ];exact⟨b,hl⟩
  .rw[wV w];exact⟨(v.bn z hz).1,Cw (v.bn z hz).2⟩
 .have e1:dM M c k=c d:=by unfold dM;rw[hk]
  have e2:dM M (setC c d ps) k=ps:=by unfold dM;rw[hk];exact nZ
  unfold CY;rw[e1,e2];exact⟨hv,fq⟩
 .unfold dM;cases e':aJ M k' with
  |none=>rfl
  |some d' =>
   have:d'≠d:=λw=>n' (by have:=Mh v.an (jM e') hm w;exact congrArg (·.1) this);exact wV this
def Vm(s:SH A sh x y g room st M c G){n:Nat}(v:c8 room n M c)(hn:n<900){a p more:Int}(hm:more≠0)(h0:0<=bW (dM M c (ky a p)) lot+more)(hr:uN (dM M c (ky a p))+more<=room)
  (h:∀M' c' G',SH A sh x y g room st M' c' G'->c8 room (n+1) M' c'->CY M c M' c' (ky a p) lot more->(∀k',k'≠ky a p->dM M' c' k'=dM M c k')->Kp st M M' G G'->R .ag G'):dR K A [.ref st,.tup [.int a,.int p],.int lot,.int more] G R EX:=by
 have Pc:sh≠st:=λz=>by have:=s.sh;rw[z,s.st]at this;cases this
 have A9:∀z∈M,z.2≠st:=λz hz w=>by have:=s.ins z hz;rw[w,s.st]at this;cases this
 cases hk:aJ M (ky a p)with
 |none =>
  have eh:dM M c (ky a p)=[]:=by unfold dM;rw[hk]
  rw[eh]at h0 hr;have h0':0<=more:=by simpa[sG]using h0
  have hr':more<=room:=by simpa[uN]using hr
  refine afM s.st (by have:=v.len;omega) hk hm λe G' he s2 d2 k2=>?_;have F6:∀z∈M,z.2≠e:=λz hz w=>by have:=s.ins z hz;rw[w,he]at this;cases this
  have nm:e∉M.map (·.2):=λw=>by let⟨z,hz,w⟩:=dh.mp w;exact F6 z hz w
  refine h (M++[(ky a p,e)]) (setC c e [(lot,more)]) G' ⟨s.o,k2 _ _ Pc s.sh,s2,λz hz=>?_⟩ ⟨?_,?_,λz hz=>?_,λz hz=>?_,?_⟩ ?_ (λk' n'=>?_) ⟨λq u n1 _ w=>k2 q u n1 w,λq hq=>?_⟩
  .rcases qj.mp hz with hz|hz
   .rw[wV (F6 z hz)];exact k2 _ _ (A9 z hz) (s.ins z hz)
   .cases jw.mp hz;rw[show setC c e [(lot,more)] (ky a p,e).2=[(lot,more)]from nZ];exact d2
  .rw[jk,yq];refine⟨v.kn,by simp,λu hu w hw z=>?_⟩;simp at hw;exact fK.mp hk (by rw[←hw,←z];exact hu)
  .rw[jk,yq];refine⟨v.an,by simp,λu hu w hw z=>?_⟩;simp at hw;exact nm (by rw[←hw,←z];exact hu)
  .rcases qj.mp hz with hz|hz
   .rw[wV (F6 z hz)];exact⟨(v.bn z hz).1,Cw (v.bn z hz).2⟩
   .cases jw.mp hz;rw[show setC c e [(lot,more)] (ky a p,e).2=[(lot,more)]from nZ];refine⟨⟨by simp,by simp,λq hq=>?_,?_⟩,by simp⟩
    .cases jw.mp hq;show 1<=more;omega
    .rw[fJ];show more+0<=room;omega
  .rcases qj.mp hz with hz|hz
   .exact v.ks z hz
   .cases jw.mp hz;exact⟨a,p,rfl⟩
  .have:=v.len;rw[wu];exact Nat.add_le_add_right this 1
  .have e1:aJ (M++[(ky a p,e)]) (ky a p)=aj e:=jT (z:=(ky a p,e)) (by
    rw[jk,yq];refine⟨v.kn,by simp,λu hu w hw z=>?_⟩;simp at hw;exact fK.mp hk (by rw[←hw,←z];exact hu)) (by simp)
   have e2:dM (M++[(ky a p,e)]) (setC c e [(lot,more)]) (ky a p)=[(lot,more)]:=by unfold dM;rw[e1];exact nZ
   unfold CY;rw[e2,eh];refine⟨λl=>?_,?_⟩
   .rw[aIW,sG];omega
   .simp[uN]
  .unfold dM;rw[Ru n'];cases e':aJ M k' with
   |none=>rfl
   |some d'=>exact wV (F6 _ (jM e'))
  .rw[jk]at hq;rcases qj.mp hq with hq|hq
   .exact .inl hq
   .simp at hq;rw[hq];exact .inr he
 |some d =>
  have Gr:=jM hk;have hd:=s.ins _ Gr;obtain⟨b,bl⟩:Ju room (c d)/\(c d).length<=n:=v.bn _ Gr;have eh:dM M c (ky a p)=c d:=by unfold dM;rw[hk]
  rw[eh]at h0 hr;have Qj:(c d).length<=n:=bl;refine afN s.st (by have:=v.len;omega) hk hd (by show(c d).length<1000;omega) (λw G' e k2=>?_) (λw wd G' e k2=>?_) λw wd G' e k2=>?_
  .obtain⟨q1,q2,q3,q4,q5⟩:=Mi (l:=lot) (w:=(aJ (c d) lot).getD 0+more) b.nd;have ev:(aJ (c d) lot).getD 0=bW (c d) lot:=rfl;have e:G' d=aj (.aZ ao ((cM (c d) lot ((aJ (c d) lot).getD 0+more)).map qK)):=e;rw[ev]at w e q1 q2 q3 q4 q5
   have hp:∀q∈cM (c d) lot (bW (c d) lot+more),1<=q.2:=λq hq=>by
    rcases q4 q hq with z|z
    .exact b.pos q z
    .rw[z];show 1<=bW (c d) lot+more;omega
   have hv:∀l,bW (cM (c d) lot (bW (c d) lot+more)) l=bW (c d) l+if l=lot then more else 0:=λl=>by
    rw[q1];by_cases z:l=lot
    .rw[if_pos z,if_pos z,z]
    .rw[if_neg z,if_neg z];omega
   let⟨z1,z2,z3,z4,z5⟩:=Rt s v hk (lot:=lot) (more:=more) ⟨Qx,q3,hp,by rw[q2];omega⟩ (qw q5 (EZ Qj)) hv (by rw[q2];omega) e k2;exact h _ _ G' z1 z2 z3 z4 z5
  .obtain⟨q1,q2,q3,q4,q5⟩:=Mi (l:=lot) (w:=0) b.nd;let⟨t1,t2,t3,t4,t5⟩:=SK (l:=lot) q3;have W2:bK (cM (c d) lot 0) lot=[]:=wd;rw[W2]at t1 t2;have w':bW (c d) lot+more=0:=w
   have hv:∀l,bW (c d) l=-(if l=lot then more else 0:Int):=λl=>by
    have:=t1 l;rw[q1,sG]at this;by_cases z:l=lot
    .rw[if_pos z,z];omega
    .rw[if_neg z,if_neg z]at this;rw[if_neg z];omega
   have sub:∀z∈bK M (ky a p),z∈M:=λz hz=>(kj.mp hz).1;have sl:List.Sublist (bK M (ky a p)) M:=IQ;refine h (bK M (ky a p)) c G' ⟨s.o,k2 _ _ (λz=>by have:=s.sh;rw[z,hd]at this;cases this) Pc s.sh,e,λz hz=>?_⟩ ⟨v.kn.sublist (sl.map _),v.an.sublist (sl.map _),λz hz=>⟨(v.bn z (sub z hz)).1,Cw (v.bn z (sub z hz)).2⟩,λz hz=>v.ks z (sub z hz),Cw (qw sl.length_le v.len)⟩ ?_ (λk' n'=>?_) ⟨λq u n1 n2 w=>k2 q u (λz=>n2 (by rw[z];exact dh.mpr ⟨_,Gr,rfl⟩)) n1 w,λq hq=>?_⟩
   .refine k2 _ _ (λw=>?_) (A9 z (sub z hz)) (s.ins z (sub z hz));have:=Mh v.an (sub z hz) Gr w;have h3:=(kj.mp hz).2;rw[this]at h3;simp at h3
   .have e1:aJ (bK M (ky a p)) (ky a p)=bh:=fK.mpr λw=>by
     let⟨z,hz,w⟩:=dh.mp w;have h3:=(kj.mp hz).2;rw[w]at h3;simp at h3
    have e2:dM (bK M (ky a p)) c (ky a p)=[]:=by unfold dM;rw[e1]
    unfold CY;rw[e2,eh];refine⟨λl=>?_,?_⟩
    .rw[hv,sG];omega
    .have:uN []=0:=rfl;rw[q2,q1,if_pos rfl]at t2;omega
   .unfold dM;rw[MD n']
   .obtain⟨z,hz,rfl⟩:=dh.mp hq;exact .inl (dh.mpr ⟨z,sub z hz,rfl⟩)
  .obtain⟨q1,q2,q3,q4,q5⟩:=Mi (l:=lot) (w:=0) b.nd;let⟨t1,t2,t3,t4,t5⟩:=SK (l:=lot) q3;have w':bW (c d) lot+more=0:=w;have v0:=ME (l:=lot) b.pos
   have hp:∀q∈bK (cM (c d) lot 0) lot,1<=q.2:=λq hq=>by
    let⟨m1,m2⟩:=t4 q hq;rcases q4 q m1 with z|z
    .exact b.pos q z
    .exact absurd (by rw[z]) m2
   have hv:∀l,bW (bK (cM (c d) lot 0) lot) l=bW (c d) l+if l=lot then more else 0:=λl=>by
    rw[t1,q1];by_cases z:l=lot
    .rw[if_pos z,if_pos z,z];omega
    .rw[if_neg z,if_neg z,if_neg z];omega
   let⟨z1,z2,z3,z4,z5⟩:=Rt s v hk (lot:=lot) (more:=more) ⟨wd,t3,hp,by rw[t2,q2,q1,if_pos rfl];omega⟩ (qw t5 (qw q5 (EZ Qj))) hv (by rw[t2,q2,q1,if_pos rfl];omega) e k2;exact h _ _ G' z1 z2 z3 z4 z5
def Rr{κ α:Type}[DecidableEq κ]{k:κ}{v:α}{l:List (κ×α)}(h:k∉l.map (·.1)):cM l k v=l++[(k,v)]:=by
 unfold cM;rw[fK.mpr h];rfl
def TY:∀qs:List (Int×Int),Cc (qs.map eY)=aj (qs.map λq=>(.inl q.1,.int q.2))
 |[]=>rfl
 |q::r=>by
  rw[jc,Cc,TY r];rfl
def fold_all:∀(qs ds:List (Int×Int)),((ds++qs).map (·.1)).Nodup->Ew (ds.map qK) (qs.map λq=>(.inl q.1,.int q.2))=(ds++qs).map qK
 |[],ds,_=>by rw[Aq];rfl
 |q::r,ds,nd=>by
  have hn:q.1∉ds.map (·.1):=λh=>by
   rw[jk,yq]at nd;exact nd.2.2 q.1 h q.1 (by simp) rfl
  show Ew (cM (ds.map qK) (.inl (.inl q.1)) (.int q.2)) (r.map λq=>(.inl q.1,.int q.2))=_;rw[RH,Rr hn,fold_all r (ds++[(q.1,q.2)]) (by rw[xp];exact nd),xp];rfl
def ar9{qs:List (Int×Int)}(h:bM G r=aj (qs.map eY))(nd:(qs.map (·.1)).Nodup):wD [.ref r] G R=∀e,G e=bh->R (.ref e) (aC G e (.aZ ao (qs.map qK))):=by
 unfold L2.wD;simp only[h,TY];rw[show Ew [] (qs.map λq=>(.inl q.1,.int q.2))=qs.map qK from fold_all qs [] nd]
@[simp]def kq(q:Int×Int):List Key:=ky q.1 q.2
def Rq:∀{M:List (List Key×bw)},(∀z∈M,∃a p:Int,z.1=ky a p)->∃ps:List (Int×Int),M.map (·.1)=ps.map kq
 |[],_=>⟨[],rfl⟩
 |z::r,h=>by
  let⟨a,p,e⟩:=h z (.head _);let⟨ps,e2⟩:=Rq (M:=r) λy hy=>h y (.tail _ hy);exact⟨(a,p)::ps,by rw[jc,jc,e,e2]⟩
def sort_keys{st:bw}{M:List (List Key×bw)}(h:G st=aj (.aZ ak (M.map cE)))(kn:(M.map (·.1)).Nodup)(ks:∀z∈M,∃a p:Int,z.1=ky a p)(hl:M.length<128)(k:∀(qs:List (Int×Int))(r:bw),(qs.map kq).Perm (M.map (·.1))->dJ qs->G r=bh->R (.ref r) (aC G r (.lst (qs.map eY)))):mD [.ref st] G R:=by
 let⟨ps,e⟩:=Rq ks;have nd:ps.Nodup:=xj.of_map kq (λa b h e=>h (by rw[e])) (e ▸ kn);have len:ps.length=M.length:=by have:=congrArg Ak e;simpa using this.symm
 refine Nr (ps:=ps) h ?_ nd ⋯ λqs p1 p2 r hr=>k qs r (e ▸ p1.map kq) p2 hr;rw[jt,show(λq:DK×D=>kN q.1)∘cE=(λks=>kN (.inr ks))∘(λz:List Key×bw=>z.1)from rfl,←jt,e,jt];rfl
structure WN(M:List (List Key×bw))(c:bw->List (Int×Int))(G:Gp)(t:bw)(qs:List (Int×Int))(N:List (List Key×bw))(c':bw->List (Int×Int))(G':Gp):Prop where
 t0:G t=bh
 tt:G' t=aj (.aZ ak (N.map cE))
 ri:dJ qs
 kq:N.map (·.1)=qs.map kq
 ke:(N.map (·.1)).Perm (M.map (·.1))
 ins:∀z∈N,G' z.2=aj (.aZ ao ((c' z.2).map qK))/\(c' z.2).Perm (dM M c z.1)/\dJ (c' z.2)/\G z.2=bh
def aC1(s:SH A sh x y g room st M c G){n:Nat}(v:c8 room n M c)(hn:n<128)(h:∀t qs N c' G',Le G G'->WN M c G t qs N c' G'->R (.ref t) G'):jK K A [.ref sh] G R EX:=by
 have big:10000<dg:=by decide
 refine⟨rfl,?_⟩;show pK K A _ _ [aj (.ref sh)] G;exists pK;rw[lG s.sh rfl];symm;refine⟨rfl,?_⟩;show Oi K A _ _ [aj (.ref st),bh,bh] G;exists Oi;intro t ht;have l1:Le G (aC G t (.aZ ak [])):=.new ht;exists Wt;refine sort_keys (l1 _ _ s.st) v.kn v.ks (uc v.len hn) λqs r pq ri hr=>?_;have l2:Le (aC G t (.aZ ak [])) (aC (aC G t (.aZ ak [])) r (.lst (qs.map eY))):=.new hr;have nr:r≠t:=λz=>by rw[z]at hr;rw[aB]at hr;cases hr
 have qn:(qs.map kq).Nodup:=pq.nodup_iff.mpr v.kn;rw[NP dB];refine Nt (λk ρ G'=>bM G' r=aj (qs.map eY)/\∃r2 N c',ρ=[aj (.ref st),aj (.ref t),r2]/\Le G G'/\G' t=aj (.aZ ak (N.map cE))/\N.map (·.1)=(qs.take k).map kq/\∀z∈N,G' z.2=aj (.aZ ao ((c' z.2).map qK))/\(c' z.2).Perm (dM M c z.1)/\dJ (c' z.2)/\G z.2=bh) ⟨dB,_,[],c,rfl,l1.trans l2,l2 _ _ aB,rfl,λz hz=>nomatch hz⟩ (λk ρ G' h=>h.1) (λk d' ρ G' jv hh=>?_) λρ G' hh=>?_
 .obtain⟨hl,r2,N,c',rfl,l3,tt,ek,hi⟩:=hh;let⟨q,eq,rfl⟩:=aIK jv;let⟨a,p⟩:=q;have hm:kq (a,p)∈M.map (·.1):=pq.mem_iff.mp (dh.mpr ⟨_,jm eq,rfl⟩);let⟨⟨kk,d⟩,hz,e1⟩:=dh.mp hm;have e1:kk=ky a p:=e1;subst e1;have vd:=jT v.kn hz;have XH:=hz;have hd:=s.ins _ hz;obtain⟨bn,bl⟩:Ju room (c d)/\(c d).length<=n:=v.bn _ hz;exists WC;rw[show eY (a,p)=.tup [.int a,.int p]from rfl];rw[mF (l3 _ _ s.st) qN rfl (by rw[qO,vd];rfl)];symm;refine IE (ps:=c d) (l3 _ _ hd) (uc bl hn) λps p1 p2 r3 h3=>?_;symm;have lr:Le G' (aC G' r3 (.lst (ps.map eY))):=.new h3;refine(show wD [.ref r3] (aC G' r3 (.lst (ps.map eY))) _ from ?_);rw[ar9 dB ((p1.map _).nodup_iff.mpr bn.nd)];intro e he;have le:Le _ (aC (aC G' r3 (.lst (ps.map eY))) e (.aZ ao (ps.map qK))):=.new he;symm;have t3:=le _ _ (lr _ _ tt);have ne:e≠t:=λz=>by rw[z]at he;rw[lr _ _ tt]at he;cases he
  have nN:ky a p∉N.map (·.1):=by
   rw[ek];intro w;have Pe:((qs.take (k+1)).map kq).Nodup:=qn.sublist ((List.take_sublist _ _).map _);rw[EK,eq,jk,yq]at Pe;exact Pe.2.2 _ w _ (by simp) rfl
  have lN:N.length<=k:=by
   have:=congrArg Ak ek;simp at this;omega
  have lk:k<128:=by
   have h1:k<qs.length:=(iz.mp eq).1;have h2:=pq.length_eq;simp at h2;have:=v.len;omega
  rw[HS t3 qN rfl (by rw[dw];omega)]
  have ep:cM (N.map cE) (.inr (ky a p)) (.ref e)=(N++[(ky a p,e)]).map cE:=by
   rw[Rr,jk]
   .rfl
   .intro w;let⟨z,hz,e2⟩:=dh.mp w;let⟨y,hy,rfl⟩:=dh.mp hz;exact nN (dh.mpr ⟨y,hy,Sum.inr.inj e2⟩)
  rw[ep]
  have ge:∀z∈N,z.2≠e:=λz hz w=>by
   have:=lr _ _ (hi z hz).1;rw[w,he]at this;cases this
  have gt:∀z∈N,z.2≠t:=λz hz w=>by
   have:=(hi z hz).1;rw[w,tt]at this;cases this
  refine⟨?_,_,N++[(ky a p,e)],setC c' e ps,rfl,λq u z=>?_,aB,?_,λz hz=>?_⟩
  .have z:=CG le (CG lr hl);unfold L2.bM at z ⊢;rw[aH nr];exact z
  .have nq:q≠t:=λw=>by rw[w,ht]at z;cases z
   rw[aH nq];exact le _ _ (lr _ _ (l3 _ _ z))
  .rw[jk,ek,EK,eq,jk];rfl
  .rcases qj.mp hz with hz|hz
   .obtain⟨i1,i2,i4,i3⟩:=hi z hz;rw[wV (ge z hz),aH (gt z hz)];exact⟨le _ _ (lr _ _ i1),i2,i4,i3⟩
   .cases jw.mp hz;rw[show setC c' e ps (ky a p,e).2=ps from nZ,show(ky a p,e).2=e from rfl,aH ne];refine⟨aB,?_,p2,?_⟩
    .rw[show dM M c (ky a p,e).1=c d from Eo (z:=(ky a p,d)) v.kn XH];exact p1
    .cases ge:G e with
     |none=>rfl
     |some u =>
      have:=lr _ _ (l3 _ _ ge);rw[he]at this;cases this
 .obtain⟨_,r2,N,c',rfl,l,tt,ek,hi⟩:=hh;exists Wu;refine aY.here (aY.here (h t qs N c' G' l ⟨ht,tt,ri,?_,?_,hi⟩))
  .rw[ek,dw,xn]
  .rw[ek,dw,xn];exact pq
abbrev dv(d:D):List Key:=match xX d with
 |some (.inr k)=>k
 |_=>[]
abbrev De(q:(Int×Int)×Int):D:=.tup [eY q.1,.int q.2]
def ZS(s:SH A sh x y g room st M c G){n:Nat}(v:c8 room n M c)(hn:n<128)(hl:0<=lot/\lot<=999)(h:∀(qs:List (Int×Int)) r G',Le G G'->(qs.map kq).Perm (M.map (·.1))->dJ qs->G r=bh->G' r=aj (.lst (((qs.filter λq=>(aJ (dM M c (kq q)) lot).isSome).map λq=>(q,bW (dM M c (kq q)) lot)).map De))->R (.ref r) G'):f9 K A [.ref sh,.int lot] G R EX:=by
 have big:10000<dg:=by decide
 refine⟨rfl,?_⟩;show nJ K A _ _ [aj (.ref sh),aj (.int lot)] G;exists nJ;refine Ij hl ?_;exists rP;rw[lG s.sh rfl];symm;refine sort_keys s.st v.kn v.ks (uc v.len hn) λqs r pq ri hr=>?_;rw[IG dB];have l0:Le G (aC G r (.lst (qs.map eY))):=.new hr
 have lq:qs.length<128:=by
  have h2:=pq.length_eq;simp at h2;have:=v.len;omega
 have get:∀z∈qs.map eY,∃a p d,z=.tup [.int a,.int p]/\dv z=ky a p/\aJ M (ky a p)=aj d/\dM M c (ky a p)=c d/\G d=aj (.aZ ao ((c d).map qK)):=λz hz=>by
  let⟨⟨a,p⟩,hq,rfl⟩:=dh.mp hz;have hm:kq (a,p)∈M.map (·.1):=pq.mem_iff.mp (dh.mpr ⟨_,hq,rfl⟩);let⟨⟨kk,d⟩,hz,e1⟩:=dh.mp hm;have e1:kk=ky a p:=e1;subst e1;exact⟨a,p,d,rfl,rfl,jT v.kn hz,Eo v.kn hz,s.ins _ hz⟩
 refine HU (λz=>(aJ (dM M c (dv z)) lot).isSome) (λz=>.tup [z,.int (bW (dM M c (dv z)) lot)]) (by show(qs.map eY).length<dg;rw[dw];omega) dB (λz hz G' l Q hQ=>?_) (λz hz hf G' l Q hQ=>?_) λq hq=>?_
 .obtain⟨a,p,d,rfl,ed,ev,eh,hd⟩:=get z hz;have l2:=l0.trans l;symm;rw[lG (l2 _ _ s.sh) rfl,mF (l2 _ _ s.st) qN rfl (by rw[qO,ev];rfl),aIJ (l2 _ _ hd) rG rfl,tE];simp only[ed,eh]at hQ;symm;cases e:aJ (c d) lot with
  |none=>rw[e]at hQ;exact hQ _ (.refl _)
  |some w=>rw[e]at hQ;exact hQ _ (.refl _)
 .obtain⟨a,p,d,rfl,ed,ev,eh,hd⟩:=get z hz;have l2:=l0.trans l;simp only[ed,eh]at hf hQ;let⟨w,ew⟩:=Jf.mp hf;have e0:bW (c d) lot=w:=by unfold bW;rw[ew];rfl
  rw[e0]at hQ;symm;rw[lG (l2 _ _ s.sh) rfl,mF (l2 _ _ s.st) qN rfl (by rw[qO,ev];rfl),mF (l2 _ _ hd) rG rfl (by rw[tE,ew];rfl)];symm;exact hQ _ (.refl _)
 .refine aY.here (h qs q _ (l0.trans (.new hq)) pq ri (by cases e:G q with|none=>rfl|some u=>rw[l0 _ _ e]at hq;cases hq) ?_);rw[aB];show aj (GO.lst (((qs.map eY).filter _).map _))=_;rw[ET,jt,jt];rfl
@[simp]def Wk:=((Int×Int)×Int)×Int
abbrev nk(k:(Int×Int)×Int):NK:=([k.1.1,k.1.2],k.2)
@[simp]def wN(W:List Wk):List (NK×Int):=W.map λz=>(nk z.1,z.2)
def EE{k:(Int×Int)×Int}(h:nk j=nk k):j=k:=by
 let⟨⟨a,p⟩,l⟩:=j;let⟨⟨b,q⟩,m⟩:=k;simp[nk]at h;simp[h]
def GY{k:(Int×Int)×Int}:∀W:List Wk,(wN W).lookup (nk k)=aJ W k
 |[]=>rfl
 |z::W=>by
  show zu (nk k) ((nk z.1,z.2)::wN W)=_;rw[vq];unfold aJ;by_cases c:z.1=k
  .rw[if_pos c,c,beq_self_eq_true]
  .rw[if_neg c,show(nk k==nk z.1)=ao from beq_eq_false_iff_ne.mpr λe=>c (EE e.symm)];exact GY W
def aIX{W:List Wk}{k:(Int×Int)×Int}{n:Int}:putN (wN W) (nk k) n=wN (cM W k n):=by
 unfold putN cM;rw[GY];split
 ·show(W.map _).map _=(W.map _).map _;rw[jt,jt];refine yp λz _=>?_;show(if nk z.1=nk k then(nk z.1,n)else(nk z.1,z.2))=(nk (if z.1=k then(z.1,n)else z).1,(if z.1=k then(z.1,n)else z).2);by_cases c:z.1=k
  .rw[if_pos c,if_pos (by rw[c])]
  .rw[if_neg c,if_neg λe=>c (EE e)]
 .show _=(W++[(k,n)]).map _;rw[jk];rfl
structure Rl(M:List (List Key×bw))(c:bw->List (Int×Int))(W:List Wk):Prop where
 nd:(W.map (·.1)).Nodup
 pos:∀z∈W,1<=z.2
 va:∀a p l,bW (dM M c (ky a p)) l=(aJ W ((a,p),l)).getD 0
def Rl.mem{W:List Wk}(r:Rl M c W){n:Nat}(v:c8 room n M c)(hr:0<=room){w:Int}:(l,w)∈dM M c (kq q)↔((q,l),w)∈W:=by
 let⟨nd,ps,_,_⟩:=qW (k:=kq q) hr v;have e:bW (dM M c (kq q)) l=(aJ W (q,l)).getD 0:=r.va q.1 q.2 l;constructor
 .intro h;have e1:=jT nd h;have p1:1<=w:=ps _ h;have e2:bW (dM M c (kq q)) l=w:=by unfold bW;rw[show aJ (dM M c (kq q)) l=aj w from e1];rfl
  rw[e2]at e;cases z:aJ W (q,l)with
  |none=>rw[z]at e;simp at e;omega
  |some u =>
   rw[z]at e;have:w=u:=e;rw[this];exact jM z
 .intro h;have e1:=jT r.nd h;have p1:1<=w:=r.pos _ h;rw[show aJ W (q,l)=aj w from e1]at e;have e:bW (dM M c (kq q)) l=w:=e;unfold bW at e;cases z:aJ (dM M c (kq q)) l with
  |none=>rw[z]at e;simp at e;omega
  |some u =>
   rw[z]at e;have:u=w:=e;rw[←this];exact jM z
def GX{α:Type}{r:α->α->Prop}(as:∀a b,r a b->r b a->False):∀{xs ys:List α},xs.Pairwise r->ys.Pairwise r->(∀z,z∈xs↔z∈ys)->xs=ys
 |[],[],_,_,_=>rfl
 |[],y::ys,_,_,h=>absurd ((h y).mpr (.head _)) (by simp)
 |x::xs,[],_,_,h=>absurd ((h x).mp (.head _)) (by simp)
 |x::xs,y::ys,hx,hy,h=>by
  rw[List.pairwise_cons]at hx hy
  have e:x=y:=by
   rcases ju.mp ((h x).mp (.head _))with e|m
   .exact e
   .rcases ju.mp ((h y).mpr (.head _))with e|m2
    .exact e.symm
    .exact(as _ _ (hy.1 _ m) (hx.1 _ m2)).elim
  subst e;have i:∀z,r x z->z≠x:=λz q e=>by rw[e]at q;exact as _ _ q q
  rw[GX as hx.2 hy.2 λz=>⟨λm=>?_,λm=>?_⟩]
  .exact(ju.mp ((h z).mp (.tail _ m))).resolve_left (i z (hx.1 z m))
  .exact(ju.mp ((h z).mpr (.tail _ m))).resolve_left (i z (hy.1 z m))
def KW(a b:Int×Int)(h:uD a b)(h2:uD b a):False:=by
 unfold uD at h h2;omega
abbrev qE(W:List Wk)(s:Int×Int)(qs:List (Int×Int)):Prop:=dJ qs/\∀l v,(l,v)∈qs↔((s,l),v)∈W
abbrev Fl(W:List Wk)(l:Int)(ws:List ((Int×Int)×Int)):Prop:=ws.Pairwise (λa b=>uD a.1 b.1)/\∀s v,(s,v)∈ws↔((s,l),v)∈W
abbrev IsL(W:List Wk)(zs:List ((Int×Int)×List (Int×Int))):Prop:=dJ (zs.map (·.1))/\(∀z∈zs,z.2≠[]/\qE W z.1 z.2)/\∀s l v,((s,l),v)∈W->s∈zs.map (·.1)
def qE.eq{W:List Wk}{s:Int×Int}(h:qE W s xs)(h2:qE W s ys):xs=ys:=GX KW h.1 h2.1 λz=>(h.2 z.1 z.2).trans (h2.2 z.1 z.2).symm
def Fl.eq{W:List Wk}(h:Fl W l xs)(h2:Fl W l ys):xs=ys:=GX (λa b=>KW a.1 b.1) h.1 h2.1 λz=>(h.2 z.1 z.2).trans (h2.2 z.1 z.2).symm
def IsL.keys{W:List Wk}(h:IsL W zs){s:Int×Int}:s∈zs.map (·.1)↔∃l v,((s,l),v)∈W:=by
 constructor
 .intro m;let⟨z,hz,rfl⟩:=dh.mp m;let⟨n,i⟩:=h.2.1 z hz;let⟨q,r,e⟩:=N8 n;exact⟨q.1,q.2,(i.2 q.1 q.2).mp (by rw[e];exact .head _)⟩
 .rintro⟨l,v,m⟩;exact h.2.2 s l v m
def IsL.eq{W:List Wk}(h:IsL W xs)(h2:IsL W ys):xs=ys:=by
 have e:xs.map (·.1)=ys.map (·.1):=GX KW h.1 h2.1 λz=>h.keys.trans h2.keys.symm;have el:xs.length=ys.length:=by have:=congrArg Ak e;simpa using this
 refine List.ext_getElem el λi h1 h3=>?_
 have e1:xs[i].1=ys[i].1:=by
  have:=congrArg (·[i]?) e;simpa[h1,h3]using this
 have a:=(h.2.1 _ (yh h1)).2;have b:=(h2.2.1 _ (yh h3)).2;rw[e1]at a;exact Prod.ext e1 (a.eq b)
abbrev eI(G:Gp)(p:bw):Gp:=λq=>if q=p then bh else G q
def GW:Le (eI G p) G:=λq u e=>by
 unfold eI at e;split at e
 .cases e
 .exact e
def D0(n:q≠p)(h:G q=aj u):eI G p q=aj u:=by
 unfold eI;rw[if_neg n];exact h
def Mg(l:Le G G'):Le (eI G p) (eI G' p):=λq u e=>by
 by_cases z:q=p
 .unfold eI at e;rw[if_pos z]at e;cases e
 .exact D0 z (l _ _ (GW _ _ e))
def Qw{o:GO}:Le (eI G p) (aC G p o):=λq u e=>by
 by_cases z:q=p
 .unfold eI at e;rw[if_pos z]at e;cases e
 .rw[aH z];exact GW _ _ e
def le_none(l:Le G G')(h:G' r=bh):G r=bh:=by
 cases e:G r with
 |none=>rfl
 |some u=>rw[l _ _ e]at h;cases h
def TX{α:Type}{r:α->D->Prop}{g:D->D->Bool}(h:∀z d e,r z d->r z e->f d e=ak/\g d e=ak):∀{zs:List α}{xs ys:List D},Paired r zs xs->Paired r zs ys->yN f xs ys=ak/\pJ g xs ys=ak
 |[],_,_,.nil,.nil=>⟨rfl,rfl⟩
 |_::_,_::_,_::_,.cons a r,.cons b t=>by
  let⟨e1,e2⟩:=h _ _ _ a b;let⟨e3,e4⟩:=TX h r t;rw[yN,pJ,e1,e2,e3,e4];exact⟨rfl,rfl⟩
def Mf{n:Nat}:∀{xs:List D},(∀x∈xs,okN G n x x=ak)->yN (okN G n) xs xs=ak/\pJ (c5 G n) xs xs=ak
 |[],_=>⟨rfl,rfl⟩
 |x::xs,h=>by
  let⟨a,b⟩:=Mf λy hy=>h y (.tail _ hy);have c:=h x (.head _);rw[yN,pJ,a,b,c,yO n x c];exact⟨rfl,rfl⟩
def aIY{n:Nat}{s:bw}(e1:G r=aj (.lst xs))(e2:G s=aj (.lst ys))(h:yN (okN G n) xs ys=ak/\pJ (c5 G n) xs ys=ak):okN G (n+1) (.ref r) (.ref s)=ak/\c5 G (n+1) (.ref r) (.ref s)=ak:=by
 have l1:bM G r=aj xs:=by unfold L2.bM;rw[e1]
 have l2:bM G s=aj ys:=by unfold L2.bM;rw[e2]
 unfold okN c5;simp only[l1,l2];exact h
def UJ{α β:Type}{r:α->β->Prop}{xs OP:List α}{ys ON:List β}(h:Paired r xs ys)(h2:Paired r OP ON):Paired r (xs++OP) (ys++ON):=by
 induction h with
 |nil=>exact h2
 |cons a _ ih=>exact .cons a ih
def aC2(a b:Int×Int)(h:eY a=eY b):a=b:=by
 unfold eY at h;simp at h;exact Prod.ext h.1 h.2
def aC3(P:D->D->Gp->Prop)(hm:∀d y G G',Le G G'->P d y G->P d y G')(hl:src.items.length<dg)(af:src.ok G)
  (he:∀d∈src.items,∀G',Le G G'->∀Q:D->Gp->Prop,(∀y d6,Le G' d6->(∀p,G' p≠bh->P d y (eI d6 p))->Q y d6)->te (aj d::ρ) G' Q)
  (h:∀p ys G',Le G G'->G p=bh->G' p=aj (.lst ys)->Paired (λd y=>P d y (eI G' p)) src.items ys->R (.ref p) G'):Aa mP src Au te ρ G R:=by
 refine⟨hl,λp hp=>⟨λk ds G'=>Paired (λd y=>P d y (eI G' p)) (src.items.take k) ds/\Le (aC G p (.lst ds)) G',⟨.nil,.refl _⟩,λk ds G' hk ⟨e,l⟩=>?_,λk d ds G' hd ⟨e,l⟩=>?_,λds G' ⟨e,l⟩=>?_⟩⟩
 .refine⟨K0 ((Le.new hp).trans l) af,l p _ aB,?_⟩;rw[←Paired.length e,E0];omega
 .refine⟨[d],rfl,?_⟩;unfold L2.Au;dsimp only;rw[if_pos rfl];refine he d (jm hd) G' ((Le.new hp).trans l) _ λy G3 l3 hP=>?_;have l4:=l.trans l3;refine⟨l4 p _ aB,?_,LB l4⟩
  have ht:src.items.take (k+1)=src.items.take k++[d]:=by
   rw[EK,hd];rfl
  have lu:Le (eI G3 p) (eI (aC G3 p (.lst (ds++[y]))) p):=λq u e=>by
   by_cases z:q=p
   .unfold eI at e;rw[if_pos z]at e;cases e
   .exact D0 z (Qw _ _ e)
  rw[ht];exact UJ (Paired.nv e λ_ _ z=>hm _ _ _ _ ((Mg l3).trans lu) z) (.cons (hm _ _ _ _ lu (hP p (by rw[l p _ aB];simp))) .nil)
 .rw[xn]at e;exact⟨G',.refl _,h p ds G' ((Le.new hp).trans l) hp (l p _ aB) e⟩
def aC4{W:List Wk}(s:SH A sh x y g room st M c G){n:Nat}(v:c8 room n M c)(hn:n<128)(hr:0<=room)(r:Rl M c W){q:Int×Int}(b:fw x y q.1 q.2)(h:∀rr qs G',Le G G'->G rr=bh->G' rr=aj (.lst (qs.map eY))->qE W q qs->qs.length<128->R (.ref rr) G'):kZ K A [.ref sh,eY q] G R EX:=by
 refine⟨rfl,?_⟩;show rO K A _ _ [aj (.ref sh),aj (.tup [.int q.1,.int q.2])] G;exists rO;rw[lG s.sh rfl];symm;refine zV s.o b ?_;exists vH;rw[lG s.sh rfl];exists gZ s.st;refine s.get (F:=λd G'=>CJ d G' (aY R)) λd G1 l e1=>?_;have hb:=qW (k:=kq q) hr v;exact IE e1 (uc hb.2.2.2 hn) λqs p1 p2 rr Px=>aY.here (h rr qs _ (l.trans (.new Px)) (le_none l Px) aB ⟨p2,λl v'=>p1.mem_iff.trans (r.mem v hr)⟩ (by rw[p1.length_eq];exact uc hb.2.2.2 hn))
def Qv{W:List Wk}{n:Nat}(v:c8 room n M c)(hr:0<=room)(r:Rl M c W){s:Int×Int}:kq s∈M.map (·.1)↔∃l w,((s,l),w)∈W:=by
 constructor
 .intro m;let⟨z,hz,e⟩:=dh.mp m;have eh:dM M c (kq s)=c z.2:=by rw[←e];exact Eo v.kn hz
  let⟨q,t,e2⟩:=N8 (v.bn z hz).1.ne;exact⟨q.1,q.2,(r.mem v hr).mp (by rw[eh,e2];exact .head _)⟩
 .rintro⟨l,w,m⟩;have m2:=(r.mem v hr).mpr m;refine Classical.byContradiction λz=>?_;have:dM M c (kq s)=[]:=by unfold dM;rw[fK.mpr z]
  rw[this]at m2;cases m2
def En{a b:Int×Int}(h:kq a=kq b):a=b:=by
 have:a.1=b.1/\a.2=b.2:=by simpa[L9.ky]using h
 exact Prod.ext this.1 this.2
def Qu{qs:List (Int×Int)}{s:Int×Int}:kq s∈qs.map kq↔s∈qs:=⟨λh=>by let⟨z,hz,e⟩:=dh.mp h;rw[←En e];exact hz,λh=>dh.mpr ⟨s,h,rfl⟩⟩
def arA{W:List Wk}(s:SH A sh x y g room st M c G){n:Nat}(v:c8 room n M c)(hn:n<128)(hr:0<=room)(r:Rl M c W)(hl:0<=lot/\lot<=999)(h:∀rr ws G',Le G G'->G rr=bh->G' rr=aj (.lst (ws.map De))->Fl W lot ws->ws.length<128->R (.ref rr) G'):f9 K A [.ref sh,.int lot] G R EX:=by
 refine ZS s v hn hl λqs rr G' l pq ri f e=>h rr _ G' l f e ⟨?_,λq w=>?_⟩ (by
  have e1:=pq.length_eq;have e2:=v.len;have e3:=uh (λq=>(aJ (dM M c (kq q)) lot).isSome) qs;rw[dw,dw]at e1;rw[dw];omega)
 .rw[vf];exact xj.filter _ ri
 .constructor
  .intro m;let⟨q',hq,e⟩:=dh.mp m;cases e;let⟨w,ew⟩:=Jf.mp (kj.mp hq).2;have e0:bW (dM M c (kq q)) lot=w:=by unfold bW;rw[ew];rfl
   rw[e0];exact(r.mem v hr).mp (jM ew)
  .intro m;have m2:=(r.mem v hr).mpr m;have ew:aJ (dM M c (kq q)) lot=aj w:=jT (qW (k:=kq q) hr v).1 m2;have e0:bW (dM M c (kq q)) lot=w:=by unfold bW;rw[ew];rfl
   refine dh.mpr ⟨q,kj.mpr ⟨Qu.mp (pq.mem_iff.mpr ((Qv v hr r).mpr ⟨_,_,m⟩)),by rw[ew];rfl⟩,by rw[e0]⟩
def IsL.mk'{W:List Wk}(ri:dJ qs)(hq:∀s,s∈qs↔∃l w,((s,l),w)∈W)(e:zs.map (·.1)=qs)(h:∀z∈zs,qE W z.1 z.2):IsL W zs:=by
 refine⟨by rw[e];exact ri,λz hz=>⟨λn=>?_,h z hz⟩,λs l w m=>by rw[e];exact(hq s).mpr ⟨l,w,m⟩⟩;let⟨l,w,m⟩:=(hq z.1).mp (by rw[←e];exact dh.mpr ⟨z,hz,rfl⟩);have:=((h z hz).2 l w).mpr m;rw[n]at this;cases this
def KU{W:List Wk}{G:Gp}:∀{qs:List (Int×Int)}{es:List D},Paired (λd y=>∃q hs r,d=eY q/\y=.tup [eY q,.ref r]/\G r=aj (.lst (hs.map eY))/\qE W q hs) (qs.map eY) es->∃zs:List ((Int×Int)×List (Int×Int)),zs.map (·.1)=qs/\(∀z∈zs,qE W z.1 z.2)/\Paired (λz e=>∃q,e=.tup [eY z.1,.ref q]/\G q=aj (.lst (z.2.map eY))) zs es
 |[],_,.nil=>⟨[],rfl,(λz hz=>nomatch hz),.nil⟩
 |q::qs,_,.cons ⟨q',hs,r,e1,e2,e3,e4⟩ t=>by
  let⟨zs,z1,z2,z3⟩:=KU t;obtain rfl:=aC2 _ _ e1;refine⟨(q,hs)::zs,by rw[jc,z1],λz hz=>?_,.cons ⟨r,e2,e3⟩ z3⟩;rcases ju.mp hz with rfl|hz
  .exact e4
  .exact z2 z hz
def aC5{o:GO}(l:Le G G')(h:G p=bh):Le G (aC G' p o):=λq u e=>by
 have n:q≠p:=λz=>by rw[z,h]at e;cases e
 rw[aH n];exact l _ _ e
def am1{N:List (List Key×bw)}{qs:List (Int×Int)}{t:bw}(e:N.map (·.1)=qs.map kq):(Src.key t od ak (N.map cE)).items=qs.map eY:=by
 show(N.map cE).map (λq:DK×D=>kN q.1)=_;rw[jt,show(λq:DK×D=>kN q.1)∘cE=(λks=>kN (.inr ks))∘(λz:List Key×bw=>z.1)from rfl,←jt,e,jt];rfl
abbrev dn(d:D):(Int×Int)×Int:=match d with
 |.tup [.tup [.int a,.int p],.int l]=>((a,p),l)
 |_=>((0,0),0)
def Hu{W:List Wk}{z:Wk}(nd:(W.map (·.1)).Nodup)(hz:z∈W)(h:oy G p (wN W))(k:R (.int z.2) G):sN (.ref p) (.tup [.tup [.int z.1.1.1,.int z.1.1.2],.int z.1.2]) G R:=⟨nk z.1,wN W,z.2,rfl,h,by rw[GY];exact jT nd hz,k⟩
def aIZ{a b a' b':Int}:aT (.tup [.int a,.int b]) (.tup [.int a',.int b'])=decide ((a,b)=(a',b')):=by
 show(decide (a=a')&&(decide (b=b')&&ak))=_;simp
def Qt{α β γ:Type}{W:List α}{f:α->β}{g:α->γ}{c:α->Bool}(nd:(W.map f).Nodup)(h:∀a∈W,∀b∈W,c a=ak->c b=ak->g a=g b->f a=f b):((W.filter c).map g).Nodup:=by
 rw[List.Nodup,vf]at nd ⊢;refine xj.imp_of_mem ?_ (xj.filter c nd);intro a b ha hb n e;let⟨a1,a2⟩:=kj.mp ha;let⟨b1,b2⟩:=kj.mp hb;exact n (h a a1 b b1 a2 b2 e)
abbrev JP(u:(Int×Int)×Int):DK×D:=(.inr (ky u.1.1 u.1.2),.int u.2)
def aS1{us:List ((Int×Int)×Int)}{p:bw}(hn:(us.map (·.1)).Nodup)(lu:us.length<128)(hB:∀p∈us.map (·.1),-1000<=p.2/\p.2<=1000)(hq:G p=aj (.aZ ak (us.map JP)))(h:∀(ws:List ((Int×Int)×Int)) r,G r=bh->ws.Perm us->ws.Pairwise (λa b=>uD a.1 b.1)->R (.ref r) (aC G r (.lst (ws.map De)))):CJ (.ref p) G R:=by
 refine .inr ⟨p,us.map (λu=>([u.1.1,u.1.2],u.2)),rfl,by rw[hq,jt];rfl,by rw[dw];exact lu,λi=>enc 3000 ((us.map (·.1)).getD i (0,0)),λi j a b ha Bl=>?_,λi j hi hj e=>?_,λqa P u r hr=>?_⟩
 .rw[qu]at ha Bl;let⟨ua,ea,rfl⟩:=CA.mp ha;let⟨ub,eb,rfl⟩:=CA.mp Bl;have ga:(us.map (·.1)).getD i (0,0)=ua.1:=by simp[ug,ea]
  have gb:(us.map (·.1)).getD j (0,0)=ub.1:=by simp[ug,eb]
  show _=decide (enc 3000 ((us.map (·.1)).getD i (0,0))<enc 3000 ((us.map (·.1)).getD j (0,0)));rw[ga,gb,Bool.eq_iff_iff,decide_eq_true_iff,yP (M:=3000) (B:=1000) ⋯ (hB ua.1 (dh.mpr ⟨_,jm ea,rfl⟩)) (hB ub.1 (dh.mpr ⟨_,jm eb,rfl⟩))];have ma:=jm ea;have mb:=jm eb;let⟨⟨a1,a2⟩,a3⟩:=ua;let⟨⟨b1,b2⟩,b3⟩:=ub;unfold ltN uD;by_cases c1:a1=b1
  .by_cases c2:a2=b2
   .subst c1;subst c2;have f1:aJ us (a1,a2)=aj a3:=jT hn ma;have f2:aJ us (a1,a2)=aj b3:=jT hn mb;have e3:a3=b3:=ji.inj (f1.symm.trans f2);subst e3;rw[if_pos rfl];simp
   .subst c1;rw[if_neg (by simp[c2])];show(if a1=a1 then(if a2=b2 then ao else decide (a2<b2))else decide (a1<a1))=ak↔_;rw[if_pos rfl,if_neg c2];simp
  .rw[if_neg (by simp[c1])];show(if a1=b1 then(if a2=b2 then ao else decide (a2<b2))else decide (a1<b1))=ak↔_;rw[if_neg c1];simp[c1]
 .rw[dw]at hi hj;have kM:i<(us.map (·.1)).length:=by rw[dw];exact hi
  have dA:j<(us.map (·.1)).length:=by rw[dw];exact hj
  have e:enc 3000 ((us.map (·.1)).getD i (0,0))=enc 3000 ((us.map (·.1)).getD j (0,0)):=e;rw[getD_at kM,getD_at dA]at e;have k1:=yP (M:=3000) (B:=1000) ⋯ (hB _ (yh kM)) (hB _ (yh dA));have k2:=yP (M:=3000) (B:=1000) ⋯ (hB _ (yh dA)) (hB _ (yh kM))
  have e2:(us.map (·.1))[i]=(us.map (·.1))[j]:=by
   have n1:=mt k1.mpr ⋯;have n2:=mt k2.mpr ⋯;unfold uD at n1 n2;exact Prod.ext ⋯ ⋯
  have key:=uw.mp hn;rcases Cy i j with w|w|w
  .exact absurd e2 (key _ _ kM dA w)
  .exact w
  .exact absurd e2.symm (key _ _ dA kM w)
 .rw[dw]at P u;have P':Pm (us.map (·.1)).length qa:=by rw[dw];exact P
  let⟨r1,r2⟩:=Uo (M:=3000) (B:=1000) ⋯ hB hn P' (by rw[dw];exact u);have kL:∀i∈qa.toList,i<us.length:=λi hi=>zq.mp (P.perm.mem_iff.mp hi)
  have e1:(qa.toList.map λi=>((us.map λu:(Int×Int)×Int=>(([u.1.1,u.1.2],u.2):NK)).map dy).getD i .ag)=(qa.toList.map λi=>us.getD i ((0,0),0)).map De:=by
   rw[jt,jt];refine yp λi hi=>?_;have:=kL i hi;simp[ug,this];rfl
  rw[e1]
  have e2:(qa.toList.map λi=>us.getD i ((0,0),0)).map (·.1)=qa.toList.map λi=>(us.map (·.1)).getD i (0,0):=by
   rw[jt];refine yp λi hi=>?_;have:=kL i hi;simp[ug,this]
  have pm:(qa.toList.map λi=>us.getD i ((0,0),0)).Perm us:=by
   have:=P.perm.map λi=>us.getD i ((0,0),0)
   have J9:(qd us.length).map (λi=>us.getD i ((0,0),0))=us:=by
    apply List.ext_getElem (by simp);intro i h1 h2;simp[h2]
   rw[J9]at this;exact this
  rw[←e2]at r2;exact h _ r hr pm (vf.mp r2)
def aS2{κ α:Type}[DecidableEq κ]{k k':κ}{n:α}{W:List (κ×α)}:aJ (cM W k n) k'=if k'=k then aj n else aJ W k':=by
 have mp:∀W:List (κ×α),aJ (W.map λkv=>if kv.1=k then(kv.1,n)else kv) k'=if k'=k/\(aJ W k).isSome=ak then aj n else aJ W k':=by
  intro W
  induction W with
  |nil=>simp[aJ]
  |cons z W ih =>
   rw[jc];unfold aJ;by_cases c1:z.1=k
   .simp only[c1,if_true];by_cases c2:k=k'
    .simp[c2]
    .rw[if_neg c2,ih,if_neg c2];simp[Ne.symm c2]
   .simp only[if_neg c1];by_cases c2:z.1=k'
    .rw[if_pos c2,if_pos c2,if_neg λw=>c1 (c2.trans w.1)]
    .rw[if_neg c2,if_neg c2,ih]
 have ap:∀W:List (κ×α),aJ W k=bh->aJ (W++[(k,n)]) k'=if k'=k then aj n else aJ W k':=by
  intro W h
  induction W with
  |nil =>
   show(if k=k' then aj n else bh)=_;by_cases c:k=k'
   .simp[c]
   .simp[c,Ne.symm c,aJ]
  |cons z W ih =>
   rw[EY];unfold aJ at h ⊢;by_cases c1:z.1=k
   .rw[if_pos c1]at h;cases h
   .rw[if_neg c1]at h;by_cases c2:z.1=k'
    .rw[if_pos c2,if_pos c2,if_neg λw=>c1 (c2.trans w)]
    .rw[if_neg c2,if_neg c2,ih h]
 unfold cM;by_cases c:(aJ W k).isSome=ak
 .rw[if_pos c,mp];simp[c]
 .rw[if_neg c];exact ap W (by simpa using c)
private theorem UY{κ α:Type}[DecidableEq κ]{k:κ}{n:α}{W:List (κ×α)}(nd:(W.map (·.1)).Nodup):((cM W k n).map (·.1)).Nodup/\(cM W k n).length<=W.length+1:=by
 unfold cM;split
 ·rw[jt,dw];refine⟨?_,Nat.le_succ _⟩
  have:((λx:κ×α=>x.1)∘λkv=>if kv.1=k then(kv.1,n)else kv)=λx=>x.1:=by
   funext z;show(if z.1=k then(z.1,n)else z).1=z.1;split<;>rfl
  rw[this];exact nd
 .rename_i c;rw[jk,yq,wu];refine⟨⟨nd,by simp,λu hu w hw z=>?_⟩,gw _⟩;simp at hw;exact fK.mp (show aJ W k=bh by simpa using c) (by rw[←hw,←z];exact hu)
def aS3{κ α:Type}[DecidableEq κ]{k:κ}{n:α}{W:List (κ×α)}{z:κ×α}(h:z∈cM W k n):z∈W∨z=(k,n):=by
 unfold cM at h;split at h
 .obtain⟨y,hy,e⟩:=dh.mp h;by_cases c:y.1=k
  .rw[if_pos c]at e;exact .inr (by rw[←e,c])
  .rw[if_neg c]at e;exact .inl (by rw[←e];exact hy)
 .rcases qj.mp h with h|h
  .exact .inl h
  .exact .inr (jw.mp h)
abbrev vW(W:List Wk)(k:(Int×Int)×Int):Int:=(aJ W k).getD 0
abbrev PW(W:List Wk):List Wk:=W.filter λz=>decide (0<z.2)
abbrev jS(W:List Wk)(s:Int×Int):Int:=((W.filter λz=>decide (z.1.1=s)).map (·.2)).sum
structure Ro(M:List (List Key×bw))(c:bw->List (Int×Int))(W:List Wk):Prop where
 nd:(W.map (·.1)).Nodup
 va:∀a p l,bW (dM M c (ky a p)) l=vW W ((a,p),l)
def Ro.at{W:List Wk}(r:Ro M c W){z:Wk}(h:z∈W):vW W z.1=z.2:=by
 unfold vW;rw[jT r.nd h];rfl
def Ro.nn{W:List Wk}(r:Ro M c W){n:Nat}(v:c8 room n M c)(hr:0<=room){z:Wk}(h:z∈W):0<=z.2:=by
 rw[←r.at h,←r.va z.1.1.1 z.1.1.2 z.1.2];exact ME (qW hr v).2.1
def Vl{W:List Wk}(nd:(W.map (·.1)).Nodup):((PW W).map (·.1)).Nodup:=nd.sublist ((IQ).map _)
def Ht{W:List Wk}{n:Nat}(h:W.length<n):(PW W).length<n:=uc (uh _ _) h
def Ro.rl{W:List Wk}(r:Ro M c W){n:Nat}(v:c8 room n M c)(hr:0<=room):Rl M c (PW W):=by
 refine⟨Vl r.nd,λz hz=>?_,λa p l=>?_⟩
 .have:=of_decide_eq_true (kj.mp hz).2;omega
 .rw[r.va];show vW W ((a,p),l)=vW (PW W) ((a,p),l);cases e:aJ (PW W) ((a,p),l)with
  |some u =>
   have m:=(kj.mp (jM e)).1;have e1:vW (PW W) ((a,p),l)=u:=by unfold vW;rw[e];rfl
   rw[e1];exact r.at m
  |none =>
   have e1:vW (PW W) ((a,p),l)=0:=by unfold vW;rw[e];rfl
   rw[e1];cases e2:aJ W ((a,p),l)with
   |none=>unfold vW;rw[e2];rfl
   |some u =>
    have m:=jM e2;have e3:vW W ((a,p),l)=u:=r.at m;have:=r.nn v hr m;rw[e3];refine Classical.byContradiction λnz=>?_;have:(((a,p),l),u)∈PW W:=kj.mpr ⟨m,decide_eq_true (by show 0<u;have:0<=u:=this;omega)⟩;exact fK.mp e (dh.mpr ⟨_,this,rfl⟩)
def Ly{s:Int×Int}:∀{W:List Wk},(∀z∈W,0<=z.2)->jS (PW W) s=jS W s
 |[],_=>rfl
 |z::W,h=>by
  have ih:=Ly (s:=s) λy hy=>h y (.tail _ hy);have hz:=h z (.head _);unfold jS PW at ih ⊢;by_cases c:0<z.2
  .rw[Jc (by simpa using c)];by_cases d:z.1.1=s
   .rw[Jc (by simpa using d),Jc (by simpa using d),jc,jc,List.sum_cons,List.sum_cons,ih]
   .rw[Jb (by simpa using d),Jb (by simpa using d),ih]
  .rw[Jb (by simpa using c),ih];by_cases d:z.1.1=s
   .rw[Jc (by simpa using d),jc,List.sum_cons];omega
   .rw[Jb (by simpa using d)]
def SG{xs:List (Int×Int)}(h:xs.Perm ys):uN xs=uN ys:=by
 induction h with
 |nil=>rfl
 |cons z _ ih=>rw[fJ,fJ,ih]
 |swap a b l=>rw[fJ,fJ,fJ,fJ];omega
 |trans _ _ a b=>rw[a,b]
def Ro.sum{W:List Wk}(r:Ro M c W){n:Nat}(v:c8 room n M c)(hr:0<=room)(s:Int×Int):uN (dM M c (kq s))=jS W s:=by
 have rl:=r.rl v hr;rw[←Ly λz hz=>r.nn v hr hz]
 have e:jS (PW W) s=uN (((PW W).filter λz=>decide (z.1.1=s)).map λz=>(z.1.2,z.2)):=by
  unfold jS uN;rw[jt];rfl
 rw[e];refine SG ((List.perm_ext_iff_of_nodup ?_ ?_).mpr λq=>?_)
 .exact xj.of_map (·.1) (λa b h e=>h (by rw[e])) (qW (k:=kq s) hr v).1
 .refine Qt rl.nd λa _ b _ ha hb e=>?_;have ha:=of_decide_eq_true ha;have hb:=of_decide_eq_true hb;exact Prod.ext (ha.trans hb.symm) (congrArg (·.1) e)
 .refine(rl.mem v hr (q:=s) (l:=q.1) (w:=q.2)).trans ⟨λm=>dh.mpr ⟨_,kj.mpr ⟨m,decide_eq_true rfl⟩,rfl⟩,λm=>?_⟩;let⟨z,hz,e⟩:=dh.mp m;let⟨h1,h2⟩:=kj.mp hz;have h2:z.1.1=s:=of_decide_eq_true h2;rw[←e,←h2];exact h1
abbrev Ov(M:List (List Key×bw))(c:bw->List (Int×Int))(M':List (List Key×bw))(c':bw->List (Int×Int))(jI:(Int×Int)×Int->Int):Prop:=∀a p l,bW (dM M' c' (ky a p)) l=bW (dM M c (ky a p)) l+jI ((a,p),l)
abbrev d1(k:(Int×Int)×Int)(more:Int)(j:(Int×Int)×Int):Int:=if j=k then more else 0
abbrev d2(q q2:Int×Int)(lot am:Int)(j:(Int×Int)×Int):Int:=if q=q2 then 0 else d1 (q,lot) (-am) j+d1 (q2,lot) am j
def Qs{more:Int}(h:CY M c M' c' (kq q) lot more)(o:∀k',k'≠kq q->dM M' c' k'=dM M c k'):Ov M c M' c' (d1 (q,lot) more):=λa p l=>by
 unfold d1;by_cases e:(a,p)=q
 .subst e;rw[h.1 l];by_cases e2:l=lot
  .rw[if_pos e2,if_pos (by rw[e2])]
  .rw[if_neg e2,if_neg λw=>e2 (congrArg (·.2) w)]
 .rw[o _ λw=>e (En (a:=(a,p)) w),if_neg λw=>e (congrArg (·.1) w)];exact(Int.add_zero _).symm
def Ro.step{W W':List Wk}(r:Ro M c W)(h:Ov M c M' c' jI)(nd:(W'.map (·.1)).Nodup)(hv:∀k,vW W' k=vW W k+jI k):Ro M' c' W':=⟨nd,λa p l=>by rw[h,r.va,hv]⟩
structure WW(W W':List Wk)(q q2:Int×Int)(lot:Int)(jI:(Int×Int)×Int->Int):Prop where
 nd:(W'.map (·.1)).Nodup
 len:W'.length<=W.length+2
 va:∀k,vW W' k=vW W k+jI k
 ks:∀z∈W',z∈W∨z.1=(q,lot)∨z.1=(q2,lot)
def aJ0{W:List Wk}{k:(Int×Int)×Int}{n:Int}:vW (cM W k n) j=if j=k then n else vW W j:=by
 unfold vW;rw[aS2];by_cases e:j=k
 .rw[if_pos e,if_pos e];rfl
 .rw[if_neg e,if_neg e]
def Qr{W:List Wk}{more:Int}(nd:(W.map (·.1)).Nodup):WW W (cM W (q,lot) (vW W (q,lot)+more)) q q2 lot (d1 (q,lot) more):=by
 refine⟨(UY nd).1,Cw (UY nd).2,λk=>?_,λz hz=>?_⟩
 .rw[aJ0];unfold d1;by_cases e:k=(q,lot)
  .rw[if_pos e,if_pos e,e]
  .rw[if_neg e,if_neg e];omega
 .rcases aS3 hz with hz|rfl
  .exact .inl hz
  .exact .inr (.inl rfl)
@[simp]def zD(k:(Int×Int)×Int):D:=.tup [.tup [.int k.1.1,.int k.1.2],.int k.2]
def aS5{W:List Wk}(hp:G p=aj (.uR (wN W)))(nd:(W.map (·.1)).Nodup)(hl:W.length<128)(cc:Wk->Bool)(f:Wk->D)
  (hc:∀z∈W,∀G',oy G' p (wN W)->∀Q:Bool->Gp->Prop,Q (cc z) G'->tc (aj (zD z.1)::ρ) G' Q)
  (he:∀z∈W,cc z=ak->∀G',oy G' p (wN W)->∀Q:D->Gp->Prop,Q (f z) G'->te (aj (zD z.1)::ρ) G' Q)
  (h:∀od q,G q=bh->q≠p->R (.ref q) (aC (aC G p (.ej od (wN W))) q (.lst ((W.filter cc).map f)))):Hc (.ref p) G λsrc G1=>Aa mP src tc te ρ G1 R:=by
 have big:10000<dg:=by decide
 refine⟨wN W,hp,λod=>?_⟩
 have it:(Src.oz p od (wN W)).items=W.map λz=>zD z.1:=by
  show(wN W).map _=_;rw[jt];rfl
 have O9:∀G',Le (aC G p (.ej od (wN W))) G'->oy G' p (wN W):=λG' l=>.inr ⟨od,l _ _ aB⟩;have ev:∀z∈W,(z.1,(aJ W z.1).getD 0)=z:=λz hz=>by rw[jT nd hz];rfl
 refine HU (λd=>cc (dn d,(aJ W (dn d)).getD 0)) (λd=>f (dn d,(aJ W (dn d)).getD 0)) (by rw[it,dw];omega) aB (λd hd G' l Q hQ=>?_) (λd hd hf G' l Q hQ=>?_) λq hq=>?_
 .rw[it]at hd;let⟨z,hz,rfl⟩:=dh.mp hd;have DF:Q (cc (z.1,(aJ W z.1).getD 0)) G':=hQ G' (.refl _);rw[ev z hz]at DF;exact hc z hz G' (O9 G' l) Q DF
 .rw[it]at hd;let⟨z,hz,rfl⟩:=dh.mp hd;have DF:Q (f (z.1,(aJ W z.1).getD 0)) G':=hQ G' (.refl _);have PQ:cc (z.1,(aJ W z.1).getD 0)=ak:=hf;rw[ev z hz]at DF PQ;exact he z hz PQ G' (O9 G' l) Q DF
 .have nq:q≠p:=λz=>by rw[z,aB]at hq;cases hq
  rw[aH nq]at hq
  have e1:((Src.oz p od (wN W)).items.filter λd=>cc (dn d,(aJ W (dn d)).getD 0)).map (λd=>f (dn d,(aJ W (dn d)).getD 0))=(W.filter cc).map f:=by
   rw[it,ET,jt]
   have e2:W.filter ((λd=>cc (dn d,(aJ W (dn d)).getD 0))∘λz:Wk=>zD z.1)=W.filter cc:=List.filter_congr λz hz=>by
    show cc (z.1,(aJ W z.1).getD 0)=cc z;rw[ev z hz]
   rw[e2];refine yp λz hz=>?_;show f (z.1,(aJ W z.1).getD 0)=f z;rw[ev z (kj.mp hz).1]
  rw[e1];exact h od q hq nq
def aS6{i:Nat}{W:List Wk}(h1:lS ρ i=aj (.ref p))(hp:G p=aj (.uR (wN W)))(nd:(W.map (·.1)).Nodup)(hl:W.length<128)(cc:Wk->Bool)(f:Wk->D)
  (hc:∀z∈W,∀G',oy G' p (wN W)->∀Q:Bool->Gp->Prop,Q (cc z) G'->tc (aj (zD z.1)::ρ) G' Q)
  (he:∀z∈W,cc z=ak->∀G',oy G' p (wN W)->∀Q:D->Gp->Prop,Q (f z) G'->te (aj (zD z.1)::ρ) G' Q)
  (h:∀q,G q=bh->R (.ref q) (aC G q (.lst ((W.filter cc).map f)))):D6 i (wC (qL (eV i)) tc te) ρ G R:=by
 refine aIP h1 hp ?_;show ES mP (qL (eV i)) tc te ρ G _;rw[Qy,T9];unfold L2.eV;rw[h1];refine aS5 hp nd hl cc f hc he λod q hq nq=>.inr ⟨⟨od,by rw[aH (Ne.symm nq),aB]⟩,?_⟩
 have e2:aC (aC (aC G p (.ej od (wN W))) q (.lst ((W.filter cc).map f))) p (.uR (wN W))=aC G q (.lst ((W.filter cc).map f)):=by
  funext a;by_cases c1:a=p
  .rw[c1,aB,aH (Ne.symm nq),hp]
  .rw[aH c1];by_cases c2:a=q
   .rw[c2,aB,aB]
   .rw[aH c2,aH c2,aH c1]
 rw[e2];exact h q hq
def aO5{k:Nat}{s:Int×Int}{z:Wk}(h5:lS ρ k=aj (eY s))(h:Q (decide (z.1.1=s)) G):aO (aG xW (aG iY (eV 0) (lZ (.int 0))) (eV (k+1))) (aj (zD z.1)::ρ) G Q:=by
 symm;unfold L2.eV;rw[h5];refine⟨rfl,rfl,?_⟩;show Q (aT (.tup [.int z.1.1.1,.int z.1.1.2]) (.tup [.int s.1,.int s.2])) G;rw[aIZ];exact h
def aC6{W:List Wk}{s:Int×Int}(hm:G m=aj (.uR (wN W)))(nd:(W.map (·.1)).Nodup)(hl:W.length<128)(h:∀G',Le G G'->R (.int (jS W s)) G'):mQ K A [.ref m,eY s] G R EX:=by
 refine⟨rfl,?_⟩;have h':∀G',Le G G'->aY R (.int (jS W s)) G':=λG' l=>aY.here (h G' l);clear h;show uH K A _ _ [aj (.ref m),aj (eY s)] G;exists uH;refine aS6 (i:=0) rfl hm nd hl (λz=>decide (z.1.1=s)) (λz=>.int z.2) (λz hz G' hg Q hQ=>aO5 (k:=1) rfl hQ) (λz hz _ G' hg Q hQ=>?_) λq hq=>?_
 .symm;exact Hu nd hz hg hQ
 .rw[Vq (ns:=(W.filter λz=>decide (z.1.1=s)).map (·.2)) (by rw[dB,jt];rfl)];exact h' _ (.new hq)
def wW:(Str.ofString "take"==Str.ofString "put")=ao:=by decide
def xY:(Str.ofString "shift"==Str.ofString "put")=ao:=by decide
def xZ:(Str.ofString "put"==Str.ofString "shift")=ao:=by decide
def yC:(Str.ofString "take"==Str.ofString "shift")=ao:=by decide
def yD:(Str.ofString "put"==Str.ofString "take")=ao:=by decide
def yE:(Str.ofString "shift"==Str.ofString "take")=ao:=by decide
def Me{W:List Wk}{k:(Int×Int)×Int}(hm:G m=aj (.uR (wN W)))(h:R (.int (vW W k)) G):isNm (.ref m) G/\BE (.ref m) (zD k) (.int 0) G R:=⟨⟨_,hm⟩,nk k,wN W,0,rfl,rfl,hm,by rw[GY];exact h⟩
def Rp{W:List Wk}{k:(Int×Int)×Int}{n:Int}(hm:G m=aj (.uR (wN W)))(hl:W.length<1000)(h:F.nx ρ (aC G m (.uR (wN (cM W k n))))):BD (.ref m) (zD k) (.int n) F ρ G:=by
 have big:10000<dg:=by decide
 refine⟨nk k,wN W,n,rfl,rfl,hm,by rw[dw];omega,?_⟩;rw[aIX];exact h
@[simp]def pz(wd:Str)(lot:Int)(q q2:Int×Int)(am:Int):D:=.tup [.str wd,.int lot,.tup [.int q.1,.int q.2],.tup [.int q2.1,.int q2.2],.int am]
def Qq{W:List Wk}(hm:G m=aj (.uR (wN W)))(nd:(W.map (·.1)).Nodup)(hl:W.length<126)
  (h0:room<jS W q+am->∀G',Le G G'->R (.tup [.str "refused",.int 5]) G')
  (h1:jS W q+am<=room->∀W' G',WW W W' q q2 lot (d1 (q,lot) am)->G' m=aj (.uR (wN W'))->(∀a u,a≠m->G a=aj u->G' a=aj u)->R .ag G'):lJ K A [.ref m,.int room,pz "put" lot q q2 am] G R EX:=by
 refine⟨rfl,?_⟩;show vL K A _ _ [aj (.ref m),aj (.int room),aj (pz "put" lot q q2 am),bh,bh,bh,bh,bh,bh,bh] G;exists vL;rw[Ep rfl];exists zU,wW,xY,xZ,yC,yD,yE;refine Me (k:=(q,lot)) hm ?_;exists zT,wW,xY,xZ,yC,yD,yE;exists zR,wW,xY,xZ,yC,yD,yE;exists zQ,wW,xY,xZ,yC,yD,yE;exists zP,wW,xY,xZ,yC,yD,yE;exists zO,wW,xY,xZ,yC,yD,yE;refine aC6 (s:=q) hm nd ⋯ λG1 l1=>?_;symm;by_cases c:room<jS W q+am
 .rw[if_pos (decide_eq_true c)];exact aY.here (h0 c G1 l1)
 .rw[if_neg (by simpa using c)];exists zN,wW,xY,xZ,yC,yD,yE;exists zM,wW,xY,xZ,yC,yD,yE;refine Me (k:=(q,lot)) (l1 _ _ hm) ?_;symm;refine Rp (k:=(q,lot)) (l1 _ _ hm) ⋯ ?_;exists wQ,wW,xY,xZ,yC,yD,yE;exact aY.here (h1 ⋯ _ _ (Qr nd) aB λa u n e=>by rw[aH n];exact l1 _ _ e)
def Rn{W:List Wk}(hm:G m=aj (.uR (wN W)))(nd:(W.map (·.1)).Nodup)(hl:W.length<126)
  (h0:vW W (q,lot)<am->R (.tup [.str "refused",.int 4]) G)
  (h1:am<=vW W (q,lot)->∀W' G',WW W W' q q2 lot (d1 (q,lot) (-am))->G' m=aj (.uR (wN W'))->(∀a u,a≠m->G a=aj u->G' a=aj u)->R .ag G'):lJ K A [.ref m,.int room,pz "take" lot q q2 am] G R EX:=by
 refine⟨rfl,?_⟩;show vL K A _ _ [aj (.ref m),aj (.int room),aj (pz "take" lot q q2 am),bh,bh,bh,bh,bh,bh,bh] G;exists vL;rw[Ep rfl];exists zU,wW,xY,xZ,yC,yD,yE;refine Me (k:=(q,lot)) hm ?_;exists zT,wW,xY,xZ,yC,yD,yE;by_cases c:vW W (q,lot)<am
 .rw[if_pos (decide_eq_true c)];exact aY.here (h0 c)
 .rw[if_neg (by simpa using c)];exists zR,wW,xY,xZ,yC,yD,yE;exists zQ,wW,xY,xZ,yC,yD,yE;exists zP,wW,xY,xZ,yC,yD,yE;exists zO,wW,xY,xZ,yC,yD,yE;exists zN,wW,xY,xZ,yC,yD,yE;refine Rp (k:=(q,lot)) hm ⋯ ?_;exists zM,wW,xY,xZ,yC,yD,yE;exists wQ,wW,xY,xZ,yC,yD,yE;refine aY.here (h1 ⋯ _ _ (Qr nd) (by rw[aB];rfl) λa u n e=>by rw[aH n];exact e)
def UI{b0 b1 b2 b3 b4 b5:Bool}{j:Nat}(he:G e=aj (.fe C))(ec:nE K C)(kv:iw K (.ref C) (.type "ValueError")=aj ak)(k0:iw K (.ref C) (.ref A.mL)=aj b0)(k1:iw K (.ref C) (.ref A.qQ)=aj b1)(k2:iw K (.ref C) (.ref A.qP)=aj b2)(k3:iw K (.ref C) (.ref A.gK)=aj b3)(k4:iw K (.ref C) (.ref A.aR)=aj b4)(k5:iw K (.ref C) (.ref A.bV)=aj b5)
  (h1:(([D.bl b0,.bl b1,.bl b2,.bl b3]++[D.bl b4,.bl b5]).filter DT).length=1)(hj:([D.bl b0,.bl b1,.bl b2,.bl b3]++[.bl b4,.bl b5])[j]?=aj (.bl ak))(hn:∀m,m<j->([D.bl b0,.bl b1,.bl b2,.bl b3]++[.bl b4,.bl b5])[m]?≠aj (.bl ak))(h:∀G',Le G G'->R (.tup [.str "refused",.int j]) G'):gB K A [.ref e] G R EX:=by
 have big:10000<dg:=by decide
 refine⟨rfl,?_⟩;have h':∀G',Le G G'->aY R (.tup [.str "refused",.int j]) G':=λG' l=>aY.here (h G' l);clear h;show uG K A _ _ [aj (.ref e),bh] G;exists uG;refine qH he ec k0 ?_;symm;refine qH he ec k1 ?_;symm;refine qH he ec k2 ?_;symm;refine qH he ec k3 ?_;symm;intro p hp;have l1:Le G (aC G p (.lst [.bl b0,.bl b1,.bl b2,.bl b3])):=.new hp;exists xQ;refine qH (l1 _ _ he) ec k4 ?_;symm;refine qH (l1 _ _ he) ec k5 ?_;symm;intro q hq;have l2:=l1.trans (Le.new (o:=.lst [.bl b4,.bl b5]) hq);rw[aNV (eZ aB hq) aB (by show 4+2<=dg;omega)];intro r hr;have l3:=l2.trans (Le.new (o:=.lst ([.bl b0,.bl b1,.bl b2,.bl b3]++[.bl b4,.bl b5])) hr);exists xP;refine aBC (l3 _ _ he) ec kv ?_;symm;rw[IG dB];refine HU DT (λd=>d) (by show 6<dg;omega) dB (λd hd G' l Q hQ=>?_) (λd hd _ G' l Q hQ=>?_) λs hs=>?_
 .have hb:∃b,d=.bl b:=by
   have hd:d∈[D.bl b0,.bl b1,.bl b2,.bl b3]++[.bl b4,.bl b5]:=hd;simp only[EY,List.nil_append,ju,List.not_mem_nil,or_false]at hd;rcases hd with rfl|rfl|rfl|rfl|rfl|rfl<;>exact⟨_,rfl⟩
  let⟨b,rfl⟩:=hb;symm;exact hQ _ (.refl _)
 .symm;exact hQ _ (.refl _)
 .rw[Mo dB];symm;rw[if_neg (by rw[show(Src.items (.lst r ([D.bl b0,.bl b1,.bl b2,.bl b3]++[.bl b4,.bl b5])))=[D.bl b0,.bl b1,.bl b2,.bl b3]++[.bl b4,.bl b5]from rfl,h1];decide)];exists xO;have l4:=Le.new (o:=.lst (((Src.items (.lst r ([D.bl b0,.bl b1,.bl b2,.bl b3]++[.bl b4,.bl b5]))).filter DT).map λd=>d)) hs;have lr:=CG l4 (dB (xs:=[D.bl b0,.bl b1,.bl b2,.bl b3]++[.bl b4,.bl b5]));rw[aB5,lr];refine⟨rfl,?_⟩;refine aqW lr rfl j hj hn ?_;symm;exact h' _ (l3.trans l4)
def aj9(T:Txt K mg A)(he:G e=aj (.fe A.bV))(h:∀G',Le G G'->R (.tup [.str "refused",.int 5]) G'):gB K A [.ref e] G R EX :=
 UI (j:=5) he T.ZV T.vR T.iI T.jG T.jF T.fC T.eE T.iJ rfl rfl (by intro m hm;match m,hm with|0,_=>simp|1,_=>simp|2,_=>simp|3,_=>simp|4,_=>simp) h
def ac5(T:Txt K mg A)(he:G e=aj (.fe A.aR))(h:∀G',Le G G'->R (.tup [.str "refused",.int 4]) G'):gB K A [.ref e] G R EX :=
 UI (j:=4) he T.aiX T.mU T.eF T.fG T.fD T.d8 T.cR T.eG rfl rfl (by intro m hm;match m,hm with|0,_=>simp|1,_=>simp|2,_=>simp|3,_=>simp) h
abbrev Dn(A:kX)(sh:bw)(x y g:Nat)(room:Int)(st:bw)(n:Nat)(M:List (List Key×bw))(c:bw->List (Int×Int))(G:Gp)(jI:(Int×Int)×Int->Int)(M':List (List Key×bw))(c':bw->List (Int×Int))(G':Gp):Prop:=SH A sh x y g room st M' c' G'/\c8 room (n+2) M' c'/\Ov M c M' c' jI/\Kp st M M' G G'
section
variable{n:Nat}{q:Int×Int}{lot am:Int}
def aO6(s:SH A sh x y g room st M c G)(v:c8 room n M c)(hn:n<800)(hl:0<=lot/\lot<=999)(b:fw x y q.1 q.2)(ha:1<=am/\am<=1000000)(hr:0<=room)(h0:room<uN (dM M c (kq q))+am->EX A.bV G)
  (h1:uN (dM M c (kq q))+am<=room->∀M' c' G',Dn A sh x y g room st n M c G (d1 (q,lot) am) M' c' G'->R .ag G'):jB K A [.ref sh,.int lot,.tup [.int q.1,.int q.2],.int am] G R EX:=by
 refine aO0 s hl b ha h0 λe G1 R' Fp l hR=>?_;let⟨_,b2,_,_⟩:=qW (k:=kq q) hr v;exact Vm (s.le l) v ⋯ ⋯ (show 0<=bW (dM M c (kq q)) lot+am by have:=ME (l:=lot) b2;omega) e λM' c' G' s' v' t' o' k'=>hR _ (h1 e M' c' G' ⟨s',v'.up (Nat.le_succ _),Qs (q:=q) t' o',k'.le l⟩)
def aJ1(s:SH A sh x y g room st M c G)(v:c8 room n M c)(hn:n<800)(hl:0<=lot/\lot<=999)(b:fw x y q.1 q.2)(ha:1<=am/\am<=1000000)(hr:0<=room)(h0:bW (dM M c (kq q)) lot<am->EX A.aR G)
  (h1:am<=bW (dM M c (kq q)) lot->∀M' c' G',Dn A sh x y g room st n M c G (d1 (q,lot) (-am)) M' c' G'->R .ag G'):iH K A [.ref sh,.int lot,.tup [.int q.1,.int q.2],.int am] G R EX:=by
 refine aIV s hl b ha h0 λe G1 R' Fp l hR=>?_;let⟨_,b2,b3,_⟩:=qW (k:=kq q) hr v;have e':am<=bW (dM M c (kq q)) lot:=e;exact Vm (s.le l) v ⋯ ⋯ (show 0<=bW (dM M c (kq q)) lot+-am by omega) (show uN (dM M c (kq q))+-am<=room by omega) λM' c' G' s' v' t' o' k'=>hR _ (h1 e' M' c' G' ⟨s',v'.up (Nat.le_succ _),Qs (q:=q) t' o',k'.le l⟩)
def ZR(T:Txt K mg A)(s:SH A sh x y g room st M c G)(v:c8 room n M c)(hn:n<800)(hl:0<=lot/\lot<=999)(b:fw x y q.1 q.2)(ha:1<=am/\am<=1000000)(hr:0<=room)
  (h0:room<uN (dM M c (kq q))+am->∀G',Le G G'->R (.tup [.str "refused",.int 5]) G')
  (h1:uN (dM M c (kq q))+am<=room->∀M' c' G',Dn A sh x y g room st n M c G (d1 (q,lot) am) M' c' G'->R .ag G'):gO K A [.ref sh,pz "put" lot q q2 am] G R EX:=by
 refine⟨rfl,?_⟩;show p8 K A _ _ [aj (.ref sh),aj (pz "put" lot q q2 am),bh,bh,bh,bh,bh,bh] G;exists p8;rw[Ep rfl];exists uI,oG s.sh (m:="put") rfl;refine aO6 s v hn hl b ha hr (λz=>⟨T.dG,λx hx=>?_⟩) λz M' c' G' d=>aY.here (h1 z M' c' G' d);symm;exact aj9 T aB λG' l=>aY.here (h0 z G' ((Le.new hx).trans l))
def arB(T:Txt K mg A)(s:SH A sh x y g room st M c G)(v:c8 room n M c)(hn:n<800)(hl:0<=lot/\lot<=999)(b:fw x y q.1 q.2)(ha:1<=am/\am<=1000000)(hr:0<=room)
  (h0:bW (dM M c (kq q)) lot<am->∀G',Le G G'->R (.tup [.str "refused",.int 4]) G')
  (h1:am<=bW (dM M c (kq q)) lot->∀M' c' G',Dn A sh x y g room st n M c G (d1 (q,lot) (-am)) M' c' G'->R .ag G'):gO K A [.ref sh,pz "take" lot q q2 am] G R EX:=by
 refine⟨rfl,?_⟩;show p8 K A _ _ [aj (.ref sh),aj (pz "take" lot q q2 am),bh,bh,bh,bh,bh,bh] G;exists p8;rw[Ep rfl];exists uI,vM,wW,oG s.sh (m:="take") rfl;refine aJ1 s v hn hl b ha hr (λz=>⟨T.cO,λx hx=>?_⟩) λz M' c' G' d=>aY.here (h1 z M' c' G' d);symm;exact ac5 T aB λG' l=>aY.here (h0 z G' ((Le.new hx).trans l))
end
structure Sf where
 sh:bw
 st:bw
 m:bw
 n:Nat
 M:List (List Key×bw)
 c:bw->List (Int×Int)
 W:List Wk
abbrev Sf.ow(s:Sf):List bw:=s.st::s.m::s.M.map (·.2)
structure Sw(A:kX)(x y g:Nat)(room:Int)(s:Sf)(G:Gp):Prop where
 h:SH A s.sh x y g room s.st s.M s.c G
 v:c8 room s.n s.M s.c
 hm:G s.m=aj (.uR (wN s.W))
 r:Ro s.M s.c s.W
 wk:∀z∈s.W,-1000<=z.1.1.2/\z.1.1.2<=1000
 wl:s.W.length<=s.n
def Sw.le{s:Sf}(o:Sw A x y g room s G)(l:Le G G'):Sw A x y g room s G':=⟨o.h.le l,o.v,l _ _ o.hm,o.r,o.wk,o.wl⟩
def Sw.up{s:Sf}{k:Nat}(o:Sw A x y g room s G)(l:s.n<=k):Sw A x y g room {s with n:=k} G:=⟨o.h,o.v.up l,o.hm,o.r,o.wk,qw o.wl l⟩
def Sw.out{s:Sf}(o:Sw A x y g room s G)(h:G q=aj u)(n1:∀t kvs,u≠.aZ t kvs)(n2:∀kvs,u≠.uR kvs):q∉s.ow:=λm=>by
 rcases ju.mp m with rfl|m
 .rw[o.h.st]at h;exact n1 _ _ (ji.inj h).symm
 rcases ju.mp m with rfl|m
 .rw[o.hm]at h;exact n2 _ (ji.inj h).symm
 .obtain⟨z,hz,rfl⟩:=dh.mp m;rw[o.h.ins z hz]at h;exact n1 _ _ (ji.inj h).symm
structure K2(s s':Sf)(G G':Gp):Prop where
 k:∀q u,q∉s.ow->G q=aj u->G' q=aj u
 w:∀q∈s'.ow,q∈s.ow∨G q=bh
 sh:s'.sh=s.sh
 m:s'.m=s.m
 n:s'.n=s.n+2
def Sw.YK{s:Sf}{q q2:Int×Int}(o:Sw A x y g room s G)(d:Dn A s.sh x y g room s.st s.n s.M s.c G jI M' c' G1)(ww:WW s.W W' q q2 lot jI)(hm:G2 s.m=aj (.uR (wN W')))(k2:∀a u,a≠s.m->G1 a=aj u->G2 a=aj u)(b:fw x y q.1 q.2)(b2:fw x y q2.1 q2.2)(hy:y<=99) :
  ∃s':Sf,Sw A x y g room s' G2/\K2 s s' G G2/\s'.W=W':=by
 let⟨e1,e2,e3,e4⟩:=d;have ns:s.sh≠s.m:=λz=>by have:=o.h.sh;rw[z,o.hm]at this;cases this
 have nt:s.st≠s.m:=λz=>by have:=o.h.st;rw[z,o.hm]at this;cases this
 have Xh:G1 s.m=aj (.uR (wN s.W)):=e4.1 _ _ (Ne.symm nt) (λz=>by let⟨y,hy,e⟩:=dh.mp z;have:=o.h.ins y hy;rw[e,o.hm]at this;cases this) o.hm;have nM:∀z∈M',z.2≠s.m:=λz hz w=>by have:=e1.ins z hz;rw[w,Xh]at this;cases this
 refine⟨⟨s.sh,s.st,s.m,s.n+2,M',c',W'⟩,⟨⟨e1.o,k2 _ _ ns e1.sh,k2 _ _ nt e1.st,λz hz=>k2 _ _ (nM z hz) (e1.ins z hz)⟩,e2,hm,o.r.step e3 ww.nd ww.va,λz hz=>?_,qw ww.len (Nat.add_le_add_right o.wl 2)⟩,⟨λa u n e=>?_,λa ha=>?_,rfl,rfl,rfl⟩,rfl⟩
 .have y9:(y:Int)<=99:=by omega
  let⟨_,_,b3,b4⟩:=b;let⟨_,_,b5,b6⟩:=b2;rcases ww.ks z hz with w|w|w
  .exact o.wk z w
  .rw[w];show -1000<=q.2/\q.2<=1000;omega
  .rw[w];show -1000<=q2.2/\q2.2<=1000;omega
 .exact k2 _ _ (λz=>n (by rw[z];exact .tail _ (.head _))) (e4.1 _ _ (λz=>n (by rw[z];exact .head _)) (λz=>n (.tail _ (.tail _ z))) e)
 .rcases ju.mp ha with rfl|ha
  .exact .inl (.head _)
  rcases ju.mp ha with rfl|ha
  .exact .inl (.tail _ (.head _))
  .rcases e4.2 a ha with z|z
   .exact .inl (.tail _ (.tail _ z))
   .exact .inr z
def K2.of_le{s:Sf}(o:Sw A x y g room s G)(l:Le G G'):Sw A x y g room {s with n:=s.n+2} G'/\K2 s {s with n:=s.n+2} G G':=⟨(o.le l).up (Nat.le_add_right _ _),λq u _ e=>l _ _ e,(λq h=>.inl h),rfl,rfl,rfl⟩
def Qp(h:Q (.bl ao) G):wA .ag .ag G Q:=⟨rfl,rfl,h⟩
def Qo{j:Int}(h:Q (.bl ao) G):wA (.tup [.str "refused",.int j]) (.tup [.str "refused",.int j]) G Q:=by
 rw[RN];refine⟨rfl,rfl,?_⟩;rw[rB (n:=20) rfl];exact h
section
variable{s:Sf}{q:Int×Int}{lot am:Int}
abbrev Kw(s s':Sf)(k:(Int×Int)×Int):Prop:=∀z∈s'.W,z∈s.W∨z.1=k
def Vk(T:Txt K mg A)(o:Sw A x y g room s G)(hn:s.n<790)(hw:s.W.length<126)(hr:1<=room)(hd:wd="put" ∨ wd="take")(hl:0<=lot/\lot<=999)(b:fw x y q.1 q.2)(ha:1<=am/\am<=1000000)
  (h:∀s' G',Sw A x y g room s' G'->K2 s s' G G'->Kw s s' (q,lot)->Q (.bl ao) G') :
  gO K A [.ref s.sh,pz wd lot q q am] G (λd G1=>lJ K A [.ref s.m,.int room,pz wd lot q q am] G1 (λe G2=>wA d e G2 Q) AH) EX:=by
 have hy:y<=99:=o.h.o.y1;have yT:0<=room:=by omega
 have nm:s.m∉s.M.map (·.2):=λz=>by let⟨y,hy,e⟩:=dh.mp z;have:=o.h.ins y hy;rw[e,o.hm]at this;cases this
 have nt:s.m≠s.st:=λz=>by have:=o.h.st;rw[←z,o.hm]at this;cases this
 have lk:∀{M':List (List Key×bw)}{c':bw->List (Int×Int)}{G1:Gp}{jI:(Int×Int)×Int->Int},Dn A s.sh x y g room s.st s.n s.M s.c G jI M' c' G1->G1 s.m=aj (.uR (wN s.W)):=λd=>d.2.2.2.1 _ _ nt nm o.hm
 have same:∀G2,Le G G2->Q (.bl ao) G2:=λG2 l=>by
  let⟨a1,a2⟩:=K2.of_le o l;exact h _ G2 a1 a2 λz hz=>.inl hz
 have fin:∀{M':List (List Key×bw)}{c':bw->List (Int×Int)}{G1 G2:Gp}{jI:(Int×Int)×Int->Int}{W':List Wk},Dn A s.sh x y g room s.st s.n s.M s.c G jI M' c' G1->WW s.W W' q q lot jI->G2 s.m=aj (.uR (wN W'))->(∀a u,a≠s.m->G1 a=aj u->G2 a=aj u)->Q (.bl ao) G2:=λd ww js k2=>by
  let⟨s',o',k',e⟩:=o.YK d ww js k2 b b hy;exact h s' _ o' k' λz hz=>(ww.ks z (e ▸ hz)).imp id λw=>w.elim id id
 rcases hd with rfl|rfl
 .refine ZR T o.h o.v ⋯ hl b ha yT (λz G1 l1=>?_) λz M' c' G1 d=>?_
  .rw[o.r.sum o.v yT]at z;exact Qq (l1 _ _ o.hm) o.r.nd ⋯ (λ_ G2 l2=>Qo (same _ (l1.trans l2))) (λw=>by omega)
  .rw[o.r.sum o.v yT]at z;exact Qq (lk d) o.r.nd ⋯ (λw=>by omega) λ_ W' G2 ww js k2=>Qp (fin d ww js k2)
 .refine arB T o.h o.v ⋯ hl b ha yT (λz G1 l1=>?_) λz M' c' G1 d=>?_
  .rw[show bW (dM s.M s.c (kq q)) lot=vW s.W (q,lot)from o.r.va q.1 q.2 lot]at z;exact Rn (l1 _ _ o.hm) o.r.nd ⋯ (λ_=>Qo (same _ l1)) (λw=>by omega)
  .rw[show bW (dM s.M s.c (kq q)) lot=vW s.W (q,lot)from o.r.va q.1 q.2 lot]at z;exact Rn (lk d) o.r.nd ⋯ (λw=>by omega) λ_ W' G2 ww js k2=>Qp (fin d ww js k2)
end
structure qB(A:kX)(a:bw)(ns:List Int)(x y g:Nat)(room:Int)(sh m:bw)(s:Sf)(k:Nat)(G:Gp):Prop where
 hG:G a=aj (.gL (ns.map D.int))
 o:Sw A x y g room s G
 es:s.sh=sh
 em:s.m=m
 n:s.n<=4*k
 ks:∃Ks:List ((Int×Int)×Int),Ks.length<=k/\(∀z∈s.W,z.1∈Ks)/\∀j∈Ks,fw x y j.1.1 j.1.2/\0<=j.2/\j.2<=999
def Hs{α:Type}[DecidableEq α]:∀{xs ys:List α},xs.Nodup->(∀x∈xs,x∈ys)->xs.length<=ys.length
 |[],_,_,_=>qz _
 |x::xs,ys,nd,h=>by
  let⟨n1,n2⟩:=yc.mp nd;have hx:=h x (.head _);have:=Hs (ys:=ys.erase x) n2 λz hz=>(List.mem_erase_of_ne (show z≠x from λe=>n1 (e ▸ hz))).mpr (h z (.tail _ hz));rw[List.length_erase_of_mem hx]at this;have:=List.length_pos_of_mem hx;rw[qm];omega
def Qn{W:List Wk}{Ks:List ((Int×Int)×Int)}(nd:(W.map (·.1)).Nodup)(h:∀z∈W,z.1∈Ks):W.length<=Ks.length:=by
 rw[←dw (f:=(·.1))];exact Hs nd λk hk=>by let⟨z,hz,rfl⟩:=dh.mp hk;exact h z hz
def qB.len{a:bw}{s:Sf}{k:Nat}(w:qB A a ns x y g room sh m s k G):s.W.length<=k:=by
 let⟨Ks,h1,h2,_⟩:=w.ks;exact qw (Qn w.o.r.nd h2) h1
section
variable{a sh m:bw}{ns:List Int}{s:Sf}{k:Nat}{F:eU}{ex:bL->eX}
def ZQ(T:Txt K mg A)(hk:k<91)(w:qB A a ns x y g room sh m s k G)(hr:1<=room)
  (h:∀G' r6 r7 r8 r9 jb s',qB A a ns x y g room sh m s' (k+1) G'->F.nx [aj (.ref a),aj (.ref sh),aj (eQ x y g),aj (.int room),aj (.ref m),aj (.int k),r6,r7,r8,r9,jb] G') :
  pL K A ex F [aj (.ref a),aj (.ref sh),aj (eQ x y g),aj (.int room),aj (.ref m),aj (.int k),r6,r7,r8,r9,jb] G:=by
 have o1:=w.o.h.o.x0;have o2:=w.o.h.o.y0;have wl:=w.len;have wn:=w.n;let⟨Ks,k1,kk,ko⟩:=w.ks;have x0:0<(x:Int):=by omega
 have y0:0<(y:Int):=by omega
 have mx:∀i:Int,0<=i%(x:Int)/\i%(x:Int)<x:=λi=>⟨Int.emod_nonneg i ⋯,Int.emod_lt_of_pos i ⋯⟩;have my:∀i:Int,0<=i%(y:Int)/\i%(y:Int)<y:=λi=>⟨Int.emod_nonneg i ⋯,Int.emod_lt_of_pos i ⋯⟩;exists pL;rw[show(4:Int)+(k:Int)=((4+k:Nat):Int) by omega];refine B8 (k:=4+k) w.hG ⋯ ?_;generalize cellAt ns (4+k)=c;exists tW;rw[show(100:Int)+(k:Int)=((100+k:Nat):Int) by omega];refine B8 (k:=100+k) w.hG ⋯ ?_;generalize cellAt ns (100+k)=d;unfold eQ;obtain⟨q,e1,e2⟩:∃q:Int×Int,q.1=c%(x:Int)/\q.2=1+c / 26%(y:Int):=⟨(_,_),rfl,rfl⟩;have b:fw x y q.1 q.2:=⟨by rw[e1];exact(mx c).1,by rw[e1];exact(mx c).2,by rw[e2];have:=(my (c / 26)).1;omega,by rw[e2];have:=(my (c / 26)).2;omega⟩;exists tV;rw[←e1,←e2];clear e1 e2 mx my x0 y0;exists tU;intro p hp;refine LC dB ⋯ (by show d / 1000%3<3;omega) λz hz=>?_
 obtain⟨lot,rfl,hl⟩:∃t:Int,z=.int t/\0<=t/\t<=999:=by
  simp only[ju,List.not_mem_nil,or_false]at hz;rcases hz with rfl|rfl|rfl
  .exact⟨_,rfl,⋯⟩
  .exact⟨_,rfl,⋯⟩
  .exact⟨_,rfl,⋯⟩
 clear hz;have l1:=Le.new (o:=.lst [.int (d%1000),.int (d%4),.int (999 - d%3)]) hp;have gE:=l1 _ _ w.hG;have w1:=w.o.le l1;clear l1;generalize aC G p _=G1 at gE w1 ⊢;simp only[tR];obtain⟨N,eN,hN⟩:∃N:Int,N=3000/\0<N/\N<1073741824:=⟨_,rfl,⋯,⋯⟩;rw[←eN];simp(implicitDefEqProofs:=false) only[ti,dO,oM,rH,bS,c9,fI,fF,fk,eS,oq,pE,u1,u2,u3,u4,u5,L5.Ha,L5.G7,L5.K3,L5.Hw,L5.HL,L5.Hy,L5.Hx,L5.x_c];rw[EL hN];clear eN hN;generalize d / N=d';rw[B9 ⋯];obtain⟨am,ea,ha⟩:∃am:Int,am=1+d'%1000/\1<=am/\am<=1000000:=⟨_,rfl,⋯,⋯⟩;simp(implicitDefEqProofs:=false) only[L5.IH];rw[←ea];clear ea;symm;exists tQ;rw[←w.es,←w.em];refine Vk T w1 ⋯ ⋯ hr (.inl rfl) hl b ha λs2 G2 o3 k3 kw=>?_;have y8:=k3.k _ _ (w1.out gE (λ_ _ z=>nomatch z) λ_ z=>nomatch z) gE;have fin:∀(s3:Sf)(G3:Gp),Sw A x y g room s3 G3->s3.sh=s.sh->s3.m=s.m->s3.n<=s.n+4->Kw s s3 (q,lot)->G3 a=aj (.gL (ns.map D.int))->qB A a ns x y g room sh m s3 (k+1) G3:=λs3 G3 o e1 e2 e3 kw hg=>⟨hg,o,e1.trans w.es,e2.trans w.em,⋯,(q,lot)::Ks,EZ k1,(λz hz=>(kw z hz).elim (λhz=>.tail _ (kk z hz)) λe=>by rw[e];exact .head _),λj hj=>(ju.mp hj).elim (λe=>by rw[e];exact⟨b,hl⟩) (ko j)⟩;symm;rw[w.es,w.em];simp only[tO];obtain⟨N,eN,hN⟩:∃N:Int,N=2600/\0<N/\N<1073741824:=⟨_,rfl,⋯,⋯⟩;obtain⟨N2,Qg,P6⟩:∃N:Int,N=10400/\0<N/\N<1073741824:=⟨_,rfl,⋯,⋯⟩;rw[←eN,←Qg];simp(implicitDefEqProofs:=false) only[ti,dO,oM,rH,bS,c9,fI,fF,fk,eS,oq,pE,u1,u2,u3,u4,u5,L5.Ha,L5.Vv,L5.QD,L5.G7,L5.K3,L5.Hw,L5.HL,L5.Hy,L5.Hx,L5.x_c,EL hN,EL P6];clear eN Qg hN P6;generalize c / N=c';generalize c / N2=d2;rw[B9 ⋯];simp(implicitDefEqProofs:=false) only[L5.RP,L5.QJ];by_cases cc:(c'%4==1)=ak
 .rw[if_pos cc,B9 ⋯];obtain⟨am2,ea,Bm⟩:∃am:Int,am=1+d2%500/\1<=am/\am<=1000000:=⟨_,rfl,⋯,⋯⟩;simp(implicitDefEqProofs:=false) only[L5.IH];rw[←ea];clear ea cc;have e1:=k3.sh;have e2:=k3.m;have e3:=k3.n;obtain⟨_,lw,JZ⟩:∃WR:List ((Int×Int)×Int),WR.length<=k+1/\∀z∈s2.W,z.1∈WR:=⟨(q,lot)::Ks,EZ k1,λz hz=>(kw z hz).elim (λhz=>.tail _ (kk z hz)) λe=>by rw[e];exact .head _⟩;have l2:=qw (Qn o3.r.nd JZ) lw;clear lw JZ;symm;exists pA;rw[←w.es,←w.em,←e1,←e2];refine Vk T o3 ⋯ ⋯ hr (.inr rfl) hl b Bm λs3 G3 o4 k4 XD=>?_;have Kt:=k4.k _ _ (o3.out y8 (λ_ _ z=>nomatch z) λ_ z=>nomatch z) y8;symm;rw[e1,e2,w.es,w.em];exact h _ _ _ _ _ _ s3 (fin s3 G3 o4 (k4.sh.trans e1) (k4.m.trans e2) (by have:=k4.n;omega) (λz hz=>(XD z hz).elim (λhz=>kw z hz) .inr) Kt)
 .rw[if_neg cc];exact h _ _ _ _ _ _ s2 (fin s2 G2 o3 k3.sh k3.m (by have:=k3.n;omega) kw y8)
def arC(T:Txt K mg A)(w:qB A a ns x y g room sh m s 0 G)(hr:1<=room)(h:∀s' G',qB A a ns x y g room sh m s' 90 G'->R (.bl ak) G'):lA K A [.ref a,.ref sh,eQ x y g,.int room,.ref m] G R EX:=by
 refine⟨rfl,?_⟩;have h':∀s' G',qB A a ns x y g room sh m s' 90 G'->aY R (.bl ak) G':=λs' G' a=>aY.here (h s' G' a);clear h;show rR K A _ _ [aj (.ref a),aj (.ref sh),aj (eQ x y g),aj (.int room),aj (.ref m),bh,bh,bh,bh,bh,bh] G;exists rR;refine B8 (k:=3) w.hG ⋯ ?_;generalize cellAt ns 3=c3;symm;refine Z4 (λk ρ G'=>∃r5 r6 r7 r8 r9 jb s',ρ=[aj (.ref a),aj (.ref sh),aj (eQ x y g),aj (.int room),aj (.ref m),r5,r6,r7,r8,r9,jb]/\qB A a ns x y g room sh m s' k G') ⟨_,_,_,_,_,_,_,rfl,w⟩ (λk ρ G' hk z=>?_) λρ G' z=>?_
 .obtain⟨r5,r6,r7,r8,r9,jb,s',rfl,w'⟩:=z;have Bj:k<91:=by omega
  symm;exact ZQ T Bj w' hr λG2 r6 r7 r8 r9 jb s2 w2=>⟨_,_,_,_,_,_,_,rfl,w2⟩
 let⟨r5,r6,r7,r8,r9,jb,s',rfl,w'⟩:=z;let⟨Ks,k1,k2,k3⟩:=w'.ks;have hn:=w'.n;exists vN;exact h' s' G' ⟨w'.hG,w'.o,w'.es,w'.em,⋯,Ks,⋯,k2,k3⟩
end
def Ro.Xk{W:List Wk}(r:Ro M c W){n:Nat}(v:c8 room n M c)(hr:0<=room):c8 room W.length M c:=by
 have rl:=r.rl v hr
 have mem:∀z∈M,∃q:Int×Int,z.1=kq q/\∀l w,(l,w)∈c z.2->((q,l),w)∈W:=λz hz=>by
  let⟨a,p,e⟩:=v.ks z hz;refine⟨(a,p),e,λl w h=>?_⟩;rw[←Eo (c:=c) v.kn hz,e]at h;exact(kj.mp ((rl.mem v hr (q:=(a,p))).mp h)).1
 refine⟨v.kn,v.an,λz hz=>⟨(v.bn z hz).1,?_⟩,v.ks,?_⟩
 .obtain⟨q,e,h⟩:=mem z hz;have nd:=(qW (k:=z.1) hr v).1;rw[Eo (c:=c) v.kn hz]at nd
  have:=Hs (xs:=(c z.2).map λu=>((q,u.1),u.2)) (ys:=W) (vf.mpr ((vf.mp nd).imp λh e=>h (congrArg (λt=>t.1.2) e))) λx hx=>by
   let⟨u,hu,rfl⟩:=dh.mp hx;exact h u.1 u.2 hu
  simpa using this
 .have:=Hs (xs:=M.map (·.1)) (ys:=W.map λw=>kq w.1.1) v.kn λk hk=>by
   let⟨z,hz,rfl⟩:=dh.mp hk;let⟨q,e,h⟩:=mem z hz;let⟨u,r,e2⟩:=N8 (v.bn z hz).1.ne;exact dh.mpr ⟨_,h u.1 u.2 (by rw[e2];exact .head _),e.symm⟩
  simpa using this
abbrev cB(P:List Wk)(q:Int×Int):List (Int×Int):=(P.filter λz=>decide (z.1.1=q)).map λz=>(z.1.2,z.2)
abbrev cL(P:List Wk)(l:Int):List ((Int×Int)×Int):=(P.filter λz=>decide (z.1.2=l)).map λz=>(z.1.1,z.2)
abbrev bD(z:(Int×Int)×Addr):DK×D:=(.inr (kq z.1),.ref z.2)
abbrev lD(z:Int×bw):DK×D:=(.inl (.inl z.1),.ref z.2)
structure By(bb bl:bw)(B:List ((Int×Int)×Addr))(L:List (Int×bw))(PB PL:List Wk)(G:Gp):Prop where
 hb:G bb=aj (.aZ ak (B.map bD))
 hl:G bl=aj (.aZ ao (L.map lD))
 ob:∀z∈B,G z.2=aj (.aZ ao ((cB PB z.1).map qK))
 ol:∀z∈L,G z.2=aj (.aZ ak ((cL PL z.1).map JP))
 nb:(B.map (·.1)).Nodup
 nl:(L.map (·.1)).Nodup
 ab:(B.map (·.2)).Nodup
 al:(L.map (·.2)).Nodup
 n1:bb∉L.map (·.2)
 n2:bl∉B.map (·.2)
section
variable{bl:bw}{B:List ((Int×Int)×Addr)}{L:List (Int×bw)}
def By.le(w:By bb bl B L PB PL G)(l:Le G G'):By bb bl B L PB PL G':=⟨l _ _ w.hb,l _ _ w.hl,λz hz=>l _ _ (w.ob z hz),λz hz=>l _ _ (w.ol z hz),w.nb,w.nl,w.ab,w.al,w.n1,w.n2⟩
def Hr{α:Type}{xs:List α}{x:α}(h:xs.Nodup)(n:x∉xs):(xs++[x]).Nodup:=yq.mpr ⟨h,by simp,λa ha b hb e=>n (by rw[←jw.mp hb,←e];exact ha)⟩
def aJ3(h:∀z∈PB,z.1.1≠q):cB PB q=[]:=by
 unfold cB;rw[List.filter_eq_nil_iff.mpr λz hz=>by simpa using h z hz];rfl
def aJ4(h:∀z∈PL,z.1.2≠l):cL PL l=[]:=by
 unfold cL;rw[List.filter_eq_nil_iff.mpr λz hz=>by simpa using h z hz];rfl
def By.aS8(w:By bb bl B L PB PL G)(he:G e=bh)(nq:q∉B.map (·.1))(h:∀z∈PB,z.1.1≠q):By bb bl (B++[(q,e)]) L PB PL (aC (aC G e (.aZ ao [])) bb (.aZ ak ((B++[(q,e)]).map bD))):=by
 have ne:∀p u,G p=aj u->p≠e:=λp u z w=>by rw[w,he]at z;cases z
 have na:e∉B.map (·.2):=λm=>by
  let⟨z,hz,e2⟩:=dh.mp m;exact ne _ _ (w.ob z hz) e2
 have Dk:∀p kvs,G p=aj (.aZ ao kvs)->p≠bb:=λp kvs z e=>by rw[e,w.hb]at z;cases z
 refine⟨aB,by rw[aH (Dk _ _ w.hl),aH (ne _ _ w.hl)];exact w.hl,λz hz=>?_,λz hz=>?_,by rw[jk];exact Hr w.nb nq,w.nl,by rw[jk];exact Hr w.ab na,w.al,w.n1,λm=>?_⟩
 .rcases qj.mp hz with hz|hz
  .rw[aH (Dk _ _ (w.ob z hz)),aH (ne _ _ (w.ob z hz))];exact w.ob z hz
  .rw[jw.mp hz,aH (λz=>ne _ _ w.hb z.symm),aB,aJ3 h];rfl
 .rw[aH (λe=>w.n1 (by rw[←e];exact dh.mpr ⟨z,hz,rfl⟩)),aH (ne _ _ (w.ol z hz))];exact w.ol z hz
 .rw[jk]at m;rcases qj.mp m with m|m
  .exact w.n2 m
  .exact ne _ _ w.hl (jw.mp m)
def By.OA(w:By bb bl B L PB PL G)(he:G e=bh)(nq:l∉L.map (·.1))(h:∀z∈PL,z.1.2≠l):By bb bl B (L++[(l,e)]) PB PL (aC (aC G e (.aZ ak [])) bl (.aZ ao ((L++[(l,e)]).map lD))):=by
 have ne:∀p u,G p=aj u->p≠e:=λp u z w=>by rw[w,he]at z;cases z
 have na:e∉L.map (·.2):=λm=>by
  let⟨z,hz,e2⟩:=dh.mp m;exact ne _ _ (w.ol z hz) e2
 have Dk:∀p kvs,G p=aj (.aZ ak kvs)->p≠bl:=λp kvs z e=>by rw[e,w.hl]at z;cases z
 refine⟨by rw[aH (Dk _ _ w.hb),aH (ne _ _ w.hb)];exact w.hb,aB,λz hz=>?_,λz hz=>?_,w.nb,by rw[jk];exact Hr w.nl nq,w.ab,by rw[jk];exact Hr w.al na,λm=>?_,w.n2⟩
 .rw[aH (λe=>w.n2 (by rw[←e];exact dh.mpr ⟨z,hz,rfl⟩)),aH (ne _ _ (w.ob z hz))];exact w.ob z hz
 .rcases qj.mp hz with hz|hz
  .rw[aH (Dk _ _ (w.ol z hz)),aH (ne _ _ (w.ol z hz))];exact w.ol z hz
  .rw[jw.mp hz,aH (λz=>ne _ _ w.hl z.symm),aB,aJ4 h];rfl
 .rw[jk]at m;rcases qj.mp m with m|m
  .exact w.n1 m
  .exact ne _ _ w.hb (jw.mp m)
def Em{α β:Type}{f:α->β}:∀{B:List α}{z y:α},(B.map f).Nodup->z∈B->y∈B->f z=f y->z=y
 |b::B,z,y,nd,hz,hy,e=>by
  let⟨n1,n2⟩:=yc.mp nd;rcases ju.mp hz with e1|h1<;>rcases ju.mp hy with e2|h2
  .exact e1.trans e2.symm
  .exact(n1 (dh.mpr ⟨y,h2,by rw[←e,e1]⟩)).elim
  .exact(n1 (dh.mpr ⟨z,h1,by rw[e,e2]⟩)).elim
  .exact Em n2 h1 h2 e
def aJ5:cB (PB++[((q,l),v)]) q'=if q=q' then cB PB q'++[(l,v)]else cB PB q':=by
 unfold cB;by_cases e:q=q'<;>simp[e]
def aJ6{l':Int}:cL (PL++[((q,l),v)]) l'=if l=l' then cL PL l'++[(q,v)]else cL PL l':=by
 unfold cL;by_cases e:l=l'<;>simp[e]
def By.aS9{a:bw}(w:By bb bl B L PB PL G)(hq:(q,a)∈B):By bb bl B L (PB++[((q,l),v)]) PL (aC G a (.aZ ao ((cB PB q++[(l,v)]).map qK))):=by
 have ga:=w.ob _ hq;refine⟨?_,?_,λz hz=>?_,λz hz=>?_,w.nb,w.nl,w.ab,w.al,w.n1,w.n2⟩
 .rw[aH λe=>by have:=w.hb;rw[e,ga]at this;cases this];exact w.hb
 .rw[aH λe=>w.n2 (by rw[e];exact dh.mpr ⟨_,hq,rfl⟩)];exact w.hl
 .rw[aJ5];by_cases e:z.2=a
  .have:=Em w.ab hz hq e;subst this;rw[aB,if_pos rfl]
  .rw[aH e,if_neg λe2=>e (congrArg (·.2) (Em w.nb hz hq e2.symm))];exact w.ob z hz
 .rw[aH λe=>by have:=w.ol z hz;rw[e,ga]at this;cases this];exact w.ol z hz
def By.putL{a:bw}(w:By bb bl B L PB PL G)(hq:(l,a)∈L):By bb bl B L PB (PL++[((q,l),v)]) (aC G a (.aZ ak ((cL PL l++[(q,v)]).map JP))):=by
 have ga:=w.ol _ hq;refine⟨?_,?_,λz hz=>?_,λz hz=>?_,w.nb,w.nl,w.ab,w.al,w.n1,w.n2⟩
 .rw[aH λe=>w.n1 (by rw[e];exact dh.mpr ⟨_,hq,rfl⟩)];exact w.hb
 .rw[aH λe=>by have:=w.hl;rw[e,ga]at this;cases this];exact w.hl
 .rw[aH λe=>by have:=w.ob z hz;rw[e,ga]at this;cases this];exact w.ob z hz
 .rw[aJ6];by_cases e:z.2=a
  .have:=Em w.al hz hq e;subst this;rw[aB,if_pos rfl]
  .rw[aH e,if_neg λe2=>e (congrArg (·.2) (Em w.nl hz hq e2.symm))];exact w.ol z hz
end
section
variable{bl:bw}{B:List ((Int×Int)×Addr)}{L:List (Int×bw)}{PB PL:List Wk}{l:Int}
def By.vb{a:bw}(w:By bb bl B L PB PL G)(h:(q,a)∈B):aJ (B.map bD) (.inr (kq q))=aj (.ref a) :=
 jT (z:=bD (q,a)) (by rw[jt];exact vf.mpr ((vf.mp w.nb).imp λn e=>n (En (Sum.inr.inj e)))) (dh.mpr ⟨_,h,rfl⟩)
def By.W4(h:q∉B.map (·.1)):aJ (B.map bD) (.inr (kq q))=bh:=fK.mpr λm=>by
 let⟨y,hy,e⟩:=dh.mp m;let⟨z,hz,rfl⟩:=dh.mp hy;exact h (dh.mpr ⟨z,hz,En (Sum.inr.inj e)⟩)
def By.vl{a:bw}(w:By bb bl B L PB PL G)(h:(l,a)∈L):aJ (L.map lD) (.inl (.inl l))=aj (.ref a) :=
 jT (z:=lD (l,a)) (by rw[jt];exact vf.mpr ((vf.mp w.nl).imp λn e=>n (Sum.inl.inj (Sum.inl.inj e)))) (dh.mpr ⟨_,h,rfl⟩)
def By.W3(h:l∉L.map (·.1)):aJ (L.map lD) (.inl (.inl l))=bh:=fK.mpr λm=>by
 let⟨y,hy,e⟩:=dh.mp m;let⟨z,hz,rfl⟩:=dh.mp hy;exact h (dh.mpr ⟨z,hz,Sum.inl.inj (Sum.inl.inj e)⟩)
def By.Xn(w:By bb bl B L PB PL G)(hB:B.length<1000)(he:G e=bh)(h0:q∉B.map (·.1)->∀z∈PB,z.1.1≠q)(h:∀B' G',By bb bl B' L PB PL G'->(∃a,(q,a)∈B')->B'.length<=B.length+1->(∀q',q'∈B'.map (·.1)↔q'∈B.map (·.1)∨q'=q)->(∀z∈B',z∈B∨G z.2=bh)->(∀p u,p≠bb->G p=aj u->G' p=aj u)->∀d,R d G'):p9 (.ref bb) [eY q,.ref e] (aC G e (.aZ ao [])) R:=by
 have big:10000<dg:=by decide
 have l1:=Le.new (o:=.aZ ao []) he;by_cases c:q∈B.map (·.1)
 .obtain⟨⟨q',a⟩,hz,rfl⟩:=dh.mp c;rw[RF (l1 _ _ w.hb) rfl rfl (by rw[dw];omega) (w.vb hz)];exact h B _ (w.le l1) ⟨a,hz⟩ ⋯ (λq2=>⟨.inl,λz=>z.elim id λz=>by rw[z];exact c⟩) (λz hz=>.inl hz) (λp u _ e=>l1 _ _ e) _
 .rw[RG (l1 _ _ w.hb) rfl rfl (by rw[dw];omega) (By.W4 c)];have w2:=w.aS8 he c (h0 c);rw[jk]at w2;exact h _ _ w2 ⟨e,by simp⟩ (by simp) (λq2=>by rw[jk];simp) (λz hz=>(qj.mp hz).imp id λhz=>by rw[jw.mp hz];exact he) (λp u n e=>by rw[aH n];exact l1 _ _ e) _
def aC7{y:D}{k:DK}(h:G p=aj (.aZ ao kvs))(hk:xX y=aj k)(ht:pY k=ao)(hl:kvs.length<dg)(e:aJ kvs k=bh):sM (.ref p) [y,z] G R=R z (aC G p (.aZ ao (kvs++[(k,z)]))):=by
 unfold L2.sM;simp only;rw[jW h hk ht];simp only[e,IF e];exact propext ⟨λw=>w.2.2,λw=>⟨trivial,hl,w⟩⟩
def aC8{y:D}{k:DK}(h:G p=aj (.aZ ao kvs))(hk:xX y=aj k)(ht:pY k=ao)(hl:kvs.length<dg)(e:aJ kvs k=aj d):sM (.ref p) [y,z] G R=R d G:=by
 unfold L2.sM;simp only;rw[jW h hk ht];simp only[e];exact propext ⟨λw=>w.2.2,λw=>⟨trivial,hl,w⟩⟩
def By.Xm(w:By bb bl B L PB PL G)(hL:L.length<1000)(he:G e=bh)(h0:l∉L.map (·.1)->∀z∈PL,z.1.2≠l)(h:∀L' G',By bb bl B L' PB PL G'->(∃a,(l,a)∈L')->L'.length<=L.length+1->(∀l',l'∈L'.map (·.1)↔l'∈L.map (·.1)∨l'=l)->(∀z∈L',z∈L∨G z.2=bh)->(∀p u,p≠bl->G p=aj u->G' p=aj u)->∀d,R d G'):sM (.ref bl) [.int l,.ref e] (aC G e (.aZ ak [])) R:=by
 have big:10000<dg:=by decide
 have l1:=Le.new (o:=.aZ ak []) he;by_cases c:l∈L.map (·.1)
 .obtain⟨⟨l',a⟩,hz,rfl⟩:=dh.mp c;rw[aC8 (l1 _ _ w.hl) rfl rfl (by rw[dw];omega) (w.vl hz)];exact h L _ (w.le l1) ⟨a,hz⟩ ⋯ (λq2=>⟨.inl,λz=>z.elim id λz=>by rw[z];exact c⟩) (λz hz=>.inl hz) (λp u _ e=>l1 _ _ e) _
 .rw[aC7 (l1 _ _ w.hl) rfl rfl (by rw[dw];omega) (By.W3 c)];have w2:=w.OA he c (h0 c);rw[jk]at w2;exact h _ _ w2 ⟨e,by simp⟩ (by simp) (λq2=>by rw[jk];simp) (λz hz=>(qj.mp hz).imp id λhz=>by rw[jw.mp hz];exact he) (λp u n e=>by rw[aH n];exact l1 _ _ e) _
def By.Xd{a:bw}(w:By bb bl B L PB PL G)(hq:(q,a)∈B)(hp:PB.length<1000)(hn:∀z∈PB,z.1≠(q,l))(h:∀G',By bb bl B L (PB++[((q,l),v)]) PL G'->(∀p u,p≠a->G p=aj u->G' p=aj u)->F.nx ρ G'):B4 (.ref a) (.int l) (.int v) F ρ G:=by
 have big:10000<dg:=by decide
 have lc:(cB PB q).length<=PB.length:=by unfold cB;rw[dw];exact uh _ _
 rw[HS (w.ob _ hq) rfl rfl (by rw[dw];show(cB PB q).length<dg;omega),IF (fK.mpr λm=>?_)]
 .have:=w.aS9 (l:=l) (v:=v) hq;rw[jk]at this;exact h _ this λp u n e=>by rw[aH n];exact e
 .obtain⟨y,hy,e⟩:=dh.mp m;let⟨x,hx,rfl⟩:=dh.mp hy;unfold cB at hx;let⟨z,hz,rfl⟩:=dh.mp hx;let⟨h1,h2⟩:=kj.mp hz;exact hn z h1 (Prod.ext (of_decide_eq_true h2) (Sum.inl.inj (Sum.inl.inj e)))
def By.Xc{a:bw}(w:By bb bl B L PB PL G)(hq:(l,a)∈L)(hp:PL.length<1000)(hn:∀z∈PL,z.1≠(q,l))(h:∀G',By bb bl B L PB (PL++[((q,l),v)]) G'->(∀p u,p≠a->G p=aj u->G' p=aj u)->F.nx ρ G'):B4 (.ref a) (eY q) (.int v) F ρ G:=by
 have big:10000<dg:=by decide
 have lc:(cL PL l).length<=PL.length:=by unfold cL;rw[dw];exact uh _ _
 rw[HS (k:=.inr (kq q)) (w.ol _ hq) rfl rfl (by rw[dw];show(cL PL l).length<dg;omega),IF (fK.mpr λm=>?_)]
 .have:=w.putL (q:=q) (v:=v) hq;rw[jk]at this;exact h _ this λp u n e=>by rw[aH n];exact e
 .obtain⟨y,hy,e⟩:=dh.mp m;let⟨x,hx,rfl⟩:=dh.mp hy;unfold cL at hx;let⟨z,hz,rfl⟩:=dh.mp hx;let⟨h1,h2⟩:=kj.mp hz;exact hn z h1 (Prod.ext (En (Sum.inr.inj e)) (of_decide_eq_true h2))
end
structure Bt(G0:Gp)(bb bl:bw)(P:List Wk)(B:List ((Int×Int)×Addr))(L:List (Int×bw))(PB PL:List Wk)(G:Gp):Prop where
 w:By bb bl B L PB PL G
 lb:B.length<=P.length
 ll:L.length<=P.length
 kb:∀q,q∈B.map (·.1)↔∃z∈P,z.1.1=q
 kl:∀l,l∈L.map (·.1)↔∃z∈P,z.1.2=l
 fb:∀z∈B,G0 z.2=bh
 fl:∀z∈L,G0 z.2=bh
 kp:∀p u,p≠bb->p≠bl->G0 p=aj u->G p=aj u
section
variable{m bl:bw}{W P:List Wk}{B:List ((Int×Int)×Addr)}{z:Wk}{F:eU}{ex:bL->eX}
def Bt.fr(w:Bt G0 bb bl P B L PB PL G)(h:G e=bh):G0 e=bh:=by
 cases e1:G0 e with
 |none=>rfl
 |some u =>
  have:=w.kp e u (λz=>by have:=w.w.hb;rw[←z,h]at this;cases this) (λz=>by have:=w.w.hl;rw[←z,h]at this;cases this) e1;rw[h]at this;cases this
def Qm:PW (P++[z])=if 0<z.2 then PW P++[z]else PW P:=by
 unfold PW;by_cases c:0<z.2<;>simp[c]
def B7{y:Wk}(h:y∈PW P):y∈P:=(kj.mp h).1
def aC9(hm:G0 m=aj (.ej od (wN W)))(nm:m≠bb/\m≠bl)(nd:(W.map (·.1)).Nodup)(hz:z∈W)(hn:∀y∈P,y.1≠z.1)(hP:P.length<900)(w:Bt G0 bb bl P B L (PW P) (PW P) G)
  (h:∀B' L' G',Bt G0 bb bl (P++[z]) B' L' (PW (P++[z])) (PW (P++[z])) G'->F.nx [r0,r1,r2,r3,r4,aj (.ref m),aj (.ref bb),aj (.ref bl),aj (zD z.1),r9,jb] G') :
  MJ K A ex F [r0,r1,r2,r3,r4,aj (.ref m),aj (.ref bb),aj (.ref bl),aj (zD z.1),r9,jb] G:=by
 have lp:(PW P).length<=P.length:=uh _ _;have lb:=w.lb;have ll:=w.ll;exists MJ,gZ w.w.hb;intro e he;refine w.w.Xn (q:=z.1.1) ⋯ he (λc y hy e=>c ((w.kb _).mpr ⟨y,B7 hy,e⟩)) λB' G1 w1 ⟨a,ha⟩ l1 k1 f1 p1 d1=>?_;exists UK,gZ w1.hl;intro e2 X9;refine w1.Xm (l:=z.1.2) ⋯ X9 (λc y hy e=>c ((w.kl _).mpr ⟨y,B7 hy,e⟩)) λL' G2 w2 ⟨a2,Bm⟩ l2 k2 f2 p2 d2=>?_
 have t2:Bt G0 bb bl (P++[z]) B' L' (PW P) (PW P) G2:=by
  refine⟨w2,by simp;omega,by simp;omega,λq=>?_,λl=>?_,λy hy=>?_,λy hy=>?_,λp u n1 n2 e=>p2 _ _ n2 (p1 _ _ n1 (w.kp _ _ n1 n2 e))⟩
  .rw[k1,w.kb];simp[or_and_right,exists_or,eq_comm]
  .rw[k2,w.kl];simp[or_and_right,exists_or,eq_comm]
  .exact(f1 y hy).elim (w.fb y) w.fr
  .refine(f2 y hy).elim (w.fl y) λe=>?_;cases e1:G0 y.2 with
   |none=>rfl
   |some u =>
    have:=p1 y.2 u (λz=>by have:=w1.hb;rw[←z,e]at this;cases this) (w.kp y.2 u (λz=>by have:=w1.hb;rw[←z,e]at this;cases this) (λz=>by have:=w1.hl;rw[←z,e]at this;cases this) e1);rw[e]at this;cases this
 clear p1 p2 k1 k2 f1 f2 d1 d2 l1 l2;have js:oy G2 m (wN W):=.inr ⟨od,t2.kp _ _ nm.1 nm.2 hm⟩;exists UL;refine Hu nd hz js ?_;symm;by_cases c:0<z.2
 .rw[if_pos (decide_eq_true c)];refine Hu nd hz js ?_;symm;rw[mF (k:=.inr (kq z.1.1)) t2.w.hb rfl rfl (t2.w.vb ha)];symm;refine t2.w.Xd (v:=z.2) ha ⋯ (λy hy=>hn y (B7 hy)) λG3 w3 p3=>?_;have k3:∀p u,p≠bb->p≠bl->G0 p=aj u->G3 p=aj u:=λp u n1 n2 e=>p3 _ _ (λe2=>by have:=t2.fb _ ha;rw[←e2,e]at this;cases this) (t2.kp _ _ n1 n2 e);have X2:oy G3 m (wN W):=.inr ⟨od,k3 _ _ nm.1 nm.2 hm⟩;exists Wx;refine Hu nd hz X2 ?_;symm;rw[mF (k:=.inl (.inl z.1.2)) w3.hl rfl rfl (w3.vl Bm)];symm;refine w3.Xc (v:=z.2) Bm ⋯ (λy hy=>hn y (B7 hy)) λG4 w4 p4=>h B' L' G4 ?_;rw[Qm,if_pos c];exact⟨w4,t2.lb,t2.ll,t2.kb,t2.kl,t2.fb,t2.fl,λp u n1 n2 e=>p4 _ _ (λe2=>by have:=t2.fl _ Bm;rw[←e2,e]at this;cases this) (k3 _ _ n1 n2 e)⟩
 .rw[if_neg (by simpa using c)];refine h B' L' G2 ?_;rw[Qm,if_neg c];exact t2
end
def ZP{tg:qv}{kvs:List (NK×Int)}(P:Nat->bL->Gp->Prop)(h0:P 0 ρ G)(hs:∀k ρ G,P k ρ G->G p=aj (.ej od kvs))
  (hb:∀k q ρ G,kvs[k]?=aj q->P k ρ G->tg (dy q.1) ρ λb9=>tb {F with nx:=P (k+1),ct:=P (k+1),bk:=F.nx} b9 G)(he:∀ρ G,P kvs.length ρ G->F.nx ρ G):GZ (.oz p od kvs) tg tb F ρ G :=
 ⟨P,h0,λk ρ G _ p=>hs k ρ G p,λk d ρ G hd p=>by
  have hd:(kvs.map λz=>dy z.1)[k]?=aj d:=hd;rw[qu]at hd;let⟨q,e,rfl⟩:=CA.mp hd;exact hb k q ρ G e p,λρ G p=>he ρ G (by simpa[Src.items]using p)⟩
section
variable{m bl:bw}{W:List Wk}{F:eU}{ex:bL->eX}
def aCA(hm:G m=aj (.uR (wN W)))(nd:(W.map (·.1)).Nodup)(hW:W.length<900)(hb:G bb=aj (.aZ ak []))(hl:G bl=aj (.aZ ao []))
  (h:∀od B L G' r8,Bt (aC G m (.ej od (wN W))) bb bl W B L (PW W) (PW W) G'->Ik K A ex F [r0,r1,r2,r3,r4,aj (.ref m),aj (.ref bb),aj (.ref bl),r8,r9,jb] G') :
  Ml K A ex F [r0,r1,r2,r3,r4,aj (.ref m),aj (.ref bb),aj (.ref bl),r8,r9,jb] G:=by
 have n1:m≠bb:=λe=>by rw[e,hb]at hm;cases hm
 have n2:m≠bl:=λe=>by rw[e,hl]at hm;cases hm
 exists Ml;refine⟨_,hm,λod=>?_⟩;have js:aC G m (.ej od (wN W)) m=aj (.ej od (wN W)):=aB;have PX:aC G m (.ej od (wN W)) bb=aj (.aZ ak []):=by rw[aH n1.symm];exact hb
 have rq:aC G m (.ej od (wN W)) bl=aj (.aZ ao []):=by rw[aH n2.symm];exact hl
 have h':=h od;clear h;generalize aC G m (.ej od (wN W))=G0 at js PX rq h' ⊢;refine ZP (λk ρ G'=>∃r8 B L,ρ=[r0,r1,r2,r3,r4,aj (.ref m),aj (.ref bb),aj (.ref bl),r8,r9,jb]/\Bt G0 bb bl (W.take k) B L (PW (W.take k)) (PW (W.take k)) G') ⟨_,[],[],rfl,⟨⟨PX,rq,nofun,nofun,tj,tj,tj,tj,(by simp),by simp⟩,(by simp),(by simp),(by simp),(by simp),nofun,nofun,λp u _ _ e=>e⟩⟩ (λk ρ G' z=>?_) (λk q ρ G' hq z=>?_) λρ G' z=>?_
 .obtain⟨r8,B,L,rfl,w⟩:=z;exact w.kp _ _ n1 n2 js
 .obtain⟨r8,B,L,rfl,w⟩:=z;have u7:(W.map λz=>(nk z.1,z.2))[k]?=aj q:=hq;rw[qu]at u7;let⟨z,hz,rfl⟩:=CA.mp u7;let⟨hk,ez⟩:=iz.mp hz;have et:W.take (k+1)=W.take k++[z]:=by rw[List.take_add_one,hz];rfl
  symm;refine aC9 js ⟨n1,n2⟩ nd (jm hz) (λy hy e=>?_) (by simp;omega) w λB' L' G3 w3=>⟨_,B',L',rfl,by rw[et];exact w3⟩;let⟨i,hi,e2⟩:=List.getElem_of_mem hy;have Gv:i<k:=by simp at hi;omega
  rw[List.getElem_take]at e2;have:=uw.mp nd i k (by simp;omega) (by simpa using hk) Gv;simp only[List.getElem_map]at this;exact this (by rw[e2,ez,e])
 .obtain⟨r8,B,L,rfl,w⟩:=z;have el:(wN W).length=W.length:=dw ..;rw[el,xn]at w;exact h' B L G' r8 w
end
structure Al(A:kX)(x y g:Nat)(room:Int)(sh st bb bl:bw)(M:List (List Key×bw))(c:bw->List (Int×Int))(W:List Wk)(B:List ((Int×Int)×Addr))(L:List (Int×bw))(G:Gp):Prop where
 s:SH A sh x y g room st M c G
 v:c8 room W.length M c
 r:Ro M c W
 w:By bb bl B L (PW W) (PW W) G
 hw:W.length<128
 hr:0<=room
def Al.le{sh st bl:bw}{W:List Wk}{B:List ((Int×Int)×Addr)}(a:Al A x y g room sh st bb bl M c W B L G)(l:Le G G'):Al A x y g room sh st bb bl M c W B L G':=⟨a.s.le l,a.v,a.r,a.w.le l,a.hw,a.hr⟩
def Lx{W:List Wk}:(l,v)∈cB W q↔((q,l),v)∈W:=by
 unfold cB;constructor
 .intro h;let⟨z,hz,e⟩:=dh.mp h;let⟨h1,h2⟩:=kj.mp hz;have h2:=of_decide_eq_true h2;cases e;rw[←h2];exact h1
 .exact λh=>dh.mpr ⟨_,kj.mpr ⟨h,decide_eq_true rfl⟩,rfl⟩
def Ql{W:List Wk}:(q,v)∈cL W l↔((q,l),v)∈W:=by
 unfold cL;constructor
 .intro h;let⟨z,hz,e⟩:=dh.mp h;let⟨h1,h2⟩:=kj.mp hz;have h2:=of_decide_eq_true h2;cases e;rw[←h2];exact h1
 .exact λh=>dh.mpr ⟨_,kj.mpr ⟨h,decide_eq_true rfl⟩,rfl⟩
def Lw{W:List Wk}:(cB W q).length<=W.length:=by unfold cB;rw[dw];exact uh _ _
def aJ7{W:List Wk}:(cL W l).length<=W.length:=by unfold cL;rw[dw];exact uh _ _
def Qk{W:List Wk}{qs:List (Int×Int)}(h:qs.Perm (cB W q))(r:dJ qs):qE W q qs:=⟨r,λl v=>h.mem_iff.trans Lx⟩
def aJ8{W:List Wk}{ws:List ((Int×Int)×Int)}(h:ws.Perm (cL W l))(r:ws.Pairwise λa b=>uD a.1 b.1):Fl W l ws:=⟨r,λq v=>h.mem_iff.trans Ql⟩
def Al.sum{sh st bl:bw}{W:List Wk}{B:List ((Int×Int)×Addr)}(a:Al A x y g room sh st bb bl M c W B L G){qs:List (Int×Int)}(h:qs.Perm (cB (PW W) q)):((dM M c (kq q)).map (·.2)).sum=(qs.map (·.2)).sum:=by
 have e1:uN (dM M c (kq q))=jS W q:=a.r.sum a.v a.hr q;have e2:uN qs=uN (cB (PW W) q):=SG h
 have e3:uN (cB (PW W) q)=jS (PW W) q:=by
  unfold cB jS uN;rw[jt];rfl
 have e4:=Ly (s:=q) (W:=W) λz hz=>a.r.nn a.v a.hr hz;exact e1.trans (e4.symm.trans (e3.symm.trans e2.symm))
def Vj{n:Nat}{qs:List (Int×Int)}:∀x∈qs.map eY,okN G (n+1) x x=ak:=λx hx=>by
 let⟨q,_,rfl⟩:=dh.mp hx;cases n<;>rfl
def aO8{n:Nat}{qs:List ((Int×Int)×Int)}:∀x∈qs.map De,okN G (n+2) x x=ak:=λx hx=>by
 let⟨q,_,rfl⟩:=dh.mp hx;cases n<;>rfl
def SF(h1:G p=aj (.lst xs))(h2:G r=aj (.lst xs))(ok:∀z∈xs,okN G 4 z z=ak)(h:R (.bl ao) G):w9 (.ref p) (.ref r) G R:=by
 rw[RL (dU h1) (dU h2)];let⟨a,b⟩:=Mf (n:=4) ok;refine⟨a,?_⟩;rw[show BI G xs xs=ak from b];exact h
section
variable{sh st bl:bw}{W:List Wk}{B:List ((Int×Int)×Addr)}{F:eU}{ex:bL->eX}
def aCB(w:Al A x y g room sh st bb bl M c W B L G){a:bw}(ha:(l,a)∈L)(hl:0<=l/\l<=999)(nd:((cL (PW W) l).map (·.1)).Nodup)(hb:∀p∈(cL (PW W) l).map (·.1),-1000<=p.2/\p.2<=1000)(h:∀G',Le G G'->F.nx [aj (.ref sh),aj (.ref bb),aj (.ref bl),r3,r4,r5,r6,r7,aj (.int l)] G') :
  uK K A ex F [aj (.ref sh),aj (.ref bb),aj (.ref bl),r3,r4,r5,r6,r7,aj (.int l)] G:=by
 have hw:=w.hw;exists uK;refine⟨by rw[oG w.s.sh (m:="places") rfl];trivial,?_⟩;refine arA w.s w.v w.hw w.hr (w.r.rl w.v w.hr) hl λrr ws G1 l1 f1 e1 i1 _=>?_;symm;have w1:=w.w.le l1;rw[mF (k:=.inl (.inl l)) w1.hl rfl rfl (w1.vl ha)];symm;refine aS1 nd (uc aJ7 (Ht w.hw)) hb (w1.ol _ ha) λW0 r hr pm ri=>?_;have e2:=i1.eq (aJ8 pm ri);subst e2;refine SF ((Le.new hr) _ _ e1) aB aO8 ?_;symm;exact h _ (l1.trans (.new hr))
def aCC(w:Al A x y g room sh st bb bl M c W B L G){q:Int×Int}{a:bw}(ha:(q,a)∈B)(b:fw x y q.1 q.2)(h:∀G' r7,Le G G'->F.nx [aj (.ref sh),aj (.ref bb),aj (.ref bl),r3,r4,r5,aj (eY q),r7,r8] G') :
  uJ K A ex F [aj (.ref sh),aj (.ref bb),aj (.ref bl),r3,r4,r5,aj (eY q),r7,r8] G:=by
 have big:10000<dg:=by decide
 have hw:=w.hw;exists uJ;rw[mF (k:=.inr (kq q)) w.w.hb rfl rfl (w.w.vb ha)];symm;refine IE (w.w.ob _ ha) (uc Lw (Ht w.hw)) λqs pq ri r hr=>?_;have l1:Le G (aC G r (.lst (qs.map eY))):=.new hr;have w1:=w.le l1;have e1:aC G r (.lst (qs.map eY)) r=aj (.lst (qs.map eY)):=aB;have lq:qs.length<128:=by rw[pq.length_eq];exact uc Lw (Ht w.hw)
 generalize aC G r (.lst (qs.map eY))=G1 at l1 w1 e1 ⊢;exists xT;refine⟨by rw[oG w1.s.sh (m:="filled") rfl];trivial,?_⟩;refine SN w1.s b λG2 l2=>?_;rw[show((dM M c (L9.ky q.1 q.2)).map (·.2)).sum=(qs.map (·.2)).sum from w.sum pq];symm;rw[IG (dU (l2 _ _ e1))]
 refine comp_map (λd=>match d with
  |.tup [_,y]=>y
  |_=>.ag) (by show(qs.map eY).length<dg;rw[dw];omega) (dU (l2 _ _ e1)) (λd hd G3 l3 Q hQ=>?_) λp hp=>?_
 .obtain⟨u,_,rfl⟩:=dh.mp (show d∈qs.map eY from hd);symm;exact hQ _ (.refl _)
 have e3:(Src.items (.lst r (qs.map eY))).map (λd=>match d with
  |.tup [_,y]=>y
  |_=>.ag)=(qs.map (·.2)).map D.int:=by
  show(qs.map eY).map _=_;rw[jt,jt];rfl
 rw[e3];have l3:Le G2 (aC G2 p (.lst ((qs.map (·.2)).map D.int))):=.new hp;rw[Vq dB];generalize aC G2 p _=G3 at l3 ⊢;rw[RO];have w3:=w1.le (l2.trans l3);have e4:=l3 _ _ (l2 _ _ e1);rw[show(!((qs.map (·.2)).sum==(qs.map (·.2)).sum))=ao by simp];symm;refine⟨by rw[oG w3.s.sh (m:="held") rfl];trivial,?_⟩;refine aC4 w3.s w3.v w3.hw w3.hr (w3.r.rl w3.v w3.hr) b λrr ui G4 l4 f4 g4 i4 _=>?_;have e5:=i4.eq (Qk pq ri);subst e5;refine SF g4 (l4 _ _ e4) Vj ?_;symm;exact h _ _ (l1.trans (l2.trans (l3.trans l4)))
end
section
variable{sh st bl:bw}{W:List Wk}{B:List ((Int×Int)×Addr)}{L:List (Int×bw)}{F:eU}{ex:bL->eX}
structure CU(x y:Nat)(W:List Wk)(B:List ((Int×Int)×Addr))(L:List (Int×bw)):Prop where
 b:∀z∈B,fw x y z.1.1 z.1.2
 l:∀z∈L,0<=z.1/\z.1<=999
 nd:(W.map (·.1)).Nodup
 wk:∀z∈W,-1000<=z.1.1.2/\z.1.1.2<=1000
 lb:B.length<128
 ll:L.length<128
def aO9(nd:(W.map (·.1)).Nodup):((cL (PW W) l).map (·.1)).Nodup:=by
 unfold cL;rw[jt];refine Qt (Vl nd) λa _ b _ ha hb e=>?_;exact Prod.ext e ((of_decide_eq_true ha).trans (of_decide_eq_true hb).symm)
def TV(w:Al A x y g room sh st bb bl M c W B L G)(o:CU x y W B L)(h4:G p4=aj (.lst ls))(Dz:∀d∈ls,∃z∈L,d=.int z.1)(h5:G p5=aj (.lst ss))(Du:∀d∈ss,∃z∈B,d=eY z.1)(h:∀G',Le G G'->F.rt (.bl ak) G') :
  wR K A ex F [aj (.ref sh),aj (.ref bb),aj (.ref bl),r3,aj (.ref p4),aj (.ref p5),r6,r7,r8] G:=by
 exists wR;rw[NP (dU h5)];refine Nt (λk ρ G'=>∃r6 r7 r8,ρ=[aj (.ref sh),aj (.ref bb),aj (.ref bl),r3,aj (.ref p4),aj (.ref p5),r6,r7,r8]/\Le G G') ⟨_,_,_,rfl,.refl _⟩ (λk ρ G' z=>?_) (λk d ρ G' hd z=>?_) λρ G' z=>?_
 .obtain⟨_,_,_,_,l⟩:=z;exact dU (l _ _ h5)
 .obtain⟨r6,r7,r8,rfl,l⟩:=z;let⟨z,hz,rfl⟩:=Du d (jm hd);symm;exact aCC (w.le l) (q:=z.1) (a:=z.2) hz (o.b z hz) λG2 r7 l2=>⟨_,_,_,rfl,l.trans l2⟩
 let⟨r6,r7,r8,rfl,l⟩:=z;exists Wr;rw[NP (dU (l _ _ h4))];refine Nt (λk ρ G'=>∃r8,ρ=[aj (.ref sh),aj (.ref bb),aj (.ref bl),r3,aj (.ref p4),aj (.ref p5),r6,r7,r8]/\Le G G') ⟨_,rfl,l⟩ (λk ρ G' z=>?_) (λk d ρ G' hd z=>?_) λρ G' z=>?_
 .obtain⟨_,_,l⟩:=z;exact dU (l _ _ h4)
 .obtain⟨r8,rfl,l⟩:=z;let⟨z,hz,rfl⟩:=Dz d (jm hd);symm;refine aCB (w.le l) (l:=z.1) (a:=z.2) hz (o.l z hz) (aO9 o.nd) (λp hp=>?_) λG2 l2=>⟨_,rfl,l.trans l2⟩;let⟨u,hu,rfl⟩:=dh.mp hp;exact o.wk _ (B7 (Ql.mp hu))
 let⟨r8,rfl,l⟩:=z;exists Ws;exact h _ l
end
section
variable{sh st bl:bw}{W:List Wk}{B:List ((Int×Int)×Addr)}
def ZO{q:Array Nat}(P:Pm ns.length q):∀d∈q.toList.map (λi=>(ns.map D.int).getD i .ag),∃n∈ns,d=.int n:=λd hd=>by
 let⟨i,hi,rfl⟩:=dh.mp hd;have lt:i<ns.length:=zq.mp (P.perm.mem_iff.mp hi);exact⟨ns[i],yh lt,by simp[ug,lt]⟩
def w_all(w:Al A x y g room sh st bb bl M c W B L G)(o:CU x y W B L){tu:Bool}(h:∀G',R (.bl ak) G'):tX K A [.ref sh,.ref bb,.ref bl,.bl tu] G R EX:=by
 refine⟨rfl,?_⟩;have h':∀G',aY R (.bl ak) G':=λG'=>aY.here (h G');clear h;show Oh K A _ _ [aj (.ref sh),aj (.ref bb),aj (.ref bl),aj (.bl tu),bh,bh,bh,bh,bh] G;exists Oh;refine .inr ⟨bl,_,L.map (·.1),rfl,w.w.hl,by rw[jt,jt];rfl,w.w.nl,by rw[dw];exact o.ll,λq P p4 XY=>?_⟩
 have Dz:∀d∈q.toList.map (λi=>((L.map (·.1)).map D.int).getD i .ag),∃z∈L,d=.int z.1:=λd hd=>by
  let⟨n,hn,e⟩:=ZO P d hd;let⟨z,hz,rfl⟩:=dh.mp hn;exact⟨z,hz,e⟩
 generalize q.toList.map (λi=>((L.map (·.1)).map D.int).getD i .ag)=ls at Dz ⊢;have l1:Le G (aC G p4 (.lst ls)):=.new XY;have h4:aC G p4 (.lst ls) p4=aj (.lst ls):=aB;have w1:=w.le l1;generalize aC G p4 (.lst ls)=G1 at l1 h4 w1 ⊢;exists Wq;refine Nr (ps:=B.map (·.1)) w1.w.hb (by rw[jt,jt];rfl) w.w.nb (by rw[dw];exact o.lb) λqs pm _ p5 Bf=>?_
 have Du:∀d∈qs.map eY,∃z∈B,d=eY z.1:=λd hd=>by
  let⟨n,hn,e⟩:=dh.mp hd;let⟨z,hz,rfl⟩:=dh.mp (pm.mem_iff.mp hn);exact⟨z,hz,e.symm⟩
 generalize qs.map eY=ss at Du ⊢;have l2:Le G1 (aC G1 p5 (.lst ss)):=.new Bf;have h5:aC G1 p5 (.lst ss) p5=aj (.lst ss):=aB;have w2:=w1.le l2;have Kv:=l2 _ _ h4;generalize aC G1 p5 (.lst ss)=G2 at l2 h5 w2 Kv ⊢;cases tu with
 |false =>
  exists wU;exact TV w2 o Kv Dz h5 Du λG' _=>h' G'
 |true =>
  exists wU;rw[Vp (dU Kv)];intro p6 XX;have l3:Le G2 (aC G2 p6 (.lst ls.reverse)):=.new XX;have h6:aC G2 p6 (.lst ls.reverse) p6=aj (.lst ls.reverse):=aB;have Qc:=l3 _ _ h5;have w3:=w2.le l3;generalize aC G2 p6 _=G3 at l3 h6 Qc w3 ⊢;exists xR;rw[Vp (dU Qc)];intro p7 XW;have l4:Le G3 (aC G3 p7 (.lst ss.reverse)):=.new XW;symm;exact TV (w3.le l4) o (l4 _ _ h6) (λd hd=>Dz d (Cv.mp hd)) aB (λd hd=>Du d (Cv.mp hd)) λG' _=>h' G'
end
def aCD(cc:D->Bool)(P:D->D->Gp->Prop)(hm:∀d y G G',Le G G'->P d y G->P d y G')(hl:src.items.length<dg)(af:src.ok G)
  (hc:∀d∈src.items,∀G',Le G G'->∀Q:Bool->Gp->Prop,(∀d6,Le G' d6->Q (cc d) d6)->tc (aj d::ρ) G' Q)
  (he:∀d∈src.items,cc d=ak->∀G',Le G G'->∀Q:D->Gp->Prop,(∀y d6,Le G' d6->(∀p,G' p≠bh->P d y (eI d6 p))->Q y d6)->te (aj d::ρ) G' Q)
  (h:∀p ys G',Le G G'->G p=bh->G' p=aj (.lst ys)->Paired (λd y=>P d y (eI G' p)) (src.items.filter cc) ys->R (.ref p) G'):Aa mP src tc te ρ G R:=by
 refine⟨hl,λp hp=>⟨λk ds G'=>Paired (λd y=>P d y (eI G' p)) ((src.items.take k).filter cc) ds/\Le (aC G p (.lst ds)) G',⟨.nil,.refl _⟩,λk ds G' hk ⟨e,l⟩=>?_,λk d ds G' hd ⟨e,l⟩=>?_,λds G' ⟨e,l⟩=>?_⟩⟩
 .refine⟨K0 ((Le.new hp).trans l) af,l p _ aB,?_⟩;rw[←Paired.length e];have h1:=uh cc (src.items.take k);rw[E0]at h1;omega
 .have ht:src.items.take (k+1)=src.items.take k++[d]:=by
   rw[EK,hd];rfl
  refine⟨[d],rfl,hc d (jm hd) G' ((Le.new hp).trans l) _ λG2 l2=>?_⟩;have l3:=l.trans l2;have e2:=Paired.nv e λ_ _ z=>hm _ _ _ _ (Mg l2) z;cases c:cc d with
  |false =>
   rw[if_neg (by decide)];dsimp only;rw[ht,IZ,show[d].filter cc=[] by simp[c],Aq];exact⟨e2,l3⟩
  |true =>
   rw[if_pos rfl];refine he d (jm hd) c G2 ((Le.new hp).trans l3) _ λy G3 l4 hP=>?_;have l5:=l3.trans l4;refine⟨l5 p _ aB,?_,LB l5⟩
   have lu:Le (eI G3 p) (eI (aC G3 p (.lst (ds++[y]))) p):=λq u e=>by
    by_cases z:q=p
    .unfold eI at e;rw[if_pos z]at e;cases e
    .exact D0 z (Qw _ _ e)
   rw[ht,IZ,show[d].filter cc=[d] by simp[c]];exact UJ (Paired.nv e2 λ_ _ z=>hm _ _ _ _ ((Mg l4).trans lu) z) (.cons (hm _ _ _ _ lu (hP p (by rw[l3 p _ aB];simp))) .nil)
 .rw[xn]at e;exact⟨G',.refl _,h p ds G' ((Le.new hp).trans l) hp (l p _ aB) e⟩
def aJ9{a:bw}{ps:List (Int×Int)}(h1:G a=aj (.aZ ao (ps.map qK)))(h2:G e=aj (.aZ ao []))(h:R (.bl (!ps.isEmpty)) G):BX ak (.ref a) (.ref e) G R:=⟨a,e,ps,rfl,rfl,h1,h2,by rw[EI];exact h⟩
abbrev dq(d:D):Int×Int:=match d with
 |.tup [.int a,.int p]=>(a,p)
 |_=>(0,0)
abbrev AI(W:List Wk)(d y:D)(G:Gp):Prop:=∃q hs r,d=eY q/\y=.tup [eY q,.ref r]/\G r=aj (.lst (hs.map eY))/\qE (PW W) q hs
section
variable{sh st bl t:bw}{W:List Wk}{B:List ((Int×Int)×Addr)}{F:eU}{ex:bL->eX}
def aJB(w:Al A x y g room sh st bb bl M c W B L G)(o:CU x y W B L)
  (h:∀p ys qs G',Le G G'->G' p=aj (.lst ys)->qs.Perm (B.map (·.1))->dJ qs->Paired (λd y=>AI W d y (eI G' p)) ((qs.map eY).filter λd=>!(cB (PW W) (dq d)).isEmpty) ys->Il K A ex F [r0,r1,r2,r3,aj (.ref sh),r5,aj (.ref bb),aj (.ref bl),r8,aj (.ref t),aj (.ref p)] G') :
  MH K A ex F [r0,r1,r2,r3,aj (.ref sh),r5,aj (.ref bb),aj (.ref bl),r8,aj (.ref t),jb] G:=by
 have big:10000<dg:=by decide
 have hw:=w.hw;have lb:=o.lb;exists MH;refine Nr (ps:=B.map (·.1)) w.w.hb (by rw[jt,jt];rfl) w.w.nb (by rw[dw];exact o.lb) λqs pm ri p5 Bf=>?_;have lq:qs.length<128:=by rw[pm.length_eq,dw];exact o.lb
 have l1:Le G (aC G p5 (.lst (qs.map eY))):=.new Bf;have h5:aC G p5 (.lst (qs.map eY)) p5=aj (.lst (qs.map eY)):=aB;have w1:=w.le l1;generalize aC G p5 (.lst (qs.map eY))=G1 at l1 h5 w1 ⊢;rw[IG (dU h5)]
 have ha:∀d∈qs.map eY,∃q a,d=eY q/\(q,a)∈B:=λd hd=>by
  let⟨n,hn,rfl⟩:=dh.mp hd;let⟨z,hz,e⟩:=dh.mp (pm.mem_iff.mp hn);exact⟨n,z.2,rfl,by rw[←e];exact hz⟩
 refine aCD (λd=>!(cB (PW W) (dq d)).isEmpty) (AI W) (λd y G G' l ⟨q,hs,r,e1,e2,e3,e4⟩=>⟨q,hs,r,e1,e2,l _ _ e3,e4⟩) (by show(qs.map eY).length<dg;rw[dw];omega) (dU h5) (λd hd G2 l2 Q hQ=>?_) (λd hd _ G2 l2 Q hQ=>?_) λp ys G2 l2 _ hp hy=>h p ys qs G2 (l1.trans l2) hp pm ri hy
 .obtain⟨q,a,rfl,hz⟩:=ha d hd;have w2:=w1.le l2;symm;rw[mF (k:=.inr (kq q)) w2.w.hb rfl rfl (w2.w.vb hz)];symm;intro e he;refine aJ9 ((Le.new he) _ _ (w2.w.ob _ hz)) aB ?_;symm;exact hQ _ (.new he)
 .obtain⟨q,a,rfl,hz⟩:=ha d hd;have w2:=w1.le l2;symm;rw[mF (k:=.inr (kq q)) w2.w.hb rfl rfl (w2.w.vb hz)];symm;refine IE (w2.w.ob _ hz) (uc Lw (Ht w.hw)) λui pq Xr r hr=>?_;symm;refine hQ _ _ (.new hr) λp np=>⟨q,ui,r,rfl,rfl,D0 (λe=>np (by rw[←e];exact hr)) aB,Qk pq Xr⟩
end
section
variable{sh st bl t:bw}{W:List Wk}{B:List ((Int×Int)×Addr)}{F:eU}{ex:bL->eX}{c2:Int}
def aOA(d y:D)(G G':Gp)(l:Le G G')(h:AI W d y G):AI W d y G':=by
 let⟨q,hs,r,e1,e2,e3,e4⟩:=h;exact⟨q,hs,r,e1,e2,l _ _ e3,e4⟩
def aJC{ui:List (Int×Int)}{N:List (List Key×bw)}(w:Al A x y g room sh st bb bl M c W B L G0)(o:CU x y W B L)(l1:Le G0 G1)(ly:WN M c G0 t qs N c' G1)(l2:Le G1 G)(hp:G p=aj (.lst ys))(pm:ui.Perm (B.map (·.1)))(ri:dJ ui)(kb:∀z∈W,z.1.1∈B.map (·.1))(P:Paired (λd y=>AI W d y (eI G p)) ((ui.map eY).filter λd=>!(cB (PW W) (dq d)).isEmpty) ys)
  (h:∀G',F.rt (.bl ak) G') :
  Il K A ex F [r0,r1,aj (.int c2),r3,aj (.ref sh),r5,aj (.ref bb),aj (.ref bl),r8,aj (.ref t),aj (.ref p)] G:=by
 have big:10000<dg:=by decide
 have hw:=w.hw;have rl:=w.r.rl w.v w.hr;have tt:=l2 _ _ ly.tt;exists Il;rw[aBU tt];intro od;have l5:=aC5 (o:=.du od ak (N.map cE)) (l1.trans l2) ly.t0;have it:=am1 (t:=t) (od:=od) ly.kq
 have lq:qs.length<128:=by
  have e1:=congrArg Ak ly.kq;have e2:=ly.ke.length_eq;simp at e1 e2;have:=w.v.len;omega
 have out:∀q u,G q=aj u->(∀b kvs,u≠.aZ b kvs)∨(∃kvs,u=.aZ ao kvs)->aC G t (.du od ak (N.map cE)) q=aj u:=λq u e n=>by
  rw[aH λw=>?_]
  .exact e
  .rw[w,tt]at e;rcases n with n|⟨kvs,rfl⟩
   .exact n _ _ (ji.inj e).symm
   .cases e
 have iN:∀z∈N,aC G t (.du od ak (N.map cE)) z.2=aj (.aZ ao ((c' z.2).map qK)):=λz hz=>out _ _ (l2 _ _ (ly.ins z hz).1) (.inr ⟨_,rfl⟩);have Bf:=out _ _ hp (.inl λ_ _ z=>nomatch z)
 have P5:Paired (λd y=>AI W d y (aC G t (.du od ak (N.map cE)))) ((ui.filter λq=>!(cB (PW W) q).isEmpty).map eY) ys:=by
  rw[ET]at P;refine Paired.nv P λ_ _ z=>?_;let⟨q,hs,r,e1,e2,e3,e4⟩:=z;exact⟨q,hs,r,e1,e2,out _ _ (GW _ _ e3) (.inl λ_ _ z=>nomatch z),e4⟩
 have t5:aC G t (.du od ak (N.map cE)) t=aj (.du od ak (N.map cE)):=aB;clear out P;generalize aC G t (.du od ak (N.map cE))=G5 at l5 iN Bf P5 t5 ⊢;refine aC3 (AI W) aOA (by rw[it,dw];omega) t5 (λd hd G6 l6 Q hQ=>?_) λp5 es G8 l8 f8 g8 P8=>?_
 .rw[it]at hd;let⟨q,hq,rfl⟩:=dh.mp hd;symm;have mq:kq q∈N.map (·.1):=by rw[ly.kq];exact dh.mpr ⟨q,hq,rfl⟩
  let⟨z,hz,ez⟩:=dh.mp mq;have vd:aJ N (kq q)=aj z.2:=by rw[←ez];exact jT (ly.ke.nodup_iff.mpr w.v.kn) hz
  let⟨_,i2,i3,_⟩:=ly.ins z hz;rw[ez]at i2;rw[show eY q=.tup [.int q.1,.int q.2]from rfl,SX (aqV (l6 _ _ t5)) qN rfl (by rw[qO,vd];rfl)];symm;refine Z0 (l6 _ _ (iN z hz)) (by rw[i2.length_eq];have:=(qW (k:=kq q) w.hr w.v).2.2.2;omega) λl hl=>?_;symm;exact hQ (.tup [eY q,.ref l]) _ (.new hl) λp hp=>⟨q,c' z.2,l,rfl,rfl,D0 (λz=>hp (by rw[←z];exact hl)) aB,i3,λl' v=>i2.mem_iff.trans (rl.mem w.v w.hr)⟩
 rw[it]at P8;let⟨zs,z1,z2,z3⟩:=KU (W:=PW W) P8;let⟨zt,y1,y2,y3⟩:=KU (W:=PW W) P5;have XG:IsL (PW W) zs:=IsL.mk' ly.ri (λq=>Qu.symm.trans ((ly.kq ▸ ly.ke.mem_iff).trans (Qv w.v w.hr rl))) z1 z2;have aSA:IsL (PW W) zt:=IsL.mk' (xj.filter _ ri) (λq=>⟨λm=>?_,λm=>?_⟩) y1 y2
 .rw[aSA.eq XG]at y3;have la:=l5.trans l8;rw[RL (dU g8) (dU (l8 _ _ Bf))]
  have z4:Paired (λ(z:(Int×Int)×List (Int×Int)) e=>∃q,e=.tup [eY z.1,.ref q]/\G8 q=aj (.lst (z.2.map eY))) zs es:=Paired.nv z3 λ_ _ z=>by
   let⟨q,e,z⟩:=z;exact⟨q,e,GW _ _ z⟩
  have y4:Paired (λ(z:(Int×Int)×List (Int×Int)) e=>∃q,e=.tup [eY z.1,.ref q]/\G8 q=aj (.lst (z.2.map eY))) zs ys:=Paired.nv y3 λ_ _ z=>by
   let⟨q,e,z⟩:=z;exact⟨q,e,l8 _ _ z⟩
  let⟨a,b⟩:=TX (f:=okN G8 4) (g:=c5 G8 4) (λz d e h1 h2=>by
   let⟨q,ed,gd⟩:=h1;let⟨q2,ee,ge⟩:=h2;let⟨a,b⟩:=aIY (n:=2) gd ge (Mf Vj);rw[ed,ee];constructor
   .show(okN G8 3 (eY z.1) (eY z.1)&&(okN G8 3 (.ref q) (.ref q2)&&ak))=ak;rw[a];rfl
   .show(c5 G8 3 (eY z.1) (eY z.1)&&(c5 G8 3 (.ref q) (.ref q2)&&ak))=ak;rw[b,yO 3 (eY z.1) rfl];rfl) z4 y4
  refine⟨a,?_⟩;rw[show BI G8 es ys=ak from b];exists SQ;exact w_all (w.le la) o h
 .obtain⟨m1,m2⟩:=kj.mp m;cases e:cB (PW W) q with
  |nil=>rw[e]at m2;cases m2
  |cons u us=>exact⟨u.1,u.2,Lx.mp (by rw[e];exact .head _)⟩
 .obtain⟨l,v,m⟩:=m;refine kj.mpr ⟨pm.mem_iff.mpr (kb _ (B7 m)),?_⟩;have:=Lx.mpr m;cases e:cB (PW W) q with
  |nil=>rw[e]at this;cases this
  |cons u us=>rfl
def aJD(w:Al A x y g room sh st bb bl M c W B L G)(o:CU x y W B L)(kb:∀z∈W,z.1.1∈B.map (·.1))(h:∀G',F.rt (.bl ak) G') :
  Ik K A ex F [r0,r1,aj (.int c2),r3,aj (.ref sh),r5,aj (.ref bb),aj (.ref bl),r8,r9,jb] G:=by
 exists Ik;refine⟨by rw[oG w.s.sh (m:="lying") rfl];trivial,?_⟩;refine aC1 w.s w.v w.hw λt qs N c' G1 l1 ly=>?_;symm;exact aJB (w.le l1) o λp ys ui G2 l2 hp pm ri P=>aJC w o l1 ly l2 hp pm ri kb P h
end
def UX{i j:Int}{b:Bool}(h:∀k,(k=i∨k=j)->R (.int k) (aC G p (.lst [.int i,.int j]))):iY (.ref p) (.int (if b=ak then 1 else 0)) (aC G p (.lst [.int i,.int j])) R:=by
 refine LC dB (by split<;>decide) (by simp;split<;>decide) ?_;exact all_cons (h _ (.inl rfl)) (all_cons (h _ (.inr rfl)) all_nil)
def aJE{a:bw}(hG:G a=aj (.gL (ns.map D.int))){k:Nat}(hk:k<900)(h:∀x y g:Nat,tF x y g->R (eQ x y g) G):qT K A [.ref a,.int (k:Int)] G R EX:=by
 refine⟨rfl,?_⟩;show zL K A _ _ [aj (.ref a),aj (.int k),bh,bh,bh,bh] G;exists zL;refine B8 (k:=k) hG ⋯ ?_;exists Wy;rw[show(k:Int)+1=((k+1:Nat):Int) by omega];refine B8 (k:=k+1) hG ⋯ ?_;generalize cellAt ns k=c;generalize cellAt ns (k+1)=c2;exists Wz;intro p hp;refine UX λx hx=>?_;exists WA;intro p2 Bg;refine UX λy hy=>?_;exists WB;have z:=aBD (h x.toNat y.toNat (1+c / 104%20).toNat ⟨⋯,⋯,⋯,⋯,⋯,⋯⟩) ((Le.new (o:=.lst [D.int (1+c%4),D.int (1+c%26)]) hp).trans (.new (o:=.lst [D.int (1+c2%6),D.int (1+c2%99)]) Bg));unfold eQ at z;rw[Int.toNat_of_nonneg ⋯,Int.toNat_of_nonneg ⋯,Int.toNat_of_nonneg ⋯]at z;exact z
def aCE{x y g:Nat}(o:tF x y g)(hr:1<=room/\room<=1000000)(h0:G sh=aj (.ins A.aA []))(h:∀st G',G' sh=aj (JH A x y g room st)->G' st=aj (.aZ ak [])->G st=bh->(∀q u,q≠sh->G q=aj u->G' q=aj u)->R .ag G'):fO K A [.ref sh,eQ x y g,.int room] G R EX:=by
 refine⟨rfl,?_⟩;show lH K A _ _ [aj (.ref sh),aj (eQ x y g),aj (.int room)] G;exists lH;refine T2 o ?_;exists oZ;refine MG hr ?_;exists oY;rw[Mm h0 (by decide)];generalize gE:aC G sh _=G1;have s1:G1 sh=aj (.ins A.aA [("layout",eQ x y g)]):=by rw[←gE,aB];rfl
 exists oX;rw[Mm s1 (by show 1<1000;decide)];generalize y8:aC G1 sh _=G2;have s2:G2 sh=aj (.ins A.aA [("layout",eQ x y g),("room",.int room)]):=by rw[←y8,aB];rfl
 exists oW;intro st bE;have ne:st≠sh:=λz=>by rw[z,s2]at bE;cases bE
 rw[Mm (eZ s2 bE) (by show 2<1000;decide)];refine aY.here (h st _ (by rw[aB];rfl) (by rw[aH ne,aB]) (by rw[←y8,aH ne,←gE,aH ne]at bE;exact bE) λq u n z=>?_);rw[aH n];refine eZ ?_ bE;rw[←y8,aH n,←gE,aH n];exact z
def aJF{st:bw}(o:tF x y g)(h1:G sh=aj (JH A x y g room st))(h2:G st=aj (.aZ ak []))(h3:G m=aj (.uR [])):Sw A x y g room ⟨sh,st,m,0,[],λ_=>[],[]⟩ G:=⟨⟨o,h1,h2,λz hz=>nomatch hz⟩,c8.nil,h3,⟨tj,λa p l=>rfl⟩,(λz hz=>nomatch hz),gw _⟩
def aOC{a:bw}{s:Sf}{c2:Int}(w:qB A a ns x y g room sh m s 90 G)(hr:1<=room)(h:∀G',F.rt (.bl ak) G') :
  Mj K A ex F [r0,r1,aj (.int c2),r3,aj (.ref sh),aj (.ref m),bh,bh,bh,bh,bh] G:=by
 have wl:=w.len;let⟨hG,o,es,em,_,Ks,k1,k2,k3⟩:=w;exists Mj;intro bb fb;exists RC;intro bl fl;have lb:Le G (aC G bb (.aZ ak [])):=.new fb;have ll:Le (aC G bb (.aZ ak [])) (aC (aC G bb (.aZ ak [])) bl (.aZ ao [])):=.new fl;have hb:aC (aC G bb (.aZ ak [])) bl (.aZ ao []) bb=aj (.aZ ak []):=ll _ _ aB;have hl:aC (aC G bb (.aZ ak [])) bl (.aZ ao []) bl=aj (.aZ ao []):=aB;have o2:=o.le (lb.trans ll);have YA:=le_none lb fl;generalize aC (aC G bb (.aZ ak [])) bl (.aZ ao [])=G2 at hb hl o2 ll ⊢;have hm:=o2.hm;rw[em]at hm;symm;refine aCA hm o.r.nd ⋯ hb hl λod B L G3 r8 b=>?_;have ne:∀q u,G q=aj u->q≠bb/\q≠bl:=λq u e=>⟨(λz=>by rw[z,fb]at e;cases e),λz=>by rw[z,YA]at e;cases e⟩;have kp:∀q u,q≠m->G q=aj u->G3 q=aj u:=λq u n e=>b.kp q u (ne q u e).1 (ne q u e).2 (by rw[aH n];exact ll _ _ (lb _ _ e));have nm:∀q b kvs,G q=aj (.aZ b kvs)->q≠m:=λq b kvs e z=>by have:=o.hm;rw[em,←z,e]at this;cases this
 have ns:s.sh≠m:=λz=>by have:=o.h.sh;rw[z,←em,o.hm]at this;cases this
 have hw:s.W.length<128:=by omega
 have yT:0<=room:=by omega
 have s3:SH A s.sh x y g room s.st s.M s.c G3:=⟨o.h.o,kp _ _ ns o.h.sh,kp _ _ (nm _ _ _ o.h.st) o.h.st,λz hz=>kp _ _ (nm _ _ _ (o.h.ins z hz)) (o.h.ins z hz)⟩;have kk:∀z∈s.W,fw x y z.1.1.1 z.1.1.2/\0<=z.1.2/\z.1.2<=999:=λz hz=>k3 _ (k2 z hz);have XE:CU x y s.W B L:=⟨λz hz=>?_,λz hz=>?_,o.r.nd,o.wk,uc b.lb hw,uc b.ll hw⟩
 .rw[es]at s3;exact aJD ⟨s3,o.r.Xk o.v yT,o.r,b.w,hw,yT⟩ XE (λz hz=>(b.kb _).mpr ⟨z,hz,rfl⟩) h
 .obtain⟨u,hu,e⟩:=(b.kb z.1).mp (dh.mpr ⟨z,hz,rfl⟩);rw[←e];exact(kk u hu).1
 .obtain⟨u,hu,e⟩:=(b.kl z.1).mp (dh.mpr ⟨z,hz,rfl⟩);rw[←e];exact(kk u hu).2
def aOD(T:Txt K mg A){a:bw}(hG:G a=aj (.gL (ns.map D.int)))(h:∀G',R (.bl ak) G'):Hv K A [.ref a] G R EX:=by
 have big:10000<dg:=by decide
 refine⟨rfl,?_⟩;have h':∀G',aY R (.bl ak) G':=λG'=>aY.here (h G');clear h;show KZ K A _ _ [aj (.ref a),bh,bh,bh,bh,bh,bh,bh,bh,bh,bh] G;exists KZ;refine aJE (k:=0) hG ⋯ λx y g o=>?_;exists Rw;refine B8 (k:=2) hG ⋯ ?_;generalize cellAt ns 2=c2;have e6:(10:Int)^Int.toNat 6=1000000:=by decide
 simp only[Rx];obtain⟨N,eN,hN⟩:∃N:Int,N=3000/\0<N/\N<1073741824:=⟨_,rfl,⋯,⋯⟩;obtain⟨N6,GD,P4⟩:∃N:Int,N=1000000/\0<N/\N<1073741824:=⟨_,rfl,⋯,⋯⟩;rw[←eN];simp(implicitDefEqProofs:=false) (disch:=first|rfl|decide) only[ti,dO,oM,rH,bS,c9,fI,fF,fk,eS,oq,pE,u1,u2,u3,u4,u5,L5.Ha,L5.G7,L5.Vt,L5.Hw,L5.Vu,L5.HL,L5.Hy,L5.Hx,L5.x_c,L5.EL,L5.Qz,L5.QI,L5.V0];rw[e6];rw[←GD];simp(implicitDefEqProofs:=false) only[B9 hN.1,B9 P4.1,L5.IH];obtain⟨i1,b1⟩:∃i:Int,i=1+c2 / 2%N6/\1<=i/\i<=1000000:=⟨_,rfl,by rw[GD];omega,by rw[GD];omega⟩;obtain⟨i2,b2⟩:∃i:Int,i=1+c2 / 2%N/\1<=i/\i<=1000000:=⟨_,rfl,by rw[eN];omega,by rw[eN];omega⟩;rw[←b1.1,←b2.1];replace b1:=b1.2;replace b2:=b2.2;clear eN GD hN P4;symm;intro q hq;refine LC dB ⋯ (by show c2%2<2;omega) λz hz=>?_
 obtain⟨room,rfl,hr⟩:∃t:Int,z=.int t/\1<=t/\t<=1000000:=by
  simp only[ju,List.not_mem_nil,or_false]at hz;rcases hz with rfl|rfl
  .exact⟨_,rfl,b1⟩
  .exact⟨_,rfl,b2⟩
 have gE:=(Le.new (o:=.lst [.int i1,.int i2]) hq) _ _ hG;generalize aC G q _=G1 at gE ⊢;clear hz b1 b2;exists Ry;intro sh Dv;have n0:a≠sh:=λz=>by rw[←z,gE]at Dv;cases Dv
 refine aCE o hr aB λst G3 s3 d3 _ k3=>⟨rfl,?_⟩;have Kt:=k3 _ _ n0 ((Le.new Dv) _ _ gE);exists Rz;intro m fm;have l5:=Le.new (o:=.uR []) fm;have o1:Sw A x y g room ⟨sh,st,m,0,[],λ_=>[],[]⟩ (aC G3 m (.uR [])):=aJF o (l5 _ _ s3) (l5 _ _ d3) aB;have Qa:=l5 _ _ Kt;generalize aC G3 m _=G5 at l5 o1 Qa ⊢;exists RB;refine arC T ⟨Qa,o1,rfl,rfl,qz _,[],gw _,(λz hz=>nomatch hz),λz hz=>nomatch hz⟩ hr.1 λs G6 w=>?_;symm;exact aOC w hr.1 h'
def main(T:Txt K mg A)(a:bw)(ns:List Int)(hl:ns.length<=63)(G:Gp)(hG:G a=aj (.gL (ns.map D.int))):Hv K A [.ref a] G (λd _=>d=.bl ak) (λ_ _=>False):=aOD T hG λ_=>rfl
end
end Law
namespace Law
open PySem PySem.Spec PyProof.Rows L2 L4
variable{qt:Bool}{ps:List Str}
section
variable{P:mz}{w:jr}{K:Fg}{mg:Str->Option au}{base:lg}{A:kX}
local macro_rules| `(tactic| walk_at "sc")=>`(tactic| exact⟨rfl,rfl,rfl,by decide+kernel,rfl,by decide+kernel,by decide+kernel⟩)
def wX{j k:Nat}{x:Str}{st:nu}{f:bw}{d:oh}{sp:kU}{n:Nat}(h:c7 qt P w K mg base (m6 P w) j f d ps (cT K sp))(t:eR K mg x st f d ps)(hj:j<=k:=by decide):Fo P w K mg base k x (.fn sp n qt):=⟨_,_,_,h.mono hj,t.m,t.F.kp,t.B⟩
def rf.g{k:Nat}{x:Str}{c:bw}(t:rf K mg x c):Fo P w K mg base k x (.cls c):=⟨t.m,t.x,t.cs,t.ty,t.be⟩
def dc{x qual:Str}{st:nu}{f:bw}{fd:oh}{k:Nat}{S:SI}{c:CB}{tb:eX->pI}(F:gu K x qual st f fd)(hS:aU S.N ps (aV st))(hc:S.calm=!qt)(hv:BS S (aV st)=ak)(hk:kB S 0 c (cH st)=ak)(he:(λEX=>mB S.gl K (λ_=>EX) c)=tb)(hg:∀(j:Nat)(y:Str)(g:GT),S.gl[j]?=aj (y,g)->Fo P w K mg base k y g):c7 qt P w K mg base (m6 P w) (k+1) f fd ps (cT K (bu S.N.length ps.length tb)):=by
 rw[←he];exact Z9 F hS hc hv hk hg
def tY(T:Txt K mg A):c7 ao P w K mg base (m6 P w) 1 A.US A.wF ["thing","least","most"] (cT K (cD K A)) :=
 dc (S:=alM K A) (c:=alL) T.gP.F (show aU ["thing","least","most"] ["thing","least","most"] _ from by walk_at "sc") rfl ∅ ∅ ∅ (cJ ⟨T.Vn,Rc⟩ (cJ ⟨T.qU,oE⟩ (cJ ⟨T.aIQ,Y7⟩ cb)))
def am6(T:Txt K mg A):c7 ao P w K mg base (m6 P w) 2 A.T5 A.Jk ["thing","aisles","first","last"] (cT K (wL K A)) :=
 dc (S:=ar0 K A) (c:=aqZ) T.qX.F (show aU ["thing","aisles","first","last"] ["thing","aisles","first","last"] _ from by walk_at "sc") rfl ∅ ∅ ∅ (cJ ⟨T.Rv,Tw⟩ (cJ ⟨T.qU,oE⟩ (cJ ⟨T.D2,EC⟩ (cJ (wX (tY T) T.gP) cb))))
def afY(T:Txt K mg A):c7 ao P w K mg base (m6 P w) 2 A.Wc A.tG ["thing"] (cT K (qR K A)) :=
 dc (S:=aiO K A) (c:=aiN) T.lV.F (show aU ["thing"] ["thing"] _ from by walk_at "sc") rfl ∅ ∅ ∅ (cJ (rL T.kW) (cJ (wX (tY T) T.gP) cb))
def am7(T:Txt K mg A):c7 ao P w K mg base (m6 P w) 2 A.T4 A.Jj ["thing"] (cT K (wM K A)) :=
 dc (S:=ar4 K A) (c:=ar3) T.qY.F (show aU ["thing"] ["thing"] _ from by walk_at "sc") rfl ∅ ∅ ∅ (cJ ⟨T.Rv,Tw⟩ (cJ ⟨T.qU,oE⟩ (cJ ⟨T.D2,EC⟩ (cJ (rL T.jZ) (cJ (wX (tY T) T.gP) (cJ (rL T.kJ) (cJ (rL T.sE) cb)))))))
def Wn(T:Txt K mg A):c7 ao P w K mg base (m6 P w) 3 A.Wb A.tH ["plan"] (cT K (gM K A)) :=
 dc (S:=aiQ K A) (c:=aiP) T.jD.F (show aU ["plan"] ["plan"] _ from by walk_at "sc") rfl ∅ ∅ ∅ (cJ (wX (am7 T) T.qY) (cJ T.vQ.g cb))
def arD(T:Txt K mg A):c7 ao P w K mg base (m6 P w) 4 A.SU A.ID ["plan","thing"] (cT K (Jh K A)) :=
 dc (S:=ZY K A) (c:=ZZ) T.vO.F (show aU ["plan","thing"] ["plan","thing"] _ from by walk_at "sc") rfl ∅ ∅ ∅ (cJ (wX (Wn T) T.jD) (cJ (wX (am6 T) T.qX) cb))
def pG(T:Txt K mg A):c7 ao P w K mg base (m6 P w) 2 A.UR A.wG ["thing","lots"] (cT K (cF K A)) :=
 dc (S:=alO K A) (c:=alN) T.fL.F (show aU ["thing","lots"] ["thing","lots"] _ from by walk_at "sc") rfl ∅ ∅ ∅ (cJ (wX (tY T) T.gP) (cJ T.CD.g cb))
def lY(T:Txt K mg A):c7 ao P w K mg base (m6 P w) 5 A.UQ A.wH ["plan","thing"] (cT K (bG K A)) :=
 dc (S:=alQ K A) (c:=alP) T.dZ.F (show aU ["plan","thing"] ["plan","thing"] _ from by walk_at "sc") rfl ∅ ∅ ∅ (cJ (wX (arD T) T.vO) (cJ T.CF.g cb))
def mV(T:Txt K mg A):c7 ao P w K mg base (m6 P w) 3 A.WG A.oH ["thing"] (cT K (bQ K A)) :=
 dc (S:=abW K A) (c:=abV) T.cV.F (show aU ["thing"] ["thing"] _ from by walk_at "sc") rfl ∅ ∅ ∅ (cJ (wX (afY T) T.lV) (cJ T.nY.g cb))
def NO(T:Txt K mg A):c7 ao P w K mg base (m6 P w) 1 A.SS A.IC ["stacks","spot","lot","more"] (cT K (dR K A)) :=
 dc (S:=ZW K A) (c:=ZX) T.pB.F (show aU ["stacks","spot","lot","more","held"] ["stacks","spot","lot","more"] _ from by walk_at "sc") rfl ∅ ∅ ∅ (cJ ⟨T.D2,EC⟩ cb)
def ajB(T:Txt K mg A):c7 ao P w K mg base (m6 P w) 1 A.UP A.wI ["stacks"] (cT K (zF K A)) :=
 dc (S:=alS K A) (c:=alR) T.nO.F (show aU ["stacks","told","spot"] ["stacks"] _ from by walk_at "sc") rfl ∅ ∅ ∅ (cJ ⟨T.pF,lQ⟩ (cJ ⟨T.pF,lQ⟩ (cJ ⟨T.aIR,Y5⟩ cb)))
def a0Q(T:Txt K mg A):c7 ao P w K mg base (m6 P w) 4 A.bA A.gJ ["self","plan","room"] (cT K (fO K A)) :=
 dc (S:=a2F K A) (c:=dY) T.a2H (show aU ["self","plan","room"] ["self","plan","room"] _ from by walk_at "sc") rfl ∅ ∅ ∅ (cJ (wX (Wn T) T.jD) (cJ (wX (mV T) T.cV) (cJ ⟨T.aN,T.cN⟩ (cJ ⟨T.aN,T.xU⟩ (cJ ⟨T.aN,T.bJ⟩ cb)))))
def tZ(T:Txt K mg A):c7 ao P w K mg base (m6 P w) 6 A.fV A.fW ["self","spot"] (cT K (d9 K A)) :=
 dc (S:=a5P K A) (c:=a5O) T.nP (show aU ["self","spot"] ["self","spot"] _ from by walk_at "sc") rfl ∅ ∅ ∅ (cJ ⟨T.aN,T.cN⟩ (cJ (wX (lY T) T.dZ) (cJ ⟨T.KY,LR⟩ (cJ ⟨T.aN,T.bJ⟩ cb))))
def pH(T:Txt K mg A):c7 ao P w K mg base (m6 P w) 7 A.dD A.dF ["self","spot","amount"] (cT K (cG K A)) :=
 dc (S:=a0P K A) (c:=a0O) T.jR (show aU ["self","spot","amount"] ["self","spot","amount"] _ from by walk_at "sc") rfl ∅ ∅ ∅ (cJ (⟨_,_,_,[],[],T.aN,T.vP,(tZ T).mono (by decide),T.jL,.nil,λ_=>.nil⟩) (cJ ⟨T.aN,T.xU⟩ (cJ T.pD.g cb)))
def aaY(T:Txt K mg A):c7 ao P w K mg base (m6 P w) 8 A.jX A.jY ["self","lot","spot","amount"] (cT K (jB K A)) :=
 dc (S:=abY K A) (c:=abX) T.uL (show aU ["self","lot","spot","amount"] ["self","lot","spot","amount"] _ from by walk_at "sc") rfl ∅ ∅ ∅ (cJ (rL T.fH) (cJ (wX (pG T) T.fL) (cJ ⟨T.aN,T.cN⟩ (cJ (wX (lY T) T.dZ) (cJ (wX (mV T) T.cV) (cJ (⟨_,_,_,[],[],T.aN,T.qD,(pH T).mono (by decide),T.fP,.nil,λ_=>.nil⟩) (cJ ⟨T.aN,T.bJ⟩ (cJ (wX (NO T) T.pB) cb))))))))
def a4R(T:Txt K mg A):c7 ao P w K mg base (m6 P w) 6 A.fX A.fY ["self","lot","spot"] (cT K (iV K A)) :=
 dc (S:=a5R K A) (c:=a5Q) T.nQ (show aU ["self","lot","spot"] ["self","lot","spot"] _ from by walk_at "sc") rfl ∅ ∅ ∅ (cJ (rL T.fH) (cJ (wX (pG T) T.fL) (cJ ⟨T.aN,T.cN⟩ (cJ (wX (lY T) T.dZ) (cJ ⟨T.aN,T.bJ⟩ cb)))))
def n6(T:Txt K mg A):c7 ao P w K mg base (m6 P w) 7 A.cY A.cZ ["self","lot","spot","amount"] (cT K (bU K A)) :=
 dc (S:=zH K A) (c:=zG) T.jE (show aU ["self","lot","spot","amount"] ["self","lot","spot","amount"] _ from by walk_at "sc") rfl ∅ ∅ ∅ (cJ (⟨_,_,_,[],[],T.aN,T.a5V,(a4R T).mono (by decide),T.nR,.nil,λ_=>.nil⟩) (cJ T.gG.g cb))
def a7M(T:Txt K mg A):c7 ao P w K mg base (m6 P w) 8 A.j7 A.j8 ["self","lot","spot","amount"] (cT K (iH K A)) :=
 dc (S:=aaB K A) (c:=aaA) T.rT (show aU ["self","lot","spot","amount"] ["self","lot","spot","amount"] _ from by walk_at "sc") rfl ∅ ∅ ∅ (cJ (rL T.fH) (cJ (wX (pG T) T.fL) (cJ ⟨T.aN,T.cN⟩ (cJ (wX (lY T) T.dZ) (cJ (wX (mV T) T.cV) (cJ (⟨_,_,_,[],[],T.aN,T.pC,(n6 T).mono (by decide),T.fB,.nil,λ_=>.nil⟩) (cJ ⟨T.aN,T.bJ⟩ (cJ (wX (NO T) T.pB) cb))))))))
def a65(T:Txt K mg A):c7 ao P w K mg base (m6 P w) 8 A.iB A.iC ["self","lot","one","other","amount"] (cT K (nH K A)) :=
 dc (S:=a7H K A) (c:=a7G) T.pN (show aU ["self","lot","one","other","amount"] ["self","lot","one","other","amount"] _ from by walk_at "sc") rfl ∅ ∅ ∅ (cJ (rL T.fH) (cJ (wX (pG T) T.fL) (cJ ⟨T.aN,T.cN⟩ (cJ (wX (lY T) T.dZ) (cJ (wX (mV T) T.cV) (cJ (⟨_,_,_,[],[],T.aN,T.pC,(n6 T).mono (by decide),T.fB,.nil,λ_=>.nil⟩) (cJ (⟨_,_,_,[],[],T.aN,T.qD,(pH T).mono (by decide),T.fP,.nil,λ_=>.nil⟩) (cJ ⟨T.aN,T.bJ⟩ (cJ (wX (NO T) T.pB) cb)))))))))
def a7N(T:Txt K mg A):c7 ao P w K mg base (m6 P w) 6 A.j9 A.jA ["self","spot"] (cT K (kZ K A)) :=
 dc (S:=aaD K A) (c:=aaC) T.rY (show aU ["self","spot"] ["self","spot"] _ from by walk_at "sc") rfl ∅ ∅ ∅ (cJ ⟨T.aN,T.cN⟩ (cJ (wX (lY T) T.dZ) (cJ ⟨T.pF,lQ⟩ (cJ ⟨T.aN,T.bJ⟩ cb))))
def a4S(T:Txt K mg A):c7 ao P w K mg base (m6 P w) 3 A.fZ A.gA ["self","lot"] (cT K (f9 K A)) :=
 dc (S:=a5T K A) (c:=a5S) T.nT (show aU ["self","lot"] ["self","lot"] _ from by walk_at "sc") rfl ∅ ∅ ∅ (cJ (rL T.fH) (cJ (wX (pG T) T.fL) (cJ ⟨T.aN,T.bJ⟩ (cJ ⟨T.pF,lQ⟩ cb))))
def a66(T:Txt K mg A):c7 ao P w K mg base (m6 P w) 2 A.iD A.iG ["self"] (cT K (jK K A)) :=
 dc (S:=a7J K A) (c:=a7I) T.pP (show aU ["self"] ["self"] _ from by walk_at "sc") rfl ∅ ∅ ∅ (cJ ⟨T.aN,T.bJ⟩ (cJ (wX (ajB T) T.nO) cb))
def pR(T:Txt K mg A):c7 ao P w K mg base (m6 P w) 1 A.z8 A.mH ["_law_script","_law_k"] (cT K (bB K A)) :=
 dc (S:=aaF K A) (c:=aaE) T.d7.F (show aU ["_law_script","_law_k","_law_mixed"] ["_law_script","_law_k"] _ from by walk_at "sc") rfl ∅ ∅ ∅ (cJ ⟨T.D2,EC⟩ cb)
def afZ(T:Txt K mg A):c7 ao P w K mg base (m6 P w) 2 A.Wa A.tK ["_law_script","_law_k"] (cT K (qT K A)) :=
 dc (S:=aiS K A) (c:=aiR) T.lW.F (show aU ["_law_script","_law_k","_law_cell","_law_other","_law_aisles","_law_places"] ["_law_script","_law_k"] _ from by walk_at "sc") rfl ∅ ∅ ∅ (cJ (wX (pR T) T.d7) (cJ ⟨T.Vn,Rc⟩ cb))
def aaZ(T:Txt K mg A):c7 ak P w K mg base (m6 P w) 1 A.WE A.oJ ["_law_e"] (cT K (gB K A)) :=
 dc (S:=ac0 K A) (c:=abZ) T.iM.F (show aU ["_law_e","_law_marks"] ["_law_e"] _ from by walk_at "sc") rfl ∅ ∅ ∅ (cJ T.vQ.g (cJ ⟨T.qU,oE⟩ (cJ T.CD.g (cJ T.CF.g (cJ T.nY.g (cJ T.gG.g (cJ T.pD.g (cJ ⟨T.afL,abM⟩ (cJ ⟨T.D2,EC⟩ cb)))))))))
def ab0(T:Txt K mg A):c7 ao P w K mg base (m6 P w) 1 A.WD A.oK ["_law_model","_law_spot"] (cT K (mQ K A)) :=
 dc (S:=ac2 K A) (c:=ac1) T.iQ.F (show aU ["_law_model","_law_spot"] ["_law_model","_law_spot"] _ from by walk_at "sc") rfl ∅ ∅ ∅ (cJ ⟨T.KY,LR⟩ cb)
def am8(T:Txt K mg A):c7 ao P w K mg base (m6 P w) 2 A.T3 A.Ji ["_law_model","_law_room","_law_deed"] (cT K (lJ K A)) :=
 dc (S:=ar6 K A) (c:=ar5) T.qZ.F (show aU ["_law_model","_law_room","_law_deed","_law_word","_law_lot","_law_one","_law_other","_law_amount","_law_there","_law_goal"] ["_law_model","_law_room","_law_deed"] _ from by walk_at "sc") rfl ∅ ∅ ∅ (cJ (wX (ab0 T) T.iQ) cb)
def ag0(T:Txt K mg A):c7 ao P w K mg base (m6 P w) 9 A.V9 A.tL ["_law_shelves","_law_deed"] (cT K (gO K A)) :=
 dc (S:=aiU K A) (c:=aiT) T.lX.F (show aU ["_law_shelves","_law_deed","_law_word","_law_lot","_law_one","_law_other","_law_amount","_law_e"] ["_law_shelves","_law_deed"] _ from by walk_at "sc") rfl ∅ ∅ ∅ (cJ T.mR.g (cJ (⟨_,_,_,[],[],T.aN,T.ac3,(aaY T).mono (by decide),T.uM,.nil,λ_=>.nil⟩) (cJ (⟨_,_,_,[],[],T.aN,T.aaM,(a7M T).mono (by decide),T.rW,.nil,λ_=>.nil⟩) (cJ (⟨_,_,_,[],[],T.aN,T.a7K,(a65 T).mono (by decide),T.pO,.nil,λ_=>.nil⟩) (cJ (wX (aaZ T) T.iM) cb)))))
def a7O(T:Txt K mg A):c7 ao P w K mg base (m6 P w) 10 A.z9 A.mJ ["_law_script","_law_shelves","_law_plan_here","_law_room","_law_model"] (cT K (lA K A)) :=
 dc (S:=aaH K A) (c:=aaG) T.gC.F (show aU ["_law_script","_law_shelves","_law_plan_here","_law_room","_law_model","_law_k","_law_cell","_law_other","_law_spot","_law_lot","_law_deed"] ["_law_script","_law_shelves","_law_plan_here","_law_room","_law_model"] _ from by walk_at "sc") rfl ∅ ∅ ∅ (cJ ⟨T.aBW,Z8⟩ (cJ (wX (pR T) T.d7) (cJ (wX (ag0 T) T.lX) (cJ (wX (am8 T) T.qZ) cb))))
def ajC(T:Txt K mg A):c7 ao P w K mg base (m6 P w) 7 A.UO A.wJ ["_law_shelves","_law_by_bin","_law_by_lot","_law_turned"] (cT K (tX K A)) :=
 dc (S:=alU K A) (c:=alT) T.nW.F (show aU ["_law_shelves","_law_by_bin","_law_by_lot","_law_turned","_law_lots","_law_spots","_law_spot","_law_due","_law_lot"] ["_law_shelves","_law_by_bin","_law_by_lot","_law_turned"] _ from by walk_at "sc") rfl ∅ ∅ ∅ (cJ ⟨T.pF,lQ⟩ (cJ ⟨T.pF,lQ⟩ (cJ (⟨_,_,_,[],[],T.aN,T.vP,(tZ T).mono (by decide),T.jL,.nil,λ_=>.nil⟩) (cJ ⟨T.KY,LR⟩ (cJ (⟨_,_,_,[],[],T.aN,T.aaN,(a7N T).mono (by decide),T.rZ,.nil,λ_=>.nil⟩) (cJ (⟨_,_,_,[],[],T.aN,T.a5W,(a4S T).mono (by decide),T.nU,.nil,λ_=>.nil⟩) cb))))))
def aJG(T:Txt K mg A):c7 ao P w K mg base (m6 P w) 11 A.z0 A.Vo ["_law_script"] (cT K (Hv K A)) :=
 dc (S:=aNY K A) (c:=D3) T.aNZ.F (show aU ["_law_script","_law_plan_here","_law_cell","_law_room","_law_shelves","_law_model","_law_by_bin","_law_by_lot","_law_pair","_law_told","_law_due"] ["_law_script"] _ from by walk_at "sc") rfl ∅ ∅ ∅ (cJ (wX (afZ T) T.lW) (cJ (wX (pR T) T.d7) (cJ (⟨_,_,_,_,[],[],rfl,T.alX,(a0Q T).mono (by decide),T.alY,T.a2I,.nil,λ_=>.nil⟩) (cJ (wX (a7O T) T.gC) (cJ (⟨_,_,_,[],[],T.aN,T.a7L,(a66 T).mono (by decide),T.pQ,.nil,λ_=>.nil⟩) (cJ ⟨T.pF,lQ⟩ (cJ ⟨T.pF,lQ⟩ (cJ ⟨T.aIS,Y6⟩ (cJ (wX (ajC T) T.nW) cb)))))))))
end
abbrev GV(K:Fg):Sp:=λvs H Q _=>∃(a:bw)(ns:List Int),vs=[.ref a]/\gc K H a (ns.map V.int)/\ns.length<=63/\∀H',Q (.bl ak) H'
variable{mg:Str->Option au}
def aCF{K:Fg}{A:kX}(T:Txt K mg A):∀vs H Q E,GV K vs H Q E->cT K (Hv K A) vs H Q E:=by
 rintro vs H Q E ⟨a,ns,rfl,hS,hl,k⟩;refine⟨[.ref a],λb=>if b=a then aj (.gL (ns.map D.int))else bh,λd _=>d=.bl ak,λ_ _=>False,.cons (.ref a) .nil,λb o e=>?_,main T a ns hl _ (if_pos rfl),λv H' d G' r g e=>?_,λC H' G' g z=>z.elim⟩
 .have e2:(if b=a then aj (GO.gL (ns.map D.int))else bh)=aj o:=e;by_cases hb:b=a
  .subst hb;rw[if_pos rfl]at e2;cases e2;exact⟨_,hS,cW.ints ns⟩
  .rw[if_neg hb]at e2;cases e2
 .subst e;cases r;exact k H'
abbrev Cb(K:Fg)(x q:Str)(st:nu)(f:bw):Prop:=∃oc kV dc pm cd ct od an sl,K.lookup f=aj ⟨oc,od,.func (su x q (dI st) (cH st) (aV st) .none kV dc pm an cd ct),sl⟩/\Cq K cd q=ak/\wz K (.ref f)=ak
def Cb.get{K:Fg}{x q:Str}{st:nu}{f:bw}(b:Cb K x q st f)(ps:List Str)(h:∀kV dc pm an cd ct,∀us:List au,us.length=ps.length->vg (su x q (dI st) (cH st) (aV st) .none kV dc pm an cd ct) ⟨us,[]⟩=pure (ps.zip us)):∃d,gu K x q st f d/\Binds K d ps []/\wz K (.ref f)=ak:=by
 let⟨oc,kV,dc,pm,cd,ct,od,an,sl,l,c,k⟩:=b;exact⟨_,LV (st:=st) l c k,RQ (h _ _ _ _ _ _),k⟩
abbrev Fb(K:Fg)(x:Str)(st:nu)(f:bw):Prop:=uf K nj x=aj (aj (.ref f))/\Cb K x x st f
variable{us:List au}
def aSB(h:us.length=1)(k:∀a,vg fd ⟨[a],[]⟩=pure (ps.zip [a])):vg fd ⟨us,[]⟩=pure (ps.zip us):=match us,h with|[a],_=>k a
def MO(h:us.length=2)(k:∀a b,vg fd ⟨[a,b],[]⟩=pure (ps.zip [a,b])):vg fd ⟨us,[]⟩=pure (ps.zip us):=match us,h with|[a,b],_=>k a b
def UW(h:us.length=3)(k:∀a b c,vg fd ⟨[a,b,c],[]⟩=pure (ps.zip [a,b,c])):vg fd ⟨us,[]⟩=pure (ps.zip us):=match us,h with|[a,b,c],_=>k a b c
def MN(h:us.length=4)(k:∀a b c d,vg fd ⟨[a,b,c,d],[]⟩=pure (ps.zip [a,b,c,d])):vg fd ⟨us,[]⟩=pure (ps.zip us):=match us,h with|[a,b,c,d],_=>k a b c d
def aSC(h:us.length=5)(k:∀a b c d e,vg fd ⟨[a,b,c,d,e],[]⟩=pure (ps.zip [a,b,c,d,e])):vg fd ⟨us,[]⟩=pure (ps.zip us):=match us,h with|[a,b,c,d,e],_=>k a b c d e
def k8{q:Str}{st:nu}(k:∀kV dc pm an cd ct a,vg (su q q (dI st) (cH st) (aV st) .none kV dc pm an cd ct) ⟨[a],[]⟩=pure (ps.zip [a])):∀kV dc pm an cd ct,∀us:List au,us.length=1->vg (su q q (dI st) (cH st) (aV st) .none kV dc pm an cd ct) ⟨us,[]⟩=pure (ps.zip us):=λ_ _ _ _ _ _ us h=>by
 rcases us with _|⟨a,_|⟨_,_⟩⟩<;>first|exact k _ _ _ _ _ _ a|simp at h
def i7{q:Str}{st:nu}(k:∀kV dc pm an cd ct a b,vg (su q q (dI st) (cH st) (aV st) .none kV dc pm an cd ct) ⟨[a,b],[]⟩=pure (ps.zip [a,b])):∀kV dc pm an cd ct,∀us:List au,us.length=2->vg (su q q (dI st) (cH st) (aV st) .none kV dc pm an cd ct) ⟨us,[]⟩=pure (ps.zip us):=λ_ _ _ _ _ _ us h=>by
 rcases us with _|⟨a,_|⟨b,_|⟨_,_⟩⟩⟩<;>first|exact k _ _ _ _ _ _ a b|simp at h
def UU{q:Str}{st:nu}(k:∀kV dc pm an cd ct a b c,vg (su q q (dI st) (cH st) (aV st) .none kV dc pm an cd ct) ⟨[a,b,c],[]⟩=pure (ps.zip [a,b,c])):∀kV dc pm an cd ct,∀us:List au,us.length=3->vg (su q q (dI st) (cH st) (aV st) .none kV dc pm an cd ct) ⟨us,[]⟩=pure (ps.zip us):=λ_ _ _ _ _ _ us h=>by
 rcases us with _|⟨a,_|⟨b,_|⟨c,_|⟨_,_⟩⟩⟩⟩<;>first|exact k _ _ _ _ _ _ a b c|simp at h
def MM{q:Str}{st:nu}(k:∀kV dc pm an cd ct a b c d,vg (su q q (dI st) (cH st) (aV st) .none kV dc pm an cd ct) ⟨[a,b,c,d],[]⟩=pure (ps.zip [a,b,c,d])):∀kV dc pm an cd ct,∀us:List au,us.length=4->vg (su q q (dI st) (cH st) (aV st) .none kV dc pm an cd ct) ⟨us,[]⟩=pure (ps.zip us):=λ_ _ _ _ _ _ us h=>by
 rcases us with _|⟨a,_|⟨b,_|⟨c,_|⟨d,_|⟨_,_⟩⟩⟩⟩⟩<;>first|exact k _ _ _ _ _ _ a b c d|simp at h
def aSD{st:nu}(k:∀kV dc pm an cd ct a b c d e,vg (su q q (dI st) (cH st) (aV st) .none kV dc pm an cd ct) ⟨[a,b,c,d,e],[]⟩=pure (ps.zip [a,b,c,d,e])):∀kV dc pm an cd ct,∀us:List au,us.length=5->vg (su q q (dI st) (cH st) (aV st) .none kV dc pm an cd ct) ⟨us,[]⟩=pure (ps.zip us):=λ_ _ _ _ _ _ us h=>by
 rcases us with _|⟨a,_|⟨b,_|⟨c,_|⟨d,_|⟨e,_|⟨_,_⟩⟩⟩⟩⟩⟩<;>first|exact k _ _ _ _ _ _ a b c d e|simp at h
def Fb.get{K:Fg}{q:Str}{st:nu}{f:bw}{h:lg}{mg:Str->Option au}(b:Fb K q st f)(XK:K.In h)(GG:h.Ns nj mg)(ps:List Str)(h:∀kV dc pm an cd ct,∀us:List au,us.length=ps.length->vg (su q q (dI st) (cH st) (aV st) .none kV dc pm an cd ct) ⟨us,[]⟩=pure (ps.zip us)):∃d,eR K mg q st f d ps:=by
 let⟨d,F,B,_⟩:=b.2.get ps h;exact⟨d,F,B,qi XK GG b.1⟩
abbrev Mb(K:Fg)(c:bw)(x q:Str)(st:nu)(f:bw):Prop:=ou K (.ref c) x=aj (aj (.ref f))/\Co K (.ref f)=ak/\Cb K x q st f
def Mb.get{K:Fg}{c:bw}{x q:Str}{st:nu}{f:bw}(b:Mb K c x q st f)(ps:List Str)(h:∀kV dc pm an cd ct,∀us:List au,us.length=ps.length->vg (su x q (dI st) (cH st) (aV st) .none kV dc pm an cd ct) ⟨us,[]⟩=pure (ps.zip us)):∃d,gu K x q st f d/\Binds K d ps []/\ou K (.ref c) x=aj (aj (.ref f))/\Co K (.ref f)=ak/\wz K (.ref f)=ak:=by
 let⟨d,F,B,k⟩:=b.2.2.get ps h;exact⟨d,F,B,b.1,b.2.1,k⟩
structure Eb(K:Fg)(x:Str)(c:bw):Prop where
 b:uf K nj x=aj (aj (.ref c))
 x:nB K c [.type "ValueError",.type "Exception",.type "BaseException",.type "object"] "ValueError.__new__"=ak
 cs:(yt K c).isSome=ak
 ty:Ao K (.ref c)=aj (.type "type")
 be:xr K (.ref c) (.type "BaseException")=aj ak
variable{h:lg}
def Eb.gt{K:Fg}{x:Str}{c:bw}(e:Eb K x c)(XK:K.In h)(GG:h.Ns nj mg):rf K mg x c:=⟨qi XK GG e.b,e.x,e.cs,e.ty,e.be⟩
def all_mk{l:PySem.W.OpenLaw}{w:jr}{K:Fg}{fa:bw}(XK:K.In h)(GG:h.Ns nj mg)(X8:mg "law"=aj (.ref fa))
  (gP:Fb K "is_whole" VZ am9)
  (qX:Fb K "is_pair" T8 arE)
  (lV:Fb K "is_amount" Wg ajD)
  (qY:Fb K "is_plan" T7 arF)
  (jD:Fb K "need_plan" Wf ajE)
  (vO:Fb K "is_bin" SW ZN)
  (fL:Fb K "need_lot" VY amA)
  (dZ:Fb K "need_bin" VX amB)
  (cV:Fb K "need_amount" WK ac6)
  (pB:Fb K "change" SV ZM)
  (nO:Fb K "in_order" VW amC)
  (bA:ou K (.ref bF) "__init__"=aj (aj (.ref gQ)))
  (gR:Co K (.ref gQ)=ak)
  (lM:K.lookup gQ=aj ⟨ajP,ajQ,.func (su "__init__" "Shelves.__init__" (dI dW) (cH dW) (aV dW) (.ref a0R) ajR ajS ajT ajU a0S ajV),ajW⟩)
  (dY:Cq K a0S "Shelves.__init__"=ak)
  (gU:wz K (.ref gQ)=ak)
  (gW:K.lookup a0R=aj ⟨ajX,ajY,.seq #[.int 1000 a0T] ajZ,ak0⟩)
  (o7:Mb K bF "filled" "Shelves.filled" uZ a67)
  (jU:Mb K bF "need_room" "Shelves.need_room" pZ a0U)
  (uO:Mb K bF "put" "Shelves.put" WJ ac7)
  (o8:Mb K bF "amount" "Shelves.amount" v7 a68)
  (jH:Mb K bF "need_there" "Shelves.need_there" oU zW)
  (sH:Mb K bF "take" "Shelves.take" yX ab1)
  (pU:Mb K bF "shift" "Shelves.shift" xF a7P)
  (sI:Mb K bF "held" "Shelves.held" yZ ab2)
  (o9:Mb K bF "places" "Shelves.places" v8 a69)
  (pW:Mb K bF "lying" "Shelves.lying" xG a7Q)
  (d7:Fb K "_law_cell_at" z6 ab3)
  (lW:Fb K "_law_plan" We ajF)
  (iM:Fb K "_law_raised" WI ac8)
  (iQ:Fb K "_law_filled" WH ac9)
  (qZ:Fb K "_law_do" T6 arG)
  (lX:Fb K "_law_done" Wd ajG)
  (gC:Fb K "_law_put_all" z7 ab4)
  (nW:Fb K "_law_all" UT amD)
  (z0:uf K nj "law"=aj (aj (.ref KR)))
  (KQ:K.lookup KR=aj ⟨aSE,aSF,.func (su "law" "law" (dI D4) (cH D4) (aV D4) .none aSG aSH aSI aSJ aJK aSK),aSL⟩)
  (D3:Cq K aJK "law"=ak)
  (KP:wz K (.ref KR)=ak)
  (Og:uf K nj "Shelves"=aj (aj (.ref bF)))
  (Of:E2 K bF Str.empty=ak)
  (Oe:IB K bF=ak)
  (Od:PySem.W.plainOver K bF=ak)
  (Oc:ou K (.ref bF) "__setattr__"=aj (aj (.builtin "object.__setattr__")))
  (Ob:PySem.W.makesIn K bF=ak)
  (Oa:wz K (.ref bF)=ak)
  (mW:ou K (.ref bF) "layout"=aj bh)
  (pX:ou K (.ref bF) "room"=aj bh)
  (mX:ou K (.ref bF) "stacks"=aj bh)
  (mR:Eb K "DepotError" wY)
  (vQ:Eb K "NoPlan" MC)
  (CF:Eb K "NoBin" Md)
  (CD:Eb K "NoLot" Mc)
  (nY:Eb K "NoAmount" N9)
  (pD:Eb K "NoRoom" eO)
  (NN:ou K (.ref eO) "__getattribute__"=aj (aj (.builtin "BaseException.__getattribute__")))
  (NM:ou K (.ref eO) "__getattr__"=aj bh)
  (NL:ou K (.ref eO) "__class__"=aj (aj (.builtin "object.__class__")))
  (NJ:PySem.W.mroIn K eO (.type "object")=aj ak)
  (vR:iw K (.ref eO) (.type "ValueError")=aj ak)
  (gG:Eb K "TooLittle" bR)
  (wZ:ou K (.ref bR) "__getattribute__"=aj (aj (.builtin "BaseException.__getattribute__")))
  (xA:ou K (.ref bR) "__getattr__"=aj bh)
  (xB:ou K (.ref bR) "__class__"=aj (aj (.builtin "object.__class__")))
  (xC:PySem.W.mroIn K bR (.type "object")=aj ak)
  (mU:iw K (.ref bR) (.type "ValueError")=aj ak)
  (dG:xr K (.ref eO) (.ref wY)=aj ak)
  (fC:iw K (.ref eO) (.ref N9)=aj ao)
  (jF:iw K (.ref eO) (.ref Md)=aj ao)
  (jG:iw K (.ref eO) (.ref Mc)=aj ao)
  (iI:iw K (.ref eO) (.ref MC)=aj ao)
  (iJ:iw K (.ref eO) (.ref eO)=aj ak)
  (eE:iw K (.ref eO) (.ref bR)=aj ao)
  (cO:xr K (.ref bR) (.ref wY)=aj ak)
  (d8:iw K (.ref bR) (.ref N9)=aj ao)
  (fD:iw K (.ref bR) (.ref Md)=aj ao)
  (fG:iw K (.ref bR) (.ref Mc)=aj ao)
  (eF:iw K (.ref bR) (.ref MC)=aj ao)
  (eG:iw K (.ref bR) (.ref eO)=aj ao)
  (cR:iw K (.ref bR) (.ref bR)=aj ak)
  (jZ:uf K nj "MOST_AISLES"=aj (aj (.int 26 acA)))
  (kJ:uf K nj "MOST_PLACES"=aj (aj (.int 99 acB)))
  (kW:uf K nj "MOST_AMOUNT"=aj (aj (.int 1000000 acC)))
  (sE:uf K nj "MOST_GAP"=aj (aj (.int 20 amE)))
  (fH:uf K nj "MOST_LOTS"=aj (aj (.int 1000 ajH)))
  (xD:uf K nj "ValueError"=aj bh)
  (Lv:uf K nj "bool"=aj bh)
  (Lu:uf K nj "dict"=aj bh)
  (KO:uf K nj "int"=aj bh)
  (xE:uf K nj "isinstance"=aj bh)
  (KN:uf K nj "len"=aj bh)
  (Ls:uf K nj "list"=aj bh)
  (Ma:uf K nj "range"=aj bh)
  (MB:uf K nj "sorted"=aj bh)
  (KL:uf K nj "sum"=aj bh)
  (LZ:uf K nj "tuple"=aj bh) :
  ∃fd:oh,(∀(s:cg)(v:au),BindsTo s fd ⟨[v],[]⟩ [("_law_script",v)])/\∀base:lg,K.In base->base.Ns nj mg->c7 ao l.prog w K mg base (m6 l.prog w) 11 fa fd ["_law_script"] (GV K):=by
 have e:=X8.symm.trans (qi XK GG z0);cases e;let⟨wF,amI⟩:=gP.get XK GG ["thing","least","most"] (UU λ_ _ _ _ _ _ _ _ _=>rfl);let⟨Jk,arH⟩:=qX.get XK GG ["thing","aisles","first","last"] (MM λ_ _ _ _ _ _ _ _ _ _=>rfl);let⟨tG,ajI⟩:=lV.get XK GG ["thing"] (k8 λ_ _ _ _ _ _ _=>rfl);let⟨Jj,arI⟩:=qY.get XK GG ["thing"] (k8 λ_ _ _ _ _ _ _=>rfl);let⟨tH,ajJ⟩:=jD.get XK GG ["plan"] (k8 λ_ _ _ _ _ _ _=>rfl);let⟨ID,ZL⟩:=vO.get XK GG ["plan","thing"] (i7 λ_ _ _ _ _ _ _ _=>rfl);let⟨wG,amJ⟩:=fL.get XK GG ["thing","lots"] (i7 λ_ _ _ _ _ _ _ _=>rfl);let⟨wH,amK⟩:=dZ.get XK GG ["plan","thing"] (i7 λ_ _ _ _ _ _ _ _=>rfl);let⟨oH,acD⟩:=cV.get XK GG ["thing"] (k8 λ_ _ _ _ _ _ _=>rfl);let⟨IC,ZK⟩:=pB.get XK GG ["stacks","spot","lot","more"] (MM λ_ _ _ _ _ _ _ _ _ _=>rfl);let⟨wI,amL⟩:=nO.get XK GG ["stacks"] (k8 λ_ _ _ _ _ _ _=>rfl);let⟨fW,nP,jL,fV,a6E,a6F⟩:=o7.get ["self","spot"] λ_ _ _ _ _ _ us hl=>MO hl λ_ _=>rfl;let⟨dF,jR,fP,dD,a0V,a0W⟩:=jU.get ["self","spot","amount"] λ_ _ _ _ _ _ us hl=>UW hl λ_ _ _=>rfl;let⟨jY,uL,uM,jX,acE,acF⟩:=uO.get ["self","lot","spot","amount"] λ_ _ _ _ _ _ us hl=>MN hl λ_ _ _ _=>rfl;let⟨fY,nQ,nR,fX,a6G,a6H⟩:=o8.get ["self","lot","spot"] λ_ _ _ _ _ _ us hl=>UW hl λ_ _ _=>rfl;let⟨cZ,jE,fB,cY,zX,zY⟩:=jH.get ["self","lot","spot","amount"] λ_ _ _ _ _ _ us hl=>MN hl λ_ _ _ _=>rfl;let⟨j8,rT,rW,j7,ab7,ab8⟩:=sH.get ["self","lot","spot","amount"] λ_ _ _ _ _ _ us hl=>MN hl λ_ _ _ _=>rfl;let⟨iC,pN,pO,iB,a7R,a7S⟩:=pU.get ["self","lot","one","other","amount"] λ_ _ _ _ _ _ us hl=>aSC hl λ_ _ _ _ _=>rfl;let⟨jA,rY,rZ,j9,ab9,abA⟩:=sI.get ["self","spot"] λ_ _ _ _ _ _ us hl=>MO hl λ_ _=>rfl;let⟨gA,nT,nU,fZ,a6I,a6J⟩:=o9.get ["self","lot"] λ_ _ _ _ _ _ us hl=>MO hl λ_ _=>rfl;let⟨iG,pP,pQ,iD,a7T,a7U⟩:=pW.get ["self"] λ_ _ _ _ _ _ us hl=>aSB hl λ_=>rfl;let⟨mH,abB⟩:=d7.get XK GG ["_law_script","_law_k"] (i7 λ_ _ _ _ _ _ _ _=>rfl);let⟨tK,ajK⟩:=lW.get XK GG ["_law_script","_law_k"] (i7 λ_ _ _ _ _ _ _ _=>rfl);let⟨oJ,acG⟩:=iM.get XK GG ["_law_e"] (k8 λ_ _ _ _ _ _ _=>rfl);let⟨oK,acH⟩:=iQ.get XK GG ["_law_model","_law_spot"] (i7 λ_ _ _ _ _ _ _ _=>rfl);let⟨Ji,arJ⟩:=qZ.get XK GG ["_law_model","_law_room","_law_deed"] (UU λ_ _ _ _ _ _ _ _ _=>rfl);let⟨tL,ajL⟩:=lX.get XK GG ["_law_shelves","_law_deed"] (i7 λ_ _ _ _ _ _ _ _=>rfl);let⟨mJ,abC⟩:=gC.get XK GG ["_law_script","_law_shelves","_law_plan_here","_law_room","_law_model"] (aSD λ_ _ _ _ _ _ _ _ _ _ _=>rfl);let⟨wJ,amM⟩:=nW.get XK GG ["_law_shelves","_law_by_bin","_law_by_lot","_law_turned"] (MM λ_ _ _ _ _ _ _ _ _ _=>rfl);have Z:=λ{x:Str}(h:uf K nj x=aj bh)=>PySem.W.mg_none_of XK GG h;have T:Txt K mg ⟨am9,wF,arE,Jk,ajD,tG,arF,Jj,ajE,tH,ZN,ID,amA,wG,amB,wH,ac6,oH,ZM,IC,amC,wI,gQ,_,a67,fW,a0U,dF,ac7,jY,a68,fY,zW,cZ,ab1,j8,a7P,iC,ab2,jA,a69,gA,a7Q,iG,ab3,mH,ajF,tK,ac8,oJ,ac9,oK,arG,Ji,ajG,tL,ab4,mJ,amD,wJ,KR,_,wY,MC,Md,Mc,N9,eO,bR,bF⟩:=⟨amI,arH,ajI,arI,ajJ,ZL,amJ,amK,acD,ZK,amL,LV (st:=dW) lM dY gU,aB0 (ps:=["self","plan","room"]) gW (λus hl=>match us,hl with|[_,_,_],_=>⟨_,rfl,rfl,rfl⟩),⟨bA,gR,gU⟩,⟨a0T,aB1 (ps:=["self","plan","room"]) gW (λus hl=>match us,hl with|[_,_],_=>⟨_,rfl,rfl,rfl⟩)⟩,nP,jL,⟨fV,a6E,a6F⟩,jR,fP,⟨dD,a0V,a0W⟩,uL,uM,⟨jX,acE,acF⟩,nQ,nR,⟨fX,a6G,a6H⟩,jE,fB,⟨cY,zX,zY⟩,rT,rW,⟨j7,ab7,ab8⟩,pN,pO,⟨iB,a7R,a7S⟩,rY,rZ,⟨j9,ab9,abA⟩,nT,nU,⟨fZ,a6I,a6J⟩,pP,pQ,⟨iD,a7T,a7U⟩,abB,ajK,acG,acH,arJ,ajL,abC,amM,⟨LV (st:=D4) KQ D3 KP,RQ (ps:=["_law_script"]) (λus hl=>match us,hl with|[_],_=>rfl),qi XK GG z0⟩,⟨Of,Oe,Od,Oc⟩,⟨Ob,bA,gR,Oa⟩,qi XK GG Og,mW,pX,mX,mR.gt XK GG,vQ.gt XK GG,CF.gt XK GG,CD.gt XK GG,nY.gt XK GG,pD.gt XK GG,⟨NN,NM,NL,pD.be,NJ,pD.cs⟩,vR,gG.gt XK GG,⟨wZ,xA,xB,gG.be,xC,gG.cs⟩,mU,dG,fC,jF,jG,iI,iJ,eE,cO,d8,fD,fG,eF,eG,cR,⟨acA,qi XK GG jZ⟩,⟨acB,qi XK GG kJ⟩,⟨acC,qi XK GG kW⟩,⟨amE,qi XK GG sE⟩,⟨ajH,qi XK GG fH⟩,Z xD,Z Lv,Z Lu,Z KO,Z xE,Z KN,Z Ls,Z Ma,Z MB,Z KL,Z LZ⟩;exact⟨_,λs v=>.of_eq rfl,λbase _ _=>(aJG T).imp (aCF T)⟩
def walk{l:PySem.W.OpenLaw}{d:DefRec}{K:Params->jq}(hn:l.most=aj 63)(DB:d.params.defaults=[])
  (hY:∀(w:jr)(h:lg),YP w h->(K w.params).In h)
  (F:∀(w:jr)(mg:Str->Option au)(fa:bw)(h:lg),(K w.params).In h->h.Ns nj mg->mg d.name=aj (.ref fa) ->
   ∃fd:oh,(∀(s:cg)(u:au),BindsTo s fd ⟨[u],[]⟩ [("_law_script",u)])/\∀base:lg,(K w.params).In base->base.Ns nj mg->c7 ao l.prog w (K w.params) mg base (m6 l.prog w) 11 fa fd ["_law_script"] (GV (K w.params))) :
  PySem.W.WalkO q loose XP YP l.row.toRowW d [] (λf vs=>PySem.call f vs) :=
 L2.Zh (n:=63) (k:=11) (x:="_law_script") (CX:=λw=>m6 l.prog w) (sp:=λw=>GV (K w.params)) hn (by decide) DB ⟨λ_=>rfl,by decide,by decide⟩ hY F (λ_ _ a ns hl _ hS=>⟨a,ns,rfl,hS,hl,λ_=>rfl⟩) (by rintro _ _ _ _ _ ⟨_,_,_,_,_,_,_,_,_,_,_,_,z⟩;exact z)
end Law
open PySem PySem.W PyProof.Rows
set_option tactic.hygienic true in
theorem PySem.Challenge.cw_depot_k26_many_bins_and_lots_holds : PySem.Challenge.rw_depot_k26_many_bins_and_lots.Holds := by
 w_on;refine PySem.W.holds_law Law.Qe λOy=>?_;o_head (PySem.W.kHook Law.Gy.heap_1 Law.Gz Law.Ky)
 case hl=>exact Law.Yw
 case hw=>w_witness2
 k_fill
 refine Law.walk (l:=PySem.Challenge.rw_depot_k26_many_bins_and_lots) rfl rfl (λw h Y=>PySem.W.kIn_of Y) ?F
 case F =>
  intro w mg fa h KX G Dy;refine' Law.all_mk KX G Dy ?gP ?qX ?lV ?qY ?jD ?vO ?fL ?dZ ?cV ?pB ?nO ?bA ?gR ?lM ?dY ?gU ?gW ?o7 ?jU ?uO ?o8 ?jH ?sH ?pU ?sI ?o9 ?pW ?d7 ?lW ?iM ?iQ ?qZ ?lX ?gC ?nW ?z0 ?KQ ?D3 ?KP ?Og ?Of ?Oe ?Od ?Oc ?Ob ?Oa ?mW ?pX ?mX ?mR ?vQ ?CF ?CD ?nY ?pD ?NN ?NM ?NL ?NJ ?vR ?gG ?wZ ?xA ?xB ?xC ?mU ?dG ?fC ?jF ?jG ?iI ?iJ ?eE ?cO ?d8 ?fD ?fG ?eF ?eG ?cR ?jZ ?kJ ?kW ?sE ?fH ?xD ?Lv ?Lu ?KO ?xE ?KN ?Ls ?Ma ?MB ?KL ?LZ
  case Og=>k_is
  case gP|qX|lV|qY|jD|vO|fL|dZ|cV|pB|nO=>exact⟨by k_is,_,_,_,_,_,_,_,_,_,by k_is,by k_is,by k_is⟩
  case mR|vQ|CF|CD|nY|pD|gG=>exact⟨by k_is,by k_exc,∅,by k_is,by k_is⟩
  case o7|jU|uO|o8|jH|sH|pU|sI|o9|pW=>exact⟨by k_is,by k_is,_,_,_,_,_,_,_,_,_,by k_is,by k_is,by k_is⟩
  case d7|lW|iM|iQ|qZ|lX|gC|nW=>exact⟨by k_is,_,_,_,_,_,_,_,_,_,by k_is,by k_is,by k_is⟩
  case bA|gR|lM|dY|gU|gW|z0|KQ|D3|KP|Of|Oe|Od|Oc|Ob|Oa|mW|pX|mX|NN|NM|NL|NJ|wZ|xA|xB|xC|dG|cO|jZ|kJ|kW|sE|fH|xD|Lv|Lu|KO|xE|KN|Ls|Ma|MB|KL|LZ=>k_is
  case vR|mU|fC|jF|jG|iI|iJ|eE|d8|fD|fG|eF|eG|cR=>kit_is
