import PyProof.Rows.All
import Wide.All
import OpenK.KLine
import OpenK.KOwn
import Wide.FinOn
import Lean
import PyProof.EqAt
import PyProof.EqKinds
import PyProof.TupleCall
import KE.KMinKey
import KE.KSortTup
import KE.KRevSl
import KE.KStateDown
import PyProof.Rows.Range3
import KE.KDictOf
import PyProof.AttrMissSeq
import KE.KRevIter
import KE.KItemsList
import KE.KPairComp
import KE.KEqDict
import KE.KDictSum
import KE.RegKIsAll
import KE.KNest
import KE.KClos
import PyProof.Draws
import PyProof.EnumMake
import KE.KLam
import PyProof.AutoListH
import KE.KDictLaws
import PyProof.StrLawsTight
import PySem.Challenge.RW_depot_k75_whole_errands
set_option Elab.async false
set_option linter.all false
set_option maxRecDepth 100000
set_option maxHeartbeats 4000000
set_option compiler.extract_closed false
local macro_rules|`(command|abbrev $i:declId $s:optDeclSig $v:declVal)=>`(command|noncomputable def $i:declId $s:optDeclSig $v:declVal)
local macro_rules|`(command|@[simp]def $i:declId $s:optDeclSig $v:declVal)=>`(command|noncomputable abbrev $i:declId $s:optDeclSig $v:declVal)
local macro_rules|`(command|def $i:declId $s:optDeclSig $v:declVal)=>`(command|theorem $i:declId $(⟨Lean.mkNode ``Lean.Parser.Command.declSig #[s.raw[0],s.raw[1][0]]⟩):declSig $v:declVal)
local macro_rules|`(command|private theorem $i:declId $s:declSig $v:declVal)=>`(command|set_option tactic.hygienic true in theorem $i:declId $s:declSig $v:declVal)
local macro_rules|`(tactic|nofun)=>`(tactic|kernel_rfl)
open Option renaming some->aj,none->aq,some->jd,map_eq_some_iff->xg,isSome_iff_exists->a0D,none->a1l
open Bool renaming true->ak,false->ao,and_eq_true->bw,not_eq_true'->gw,false_ne_true->pq,false_eq_true->qw,or_eq_true->a0r
open PySem renaming wpAny_bind->au,Value->bh,Addr->bx,Shared->dg,sizeLine->dh,wpAny->dj,wpAny_pure->dw,model->gk,Expr->jc,Heap->jf,mainGlobals->ji,compareOp->jm,World->jq,Around->jr,starEach->jt,Program->ju,bootBuiltins->jw,FuncData->jy,Stmt->lq,cLine->ni,wpAny_mono->oh,NameKind->qe,wpAny_newObj_type->qg,wpAny_field->uf,Scope->ur,wpAny_truthy_bool->uw,sysModules->vd,wpAny_holding->vq,tupleKind_room_in1->wg,wpAny_callSpecial?_slot->wj,binaryOp->wu,wpAny_seqItems->xq,codeAny_builtin->xu,wpAny_tryCatch->yj,pyNext->yt,wpAny_letGo->yu,plainId_quiet->yw,wpAny_call_entry->yx,bindArgs->za,wpAny_setField->zf,codeAny->zm,cellsFrom->zp,tupleKind->zy,behindInMarks->a01,attributeBase->a03,wpAny_typeNameOfWhole_keyiter->a0a,assignEach->a0h,backTo->a0i,rawInt->a0j,wpAny_pyIter_tuple->a0l,wpAny_Call_Name_kw->a0m,wpAny_passesOwn->a0o,foldedSetIterable->a0w,CmpOp->a0x,lookup_relabel_local->a0y,wpAny_typeNameOf_keyiter->a1c,wpAny_getItem_str_slice->a1d,seqItems?->a1g,wpAny_rule->a1h,swapsWith->a1i,wpAny_updateSeq->a1k,IsRangeIter->a1t,storedH->a1u,richCompare->a1v,sliceBounds->a1w,letOwnedTupleGo->a1z,PassesOwn->a2e,DictEntry->a2f,firstArgMember->a2g,builtinsNs->a2h,wpAny_dictEntries->a2l,wpAny_pyIter_enum->a2m,wpAny_attempt->a2r
open List renaming getElem?_eq_getElem->cg,getElem?_eq_some_iff->fj,length_map->gj,size_toArray->gq,mem_map->iw,mem_cons->iy,mem_of_getElem?->iz,range->je,all_eq_true->jl,mem_cons_of_mem->jo,map_map->jz,length_append->kh,getElem?_map->kj,lookup_cons->lg,map_append->mq,map_cons->nj,mem_append_right->nu,mem_range->ou,getElem?_append_left->qj,append_assoc->qu,mem_singleton->qx,length_take->qy,length_cons->qz,mem_cons_self->rm,append_nil->ud,not_mem_nil->ug,getElem?_set_ne->uo,drop_eq_getElem_cons->uq,getElem?_append_right->ux,mem_append->vg,nodup_cons->vh,take_of_length_le->vo,map_congr_left->vp,mem_filter->yp,cons_append->zc,mem_append_left->zu,getElem?_take_of_lt->zx,all_cons->a04,filter_eq_self->a0b,length_pos_iff->a0c,replicate->a0d,take_length->a0g,map_nil->a0k,getD->a0n,forIn_cons->a0p,getElem?_eq_none->a0q,foldl_cons->a0s,nil_append->a0t,idxOf_cons->a0u,getD_eq_getElem?_getD->a0v,filter_cons->a1a,any_cons->a1e,find?_cons->a1j,nodup_append->a1n,length_singleton->a1p,dropLast_concat_getLast->a1q,filterMap_cons->a1y,getElem?_zip_eq_some->a2a,pairwise_iff_getElem->a2b,getLastD_eq_getLast?->a2d,nodup_nil->a2j,getElem?_cons_zero->a2k,length_range->a2n,getElem?_set_self->a2o,range_succ_eq_map->a2p,drop_eq_nil_of_le->a2q,any_eq_true->a2s,mem_iff_getElem?->a2t,of_mem_zip->a2v,length_nil->a2w,getElem?_range->a2L,take_succ->a2V,lookup->a3a
open PySem.Heap renaming get?_push_of_some->cj,lt_size->gV,get?_push_size->ig,get?_update_other->qb,SameBut->su,get?_update_self->yd,size_push->zj,ExtBut->a1s
open Nat renaming le_refl->cu,ne_of_lt->jg,lt_of_lt_of_le->jj,le_trans->uh,le_of_lt->vf,lt_irrefl->wz,ne_of_gt->yg,zero_le->zq,le_add_right->a1b,lt_succ_of_lt->a1m,min_eq_left->a2x,le_of_eq->a2y
open PySem.W renaming Frag->iu,nsIn->qd,fnOf->tu,kia_one->yc,keepIn->yh,kitOne->a0f,mg_of->a1f,findIn->a1o,clsIn->a1r,kas_rev->a1x,codeIn->a2i,Hook->a2u
open PyProof.Rows renaming seqObj->vm,IntsAre->a0e
open Int renaming toNat_natCast->xr,le_refl->a0z,natCast_add->a2z
open Array renaming length_toList->yq,getElem?_eq_getElem->a2c
namespace Law
open PySem PySem.W PyProof.Rows
abbrev qI(n:Nat):lq:=PySem.Challenge.pw_depot_k75_whole_errands.main.body.getD n (.Pass ⟨0,0,0,0⟩)
abbrev frQ:ju:={PySem.Challenge.pw_depot_k75_whole_errands with main:={PySem.Challenge.pw_depot_k75_whole_errands.main with body:=[qI 1,qI 2,qI 3,qI 5,qI 6,qI 7,qI 8,qI 10,qI 11,qI 12,qI 13,qI 14,qI 15,qI 17,qI 19,qI 20,qI 21,qI 22,qI 23,qI 24,qI 25,qI 26,qI 27,qI 28,qI 29,qI 30,qI 31,qI 33,qI 35,qI 36,qI 37,qI 38,qI 39,qI 40,qI 41,qI 42,qI 43,qI 44,qI 45,qI 46,qI 47]}}
def frB{p q:ju}{α:Type}{Yf:dg->α}{Ya:jq->α}{N:Nat}{g0:Bool}
  (e:opening p=plainProg p.main.scope.names)(hN:Nat.ble 600 N=ak)(f:∀s,fenceModules? p s=aj s)
  (h:∀(w:jq)(os:OsState),(topFrom treeTable p w N ⟨boot_heap w.params,#[],boot_drawn,boot_toks,os⟩).map (λs=>(openSeen q loose (importedModules p.main.body) Xt g0 s,Yf s))=aj (openGood q loose,Ya w)) :
  LeftO p q loose Xt Yf Ya N g0:=λw=>by
 obtain⟨⟨h1,gs,d,k,os⟩,e1,e'⟩:=xg.mp (boot_open e hN f w);obtain⟨rfl,rfl,rfl,rfl⟩:h1=boot_heap w.params/\gs=#[]/\d=boot_drawn/\k=boot_toks:=by simpa using e'
 unfold openEnds;rw[e1];exact h w os
@[simp]def frX:dg->Bool:=λs=>xlAt frQ [] s&&recOk (RowW.records (OpenRow.toRowW (OpenLaw.row PySem.Challenge.rw_depot_k75_whole_errands))) s
end Law
local macro_rules
 | `(tactic| o_head $H)=>`(tactic| refine PySem.W.holds_open (q:=Law.frQ) (loose:=[]) (Xt:=Law.frX) (XP:=PySem.W.XL Law.frQ []) (Yf:=a2u.obs $H) (Ya:=a2u.val $H)
     (YP:=a2u.says $H) (N:=3630) ?hl (a2u.of $H) (a2u.keeps $H) (λs e=>PySem.W.xl_of s (Bool.and_eq_true_iff.mp e).1) PySem.W.XL.keeps (by rfl) (by rfl) (by rfl)
     (λs e=>PySem.W.recFacts_of (Bool.and_eq_true_iff.mp e).2) (by rfl) (by first|assumption|decide+kernel) (by decide+kernel) ⟨rfl,rfl,rfl,rfl,rfl,by decide+kernel⟩ ?hw ?hc)
open PySem PySem.W in
def Law.frW:OpenLaw.wellSaid PySem.Challenge.rw_depot_k75_whole_errands=ak:=by nofun
open PySem PySem.W in
def Law.frK(h0:∀{α:Type}(Yf:dg->α)(Ya:jq->α),LeftO (OpenLaw.row PySem.Challenge.rw_depot_k75_whole_errands).prog Law.frQ [] Law.frX Yf Ya 3630)
  (h1:∀YP d,WalkO Law.frQ [] (XL Law.frQ []) YP (OpenRow.toRowW (OpenLaw.row PySem.Challenge.rw_depot_k75_whole_errands)) d [] (λf vs=>PySem.call f vs)):OpenLaw.Holds PySem.Challenge.rw_depot_k75_whole_errands:=by
 w_on;refine PySem.W.holds_law Law.frW λsaid=>?_;k_head
 case hl=>exact h0 _ _
 case hw=>w_witness2
 exact h1 _ _
@[simp]def Law.frA:List Nat:=[2,3,15,22,23,24,25,28,35,36,37,40,47,48,49,52,54,55,57,58,59,61,62,64,65,66,68,69,71,72,73,75,76,78,79,80,82,83,85,86,87,89,90,92,93,94,96,97,99,100,101,103,104,106,107,108,109,112,113,114,116,117,119,120,121,123,124,126,127,128,130,131,133,134,135,137,138,140,141,142,144,145,147,148,149,151,152,154,155,156,158,159,161,162,163,165,166,168,169,170,173,174,175,178,179,180,183,184,185,188,189,190,192,193,195,196,197,199,200,202,203,204,206,207,209,210,211,213,214,216,217,218,220,221,223,224,225,227,228,230,231,232,234,235,237,238,239,241,242,244,245,246,249,250,251,254,255,256,258,259,261,262,263,265,266,268,269,270,273,274]
def Law.frE:∀P,Law.frA=(Law.frK.heap_1 P).map (·.1):=λ_=>by nofun
open PySem PySem.W in
def Law.frL:LeftO (OpenLaw.row PySem.Challenge.rw_depot_k75_whole_errands).prog Law.frQ [] Law.frX (Hook.obs (kHook Law.frK.heap_1 Law.frA Law.frE)) (Hook.val (kHook Law.frK.heap_1 Law.frA Law.frE)) 3630 :=
 Law.frB (by nofun) (by nofun) (λs=>by nofun) (λw os=>by nofun)
local macro_rules|`(tactic|omega)=>`(tactic|first|lia|omega (config := {}))
set_option tactic.hygienic false
namespace L2
open PySem PySem.Spec PyProof.Rows
variable{l:bx}{x:Str}
section
structure Tr(B:jf)(x:bx)(C fl:bh)(h:jf):Prop where
 ex:∃(o:Obj)(vs:Array bh)(T:bx)(oT:Obj)(ts:Array bh),h.get? x=aj o/\o.cls=C/\o.data=.fields vs/\vs[1]?=aj (.ref T)/\vs[2]?=aj .none/\B.get? T=aq/\T≠x/\h.get? T=aj oT/\oT.data=.fields ts/\ts[3]?=aj fl
structure awI(B:jf)(l:List Env)(x:bx)(C fl:bh)(h:jf):Prop where
 stays:B.StaysIn h
 new:B.get? x=aq
 aSZ:h.FunFrames B l
 tr:Tr B x C fl h
@[simp]def Fly(B:jf)(l:List Env)(x:bx)(C:bh)(h:jf):Prop:=awI B l x C .none h
variable{o:Obj}{i:Nat}
section
variable{B:jf}{env:Env}{outer:List Env}{x:bx}{fl:bh}
def xK{h:jf}{vs:Array bh}(e:h.get? a=aj o)(d:o.data=.fields vs) :
  (h.update a (Obj.mapFields (·.setIfInBounds i v))).get? a=aj (Obj.mapFields (·.setIfInBounds i v) o)/\(Obj.mapFields (·.setIfInBounds i v) o).data=.fields (vs.setIfInBounds i v)/\(Obj.mapFields (·.setIfInBounds i v) o).cls=o.cls /\
  (∀b,b≠a->(h.update a (Obj.mapFields (·.setIfInBounds i v))).get? b=h.get? b):=by
 have d':=Obj.data_mapFields d (·.setIfInBounds i v);exact⟨yd _ e (Obj.isFreed_of_fields d'),d',Obj.cls_mapFields _ _,λb hb=>qb _ _ (Ne.symm hb)⟩
def awI.tail(f:awI B (env::outer) x C fl h):awI B outer x C fl h:=by
 obtain⟨st,nw,⟨_,_,fu⟩,tr⟩:=f;exact⟨st,nw,fu,tr⟩
end
abbrev a9C(A:jr)(h:jf):Prop:=A.handled=aq∨∃x o vs,A.handled=aj (.ref x)/\h.get? x=aj o/\o.data=.fields vs/\vs[2]?=aj .none
def a9D:entryFor table "proto.unchain"=aj Builtin.«proto.unchain» :=entryFor_of_fast (by nofun)
section
variable{prog:ju}{w:jq}{A:jr}{E:bh->dg->Prop}{s:dg}
def amW{α:Type}{Q:α->dg->Prop}{a:bx}{oa:Obj}{ws:Array bh}(hq:a9C A s.heap)(ea:s.heap.get? a=aj oa)(da:oa.data=.fields ws)(la:2<ws.size)(na:∀x,A.handled=aj (.ref x)->x≠a)
  (h:∀h',(∀b,b≠a->h'.get? b=s.heap.get? b)->(∃o,h'.get? a=aj o/\o.cls=oa.cls)->E (.ref a) {s with heap:=h' }):dj (gk prog w) A (raiseNew (.ref a):Sem α) Q E s:=by
 unfold raiseNew;refine au (wpAny_handled ?_);rcases hq with hn|⟨x,o,vs,hx,ex,dx,vx⟩
 .rw[hn];exact au (dw (wpAny_throw (h s.heap (λ_ _=>rfl) ⟨oa,ea,rfl⟩)))
 .rw[hx];have ne:=na x hx;show dj (gk prog w) _ (if((bh.ref x)!=(bh.ref a))=ak then _ else _) _ _ _;rw[if_pos (by simpa using ne)];refine au (vq (wpAny_runValue (xu a9D ?_)));show dj (gk prog w) _ (field (.ref x) 2 >>= _) _ _ _;refine au (uf ex dx vx ?_);show dj (gk prog w) _ (if((bh.none:bh)==bh.none)=ak then _ else _) _ _ _;rw[if_pos (by decide)];refine au (dw (dw ?_));obtain⟨u1,u2,u3,u4⟩:=xK (i:=2) (v:=.ref x) ea da;show dj (gk prog w) _ (setField (.ref a) 2 (.ref x) >>= _) _ _ _;exact au (zf ea da la (wpAny_throw (h _ u4 ⟨_,u1,u3⟩)))
def nC{α:Type}{Q:α->dg->Prop}(hq:a9C A s.heap)(h:∀a h',(∀b o,s.heap.get? b=aj o->h'.get? b=aj o)->(∃o,h'.get? a=aj o/\o.cls=.type "StopIteration")->E (.ref a) {s with heap:=h' }) :
  dj (gk prog w) A (newExc (.type "StopIteration") [] >>= λe=>(raiseNew e:Sem α)) Q E s:=by
 refine au ?_;unfold newExc newTuple;refine au (qg (au (wpAny_of_eq (a:=Value.none) (by simp only[a2g];rfl) (qg ?_ (by size_fits)))) (by size_fits));generalize hh:s.heap.push {cls:=.type "tuple",data:=.seq ([]:List bh).toArray}=h1;generalize ho:({cls:=.type "StopIteration",data:=.fields (#[.ref s.heap.objs.size,.none,.none,.none,.bool ao,.none]++ownMembersOf (.type "StopIteration") [])}:Obj)=o1;have k1:∀b o,s.heap.get? b=aj o->(h1.push o1).get? b=aj o:=λb o e=>cj _ (hh ▸ cj _ e)
 have ea:(h1.push o1).get? h1.objs.size=aj o1:=by
  subst ho;exact ig h1 rfl
 have old:∀b o,s.heap.get? b=aj o->b≠h1.objs.size:=λb o e z=>by
  have l1:b<h1.objs.size:=by
   rw[←hh,zj];exact a1m (gV e)
  exact absurd l1 (by rw[z];exact wz _)
 refine amW (ws:=#[.ref s.heap.objs.size,.none,.none,.none,.bool ao,.none]++ownMembersOf (.type "StopIteration") []) ?_ ea (by rw[←ho]) (by simp[ownMembersOf]) (λx hx=>?_) λh' k c=>h h1.objs.size h' (λb o e=>(k b (old b o e)).trans (k1 b o e)) ?_
 .rcases hq with z|⟨x,o,vs,a1,a2,a3⟩
  .exact .inl z
  .exact .inr ⟨x,o,vs,a1,k1 _ _ a2,a3⟩
 .rcases hq with z|⟨x',o,vs,a1,a2,a3⟩
  .rw[z]at hx;cases hx
  .rw[a1]at hx;cases hx;exact old _ _ a2
 .obtain⟨o,e,c⟩:=c;exact⟨o,e,by rw[c,←ho]⟩
def qJ{T id:String}{b:Builtin}(slot:Slot T (Str.ofString "__next__") id)(entry:entryFor table id=aj b)(hT:s.TypeIs (.ref it) T)(args:argsOk id ⟨[.ref it],[]⟩)
  (hb:dj (gk prog w) A.in1 (b ⟨[.ref it],[]⟩) (λ_ _=>False) (λe s'=>∃a o,e=.ref a/\s'.heap.get? a=aj o/\o.cls=.type "StopIteration"/\Q aq s') s):dj (gk prog w) A (yt (.ref it)) Q E s:=by
 unfold yt;refine au (a2r (wj hT slot (yx slot hT entry (oh hb (λ_ _ z=>z.elim) λe s' z=>?_) args)));obtain⟨a,o,rfl,e1,e2,q⟩:=z;exact au (wpAny_isInstance (T:="StopIteration") (b:=true) ⟨o,e1,e2⟩ isSubtype_stop (dw q))
def a5T(hq:a9C A s.heap)(e:s.heap.get? it=aj o)(d:o.data=.fields vs)(l:vs[2]?≠aj .none):a9C A (s.heap.update it (Obj.mapFields (·.setIfInBounds i v))):=by
 rcases hq with z|⟨x,ox,ws,a1,a2,a3,a4⟩
 .exact .inl z
 .refine .inr ⟨x,ox,ws,a1,?_,a3,a4⟩
  have ne:x≠it:=λz=>by
   subst z;rw[e]at a2;cases a2;rw[d]at a3;cases a3;exact l a4
  exact((xK e d).2.2.2 x ne).trans a2
def amX{items:Array bh}(hq:a9C A s.heap)(hit:s.heap.IsListIter it l i)(hl:s.heap.IsList l items)(hx:items[i]?=aq)
  (h:∀h',a1s it s.heap h'->Q aq {s with heap:=h' }):dj (gk prog w) A (yt (.ref it)) Q E s:=by
 obtain⟨o,e1,c1,d1⟩:=id hit;obtain⟨ol,e2,_,nl,d2⟩:=hl;refine qJ slot_listiter_next entry_listiter_next hit.typeIs (args_listiter_next _) ?_;show dj (gk prog w) _ (field (.ref it) 0 >>= _) _ _ s;refine au (uf e1 d1 (x:=.ref l) rfl ?_);show dj (gk prog w) _ (field (.ref it) 1 >>= _) _ _ s;refine au (uf e1 d1 (x:=.int i 0) rfl ?_);show dj (gk prog w) _ (a1g (.ref l) >>= _) _ _ s;refine au (xq e2 d2 ?_);simp only[hx,xr];refine au (a1h (au (zf e1 d1 (by simp) ?_)));refine nC (A:=A.in1) (a5T hq e1 d1 (by simp)) λa h' k c=>?_;obtain⟨oa,ea,ca⟩:=c;exact⟨a,oa,rfl,ea,ca,h h' λb ob n e=>k b ob (((xK e1 d1).2.2.2 b n).trans e)⟩
def apP{items:Array bh}(hq:a9C A s.heap)(hit:s.heap.IsTupleIter it l i)(hl:s.heap.IsTuple l items)(hx:items[i]?=aq)
  (h:∀h',a1s it s.heap h'->Q aq {s with heap:=h' }):dj (gk prog w) A (yt (.ref it)) Q E s:=by
 obtain⟨o,e1,c1,d1⟩:=id hit;obtain⟨ol,e2,_,nl,d2⟩:=hl;refine qJ F.slot_tuple_iterator_next F.entry_tuple_iterator_next hit.typeIs (F.args_tuple_iterator_next_1 _) ?_;show dj (gk prog w) _ (field (.ref it) 0 >>= _) _ _ s;refine au (uf e1 d1 (x:=.ref l) rfl ?_);show dj (gk prog w) _ (field (.ref it) 1 >>= _) _ _ s;refine au (uf e1 d1 (x:=.int i 0) rfl ?_);show dj (gk prog w) _ (a1g (.ref l) >>= _) _ _ s;refine au (xq e2 d2 ?_);simp only[hx,xr];refine au (a1h (au (zf e1 d1 (by simp) ?_)));refine nC (A:=A.in1) (a5T hq e1 d1 (by simp)) λa h' k c=>?_;obtain⟨oa,ea,ca⟩:=c;exact⟨a,oa,rfl,ea,ca,h h' λb ob n e=>k b ob (((xK e1 d1).2.2.2 b n).trans e)⟩
def aeC{x left step:Int}(hq:a9C A s.heap)(hit:a1t s.heap it x left step)(hleft:left<=0)
  (h:∀h',a1s it s.heap h'->Q aq {s with heap:=h' }):dj (gk prog w) A (yt (.ref it)) Q E s:=by
 refine qJ F.slot_range_iterator_next F.entry_range_iterator_next ⟨_,hit,rfl⟩ (F.args_range_iterator_next_1 _) ?_;show dj (gk prog w) _ (field (.ref it) 0 >>= _) _ _ s;refine au (uf hit rfl (i:=0) rfl ?_);show dj (gk prog w) _ (field (.ref it) 1 >>= _) _ _ s;refine au (uf hit rfl (i:=1) rfl ?_);show dj (gk prog w) _ (field (.ref it) 2 >>= _) _ _ s;refine au (uf hit rfl (i:=2) rfl ?_);show dj (gk prog w) _ (if left<=0 then _ else _) _ _ s;rw[if_pos hleft];refine au (a1h (au ?_));refine nC (A:=A.in1) hq λa h' k c=>?_;obtain⟨oa,ea,ca⟩:=c;exact⟨a,oa,rfl,ea,ca,h h' λb ob n e=>k b ob e⟩
def amY{t:Tok}(hq:a9C A s.heap)(hit:s.heap.IsStrIter it "str_ascii_iterator" x t i)(hx:x.cps[i]?=aq)
  (h:∀h',a1s it s.heap h'->Q aq {s with heap:=h' }):dj (gk prog w) A (yt (.ref it)) Q E s:=by
 obtain⟨o,e1,c1,d1⟩:=id hit;refine qJ F.slot_str_ascii_iterator_next F.entry_str_ascii_iterator_next hit.typeIs (F.args_str_ascii_iterator_next_1 _) ?_;show dj (gk prog w) _ (field (.ref it) 0 >>= _) _ _ s;refine au (uf e1 d1 (x:=.str x t) rfl ?_);show dj (gk prog w) _ (field (.ref it) 1 >>= _) _ _ s;refine au (uf e1 d1 (x:=.int i 0) rfl ?_);simp only[hx,xr];refine au (a1h (au (zf e1 d1 (by simp) (au (yu ?_)))));refine nC (A:=A.in1) (a5T hq e1 d1 (by simp)) λa h' k c=>?_;obtain⟨oa,ea,ca⟩:=c;exact⟨a,oa,rfl,ea,ca,h h' λb ob n e=>k b ob (((xK e1 d1).2.2.2 b n).trans e)⟩
def amZ{t:Tok}(hq:a9C A s.heap)(hit:s.heap.IsStrIter it "str_iterator" x t i)(hx:x.cps[i]?=aq)
  (h:∀h',a1s it s.heap h'->Q aq {s with heap:=h' }):dj (gk prog w) A (yt (.ref it)) Q E s:=by
 obtain⟨o,e1,c1,d1⟩:=id hit;refine qJ F.slot_str_iterator_next F.entry_str_iterator_next hit.typeIs (F.args_str_iterator_next_1 _) ?_;show dj (gk prog w) _ (field (.ref it) 0 >>= _) _ _ s;refine au (uf e1 d1 (x:=.str x t) rfl ?_);show dj (gk prog w) _ (field (.ref it) 1 >>= _) _ _ s;refine au (uf e1 d1 (x:=.int i 0) rfl ?_);simp only[hx,xr];refine au (a1h (au (zf e1 d1 (by simp) (au (yu ?_)))));refine nC (A:=A.in1) (a5T hq e1 d1 (by simp)) λa h' k c=>?_;obtain⟨oa,ea,ca⟩:=c;exact⟨a,oa,rfl,ea,ca,h h' λb ob n e=>k b ob (((xK e1 d1).2.2.2 b n).trans e)⟩
end
end
section
@[simp]def Key:=Sum Int Str
abbrev a6C:Key->bh->Bool
 |.inl k,v=>bh.isInt k v
 |.inr x,v=>bh.isStrOf x v
abbrev aOO(w:jq):Key->Int
 |.inl k=>hashInt k
 |.inr x=>hashStr w x
def cZ:∀{k:Key}{v:bh},a6C k v=ak->(∃i t,k=Sum.inl i/\v=bh.int i t)∨(∃x t,k=Sum.inr x/\v=bh.str x t)
 |.inl i,v,h=>by
  obtain⟨t,e⟩:=Value.isInt_shape (k:=i) (v:=v) h;exact .inl ⟨i,t,rfl,e⟩
 |.inr x,v,h=>by
  obtain⟨t,e⟩:=Value.isStrOf_shape (x:=x) (v:=v) h;exact .inr ⟨x,t,rfl,e⟩
def an0(i:Int)(t:Tok):a6C (.inl i) (.int i t)=ak:=by simp[a6C,bh.isInt]
def an1(x:Str)(t:Tok):a6C (.inr x) (.str x t)=ak:=by simp[a6C,bh.isStrOf]
def aCW(a b:Int):decide ((Sum.inl a:Key)=Sum.inl b)=(a==b):=by
 by_cases e:a=b
 .subst e;simp
 .have h:¬ (Sum.inl a:Key)=Sum.inl b:=λq=>e (Sum.inl.inj q);rw[decide_eq_false h];exact(beq_eq_false_iff_ne.mpr e).symm
def aCX(a b:Str):decide ((Sum.inr a:Key)=Sum.inr b)=decide (a=b):=by
 by_cases e:a=b
 .subst e;simp
 .have h:¬ (Sum.inr a:Key)=Sum.inr b:=λq=>e (Sum.inr.inj q);rw[decide_eq_false h,decide_eq_false e]
def aCY(a:Int)(b:Str):decide ((Sum.inl a:Key)=Sum.inr b)=ao:=decide_eq_false (λq=>nomatch q)
def aCZ(a:Str)(b:Int):decide ((Sum.inr a:Key)=Sum.inl b)=ao:=decide_eq_false (λq=>nomatch q)
abbrev bN(prog:ju)(w:jq):PySem.KeyKind prog w Key where
 is:=a6C
 hash:=aOO w
 inj:=λv a b ha hb=>by
  rcases cZ ha with⟨i,t,rfl,rfl⟩|⟨x,t,rfl,rfl⟩
  .rcases cZ hb with⟨j,u,rfl,e⟩|⟨y,u,rfl,e⟩
   .injection e with e1 _;rw[e1]
   .exact nomatch e
  .rcases cZ hb with⟨j,u,rfl,e⟩|⟨y,u,rfl,e⟩
   .exact nomatch e
   .injection e with e1 _;rw[e1]
 byValue:=λk v h=>by
  rcases cZ h with⟨i,t,rfl,rfl⟩|⟨x,t,rfl,rfl⟩<;>rfl
 pyHash:=λhv h=>by
  rcases cZ hv with⟨i,t,rfl,rfl⟩|⟨x,t,rfl,rfl⟩
  .exact wpAny_pyHash_int h
  .exact wpAny_pyHash_str h
 eqBool:=λhu hv h=>by
  rcases cZ hu with⟨i,t,rfl,rfl⟩|⟨x,t,rfl,rfl⟩
  .rcases cZ hv with⟨j,u,rfl,rfl⟩|⟨y,u,rfl,rfl⟩
   .rw[aCW]at h;exact wpAny_eqBool_int h
   .rw[aCY]at h;exact SeqAt.EqAt.int_str i t y u _ _ _ _ h
  .rcases cZ hv with⟨j,u,rfl,rfl⟩|⟨y,u,rfl,rfl⟩
   .rw[aCZ]at h;exact SeqAt.EqAt.str_int x t j u _ _ _ _ h
   .rw[aCX]at h;exact wpAny_eqBool_str h
 «strs» :=λk x t v h=>by
  rcases cZ h with⟨i,u,rfl,e⟩|⟨y,u,rfl,e⟩
  .exact nomatch e
  .injection e with e1 _;subst e1;cases v<;>rfl
def aeD(prog:ju)(w:jq)(i:Int)(t:Tok):(bN prog w).is (.inl i) (.int i t)=ak:=an0 i t
def aeE(prog:ju)(w:jq)(x:Str)(t:Tok):(bN prog w).is (.inr x) (.str x t)=ak:=an1 x t
end
variable{b:bx}{w:jq}
section
inductive V where
 |non|bl (b:Bool)|int (i:Int)|str (x:Str)|byt (b:Array UInt8)|flt (b:UInt64)|ref (a:bx)|ty (n:String)
 deriving DecidableEq
abbrev RelV:V->bh->Prop
 |.non,u=>u=bh.none
 |.bl b,u=>u=bh.bool b
 |.int i,u=>∃t,u=bh.int i t
 |.str x,u=>∃t,u=bh.str x t
 |.byt b,u=>∃t,u=bh.bytes b t
 |.flt b,u=>∃t,u=bh.float b t
 |.ref a,u=>u=bh.ref a
 |.ty n,u=>u=bh.type n
@[simp]def Vals:List V->List bh->Prop:=Paired RelV
def Vals.length{xs:List V}{us:List bh}(r:Vals xs us):xs.length=us.length:=Paired.length r
def Vals.get:∀{xs:List V}{us:List bh}{i:Nat}{x:V},Vals xs us->xs[i]?=aj x->∃u,us[i]?=aj u/\RelV x u
 |_,_,_,_,.nil,e=>by simp at e
 |_,_,0,_,.cons r _,e=>by simp at e;subst e;exact⟨_,rfl,r⟩
 |_,_,i+1,x,.cons _ t,e=>by
  obtain⟨u,h1,h2⟩:=Vals.get (i:=i) (x:=x) t (by simpa using e);exact⟨u,by simpa using h1,h2⟩
def Vals.set{x:V}(r:RelV x u):∀{xs:List V}{us:List bh}(i:Nat),Vals xs us->Vals (xs.set i x) (us.set i u)
 |_,_,_,.nil=>.nil
 |_,_,0,.cons _ t=>.cons r t
 |_,_,i+1,.cons q t=>.cons q (Vals.set r i t)
def Vals.append:∀{xs ys:List V}{us ws:List bh},Vals xs us->Vals ys ws->Vals (xs++ys) (us++ws)
 |_,_,_,_,.nil,s=>s
 |_,_,_,_,.cons r t,s=>.cons r (Vals.append t s)
def Vals.take:∀{xs:List V}{us:List bh}(n:Nat),Vals xs us->Vals (xs.take n) (us.take n)
 |_,_,0,_=>.nil
 |_,_,_+1,.nil=>.nil
 |_,_,n+1,.cons r t=>.cons r (Vals.take n t)
def Vals.drop:∀{xs:List V}{us:List bh}(n:Nat),Vals xs us->Vals (xs.drop n) (us.drop n)
 |_,_,0,r=>r
 |_,_,_+1,.nil=>.nil
 |_,_,n+1,.cons _ t=>Vals.drop n t
abbrev a5A:Option V->Option bh->Prop
 |some v,aj u=>RelV v u
 |none,aq=>True
 |_,_=>False
abbrev KV{κ:Type}:List (κ×V)->List (κ×bh)->Prop:=Paired λ(p:κ×V)(q:κ×bh)=>p.1=q.1/\RelV p.2 q.2
abbrev kV:Key->V
 |.inl i=>.int i
 |.inr x=>.str x
inductive HO where
 |lst (xs:List V)
 |tup (xs:List V)
 |dK (kvs:List (Key×V))|dT (kvs:List (List Key×V))
 |set (S:Int->Bool) (n:Nat)
 |ins (C dx:bx) (fs:List (Str×V))
 |own (x:bx)
 |xd (fs:List (Str×V))
 |met (f x:bx)
 |rng (lo hi:Int)
 |j6 (o:Obj) (u:HO)
 |zM (ps:Array bh)
 |ext (φ:jf->Prop)
@[simp]def Hp:=Addr->Option HO
abbrev upd(H:Hp)(a:bx)(o:HO):Hp:=λb=>if b=a then aj o else H b
def aL:upd H a o a=aj o:=by unfold upd;rw[if_pos rfl]
def aP(h:b≠a):upd H a o b=H b:=by unfold upd;rw[if_neg h]
def aa6{H:Hp}{a:bx}{o u:HO}(h:H a=aj o)(h':H b=aj u)(d:o≠u):a≠b:=by
 intro e;subst e;rw[h]at h';exact d (jd.inj h')
def cF{H:Hp}{a:bx}{o:HO}(h:H a=aj o)(h':H b=aq):a≠b:=by
 intro e;subst e;rw[h]at h';cases h'
section
variable(P:ju)(w:jq)
abbrev dM(H:Hp)(h:jf)(a:bx):HO->Prop
 |.lst xs=>xs.length<=dh/\∃(its:List bh)(n:Nat),Vals xs its/\h.get? a=aj {cls:=.type "list",data:=.seq its.toArray n}
 |.tup xs=>xs.length<=dh/\∃its:List bh,Vals xs its/\IsTup h a its.toArray
 |.dK kvs=>kvs.length<=dh/\(a==vd)=ao/\∃vs,KV kvs vs/\h.DictOf (bN P w) a vs
 |.dT kvs=>kvs.length<=dh/\(a==vd)=ao/\∃xs:List (List Key×bx×bh),
   Paired (λ(p:List Key×V)(q:List Key×bx×bh)=>p.1=q.1/\H q.2.1=aj (.tup (p.1.map kV))/\RelV p.2 q.2.2) kvs xs /\
   ∃o es ep,h.get? a=aj o/\o.ExactDict/\o.data=.dict es ep/\es.toList=xs.map (entryOfKey (zy (bN P w)))/\(xs.map (·.1)).Nodup
 |.set S n=>h.SetOf (intKind P w) a S n
 |.ins C dx fs=>H dx=aj (.own a)/\fs.length<=1000/\dx≠a/\h.get? a=aj (PySem.W.instObj C dx) /\
   ∃mA,h.Ns1 dx mA/\(∀f,a5A (fs.lookup f) (mA f))/\PySem.Within mA (fs.map (·.1))
 |.own _=>∃o,h.get? a=aj o
 |.xd fs=>∃mA,h.Ns1 a mA/\∀f,a5A (fs.lookup f) (mA f)
 |.rng lo hi=>∃t u v,h.get? a=aj {cls:=.type "range",data:=.fields #[.int lo t,.int hi u,.int 1 v]}
 |.j6 o u=>h.get? a=aj o/\dM H h a u
 |.zM ps=>h.get? a=aj {cls:=.none,data:=.fields ps}
 |.met f x=>h.get? a=aj (PySem.W.methodObj (.ref f) (.ref x))
 |.ext φ=>φ h/\(∃o,h.get? a=aj o)/\∀h1 h2:jf,φ h1->(∀o,h1.get? a=aj o->h2.get? a=aj o)->φ h2
abbrev xM(H:Hp)(h:jf):Prop:=∀a o,H a=aj o->dM P w H h a o
end
section
variable{w:jq}{h h':jf}{a:bx}
def dM.lt(x:dM P w H h a o):a<h.objs.size:=by
 cases o with
 |lst xs=>obtain⟨_,_,_,_,e⟩:=x;exact gV e
 |tup xs=>obtain⟨_,_,_,p⟩:=x;exact p.lt
 |dK kvs=>obtain⟨_,_,_,_,o,_,_,e,_⟩:=x;exact gV e
 |dT kvs=>obtain⟨_,_,_,_,o,_,_,e,_⟩:=x;exact gV e
 |set S n=>obtain⟨o,_,_,_,e,_⟩:=x;exact gV e
 |ins C dx fs=>obtain⟨_,_,_,e,_⟩:=x;exact gV e
 |own y=>obtain⟨_,e⟩:=x;exact gV e
 |xd fs=>obtain⟨_,⟨_,_,_,e,_⟩,_⟩:=x;exact gV e
 |rng lo hi=>obtain⟨_,_,_,e⟩:=x;exact gV e
 |j6 ob u=>obtain⟨e,_⟩:=x;exact gV e
 |zM ps=>exact gV (show h.get? a=aj _ from x)
 |met f y=>exact gV (show h.get? a=aj _ from x)
 |ext φ=>obtain⟨_,⟨_,e⟩,_⟩:=x;exact gV e
def Paired.ahY{α β:Type}{F G:α->β->Prop}:∀{l₁:List α}{l₂:List β},Paired F l₁ l₂->(∀a b,F a b->G a b)->Paired G l₁ l₂
 |_,_,.nil,_=>.nil
 |_,_,.cons r t,f=>.cons (f _ _ r) (Paired.ahY t f)
def dM.stay(x:dM P w H h a o)(k:∀b u,(b=a∨H b=aj (.own a))->h.get? b=aj u->h'.get? b=aj u)
  (ho:∀b,H b=aj (.own a)->H' b=aj (.own a))(ht:∀b xs,H b=aj (.tup xs)->H' b=aj (.tup xs)):dM P w H' h' a o:=by
 induction o with
 |lst xs=>obtain⟨z,its,n,r,e⟩:=x;exact⟨z,its,n,r,k _ _ (.inl rfl) e⟩
 |tup xs=>obtain⟨z,its,r,ob,e,c⟩:=x;exact⟨z,its,r,ob,k _ _ (.inl rfl) e,c⟩
 |dK kvs=>obtain⟨z,y,vs,r,ob,es,ep,e,c⟩:=x;exact⟨z,y,vs,r,ob,es,ep,k _ _ (.inl rfl) e,c⟩
 |dT kvs =>
  obtain⟨z,y,xs,r,ob,es,ep,e,c⟩:=x;exact⟨z,y,xs,Paired.ahY r λp q z=>⟨z.1,ht _ _ z.2.1,z.2.2⟩,ob,es,ep,k _ _ (.inl rfl) e,c⟩
 |set S n=>obtain⟨ob,es,ep,t,e,c⟩:=x;exact⟨ob,es,ep,t,k _ _ (.inl rfl) e,c⟩
 |ins C dx fs =>
  obtain⟨d,z,ne,e,mA,⟨od,es,ep,e2,c⟩,r⟩:=x;exact⟨ho _ d,z,ne,k _ _ (.inl rfl) e,mA,⟨od,es,ep,k _ _ (.inr d) e2,c⟩,r⟩
 |own y=>obtain⟨ob,e⟩:=x;exact⟨ob,k _ _ (.inl rfl) e⟩
 |xd fs=>obtain⟨mA,⟨od,es,ep,e,c⟩,r⟩:=x;exact⟨mA,⟨od,es,ep,k _ _ (.inl rfl) e,c⟩,r⟩
 |rng lo hi=>obtain⟨t,u,v,e⟩:=x;exact⟨t,u,v,k _ _ (.inl rfl) e⟩
 |j6 ob u ih=>obtain⟨e,q⟩:=x;exact⟨k _ _ (.inl rfl) e,ih q⟩
 |zM ps =>
  have e:h.get? a=aj {cls:=.none,data:=.fields ps}:=x;show h'.get? a=aj {cls:=.none,data:=.fields ps};exact k a _ (.inl rfl) e
 |met f y =>
  have e:h.get? a=aj (PySem.W.methodObj (.ref f) (.ref y)):=x;show h'.get? a=aj (PySem.W.methodObj (.ref f) (.ref y));exact k a _ (.inl rfl) e
 |ext φ=>obtain⟨p,⟨o,e⟩,st⟩:=x;exact⟨st _ _ p λo q=>k _ _ (.inl rfl) q,⟨o,k _ _ (.inl rfl) e⟩,st⟩
def xM.lt(x:xM P w H h)(e:H a=aj o):a<h.objs.size:=(x a o e).lt
def xM.fresh(x:xM P w H h)(e:h.objs.size<=a):H a=aq:=by
 cases q:H a with
 |none=>rfl
 |some u=>exact absurd (jj (x.lt q) e) (wz _)
def xM.kept(x:xM P w H h)(k:∀b u,h.get? b=aj u->h'.get? b=aj u):xM P w H h':=λa o e =>
 (x a o e).stay (λb u _ q=>k b u q) (λ_ q=>q) λ_ _ q=>q
def xM.laid(x:xM P w H h)(k:∀b u,h.get? b=aj u->h'.get? b=aj u)(hp:h.objs.size<=a)(new:dM P w (upd H a o) h' a o):xM P w (upd H a o) h':=λb u e=>by
 have hn:=x.fresh hp;by_cases hb:b=a
 .subst hb;rw[aL]at e;cases e;exact new
 .rw[aP hb]at e;exact(x b u e).stay (λc v _ q=>k c v q) (λc q=>by rw[aP (cF q hn)];exact q) λc xs q=>by rw[aP (cF q hn)];exact q
end
abbrev Rd(H:Hp)(a:bx)(u:HO):Prop:=H a=aj u∨∃o,H a=aj (.j6 o u)
def Rd.of(h:H a=aj u):Rd H a u:=.inl h
def Rd.ok(r:Rd H a u)(x:xM P w H h):dM P w H h a u:=by
 rcases r with r|⟨o,r⟩
 .exact x a u r
 .obtain⟨_,q⟩:=x a _ r;exact q
abbrev Mut:Option HO->Prop
 |some (.lst _)=>True
 |some (.dK _)=>True
 |some (.dT _)=>True
 |some (.set _ _)=>True
 |some (.ins _ _ _)=>True
 |some (.ext _)=>True
 |_=>False
section
variable{w:jq}{h h':jf}{x:bx}
def xM.write(ok:xM P w H h)(mu:Mut (H x))(he:e=x∨H e=aj (.own x))(k:∀b u,b≠e->h.get? b=aj u->h'.get? b=aj u)(heo:∃u,h'.get? e=aj u)
  (new:dM P w (upd H x o') h' x o'):xM P w (upd H x o') h':=λb u q=>by
 have aJ3:∀c y,H c=aj (.own y)->c≠x:=λc y r z=>by subst z;rw[r]at mu;exact mu
 have aOP:∀c xs,H c=aj (.tup xs)->c≠x:=λc xs r z=>by subst z;rw[r]at mu;exact mu
 by_cases hb:b=x
 .subst hb;rw[aL]at q;cases q;exact new
 .rw[aP hb]at q;by_cases hbe:b=e
  .have q':H b=aj (.own x):=by
    rcases he with z|z
    .exact absurd (hbe.trans z) hb
    .rw[hbe];exact z
   rw[q]at q';cases q';obtain⟨v,hv⟩:=heo;exact⟨v,by rw[hbe];exact hv⟩
  .refine(ok b u q).stay (λc v hc r=>k c v ?_ r) (λc r=>by rw[aP (aJ3 c b r)];exact r) λc xs r=>by rw[aP (aOP c xs r)];exact r
   rcases hc with rfl|hc
   .exact hbe
   .rintro rfl;rcases he with z|z
    .exact aJ3 c b hc z
    .rw[hc]at z;cases z;exact hb rfl
end
structure Un(fs ex:List bx)(H H':Hp)(h h':jf):Prop where
 keep:∀b o,h.get? b=aj o->H b=aq->b∉fs->b∉ex->h'.get? b=aj o
 slot:∀b o,h.get? b=aj o->H b=aq->b∈fs->b∉ex->∃sl,h'.get? b=aj {o with slots:=sl}
 free:∀b o,h.get? b=aj o->H b=aq->b∉ex->H' b=aq
 there:∀b o,h.get? b=aj o->b∉ex->∃o',h'.get? b=aj o'
 tups:∀b xs,H b=aj (.tup xs)->H' b=aj (.tup xs)
 j7:∀b o u,H b=aj (.j6 o u)->H' b=aj (.j6 o u)
 v7:∀b ps,H b=aj (.zM ps)->∃more,H' b=aj (.zM (ps++more))
section
variable{fs ex:List bx}{h h1 h':jf}{x:bx}
def Un.any(u:Un fs ex H H1 h h1){ob:Obj}(q:h.get? b=aj ob)(n:H b=aq)(hx:b∉ex):∃sl,h1.get? b=aj {ob with slots:=sl}:=by
 by_cases hb:b∈fs
 .exact u.slot b ob q n hb hx
 .exact⟨ob.slots,u.keep b ob q n hb hx⟩
def Un.trans(a:Un fs ex H H1 h h1)(b:Un fs ex H1 H2 h1 h2):Un fs ex H H2 h h2 where
 keep:=λc ob q n hc hx=>b.keep c ob (a.keep c ob q n hc hx) (a.free c ob q n hx) hc hx
 slot:=λc ob q n hc hx=>by
  obtain⟨sl,e1⟩:=a.slot c ob q n hc hx;obtain⟨sl',e2⟩:=b.slot c _ e1 (a.free c ob q n hx) hc hx;exact⟨sl',e2⟩
 free:=λc ob q n hx=>by
  obtain⟨o',e1⟩:=a.there c ob q hx;exact b.free c o' e1 (a.free c ob q n hx) hx
 there:=λc ob q hx=>by
  obtain⟨o',e1⟩:=a.there c ob q hx;exact b.there c o' e1 hx
 tups:=λc xs q=>b.tups c xs (a.tups c xs q)
 j7:=λc ob xs q=>b.j7 c ob xs (a.j7 c ob xs q)
 v7:=λc ps q=>by
  obtain⟨m1,e1⟩:=a.v7 c ps q;obtain⟨m2,e2⟩:=b.v7 c _ e1;exact⟨m1++m2,by rw[e2,Array.append_assoc]⟩
def Un.kept(k:∀b u,h.get? b=aj u->h'.get? b=aj u):Un fs ex H H h h' :=
 ⟨λb ob q _ _ _=>k b ob q,λb ob q _ _ _=>⟨ob.slots,k b ob q⟩,λ_ _ _ n _=>n,λb ob q _=>⟨ob,k b ob q⟩,λ_ _ q=>q,λ_ _ _ q=>q,λ_ ps q=>⟨#[],by rw[q];simp⟩⟩
def Un.refl:Un fs ex H H h h:=Un.kept λ_ _ q=>q
def Un.laid(k:∀b u,h.get? b=aj u->h'.get? b=aj u)(hp:h.objs.size<=a)(hn:H a=aq):Un fs ex H (upd H a o) h h' where
 keep:=λb u q _ _ _=>k b u q
 slot:=λb u q _ _ _=>⟨u.slots,k b u q⟩
 free:=λb u q n _=>by rw[aP (jg (jj (gV q) hp))];exact n
 there:=λb u q _=>⟨u,k b u q⟩
 tups:=λb xs q=>by rw[aP (cF q hn)];exact q
 j7:=λb u xs q=>by rw[aP (cF q hn)];exact q
 v7:=λb ps q=>⟨#[],by rw[aP (cF q hn),q];simp⟩
def Un.write(mu:Mut (H x))(he:e=x∨H e=aj (.own x))(k:∀b u,b≠e->h.get? b=aj u->h'.get? b=aj u)(heo:∃u,h'.get? e=aj u):Un fs ex H (upd H x o) h h':=by
 have hx:∀b,H b=aq->b≠x:=λb n z=>by subst z;rw[n]at mu;exact mu
 have hb:∀b,H b=aq->b≠e:=λb n z=>by
  subst z;rcases he with r|r
  .exact hx b n r
  .rw[n]at r;cases r
 have hm:∀b u,H b=aj u->¬ Mut (aj u)->b≠x:=λb u q nm z=>by subst z;rw[q]at mu;exact nm mu
 refine⟨λb u q n _ _=>k b u (hb b n) q,λb u q n _ _=>⟨u.slots,k b u (hb b n) q⟩,λb u q n _=>by rw[aP (hx b n)];exact n,λb u q _=>?_,
  λb xs q=>by rw[aP (hm b _ q λz=>z)];exact q,λb u xs q=>by rw[aP (hm b _ q λz=>z)];exact q,λb ps q=>⟨#[],by rw[aP (hm b _ q λz=>z),q];simp⟩⟩
 by_cases hbe:b=e
 .subst hbe;exact heo
 .exact⟨u,k b u hbe q⟩
def Un.mono(u:Un fs ex H H1 h h1)(hs:∀b∈fs,b∈fs')(hx:∀b∈ex,b∈ex'):Un fs' ex' H H1 h h1 :=
 ⟨λb ob q n hb he=>u.keep b ob q n (λz=>hb (hs b z)) λz=>he (hx b z),λ_ _ q n _ he=>u.any q n λz=>he (hx _ z),λb ob q n he=>u.free b ob q n λz=>he (hx b z),λb ob q he=>u.there b ob q λz=>he (hx b z),u.tups,u.j7,u.v7⟩
end
abbrev trk(h:jf)(H:Hp):List bx:=(je h.objs.size).filter λa=>(H a).isSome
abbrev a6D(h:jf)(H:Hp):jf:=PySem.W.hideAll h (trk h H)
def an2(h:jf)(H:Hp):(a6D h H).objs.size=h.objs.size:=PySem.W.hideAll_size _ _
variable{h:jf}
def apQ(e:h.get? b=aj o)(n:H b=aq):(a6D h H).get? b=aj o :=
 PySem.W.hideAll_get _ e λhm=>by
  have q:(H b).isSome=ak:=(yp.mp hm).2;rw[n]at q;simp at q
def awJ(e:(a6D h H).get? b=aj o):h.get? b=aj o/\H b=aq:=by
 have e':h.get? b=aj o:=PySem.W.of_hideAll (trk h H) e;refine⟨e',?_⟩;cases q:H b with
 |none=>rfl
 |some x =>
  have hm:b∈trk h H:=yp.mpr ⟨ou.mpr (gV e'),by simp[q]⟩;have z:(a6D h H).get? b=aq:=PySem.W.hideAll_none (trk h H) hm;rw[z]at e;cases e
abbrev awK(g h:jf)(L:bx):List (bx×Obj):=(je h.objs.size).filterMap λa=>if a=L∨(g.get? a).isSome=ak then aq else(h.get? a).map λo=>(a,o)
abbrev rest(g h:jf)(L d:bx):List (bx×Obj):=(awK g h L).filter λp=>decide (p.1≠d)
end
variable{A:jr}{t':Nat}{N:List Str}
section
structure Mod(K:iu)(mg:Str->Option bh)(base:jf):Prop where
 kin:K.In base
 glob:base.Ns ji mg
 blt:∃mb,base.Ns a2h mb/\∀x:Str,x≠"__name__"->mb x=jw x
 nolimit:base.NoLimit
structure Cx where
 prog:ju
 w:jq
 K:iu
 mg:Str->Option bh
 base:jf
 A:jr
 N:List Str
 s₀:dg
 H₀:Hp
 env:Env
 outer:List Env
 stack:List Env
 ex:List bx
 fn:Str->Bool
 calm:Bool
 pn:List (bx×Obj)
 tp:List (bx×List V)
 xe:bh->dg->Prop
 need:Bool:=false
abbrev frs(l:List Env):List bx:=l.filterMap (·.frame)
@[simp]def Cx.fs(X:Cx):List bx:=frs X.outer
abbrev Vis(sc:ur)(x:Str):Prop:=sc.names.lookup x=aj .local∨sc.names.lookup x=aj .cell∨sc.names.lookup x=aj .free
abbrev Loc(sc:ur)(x:Str):Prop:=sc.names.lookup x=aj .local∨sc.names.lookup x=aj .cell
abbrev Look(env:Env)(h:jf)(m:Str->Option bh)(x:Str)(u:bh):Prop :=
 (env.kindOf x=aj .local/\m x=aj u)∨((env.kindOf x=aj .cell∨env.kindOf x=aj .free)/\∃c,env.cells.lookup x=aj c/\h.IsCell c (aj u))
structure Cx.Ok(X:Cx):Prop where
 mod:Mod X.K X.mg X.base
 kind:X.env.scope.kind=.function
 glob:X.env.globals=ji
 blt:X.env.builtins=a2h
 above:X.s₀.heap.objs.size<=X.env.locals
 inj:∀x y c,X.env.cells.lookup x=aj c->X.env.cells.lookup y=aj c->x=y
 has:∀x,(X.env.kindOf x=aj .cell∨X.env.kindOf x=aj .free)->∃c,X.env.cells.lookup x=aj c
 cab:∀x c,X.fn x=ak->X.env.cells.lookup x=aj c->X.s₀.heap.objs.size<=c
 hd:X.calm=ak->X.A.handled=aq
 frames:X.A.frames=aj X.stack
 stk:X.stack=X.outer∨(X.stack=X.env::X.outer/\X.env.frame=aj X.env.locals)
 exf:∀b∈X.ex,b≠X.env.locals/\∀x c,X.env.cells.lookup x=aj c->c≠b
 bs:∀b o,X.base.get? b=aj o->X.s₀.heap.get? b=aj o/\X.H₀ b=aq
 bsz:X.base.objs.size<=X.s₀.heap.objs.size
 aeF:∀b o,X.base.get? b=aj o->b∉X.ex
 ai0:∀b∈X.ex,b∉X.fs
 v8:X.s₀.heap.FunFrames X.base X.outer
 frf:∀b∈X.fs,X.H₀ b=aq
abbrev Hnd(A:jr)(H:Hp):Prop:=A.handled=aq∨∃x o u vs,A.handled=aj (.ref x)/\H x=aj (.j6 o u)/\o.data=.fields vs/\vs[2]?=aj .none
def Hnd.mono(h:Hnd A H)(f:∀b o u,H b=aj (.j6 o u)->H' b=aj (.j6 o u)):Hnd A H':=by
 rcases h with z|⟨x,o,u,vs,a,b,c⟩
 .exact .inl z
 .exact .inr ⟨x,o,u,vs,a,f _ _ _ b,c⟩
def Hnd.heap(q:Hnd A H)(hok:xM P w H h):a9C A h:=by
 rcases q with z|⟨x,o,u,vs,a,b,c⟩
 .exact .inl z
 .exact .inr ⟨x,o,vs,a,(hok x _ b).1,c⟩
structure Inv(X:Cx)(pins:List (bx×Obj))(σ:List (Option V))(H:Hp)(s:dg):Prop where
 ok:X.Ok
 os:s.os=X.s₀.os
 bare:AllBare s.gens
 base:Un X.fs X.ex X.H₀ H X.s₀.heap s.heap
 loc:∃m,s.heap.Ns X.env.locals m/\∀(i:Nat)(x:Str)(v:V),X.N[i]?=aj x->σ[i]?=aj (aj v)->Vis X.env.scope x->∃u,RelV v u/\Look X.env s.heap m x u
 cell:∀x c,X.env.cells.lookup x=aj c->∃v,s.heap.IsCell c v
 free:H X.env.locals=aq
 lZ:∀x c,X.env.cells.lookup x=aj c->H c=aq
 pin:∀p∈X.pn++pins,s.heap.get? p.1=aj p.2/\H p.1=aq/\p.1≠X.env.locals/\p.1∉X.fs/\∀v,p.2.data≠.cell v
 hok:xM X.prog X.w H s.heap
 len:σ.length=X.N.length
 hnd:Hnd X.A H
 tup:∀p∈X.tp,H p.1=aj (.tup p.2)
variable{i:Nat}
section
variable{X:Cx}{pins:List (bx×Obj)}{σ:List (Option V)}{H H':Hp}{s:dg}{h':jf}
def Cx.Ok.aOQ(ok:X.Ok)(e:X.base.get? b=aj o):b∉X.fs:=λhb=>by
 have:=(ok.v8.mem hb).1;rw[e]at this;cases this
def Inv.bs(I:Inv X pins σ H s):∀b o,X.base.get? b=aj o->s.heap.get? b=aj o/\H b=aq:=λb o e =>
 ⟨I.base.keep b o (I.ok.bs b o e).1 (I.ok.bs b o e).2 (I.ok.aOQ e) (I.ok.aeF b o e),I.base.free b o (I.ok.bs b o e).1 (I.ok.bs b o e).2 (I.ok.aeF b o e)⟩
def Inv.bk(I:Inv X pins σ H s):∀b o,X.base.get? b=aj o->s.heap.get? b=aj o:=λb o e=>(I.bs b o e).1
def Inv.mod(I:Inv X pins σ H s):Mod X.K X.mg X.base:=I.ok.mod
def Inv.kIn(I:Inv X pins σ H s):X.K.In s.heap:=I.ok.mod.kin.keeps I.bk
def Inv.nolimit(I:Inv X pins σ H s):s.heap.NoLimit:=I.ok.mod.nolimit.keeps I.bk
def Inv.fr(I:Inv X pins σ H s):∃m,Fr X.base X.env.locals s.heap m :=
 let⟨m,hn,_⟩:=I.loc
 ⟨m,hn,I.bk,uh I.ok.bsz I.ok.above⟩
def Inv.lt(I:Inv X pins σ H s):X.env.locals<s.heap.objs.size:=let⟨_,hn,_⟩:=I.loc;hn.lt
def Inv.sz(I:Inv X pins σ H s):X.s₀.heap.objs.size<=s.heap.objs.size:=uh I.ok.above (vf I.lt)
def Inv.aOR(I:Inv X pins σ H s)(h:s.heap.objs.size<=a):a∉X.fs:=λhb=>by
 obtain⟨_,o,ho,_⟩:=I.ok.v8.mem hb;exact absurd (jj (gV ho) (uh I.sz h)) (wz _)
def Inv.cne(I:Inv X pins σ H s):∀x c,X.env.cells.lookup x=aj c->c≠X.env.locals:=λx c e z=>by
 obtain⟨v,o,ho,hd⟩:=I.cell x c e;obtain⟨m,⟨o',es,ep,ho',hd',_⟩,_⟩:=I.loc;rw[z,ho']at ho;cases ho;rw[hd']at hd;cases hd
def Inv.v8(I:Inv X pins σ H s):s.heap.FunFrames X.base X.outer:=by
 have all:∀(l:List Env),(∀b∈frs l,b∈X.fs)->X.s₀.heap.FunFrames X.base l->s.heap.FunFrames X.base l:=by
  intro l
  induction l with
  |nil=>intro _ _;trivial
  |cons env r ih =>
   intro hs hl;obtain⟨hk,⟨L,o,hf,hn,ho,hd⟩,hr⟩:=hl;have hL:L∈X.fs:=hs L (by unfold frs;rw[a1y,hf];exact rm);obtain⟨sl,e⟩:=I.base.slot L o ho (I.ok.frf L hL) hL λz=>I.ok.ai0 L z hL;exact⟨hk,⟨L,_,hf,hn,e,hd⟩,ih (λb hb=>hs b (by unfold frs;rw[a1y,hf];exact jo _ hb)) hr⟩
 exact all X.outer (λ_ hb=>hb) I.ok.v8
def Inv.stack(I:Inv X pins σ H s):s.heap.FunFrames X.base X.stack:=by
 rcases I.ok.stk with e|⟨e,hf⟩
 .rw[e];exact I.v8
 .rw[e];obtain⟨m,hn,_⟩:=I.loc;refine .cons (by rw[I.ok.kind];decide) hf hn ?_ I.v8;exact Heap.get?_none_of_le (uh I.ok.bsz I.ok.above)
def Inv.ai1(I:Inv X pins σ H s):∀b∈frs X.stack,b∈X.env.locals::X.fs:=λb hb=>by
 rcases I.ok.stk with e|⟨e,hf⟩
 .rw[e]at hb;exact jo _ hb
 .rw[e]at hb;unfold frs at hb;rw[a1y,hf]at hb;exact hb
def Inv.ak9(I:Inv X pins σ H s):∀b∈frs X.stack,H b=aq:=λb hb=>by
 rcases iy.mp (I.ai1 b hb)with e|hb
 .rw[e];exact I.free
 .obtain⟨_,o,ho,_⟩:=I.ok.v8.mem hb;exact I.base.free b o ho (I.ok.frf b hb) λz=>I.ok.ai0 b z hb
def Inv.step{g':Array GenState}{d':Drawn}{ch:List bx}(I:Inv X pins σ H s)
  (hch:∀b∈ch,(b∈X.ex∨X.s₀.heap.objs.size<=b)/\b≠X.env.locals/\(∀x c,X.env.cells.lookup x=aj c->c≠b)/\∀p∈X.pn++pins,p.1≠b)
  (keep:∀b o,b≠X.env.locals->b∉X.fs->b∉ch->s.heap.get? b=aj o->H b=aq->h'.get? b=aj o)
  (slot:∀b o,b≠X.env.locals->b∈X.fs->b∉ch->s.heap.get? b=aj o->H b=aq->∃sl,h'.get? b=aj {o with slots:=sl})(free:∀b o,b∉ch->s.heap.get? b=aj o->H b=aq->H' b=aq)
  (there:∀b o,b∉ch->s.heap.get? b=aj o->∃o',h'.get? b=aj o')
  (tups:∀b xs,H b=aj (.tup xs)->H' b=aj (.tup xs))(j7:∀b o u,H b=aj (.j6 o u)->H' b=aj (.j6 o u))(v7:∀b ps,H b=aj (.zM ps)->∃more,H' b=aj (.zM (ps++more)))
  (ns:∀m,s.heap.Ns X.env.locals m->h'.Ns X.env.locals m)(hok:xM X.prog X.w H' h')(hg:AllBare g') :
  Inv X pins σ H' {s with heap:=h',gens:=g',drawn:=d',toks:=t' }:=by
 have neL:∀b o,X.s₀.heap.get? b=aj o->b≠X.env.locals:=λb o e=>jg (jj (gV e) I.ok.above)
 have neC:∀b o,X.s₀.heap.get? b=aj o->b∉X.ex->b∉ch:=λb o e hx hb=>by
  rcases(hch b hb).1 with z|z
  .exact hx z
  .exact absurd (jj (gV e) z) (wz _)
 have cellK:∀x c,X.env.cells.lookup x=aj c->∀v,s.heap.IsCell c v->h'.IsCell c v:=λx c e v ⟨o,ho,hd⟩=>by
  have nch:c∉ch:=λz=>(hch c z).2.2.1 x c e rfl;by_cases hc:c∈X.fs
  .obtain⟨sl,q⟩:=slot c o (I.cne x c e) hc nch ho (I.lZ x c e);exact⟨_,q,hd⟩
  .exact⟨o,keep c o (I.cne x c e) hc nch ho (I.lZ x c e),hd⟩
 refine⟨I.ok,I.os,hg,⟨λb o e n hb hx=>?_,λb o e n hb hx=>?_,λb o e n hx=>?_,λb o e hx=>?_,λb xs e=>tups b xs (I.base.tups b xs e),λb o xs e=>j7 b o xs (I.base.j7 b o xs e),λb ps e=>?_⟩,?_,λx c e=>?_,?_,λx c e=>?_,λp hp=>?_,hok,I.len,I.hnd.mono j7,λp hp=>tups _ _ (I.tup p hp)⟩
 .exact keep b o (neL b o e) hb (neC b o e hx) (I.base.keep b o e n hb hx) (I.base.free b o e n hx)
 .obtain⟨sl,e1⟩:=I.base.slot b o e n hb hx;obtain⟨sl',e2⟩:=slot b _ (neL b o e) hb (neC b o e hx) e1 (I.base.free b o e n hx);exact⟨sl',e2⟩
 .obtain⟨o',e1⟩:=I.base.there b o e hx;exact free b o' (neC b o e hx) e1 (I.base.free b o e n hx)
 .obtain⟨o',e1⟩:=I.base.there b o e hx;exact there b o' (neC b o e hx) e1
 .obtain⟨m1,e1⟩:=I.base.v7 b ps e;obtain⟨m2,e2⟩:=v7 b _ e1;exact⟨m1++m2,by rw[e2,Array.append_assoc]⟩
 .obtain⟨m,hn,hl⟩:=I.loc;refine⟨m,ns m hn,λi x v e1 e2 e3=>?_⟩;obtain⟨u,r,l⟩:=hl i x v e1 e2 e3;refine⟨u,r,?_⟩;rcases l with l|⟨k,c,e,z⟩
  .exact .inl l
  .exact .inr ⟨k,c,e,cellK x c e _ z⟩
 .obtain⟨v,z⟩:=I.cell x c e;exact⟨v,cellK x c e v z⟩
 .obtain⟨m,⟨o,_,_,ho,_⟩,_⟩:=I.loc;exact free _ o (λz=>(hch _ z).2.1 rfl) ho I.free
 .obtain⟨v,o,ho,hd⟩:=I.cell x c e;exact free c o (λz=>(hch c z).2.2.1 x c e rfl) ho (I.lZ x c e)
 .obtain⟨e,n,ne,nf,d⟩:=I.pin p hp;have nch:p.1∉ch:=λz=>(hch p.1 z).2.2.2 p hp rfl;exact⟨keep p.1 p.2 ne nf nch e n,free p.1 p.2 nch e n,ne,nf,d⟩
def Inv.un(I:Inv X pins σ H s)(u:Un X.fs [] H H' s.heap h')(hok:xM X.prog X.w H' h'):Inv X pins σ H' {s with heap:=h',toks:=t' }:=by
 obtain⟨m,⟨o,es,ep,ho,r⟩,_⟩:=id I.loc;obtain⟨sl,hL⟩:=u.any ho I.free (by simp)
 exact I.step (g':=s.gens) (d':=s.drawn) (ch:=[]) (λ_ z=>nomatch z) (λb o _ hb _ e n=>u.keep b o e n hb (by simp)) (λb o _ hb _ e n=>u.slot b o e n hb (by simp)) (λb o _ e n=>u.free b o e n (by simp)) (λb o _ e=>u.there b o e (by simp)) u.tups u.j7 u.v7 (λm' hm=>by
  obtain⟨o',es',ep',ho',r'⟩:=hm;rw[ho]at ho';cases ho';exact⟨_,es',ep',hL,r'⟩) hok I.bare
def Inv.call(I:Inv X pins σ H s)(u:Un (frs X.stack) ch H H' s.heap h')(hok:xM X.prog X.w H' h')(hg:AllBare g')
  (hch:∀b∈ch,(b∈X.ex∨X.s₀.heap.objs.size<=b)/\b≠X.env.locals/\(∀x c,X.env.cells.lookup x=aj c->c≠b)/\∀p∈X.pn++pins,p.1≠b) :
  Inv X pins σ H' {s with heap:=h',gens:=g',drawn:=d',toks:=t' }:=by
 obtain⟨m,⟨o,es,ep,ho,r⟩,_⟩:=id I.loc;obtain⟨sl,hL⟩:=u.any ho I.free λz=>(hch _ z).2.1 rfl
 exact I.step (ch:=ch) hch (λb o hL hb hc e n=>u.keep b o e n (λz=>(iy.mp (I.ai1 b z)).elim hL hb) hc) (λb o _ _ hc e n=>u.any e n hc) (λb o hc e n=>u.free b o e n hc) (λb o hc e=>u.there b o e hc) u.tups u.j7 u.v7 (λm' hm=>by
  obtain⟨o',es',ep',ho',r'⟩:=hm;rw[ho]at ho';cases ho';exact⟨_,es',ep',hL,r'⟩) hok hg
def Inv.turned(I:Inv X pins σ H s)(k:∀b o,b≠it->s.heap.get? b=aj o->h'.get? b=aj o)(hn:H it=aq)(hL:it≠X.env.locals)
  (h1:it∈X.ex∨X.s₀.heap.objs.size<=it)(h2:∀x c,X.env.cells.lookup x=aj c->c≠it)(h3:∀p∈X.pn++pins,p.1≠it):Inv X pins σ H {s with heap:=h',toks:=t' }:=by
 have nit:∀b u,H b=aj u->b≠it:=λb u e z=>by rw[z,hn]at e;cases e
 refine I.step (g':=s.gens) (d':=s.drawn) (ch:=[it]) (λb hb=>?_) (λb o _ _ hc e _=>k b o (λz=>hc (by simp[z])) e) (λb o _ _ hc e _=>⟨o.slots,k b o (λz=>hc (by simp[z])) e⟩) (λ_ _ _ _ n=>n)
  (λb o hc e=>⟨o,k b o (λz=>hc (by simp[z])) e⟩) (λ_ _ e=>e) (λ_ _ _ e=>e) (λb ps e=>⟨#[],by rw[e];simp⟩) (λm hm=>?_) (λb u e=>?_) I.bare
 .have e:b=it:=by simpa using hb
  subst e;exact⟨h1,hL,h2,h3⟩
 .obtain⟨o,es,ep,ho,r⟩:=hm;exact⟨o,es,ep,k _ o (Ne.symm hL) ho,r⟩
 .refine(I.hok b u e).stay (λc v hc q=>k c v ?_ q) (λ_ q=>q) λ_ _ q=>q;rcases hc with z|z
  .rw[z];exact nit b u e
  .exact nit c _ z
def Inv.tok(I:Inv X pins σ H s)(t:Nat):Inv X pins σ H {s with toks:=t}:=I.un (h':=s.heap) (t':=t) Un.refl I.hok
def Inv.kept{t':Nat}(I:Inv X pins σ H s)(k:∀b u,s.heap.get? b=aj u->h'.get? b=aj u):Inv X pins σ H {s with heap:=h',toks:=t' }:=I.un (Un.kept k) (I.hok.kept k)
def Inv.laid{t':Nat}(I:Inv X pins σ H s)(k:∀b u,s.heap.get? b=aj u->h'.get? b=aj u)(hp:s.heap.objs.size<=a)(new:dM X.prog X.w (upd H a o) h' a o) :
  Inv X pins σ (upd H a o) {s with heap:=h',toks:=t' }:=I.un (Un.laid k hp (I.hok.fresh hp)) (I.hok.laid k hp new)
def Inv.write{x:bx}{t':Nat}(I:Inv X pins σ H s)(mu:Mut (H x))(he:e=x∨H e=aj (.own x))(k:∀b u,b≠e->s.heap.get? b=aj u->h'.get? b=aj u)(heo:∃u,h'.get? e=aj u)
  (new:dM X.prog X.w (upd H x o) h' x o):Inv X pins σ (upd H x o) {s with heap:=h',toks:=t' }:=I.un (Un.write mu he k heo) (I.hok.write mu he k heo new)
def Inv.weak{σ':List (Option V)}(I:Inv X pins σ H s)(hl:σ'.length=σ.length)(w:∀(i:Nat) v,σ'[i]?=aj (aj v)->σ[i]?=aj (aj v)):Inv X pins σ' H s :=
 ⟨I.ok,I.os,I.bare,I.base,let⟨m,hn,hl'⟩:=I.loc;⟨m,hn,λi x v e1 e2 e3=>hl' i x v e1 (w i v e2) e3⟩,I.cell,I.free,I.lZ,I.pin,I.hok,hl.trans I.len,I.hnd,I.tup⟩
def Inv.akB(I:Inv X pins σ H s)(h:∀p∈a3V,s.heap.get? p.1=aj p.2/\H p.1=aq/\p.1≠X.env.locals/\p.1∉X.fs/\∀v,p.2.data≠.cell v):Inv X a3V σ H s :=
 ⟨I.ok,I.os,I.bare,I.base,I.loc,I.cell,I.free,I.lZ,λp hp=>(vg.mp hp).elim (λz=>I.pin p (zu _ z)) (h p),I.hok,I.len,I.hnd,I.tup⟩
def aeH(hN:N.Nodup){j:Nat}(a:N[i]?=aj x)(b:N[j]?=aj x):i=j:=by
 obtain⟨h1,e1⟩:=fj.mp a;obtain⟨h2,e2⟩:=fj.mp b;exact(List.getElem_inj hN).mp (e1.trans e2.symm)
def aa7(I:Inv X pins σ H s)(hN:X.N.Nodup)(hi:X.N[i]?=aj x)(hx:Loc X.env.scope x)(r:RelV v u)
  (h:∀s',Inv X pins (σ.set i (aj v)) H s'->(∃a,su a s.heap s'.heap/\(a=X.env.locals∨X.env.cells.lookup x=aj a))->Q () s')(hf:X.fn x=ak∨X.env.scope.names.lookup x=aj .local:=by first|exact .inl rfl|exact .inr rfl|assumption):dj M A (storeName X.env x u) Q E s:=by
 obtain⟨m,hn,hl⟩:=id I.loc;have hcls:(X.env.scope.kind==.class||(X.env.scope.kind==.module&&X.env.locals !=X.env.globals))=ao:=by rw[I.ok.kind];rfl
 have hiσ:i<σ.length:=by rw[I.len];exact(fj.mp hi).1
 have cne:=I.cne
 have tracked:∀{a:bx}{h':jf},(∃o,s.heap.get? a=aj o/\H a=aq)->su a s.heap h'->xM X.prog X.w H h':=λ{a h'} ha hs b ob e=>by
  obtain⟨_,_,hfree⟩:=ha;refine(I.hok b ob e).stay (λc w' hc q=>(hs.2 c ?_).trans q) (λ_ q=>q) λ_ _ q=>q;rintro rfl;rcases hc with rfl|hc
  .rw[hfree]at e;cases e
  .rw[hfree]at hc;cases hc
 rcases hx with hk|hk
 .refine wpAny_storeName_local hk hn (λh' hn' hs=>?_) hcls;obtain⟨oL,_,_,hoL,_⟩:=id hn;refine h _ ⟨I.ok,I.os,I.bare,⟨λb o e n hb hx=>?_,λb o e n hb hx=>?_,I.base.free,λb o e hx=>?_,I.base.tups,I.base.j7,I.base.v7⟩,⟨_,hn',λj y v' e1 e2 e3=>?_⟩,λy c e=>?_,I.free,I.lZ,λp hp=>?_,tracked ⟨oL,hoL,I.free⟩ hs,by simpa using I.len,I.hnd,I.tup⟩ ⟨_,hs,.inl rfl⟩
  .exact(hs.2 b (jg (jj (gV e) I.ok.above))).trans (I.base.keep b o e n hb hx)
  .obtain⟨sl,e1⟩:=I.base.slot b o e n hb hx;exact⟨sl,(hs.2 b (jg (jj (gV e) I.ok.above))).trans e1⟩
  .obtain⟨o',e1⟩:=I.base.there b o e hx;exact⟨o',(hs.2 b (jg (jj (gV e) I.ok.above))).trans e1⟩
  .by_cases hj:j=i
   .subst hj;rw[hi]at e1;cases e1;rw[a2o hiσ]at e2;cases e2;exact⟨u,r,.inl ⟨hk,by simp⟩⟩
   .rw[uo (Ne.symm hj)]at e2;obtain⟨u',r',q⟩:=hl j y v' e1 e2 e3;refine⟨u',r',?_⟩;rcases q with⟨k,e⟩|⟨k,c,e,z⟩
    .refine .inl ⟨k,?_⟩;have:y≠x:=λe=>hj (aeH hN e1 (e ▸ hi));simp[this,e]
    .exact .inr ⟨k,c,e,z.sameBut hs (cne y c e)⟩
  .obtain⟨w',z⟩:=I.cell y c e;exact⟨w',z.sameBut hs (cne y c e)⟩
  .obtain⟨e,n,ne,nf,d⟩:=I.pin p hp;exact⟨(hs.2 p.1 ne).trans e,n,ne,nf,d⟩
 .have hfn:X.fn x=ak:=by
   rcases hf with z|z
   .exact z
   .rw[z]at hk;cases hk
  obtain⟨c,hc⟩:=I.ok.has x (.inl hk);obtain⟨w',z⟩:=I.cell x c hc;refine wpAny_storeName_cell I.ok.kind hk hc z (λh' hc' hs=>?_);obtain⟨oc,hoc,aOS⟩:=id z;refine h {s with heap:=h' } ⟨I.ok,I.os,I.bare,⟨λb o e n hb hx=>?_,λb o e n hb hx=>?_,I.base.free,λb o e hx=>?_,I.base.tups,I.base.j7,I.base.v7⟩,⟨m,hn.sameBut hs (Ne.symm (cne x c hc)),λj y v' e1 e2 e3=>?_⟩,λy c' e=>?_,I.free,I.lZ,λp hp=>?_,tracked ⟨oc,hoc,I.lZ x c hc⟩ hs,by simpa using I.len,I.hnd,I.tup⟩ ⟨c,hs,.inr hc⟩
  .exact(hs.2 b (jg (jj (gV e) (I.ok.cab x c hfn hc)))).trans (I.base.keep b o e n hb hx)
  .obtain⟨sl,e1⟩:=I.base.slot b o e n hb hx;exact⟨sl,(hs.2 b (jg (jj (gV e) (I.ok.cab x c hfn hc)))).trans e1⟩
  .obtain⟨o',e1⟩:=I.base.there b o e hx;exact⟨o',(hs.2 b (jg (jj (gV e) (I.ok.cab x c hfn hc)))).trans e1⟩
  .by_cases hj:j=i
   .subst hj;rw[hi]at e1;cases e1;rw[a2o hiσ]at e2;cases e2;exact⟨u,r,.inr ⟨.inl hk,c,hc,hc'⟩⟩
   .rw[uo (Ne.symm hj)]at e2;obtain⟨u',r',q⟩:=hl j y v' e1 e2 e3;refine⟨u',r',?_⟩;rcases q with q|⟨k,c',e,z'⟩
    .exact .inl q
    .refine .inr ⟨k,c',e,z'.sameBut hs ?_⟩;rintro rfl;exact hj (aeH hN e1 (I.ok.inj _ _ _ e hc ▸ hi))
  .by_cases hcc:c'=c
   .subst hcc;exact⟨_,hc'⟩
   .obtain⟨w2,z2⟩:=I.cell y c' e;exact⟨w2,z2.sameBut hs hcc⟩
  .obtain⟨e,n,ne,nf,d⟩:=I.pin p hp;refine⟨(hs.2 p.1 ?_).trans e,n,ne,nf,d⟩;intro q;rw[q,hoc]at e;have q':oc=p.2:=jd.inj e;exact d w' (by rw[←q'];exact aOS)
def aeI(I:Inv X pins σ H s)(hN:X.N.Nodup)(hi:X.N[i]?=aj x)(hx:Loc X.env.scope x)(r:RelV v u)
  (h:∀s',Inv X pins (σ.set i (aj v)) H s'->Q () s')(hf:X.fn x=ak∨X.env.scope.names.lookup x=aj .local:=by first|exact .inl rfl|exact .inr rfl|assumption):dj M A (storeName X.env x u) Q E s :=
 aa7 I hN hi hx r (λs' I' _=>h s' I') hf
def Inv.call'{s':dg}(I:Inv X pins σ H s)(ho:s'.os=s.os)(u:Un (frs X.stack) ch H H' s.heap s'.heap)(hok:xM X.prog X.w H' s'.heap)(hg:AllBare s'.gens)
  (hch:∀b∈ch,(b∈X.ex∨X.s₀.heap.objs.size<=b)/\b≠X.env.locals/\(∀x c,X.env.cells.lookup x=aj c->c≠b)/\∀p∈X.pn++pins,p.1≠b):Inv X pins σ H' s':=by
 obtain⟨h',g',d',t',o'⟩:=s';have e:o'=s.os:=ho;subst e;exact I.call (g':=g') (t':=t') (d':=d') u hok hg hch
end
@[simp]def XK:=Value->Option bx->Hp->Prop
@[simp]def St:=List (Option V)
@[simp]def VK:=V->Hp->Prop
@[simp]def TE:=St->Hp->VK->Prop
@[simp]def TT:=St->Hp->(Bool->Hp->Prop)->Prop
@[simp]def TA:=St->Hp->(List V->Hp->Prop)->Prop
structure Ends where
 nx:St->Hp->Prop
 rt:VK
 bk:St->Hp->Prop:=λ_ _=>False
 ct:St->Hp->Prop:=λ_ _=>False
@[simp]def TS:=Ends->St->Hp->Prop
abbrev EP(X:Cx)(pins:List (bx×Obj))(σ:St)(Q:VK)(u:bh)(s':dg):Prop:=∃v H',Inv X pins σ H' s'/\RelV v u/\Q v H'
abbrev TP(X:Cx)(pins:List (bx×Obj))(σ:St)(Q:Bool->Hp->Prop)(b:Bool)(s':dg):Prop:=∃H',Inv X pins σ H' s'/\Q b H'
abbrev AP(X:Cx)(pins:List (bx×Obj))(σ:St)(Q:List V->Hp->Prop)(us:List bh)(s':dg):Prop:=∃vs H',Inv X pins σ H' s'/\Vals vs us/\Q vs H'
set_option tactic.hygienic true in
abbrev SP(X:Cx)(pins:List (bx×Obj))(D:Ends)(f:Flow)(s':dg):Prop :=
 match f with
 |.next=>∃σ' H',Inv X pins σ' H' s'/\D.nx σ' H'
 |.brk=>∃σ' H',Inv X pins σ' H' s'/\D.bk σ' H'
 |.cont=>∃σ' H',Inv X pins σ' H' s'/\D.ct σ' H'
 |.ret u=>∃v σ' H',Inv X pins σ' H' s'/\RelV v u/\D.rt v H'
class Tk(b:Bool)(s:dg):Prop where
 pos:b=ak->0<s.toks
class TkI(s:outParam dg)(s':dg):Prop where
 imp:0<s.toks->0<s'.toks
instance aNK{b:Bool}{s s':dg}[i:TkI s s'][j:Tk b s]:Tk b s':=⟨λz=>i.imp (j.pos z)⟩
instance aRL{s:dg}:Tk ao s:=⟨λz=>nomatch z⟩
instance aNL{b:Bool}{h:jf}{g:Array GenState}{d:Drawn}{n:Nat}{os}:Tk b ⟨h,g,d,n+1,os⟩:=⟨λ_=>Nat.succ_pos _⟩
instance aNM{b:Bool}{s:dg}{h:jf}{g:Array GenState}{d:Drawn}{os}[j:Tk b s]:Tk b ⟨h,g,d,s.toks,os⟩:=⟨j.pos⟩
abbrev PE(X:Cx)(e:jc)(t:TE):Prop :=
 ∀(pins:List (bx×Obj))(s:dg)(σ:St)(H:Hp)(Q:VK),Inv X pins σ H s->t σ H Q->[Tk X.need s]->dj (gk X.prog X.w) X.A (eval e X.env) (EP X pins σ Q) X.xe s
abbrev PT(X:Cx)(e:jc)(t:TT):Prop :=
 ∀(pins:List (bx×Obj))(s:dg)(σ:St)(H:Hp)(Q:Bool->Hp->Prop),Inv X pins σ H s->t σ H Q->[Tk X.need s]->dj (gk X.prog X.w) X.A (isTrue e X.env (eval e X.env)) (TP X pins σ Q) X.xe s
abbrev PW(X:Cx)(e:jc)(t:TT):Prop :=
 ∀(whole:Sem bh)(pins:List (bx×Obj))(s:dg)(σ:St)(H:Hp)(Q:Bool->Hp->Prop),Inv X pins σ H s->t σ H Q->[Tk X.need s]->dj (gk X.prog X.w) X.A (isTrue e X.env whole) (TP X pins σ Q) X.xe s
def PW.pt{t:TT}(h:PW X e t):PT X e t:=h _
abbrev PA(X:Cx)(es:List jc)(t:TA):Prop :=
 ∀(pos:Pos)(pins:List (bx×Obj))(s:dg)(σ:St)(H:Hp)(Q:List V->Hp->Prop),Inv X pins σ H s->t σ H Q->[Tk X.need s]->dj (gk X.prog X.w) X.A (spliced (a0i pos (jt es X.env))) (AP X pins σ Q) X.xe s
abbrev PS(X:Cx)(st:lq)(t:TS):Prop :=
 ∀(pins:List (bx×Obj))(s:dg)(σ:St)(H:Hp)(D:Ends),Inv X pins σ H s->t D σ H->[Tk X.need s]->dj (gk X.prog X.w) X.A (exec st X.env) (SP X pins D) X.xe s
abbrev PSs(X:Cx)(st:List lq)(t:TS):Prop :=
 ∀(pins:List (bx×Obj))(s:dg)(σ:St)(H:Hp)(D:Ends),Inv X pins σ H s->t D σ H->[Tk X.need s]->dj (gk X.prog X.w) X.A (execs st X.env) (SP X pins D) X.xe s
def cY{α:Type}{t:Sem α}{Q Q':α->dg->Prop}{M:Model}{E:bh->dg->Prop}{s:dg}(h:dj M A t Q E s)(hQ:∀a s1,Q a s1->[TkI s s1]->Q' a s1):dj M A t Q' E s:=λΓ p g=>by
 by_cases c:0<s.toks
 .exact Sem.wp_mono M Γ t (λa p s' z=>@hQ a s' z.2 ⟨λ_=>z.1⟩) (λ_ _ _ z=>z.2) p s (Sem.wp_toks M Γ 1 t _ _ p s c (h Γ p g))
 .exact Sem.wp_mono M Γ t (λa p s' z=>@hQ a s' z ⟨λz=>absurd z c⟩) (λ_ _ _ z=>z) p s (h Γ p g)
end
variable{pins:List (bx×Obj)}{pos:Pos}
section
section
variable{X:Cx}
def bin{a b:jc}{ta tb:TE}(ha:PE X a ta)(hb:PE X b tb){s:dg}{σ:St}{H:Hp}{R:V->V->Hp->Prop}[Tk X.need s](I:Inv X pins σ H s)(h:ta σ H λx H1=>tb σ H1 λy H2=>R x y H2)
  {α:Type}{Q:α->dg->Prop}{f:bh->bh->Sem α}
  (hf:∀v u s2 x y H2,Inv X pins σ H2 s2->RelV x v->RelV y u->R x y H2->dj (gk X.prog X.w) X.A (f v u) Q X.xe s2) :
  dj (gk X.prog X.w) X.A (eval a X.env) (λv s₁=>dj (gk X.prog X.w) X.A (eval b X.env) (λu s₂=>dj (gk X.prog X.w) X.A (f v u) Q X.xe s₂) X.xe s₁) X.xe s:=by
 refine cY (ha pins s σ H _ I h) ?_;rintro v s1 ⟨x,H1,I1,r1,q1⟩;refine cY (hb pins s1 σ H1 _ I1 q1) ?_;rintro u s2 ⟨y,H2,I2,r2,q2⟩;exact hf v u s2 x y H2 I2 r1 r2 q2
abbrev aD2(i:Nat):TE:=λσ H Q=>∃v,σ[i]?=aj (aj v)/\Q v H
abbrev tC(v:V):TE:=λ_ H Q=>Q v H
def apR{i:Nat}(hN:X.N[i]?=aj x)(hv:Vis X.env.scope x)(hd:(x==("__debug__":Str))=ao:=by decide)(hcd:(x==("__classdict__":Str))=ao:=by decide):PE X (.Name x pos) (aD2 i):=by
 intro pins s σ H Q I h _tk;obtain⟨v,e,h⟩:=h;obtain⟨m,hn,hl⟩:=I.loc;obtain⟨u,r,l⟩:=hl i x v hN e hv;have fin:EP X pins σ Q u s:=⟨v,H,I,r,h⟩;rcases l with⟨hk,hm⟩|⟨hk,c,hc,hcell⟩
 .exact wpAny_Name (wpAny_loadName_local I.ok.kind hk hn hm fin) hd
 .rcases hk with hk|hk
  .exact wpAny_Name (wpAny_loadName_cell I.ok.kind hk hc hcell fin) hd
  .exact wpAny_Name (wpAny_loadName_free I.ok.kind hk hc hcell fin hcd) hd
def aD3{i j pos}:PE X (.Constant (.int i) j pos) (tC (.int i)):=λ_ _ _ H _ I h=>wpAny_Constant_int ⟨.int i,H,I.tok _,⟨_,rfl⟩,h⟩
def aJ6{b j pos}:PE X (.Constant (.bool b) j pos) (tC (.bl b)):=λ_ _ _ H _ I h=>Constant_bool ⟨.bl b,H,I,rfl,h⟩
def aD4{j pos}:PE X (.Constant .none j pos) (tC .non):=λ_ _ _ H _ I h=>Constant_none ⟨.non,H,I,rfl,h⟩
def aD5{x j pos}:PE X (.Constant (.str x) j pos) (tC (.str x)):=λ_ _ _ H _ I h=>Calls.Constant_str ⟨.str x,H,I.tok _,⟨_,rfl⟩,h⟩
abbrev Gl(X:Cx)(x:Str):Prop:=X.env.kindOf x=aj .globalImplicit
def abV(I:Inv X pins σ H s)(hg:Gl X x)(hm:X.mg x=aj u)(h:Q u s)
  (hd:(x==("__debug__":Str))=ao:=by decide):dj (gk X.prog X.w) X.A (eval (.Name x pos) X.env) Q E s :=
 Calls.Name_function_global I.ok.kind hg (Calls.loadGlobal_global (by rw[I.ok.glob];exact I.mod.glob.keeps I.bk) hm h) hd
def sI(I:Inv X pins σ H s)(hg:Gl X x)(hm:X.mg x=aq)(hv:jw x=aj u)(h:Q u s)
  (hn:x≠"__name__":=by decide)(hd:(x==("__debug__":Str))=ao:=by decide):dj (gk X.prog X.w) X.A (eval (.Name x pos) X.env) Q E s:=by
 obtain⟨mb,h1,h2⟩:=I.mod.blt;exact Calls.Name_function_global I.ok.kind hg (Calls.loadGlobal_builtin (by rw[I.ok.glob];exact I.mod.glob.keeps I.bk) hm (by rw[I.ok.blt];exact h1.keeps I.bk) ((h2 x hn).trans hv) h) hd
def awL(hg:Gl X x)(hm:X.mg x=aj u)(r:RelV v u)(hd:(x==("__debug__":Str))=ao:=by decide):PE X (.Name x pos) (tC v) :=
 λ_ _ _ H _ I h=>abV I hg hm ⟨v,H,I,r,h⟩ hd
def awM(hg:Gl X x)(hm:X.mg x=aq)(hv:jw x=aj u)(r:RelV v u)(hn:x≠"__name__":=by decide)(hd:(x==("__debug__":Str))=ao:=by decide):PE X (.Name x pos) (tC v) :=
 λ_ _ _ H _ I h=>sI I hg hm hv ⟨v,H,I,r,h⟩ hn hd
variable{a b:jc}{ta tb:TE}{pos:Pos}
abbrev PC(X:Cx)(op:a0x)(a b:jc)(t:TE):Prop :=
 ∀(pins:List (bx×Obj))(s:dg)(σ:St)(H:Hp)(Q:VK),Inv X pins σ H s->t σ H Q ->
  [Tk X.need s]->dj (gk X.prog X.w) X.A (eval a X.env) (λv s₁=>dj (gk X.prog X.w) X.A (eval b X.env) (λu s₂=>dj (gk X.prog X.w) X.A (jm op v u) (EP X pins σ Q) X.xe s₂) X.xe s₁) X.xe s
def apS(b:jc)(h:op≠.In)(h2:op≠.NotIn):a01 op b=ao:=by
 have e1:(op==a0x.In)=ao:=by cases op<;>first|rfl|exact absurd rfl h
 have e2:(op==a0x.NotIn)=ao:=by cases op<;>first|rfl|exact absurd rfl h2
 cases b<;>simp[a01,e1,e2]
abbrev tB(t:TE):TT:=λσ H Q=>t σ H λx H1=>∃c,x=.bl c/\Q c H1
def aOT{t:TE}(h:PC X op a b t)(h1:a01 op b=ao:=by first|exact apS _ (by decide) (by decide)|rfl):PT X (.Compare a [op] [b] pos) (tB t):=by
 intro pins s σ H Q I hw;refine wpAny_isTrue_Compare1 (cY (h pins s σ H _ I hw) λv s1 h1=>cY h1 λu s2 h2=>cY h2 ?_) h1;rintro c s3 ⟨x,H1,I1,r1,q1⟩;obtain⟨d,rfl,q⟩:=q1;cases r1;exact uw ⟨H1,I1,q⟩
def aD6{e:jc}{t:TE}(h:PE X e t)(he:∀whole,isTrue e X.env whole=(do let v ←whole;standAt e.pos;holding [v] (truthy v)):=by intro _;rfl):PT X e (tB t):=by
 intro pins s σ H Q I hw;refine isTrue_plain (cY (h pins s σ H _ I hw) ?_) (he _);rintro v s1 ⟨x,H1,I1,r1,q1⟩;obtain⟨d,rfl,q⟩:=q1;cases r1;exact uw ⟨H1,I1,q⟩
variable{rest:List jc}
abbrev aJ7(t u:TT):TT:=λσ H Q=>t σ H λc H1=>if c=ak then u σ H1 Q else Q ao H1
abbrev tOr(t u:TT):TT:=λσ H Q=>t σ H λc H1=>if c=ak then Q ak H1 else u σ H1 Q
abbrev aOU(t:TT):TT:=λσ H Q=>t σ H λc H1=>Q (!c) H1
def awN(ha:PT X a tA):PW X (.BoolOp .And [a] pos) tA:=by
 intro wh pins s σ H Q I h;refine isTrue_and (cY (ha pins s σ H Q I h) λc s1 e=>?_);intro aJ8;cases c with
 |true=>exact isTrue_and_nil e
 |false=>exact e
def aD7(ha:PT X a tA):PW X (.BoolOp .Or [a] pos) tA:=by
 intro wh pins s σ H Q I h;refine isTrue_or (cY (ha pins s σ H Q I h) λc s1 e=>?_);intro aT0;cases c with
 |false=>exact isTrue_or_nil e
 |true=>exact e
def aD8(ha:PT X a tA)(hb:PW X (.BoolOp .And (b::rest) pos) tB'):PW X (.BoolOp .And (a::b::rest) pos) (aJ7 tA tB'):=by
 intro wh pins s σ H Q I h;refine isTrue_and (cY (ha pins s σ H _ I h) ?_);rintro c s1 ⟨H1,I1,q1⟩;cases c with
 |true=>exact hb wh pins s1 σ H1 Q I1 q1
 |false=>exact⟨H1,I1,q1⟩
def aJ9(ha:PT X a tA)(hb:PW X (.BoolOp .Or (b::rest) pos) tB'):PW X (.BoolOp .Or (a::b::rest) pos) (tOr tA tB'):=by
 intro wh pins s σ H Q I h;refine isTrue_or (cY (ha pins s σ H _ I h) ?_);rintro c s1 ⟨H1,I1,q1⟩;cases c with
 |true=>exact⟨H1,I1,q1⟩
 |false=>exact hb wh pins s1 σ H1 Q I1 q1
def aD9(ha:PT X a tA):PT X (.UnaryOp .Not a pos) (aOU tA):=by
 intro pins s σ H Q I h _tk;exact isTrue_not (ha pins s σ H (λc H1=>Q (!c) H1) I h)
abbrev aJA(ta tb:TE):TE:=λσ H Q=>ta σ H λx H1=>∃c,x=.bl c/\if c=ak then tb σ H1 Q else Q (.bl ao) H1
abbrev aOV(ta tb:TE):TE:=λσ H Q=>ta σ H λx H1=>∃c,x=.bl c/\if c=ak then Q (.bl ak) H1 else tb σ H1 Q
abbrev aJB(ta:TE):TE:=λσ H Q=>ta σ H λx H1=>∃c,x=.bl c/\Q (.bl (!c)) H1
def aDA{op}{t:TE}(h:PE X a t):PE X (.BoolOp op [a] pos) t:=λpins s σ H Q I hw=>BoolOp_one (h pins s σ H Q I hw)
def aDB(ha:PE X a ta)(hb:PE X (.BoolOp .And (b::rest) pos) tb):PE X (.BoolOp .And (a::b::rest) pos) (aJA ta tb):=by
 intro pins s σ H Q I h _tk;refine BoolOp_and (cY (ha pins s σ H _ I h) ?_);rintro v s1 ⟨x,H1,I1,r1,q1⟩;obtain⟨c,rfl,q1⟩:=q1;cases r1;refine uw ?_;cases c with
 |true=>exact hb pins s1 σ H1 Q I1 q1
 |false=>exact⟨.bl ao,H1,I1,rfl,q1⟩
def aJC(ha:PE X a ta)(hb:PE X (.BoolOp .Or (b::rest) pos) tb):PE X (.BoolOp .Or (a::b::rest) pos) (aOV ta tb):=by
 intro pins s σ H Q I h _tk;refine BoolOp_or (cY (ha pins s σ H _ I h) ?_);rintro v s1 ⟨x,H1,I1,r1,q1⟩;obtain⟨c,rfl,q1⟩:=q1;cases r1;refine uw ?_;cases c with
 |false=>exact hb pins s1 σ H1 Q I1 q1
 |true=>exact⟨.bl ak,H1,I1,rfl,q1⟩
def aDC(ha:PE X a ta):PE X (.UnaryOp .Not a pos) (aJB ta):=by
 intro pins s σ H Q I h _tk;refine UnaryOp_ (cY (ha pins s σ H _ I h) ?_);rintro v s1 ⟨x,H1,I1,r1,q1⟩;obtain⟨c,rfl,q1⟩:=q1;cases r1;exact not_of (uw ⟨.bl (!c),H1,I1,rfl,q1⟩)
abbrev tIf(t:TT)(ta tb:TE):TE:=λσ H Q=>t σ H λc H1=>if c=ak then ta σ H1 Q else tb σ H1 Q
def apT(hc:PT X c tA)(ha:PE X a ta)(hb:PE X b tb):PE X (.IfExp c a b pos) (tIf tA ta tb):=by
 intro pins s σ H Q I h _tk;refine wpAny_IfExp (cY (hc pins s σ H _ I h) ?_);rintro d s1 ⟨H1,I1,q1⟩;cases d with
 |true=>exact ha pins s1 σ H1 Q I1 q1
 |false=>exact hb pins s1 σ H1 Q I1 q1
end
end
variable{n:Nat}{body:List lq}{cm:Bool}
section
abbrev qK(K:iu)(H:Hp)(a:bx)(xs:List V):Prop :=
 Rd H a (.lst xs) ∨
  ∃(o:Obj)(its:Array bh)(n:Nat),K.lookup a=aj o/\o.cls=.type "list"/\o.dict=aq/\o.data=.seq its n/\its.size<=dh/\Vals xs its.toList
abbrev oG(K:iu)(H:Hp)(a:bx)(xs:List V):Prop :=
 Rd H a (.tup xs) ∨
  ∃(o:Obj)(its:Array bh)(n:Nat),K.lookup a=aj o/\o.cls=.type "tuple"/\o.dict=aq/\o.data=.seq its n/\its.size<=dh/\Vals xs its.toList
abbrev aOW:bh->Option V
 |.none=>aj .non
 |.bool b=>aj (.bl b)
 |.int i _=>aj (.int i)
 |.str x _=>aj (.str x)
 |.bytes b _=>aj (.byt b)
 |.float b _=>aj (.flt b)
 |.ref a=>aj (.ref a)
 |.type n=>aj (.ty n)
 |_=>aq
def RelV.abs{x:V}(r:RelV x u):aOW u=aj x:=by
 cases x with
 |non=>cases r;rfl
 |bl _=>cases r;rfl
 |int _=>obtain⟨t,rfl⟩:=r;rfl
 |str _=>obtain⟨t,rfl⟩:=r;rfl
 |byt _=>obtain⟨t,rfl⟩:=r;rfl
 |flt _=>obtain⟨t,rfl⟩:=r;rfl
 |ref _=>cases r;rfl
 |ty _=>cases r;rfl
def RelV.inj{x:V}(r:RelV x u)(q:RelV y u):x=y:=jd.inj (r.abs.symm.trans q.abs)
def Vals.inj:∀{xs ys:List V}{us:List bh},Vals xs us->Vals ys us->xs=ys
 |_,_,_,.nil,.nil=>rfl
 |_,_,_,.cons r t,.cons r' t'=>by rw[r.inj r',Vals.inj t t']
section
variable{X:Cx}{pins:List (bx×Obj)}{s:dg}{xs:List V}
def qK.of{K:iu}(h:H a=aj (.lst xs)):qK K H a xs:=.inl (.inl h)
def oG.of{K:iu}(h:H a=aj (.tup xs)):oG K H a xs:=.inl (.inl h)
def Inv.list(I:Inv X pins σ H s)(h:qK X.K H a xs):∃its:List bh,Vals xs its/\PlainL s.heap a its.toArray/\xs.length<=dh:=by
 rcases h with h|⟨o,its,n,hk,hc,hd,hs,hz,r⟩
 .obtain⟨z,its,n,r,e⟩:=h.ok I.hok;exact⟨its,r,⟨_,n,e,rfl,rfl,rfl⟩,z⟩
 .refine⟨its.toList,r,⟨o,n,I.kIn a o hk,hc,hd,by simpa using hs⟩,?_⟩;have e:=r.length;simp only[yq]at e;omega
def Inv.tuple(I:Inv X pins σ H s)(h:oG X.K H a xs):∃its:List bh,Vals xs its/\IsTup s.heap a its.toArray/\xs.length<=dh:=by
 rcases h with h|⟨o,its,n,hk,hc,hd,hs,hz,r⟩
 .obtain⟨z,its,r,p⟩:=h.ok I.hok;exact⟨its,r,p,z⟩
 .refine⟨its.toList,r,⟨o,I.kIn a o hk,hc,n,by simpa using hs⟩,?_⟩;have e:=r.length;simp only[yq]at e;omega
def Inv.a05(I:Inv X pins σ H s)(h:qK X.K H a xs)(h':qK X.K H a ys):xs=ys:=by
 obtain⟨its,r,⟨o,n,e,_,_,d⟩,_⟩:=I.list h;obtain⟨its',r',⟨o',n',e',_,_,d'⟩,_⟩:=I.list h';rw[e]at e';cases e';rw[d]at d';injection d' with d1 _;have:its=its':=by simpa using congrArg Array.toList d1
 subst this;exact r.inj r'
def Inv.xO(I:Inv X pins σ H s)(h:oG X.K H a xs)(h':oG X.K H a ys):xs=ys:=by
 obtain⟨its,r,⟨o,e,_,n,d⟩,_⟩:=I.tuple h;obtain⟨its',r',⟨o',e',_,n',d'⟩,_⟩:=I.tuple h';rw[e]at e';cases e';rw[d]at d';injection d' with d1 _;have:its=its':=by simpa using congrArg Array.toList d1
 subst this;exact r.inj r'
end
@[simp]def Cx.wish(X:Cx)(E:bh->dg->Prop):Cx:={X with xe:=E}
@[simp]def Cx.nox(X:Cx):Cx:=X.wish λ_ _=>False
def Cx.Ok.wish{X:Cx}(ok:X.Ok)(E:bh->dg->Prop):(X.wish E).Ok :=
 ⟨ok.mod,ok.kind,ok.glob,ok.blt,ok.above,ok.inj,ok.has,ok.cab,ok.hd,ok.frames,ok.stk,ok.exf,ok.bs,ok.bsz,ok.aeF,ok.ai0,ok.v8,ok.frf⟩
def Cx.Ok.pQ{X:Cx}(ok:(X.wish E).Ok):X.Ok :=
 ⟨ok.mod,ok.kind,ok.glob,ok.blt,ok.above,ok.inj,ok.has,ok.cab,ok.hd,ok.frames,ok.stk,ok.exf,ok.bs,ok.bsz,ok.aeF,ok.ai0,ok.v8,ok.frf⟩
section
variable{X:Cx}{pins:List (bx×Obj)}
def Inv.wish(I:Inv X pins σ H s)(E:bh->dg->Prop):Inv (X.wish E) pins σ H s:=⟨I.ok.wish E,I.os,I.bare,I.base,I.loc,I.cell,I.free,I.lZ,I.pin,I.hok,I.len,I.hnd,I.tup⟩
def Inv.pQ(I:Inv (X.wish E) pins σ H s):Inv X pins σ H s:=⟨I.ok.pQ,I.os,I.bare,I.base,I.loc,I.cell,I.free,I.lZ,I.pin,I.hok,I.len,I.hnd,I.tup⟩
private theorem SP.pQ{D:Ends}(h:SP (X.wish E) pins D f s'):SP X pins D f s':=by
 cases f with
 |next=>obtain⟨σ',H',I,q⟩:=h;exact⟨σ',H',I.pQ,q⟩
 |brk=>obtain⟨σ',H',I,q⟩:=h;exact⟨σ',H',I.pQ,q⟩
 |cont=>obtain⟨σ',H',I,q⟩:=h;exact⟨σ',H',I.pQ,q⟩
 |ret u=>obtain⟨v,σ',H',I,r,q⟩:=h;exact⟨v,σ',H',I.pQ,r,q⟩
def PE.nox{t:TE}(h:PE X.nox e t):PE X e t:=λpins s σ H Q I hw =>
 oh (h pins s σ H Q (I.wish _) hw) (λ_ _ ⟨v,H',I',r,q⟩=>⟨v,H',I'.pQ,r,q⟩) λ_ _ z=>False.elim z
def PT.nox{t:TT}(h:PT X.nox e t):PT X e t:=λpins s σ H Q I hw =>
 oh (h pins s σ H Q (I.wish _) hw) (λ_ _ ⟨H',I',q⟩=>⟨H',I'.pQ,q⟩) λ_ _ z=>False.elim z
def PSs.nox{st:List lq}{t:TS}(h:PSs X.nox st t):PSs X st t:=λpins s σ H D I hw =>
 oh (h pins s σ H D (I.wish _) hw) (λ_ _ q=>q.pQ) λ_ _ z=>False.elim z
end
section
variable{X:Cx}{st:lq}{rest:List lq}{t u:TS}{te:TE}{pos:Pos}
abbrev aBA:TS:=λD σ H=>D.nx σ H
abbrev aDD(t u:TS):TS:=λD σ H=>t {D with nx:=u D} σ H
def awO:PSs X [] aBA:=λ_ _ σ H _ I h=>wpAny_execs_nil ⟨σ,H,I,h⟩
private theorem apU(h1:PS X st t)(h2:PSs X rest u):PSs X (st::rest) (aDD t u):=by
 intro pins s σ H D I h _tk;refine wpAny_execs_cons (cY (h1 pins s σ H {D with nx:=u D} I h) λf s1 q=>?_);intro aT2;cases f with
 |next =>
  obtain⟨σ',H',I',q⟩:=q;exact h2 pins s1 σ' H' D I' q
 |ret v=>exact q
 |brk=>exact q
 |cont=>exact q
private theorem awP(h1:PS X st t):PSs X [st] t:=by
 intro pins s σ H D I h _tk;refine wpAny_execs_cons (cY (h1 pins s σ H D I h) λf s1 q=>?_);intro aT3;cases f with
 |next=>exact wpAny_execs_nil q
 |ret v=>exact q
 |brk=>exact q
 |cont=>exact q
def awQ:PS X (.Pass pos) aBA:=λ_ _ σ H _ I h=>wpAny_Pass ⟨σ,H,I,h⟩
def Inv.quiet(I:Inv X pins σ H s):interactive X.env=ao:=by simp[interactive,I.ok.kind]
abbrev aJD(te:TE):TS:=λD σ H=>te σ H λ_ H1=>D.nx σ H1
def awR(he:PE X e te)(hs:a1i e aq pos.line X.env=pure ao:=by rfl):PS X (.Expr e pos) (aJD te):=by
 intro pins s σ H D I h _tk;exact wpAny_Expr_any (cY (he pins s σ H _ I h) (by rintro v s1 ⟨x,H1,I1,r1,q1⟩;exact⟨σ,H1,I1,q1⟩)) I.quiet hs
abbrev aOX(te:TE):TS:=λD σ H=>te σ H D.rt
def aDE(he:PE X e te):PS X (.Return (aj e) pos) (aOX te):=by
 intro pins s σ H D I h _tk;exact wpAny_Return_some (cY (he pins s σ H _ I h) (by rintro v s1 ⟨x,H1,I1,r1,q1⟩;exact⟨x,σ,H1,I1,r1,q1⟩))
abbrev aOY(c:TT)(t u:TS):TS:=λD σ H=>c σ H λb H1=>if b=ak then t D σ H1 else u D σ H1
def aJE{b:List lq}(hc:PT X c tc)(ha:PSs X a t)(hb:PSs X b u):PS X (.If c a b pos) (aOY tc t u):=by
 intro pins s σ H D I h _tk;refine wpAny_If (cY (hc pins s σ H _ I h) ?_);rintro d s1 ⟨H1,I1,q1⟩;cases d with
 |true=>exact ha pins s1 σ H1 D I1 q1
 |false=>exact hb pins s1 σ H1 D I1 q1
end
@[simp]def TG:=V->St->Hp->(St->Hp->Prop)->Prop
@[simp]def TGs:=List V->St->Hp->(St->Hp->Prop)->Prop
abbrev PG(X:Cx)(target:jc)(t:TG):Prop :=
 ∀(pins:List (bx×Obj))(s:dg)(σ:St)(H:Hp)(v:V)(u:bh)(Q:St->Hp->Prop),Inv X pins σ H s->RelV v u->t v σ H Q ->
  [Tk X.need s]->dj (gk X.prog X.w) X.A (assign target X.env u) (λ_ s'=>∃σ' H',Inv X pins σ' H' s'/\Q σ' H') X.xe s
abbrev PGs(X:Cx)(ts:List jc)(t:TGs):Prop :=
 ∀(pins:List (bx×Obj))(s:dg)(σ:St)(H:Hp)(vs:List V)(us:List bh)(Q:St->Hp->Prop),Inv X pins σ H s->Vals vs us->t vs σ H Q ->
  [Tk X.need s]->dj (gk X.prog X.w) X.A (assignInOrder ((a0h ts X.env).map (·.2)) us) (λ_ s'=>∃σ' H',Inv X pins σ' H' s'/\Q σ' H') X.xe s
variable{i:Nat}
section
variable{X:Cx}{pos:Pos}
abbrev akC(i:Nat):TG:=λv σ H Q=>Q (σ.set i (aj v)) H
def abW(hN:X.N.Nodup)(hi:X.N[i]?=aj x)(hx:Loc X.env.scope x)(hf:X.fn x=ak∨X.env.scope.names.lookup x=aj .local:=by first|exact .inl rfl|exact .inr rfl|assumption):PG X (.Name x pos) (akC i):=by
 intro pins s σ H v u Q I r h;exact wpAny_assign_Name (aeI I hN hi hx r (λs' I'=>⟨_,H,I',h⟩) hf)
abbrev aJG:TGs:=λvs σ H Q=>vs=[]/\Q σ H
abbrev aBC(t:TG)(u:TGs):TGs:=λvs σ H Q=>∃v r,vs=v::r/\t v σ H λσ' H'=>u r σ' H' Q
def awS:PGs X [] aJG:=by
 intro pins s σ H vs us Q I r h;obtain⟨e,h⟩:=h;subst e;cases r;exact assignInOrder_nil ⟨σ,H,I,h⟩
def apV{t:TG}(h1:PG X e t)(h2:PGs X es u)
  (hs:(a0h (e::es) X.env).map (·.2)=assign e X.env::(a0h es X.env).map (·.2):=by rfl):PGs X (e::es) (aBC t u):=by
 intro pins s σ H vs us Q I r h;obtain⟨v,vr,e1,h⟩:=h;subst e1;cases r with
 |cons r rr =>
  rw[hs];refine assignInOrder_cons (cY (h1 pins s σ H _ _ _ I r h) ?_);rintro _ s1 ⟨σ1,H1,I1,q1⟩;exact h2 pins s1 σ1 H1 _ _ Q I1 rr q1
abbrev aOZ(K:iu)(n:Nat)(t:TGs):TG:=λv σ H Q=>∃a xs,v=.ref a/\oG K H a xs/\xs.length=n/\t xs σ H Q
def apW{k:Nat}{t:TGs}(hc:X.calm=ak)(h:PGs X es t)
  (hn:(a0h es X.env).length=n:=by rfl)(hst:(a0h es X.env).findIdx? (·.1)=aq:=by rfl):PG X (.Tuple es k pos) (aOZ X.K n t):=by
 intro pins s σ H v u Q I r hw;obtain⟨a,xs,e1,hq,hl,hw⟩:=hw;subst e1;cases r;obtain⟨its,rv,ht,hz⟩:=I.tuple hq;refine assign_Tuple_tuple (I.ok.hd hc) ht (by simp[hn,←hl,rv.length]) hst λh' hx=>?_;have I1:Inv X pins σ H {s with heap:=h' }:=I.kept (t':=s.toks) λb o e=>hx b o (jg (gV e)) e;exact h pins _ σ H xs _ Q I1 (by simpa using rv) hw
abbrev aJH(te:TE)(g:TG):TS:=λD σ H=>te σ H λx H1=>g x σ H1 D.nx
def aDF{g:TG}(he:PE X e te)(hg:PG X tg g)(hs:swapsWithSole [tg] e pos.line X.env=pure ao:=by rfl)(hw:swappedStores [tg] e X.env=pure aq:=by rfl)
  (h1:(a0h [tg] X.env).map (·.2)=[assign tg X.env]:=by rfl):PS X (.Assign [tg] e pos) (aJH te g):=by
 intro pins s σ H D I h _tk;refine wpAny_Assign_stores (cY (he pins s σ H _ I h) ?_) hs hw;rintro v s1 ⟨x,H1,I1,r1,q1⟩;rw[h1];exact cY (hg pins s1 σ H1 x v _ I1 r1 q1) λ_ s2 q=>q
def aDG(hN:X.N.Nodup)(hi:X.N[i]?=aj x)(hx:Loc X.env.scope x)(he:PE X e te)(hs:a1i e (aj (.Name x pos')) pos.line X.env=pure ao:=by rfl)(hf:X.fn x=ak∨X.env.scope.names.lookup x=aj .local:=by first|exact .inl rfl|exact .inr rfl|assumption) :
  PS X (.Assign [.Name x pos'] e pos) (aJH te (akC i)):=by
 intro pins s σ H D I h _tk;refine wpAny_Assign_Name (cY (he pins s σ H _ I h) ?_) hs;rintro v s1 ⟨y,H1,I1,r1,q1⟩;exact aeI I1 hN hi hx r1 (λs2 I2=>⟨_,H1,I2,q1⟩) hf
end
section
variable{X:Cx}{pos:Pos}
abbrev aDH(c:TT)(tb:TS):TS:=λD σ H=>∃W:Nat->St->Hp->Prop,(∃m,W m σ H)/\∀m σ H,W m σ H ->
 c σ H λb H1=>if b=ak then ∃N:St->Hp->Prop,(∀σ' H',N σ' H'->∃m',m'<m/\W m' σ' H')/\tb {D with nx:=N,ct:=N,bk:=D.nx} σ H1 else D.nx σ H1
private theorem apY(hp:a2e (gk X.prog X.w) X.A X.env X.xe)(hc:PT X c tc)(hb:PSs X body tb):PS X (.While c body [] pos) (aDH tc tb):=by
 intro pins s σ H D I h _tk;obtain⟨W,⟨m0,w0⟩,turn⟩:=h;refine wpAny_While (codeAny_whileLoop (λn s'=>Tk X.need s'/\∃σ' H',Inv X pins σ' H' s'/\W n σ' H') ?_ m0 ⟨inferInstance,σ,H,I,w0⟩);rintro n s1 ⟨tk1,σ1,H1,I1,w1⟩;refine a0o hp (cY (hc pins s1 σ1 H1 _ I1 (turn n σ1 H1 w1)) ?_);rintro b s2 ⟨H2,I2,q2⟩;cases b with
 |true =>
  obtain⟨N,hN,q2⟩:=q2;rw[if_pos rfl];refine a0o hp (cY (hb pins s2 σ1 H2 _ I2 q2) λf s3 q3=>?_);intro aT4;cases f with
  |next =>
   obtain⟨σ3,H3,I3,n3⟩:=q3;obtain⟨m',hm,w3⟩:=hN σ3 H3 n3;exact⟨m',hm,inferInstance,σ3,H3,I3,w3⟩
  |cont =>
   obtain⟨σ3,H3,I3,n3⟩:=q3;obtain⟨m',hm,w3⟩:=hN σ3 H3 n3;exact⟨m',hm,inferInstance,σ3,H3,I3,w3⟩
  |brk=>exact q3
  |ret v=>exact q3
 |false =>
  rw[if_neg pq];exact wpAny_execs_nil ⟨σ1,H2,I2,q2⟩
end
structure It where
 go:Nat->Hp->Prop
 yld:Nat->Hp->V->Hp->Prop
 stop:Nat->Hp->Prop
abbrev mD(X:Cx)(pins:List (bx×Obj))(H:Hp)(b:bx):Prop :=
 H b=aq/\b≠X.env.locals/\b∉X.fs/\(b∈X.ex∨X.s₀.heap.objs.size<=b)/\(∀x c,X.env.cells.lookup x=aj c->c≠b)/\∀p∈X.pn++pins,p.1≠b
variable{s:dg}
def Inv.v9(I:Inv X pins σ H s)(hb:s.heap.objs.size<=b)(hn:H' b=aq):mD X pins H' b:=by
 refine⟨hn,yg (jj I.lt hb),I.aOR hb,.inr (uh I.sz hb),λx c e z=>?_,λp hp z=>?_⟩
 .obtain⟨v,q⟩:=I.cell x c e;exact absurd (jj q.lt (by rw[z];exact hb)) (wz _)
 .exact absurd (jj (gV (I.pin p hp).1) (by rw[z];exact hb)) (wz _)
structure Turn(cm:Bool)(tl:List (bx×List V))(P:ju)(w:jq)(K:iu)(tg:jc)(J:It)(fp:List bx)(it:bx)(tn:Nat->jf->Prop):Prop where
 mem:it∈fp
 obj:∀i h,tn i h->∀b∈fp,∃o,h.get? b=aj o/\∀v,o.data≠.cell v
 keep:∀i h h',tn i h->(∀b∈fp,∀o,h.get? b=aj o->h'.get? b=aj o)->tn i h'
 item:∀(X:Cx),X.prog=P->X.w=w->X.K=K->(cm=ak->X.calm=ak)->(∀p∈tl,p∈X.tp)->∀(i:Nat)(pins:List (bx×Obj))(s:dg)(σ:St)(H:Hp)(E:bh->dg->Prop),Inv X pins σ H s->(∀b∈fp,mD X pins H b)->tn i s.heap->J.go i H ->
  dj (gk P w) X.A (yt (.ref it)) (λr s1=>∃u,r=aj u /\
   dj (gk P w) X.A (a1z tg (.ref it) u) (λ_ s2=>∃x H',Inv X pins σ H' s2/\RelV x u/\J.yld i H x H'/\tn (i+1) s2.heap/\∀b∈fp,H' b=aq) E s1) E s
 done:∀(X:Cx),X.prog=P->X.w=w->X.K=K->(cm=ak->X.calm=ak)->(∀p∈tl,p∈X.tp)->∀(i:Nat)(pins:List (bx×Obj))(s:dg)(σ:St)(H:Hp)(E:bh->dg->Prop),Inv X pins σ H s->(∀b∈fp,mD X pins H b)->tn i s.heap->J.stop i H ->
  dj (gk P w) X.A (yt (.ref it)) (λr s1=>r=aq/\Inv X pins σ H s1) E s
 self:∀(A:jr)(i:Nat)(s:dg)(Q:bh->dg->Prop)(E:bh->dg->Prop),tn i s.heap->Q (.ref it) s->dj (gk P w) A (pyIter (.ref it)) Q E s
@[simp]def TI:=St->Hp->(It->Hp->Prop)->Prop
abbrev PIE(X:Cx)(pins:List (bx×Obj))(σ:St)(tg:jc)(R:It->Hp->Prop)(itv:bh)(s2:dg):Prop :=
 ∃(it:bx)(fp:List bx)(tn:Nat->jf->Prop)(J:It)(H':Hp),itv=.ref it/\Inv X pins σ H' s2/\Turn X.calm X.tp X.prog X.w X.K tg J fp it tn/\tn 0 s2.heap/\(∀b∈fp,mD X pins H' b)/\R J H'
abbrev PI(X:Cx)(tg iter:jc)(wi:TI):Prop :=
 ∀(pins:List (bx×Obj))(s:dg)(σ:St)(H:Hp)(R:It->Hp->Prop),Inv X pins σ H s->wi σ H R ->
  [Tk X.need s]->dj (gk X.prog X.w) X.A (eval iter X.env) (λv s1=>dj (gk X.prog X.w) X.A (pyIter v) (PIE X pins σ tg R) X.xe s1) X.xe s
def aa8{o:Obj}{n:String}(ho:s.heap.get? it=aj o)(hc:o.cls=.type n)(hd:o.data=.fields vs)
  (hn:["enumerate","zip","dict_itemiterator","dict_reverseitemiterator","odict_iterator","itertools.zip_longest","itertools.pairwise"].contains n=ao)(hQ:Q () s):dj M A (a1z tg (.ref it) u) Q E s:=by
 unfold a1z
 cases tg<;>first
  |exact dw hQ
  |(cases u<;>first
    |exact dw hQ
    |(refine au (wpAny_load ho ?_)
      rw[hc,hd];show dj M A (if(["enumerate","zip","dict_itemiterator","dict_reverseitemiterator","odict_iterator","itertools.zip_longest","itertools.pairwise"].contains n&&vs[0]?==aj (a0j _))=ak then _ else _) Q E s;rw[if_neg (by intro h;rw[hn,Bool.false_and]at h;cases h)];exact dw hQ))
abbrev Itl(K:iu)(a:bx):It :=
 ⟨λi H=>∃xs x,qK K H a xs/\xs[i]?=aj x,λi H x H'=>H'=H/\∀xs,qK K H a xs->xs[i]?=aj x,λi H=>∃xs,qK K H a xs/\xs.length<=i⟩
abbrev Itt(K:iu)(a:bx):It :=
 ⟨λi H=>∃xs x,oG K H a xs/\xs[i]?=aj x,λi H x H'=>H'=H/\∀xs,oG K H a xs->xs[i]?=aj x,λi H=>∃xs,oG K H a xs/\xs.length<=i⟩
abbrev Itr(lo:Int)(n:Nat):It:=⟨λi _=>i<n,λi H x H'=>H'=H/\x=.int (lo+i),λi _=>n<=i⟩
def aa9{K:iu}(a it:bx):Turn cm tl P w K tg (Itl K a) [it] it (λi h=>h.IsListIter it a i) where
 mem:=by simp
 obj:=λi h st b hb=>by
  have e:b=it:=by simpa using hb
  subst e;obtain⟨o,e,c,d⟩:=st;exact⟨o,e,λv z=>by rw[d]at z;cases z⟩
 keep:=λi h h' st k=>st.at λo e=>k it (by simp) o e
 item:=by
  intro X hP hw hK hc ht i pins s σ H E I hf st hg;subst hP hw hK;obtain⟨xs,x,hq,hx⟩:=hg;obtain⟨its,rv,p,hz⟩:=I.list hq;obtain⟨u,hu,ru⟩:=rv.get hx;obtain⟨f0,f1,f2,f3,f4,f5⟩:=hf it (by simp);refine wpAny_pyNext_list_item st p.isList (x:=u) (by simpa using hu) λh' st' sb=>?_;have I1:Inv X pins σ H {s with heap:=h' }:=I.turned (t':=s.toks) (λb o hb e=>(sb.2 b hb).trans e) f0 f1 f3 f4 f5;obtain⟨o,e,c,d⟩:=id st';exact⟨u,rfl,aa8 (s:={s with heap:=h' }) e c d (by decide) ⟨x,H,I1,ru,⟨rfl,λys hy=>by rw[I.a05 hy hq];exact hx⟩,st',λb hb=>(hf b hb).1⟩⟩
 done:=by
  intro X hP hw hK hc ht i pins s σ H E I hf st hg;subst hP hw hK;obtain⟨xs,hq,hx⟩:=hg;obtain⟨its,rv,p,hz⟩:=I.list hq;obtain⟨f0,f1,f2,f3,f4,f5⟩:=hf it (by simp);have hl:=rv.length;exact amX (I.hnd.heap I.hok) st p.isList (by simp;omega) λh' eb=>⟨rfl,I.turned (t':=s.toks) (λb o hb e=>eb b o hb e) f0 f1 f3 f4 f5⟩
 self:=λ_ _ _ _ _ st h=>wpAny_pyIter_listiter st h
def a6F{K:iu}(a it:bx):Turn cm tl P w K tg (Itt K a) [it] it (λi h=>h.IsTupleIter it a i) where
 mem:=by simp
 obj:=λi h st b hb=>by
  have e:b=it:=by simpa using hb
  subst e;obtain⟨o,e,c,d⟩:=st;exact⟨o,e,λv z=>by rw[d]at z;cases z⟩
 keep:=λi h h' st k=>st.at λo e=>k it (by simp) o e
 item:=by
  intro X hP hw hK hc ht i pins s σ H E I hf st hg;subst hP hw hK;obtain⟨xs,x,hq,hx⟩:=hg;obtain⟨its,rv,p,hz⟩:=I.tuple hq;obtain⟨u,hu,ru⟩:=rv.get hx;obtain⟨f0,f1,f2,f3,f4,f5⟩:=hf it (by simp);refine wpAny_pyNext_tuple_item st (show s.heap.IsTuple a its.toArray from p) (x:=u) (by simpa using hu) λh' st' sb=>?_;have I1:Inv X pins σ H {s with heap:=h' }:=I.turned (t':=s.toks) (λb o hb e=>(sb.2 b hb).trans e) f0 f1 f3 f4 f5;obtain⟨o,e,c,d⟩:=id st';exact⟨u,rfl,aa8 (s:={s with heap:=h' }) e c d (by decide) ⟨x,H,I1,ru,⟨rfl,λys hy=>by rw[I.xO hy hq];exact hx⟩,st',λb hb=>(hf b hb).1⟩⟩
 done:=by
  intro X hP hw hK hc ht i pins s σ H E I hf st hg;subst hP hw hK;obtain⟨xs,hq,hx⟩:=hg;obtain⟨its,rv,p,hz⟩:=I.tuple hq;obtain⟨f0,f1,f2,f3,f4,f5⟩:=hf it (by simp);have hl:=rv.length;exact apP (I.hnd.heap I.hok) st (show s.heap.IsTuple a its.toArray from p) (by simp;omega) λh' eb=>⟨rfl,I.turned (t':=s.toks) (λb o hb e=>eb b o hb e) f0 f1 f3 f4 f5⟩
 self:=λ_ _ _ _ _ st h=>wpAny_pyIter_tupleiter st h
def ai2{K:iu}(it:bx)(lo:Int)(n:Nat):Turn cm tl P w K tg (Itr lo n) [it] it (λi h=>a1t h it (lo+(i:Nat)*1) ((n:Int) - (i:Nat)) 1) where
 mem:=by simp
 obj:=λi h st b hb=>by
  have e:b=it:=by simpa using hb
  subst e
  exact⟨_,st,λv z=>by
   have z':Data.fields _=Data.cell v:=z;cases z'⟩
 keep:=λi h h' st k=>k it (by simp) _ st
 item:=by
  intro X hP hw hK hc ht i pins s σ H E I hf st hg;subst hP hw hK;obtain⟨f0,f1,f2,f3,f4,f5⟩:=hf it (by simp);have hi:i<n:=hg;refine wpAny_pyNext_range_item st (by omega) λh' st' kk=>?_;have I1:Inv X pins σ H {s with heap:=h',toks:=s.toks+1}:=I.turned (λb o hb e=>(kk.2 b hb).trans e) f0 f1 f3 f4 f5
  have st2:a1t h' it (lo+((i+1:Nat):Int)*1) ((n:Int) - ((i+1:Nat):Int)) 1:=by
   have e1:lo+((i:Nat):Int)*1+1=lo+((i+1:Nat):Int)*1:=by omega
   have e2:(n:Int) - ((i:Nat):Int) - 1=(n:Int) - ((i+1:Nat):Int):=by omega
   rw[←e1,←e2];exact st'
  refine⟨_,rfl,aa8 (s:={s with heap:=h',toks:=s.toks+1}) (n:="range_iterator") st2 rfl rfl (by decide) ⟨.int (lo+i),H,I1,⟨s.toks,?_⟩,⟨rfl,rfl⟩,st2,λb hb=>(hf b hb).1⟩⟩;rw[Int.mul_one]
 done:=by
  intro X hP hw hK hc ht i pins s σ H E I hf st hg;subst hP hw hK;obtain⟨f0,f1,f2,f3,f4,f5⟩:=hf it (by simp);exact aeC (I.hnd.heap I.hok) st (by have:n<=i:=hg;omega) λh' eb=>⟨rfl,I.turned (t':=s.toks) (λb o hb e=>eb b o hb e) f0 f1 f3 f4 f5⟩
 self:=λ_ _ _ _ _ st h=>wpAny_pyIter_rangeiter st h
end
section
variable{h:jf}
section
variable{X:Cx}
def apZ{s:dg}{lo hi:Int}{t:Tok}{tk:Nat}(I:Inv X pins σ H s)(h1:-(2^62)<=lo)(h2:lo<2^62)(h3:-(2^62)<=hi)(h4:hi<2^62)
  (q:R (Itr lo (hi - lo).toNat) H):dj (gk X.prog X.w) X.A (pyIter (.ref s.heap.objs.size)) (PIE X pins σ tg R) E {s with heap:=s.heap.push {cls:=.type "range",data:=.fields #[.int lo t,.int hi u,.int 1 v]},toks:=tk}:=by
 refine wpAny_pyIter_range (IsRange.new ..) (small_one h1 h2 h3 h4) ?_;have I1:Inv X pins σ H {s with heap:=s.heap.push {cls:=.type "range",data:=.fields #[.int lo t,.int hi u,.int 1 v]},toks:=tk}:=I.kept λb o e=>cj _ e
 refine⟨(s.heap.push {cls:=.type "range",data:=.fields #[.int lo t,.int hi u,.int 1 v]}).objs.size,[(s.heap.push {cls:=.type "range",data:=.fields #[.int lo t,.int hi u,.int 1 v]}).objs.size],_,_,H,rfl,
  I1.kept (t':=tk) λb o e=>cj _ e,ai2 _ lo (hi - lo).toNat,?_,λb hb=>?_,q⟩
 .have e1:lo+((0:Nat):Int)*1=lo:=by simp
  have e2:(((hi - lo).toNat:Nat):Int) - ((0:Nat):Int)=Builtin.Range.rangeSize lo hi 1:=by rw[rangeSize_one];split<;>omega
  show a1t _ _ (lo+((0:Nat):Int)*1) ((((hi - lo).toNat:Nat):Int) - ((0:Nat):Int)) 1;rw[e1,e2];exact ig _ rfl
 .have e:b=(s.heap.push {cls:=.type "range",data:=.fields #[.int lo t,.int hi u,.int 1 v]}).objs.size:=by simpa using hb
  subst e;exact I1.v9 (cu _) (I1.hok.fresh (cu _))
abbrev aJJ(ta:TA):TI:=λσ H R=>ta σ H λvs H1=>∃j:Int,vs=[.int j]/\-(2^62)<=j/\j<2^62/\R (Itr 0 j.toNat) H1
def aaA(hg:Gl X "range")(hm:X.mg "range"=aq)(ha:PA X [a] ta)(hs:jt [a] X.env=[(ao,eval a X.env)]:=by rfl):PI X tg (.Call (.Name "range" p) [a] [] pos) (aJJ ta):=by
 intro pins s σ H R I h _tk;refine Call_ (sI I hg hm boot_range (PyProof.Rows.callWith_type1 (cY (ha pos pins s σ H _ I h) ?_) hs rfl));rintro us s1 ⟨vs,H1,I1,r1,q1⟩;obtain⟨j,e,q1,q2,q⟩:=q1;subst e;cases r1 with
 |cons r rr =>
  cases rr;obtain⟨t,rfl⟩:=r;exact call_range_1 (apZ I1 (by omega) (by omega) q1 q2 (by simpa using q))
abbrev aP2(wi:TI)(g:TG)(tb:TS):TS:=λD σ H=>wi σ H λJ H1=>∃W:Nat->Nat->St->Hp->Prop,(∃m,W 0 m σ H1)/\∀i m σ H,W i m σ H ->
 (J.stop i H/\D.nx σ H)∨(J.go i H/\∃N:St->Hp->Prop,(∀σ' H',N σ' H'->∃m',m'<m/\W (i+1) m' σ' H')/\∀x H',J.yld i H x H'->g x σ H' λσ2 H2=>tb {D with nx:=N,ct:=N,bk:=D.nx} σ2 H2)
abbrev a2M(fp:List bx)(h:jf):List (bx×Obj):=fp.filterMap λb=>(h.get? b).map λo=>(b,o)
def sJ(hb:b∈fp)(e:h.get? b=aj o):(b,o)∈a2M fp h:=List.mem_filterMap.mpr ⟨b,hb,by rw[e];rfl⟩
def an3{p:bx×Obj}(hp:p∈a2M fp h):p.1∈fp/\h.get? p.1=aj p.2:=by
 obtain⟨b,hb,e⟩:=List.mem_filterMap.mp hp;cases q:h.get? b with
 |none=>rw[q]at e;cases e
 |some o =>
  rw[q]at e;have e':(b,o)=p:=jd.inj e;subst e';exact⟨hb,q⟩
def Inv.pinned{s:dg}(I:Inv X pins σ H s)(hf:∀b∈fp,mD X pins H b)(ho:∀b∈fp,∃o,s.heap.get? b=aj o/\∀v,o.data≠.cell v):Inv X (pins++a2M fp s.heap) σ H s :=
 I.akB λp hp=>(vg.mp hp).elim (λz=>I.pin p (nu _ z)) λz=>by
  obtain⟨hb,e⟩:=an3 z;obtain⟨f0,f1,f2,_⟩:=hf p.1 hb;obtain⟨o,e',d⟩:=ho p.1 hb;rw[e]at e';cases e';exact⟨e,f0,f1,f2,d⟩
def Inv.a06(I:Inv X (pins++pl) σ H s):Inv X pins σ H s:=I.akB λp hp=>I.pin p (nu _ (zu _ hp))
private theorem aq0{g:TG}(hp:a2e (gk X.prog X.w) X.A X.env X.xe)(hi:PI X tg iter wi)(hg:PG X tg g)(hb:PSs X body tb)
  (hs:∀x,a0w iter X.env x=pure x:=by intro _;rfl):PS X (.For tg iter body [] pos) (aP2 wi g tb):=by
 intro pins s σ H D I h _tk;refine wpAny_For (cY (hi pins s σ H _ I h) λv s1 h1=>cY h1 λitv s2 h2=>?_) hs;intro aT5;obtain⟨it,fp,tn,J,H2,e,I2,T,st2,f2,W,⟨m0,w0⟩,turn⟩:=h2;subst e;have stat:∀{H':Hp},(∀b∈fp,H' b=aq)->∀b∈fp,mD X pins H' b:=λhn b hb=>⟨hn b hb,(f2 b hb).2⟩;refine codeAny_forLoop_any (λn s'=>Tk X.need s'/\∃i σ' H',Inv X pins σ' H' s'/\tn i s'.heap/\(∀b∈fp,H' b=aq)/\W i n σ' H') ?_ m0 ⟨inferInstance,0,σ,H2,I2,st2,λb hb=>(f2 b hb).1,w0⟩;rintro n s3 ⟨tk3,i,σ3,H3,I3,st3,fr3,w3⟩;rcases turn i n σ3 H3 w3 with⟨stop,qn⟩|⟨go,N,hN,step⟩
 .refine a0o hp (cY (T.done X rfl rfl rfl (λh=>h) (λ_ h=>h) i pins s3 σ3 H3 X.xe I3 (stat fr3) st3 stop) ?_);rintro r s4 ⟨hr,I4⟩;subst hr;exact wpAny_execs_nil ⟨σ3,H3,I4,qn⟩
 .refine a0o hp (cY (T.item X rfl rfl rfl (λh=>h) (λ_ h=>h) i pins s3 σ3 H3 X.xe I3 (stat fr3) st3 go) ?_);rintro r s4 ⟨u,hr,h4⟩;subst hr;refine a0o hp (cY h4 λ_ s5 ⟨x,H5,I5,r5,y5,st5,fr5⟩=>?_);have I5':=I5.pinned (stat fr5) (T.obj _ _ st5);refine a0o hp (cY (hg _ s5 σ3 H5 x u _ I5' r5 (step x H5 y5)) λ_ s6 ⟨σ6,H6,I6,q6⟩=>?_);refine a0o hp (cY (hb _ s6 σ6 H6 _ I6 q6) λf s7 q7=>?_);intro aT8
  have again:∀{σ7:St}{H7:Hp},Inv X (pins++a2M fp s5.heap) σ7 H7 s7->N σ7 H7->∃m,m<n/\Tk X.need s7/\∃i σ' H',Inv X pins σ' H' s7/\tn i s7.heap/\(∀b∈fp,H' b=aq)/\W i m σ' H':=λ{σ7 H7} I7 n7=>by
   obtain⟨m',hm,w7⟩:=hN σ7 H7 n7;refine⟨m',hm,inferInstance,i+1,σ7,H7,I7.a06,T.keep _ _ _ st5 λb hb o e=>(I7.pin (b,o) (nu _ (nu _ (sJ hb e)))).1,λb hb=>?_,w7⟩;obtain⟨o,e,d⟩:=T.obj _ _ st5 b hb;exact(I7.pin (b,o) (nu _ (nu _ (sJ hb e)))).2.1
  cases f with
  |next=>obtain⟨σ7,H7,I7,n7⟩:=q7;exact again I7 n7
  |cont=>obtain⟨σ7,H7,I7,n7⟩:=q7;exact again I7 n7
  |brk=>obtain⟨σ7,H7,I7,q7⟩:=q7;exact⟨σ7,H7,I7.a06,q7⟩
  |ret v=>obtain⟨x7,σ7,H7,I7,r7,q7⟩:=q7;exact⟨x7,σ7,H7,I7.a06,r7,q7⟩
end
end
variable{g:Int->Int->Int}
section
@[simp]def R2:=V->V->Hp->VK->Prop
abbrev qH(X:Cx)(f:bh->bh->Sem bh)(r:R2):Prop :=
 ∀(pins:List (bx×Obj))(s:dg)(σ:St)(H:Hp)(x y:V)(v u:bh)(Q:VK),Inv X pins σ H s->RelV x v->RelV y u->r x y H Q ->
  dj (gk X.prog X.w) X.A (f v u) (EP X pins σ Q) X.xe s
abbrev UnR(X:Cx)(f:bh->Sem bh)(r:V->Hp->VK->Prop):Prop :=
 ∀(pins:List (bx×Obj))(s:dg)(σ:St)(H:Hp)(x:V)(v:bh)(Q:VK),Inv X pins σ H s->RelV x v->r x H Q ->
  dj (gk X.prog X.w) X.A (f v) (EP X pins σ Q) X.xe s
abbrev oM(X:Cx)(f:bh)(r:List V->Hp->VK->Prop):Prop :=
 ∀(pins:List (bx×Obj))(s:dg)(σ:St)(H:Hp)(xs:List V)(us:List bh)(Q:VK),Inv X pins σ H s->Vals xs us->r xs H Q ->
  dj (gk X.prog X.w) X.A (call f us) (EP X pins σ Q) X.xe s
abbrev tOp(r:R2)(ta tb:TE):TE:=λσ H Q=>ta σ H λx H1=>tb σ H1 λy H2=>r x y H2 Q
abbrev tUn(r:V->Hp->VK->Prop)(ta:TE):TE:=λσ H Q=>ta σ H λx H1=>r x H1 Q
abbrev rI(C:Int->Int->Prop)(g:Int->Int->V):R2:=λx y H Q=>∃i j,x=.int i/\y=.int j/\C i j/\Q (g i j) H
abbrev rI0(g:Int->Int->V):R2:=λx y H Q=>∃i j,x=.int i/\y=.int j/\Q (g i j) H
abbrev rU(g:Int->V):V->Hp->VK->Prop:=λx H Q=>∃i,x=.int i/\Q (g i) H
section
variable{X:Cx}{a b:jc}{ta tb:TE}{pos:Pos}
def aDI(ha:PE X a ta)(hb:PE X b tb){s:dg}{σ:St}{H:Hp}{R:V->V->Hp->Prop}[Tk X.need s](I:Inv X pins σ H s)
  (h:ta σ H λx H1=>tb σ H1 λy H2=>R x y H2){Q:bh->dg->Prop}{f:bh->bh->Sem bh}
  (hf:∀v u s2 x y H2,Inv X pins σ H2 s2->RelV x v->RelV y u->R x y H2->dj (gk X.prog X.w) X.A (f v u) Q X.xe s2) :
  dj (gk X.prog X.w) X.A (eval a X.env) (λv s₁=>dj (gk X.prog X.w) X.A (eval b X.env) (λu s₂=>dj (gk X.prog X.w) X.A (f v u) Q X.xe s₂) X.xe s₁) X.xe s:=by
 refine cY (ha pins s σ H _ I h) ?_;rintro v s1 ⟨x,H1,I1,r1,q1⟩;refine cY (hb pins s1 σ H1 _ I1 q1) ?_;rintro u s2 ⟨y,H2,I2,r2,q2⟩;exact hf v u s2 x y H2 I2 r1 r2 q2
def aJK(ho:qH X (wu op) r)(ha:PE X a ta)(hb:PE X b tb):PE X (.BinOp a op b pos) (tOp r ta tb):=by
 intro pins s σ H Q I h _tk;exact wpAny_BinOp (aDI ha hb I h λv u s2 x y H2 I2 rx ry q=>ho pins s2 σ H2 x y v u Q I2 rx ry q)
def aJL(ho:UnR X (unaryOp op) r)(ha:PE X a ta):PE X (.UnaryOp op a pos) (tUn r ta):=by
 intro pins s σ H Q I h _tk;exact UnaryOp_ (cY (ha pins s σ H _ I h) (by rintro v s1 ⟨x,H1,I1,r1,q1⟩;exact ho pins s1 σ H1 x v Q I1 r1 q1))
def opI
  (rule:∀(i j:Int)(t u:Tok)(s:dg)(Q:bh->dg->Prop)(E:bh->dg->Prop),C i j->Q (.int (g i j) s.toks) {s with toks:=s.toks+1}->dj (gk X.prog X.w) X.A (f (.int i t) (.int j u)) Q E s) :
  qH X f (rI C λi j=>.int (g i j)):=by
 intro pins s σ H x y v u Q I rx ry h;obtain⟨i,j,rfl,rfl,hc,q⟩:=h;obtain⟨t,rfl⟩:=rx;obtain⟨t',rfl⟩:=ry;exact rule i j t t' s _ _ hc ⟨.int (g i j),H,I.tok _,⟨_,rfl⟩,q⟩
def aJM
  (rule:∀(i j:Int)(t u:Tok)(s:dg)(Q:bh->dg->Prop)(E:bh->dg->Prop),Q (.int (g i j) s.toks) {s with toks:=s.toks+1}->dj (gk X.prog X.w) X.A (f (.int i t) (.int j u)) Q E s) :
  qH X f (rI0 λi j=>.int (g i j)):=by
 intro pins s σ H x y v u Q I rx ry h;obtain⟨i,j,rfl,rfl,q⟩:=h;obtain⟨t,rfl⟩:=rx;obtain⟨t',rfl⟩:=ry;exact rule i j t t' s _ _ ⟨.int (g i j),H,I.tok _,⟨_,rfl⟩,q⟩
def awT{g:Int->Int->Bool}
  (rule:∀(i j:Int)(t u:Tok)(s:dg)(Q:bh->dg->Prop)(E:bh->dg->Prop),Q (.bool (g i j)) s->dj (gk X.prog X.w) X.A (f (.int i t) (.int j u)) Q E s) :
  qH X f (rI0 λi j=>.bl (g i j)):=by
 intro pins s σ H x y v u Q I rx ry h;obtain⟨i,j,rfl,rfl,q⟩:=h;obtain⟨t,rfl⟩:=rx;obtain⟨t',rfl⟩:=ry;exact rule i j t t' s _ _ ⟨.bl (g i j),H,I,rfl,q⟩
abbrev aDJ(i j:Int):Prop:=0<j/\j<1073741824
abbrev aJN(i j:Int):Prop:=0<=j/\j<=1000000/\i.natAbs<2^64
abbrev aq1(i j:Int):Prop:=(-(2^64)<i/\i<2^64)∨(-(2^64)<j/\j<2^64)
def aq1.ok{i j:Int}(h:aq1 i j):IntMulOk i j:=by
 rcases h with⟨h1,h2⟩|⟨h1,h2⟩
 .exact .of_left (intBits_le_64 h1 h2)
 .exact .of_right (intBits_le_64 h1 h2)
def aDK:qH X (wu .Add) (rI0 λi j=>.int (i+j)):=aJM λ_ _ _ _ _ _ _ q=>add_int q
def aDL:qH X (wu .Sub) (rI0 λi j=>.int (i - j)):=aJM λ_ _ _ _ _ _ _ q=>sub_int q
def aDM:qH X (wu .Mult) (rI aq1 λi j=>.int (i*j)):=opI λ_ _ _ _ _ _ _ hc q=>mul_int q hc.ok
def awU:qH X (wu .FloorDiv) (rI aDJ λi j=>.int (i / j)):=opI λi j _ _ _ _ _ hc q=>by
 have h1:(0:Int)<j:=hc.1;have h2:j<1073741824:=hc.2;exact floordiv_int (by omega) (by rw[Int.fdiv_eq_ediv_of_nonneg i (by omega)];exact q) (.inl (PyProof.noPylong_small (by omega)))
def aDN:qH X (wu .Mod) (rI (λ_ j=>0<j) λi j=>.int (i%j)):=opI λi j _ _ _ _ _ hc q=>by
 have h1:(0:Int)<j:=hc;exact mod_int' (by omega) (by rw[Int.fmod_eq_emod_of_nonneg i (by omega)];exact q)
def aDO:qH X (wu .Pow) (rI aJN λi j=>.int (i^j.toNat)):=opI λ_ _ _ _ _ _ _ hc q=>pow_int_small hc.1 hc.2.1 hc.2.2 q
def unI{g:Int->Int}
  (rule:∀(i:Int)(t:Tok)(s:dg)(Q:bh->dg->Prop)(E:bh->dg->Prop),Q (.int (g i) s.toks) {s with toks:=s.toks+1}->dj (gk X.prog X.w) X.A (f (.int i t)) Q E s) :
  UnR X f (rU λi=>.int (g i)):=by
 intro pins s σ H x v Q I rx h;obtain⟨i,rfl,q⟩:=h;obtain⟨t,rfl⟩:=rx;exact rule i t s _ _ ⟨.int (g i),H,I.tok _,⟨_,rfl⟩,q⟩
def aDP:UnR X (unaryOp .USub) (rU λi=>.int (-i)):=unI λ_ _ _ _ _ q=>neg_int q
end
variable{x:V}
section
variable{X:Cx}{b:jc}{ta tb tc:TE}{pos:Pos}
def abX{Q:VK}{k k':Bool}(I:Inv X pins σ H s)(q:Q (.bl k) H)(e:k=k'):EP X pins σ Q (.bool k') s:=by
 subst e;exact⟨.bl k,H,I,rfl,q⟩
def aJO:qH X (jm .Lt) (rI0 λi j=>.bl (decide (i<j))):=awT λ_ _ _ _ _ _ _ q=>lt_int q
def aJP:qH X (jm .LtE) (rI0 λi j=>.bl (decide (i<=j))):=awT λ_ _ _ _ _ _ _ q=>le_int q
def aJQ:qH X (jm .Gt) (rI0 λi j=>.bl (decide (j<i))):=awT λ_ _ _ _ _ _ _ q=>gt_int q
def aJR:qH X (jm .GtE) (rI0 λi j=>.bl (decide (j<=i))):=awT λ_ _ _ _ _ _ _ q=>ge_int q
def an4:qH X (jm .In) (λx y H Q=>∃i j,x=.str i/\y=.str j/\Q (.bl (!(Builtin.Str.occurrences j i 0 j.length 1).isEmpty)) H):=by
 intro pins s σ H x y v u Q I rx ry h;obtain⟨i,j,rfl,rfl,q⟩:=h;obtain⟨t,rfl⟩:=rx;obtain⟨t',rfl⟩:=ry;exact in_str (abX I q rfl)
def aDQ:qH X (jm .Is) (λx y H Q=>y=.non/\Q (.bl (decide (x=.non))) H):=by
 intro pins s σ H x y v u Q I rx ry h;obtain⟨rfl,q⟩:=h;cases ry;refine is_none_gen (abX I q ?_)
 cases x<;>first
  |(cases rx;rfl)
  |(obtain⟨t,rfl⟩:=rx;rfl)
def awV:qH X (jm .IsNot) (λx y H Q=>y=.non/\Q (.bl (!decide (x=.non))) H):=by
 intro pins s σ H x y v u Q I rx ry h;obtain⟨rfl,q⟩:=h;cases ry;refine isnot_none_gen (abX I q ?_)
 cases x<;>first
  |(cases rx;rfl)
  |(obtain⟨t,rfl⟩:=rx;rfl)
def abY:qH X (jm .NotIn) (λx y H Q=>∃i j,x=.str i/\y=.str j/\Q (.bl (!(!(Builtin.Str.occurrences j i 0 j.length 1).isEmpty))) H):=by
 intro pins s σ H x y v u Q I rx ry h;obtain⟨i,j,rfl,rfl,q⟩:=h;obtain⟨t,rfl⟩:=rx;obtain⟨t',rfl⟩:=ry;exact notIn_str (abX I q rfl)
def qH.or(h:qH X f r)(h':qH X f r'):qH X f (λx y H Q=>r x y H Q∨r' x y H Q):=by
 intro pins s σ H x y v u Q I rx ry q;rcases q with q|q
 .exact h pins s σ H x y v u Q I rx ry q
 .exact h' pins s σ H x y v u Q I rx ry q
def aP5(b:jc)(h:op≠.In:=by decide)(h2:op≠.NotIn:=by decide):a01 op b=ao:=by
 have e1:(op==a0x.In)=ao:=by cases op<;>first|rfl|exact absurd rfl h
 have e2:(op==a0x.NotIn)=ao:=by cases op<;>first|rfl|exact absurd rfl h2
 cases b<;>simp[a01,e1,e2]
def awW(ho:qH X (jm op) r)(ha:PE X a ta)(hb:PE X b tb)(hm:a01 op b=ao):PE X (.Compare a [op] [b] pos) (tOp r ta tb):=by
 intro pins s σ H Q I h _tk;exact wpAny_Compare1 (aDI ha hb I h λv u s2 x y H2 I2 rx ry q=>ho pins s2 σ H2 x y v u Q I2 rx ry q) hm
abbrev aq2(t:TE):TT:=λσ H Q=>t σ H λx H'=>∃k,x=.bl k/\Q k H'
def awX(ho:qH X (jm op) r)(ha:PE X a ta)(hb:PE X b tb)(hm:a01 op b=ao):PT X (.Compare a [op] [b] pos) (aq2 (tOp r ta tb)):=by
 intro pins s σ H Q I h _tk
 refine wpAny_isTrue_Compare1 (cY (ha pins s σ H _ I h) λv s1 ⟨x,H1,I1,r1,q1⟩=>cY (hb pins s1 σ H1 _ I1 q1) λu s2 ⟨y,H2,I2,r2,q2⟩ =>
  cY (ho pins s2 σ H2 x y v u _ I2 r1 r2 q2) λc s3 ⟨z,H3,I3,r3,k,e,q3⟩=>?_) hm
 subst e;cases r3;exact uw ⟨H3,I3,q3⟩
abbrev ai3(r r':R2)(ta tb tc:TE):TE:=λσ H Q=>ta σ H λx H1=>tb σ H1 λy H2=>r x y H2 λz H3=>∃k,z=.bl k /\
 (if k=ak then tc σ H3 λw' H4=>r' y w' H4 Q else Q (.bl ao) H3)
def aq3(ho:qH X (jm op) r)(ho':qH X (jm op') r')(ha:PE X a ta)(hb:PE X b tb)(hc:PE X c tc)
  (hm:lastMarks [op,op'] [b,c]=ao:=by with_unfolding_all rfl):PE X (.Compare a [op,op'] [b,c] pos) (ai3 r r' ta tb tc):=by
 intro pins s σ H Q I h _tk
 refine Compare_chain (cY (ha pins s σ H _ I h) λv s1 ⟨x,H1,I1,r1,q1⟩=>chain_link (cY (hb pins s1 σ H1 _ I1 q1) λu s2 ⟨y,H2,I2,r2,q2⟩ =>
  cY (ho pins s2 σ H2 x y v u _ I2 r1 r2 q2) λd s3 ⟨z,H3,I3,r3,k,e,q3⟩=>?_)) hm
 subst e;cases r3;refine uw ?_;cases k with
 |false=>exact ite_ff ⟨.bl ao,H3,I3,rfl,q3⟩
 |true=>exact ite_tt (chain_last (cY (hc pins s3 σ H3 _ I3 q3) λw' s4 ⟨z',H4,I4,r4,q4⟩=>ho' pins s4 σ H4 y z' u w' Q I4 r2 r4 q4))
def aq4(ho:qH X (jm op) r)(ho':qH X (jm op') r')(ha:PE X a ta)(hb:PE X b tb)(hc:PE X c tc)
  (hm:lastMarks [op,op'] [b,c]=ao:=by with_unfolding_all rfl):PT X (.Compare a [op,op'] [b,c] pos) (aq2 (ai3 r r' ta tb tc)):=by
 intro pins s σ H Q I h _tk
 refine isTrue_chain (cY (ha pins s σ H _ I h) λv s1 ⟨x,H1,I1,r1,q1⟩=>test_link (cY (hb pins s1 σ H1 _ I1 q1) λu s2 ⟨y,H2,I2,r2,q2⟩ =>
  cY (ho pins s2 σ H2 x y v u _ I2 r1 r2 q2) λd s3 ⟨z,H3,I3,r3,k,e,q3⟩=>?_)) hm
 subst e;cases r3;refine uw ?_;cases k with
 |false =>
  obtain⟨k',e',q'⟩:=q3;cases e';exact ite_ff ⟨H3,I3,q'⟩
 |true =>
  refine ite_tt (test_last (cY (hc pins s3 σ H3 _ I3 q3) λw' s4 ⟨z',H4,I4,r4,q4⟩=>cY (ho' pins s4 σ H4 y z' u w' _ I4 r2 r4 q4) ?_));rintro d' s5 ⟨z2,H5,I5,r5,k2,e2,q5⟩;subst e2;cases r5;exact uw ⟨H5,I5,q5⟩
def a6G:(dh:Nat)<2^63:=by rw[sizeLine_eq];decide
def ai4:qH X (wu .Add) (λx y H Q=>∃i j,x=.str i/\y=.str j/\i.length+j.length<=dh/\Q (.str (i++j)) H):=by
 intro pins s σ H x y v u Q I rx ry h;obtain⟨i,j,rfl,rfl,hz,q⟩:=h;obtain⟨t,rfl⟩:=rx;obtain⟨t',rfl⟩:=ry;exact add_str (λt' tk=>⟨.str (i++j),H,I.tok _,⟨_,rfl⟩,q⟩) hz
def vals1(r:Vals [x] us):∃u,us=[u]/\RelV x u:=by
 cases r with
 |cons r1 r2=>cases r2;exact⟨_,rfl,r1⟩
def vals2(r:Vals [x,y] us):∃u w',us=[u,w']/\RelV x u/\RelV y w':=by
 cases r with
 |cons r1 r2 =>
  cases r2 with
  |cons r3 r4=>cases r4;exact⟨_,_,rfl,r1,r3⟩
def aq5:oM X (.builtin "abs") (λxs H Q=>∃i,xs=[.int i]/\Q (.int (if i<0 then -i else i)) H):=by
 intro pins s σ H xs us Q I r h;obtain⟨i,rfl,q⟩:=h;obtain⟨u,rfl,t,rfl⟩:=vals1 r;exact call_abs_int λu tk=>⟨.int (if i<0 then -i else i),H,I.tok _,⟨_,rfl⟩,q⟩
def an5(hc:X.calm=ak):oM X (.builtin "max") (λxs H Q=>∃i j,xs=[.int i,.int j]/\Q (.int (if j>i then j else i)) H):=by
 intro pins s σ H xs us Q I r h;obtain⟨i,j,rfl,q⟩:=h;obtain⟨u,w',rfl,⟨t,rfl⟩,⟨t',rfl⟩⟩:=vals2 r;refine max_two_ints (I.ok.hd hc) λh' tk k=>⟨_,H,I.kept k,?_,q⟩;by_cases hj:j>i
 .rw[if_pos hj,if_pos hj];exact⟨_,rfl⟩
 .rw[if_neg hj,if_neg hj];exact⟨_,rfl⟩
def an6(hc:X.calm=ak):oM X (.builtin "min") (λxs H Q=>∃i j,xs=[.int i,.int j]/\Q (.int (if j<i then j else i)) H):=by
 intro pins s σ H xs us Q I r h;obtain⟨i,j,rfl,q⟩:=h;obtain⟨u,w',rfl,⟨t,rfl⟩,⟨t',rfl⟩⟩:=vals2 r;refine min_two_ints (I.ok.hd hc) λh' tk k=>⟨_,H,I.kept k,?_,q⟩;by_cases hj:j<i
 .rw[if_pos hj,if_pos hj];exact⟨_,rfl⟩
 .rw[if_neg hj,if_neg hj];exact⟨_,rfl⟩
def an7:oM X (.type "int") (λxs H Q=>(∃i,xs=[.int i]/\Q (.int i) H)∨∃k,xs=[.bl k]/\Q (.int (if k then 1 else 0)) H):=by
 intro pins s σ H xs us Q I r h;rcases h with⟨i,rfl,q⟩|⟨k,rfl,q⟩
 .obtain⟨u,rfl,t,rfl⟩:=vals1 r;exact call_int_int ⟨.int i,H,I,⟨_,rfl⟩,q⟩
 .obtain⟨u,rfl,r1⟩:=vals1 r;cases r1;exact call_int_bool ⟨.int (if k then 1 else 0),H,I.tok _,⟨_,rfl⟩,q⟩
end
end
section
section
end
def a5A.some_of(r:a5A (aj v) o):∃u,o=aj u/\RelV v u:=by
 cases o with
 |none=>exact(show False from r).elim
 |some u=>exact⟨u,rfl,r⟩
section
end
structure Cls(K:iu)(C:bx):Prop where
 pg:PySem.W.plainGet K C Str.empty=ak
 hd:PySem.W.hasDictIn K C=ak
 po:PySem.W.plainOver K C=ak
 sa:a1o K (.ref C) "__setattr__"=aj (aj (.builtin "object.__setattr__"))
def Cls.get{K:iu}(c:Cls K C)(f:Str):PySem.W.plainGet K C f=ak:=c.pg
section
end
section
end
section
end
end
variable{mg:Str->Option bh}{base:jf}{outer:List Env}{qual:Str}{scope:ur}
section
structure fQ(qt:Bool)(k:Nat)(A:jr):Prop where
 hd:qt=ao->A.handled=aq
 dp:A.depth+3*k+5<recursionLimit
 un:A.units+16*k+200<ni
def fQ.mono{j k:Nat}(r:fQ qt k A)(h:j<=k):fQ qt j A:=⟨r.hd,by have:=r.dp;omega,by have:=r.un;omega⟩
def fQ.deeper{k:Nat}(r:fQ qt (k+1) A)(env:Env):fQ qt k (A.deeper env) :=
 ⟨r.hd,by have:=r.dp;show A.depth+1+3*k+5<_;omega,by have:=r.un;show A.units+3+16*k+200<_;omega⟩
def fQ.in1{k:Nat}(r:fQ qt (k+1) A):fQ qt k A.in1 :=
 ⟨r.hd,by have:=r.dp;show A.depth+3*k+5<_;omega,by have:=r.un;show A.units+1+16*k+200<_;omega⟩
def fQ.depth{k:Nat}(r:fQ qt k A):A.depth<recursionLimit:=by have:=r.dp;omega
def fQ.units{k:Nat}(r:fQ qt k A):A.units+64<ni:=by have:=r.un;omega
abbrev aJS:TA:=λ_ H Q=>Q [] H
abbrev aBD(ta:TE)(tr:TA):TA:=λσ H Q=>ta σ H λx H1=>tr σ H1 λxs H2=>Q (x::xs) H2
section
variable{X:Cx}{t:TA}{pos:Pos}
def aDR:PA X [] aJS:=λ_ _ _ _ H Q I h=>Calls.spliced_nil ⟨[],H,I,.nil,h⟩
def awY(ha:PE X e te)(hr:PA X es t)(hs:jt (e::es) X.env=(ao,eval e X.env)::jt es X.env:=by rfl):PA X (e::es) (aBD te t):=by
 intro pos pins s σ H Q I h _tk;rw[hs];show dj _ _ (spliced ((ao,eval e X.env)::a0i pos (jt es X.env))) _ _ s;refine Calls.spliced_cons (cY (ha pins s σ H _ I h) ?_);rintro u s1 ⟨x,H1,I1,r1,q1⟩;exact cY (hr pos pins s1 σ H1 _ I1 q1) (by rintro us s2 ⟨xs,H2,I2,r2,q2⟩;exact⟨x::xs,H2,I2,.cons r1 r2,q2⟩)
abbrev aP6(t:TA):TE:=λσ H Q=>t σ H λxs H1=>xs.length<=dh/\∀p,H1 p=aq->Q (.ref p) (upd H1 p (.tup xs))
abbrev aP7(t:TA):TE:=λσ H Q=>t σ H λxs H1=>xs.length<=dh/\∀p,H1 p=aq->Q (.ref p) (upd H1 p (.lst xs))
def aDS{x1}(h:PA X es t):PE X (.Tuple es x1 pos) (aP6 t):=by
 intro pins s σ H Q I hq _tk;refine wpAny_Tuple_spliced (cY (h pos pins s σ H _ I hq) λus s1 ⟨xs,H1,I1,r,z,q⟩=>⟨by rw[←r.length];exact z,?_⟩);have hf:H1 s1.heap.objs.size=aq:=I1.hok.fresh (cu _);refine⟨.ref s1.heap.objs.size,upd H1 s1.heap.objs.size (.tup xs),I1.laid (t':=s1.toks) (λb u e=>cj _ e) (cu _) ?_,rfl,q _ hf⟩;exact⟨z,us,r,⟨_,ig _ rfl,rfl,_,rfl⟩⟩
def aDT(h:PA X es t):PE X (.List es pos) (aP7 t):=by
 intro pins s σ H Q I hq _tk;refine wpAny_List_spliced (cY (h pos pins s σ H _ I hq) λus s1 ⟨xs,H1,I1,r,z,q⟩=>⟨by rw[←r.length];exact z,?_⟩);have hf:H1 s1.heap.objs.size=aq:=I1.hok.fresh (cu _);refine⟨.ref s1.heap.objs.size,upd H1 s1.heap.objs.size (.lst xs),I1.laid (t':=s1.toks) (λb u e=>cj _ e) (cu _) ?_,rfl,q _ hf⟩;exact⟨z,us,0,r,ig _ rfl⟩
end
@[simp]def Sp:=List V->Hp->VK->XK->Prop
@[simp]def CXT:=List Env->Hp->dg->XK->bh->dg->Prop
structure a5B(P:ju)(w:jq)(K:iu)(mg:Str->Option bh)(base:jf)(A:jr)(outer:List Env)(s:dg)(H:Hp):Prop where
 frames:A.frames=aj outer
 mod:Mod K mg base
 bs:∀b o,base.get? b=aj o->s.heap.get? b=aj o/\H b=aq
 bsz:base.objs.size<=s.heap.objs.size
 v8:s.heap.FunFrames base outer
 frf:∀b∈frs outer,H b=aq
 hok:xM P w H s.heap
 bare:AllBare s.gens
 hnd:Hnd A H
abbrev CE(outer:List Env)(P:ju)(w:jq)(H:Hp)(s:dg)(Q:VK)(u:bh)(s':dg):Prop :=
 ∃v H',s'.os=s.os/\AllBare s'.gens/\Un (frs outer) [] H H' s.heap s'.heap/\xM P w H' s'.heap/\RelV v u/\Q v H'
abbrev CR(CX:CXT)(outer:List Env)(P:ju)(w:jq)(H:Hp)(s:dg)(Q:VK)(E:XK)(r:Result)(s':dg):Prop :=
 match r with
 |.ok (.ret u)=>CE outer P w H s Q u s'
 |.ok _=>False
 |.error e=>CX outer H s E e s'
structure cH(qt:Bool)(P:ju)(w:jq)(K:iu)(mg:Str->Option bh)(base:jf)(CX:CXT)(k:Nat)(f:bx)(fd:jy)(ps:List Str)(sp:Sp):Prop where
 len:∀vs H Q E,sp vs H Q E->vs.length=ps.length
 run:∀(A:jr)(outer:List Env)(s:dg)(H:Hp)(args:Args)(us:List bh)(vs:List V)(Q:VK)(E:XK),fQ qt k A->a5B P w K mg base A outer s H->BindsTo s fd args (ps.zip us)->Vals vs us->sp vs H Q E ->
  zm (gk P w) A (.call (.ref f) args) (CR CX outer P w H s Q E) s
def cH.mono{w:jq}{K:iu}{mg:Str->Option bh}{base:jf}{j k:Nat}(F:cH qt P w K mg base CX j f fd ps sp)(h:j<=k) :
  cH qt P w K mg base CX k f fd ps sp:=⟨F.len,λA outer s H args us vs Q E hr=>F.run A outer s H args us vs Q E (hr.mono h)⟩
def cH.imp{K:iu}{k:Nat}(F:cH qt P w K mg base CX k f fd ps sp)
  (h:∀vs H Q E,sp' vs H Q E->sp vs H Q E):cH qt P w K mg base CX k f fd ps sp' :=
 ⟨λvs H Q E q=>F.len vs H Q E (h _ _ _ _ q),λA outer s H args us vs Q E hr he hb hv hs=>F.run A outer s H args us vs Q E hr he hb hv (h _ _ _ _ hs)⟩
def a5B.in1{K:iu}(e:a5B P w K mg base A outer s H) :
  a5B P w K mg base A.in1 outer s H:=⟨e.frames,e.mod,e.bs,e.bsz,e.v8,e.frf,e.hok,e.bare,e.hnd⟩
section
variable{X:Cx}{pins:List (bx×Obj)}
def Inv.env0(I:Inv X pins σ H s):a5B X.prog X.w X.K X.mg X.base X.A X.stack s H :=
 ⟨I.ok.frames,I.ok.mod,I.bs,uh I.ok.bsz I.sz,I.stack,I.ak9,I.hok,I.bare,I.hnd⟩
end
abbrev Binds(K:iu)(fd:jy)(ps:List Str)(ds:List bh):Prop :=
 ∀(s:dg)(us:List bh),K.In s.heap->(us++ds).length=ps.length->BindsTo s fd ⟨us,[]⟩ (ps.zip (us++ds))
variable{ps:List Str}
def Binds.all{K:iu}(h:∀us:List bh,us.length=ps.length->za fd ⟨us,[]⟩=pure (ps.zip us)):Binds K fd ps []:=λs us _ hl=>by
 rw[ud]at hl ⊢;exact .of_eq (h us hl)
section
end
abbrev PK(X:Cx)(kws:List Keyword)(t:TA):Prop :=
 ∀(pos:Pos)(pins:List (bx×Obj))(s:dg)(σ:St)(H:Hp)(Q:List V->Hp->Prop),Inv X pins σ H s->t σ H Q->[Tk X.need s]->dj (gk X.prog X.w) X.A (evalAll ((backToKw pos (keywordEach kws X.env)).map (·.2))) (AP X pins σ Q) X.xe s
section
variable{t:TA}{nm:Option Str}
def aq6:PK X [] aJS:=λ_ _ _ _ H Q I h=>wpAny_evalAll_nil ⟨[],H,I,.nil,h⟩
def akD(ha:PE X e te)(hr:PK X kws t):PK X (⟨nm,e,kpos⟩::kws) (aBD te t):=by
 intro pos pins s σ H Q I h _tk;show dj _ _ (evalAll ((do let v ←eval e X.env;standAt pos;pure v)::(backToKw pos (keywordEach kws X.env)).map (·.2))) _ _ s;refine wpAny_evalAll_cons (au (cY (ha pins s σ H _ I h) λu s1 ⟨x,H1,I1,r1,q1⟩=>au (wpAny_standAt (dw ?_))));exact cY (hr pos pins s1 σ H1 _ I1 q1) (by rintro us s2 ⟨xs,H2,I2,r2,q2⟩;exact⟨x::xs,H2,I2,.cons r1 r2,q2⟩)
end
structure bD(N P:List Str)(sc:ur):Prop where
 kind:sc.kind=.function
 co:sc.isCoroutine=ao
 gen:sc.isGenerator=ao
 nd:N.Nodup
 pre:N.take P.length=P
 par:∀x∈P,sc.names.lookup x=aj .local∨sc.names.lookup x=aj .cell
 aDU:∀y∈sc.names,y.2≠.free
def aaB{kindOf:Str->Option qe}{x:Str}:∀{binds:List (Str×bh)}{m:Str->Option bh},(∀v,(x,v)∉binds)->bindL kindOf binds m x=m x
 |[],_,_=>rfl
 |(n,v)::r,m,h=>by
  unfold bindL;rw[aaB λw hw=>h w (jo _ hw)];split
  ·have:x≠n:=by rintro rfl;exact h v rm
   simp[this]
  .rfl
def aaC{kindOf:Str->Option qe}{x:Str}:∀{binds:List (Str×bh)}{m:Str->Option bh},(∀v,(x,v)∉binds)->bindC kindOf binds m x=m x
 |[],_,_=>rfl
 |(n,v)::r,m,h=>by
  unfold bindC;rw[aaC λw hw=>h w (jo _ hw)];split
  ·rfl
  .have:x≠n:=by rintro rfl;exact h v rm
   simp[this]
def a2N{kindOf:Str->Option qe}{x:Str}{v:bh}:∀{P:List Str}{vs:List bh}{i:Nat}{m:Str->Option bh},P.Nodup->P[i]?=aj x->vs[i]?=aj v->kindOf x=aj .local ->
  bindL kindOf (P.zip vs) m x=aj v
 |[],_,_,_,_,h,_,_=>by simp at h
 |_::_,[],_,_,_,_,h,_=>by simp at h
 |p::P,w::vs,0,m,nd,h1,h2,hk=>by
  simp at h1 h2;subst h1;subst h2;show bindL kindOf ((p,w)::P.zip vs) m p=_;unfold bindL;rw[aaB λv hv=>(vh.mp nd).1 (a2v hv).1,if_pos hk];simp
 |p::P,w::vs,i+1,m,nd,h1,h2,hk=>by
  show bindL kindOf ((p,w)::P.zip vs) m x=_;unfold bindL;exact a2N (i:=i) (vh.mp nd).2 (by simpa using h1) (by simpa using h2) hk
def aaD{kindOf:Str->Option qe}{x:Str}{v:bh}:∀{P:List Str}{vs:List bh}{i:Nat}{m:Str->Option bh},P.Nodup->P[i]?=aj x->vs[i]?=aj v->kindOf x≠aj .local ->
  bindC kindOf (P.zip vs) m x=aj v
 |[],_,_,_,_,h,_,_=>by simp at h
 |_::_,[],_,_,_,_,h,_=>by simp at h
 |p::P,w::vs,0,m,nd,h1,h2,hk=>by
  simp at h1 h2;subst h1;subst h2;show bindC kindOf ((p,w)::P.zip vs) m p=_;unfold bindC;rw[aaC λv hv=>(vh.mp nd).1 (a2v hv).1,if_neg hk];simp
 |p::P,w::vs,i+1,m,nd,h1,h2,hk=>by
  show bindC kindOf ((p,w)::P.zip vs) m x=_;unfold bindC;exact aaD (i:=i) (vh.mp nd).2 (by simpa using h1) (by simpa using h2) hk
abbrev start(N:List Str)(vs:List V):St:=vs.map aj++a0d (N.length - vs.length) aq
abbrev a9F(qt:Bool)(CX:CXT)(P:ju)(w:jq)(K:iu)(mg:Str->Option bh)(base:jf)(N:List Str)(qual:Str)(scope:ur)(f:bx)(cd:bh)(A:jr)(outer:List Env)(s:dg)(H:Hp)(E:XK):Cx where
 prog:=P
 w:=w
 K:=K
 mg:=mg
 base:=base
 A:=A.deeper (envOfC qual scope s.heap.objs.size f cd)
 N:=N
 s₀:=s
 H₀:=H
 env:=envOfC qual scope s.heap.objs.size f cd
 outer:=outer
 stack:=envOfC qual scope s.heap.objs.size f cd::outer
 ex:=[]
 calm:=!qt
 fn:=λ_=>ak
 pn:=[]
 tp:=[]
 xe:=λe s'=>dj (gk P w) (A.deeper (envOfC qual scope s.heap.objs.size f cd)) (leaving (envOfC qual scope s.heap.objs.size f cd) e) (λ_ s''=>CX outer H s E e s'') (λe' s''=>CX outer H s E e' s'') s'
instance aRP{qt:Bool}{CX:CXT}{P:ju}{w:jq}{K:iu}{mg:Str->Option bh}{base:jf}{N:List Str}{qual:Str}{scope:ur}{f:bx}{cd:bh}{A:jr}{outer:List Env}{s s1:dg}{H:Hp}{E:XK}:Tk (a9F qt CX P w K mg base N qual scope f cd A outer s H E).need s1:=⟨λz=>nomatch z⟩
def a6H{sc:ur}(h:sc.names.lookup x=aj .cell):∃c,(zp n sc.names []).lookup x=aj c:=by
 have q:=PySem.W.cellsFrom_some sc.names n [] (.inl h);exact a0D.mp q
def an8{K:iu}{s:dg}{vs:List V}
  (S:bD N ps scope)(hd:qt=ao->A.handled=aq)(e0:a5B P w K mg base A outer s H)(hl:vs.length=ps.length)(r:Vals vs us)
  (x:InCallC s s.heap.objs.size (bindL (envOfC qual scope s.heap.objs.size f cd).kindOf (ps.zip us) λ_=>aq) (zp (s.heap.objs.size+1) scope.names []) (bindC (envOfC qual scope s.heap.objs.size f cd).kindOf (ps.zip us) λ_=>aq) s1) :
  Inv (a9F qt CX P w K mg base N qual scope f cd A outer s H E) [] (start N vs) H s1:=by
 have hpl:ps.length<=N.length:=by have:=congrArg List.length S.pre;rw[qy]at this;omega
 obtain⟨h1,tk,rfl,hk⟩:=x.done;have noA:∀b:bx,b∉(a9F qt CX P w K mg base N qual scope f cd A outer s H E).ex:=λb z=>absurd (show b∈([]:List bx)from z) (by simp)
 refine⟨⟨e0.mod,S.kind,rfl,rfl,cu _,λy z c h1 h2=>?_,λy hy=>?_,λy c _ h=>?_,λz=>hd (by cases qt with|false=>rfl|true=>cases z),jr.frames_deeper e0.frames,.inr ⟨rfl,rfl⟩,λb z=>absurd z (noA b),e0.bs,e0.bsz,λb _ _=>noA b,λb z=>absurd z (noA b),e0.v8,e0.frf⟩,
  rfl,e0.bare,Un.kept hk,⟨_,x.toInCall.ns,λi y v h1 h2 h3=>?_⟩,λy c h=>⟨_,x.cell y c h⟩,e0.hok.fresh (cu _),λy c h=>?_,λp hp=>absurd (show p∈([]:List (bx×Obj))from hp) (by simp),e0.hok.kept hk,?_,e0.hnd,λp hp=>absurd (show p∈([]:List (bx×List V))from hp) (by simp)⟩
 .exact name_of_addr x.apart (PySem.mem_of_lookup h1) (PySem.mem_of_lookup h2)
 .have hy:scope.names.lookup y=aj .cell∨scope.names.lookup y=aj .free:=hy;rcases hy with hy|hy
  .exact a6H hy
  .exact absurd rfl (S.aDU _ (PySem.mem_of_lookup hy))
 .exact vf (x.above y c (PySem.mem_of_lookup h))
 .have hi:i<vs.length:=by
   unfold start at h2;by_cases hi:i<vs.length
   .exact hi
   .rw[ux (by simpa using hi)]at h2;rw[List.getElem?_replicate]at h2;split at h2<;>cases h2
  have ha:vs[i]?=aj v:=by
   unfold start at h2;rw[qj (by simpa using hi),kj]at h2;cases e:vs[i]? with
   |none=>rw[e]at h2;cases h2
   |some a=>rw[e]at h2;cases h2;rfl
  obtain⟨u,hu,rv⟩:=r.get ha
  have hp:ps[i]?=aj y:=by
   rw[←S.pre,zx (by omega)];exact h1
  have ndP:ps.Nodup:=by rw[←S.pre];exact S.nd.sublist (List.take_sublist _ _)
  refine⟨u,rv,?_⟩;rcases S.par y (iz hp)with k|k
  .exact .inl ⟨k,a2N ndP hp hu k⟩
  .obtain⟨c,e⟩:=a6H (n:=s.heap.objs.size+1) k;refine .inr ⟨.inl k,c,e,?_⟩;have q:=x.cell y c e;rw[aaD ndP hp hu (by show scope.names.lookup y≠_;rw[k];decide)]at q;exact q
 .exact e0.hok.fresh (vf (x.above y c (PySem.mem_of_lookup h)))
 .unfold start;show _=N.length;rw[kh,gj,List.length_replicate];omega
private theorem aq7{K:iu}{k:Nat}{name:Str}{params:Arguments}{kV ct:bh}(lk:K.lookup f=aj ⟨oc,od,.func (tu name qual params body scope dV kV doc pm an cdv ct),osl⟩)(hcd:a2i K cdv qual=ak)(S:bD N ps scope)
  (len:∀vs H Q E,sp vs H Q E->vs.length=ps.length)
  (hbody:∀(A:jr)(outer:List Env)(s:dg)(H:Hp)(vs:List V)(Q:VK)(E:XK),fQ qt k (A.deeper (envOfC qual scope s.heap.objs.size f cdv))->sp vs H Q E ->
   ∃t,PSs (a9F qt CX P w K mg base N qual scope f cdv A outer s H E) body t/\t {nx:=λ_ H'=>Q .non H',rt:=Q} (start N vs) H) :
  cH qt P w K mg base CX (k+1) f (tu name qual params body scope dV kV doc pm an cdv ct) ps sp:=by
 refine⟨len,λA outer s H args us vs Q E hr e0 hb r hsp=>?_⟩;have hl:=len _ _ _ _ hsp;have KX:K.In s.heap:=e0.mod.kin.keeps λb o e=>(e0.bs b o e).1;have lim:s.heap.NoLimit:=e0.mod.nolimit.keeps λb o e=>(e0.bs b o e).1
 have hkind:∀y∈ps.zip us,scope.names.lookup y.1=aj .local∨(scope.names.lookup y.1=aj .cell/\((zp (s.heap.objs.size+1) scope.names []).lookup y.1).isSome=ak):=λ⟨n,v⟩ hy=>by
  rcases S.par n (a2v hy).1 with q|q
  .exact .inl q
  .exact .inr ⟨q,PySem.W.cellsFrom_some _ _ _ (.inl q)⟩
 refine codeAny_call_function hr.depth (KX _ _ lk) rfl S.co S.gen rfl (PySem.W.codeRec_of KX hcd) (hb _ _ _ _ ?_);refine wpAny_newFunctionEnv_cells S.kind hkind λenv he s1 x=>?_;subst he;refine⟨lim.keeps x.toInCall.keep,codeAny_func ?_⟩;obtain⟨t,ht,hq⟩:=hbody A outer s H vs Q E (hr.deeper _) hsp;have I:Inv (a9F qt CX P w K mg base N qual scope f cdv A outer s H E) [] (start N vs) H s1:=an8 S hr.hd e0 hl r x;refine oh (@ht [] s1 (start N vs) H _ I hq ⟨λz=>nomatch z⟩) (λfl s' hs=>?_) λe s' hs=>hs
 have fin:∀{σ':St}{H':Hp}{v:V}{u:bh},Inv (a9F qt CX P w K mg base N qual scope f cdv A outer s H E) [] σ' H' s'->RelV v u->Q v H'->CE outer P w H s Q u s' :=
  λ{σ' H' v u} J rv q=>⟨v,H',J.os,J.bare,J.base,J.hok,rv,q⟩
 cases fl with
 |ret u =>
  obtain⟨v,σ',H',J,rv,q⟩:=hs;exact fin J rv q
 |next =>
  obtain⟨σ',H',J,q⟩:=hs;exact fin (v:=V.non) (u:=Value.none) J rfl q
 |brk =>
  obtain⟨_,_,_,q⟩:=hs;exact False.elim q
 |cont =>
  obtain⟨_,_,_,q⟩:=hs;exact False.elim q
end
section
section
end
end
variable{h':jf}
section
section
variable{κ:Type}[DecidableEq κ]
abbrev zN(kvs:List (κ×V))(k:κ):Option V:=(kvs.find? λkv=>decide (kv.1=k)).map (·.2)
abbrev putK(kvs:List (κ×V))(k:κ)(v:V):List (κ×V) :=
 if(kvs.any λkv=>decide (kv.1=k))=ak then kvs.map (λkv=>if kv.1=k then(kv.1,v)else kv)else kvs++[(k,v)]
abbrev akE(kvs:List (κ×V))(k:κ):List (κ×V):=kvs.filter λkv=>decide (kv.1≠k)
def a07{p:κ×V}{k:κ}(e:p.1=k):zN (p::r) k=aj p.2:=by simp[zN,a1j,e]
def a08{p:κ×V}{k:κ}(e:¬ p.1=k):zN (p::r) k=zN r k:=by simp[zN,a1j,e]
def a6I(k:κ):∀kvs:List (κ×V),(kvs.any λkv=>decide (kv.1=k))=(zN kvs k).isSome
 |[]=>rfl
 |p::r=>by
  rw[a1e];by_cases e:p.1=k
  .simp only[a07 e,decide_eq_true e,Bool.true_or,Option.isSome_some]
  .rw[a08 e,decide_eq_false e,Bool.false_or];exact a6I k r
def oN(kvs:List (κ×V))(k:κ)(v:V):(putK kvs k v).length<=kvs.length+1:=by
 unfold putK;split
 ·rw[gj];omega
 .rw[kh,qz,a2w];omega
variable{o:Option V}
def a5A.a2O{u:Option bh}(r:a5A o u):o.isSome=u.isSome:=by
 cases o with
 |none=>cases u with
  |none=>rfl
  |some _=>exact(show False from r).elim
 |some _=>cases u with
  |none=>exact(show False from r).elim
  |some _=>rfl
def a5A.getD{u:Option bh}(r:a5A o u)(rd:RelV d d'):RelV (o.getD d) (u.getD d'):=by
 cases o with
 |none=>cases u with
  |none=>exact rd
  |some _=>exact(show False from r).elim
 |some _=>cases u with
  |none=>exact(show False from r).elim
  |some _=>exact r
def KV.val(r:KV kvs vs)(k:κ):a5A (zN kvs k) (valueAt vs k):=by
 unfold KV at r
 induction r with
 |nil=>exact True.intro
 |@cons p q ps qs h t ih =>
  obtain⟨h1,h2⟩:=h;by_cases e:p.1=k
  .have e':q.1=k:=h1.symm.trans e;have b:valueAt (q::qs) k=aj q.2:=by simp[valueAt,a1j,e']
   rw[a07 e,b];exact h2
  .have e':¬ q.1=k:=λz=>e (h1.trans z);have b:valueAt (q::qs) k=valueAt qs k:=by simp[valueAt,a1j,e']
   rw[a08 e,b];exact ih
def KV.any{kvs:List (κ×V)}{vs:List (κ×bh)}(r:KV kvs vs)(k:κ):(kvs.any λkv=>decide (kv.1=k))=vs.any λkv=>decide (kv.1=k):=by
 unfold KV at r
 induction r with
 |nil=>rfl
 |cons h t ih=>rw[a1e,a1e,ih,h.1]
def KV.repl{kvs:List (κ×V)}{vs:List (κ×bh)}(r:KV kvs vs)(k:κ)(ry:RelV y u) :
  KV (kvs.map λkv=>if kv.1=k then(kv.1,y)else kv) (vs.map λkv=>if kv.1=k then(kv.1,u)else kv):=by
 unfold KV at r ⊢
 induction r with
 |nil=>exact .nil
 |@cons p q ps qs h t ih =>
  rw[nj,nj];refine .cons ?_ ih;obtain⟨h1,h2⟩:=h;by_cases e:p.1=k
  .rw[if_pos e,if_pos (h1.symm.trans e)];exact⟨h1,ry⟩
  .rw[if_neg e,if_neg (λz=>e (h1.trans z))];exact⟨h1,h2⟩
def KV.put(r:KV kvs vs)(k:κ)(ry:RelV y u):KV (putK kvs k y) (stored vs k u):=by
 unfold putK stored;rw[r.any k];by_cases e:(vs.any λkv=>decide (kv.1=k))=ak
 .rw[if_pos e,if_pos e];exact r.repl k ry
 .rw[if_neg e,if_neg e];exact Paired.snoc r ⟨rfl,ry⟩
def KV.drop(r:KV kvs vs)(k:κ):KV (akE kvs k) (without vs k):=by
 unfold KV at r ⊢;unfold akE without
 induction r with
 |nil=>exact .nil
 |@cons p q ps qs h t ih =>
  obtain⟨h1,h2⟩:=h;rw[a1a,a1a];by_cases e:p.1=k
  .have a:¬ decide (p.1≠k)=ak:=by simp[e]
   have b:¬ decide (q.1≠k)=ak:=by simp[h1.symm.trans e]
   rw[if_neg a,if_neg b];exact ih
  .have e':¬ q.1=k:=λz=>e (h1.trans z);have a:decide (p.1≠k)=ak:=by simp[e]
   have b:decide (q.1≠k)=ak:=by simp[e']
   rw[if_pos a,if_pos b];exact .cons ⟨h1,h2⟩ ih
def KV.length{kvs:List (κ×V)}{vs:List (κ×bh)}(r:KV kvs vs):kvs.length=vs.length:=Paired.length r
end
def aaE{k:Key}(r:RelV (kV k) u):(bN P w).is k u=ak:=by
 cases k with
 |inl i=>obtain⟨t,e⟩:=(show ∃t,u=bh.int i t from r);subst e;exact aeD P w i t
 |inr x=>obtain⟨t,e⟩:=(show ∃t,u=bh.str x t from r);subst e;exact aeE P w x t
def a2P{w:jq}:∀{ks:List Key}{us:List bh},Vals (ks.map kV) us->ItemsAre (bN P w) ks us
 |[],_,r=>by rw[a0k]at r;cases r;exact .nil
 |k::ks,_,r=>by
  rw[nj]at r;cases r with
  |cons h t=>exact .cons (aaE h) (a2P t)
@[simp]def KT(H:Hp):List (List Key×V)->List (List Key×bx×bh)->Prop:=Paired λp q=>p.1=q.1/\H q.2.1=aj (.tup (p.1.map kV))/\RelV p.2 q.2.2
def KT.val(r:KT H kvs xs)(k:List Key):a5A (zN kvs k) ((atKey xs k).map (·.2)):=by
 induction r with
 |nil=>exact True.intro
 |@cons p q ps qs h t ih =>
  obtain⟨h1,_,h2⟩:=h;by_cases e:p.1=k
  .have e':q.1=k:=h1.symm.trans e;have b:atKey (q::qs) k=aj q.2:=by simp[atKey,a1j,e']
   rw[a07 e,b];exact h2
  .have e':¬ q.1=k:=λz=>e (h1.trans z);have b:atKey (q::qs) k=atKey qs k:=by simp[atKey,a1j,e']
   rw[a08 e,b];exact ih
def KT.repl{kvs:List (List Key×V)}{xs:List (List Key×bx×bh)}(r:KT H kvs xs)(k:List Key)(ry:RelV y u) :
  KT H (kvs.map λkv=>if kv.1=k then(kv.1,y)else kv) (xs.map (putAt k u)):=by
 induction r with
 |nil=>exact .nil
 |@cons p q ps qs h t ih =>
  rw[nj,nj];refine .cons ?_ ih;obtain⟨h1,h2,h3⟩:=h;unfold putAt;by_cases e:p.1=k
  .rw[if_pos e,if_pos (h1.symm.trans e)];exact⟨h1,h2,ry⟩
  .rw[if_neg e,if_neg (λz=>e (h1.trans z))];exact⟨h1,h2,h3⟩
def KT.put(r:KT H kvs xs)(k:List Key)(hb:H b=aj (.tup (k.map kV)))(ry:RelV y u) :
  KT H (putK kvs k y) (a1u xs k b u):=by
 have e:(kvs.any λkv=>decide (kv.1=k))=(atKey xs k).isSome:=by
  rw[a6I,(r.val k).a2O,Option.isSome_map]
 unfold putK a1u;rw[e];by_cases q:(atKey xs k).isSome=ak
 .rw[if_pos q,if_pos q];exact r.repl k ry
 .rw[if_neg q,if_neg q];exact Paired.snoc r ⟨rfl,hb,ry⟩
def KT.keeps(r:KT H kvs xs)(ht:∀b ys,H b=aj (.tup ys)->H' b=aj (.tup ys)):KT H' kvs xs :=
 Paired.ahY r λ_ _ z=>⟨z.1,ht _ _ z.2.1,z.2.2⟩
section
variable{w:jq}{h:jf}
def aBE(ok:xM P w H h)(e:Rd H a u):dM P w H h a u:=e.ok ok
def yL{kvs:List (Key×V)}(ok:xM P w H h)(e:Rd H a (.dK kvs)):kvs.length<=dh/\(a==vd)=ao/\∃vs,KV kvs vs/\h.DictOf (bN P w) a vs :=
 show dM P w H h a (.dK kvs)from aBE ok e
def aBF{kvs:List (Key×V)}(ok:xM P w H h)(e:H a=aj (.dK kvs)):kvs.length<=dh/\(a==vd)=ao/\∃vs,KV kvs vs/\h.DictOf (bN P w) a vs:=yL ok (.inl e)
def a2Q{ks:List Key}(ok:xM P w H h)(e:H a=aj (.tup (ks.map kV))):(zy (bN P w)).is h ks a:=by
 obtain⟨_,its,r,o,h1,h2,n,h3⟩:=(show dM P w H h a (.tup (ks.map kV))from ok a _ e);exact⟨o,its.toArray,n,h1,h2,h3,by simpa using a2P r⟩
variable{kvs:List (List Key×V)}
def a6J(ok:xM P w H h)(e:Rd H a (.dT kvs)):kvs.length<=dh/\(a==vd)=ao /\
  ∃xs,KT H kvs xs/\h.DictOfH (zy (bN P w)) a xs:=by
 obtain⟨z,y,xs,r,o,es,ep,h1,h2,h3,h4,h5⟩:=(show dM P w H h a (.dT kvs)from aBE ok e);refine⟨z,y,xs,r,o,es,ep,h1,h2,h3,h4,λx hx=>?_,h5⟩
 have all:∀{l:List (List Key×V)}{m:List (List Key×bx×bh)},KT H l m->∀x∈m,(zy (bN P w)).is h x.1 x.2.1:=by
  intro l m q
  induction q with
  |nil=>intro x hx;exact nomatch hx
  |@cons p q ps qs hq t ih =>
   intro x hx;rcases iy.mp hx with e|hx
   .subst e;exact a2Q ok (by rw[←hq.1];exact hq.2.1)
   .exact ih x hx
 exact all r x hx
def aq8(ok:xM P w H h)(e:H a=aj (.dT kvs)):kvs.length<=dh/\(a==vd)=ao /\
  ∃xs,KT H kvs xs/\h.DictOfH (zy (bN P w)) a xs:=a6J ok (.inl e)
end
abbrev a09(H:Hp)(a:bx)(y:V)(r:Option V):Prop :=
 (∃kvs k,Rd H a (.dK kvs)/\y=kV k/\r=zN kvs k)∨∃kvs k b,Rd H a (.dT kvs)/\y=.ref b/\H b=aj (.tup (k.map kV))/\r=zN kvs k
abbrev aeJ(H:Hp)(a:bx)(y v:V)(H':Hp):Prop :=
 (∃kvs k,H a=aj (.dK kvs)/\y=kV k/\kvs.length<dh/\H'=upd H a (.dK (putK kvs k v))) ∨
 ∃kvs k b,H a=aj (.dT kvs)/\y=.ref b/\H b=aj (.tup (k.map kV))/\kvs.length<dh/\H'=upd H a (.dT (putK kvs k v))
def a09.k{k:Key}(e:H a=aj (.dK kvs)):a09 H a (kV k) (zN kvs k):=.inl ⟨kvs,k,.inl e,rfl,rfl⟩
def a09.t{k:List Key}(e:H a=aj (.dT kvs))(eb:H b=aj (.tup (k.map kV))):a09 H a (.ref b) (zN kvs k):=.inr ⟨kvs,k,b,.inl e,rfl,eb,rfl⟩
def aeJ.k{kvs:List (Key×V)}{k:Key}(e:H a=aj (.dK kvs))(hl:kvs.length<dh):aeJ H a (kV k) v (upd H a (.dK (putK kvs k v))):=.inl ⟨kvs,k,e,rfl,hl,rfl⟩
def aeJ.t{kvs:List (List Key×V)}{k:List Key}(e:H a=aj (.dT kvs))(eb:H b=aj (.tup (k.map kV)))(hl:kvs.length<dh) :
  aeJ H a (.ref b) v (upd H a (.dT (putK kvs k v))):=.inr ⟨kvs,k,b,e,rfl,eb,hl,rfl⟩
section
variable{X:Cx}{pins:List (bx×Obj)}{s:dg}{o:Option V}{A:jr}
def Inv.big(I:Inv X pins σ H s):vd<s.heap.objs.size:=by
 have h:ji<s.heap.objs.size:=(I.mod.glob.keeps I.bk).lt;exact Nat.lt_trans (by decide) h
def an9(hu:A.units+1<ni)(I:Inv X pins σ H s)(g:a09 H a y (aj v))(ry:RelV y u)(h:∀w' s',Inv X pins σ H s'->RelV v w'->Q w' s') :
  dj (gk X.prog X.w) A (getItem (.ref a) u) Q E s:=by
 rcases g with⟨kvs,k,e,ey,l⟩|⟨kvs,k,b,e,ey,eb,l⟩
 .subst ey;obtain⟨z,hd,vs,rel,dd⟩:=yL I.hok e;obtain⟨w',hw,rw'⟩:=a5A.some_of (v:=v) (o:=valueAt vs k) (by rw[l];exact rel.val k);exact wpAny_getItem_of (aaE ry) dd.mapOf hw (h w' _ (I.tok _) rw')
 .subst ey;cases(show u=bh.ref b from ry);obtain⟨z,hd,xs,rel,dd⟩:=a6J I.hok e;obtain⟨w',hw,rw'⟩:=a5A.some_of (v:=v) (o:=(atKey xs k).map (·.2)) (by rw[l];exact rel.val k);obtain⟨p,hp,hp2⟩:=xg.mp hw;refine wpAny_getItem_heap (wg hu) (a2Q I.hok eb) dd hp ?_;rw[hp2];exact h w' _ (I.tok _) rw'
def aP8(hu:A.units+1<ni)(I:Inv X pins σ H s)(g:a09 H a y o)(ry:RelV y u)(h:∀s',Inv X pins σ H s'->Q (.bool o.isSome) s') :
  dj (gk X.prog X.w) A (jm .In u (.ref a)) Q E s:=by
 rcases g with⟨kvs,k,e,ey,l⟩|⟨kvs,k,b,e,ey,eb,l⟩
 .subst ey;obtain⟨z,hd,vs,rel,dd⟩:=yL I.hok e;refine wpAny_in_of (aaE ry) hd dd.mapOf ?_;rw[←(rel.val k).a2O,←l];exact h _ (I.tok _)
 .subst ey;cases(show u=bh.ref b from ry);obtain⟨z,hd,xs,rel,dd⟩:=a6J I.hok e;refine wpAny_in_heap (wg hu) (a2Q I.hok eb) hd dd ?_;have q:=(rel.val k).a2O;rw[Option.isSome_map]at q;rw[←q,←l];exact h _ (I.tok _)
def a0A{ob:HO}(I:Inv X pins σ H s)(mu:Mut (H a))(hs:su a s.heap h')(he:∃q,h'.get? a=aj q)(new:dM X.prog X.w (upd H a ob) h' a ob) :
  Inv X pins σ (upd H a ob) {s with heap:=h',toks:=t' } :=
 I.write (x:=a) (e:=a) mu (.inl rfl) (λb q hb z=>(hs.2 b hb).trans z) he new
def aq9{kvs:List (Key×V)}(z:kvs.length<=dh)(hd:(a==vd)=ao)(rel:KV kvs vs)(dd:h'.DictOf (bN P w) a vs) :
  dM P w H' h' a (.dK kvs):=⟨z,hd,vs,rel,dd⟩
def anB(hu:A.units+1<ni)(I:Inv X pins σ H s)(g:aeJ H a y v H')(ry:RelV y u)(rv:RelV v r)(h:∀s',Inv X pins σ H' s'->Q () s') :
  dj (gk X.prog X.w) A (setItem (.ref a) u r) Q E s:=by
 rcases g with⟨kvs,k,e,ey,l,eH⟩|⟨kvs,k,b,e,ey,eb,l,eH⟩
 .subst ey eH;obtain⟨z,hd,vs,rel,dd⟩:=aBF I.hok e;have hz:vs.length<=dh:=by rw[←rel.length];exact z
  have hl:(putK kvs k v).length<=dh:=by have:=oN kvs k v;omega
  refine wpAny_setItem_pairs (hsz:=hz) (aaE ry) dd λh' dd' hs=>h _ ?_;have he:∃q,h'.get? a=aj q:=let⟨q,_,_,hq,_⟩:=dd';⟨q,hq⟩
  exact a0A I (by rw[e];exact True.intro) hs he (aq9 hl hd (rel.put k rv) dd')
 .subst ey eH;cases(show u=bh.ref b from ry);obtain⟨z,hd,xs,rel,dd⟩:=aq8 I.hok e;have hz:xs.length<=dh:=by rw[←Paired.length rel];exact z
  have hl:(putK kvs k v).length<=dh:=by have:=oN kvs k v;omega
  refine wpAny_setItem_heap (hsz:=hz) (wg hu) (a2Q I.hok eb) dd λh' dd' hs=>h _ ?_;obtain⟨q,es,ep,hq,h2,h3,h4,_,h5⟩:=dd';refine a0A I (by rw[e];exact True.intro) hs ⟨q,hq⟩ ⟨hl,hd,_,(rel.put k eb rv).keeps λc ys ec=>?_,q,es,ep,hq,h2,h3,h4,h5⟩;rw[aP (aa6 ec e (λz=>nomatch z))];exact ec
end
section
variable{X:Cx}{pins:List (bx×Obj)}{kvs:List (Key×V)}{A:jr}
def aJT(I:Inv X pins σ H s)(e:Rd H a (.dK kvs))(h:∀t s',Inv X pins σ H s'->Q (.int kvs.length t) s'):dj (gk X.prog X.w) A (call (.builtin "len") [.ref a]) Q E s:=by
 obtain⟨z,hd,vs,rel,dd⟩:=yL I.hok e;refine call_len_dict hd dd (by rw[←rel.length];rw[sizeLine_eq]at z;omega) ?_;rw[←rel.length];exact h _ _ (I.tok _)
end
abbrev aJU(i:jc):Prop:=∀ov iv,subscripted i ao ov iv=operate [ov,iv] (getItem ov iv)
def awZ{prog:ju}{env:Env}{T id:String} 
  (hl:typeLookup (.type T) "__getitem__"=pure (aj (.builtin id)))(hs:aJU slice)
  (h:dj (gk prog w) A (eval value env) (λo s₁=>dj (gk prog w) A (eval slice env) (λi s₂=>s₂.TypeIs o T/\dj (gk prog w) A (getItem o i) Q E s₂) E s₁) E s) :
  dj (gk prog w) A (eval (.Subscript value slice pos) env) Q E s:=by
 refine Subscript_ (oh h (λo s₁ h₁=>oh h₁ (λi s₂ h₂=>?_) λ_ _ x=>x) λ_ _ x=>x);obtain⟨hT,h₂⟩:=h₂;unfold subscriptTail;refine au ?_;rw[getitemInPython_of_ne hT.not_modules];refine au (wpAny_specialOf hT hl ?_)
 have fin:dj (gk prog w) A (subscripted slice ao o i) (λr s₃=>dj (gk prog w) A (letTemporaryGo value o r >>= λ_=>pure r) Q E s₃) E s₂:=by
  rw[hs o i];exact wpAny_operating (oh h₂ (λr s₃ h₃=>au (wpAny_letTemporaryGo (dw h₃))) λ_ _ x=>x)
 first
  |exact dw (au fin)
  |exact au (dw (au fin))
  |exact au fin
def aeK{s:dg}(I:Inv X pins σ H s)(g:a09 H a y o):s.TypeIs (.ref a) "dict":=by
 rcases g with⟨kvs,k,e,_,_⟩|⟨kvs,k,b,e,_,_,_⟩
 .obtain⟨_,_,vs,_,dd⟩:=yL I.hok e;exact dd.typeIs
 .obtain⟨_,_,xs,_,dd⟩:=a6J I.hok e;exact dd.typeIs
abbrev aJV(td ty tv:TE):TS:=λD σ H=>tv σ H λv H1=>td σ H1 λx H2=>ty σ H2 λy H3=>∃a H4,x=.ref a/\aeJ H3 a y v H4/\D.nx σ H4
section
variable{X:Cx}{pos:Pos}{ty:TE}
def ax0(hu:X.A.units+1<ni)(ho:PE X o td)(hi:PE X i ty)(hv:PE X value tv)(hs:a1i value (aj (.Subscript o i pos')) pos.line X.env=pure ao) :
  PS X (.Assign [.Subscript o i pos'] value pos) (aJV td ty tv):=by
 intro pins s σ H D I h _tk;refine wpAny_Assign_Subscript (cY (hv pins s σ H _ I h) λr s1 ⟨v,H1,I1,rv,q1⟩=>cY (ho pins s1 σ H1 _ I1 q1) λu s2 ⟨x,H2,I2,rx,q2⟩=>cY (hi pins s2 σ H2 _ I2 q2) ?_) hs;rintro iv s3 ⟨y,H3,I3,ry,a,H4,ex,g,q3⟩;subst ex;obtain rfl:u=bh.ref a:=rx;exact anB hu I3 g ry rv λs4 I4=>⟨σ,H4,I4,q3⟩
end
def aeL(h:jf)(hb:vd<h.objs.size):dM P w H (h.push {cls:=.type "dict",data:=.dict #[]}) h.objs.size (.dK []) :=
 ⟨zq _,beq_eq_false_iff_ne.mpr (Ne.symm (jg hb)),[],.nil,Heap.DictOf.new h⟩
def aeM(h:jf)(hb:vd<h.objs.size):dM P w H (h.push {cls:=.type "dict",data:=.dict #[]}) h.objs.size (.dT []) :=
 ⟨zq _,beq_eq_false_iff_ne.mpr (Ne.symm (jg hb)),[],.nil,_,#[],0,ig _ rfl,⟨rfl,rfl,rfl⟩,rfl,rfl,a2j⟩
abbrev aDX:TE:=λ_ H Q=>∀p,H p=aq->Q (.ref p) (upd H p (.dK []))
abbrev aDY:TE:=λ_ H Q=>∀p,H p=aq->Q (.ref p) (upd H p (.dT []))
section
variable{pos:Pos}
def aqA:PE X (.Dict [] [] pos) aDX:=λpins s σ H Q I h =>
 wpAny_Dict_empty ⟨.ref s.heap.objs.size,_,I.laid (a:=s.heap.objs.size) (o:=.dK []) (t':=s.toks) (λ_ _ q=>cj _ q) (cu _) (aeL s.heap I.big),rfl,h _ (I.hok.fresh (cu _))⟩
def aqB:PE X (.Dict [] [] pos) aDY:=λpins s σ H Q I h =>
 wpAny_Dict_empty ⟨.ref s.heap.objs.size,_,I.laid (a:=s.heap.objs.size) (o:=.dT []) (t':=s.toks) (λ_ _ q=>cj _ q) (cu _) (aeM s.heap I.big),rfl,h _ (I.hok.fresh (cu _))⟩
end
structure M2(X:Cx)(o:jc)(m:Str)(apos:Pos)(e f:jc)(cpos:Pos):Prop where
 base:a03 o m X.env (eval o X.env)=eval o X.env
 few:((a0i cpos (jt [e,f] X.env)).all (λx=>!x.1)&&(backToKw cpos (keywordEach [] X.env)).all (λx=>x.1.isSome)
  &&decide (([e,f]:List jc).length+([]:List Keyword).length+(if([]:List Keyword).isEmpty then 0 else 1)<30))=ak
 line:(apos.endLine==cpos.line)=ak
 trees:a0i cpos (jt [e,f] X.env)=[(ao,eval e X.env),(ao,eval f X.env)]
abbrev IsD(H:Hp)(a:bx):Prop:=(∃kvs,Rd H a (.dK kvs))∨∃kvs,Rd H a (.dT kvs)
def aqC{s:dg}(I:Inv X pins σ H s)(d:IsD H a) :
  s.TypeIs (.ref a) "dict"/\(∀b,bh.ref a=.ref b->∃ob,s.heap.get? b=aj ob/\ob.dict=aq)/\(a==vd)=ao:=by
 rcases d with⟨kvs,e⟩|⟨kvs,e⟩
 .obtain⟨_,hd,vs,_,dd⟩:=yL I.hok e;refine⟨dd.typeIs,λb q=>?_,hd⟩;cases q;obtain⟨ob,_,_,h1,h2,_⟩:=dd;exact⟨ob,h1,h2.2.1⟩
 .obtain⟨_,hd,xs,_,dd⟩:=a6J I.hok e;refine⟨dd.typeIs,λb q=>?_,hd⟩;cases q;obtain⟨ob,_,_,h1,h2,_⟩:=dd;exact⟨ob,h1,h2.2.1⟩
section
variable{X:Cx}{pins:List (bx×Obj)}{o:Option V}{A:jr}
def aDZ(hu:A.units+1<ni)(I:Inv X pins σ H s)(g:a09 H a y o)(ry:RelV y u)(rd:RelV d r)(h:∀w' s',Inv X pins σ H s'->RelV (o.getD d) w'->Q w' s') :
  dj (gk X.prog X.w) A (call (.builtin "dict.get") [.ref a,u,r]) Q E s:=by
 rcases g with⟨kvs,k,e,ey,l⟩|⟨kvs,k,b,e,ey,eb,l⟩
 .subst ey;obtain⟨z,hd,vs,rel,dd⟩:=yL I.hok e;refine call_meetsIn PySem.F.slot_dict_get dd.typeIs PySem.F.entry_dict_get (PySem.F.args_dict_get_3 _ _ _) (meets_dict_get_default (bN X.prog X.w) a (aaE ry) hd r) ⟨_,dd.mapOf,h _ _ (I.tok _) ?_⟩;rw[l];exact(rel.val k).getD rd
 .subst ey;cases(show u=bh.ref b from ry);obtain⟨z,hd,xs,rel,dd⟩:=a6J I.hok e;refine call_meetsIn PySem.F.slot_dict_get dd.typeIs PySem.F.entry_dict_get (PySem.F.args_dict_get_3 _ _ _) (meetsH_dict_get_default (zy (bN X.prog X.w)) a b hd r) ⟨wg hu,k,xs,a2Q I.hok eb,dd,h _ _ (I.tok _) ?_⟩;rw[l];exact(rel.val k).getD rd
end
abbrev aE0(td ty tx:TE):TE:=λσ H Q=>td σ H λx H1=>∃a,x=.ref a/\IsD H1 a/\ty σ H1 λy H2=>tx σ H2 λz H3=>∃o,a09 H3 a y o/\Q (o.getD z) H3
section
variable{X:Cx}{ty:TE}
def aqD(hu:X.A.units+1<ni)(ho:PE X o td)(he:PE X e ty)(hf:PE X f tx)(m:M2 X o "get" apos e f cpos):PE X (.Call (.Attribute o "get" apos) [e,f] [] cpos) (aE0 td ty tx):=by
 intro pins s σ H Q I h _tk;refine wpAny_Call_method m.base m.few m.line PySem.F.plainAttrs_dict PySem.F.slot_dict_get PySem.F.type_dict_get (cY (ho pins s σ H _ I h) ?_);rintro u s1 ⟨x,H1,I1,rx,a,ex,d,q1⟩;subst ex;obtain rfl:u=bh.ref a:=rx;obtain⟨t1,t2,_⟩:=aqC I1 d;refine⟨t1,t2,?_⟩;rw[m.trees]
 refine Calls.callWith_builtin rfl (Calls.evalArgs_plain (Calls.spliced_cons (cY (he pins s1 σ H1 _ I1 q1) λiv s2 ⟨y,H2,I2,ry,q2⟩ =>
  Calls.spliced_cons (cY (hf pins s2 σ H2 _ I2 q2) λfv s3 ⟨z,H3,I3,rz,ov,g,q3⟩=>Calls.spliced_nil ?_))))
 exact aDZ hu I3 g ry rz λw' s4 I4 rw'=>⟨_,H3,I4,rw',q3⟩
end
section
end
section
end
end
end L2
namespace HT
open PySem PyProof.Rows
abbrev lexLt:List Int->List Int->Bool
 |[],[]=>ao
 |[],_::_=>ak
 |_::_,[]=>ao
 |x::xs,y::ys=>if x=y then lexLt xs ys else decide (x<y)
def sO(x y:Int)(xs ys:List Int):lexLt (x::xs) (y::ys)=if x=y then lexLt xs ys else decide (x<y):=rfl
def yM:lexLt [] []=ao:=rfl
def a6K(y:Int)(ys:List Int):lexLt [] (y::ys)=ak:=rfl
def a6L(x:Int)(xs:List Int):lexLt (x::xs) []=ao:=rfl
def aqE(A:jr)(s:dg)(a:Int)(t:Tok)(c:Int)(u:Tok):∃e,SeqAt.EqAt A s (.int a t) (.int c u) e/\(e=ak↔a=c) :=
 ⟨(a==c),SeqAt.EqAt.int_int a t c u,by simp⟩
def a6M(A:jr)(s:dg)(a:Int)(t:Tok)(c:Int)(u:Tok)(prog:ju)(w:jq)(E:bh->dg->Prop)(Q:bh->dg->Prop)(h:Q (.bool (decide (a<c))) s) :
  dj (gk prog w) A (a1v .Lt (.int a t) (.int c u)) Q E s :=
 (PyProof.Rows.lt_int h:dj (gk prog w) A (jm .Lt (.int a t) (.int c u)) Q E s)
section
open PySem.SeqAt
open PySem.AutoSeq1 (wpAny_loadPart')
open PySem.MeetsSeq PySem.MeetsSeq2 PySem.MeetsSeq3
private theorem a9G(l b:bx)(items items2:Array bh)(n n2:Nat)(dd dd2:Option bx)(sl sl2:Array (Option bh))(ns ms:List Int)(hi:a0e items.toList ns)(hj:a0e items2.toList ms) :
  Meets (Builtin.«tuple.__lt__» ⟨[.ref l,.ref b],[]⟩)
   (λ_ R s=>s.heap.get? l=aj {cls:=.type "tuple",dict:=dd,data:=.seq items n,slots:=sl}/\s.heap.get? b=aj {cls:=.type "tuple",dict:=dd2,data:=.seq items2 n2,slots:=sl2} /\
    R (.ok (.ret (.bool (lexLt ns ms)))) s) :=
 .of_wp λprog w A R s h=>by
  obtain⟨hp,g,d,tk,os⟩:=s;obtain⟨hl,hb,h⟩:=h;have f2:=AutoSeq1.sub_tuple_tuple;have z1:items.size=ns.length:=by rw[←hi.length];simp
  have z2:items2.size=ms.length:=by rw[←hj.length];simp
  wp_walk using wpAny_loadPart' hl,wpAny_loadPart' hb,wpAny_forIn_list _ (λrest b s'=>b.1=aq/\s'=⟨hp,g,d,tk,os⟩/\∃(vs ws:List bh)(ns' ms':List Int),rest=vs.zip ws /\
   a0e vs ns'/\a0e ws ms'/\ns'.length+items2.size=ms'.length+items.size/\R (.ok (.ret (.bool (lexLt ns' ms')))) ⟨hp,g,d,tk,os⟩) _
  case turn =>
   rintro⟨y,x⟩ rest b s' ⟨hb',rfl,vs,ws,ns',ms',hz,hvi,hwi,hlen,hR⟩;cases hvi with
   |nil=>rw[List.zip_nil_left]at hz;cases hz
   |cons a t aPA =>
    cases hwi with
    |nil=>rw[List.zip_nil_right]at hz;cases hz
    |cons c u aPB =>
     rw[List.zip_cons_cons]at hz;injection hz with hyx hrest;injection hyx with hy hx;subst hy hx;rw[sO]at hR;simp only[qz]at hlen;obtain⟨e,he,hiff⟩:=aqE A.in1 ⟨hp,g,d,tk,os⟩ a t c u;refine au (he prog w _ _ ?_);cases e with
     |true =>
      rw[if_pos (hiff.mp rfl)]at hR
      wp_walk
      exact⟨rfl,rfl,_,_,_,_,hrest,aPA,aPB,by omega,hR⟩
     |false =>
      rw[if_neg (λq=>absurd (hiff.mpr q) pq)]at hR;have hri:=a6M A.in1 ⟨hp,g,d,tk,os⟩ a t c u prog w
      wp_walk using hri
      exact⟨_,rfl,by simpa using hR⟩
  case fin =>
   rintro⟨b1,b2⟩ s' ⟨hb',rfl,vs,ws,ns',ms',hz,hvi,hwi,hlen,hR⟩;simp only at hb';subst hb'
   have hv:lexLt ns' ms'=decide (items.size<items2.size):=by
    cases hvi with
    |nil =>
     cases hwi with
     |nil =>
      simp only[a2w]at hlen;rw[yM];exact(decide_eq_false (by omega)).symm
     |cons c u hw =>
      simp only[a2w,qz]at hlen;rw[a6K];exact(decide_eq_true (by omega)).symm
    |cons a t hv =>
     cases hwi with
     |nil =>
      simp only[a2w,qz]at hlen;rw[a6L];exact(decide_eq_false (by omega)).symm
     |cons c u hw =>
      rw[List.zip_cons_cons]at hz;cases hz
   rw[hv]at hR
   wp_walk
   exact⟨_,rfl,by simpa[Builtin.Tuple.tupleCompareSizes]using hR⟩
  case h =>
   exact⟨rfl,rfl,items.toList,items2.toList,ns,ms,rfl,hi,hj,by omega,h⟩
end
variable{sl:bx}
section
variable{prog:ju}{w:jq}{A:jr}{E:bh->dg->Prop}{s:dg}
def ai5{l b:bx}{items items2:Array bh}{ns:List Int}(hl:IsTup s.heap l items)(hb:IsTup s.heap b items2)(hi:a0e items.toList ns)(hj:a0e items2.toList ms)
  (hu:A.units<ni)(h:Q (.bool (lexLt ns ms)) s):dj (gk prog w) A (jm .Lt (.ref l) (.ref b)) Q E s:=by
 obtain⟨⟨cls,dd,data,sl⟩,ho,hc,n,hd⟩:=id hl;obtain⟨⟨cls2,dd2,data2,sl2⟩,ho2,hc2,n2,hd2⟩:=id hb;simp only at hc hd hc2 hd2;subst hc hd hc2 hd2
 exact richCompare_meets_room (op:=.Lt) ⟨_,ho,rfl⟩ ⟨_,ho2,rfl⟩ PySem.F.slot_tuple_lt PySem.F.entry_tuple_lt (PySem.F.args_tuple_lt_2 _ _) (a9G l b items items2 n n2 dd dd2 sl sl2 ns ms hi hj)
  ⟨ho,ho2,show bh.bool (lexLt ns ms)≠bh.notImplemented/\Q (.bool (lexLt ns ms)) s from⟨(λx=>nomatch x),h⟩⟩ hu
def ax1{t b:bx}{vs ws:List bh}(ht:IsTup s.heap t vs.toArray)(hb:IsTup s.heap b ws.toArray)(hv:vs≠[])
  (h1:ws=[]->Q (.ref t) s)(h2:ws≠[]->Q (.ref s.heap.objs.size) {s with heap:=s.heap.push {cls:=.type "tuple",data:=.seq (vs++ws).toArray}})
  (hsz:vs.length+ws.length<=dh):dj (gk prog w) A (wu .Add (.ref t) (.ref b)) Q E s:=by
 obtain⟨⟨cls,dd,data,sl⟩,ho,hc,n,hd⟩:=id ht;obtain⟨⟨cls2,dd2,data2,sl2⟩,ho2,hc2,n2,hd2⟩:=id hb;simp only at hc hd hc2 hd2;subst hc hd hc2 hd2;have e:vs.toArray++ws.toArray=(vs++ws).toArray:=by simp
 by_cases hw:ws=[]
 .exact concat_meets ⟨_,ho,rfl⟩ ⟨_,ho2,rfl⟩ noFill_tuple_add seq_tuple_add PySem.F.slot_tuple_add PySem.F.entry_tuple_add (PySem.F.args_tuple_add_2 _ _)
   (tuple_addW1 t b vs.toArray ws.toArray n n2 dd dd2 sl sl2 (by simpa using hv) (by simp[hw])) ⟨ho,ho2,h1 hw⟩
 .refine concat_meets ⟨_,ho,rfl⟩ ⟨_,ho2,rfl⟩ noFill_tuple_add seq_tuple_add PySem.F.slot_tuple_add PySem.F.entry_tuple_add (PySem.F.args_tuple_add_2 _ _)
   (tuple_addW2 t b vs.toArray ws.toArray n n2 dd dd2 sl sl2 (by simpa using hv) (by simpa using hw) (by rw[gq,gq];exact hsz)) ⟨ho,ho2,?_⟩
  rw[e];exact h2 hw
abbrev jV(n d:Nat):Option Int->Nat
 |none=>d
 |some v=>if v<0 then(v+(n:Int)).toNat else min v.toNat n
def aqF(n d:Nat):jV n d aq=d:=rfl
def ax2(n d k:Nat):jV n d (aj (k:Int))=min k n:=by
 show(if(k:Int)<0 then((k:Int)+(n:Int)).toNat else min (k:Int).toNat n)=min k n;rw[if_neg (by omega),xr]
def aE1(n d:Nat)(hd:d<=n)(o:Option Int):jV n d o<=n:=by
 cases o with
 |none=>exact hd
 |some v =>
  show(if v<0 then(v+(n:Int)).toNat else min v.toNat n)<=n;by_cases hv:v<0
  .rw[if_pos hv];omega
  .rw[if_neg hv];exact Nat.min_le_right _ _
def akF(v:Int)(n d:Nat):(if v<0 then max (v+(n:Int)) 0 else min v (n:Int))=((jV n d (aj v):Nat):Int):=by
 show(if v<0 then max (v+(n:Int)) 0 else min v (n:Int))=(((if v<0 then(v+(n:Int)).toNat else min v.toNat n):Nat):Int);by_cases hv:v<0
 .simp only[if_pos hv];omega
 .simp only[if_neg hv];omega
def ai6(lo hi:Option Int)(n:Nat):Builtin.Slice.sliceAdjust lo hi 1 (n:Int)=(((jV n 0 lo:Nat):Int),((jV n n hi:Nat):Int)):=by
 have h1:¬ ((1:Int)<0):=by omega
 unfold Builtin.Slice.sliceAdjust;simp only[h1,if_false];refine Prod.ext ?_ ?_
 .cases lo with
  |none=>rfl
  |some v=>exact akF v n 0
 .cases hi with
  |none=>rfl
  |some v=>exact akF v n n
def ai7(i j:Nat):Builtin.Slice.slicePlaces (i:Int) (j:Int) 1=j - i:=by
 unfold Builtin.Slice.slicePlaces;have h1:(1:Int)>0:=by omega
 simp only[h1,if_true,Int.ediv_one];split<;>omega
def a6N(p:IsPart v o)(h:Q o s):dj (gk prog w) A (Builtin.Slice.slicePartIndex v) Q E s:=by
 cases p with
 |none=>exact slicePart_none h
 |int i t=>exact slicePart_int h
def a2R{vl vu:bh}{lo hi:Option Int}{n:Nat}{Q:Int×Int×Nat->dg->Prop}(hs:s.heap.IsSliceOf sl vl vu .none)(pl:IsPart vl lo)(pu:IsPart vu hi)
  (h:Q (((jV n 0 lo:Nat):Int),1,jV n n hi - jV n 0 lo) s):dj (gk prog w) A (Builtin.Slice.sliceApplied (.ref sl) (pure (n:Int))) Q E s:=by
 obtain⟨os,hos,hcs,hds⟩:=id hs;unfold Builtin.Slice.sliceApplied Builtin.Slice.sliceFields;refine au (au (uf hos hds (x:=vl) rfl (au (uf hos hds (x:=vu) rfl (au (uf hos hds (x:=.none) rfl (dw ?_)))))));refine au (slicePart_none ?_);show dj _ _ (if((1:Int)==0)=ak then _ else _) _ _ s;rw[if_neg (by decide)];refine au (a6N pl (au (a6N pu (au (dw ?_)))));show dj _ _ (match Builtin.Slice.sliceAdjust lo hi 1 (n:Int)with|(lo,hi)=>pure (lo,(1:Int),Builtin.Slice.slicePlaces lo hi 1)) _ _ s;rw[ai6 lo hi n];show dj _ _ (pure (((jV n 0 lo:Nat):Int),(1:Int),Builtin.Slice.slicePlaces ((jV n 0 lo:Nat):Int) ((jV n n hi:Nat):Int) 1)) _ _ s;rw[ai7];exact dw h
def aqG(xs:Array bh)(i k:Nat):((je k).filterMap λ(m:Nat)=>xs[((i:Int)+(m:Int)*1).toNat]?).toArray=((xs.toList.drop i).take k).toArray:=by
 have e:(λ(m:Nat)=>xs[((i:Int)+(m:Int)*1).toNat]?)=λm=>xs[i+m]?:=by
  funext m;have:((i:Int)+(m:Int)*1).toNat=i+m:=by omega
  rw[this]
 rw[e];have:=pick_run xs i k;rw[List.filterMap_map]at this;have e2:((λx=>xs[x]?)∘λx=>i+x)=λm=>xs[i+m]?:=rfl;rw[e2]at this;rw[this]
def a0B{t:bx}{items:Array bh}{vl vu:bh}{lo hi:Option Int}{Q:bh->dg->Prop}(ht:IsTup s.heap t items)(hs:s.heap.IsSliceOf sl vl vu .none)(pl:IsPart vl lo)(pu:IsPart vu hi)
  (hw:¬ (jV items.size 0 lo=0/\jV items.size items.size hi=items.size))
  (h:Q (.ref s.heap.objs.size) {s with heap:=s.heap.push {cls:=.type "tuple",data:=.seq ((items.toList.drop (jV items.size 0 lo)).take (jV items.size items.size hi - jV items.size 0 lo)).toArray}})
  (hsz:items.size<=dh):dj (gk prog w) A (getItem (.ref t) (.ref sl)) Q E s:=by
 have akG:sizeOk (.seq ((items.toList.drop (jV items.size 0 lo)).take (jV items.size items.size hi - jV items.size 0 lo)).toArray):=by
  show((items.toList.drop (jV items.size 0 lo)).take (jV items.size items.size hi - jV items.size 0 lo)).toArray.size<=dh;rw[gq,qy,List.length_drop,yq];omega
 have hj:jV items.size items.size hi<=items.size:=aE1 _ _ (cu _) hi;obtain⟨os,hos,hcs,hds⟩:=id hs;have hTs:s.TypeIs (.ref sl) "slice":=⟨os,hos,hcs⟩;unfold getItem
 try with_reducible refine vq ?_
 first|refine au (dw ?_)|skip
 refine au (wpAny_sequenceKey ht.typeIs (by decide) ?_)
 refine au (wj (name:=Str.ofString "__getitem__") ht.typeIs PyProof.Rows.slot_tuple_getitem
  (yx PyProof.Rows.slot_tuple_getitem ht.typeIs entry_tuple_getitem ?_ (args_tuple_getitem _ _)))
 show dj _ _ (Builtin.Tuple.tupleItemsOf (.ref t) >>= _) _ _ s;refine au (tupleItemsOf_ ht ?_);refine au (wpAny_typeOf hTs ?_);rw[if_pos (by decide)];refine au (a2R hs pl pu ?_)
 have hno:¬ ((((jV items.size 0 lo:Nat):Int)==0&&(1:Int)==1&&(jV items.size items.size hi - jV items.size 0 lo)==items.size)=ak):=by
  intro q;rw[bw,bw]at q;have q1:((jV items.size 0 lo:Nat):Int)=0:=eq_of_beq q.1.1;have q2:jV items.size items.size hi - jV items.size 0 lo=items.size:=eq_of_beq q.2;exact hw ⟨by omega,by omega⟩
 show dj _ _ (if(((jV items.size 0 lo:Nat):Int)==0&&(1:Int)==1&&(jV items.size items.size hi - jV items.size 0 lo)==items.size)=ak then _ else _) _ _ s;rw[if_neg hno,aqG]
 first
  |exact au (m:=Builtin.Tuple.tupleExact _) (qg (dw ⟨_,rfl,dw h⟩) akG)
  |exact au (m:=Builtin.Tuple.tupleExact _) (qg (au (dw (dw ⟨_,rfl,dw h⟩))) akG)
  |exact au (au (m:=Builtin.Tuple.tupleExact _) (qg (dw (dw ⟨_,rfl,dw h⟩)) akG))
  |exact au (au (m:=Builtin.Tuple.tupleExact _) (qg (dw ⟨_,rfl,dw h⟩) akG))
end
end HT
namespace L2
open PySem PySem.Spec PyProof.Rows
section
@[simp]def TO:=St->Hp->(Option Int->Hp->Prop)->Prop
abbrev PO(X:Cx)(e:Option jc)(t:TO):Prop :=
 ∀(pins:List (bx×Obj))(s:dg)(σ:St)(H:Hp)(Q:Option Int->Hp->Prop),Inv X pins σ H s->t σ H Q ->
  [Tk X.need s]->dj (gk X.prog X.w) X.A (evalPart e X.env) (λu s'=>∃o H',Inv X pins σ H' s'/\IsPart u o/\Q o H') X.xe s
abbrev ax3:TO:=λ_ H Q=>Q aq H
abbrev aJW(t:TE):TO:=λσ H Q=>t σ H λx H1=>∃i,x=.int i/\Q (aj i) H1
def intsAre_of{ns:List Int}:∀{us:List bh},Vals (ns.map V.int) us->a0e us ns:=by
 induction ns with
 |nil=>intro us r;rw[a0k]at r;cases r;exact .nil
 |cons n ns ih =>
  intro us r;rw[nj]at r;cases r with
  |cons r1 r2 =>
   obtain⟨t,e⟩:=r1;subst e;exact .cons n t (ih r2)
section
variable{X:Cx}{te:TE}{lo hi:Option jc}{tl th:TO}{pos:Pos}
def ax4:PO X aq ax3:=by
 intro pins s σ H Q I h _tk;rw[evalPart_none];exact dw ⟨aq,H,I,.none,h⟩
def ax5(h:PE X e te):PO X (aj e) (aJW te):=by
 intro pins s σ H Q I hw;rw[evalPart_some];refine cY (h pins s σ H _ I hw) ?_;rintro u s1 ⟨x,H1,I1,r1,q1⟩;obtain⟨i,rfl,q⟩:=q1;obtain⟨t,rfl⟩:=r1;exact⟨aj i,H1,I1,.int i t,q⟩
abbrev SlR(X:Cx)(r:V->Option Int->Option Int->Hp->VK->Prop):Prop :=
 ∀(pins:List (bx×Obj))(s:dg)(σ:St)(H:Hp)(x:V)(v vl vu:bh)(lo hi:Option Int)(sl:bx)(Q:VK),Inv X pins σ H s->RelV x v->s.heap.IsSliceOf sl vl vu .none->IsPart vl lo->IsPart vu hi->r x lo hi H Q ->
  ∃T id,typeLookup (.type T) "__getitem__"=pure (aj (.builtin id))/\s.TypeIs v T/\dj (gk X.prog X.w) X.A (getItem v (.ref sl)) (EP X pins σ Q) X.xe s
def SlR.or(h:SlR X r)(h':SlR X r'):SlR X (λx lo hi H Q=>r x lo hi H Q∨r' x lo hi H Q):=by
 intro pins s σ H x v vl vu lo hi sl Q I rx hs pl pu q;rcases q with q|q
 .exact h pins s σ H x v vl vu lo hi sl Q I rx hs pl pu q
 .exact h' pins s σ H x v vl vu lo hi sl Q I rx hs pl pu q
abbrev tSl(r:V->Option Int->Option Int->Hp->VK->Prop)(te:TE)(tl th:TO):TE:=λσ H Q=>te σ H λx H1=>tl σ H1 λl H2=>th σ H2 λu H3=>r x l u H3 Q
def aqH(hr:SlR X r)(he:PE X e te)(hl:PO X lo tl)(hu:PO X hi th):PE X (.Subscript e (.Slice lo hi aq p2) pos) (tSl r te tl th):=by
 intro pins s σ H Q I h _tk;refine Subscript_ (cY (he pins s σ H _ I h) ?_);rintro v s1 ⟨x,H1,I1,r1,q1⟩;refine wpAny_Slice (cY (hl pins s1 σ H1 _ I1 q1) λvl s2 ⟨l,H2,I2,pl,q2⟩=>cY (hu pins s2 σ H2 _ I2 q2) ?_);rintro vu s3 ⟨u,H3,I3,pu,q3⟩;rw[evalPart_none];refine dw ?_;have I4:Inv X pins σ H3 {s3 with heap:=s3.heap.push {cls:=.type "slice",data:=.fields #[vl,vu,.none]}}:=I3.kept (t':=s3.toks) λb ob q=>cj _ q;obtain⟨T,id,hT,ht,hg⟩:=hr pins {s3 with heap:=s3.heap.push {cls:=.type "slice",data:=.fields #[vl,vu,.none]}} σ H3 x v vl vu l u s3.heap.objs.size Q I4 r1 (Heap.IsSliceOf.new ..) pl pu q3;show dj (gk X.prog X.w) X.A (subscriptTail e (.Slice lo hi aq p2) v (.ref s3.heap.objs.size)) (EP X pins σ Q) X.xe {s3 with heap:=s3.heap.push {cls:=.type "slice",data:=.fields #[vl,vu,.none]}};exact tail_any (ops:=[.ref s3.heap.objs.size,v]) ht hT hg (by with_unfolding_all rfl)
abbrev a9H(xs:List V)(lo hi:Option Int):List V:=(xs.drop (HT.jV xs.length 0 lo)).take (HT.jV xs.length xs.length hi - HT.jV xs.length 0 lo)
def a3W(xs:List V)(lo hi:Option Int):(a9H xs lo hi).length<=xs.length:=by
 unfold a9H;rw[qy,List.length_drop];omega
abbrev aPC(K:iu):V->Option Int->Option Int->Hp->VK->Prop:=λx lo hi H Q=>∃a xs,x=.ref a/\oG K H a xs /\
 ¬ (HT.jV xs.length 0 lo=0/\HT.jV xs.length xs.length hi=xs.length)/\∀p,H p=aq->Q (.ref p) (upd H p (.tup (a9H xs lo hi)))
def aE2:SlR X (aPC X.K):=by
 intro pins s σ H x v vl vu lo hi sl Q I rx hs pl pu h;obtain⟨a,xs,rfl,hx,hw,q⟩:=h;cases rx;obtain⟨its,r,ht,hz⟩:=I.tuple hx;have hlen:its.toArray.size=xs.length:=by rw[gq];exact r.length.symm
 refine⟨"tuple",_,PyProof.Rows.slot_tuple_getitem.lookup,ht.typeIs,?_⟩;refine HT.a0B ht hs pl pu (by rw[hlen];exact hw) ?_ (by rw[hlen];exact hz);rw[hlen];refine⟨.ref s.heap.objs.size,_,I.laid (t':=s.toks) (o:=.tup (a9H xs lo hi)) (λb ob q=>cj _ q) (cu _) ?_,rfl,q _ (I.hok.fresh (cu _))⟩;exact⟨uh (a3W xs lo hi) hz,_,(r.drop (HT.jV xs.length 0 lo)).take (HT.jV xs.length xs.length hi - HT.jV xs.length 0 lo),IsTup.new _ _⟩
abbrev aJX(K:iu):R2:=λx y H Q=>∃a b xs ys,x=.ref a/\y=.ref b/\oG K H a xs/\oG K H b ys/\xs≠[]/\xs.length+ys.length<=dh /\
 (ys=[]->Q (.ref a) H)/\(ys≠[]->∀p,H p=aq->Q (.ref p) (upd H p (.tup (xs++ys))))
def Vals.a0C(r:Vals xs us):us=[]↔xs=[]:=by
 cases r with
 |nil=>simp
 |cons _ _=>simp
def ax6:qH X (wu .Add) (aJX X.K):=by
 intro pins s σ H x y v u Q I rx ry h;obtain⟨a,b,xs,ys,rfl,rfl,ha,hb,hx,hz,q1,q2⟩:=h;cases rx;cases ry;obtain⟨its,r1,p1,_⟩:=I.tuple ha;obtain⟨its2,r2,p2,_⟩:=I.tuple hb;refine HT.ax1 p1 p2 (λz=>hx (r1.a0C.mp z)) (λz=>⟨.ref a,H,I,rfl,q1 (r2.a0C.mp z)⟩) (λz=>?_) (by rw[←r1.length,←r2.length];exact hz);refine⟨.ref s.heap.objs.size,_,I.laid (t':=s.toks) (o:=.tup (xs++ys)) (λb ob q=>cj _ q) (cu _) ?_,rfl,q2 (λw=>z (r2.a0C.mpr w)) _ (I.hok.fresh (cu _))⟩;exact⟨by rw[kh];exact hz,_,r1.append r2,IsTup.new _ _⟩
end
end
variable{n:Nat}{i:Int}{pins:List (bx×Obj)}{xs:List V}{x:V}
section
abbrev ixN(n:Nat)(i:Int):Option Nat:=if 0<=i then(if i<n then aj i.toNat else aq)else if -(n:Int)<=i then aj (i+n).toNat else aq
abbrev atI{α:Type}(xs:List α)(i:Int):Option α:=(ixN xs.length i).bind λj=>xs[j]?
def ax7{j:Nat}(h:ixN n i=aj j):seqIndex? i n=aj j/\j<n/\-(n:Int)<=i/\i<n:=by
 unfold ixN at h;by_cases h0:0<=i
 .rw[if_pos h0]at h;by_cases h1:i<n
  .rw[if_pos h1]at h;have e:i.toNat=j:=jd.inj h;exact⟨by rw[seqIndex_of h0 h1,e],by omega,by omega,h1⟩
  .rw[if_neg h1]at h;cases h
 .rw[if_neg h0]at h;by_cases h1:-(n:Int)<=i
  .rw[if_pos h1]at h;have e:(i+n).toNat=j:=jd.inj h;exact⟨by rw[seqIndex_neg (by omega) h1,e],by omega,h1,by omega⟩
  .rw[if_neg h1]at h;cases h
def abZ{α:Type}{xs:List α}{v:α}(h:atI xs i=aj v):∃j,seqIndex? i xs.length=aj j/\xs[j]?=aj v/\j<xs.length/\-(xs.length:Int)<=i/\i<xs.length:=by
 unfold atI at h;cases e:ixN xs.length i with
 |none=>rw[e]at h;cases h
 |some j =>
  rw[e]at h;obtain⟨h1,h2,h3,h4⟩:=ax7 e;exact⟨j,h1,h,h2,h3,h4⟩
abbrev ac0(b:jc):Prop:=∀o i,subscripted b ao o i=operate [o,i] (getItem o i)
abbrev IxR(X:Cx)(r:R2):Prop :=
 ∀(value slice:jc)(pins:List (bx×Obj))(s:dg)(σ:St)(H:Hp)(x y:V)(v u:bh)(Q:VK),Inv X pins σ H s->RelV x v->RelV y u->r x y H Q ->
  subscripted slice ao v u=operate [v,u] (getItem v u)->dj (gk X.prog X.w) X.A (subscriptTail value slice v u) (EP X pins σ Q) X.xe s
abbrev MtR(X:Cx)(id:String)(r:V->List V->Hp->VK->Prop):Prop :=
 ∀(pins:List (bx×Obj))(s:dg)(σ:St)(H:Hp)(x:V)(xs:List V)(v:bh)(us:List bh)(Q:VK),Inv X pins σ H s->RelV x v->Vals xs us->r x xs H Q ->
  dj (gk X.prog X.w) X.A (call (.builtin id) (v::us)) (EP X pins σ Q) X.xe s
section
variable{X:Cx}{a b:jc}{pos:Pos}
def IxR.or(h:IxR X r)(h':IxR X r'):IxR X (λx y H Q=>r x y H Q∨r' x y H Q):=by
 intro value slice pins s σ H x y v u Q I rx ry q hs;rcases q with q|q
 .exact h value slice pins s σ H x y v u Q I rx ry q hs
 .exact h' value slice pins s σ H x y v u Q I rx ry q hs
def MtR.or{id:String}(h:MtR X id r)(h':MtR X id r'):MtR X id (λx xs H Q=>r x xs H Q∨r' x xs H Q):=by
 intro pins s σ H x xs v us Q I rx rs q;rcases q with q|q
 .exact h pins s σ H x xs v us Q I rx rs q
 .exact h' pins s σ H x xs v us Q I rx rs q
def aJZ(hr:IxR X r)(ha:PE X a ta)(hb:PE X b tb)(hs:ac0 b):PE X (.Subscript a b pos) (tOp r ta tb):=by
 intro pins s σ H Q I h _tk;exact Subscript_ (aDI ha hb I h λv u s2 x y H2 I2 rx ry q=>hr a b pins s2 σ H2 x y v u Q I2 rx ry q (hs _ _))
abbrev aK0(K:iu):R2:=λx y H Q=>∃p xs i v,x=.ref p/\y=.int i/\qK K H p xs/\atI xs i=aj v/\Q v H
abbrev aK1(K:iu):R2:=λx y H Q=>∃p xs i v,x=.ref p/\y=.int i/\oG K H p xs/\atI xs i=aj v/\Q v H
abbrev aK2:R2:=λx y H Q=>∃z i c,x=.str z/\y=.int i/\z.length<=dh/\atI z.cps.toList i=aj c/\Q (.str ⟨#[c]⟩) H
def ax9:IxR X (aK0 X.K):=by
 intro value slice pins s σ H x y v u Q I rx ry h hs;obtain⟨p,xs,i,z,rfl,rfl,hq,he,q⟩:=h;cases rx;obtain⟨t,rfl⟩:=ry;obtain⟨its,r,pl,hz⟩:=I.list hq;obtain⟨j,h1,h2,h3,h4,h5⟩:=abZ he;obtain⟨w,ew,rw'⟩:=r.get h2;have hl:=r.length;have hn:=a6G;have fin:EP X pins σ Q w s:=⟨z,H,I,rw',q⟩;by_cases h0:0<=i
 .have hj:i.toNat=j:=by
   rw[seqIndex_of h0 h5]at h1;exact jd.inj h1
  exact item_listR pl.isList h0 (by omega) (by rw[hj];simpa using ew) fin hs
 .have hj:(i+(its.toArray.size:Int)).toNat=j:=by
   rw[seqIndex_neg (by omega) h4]at h1;rw[gq,←hl];exact jd.inj h1
  exact subscriptTail_builtinR (x:=w) pl.isList.typeIs slot_list_getitem.lookup
   (wpAny_getItem_list_neg (Q:=λr s'=>r=w/\EP X pins σ Q r s') pl.isList (by omega) (by rw[gq]<;>omega) (by omega) (by rw[hj];simpa using ew) ⟨rfl,fin⟩) hs
def aE3:IxR X (aK1 X.K):=by
 intro value slice pins s σ H x y v u Q I rx ry h hs;obtain⟨p,xs,i,z,rfl,rfl,hq,he,q⟩:=h;cases rx;obtain⟨t,rfl⟩:=ry;obtain⟨its,r,pl,hz⟩:=I.tuple hq;obtain⟨j,h1,h2,h3,h4,h5⟩:=abZ he;obtain⟨w,ew,rw'⟩:=r.get h2;have hl:=r.length;have hn:=a6G;have fin:EP X pins σ Q w s:=⟨z,H,I,rw',q⟩
 exact subscriptTail_builtinR (x:=w) pl.typeIs slot_tuple_getitem.lookup
  (getItem_tuple (j:=j) (Q:=λr s'=>r=w/\EP X pins σ Q r s') pl (by omega) (by omega) (by rw[gq,←hl];exact h1) (by simpa using ew) ⟨rfl,fin⟩) hs
def aE4:IxR X aK2:=by
 intro value slice pins s σ H x y v u Q I rx ry h hs;obtain⟨z,i,c,rfl,rfl,hz,he,q⟩:=h;obtain⟨t,rfl⟩:=rx;obtain⟨t',rfl⟩:=ry;obtain⟨j,h1,h2,h3,h4,h5⟩:=abZ he;have hl:z.cps.toList.length=z.length:=by simp[Str.length]
 rw[hl]at h1 h4 h5;have hn:=a6G
 exact tail_any (typeIs_str s z t) slot_str_getitem.lookup (getItem_str (c:=c) (by
  have e1:decide (i< -(2^63:Int))=ao:=decide_eq_false (by omega);have e2:decide (i≥2^63)=ao:=decide_eq_false (by omega);rw[e1,e2,Bool.or_false]) (by rw[h1];simpa using h2) ⟨.str ⟨#[c]⟩,H,I.tok _,⟨_,rfl⟩,q⟩) hs
abbrev rIx(K:iu):R2:=λx y H Q=>aK0 K x y H Q∨aK1 K x y H Q∨aK2 x y H Q
def aE5:IxR X (rIx X.K):=ax9.or (aE3.or aE4)
def Inv.lst{s:dg}(I:Inv X pins σ H s)(h:H p=aj (.lst xs)) :
  ∃(its:List bh)(n:Nat),Vals xs its/\s.heap.get? p=aj {cls:=.type "list",data:=.seq its.toArray n}/\xs.length<=dh:=by
 obtain⟨z,its,n,r,e⟩:=I.hok p _ h;exact⟨its,n,r,e,z⟩
def ac1(lo hi:Option Int)(n:Nat):(a1w lo hi aq n).1=((HT.jV n 0 lo:Nat):Int)/\(a1w lo hi aq n).2.1=((HT.jV n n hi:Nat):Int)/\(a1w lo hi aq n).2.2=1:=by
 refine⟨?_,?_,rfl⟩
 .cases lo with
  |none=>simp[a1w,HT.jV]
  |some i =>
   simp only[a1w,HT.jV,Option.getD_none,show(1:Int)>0 by decide,if_true];by_cases h:i<0
   .simp only[h,if_true]<;>omega
   .simp only[h,if_false]<;>omega
 .cases hi with
  |none=>simp[a1w,HT.jV]
  |some i =>
   simp only[a1w,HT.jV,Option.getD_none,show(1:Int)>0 by decide,if_true];by_cases h:i<0
   .simp only[h,if_true]<;>omega
   .simp only[h,if_false]<;>omega
def a9I(its:List bh)(lo hi:Option Int):slicePick its.toArray lo hi aq=((its.drop (HT.jV its.length 0 lo)).take (HT.jV its.length its.length hi - HT.jV its.length 0 lo)).toArray:=by
 obtain⟨h1,h2,h3⟩:=ac1 lo hi its.toArray.size;unfold slicePick;rw[h1,h2,h3];simp only[sliceRange_one,pick_run,gq]<;>rfl
abbrev aPD(K:iu):V->Option Int->Option Int->Hp->VK->Prop:=λx lo hi H Q=>∃a xs,x=.ref a/\qK K H a xs/\∀p,H p=aq->Q (.ref p) (upd H p (.lst (a9H xs lo hi)))
def axA:SlR X (aPD X.K):=by
 intro pins s σ H x v vl vu lo hi sl Q I rx hs pl pu h;obtain⟨a,xs,rfl,hx,q⟩:=h;cases rx;obtain⟨its,r,ht,hz⟩:=I.list hx;have hlen:=r.length;refine⟨"list",_,slot_list_getitem.lookup,ht.isList.typeIs,?_⟩;refine wpAny_getItem_list_slice ht.isList hs pl pu .none (by simp) ?_ (by rw[gq]<;>omega);rw[a9I,←hlen];refine⟨.ref s.heap.objs.size,_,I.laid (t':=s.toks) (o:=.lst (a9H xs lo hi)) (λb ob q=>cj _ q) (cu _) ?_,rfl,q _ (I.hok.fresh (cu _))⟩;exact⟨uh (a3W xs lo hi) hz,_,0,(r.drop (HT.jV xs.length 0 lo)).take (HT.jV xs.length xs.length hi - HT.jV xs.length 0 lo),ig _ rfl⟩
abbrev tZ:V->Bool
 |.non=>ak
 |.bl _=>ak
 |.int _=>ak
 |.str _=>ak
 |_=>ao
abbrev eqV:V->V->Bool
 |.non,.non=>ak
 |.bl a,.bl b=>a==b
 |.bl a,.int b=>(if a then 1 else 0)==b
 |.int a,.bl b=>a==(if b then 1 else 0)
 |.int a,.int b=>a==b
 |.str a,.str b=>a==b
 |_,_=>ao
def a2S{A:jr}(ry:RelV y u)(rx:RelV x v)(fy:tZ y=ak)(fx:tZ x=ak):SeqAt.EqAt A s u v (eqV y x):=by
 cases y with
 |non =>
  cases ry;cases x with
  |non=>cases rx;exact SeqAt.EqAt.same _
  |bl b=>cases rx;exact SeqAt.EqAt.none_bool b
  |int b=>obtain⟨t,rfl⟩:=rx;exact SeqAt.EqAt.none_int b t
  |str b=>obtain⟨t,rfl⟩:=rx;exact SeqAt.EqAt.none_str b t
  |_=>exact absurd (show ao=ak from fx) pq
 |bl a =>
  cases ry;cases x with
  |non=>cases rx;exact SeqAt.EqAt.bool_none a
  |bl b=>cases rx;exact SeqAt.EqAt.bool_bool a b
  |int b=>obtain⟨t,rfl⟩:=rx;exact SeqAt.EqAt.bool_int a b t
  |str b=>obtain⟨t,rfl⟩:=rx;exact SeqAt.EqAt.bool_str a b t
  |_=>exact absurd (show ao=ak from fx) pq
 |int a =>
  obtain⟨t',rfl⟩:=ry;cases x with
  |non=>cases rx;exact SeqAt.EqAt.int_none a t'
  |bl b=>cases rx;exact SeqAt.EqAt.int_bool a t' b
  |int b=>obtain⟨t,rfl⟩:=rx;exact SeqAt.EqAt.int_int a t' b t
  |str b=>obtain⟨t,rfl⟩:=rx;exact SeqAt.EqAt.int_str a t' b t
  |_=>exact absurd (show ao=ak from fx) pq
 |str a =>
  obtain⟨t',rfl⟩:=ry;cases x with
  |non=>cases rx;exact SeqAt.EqAt.str_none a t'
  |bl b=>cases rx;exact SeqAt.EqAt.str_bool a t' b
  |int b=>obtain⟨t,rfl⟩:=rx;exact SeqAt.EqAt.str_int a t' b t
  |str b=>obtain⟨t,rfl⟩:=rx;exact SeqAt.EqAt.str_str a t' b t
  |_=>exact absurd (show ao=ak from fx) pq
 |_=>exact absurd (show ao=ak from fy) pq
abbrev eqU(x:V)(u:bh):Bool:=match u with
 |.none=>eqV .non x
 |.bool b=>eqV (.bl b) x
 |.int i _=>eqV (.int i) x
 |.str z _=>eqV (.str z) x
 |_=>ao
def aqI(r:RelV y u)(f:tZ y=ak):eqU x u=eqV y x:=by
 cases y with
 |non=>cases r;rfl
 |bl b=>cases r;rfl
 |int i=>obtain⟨t,rfl⟩:=r;rfl
 |str z=>obtain⟨t,rfl⟩:=r;rfl
 |_=>exact absurd (show ao=ak from f) pq
def a0E{x:V}:∀{xs:List V}{us:List bh},Vals xs us->xs.all tZ=ak->us.any (eqU x)=xs.any λy=>eqV y x
 |_,_,.nil,_=>rfl
 |y::xs,u::us,.cons r t,f=>by
  rw[a04,bw]at f;rw[a1e,a1e,aqI r f.1,a0E t f.2]
def vA{A:jr}{x:V}(rx:RelV x v)(fx:tZ x=ak):∀{xs:List V}{us:List bh},Vals xs us->xs.all tZ=ak->∀u∈us,SeqAt.EqAt A s u v (eqU x u)
 |_,_,.nil,_=>λu hu=>by cases hu
 |y::xs,u::us,.cons r t,f=>λu' hu=>by
  rw[a04,bw]at f;rcases iy.mp hu with rfl|hu
  .rw[aqI r f.1];exact a2S r rx f.1 fx
  .exact vA rx fx t f.2 u' hu
abbrev inV(x:V)(xs:List V):Bool:=xs.any λy=>eqV y x
abbrev rIn(K:iu)(neg:Bool):R2:=λx y H Q=>∃p xs,y=.ref p/\(qK K H p xs∨oG K H p xs)/\tZ x=ak/\xs.all tZ=ak/\Q (.bl (if neg then !inV x xs else inV x xs)) H
def anC:qH X (jm .In) (rIn X.K ao):=by
 intro pins s σ H x y v u Q I rx ry h;obtain⟨p,xs,rfl,hq,fx,fs,q⟩:=h;cases ry;rcases hq with hq|hq
 .obtain⟨its,r,pl,hz⟩:=I.list hq;refine SeqAt.in_listAt (eqU x) pl.isList (λw hw=>vA rx fx r fs w (by simpa using hw)) ⟨.bl _,H,I,rfl,?_⟩;rw[show its.toArray.any (eqU x)=its.any (eqU x) by simp,a0E r fs];exact q
 .obtain⟨its,r,pl,hz⟩:=I.tuple hq;refine SeqAt.in_tupleAt (eqU x) pl (λw hw=>vA rx fx r fs w (by simpa using hw)) ⟨.bl _,H,I,rfl,?_⟩;rw[show its.toArray.any (eqU x)=its.any (eqU x) by simp,a0E r fs];exact q
def ac2:qH X (jm .NotIn) (rIn X.K ak):=by
 intro pins s σ H x y v u Q I rx ry h;obtain⟨p,xs,rfl,hq,fx,fs,q⟩:=h;cases ry;rcases hq with hq|hq
 .obtain⟨its,r,pl,hz⟩:=I.list hq;refine SeqAt.notIn_listAt (eqU x) pl.isList (λw hw=>vA rx fx r fs w (by simpa using hw)) ⟨.bl _,H,I,rfl,?_⟩;rw[show its.toArray.any (eqU x)=its.any (eqU x) by simp,a0E r fs];exact q
 .obtain⟨its,r,pl,hz⟩:=I.tuple hq;refine SeqAt.notIn_tupleAt (eqU x) pl (λw hw=>vA rx fx r fs w (by simpa using hw)) ⟨.bl _,H,I,rfl,?_⟩;rw[show its.toArray.any (eqU x)=its.any (eqU x) by simp,a0E r fs];exact q
def ac3:oM X (.builtin "len") (λxs H Q=>∃p ys,xs=[.ref p]/\(qK X.K H p ys∨oG X.K H p ys)/\Q (.int ys.length) H):=by
 intro pins s σ H xs us Q I r h;obtain⟨p,ys,rfl,hq,q⟩:=h;obtain⟨u,rfl,rx⟩:=vals1 r;cases rx;have hn:=a6G;rcases hq with hq|hq
 .obtain⟨its,r',pl,hz⟩:=I.list hq;have hlen:=r'.length;exact Calls.call_len_list pl.isList (by simp only[gq]<;>omega) ⟨.int ys.length,H,I.tok _,⟨s.toks+1,by rw[gq,hlen]⟩,q⟩
 .obtain⟨its,r',pl,hz⟩:=I.tuple hq;have hlen:=r'.length;exact len_tuple pl (by simp only[gq]<;>omega) ⟨.int ys.length,H,I.tok _,⟨s.toks+1,by rw[gq,hlen]⟩,q⟩
def ac4:oM X (.builtin "len") (λxs H Q=>∃z,xs=[.str z]/\z.length<=dh/\Q (.int z.length) H):=by
 intro pins s σ H xs us Q I r h;obtain⟨z,rfl,hz,q⟩:=h;obtain⟨u,rfl,t,rfl⟩:=vals1 r;have hn:=a6G;exact len_str (by omega) ⟨.int z.length,H,I.tok _,⟨_,rfl⟩,q⟩
def oM.or(h:oM X f r)(h':oM X f r'):oM X f (λxs H Q=>r xs H Q∨r' xs H Q):=by
 intro pins s σ H xs us Q I rs q;rcases q with q|q
 .exact h pins s σ H xs us Q I rs q
 .exact h' pins s σ H xs us Q I rs q
def ac5:oM X (.type "list") (λxs H Q=>∃p ys,xs=[.ref p]/\(qK X.K H p ys∨oG X.K H p ys)/\∀l,H l=aq->Q (.ref l) (upd H l (.lst ys))):=by
 intro pins s σ H xs us Q I r h;obtain⟨p,ys,rfl,hq,q⟩:=h;obtain⟨u,rfl,rx⟩:=vals1 r;cases rx
 have fin:∀(its:List bh),Vals ys its->ys.length<=dh->∀(h':jf)(c':Nat),(∀b o',s.heap.get? b=aj o'->h'.get? b=aj o') ->
   h'.get? s.heap.objs.size=aj {cls:=.type "list",dict:=none,data:=.seq its.toArray c',slots:=#[]}->EP X pins σ Q (.ref s.heap.objs.size) {s with heap:=h' }:=λits r' hz h' c' kp e =>
  ⟨.ref s.heap.objs.size,_,I.laid (t':=s.toks) kp (cu _) (show dM X.prog X.w _ h' _ (.lst ys)from⟨hz,its,c',r',e⟩),rfl,q _ (I.hok.fresh (cu _))⟩
 rcases hq with hq|hq
 .obtain⟨its,r',pl,hz⟩:=I.list hq;have hlen:=r'.length;obtain⟨o,ho,hc,n,hd⟩:=pl.isList;exact call_list_seq p (.inl rfl) ho hc hd (λh' c' kp e=>fin its r' hz h' c' kp e) (by simp only[gq]<;>omega)
 .obtain⟨its,r',pl,hz⟩:=I.tuple hq;have hlen:=r'.length;obtain⟨o,ho,hc,n,hd⟩:=pl;exact call_list_seq p (.inr rfl) ho hc hd (λh' c' kp e=>fin its r' hz h' c' kp e) (by simp only[gq]<;>omega)
def a9J:oM X (.type "tuple") (λxs H Q=>∃p ys,xs=[.ref p]/\((qK X.K H p ys/\∀l,H l=aq->Q (.ref l) (upd H l (.tup ys)))∨(oG X.K H p ys/\Q (.ref p) H))):=by
 intro pins s σ H xs us Q I r h;obtain⟨p,ys,rfl,h⟩:=h;obtain⟨u,rfl,rx⟩:=vals1 r;cases rx;rcases h with⟨hq,q⟩|⟨hq,q⟩
 .obtain⟨its,r',pl,hz⟩:=I.list hq;have hlen:=r'.length;refine call_tuple_list pl.isList (λh' kp=>?_) (by simp only[gq]<;>omega);have I1:Inv X pins σ H {s with heap:=h' }:=I.kept (t':=s.toks) kp
  have I2:Inv X pins σ (upd H h'.objs.size (.tup ys)) {s with heap:=h'.push {cls:=.type "tuple",data:=.seq its.toArray}} :=
   I1.laid (t':=s.toks) (λb o e=>cj _ e) (cu _) (show dM X.prog X.w _ _ _ (.tup ys)from⟨hz,its,r',IsTup.new _ _⟩)
  exact⟨.ref h'.objs.size,_,I2,rfl,q _ (I1.hok.fresh (cu _))⟩
 .obtain⟨its,r',pl,hz⟩:=I.tuple hq;exact call_tuple_same pl ⟨.ref p,H,I,rfl,q⟩
abbrev tyV(K:iu)(T:String)(x:V)(H:Hp):Prop:=match x with
 |.str _=>T="str"
 |.int _=>T="int"
 |.ref p=>(T="list"/\∃xs,qK K H p xs)∨(T="tuple"/\∃o,K.lookup p=aj o/\o.cls=.type "tuple"/\o.dict=aq) ∨
   (T="dict"/\((∃kvs,H p=aj (.dK kvs))∨∃kvs,H p=aj (.dT kvs)))∨(T="set"/\∃S n,H p=aj (.set S n))
 |_=>False
def aqJ{s:dg}{T:String}(I:Inv X pins σ H s)(r:RelV x v)(ty:tyV X.K T x H) :
  s.TypeIs v T/\∀a,v=.ref a->∃ob,s.heap.get? a=aj ob/\ob.dict=aq:=by
 cases x with
 |str z =>
  obtain⟨t,rfl⟩:=r;cases(show T="str" from ty);exact⟨typeIs_str s z t,λ_ e=>nomatch e⟩
 |int i =>
  obtain⟨t,rfl⟩:=r;cases(show T="int" from ty);exact⟨typeIs_int s i t,λ_ e=>nomatch e⟩
 |ref p =>
  cases r;rcases ty with⟨rfl,xs,hq⟩|⟨rfl,o,hk,hc,hd⟩|⟨rfl,hk⟩|⟨rfl,S,n,hk⟩
  .obtain⟨its,_,pl,_⟩:=I.list hq;refine⟨pl.isList.typeIs,λa e=>?_⟩;cases e;obtain⟨o,n,e,c,hd,_⟩:=pl;exact⟨o,e,hd⟩
  .refine⟨⟨o,I.kIn p o hk,hc⟩,λa e=>?_⟩;cases e;exact⟨o,I.kIn _ o hk,hd⟩
  .have z:∃o,s.heap.get? p=aj o/\o.ExactDict:=by
    rcases hk with⟨kvs,hk⟩|⟨kvs,hk⟩
    .obtain⟨_,_,_,_,o,_,_,e,ex,_⟩:=I.hok p _ hk;exact⟨o,e,ex⟩
    .obtain⟨_,_,_,_,o,_,_,e,ex,_⟩:=I.hok p _ hk;exact⟨o,e,ex⟩
   obtain⟨o,e,ex⟩:=z;refine⟨⟨o,e,ex.1⟩,λa e2=>?_⟩;cases e2;exact⟨o,e,ex.2.1⟩
  .obtain⟨o,_,_,_,e,ex,_⟩:=I.hok p _ hk;refine⟨⟨o,e,ex.1⟩,λa e2=>?_⟩;cases e2;exact⟨o,e,ex.2.1⟩
 |_=>exact False.elim ty
end
end
variable{its:List bh}{t':Nat}
section
abbrev MtM(X:Cx)(id:String)(r:V->List V->Hp->VK->Prop):Prop :=
 ∀(pins:List (bx×Obj))(s:dg)(σ:St)(H:Hp)(x:V)(xs:List V)(v:bh)(us:List bh)(Q:VK),Inv X pins σ H s->RelV x v->Vals xs us->r x xs H Q ->
  dj (gk X.prog X.w) X.A (call (.builtin id) (v::us)) (EP X pins σ Q) X.xe s
def Vals.one(h:Vals [x] us):∃u,us=[u]/\RelV x u:=by
 cases h with
 |cons r h=>cases h;exact⟨_,rfl,r⟩
def Vals.two(h:Vals [x,y] us):∃u v,us=[u,v]/\RelV x u/\RelV y v:=by
 cases h with
 |cons r h =>
 cases h with
 |cons q h=>cases h;exact⟨_,_,rfl,r,q⟩
def Vals.zero:∀{us:List bh},Vals [] us->us=[]
 |_,.nil=>rfl
def Vals.dropLast{us:List bh}(h:Vals xs us):Vals xs.dropLast us.dropLast:=by
 induction h with
 |nil=>exact .nil
 |cons r t ih =>
  cases t with
  |nil=>exact .nil
  |cons q t'=>exact .cons r ih
section
variable{pins:List (bx×Obj)}{s:dg}{l:bx}{xs ys:List V}
def Inv.aK3{its':List bh}(I:Inv X pins σ H s)(hH:H l=aj (.lst xs))
  (e:s.heap.get? l=aj {cls:=.type "list",data:=.seq its.toArray n})(hf:f its.toArray=its'.toArray)(hv:Vals ys its')(hz:ys.length<=dh) :
  Inv X pins σ (upd H l (.lst ys)) {s with heap:=s.heap.update l (Obj.mapSeq f),toks:=t' }:=by
 have q:=PySem.IsL.update e f;rw[hf]at q;refine I.write (x:=l) (e:=l) (by rw[hH];exact trivial) (.inl rfl) (λb' u hb hu=>(qb s.heap (Obj.mapSeq f) (Ne.symm hb)).trans hu) ⟨_,q⟩ ?_;exact⟨hz,its',_,hv,q⟩
def Inv.aK4(I:Inv X pins σ H s)(hv:Vals ys its)(hz:ys.length<=dh) :
  Inv X pins σ (upd H s.heap.objs.size (.lst ys)) {s with heap:=s.heap.push {cls:=.type "list",data:=.seq its.toArray},toks:=t' } :=
 I.laid (λ_ _ q=>cj _ q) (cu _) ⟨hz,its,0,hv,ig _ rfl⟩
def Inv.fresh(I:Inv X pins σ H s):H s.heap.objs.size=aq:=I.hok.fresh (cu _)
def Inv.aqK(I:Inv X pins σ H s)(hH:H l=aj (.lst xs)):xs.length<=dh/\∃(its:List bh)(n:Nat),Vals xs its/\xs.length=its.length/\s.heap.get? l=aj {cls:=.type "list",data:=.seq its.toArray n}:=by
 obtain⟨z,its,n,r,e⟩:=I.hok l _ hH;exact⟨z,its,n,r,r.length,e⟩
def aqL(h:n<=dh):Builtin.List.listTooLong n=ao:=by
 unfold Builtin.List.listTooLong;exact decide_eq_false (by omega)
end
section
abbrev axB:V->List V->Hp->VK->Prop:=λx vs H Q=>∃l xs y,x=.ref l/\vs=[y]/\H l=aj (.lst xs)/\xs.length<dh/\Q .non (upd H l (.lst (xs++[y])))
def aaF:MtM X "list.append" axB:=by
 intro pins s σ H x vs v us Q I rx rv h;obtain⟨l,xs,y,rfl,rfl,hH,hz,q⟩:=h;cases rx;obtain⟨u,rfl,ru⟩:=rv.one;obtain⟨z,its,n,r,hl,e⟩:=I.aqK hH;refine call_meets F.slot_list_append ⟨_,e,rfl⟩ F.entry_list_append (F.args_list_append_2 _ _) (PySem.list_append l its.toArray n u (by rw[gq];omega)) ⟨e,?_⟩;refine⟨.non,_,I.aK3 (its':=its++[u]) hH e (by simp) (r.append (.cons ru .nil)) ?_,rfl,q⟩;rw[kh,a1p];omega
abbrev axC:V->List V->Hp->VK->Prop:=λx vs H Q=>∃l b xs zs,x=.ref l/\vs=[.ref b]/\H l=aj (.lst xs)/\H b=aj (.lst zs)/\xs.length+zs.length<=dh/\Q .non (upd H l (.lst (xs++zs)))
def anD:MtM X "list.extend" axC:=by
 intro pins s σ H x vs v us Q I rx rv h;obtain⟨l,b,xs,zs,rfl,rfl,hH,hB,hz,q⟩:=h;cases rx;obtain⟨u,rfl,ru⟩:=rv.one;cases ru;obtain⟨z,its,n,r,hl,e⟩:=I.aqK hH;obtain⟨z2,its2,n2,r2,hl2,e2⟩:=I.aqK hB;have hsz:its.toArray.size+its2.toArray.size<=dh:=by rw[gq,gq];omega
 have aK5:¬ (!its.toArray.isEmpty&&Builtin.List.listTooLong (its.toArray.size+its2.toArray.size))=ak:=by
  rw[aqL hsz,Bool.and_false];exact pq
 refine call_meets F.slot_list_extend ⟨_,e,rfl⟩ F.entry_list_extend (F.args_list_extend_2 _ _)
  (AutoSeq1.list_extend_list_list_0 l its.toArray n b its2.toArray n2 aK5 (by rw[gq];omega) (by omega)) ⟨e,e2,?_⟩
 refine⟨.non,_,I.aK3 (its':=its++its2) hH e (by simp) (r.append r2) ?_,rfl,q⟩;rw[kh];omega
abbrev aPE:R2:=λx y H Q=>∃l b xs zs,x=.ref l/\y=.ref b/\H l=aj (.lst xs)/\H b=aj (.lst zs)/\xs.length+zs.length<=dh/\∀p,H p=aq->Q (.ref p) (upd H p (.lst (xs++zs)))
def aE6:qH X (wu .Add) aPE:=by
 intro pins s σ H x y v u Q I rx ry h;obtain⟨l,b,xs,zs,rfl,rfl,hH,hB,hz,q⟩:=h;cases rx;cases ry;obtain⟨z,its,n,r,hl,e⟩:=I.aqK hH;obtain⟨z2,its2,n2,r2,hl2,e2⟩:=I.aqK hB;refine PySem.P.add_list e e2 ?_ (by rw[gq,gq];omega);have ea:its.toArray++its2.toArray=(its++its2).toArray:=by simp
 rw[ea];exact⟨.ref _,_,I.aK4 (t':=s.toks) (r.append r2) (by rw[kh];omega),rfl,q _ I.fresh⟩
end
section
end
section
end
end
end L2
namespace Att
open PySem PySem.W PySem.Calls PyProof.Rows
def a5C:∀(ns:List Int)(vs:List bh),WellAll P h vs (ns.map WData.int)->a0e vs ns:=by
 intro ns
 induction ns with
 |nil =>
  intro vs w;rw[a0k]at w;cases w;exact .nil
 |cons n ns ih =>
  intro vs w;rw[nj]at w;cases w with
  |cons a b =>
   cases a;exact .cons _ _ (ih _ b)
variable{l:OpenLaw}{n:Nat}
def anE(hn:l.most=aj n){h:jf} 
  (hpre:l.row.toRowW.claim.pre args=ak)(hwl:WellAll P h vals args) :
  ∃a vs ns,vals=[bh.ref a]/\args=[WData.list (ns.map WData.int)]/\h.get? a=aj {cls:=.type "list",data:=.seq vs.toArray}/\a0e vs ns/\ns.length<=n:=by
 have hsh:WShape.hasAll [] args [.list .int]=ak:=(pre_splitW hpre).1;have hc:l.pre.holds [] {args:=args}=ak:=(pre_splitW hpre).2;obtain⟨d,r,rfl,h1,h2⟩:=hasAllW_cons hsh;obtain rfl:=hasAllW_nil h2;obtain⟨xs,rfl,h3⟩:=hasW_list h1;obtain⟨ns,rfl⟩:=items_int h3
 have hlen:ns.length<=n:=by
  unfold OpenLaw.pre at hc
  have h4:(WTm.not (.lt (.lit (.int (n:Int))) (.len (.arg 0)))).holds [] {args:=[.list (ns.map .int)]}=ak:=by
   have h4:=(holds_andW hc).1;rw[hn]at h4;exact h4
  have h5:=condW_of h4 (w_not (w_lt w_lit (w_len_list (w_arg rfl))));rw[gj]at h5;refine Nat.le_of_not_lt λq=>?_;have q':(n:Int)<((ns.length:Nat):Int):=by omega
  first
   |(rw[decide_eq_true q']at h5;exact absurd h5 (by decide))
   |(simp at h5;omega)
 cases hwl with
 |cons w1 w2 =>
  cases w2;cases w1 with
  |list ho hall=>exact⟨_,_,ns,rfl,rfl,ho,a5C ns _ hall,hlen⟩
def anF(l:OpenLaw)(args:List WData):l.row.toRowW.claim.post args (.bool ak) args=ak :=
 postW_of (r:=l.row.toRowW) (X:=(ak==ak))
  (show WShape.has [] (.bool ak) .bool=ak by first|rfl|decide|simp[WShape.has,WShape.arms,WShape.armsAll])
  (show(WTm.eq .res (.lit (.bool ak))).value [] {args:=args,res:=some (.bool ak),after:=args}=aj (.bool (ak==ak))from w_eq_bool (w_res rfl) w_lit) rfl
def aeN{q:ju}{d:DefRec}
  (hn:l.most=aj n)(hdf:d.params.defaults=[])
  (call:∀(w:jq)(s₀ s₁:dg)(mg mb:Str->Option bh)(fa:bx)(o:Obj)(pm cd doc:bh)(a:bx)(vs:List bh)(ns:List Int),
   Ground q loose [] XP w s₀ mg mb s₁.heap->YP w s₁.heap ->
   s₁.heap.get? fa=aj o->o.data=.func (docDef d.name d.params d.body d.scope pm cd doc)->s₁.heap.CodeRec cd d.name->mg d.name=aj (.ref fa) ->
   s₁.heap.get? a=aj {cls:=.type "list",data:=.seq vs.toArray}->a0e vs ns->ns.length<=n->s₁.gens=#[] ->
   zm (gk l.prog w) callerA (.call (.ref fa) ⟨[.ref a],[]⟩) (λr s'=>r=.ok (.ret (.bool ak))/\OldK s₁.heap s'.heap/\s'.os=s₁.os/\AllBare s'.gens) s₁) :
  WalkO q loose XP YP l.row.toRowW d [] (λf vs=>PySem.call f vs):=by
 intro w s₀ s₁ mg mb G Y fa o pm cd doc dV kV ho hd hcd hD hmg hg args vals as hpre hlay hrd hwl hlo;obtain rfl:dV=.none:=Dflts.none hD hdf;obtain rfl:kV=.none:=Dflts.noKw hD;obtain⟨a,vs,ns,rfl,rfl,hobj,hints,hlen⟩:=anE hn hpre hwl;refine enter_call (codeAny_mono (call w s₀ s₁ mg mb fa o pm cd doc a vs ns G Y ho (fd_plain hd) hcd hmg hobj hints hlen hg) λr s' hq=>?_);obtain⟨rfl,h2,h3,h4⟩:=hq;exact⟨.inl ⟨.bool ak,.bool ak,[],rfl,λ_=>rfl,.bool ak,anF l _,λ_=>⟨List.Pairwise.nil,λ_ hm=>(nomatch hm)⟩⟩,h2,h3,h4⟩
section
abbrev ledger(h:jf)(L d:bx):List (bx×Obj):=(je h.objs.size).filterMap λa=>if a=L∨a=d then aq else(h.get? a).map λo=>(a,o)
end
end Att
namespace L2
open PySem PySem.Spec PyProof.Rows
section
def aaG:∀{vs:List bh}{ns:List Int},a0e vs ns->Vals (ns.map V.int) vs
 |_,_,.nil=>.nil
 |_,_,.cons n t h=>.cons ⟨t,rfl⟩ (aaG h)
end
end L2
namespace L2
open PySem PySem.Spec PyProof.Rows
variable{x qual:Str}{st:lq}{pos:Pos}{l:bx}
section
abbrev dF(s:lq):Arguments:=match s with
 |.FunctionDef _ a _ _ _ _ _ _ _ _=>a
 |_=>{posonlyargs:=[],args:=[],vararg:=none,kwonlyargs:=[],kw_defaults:=[],kwarg:=none,defaults:=[]}
abbrev cD(s:lq):List lq:=match s with
 |.FunctionDef _ _ b _ _ _ _ _ _ _=>b
 |_=>[]
abbrev aZ(s:lq):ur:=match s with
 |.FunctionDef _ _ _ _ _ _ sc _ _ _=>sc
 |_=>{kind:=.function,names:=[],isGenerator:=false,isCoroutine:=false}
@[simp]def CX0:CXT:=λ_ _ _ _ _ _=>False
structure Fun(K:iu)(x qual:Str)(st:lq)(f:bx)(fd:jy):Prop where
 ex:∃(oc:bh)(od:Option bx)(dV kV doc pm:bh)(an:Option bx)(cdv ct:bh)(osl:Array (Option bh)),
  fd=tu x qual (dF st) (cD st) (aZ st) dV kV doc pm an cdv ct/\K.lookup f=aj ⟨oc,od,.func fd,osl⟩/\a2i K cdv qual=ak
 kp:yh K (.ref f)=ak
variable{f:bx}
section
variable{P:ju}{w:jq}{K:iu}{mg:Str->Option bh}{base:jf}
def Fun.ok{fd:jy}{N ps:List Str}{k:Nat}{sp:Sp}(F:Fun K x qual st f fd)(S:bD N ps (aZ st))(len:∀vs H Q E,sp vs H Q E->vs.length=ps.length)
  (hbody:∀(cdv:bh)(A:jr)(outer:List Env)(s:dg)(H:Hp)(vs:List V)(Q:VK)(E:XK),fQ qt k (A.deeper (envOfC qual (aZ st) s.heap.objs.size f cdv))->sp vs H Q E ->
   ∃t,PSs (a9F qt CX0 P w K mg base N qual (aZ st) f cdv A outer s H E).nox (cD st) t/\t {nx:=λ_ H'=>Q .non H',rt:=Q} (start N vs) H):cH qt P w K mg base CX0 (k+1) f fd ps sp:=by
 obtain⟨oc,od,dV,kV,doc,pm,an,cdv,ct,osl,rfl,lk,hcd⟩:=F.ex;refine aq7 lk hcd S len λA outer s H vs Q E hr hsp=>?_;obtain⟨t,h,q⟩:=hbody cdv A outer s H vs Q E hr hsp;exact⟨t,h.nox,q⟩
def aqM{oc:bh}{od an:Option bx}{osl:Array (Option bh)}{dV kV doc pm cdv ct:bh}(l:K.lookup f=aj ⟨oc,od,.func (tu x qual (dF st) (cD st) (aZ st) dV kV doc pm an cdv ct),osl⟩)
  (c:a2i K cdv qual=ak)(k:yh K (.ref f)=ak):Fun K x qual st f (tu x qual (dF st) (cD st) (aZ st) dV kV doc pm an cdv ct):=⟨⟨oc,od,dV,kV,doc,pm,an,cdv,ct,osl,rfl,l,c⟩,k⟩
end
section
variable{X:Cx}
def pv(i:Nat)(hN:X.N[i]?=aj x:=by rfl)(hv:Vis X.env.scope x:=by first|exact Or.inl rfl|exact Or.inr (Or.inl rfl)|exact Or.inr (Or.inr rfl))(hd:(x==("__debug__":Str))=ao:=by decide)
  (hcd:(x==("__classdict__":Str))=ao:=by decide):PE X (.Name x pos) (aD2 i):=apR hN hv hd hcd
end
def ai9{A B:Prop}[Decidable c](h1:c->A)(h2:¬ c->B):if c then A else B:=by
 by_cases h:c
 .rw[if_pos h];exact h1 h
 .rw[if_neg h];exact h2 h
abbrev Same(H H':Hp):Prop:=∀b o,H b=aj o->H' b=aj o
def Same.refl(H:Hp):Same H H:=λ_ _ h=>h
def Same.trans(a:Same H H1)(b:Same H1 H2):Same H H2:=λc o h=>b c o (a c o h)
def Same.free(e:Same H H')(h:H' l=a1l):H l=a1l:=by
 cases q:H l with
 |none=>rfl
 |some o =>
  rw[e l o q]at h;cases h
def Same.seq{K:iu}(e:Same H H')(h:qK K H a xs):qK K H' a xs:=by
 rcases h with(h|⟨o,h⟩)|h
 .exact .inl (.inl (e _ _ h))
 .exact .inl (.inr ⟨o,e _ _ h⟩)
 .exact .inr h
section
end
section
variable[DecidableEq κ]
end
end
variable{A:jr}{i:Nat}{prog:ju}{w:jq}
section
section
open AutoSeq1 (wpAny_loadPart')
private theorem a6O(l:bx)(items:Array bh)(n:Nat)(dct:Option bx)(sl:Array (Option bh)) :
  Meets (Builtin.«enumerate.__new__» ⟨[.type "enumerate",.ref l],[]⟩) (λ_ R s=>s.heap.get? l=aj {cls:=.type "tuple",dict:=dct,data:=.seq items n,slots:=sl} /\
   R (.ok (.ret (.ref (s.heap.push {cls:=.type "tuple_iterator",data:=.fields #[.ref l,.int 0 0]}).objs.size)))
    {s with heap:=(s.heap.push {cls:=.type "tuple_iterator",data:=.fields #[.ref l,.int 0 0]}).push {cls:=.type "enumerate",data:=.fields #[.none,.bool ao,.ref s.heap.objs.size,a0j 0,.none,.none]}}) :=
 .of_wp λprog w A R s h=>by
  obtain⟨hp,g,d,tk,os⟩:=s;obtain⟨hl,h⟩:=h;have hsub:=sub_enumerate;have hL:Heap.IsTuple (dg.heap ⟨hp,g,d,tk,os⟩) l items:=⟨_,hl,rfl,n,rfl⟩
  wp_walk using wpAny_loadPart' hl
  refine wpAny_stack_any λst=>dw ?_;split
  ·rename_i c _ _ _ _ _;cases(c==bh.type "enumerate")
   .wp_walk using wpAny_loadPart' hl,a0l hL
    exact⟨_,rfl,h⟩
   .wp_walk using wpAny_loadPart' hl,a0l hL
    exact⟨_,rfl,h⟩
  .wp_walk using wpAny_loadPart' hl,a0l hL
   exact⟨_,rfl,h⟩
end
section
variable{prog:ju}{w:jq}{A:jr}{s:dg}
def a9K{items:Array bh}(hL:s.heap.IsTuple l items)
  (h:∀h',IsEnum h' (s.heap.objs.size+1) s.heap.objs.size 0 .none->h'.IsTupleIter s.heap.objs.size l 0->h'.objs.size=s.heap.objs.size+2 ->
   (∀b o,s.heap.get? b=aj o->h'.get? b=aj o)->Q (.ref (s.heap.objs.size+1)) {s with heap:=h' }) :
  dj (gk prog w) A (call (.type "enumerate") [.ref l]) Q E s:=by
 obtain⟨⟨c,dct,dt,sl⟩,hl,hc,n,hd⟩:=hL;replace hc:c=.type "tuple":=hc;replace hd:dt=.seq items n:=hd;subst hc hd
 refine callType_new F.called_enumerate (by decide) (F.typeCall_enumerate_1 _) (F.newCall_enumerate_1 _) (λobj=>F.args_object_init_2 obj _) F.entry_enumerate_new
  (a6O l items n dct sl) ⟨hl,?_⟩
 have hz:(s.heap.push {cls:=.type "tuple_iterator",data:=.fields #[.ref l,.int 0 0]}).objs.size=s.heap.objs.size+1:=zj ..;show _/\_;rw[hz]
 have he:IsEnum ((s.heap.push {cls:=.type "tuple_iterator",data:=.fields #[.ref l,.int 0 0]}).push
   {cls:=.type "enumerate",data:=.fields #[.none,.bool ao,.ref s.heap.objs.size,a0j 0,.none,.none]}) (s.heap.objs.size+1) s.heap.objs.size 0 .none:=by
  have:=ig (s.heap.push {cls:=.type "tuple_iterator",data:=.fields #[.ref l,.int 0 0]})
   (o:={cls:=.type "enumerate",data:=.fields #[.none,.bool ao,.ref s.heap.objs.size,a0j 0,.none,.none]}) rfl
  rw[hz]at this;exact this
 refine⟨⟨_,he,rfl⟩,h _ he ⟨_,cj _ (ig _ rfl),rfl,rfl⟩ (by rw[zj,hz]) λb o x=>cj _ (cj _ x)⟩
def a5D{items:Array bh}{x:bh}(hit:s.heap.IsTupleIter it l i)(hl:s.heap.IsTuple l items)(hx:items[i]?=aj x)
  (hQ:∀h',h'.IsTupleIter it l (i+1)->su it s.heap h'->Q x {s with heap:=h' }):dj (gk prog w) A (Builtin.SmallTypes.nextOf (.ref it)) Q E s:=by
 obtain⟨o,ho,hc,hd⟩:=id hit;obtain⟨ol,hol,_,nl,hdl⟩:=hl;unfold Builtin.SmallTypes.nextOf
 refine au (wj (name:=Str.ofString "__next__") hit.typeIs F.slot_tuple_iterator_next
  (yx F.slot_tuple_iterator_next hit.typeIs F.entry_tuple_iterator_next ?_ (F.args_tuple_iterator_next_1 _)))
 show dj _ _ (field (.ref it) 0 >>= _) _ _ s;refine au (uf ho hd (x:=.ref l) rfl ?_);show dj _ _ (if(bh.ref l==bh.none)=ak then _ else _) _ _ s;rw[if_neg (show ¬ ((bh.ref l==bh.none)=ak)from pq)];show dj _ _ (field (.ref it) 1 >>= _) _ _ s;refine au (uf ho hd (x:=.int i 0) rfl ?_);show dj _ _ (a1g (.ref l) >>= _) _ _ s;refine au (xq hol hdl ?_);simp only[xr,hx];refine au (zf ho hd (by simp) (dw ⟨x,rfl,dw (hQ _ ?_ (su.update ..))⟩))
 exact⟨_,yd _ ho (Obj.isFreed_of_fields (Obj.data_mapFields hd _)),(Obj.cls_mapFields ..).trans hc,by
  rw[Obj.data_mapFields hd];simp[a0j]⟩
def a6P{items:Array bh}(hh:A.handled=aq)(hit:s.heap.IsTupleIter it l i)(hl:s.heap.IsTuple l items)(hx:items[i]?=aq)
  (hE:∀h' e,a1s it s.heap h'->(∃o,h'.get? e=aj o/\o.cls=.type "StopIteration")->E (.ref e) {s with heap:=h' }):dj (gk prog w) A (Builtin.SmallTypes.nextOf (.ref it)) Q E s:=by
 obtain⟨o,ho,hc,hd⟩:=id hit;obtain⟨ol,hol,_,nl,hdl⟩:=hl;unfold Builtin.SmallTypes.nextOf
 refine au (wj (name:=Str.ofString "__next__") hit.typeIs F.slot_tuple_iterator_next
  (yx F.slot_tuple_iterator_next hit.typeIs F.entry_tuple_iterator_next ?_ (F.args_tuple_iterator_next_1 _)))
 show dj _ _ (field (.ref it) 0 >>= _) _ _ s;refine au (uf ho hd (x:=.ref l) rfl ?_);show dj _ _ (if(bh.ref l==bh.none)=ak then _ else _) _ _ s;rw[if_neg (show ¬ ((bh.ref l==bh.none)=ak)from pq)];show dj _ _ (field (.ref it) 1 >>= _) _ _ s;refine au (uf ho hd (x:=.int i 0) rfl ?_);show dj _ _ (a1g (.ref l) >>= _) _ _ s;refine au (xq hol hdl ?_);simp only[xr,hx];refine au (a1h (au (zf ho hd (by simp) ?_)));show dj _ _ (newExc (.type "StopIteration") [] >>= _) _ _ _;refine au ?_;simp only[newExc,newTuple];refine au (qg ?_ (by size_fits));refine au (m:=firstArgMember _ _) (wpAny_of_eq (a:=Value.none) (by first|rfl|(simp only[a2g];rfl)) ?_);refine qg ?_ (by size_fits);simp only[raiseNew];refine au (wpAny_handled ?_)
 first|rw[show A.in1.handled=aq from hh]|rw[hh]
 refine au (dw (wpAny_throw ?_));exact hE _ _ (((su.update ..).extBut.push _).push _) ⟨_,ig _ rfl,rfl⟩
end
def aaH(hh:A.handled=aq)(it l:bx)(hne:l≠it)(items:Array bh) :
  Draws prog w A it [it,l] items.size (λi v=>items[i]?=aj v) (λi h=>h.IsTupleIter it l i/\h.IsTuple l items) where
 live:=λ_ _ st=>let⟨o,ho,_⟩:=st.1;⟨o,ho⟩
 frame:=λ_ _ _ st hk=>⟨st.1.at λo e=>hk it (by simp) o e,st.2.at λo e=>hk l (by simp) o e⟩
 item:=λi s Q E hi st hQ=>by
  refine a5D st.1 st.2 (x:=items[i]) (by simp[hi]) λh' hit' hs'=>?_;exact hQ _ h' s.toks (by simp[hi]) ⟨hit',st.2.extBut hs'.extBut hne⟩ hs'
 done:=λs Q E st hE=>a6P hh st.1 st.2 (by simp) hE
variable{b:bh}{s:dg}
section
variable{prog:ju}{w:jq}{A:jr}{St:Nat->jf->Prop}
def anG(W:Walks prog w A.in1 I fp wr 2 P St)(S:bx)(hSf:S∉fp){h0:jf}{k:Bool}
  (hP:∀i v,P i v->(i=0->v=a)/\(i=1->v=b))
  (hwr:∀c o,h0.get? c=aj o->c∉wr/\c≠S){c:Nat}
  (hcmp:∀(h2:jf)(tk:Nat)(Q:bh->dg->Prop)(E:bh->dg->Prop),(∀c o,h0.get? c=aj o->h2.get? c=aj o)->Q (.bool k) {s with heap:=h2,toks:=tk}->dj (gk prog w) A.in1 (a1v .Lt b a) Q E {s with heap:=h2,toks:=tk})(hst:St 0 s.heap)(hk0:∀c o,h0.get? c=aj o->s.heap.get? c=aj o)
  (hS:s.heap.get? S=aj {cls:=.type "list",dict:=none,data:=.seq #[] c,slots:=#[]})
  (hR:∀h' tk,(∀c o,h0.get? c=aj o->h'.get? c=aj o)->R (.ok (.ret (if k then b else a))) {s with heap:=h',toks:=tk}) :
  zm (gk prog w) A (.builtin "min.loop" ⟨[.ref I,.none,.ref S],[]⟩) R s:=by
 have hSw:S∉wr:=λh=>hSf (W.sub _ h);have hname:(toString "min"++toString ".loop":String)="min.loop":=by decide
 have fin:∀(s2:dg)(v:bh)(c2:Nat)(hg:s2.gens=s.gens/\s2.drawn=s.drawn/\s2.os=s.os),St 2 s2.heap->(∀c o,h0.get? c=aj o->s2.heap.get? c=aj o)->v=(if k then b else a) ->
   s2.heap.get? S=aj {cls:=.type "list",dict:=none,data:=.seq #[v,v] c2,slots:=#[]}->zm (gk prog w) A (.builtin "min.loop" ⟨[.ref I,.none,.ref S],[]⟩) R s2:=by
  rintro⟨hp2,g2,d2,t2,o2⟩ v c2 ⟨e1,e2,e3⟩ hst2 hk2 hv hS2;cases e1;cases e2;cases e3;refine xu F.entry_min_loop ?_;rw[jr.under_plainId F.plain_min_loop _];show dj _ A.in1 (a1g (.ref S) >>= _) _ _ _;refine au (xq hS2 rfl ?_);show dj _ A.in1 (tryCatch (yt (.ref I)) _ >>= _) _ _ _;refine au (yj (W.done _ _ _ hst2 λh' tk hk'=>?_));have hS':=hk' S _ hSw hS2;show dj _ A.in1 (updateSeq S (λ_=>#[]) >>= _) _ _ _;refine au ?_;refine a1k hS' rfl (au (yu (dw ?_)));subst hv;exact hR _ tk λc o e=>(qb _ _ (Ne.symm (hwr c o e).2)).trans (hk' c o (hwr c o e).1 (hk2 c o e))
 refine xu F.entry_min_loop ?_;rw[jr.under_plainId F.plain_min_loop _];show dj _ A.in1 (a1g (.ref S) >>= _) _ _ s;refine au (xq hS rfl ?_);show dj _ A.in1 (tryCatch (yt (.ref I)) _ >>= _) _ _ s;refine au (yj (W.item 0 s _ _ (by decide) hst λv h' tk hPv hst' hk'=>?_));obtain rfl:=(hP 0 v hPv).1 rfl;have hS':=hk' S _ hSw hS;show dj _ A.in1 (updateSeq S (λ_=>#[v,v]) >>= _) _ _ _;refine au ?_;refine a1k hS' rfl ?_;rw[hname];refine dw ⟨yw F.plain_min_loop _,?_⟩;have hk1:∀c o,h0.get? c=aj o->(h'.update S (Obj.mapSeq λ_=>#[v,v])).get? c=aj o:=λc o e=>(qb _ _ (Ne.symm (hwr c o e).2)).trans (hk' c o (hwr c o e).1 (hk0 c o e));have aPF:St 1 (h'.update S (Obj.mapSeq λ_=>#[v,v])):=W.frame _ _ _ hst' λb hbf o e=>(qb _ _ (λh:S=b=>hSf (by rw[h];exact hbf))).trans e;refine xu F.entry_min_loop ?_;rw[jr.under_plainId F.plain_min_loop _];show dj _ A.in1 (a1g (.ref S) >>= _) _ _ _;have hS1:(h'.update S (Obj.mapSeq λ_=>#[v,v])).get? S=_:=yd _ hS' rfl;refine au (xq hS1 rfl ?_);show dj _ A.in1 (tryCatch (yt (.ref I)) _ >>= _) _ _ _;refine au (yj (W.item 1 _ _ _ (by decide) aPF λu h2 tk2 hPu hst2 hk2=>?_));obtain rfl:=(hP 1 u hPu).2 rfl;have hS2:=hk2 S _ hSw hS1;have kk:∀c o,h0.get? c=aj o->h2.get? c=aj o:=λc o e=>hk2 c o (hwr c o e).1 (hk1 c o e);show dj _ A.in1 (tryCatch (holding [u,u] (a1v .Lt u v >>= _)) _ >>= _) _ _ _;refine au (yj (vq (au (hcmp _ _ _ _ kk ?_))));refine au (vq (uw ?_));refine au (yu (dw ?_));cases k with
 |true =>
  simp only[if_true];refine au ?_;refine a1k hS2 rfl (au (yu ?_));rw[hname];refine dw ⟨yw F.plain_min_loop _,fin _ u _ ⟨rfl,rfl,rfl⟩ (W.frame _ _ _ hst2 λb hbf o e=>?_) (λc o e=>?_) (by simp) (yd _ hS2 rfl)⟩
  .exact(qb _ _ (λh:S=b=>hSf (by rw[h];exact hbf))).trans e
  .exact(qb _ _ (Ne.symm (hwr c o e).2)).trans (kk c o e)
 |false =>
  simp only[qw,if_false];refine au (yu ?_);rw[hname];exact dw ⟨yw F.plain_min_loop _,fin _ v _ ⟨rfl,rfl,rfl⟩ hst2 kk (by simp) hS2⟩
end
def aeO{k:Bool}(hh:A.handled=aq)
  (hcmp:∀(h2:jf)(tk:Nat)(Q:bh->dg->Prop)(E:bh->dg->Prop),(∀c o,s.heap.get? c=aj o->h2.get? c=aj o)->Q (.bool k) {s with heap:=h2,toks:=tk}->dj (gk prog w) A.in1 (a1v .Lt b a) Q E {s with heap:=h2,toks:=tk})
  (h:∀h' tk,(∀c o,s.heap.get? c=aj o->h'.get? c=aj o)->Q (if k then b else a) {s with heap:=h',toks:=tk}) :
  dj (gk prog w) A (call (.builtin "min") [a,b]) Q E s:=by
 have hname:(toString "min"++toString ".loop":String)="min.loop":=by decide
 have hT:(s.heap.push {cls:=.type "tuple",data:=.seq #[a,b]}).IsTuple s.heap.objs.size #[a,b]:=⟨_,ig _ rfl,rfl,0,rfl⟩;have hsz:(s.heap.push {cls:=.type "tuple",data:=.seq #[a,b]}).objs.size=s.heap.objs.size+1:=zj ..;refine call_function_tree F.kind_min F.plain_min F.entry_min (F.args_min2 _ _) ?_;show dj _ A.in1 (Builtin.Builtins.bindParams "min" ["key","default"] 0 ⟨[],[]⟩ >>= _) _ _ s;refine au (wpAny_of_eq (show Builtin.Builtins.bindParams "min" ["key","default"] 0 ⟨[],[]⟩=pure [aq,aq]from rfl) ?_);show dj _ A.in1 (newTuple [a,b] >>= _) _ _ s;refine au (qg ?_);refine au (a0l hT ?_);refine au (qg ?_);rw[hname];have W:=Walks.tuple (prog:=prog) (w:=w) (A:=A.in1) hh (s.heap.push {cls:=.type "tuple",data:=.seq #[a,b]}).objs.size s.heap.objs.size (by rw[hsz];exact jg (Nat.lt_succ_self _)) #[a,b];have hsz2:((s.heap.push {cls:=.type "tuple",data:=.seq #[a,b]}).push {cls:=.type "tuple_iterator",data:=.fields #[.ref s.heap.objs.size,.int 0 0]}).objs.size=s.heap.objs.size+2:=by rw[zj,hsz]
 refine dw ⟨yw F.plain_min_loop _,anG (h0:=s.heap) (a:=a) (b:=b) (k:=k) W _ (λhm=>?_) (λi v hv=>⟨λe=>?_,λe=>?_⟩) (λc o e=>⟨λhm=>?_,λhm=>?_⟩) hcmp (W.frame _ _ _ ⟨⟨_,ig _ rfl,rfl,rfl⟩,hT.push _⟩ λb _ o e=>cj _ e) (λc o e=>cj _ (cj _ (cj _ e))) (ig _ rfl) h⟩
 .have hm':((s.heap.push {cls:=.type "tuple",data:=.seq #[a,b]}).push {cls:=.type "tuple_iterator",data:=.fields #[.ref s.heap.objs.size,.int 0 0]}).objs.size∈[(s.heap.push {cls:=.type "tuple",data:=.seq #[a,b]}).objs.size,s.heap.objs.size]:=hm;rw[hsz2,hsz]at hm';simp at hm'
 .subst e;simpa using hv.symm
 .subst e;simpa using hv.symm
 .have hm':c∈[(s.heap.push {cls:=.type "tuple",data:=.seq #[a,b]}).objs.size]:=hm;rw[hsz]at hm';have t:c<s.heap.objs.size:=gV e;rw[qx.mp hm']at t;exact absurd t (Nat.not_lt.mpr (a1b _ _))
 .have hm':c=((s.heap.push {cls:=.type "tuple",data:=.seq #[a,b]}).push {cls:=.type "tuple_iterator",data:=.fields #[.ref s.heap.objs.size,.int 0 0]}).objs.size:=hm;rw[hsz2]at hm';have t:c<s.heap.objs.size:=gV e;rw[hm']at t;exact absurd t (Nat.not_lt.mpr (a1b _ _))
section
open PySem.SeqAt
open PySem.AutoSeq1 (wpAny_loadPart')
open PySem.MeetsSeq PySem.MeetsSeq2 PySem.MeetsSeq3
private theorem ac6(l b:bx)(x1 x2 y1 y2:bh)(n n2:Nat)(dd dd2:Option bx)(sl sl2:Array (Option bh))(e1 e2 k1 k2:Bool) :
  Meets (Builtin.«tuple.__lt__» ⟨[.ref l,.ref b],[]⟩)
   (λA R s=>s.heap.get? l=aj {cls:=.type "tuple",dict:=dd,data:=.seq #[x1,x2] n,slots:=sl}/\s.heap.get? b=aj {cls:=.type "tuple",dict:=dd2,data:=.seq #[y1,y2] n2,slots:=sl2} /\
    EqAt A.in1 s x1 y1 e1/\EqAt A.in1 s x2 y2 e2 /\
    (e1=ao->∀(prog:ju)(w:jq)(E:bh->dg->Prop)(Q:bh->dg->Prop),Q (.bool k1) s->dj (gk prog w) A.in1 (a1v .Lt x1 y1) Q E s) /\
    (e1=ak->e2=ao->∀(prog:ju)(w:jq)(E:bh->dg->Prop)(Q:bh->dg->Prop),Q (.bool k2) s->dj (gk prog w) A.in1 (a1v .Lt x2 y2) Q E s) /\
    R (.ok (.ret (.bool (if e1 then(if e2 then ao else k2)else k1)))) s) :=
 .of_wp λprog w A R s h=>by
  obtain⟨hp,g,d,tk,os⟩:=s;obtain⟨hl,hb,he1,he2,hc1,hc2,h⟩:=h;have f2:=AutoSeq1.sub_tuple_tuple
  wp_walk using wpAny_loadPart' hl,wpAny_loadPart' hb,wpAny_forIn_list _ (λrest b s'=>b.1=aq/\s'=⟨hp,g,d,tk,os⟩/\((rest=[(x1,y1),(x2,y2)])∨(rest=[(x2,y2)]/\e1=ak)∨(rest=[]/\e1=ak/\e2=ak))) _
  case turn =>
   rintro⟨y,x⟩ rest b s' ⟨hb',rfl,hz⟩;rcases hz with hz|⟨hz,t1⟩|⟨hz,_⟩
   .injection hz with hyx hrest;injection hyx with hy hx;subst hy hx hrest;refine au (he1 prog w _ _ ?_);cases e1 with
    |true =>
     wp_walk
     exact⟨rfl,rfl,.inr (.inl ⟨rfl,rfl⟩)⟩
    |false =>
     have hri:=hc1 rfl prog w
     wp_walk using hri
     exact⟨_,rfl,by simpa using h⟩
   .injection hz with hyx hrest;injection hyx with hy hx;subst hy hx hrest t1;refine au (he2 prog w _ _ ?_);cases e2 with
    |true =>
     wp_walk
     exact⟨rfl,rfl,.inr (.inr ⟨rfl,rfl,rfl⟩)⟩
    |false =>
     have hri:=hc2 rfl rfl prog w
     wp_walk using hri
     exact⟨_,rfl,by simpa using h⟩
   .cases hz
  case fin =>
   rintro⟨b1,b2⟩ s' ⟨hb',rfl,hz⟩;rcases hz with hz|⟨hz,_⟩|⟨_,t1,t2⟩
   .cases hz
   .cases hz
   .simp only at hb';subst hb' t1 t2
    wp_walk
    exact⟨_,rfl,by simpa[Builtin.Tuple.tupleCompareSizes]using h⟩
  case h =>
   exact⟨rfl,rfl,.inl rfl⟩
end
end
section
open PySem.W
section
variable{w:jq}{h h':jf}{more:Array bh}
def xM.grow(x:xM P w H h)(e:H T=aj (.zM ps))(k:∀b u,b≠T->h.get? b=aj u->h'.get? b=aj u)(hT:h'.get? T=aj (tabObj (ps++more))):xM P w (upd H T (.zM (ps++more))) h':=λa o q=>by
 by_cases z:a=T
 .subst z;rw[aL]at q;cases q;exact hT
 .rw[aP z]at q;refine(x a o q).stay (λb u hb hu=>k b u ?_ hu) (λb hb=>?_) λb xs hb=>?_
  .rcases hb with rfl|hb
   .exact z
   .intro y;subst y;rw[e]at hb;cases hb
  .rw[aP (λy=>by subst y;rw[e]at hb;cases hb)];exact hb
  .rw[aP (λy=>by subst y;rw[e]at hb;cases hb)];exact hb
end
abbrev yN(H:Hp)(c':bx)(qual:Str):Prop:=∃(oc:Obj)(vs:Array bh)(t:Tok),H c'=aj (.j6 oc (.ext λ_=>True))/\oc.data=.fields vs/\vs[1]?=aj (.str qual t)
abbrev a0F(H:Hp)(qual:Str)(pos:Pos)(ps:Array bh):Prop:=ps=#[]∨∃c',ps=#[a0j pos.line,a0j pos.col,.ref c']/\yN H c' qual
@[simp]def frO(o:Obj):HO:=.j6 o (.ext λ_=>True)
def a6Q{h:jf}(e:h.get? a=aj o):dM P w H h a (frO o):=⟨e,trivial,⟨o,e⟩,λ_ _ _ _=>trivial⟩
def yN.keep(r:yN H c' qual)(k:∀a o φ,H a=aj (.j6 o (.ext φ))->H' a=aj (.j6 o (.ext φ))):yN H' c' qual:=by
 obtain⟨oc,vs,t,e,r⟩:=r;exact⟨oc,vs,t,k _ _ _ e,r⟩
def a0F.keep{qual:Str}{pos:Pos}(r:a0F H qual pos ps)(k:∀a o φ,H a=aj (.j6 o (.ext φ))->H' a=aj (.j6 o (.ext φ))):a0F H' qual pos ps:=by
 rcases r with r|⟨c',e,r⟩
 .exact .inl r
 .exact .inr ⟨c',e,r.keep k⟩
section
variable{pins:List (bx×Obj)}{s:dg}
def Inv.grow{more:Array bh}{h':jf}{t':Nat}(I:Inv X pins σ H s)(e:H T=aj (.zM ps))(k:∀b u,b≠T->s.heap.get? b=aj u->h'.get? b=aj u)(hT:h'.get? T=aj (tabObj (ps++more)))(hc:s.heap.objs.size<=c')(ho:h'.get? c'=aj oc) :
  Inv X pins σ (upd (upd H T (.zM (ps++more))) c' (frO oc)) {s with heap:=h',toks:=t' }:=by
 have fr:H c'=aq:=I.hok.fresh hc;have tc:T≠c':=cF e fr;have nT:∀b,H b=aq->b≠T:=λb n z=>by subst z;rw[e]at n;cases n
 have old:∀b o,s.heap.get? b=aj o->b≠c':=λb o q=>jg (jj (gV q) hc);have hk2:xM X.prog X.w (upd H T (.zM (ps++more))) h':=I.hok.grow e k hT;refine I.step (ch:=[]) (λb z=>nomatch z) (λb o _ _ _ q n=>k b o (nT b n) q) (λb o _ _ _ q n=>⟨o.slots,k b o (nT b n) q⟩) (λb o _ q n=>?_) (λb o _ q=>?_) (λb xs q=>?_) (λb o u q=>?_) (λb qs q=>?_) (λm hn=>?_) (λa o q=>?_) I.bare
 .rw[aP (old b o q),aP (nT b n)];exact n
 .by_cases z:b=T
  .subst z;exact⟨_,hT⟩
  .exact⟨o,k b o z q⟩
 .rw[aP (cF q fr),aP (aa6 q e (λz=>by cases z))];exact q
 .rw[aP (cF q fr),aP (aa6 q e (λz=>by cases z))];exact q
 .by_cases z:b=T
  .subst z;rw[e]at q;cases q;exact⟨more,by rw[aP tc,aL]⟩
  .exact⟨#[],by rw[aP (cF q fr),aP z,q];simp⟩
 .obtain⟨o,es,ep,q,r⟩:=hn;exact⟨o,es,ep,k _ _ (nT _ I.free) q,r⟩
 .by_cases z:a=c'
  .subst z;rw[aL]at q;cases q;exact a6Q ho
  .rw[aP z]at q;refine(hk2 a o q).stay (λ_ _ _ h=>h) (λb hb=>?_) λb xs hb=>?_
   .rw[aP (λy=>by subst y;rw[aP (Ne.symm tc),fr]at hb;cases hb)];exact hb
   .rw[aP (λy=>by subst y;rw[aP (Ne.symm tc),fr]at hb;cases hb)];exact hb
end
end
section
open PySem.W
private theorem aaI{env:Env}:∀(a b:List lq),execs (a++b) env=(execs a env >>= λf=>match f with|.next=>execs b env|f=>pure f)
 |[],b=>by simp[execs]
 |s::r,b=>by
  rw[zc,execs,execs,bind_assoc];congr 1;funext f;cases f with
  |next=>exact aaI r b
  |_=>simp
section
end
section
end
end
variable{scope:ur}{qt:Bool}{mg:Str->Option bh}{base:jf}{outer:List Env}
section
open PySem.W
def lG:∀(names:List (Str×qe))(n:Nat)(acc:List (Str×bx)),zp n names acc=zp n names []++acc
 |[],_,_=>rfl
 |(name,kind)::r,n,acc=>by
  unfold zp;split
  ·rw[lG r (n+1) ((name,n)::acc),lG r (n+1) [(name,n)],qu];rfl
  .exact lG r n acc
abbrev nD(name:Str)(scope:ur)(L a:bx)(cd:bh)(cl:List (Str×bx)):Env :=
 {scope:=scope,locals:=L,globals:=mainGlobals,cells:=cellsFrom (L+1) scope.names cl,qual:=name++".<locals>.",func:=some a,code:=cd,frame:=some L,builtins:=builtinsNs}
structure InX(s:dg)(L:bx)(m:Str->Option bh)(names:List (Str×qe))(s1:dg):Prop where
 call:InCall s L m s1
 cell:∀n c,(n,c)∈zp (L+1) names []->s1.heap.IsCell c aq/\L<c
 apart:(zp (L+1) names []).Pairwise λx y=>x.2≠y.2
section
variable{M:Model}{A:jr}{E:bh->dg->Prop}{s₀ s:dg}{env:Env}
def a3X(f:Str×bh->PUnit->Sem (ForInStep PUnit))(hf:∀n v u,f (n,v) u=(do storeName env n v;pure (.yield ⟨⟩)))(hk:env.scope.kind=.function) :
  ∀(binds:List (Str×bh))(m:Str->Option bh)(s:dg)(Q:PUnit->dg->Prop),InX s₀ env.locals m env.scope.names s ->
   (∀x∈binds,env.kindOf x.1=aj .local)->(∀s',InX s₀ env.locals (bindL env.kindOf binds m) env.scope.names s'->Q ⟨⟩ s')->dj M A (forIn binds ⟨⟩ f) Q E s
 |[],m,s,Q,x,_,h=>by rw[List.forIn_nil];exact dw (h s x)
 |(n,v)::r,m,s,Q,x,hl,h=>by
  rw[a0p,hf];have l:=hl (n,v) rm;refine au (au (wpAny_storeName_local l x.call.ns (λh' hn' hs'=>dw (a3X f hf hk r _ _ Q ⟨⟨?_,hn',λb o e=>?_,x.call.fresh⟩,λk c hc=>?_,x.apart⟩ (λy hy=>hl y (jo _ hy)) λs'' x''=>h s'' ?_)) (by rw[hk];rfl)))
  .obtain⟨h₁,tk,rfl⟩:=x.call.same;exact⟨h',_,rfl⟩
  .exact hs'.extBut b o (jg (jj (gV e) x.call.fresh)) (x.call.keep b o e)
  .exact⟨(x.cell k c hc).1.sameBut hs' (yg (x.cell k c hc).2),(x.cell k c hc).2⟩
  .unfold bindL;rw[if_pos l];exact x''
def axD{cl:List (Str×bx)}{binds:List (Str×bh)}{f:bx}{code:bh}{Q:Env->dg->Prop}(hk:scope.kind=.function)(hloc:∀x∈binds,scope.names.lookup x.1=aj .local)
  (hQ:∀s',InX s s.heap.objs.size (bindL (nD qual scope s.heap.objs.size f code cl).kindOf binds λ_=>aq) scope.names s'->Q (nD qual scope s.heap.objs.size f code cl) s') :
  dj M A (newFunctionEnv scope ji cl binds (qual++".<locals>.") (aj f) code aq a2h) Q E s:=by
 simp only[newFunctionEnv,Option.isSome_none,qw,if_false];refine au (wpAny_alloc ?_);refine au (wpAny_layCells _ (λname kind cells=>by cases hkc:kind==qe.cell<;>simp[hkc]) _ _ _ _ ?_);have ok:=cellsFrom_ok scope.names (s.heap.push {cls:=.type "frame",data:=.dict #[]}) (s.heap.objs.size+1) [] ⟨λ_ _ hm=>(nomatch hm),List.Pairwise.nil⟩ (by rw[zj];exact cu _);rw[zj]at ok;rw[show({s with heap:=s.heap.push {cls:=.type "frame",data:=.dict #[]}}:dg).heap.objs.size=s.heap.objs.size+1 from zj ..]
 refine au (a3X (s₀:=s) (env:=nD qual scope s.heap.objs.size f code cl) _ (λ_ _ _=>rfl) hk binds (λ_=>aq) _ _
  ⟨⟨⟨_,_,rfl⟩,(Heap.Ns.new s.heap (.type "frame")).keeps (pushCells_keeps _ _),λb o e=>pushCells_keeps _ _ b o (cj _ e),cu _⟩,λn c hm=>ok.empty n c hm,ok.apart⟩ hloc λs' x=>dw (hQ s' x))
end
structure ScX(N ps:List Str)(x:Str)(sc:ur):Prop where
 kind:sc.kind=.function
 co:sc.isCoroutine=ao
 gen:sc.isGenerator=ao
 nd:N.Nodup
 pre:N.take (ps.length+1)=x::ps
 par:∀y∈ps,sc.names.lookup y=aj .local
 free:∀y,sc.names.lookup y=aj .free->y=x
 own:sc.names.lookup x=aj .free
abbrev cxX(qt:Bool)(CX:CXT)(P:ju)(w:jq)(K:iu)(mg:Str->Option bh)(base:jf)(N:List Str)(qual:Str)(scope:ur)(f:bx)(cd:bh)(x:Str)(cc:bx)(A:jr)(outer:List Env)(s:dg)(H:Hp)(E:XK):Cx where
 prog:=P
 w:=w
 K:=K
 mg:=mg
 base:=base
 A:=A.deeper (nD qual scope s.heap.objs.size f cd [(x,cc)])
 N:=N
 s₀:=s
 H₀:=H
 env:=nD qual scope s.heap.objs.size f cd [(x,cc)]
 outer:=outer
 stack:=nD qual scope s.heap.objs.size f cd [(x,cc)]::outer
 ex:=[]
 calm:=!qt
 fn:=λy=>!(y==x)
 pn:=[]
 tp:=[]
 xe:=λe s'=>dj (gk P w) (A.deeper (nD qual scope s.heap.objs.size f cd [(x,cc)])) (leaving (nD qual scope s.heap.objs.size f cd [(x,cc)]) e) (λ_ s''=>CX outer H s E e s'') (λe' s''=>CX outer H s E e' s'') s'
instance aPG{qt:Bool}{CX:CXT}{P:ju}{w:jq}{K:iu}{mg:Str->Option bh}{base:jf}{N:List Str}{qual:Str}{scope:ur}{f:bx}{cd:bh}{x:Str}{cc:bx}{A:jr}{outer:List Env}{s s1:dg}{H:Hp}{E:XK}:Tk (cxX qt CX P w K mg base N qual scope f cd x cc A outer s H E).need s1:=⟨λz=>nomatch z⟩
def a6R{α:Type}{n:Str}:∀{l m:List (Str×α)}{c:α},(l++m).lookup n=aj c->(n,c)∈l∨m.lookup n=aj c
 |[],_,_,h=>.inr h
 |(k,v)::r,m,c,h=>by
  rw[zc,lg]at h;cases hb:n==k with
  |true=>rw[hb]at h;cases h;rw[beq_iff_eq.mp hb];exact .inl (.head _)
  |false =>
   rw[hb]at h;rcases a6R h with z|z
   .exact .inl (.tail _ z)
   .exact .inr z
private theorem vB:∀{names:List (Str×qe)}{n:Nat}{acc:List (Str×bx)}{y:Str}{c:bx},(y,c)∈zp n names acc->(y,c)∈acc∨(y,qe.cell)∈names
 |[],_,_,_,_,h=>.inl h
 |(name,kind)::r,n,acc,y,c,h=>by
  unfold zp at h;split at h
  .rename_i hk;rcases vB h with z|z
   .rcases iy.mp z with z|z
    .cases z;exact .inr (by rw[beq_iff_eq.mp hk];exact .head _)
    .exact .inl z
   .exact .inr (.tail _ z)
  .rcases vB h with z|z
   .exact .inl z
   .exact .inr (.tail _ z)
def u0{α:Type}{n:Str}:∀{l m:List (Str×α)},(∀c,(n,c)∉l)->(l++m).lookup n=m.lookup n
 |[],_,_=>rfl
 |(k,v)::r,m,h=>by
  rw[zc,lg];cases hb:n==k with
  |true=>exact absurd (by rw[beq_iff_eq.mp hb];exact .head _) (h v)
  |false=>exact u0 λc hc=>h c (.tail _ hc)
def vC{α:Type}{n:Str}{c:α}:∀{l m:List (Str×α)},(l.lookup n=aj c)->(l++m).lookup n=aj c
 |(k,v)::r,m,h=>by
  rw[zc,lg];rw[lg]at h;cases hb:n==k with
  |true=>rw[hb]at h;exact h
  |false=>rw[hb]at h;exact vC h
def aiA{K:iu}{N ps:List Str}{s:dg}{vs:List V} 
  (S:ScX N ps x scope)(a6S:∀y∈scope.names,y.1=x->y.2≠.cell)(hd:qt=ao->A.handled=aq)(e0:a5B P w K mg base A outer s H)(hl:vs.length=ps.length)(r:Vals vs us)(hc:s.heap.IsCell cc (aj u))(hH:H cc=aq)(rv:RelV vv u)
  (y:InX s s.heap.objs.size (bindL (nD qual scope s.heap.objs.size f cd [(x,cc)]).kindOf (ps.zip us) λ_=>aq) scope.names s1) :
  Inv (cxX qt CX P w K mg base N qual scope f cd x cc A outer s H E) [] (start N (vv::vs)) H s1:=by
 have hpl:ps.length+1<=N.length:=by have:=congrArg List.length S.pre;rw[qy]at this;simp at this;omega
 obtain⟨h1,tk,rfl,hk⟩:=y.call.done;have ccl:cc<s.heap.objs.size:=hc.lt;have noA:∀b:bx,b∉(cxX qt CX P w K mg base N qual scope f cd x cc A outer s H E).ex:=λb z=>absurd (show b∈([]:List bx)from z) (by simp);have cells:(cxX qt CX P w K mg base N qual scope f cd x cc A outer s H E).env.cells=zp (s.heap.objs.size+1) scope.names []++[(x,cc)]:=lG _ _ _
 have split:∀n c,(cxX qt CX P w K mg base N qual scope f cd x cc A outer s H E).env.cells.lookup n=aj c->(n,c)∈zp (s.heap.objs.size+1) scope.names []∨(n=x/\c=cc):=λn c h=>by
  rw[cells]at h;rcases a6R h with z|z
  .exact .inl z
  .rw[lg]at z;cases hb:n==x with
   |true=>rw[hb]at z;cases z;exact .inr ⟨beq_iff_eq.mp hb,rfl⟩
   |false=>rw[hb]at z;cases z
 have lx:(cxX qt CX P w K mg base N qual scope f cd x cc A outer s H E).env.cells.lookup x=aj cc:=by
  rw[cells,u0 λc hm=>?_]
  .simp
  .rcases vB hm with z|z
   .cases z
   .exact a6S _ z rfl rfl
 have lt:∀n c,(n,c)∈zp (s.heap.objs.size+1) scope.names []->s.heap.objs.size<c:=λn c h=>(y.cell n c h).2
 refine⟨⟨e0.mod,S.kind,rfl,rfl,cu _,λn z c h1 h2=>?_,λn hy=>?_,λn c fn h=>?_,λz=>hd (by cases qt with|false=>rfl|true=>cases z),jr.frames_deeper e0.frames,.inr ⟨rfl,rfl⟩,λb z=>absurd z (noA b),e0.bs,e0.bsz,λb _ _=>noA b,λb z=>absurd z (noA b),e0.v8,e0.frf⟩,
  rfl,e0.bare,Un.kept hk,⟨_,y.call.ns,λi n v h1 h2 h3=>?_⟩,λn c h=>?_,e0.hok.fresh (cu _),λn c h=>?_,λp hp=>absurd (show p∈([]:List (bx×Obj))from hp) (by simp),e0.hok.kept hk,?_,e0.hnd,λp hp=>absurd (show p∈([]:List (bx×List V))from hp) (by simp)⟩
 .rcases split n c h1 with a|⟨a,a'⟩<;>rcases split z c h2 with b|⟨b,b'⟩
  .exact name_of_addr y.apart a b
  .exact absurd (lt _ _ a) (by rw[b'];exact Nat.not_lt.mpr (vf ccl))
  .exact absurd (lt _ _ b) (by rw[a'];exact Nat.not_lt.mpr (vf ccl))
  .rw[a,b]
 .have hy:scope.names.lookup n=aj .cell∨scope.names.lookup n=aj .free:=hy;rcases hy with hy|hy
  .obtain⟨c,e⟩:=a6H (n:=s.heap.objs.size+1) hy;exact⟨c,by rw[cells];exact vC e⟩
  .rw[S.free n hy];exact⟨cc,lx⟩
 .rcases split n c h with a|⟨rfl,rfl⟩
  .exact vf (lt _ _ a)
  .have fn:(!(n==n))=ak:=fn;simp at fn
 .unfold start at h2;cases i with
  |zero =>
   have e1:x=n:=by
    have:=congrArg (λl=>l[0]?) S.pre;rw[zx (by omega)]at this;have h1:N[0]?=aj n:=h1;rw[h1]at this;simp at this;exact this.symm
   subst e1;simp at h2;subst h2;obtain⟨o,ho,hod⟩:=hc;exact⟨u,rv,.inr ⟨.inr S.own,cc,lx,o,hk _ _ ho,hod⟩⟩
  |succ i =>
   have hi:i<vs.length:=by
    by_cases hi:i<vs.length
    .exact hi
    .rw[ux (by simp;omega)]at h2;rw[List.getElem?_replicate]at h2;split at h2<;>cases h2
   have ha:vs[i]?=aj v:=by
    rw[qj (by simp;omega),kj,List.getElem?_cons_succ]at h2;cases e:vs[i]? with
    |none=>rw[e]at h2;cases h2
    |some a=>rw[e]at h2;cases h2;rfl
   obtain⟨uu,hu,rvv⟩:=r.get ha
   have hp:ps[i]?=aj n:=by
    have:=congrArg (λl=>l[i+1]?) S.pre;rw[zx (by omega)]at this;have h1:N[i+1]?=aj n:=h1;rw[h1]at this;simpa using this.symm
   have ndP:ps.Nodup:=by
    have:(x::ps).Nodup:=by rw[←S.pre];exact S.nd.sublist (List.take_sublist _ _)
    exact(vh.mp this).2
   have k:=S.par n (iz hp);exact⟨uu,rvv,.inl ⟨k,a2N ndP hp hu k⟩⟩
 .rcases split n c h with a|⟨rfl,rfl⟩
  .exact⟨_,(y.cell n c a).1⟩
  .obtain⟨o,ho,hod⟩:=hc;exact⟨_,o,hk _ _ ho,hod⟩
 .rcases split n c h with a|⟨rfl,rfl⟩
  .exact e0.hok.fresh (vf (lt _ _ a))
  .exact hH
 .unfold start;show _=N.length;rw[kh,gj,List.length_replicate];simp;omega
end
section
section
end
end
variable{name:Str}{params:Arguments}{body:jc}
section
open PySem.W
section
variable{X:Cx}{pins:List (bx×Obj)}
def aE7{firstLine:Nat}(I:Inv X pins σ H s)(hT:H T=aj (.zM ps))(st:a0F H qual pos ps)(C:CodeHd X.base c T)(hb:X.base.BuiltinsAt X.mg T)(hcode:X.env.code=.ref c)(hcl:closureFor scope X.env=pure clos)
  (h:∀f c' ctv ps' H' s',Inv X pins σ H' s'->H f=aq->H' f=aj (frO (kla_obj name qual params body scope clos ((X.mg "__name__").getD .none) c' ctv))->yN H' c' qual->H' T=aj (.zM ps')->a0F H' qual pos ps'->(∀b u,b≠T->H b=aj u->H' b=aj u)->Q (.ref f) s') :
  dj (gk X.prog X.w) A (makeFunction name qual params (.expr body) scope X.env [] [] [] pos firstLine) Q E s:=by
 have hP:s.heap.get? T=aj (tabObj ps):=I.hok T _ hT;have hg:s.heap.Ns ji X.mg:=I.mod.glob.keeps I.bk;have hC:CodeHd s.heap c T:=C.keeps I.bk
 have hgT:ji≠T:=λz=>by
  obtain⟨o,es,ep,q,d,_⟩:=hg;rw[z,hP]at q;cases q;cases d
 have hbs:s.heap.BuiltinsAt X.mg T:=by
  obtain⟨bm,o,b1,b2,b3,b4,b5,b6⟩:=hb;exact⟨bm,o,b1,b2,b3,b4,I.bk _ _ b5,b6⟩
 rcases id st with st0|⟨c',e,rec⟩
 .subst st0;refine kla_makeFunction (mg:=X.mg) hcl I.ok.glob hg hcode hC hP trivial rfl hgT hbs λc' ctv h' tk hx hge hlt hrec htb=>?_;obtain⟨c₂,oc,vs,t,e2,hoc,hd,hv⟩:=hrec;cases e2;have I1:=I.grow (t':=s.toks) (c':=c') hT (λb u n q=>hx b u n q) htb hge hoc;have fr:H c'=aq:=I.hok.fresh hge;have tc:T≠c':=cF hT fr;have ff:H h'.objs.size=aq:=I.hok.fresh (uh hge (vf hlt));have I2:=I1.laid (t':=tk) (o:=frO (kla_obj name qual params body scope clos ((X.mg "__name__").getD .none) c' ctv)) (λb u q=>cj _ q) (cu _) (a6Q (ig _ rfl));have n1:c'≠h'.objs.size:=jg hlt;have n2:T≠h'.objs.size:=cF hT ff;have rc:yN (upd (upd (upd H T (.zM (#[]++#[a0j pos.line,a0j pos.col,.ref c']))) c' (frO oc)) h'.objs.size (frO (kla_obj name qual params body scope clos ((X.mg "__name__").getD .none) c' ctv))) c' qual:=⟨oc,vs,t,by rw[aP n1,aL],hd,hv⟩;refine h h'.objs.size c' ctv _ _ _ I2 ff aL rc (by rw[aP n2,aP tc,aL]) (.inr ⟨c',by simp,rc⟩) λb u hb q=>?_;rw[aP (cF q ff),aP (cF q fr),aP hb];exact q
 .subst e;have hf:codeAmong pos (#[a0j pos.line,a0j pos.col,bh.ref c']:Array bh).toList=aj (.ref c'):=by simp[codeAmong,a0j]
  refine kla_makeFunctionHit (mg:=X.mg) hcl I.ok.glob hg hcode hC hP trivial hf hbs λctv h' tk hk hsz=>?_;have ff:H h'.objs.size=aq:=I.hok.fresh hsz;have I1:=I.kept (t':=s.toks) hk;have I2:=I1.laid (t':=tk) (o:=frO (kla_obj name qual params body scope clos ((X.mg "__name__").getD .none) c' ctv)) (λb u q=>cj _ q) (cu _) (a6Q (ig _ rfl));have kf:∀b u,H b=aj u->upd H h'.objs.size (frO (kla_obj name qual params body scope clos ((X.mg "__name__").getD .none) c' ctv)) b=aj u:=λb u q=>by rw[aP (cF q ff)];exact q
  exact h h'.objs.size c' ctv _ _ _ I2 ff aL (rec.keep λa o u q=>kf a _ q) (kf _ _ hT) (.inr ⟨c',rfl,rec.keep λa o u q=>kf a _ q⟩) λb u _ q=>kf b u q
end
def axE{K:iu}{k:Nat}{N ps:List Str}(S:ScX N ps x scope)(a6S:∀y∈scope.names,y.1=x->y.2≠.cell){s:dg}{vs:List V}{Q:VK} 
  (hr:fQ qt (k+1) A)(e0:a5B P w K mg base A outer s H)(hf:H f=aj (frO (kla_obj name qual params body scope [(x,cc)] pm c' ctv)))(rc:yN H c' qual)(hc:s.heap.IsCell cc (aj u))(hH:H cc=aq)(rv:RelV vv u)
  (hb:za (kla_fn name qual params body scope [(x,cc)] pm (.ref c') ctv) args=pure (ps.zip us))(r:Vals vs us)(hl:vs.length=ps.length)(hCX:∀e s',CX outer H s (λ_ _ _=>False) e s'->False)
  (hbody:fQ qt k (A.deeper (nD qual scope s.heap.objs.size f (.ref c') [(x,cc)]))->∃t,PE (cxX qt CX P w K mg base N qual scope f (.ref c') x cc A outer s H (λ_ _ _=>False)) body t/\t (start N (vv::vs)) H Q) :
  zm (gk P w) A (.call (.ref f) args) (CR CX outer P w H s Q E) s:=by
 have of':s.heap.get? f=aj (kla_obj name qual params body scope [(x,cc)] pm c' ctv):=(e0.hok f _ hf).1;have lim:s.heap.NoLimit:=e0.mod.nolimit.keeps λb o e=>(e0.bs b o e).1
 have hrec:s.heap.CodeRec (.ref c') qual:=by
  obtain⟨oo,vs',t,e,d,q⟩:=rc;exact⟨c',oo,vs',t,rfl,(e0.hok c' _ e).1,d,q⟩
 have hloc:∀y∈ps.zip us,scope.names.lookup y.1=aj .local:=λ⟨n,v⟩ hy=>S.par n (a2v hy).1;refine kla_callFunE hr.depth of' rfl S.co S.gen rfl hrec ?_;rw[hb];refine dw (axD S.kind hloc λs1 y=>⟨lim.keeps y.call.keep,kla_codeExpr ?_⟩);obtain⟨t,ht,hq⟩:=hbody (hr.deeper _);have I:Inv (cxX qt CX P w K mg base N qual scope f (.ref c') x cc A outer s H (λ_ _ _=>False)) [] (start N (vv::vs)) H s1:=aiA S a6S hr.hd e0 hl r hc hH rv y;exact oh (ht [] s1 (start N (vv::vs)) H _ I hq) (by rintro u' s' ⟨v,H',J,rv',q⟩;exact⟨v,H',J.os,J.bare,J.base,J.hok,rv',q⟩) λe s' hs=>oh hs (λ_ s'' z=>(hCX _ _ z).elim) λe' s'' z=>(hCX _ _ z).elim
end
variable{pins:List (bx×Obj)}
section
inductive D where
 |non|bl (b:Bool)|int (i:Int)|str (x:Str)|tup (xs:List D)|ref (a:bx)|ty (n:String)
@[simp]def Fg:=iu
@[simp]def aeP(H:Hp)(a:bx)(xs:List V):Prop:=True
def aeQ(h:H a=aj (.tup xs)):aeP H a xs:=trivial
mutual
inductive RD(K:Fg)(H:Hp):D->V->Prop where
 |non:RD K H .non .non
 |bl (b:Bool):RD K H (.bl b) (.bl b)
 |int (i:Int):RD K H (.int i) (.int i)
 |str (x:Str):RD K H (.str x) (.str x)
 |ty (n:String):RD K H (.ty n) (.ty n)
 |ref (a:bx):RD K H (.ref a) (.ref a)
 |tup {a:bx} {xs:List V} {ds:List D}:oG K H a xs->cG K H ds xs->aeP H a xs->RD K H (.tup ds) (.ref a)
inductive cG(K:Fg)(H:Hp):List D->List V->Prop where
 |nil:cG K H [] []
 |cons {d:D} {v:V} {ds:List D} {vs:List V}:RD K H d v->cG K H ds vs->cG K H (d::ds) (v::vs)
end
structure Ts(H H':Hp):Prop where
 tups:∀a xs,H a=aj (.tup xs)->H' a=aj (.tup xs)
 j7:∀a o u,H a=aj (.j6 o u)->H' a=aj (.j6 o u)
def Ts.refl(H:Hp):Ts H H:=⟨λ_ _ h=>h,λ_ _ _ h=>h⟩
def Ts.trans(a:Ts H H1)(b:Ts H1 H2):Ts H H2:=⟨λc xs h=>b.tups c xs (a.tups c xs h),λc o u h=>b.j7 c o u (a.j7 c o u h)⟩
def Ts.same(s:Same H H'):Ts H H':=⟨λa _ h=>s a _ h,λa _ _ h=>s a _ h⟩
def Ts.rd(t:Ts H H')(h:Rd H a (.tup xs)):Rd H' a (.tup xs):=by
 rcases h with h|⟨o,h⟩
 .exact .inl (t.tups _ _ h)
 .exact .inr ⟨o,t.j7 _ _ _ h⟩
def Ts.sqT{K:Fg}(t:Ts H H')(h:oG K H a xs):oG K H' a xs:=h.elim (λq=>.inl (t.rd q)) .inr
def aeP.mono(t:Ts H H')(h:aeP H a xs):aeP H' a xs:=trivial
def bV(h:H p=aq):Same H (upd H p o):=λb u e=>by
 rw[aP (cF e h)];exact e
mutual
theorem RD.mono{K:Fg}{H H':Hp}(t:Ts H H'):∀{d:D}{v:V},RD K H d v->RD K H' d v
 |_,_,.non=>.non
 |_,_,.bl b=>.bl b
 |_,_,.int i=>.int i
 |_,_,.str x=>.str x
 |_,_,.ty n=>.ty n
 |_,_,.ref a=>.ref a
 |_,_,.tup h r e=>.tup (t.sqT h) (cG.mono t r) (e.mono t)
theorem cG.mono{K:Fg}{H H':Hp}(t:Ts H H'):∀{ds:List D}{vs:List V},cG K H ds vs->cG K H' ds vs
 |_,_,.nil=>.nil
 |_,_,.cons h r=>.cons (RD.mono t h) (cG.mono t r)
end
section
variable{K:Fg}
def cG.length:∀{ds:List D}{vs:List V},cG K H ds vs->ds.length=vs.length
 |_,_,.nil=>rfl
 |_,_,.cons _ r=>congrArg (·+1) (cG.length r)
def cG.append:∀{ds:List D}{vs:List V}{es:List D}{ws:List V},cG K H ds vs->cG K H es ws->cG K H (ds++es) (vs++ws)
 |_,_,_,_,.nil,s=>s
 |_,_,_,_,.cons h r,s=>.cons h (cG.append r s)
def cG.get:∀{ds:List D}{vs:List V}{i:Nat}{d:D},cG K H ds vs->ds[i]?=aj d->∃v,vs[i]?=aj v/\RD K H d v
 |_,_,_,_,.nil,e=>by simp at e
 |_,_,0,_,.cons r _,e=>by simp at e;subst e;exact⟨_,rfl,r⟩
 |_,_,i+1,d,.cons _ t,e=>by
  obtain⟨u,h1,h2⟩:=cG.get (i:=i) (d:=d) t (by simpa using e);exact⟨u,by simpa using h1,h2⟩
def cG.aeR:∀{ds:List D}{vs:List V}{i:Nat}{v:V},cG K H ds vs->vs[i]?=aj v->∃d,ds[i]?=aj d/\RD K H d v
 |_,_,_,_,.nil,e=>by simp at e
 |_,_,0,_,.cons r _,e=>by simp at e;subst e;exact⟨_,rfl,r⟩
 |_,_,i+1,d,.cons _ t,e=>by
  obtain⟨u,h1,h2⟩:=cG.aeR (i:=i) (v:=d) t (by simpa using e);exact⟨u,by simpa using h1,h2⟩
def cG.set(r:RD K H d v):∀{ds:List D}{vs:List V}(i:Nat),cG K H ds vs->cG K H (ds.set i d) (vs.set i v)
 |_,_,_,.nil=>.nil
 |_,_,0,.cons _ t=>.cons r t
 |_,_,i+1,.cons q t=>.cons q (cG.set r i t)
def cG.drop:∀{ds:List D}{vs:List V}(n:Nat),cG K H ds vs->cG K H (ds.drop n) (vs.drop n)
 |_,_,0,r=>r
 |_,_,_+1,.nil=>.nil
 |_,_,n+1,.cons _ t=>cG.drop n t
def cG.take:∀{ds:List D}{vs:List V}(n:Nat),cG K H ds vs->cG K H (ds.take n) (vs.take n)
 |_,_,0,_=>.nil
 |_,_,_+1,.nil=>.nil
 |_,_,n+1,.cons r t=>.cons r (cG.take n t)
def cG.ints(ns:List Int):cG K H (ns.map D.int) (ns.map V.int):=by
 induction ns with
 |nil=>exact .nil
 |cons n r ih=>exact .cons (.int n) ih
def cG.a0C(r:cG K H ds vs):vs=[]↔ds=[]:=by
 cases r<;>simp
end
@[simp]def DK:=Key ⊕ List Key
structure aqN where
 name:Str
 qual:Str
 params:Arguments
 body:List lq
 scope:ur
 x:Str
inductive GO where
 |lst (ds:List D)|rol (ds:List D)|jX (t:Bool) (kvs:List (DK×D))|ins (C:bx) (fs:List (Str×D))|exn (C:bx)|rdc (o:Obj) (t:Bool) (kvs:List (DK×D))|tpl (ds:List D)|qL (kvs:List (List Int×D))|tab (q:Str) (p:Pos)|clo (c:aqN) (d:D)
@[simp]def Gp:=Addr->Option GO
abbrev aM(G:Gp)(a:bx)(o:GO):Gp:=λb=>if b=a then aj o else G b
def aG:aM G a o a=aj o:=by unfold aM;rw[if_pos rfl]
variable{b:bx}
def bJ(h:b≠a):aM G a o b=G b:=by unfold aM;rw[if_neg h]
def bW(h:G b=aj u)(n:G a=aq):aM G a o b=aj u:=by
 rw[bJ];exact h;intro e;subst e;rw[h]at n;cases n
abbrev Le(G G':Gp):Prop:=∀a o,G a=aj o->G' a=aj o
def Le.refl(G:Gp):Le G G:=λ_ _ h=>h
def Le.trans(a:Le G G1)(b:Le G1 G2):Le G G2:=λc o h=>b c o (a c o h)
def Le.new(n:G a=aq):Le G (aM G a o):=λ_ _ h=>bW h n
def Le.free(l:Le G G')(h:G' a=aq):G a=aq:=by
 cases q:G a with
 |none=>rfl
 |some o=>have:=l a o q;rw[h]at this;cases this
abbrev kD:Key->D
 |.inl i=>.int i
 |.inr x=>.str x
abbrev dkD:DK->D
 |.inl k=>kD k
 |.inr ks=>.tup (ks.map kD)
inductive Two{α β:Type}(P:α->β->Prop):List α->List β->Prop where
 |nil:Two P [] []
 |cons {a:α} {b:β} {as:List α} {bs:List β}:P a b->Two P as bs->Two P (a::as) (b::bs)
def Two.imp{α β:Type}{P Q:α->β->Prop}(f:∀a b,P a b->Q a b):∀{as:List α}{bs:List β},Two P as bs->Two Q as bs
 |_,_,.nil=>.nil
 |_,_,.cons h r=>.cons (f _ _ h) (Two.imp f r)
def Two.length{α β:Type}{P:α->β->Prop}:∀{as:List α}{bs:List β},Two P as bs->as.length=bs.length
 |_,_,.nil=>rfl
 |_,_,.cons _ r=>congrArg (·+1) (Two.length r)
abbrev aBI(C a:bx)(h:jf):Prop:=∃o vs,h.get? a=aj o/\o.cls=.ref C/\o.data=.fields vs
abbrev toI(ks:List Key):List Int:=ks.map λk=>match k with
 |.inl i=>i
 |.inr _=>0
def ac7(ns:List Int):toI (ns.map Sum.inl)=ns:=by
 unfold toI;rw[jz];exact List.map_id _
abbrev anI(P:ju)(w:jq)(a:bx)(xs:List (List Key×bx×bh))(h:jf):Prop:=(a==vd)=ao/\∃o es ep,h.get? a=aj o/\o.ExactDict/\o.data=.dict es ep/\es.toList=xs.map (entryOfKey (zy (bN P w)))/\(xs.map (·.1)).Nodup
abbrev PlV(d:D)(u:bh):Prop:=(∃i t,d=.int i/\u=bh.int i t)∨∃b,d=.bl b/\u=bh.bool b
abbrev KmR(K:Fg)(H:Hp)(p:List Int×D)(x:List Key×bx×bh):Prop:=x.1=p.1.map Sum.inl/\oG K H x.2.1 (x.1.map kV)/\PlV p.2 x.2.2
abbrev OR(K:Fg)(H:Hp)(a:bx):GO->Prop
 |.lst ds=>∃xs,H a=aj (.lst xs)/\cG K H ds xs
 |.rol ds=>∃xs,qK K H a xs/\cG K H ds xs
 |.jX t kvs=>(t=ao/\∃xs:List (Key×V),H a=aj (.dK xs)/\Two (λp q=>p.1=.inl q.1/\RD K H p.2 q.2) kvs xs) ∨
   (t=ak/\∃xs:List (List Key×V),H a=aj (.dT xs)/\Two (λp q=>p.1=.inr q.1/\RD K H p.2 q.2) kvs xs)
 |.ins C fs=>∃(dx:bx)(vs:List (Str×V)),H a=aj (.ins C dx vs)/\Two (λp q=>p.1=q.1/\RD K H p.2 q.2) fs vs
 |.rdc o t kvs=>(t=ao/\∃xs:List (Key×V),H a=aj (.j6 o (.dK xs))/\Two (λp q=>p.1=.inl q.1/\RD K H p.2 q.2) kvs xs) ∨
   (t=ak/\∃xs:List (List Key×V),H a=aj (.j6 o (.dT xs))/\Two (λp q=>p.1=.inr q.1/\RD K H p.2 q.2) kvs xs)
 |.tpl ds=>∃xs,oG K H a xs/\cG K H ds xs
 |.tab q p=>∃ps,H a=aj (.zM ps)/\a0F H q p ps
 |.clo c d=>∃(cc c':bx)(doc pm ctv:bh)(ob:Obj)(u:bh)(v:V),H a=aj (frO (PySem.W.fnMade c.name c.qual c.params c.body c.scope [(c.x,cc)] doc pm c' ctv))/\yN H c' c.qual/\H cc=aj (frO ob)/\ob.data=.cell (aj u)/\RelV v u/\RD K H d v
 |.qL kvs=>∃o,H a=aj o/\((kvs=[]/\o=.dT [])∨∃(P:ju)(w:jq)(xs:List (List Key×bx×bh)),o=.ext (anI P w a xs)/\Paired (KmR K H) kvs xs)
 |.exn C=>∃o vs,H a=aj (.j6 o (.ext (aBI C a)))/\o.data=.fields vs/\vs[2]?=aj .none
abbrev HR(K:Fg)(H:Hp)(G:Gp):Prop:=∀a o,G a=aj o->OR K H a o
def OR.keep{K:Fg}(t:Ts H H')(h:OR K H a o)(k:∀u,H a=aj u->H' a=aj u):OR K H' a o:=by
 cases o with
 |lst ds=>obtain⟨xs,e,r⟩:=h;exact⟨xs,k _ e,r.mono t⟩
 |rol ds =>
  obtain⟨xs,e,r⟩:=h;refine⟨xs,?_,r.mono t⟩;rcases e with(e|⟨o,e⟩)|e
  .exact .inl (.inl (k _ e))
  .exact .inl (.inr ⟨o,k _ e⟩)
  .exact .inr e
 |jX b kvs =>
  rcases h with⟨z,xs,e,r⟩|⟨z,xs,e,r⟩
  .exact .inl ⟨z,xs,k _ e,r.imp λ_ _ q=>⟨q.1,q.2.mono t⟩⟩
  .exact .inr ⟨z,xs,k _ e,r.imp λ_ _ q=>⟨q.1,q.2.mono t⟩⟩
 |ins C fs=>obtain⟨dx,vs,e,r⟩:=h;exact⟨dx,vs,k _ e,r.imp λ_ _ q=>⟨q.1,q.2.mono t⟩⟩
 |rdc ob b kvs =>
  rcases h with⟨z,xs,e,r⟩|⟨z,xs,e,r⟩
  .exact .inl ⟨z,xs,k _ e,r.imp λ_ _ q=>⟨q.1,q.2.mono t⟩⟩
  .exact .inr ⟨z,xs,k _ e,r.imp λ_ _ q=>⟨q.1,q.2.mono t⟩⟩
 |exn C=>obtain⟨o,vs,e,r⟩:=h;exact⟨o,vs,k _ e,r⟩
 |tpl ds=>obtain⟨xs,e,r⟩:=h;exact⟨xs,t.sqT e,r.mono t⟩
 |qL kvs=>obtain⟨o,e,q⟩:=h;exact⟨o,k _ e,q.imp id λ⟨P,w,xs,e2,r⟩=>⟨P,w,xs,e2,Paired.ahY r λ_ _ z=>⟨z.1,t.sqT z.2.1,z.2.2⟩⟩⟩
 |tab q p=>obtain⟨ps,e,r⟩:=h;exact⟨ps,k _ e,r.keep λa o φ=>t.j7 a o _⟩
 |clo c d=>obtain⟨cc,c',doc,pm,ctv,ob,u,v,e1,e2,e3,e4,e5,e6⟩:=h;exact⟨cc,c',doc,pm,ctv,ob,u,v,k _ e1,e2.keep λa o φ=>t.j7 a o _,t.j7 _ _ _ e3,e4,e5,e6.mono t⟩
def HR.same{K:Fg}(h:HR K H G)(s:Same H H'):HR K H' G:=λa o e=>(h a o e).keep (.same s) λu q=>s a u q
def HR.le{K:Fg}(h:HR K H G')(l:Le G G'):HR K H G:=λa o e=>h a o (l a o e)
def HR.put{K:Fg}(h:HR K H G)(n:H p=aq)(new:OR K (upd H p o) p u):HR K (upd H p o) (aM G p u):=λa v e=>by
 by_cases q:a=p
 .subst q;rw[aG]at e;cases e;exact new
 .rw[bJ q]at e;exact(h a v e).keep (.same (bV n)) λw z=>bV n a w z
def HR.turn{K:Fg}(h:HR K H G)(t:Ts H (upd H p o))(new:OR K (upd H p o) p u):HR K (upd H p o) (aM G p u):=λa v e=>by
 by_cases q:a=p
 .subst q;rw[aG]at e;cases e;exact new
 .rw[bJ q]at e;exact(h a v e).keep t λw z=>by rw[aP q];exact z
def Ts.turn(e:H p=aj u)(h1:∀xs,u≠.tup xs)(h2:∀ob w,u≠.j6 ob w):Ts H (upd H p o):=by
 refine⟨λa xs q=>?_,λa ob w q=>?_⟩
 .rw[aP];exact q;intro z;subst z;rw[e]at q;exact h1 xs (jd.inj q)
 .rw[aP];exact q;intro z;subst z;rw[e]at q;exact h2 ob w (jd.inj q)
@[simp]def aN:=List (Option D)
@[simp]def eV:=D->Gp->Prop
@[simp]def cO:=aN->Gp->eV->Prop
@[simp]def vD:=aN->Gp->(Bool->Gp->Prop)->Prop
@[simp]def qM:=aN->Gp->(List D->Gp->Prop)->Prop
abbrev at3:aN->Nat->Option D
 |[],_=>aq
 |x::_,0=>x
 |_::r,n+1=>at3 r n
abbrev a2T:aN->Nat->D->aN
 |[],_,_=>[]
 |_::r,0,d=>aj d::r
 |x::r,n+1,d=>x::a2T r n d
inductive SR(K:Fg)(H:Hp):aN->St->Prop where
 |nil:SR K H [] []
 |none {ρ:aN} {σ:St} {v:Option V}:SR K H ρ σ->SR K H (a1l::ρ) (v::σ)
 |some {ρ:aN} {σ:St} {d:D} {v:V}:RD K H d v->SR K H ρ σ->SR K H (jd d::ρ) (jd v::σ)
def SR.mono{K:Fg}(t:Ts H H'):∀{ρ:aN}{σ:St},SR K H ρ σ->SR K H' ρ σ
 |_,_,.nil=>.nil
 |_,_,.none r=>.none (SR.mono t r)
 |_,_,.some h r=>.some (h.mono t) (SR.mono t r)
def SR.get{K:Fg}:∀{ρ:aN}{σ:St}{i:Nat}{d:D},SR K H ρ σ->at3 ρ i=jd d->∃v,σ[i]?=jd (jd v)/\RD K H d v
 |_,_,_,_,.nil,e=>by simp[at3]at e
 |_,_,0,_,.none _,e=>by simp[at3]at e
 |_,_,0,_,.some h _,e=>by simp[at3]at e;subst e;exact⟨_,rfl,h⟩
 |_,_,i+1,_,.none r,e=>by
  obtain⟨v,h1,h2⟩:=SR.get (i:=i) r (by simpa[at3]using e);exact⟨v,by simpa using h1,h2⟩
 |_,_,i+1,_,.some _ r,e=>by
  obtain⟨v,h1,h2⟩:=SR.get (i:=i) r (by simpa[at3]using e);exact⟨v,by simpa using h1,h2⟩
def SR.set{K:Fg}(q:RD K H d v):∀{ρ:aN}{σ:St}(i:Nat),SR K H ρ σ->SR K H (a2T ρ i d) (σ.set i (jd v))
 |_,_,_,.nil=>.nil
 |_,_,0,.none r=>.some q r
 |_,_,0,.some _ r=>.some q r
 |_,_,i+1,.none r=>.none (SR.set q i r)
 |_,_,i+1,.some h r=>.some h (SR.set q i r)
def SR.len{K:Fg}:∀{ρ:aN}{σ:St},SR K H ρ σ->ρ.length=σ.length
 |_,_,.nil=>rfl
 |_,_,.none r=>congrArg (·+1) (SR.len r)
 |_,_,.some _ r=>congrArg (·+1) (SR.len r)
abbrev sU(n:Nat)(ds:List D):aN:=ds.map jd++a0d (n - ds.length) a1l
def SR.nones{K:Fg}:∀n:Nat,SR K H (a0d n a1l) (a0d n a1l)
 |0=>.nil
 |n+1=>.none (SR.nones n)
def SR.entry{K:Fg}{k:Nat}:∀{ds:List D}{vs:List V},cG K H ds vs->SR K H (ds.map jd++a0d k a1l) (vs.map jd++a0d k a1l)
 |_,_,.nil=>SR.nones k
 |_,_,.cons h r=>.some h (SR.entry r)
abbrev upE(K:Fg)(t:cO):TE:=λσ H Q=>∃ρ G R,SR K H ρ σ/\HR K H G/\t ρ G R/\∀v H' d G',Ts H H'->RD K H' d v->HR K H' G'->R d G'->Q v H'
abbrev upT(K:Fg)(t:vD):TT:=λσ H Q=>∃ρ G R,SR K H ρ σ/\HR K H G/\t ρ G R/\∀b H' G',Ts H H'->HR K H' G'->R b G'->Q b H'
abbrev upA(K:Fg)(t:qM):TA:=λσ H Q=>∃ρ G R,SR K H ρ σ/\HR K H G/\t ρ G R/\∀vs H' ds G',Ts H H'->cG K H' ds vs->HR K H' G'->R ds G'->Q vs H'
@[simp]def cU(X:Cx)(e:jc)(t:cO):Prop:=PE X e (upE X.K t)
@[simp]def PT3(X:Cx)(e:jc)(t:vD):Prop:=PT X e (upT X.K t)
@[simp]def PW3(X:Cx)(e:jc)(t:vD):Prop:=PW X e (upT X.K t)
@[simp]def PA3(X:Cx)(es:List jc)(t:qM):Prop:=PA X es (upA X.K t)
structure cR where
 nx:aN->Gp->Prop
 rt:eV
 bk:aN->Gp->Prop:=λ_ _=>False
 ct:aN->Gp->Prop:=λ_ _=>False
@[simp]def bC:=cR->aN->Gp->Prop
structure UpD(K:Fg)(E:cR)(F:Ends):Prop where
 nx:∀ρ G σ H',SR K H' ρ σ->HR K H' G->E.nx ρ G->F.nx σ H'
 rt:∀d G v H',RD K H' d v->HR K H' G->E.rt d G->F.rt v H'
 bk:∀ρ G σ H',SR K H' ρ σ->HR K H' G->E.bk ρ G->F.bk σ H'
 ct:∀ρ G σ H',SR K H' ρ σ->HR K H' G->E.ct ρ G->F.ct σ H'
abbrev upS(K:Fg)(t:bC):TS:=λF σ H=>∃ρ G E,SR K H ρ σ/\HR K H G/\t E ρ G/\UpD K E F
@[simp]def PS3(X:Cx)(st:lq)(t:bC):Prop:=PS X st (upS X.K t)
@[simp]def zO(X:Cx)(st:List lq)(t:bC):Prop:=PSs X st (upS X.K t)
section
variable{X:Cx}
def PE.imp{t:TE}(h:PE X e t)(k:∀σ H Q,t' σ H Q->t σ H Q):PE X e t':=λpins s σ H Q I q=>h pins s σ H Q I (k _ _ _ q)
def PT.imp{t:TT}(h:PT X e t)(k:∀σ H Q,t' σ H Q->t σ H Q):PT X e t':=λpins s σ H Q I q=>h pins s σ H Q I (k _ _ _ q)
def PW.imp{t:TT}(h:PW X e t)(k:∀σ H Q,t' σ H Q->t σ H Q):PW X e t':=λwh pins s σ H Q I q=>h wh pins s σ H Q I (k _ _ _ q)
def PA.imp{t:TA}(h:PA X e t)(k:∀σ H Q,t' σ H Q->t σ H Q):PA X e t':=λp pins s σ H Q I q=>h p pins s σ H Q I (k _ _ _ q)
def PS.imp{t:TS}(h:PS X e t)(k:∀F σ H,t' F σ H->t F σ H):PS X e t':=λpins s σ H F I q=>h pins s σ H F I (k _ _ _ q)
abbrev KF(K:Fg)(H:Hp):Prop:=∀b o,K.lookup b=aj o->H b=aq
def yO(I:Inv X pins σ H s):KF X.K H:=λb o e=>(I.bs b o (I.ok.mod.kin b o e)).2
def PE.kf{t:TE}(h:PE X e t):PE X e (λσ H Q=>t σ H λv H'=>KF X.K H'->Q v H'):=λpins s σ H Q I q =>
 cY (h pins s σ H _ I q) λ_ _ ⟨v,H',I',r,q'⟩=>⟨v,H',I',r,q' (yO I')⟩
def PSs.imp{t:TS}(h:PSs X e t)(k:∀F σ H,t' F σ H->t F σ H):PSs X e t':=λpins s σ H F I q=>h pins s σ H F I (k _ _ _ q)
end
def jY{K:Fg}(g:HR K H G)(n:H p=aq)(k:KF K (upd H p o)):G p=aq:=by
 have kn:K.lookup p=aq:=by
  cases q:K.lookup p with
  |none=>rfl
  |some u=>have:=k p u q;rw[aL]at this;cases this
 cases q:G p with
 |none=>rfl
 |some u =>
  have z:=g p u q;cases u with
  |lst ds=>obtain⟨xs,e,_⟩:=z;rw[n]at e;cases e
  |rol ds =>
   obtain⟨xs,e,_⟩:=z;rcases e with(e|⟨o,e⟩)|⟨o,_,_,e,_⟩
   .rw[n]at e;cases e
   .rw[n]at e;cases e
   .rw[kn]at e;cases e
  |jX tt kvs =>
   rcases z with⟨_,xs,e,_⟩|⟨_,xs,e,_⟩
   .rw[n]at e;cases e
   .rw[n]at e;cases e
  |rdc ob tt kvs =>
   rcases z with⟨_,xs,e,_⟩|⟨_,xs,e,_⟩
   .rw[n]at e;cases e
   .rw[n]at e;cases e
  |ins C fs=>obtain⟨dx,vs,e,_⟩:=z;rw[n]at e;cases e
  |exn C=>obtain⟨o,vs,e,_⟩:=z;rw[n]at e;cases e
  |qL kvs=>obtain⟨_,e,_⟩:=z;rw[n]at e;cases e
  |tab q p=>obtain⟨_,e,_⟩:=z;rw[n]at e;cases e
  |clo c d=>obtain⟨_,_,_,_,_,_,_,_,e,_⟩:=z;rw[n]at e;cases e
  |tpl ds =>
   obtain⟨xs,e,_⟩:=z;rcases e with(e|⟨o,e⟩)|⟨o,_,_,e,_⟩
   .rw[n]at e;cases e
   .rw[n]at e;cases e
   .rw[kn]at e;cases e
section
variable{X:Cx}{b c:jc}{ta tb tc:cO}{pos:Pos}
abbrev aA(i:Nat):cO:=λρ G R=>match at3 ρ i with
 |some d=>R d G
 |none=>False
abbrev aR(d:D):cO:=λ_ G R=>R d G
private theorem aE8{K:Fg}{Q:VK}(h:upE K (aA i) σ H Q):aD2 i σ H Q:=by
 obtain⟨ρ,G,R,s,g,t,k⟩:=h;unfold aA at t;split at t
 .rename_i d e;obtain⟨v,h1,h2⟩:=s.get e;exact⟨v,h1,k v H d G (.refl H) h2 g t⟩
 .exact t.elim
def anK{K:Fg}(r:∀H,RD K H d v){Q:VK}(h:upE K (aR d) σ H Q):tC v σ H Q:=by
 obtain⟨ρ,G,R,s,g,t,k⟩:=h;exact k v H d G (.refl H) (r H) g t
def aBK(i:Nat)(hN:X.N[i]?=aj x:=by rfl)(hv:Vis X.env.scope x:=by first|exact Or.inl rfl|exact Or.inr (Or.inl rfl)|exact Or.inr (Or.inr rfl))(hd:(x==("__debug__":Str))=ao:=by decide)
  (hcd:(x==("__classdict__":Str))=ao:=by decide):cU X (.Name x pos) (aA i):=PE.imp (apR hN hv hd hcd) λ_ _ _ h=>aE8 h
def aK8{i j pos}:cU X (.Constant (.int i) j pos) (aR (.int i)):=PE.imp aD3 λ_ _ _ h=>anK (λ_=>.int i) h
def aPH{b j pos}:cU X (.Constant (.bool b) j pos) (aR (.bl b)):=PE.imp aJ6 λ_ _ _ h=>anK (λ_=>.bl b) h
def aK9{j pos}:cU X (.Constant .none j pos) (aR .non):=PE.imp aD4 λ_ _ _ h=>anK (λ_=>.non) h
def aKA{x j pos}:cU X (.Constant (.str x) j pos) (aR (.str x)):=PE.imp aD5 λ_ _ _ h=>anK (λ_=>.str x) h
def aE9(hg:Gl X x)(hm:X.mg x=aj u)(r:RelV v u)(rd:∀H,RD X.K H d v)(hd:(x==("__debug__":Str))=ao:=by decide):cU X (.Name x pos) (aR d) :=
 PE.imp (awL hg hm r hd) λ_ _ _ h=>anK rd h
def aEA{n:String}(hg:Gl X x)(hm:X.mg x=aq)(hv:jw x=aj (.type n))(hn:x≠"__name__":=by decide)(hd:(x==("__debug__":Str))=ao:=by decide):cU X (.Name x pos) (aR (.ty n)) :=
 PE.imp (awM hg hm hv (v:=.ty n) rfl hn hd) λ_ _ _ h=>anK (λ_=>.ty n) h
@[simp]def R3:=D->D->Gp->eV->Prop
abbrev OpI(K:Fg)(r:R2)(r3:R3):Prop:=∀(H:Hp)(x y:D)(vx vy:V)(G:Gp)(R:eV)(Q:VK),RD K H x vx->RD K H y vy->HR K H G->r3 x y G R->(∀v H' d G',Ts H H'->RD K H' d v->HR K H' G'->R d G'->Q v H')->r vx vy H λv H'=>KF K H'->Q v H'
abbrev a6T(X:Cx)(f:bh->bh->Sem bh)(r3:R3):Prop:=∃r,qH X f r/\OpI X.K r r3
abbrev OpC(K:Fg)(r:R2)(r3:R3):Prop:=∀(H:Hp)(x y:D)(vx vy:V)(G:Gp)(R:eV)(Q:VK),RD K H x vx->RD K H y vy->HR K H G->r3 x y G R->(∀v H' d G',Ts H H'->RD K H' d v->HR K H' G'->R d G'->Q v H')->r vx vy H Q
abbrev oH(X:Cx)(f:bh->bh->Sem bh)(r3:R3):Prop:=∃r,qH X f r/\OpC X.K r r3
abbrev aD(r:R3)(ta tb:cO):cO:=λρ G R=>ta ρ G λx G1=>tb ρ G1 λy G2=>r x y G2 R
variable{r3:R3}
def aKB{K:Fg}(o:OpI K r r3){Q:VK}(h:upE K (aD r3 ta tb) σ H Q):tOp r (upE K ta) (upE K tb) σ H λv H'=>KF K H'->Q v H':=by
 obtain⟨ρ,G,R,s,g,t,k⟩:=h;refine⟨ρ,G,_,s,g,t,λvx H1 x G1 t1 rx g1 t'=>?_⟩;refine⟨ρ,G1,_,s.mono t1,g1,t',λvy H2 y G2 t2 ry g2 t''=>?_⟩;exact o H2 x y vx vy G2 R Q (rx.mono t2) ry g2 t'' λv H' d G' t3=>k v H' d G' ((t1.trans t2).trans t3)
def aiB{K:Fg}(o:OpC K r r3){Q:VK}(h:upE K (aD r3 ta tb) σ H Q):tOp r (upE K ta) (upE K tb) σ H Q:=by
 obtain⟨ρ,G,R,s,g,t,k⟩:=h;refine⟨ρ,G,_,s,g,t,λvx H1 x G1 t1 rx g1 t'=>?_⟩;refine⟨ρ,G1,_,s.mono t1,g1,t',λvy H2 y G2 t2 ry g2 t''=>?_⟩;exact o H2 x y vx vy G2 R Q (rx.mono t2) ry g2 t'' λv H' d G' t3=>k v H' d G' ((t1.trans t2).trans t3)
def aPI(o:a6T X (wu op) r3)(ha:cU X a ta)(hb:cU X b tb):cU X (.BinOp a op b pos) (aD r3 ta tb):=by
 obtain⟨r,o1,o2⟩:=o;exact PE.imp (PE.kf (aJK o1 ha hb)) λ_ _ _ h=>aKB o2 h
def aBL(o:oH X (jm op) r3)(ha:cU X a ta)(hb:cU X b tb)(hm:a01 op b=ao):cU X (.Compare a [op] [b] pos) (aD r3 ta tb):=by
 obtain⟨r,o1,o2⟩:=o;exact PE.imp (awW o1 ha hb hm) λ_ _ _ h=>aiB o2 h
abbrev aK(t:cO):vD:=λρ G R=>t ρ G λx G1=>match x with
 |.bl k=>R k G1
 |_=>False
def ac8{K:Fg}{t:TE}(f:∀σ H Q,upE K t3 σ H Q->t σ H Q)(h:upT K (aK t3) σ H Q):aq2 t σ H Q:=by
 obtain⟨ρ,G,R,s,g,u,k⟩:=h;refine f _ _ _ ⟨ρ,G,_,s,g,u,λv H' d G' t1 r g1 q=>?_⟩;cases r with
 |bl b=>exact⟨b,rfl,k b H' G' t1 g1 q⟩
 |_=>exact q.elim
def aBM(o:oH X (jm op) r3)(ha:cU X a ta)(hb:cU X b tb)(hm:a01 op b=ao):PT3 X (.Compare a [op] [b] pos) (aK (aD r3 ta tb)):=by
 obtain⟨r,o1,o2⟩:=o;exact PT.imp (awX o1 ha hb hm) λ_ _ _ h=>ac8 (λ_ _ _=>aiB o2) h
def aKC{e:jc}{t:cO}(h:cU X e t)(he:∀whole,isTrue e X.env whole=(do let v ←whole;standAt e.pos;holding [v] (truthy v)):=by intro _;rfl):PT3 X e (aK t) :=
 PT.imp (aD6 h he) λ_ _ _ h=>ac8 (λ_ _ _ q=>q) h
abbrev oO(r r':R3)(ta tb tc:cO):cO:=λρ G R=>ta ρ G λx G1=>tb ρ G1 λy G2=>r x y G2 λz G3=>match z with
 |.bl ak=>tc ρ G3 λw G4=>r' y w G4 R
 |.bl ao=>R (.bl ao) G3
 |_=>False
variable{r3':R3}
def aeT{K:Fg}(o:OpC K r r3)(o':OpC K r' r3'){Q:VK}(h:upE K (oO r3 r3' ta tb tc) σ H Q):ai3 r r' (upE K ta) (upE K tb) (upE K tc) σ H Q:=by
 obtain⟨ρ,G,R,s,g,t,k⟩:=h;refine⟨ρ,G,_,s,g,t,λvx H1 x G1 t1 rx g1 t'=>?_⟩;refine⟨ρ,G1,_,s.mono t1,g1,t',λvy H2 y G2 t2 ry g2 t''=>?_⟩;refine o H2 x y vx vy G2 _ _ (rx.mono t2) ry g2 t'' λv H3 d G3 t3 rd g3 q=>?_;cases rd with
 |bl b =>
  refine⟨b,rfl,?_⟩;cases b with
  |true =>
   rw[if_pos rfl];refine⟨ρ,G3,_,s.mono ((t1.trans t2).trans t3),g3,q,λvw H4 w G4 t4 rw' g4 q'=>?_⟩;exact o' H4 y w vy vw G4 R Q (ry.mono (t3.trans t4)) rw' g4 q' λv H' d G' t5=>k v H' d G' (((t1.trans t2).trans t3).trans (t4.trans t5))
  |false =>
   rw[if_neg pq];exact k _ H3 _ G3 ((t1.trans t2).trans t3) (.bl ao) g3 q
 |_=>exact q.elim
def axF(o:oH X (jm op) r3)(o':oH X (jm op') r3')(ha:cU X a ta)(hb:cU X b tb)(hc:cU X c tc)
  (hm:lastMarks [op,op'] [b,c]=ao:=by with_unfolding_all rfl):cU X (.Compare a [op,op'] [b,c] pos) (oO r3 r3' ta tb tc):=by
 obtain⟨r,o1,o2⟩:=o;obtain⟨r',o1',o2'⟩:=o';exact PE.imp (aq3 o1 o1' ha hb hc hm) λ_ _ _ h=>aeT o2 o2' h
def axG(o:oH X (jm op) r3)(o':oH X (jm op') r3')(ha:cU X a ta)(hb:cU X b tb)(hc:cU X c tc)
  (hm:lastMarks [op,op'] [b,c]=ao:=by with_unfolding_all rfl):PT3 X (.Compare a [op,op'] [b,c] pos) (aK (oO r3 r3' ta tb tc)):=by
 obtain⟨r,o1,o2⟩:=o;obtain⟨r',o1',o2'⟩:=o';exact PT.imp (aq4 o1 o1' ha hb hc hm) λ_ _ _ h=>ac8 (λ_ _ _=>aeT o2 o2') h
variable{sa:vD}{rest:List jc}
abbrev u5(t u:vD):vD:=λρ G R=>t ρ G λc G1=>if c=ak then u ρ G1 R else R ao G1
abbrev pR(t u:vD):vD:=λρ G R=>t ρ G λc G1=>if c=ak then R ak G1 else u ρ G1 R
abbrev j8(t:vD):vD:=λρ G R=>t ρ G λc G1=>R (!c) G1
def aEB{K:Fg}(h:upT K (u5 sa sb) σ H Q):aJ7 (upT K sa) (upT K sb) σ H Q:=by
 obtain⟨ρ,G,R,s,g,t,k⟩:=h;refine⟨ρ,G,_,s,g,t,λc H1 G1 t1 g1 q=>?_⟩;cases c with
 |true=>exact⟨ρ,G1,R,s.mono t1,g1,q,λb H' G' t2=>k b H' G' (t1.trans t2)⟩
 |false=>exact k ao H1 G1 t1 g1 q
def aKD{K:Fg}(h:upT K (pR sa sb) σ H Q):tOr (upT K sa) (upT K sb) σ H Q:=by
 obtain⟨ρ,G,R,s,g,t,k⟩:=h;refine⟨ρ,G,_,s,g,t,λc H1 G1 t1 g1 q=>?_⟩;cases c with
 |false=>exact⟨ρ,G1,R,s.mono t1,g1,q,λb H' G' t2=>k b H' G' (t1.trans t2)⟩
 |true=>exact k ak H1 G1 t1 g1 q
def aEC(ha:PT3 X a sa):PW3 X (.BoolOp .And [a] pos) sa:=awN ha
def aKE(ha:PT3 X a sa):PW3 X (.BoolOp .Or [a] pos) sa:=aD7 ha
def aKF(ha:PT3 X a sa)(hb:PW3 X (.BoolOp .And (b::rest) pos) sb):PW3 X (.BoolOp .And (a::b::rest) pos) (u5 sa sb):=PW.imp (aD8 ha hb) λ_ _ _ h=>aEB h
def aPJ(ha:PT3 X a sa)(hb:PW3 X (.BoolOp .Or (b::rest) pos) sb):PW3 X (.BoolOp .Or (a::b::rest) pos) (pR sa sb):=PW.imp (aJ9 ha hb) λ_ _ _ h=>aKD h
def aKG(ha:PT3 X a sa):PT3 X (.UnaryOp .Not a pos) (j8 sa):=PT.imp (aD9 ha) λσ H Q h=>by
 obtain⟨ρ,G,R,s,g,t,k⟩:=h;exact⟨ρ,G,_,s,g,t,λc H1 G1 t1 g1 q=>k (!c) H1 G1 t1 g1 q⟩
abbrev nF(ta tb:cO):cO:=λρ G R=>ta ρ G λx G1=>match x with
 |.bl ak=>tb ρ G1 R
 |.bl ao=>R (.bl ao) G1
 |_=>False
abbrev aBN(ta tb:cO):cO:=λρ G R=>ta ρ G λx G1=>match x with
 |.bl ak=>R (.bl ak) G1
 |.bl ao=>tb ρ G1 R
 |_=>False
abbrev a6U(ta:cO):cO:=λρ G R=>ta ρ G λx G1=>match x with
 |.bl c=>R (.bl (!c)) G1
 |_=>False
def aBO{op}(h:cU X a ta):cU X (.BoolOp op [a] pos) ta:=aDA h
def aKH(ha:cU X a ta)(hb:cU X (.BoolOp .And (b::rest) pos) tb):cU X (.BoolOp .And (a::b::rest) pos) (nF ta tb):=PE.imp (aDB ha hb) λσ H Q h=>by
 obtain⟨ρ,G,R,s,g,t,k⟩:=h;refine⟨ρ,G,_,s,g,t,λv H1 x G1 t1 r g1 q=>?_⟩;cases r with
 |bl c =>
  refine⟨c,rfl,?_⟩;cases c with
  |true=>exact⟨ρ,G1,R,s.mono t1,g1,q,λb H' d G' t2=>k b H' d G' (t1.trans t2)⟩
  |false=>exact k _ H1 _ G1 t1 (.bl ao) g1 q
 |_=>exact q.elim
def aPK(ha:cU X a ta)(hb:cU X (.BoolOp .Or (b::rest) pos) tb):cU X (.BoolOp .Or (a::b::rest) pos) (aBN ta tb):=PE.imp (aJC ha hb) λσ H Q h=>by
 obtain⟨ρ,G,R,s,g,t,k⟩:=h;refine⟨ρ,G,_,s,g,t,λv H1 x G1 t1 r g1 q=>?_⟩;cases r with
 |bl c =>
  refine⟨c,rfl,?_⟩;cases c with
  |false=>exact⟨ρ,G1,R,s.mono t1,g1,q,λb H' d G' t2=>k b H' d G' (t1.trans t2)⟩
  |true=>exact k _ H1 _ G1 t1 (.bl ak) g1 q
 |_=>exact q.elim
def aKI(ha:cU X a ta):cU X (.UnaryOp .Not a pos) (a6U ta):=PE.imp (aDC ha) λσ H Q h=>by
 obtain⟨ρ,G,R,s,g,t,k⟩:=h;refine⟨ρ,G,_,s,g,t,λv H1 x G1 t1 r g1 q=>?_⟩;cases r with
 |bl c=>exact⟨c,rfl,k _ H1 _ G1 t1 (.bl _) g1 q⟩
 |_=>exact q.elim
abbrev aqO(t:vD)(ta tb:cO):cO:=λρ G R=>t ρ G λc G1=>if c=ak then ta ρ G1 R else tb ρ G1 R
def axH{c:jc}(hc:PT3 X c sa)(ha:cU X a ta)(hb:cU X b tb):cU X (.IfExp c a b pos) (aqO sa ta tb):=PE.imp (apT hc ha hb) λσ H Q h=>by
 obtain⟨ρ,G,R,s,g,t,k⟩:=h;refine⟨ρ,G,_,s,g,t,λc H1 G1 t1 g1 q=>?_⟩;cases c with
 |true=>exact⟨ρ,G1,R,s.mono t1,g1,q,λb H' d G' t2=>k b H' d G' (t1.trans t2)⟩
 |false=>exact⟨ρ,G1,R,s.mono t1,g1,q,λb H' d G' t2=>k b H' d G' (t1.trans t2)⟩
end
section
variable{X:Cx}{t:qM}{pos:Pos}
abbrev aC:qM:=λ_ G R=>R [] G
abbrev aB(ta:cO)(tr:qM):qM:=λρ G R=>ta ρ G λx G1=>tr ρ G1 λxs G2=>R (x::xs) G2
def u6:PA3 X [] aC:=PA.imp aDR λσ H Q h=>by
 obtain⟨ρ,G,R,s,g,t,k⟩:=h;exact k [] H [] G (.refl H) .nil g t
def dN(ha:cU X e te)(hr:PA3 X es t)(hs:jt (e::es) X.env=(ao,eval e X.env)::jt es X.env:=by rfl):PA3 X (e::es) (aB te t):=PA.imp (awY ha hr hs) λσ H Q h=>by
 obtain⟨ρ,G,R,s,g,t,k⟩:=h;refine⟨ρ,G,_,s,g,t,λv H1 x G1 t1 r g1 q=>?_⟩;refine⟨ρ,G1,_,s.mono t1,g1,q,λvs H2 xs G2 t2 rs g2 q'=>?_⟩;exact k (v::vs) H2 (x::xs) G2 (t1.trans t2) (.cons (r.mono t2) rs) g2 q'
abbrev cP(t:qM):cO:=λρ G R=>t ρ G λxs G1=>xs.length<=dh/\R (.tup xs) G1
abbrev eF(t:qM):cO:=λρ G R=>t ρ G λxs G1=>xs.length<=dh/\∀p,G1 p=aq->R (.ref p) (aM G1 p (.lst xs))
def aBP{x1}(h:PA3 X es t):cU X (.Tuple es x1 pos) (cP t):=PE.imp (aDS h) λσ H Q h=>by
 obtain⟨ρ,G,R,s,g,t,k⟩:=h;refine⟨ρ,G,_,s,g,t,λvs H1 xs G1 t1 r g1 q=>?_⟩;refine⟨by rw[←r.length];exact q.1,λp hp=>?_⟩;have sn:Same H1 (upd H1 p (.tup vs)):=bV hp;exact k (.ref p) _ (.tup xs) G1 (t1.trans (.same sn)) (.tup (oG.of aL) (r.mono (.same sn)) (aeQ aL)) (g1.same sn) q.2
def aKJ(h:PA3 X es t):cU X (.List es pos) (eF t):=PE.imp (PE.kf (aDT h)) λσ H Q h=>by
 obtain⟨ρ,G,R,s,g,t,k⟩:=h;refine⟨ρ,G,_,s,g,t,λvs H1 xs G1 t1 r g1 q=>?_⟩;refine⟨by rw[←r.length];exact q.1,λp hp kf=>?_⟩;have sn:Same H1 (upd H1 p (.lst vs)):=bV hp;exact k (.ref p) _ (.ref p) _ (t1.trans (.same sn)) (.ref p) (g1.put (u:=.lst xs) hp ⟨vs,aL,r.mono (.same sn)⟩) (q.2 p (jY g1 hp kf))
end
end
variable{g:Int->Int->Int}
section
section
variable{X:Cx}{a b c:jc}{pos:Pos}
abbrev rI3(C:Int->Int->Prop)(g:Int->Int->Int):R3:=λx y G R=>match x,y with
 |.int i,.int j=>C i j/\R (.int (g i j)) G
 |_,_=>False
abbrev aKL(g:Int->Int->Int):R3:=λx y G R=>match x,y with
 |.int i,.int j=>R (.int (g i j)) G
 |_,_=>False
abbrev axI(g:Int->Int->Bool):R3:=λx y G R=>match x,y with
 |.int i,.int j=>R (.bl (g i j)) G
 |_,_=>False
def akJ(h:qH X f (rI C λi j=>.int (g i j))):a6T X f (rI3 C g):=by
 refine⟨_,h,λH x y vx vy G R Q rx ry gh h k=>?_⟩;cases rx with
 |int i =>
  cases ry with
  |int j=>exact⟨i,j,rfl,rfl,h.1,λ_=>k _ H _ G (.refl H) (.int _) gh h.2⟩
  |_=>exact False.elim h
 |_=>exact False.elim h
def aED(h:qH X f (rI0 λi j=>.int (g i j))):a6T X f (aKL g):=by
 refine⟨_,h,λH x y vx vy G R Q rx ry gh h k=>?_⟩;cases rx with
 |int i =>
  cases ry with
  |int j=>exact⟨i,j,rfl,rfl,λ_=>k _ H _ G (.refl H) (.int _) gh h⟩
  |_=>exact False.elim h
 |_=>exact False.elim h
def aiC{g:Int->Int->Bool}(h:qH X f (rI0 λi j=>.bl (g i j))):oH X f (axI g):=by
 refine⟨_,h,λH x y vx vy G R Q rx ry gh h k=>?_⟩;cases rx with
 |int i =>
  cases ry with
  |int j=>exact⟨i,j,rfl,rfl,k _ H _ G (.refl H) (.bl _) gh h⟩
  |_=>exact False.elim h
 |_=>exact False.elim h
abbrev jW:R3:=aKL λi j=>i - j
abbrev oR:R3:=rI3 aq1 λi j=>i*j
abbrev gK:R3:=rI3 aDJ λi j=>i / j
abbrev eX:R3:=rI3 (λ_ j=>0<j) λi j=>i%j
abbrev aBQ:R3:=rI3 aJN λi j=>i^j.toNat
def aKM:a6T X (wu .Sub) jW:=aED aDL
def aKN:a6T X (wu .Mult) oR:=akJ aDM
def aEE:a6T X (wu .FloorDiv) gK:=akJ awU
def aKO:a6T X (wu .Mod) eX:=akJ aDN
def aKP:a6T X (wu .Pow) aBQ:=akJ aDO
abbrev a5E:R3:=axI λi j=>decide (i<j)
abbrev a6V:R3:=axI λi j=>decide (j<i)
abbrev axJ:R3:=axI λi j=>decide (j<=i)
def aPL:oH X (jm .Lt) a5E:=aiC aJO
def aPM:oH X (jm .Gt) a6V:=aiC aJQ
def aPN:oH X (jm .GtE) axJ:=aiC aJR
abbrev anL:R3:=λx y G R=>match x,y with
 |.int i,.int j=>R (.bl (decide (i<=j))) G
 |.str i,.str j=>R (.bl (!decide (j.cps.toList<i.cps.toList))) G
 |_,_=>False
def anM:qH X (jm .LtE) (λx y H Q=>∃i j,x=.str i/\y=.str j/\Q (.bl (!decide (j.cps.toList<i.cps.toList))) H):=by
 intro pins s σ H x y v u Q I rx ry h;obtain⟨i,j,rfl,rfl,q⟩:=h;obtain⟨t,rfl⟩:=rx;obtain⟨t',rfl⟩:=ry;exact PySem.P.le_str ⟨.bl _,H,I,rfl,q⟩
def aPO:oH X (jm .LtE) anL:=by
 refine⟨_,aJP.or anM,λH x y vx vy G R Q rx ry gh h k=>?_⟩;cases rx with
 |int i =>
  cases ry with
  |int j=>exact .inl ⟨i,j,rfl,rfl,k _ H _ G (.refl H) (.bl _) gh h⟩
  |_=>exact False.elim h
 |str i =>
  cases ry with
  |str j=>exact .inr ⟨i,j,rfl,rfl,k _ H _ G (.refl H) (.bl _) gh h⟩
  |_=>exact False.elim h
 |_=>exact False.elim h
abbrev cB:R3:=λx y G R=>match x,y with
 |.int i,.int j=>R (.int (i+j)) G
 |.str i,.str j=>i.length+j.length<=dh/\R (.str (i++j)) G
 |.tup xs,.tup ys=>xs.length+ys.length<=dh/\R (.tup (xs++ys)) G
 |.ref l,.ref m=>match G l,G m with
  |some (.lst xs),aj (.lst ys)=>xs.length+ys.length<=dh/\∀p,G p=aq->R (.ref p) (aM G p (.lst (xs++ys)))
  |_,_=>False
 |_,_=>False
def aqP:qH X (wu .Add) (λx y H Q=>∃a b ys,x=.ref a/\y=.ref b/\oG X.K H a []/\oG X.K H b ys/\Q (.ref b) H):=by
 intro pins s σ H x y v u Q I rx ry h;obtain⟨a,b,ys,rfl,rfl,ha,hb,q⟩:=h;cases rx;cases ry;obtain⟨its,r1,p1,_⟩:=I.tuple ha;obtain⟨its2,r2,p2,_⟩:=I.tuple hb;cases r1;obtain⟨⟨cls,dd,data,sl⟩,ho,hc,n,hd⟩:=id p1;obtain⟨⟨cls2,dd2,data2,sl2⟩,ho2,hc2,n2,hd2⟩:=id p2;simp only at hc hd hc2 hd2;subst hc hd hc2 hd2
 exact concat_meets ⟨_,ho,rfl⟩ ⟨_,ho2,rfl⟩ noFill_tuple_add seq_tuple_add PySem.F.slot_tuple_add PySem.F.entry_tuple_add (PySem.F.args_tuple_add_2 _ _)
   (tuple_addW0 a b #[] its2.toArray n n2 dd dd2 sl sl2 (by simp)) ⟨ho,ho2,⟨.ref b,H,I,rfl,q⟩⟩
private theorem aKQ:a6T X (wu .Add) cB:=by
 refine⟨_,aDK.or (ai4.or (ax6.or (aqP.or aE6))),λH x y vx vy G R Q rx ry gh h k=>?_⟩;cases rx with
 |int i =>
  cases ry with
  |int j=>exact .inl ⟨i,j,rfl,rfl,λ_=>k _ H _ G (.refl H) (.int _) gh h⟩
  |_=>exact False.elim h
 |str i =>
  cases ry with
  |str j=>exact .inr (.inl ⟨i,j,rfl,rfl,h.1,λ_=>k _ H _ G (.refl H) (.str _) gh h.2⟩)
  |_=>exact False.elim h
 |@tup a xs ds ha ra ea =>
  cases ry with
  |@tup b ys es hb rb eb =>
   by_cases hn:ds=[]
   .subst hn;cases ra;exact .inr (.inr (.inr (.inl ⟨a,b,ys,rfl,rfl,ha,hb,λ_=>k _ H _ G (.refl H) (.tup hb rb eb) gh h.2⟩)))
   .refine .inr (.inr (.inl ⟨a,b,xs,ys,rfl,rfl,ha,hb,λz=>hn (ra.a0C.mp z),by rw[←ra.length,←rb.length];exact h.1,λz _=>?_,λ_ p hp _=>?_⟩))
    .subst z;cases rb;have h2:=h.2;rw[ud]at h2;exact k _ H _ G (.refl H) (.tup ha ra ea) gh h2
    .have sn:Same H (upd H p (.tup (xs++ys))):=bV hp;exact k _ _ _ G (.same sn) (.tup (oG.of aL) ((ra.append rb).mono (.same sn)) (aeQ aL)) (gh.same sn) h.2
  |_=>exact False.elim h
 |ref l =>
  cases ry with
  |ref m =>
   have h':(match G l,G m with
    |some (.lst xs),aj (.lst ys)=>xs.length+ys.length<=dh/\∀p,G p=aq->R (.ref p) (aM G p (.lst (xs++ys)))
    |_,_=>False):=h
   split at h'
   .rename_i xs ys e1 e2;obtain⟨xv,f1,r1⟩:=gh l _ e1;obtain⟨yv,f2,r2⟩:=gh m _ e2;refine .inr (.inr (.inr (.inr ⟨l,m,xv,yv,rfl,rfl,f1,f2,by rw[←r1.length,←r2.length];exact h'.1,λp hp kf=>?_⟩)));have sn:Same H (upd H p (.lst (xv++yv))):=bV hp;exact k _ _ _ _ (.same sn) (.ref p) (gh.put (u:=.lst (xs++ys)) hp ⟨_,aL,(r1.append r2).mono (.same sn)⟩) (h'.2 p (jY gh hp kf))
   .exact h'.elim
  |_=>exact False.elim h
 |_=>exact False.elim h
abbrev aEF:R3:=λx y G R=>match x,y with
 |.non,.non=>R (.bl ak) G
 |_,.non=>R (.bl ao) G
 |.bl i,.bl j=>R (.bl (i==j)) G
 |.int _,.bl _=>R (.bl ao) G
 |.str _,.bl _=>R (.bl ao) G
 |.non,.bl _=>R (.bl ao) G
 |.tup _,.bl _=>R (.bl ao) G
 |.ref _,.bl _=>R (.bl ao) G
 |_,_=>False
abbrev aqQ:R3:=λx y G R=>aEF x y G λd G'=>match d with
 |.bl k=>R (.bl (!k)) G'
 |_=>False
def isV(x:V)(v:bh)(k:Bool)(r:RelV x v):(v==.bool k)=decide (x=.bl k):=by
 cases x with
 |non=>cases r;rfl
 |bl b =>
  cases r;cases b<;>cases k<;>rfl
 |int _=>obtain⟨t,rfl⟩:=r;rfl
 |str _=>obtain⟨t,rfl⟩:=r;rfl
 |byt _=>obtain⟨t,rfl⟩:=r;rfl
 |flt _=>obtain⟨t,rfl⟩:=r;rfl
 |ref _=>cases r;rfl
 |ty _=>cases r;rfl
def aaK(x:V)(v:bh)(k:Bool)(r:RelV x v):plainIs v (.bool k)=ak:=by
 cases x with
 |non=>cases r;rfl
 |bl b=>cases r;rfl
 |int _=>obtain⟨t,rfl⟩:=r;rfl
 |str _=>obtain⟨t,rfl⟩:=r;rfl
 |byt _=>obtain⟨t,rfl⟩:=r;rfl
 |flt _=>obtain⟨t,rfl⟩:=r;rfl
 |ref _=>cases r;rfl
 |ty _=>cases r;rfl
def axK:qH X (jm .Is) (λx y H Q=>∃k,y=.bl k/\Q (.bl (decide (x=.bl k))) H):=by
 intro pins s σ H x y v u Q I rx ry h;obtain⟨k,rfl,q⟩:=h;cases ry;exact wpAny_is_plain (aaK x v k rx) ⟨.bl _,H,I,by rw[isV x v k rx];rfl,q⟩
def anN:qH X (jm .IsNot) (λx y H Q=>∃k,y=.bl k/\Q (.bl (!decide (x=.bl k))) H):=by
 intro pins s σ H x y v u Q I rx ry h;obtain⟨k,rfl,q⟩:=h;cases ry;exact wpAny_isNot_plain (aaK x v k rx) ⟨.bl _,H,I,by rw[isV x v k rx];rfl,q⟩
def aPP:oH X (jm .Is) aEF:=by
 refine⟨_,aDQ.or axK,λH x y vx vy G R Q rx ry gh h k=>?_⟩;cases ry with
 |non =>
  refine .inl ⟨rfl,?_⟩;cases rx with
  |non=>exact k _ H _ G (.refl H) (.bl _) gh h
  |_=>exact k _ H _ G (.refl H) (.bl _) gh h
 |bl j =>
  refine .inr ⟨j,rfl,?_⟩;cases rx with
  |bl i =>
   have e:decide (V.bl i=V.bl j)=(i==j):=by cases i<;>cases j<;>rfl
   rw[e];exact k _ H _ G (.refl H) (.bl _) gh h
  |ty n=>exact False.elim h
  |_=>exact k _ H _ G (.refl H) (.bl _) gh h
 |_=>cases rx<;>exact False.elim h
def aEG:oH X (jm .IsNot) aqQ:=by
 refine⟨_,awV.or anN,λH x y vx vy G R Q rx ry gh h k=>?_⟩;cases ry with
 |non =>
  refine .inl ⟨rfl,?_⟩;cases rx with
  |non=>exact k _ H _ G (.refl H) (.bl _) gh h
  |_=>exact k _ H _ G (.refl H) (.bl _) gh h
 |bl j =>
  refine .inr ⟨j,rfl,?_⟩;cases rx with
  |bl i =>
   have e:decide (V.bl i=V.bl j)=(i==j):=by cases i<;>cases j<;>rfl
   rw[e];exact k _ H _ G (.refl H) (.bl _) gh h
  |ty n=>exact False.elim h
  |_=>exact k _ H _ G (.refl H) (.bl _) gh h
 |_=>cases rx<;>exact False.elim h
abbrev aQ(G:Gp)(a:bx):Option (List D):=match G a with
 |some (.lst ds)=>aj ds
 |some (.rol ds)=>aj ds
 |_=>aq
private theorem c7{K:Fg}(g:HR K H G){a:bx}(e:aQ G a=aj ds):∃xs,qK K H a xs/\cG K H ds xs:=by
 unfold aQ at e;split at e
 .rename_i ds' q;cases e;obtain⟨xs,h1,h2⟩:=g a _ q;exact⟨xs,qK.of h1,h2⟩
 .rename_i ds' q;cases e;exact g a _ q
 .cases e
abbrev bA:R3:=λx y G R=>match x,y with
 |.tup xs,.int i=>match atI xs i with
  |some d=>R d G
  |none=>False
 |.str z,.int i=>z.length<=dh/\match atI z.cps.toList i with
  |some c=>R (.str ⟨#[c]⟩) G
  |none=>False
 |.ref p,.int i=>match aQ G p with
  |some xs=>(match atI xs i with
   |some d=>R d G
   |none=>False)
  |none=>False
 |_,_=>False
def aqR{K:Fg}(r:cG K H ds xs){i:Int}(e:atI ds i=aj d):∃v,atI xs i=aj v/\RD K H d v:=by
 unfold atI at e ⊢;rw[←r.length];cases q:ixN ds.length i with
 |none=>rw[q]at e;cases e
 |some j =>
  rw[q]at e;exact r.get e
private theorem aPQ(ha:cU X a ta)(hb:cU X b tb)(hs:ac0 b):cU X (.Subscript a b pos) (aD bA ta tb):=by
 refine PE.imp (aJZ aE5 ha hb hs) λ_ _ _ h=>aiB ?_ h;intro H x y vx vy G R Q rx ry gh h k;cases rx with
 |@tup p xs ds hp r =>
  cases ry with
  |int i =>
   have h':(match atI ds i with
    |some d=>R d G
    |none=>False):=h
   split at h'
   .rename_i d e;obtain⟨v,e1,e2⟩:=aqR r e;exact .inr (.inl ⟨p,xs,i,v,rfl,rfl,hp,e1,k v H d G (.refl H) e2 gh h'⟩)
   .exact h'.elim
  |_=>exact False.elim h
 |str z =>
  cases ry with
  |int i =>
   have h':z.length<=dh/\(match atI z.cps.toList i with
    |some c=>R (.str ⟨#[c]⟩) G
    |none=>False):=h
   obtain⟨hz,h'⟩:=h';split at h'
   .rename_i d e;exact .inr (.inr ⟨z,i,d,rfl,rfl,hz,e,k _ H _ G (.refl H) (.str _) gh h'⟩)
   .exact h'.elim
  |_=>exact False.elim h
 |ref p =>
  cases ry with
  |int i =>
   have h':(match aQ G p with
    |some xs=>(match atI xs i with
     |some d=>R d G
     |none=>False)
    |none=>False):=h
   split at h'
   .rename_i ds e;obtain⟨xs,hp,r⟩:=c7 gh e;split at h'
    .rename_i d e';obtain⟨v,e1,e2⟩:=aqR r e';exact .inl ⟨p,xs,i,v,rfl,rfl,hp,e1,k v H d G (.refl H) e2 gh h'⟩
    .exact h'.elim
   .exact h'.elim
  |_=>exact False.elim h
 |_=>exact False.elim h
@[simp]def TO3:=aN->Gp->(Option Int->Gp->Prop)->Prop
abbrev upO(K:Fg)(t:TO3):TO:=λσ H Q=>∃ρ G R,SR K H ρ σ/\HR K H G/\t ρ G R/\∀i H' G',Ts H H'->HR K H' G'->R i G'->Q i H'
@[simp]def PO3(X:Cx)(e:Option jc)(t:TO3):Prop:=PO X e (upO X.K t)
def PO.imp{t:TO}(h:PO X e t)(k:∀σ H Q,t' σ H Q->t σ H Q):PO X e t':=λpins s σ H Q I q=>h pins s σ H Q I (k _ _ _ q)
abbrev vG:TO3:=λ_ G R=>R aq G
abbrev a6W(t:cO):TO3:=λρ G R=>t ρ G λx G1=>match x with
 |.int i=>R (aj i) G1
 |_=>False
def aEH:PO3 X aq vG:=PO.imp ax4 λσ H Q h=>by
 obtain⟨ρ,G,R,s,g,t,k⟩:=h;exact k aq H G (.refl H) g t
def aEI(h:cU X e te):PO3 X (aj e) (a6W te):=PO.imp (ax5 h) λσ H Q h=>by
 obtain⟨ρ,G,R,s,g,t,k⟩:=h;refine⟨ρ,G,_,s,g,t,λv H1 x G1 t1 r g1 q=>?_⟩;cases r with
 |int i=>exact⟨i,rfl,k _ H1 G1 t1 g1 q⟩
 |_=>exact False.elim q
abbrev cutD{α:Type}(xs:List α)(lo hi:Option Int):List α:=(xs.drop (HT.jV xs.length 0 lo)).take (HT.jV xs.length xs.length hi - HT.jV xs.length 0 lo)
end
end
variable{b:List lq}{n:Nat}{F:Ends}
section
section
variable{X:Cx}{st:lq}{rest:List lq}{t u:bC}{te:cO}{pos:Pos}
abbrev bL:bC:=λF ρ G=>F.nx ρ G
abbrev aH(t u:bC):bC:=λF ρ G=>t {F with nx:=u F} ρ G
def aKS:zO X [] bL:=PSs.imp awO λF σ H h=>by
 obtain⟨ρ,G,E,s,g,q,d⟩:=h;exact d.nx ρ G σ H s g q
def aEJ{K:Fg}(h:upS K (aH t u) F σ H):aDD (upS K t) (upS K u) F σ H:=by
 obtain⟨ρ,G,E,s,g,q,d⟩:=h;exact⟨ρ,G,_,s,g,q,⟨λρ' G' σ' H' s1 g1 h=>⟨ρ',G',E,s1,g1,h,d⟩,d.rt,d.bk,d.ct⟩⟩
def aEK(h1:PS3 X st t)(h2:zO X rest u):zO X (st::rest) (aH t u):=PSs.imp (apU h1 h2) λ_ _ _ h=>aEJ h
def aBS(h1:PS3 X st t):zO X [st] t:=awP h1
def aEL:PS3 X (.Pass pos) bL:=PS.imp awQ λF σ H h=>by
 obtain⟨ρ,G,E,s,g,q,d⟩:=h;exact d.nx ρ G σ H s g q
abbrev d8(te:cO):bC:=λF ρ G=>te ρ G λ_ G1=>F.nx ρ G1
def aEM(he:cU X e te)(hs:a1i e aq pos.line X.env=pure ao:=by rfl):PS3 X (.Expr e pos) (d8 te):=PS.imp (awR he hs) λF σ H h=>by
 obtain⟨ρ,G,E,s,g,q,d⟩:=h;exact⟨ρ,G,_,s,g,q,λv H' x G' t1 r g1 h=>d.nx ρ G' σ H' (s.mono t1) g1 h⟩
abbrev bM(te:cO):bC:=λF ρ G=>te ρ G F.rt
def aBT(he:cU X e te):PS3 X (.Return (aj e) pos) (bM te):=PS.imp (aDE he) λF σ H h=>by
 obtain⟨ρ,G,E,s,g,q,d⟩:=h;exact⟨ρ,G,_,s,g,q,λv H' x G' t1 r g1 h=>d.rt x G' v H' r g1 h⟩
abbrev cA(c:vD)(t u:bC):bC:=λF ρ G=>c ρ G λb G1=>if b=ak then t F ρ G1 else u F ρ G1
def aPR(hc:PT3 X c tc)(ha:zO X a t)(hb:zO X b u):PS3 X (.If c a b pos) (cA tc t u):=PS.imp (aJE hc ha hb) λF σ H h=>by
 obtain⟨ρ,G,E,s,g,q,d⟩:=h;refine⟨ρ,G,_,s,g,q,λb H' G' t1 g1 h=>?_⟩;cases b with
 |true=>exact⟨ρ,G',E,s.mono t1,g1,h,d⟩
 |false=>exact⟨ρ,G',E,s.mono t1,g1,h,d⟩
abbrev bF(i:Nat)(te:cO):bC:=λF ρ G=>te ρ G λx G1=>F.nx (a2T ρ i x) G1
def aBU(hN:X.N.Nodup)(hi:X.N[i]?=aj x)(hx:Loc X.env.scope x)(he:cU X e te)(hs:a1i e (aj (.Name x pos')) pos.line X.env=pure ao:=by rfl)(hf:X.fn x=ak∨X.env.scope.names.lookup x=aj .local:=by first|exact .inl rfl|exact .inr rfl|assumption) :
  PS3 X (.Assign [.Name x pos'] e pos) (bF i te):=PS.imp (aDG hN hi hx he hs hf) λF σ H h=>by
 obtain⟨ρ,G,E,s,g,q,d⟩:=h;exact⟨ρ,G,_,s,g,q,λv H' x G' t1 r g1 h=>d.nx _ G' _ H' ((s.mono t1).set r i) g1 h⟩
end
section
def aeU{K:Fg}{J:It}{g:TG}{tb:TS}(Pv:Nat->St->Hp->Prop)(h0:Pv 0 σ H)
  (stop:∀σ H,Pv n σ H->J.stop n H)(go:∀i σ H,i<n->Pv i σ H->J.go i H)
  (hs:∀i x σ H H',i<n->Pv i σ H->J.yld i H x H'->g x σ H' λσ2 H2=>tb {F with nx:=Pv (i+1),ct:=Pv (i+1),bk:=F.nx} σ2 H2)(hd:∀σ H,Pv n σ H->F.nx σ H) :
  ∃W:Nat->Nat->St->Hp->Prop,(∃m,W 0 m σ H)/\∀i m σ H,W i m σ H ->
   (J.stop i H/\F.nx σ H)∨(J.go i H/\∃N:St->Hp->Prop,(∀σ' H',N σ' H'->∃m',m'<m/\W (i+1) m' σ' H')/\∀x H',J.yld i H x H'->g x σ H' λσ2 H2=>tb {F with nx:=N,ct:=N,bk:=F.nx} σ2 H2):=by
 refine⟨λi m σ H=>m=n - i/\i<=n/\Pv i σ H,⟨n,by simp,zq _,h0⟩,?_⟩;rintro i m σ H ⟨rfl,hi,p⟩;by_cases hlt:i<n
 .exact .inr ⟨go i σ H hlt p,Pv (i+1),λσ' H' p'=>⟨n - (i+1),by omega,rfl,hlt,p'⟩,λx H' y=>hs i x σ H H' hlt p y⟩
 .have e:i=n:=by omega
  subst e;exact .inl ⟨stop σ H p,hd σ H p⟩
end
@[simp]def aV:=Addr->Gp->Prop
@[simp]def fU:=List D->Gp->eV->aV->Prop
abbrev UpX(K:Fg)(EX:aV)(E:XK):Prop:=∀C H' G',HR K H' G'->EX C G'->E (.ref C) aq H'
abbrev d7(K:Fg)(sp:fU):Sp:=λvs H Q E=>∃ds G R EX,cG K H ds vs/\HR K H G/\sp ds G R EX/\(∀v H' d G',RD K H' d v->HR K H' G'->R d G'->Q v H')/\UpX K EX E
section
variable{EX:aV}
abbrev aKT(n m:Nat)(tb:aV->bC):fU:=λds G R EX=>ds.length=m/\tb EX ⟨λ_ G'=>R .non G',R,λ_ _=>False,λ_ _=>False⟩ (sU n ds) G
end
end
section
abbrev j9(P:ju)(w:jq):CXT:=λ_ _ _ _ _ _=>False
section
variable{qt:Bool}{P:ju}{w:jq}{K:Fg}{mg:Str->Option bh}{base:jf}{N:List Str}{qual:Str}{scope:ur}{f:bx}{cd:bh}{A:jr}{outer:List Env}{s₀:dg}{H₀:Hp}{E:XK}
@[simp]def cx1(qt:Bool)(P:ju)(w:jq)(K:Fg)(mg:Str->Option bh)(base:jf)(N:List Str)(qual:Str)(scope:ur)(f:bx)(cd:bh)(A:jr)(outer:List Env)(s₀:dg)(H₀:Hp)(E:XK):Cx:=a9F qt (j9 P w) P w K mg base N qual scope f cd A outer s₀ H₀ E
def axL(hE:∀C H',E' C aq H'->E C aq H')(I:Inv (cx1 qt P w K mg base N qual scope f cd A outer s₀ H₀ E) pins σ H s)
  (c:j9 P w (cx1 qt P w K mg base N qual scope f cd A outer s₀ H₀ E).stack H s E' e s'):(cx1 qt P w K mg base N qual scope f cd A outer s₀ H₀ E).xe e s':=c.elim
end
abbrev aeV(K:Fg)(EX:aV):XK:=λC _ H'=>∃c G',C=.ref c/\HR K H' G'/\EX c G'
structure Cat(X:Cx)(EX:aN->aV):Prop where
 aqT:∀pins σ H s ρ e s',Inv X pins σ H s->SR X.K H ρ σ->j9 X.prog X.w X.stack H s (aeV X.K (EX ρ)) e s'->X.xe e s'
@[simp]def Thr(X:Cx)(EX:aN->aV):Prop:=True
section
variable{qt:Bool}{w:jq}{K:Fg}{mg:Str->Option bh}{base:jf}{N:List Str}{qual:Str}{scope:ur}{A:jr}{outer:List Env}{s₀:dg}{H₀:Hp}
def aqU(h:UpX K EX E)(q:aeV K EX C aq H'):E C aq H':=by
 obtain⟨c,G',rfl,g,q⟩:=q;exact h c H' G' g q
def aKU(h:UpX K EX E):Cat (cx1 qt P w K mg base N qual scope f cd A outer s₀ H₀ E) (λ_=>EX) :=
 ⟨λpins σ H s ρ e s' I _ c=>axL (E':=aeV K EX) (λC H' q=>aqU h q) I c⟩
def aKV(h:UpX K EX E):Thr (cx1 qt P w K mg base N qual scope f cd A outer s₀ H₀ E) (λ_=>EX):=trivial
def own1:a2e (gk P w) (cx1 qt P w K mg base N qual scope f cd A outer s₀ H₀ E).A (cx1 qt P w K mg base N qual scope f cd A outer s₀ H₀ E).env (cx1 qt P w K mg base N qual scope f cd A outer s₀ H₀ E).xe:=PassesOwn.leaving
end
section
variable{X:Cx}{k:Nat}{sp:fU}{EX:aN->aV}{x:Str}{pos:Pos}{t:qM}
abbrev aU(sp:fU)(EX:aN->aV)(t:qM):cO:=λρ G R=>t ρ G λds G1=>sp ds G1 R (EX ρ)
private theorem akK{Q Q':VK}(F:cH qt X.prog X.w X.K X.mg X.base (j9 X.prog X.w) k f fd ps (d7 X.K sp))(hr:fQ qt k X.A)(hb:Binds X.K fd ps [])
  (hx:∀e s',j9 X.prog X.w X.stack H s E e s'->X.xe e s')
  (I:Inv X pins σ H s)(r:Vals vs us)(h:d7 X.K sp vs H Q E)(hQ:∀v H',Ts H H'->Q v H'->Q' v H'):dj (gk X.prog X.w) X.A (call (.ref f) us) (EP X pins σ Q') X.xe s:=by
 have hl:(us++[]).length=ps.length:=by rw[ud,←r.length];exact F.len _ _ _ _ h
 refine wpAny_call (codeAny_mono (F.run X.A X.stack s H ⟨us,[]⟩ (us++[]) vs Q E hr I.env0 (hb s us I.kIn hl) (by rw[ud];exact r) h) λr s' hq=>?_);cases r with
 |error e=>exact hx e s' hq
 |ok fl =>
  cases fl with
  |ret u =>
   obtain⟨v,H',os,bare,un,hok,r,q⟩:=hq;exact⟨v,H',I.call' (ch:=[]) os un hok bare (λb z=>absurd z (by simp)),r,hQ v H' ⟨un.tups,un.j7⟩ q⟩
  |next=>exact False.elim hq
  |brk=>exact False.elim hq
  |cont=>exact False.elim hq
def axM(F:cH qt X.prog X.w X.K X.mg X.base (j9 X.prog X.w) k f fd ps (d7 X.K sp))(hr:fQ qt k X.A)(hg:Gl X x)(hm:X.mg x=aj (.ref f))(hk:yh X.K (.ref f)=ak)(hb:Binds X.K fd ps [])(hx:Cat X EX)
  (ha:PA3 X (e::es) t)(hdb:(x==("__debug__":Str))=ao:=by decide)(he:jt (e::es) X.env=(ao,eval e X.env)::jt es X.env:=by rfl)(hpl:(a0i pos (jt es X.env)).any (·.1)=ao:=by rfl) :
  cU X (.Call (.Name x p) (e::es) [] pos) (aU sp EX t):=by
 intro pins s σ H Q I h _tk;obtain⟨ρ,G,R,sr,g,q,kk⟩:=h;refine a0m (abV I hg hm ?_ hdb);refine PySem.W.callWith_K (h₀:=X.base) I.ok.mod.kin hk (cY (ha pos pins s σ H (λvs H1=>Ts H H1/\∃ds G1,cG X.K H1 ds vs/\HR X.K H1 G1/\sp ds G1 R (EX ρ)) I ⟨ρ,G,_,sr,g,q,λvs H1 ds G1 t1 r1 g1 q1=>⟨t1,ds,G1,r1,g1,q1⟩⟩) λus s1 ⟨vs,H1,I1,r,t1,ds,G1,r1,g1,q1⟩=>⟨I1.kIn,?_⟩) he hpl;refine akK (E:=aeV X.K (EX ρ)) F hr hb (λe s' c=>hx.aqT pins σ H1 s1 ρ e s' I1 (sr.mono t1) c) I1 r (Q:=λv H'=>∃d G',RD X.K H' d v/\HR X.K H' G'/\R d G') ⟨ds,G1,R,EX ρ,r1,g1,q1,λv H' d G' r2 g2 q2=>⟨d,G',r2,g2,q2⟩,λC H' G' g' q'=>⟨C,G',rfl,g',q'⟩⟩ (by rintro v H' t2 ⟨d,G',r2,g2,q2⟩;exact kk v H' d G' (t1.trans t2) r2 g2 q2)
def aEO{P:ju}{K:Fg}{f:bx}{fd:jy}{N ps:List Str}{k:Nat}{tb:aV->bC}(F:Fun K x qual st f fd)(S:bD N ps (aZ st))
  (hbody:∀(cdv:bh)(A:jr)(outer:List Env)(s:dg)(H:Hp)(E:XK)(EX:aV),fQ qt k (A.deeper (envOfC qual (aZ st) s.heap.objs.size f cdv))->UpX K EX E ->
   zO (cx1 qt P w K mg base N qual (aZ st) f cdv A outer s H E) (cD st) (tb EX)):cH qt P w K mg base (j9 P w) (k+1) f fd ps (d7 K (aKT N.length ps.length tb)):=by
 obtain⟨oc,od,dV,kV,doc,pm,an,cdv,ct,osl,rfl,lk,hcd⟩:=F.ex;have hpl:ps.length<=N.length:=by have:=congrArg List.length S.pre;rw[qy]at this;omega
 refine aq7 lk hcd S (λvs H Q E h=>?_) λA outer s H vs Q E hr hsp=>?_
 .obtain⟨ds,G,R,EX,r,g,⟨hl,q⟩,_⟩:=h;rw[←r.length,hl]
 .obtain⟨ds,G,R,EX,r,g,⟨hl,q⟩,kk,hE⟩:=hsp;refine⟨_,hbody cdv A outer s H E EX hr hE,sU N.length ds,G,_,?_,g,q,⟨λρ G' σ' H' s1 g1 q1=>kk .non H' .non G' .non g1 q1,λd G' v H' r1 g1 q1=>kk v H' d G' r1 g1 q1,λ_ _ _ _ _ _ z=>z.elim,λ_ _ _ _ _ _ z=>z.elim⟩⟩;unfold sU start;rw[r.length];exact SR.entry r
end
end
section
open PySem.W
private theorem a0G{env:Env}:∀(l:List (Str×qe))(acc:List (Str×bx)),l.filter (λp=>p.2==.free)=[]->(forIn l acc λ(p:Str×qe)(cs:List (Str×bx))=>(if p.2==.free then do let c ←cellOf env p.1;pure (ForInStep.yield ((p.1,c)::cs))else pure (ForInStep.yield cs):Sem (ForInStep (List (Str×bx)))))=pure acc
 |[],acc,_=>rfl
 |p::r,acc,h=>by
  rw[a1a]at h;split at h
  .cases h
  .rename_i q;rw[a0p,if_neg q,pure_bind];exact a0G r acc h
private theorem a3Z{env:Env}{x:Str}(hc:env.cells.lookup x=aj cc):∀(l:List (Str×qe))(acc:List (Str×bx)),l.filter (λp=>p.2==.free)=[(x,.free)]->(forIn l acc λ(p:Str×qe)(cs:List (Str×bx))=>(if p.2==.free then do let c ←cellOf env p.1;pure (ForInStep.yield ((p.1,c)::cs))else pure (ForInStep.yield cs):Sem (ForInStep (List (Str×bx)))))=pure ((x,cc)::acc)
 |[],acc,h=>by cases h
 |p::r,acc,h=>by
  rw[a1a]at h;split at h
  .rename_i q;have⟨e1,e2⟩:=List.cons.inj h;subst e1;rw[a0p,if_pos q];unfold cellOf;simp only[hc,pure_bind];exact a0G r _ e2
  .rename_i q;rw[a0p,if_neg q,pure_bind];exact a3Z hc r acc h
def a6X{env:Env}(h:scope.names.filter (λp=>p.2==.free)=[(x,.free)])(hc:env.cells.lookup x=aj cc):closureFor scope env=pure [(x,cc)]:=by
 unfold closureFor;have:=a3Z hc scope.names [] h;simp only[bind_pure];refine Eq.trans ?_ this;congr 1
private theorem axN{t:TS}(h1:PSs X a t)(h2:PSs X b u):PSs X (a++b) (aDD t u):=by
 intro pins s σ H D I h _tk;rw[aaI];refine au (cY (h1 pins s σ H {D with nx:=u D} I h) λf s1 q=>?_);intro aJ8;cases f with
 |next =>
  obtain⟨σ',H',I',q⟩:=q;exact h2 pins s1 σ' H' D I' q
 |ret v=>exact dw q
 |brk=>exact dw q
 |cont=>exact dw q
structure Tq(H H':Hp):Prop where
 tups:∀a xs,H a=aj (.tup xs)->H' a=aj (.tup xs)
 aEP:∀a o xs,H a=aj (.j6 o (.tup xs))->H' a=aj (.j6 o (.tup xs))
def Tq.sqT{K:Fg}(t:Tq H H')(h:oG K H a xs):oG K H' a xs:=by
 rcases h with(h|⟨o,h⟩)|h
 .exact .inl (.inl (t.tups _ _ h))
 .exact .inl (.inr ⟨o,t.aEP _ _ _ h⟩)
 .exact .inr h
mutual
theorem RD.akL{K:Fg}{H H':Hp}(t:Tq H H'):∀{d:D}{v:V},RD K H d v->RD K H' d v
 |_,_,.non=>.non
 |_,_,.bl b=>.bl b
 |_,_,.int i=>.int i
 |_,_,.str x=>.str x
 |_,_,.ty n=>.ty n
 |_,_,.ref a=>.ref a
 |_,_,.tup h r e=>.tup (t.sqT h) (cG.akL t r) trivial
theorem cG.akL{K:Fg}{H H':Hp}(t:Tq H H'):∀{ds:List D}{vs:List V},cG K H ds vs->cG K H' ds vs
 |_,_,.nil=>.nil
 |_,_,.cons h r=>.cons (RD.akL t h) (cG.akL t r)
end
abbrev aKW:GO->Bool
 |.clo _ _=>ak
 |_=>ao
abbrev offC(G:Gp):Gp:=λa=>match G a with
 |some o=>if aKW o then aq else aj o
 |none=>aq
section
end
abbrev aqV(qt:Bool)(P:ju)(w:jq)(K:Fg)(mg:Str->Option bh)(base:jf)(k:Nat)(c:aqN)(sp:fU):Prop :=
 ∀(A:jr)(outer:List Env)(s:dg)(H:Hp)(us:List bh)(vs:List V)(ds:List D)(d:D)(G:Gp)(R:eV)(E:XK)(f:bx),fQ qt k A->a5B P w K mg base A outer s H->A.handled=aq->HR K H G->G f=aj (.clo c d)->Vals vs us->cG K H ds vs->sp (d::ds) (offC G) R (λ_ _=>False) ->
  zm (gk P w) A (.call (.ref f) ⟨us,[]⟩) (CR (j9 P w) outer P w H s (λv H'=>∃d' G2,RD K H' d' v/\HR K H' G2/\R d' G2) E) s
section
end
end
section
abbrev qN:aN->Nat->aN
 |[],_=>[]
 |_::r,0=>aq::r
 |x::r,n+1=>x::qN r n
abbrev zP:St->Nat->St
 |[],_=>[]
 |_::r,0=>aq::r
 |x::r,n+1=>x::zP r n
def SR.clr{K:Fg}:∀{ρ:aN}{σ:St}(i:Nat),SR K H ρ σ->SR K H (qN ρ i) (zP σ i)
 |_,_,_,.nil=>.nil
 |_,_,0,.none r=>.none r
 |_,_,0,.some _ r=>.none r
 |_,_,i+1,.none r=>.none (SR.clr i r)
 |_,_,i+1,.some h r=>.some h (SR.clr i r)
def a6Y:∀(σ:St)(i:Nat),(zP σ i).length=σ.length
 |[],_=>rfl
 |_::_,0=>rfl
 |_::r,i+1=>congrArg (·+1) (a6Y r i)
def a6Z:∀(σ:St)(i j:Nat)(v:V),(zP σ i)[j]?=aj (aj v)->j≠i/\σ[j]?=aj (aj v)
 |[],_,_,_,h=>by simp[zP]at h
 |_::_,0,0,_,h=>by simp[zP]at h
 |_::_,0,j+1,_,h=>⟨by omega,by simpa[zP]using h⟩
 |_::_,i+1,0,_,h=>⟨by omega,by simpa[zP]using h⟩
 |_::r,i+1,j+1,v,h=>by
  obtain⟨a,b⟩:=a6Z r i j v (by simpa[zP]using h);exact⟨by omega,by simpa using b⟩
section
end
end
section
section
variable{X:Cx}{a b:jc}{pos:Pos}
abbrev aaL(t:cO):cO:=λρ G R=>t ρ G λx G1=>match x with
 |.int i=>R (.int (-i)) G1
 |_=>False
def aKX(ha:cU X a ta):cU X (.UnaryOp .USub a pos) (aaL ta):=PE.imp (aJL aDP ha) λσ H Q h=>by
 obtain⟨ρ,G,R,s,g,t,k⟩:=h;refine⟨ρ,G,_,s,g,t,λv H1 x G1 t1 r g1 q=>?_⟩;cases r with
 |int i=>exact⟨i,rfl,k _ H1 _ G1 t1 (.int _) g1 q⟩
 |_=>exact False.elim q
abbrev bB:Nat->D->Bool
 |0,.tup _=>ao
 |n+1,.tup xs=>xs.all (bB n)
 |_,.ref _=>ao
 |_,.ty _=>ao
 |_,_=>ak
mutual
noncomputable def eqP:D->D->Bool
 |.non,.non=>ak
 |.bl a,.bl b=>a==b
 |.bl a,.int b=>(if a then 1 else 0)==b
 |.int a,.bl b=>a==(if b then 1 else 0)
 |.int a,.int b=>a==b
 |.str a,.str b=>a==b
 |.tup xs,.tup ys=>fV xs ys
 |_,_=>ao
noncomputable def fV:List D->List D->Bool
 |[],[]=>ak
 |x::xs,y::ys=>eqP x y&&fV xs ys
 |_,_=>ao
end
abbrev sV(xs ys:List D)(j:Nat):Bool:=match xs[j]?,ys[j]? with
 |some a,aj b=>eqP a b
 |_,_=>ao
def a70(n:Nat)(e:Nat->Bool):(je (n+1)).all e=(e 0&&(je n).all λj=>e (j+1)):=by
 rw[a2p,a04,List.all_map];rfl
def jZ:∀(xs ys:List D),fV xs ys=((je (min xs.length ys.length)).all (sV xs ys)&&xs.length==ys.length)
 |[],[]=>rfl
 |[],y::ys=>by simp[fV]
 |x::xs,[]=>by simp[fV]
 |x::xs,y::ys=>by
  have ih:=jZ xs ys;have e:min (x::xs).length (y::ys).length=min xs.length ys.length+1:=by simp only[qz];omega
  rw[fV,ih,e,a70];have e0:sV (x::xs) (y::ys) 0=eqP x y:=rfl
  have e1:(λj=>sV (x::xs) (y::ys) (j+1))=sV xs ys:=by
   funext j;simp[sV]
  have e2:((x::xs).length==(y::ys).length)=(xs.length==ys.length):=by
   simp only[qz];by_cases h:xs.length=ys.length
   .simp[h]
   .have h':¬ (xs.length+1=ys.length+1):=by omega
    simp[h,h']
  rw[e0,e1,e2,Bool.and_assoc]
def aeW{xs ys:List D}(h:(xs.length !=ys.length)=ak):fV xs ys=ao:=by
 rw[jZ];have:(xs.length==ys.length)=ao:=by simpa using h
 rw[this,Bool.and_false]
def aaM{xs ys:List D}(h:xs.length=ys.length):fV xs ys=(je xs.length).all (sV xs ys):=by
 rw[jZ,h];simp
def cG.aKY{K:Fg}(ih:∀{x y:D}{v:V},bB n x=ak->bB n y=ak->RD K H x v->RD K H y v->x=y):∀{xs ys:List D},(∀x∈xs,bB n x=ak)->(∀y∈ys,bB n y=ak)->cG K H xs vs->cG K H ys vs->xs=ys:=by
 induction vs with
 |nil=>intro xs ys _ _ h1 h2;cases h1;cases h2;rfl
 |cons v vs jh =>
  intro xs ys hx hy h1 h2;cases h1 with
  |cons a r =>
  cases h2 with
  |cons b t=>rw[ih (hx _ (rm ..)) (hy _ (rm ..)) a b,jh (λx m=>hx x (jo _ m)) (λy m=>hy y (jo _ m)) r t]
def RD.inj(I:Inv X pins σ H s):∀{x y:D}{v:V},bB n x=ak->bB n y=ak->RD X.K H x v->RD X.K H y v->x=y:=by
 induction n with
 |zero=>intro x y v hx hy h1 h2;cases h1<;>cases h2<;>first|rfl|cases hx|cases hy
 |succ n ih =>
  intro x y v hx hy h1 h2;cases h1 with
  |tup s1 r1 _ =>
   cases h2 with
   |tup s2 r2 _ =>
    have e:=I.xO s1 s2;subst e;rw[cG.aKY ih (by simpa[bB]using hx) (by simpa[bB]using hy) r1 r2]
   |ref=>cases hy
  |ref=>cases hx
  |_=>cases h2;rfl
mutual
theorem aeX:∀{n:Nat}{x:D},bB n x=ak->eqP x x=ak
 |_,.non,_=>rfl
 |_,.bl b,_=>by simp[eqP]
 |_,.int b,_=>by simp[eqP]
 |_,.str b,_=>by simp[eqP]
 |n,.ref _,h=>by cases n<;>simp[bB]at h
 |n,.ty _,h=>by cases n<;>simp[bB]at h
 |0,.tup _,h=>by simp[bB]at h
 |n+1,.tup xs,h=>by rw[eqP];exact xP (n:=n) (by simpa[bB]using h)
theorem xP:∀{n:Nat}{xs:List D},(∀x∈xs,bB n x=ak)->fV xs xs=ak
 |_,[],_=>rfl
 |n,x::xs,h=>by rw[fV,aeX (h x (by simp)),xP λy m=>h y (by simp[m])];rfl
end
def Vals.aqW{K:Fg}(r:cG K H ds xs)(v:Vals xs us){j:Nat}(e:us[j]?=aj u):∃d x,ds[j]?=aj d/\RD K H d x/\RelV x u:=by
 have hj:j<us.length:=(fj.mp e).1;have hj':j<xs.length:=by rw[v.length];exact hj
 have ex:xs[j]?=aj xs[j]:=cg hj';obtain⟨u',e1,r1⟩:=v.get ex;rw[e]at e1;cases e1;obtain⟨d,e2,r2⟩:=r.aeR ex;exact⟨d,_,e2,r2,r1⟩
def vH{K:Fg}{n:Nat}{us ws:List bh}(rx:cG K H xs vx)(ry:cG K H ys vy)(vx':Vals vx us)(vy':Vals vy ws)
  (ih:∀x∈xs,∀y∈ys,∀(v w:V)(u t:bh),RD K H x v->RD K H y w->RelV v u->RelV w t->SeqAt.EqAt A s u t (eqP x y)) :
  ∀j (h1:j<us.toArray.size) (h2:j<ws.toArray.size),SeqAt.EqAt A s us.toArray[j] ws.toArray[j] (sV xs ys j):=by
 intro j h1 h2;have e1:us[j]?=aj us.toArray[j]:=by simp[cg (show j<us.length by simpa using h1)]
 have e2:ws[j]?=aj ws.toArray[j]:=by simp[cg (show j<ws.length by simpa using h2)]
 obtain⟨d,x,f1,f2,f3⟩:=Vals.aqW rx vx' e1;obtain⟨d',y,g1,g2,g3⟩:=Vals.aqW ry vy' e2;have e:sV xs ys j=eqP d d':=by simp[sV,f1,g1]
 rw[e];exact ih d (iz f1) d' (iz g1) x y _ _ f2 g2 f3 g3
abbrev scD:D->Bool
 |.non=>ak
 |.bl _=>ak
 |.int _=>ak
 |.str _=>ak
 |_=>ao
def axO{K:Fg}{x:D}(hx:scD x=ak)(hy:scD y=ak)(rx:RD K H x vx)(ry:RD K H y vy)(ru:RelV vx u)(rv:RelV vy v):SeqAt.EqAt A s u v (eqP x y):=by
 have fx:tZ vx=ak:=by cases rx<;>first|rfl|cases hx
 have fy:tZ vy=ak:=by cases ry<;>first|rfl|cases hy
 have e:eqV vx vy=eqP x y:=by cases rx<;>cases ry<;>first|(simp[eqV,eqP];done)|cases hx|cases hy
 rw[←e];exact a2S ru rv fx fy
def vI(h:A.units+(n+1)<ni):A.in1.units+n<ni:=by
 show A.units+1+n<ni;omega
def a2U(I:Inv X pins σ H s):∀(n:Nat)(A:jr)(x y:D)(vx vy:V)(u v:bh),A.units+n<ni->bB n x=ak->bB n y=ak->RD X.K H x vx->RD X.K H y vy->RelV vx u->RelV vy v->SeqAt.EqAt A s u v (eqP x y):=by
 intro n
 induction n with
 |zero =>
  intro A x y vx vy u v hu hx hy rx ry ru rv;have sx:scD x=ak:=by cases x<;>first|rfl|(simp[bB]at hx)
  have sy:scD y=ak:=by cases y<;>first|rfl|(simp[bB]at hy)
  exact axO sx sy rx ry ru rv
 |succ n ih =>
  intro A x y vx vy u v hu hx hy rx ry ru rv;have hu0:A.units<ni:=by omega
  cases rx with
  |@tup ax xs ds hax rax eax =>
   cases ru;obtain⟨its,vv,px,_⟩:=I.tuple hax;cases ry with
   |@tup ay ys es hay ray eay =>
    cases rv;obtain⟨jts,ww,py,_⟩:=I.tuple hay;by_cases hab:ax=ay
    .subst hab;have e:=RD.inj I (n:=n+1) hx hy (.tup hax rax eax) (.tup hay ray eay);rw[e,aeX hy];exact SeqAt.EqAt.same _
    .refine SeqAt.EqAt.of_refs hab ?_
     have z:=SeqAt.RcAt.tuples (e:=sV ds es) (show s.heap.IsTuple ax its.toArray from px) (show s.heap.IsTuple ay jts.toArray from py) hu0 (vH (n:=n) rax ray vv ww λx mx y my v w u t r1 r2 r3 r4 =>
      ih A.in1 x y v w u t (vI hu) (jl.mp (by simpa[bB]using hx) x mx) (jl.mp (by simpa[bB]using hy) y my) r1 r2 r3 r4)
     have e:((je (min its.toArray.size jts.toArray.size)).all (sV ds es)&&its.toArray.size==jts.toArray.size)=eqP (.tup ds) (.tup es):=by
      rw[eqP,jZ,gq,gq,←vv.length,←ww.length,←rax.length,←ray.length]
     rw[e]at z;exact z
   |non=>cases rv;exact SeqAt.EqAt.tuple_none (show s.heap.IsTuple ax its.toArray from px) hu0
   |bl b=>cases rv;exact SeqAt.EqAt.tuple_bool b (show s.heap.IsTuple ax its.toArray from px) hu0
   |int i=>obtain⟨t,rfl⟩:=rv;exact SeqAt.EqAt.tuple_int i t (show s.heap.IsTuple ax its.toArray from px) hu0
   |str z=>obtain⟨t,rfl⟩:=rv;exact SeqAt.EqAt.tuple_str z t (show s.heap.IsTuple ax its.toArray from px) hu0
   |ref _=>simp[bB]at hy
   |ty _=>simp[bB]at hy
  |ref _=>simp[bB]at hx
  |ty _=>simp[bB]at hx
  |non =>
   cases ry with
   |@tup ay ys es hay ray =>
    cases rv;cases ru;obtain⟨jts,ww,py,_⟩:=I.tuple hay;exact SeqAt.EqAt.none_tuple (show s.heap.IsTuple ay jts.toArray from py) hu0
   |ref _=>simp[bB]at hy
   |ty _=>simp[bB]at hy
   |_=>exact a2S ru rv rfl rfl
  |bl b =>
   cases ry with
   |@tup ay ys es hay ray =>
    cases rv;cases ru;obtain⟨jts,ww,py,_⟩:=I.tuple hay;exact SeqAt.EqAt.bool_tuple b (show s.heap.IsTuple ay jts.toArray from py) hu0
   |ref _=>simp[bB]at hy
   |ty _=>simp[bB]at hy
   |_=>exact a2S ru rv rfl rfl
  |int i =>
   cases ry with
   |@tup ay ys es hay ray =>
    cases rv;obtain⟨t,rfl⟩:=ru;obtain⟨jts,ww,py,_⟩:=I.tuple hay;exact SeqAt.EqAt.int_tuple i t (show s.heap.IsTuple ay jts.toArray from py) hu0
   |ref _=>simp[bB]at hy
   |ty _=>simp[bB]at hy
   |_=>exact a2S ru rv rfl rfl
  |str z =>
   cases ry with
   |@tup ay ys es hay ray =>
    cases rv;obtain⟨t,rfl⟩:=ru;obtain⟨jts,ww,py,_⟩:=I.tuple hay;exact SeqAt.EqAt.str_tuple z t (show s.heap.IsTuple ay jts.toArray from py) hu0
   |ref _=>simp[bB]at hy
   |ty _=>simp[bB]at hy
   |_=>exact a2S ru rv rfl rfl
end
end
section
section
variable{X:Cx}
def aPT(I:Inv X pins σ H s)(n:Nat)(A:jr)(x y:D)(vx vy:V)(u v:bh)(hu:A.units+(n+1)<ni)(hx:bB (n+1) x=ak)(hy:bB (n+1) y=ak)(rx:RD X.K H x vx)(ry:RD X.K H y vy)(ru:RelV vx u)(rv:RelV vy v):SeqAt.RcAt A s u v (eqP x y):=by
 have hu0:A.units<ni:=by omega
 cases rx with
 |non =>
  cases ru;cases ry with
  |non =>
   cases rv
   first|exact SeqAt.RcAt.none_none|(simp only[eqP];exact SeqAt.RcAt.none_none)
  |bl b2 =>
   cases rv
   first|exact SeqAt.RcAt.none_bool b2|(simp only[eqP];exact SeqAt.RcAt.none_bool b2)
  |int i2 =>
   obtain⟨t2,rfl⟩:=rv
   first|exact SeqAt.RcAt.none_int i2 t2|(simp only[eqP];exact SeqAt.RcAt.none_int i2 t2)
  |str z2 =>
   obtain⟨t2,rfl⟩:=rv
   first|exact SeqAt.RcAt.none_str z2 t2|(simp only[eqP];exact SeqAt.RcAt.none_str z2 t2)
  |@tup a2 xs2 uY h2 r2 =>
   cases rv;obtain⟨its2,vv2,p2,_⟩:=I.tuple h2
   first|exact SeqAt.RcAt.none_tuple (show s.heap.IsTuple a2 its2.toArray from p2) hu0|(simp only[eqP];exact SeqAt.RcAt.none_tuple (show s.heap.IsTuple a2 its2.toArray from p2) hu0)
  |ref _=>simp[bB]at hy
  |ty _=>simp[bB]at hy
 |bl b1 =>
  cases ru;cases ry with
  |non =>
   cases rv
   first|exact SeqAt.RcAt.bool_none b1|(simp only[eqP];exact SeqAt.RcAt.bool_none b1)
  |bl b2 =>
   cases rv
   first|exact SeqAt.RcAt.bool_bool b1 b2|(simp only[eqP];exact SeqAt.RcAt.bool_bool b1 b2)
  |int i2 =>
   obtain⟨t2,rfl⟩:=rv
   first|exact SeqAt.RcAt.bool_int b1 i2 t2|(simp only[eqP];exact SeqAt.RcAt.bool_int b1 i2 t2)
  |str z2 =>
   obtain⟨t2,rfl⟩:=rv
   first|exact SeqAt.RcAt.bool_str b1 z2 t2|(simp only[eqP];exact SeqAt.RcAt.bool_str b1 z2 t2)
  |@tup a2 xs2 uY h2 r2 =>
   cases rv;obtain⟨its2,vv2,p2,_⟩:=I.tuple h2
   first|exact SeqAt.RcAt.bool_tuple b1 (show s.heap.IsTuple a2 its2.toArray from p2) hu0|(simp only[eqP];exact SeqAt.RcAt.bool_tuple b1 (show s.heap.IsTuple a2 its2.toArray from p2) hu0)
  |ref _=>simp[bB]at hy
  |ty _=>simp[bB]at hy
 |int i1 =>
  obtain⟨t1,rfl⟩:=ru;cases ry with
  |non =>
   cases rv
   first|exact SeqAt.RcAt.int_none i1 t1|(simp only[eqP];exact SeqAt.RcAt.int_none i1 t1)
  |bl b2 =>
   cases rv
   first|exact SeqAt.RcAt.int_bool i1 t1 b2|(simp only[eqP];exact SeqAt.RcAt.int_bool i1 t1 b2)
  |int i2 =>
   obtain⟨t2,rfl⟩:=rv
   first|exact SeqAt.RcAt.int_int i1 t1 i2 t2|(simp only[eqP];exact SeqAt.RcAt.int_int i1 t1 i2 t2)
  |str z2 =>
   obtain⟨t2,rfl⟩:=rv
   first|exact SeqAt.RcAt.int_str i1 t1 z2 t2|(simp only[eqP];exact SeqAt.RcAt.int_str i1 t1 z2 t2)
  |@tup a2 xs2 uY h2 r2 =>
   cases rv;obtain⟨its2,vv2,p2,_⟩:=I.tuple h2
   first|exact SeqAt.RcAt.int_tuple i1 t1 (show s.heap.IsTuple a2 its2.toArray from p2) hu0|(simp only[eqP];exact SeqAt.RcAt.int_tuple i1 t1 (show s.heap.IsTuple a2 its2.toArray from p2) hu0)
  |ref _=>simp[bB]at hy
  |ty _=>simp[bB]at hy
 |str z1 =>
  obtain⟨t1,rfl⟩:=ru;cases ry with
  |non =>
   cases rv
   first|exact SeqAt.RcAt.str_none z1 t1|(simp only[eqP];exact SeqAt.RcAt.str_none z1 t1)
  |bl b2 =>
   cases rv
   first|exact SeqAt.RcAt.str_bool z1 t1 b2|(simp only[eqP];exact SeqAt.RcAt.str_bool z1 t1 b2)
  |int i2 =>
   obtain⟨t2,rfl⟩:=rv
   first|exact SeqAt.RcAt.str_int z1 t1 i2 t2|(simp only[eqP];exact SeqAt.RcAt.str_int z1 t1 i2 t2)
  |str z2 =>
   obtain⟨t2,rfl⟩:=rv
   first|exact SeqAt.RcAt.str_str z1 t1 z2 t2|(simp only[eqP];exact SeqAt.RcAt.str_str z1 t1 z2 t2)
  |@tup a2 xs2 uY h2 r2 =>
   cases rv;obtain⟨its2,vv2,p2,_⟩:=I.tuple h2
   first|exact SeqAt.RcAt.str_tuple z1 t1 (show s.heap.IsTuple a2 its2.toArray from p2) hu0|(simp only[eqP];exact SeqAt.RcAt.str_tuple z1 t1 (show s.heap.IsTuple a2 its2.toArray from p2) hu0)
  |ref _=>simp[bB]at hy
  |ty _=>simp[bB]at hy
 |@tup a1 xs1 ds1 h1 r1 =>
  cases ru;obtain⟨eG,vv1,p1,_⟩:=I.tuple h1;cases ry with
  |non =>
   cases rv
   first|exact SeqAt.RcAt.tuple_none (show s.heap.IsTuple a1 eG.toArray from p1) hu0|(simp only[eqP];exact SeqAt.RcAt.tuple_none (show s.heap.IsTuple a1 eG.toArray from p1) hu0)
  |bl b2 =>
   cases rv
   first|exact SeqAt.RcAt.tuple_bool b2 (show s.heap.IsTuple a1 eG.toArray from p1) hu0|(simp only[eqP];exact SeqAt.RcAt.tuple_bool b2 (show s.heap.IsTuple a1 eG.toArray from p1) hu0)
  |int i2 =>
   obtain⟨t2,rfl⟩:=rv
   first|exact SeqAt.RcAt.tuple_int i2 t2 (show s.heap.IsTuple a1 eG.toArray from p1) hu0|(simp only[eqP];exact SeqAt.RcAt.tuple_int i2 t2 (show s.heap.IsTuple a1 eG.toArray from p1) hu0)
  |str z2 =>
   obtain⟨t2,rfl⟩:=rv
   first|exact SeqAt.RcAt.tuple_str z2 t2 (show s.heap.IsTuple a1 eG.toArray from p1) hu0|(simp only[eqP];exact SeqAt.RcAt.tuple_str z2 t2 (show s.heap.IsTuple a1 eG.toArray from p1) hu0)
  |@tup a2 xs2 uY h2 r2 =>
   cases rv;obtain⟨its2,vv2,p2,_⟩:=I.tuple h2
   have z:=SeqAt.RcAt.tuples (e:=sV ds1 uY) (show s.heap.IsTuple a1 eG.toArray from p1) (show s.heap.IsTuple a2 its2.toArray from p2) hu0 (vH (n:=n) r1 r2 vv1 vv2 λx mx y my v w u t q1 q2 q3 q4 =>
      a2U I n A.in1 x y v w u t (vI hu) (jl.mp (by simpa[bB]using hx) x mx) (jl.mp (by simpa[bB]using hy) y my) q1 q2 q3 q4)
   have e:((je (min eG.toArray.size its2.toArray.size)).all (sV ds1 uY)&&eG.toArray.size==its2.toArray.size)=eqP (.tup ds1) (.tup uY):=by
    rw[eqP,jZ,gq,gq,←vv1.length,←vv2.length,←r1.length,←r2.length]
   rw[e]at z;exact z
  |ref _=>simp[bB]at hy
  |ty _=>simp[bB]at hy
 |ref _=>simp[bB]at hx
 |ty _=>simp[bB]at hx
def aPU(I:Inv X pins σ H s)(n:Nat)(A:jr)(hl:qK X.K H a1 xs)(y:D)(vy:V)(v:bh)(hu0:A.units<ni)(hy:bB n y=ak)(ry:RD X.K H y vy)(rv:RelV vy v):SeqAt.RcAt A s (.ref a1) v ao:=by
 obtain⟨eG,vv1,pl,_⟩:=I.list hl;have p1:=pl.isList;cases ry with
 |non =>
  cases rv;exact SeqAt.RcAt.list_none p1 hu0
 |bl b2 =>
  cases rv;exact SeqAt.RcAt.list_bool b2 p1 hu0
 |int i2 =>
  obtain⟨t2,rfl⟩:=rv;exact SeqAt.RcAt.list_int i2 t2 p1 hu0
 |str z2 =>
  obtain⟨t2,rfl⟩:=rv;exact SeqAt.RcAt.list_str z2 t2 p1 hu0
 |@tup a2 xs2 uY h2 r2 =>
  cases rv;obtain⟨its2,vv2,p2,_⟩:=I.tuple h2;exact SeqAt.RcAt.list_tuple (show s.heap.IsList a1 eG.toArray from p1) (show s.heap.IsTuple a2 its2.toArray from p2) hu0
 |ref _=>cases n<;>simp[bB]at hy
 |ty _=>cases n<;>simp[bB]at hy
def aPV(I:Inv X pins σ H s)(n:Nat)(A:jr)(hl:qK X.K H a2 xs)(y:D)(vy:V)(v:bh)(hu0:A.units<ni)(hy:bB n y=ak)(ry:RD X.K H y vy)(rv:RelV vy v):SeqAt.RcAt A s v (.ref a2) ao:=by
 obtain⟨its2,vv2,pl,_⟩:=I.list hl;have p2:=pl.isList;cases ry with
 |non =>
  cases rv;exact SeqAt.RcAt.none_list p2 hu0
 |bl b1 =>
  cases rv;exact SeqAt.RcAt.bool_list b1 p2 hu0
 |int i1 =>
  obtain⟨t1,rfl⟩:=rv;exact SeqAt.RcAt.int_list i1 t1 p2 hu0
 |str z1 =>
  obtain⟨t1,rfl⟩:=rv;exact SeqAt.RcAt.str_list z1 t1 p2 hu0
 |@tup a1 xs1 ds1 h1 r1 =>
  cases rv;obtain⟨eG,vv1,p1,_⟩:=I.tuple h1;exact SeqAt.RcAt.tuple_list (show s.heap.IsTuple a1 eG.toArray from p1) (show s.heap.IsList a2 its2.toArray from p2) hu0
 |ref _=>cases n<;>simp[bB]at hy
 |ty _=>cases n<;>simp[bB]at hy
def aPW(I:Inv X pins σ H s)(n:Nat)(A:jr){ds1 uY:List D}(h1:qK X.K H a1 xs1)(h2:qK X.K H a2 xs2)(r1:cG X.K H ds1 xs1)(r2:cG X.K H uY xs2)
  (hu:A.units+(n+1)<ni)(hx:ds1.all (bB n)=ak)(hy:uY.all (bB n)=ak):SeqAt.RcAt A s (.ref a1) (.ref a2) (fV ds1 uY):=by
 have hu0:A.units<ni:=by omega
 obtain⟨eG,vv1,q1,_⟩:=I.list h1;obtain⟨its2,vv2,q2,_⟩:=I.list h2;have p1:=q1.isList;have p2:=q2.isList;by_cases hl:ds1.length=uY.length
 .have hsz:eG.toArray.size=its2.toArray.size:=by rw[gq,gq,←vv1.length,←vv2.length,←r1.length,←r2.length];exact hl
  have z:=SeqAt.RcAt.lists (e:=sV ds1 uY) p1 p2 hsz hu0 (vH (n:=n) r1 r2 vv1 vv2 λx mx y my v w u t q1 q2 q3 q4 =>
      a2U I n A.in1 x y v w u t (vI hu) (jl.mp hx x mx) (jl.mp hy y my) q1 q2 q3 q4)
  have e:(je eG.toArray.size).all (sV ds1 uY)=fV ds1 uY:=by rw[aaM hl,gq,←vv1.length,←r1.length]
  rw[e]at z;exact z
 .have hne:(eG.toArray.size !=its2.toArray.size)=ak:=by rw[gq,gq,←vv1.length,←vv2.length,←r1.length,←r2.length];simpa using hl
  have e:fV ds1 uY=ao:=aeW (by simpa using hl);rw[e];exact SeqAt.RcAt.lists_lengths p1 p2 hne hu0
def aES(I:Inv X pins σ H s)(n:Nat)(A:jr)(x y:D)(vx vy:V)(u v:bh)(hu:A.units+(n+1)<ni)(hx:bB (n+1) x=ak)(hy:bB (n+1) y=ak)(rx:RD X.K H x vx)(ry:RD X.K H y vy)(ru:RelV vx u)(rv:RelV vy v):SeqAt.RcNeAt A s u v (!eqP x y):=by
 have hu0:A.units<ni:=by omega
 cases rx with
 |non =>
  cases ru;cases ry with
  |non =>
   cases rv
   first|exact SeqAt.RcNeAt.none_none|(simp only[eqP];exact SeqAt.RcNeAt.none_none)
  |bl b2 =>
   cases rv
   first|exact SeqAt.RcNeAt.none_bool b2|(simp only[eqP];exact SeqAt.RcNeAt.none_bool b2)
  |int i2 =>
   obtain⟨t2,rfl⟩:=rv
   first|exact SeqAt.RcNeAt.none_int i2 t2|(simp only[eqP];exact SeqAt.RcNeAt.none_int i2 t2)
  |str z2 =>
   obtain⟨t2,rfl⟩:=rv
   first|exact SeqAt.RcNeAt.none_str z2 t2|(simp only[eqP];exact SeqAt.RcNeAt.none_str z2 t2)
  |@tup a2 xs2 uY h2 r2 =>
   cases rv;obtain⟨its2,vv2,p2,_⟩:=I.tuple h2
   first|exact SeqAt.RcNeAt.none_tuple (show s.heap.IsTuple a2 its2.toArray from p2) hu0|(simp only[eqP];exact SeqAt.RcNeAt.none_tuple (show s.heap.IsTuple a2 its2.toArray from p2) hu0)
  |ref _=>simp[bB]at hy
  |ty _=>simp[bB]at hy
 |bl b1 =>
  cases ru;cases ry with
  |non =>
   cases rv
   first|exact SeqAt.RcNeAt.bool_none b1|(simp only[eqP];exact SeqAt.RcNeAt.bool_none b1)
  |bl b2 =>
   cases rv
   first|exact SeqAt.RcNeAt.bool_bool b1 b2|(simp only[eqP];exact SeqAt.RcNeAt.bool_bool b1 b2)
  |int i2 =>
   obtain⟨t2,rfl⟩:=rv
   first|exact SeqAt.RcNeAt.bool_int b1 i2 t2|(simp only[eqP];exact SeqAt.RcNeAt.bool_int b1 i2 t2)
  |str z2 =>
   obtain⟨t2,rfl⟩:=rv
   first|exact SeqAt.RcNeAt.bool_str b1 z2 t2|(simp only[eqP];exact SeqAt.RcNeAt.bool_str b1 z2 t2)
  |@tup a2 xs2 uY h2 r2 =>
   cases rv;obtain⟨its2,vv2,p2,_⟩:=I.tuple h2
   first|exact SeqAt.RcNeAt.bool_tuple b1 (show s.heap.IsTuple a2 its2.toArray from p2) hu0|(simp only[eqP];exact SeqAt.RcNeAt.bool_tuple b1 (show s.heap.IsTuple a2 its2.toArray from p2) hu0)
  |ref _=>simp[bB]at hy
  |ty _=>simp[bB]at hy
 |int i1 =>
  obtain⟨t1,rfl⟩:=ru;cases ry with
  |non =>
   cases rv
   first|exact SeqAt.RcNeAt.int_none i1 t1|(simp only[eqP];exact SeqAt.RcNeAt.int_none i1 t1)
  |bl b2 =>
   cases rv
   first|exact SeqAt.RcNeAt.int_bool i1 t1 b2|(simp only[eqP];exact SeqAt.RcNeAt.int_bool i1 t1 b2)
  |int i2 =>
   obtain⟨t2,rfl⟩:=rv
   first|exact SeqAt.RcNeAt.int_int i1 t1 i2 t2|(simp only[eqP];exact SeqAt.RcNeAt.int_int i1 t1 i2 t2)
  |str z2 =>
   obtain⟨t2,rfl⟩:=rv
   first|exact SeqAt.RcNeAt.int_str i1 t1 z2 t2|(simp only[eqP];exact SeqAt.RcNeAt.int_str i1 t1 z2 t2)
  |@tup a2 xs2 uY h2 r2 =>
   cases rv;obtain⟨its2,vv2,p2,_⟩:=I.tuple h2
   first|exact SeqAt.RcNeAt.int_tuple i1 t1 (show s.heap.IsTuple a2 its2.toArray from p2) hu0|(simp only[eqP];exact SeqAt.RcNeAt.int_tuple i1 t1 (show s.heap.IsTuple a2 its2.toArray from p2) hu0)
  |ref _=>simp[bB]at hy
  |ty _=>simp[bB]at hy
 |str z1 =>
  obtain⟨t1,rfl⟩:=ru;cases ry with
  |non =>
   cases rv
   first|exact SeqAt.RcNeAt.str_none z1 t1|(simp only[eqP];exact SeqAt.RcNeAt.str_none z1 t1)
  |bl b2 =>
   cases rv
   first|exact SeqAt.RcNeAt.str_bool z1 t1 b2|(simp only[eqP];exact SeqAt.RcNeAt.str_bool z1 t1 b2)
  |int i2 =>
   obtain⟨t2,rfl⟩:=rv
   first|exact SeqAt.RcNeAt.str_int z1 t1 i2 t2|(simp only[eqP];exact SeqAt.RcNeAt.str_int z1 t1 i2 t2)
  |str z2 =>
   obtain⟨t2,rfl⟩:=rv
   first|exact SeqAt.RcNeAt.str_str z1 t1 z2 t2|(simp only[eqP];exact SeqAt.RcNeAt.str_str z1 t1 z2 t2)
  |@tup a2 xs2 uY h2 r2 =>
   cases rv;obtain⟨its2,vv2,p2,_⟩:=I.tuple h2
   first|exact SeqAt.RcNeAt.str_tuple z1 t1 (show s.heap.IsTuple a2 its2.toArray from p2) hu0|(simp only[eqP];exact SeqAt.RcNeAt.str_tuple z1 t1 (show s.heap.IsTuple a2 its2.toArray from p2) hu0)
  |ref _=>simp[bB]at hy
  |ty _=>simp[bB]at hy
 |@tup a1 xs1 ds1 h1 r1 =>
  cases ru;obtain⟨eG,vv1,p1,_⟩:=I.tuple h1;cases ry with
  |non =>
   cases rv
   first|exact SeqAt.RcNeAt.tuple_none (show s.heap.IsTuple a1 eG.toArray from p1) hu0|(simp only[eqP];exact SeqAt.RcNeAt.tuple_none (show s.heap.IsTuple a1 eG.toArray from p1) hu0)
  |bl b2 =>
   cases rv
   first|exact SeqAt.RcNeAt.tuple_bool b2 (show s.heap.IsTuple a1 eG.toArray from p1) hu0|(simp only[eqP];exact SeqAt.RcNeAt.tuple_bool b2 (show s.heap.IsTuple a1 eG.toArray from p1) hu0)
  |int i2 =>
   obtain⟨t2,rfl⟩:=rv
   first|exact SeqAt.RcNeAt.tuple_int i2 t2 (show s.heap.IsTuple a1 eG.toArray from p1) hu0|(simp only[eqP];exact SeqAt.RcNeAt.tuple_int i2 t2 (show s.heap.IsTuple a1 eG.toArray from p1) hu0)
  |str z2 =>
   obtain⟨t2,rfl⟩:=rv
   first|exact SeqAt.RcNeAt.tuple_str z2 t2 (show s.heap.IsTuple a1 eG.toArray from p1) hu0|(simp only[eqP];exact SeqAt.RcNeAt.tuple_str z2 t2 (show s.heap.IsTuple a1 eG.toArray from p1) hu0)
  |@tup a2 xs2 uY h2 r2 =>
   cases rv;obtain⟨its2,vv2,p2,_⟩:=I.tuple h2
   have z:=SeqAt.RcNeAt.tuples (e:=sV ds1 uY) (show s.heap.IsTuple a1 eG.toArray from p1) (show s.heap.IsTuple a2 its2.toArray from p2) hu0 (vH (n:=n) r1 r2 vv1 vv2 λx mx y my v w u t q1 q2 q3 q4 =>
      a2U I n A.in1 x y v w u t (vI hu) (jl.mp (by simpa[bB]using hx) x mx) (jl.mp (by simpa[bB]using hy) y my) q1 q2 q3 q4)
   have e:((je (min eG.toArray.size its2.toArray.size)).all (sV ds1 uY)&&eG.toArray.size==its2.toArray.size)=eqP (.tup ds1) (.tup uY):=by
    rw[eqP,jZ,gq,gq,←vv1.length,←vv2.length,←r1.length,←r2.length]
   rw[e]at z;exact z
  |ref _=>simp[bB]at hy
  |ty _=>simp[bB]at hy
 |ref _=>simp[bB]at hx
 |ty _=>simp[bB]at hx
def aET(I:Inv X pins σ H s)(n:Nat)(A:jr)(hl:qK X.K H a1 xs)(y:D)(vy:V)(v:bh)(hu0:A.units<ni)(hy:bB n y=ak)(ry:RD X.K H y vy)(rv:RelV vy v):SeqAt.RcNeAt A s (.ref a1) v ak:=by
 obtain⟨eG,vv1,pl,_⟩:=I.list hl;have p1:=pl.isList;cases ry with
 |non =>
  cases rv;exact SeqAt.RcNeAt.list_none p1 hu0
 |bl b2 =>
  cases rv;exact SeqAt.RcNeAt.list_bool b2 p1 hu0
 |int i2 =>
  obtain⟨t2,rfl⟩:=rv;exact SeqAt.RcNeAt.list_int i2 t2 p1 hu0
 |str z2 =>
  obtain⟨t2,rfl⟩:=rv;exact SeqAt.RcNeAt.list_str z2 t2 p1 hu0
 |@tup a2 xs2 uY h2 r2 =>
  cases rv;obtain⟨its2,vv2,p2,_⟩:=I.tuple h2;exact SeqAt.RcNeAt.list_tuple (show s.heap.IsList a1 eG.toArray from p1) (show s.heap.IsTuple a2 its2.toArray from p2) hu0
 |ref _=>cases n<;>simp[bB]at hy
 |ty _=>cases n<;>simp[bB]at hy
def aEU(I:Inv X pins σ H s)(n:Nat)(A:jr)(hl:qK X.K H a2 xs)(y:D)(vy:V)(v:bh)(hu0:A.units<ni)(hy:bB n y=ak)(ry:RD X.K H y vy)(rv:RelV vy v):SeqAt.RcNeAt A s v (.ref a2) ak:=by
 obtain⟨its2,vv2,pl,_⟩:=I.list hl;have p2:=pl.isList;cases ry with
 |non =>
  cases rv;exact SeqAt.RcNeAt.none_list p2 hu0
 |bl b1 =>
  cases rv;exact SeqAt.RcNeAt.bool_list b1 p2 hu0
 |int i1 =>
  obtain⟨t1,rfl⟩:=rv;exact SeqAt.RcNeAt.int_list i1 t1 p2 hu0
 |str z1 =>
  obtain⟨t1,rfl⟩:=rv;exact SeqAt.RcNeAt.str_list z1 t1 p2 hu0
 |@tup a1 xs1 ds1 h1 r1 =>
  cases rv;obtain⟨eG,vv1,p1,_⟩:=I.tuple h1;exact SeqAt.RcNeAt.tuple_list (show s.heap.IsTuple a1 eG.toArray from p1) (show s.heap.IsList a2 its2.toArray from p2) hu0
 |ref _=>cases n<;>simp[bB]at hy
 |ty _=>cases n<;>simp[bB]at hy
def aEV(I:Inv X pins σ H s)(n:Nat)(A:jr){ds1 uY:List D}(h1:qK X.K H a1 xs1)(h2:qK X.K H a2 xs2)(r1:cG X.K H ds1 xs1)(r2:cG X.K H uY xs2)
  (hu:A.units+(n+1)<ni)(hx:ds1.all (bB n)=ak)(hy:uY.all (bB n)=ak):SeqAt.RcNeAt A s (.ref a1) (.ref a2) (!fV ds1 uY):=by
 have hu0:A.units<ni:=by omega
 obtain⟨eG,vv1,q1,_⟩:=I.list h1;obtain⟨its2,vv2,q2,_⟩:=I.list h2;have p1:=q1.isList;have p2:=q2.isList;by_cases hl:ds1.length=uY.length
 .have hsz:eG.toArray.size=its2.toArray.size:=by rw[gq,gq,←vv1.length,←vv2.length,←r1.length,←r2.length];exact hl
  have z:=SeqAt.RcNeAt.lists (e:=sV ds1 uY) p1 p2 hsz hu0 (vH (n:=n) r1 r2 vv1 vv2 λx mx y my v w u t q1 q2 q3 q4 =>
      a2U I n A.in1 x y v w u t (vI hu) (jl.mp hx x mx) (jl.mp hy y my) q1 q2 q3 q4)
  have e:(je eG.toArray.size).all (sV ds1 uY)=fV ds1 uY:=by rw[aaM hl,gq,←vv1.length,←r1.length]
  rw[e]at z;exact z
 .have hne:(eG.toArray.size !=its2.toArray.size)=ak:=by rw[gq,gq,←vv1.length,←vv2.length,←r1.length,←r2.length];simpa using hl
  have e:fV ds1 uY=ao:=aeW (by simpa using hl);rw[e];exact SeqAt.RcNeAt.lists_lengths p1 p2 hne hu0
abbrev eqG(G:Gp)(x y:D)(k:Bool->Prop):Prop:=match x,y with
 |.ref a,.ref b=>(match aQ G a,aQ G b with
  |some xs,aj ys=>xs.all (bB 20)=ak/\ys.all (bB 20)=ak/\k (fV xs ys)
  |_,_=>False)
 |.ref a,y=>(match aQ G a with
  |some _=>bB 20 y=ak/\k ao
  |none=>False)
 |x,.ref b=>(match aQ G b with
  |some _=>bB 20 x=ak/\k ao
  |none=>False)
 |x,y=>bB 20 x=ak/\bB 20 y=ak/\k (eqP x y)
abbrev j5:R3:=λx y G R=>eqG G x y λb=>R (.bl b) G
abbrev jA:R3:=λx y G R=>eqG G x y λb=>R (.bl (!b)) G
def acA{r3:R3}(h:∀(pins:List (bx×Obj))(s:dg)(σ:St)(H:Hp)(x y:D)(vx vy:V)(u v:bh)(G:Gp)(R:eV)(Q:VK),Inv X pins σ H s->RD X.K H x vx->RD X.K H y vy->RelV vx u->RelV vy v->HR X.K H G->r3 x y G R ->
   (∀w H' d G',Ts H H'->RD X.K H' d w->HR X.K H' G'->R d G'->Q w H')->dj (gk X.prog X.w) X.A (f u v) (EP X pins σ Q) X.xe s):oH X f r3 :=
 ⟨λvx vy H Q=>∃x y G R,RD X.K H x vx/\RD X.K H y vy/\HR X.K H G/\r3 x y G R/\∀w H' d G',Ts H H'->RD X.K H' d w->HR X.K H' G'->R d G'->Q w H',
  λpins s σ H vx vy u v Q I ru rv ⟨x,y,G,R,rx,ry,g,q,k⟩=>h pins s σ H x y vx vy u v G R Q I rx ry ru rv g q k,λH x y vx vy G R Q rx ry g q k=>⟨x,y,G,R,rx,ry,g,q,k⟩⟩
private theorem akM(hu:X.A.units+64<ni){neg:Bool}(hop:op=if neg then .NotEq else .Eq){x:D}{k:Bool->Prop}{Q:VK}(I:Inv X pins σ H s)(rx:RD X.K H x vx)(ry:RD X.K H y vy)(ru:RelV vx u)(rv:RelV vy v)(g:HR X.K H G)
  (h:eqG G x y k)(hk:∀b,k b->EP X pins σ Q (.bool (neg ^^ b)) s):dj (gk X.prog X.w) X.A (jm op u v) (EP X pins σ Q) X.xe s:=by
 have fin:∀{b:Bool},(if neg then SeqAt.RcNeAt X.A s u v (!b)else SeqAt.RcAt X.A s u v b)->k b->dj (gk X.prog X.w) X.A (jm op u v) (EP X pins σ Q) X.xe s:=λ{b} z kb=>by
  have e:=hk b kb;cases neg with
  |true =>
   subst hop;rw[Bool.true_xor]at e;exact z X.prog X.w X.xe _ e
  |false =>
   subst hop;rw[Bool.false_xor]at e;exact z X.prog X.w X.xe _ e
 have hu1:X.A.units+(20+1)<ni:=by omega
 have hu2:X.A.units+(19+1)<ni:=by omega
 have hu0:X.A.units<ni:=by omega
 have plain:bB 20 x=ak->bB 20 y=ak->k (eqP x y)->dj (gk X.prog X.w) X.A (jm op u v) (EP X pins σ Q) X.xe s:=λhx hy kk=>fin (b:=eqP x y) (by
  cases neg with
  |true=>exact aES I 19 X.A x y vx vy u v hu2 hx hy rx ry ru rv
  |false=>exact aPT I 19 X.A x y vx vy u v hu2 hx hy rx ry ru rv) kk
 have left:∀a xs,x=.ref a->aQ G a=aj xs->bB 20 y=ak->k ao->dj (gk X.prog X.w) X.A (jm op u v) (EP X pins σ Q) X.xe s:=λa xs e1 e2 hy kk=>by
  subst e1;cases rx;cases ru;obtain⟨zs,hz,_⟩:=c7 g e2;refine fin (b:=false) ?_ kk;cases neg with
  |true=>exact aET I 20 X.A hz y vy v hu0 hy ry rv
  |false=>exact aPU I 20 X.A hz y vy v hu0 hy ry rv
 have right:∀a xs,y=.ref a->aQ G a=aj xs->bB 20 x=ak->k ao->dj (gk X.prog X.w) X.A (jm op u v) (EP X pins σ Q) X.xe s:=λa xs e1 e2 hy kk=>by
  subst e1;cases ry;cases rv;obtain⟨zs,hz,_⟩:=c7 g e2;refine fin (b:=false) ?_ kk;cases neg with
  |true=>exact aEU I 20 X.A hz x vx u hu0 hy rx ru
  |false=>exact aPV I 20 X.A hz x vx u hu0 hy rx ru
 unfold eqG at h;split at h
 .rename_i a b;split at h
  .rename_i xs ys e1 e2;cases rx;cases ry;cases ru;cases rv;obtain⟨zs1,hz1,q1⟩:=c7 g e1;obtain⟨zs2,hz2,q2⟩:=c7 g e2;refine fin (b:=fV xs ys) ?_ h.2.2;cases neg with
   |true=>exact aEV I 20 X.A hz1 hz2 q1 q2 hu1 h.1 h.2.1
   |false=>exact aPW I 20 X.A hz1 hz2 q1 q2 hu1 h.1 h.2.1
  .exact h.elim
 .rename_i a _;split at h
  .rename_i xs e1;exact left a xs rfl e1 h.1 h.2
  .exact h.elim
 .rename_i b _;split at h
  .rename_i xs e1;exact right b xs rfl e1 h.1 h.2
  .exact h.elim
 .exact plain h.1 h.2.1 h.2.2
def aPX(hu:X.A.units+64<ni):oH X (jm .Eq) j5:=acA λpins s σ H x y vx vy u v G R Q I rx ry ru rv g q k =>
 akM (neg:=false) hu rfl I rx ry ru rv g q λb kb=>⟨.bl b,H,I,by rw[Bool.false_xor];rfl,k _ H (.bl b) G (.refl H) (.bl b) g kb⟩
def aPY(hu:X.A.units+64<ni):oH X (jm .NotEq) jA:=acA λpins s σ H x y vx vy u v G R Q I rx ry ru rv g q k =>
 akM (neg:=true) hu rfl I rx ry ru rv g q λb kb=>⟨.bl (!b),H,I,by rw[Bool.true_xor];rfl,k _ H (.bl (!b)) G (.refl H) (.bl (!b)) g kb⟩
end
end
section
open PySem.W PySem.Calls
open PySem.Builtin PySem.Builtin.ObjectAttr PySem.Builtin.Getset_descriptor
section
variable{prog:ju}{w:jq}{A:jr}{s:dg}{K:Fg}{x:bx}{o:Obj}
def a9M{tp:bh}(X:K.In s.heap)(hx:s.heap.get? x=aj o)(hc:o.cls=.ref C)(hm:mroIn K C (.type "object")=aj ak)
  (h:R (.ok (.ret (.ref C))) s):zm (gk prog w) A (.call (.builtin "getset_descriptor.__get__") ⟨[.builtin "object.__class__",.ref x,tp],[]⟩) R s:=by
 obtain⟨hh,g,dr,t,os⟩:=s;have L0:Looks (gk prog w) hh (typeOf (.ref x)) (.ref C):=hc ▸ (Looks.ld hx).andThen .now;have L1:=looks_mroIn (M:=model prog w) X hm;refine codeAny_call_builtin KF.slot_gs.plain KF.entry_gs (KF.slot_gs.check _ _ _ _ _ _ _ _ KF.type_class (KF.args_gs _ _ _) ?_);unfold Builtin.«getset_descriptor.__get__» descrGet;rw[dga_obj];refine au (dw ?_);unfold descrGetter descrCheckInstance descrNameAndClass isInstance;simp only[KF.owner_class]
 repeat lk
 refine⟨Code.quiet_builtin _ (by decide+kernel),xu KF.entry_class ?_⟩;unfold Builtin.«object.__class__» shownTypeOf
 repeat lk
 exact h
def anO(X:K.In s.heap)(hx:s.heap.get? x=aj o)(hc:o.cls=.ref C)
  (hga:findIn K (.ref C) "__getattribute__"=aj (aj (.builtin "BaseException.__getattribute__")))(hgn:findIn K (.ref C) "__getattr__"=aj aq)(ha:findIn K (.ref C) "__class__"=aj (aj (.builtin "object.__class__")))
  (hb:subIn K (.ref C) (.type "BaseException")=aj ak)(hm:mroIn K C (.type "object")=aj ak)(h:Q (aj (.ref C)) {s with toks:=s.toks+1}):dj (gk prog w) A (getAttr? (.ref x) "__class__") Q E s:=by
 obtain⟨hh,g,d,t,os⟩:=s;have L0:Looks (gk prog w) hh (typeOf (.ref x)) (.ref C):=hc ▸ (Looks.ld hx).andThen .now;have L1:=looks_findIn (M:=model prog w) X hga;have L2':=looks_findIn (M:=model prog w) X hgn;have L3:=looks_findIn (M:=model prog w) X ha;have L4:=looks_subIn (M:=model prog w) X hb;unfold getAttr? getAttrBy? getAttrBy;refine au (wpAny_mkText (au (a2r (vq (au (L0.at (au (L1.at ?_))))))));have hx2:(bh.builtin "BaseException.__getattribute__"==bh.builtin "object.__getattribute__")=ao:=by decide+kernel
 have f3:=PySem.F.attr_ValueError.ga.bind (.ref x);have hk:builtinKind "BaseException.__getattribute__"=aj .slot:=by decide+kernel
 have hsplit:splitId "BaseException.__getattribute__"=aj ("BaseException","__getattribute__"):=by decide+kernel
 have ha2:=PySem.F.args_bexc_ga (.ref x) (.str "__class__" t)
 repeat (first|with_reducible refine L0.at ?_|with_reducible refine L1.at ?_|with_reducible refine L2'.at ?_|with_reducible refine L3.at ?_|with_reducible refine L4.at ?_|wp_step)
 refine codeAny_call_builtin PySem.F.attr_ValueError.ga.plain PySem.F.entry_bexc_ga ?_;simp only[checkBuiltinCall,hk,hsplit];unfold isInstance;have f5:=PySem.F.typeOf_object_class;have f6:=PySem.F.slot_gs_get.lookup;have f7:=PySem.F.slot_gs_set.lookup
 repeat (any_goals (first|assumption|with_reducible refine L0.at ?_|with_reducible refine L1.at ?_|with_reducible refine L2'.at ?_|with_reducible refine L3.at ?_|with_reducible refine L4.at ?_|wp_step))
 refine a9M X hx hc hm ?_
 repeat (any_goals (first|assumption|wp_step))
end
end
variable{T:String}{R:eV}
section
variable{n:String}{s:dg}{H:Hp}{Q:VK}
section
variable{X:Cx}{x:Str}{pos:Pos}{e:jc}{t:qM}{id T:String}{r3:List D->Gp->eV->Prop}
abbrev cI(X:Cx)(f:bh)(r3:List D->Gp->eV->Prop):Prop :=
 ∀(pins:List (bx×Obj))(s:dg)(σ:St)(H:Hp)(xs:List D)(vs:List V)(us:List bh)(G:Gp)(R:eV)(Q:VK),Inv X pins σ H s->cG X.K H xs vs->Vals vs us->HR X.K H G->r3 xs G R ->
  (∀v H' d G',Ts H H'->RD X.K H' d v->HR X.K H' G'->R d G'->Q v H')->dj (gk X.prog X.w) X.A (call f us) (EP X pins σ Q) X.xe s
def cI.of(h:oM X f r)(i:∀(H:Hp)(xs:List D)(vs:List V)(G:Gp)(R:eV)(Q:VK),cG X.K H xs vs->HR X.K H G->r3 xs G R ->
  (∀v H' d G',Ts H H'->RD X.K H' d v->HR X.K H' G'->R d G'->Q v H')->r vs H λv H'=>KF X.K H'->Q v H'):cI X f r3:=λpins s σ H xs vs us G R Q I rx rv g q k =>
 cY (h pins s σ H vs us _ I rv (i H xs vs G R Q rx g q k)) λ_ _ ⟨v,H',I',r,q'⟩=>⟨v,H',I',r,q' (yO I')⟩
abbrev cJ(r3:List D->Gp->eV->Prop)(t:qM):cO:=λρ G R=>t ρ G λxs G1=>r3 xs G1 R
def oU(hc:cI X (.builtin id) r3)(hg:Gl X x)(hm:X.mg x=aq)(hv:jw x=aj (.builtin id))(ha:PA3 X (e::es) t)(hn:x≠"__name__":=by decide)(hdb:(x==("__debug__":Str))=ao:=by decide)
  (he:jt (e::es) X.env=(ao,eval e X.env)::jt es X.env:=by rfl)(hpl:(a0i pos (jt es X.env)).any (·.1)=ao:=by rfl):cU X (.Call (.Name x p) (e::es) [] pos) (cJ r3 t):=by
 intro pins s σ H Q I h _tk;obtain⟨ρ,G,R,sr,g,q,kk⟩:=h;refine a0m (sI I hg hm hv ?_ hn hdb)
 exact PyProof.Rows.callWith_builtin1 (cY (ha pos pins s σ H (λvs H1=>Ts H H1/\∃ds G1,cG X.K H1 ds vs/\HR X.K H1 G1/\r3 ds G1 R) I ⟨ρ,G,_,sr,g,q,λvs H1 ds G1 t1 r1 g1 q1=>⟨t1,ds,G1,r1,g1,q1⟩⟩) λus s1 ⟨vs,H1,I1,r,t1,ds,G1,r1,g1,q1⟩ =>
  hc pins s1 σ H1 ds vs us G1 R Q I1 r1 r g1 q1 λv H' d G' t2=>kk v H' d G' (t1.trans t2)) he hpl
def a72(hc:cI X (.type T) r3)(hg:Gl X x)(hm:X.mg x=aq)(hv:jw x=aj (.type T))(ha:PA3 X (e::es) t)(hn:x≠"__name__":=by decide)(hdb:(x==("__debug__":Str))=ao:=by decide)
  (he:jt (e::es) X.env=(ao,eval e X.env)::jt es X.env:=by rfl)(hpl:(a0i pos (jt es X.env)).any (·.1)=ao:=by rfl):cU X (.Call (.Name x p) (e::es) [] pos) (cJ r3 t):=by
 intro pins s σ H Q I h _tk;obtain⟨ρ,G,R,sr,g,q,kk⟩:=h;refine a0m (sI I hg hm hv ?_ hn hdb)
 exact PyProof.Rows.callWith_type1 (cY (ha pos pins s σ H (λvs H1=>Ts H H1/\∃ds G1,cG X.K H1 ds vs/\HR X.K H1 G1/\r3 ds G1 R) I ⟨ρ,G,_,sr,g,q,λvs H1 ds G1 t1 r1 g1 q1=>⟨t1,ds,G1,r1,g1,q1⟩⟩) λus s1 ⟨vs,H1,I1,r,t1,ds,G1,r1,g1,q1⟩ =>
  hc pins s1 σ H1 ds vs us G1 R Q I1 r1 r g1 q1 λv H' d G' t2=>kk v H' d G' (t1.trans t2)) he hpl
abbrev dO:List D->Gp->eV->Prop:=λxs G R=>match xs with
 |[.str z]=>z.length<=dh/\R (.int z.length) G
 |[.tup ds]=>R (.int ds.length) G
 |[.ref q]=>(match aQ G q with
  |some ds=>R (.int ds.length) G
  |none=>False)
 |_=>False
private theorem aKZ:cI X (.builtin "len") dO:=cI.of (ac3.or ac4) λH xs vs G R Q rx g q k=>by
 cases rx with
 |nil=>exact False.elim q
 |cons r rr =>
  cases rr with
  |cons _ _=>cases r<;>exact False.elim q
  |nil =>
   cases r with
   |str z=>exact .inr ⟨z,rfl,q.1,λ_=>k _ H _ G (.refl H) (.int _) g q.2⟩
   |@tup a xs ds ha ra=>exact .inl ⟨a,xs,rfl,.inr ha,λ_=>by rw[←ra.length];exact k _ H _ G (.refl H) (.int _) g q⟩
   |ref a =>
    have q':(match aQ G a with
     |some ds=>R (.int ds.length) G
     |none=>False):=q
    split at q'
    .rename_i ds e1;obtain⟨xs,h1,r1⟩:=c7 g e1;exact .inl ⟨a,xs,rfl,.inl h1,λ_=>by rw[←r1.length];exact k _ H _ G (.refl H) (.int _) g q'⟩
    .exact q'.elim
   |_=>exact False.elim q
abbrev aaN:List D->Gp->eV->Prop:=λxs G R=>match xs with
 |[.int i]=>R (.int (if i<0 then -i else i)) G
 |_=>False
def aL0:cI X (.builtin "abs") aaN:=cI.of aq5 λH xs vs G R Q rx g q k=>by
 cases rx with
 |nil=>exact False.elim q
 |cons r rr =>
  cases rr with
  |cons _ _=>cases r<;>exact False.elim q
  |nil =>
   cases r with
   |int i=>exact⟨i,rfl,λ_=>k _ H _ G (.refl H) (.int _) g q⟩
   |_=>exact False.elim q
abbrev a0H:List D->Gp->eV->Prop:=λxs G R=>match xs with
 |[.int i]=>R (.int i) G
 |[.bl b]=>R (.int (if b then 1 else 0)) G
 |_=>False
def aL1:cI X (.type "int") a0H:=cI.of an7 λH xs vs G R Q rx g q k=>by
 cases rx with
 |nil=>exact False.elim q
 |cons r rr =>
  cases rr with
  |cons _ _=>cases r<;>exact False.elim q
  |nil =>
   cases r with
   |int i=>exact .inl ⟨i,rfl,λ_=>k _ H _ G (.refl H) (.int _) g q⟩
   |bl b=>exact .inr ⟨b,rfl,λ_=>k _ H _ G (.refl H) (.int _) g q⟩
   |_=>exact False.elim q
abbrev a73:List D->Gp->eV->Prop:=λxs G R=>match xs with
 |[.tup ds]=>∀l,G l=aq->R (.ref l) (aM G l (.lst ds))
 |[.ref q]=>(match aQ G q with
  |some ds=>∀l,G l=aq->R (.ref l) (aM G l (.lst ds))
  |none=>False)
 |_=>False
private theorem aEW:cI X (.type "list") a73:=cI.of ac5 λH xs vs G R Q rx g q k=>by
 cases rx with
 |nil=>exact False.elim q
 |cons r rr =>
  cases rr with
  |cons _ _=>cases r<;>exact False.elim q
  |nil =>
   cases r with
   |@tup a xs ds ha ra =>
    refine⟨a,xs,rfl,.inr ha,λl hl kf=>?_⟩;have sn:Same H (upd H l (.lst xs)):=bV hl;exact k _ _ _ _ (.same sn) (.ref l) (g.put (u:=.lst ds) hl ⟨_,aL,ra.mono (.same sn)⟩) (q l (jY g hl kf))
   |ref a =>
    have q':(match aQ G a with
     |some ds=>∀l,G l=aq->R (.ref l) (aM G l (.lst ds))
     |none=>False):=q
    split at q'
    .rename_i ds e1;obtain⟨xs,h1,r1⟩:=c7 g e1;refine⟨a,xs,rfl,.inl h1,λl hl kf=>?_⟩;have sn:Same H (upd H l (.lst xs)):=bV hl;exact k _ _ _ _ (.same sn) (.ref l) (g.put (u:=.lst ds) hl ⟨_,aL,r1.mono (.same sn)⟩) (q' l (jY g hl kf))
    .exact q'.elim
   |_=>exact False.elim q
abbrev tyD(G:Gp):D->Option String
 |.non=>aj "NoneType"
 |.bl _=>aj "bool"
 |.int _=>aj "int"
 |.str _=>aj "str"
 |.tup _=>aj "tuple"
 |.ref q=>(match G q with
  |some (.lst _)=>aj "list"
  |some (.rol _)=>aj "list"
  |some (.jX _ _)=>aj "dict"
  |_=>aq)
 |.ty _=>aq
abbrev exD(G:Gp):D->Option bx
 |.ref q=>(match G q with
  |some (.exn C)=>aj C
  |_=>aq)
 |_=>aq
abbrev subB(T n:String):Bool:=T==n||(T=="bool"&&n=="int")
abbrev aL2:List String:=["NoneType","bool","int","str","list","tuple","dict"]
abbrev eY:List String:=["int","bool","str","list","tuple","dict","ValueError"]
def aEX:∀T∈aL2,∀n∈eY,a0f [] (.type T) (.type n)=aj (subB T n):=by decide+kernel
def mF(K:Fg)(h1:T∈aL2)(h2:n∈eY):a0f K (.type T) (.type n)=aj (subB T n):=aEX T h1 n h2
structure ExC(K:Fg)(C:bx):Prop where
 ga:a1o K (.ref C) "__getattribute__"=aj (aj (.builtin "BaseException.__getattribute__"))
 gn:a1o K (.ref C) "__getattr__"=aj aq
 cl:a1o K (.ref C) "__class__"=aj (aj (.builtin "object.__class__"))
 be:PySem.W.subIn K (.ref C) (.type "BaseException")=aj ak
 ob:PySem.W.mroIn K C (.type "object")=aj ak
 cs:(a1r K C).isSome=ak
private theorem aqX{K:Fg}(c:ExC K C):PySem.W.KitX K (.ref a) (.ref C) (aBI C a) where
 ty:=λM h X ⟨o,vs,h1,h2,_⟩=>h2 ▸ (PySem.W.Looks.ld h1).andThen .now
 it:=λM h X _=>by
  intro A' Q' E' s' k q;cases eK:a1r K C with
  |none=>have:=c.cs;rw[eK]at this;cases this
  |some cd =>
   unfold a1r at eK;split at eK
   .rename_i ho;unfold isType loadHead;exact au (wpAny_loadPart (k _ _ (X _ _ ho)) (dw q))
   .cases eK
 ne:=λh tp dd its n sl X htp=>by
  refine Bool.eq_false_iff.mpr λq=>?_;have e:C=tp:=Value.ref.inj (beq_iff_eq.mp q);subst e;cases eK:a1r K C with
  |none=>have:=c.cs;rw[eK]at this;cases this
  |some cd =>
   unfold a1r at eK;split at eK
   .rename_i ho;have z:=(X _ _ ho).symm.trans htp;cases z
   .cases eK
 ca:=λX ⟨o,vs,h1,h2,_⟩ k=>anO X h1 h2 c.ga c.gn c.cl c.be c.ob k
abbrev aJ(K:Fg):List D->Gp->eV->Prop:=λxs G R=>match xs with
 |[x,.ty n]=>(match tyD G x with
  |some T=>n∈eY/\R (.bl (subB T n)) G
  |none=>(match exD G x with
   |some C=>∃b,ExC K C/\a0f K (.ref C) (.type n)=aj b/\R (.bl b) G
   |none=>False))
 |[x,.ref C']=>(match exD G x with
  |some C=>∃b,ExC K C/\a0f K (.ref C) (.ref C')=aj b/\R (.bl b) G
  |none=>False)
 |_=>False
variable{x:D}
private theorem aqY(h:exD G x=aj C):∃a,x=.ref a/\G a=aj (.exn C):=by
 cases x with
 |ref q =>
  refine⟨q,rfl,?_⟩
  have h':(match G q with
   |some (.exn C)=>aj C
   |_=>aq)=aj C:=h
  split at h'
  .rename_i e1;cases h';exact e1
  .cases h'
 |_=>cases h
variable{G:Gp}
def acB{σ:St}{a C:bx}{c:bh}{b:Bool}(I:Inv X pins σ H s)(g:HR X.K H G)(e:G a=aj (.exn C))(hc:ExC X.K C)(hk:a0f X.K (.ref C) c=aj b)(q:R (.bl b) G)
  (k:∀v H' d G',Ts H H'->RD X.K H' d v->HR X.K H' G'->R d G'->Q v H'):dj (gk X.prog X.w) X.A (call (.builtin "isinstance") [.ref a,c]) (EP X pins σ Q) X.xe s:=by
 obtain⟨o0,vs0,z,_⟩:=g a _ e;obtain⟨_,z1,_,_⟩:=I.hok a _ z;exact yc (aqX hc) I.kIn z1 hk (λz=>nomatch z) λtk=>⟨.bl b,H,I.tok tk,rfl,k _ H _ G (.refl H) (.bl b) g q⟩
private theorem aEZ{σ:St}{vx:V}{u:bh}(I:Inv X pins σ H s)(rx:RD X.K H x vx)(ru:RelV vx u)(g:HR X.K H G)(e:tyD G x=aj T)(hn:n∈eY)(q:R (.bl (subB T n)) G)
  (k:∀v H' d G',Ts H H'->RD X.K H' d v->HR X.K H' G'->R d G'->Q v H'):dj (gk X.prog X.w) X.A (call (.builtin "isinstance") [u,.type n]) (EP X pins σ Q) X.xe s:=by
 have fin:∀tk,EP X pins σ Q (.bool (subB T n)) {s with toks:=tk}:=λtk=>⟨.bl _,H,I.tok tk,rfl,k _ H _ G (.refl H) (.bl _) g q⟩;cases rx with
 |non=>cases ru;cases e;exact yc PySem.W.kitx_none I.kIn True.intro (mF _ (by decide) hn) (λz=>nomatch z) fin
 |bl b=>cases ru;cases e;exact yc PySem.W.kitx_bool I.kIn True.intro (mF _ (by decide) hn) (λz=>nomatch z) fin
 |int i=>obtain⟨t,rfl⟩:=ru;cases e;exact yc PySem.W.kitx_int I.kIn True.intro (mF _ (by decide) hn) (λz=>nomatch z) fin
 |str i=>obtain⟨t,rfl⟩:=ru;cases e;exact yc PySem.W.kitx_str I.kIn True.intro (mF _ (by decide) hn) (λz=>nomatch z) fin
 |ty n=>cases e
 |@tup a xs ds ha ra =>
  cases ru;cases e;obtain⟨its,_,p,_⟩:=I.tuple ha;obtain⟨o,h1,h2,_⟩:=p;exact yc PySem.W.kitx_tuple I.kIn ⟨o,h1,h2⟩ (mF _ (by decide) hn) (λz=>nomatch z) fin
 |ref a =>
  cases ru
  have e':(match G a with
   |some (.lst _)=>aj "list"
   |some (.rol _)=>aj "list"
   |some (.jX _ _)=>aj "dict"
   |_=>aq)=aj T:=e
  split at e'
  .rename_i ds e1;cases e';obtain⟨xs,h1,_⟩:=c7 g (show aQ G a=aj ds by unfold aQ;rw[e1]);obtain⟨its,_,p,_⟩:=I.list h1;obtain⟨o,n',h1,h2,_⟩:=p;exact yc PySem.W.kitx_list I.kIn ⟨o,h1,h2⟩ (mF _ (by decide) hn) (λz=>nomatch z) fin
  .rename_i ds e1;cases e';obtain⟨xs,h1,_⟩:=c7 g (show aQ G a=aj ds by unfold aQ;rw[e1]);obtain⟨its,_,p,_⟩:=I.list h1;obtain⟨o,n',h1,h2,_⟩:=p;exact yc PySem.W.kitx_list I.kIn ⟨o,h1,h2⟩ (mF _ (by decide) hn) (λz=>nomatch z) fin
  .rename_i kvs e1;cases e';rcases g a _ e1 with⟨_,xs,h1,_⟩|⟨_,xs,h1,_⟩
   .obtain⟨_,_,vs,_,o,es,ep,h1,h2,_⟩:=I.hok a _ h1;exact yc PySem.W.kitx_dict I.kIn ⟨o,h1,h2.1⟩ (mF _ (by decide) hn) (λz=>nomatch z) fin
   .obtain⟨_,_,xs,_,o,es,ep,h1,h2,_⟩:=I.hok a _ h1;exact yc PySem.W.kitx_dict I.kIn ⟨o,h1,h2.1⟩ (mF _ (by decide) hn) (λz=>nomatch z) fin
  .cases e'
private theorem acC:cI X (.builtin "isinstance") (aJ X.K):=by
 intro pins s σ H xs vs us G R Q I rx rv g q k;cases rx with
 |nil=>exact False.elim q
 |@cons x v ds ws r1 rr =>
  cases rr with
  |nil=>cases r1<;>exact False.elim q
  |@cons y v2 uY ws2 r2 rr2 =>
   cases rr2 with
   |cons _ _=>cases r2<;>exact False.elim q
   |nil =>
    obtain⟨u1,u2,rfl,ru1,ru2⟩:=vals2 rv;cases r2 with
    |ty n =>
     cases ru2
     have q':(match tyD G x with
      |some T=>n∈eY/\R (.bl (subB T n)) G
      |none=>(match exD G x with
       |some C=>∃b,ExC X.K C/\a0f X.K (.ref C) (.type n)=aj b/\R (.bl b) G
       |none=>False)):=q
     split at q'
     .rename_i T eT;exact aEZ I r1 ru1 g eT q'.1 q'.2 k
     .split at q'
      .rename_i C eC;obtain⟨a,rfl,ea⟩:=aqY eC;obtain⟨b,hc,hk,q'⟩:=q';cases r1;cases ru1;exact acB I g ea hc hk q' k
      .exact q'.elim
    |ref C' =>
     cases ru2
     have q':(match exD G x with
      |some C=>∃b,ExC X.K C/\a0f X.K (.ref C) (.ref C')=aj b/\R (.bl b) G
      |none=>False):=q
     split at q'
     .rename_i C eC;obtain⟨a,rfl,ea⟩:=aqY eC;obtain⟨b,hc,hk,q'⟩:=q';cases r1;cases ru1;exact acB I g ea hc hk q' k
     .exact q'.elim
    |_=>exact False.elim q
end
end
variable{id:String}
section
def a74{K:Fg}{x:D}(hx:scD x=ak)(rx:RD K H x vx):∀{ys:List D}{vs:List V},cG K H ys vs->ys.all scD=ak->vs.any (λy=>eqV y vx)=ys.any (λy=>eqP y x)
 |_,_,.nil,_=>rfl
 |_,_,.cons h r,hs=>by
  rw[a04,bw]at hs;rw[a1e,a1e,a74 hx rx r hs.2];congr 1;obtain⟨h1,_⟩:=hs;cases rx<;>cases h<;>first|(simp[eqV,eqP];done)|cases hx|cases h1
variable{x:D}
def a0I{K:Fg}(hx:scD x=ak)(rx:RD K H x vx):tZ vx=ak:=by cases rx<;>first|rfl|cases hx
def vJ{K:Fg}:∀{ys:List D}{vs:List V},cG K H ys vs->ys.all scD=ak->vs.all tZ=ak
 |_,_,.nil,_=>rfl
 |_,_,.cons h r,hs=>by
  rw[a04,bw]at hs;rw[a04,a0I hs.1 h,vJ r hs.2];rfl
abbrev inG(G:Gp)(x y:D)(k:Bool->Prop):Prop:=match x,y with
 |.str i,.str j=>k (!(Builtin.Str.occurrences j i 0 j.length 1).isEmpty)
 |x,.tup ys=>scD x=ak/\ys.all scD=ak/\k (ys.any λy=>eqP y x)
 |x,.ref p=>(match aQ G p with
  |some ys=>scD x=ak/\ys.all scD=ak/\k (ys.any λy=>eqP y x)
  |none=>False)
 |_,_=>False
abbrev aL3:R3:=λx y G R=>inG G x y λb=>R (.bl b) G
abbrev akN:R3:=λx y G R=>inG G x y λb=>R (.bl (!b)) G
section
variable{X:Cx}
private theorem aQ0(hu:X.A.units+64<ni):oH X (jm .In) aL3:=by
 refine⟨_,an4.or anC,λH x y vx vy G R Q rx ry g h k=>?_⟩;have h':inG G x y λb=>R (.bl b) G:=h;unfold inG at h';split at h'
 .cases rx;cases ry;exact .inl ⟨_,_,rfl,rfl,k _ H _ G (.refl H) (.bl _) g h'⟩
 .cases ry with
  |@tup a xs ds ha ra =>
   refine .inr ⟨a,xs,rfl,.inr ha,a0I h'.1 rx,vJ ra h'.2.1,?_⟩;have e:inV vx xs=_:=a74 h'.1 rx ra h'.2.1;simp only[qw,if_false];rw[e];exact k _ H _ G (.refl H) (.bl _) g h'.2.2
 .cases ry;split at h'
  .rename_i ys e1;obtain⟨xs,hq,ra⟩:=c7 g e1;refine .inr ⟨_,xs,rfl,.inl hq,a0I h'.1 rx,vJ ra h'.2.1,?_⟩;have e:inV vx xs=_:=a74 h'.1 rx ra h'.2.1;simp only[qw,if_false];rw[e];exact k _ H _ G (.refl H) (.bl _) g h'.2.2
  .exact h'.elim
 .exact h'.elim
private theorem axP(hu:X.A.units+64<ni):oH X (jm .NotIn) akN:=by
 refine⟨_,abY.or ac2,λH x y vx vy G R Q rx ry g h k=>?_⟩;have h':inG G x y λb=>R (.bl (!b)) G:=h;unfold inG at h';split at h'
 .cases rx;cases ry;exact .inl ⟨_,_,rfl,rfl,k _ H _ G (.refl H) (.bl _) g h'⟩
 .cases ry with
  |@tup a xs ds ha ra =>
   refine .inr ⟨a,xs,rfl,.inr ha,a0I h'.1 rx,vJ ra h'.2.1,?_⟩;have e:inV vx xs=_:=a74 h'.1 rx ra h'.2.1;simp only[if_true];rw[e];exact k _ H _ G (.refl H) (.bl _) g h'.2.2
 .cases ry;split at h'
  .rename_i ys e1;obtain⟨xs,hq,ra⟩:=c7 g e1;refine .inr ⟨_,xs,rfl,.inl hq,a0I h'.1 rx,vJ ra h'.2.1,?_⟩;have e:inV vx xs=_:=a74 h'.1 rx ra h'.2.1;simp only[if_true];rw[e];exact k _ H _ G (.refl H) (.bl _) g h'.2.2
  .exact h'.elim
 .exact h'.elim
abbrev axQ(x:D)(lo hi:Option Int)(G:Gp)(R:eV):Prop:=match x with
 |.tup xs=>¬ (HT.jV xs.length 0 lo=0/\HT.jV xs.length xs.length hi=xs.length)/\R (.tup (cutD xs lo hi)) G
 |.str z=>z.length<=dh/\R (.str (Txt.slice z lo hi)) G
 |.ref p=>(match aQ G p with
  |some xs=>∀q,G q=aq->R (.ref q) (aM G q (.lst (cutD xs lo hi)))
  |none=>False)
 |_=>False
def aF1:SlR X (λx lo hi H Q=>∃z,x=.str z/\z.length<=dh/\Q (.str (Txt.slice z lo hi)) H):=by
 intro pins s σ H x v vl vu lo hi sl Q I rx hs pl pu h;obtain⟨z,rfl,hz,q⟩:=h;obtain⟨t,rfl⟩:=rx;refine⟨"str",_,F.slot_str_getitem.lookup,typeIs_str _ _ _,?_⟩;have fin:∀t' k,EP X pins σ Q (.str (Txt.slice z lo hi) t') {s with toks:=k}:=λt' k=>⟨.str _,H,I.tok k,⟨t',rfl⟩,q⟩;cases pl with
 |none =>
  cases pu with
  |none=>exact a1d (l:=none) (u:=none) (st:=none) hs rfl (post_val_or_str ⟨uh (Txt.slice_le z _ _) hz,fin⟩)
  |int j uj=>exact a1d (l:=none) (u:=some (j,uj)) (st:=none) hs rfl (post_val_or_str ⟨uh (Txt.slice_le z _ _) hz,fin⟩)
 |int i ui =>
  cases pu with
  |none=>exact a1d (l:=some (i,ui)) (u:=none) (st:=none) hs rfl (post_val_or_str ⟨uh (Txt.slice_le z _ _) hz,fin⟩)
  |int j uj=>exact a1d (l:=some (i,ui)) (u:=some (j,uj)) (st:=none) hs rfl (post_val_or_str ⟨uh (Txt.slice_le z _ _) hz,fin⟩)
def aqZ{K:Fg}(r:cG K H ds xs)(lo hi:Option Int):cG K H (cutD ds lo hi) (a9H xs lo hi):=by
 unfold cutD a9H;rw[r.length];exact(r.drop _).take _
abbrev a0J(te:cO)(tl th:TO3):cO:=λρ G R=>te ρ G λx G1=>tl ρ G1 λlo G2=>th ρ G2 λhi G3=>axQ x lo hi G3 R
private theorem axR{e:jc}{te:cO}{lo hi:Option jc}{tl th:TO3}{p2:Pos}(he:cU X e te)(hl:PO3 X lo tl)(hu:PO3 X hi th):cU X (.Subscript e (.Slice lo hi aq p2) pos) (a0J te tl th):=by
 refine PE.imp (PE.kf (aqH (axA.or (aE2.or aF1)) he hl hu)) λσ H Q h=>?_;obtain⟨ρ,G,R,s,g,q,k⟩:=h;refine⟨ρ,G,_,s,g,q,λvx H1 x G1 t1 rx g1 q1=>?_⟩;refine⟨ρ,G1,_,s.mono t1,g1,q1,λl H2 G2 t2 g2 q2=>?_⟩;refine⟨ρ,G2,_,s.mono (t1.trans t2),g2,q2,λu H3 G3 t3 g3 q3=>?_⟩;have rx3:=rx.mono (t2.trans t3);have tt:=(t1.trans t2).trans t3;cases rx3 with
 |@tup a xs ds ha ra =>
  refine .inr (.inl ⟨a,xs,rfl,ha,by rw[←ra.length];exact q3.1,λp hp _=>?_⟩);have sn:Same H3 (upd H3 p (.tup (a9H xs l u))):=bV hp;exact k _ _ _ G3 (tt.trans (.same sn)) (.tup (oG.of aL) ((aqZ ra l u).mono (.same sn)) (aeQ aL)) (g3.same sn) q3.2
 |str z=>exact .inr (.inr ⟨z,rfl,q3.1,λ_=>k _ H3 _ G3 tt (.str _) g3 q3.2⟩)
 |ref p =>
  have q3':(match aQ G3 p with
   |some xs=>∀q,G3 q=aq->R (.ref q) (aM G3 q (.lst (cutD xs l u)))
   |none=>False):=q3
  split at q3'
  .rename_i ds e1;obtain⟨xs,hq,ra⟩:=c7 g3 e1;refine .inl ⟨p,xs,rfl,hq,λb hb kf=>?_⟩;have sn:Same H3 (upd H3 b (.lst (a9H xs l u))):=bV hb;exact k _ _ _ _ (tt.trans (.same sn)) (.ref b) (g3.put (u:=.lst (cutD ds l u)) hb ⟨_,aL,(aqZ ra l u).mono (.same sn)⟩) (q3' b (jY g3 hb kf))
  .exact q3'.elim
 |_=>exact False.elim q3
abbrev aeY(T:String)(G:Gp):D->Prop
 |.str _=>T="str"
 |.ref p=>T="list"/\(aQ G p).isSome=ak
 |_=>False
def ar0{K:Fg}(g:HR K H G)(r:RD K H x v)(h:aeY T G x):tyV K T v H:=by
 cases r with
 |str z=>exact h
 |ref p =>
  obtain⟨rfl,h⟩:=h;obtain⟨ds,e⟩:=a0D.mp h;obtain⟨xs,hq,_⟩:=c7 g e;exact .inl ⟨rfl,xs,hq⟩
 |_=>exact False.elim h
@[simp]def RM3:=D->List D->Gp->eV->Prop
abbrev acD(X:Cx)(id:String)(r3:RM3):Prop :=
 ∀(pins:List (bx×Obj))(s:dg)(σ:St)(H:Hp)(x:D)(xs:List D)(vx:V)(vs:List V)(u:bh)(us:List bh)(G:Gp)(R:eV)(Q:VK),Inv X pins σ H s->RD X.K H x vx->cG X.K H xs vs->RelV vx u->Vals vs us->HR X.K H G->r3 x xs G R ->
  (∀v H' d G',Ts H H'->RD X.K H' d v->HR X.K H' G'->R d G'->Q v H')->dj (gk X.prog X.w) X.A (call (.builtin id) (u::us)) (EP X pins σ Q) X.xe s
variable{r3:RM3}
def acD.of(h:MtR X id r)(i:∀(H:Hp)(x:D)(xs:List D)(vx:V)(vs:List V)(G:Gp)(R:eV)(Q:VK),RD X.K H x vx->cG X.K H xs vs->HR X.K H G->r3 x xs G R ->
  (∀v H' d G',Ts H H'->RD X.K H' d v->HR X.K H' G'->R d G'->Q v H')->r vx vs H λv H'=>KF X.K H'->Q v H'):acD X id r3:=λpins s σ H x xs vx vs u us G R Q I rx rs ru rv g q k =>
 cY (h pins s σ H vx vs u us _ I ru rv (i H x xs vx vs G R Q rx rs g q k)) λ_ _ ⟨v,H',I',r,q'⟩=>⟨v,H',I',r,q' (yO I')⟩
abbrev tM3(T:String)(r:RM3)(to:cO)(t:qM):cO:=λρ G R=>to ρ G λx G1=>aeY T G1 x/\t ρ G1 λxs G2=>r x xs G2 R
abbrev aF2(T:String)(r:RM3)(to:cO):cO:=λρ G R=>to ρ G λx G1=>aeY T G1 x/\r x [] G1 R
def aF3{t:qM}{apos cpos:Pos}(pa:PlainAttrs T)(slot:Slot T name id)(hty:typeOf (.builtin id)=pure (.type "method_descriptor"))(hm:acD X id r3)(ho:cU X o to)(ha:PA3 X (e::es) t)
  (hbase:a03 o name X.env (eval o X.env)=eval o X.env:=by rfl)
  (hfew:((a0i cpos (jt (e::es) X.env)).all (λx=>!x.1)&&(backToKw cpos (keywordEach [] X.env)).all (λx=>x.1.isSome)
   &&decide ((e::es).length+([]:List Keyword).length+(if([]:List Keyword).isEmpty then 0 else 1)<30))=ak:=by rfl)
  (hline:(apos.endLine==cpos.line)=ak:=by rfl)(hs:jt (e::es) X.env=(ao,eval e X.env)::jt es X.env:=by rfl)(hplain:(a0i cpos (jt es X.env)).any (·.1)=ao:=by rfl) :
  cU X (.Call (.Attribute o name apos) (e::es) [] cpos) (tM3 T r3 to t):=by
 intro pins s σ H Q I h _tk;obtain⟨ρ,G,R,sr,g,q,kk⟩:=h;refine wpAny_Call_method_late hbase hfew hline rfl (cY (ho pins s σ H (λvx H1=>Ts H H1/\∃x G1,RD X.K H1 x vx/\HR X.K H1 G1/\aeY T G1 x/\t ρ G1 λxs G2=>r3 x xs G2 R) I ⟨ρ,G,_,sr,g,q,λv H1 x G1 t1 r1 g1 q1=>⟨t1,x,G1,r1,g1,q1⟩⟩) ?_);rintro v s1 ⟨vx,H1,I1,r1,t1,x,G1,rx,g1,ty,q1⟩;obtain⟨h1,h2⟩:=aqJ I1 r1 (ar0 g1 rx ty);refine⟨T,id,pa,slot,hty,h1,h2,?_⟩;have hA:=ha cpos pins s1 σ H1 (λvs H2=>Ts H1 H2/\∃xs G2,cG X.K H2 xs vs/\HR X.K H2 G2/\r3 x xs G2 R) I1 ⟨ρ,G1,_,sr.mono t1,g1,q1,λvs H2 xs G2 t2 r2 g2 q2=>⟨t2,xs,G2,r2,g2,q2⟩⟩;rw[hs]at hA ⊢;refine Calls.callWith_builtin (by show(ao||(a0i cpos (jt es X.env)).any (·.1))=ao;rw[hplain]<;>rfl) (Calls.evalArgs_plain ?_);exact cY hA (by rintro us s2 ⟨vs,H2,I2,r2,t2,xs,G2,rs,g2,q2⟩;exact hm pins s2 σ H2 x xs vx vs v us G2 R Q I2 (rx.mono t2) rs r1 r2 g2 q2 λv H' d G' t3=>kk v H' d G' ((t1.trans t2).trans t3))
def ar3{apos cpos:Pos}(pa:PlainAttrs T)(slot:Slot T name id)(hty:typeOf (.builtin id)=pure (.type "method_descriptor"))(hm:acD X id r3)(ho:cU X o to)
  (hbase:a03 o name X.env (eval o X.env)=eval o X.env:=by rfl)(hline:(apos.endLine==cpos.line)=ak:=by rfl):cU X (.Call (.Attribute o name apos) [] [] cpos) (aF2 T r3 to):=by
 intro pins s σ H Q I h _tk;obtain⟨ρ,G,R,sr,g,q,kk⟩:=h;refine wpAny_Call_method0_late hbase hline (cY (ho pins s σ H (λvx H1=>Ts H H1/\∃x G1,RD X.K H1 x vx/\HR X.K H1 G1/\aeY T G1 x/\r3 x [] G1 R) I ⟨ρ,G,_,sr,g,q,λv H1 x G1 t1 r1 g1 q1=>⟨t1,x,G1,r1,g1,q1⟩⟩) ?_);rintro v s1 ⟨vx,H1,I1,r1,t1,x,G1,rx,g1,ty,q1⟩;obtain⟨h1,h2⟩:=aqJ I1 r1 (ar0 g1 rx ty);exact⟨T,id,pa,slot,hty,h1,h2,Calls.callWith_builtin rfl (PySem.evalArgs_none (hm pins s1 σ H1 x [] vx [] v [] G1 R Q I1 rx .nil r1 .nil g1 q1 λv H' d G' t3=>kk v H' d G' (t1.trans t3)))⟩
abbrev dR:RM3:=λx xs G R=>match x,xs with
 |.ref p,[d]=>(match G p with
  |some (.lst ds)=>ds.length<dh/\R .non (aM G p (.lst (ds++[d])))
  |_=>False)
 |_,_=>False
private theorem aeZ:acD X "list.append" dR:=acD.of aaF λH x xs vx vs G R Q rx rs g q k=>by
 cases rx with
 |ref p =>
  cases rs with
  |nil=>exact False.elim q
  |@cons d v ds ws r rr =>
   cases rr with
   |cons _ _=>exact False.elim q
   |nil =>
    have q':(match G p with
     |some (.lst ds)=>ds.length<dh/\R .non (aM G p (.lst (ds++[d])))
     |_=>False):=q
    split at q'
    .rename_i ds e1;obtain⟨ys,f1,r1⟩:=g p _ e1;refine⟨p,ys,v,rfl,rfl,f1,by rw[←r1.length];exact q'.1,λ_=>?_⟩;have tt:Ts H (upd H p (.lst (ys++[v]))):=.turn f1 (λ_ z=>nomatch z) (λ_ _ z=>nomatch z);exact k _ _ _ _ tt .non (g.turn (u:=.lst (ds++[d])) tt ⟨_,aL,(r1.append (.cons r .nil)).mono tt⟩) q'.2
    .exact q'.elim
 |_=>cases rs<;>exact False.elim q
abbrev vK:RM3:=λx xs G R=>match x,xs with
 |.ref p,[.ref b]=>(match G p,G b with
  |some (.lst ds),aj (.lst es)=>ds.length+es.length<=dh/\R .non (aM G p (.lst (ds++es)))
  |_,_=>False)
 |_,_=>False
private theorem af0:acD X "list.extend" vK:=acD.of anD λH x xs vx vs G R Q rx rs g q k=>by
 cases rx with
 |ref p =>
  cases rs with
  |nil=>exact False.elim q
  |@cons d v ds ws r rr =>
   cases rr with
   |cons _ _=>cases r<;>exact False.elim q
   |nil =>
    cases r with
    |ref b =>
     have q':(match G p,G b with
      |some (.lst ds),aj (.lst es)=>ds.length+es.length<=dh/\R .non (aM G p (.lst (ds++es)))
      |_,_=>False):=q
     split at q'
     .rename_i ds es e1 e2;obtain⟨ys,f1,r1⟩:=g p _ e1;obtain⟨zs,f2,r2⟩:=g b _ e2;refine⟨p,b,ys,zs,rfl,rfl,f1,f2,by rw[←r1.length,←r2.length];exact q'.1,λ_=>?_⟩;have tt:Ts H (upd H p (.lst (ys++zs))):=.turn f1 (λ_ z=>nomatch z) (λ_ _ z=>nomatch z);exact k _ _ _ _ tt .non (g.turn (u:=.lst (ds++es)) tt ⟨_,aL,(r1.append r2).mono tt⟩) q'.2
     .exact q'.elim
    |_=>exact False.elim q
 |_ =>
  cases rs with
  |nil=>exact False.elim q
  |cons r rr=>cases rr<;>cases r<;>exact False.elim q
abbrev acE:cO:=λ_ G R=>∀p,G p=aq->R (.ref p) (aM G p (.jX ao []))
def aF4:cU X (.Dict [] [] pos) acE:=PE.imp (PE.kf aqA) λσ H Q h=>by
 obtain⟨ρ,G,R,s,g,q,k⟩:=h;intro p hp kf;have sn:Same H (upd H p (.dK [])):=bV hp;exact k _ _ _ _ (.same sn) (.ref p) (g.put (u:=.jX ao []) hp (.inl ⟨rfl,[],aL,.nil⟩)) (q p (jY g hp kf))
abbrev a0K:cO:=λ_ G R=>∀p,G p=aq->R (.ref p) (aM G p (.qL []))
def axS:cU X (.Dict [] [] pos) a0K:=PE.imp (PE.kf aqB) λσ H Q h=>by
 obtain⟨ρ,G,R,s,g,q,k⟩:=h;intro p hp kf;have sn:Same H (upd H p (.dT [])):=bV hp;exact k _ _ _ _ (.same sn) (.ref p) (g.put (u:=.qL []) hp ⟨_,aL,.inl ⟨rfl,rfl⟩⟩) (q p (jY g hp kf))
end
end
end L2
namespace L2
open PySem
def fD:jw "isinstance"=aj (.builtin "isinstance"):=by decide+kernel
def jB:jw "len"=aj (.builtin "len"):=by decide+kernel
def ar4:jw "abs"=aj (.builtin "abs"):=by decide+kernel
def acF:jw "min"=aj (.builtin "min"):=by decide+kernel
def acG:jw "max"=aj (.builtin "max"):=by decide+kernel
def aF5:jw "sum"=aj (.builtin "sum"):=by decide+kernel
def acH:jw "int"=aj (.type "int"):=by decide+kernel
def akO:jw "bool"=aj (.type "bool"):=by decide+kernel
def a0L:jw "tuple"=aj (.type "tuple"):=by decide+kernel
def acI:jw "list"=aj (.type "list"):=by decide+kernel
def akP:jw "dict"=aj (.type "dict"):=by decide+kernel
end L2
namespace L2
open PySem PySem.Spec PyProof.Rows
variable{cm:Bool}{w:jq}{lo:Int}{n:Nat}{pos:Pos}
section
abbrev Its(x:Str):It:=⟨λi _=>i<x.cps.size,λi H v H'=>H'=H/\∃c,x.cps[i]?=aj c/\v=.str ⟨#[c]⟩,λi _=>x.cps.size<=i⟩
def aaO{K:iu}(it:bx)(x:Str)(t:Tok):Turn cm tl P w K tg (Its x) [it] it (λi h=>h.IsStrIter it "str_ascii_iterator" x t (min i x.cps.size)) where
 mem:=by simp
 obj:=λi h st b hb=>by
  have e:b=it:=by simpa using hb
  subst e;obtain⟨o,e,c,d⟩:=st;exact⟨o,e,λv z=>by rw[d]at z;cases z⟩
 keep:=λi h h' st k=>let⟨o,e,r⟩:=st;⟨o,k it (by simp) o e,r⟩
 item:=by
  intro X hP hw hK hcm ht i pins s σ H E I hf st hg;subst hP hw hK;obtain⟨f0,f1,f2,f3,f4,f5⟩:=hf it (by simp);have hi:i<x.cps.size:=hg;rw[a2x (vf hi)]at st;refine wpAny_pyNext_ascii_item st (c:=x.cps[i]) (by simp[hi]) λh' st' kk=>?_;have I1:Inv X pins σ H {s with heap:=h',toks:=s.toks+1}:=I.turned (λb o hb e=>(kk.2 b hb).trans e) f0 f1 f3 f4 f5;obtain⟨o,e1,c1,d1⟩:=id st';refine⟨_,rfl,aa8 (s:={s with heap:=h',toks:=s.toks+1}) e1 c1 d1 (by decide) ⟨.str ⟨#[x.cps[i]]⟩,H,I1,⟨_,rfl⟩,⟨rfl,x.cps[i],by simp[hi],rfl⟩,?_,λb hb=>(hf b hb).1⟩⟩;rw[a2x hi];exact st'
 done:=by
  intro X hP hw hK hcm ht i pins s σ H E I hf st hg;subst hP hw hK;obtain⟨f0,f1,f2,f3,f4,f5⟩:=hf it (by simp);have hi:x.cps.size<=i:=hg;rw[Nat.min_eq_right hi]at st;exact amY (I.hnd.heap I.hok) st (by simp) λh' eb=>⟨rfl,I.turned (t':=s.toks) (λb o hb e=>eb b o hb e) f0 f1 f3 f4 f5⟩
 self:=λ_ _ _ _ _ st h=>wpAny_pyIter_striter_ascii st h
def aaP{K:iu}(it:bx)(x:Str)(t:Tok):Turn cm tl P w K tg (Its x) [it] it (λi h=>h.IsStrIter it "str_iterator" x t (min i x.cps.size)) where
 mem:=by simp
 obj:=λi h st b hb=>by
  have e:b=it:=by simpa using hb
  subst e;obtain⟨o,e,c,d⟩:=st;exact⟨o,e,λv z=>by rw[d]at z;cases z⟩
 keep:=λi h h' st k=>let⟨o,e,r⟩:=st;⟨o,k it (by simp) o e,r⟩
 item:=by
  intro X hP hw hK hcm ht i pins s σ H E I hf st hg;subst hP hw hK;obtain⟨f0,f1,f2,f3,f4,f5⟩:=hf it (by simp);have hi:i<x.cps.size:=hg;rw[a2x (vf hi)]at st;refine wpAny_pyNext_wide_item st (c:=x.cps[i]) (by simp[hi]) λh' st' kk=>?_;have I1:Inv X pins σ H {s with heap:=h',toks:=s.toks+1}:=I.turned (λb o hb e=>(kk.2 b hb).trans e) f0 f1 f3 f4 f5;obtain⟨o,e1,c1,d1⟩:=id st';refine⟨_,rfl,aa8 (s:={s with heap:=h',toks:=s.toks+1}) e1 c1 d1 (by decide) ⟨.str ⟨#[x.cps[i]]⟩,H,I1,⟨_,rfl⟩,⟨rfl,x.cps[i],by simp[hi],rfl⟩,?_,λb hb=>(hf b hb).1⟩⟩;rw[a2x hi];exact st'
 done:=by
  intro X hP hw hK hcm ht i pins s σ H E I hf st hg;subst hP hw hK;obtain⟨f0,f1,f2,f3,f4,f5⟩:=hf it (by simp);have hi:x.cps.size<=i:=hg;rw[Nat.min_eq_right hi]at st;exact amZ (I.hnd.heap I.hok) st (by simp) λh' eb=>⟨rfl,I.turned (t':=s.toks) (λb o hb e=>eb b o hb e) f0 f1 f3 f4 f5⟩
 self:=λ_ _ _ _ _ st h=>wpAny_pyIter_striter_wide st h
inductive Src where
 |lst (p:bx) (xs:List D)|imm (xs:List D)|zip (p q:bx) (xs ys:List D)|itm (p:bx) (o:Obj) (kvs:List (DK×D))|key (p:bx) (o:Obj) (t:Bool) (kvs:List (DK×D))|tpl (p:bx) (xs:List D)|enu (p:bx) (xs:List D)|enl (p:bx) (xs:List D)
abbrev enm(xs:List D):List D:=xs.zipIdx.map λz=>.tup [.int z.2,z.1]
abbrev prs(xs ys:List D):List D:=(xs.zip ys).map λz=>.tup [z.1,z.2]
abbrev Src.items:Src->List D
 |.lst _ xs=>xs
 |.imm xs=>xs
 |.zip _ _ xs ys=>prs xs ys
 |.itm _ _ kvs=>kvs.map λz=>.tup [dkD z.1,z.2]
 |.key _ _ _ kvs=>kvs.map λz=>dkD z.1
 |.tpl _ xs=>xs
 |.enu _ xs=>enm xs
 |.enl _ xs=>enm xs
abbrev Src.ok(G:Gp):Src->Prop
 |.lst p xs=>aQ G p=aj xs
 |.imm _=>True
 |.zip p q xs ys=>aQ G p=aj xs/\aQ G q=aj ys
 |.itm p o kvs=>G p=aj (.rdc o ao kvs)
 |.key p o t kvs=>G p=aj (.rdc o t kvs)
 |.tpl p xs=>G p=aj (.tpl xs)
 |.enl p xs=>aQ G p=aj xs
 |.enu p xs=>G p=aj (.tpl xs)
abbrev a2W(K:Fg)(H1:Hp)(src:Src)(J:It):Prop:=∀H2 G2,Ts H1 H2->HR K H2 G2->src.ok G2 ->
 (∀i,i<src.items.length->J.go i H2)/\(∀i v H',i<src.items.length->J.yld i H2 v H'->Same H2 H'/\∃d,src.items[i]?=aj d/\RD K H' d v)/\J.stop src.items.length H2
@[simp]def TI3:=aN->Gp->(Src->Gp->Prop)->Prop
abbrev upI(K:Fg)(t:TI3):TI:=λσ H Q=>∃ρ G R,SR K H ρ σ/\HR K H G/\t ρ G R/\∀src J H' G',Ts H H'->HR K H' G'->a2W K H' src J->R src G'->Q J H'
@[simp]def PI3(X:Cx)(tg iter:jc)(t:TI3):Prop:=PI X tg iter (upI X.K t)
abbrev signs(z:Str):List D:=z.cps.toList.map λc=>.str ⟨#[c]⟩
abbrev lV(te:cO):TI3:=λρ G R=>te ρ G λx G1=>match x with
 |.ref p=>(match aQ G1 p with
  |some xs=>R (.lst p xs) G1
  |none=>False)
 |.tup xs=>R (.imm xs) G1
 |.str z=>R (.imm (signs z)) G1
 |_=>False
def aaQ{K:Fg}:a2W K H1 (.lst p xs) (Itl K p):=λH2 G2 t g ok=>by
 obtain⟨vs,hq,rv⟩:=c7 g (show aQ G2 p=aj xs from ok);refine⟨λi hi=>?_,λi v H' hi hy=>?_,⟨vs,hq,a2y rv.length.symm⟩⟩
 .have hi':i<xs.length:=hi;obtain⟨y,e1,_⟩:=rv.get (cg hi');exact⟨vs,y,hq,e1⟩
 .obtain⟨rfl,hy⟩:=hy;obtain⟨d,e1,e2⟩:=rv.aeR (hy vs hq);exact⟨.refl _,d,e1,e2⟩
def af2{K:Fg}(hq:oG K H1 a vs)(rv:cG K H1 xs vs):a2W K H1 (.imm xs) (Itt K a):=λH2 G2 t g ok=>by
 have hq2:=t.sqT hq;have rv2:=rv.mono t;refine⟨λi hi=>?_,λi v H' hi hy=>?_,⟨vs,hq2,a2y rv.length.symm⟩⟩
 .have hi':i<xs.length:=hi;obtain⟨y,e1,_⟩:=rv2.get (cg hi');exact⟨vs,y,hq2,e1⟩
 .obtain⟨rfl,hy⟩:=hy;obtain⟨d,e1,e2⟩:=rv2.aeR (hy vs hq2);exact⟨.refl _,d,e1,e2⟩
def a75{K:Fg}:a2W K H1 (.imm (signs z)) (Its z):=λH2 G2 t g ok=>by
 have hl:(signs z).length=z.cps.size:=by simp[signs]
 refine⟨λi hi=>?_,λi v H' hi hy=>?_,?_⟩
 .have:i<(signs z).length:=hi;rw[hl]at this;exact this
 .obtain⟨rfl,c,hc,rfl⟩:=hy;exact⟨.refl _,.str ⟨#[c]⟩,by simp[Src.items,signs,hc],.str _⟩
 .show z.cps.size<=(signs z).length;rw[hl];exact cu _
def af3{K:Fg}:a2W K H1 (.imm ((je n).map λ(i:Nat)=>.int (lo+(i:Int)))) (Itr lo n):=λH2 G2 t g ok=>by
 refine⟨λi hi=>?_,λi v H' hi hy=>?_,?_⟩
 .have hi':i<n:=by simpa[Src.items]using hi
  exact hi'
 .obtain⟨rfl,rfl⟩:=hy;have hi':i<n:=by simpa[Src.items]using hi
  exact⟨.refl _,.int (lo+i),by simp[Src.items,hi'],.int _⟩
 .show n<=_;simp[Src.items]
section
variable{X:Cx}
def PI.imp{t:TI}(h:PI X tg e t)(k:∀σ H Q,t' σ H Q->t σ H Q):PI X tg e t':=λpins s σ H Q I q=>h pins s σ H Q I (k _ _ _ q)
private theorem aL4{l:jc}(hl:cU X l te):PI3 X tg l (lV te):=by
 intro pins s σ H R I h _tk;obtain⟨ρ,G,R3,sr,g,q,k⟩:=h
 refine cY (hl pins s σ H (λv H1=>Ts H H1/\∃x G1,RD X.K H1 x v/\HR X.K H1 G1/\(match x with
  |.ref p=>(match aQ G1 p with
   |some xs=>R3 (.lst p xs) G1
   |none=>False)
  |.tup xs=>R3 (.imm xs) G1
  |.str z=>R3 (.imm (signs z)) G1
  |_=>False)) I ⟨ρ,G,_,sr,g,q,λv H1 x G1 t1 r g1 q1=>⟨t1,x,G1,r,g1,q1⟩⟩) λv s1 ⟨x,H1,I1,r1,t1,d,G1,rd,g1,q1⟩=>?_
 cases rd with
 |ref a =>
  have q1':(match aQ G1 a with
   |some xs=>R3 (.lst a xs) G1
   |none=>False):=q1
  split at q1'
  .rename_i xs e;cases r1;obtain⟨vs,hq,rv⟩:=c7 g1 e;obtain⟨its,rv',p,hz⟩:=I1.list hq;refine wpAny_pyIter_list p.isList ?_;refine⟨s1.heap.objs.size,[s1.heap.objs.size],_,_,H1,rfl,I1.kept (t':=s1.toks) λb o e=>cj _ e,aa9 a _,⟨_,ig _ rfl,rfl,rfl⟩,λb hb=>?_,k _ _ H1 G1 t1 g1 aaQ q1'⟩;have e:b=s1.heap.objs.size:=by simpa using hb
   subst e;exact I1.v9 (cu _) (I1.hok.fresh (cu _))
  .exact q1'.elim
 |@tup a vs xs hq rv =>
  cases r1;obtain⟨its,rv',p,hz⟩:=I1.tuple hq;refine a0l (show s1.heap.IsTuple a its.toArray from p) ?_;refine⟨s1.heap.objs.size,[s1.heap.objs.size],_,_,H1,rfl,I1.kept (t':=s1.toks) λb o e=>cj _ e,a6F a _,⟨_,ig _ rfl,rfl,rfl⟩,λb hb=>?_,k _ _ H1 G1 t1 g1 (af2 hq rv) q1⟩;have e:b=s1.heap.objs.size:=by simpa using hb
  subst e;exact I1.v9 (cu _) (I1.hok.fresh (cu _))
 |str z =>
  obtain⟨t,rfl⟩:=r1;cases ha:z.cps.all (· <128)
  .refine wpAny_pyIter_wide ha ?_;refine⟨s1.heap.objs.size,[s1.heap.objs.size],_,_,H1,rfl,I1.kept (t':=s1.toks) λb o e=>cj _ e,aaP _ z t,?_,λb hb=>?_,k _ _ H1 G1 t1 g1 a75 q1⟩
   .rw[Nat.zero_min];exact⟨_,ig _ rfl,rfl,rfl⟩
   .have e:b=s1.heap.objs.size:=by simpa using hb
    subst e;exact I1.v9 (cu _) (I1.hok.fresh (cu _))
  .refine wpAny_pyIter_ascii ha ?_;refine⟨s1.heap.objs.size,[s1.heap.objs.size],_,_,H1,rfl,I1.kept (t':=s1.toks) λb o e=>cj _ e,aaO _ z t,?_,λb hb=>?_,k _ _ H1 G1 t1 g1 a75 q1⟩
   .rw[Nat.zero_min];exact⟨_,ig _ rfl,rfl,rfl⟩
   .have e:b=s1.heap.objs.size:=by simpa using hb
    subst e;exact I1.v9 (cu _) (I1.hok.fresh (cu _))
 |_=>exact q1.elim
abbrev a0M(lo hi:Int):List D:=(je (hi - lo).toNat).map λ(i:Nat)=>.int (lo+(i:Int))
abbrev lW(ta:qM):TI3:=λρ G R=>ta ρ G λxs G1=>match xs with
 |[.int j]=>-(2^62)<=j/\j<2^62/\R (.imm (a0M 0 j)) G1
 |_=>False
def aF7(hg:Gl X "range")(hm:X.mg "range"=aq)(ha:PA3 X [a] ta)(hs:jt [a] X.env=[(ao,eval a X.env)]):PI3 X tg (.Call (.Name "range" p) [a] [] pos) (lW ta) :=
 PI.imp (aaA hg hm ha hs) λσ H Q h=>by
 obtain⟨ρ,G,R,s,g,q,k⟩:=h;refine⟨ρ,G,_,s,g,q,λvs H1 ds G1 t1 r g1 h1=>?_⟩;cases r with
 |nil=>exact h1.elim
 |cons r rr =>
  cases rr with
  |cons _ _=>cases r<;>exact False.elim h1
  |nil =>
   cases r with
   |int j =>
    obtain⟨l1,l2,h1⟩:=h1;refine⟨j,rfl,l1,l2,k _ _ H1 G1 t1 g1 ?_ h1⟩;unfold a0M;rw[show(j - 0).toNat=j.toNat by omega];exact af3
   |_=>exact False.elim h1
end
end
variable{scope:ur}{env:Env}{j:Nat}
section
abbrev nG(cells:List (Str×bx)):List (Str×qe)->List (Str×bx)->List (Str×bx)
 |[],cs=>cs
 |(n,k)::r,cs=>nG cells r (if k=.free then(match cells.lookup n with
  |some a=>(n,a)::cs
  |none=>cs)else cs)
def qO(h:∀y∈scope.names,y.2=.free->∃c,env.cells.lookup y.1=aj c):closureFor scope env=pure (nG env.cells scope.names []):=by
 unfold closureFor
 have all:∀(l:List (Str×qe))(cs:List (Str×bx)),(∀y∈l,y.2=.free->∃c,env.cells.lookup y.1=aj c) ->
   (forIn l cs λ(x:Str×qe)(r:List (Str×bx))=>(if(x.2==qe.free)=ak then do
    let a ←cellOf env x.1
    pure (ForInStep.yield ((x.1,a)::r))else pure (ForInStep.yield r):Sem (ForInStep (List (Str×bx)))))=(pure (nG env.cells l cs):Sem (List (Str×bx))):=by
  intro l
  induction l with
  |nil=>intro cs _;rfl
  |cons y r ih =>
   intro cs hl;obtain⟨n,k⟩:=y;rw[a0p];by_cases hk:k=.free
   .subst hk;obtain⟨c,hc⟩:=hl (n,.free) (by simp) rfl;have e:cellOf env n=pure c:=by unfold cellOf;rw[hc]
    simp only[beq_self_eq_true,if_true,e];show(forIn r ((n,c)::cs) _:Sem _)=_;rw[ih _ λy hy=>hl y (by simp[hy])];simp only[nG,if_true,hc]
   .have hk':(k==qe.free)=ao:=by simpa using hk
    simp only[hk',qw,if_false];show(forIn r cs _:Sem _)=_;rw[ih _ λy hy=>hl y (by simp[hy])];simp only[nG,if_neg hk]
 have z:=all scope.names [] h;exact congrArg (λm=>m >>= λcs=>pure cs) z
private theorem iU{cells:List (Str×bx)}:∀{l:List (Str×qe)}{cs:List (Str×bx)}{y:Str}{c:bx},(nG cells l cs).lookup y=aj c->(∀c,cs.lookup y=aj c->cells.lookup y=aj c)->cells.lookup y=aj c
 |[],cs,y,c,h,k=>k c h
 |(n,kd)::r,cs,y,c,h,k=>by
  unfold nG at h;refine iU h λc' h'=>?_;by_cases hk:kd=.free
  .rw[if_pos hk]at h';split at h'
   .rename_i a ha;rw[lg]at h';split at h'
    .rename_i e;have e':y=n:=beq_iff_eq.mp e;subst e';rw[ha];exact h'
    .exact k c' h'
   .exact k c' h'
  .rw[if_neg hk]at h';exact k c' h'
def a76{cells:List (Str×bx)}:∀{l:List (Str×qe)}{cs:List (Str×bx)}{y:Str},(∃c,cs.lookup y=aj c)->∃c,(nG cells l cs).lookup y=aj c
 |[],cs,y,h=>h
 |(n,kd)::r,cs,y,h=>by
  unfold nG;refine a76 ?_;by_cases hk:kd=.free
  .rw[if_pos hk];split
   ·rw[lg];split
    ·exact⟨_,rfl⟩
    .exact h
   .exact h
  .rw[if_neg hk];exact h
def a2X{cells:List (Str×bx)}(hc:cells.lookup y=aj c):∀{l:List (Str×qe)}{cs:List (Str×bx)},(y,qe.free)∈l->∃c,(nG cells l cs).lookup y=aj c
 |[],cs,h=>by simp at h
 |(n,kd)::r,cs,h=>by
  unfold nG;rcases iy.mp h with e|h
  .cases e;refine a76 ?_;rw[if_pos rfl,hc];simp
  .exact a2X hc h
private theorem mem_of_lookup{α:Type}:∀{l:List (Str×α)}{y:Str}{k:α},l.lookup y=aj k->(y,k)∈l
 |[],_,_,h=>by simp at h
 |(n,kd)::r,y,k,h=>by
  rw[lg]at h;split at h
  .rename_i e;have e':y=n:=beq_iff_eq.mp e;cases h;subst e';simp
  .exact jo _ (mem_of_lookup h)
structure sW(X:Cx)(xs:List Str)(scope:ur):Prop where
 kind:scope.kind=.function
 aiF:∀y∈scope.names,y.2≠.cell
 locs:∀y∈scope.names,y.2=.local->scope.names.lookup y.1=aj .local
 var:∀x∈xs,scope.names.lookup x=aj .local
 frees:∀y∈scope.names,y.2=.free->X.env.kindOf y.1=aj .cell∨X.env.kindOf y.1=aj .free
 out:∀x∈xs,x∉X.N
 nd:xs.Nodup
 only:∀y∈X.N,scope.names.lookup y≠aj .local
@[simp]def jC(X:Cx)(xs:List Str)(scope:ur)(C:bx)(s₃:dg)(H₃:Hp)(fp:List bx)(pins:List (bx×Obj)):Cx :=
 {X with N:=xs++X.N,s₀:=s₃,H₀:=H₃,env:=compEnvC scope (nG X.env.cells scope.names []) C X.env,outer:=X.stack,stack:=X.stack,ex:=fp,fn:=λ_=>ao,pn:=X.pn++pins,xe:=λ_ _=>False,need:=false}
abbrev nn(xs:List Str)(σ:St):St:=xs.map (λ_=>aq)++σ
def ar5{xs:List Str}{i:Nat}(h:(nn xs σ)[i]?=aj (aj v)):∃j,i=xs.length+j/\σ[j]?=aj (aj v):=by
 unfold nn at h;by_cases c:i<xs.length
 .rw[qj (by simpa using c)]at h;simp at h
 .rw[ux (by simpa using c)]at h;exact⟨i - xs.length,by omega,by simpa using h⟩
def akQ{α:Type}{xs ys:List α}:(xs++ys)[xs.length+j]?=ys[j]?:=by
 rw[ux (by omega)];congr 1;omega
def dU{env:Env}{k:qe}:∀{names:List (Str×qe)},(names.map λ(n,k)=>if(k==.free&&env.scope.kind==.function&&env.kindOf n==aj .cell)then(n,.cell)else(n,k)).lookup y=aj k ->
  ∃k',names.lookup y=aj k'/\(k=k'∨(k=.cell/\k'=.free))
 |[],h=>by simp at h
 |(n,kd)::r,h=>by
  rw[nj]at h;by_cases hc:(kd==.free&&env.scope.kind==.function&&env.kindOf n==aj .cell)=ak
  .have h':a3a y ((n,qe.cell)::(r.map λ(n,k)=>if(k==.free&&env.scope.kind==.function&&env.kindOf n==aj .cell)then(n,.cell)else(n,k)))=aj k:=by
    simp only[hc,if_true]at h;exact h
   rw[lg]at h' ⊢;cases hx:y==n with
   |true =>
    rw[hx]at h';cases h';refine⟨kd,rfl,.inr ⟨rfl,?_⟩⟩;simp only[bw,beq_iff_eq]at hc;exact hc.1.1
   |false =>
    rw[hx]at h';exact dU h'
  .have h':a3a y ((n,kd)::(r.map λ(n,k)=>if(k==.free&&env.scope.kind==.function&&env.kindOf n==aj .cell)then(n,.cell)else(n,k)))=aj k:=by
    simp only[hc,if_false]at h;exact h
   rw[lg]at h' ⊢;cases hx:y==n with
   |true =>
    rw[hx]at h';cases h';exact⟨_,rfl,.inl rfl⟩
   |false =>
    rw[hx]at h';exact dU h'
end
variable{b:bx}{s':dg}
section
variable{tk:Nat}
section
variable{X:Cx}{scope:ur}{pins:List (bx×Obj)}{s:dg}
def acJ(I:Inv X pins σ H s)(hb:b∈frs X.stack):b=X.env.locals∨b∈X.fs:=iy.mp (I.ai1 b hb)
def aF8(I:Inv X pins σ H s)(c:sW X xs scope)(hC:s.heap.objs.size<=C)(hf:∀b∈fp,mD X pins H b/\b<s.heap.objs.size):(jC X xs scope C s H fp pins).Ok where
 mod:=I.ok.mod
 kind:=c.kind
 glob:=I.ok.glob
 blt:=I.ok.blt
 above:=hC
 inj:=λy z d h1 h2=>I.ok.inj y z d (iU h1 λ_ h=>by simp at h) (iU h2 λ_ h=>by simp at h)
 has:=λy h=>by
  have hy:(y,qe.free)∈scope.names:=by
   rcases h with h|h
   .obtain⟨k',e,z⟩:=dU (env:=X.env) (names:=scope.names) h;rcases z with z|⟨_,z⟩
    .subst z;exact absurd rfl (c.aiF _ (mem_of_lookup e))
    .subst z;exact mem_of_lookup e
   .obtain⟨k',e,z⟩:=dU (env:=X.env) (names:=scope.names) h;rcases z with z|⟨z,_⟩
    .subst z;exact mem_of_lookup e
    .cases z
  obtain⟨d,hd⟩:=I.ok.has y (c.frees _ hy rfl);exact a2X hd hy
 cab:=λ_ _ h=>absurd h (by simp)
 hd:=I.ok.hd
 frames:=I.ok.frames
 stk:=.inl rfl
 exf:=λb hb=>by
  obtain⟨⟨f0,f1,f2,f3,f4,f5⟩,lt⟩:=hf b hb;exact⟨jg (jj lt hC),λy d h=>f4 y d (iU h λ_ h=>by simp at h)⟩
 bs:=λb o e=>I.bs b o e
 bsz:=uh I.ok.bsz I.sz
 aeF:=λb o e hb=>by
  obtain⟨⟨f0,f1,f2,f3,f4,f5⟩,lt⟩:=hf b hb;rcases f3 with z|z
  .exact I.ok.aeF b o e z
  .exact absurd (jj (gV e) (uh I.ok.bsz z)) (wz _)
 ai0:=λb hb hs=>by
  obtain⟨⟨f0,f1,f2,f3,f4,f5⟩,lt⟩:=hf b hb;rcases acJ I hs with z|z
  .exact f1 z
  .exact f2 z
 v8:=I.stack
 frf:=λb hb=>I.ak9 b hb
def aF9(I:Inv X pins σ H s)(c:sW X xs scope)(hC:s.heap.objs.size=C)(hf:∀b∈fp,mD X pins H b/\b<s.heap.objs.size){h₁:jf}{m:Str->Option bh}(hn:h₁.Ns C m)(hk:∀b o,s.heap.get? b=aj o->h₁.get? b=aj o) :
  Inv (jC X xs scope C s H fp pins) [] (nn xs σ) H {s with heap:=h₁,toks:=tk}:=by
 have lt:∀b o,s.heap.get? b=aj o->b≠C:=λb o e=>by rw[←hC];exact jg (gV e)
 refine⟨aF8 I c (a2y hC) hf,rfl,I.bare,Un.kept hk,⟨m,hn,λi y v e1 e2 e3=>?_⟩,λy d e=>?_,I.hok.fresh (a2y hC),λy d e=>I.lZ y d (iU e λ_ h=>by simp at h),λp hp=>?_,I.hok.kept hk,by simp[nn,I.len],I.hnd,I.tup⟩
 .obtain⟨i,rfl,e2'⟩:=ar5 e2
  .have e1':X.N[i]?=aj y:=akQ.symm.trans e1;have hy:y∈X.N:=iz e1'
   have free:(y,qe.free)∈scope.names:=by
    have e3':∃k,(relabel scope X.env).names.lookup y=aj k/\(k=.local∨k=.cell∨k=.free):=by
     rcases e3 with h|h|h
     .exact⟨_,h,.inl rfl⟩
     .exact⟨_,h,.inr (.inl rfl)⟩
     .exact⟨_,h,.inr (.inr rfl)⟩
    obtain⟨k,h,hk⟩:=e3';obtain⟨k',e,z⟩:=dU (env:=X.env) (names:=scope.names) h;rcases z with z|⟨_,z⟩
    .subst z;rcases hk with rfl|rfl|rfl
     .exact absurd e (c.only y hy)
     .exact absurd rfl (c.aiF _ (mem_of_lookup e))
     .exact mem_of_lookup e
    .subst z;exact mem_of_lookup e
   have hkd:=c.frees _ free rfl;obtain⟨m',hn',hlo⟩:=I.loc;have vis:Vis X.env.scope y:=hkd.elim (λz=>.inr (.inl z)) λz=>.inr (.inr z);obtain⟨u,r,l⟩:=hlo i y v e1' e2' vis;refine⟨u,r,.inr ⟨?_,?_⟩⟩
   .rcases e3 with h|h|h
    .obtain⟨k',e,z⟩:=dU (env:=X.env) (names:=scope.names) h;rcases z with z|⟨z,_⟩
     .subst z;exact absurd e (c.only y hy)
     .cases z
    .exact .inl h
    .exact .inr h
   .rcases l with⟨hl,_⟩|⟨_,d,hd,hcell⟩
    .rcases hkd with z|z
     .rw[z]at hl;cases hl
     .rw[z]at hl;cases hl
    .obtain⟨d',hd'⟩:=a2X (cells:=X.env.cells) (l:=scope.names) (cs:=[]) hd free;have:=iU hd' λ_ h=>by simp at h
     rw[hd]at this;cases this;refine⟨d,hd',?_⟩;obtain⟨o,ho,hod⟩:=hcell;exact⟨o,hk _ _ ho,hod⟩
 .obtain⟨w,o,ho,hod⟩:=I.cell y d (iU e λ_ h=>by simp at h);exact⟨w,o,hk _ _ ho,hod⟩
 .have hp':p∈X.pn++pins:=by simpa using hp
  obtain⟨e,n,ne,nf,d⟩:=I.pin p hp';refine⟨hk _ _ e,n,lt _ _ e,λz=>?_,d⟩;rcases acJ I z with z|z
  .exact ne z
  .exact nf z
def axV(I:Inv X pins σ H s)(hC:s.heap.objs.size=C)(hf:∀b∈fp,mD X pins H b/\b<s.heap.objs.size)(J:Inv (jC X xs scope C s H fp pins) a3V σ' H' s')(hs:su C s'.heap h') :
  Inv X pins σ H' {s' with heap:=h',toks:=tk}:=by
 have ne:∀b o,s.heap.get? b=aj o->b≠C:=λb o e=>by rw[←hC];exact jg (gV e)
 have u:Un (frs X.stack) fp H H' s.heap s'.heap:=J.base;have hfree:H' C=aq:=J.free;refine I.call' (ch:=fp) J.os ⟨λb o e n hb hx=>?_,λb o e n hb hx=>?_,u.free,λb o e hx=>?_,u.tups,u.j7,u.v7⟩ (λb o e=>?_) J.bare (λb hb=>?_)
 .exact(hs.2 b (ne b o e)).trans (u.keep b o e n hb hx)
 .obtain⟨sl,e1⟩:=u.slot b o e n hb hx;exact⟨sl,(hs.2 b (ne b o e)).trans e1⟩
 .obtain⟨o',e1⟩:=u.there b o e hx;exact⟨o',(hs.2 b (ne b o e)).trans e1⟩
 .refine(J.hok b o e).stay (λd w hd q=>(hs.2 d ?_).trans q) (λ_ q=>q) λ_ _ q=>q;rintro rfl;rcases hd with z|z
  .rw[z]at hfree;rw[e]at hfree;cases hfree
  .rw[hfree]at z;cases z
 .obtain⟨⟨f0,f1,f2,f3,f4,f5⟩,lt⟩:=hf b hb;exact⟨f3,f1,f4,f5⟩
end
end
variable{pins:List (bx×Obj)}{prog:ju}{A:jr}{N:List Str}
section
abbrev gM:vD:=λ_ G R=>R ak G
abbrev anQ(X:Cx)(ifs:List jc)(tc:vD):Prop :=
 ∀(pins:List (bx×Obj))(s:dg)(σ:St)(H:Hp)(Q:Bool->Hp->Prop),Inv X pins σ H s->upT X.K tc σ H Q->[Tk X.need s] ->
  dj (gk X.prog X.w) X.A (forIn ifs ak λc r=>if r=ak then do let ok ←isTrue c X.env (eval c X.env);pure (ForInStep.yield ok)else pure (ForInStep.yield r)) (TP X pins σ Q) X.xe s
def axW:anQ X [] gM:=λpins s σ H Q I h=>by
 obtain⟨ρ,G,R,sr,g,q,k⟩:=h;exact dw ⟨H,I,k ak H G (.refl H) g q⟩
def axX(hc:PT3 X c tc):anQ X [c] tc:=λpins s σ H Q I h=>by
 rw[a0p];simp only[if_true];refine au (au (cY (hc pins s σ H Q I h) λb s1 q=>?_));intro aJ8;exact dw (dw q)
section
variable{X:Cx}{x:Str}{xs:List Str}{tgt:jc}{dv:D->Option (List D)}{scope:ur}{iter elt:jc}{ifs:List jc}{pos:Pos}{ti:TI3}{tc:vD}{te:cO}
structure axY(X:Cx)(pins:List (bx×Obj))(H':Hp)(C:bx)(h:jf):Prop where
 ns:∃m,h.Ns C m
 free:H' C=aq
 loc:C≠X.env.locals
 young:X.s₀.heap.objs.size<=C
 cells:∀y d,X.env.cells.lookup y=aj d->d≠C
 pins:∀p∈X.pn++pins,p.1≠C
def axY.turn{X:Cx}{s:dg}(o:axY X pins H' C s.heap)(I:Inv X pins σ H' s)(hs:su C s.heap h'):Inv X pins σ H' {s with heap:=h' } :=
 I.turned (t':=s.toks) (λb ob hb e=>(hs.2 b hb).trans e) o.free o.loc (.inr o.young) o.cells o.pins
abbrev ar6(Y:Cx)(tgt:jc)(xs:List Str)(dv:D->Option (List D))(σ:St):Prop:=∀(pins:List (bx×Obj))(s:dg)(H:Hp)(v:V)(u:bh)(d:D)(ds:List D),Inv Y pins (nn xs σ) H s->RelV v u->RD Y.K H d v->dv d=aj ds ->
 dj (gk Y.prog Y.w) Y.A (assign tgt Y.env u) (λ_ s'=>∃vs,cG Y.K H ds vs/\Inv Y pins (vs.map aj++σ) H s') Y.xe s
def ar7{K:Fg}(s:SR K H ρ σ):∀{ds:List D}{vs:List V},cG K H ds vs->SR K H (ds.map aj++ρ) (vs.map aj++σ)
 |_,_,.nil=>s
 |_,_,.cons h r=>.some h (ar7 s r)
private theorem ar8{elt iter:jc}{ifs:List jc}(J:Nat->dg->Prop)
  (turn:∀n s,J n s->dj (gk prog w) A (yt it) (λr s1=>match r with
   |none=>R (.ok .next) s1
   |some v=>dj (gk prog w) A (a1z target it v) (λ_ s1'=>dj (gk prog w) A (assign target env v) (λ_ s2 =>
     dj (gk prog w) A (forIn ifs ak λc r=>if r=ak then do let ok ←isTrue c env (eval c env);pure (ForInStep.yield ok)else pure (ForInStep.yield r)) (λok s3 =>
      if ok=ak then dj (gk prog w) A (eval elt env) (λx s4 =>
         dj (gk prog w) A (call (.builtin "list.append") [acc,x]) (λ_ s5=>∃m,m<n/\J m s5) (notedBy (gk prog w) A env λe s'=>R (.error e) s') s4) (notedBy (gk prog w) A env λe s'=>R (.error e) s') s3
      else ∃m,m<n/\J m s3) (notedBy (gk prog w) A env λe s'=>R (.error e) s') s2) (notedBy (gk prog w) A env λe s'=>R (.error e) s') s1') (notedBy (gk prog w) A env λe s'=>R (.error e) s') s1) (notedBy (gk prog w) A env λe s'=>R (.error e) s') s)
  (n:Nat)(h:J n s):zm (gk prog w) A (.compLoop (.ListComp elt [⟨target,iter,ifs,0⟩] scope pos) 0 it acc env) R s:=by
 refine codeAny_loop rfl J (λn s hJ=>?_) n h;show dj _ A ((compTurn (.ListComp elt [⟨target,iter,ifs,0⟩] scope pos) 0 it acc env).onRaise (λz=>do noteFrame z env;theTreesLotGoes z)) _ _ s;refine wpAny_noted ?_;rw[compTurn_list];refine au (wpAny_standAt (au (oh (turn n s hJ) (λr s1 h1=>?_) λ_ _ z=>z)));cases r with
 |none=>exact dw h1
 |some v =>
  refine au (oh h1 (λ_ s1' h1'=>?_) λ_ _ z=>z);refine au (oh h1' (λ_ s2 h2=>au (oh h2 (λok s3 h3=>?_) λ_ _ z=>z)) λ_ _ z=>z);cases ok with
  |false=>exact dw ⟨rfl,h3⟩
  |true=>exact au (au (oh h3 (λx s4 h4=>au (oh h4 (λ_ s5 h5=>dw (dw ⟨rfl,h5⟩)) λ_ _ z=>z)) λ_ _ z=>z))
private theorem aaR(c:sW X xs scope)(hT:∀C s H fp pins σ,ar6 (jC X xs scope C s H fp pins) tgt xs dv σ)(hdv:∀d ds,dv d=aj ds->ds.length=xs.length)(hc:∀C s H fp pins,anQ (jC X xs scope C s H fp pins) ifs tc)(he:∀C s H fp pins,cU (jC X xs scope C s H fp pins) elt te){s2:dg}{σ:St}{H H2:Hp}{ρ:aN}{G1:Gp}{R:eV}{it:bx}{fp:List bx}{tn:Nat->jf->Prop}{J:It}{src:Src}{RR:bh->bx->Result->dg->Prop}(sr:SR X.K H ρ σ)(I2:Inv X pins σ H2 s2)(T:Turn X.calm X.tp X.prog X.w X.K tgt J fp it tn)(st2:tn 0 s2.heap)(f2:∀b∈fp,mD X pins H2 b)(t1:Ts H H2)(g1:HR X.K H2 G1)(sj:a2W X.K H2 src J)
  (hlen:src.items.length<dh)(body:∀p,G1 p=aq->∃P:Nat->List D->Gp->Prop,P 0 [] (aM G1 p (.lst [])) /\
   (∀k ds G,k<=src.items.length->P k ds G->src.ok G/\G p=aj (.lst ds)/\ds.length<=k) /\
   (∀k d ds G,src.items[k]?=aj d->P k ds G->∃ys,dv d=aj ys/\tc (ys.map aj++ρ) G λb G2=>if b=ak then te (ys.map aj++ρ) G2 λy G3=>G3 p=aj (.lst ds)/\P (k+1) (ds++[y]) (aM G3 p (.lst (ds++[y])))else P (k+1) ds G2) /\
   ∀ds G,P src.items.length ds G->∃G0,Le G0 G/\R (.ref p) G0)
  (hRR:∀Da C s5 H' G0,Inv X pins σ H' s5->axY X pins H' C s5.heap->Ts H H'->HR X.K H' G0->R (.ref Da) G0->RR (.ref Da) C (.ok .next) s5) :
  dj (gk X.prog X.w) X.A (newList []) (λacc s₃=>dj (gk X.prog X.w) X.A (newFunctionEnv scope X.env.globals (nG X.env.cells scope.names []) [] X.env.qual aq .none (aj X.env)) (λcenv s₄ =>
   zm (gk X.prog X.w) X.A (.compStart (.ListComp elt [⟨tgt,iter,ifs,0⟩] scope pos) 0 (.ref it) acc {cenv with scope:=relabel scope X.env}) (RR acc cenv.locals) s₄) X.xe s₃) X.xe s2:=by
 refine qg ?_;have I3:=I2.aK4 (its:=[]) (ys:=[]) (t':=s2.toks) .nil (by decide);have hD:H2 s2.heap.objs.size=aq:=I2.fresh;have kf:=yO I3;have gD:G1 s2.heap.objs.size=aq:=jY g1 hD kf;obtain⟨P,p0,pok,pst,pend⟩:=body _ gD
 have ltD:∀b∈fp,b<s2.heap.objs.size:=λb hb=>by
  obtain⟨o,e,_⟩:=T.obj 0 _ st2 b hb;exact gV e
 have hsz3:(s2.heap.push {cls:=.type "list",data:=.seq ([]:List bh).toArray}).objs.size=s2.heap.objs.size+1:=zj ..
 have hf3:∀b∈fp,mD X pins (upd H2 s2.heap.objs.size (.lst [])) b/\b<(s2.heap.push {cls:=.type "list",data:=.seq ([]:List bh).toArray}).objs.size:=λb hb=>by
  obtain⟨f0,fr⟩:=f2 b hb;exact⟨⟨by rw[aP (jg (ltD b hb))];exact f0,fr⟩,by rw[hsz3];exact a1m (ltD b hb)⟩
 refine wpAny_newFunctionEnv c.aiF (by intro y hy;simp at hy) (λh₁ hns₁ hsb₁=>?_) c.kind;dsimp only at hns₁ hsb₁ ⊢;generalize hH3:s2.heap.push {cls:=.type "list",data:=.seq ([]:List bh).toArray}=h3 at *;generalize hDe:s2.heap.objs.size=Da at *;have aBY:∀b o,h3.get? b=aj o->h₁.get? b=aj o:=λb o e=>hsb₁.extBut b o (jg (gV e)) (cj _ e)
 show zm (gk X.prog X.w) X.A (Code.compStart (elt.ListComp [{target:=tgt,iter:=iter,ifs:=ifs,is_async:=0}] scope pos) 0 (bh.ref it) (bh.ref Da) (compEnvC scope (nG X.env.cells scope.names []) h3.objs.size X.env))
  (RR (.ref Da) h3.objs.size) {s2 with heap:=h₁,toks:=s2.toks+([]:List (Str×bh)).length}
 have J0:=aF9 (tk:=s2.toks+([]:List (Str×bh)).length) I3 c rfl hf3 hns₁ aBY;have st1:tn 0 h₁:=T.keep _ _ _ st2 λb hb o e=>aBY b o (by rw[←hH3];exact cj _ e);have g0:HR X.K (upd H2 Da (.lst [])) (aM G1 Da (.lst [])):=g1.put (u:=.lst []) hD ⟨[],aL,.nil⟩;have ts0:Ts H2 (upd H2 Da (.lst [])):=.same (bV hD)
 have loop:∀s₄:dg,Inv (jC X xs scope h3.objs.size {s2 with heap:=h3,toks:=s2.toks} (upd H2 Da (.lst [])) fp pins) [] (nn xs σ) (upd H2 Da (.lst [])) s₄->tn 0 s₄.heap ->
   zm (gk X.prog X.w) X.A (.compLoop (.ListComp elt [⟨tgt,iter,ifs,0⟩] scope pos) 0 (.ref it) (.ref Da) (compEnvC scope (nG X.env.cells scope.names []) h3.objs.size X.env)) (RR (.ref Da) h3.objs.size) s₄:=by
  intro s₄ J4 st4
  refine ar8 (λn s'=>∃i ds H' G',Inv (jC X xs scope h3.objs.size {s2 with heap:=h3,toks:=s2.toks} (upd H2 Da (.lst [])) fp pins) [] (nn xs σ) H' s'/\tn i s'.heap/\(∀b∈fp,H' b=aq)/\HR X.K H' G'/\P i ds G'/\i<=src.items.length/\n=src.items.length - i/\Ts H2 H') (λn s' hI=>?_) src.items.length
   ⟨0,[],_,_,J4,st4,λb hb=>(hf3 b hb).1.1,g0,p0,zq _,by simp,ts0⟩
  obtain⟨i,ds,H',G',J,st,fr,g',p,hi',rfl,ts⟩:=hI;obtain⟨ok,hDl,hdl⟩:=pok i ds G' hi' p;obtain⟨sgo,aQ2,aL6⟩:=sj H' G' ts g' ok
  have fpX:∀{H':Hp},(∀b∈fp,H' b=aq)->∀b∈fp,mD (jC X xs scope h3.objs.size {s2 with heap:=h3,toks:=s2.toks} (upd H2 Da (.lst [])) fp pins) [] H' b:=λhn b hb=>by
   obtain⟨⟨f0,f1,f2',f3,f4,f5⟩,lt⟩:=hf3 b hb;refine⟨hn b hb,jg lt,λhs=>?_,.inl hb,λy d e=>f4 y d (iU e λ_ h=>by simp at h),λp' hp'=>f5 p' (by simpa using hp')⟩;rcases acJ I3 hs with z|z
   .exact f1 z
   .exact f2' z
  by_cases hlt:i<src.items.length
  .refine oh (T.item (jC X xs scope h3.objs.size {s2 with heap:=h3,toks:=s2.toks} (upd H2 Da (.lst [])) fp pins) rfl rfl rfl (λh=>h) (λ_ h=>h) i [] s' (nn xs σ) H' (λ_ _=>False) J (fpX fr) st (sgo i hlt)) ?_ λ_ _ z=>z.elim;rintro r s5 ⟨u,hr,h5⟩;subst hr
   obtain⟨d0,ys,hd0,ey,aQ4⟩:∃d ys,src.items[i]?=aj d/\dv d=aj ys/\tc (ys.map aj++ρ) G' λb G2=>if b=ak then te (ys.map aj++ρ) G2 λy G3=>G3 Da=aj (.lst ds)/\P (i+1) (ds++[y]) (aM G3 Da (.lst (ds++[y])))else P (i+1) ds G2:=by
    have hd:src.items[i]?=aj src.items[i]:=cg hlt;obtain⟨ys,e,z⟩:=pst i _ ds G' hd p;exact⟨_,ys,hd,e,z⟩
   show dj _ _ (a1z tgt (.ref it) u) _ _ s5;refine oh h5 ?_ λ_ _ z=>z.elim;rintro _ s6 ⟨vx,H6,I6,r6,y6,st6,fr6⟩;obtain⟨sm,d,hd,rd⟩:=aQ2 i vx H6 hlt y6;have g':=g'.same sm;have ts:=ts.trans (.same sm);obtain rfl:d0=d:=jd.inj (hd0.symm.trans hd);have I6':=I6.pinned (fpX fr6) (T.obj _ _ st6);refine oh (hT _ _ _ _ _ _ _ s6 H6 vx u _ _ I6' r6 rd ey) ?_ λ_ _ z=>z.elim;rintro _ s7 ⟨vs,rvs,I7⟩;have lv:vs.length=xs.length:=by rw[←rvs.length];exact hdv _ _ ey
   have ar9:∀{s'':dg}{σ'':St}{H'':Hp},Inv (jC X xs scope h3.objs.size {s2 with heap:=h3,toks:=s2.toks} (upd H2 Da (.lst [])) fp pins) ([]++a2M fp s6.heap) σ'' H'' s''->tn (i+1) s''.heap/\∀b∈fp,H'' b=aq:=λI''=>by
    refine⟨T.keep _ _ _ st6 λb hb o e=>(I''.pin (b,o) (nu _ (nu _ (sJ hb e)))).1,λb hb=>?_⟩;obtain⟨o,e,_⟩:=T.obj _ _ st6 b hb;exact(I''.pin (b,o) (nu _ (nu _ (sJ hb e)))).2.1
   have down:∀{s'':dg}{H'':Hp},Inv (jC X xs scope h3.objs.size {s2 with heap:=h3,toks:=s2.toks} (upd H2 Da (.lst [])) fp pins) ([]++a2M fp s6.heap) (vs.map aj++σ) H'' s''->Inv (jC X xs scope h3.objs.size {s2 with heap:=h3,toks:=s2.toks} (upd H2 Da (.lst [])) fp pins) [] (nn xs σ) H'' s'':=λI'' =>
    I''.a06.weak (by simp[nn,lv]) λj v e=>by
     obtain⟨j',rfl,e'⟩:=ar5 e;rw[←lv,show vs.length=(vs.map aj).length by simp,akQ];exact e'
   have sr7:SR X.K H6 (ys.map aj++ρ) (vs.map aj++σ):=ar7 (sr.mono (t1.trans ts)) rvs
   refine oh (hc _ _ _ _ _ _ s7 (vs.map aj++σ) H6 (λb H8=>Ts H6 H8/\∃G8,HR X.K H8 G8/\(if b=ak then te (ys.map aj++ρ) G8 λy G3=>G3 Da=aj (.lst ds)/\P (i+1) (ds++[y]) (aM G3 Da (.lst (ds++[y])))else P (i+1) ds G8)) I7
    ⟨ys.map aj++ρ,G',_,sr7,g',aQ4,λb H8 G8 t8 g8 q8=>⟨t8,G8,g8,q8⟩⟩) (λb s8 ⟨H8,I8,t8,G8,g8,q8⟩=>?_) λ_ _ z=>z.elim
   cases b with
   |false =>
    rw[if_neg (by decide)];have q8':P (i+1) ds G8:=by simpa using q8
    obtain⟨a1,a2⟩:=ar9 I8;exact⟨src.items.length - (i+1),by omega,i+1,ds,H8,G8,down I8,a1,a2,g8,q8',hlt,rfl,ts.trans t8⟩
   |true =>
    rw[if_pos rfl];have q8':te (ys.map aj++ρ) G8 λy G3=>G3 Da=aj (.lst ds)/\P (i+1) (ds++[y]) (aM G3 Da (.lst (ds++[y]))):=by simpa using q8
    refine oh (he _ _ _ _ _ _ s8 (vs.map aj++σ) H8 (λvy H9=>Ts H8 H9/\∃y G9,RD X.K H9 y vy/\HR X.K H9 G9/\G9 Da=aj (.lst ds)/\P (i+1) (ds++[y]) (aM G9 Da (.lst (ds++[y])))) I8 ⟨ys.map aj++ρ,G8,_,sr7.mono t8,g8,q8',λvy H9 y G9 t9 r9 g9 q9=>⟨t9,y,G9,r9,g9,q9⟩⟩) ?_ λ_ _ z=>z.elim;rintro uy s9 ⟨vy,H9,I9,ry,t9,y,G9,ryd,g9,hG9,q9⟩;obtain⟨ws,hH9,rws⟩:=g9 Da _ hG9;have aL8:ws.length<dh:=by rw[←rws.length];omega
    refine oh (aaF (X:=jC X xs scope h3.objs.size {s2 with heap:=h3,toks:=s2.toks} (upd H2 Da (.lst [])) fp pins) _ s9 (vs.map aj++σ) H9 (.ref Da) [vy] (.ref Da) [uy] (λ_ H10=>H10=upd H9 Da (.lst (ws++[vy]))) I9 rfl (.cons ry .nil) ⟨Da,ws,vy,rfl,rfl,hH9,aL8,rfl⟩) ?_ λ_ _ z=>z.elim;rintro _ s10 ⟨_,H10,I10,_,e10⟩;subst e10;obtain⟨a1,a2⟩:=ar9 I10;have tt:Ts H9 (upd H9 Da (.lst (ws++[vy]))):=.turn hH9 (λ_ z=>nomatch z) (λ_ _ z=>nomatch z);exact⟨src.items.length - (i+1),by omega,i+1,ds++[y],_,_,down I10,a1,a2,g9.turn (u:=.lst (ds++[y])) tt ⟨_,aL,(rws.append (.cons ryd .nil)).mono tt⟩,q9,hlt,rfl,((ts.trans t8).trans t9).trans tt⟩
  .have ein:i=src.items.length:=by omega
   subst ein;refine oh (T.done (jC X xs scope h3.objs.size {s2 with heap:=h3,toks:=s2.toks} (upd H2 Da (.lst [])) fp pins) rfl rfl rfl (λh=>h) (λ_ h=>h) _ [] s' (nn xs σ) H' (λ_ _=>False) J (fpX fr) st aL6) ?_ λ_ _ z=>z.elim;rintro r s5 ⟨hr,J5⟩;subst hr;obtain⟨m5,hn5,_⟩:=id J5.loc;obtain⟨G0,l0,q0⟩:=pend ds G' p;have I5:Inv X pins σ H' s5:=axV (tk:=s5.toks) I3 rfl hf3 J5 (su.refl _ _);refine hRR Da _ s5 H' G0 I5 ⟨⟨m5,hn5⟩,J5.free,yg I3.lt,I3.sz,λy d e z=>?_,λp hp z=>?_⟩ (t1.trans ts) (g'.le l0) q0
   .obtain⟨w,o,ho,_⟩:=I3.cell y d e;rw[z]at ho;exact absurd (gV ho) (wz _)
   .have:=(I3.pin p hp).1;rw[z]at this;exact absurd (gV this) (wz _)
 exact codeAny_compStart_list (loop _ J0 st1) (T.self X.A 0 _ _ _ st1 (loop _ J0 st1))
abbrev a0N(dv:D->Option (List D))(ti:TI3)(tc:vD)(te:cO):cO:=λρ G R=>ti ρ G λsrc G1=>src.items.length<dh/\∀p,G1 p=aq->∃P:Nat->List D->Gp->Prop,P 0 [] (aM G1 p (.lst [])) /\
 (∀k ds G,k<=src.items.length->P k ds G->src.ok G/\G p=aj (.lst ds)/\ds.length<=k) /\
 (∀k d ds G,src.items[k]?=aj d->P k ds G->∃ys,dv d=aj ys/\tc (ys.map aj++ρ) G λb G2=>if b=ak then te (ys.map aj++ρ) G2 λy G3=>G3 p=aj (.lst ds)/\P (k+1) (ds++[y]) (aM G3 p (.lst (ds++[y])))else P (k+1) ds G2) /\
 ∀ds G,P src.items.length ds G->∃G0,Le G0 G/\R (.ref p) G0
abbrev aiG(d:D):Option (List D):=some [d]
@[simp]def vL(ti:TI3)(tc:vD)(te:cO):cO:=a0N aiG ti tc te
abbrev anR(n:Nat)(d:D):Option (List D):=match d with
 |.tup ds=>if ds.length=n then aj ds else aq
 |_=>aq
@[simp]def mH(n:Nat)(ti:TI3)(tc:vD)(te:cO):cO:=a0N (anR n) ti tc te
def af4(d:D)(ds:List D)(h:aiG d=aj ds):ds.length=[x].length:=by
 unfold aiG at h;cases h;rfl
private theorem acK{ds:List D}(h:anR n d=aj ds):d=.tup ds/\ds.length=n:=by
 unfold anR at h;split at h
 .split at h
  .rename_i e;cases h;exact⟨rfl,e⟩
  .cases h
 .cases h
def aiH(c:sW X xs scope)(hnd:X.N.Nodup):(xs++X.N).Nodup:=a1n.mpr ⟨c.nd,hnd,λa ha b hb e=>c.out a ha (e ▸ hb)⟩
def arA(c:sW X [x] scope)(hnd:X.N.Nodup):ar6 (jC X [x] scope C s H fp pins) (.Name x px) [x] aiG σ:=by
 intro a3V s' H' v u d ds I r rd e;unfold aiG at e;cases e;have pgn:PG (jC X [x] scope C s H fp pins) (.Name x px) (akC 0):=abW (aiH c hnd) rfl (.inl (a0y (c.var x (by simp)))) (.inr (a0y (c.var x (by simp))));refine oh (pgn a3V s' (nn [x] σ) H' v u (λσ' H2=>σ'=[v].map aj++σ/\H2=H') I r ⟨rfl,rfl⟩) ?_ λ_ _ z=>z;rintro _ s2 ⟨σ2,H2,I2,e2,e3⟩;subst e2;subst e3;exact⟨[v],.cons rd .nil,I2⟩
def acL(c:sW X xs scope)(hT:∀C s H fp pins σ,ar6 (jC X xs scope C s H fp pins) tgt xs dv σ)(hdv:∀d ds,dv d=aj ds->ds.length=xs.length)(hi:PI3 X tgt iter ti)(hc:∀C s H fp pins,anQ (jC X xs scope C s H fp pins) ifs tc)(he:∀C s H fp pins,cU (jC X xs scope C s H fp pins) elt te)
  (hs:∀y,a0w iter X.env y=pure y):cU X (.ListComp elt [⟨tgt,iter,ifs,0⟩] scope pos) (a0N dv ti tc te):=by
 intro pins s σ H Q I h _tk;obtain⟨ρ,G,R,sr,g,q,kk⟩:=h;rw[eval_ListComp];refine wpAny_comprehension_free (use:=none) rfl hs (qO λy hy hf=>I.ok.has y.1 (c.frees y hy hf)) c.kind c.locs ?_
 refine cY (hi pins s σ H (λJ H1=>Ts H H1/\∃src G1,HR X.K H1 G1/\a2W X.K H1 src J/\(src.items.length<dh/\∀p,G1 p=aq->∃P:Nat->List D->Gp->Prop,P 0 [] (aM G1 p (.lst [])) /\
   (∀k ds G,k<=src.items.length->P k ds G->src.ok G/\G p=aj (.lst ds)/\ds.length<=k) /\
   (∀k d ds G,src.items[k]?=aj d->P k ds G->∃ys,dv d=aj ys/\tc (ys.map aj++ρ) G λb G2=>if b=ak then te (ys.map aj++ρ) G2 λy G3=>G3 p=aj (.lst ds)/\P (k+1) (ds++[y]) (aM G3 p (.lst (ds++[y])))else P (k+1) ds G2) /\
   ∀ds G,P src.items.length ds G->∃G0,Le G0 G/\R (.ref p) G0)) I ⟨ρ,G,_,sr,g,q,λsrc J H' G' t1 g1 sj q1=>⟨t1,src,G',g1,sj,q1⟩⟩) λv s1 h1=>cY h1 λitv s2 hz=>?_
 obtain⟨it,fp,tn,J,H2,e,I2,T,st2,f2,t1,src,G1,g1,sj,hlen,body⟩:=hz;subst e
 exact aaR (RR:=λacc C=>compPost (gk X.prog X.w) X.A X.xe aq (EP X pins σ Q) acc C) c hT hdv hc he sr I2 T st2 f2 t1 g1 sj hlen body λDa C s5 H' G0 I5 o ts g0 q0=>by
  obtain⟨m,hn⟩:=o.ns;exact⟨m,hn,λh' hs'=>⟨.ref Da,H',o.turn I5 hs',rfl,kk _ H' _ G0 ts (.ref Da) g0 q0⟩⟩
private theorem akR{i:Nat}(c:sW X xs scope)(hT:∀C s H fp pins σ,ar6 (jC X xs scope C s H fp pins) tgt xs dv σ)(hdv:∀d ds,dv d=aj ds->ds.length=xs.length)(hnd:X.N.Nodup)(hy:X.N[i]?=aj y)(hl:Loc X.env.scope y)(hf:X.fn y=ak)(hi:PI3 X tgt iter ti)(hc:∀C s H fp pins,anQ (jC X xs scope C s H fp pins) ifs tc)(he:∀C s H fp pins,cU (jC X xs scope C s H fp pins) elt te)
  (hs:∀y,a0w iter X.env y=pure y):PS3 X (.Assign [.Name y py] (.ListComp elt [⟨tgt,iter,ifs,0⟩] scope pos) spos) (bF i (a0N dv ti tc te)):=by
 have hsw:∃b,a1i (.ListComp elt [⟨tgt,iter,ifs,0⟩] scope pos) (aj (.Name y py)) spos.line X.env=pure b:=⟨_,rfl⟩;obtain⟨b,hsw⟩:=hsw;cases b with
 |false=>exact aBU hnd hy hl (acL c hT hdv hi hc he hs) hsw (.inl hf)
 |true =>
  intro pins s σ H F I h _tk;obtain⟨ρ,G,E,sr,g,q,d⟩:=h;rw[exec_Assign_Name_used _ _ _ _ hsw];refine au (wpAny_standAt (au ?_));show dj _ X.A (do let _ ←comprehension (.ListComp elt [⟨tgt,iter,ifs,0⟩] scope pos) scope X.env _ (newList []) ao (eval iter X.env) (aj (assign (.Name y py) X.env))) _ _ s;refine au (oh (wpAny_comprehension_free (use:=some (assign (.Name y py) X.env)) (Q:=λ_ s'=>SP X pins F .next s') rfl hs (qO λy hy hf=>I.ok.has y.1 (c.frees y hy hf)) c.kind c.locs ?_) (λ_ s' hq=>dw (dw hq)) λ_ _ e=>e)
  refine cY (hi pins s σ H (λJ H1=>Ts H H1/\∃src G1,HR X.K H1 G1/\a2W X.K H1 src J/\(src.items.length<dh/\∀p,G1 p=aq->∃P:Nat->List D->Gp->Prop,P 0 [] (aM G1 p (.lst [])) /\
    (∀k ds G,k<=src.items.length->P k ds G->src.ok G/\G p=aj (.lst ds)/\ds.length<=k) /\
    (∀k d ds G,src.items[k]?=aj d->P k ds G->∃ys,dv d=aj ys/\tc (ys.map aj++ρ) G λb G2=>if b=ak then te (ys.map aj++ρ) G2 λy G3=>G3 p=aj (.lst ds)/\P (k+1) (ds++[y]) (aM G3 p (.lst (ds++[y])))else P (k+1) ds G2) /\
    ∀ds G,P src.items.length ds G->∃G0,Le G0 G/\E.nx (a2T ρ i (.ref p)) G0)) I ⟨ρ,G,_,sr,g,q,λsrc J H' G' t1 g1 sj q1=>⟨t1,src,G',g1,sj,q1⟩⟩) λv s1 h1=>cY h1 λitv s2 hz=>?_
  obtain⟨it,fp,tn,J,H2,e,I2,T,st2,f2,t1,src,G1,g1,sj,hlen,body⟩:=hz;subst e;refine aaR (R:=λz G0=>E.nx (a2T ρ i z) G0) (RR:=λacc C=>compPost (gk X.prog X.w) X.A X.xe (aj (assign (.Name y py) X.env)) (λ_ s'=>SP X pins F .next s') acc C) c hT hdv hc he sr I2 T st2 f2 t1 g1 sj hlen body λDa C s5 H' G0 I5 o ts g0 q0=>?_;show dj _ X.A (assign (.Name y py) X.env (.ref Da)) _ _ s5;refine wpAny_assign_Name (aa7 (v:=.ref Da) I5 hnd hy hl rfl ?_ (.inl hf));rintro s6 I6 ⟨a,hsb,ha⟩;obtain⟨m,hn⟩:=o.ns
  have hCa:C≠a:=by
   rcases ha with rfl|ha
   .exact o.loc
   .exact λz=>o.cells y a ha z.symm
  have o6:axY X pins H' C s6.heap:=⟨⟨m,hn.sameBut hsb hCa⟩,o.free,o.loc,o.young,o.cells,o.pins⟩;refine⟨m,hn.sameBut hsb hCa,λh' hs'=>⟨_,H',o6.turn I6 hs',d.nx _ G0 _ H' ((sr.mono ts).set (.ref Da) i) g0 q0⟩⟩
end
end
variable{body:List lq}
section
@[simp]def TG3:=D->aN->(aN->Prop)->Prop
abbrev upG(K:Fg)(t:TG3):TG:=λv σ H Q=>∃ρ d R,SR K H ρ σ/\RD K H d v/\t d ρ R/\∀ρ' σ',SR K H ρ' σ'->R ρ'->Q σ' H
@[simp]def PG3(X:Cx)(tg:jc)(t:TG3):Prop:=PG X tg (upG X.K t)
abbrev fO(i:Nat):TG3:=λd ρ Q=>Q (a2T ρ i d)
abbrev a4A:aN->List Nat->List D->aN
 |ρ,i::is,d::ds=>a4A (a2T ρ i d) is ds
 |ρ,_,_=>ρ
abbrev vM(is:List Nat):TG3:=λd ρ Q=>match d with
 |.tup ds=>ds.length=is.length/\Q (a4A ρ is ds)
 |_=>False
abbrev aaS:St->List Nat->List V->St
 |σ,i::is,v::vs=>aaS (σ.set i (aj v)) is vs
 |σ,_,_=>σ
def SR.sets{K:Fg}:∀{is:List Nat}{ds:List D}{vs:List V}{ρ:aN}{σ:St},cG K H ds vs->SR K H ρ σ->SR K H (a4A ρ is ds) (aaS σ is vs)
 |[],_,_,_,_,_,s=>s
 |_::_,_,_,_,_,.nil,s=>s
 |i::is,_,_,_,_,.cons h r,s=>SR.sets (is:=is) r (s.set h i)
section
variable{X:Cx}
def PG.imp{t:TG}(h:PG X e t)(k:∀v σ H Q,t' v σ H Q->t v σ H Q):PG X e t':=λpins s σ H v u Q I r q=>h pins s σ H v u Q I r (k _ _ _ _ q)
def aFA{i:Nat}{x:Str}(hN:X.N.Nodup)(hi:X.N[i]?=aj x)(hx:Loc X.env.scope x)(hf:X.fn x=ak∨X.env.scope.names.lookup x=aj .local):PG3 X (.Name x pos) (fO i) :=
 PG.imp (abW hN hi hx hf) λv σ H Q h=>by
 obtain⟨ρ,d,R,s,r,q,k⟩:=h;exact k _ _ (s.set r i) q
structure axZ(X:Cx)(e:jc)(i:Nat):Prop where
 ex:∃x pos,e=.Name x pos/\X.N[i]?=aj x/\Loc X.env.scope x/\(X.fn x=ak∨X.env.scope.names.lookup x=aj .local)
abbrev aFB:List Nat->TGs
 |[]=>aJG
 |i::is=>aBC (akC i) (aFB is)
def acM:∀{is:List Nat}{vs:List V}{σ:St}{H:Hp}{Q:St->Hp->Prop},vs.length=is.length->Q (aaS σ is vs) H->aFB is vs σ H Q
 |[],[],_,_,_,_,q=>⟨rfl,q⟩
 |[],_::_,_,_,_,h,_=>by simp at h
 |_::_,[],_,_,_,h,_=>by simp at h
 |i::is,v::vs,σ,H,Q,h,q=>⟨v,vs,rfl,acM (is:=is) (by simpa using h) q⟩
def a2Y(hN:X.N.Nodup):∀{es:List jc}{is:List Nat},Two (axZ X) es is->PGs X es (aFB is)/\(a0h es X.env).length=is.length/\(a0h es X.env).findIdx? (·.1)=aq
 |_,_,.nil=>⟨awS,rfl,rfl⟩
 |_,_,.cons (a:=e) (b:=i) h r=>by
  obtain⟨x,pos,rfl,h1,h2,h3⟩:=h.ex;obtain⟨a1,a2,a3⟩:=a2Y hN r;refine⟨apV (abW hN h1 h2 h3) a1 rfl,?_,?_⟩
  .show(a0h _ X.env).length+1=_;rw[a2];rfl
  .show((ao,assign (.Name x pos) X.env)::a0h _ X.env).findIdx? (·.1)=aq;rw[List.findIdx?_cons];simp[a3]
def aBZ{k:Nat}(hN:X.N.Nodup)(hc:X.calm=ak)(h:Two (axZ X) es is):PG3 X (.Tuple es k pos) (vM is):=by
 obtain⟨a1,a2,a3⟩:=a2Y hN h;refine PG.imp (apW hc a1 a2 a3) λv σ H Q h=>?_;obtain⟨ρ,d,R,s,r,q,k⟩:=h;cases r with
 |@tup a vs ds hq rv =>
  have q':ds.length=is.length/\R (a4A ρ is ds):=q;exact⟨a,vs,rfl,hq,by rw[←rv.length];exact q'.1,acM (by rw[←rv.length];exact q'.1) (k _ _ (SR.sets rv s) q'.2)⟩
 |_=>exact False.elim q
def aaT:∀(xs:List Str)(vs done:List V)(σ:St),vs.length=xs.length->aaS (done.map aj++nn xs σ) (List.range' done.length xs.length) vs=(done++vs).map aj++σ
 |[],[],done,σ,_=>by simp[aaS,nn]
 |[],_::_,_,_,h=>by simp at h
 |_::_,[],_,_,h=>by simp at h
 |x::xs,v::vs,done,σ,h=>by
  have ih:=aaT xs vs (done++[v]) σ (by simpa using h)
  have e1:(done.map aj++nn (x::xs) σ).set done.length (aj v)=(done++[v]).map aj++nn xs σ:=by
   simp[nn,List.set_append]
  show aaS ((done.map aj++nn (x::xs) σ).set done.length (aj v)) (List.range' (done.length+1) xs.length) vs=_;rw[e1];have e2:(done++[v]).length=done.length+1:=by simp
  rw[e2]at ih;rw[ih];simp
def arB{xs:List Str}{k:Nat}(c:sW X xs scope)(hnd:X.N.Nodup)(hc:X.calm=ak)(hes:Two (λe x=>∃p,e=jc.Name x p) es xs):ar6 (jC X xs scope C s H fp pins) (.Tuple es k pos) xs (anR xs.length) σ:=by
 intro a3V s' H' v u d ds I r rd e;obtain⟨rfl,hl⟩:=acK e
 have nms:∀(es':List jc)(ys done:List Str),Two (λe x=>∃p,e=jc.Name x p) es' ys->xs=done++ys->Two (axZ (jC X xs scope C s H fp pins)) es' (List.range' done.length ys.length):=by
  intro es' ys
  induction ys generalizing es' with
  |nil=>intro done t _;cases t;exact .nil
  |cons y ys ih =>
   intro done t e;cases t with
   |cons h t =>
    obtain⟨p,rfl⟩:=h;have z:=ih _ (done++[y]) t (by simp[e]);have e2:(done++[y]).length=done.length+1:=by simp
    rw[e2]at z;refine .cons ⟨y,p,rfl,?_,.inl (a0y (c.var y (by simp[e]))),.inr (a0y (c.var y (by simp[e])))⟩ z;show(xs++X.N)[done.length]?=aj y;rw[e];simp
 obtain⟨a1,a2,a3⟩:=a2Y (X:=jC X xs scope C s H fp pins) (aiH c hnd) (nms es xs [] hes rfl);cases rd with
 |@tup a vs _ hq rv =>
  have lv:vs.length=xs.length:=by rw[←rv.length];exact hl
  have pgt:=apW (X:=jC X xs scope C s H fp pins) (k:=k) (pos:=pos) (show(jC X xs scope C s H fp pins).calm=ak from hc) a1 a2 a3;refine oh (pgt a3V s' (nn xs σ) H' (.ref a) u (λσ' H2=>σ'=vs.map aj++σ/\H2=H') I r ⟨a,vs,rfl,hq,by simpa using lv,acM (by simpa using lv) ⟨?_,rfl⟩⟩) (λ_ s2 ⟨σ2,H2,I2,e2,e3⟩=>?_) λ_ _ z=>z
  .have:=aaT xs vs [] σ lv;simpa using this
  .subst e2;subst e3;exact⟨vs,rv,I2⟩
abbrev a0O(K:Fg)(src:Src)(J:It):Prop:=∀H2 G2,HR K H2 G2->src.ok G2 ->
 (∀i,i<src.items.length->J.go i H2)/\(∀i v H',i<src.items.length->J.yld i H2 v H'->Same H2 H'/\∃d,src.items[i]?=aj d/\RD K H' d v)/\J.stop src.items.length H2
abbrev aQ7(K:Fg)(t:TI3):TI:=λσ H Q=>∃ρ G R,SR K H ρ σ/\HR K H G/\t ρ G R/\∀src J H' G',Ts H H'->HR K H' G'->a0O K src J->R src G'->Q J H'
@[simp]def PIS(X:Cx)(tg iter:jc)(t:TI3):Prop:=PI X tg iter (aQ7 X.K t)
abbrev a77(te:cO):TI3:=λρ G R=>te ρ G λx G1=>match x with
 |.ref p=>(match aQ G1 p with
  |some xs=>R (.lst p xs) G1
  |none=>False)
 |.str z=>R (.imm (signs z)) G1
 |.tup xs=>xs.all scD=ak/\∀a,(G1 a=aq∨G1 a=aj (.tpl xs))->R (.tpl a xs) (aM G1 a (.tpl xs))
 |_=>False
def aL9{K:Fg}(h:scD d=ak)(r:RD K H d v)(r':RD K H d' v):d'=d:=by
 cases r with
 |non=>cases r';rfl
 |bl b=>cases r';rfl
 |int i=>cases r';rfl
 |str x=>cases r';rfl
 |_=>exact Bool.noConfusion (show ao=ak from h)
def arC{K:Fg}:∀{ds ds':List D}{vs:List V},ds.all scD=ak->cG K H ds vs->cG K H ds' vs->ds'=ds
 |_,_,_,_,.nil,.nil=>rfl
 |d::ds,d'::ds',_,h,.cons r rr,.cons r' rr'=>by
  rw[a04,bw]at h;rw[aL9 h.1 r r',arC h.2 rr rr']
def arD(I:Inv X pins σ H s)(g:HR X.K H G)(hq:oG X.K H a xs)(e:G a=aj o):∃ds,o=.tpl ds/\cG X.K H ds xs:=by
 have no:∀u,H a=aj u->(∀ys,u≠.tup ys)->(∀ob ys,u≠.j6 ob (.tup ys))->False:=λu hu h1 h2=>by
  rcases hq with(q|⟨ob,q⟩)|⟨ob,_,_,q,_⟩
  .rw[hu]at q;exact h1 _ (jd.inj q)
  .rw[hu]at q;exact h2 _ _ (jd.inj q)
  .have:=yO I a ob q;rw[hu]at this;cases this
 have z:=g a o e;cases o with
 |lst ds=>obtain⟨_,q,_⟩:=z;exact(no _ q (λ_ w=>nomatch w) (λ_ _ w=>nomatch w)).elim
 |rol ds =>
  obtain⟨_,q,_⟩:=z;obtain⟨_,_,⟨o1,n1,e1,c1,_⟩,_⟩:=I.list q;obtain⟨_,_,⟨o2,e2,c2,_⟩,_⟩:=I.tuple hq;rw[e1]at e2;cases e2;rw[c1]at c2;exact absurd c2 (by decide)
 |jX t kvs=>rcases z with⟨_,_,q,_⟩|⟨_,_,q,_⟩<;>exact(no _ q (λ_ w=>nomatch w) (λ_ _ w=>nomatch w)).elim
 |ins C fs=>obtain⟨_,_,q,_⟩:=z;exact(no _ q (λ_ w=>nomatch w) (λ_ _ w=>nomatch w)).elim
 |exn C=>obtain⟨_,_,q,_⟩:=z;exact(no _ q (λ_ w=>nomatch w) (λ_ _ w=>nomatch w)).elim
 |rdc ob t kvs=>rcases z with⟨_,_,q,_⟩|⟨_,_,q,_⟩<;>exact(no _ q (λ_ w=>nomatch w) (λ_ _ w=>nomatch w)).elim
 |tpl ds=>obtain⟨ys,q,r⟩:=z;exact⟨ds,rfl,by rw[←I.xO q hq];exact r⟩
 |qL kvs=>obtain⟨_,q,e⟩:=z;exact(no _ q (λ_ w=>by rcases e with⟨_,rfl⟩|⟨_,_,_,rfl,_⟩<;>cases w) (λ_ _ w=>by rcases e with⟨_,rfl⟩|⟨_,_,_,rfl,_⟩<;>cases w)).elim
 |tab q p=>obtain⟨_,q,_⟩:=z;exact(no _ q (λ_ w=>nomatch w) (λ_ _ w=>nomatch w)).elim
 |clo c d=>obtain⟨_,_,_,_,_,_,_,_,q,_⟩:=z;exact(no _ q (λ_ w=>nomatch w) (λ_ _ w=>nomatch w)).elim
def akS{ds:List D}(I:Inv X pins σ H s)(g:HR X.K H G)(hq:oG X.K H a xs)(rv:cG X.K H ds xs)(sc:ds.all scD=ak) :
  (G a=aq∨G a=aj (.tpl ds))/\HR X.K H (aM G a (.tpl ds)):=by
 refine⟨?_,λb o e=>?_⟩
 .cases e:G a with
  |none=>exact .inl rfl
  |some o=>obtain⟨ds',rfl,r⟩:=arD I g hq e;exact .inr (by rw[arC sc rv r])
 .by_cases hb:b=a
  .subst hb;rw[aG]at e;cases e;exact⟨xs,hq,rv⟩
  .rw[bJ hb]at e;exact g b o e
def arE{K:Fg}:a0O K (.tpl p xs) (Itt K p):=λH2 G2 g ok=>by
 obtain⟨vs,hq,rv⟩:=g p _ ok;exact af2 hq rv H2 G2 (.refl _) g trivial
def anS{K:Fg}:a0O K (.lst p xs) (Itl K p):=λH2 G2 g ok=>aaQ (H1:=H2) H2 G2 (.refl _) g ok
def af5{K:Fg}:a0O K (.imm (signs z)) (Its z):=λH2 G2 g ok=>a75 (H1:=H2) H2 G2 (.refl _) g ok
def arF{K:Fg}:a0O K (.imm ((je n).map λ(i:Nat)=>.int (lo+(i:Int)))) (Itr lo n):=λH2 G2 g ok=>af3 (H1:=H2) H2 G2 (.refl _) g ok
private theorem aFC{l:jc}(hl:cU X l te):PIS X tg l (a77 te):=by
 intro pins s σ H R I h _tk;obtain⟨ρ,G,R3,sr,g,q,k⟩:=h
 refine cY (hl pins s σ H (λv H1=>Ts H H1/\∃x G1,RD X.K H1 x v/\HR X.K H1 G1/\(match x with
  |.ref p=>(match aQ G1 p with
   |some xs=>R3 (.lst p xs) G1
   |none=>False)
  |.str z=>R3 (.imm (signs z)) G1
  |.tup xs=>xs.all scD=ak/\∀a,(G1 a=aq∨G1 a=aj (.tpl xs))->R3 (.tpl a xs) (aM G1 a (.tpl xs))
  |_=>False)) I ⟨ρ,G,_,sr,g,q,λv H1 x G1 t1 r g1 q1=>⟨t1,x,G1,r,g1,q1⟩⟩) λv s1 ⟨x,H1,I1,r1,t1,d,G1,rd,g1,q1⟩=>?_
 cases rd with
 |ref a =>
  have q1':(match aQ G1 a with
   |some xs=>R3 (.lst a xs) G1
   |none=>False):=q1
  split at q1'
  .rename_i xs e;cases r1;obtain⟨vs,hq,rv⟩:=c7 g1 e;obtain⟨its,rv',p,hz⟩:=I1.list hq;refine wpAny_pyIter_list p.isList ?_;refine⟨s1.heap.objs.size,[s1.heap.objs.size],_,_,H1,rfl,I1.kept (t':=s1.toks) λb o e=>cj _ e,aa9 a _,⟨_,ig _ rfl,rfl,rfl⟩,λb hb=>?_,k _ _ H1 G1 t1 g1 anS q1'⟩;have e:b=s1.heap.objs.size:=by simpa using hb
   subst e;exact I1.v9 (cu _) (I1.hok.fresh (cu _))
  .exact q1'.elim
 |str z =>
  obtain⟨t,rfl⟩:=r1;cases ha:z.cps.all (· <128)
  .refine wpAny_pyIter_wide ha ?_;refine⟨s1.heap.objs.size,[s1.heap.objs.size],_,_,H1,rfl,I1.kept (t':=s1.toks) λb o e=>cj _ e,aaP _ z t,?_,λb hb=>?_,k _ _ H1 G1 t1 g1 af5 q1⟩
   .rw[Nat.zero_min];exact⟨_,ig _ rfl,rfl,rfl⟩
   .have e:b=s1.heap.objs.size:=by simpa using hb
    subst e;exact I1.v9 (cu _) (I1.hok.fresh (cu _))
  .refine wpAny_pyIter_ascii ha ?_;refine⟨s1.heap.objs.size,[s1.heap.objs.size],_,_,H1,rfl,I1.kept (t':=s1.toks) λb o e=>cj _ e,aaO _ z t,?_,λb hb=>?_,k _ _ H1 G1 t1 g1 af5 q1⟩
   .rw[Nat.zero_min];exact⟨_,ig _ rfl,rfl,rfl⟩
   .have e:b=s1.heap.objs.size:=by simpa using hb
    subst e;exact I1.v9 (cu _) (I1.hok.fresh (cu _))
 |@tup a vs xs hq rv =>
  cases r1;obtain⟨its,rv',p,hz⟩:=I1.tuple hq;obtain⟨sc,q1⟩:=q1;obtain⟨hG,g2⟩:=akS I1 g1 hq rv sc;refine a0l (show s1.heap.IsTuple a its.toArray from p) ?_;refine⟨s1.heap.objs.size,[s1.heap.objs.size],_,_,H1,rfl,I1.kept (t':=s1.toks) λb o e=>cj _ e,a6F a _,⟨_,ig _ rfl,rfl,rfl⟩,λb hb=>?_,k _ _ H1 _ t1 g2 arE (q1 a hG)⟩;have e:b=s1.heap.objs.size:=by simpa using hb
  subst e;exact I1.v9 (cu _) (I1.hok.fresh (cu _))
 |_=>exact q1.elim
def ay1(hg:Gl X "range")(hm:X.mg "range"=aq)(ha:PA3 X [a] ta)(hs:jt [a] X.env=[(ao,eval a X.env)]):PIS X tg (.Call (.Name "range" p) [a] [] pos) (lW ta) :=
 PI.imp (aaA hg hm ha hs) λσ H Q h=>by
 obtain⟨ρ,G,R,s,g,q,k⟩:=h;refine⟨ρ,G,_,s,g,q,λvs H1 ds G1 t1 r g1 h1=>?_⟩;cases r with
 |nil=>exact h1.elim
 |cons r rr =>
  cases rr with
  |cons _ _=>cases r<;>exact False.elim h1
  |nil =>
   cases r with
   |int j =>
    obtain⟨l1,l2,h1⟩:=h1;refine⟨j,rfl,l1,l2,k _ _ H1 G1 t1 g1 ?_ h1⟩;unfold a0M;rw[show(j - 0).toNat=j.toNat by omega];exact arF
   |_=>exact False.elim h1
abbrev eN(ti:TI3)(tg:TG3)(tb:bC):bC:=λF ρ G=>ti ρ G λsrc G1=>∃P:Nat->aN->Gp->Prop,P 0 ρ G1/\(∀k ρ G,k<=src.items.length->P k ρ G->src.ok G) /\
 (∀k d ρ G,src.items[k]?=aj d->P k ρ G->tg d ρ λρ2=>tb {F with nx:=P (k+1),ct:=P (k+1),bk:=F.nx} ρ2 G)/\∀ρ G,P src.items.length ρ G->F.nx ρ G
def aFD{ti:TI3}{tg:TG3}(hp:a2e (gk X.prog X.w) X.A X.env X.xe)(hi:PIS X tgt iter ti)(hg:PG3 X tgt tg)(hb:zO X body tb)
  (hs:∀x,a0w iter X.env x=pure x):PS3 X (.For tgt iter body [] pos) (eN ti tg tb):=PS.imp (aq0 hp hi hg hb hs) λF σ H h=>by
 obtain⟨ρ,G,E,s,g,q,d⟩:=h
 refine⟨ρ,G,λsrc G1=>∃P:Nat->aN->Gp->Prop,P 0 ρ G1/\(∀k ρ G,k<=src.items.length->P k ρ G->src.ok G) /\
  (∀k d ρ G,src.items[k]?=aj d->P k ρ G->tg d ρ λρ2=>tb {E with nx:=P (k+1),ct:=P (k+1),bk:=E.nx} ρ2 G)/\∀ρ G,P src.items.length ρ G->E.nx ρ G,s,g,q,λsrc J H1 G1 t1 g1 sj ⟨P,p0,pok,pst,pend⟩=>?_⟩
 refine aeU (K:=X.K) (n:=src.items.length) (λk σ2 H2=>∃ρ' G',SR X.K H2 ρ' σ2/\HR X.K H2 G'/\P k ρ' G') ⟨ρ,G1,s.mono t1,g1,p0⟩ (λσ2 H2 ⟨ρ',G',s2,g2,p⟩=>?_) (λk σ2 H2 hk ⟨ρ',G',s2,g2,p⟩=>?_) (λk y σ2 H2 H3 hk ⟨ρ',G',s2,g2,p⟩ hy=>?_)
  (λσ2 H2 ⟨ρ',G',s2,g2,p⟩=>d.nx ρ' G' σ2 H2 s2 g2 (pend ρ' G' p))
 .exact(sj H2 G' g2 (pok _ ρ' G' (cu _) p)).2.2
 .exact(sj H2 G' g2 (pok _ ρ' G' (vf hk) p)).1 k hk
 .obtain⟨sm,dk,e1,e2⟩:=(sj H2 G' g2 (pok _ ρ' G' (vf hk) p)).2.1 k y H3 hk hy;refine⟨ρ',dk,_,s2.mono (.same sm),e2,pst k dk ρ' G' e1 p,λρ2 σ3 s3 q3=>?_⟩;exact⟨ρ2,G',_,s3,g2.same sm,q3,⟨λρ4 G4 σ4 H4 s4 g4 q4=>⟨ρ4,G4,s4,g4,q4⟩,d.rt,d.nx,λρ4 G4 σ4 H4 s4 g4 q4=>⟨ρ4,G4,s4,g4,q4⟩⟩⟩
end
end
section
abbrev aQ8:D->Bool
 |.bl _=>ak
 |_=>ao
abbrev aQ9:D->Bool
 |.bl b=>b
 |_=>ao
abbrev aS7:List D->Gp->eV->Prop:=λxs G R=>match xs with
 |[.ref q]=>(match aQ G q with
  |some ds=>ds.all aQ8=ak/\R (.bl (ds.all aQ9)) G
  |none=>False)
 |_=>False
section
variable{X:Cx}
abbrev on2(xs:List D)(f:Int->Int->Prop):Prop:=match xs with
 |[.int i,.int j]=>f i j
 |_=>False
abbrev aC0:List D->Gp->eV->Prop:=λxs G R=>on2 xs λi j=>R (.int (if j<i then j else i)) G
abbrev aC1:List D->Gp->eV->Prop:=λxs G R=>on2 xs λi j=>R (.int (if i<j then j else i)) G
private theorem af6{K:Fg}(r:cG K H xs vs)(h:on2 xs f):∃i j,xs=[.int i,.int j]/\vs=[.int i,.int j]/\f i j:=by
 unfold on2 at h;split at h
 .rename_i i j;cases r with
  |cons r1 r =>
  cases r with
  |cons r2 r =>
  cases r;cases r1;cases r2;exact⟨i,j,rfl,rfl,h⟩
 .exact h.elim
def aLA(hc:X.calm=ak):cI X (.builtin "min") aC0:=cI.of (an6 hc) λH xs vs G R Q rx g q k=>by
 obtain⟨i,j,rfl,rfl,q'⟩:=af6 (f:=λi j=>R (.int (if j<i then j else i)) G) rx q;exact⟨i,j,rfl,λ_=>k _ H _ G (.refl H) (.int _) g q'⟩
def aLB(hc:X.calm=ak):cI X (.builtin "max") aC1:=cI.of (an5 hc) λH xs vs G R Q rx g q k=>by
 obtain⟨i,j,rfl,rfl,q'⟩:=af6 (f:=λi j=>R (.int (if i<j then j else i)) G) rx q;exact⟨i,j,rfl,λ_=>k _ H _ G (.refl H) (.int _) g q'⟩
end
end
variable{zs:List (Int×Tok)}{ns:List Int}
section
section
variable{X:Cx}{pos:Pos}
abbrev a2Z(is:List Nat)(te:cO):bC:=λF ρ G=>te ρ G λd G1=>vM is d ρ λρ2=>F.nx ρ2 G1
def aFE{k:Nat}{tp:Pos}(hg:PG3 X (.Tuple es k tp) (vM is))(he:cU X e te)(hs:swapsWithSole [.Tuple es k tp] e pos.line X.env=pure ao)(hw:swappedStores [.Tuple es k tp] e X.env=pure aq)
  (h1:(a0h [.Tuple es k tp] X.env).map (·.2)=[assign (.Tuple es k tp) X.env]):PS3 X (.Assign [.Tuple es k tp] e pos) (a2Z is te):=PS.imp (aDF he hg hs hw h1) λF σ H h=>by
 obtain⟨ρ,G,E,s,g,q,d⟩:=h;exact⟨ρ,G,_,s,g,q,λv H' x G' t1 r g1 h=>⟨ρ,x,_,s.mono t1,r,h,λρ' σ' s' q'=>d.nx ρ' G' σ' H' s' g1 q'⟩⟩
abbrev xQ(c:vD)(tb:bC):bC:=λF ρ G=>∃W:Nat->aN->Gp->Prop,(∃m,W m ρ G)/\∀m ρ G,W m ρ G->c ρ G λb G1=>if b=ak then tb {F with nx:=λρ' G'=>∃m',m'<m/\W m' ρ' G',ct:=λρ' G'=>∃m',m'<m/\W m' ρ' G',bk:=F.nx} ρ G1 else F.nx ρ G1
def ay2(hp:a2e (gk X.prog X.w) X.A X.env X.xe)(hc:PT3 X c tc)(hb:zO X body tb):PS3 X (.While c body [] pos) (xQ tc tb):=PS.imp (apY hp hc hb) λF σ H h=>by
 obtain⟨ρ,G,E,s,g,⟨W,⟨m0,w0⟩,turn⟩,d⟩:=h;refine⟨λm σ H=>∃ρ G,SR X.K H ρ σ/\HR X.K H G/\W m ρ G,⟨m0,ρ,G,s,g,w0⟩,λm σ1 H1 ⟨ρ1,G1,s1,g1,w1⟩=>⟨ρ1,G1,_,s1,g1,turn m ρ1 G1 w1,λb H2 G2 t2 g2 q2=>?_⟩⟩;cases b with
 |true =>
  rw[if_pos rfl];rw[if_pos rfl]at q2;refine⟨λσ' H'=>∃ρ' G',SR X.K H' ρ' σ'/\HR X.K H' G'/\∃m',m'<m/\W m' ρ' G',λσ' H' ⟨ρ',G',s',g',m',hm,w'⟩=>⟨m',hm,ρ',G',s',g',w'⟩,ρ1,G2,_,s1.mono t2,g2,q2,?_⟩;exact⟨λρ' G' σ' H' s' g' q'=>⟨ρ',G',s',g',q'⟩,d.rt,d.nx,λρ' G' σ' H' s' g' q'=>⟨ρ',G',s',g',q'⟩⟩
 |false=>exact d.nx _ _ _ _ (s1.mono t2) g2 (by simpa using q2)
end
def ints_of{K:Fg}:∀{ns:List Int}{vs:List V}{us:List bh},cG K H (ns.map D.int) vs->Vals vs us->∃ys:List (Int×Tok),us=ys.map (λp=>bh.int p.1 p.2)/\ys.map (·.1)=ns
 |[],_,_,r,v=>by cases r;cases v;exact⟨[],rfl,rfl⟩
 |n::ns,_,_,r,v=>by
  cases r with
  |cons h r =>
   cases h with
   |int i =>
    cases v with
    |cons hu v =>
     obtain⟨t,rfl⟩:=hu;obtain⟨ys,e1,e2⟩:=ints_of r v;exact⟨(n,t)::ys,by rw[e1];rfl,by rw[nj,e2]⟩
abbrev anT(xs:List D)(G:Gp)(P:List D->Prop)(O:Prop):Prop:=match xs with
 |[.ref q]=>(match aQ G q with
  |some ds=>P ds
  |none=>False)
 |_=>O
abbrev akT:List D->Gp->eV->Prop:=λxs G R=>anT xs G (λds=>∃ns:List Int,ds=ns.map D.int/\R (.int ns.sum) G) False
variable{s:dg}
section
variable{X:Cx}
private theorem aFF(I:Inv X pins σ H s)(rx:cG X.K H xs vs)(rv:Vals vs us)(g:HR X.K H G)
  (h:anT xs G P O):(∃a ds ys its,us=[.ref a]/\cG X.K H ds ys/\Vals ys its/\s.heap.IsList a its.toArray/\P ds)∨O:=by
 cases rx with
 |nil=>exact .inr h
 |cons r1 rr =>
  cases rr with
  |cons _ _=>cases r1<;>exact .inr h
  |nil =>
   cases r1 with
   |ref a =>
    obtain⟨u,rfl,ru⟩:=vals1 rv;cases ru
    have q':(match aQ G a with
     |some ds=>P ds
     |none=>False):=h
    split at q'
    .rename_i ds e1;obtain⟨ys,hq,r1⟩:=c7 g e1;obtain⟨its,rv',p,hz⟩:=I.list hq;exact .inl ⟨a,ds,ys,its,rfl,r1,rv',p.isList,q'⟩
    .exact q'.elim
   |_=>exact .inr h
def int_list(p:s.heap.IsList a (zs.map λp=>bh.int p.1 p.2).toArray):s.heap.IsList a (intItems zs.toArray):=by
 have:intItems zs.toArray=(zs.map λp=>bh.int p.1 p.2).toArray:=by simp[intItems]
 rw[this];exact p
def aLC(hc:X.calm=ak):cI X (.builtin "sum") akT:=by
 intro pins s σ H xs vs us G R Q I rx rv g q k;rcases aFF I rx rv g q with⟨a,ds,ys,its,rfl,r1,rv',p,ns,rfl,q'⟩|z
 .obtain⟨zs,rfl,e2⟩:=ints_of r1 rv';refine sum_intListG (I.ok.hd hc) (int_list p) λh' tk t' kk=>?_
  have e3:preSum (numAt zs.toArray) zs.toArray.size=ns.sum:=by
   rw[preSum_eq,vo (by simp)];rw[←e2]
  rw[e3];exact⟨.int _,H,I.kept kk,⟨t',rfl⟩,k _ H _ G (.refl H) (.int _) g q'⟩
 .exact z.elim
abbrev zQ:List D->Gp->eV->Prop:=λxs G R=>anT xs G (λds=>∃ns:List Int,ds=ns.map D.int/\ns≠[]/\∀M,M∈ns->(∀a∈ns,a<=M)->R (.int M) G) (aC1 xs G R)
abbrev vN:List D->Gp->eV->Prop:=λxs G R=>anT xs G (λds=>∃ns:List Int,ds=ns.map D.int/\ns≠[]/\∀M,M∈ns->(∀a∈ns,M<=a)->R (.int M) G) (aC0 xs G R)
def aiI(e2:zs.map (·.1)=ns)(h:j<zs.toArray.size):numAt zs.toArray j∈ns:=by
 rw[numAt_eq,←e2];exact getD_mem (by simpa using h)
def aiJ(e2:zs.map (·.1)=ns){a:Int}(h:a∈ns):∃j,j<zs.toArray.size/\numAt zs.toArray j=a:=by
 rw[←e2]at h;obtain⟨j,hj,rfl⟩:=mem_getD h;exact⟨j,by simpa using hj,by rw[numAt_eq]⟩
def aFG(hc:X.calm=ak):cI X (.builtin "max") zQ:=by
 intro pins s σ H xs vs us G R Q I rx rv g q k;rcases aFF I rx rv g q with⟨a,ds,ys,its,rfl,r1,rv',p,ns,rfl,hne,q'⟩|z
 .obtain⟨zs,rfl,e2⟩:=ints_of r1 rv'
  have hsz:0<zs.toArray.size:=by
   cases zs with
   |nil=>exact absurd e2.symm hne
   |cons _ _=>simp
  refine max_intList (I.ok.hd hc) (int_list p) hsz λv h' tk hv kk=>?_;obtain⟨t,rfl⟩:=intItems_at hv;obtain⟨h1,h2⟩:=argBest_gt (numAt zs.toArray) (zs.toArray.size - 1);refine⟨.int _,H,I.kept kk,⟨t,rfl⟩,k _ H _ G (.refl H) (.int _) g (q' _ (aiI e2 (by omega)) λa ha=>?_)⟩;obtain⟨j,hj,rfl⟩:=aiJ e2 ha;exact h2 j (by omega)
 .exact aLB hc pins s σ H _ vs us G R Q I rx rv g z k
def aFH(hc:X.calm=ak):cI X (.builtin "min") vN:=by
 intro pins s σ H xs vs us G R Q I rx rv g q k;rcases aFF I rx rv g q with⟨a,ds,ys,its,rfl,r1,rv',p,ns,rfl,hne,q'⟩|z
 .obtain⟨zs,rfl,e2⟩:=ints_of r1 rv'
  have hsz:0<zs.toArray.size:=by
   cases zs with
   |nil=>exact absurd e2.symm hne
   |cons _ _=>simp
  refine min_intList (I.ok.hd hc) (int_list p) hsz λv h' tk hv kk=>?_;obtain⟨t,rfl⟩:=intItems_at hv;obtain⟨h1,h2⟩:=argBest_lt (numAt zs.toArray) (zs.toArray.size - 1);refine⟨.int _,H,I.kept kk,⟨t,rfl⟩,k _ H _ G (.refl H) (.int _) g (q' _ (aiI e2 (by omega)) λa ha=>?_)⟩;obtain⟨j,hj,rfl⟩:=aiJ e2 ha;exact h2 j (by omega)
 .exact aLA hc pins s σ H _ vs us G R Q I rx rv g z k
end
end
section
abbrev ok2(G:Gp)(x y:D):Bool:=match x,y with
 |.ref p,.ref q=>(match aQ G p,aQ G q with
  |some xs,aj ys=>xs.all (bB 17)&&ys.all (bB 17)
  |_,_=>ao)
 |x,y=>bB 18 x&&bB 18 y
abbrev eq2(G:Gp)(x y:D):Bool:=match x,y with
 |.ref p,.ref q=>(match aQ G p,aQ G q with
  |some xs,aj ys=>fV xs ys
  |_,_=>ao)
 |x,y=>eqP x y
abbrev aFI(G:Gp):List D->List D->Bool
 |x::xs,y::ys=>ok2 G x y&&aFI G xs ys
 |_,_=>ak
abbrev aFJ(G:Gp):List D->List D->Bool
 |[],[]=>ak
 |x::xs,y::ys=>eq2 G x y&&aFJ G xs ys
 |_,_=>ao
section
abbrev aLD(G:Gp)(x y:D)(k:Bool->Prop):Prop:=match x,y with
 |.tup xs,.tup ys=>aFI G xs ys=ak/\k (aFJ G xs ys)
 |.ref a,.ref b=>(match aQ G a,aQ G b with
  |some xs,aj ys=>aFI G xs ys=ak/\k (aFJ G xs ys)
  |_,_=>False)
 |_,_=>False
abbrev aLE:R3:=λx y G R=>aLD G x y λb=>R (.bl b) G
abbrev aLF:R3:=λx y G R=>aLD G x y λb=>R (.bl (!b)) G
abbrev akU(x:D)(G:Gp)(f:bx->List D->Prop):Prop:=match x with
 |.ref p=>(match G p with
  |some (.lst ds)=>f p ds
  |_=>False)
 |_=>False
private theorem arG{K:Fg}{x:D}(rx:RD K H x vx)(g:HR K H G)(h:akU x G f):∃p ds xs,x=.ref p/\vx=.ref p/\G p=aj (.lst ds)/\H p=aj (.lst xs)/\cG K H ds xs/\f p ds:=by
 unfold akU at h;split at h
 .rename_i p;split at h
  .rename_i ds e;cases rx;obtain⟨xs,e1,r⟩:=g p _ e;exact⟨p,ds,xs,rfl,rfl,e,e1,r,h⟩
  .exact h.elim
 .exact h.elim
end
end
section
section
end
end
section
abbrev aC2(f:Str)(d:D):List (Str×D)->List (Str×D)
 |[]=>[(f,d)]
 |(g,x)::r=>if g=f then(g,d)::r else(g,x)::aC2 f d r
section
variable{f:Str}{C:bx}{ta tv:cO}
abbrev aLG(C:bx)(f:Str)(x y:D)(F:cR)(ρ:aN)(G:Gp):Prop:=match x with
 |.ref a=>(match G a with
  |some (.ins C' fs)=>C'=C/\fs.length<1000/\F.nx ρ (aM G a (.ins C (aC2 f y fs)))
  |_=>False)
 |_=>False
abbrev aFK(C:bx)(ta tv:cO)(f:Str):bC:=λF ρ G=>tv ρ G λy G1=>ta ρ G1 λx G2=>aLG C f x y F ρ G2
end
section
end
end
variable{l:bx}{ch:List bx}{t' kt:Nat}{SJ:Hp->Src->It->Prop}
section
section
variable{X:Cx}{pins:List (bx×Obj)}{σ:St}{H:Hp}{s:dg}{h':jf}
def Inv.a0P(I:Inv X pins σ H s)(k:∀b u,b∉ch->s.heap.get? b=aj u->h'.get? b=aj u)(hc:∀b∈ch,mD X pins H b):Inv X pins σ H {s with heap:=h',toks:=t' }:=by
 have nit:∀b u,H b=aj u->b∉ch:=λb u e z=>by rw[(hc b z).1]at e;cases e
 refine I.step (g':=s.gens) (d':=s.drawn) (ch:=ch) (λb hb=>?_) (λb o _ _ hn e _=>k b o hn e) (λb o _ _ hn e _=>⟨o.slots,k b o hn e⟩) (λ_ _ _ _ n=>n) (λb o hn e=>⟨o,k b o hn e⟩) (λ_ _ e=>e) (λ_ _ _ e=>e) (λb ps e=>⟨#[],by rw[e];simp⟩) (λm hm=>?_) (λb u e=>?_) I.bare
 .obtain⟨_,f1,_,f3,f4,f5⟩:=hc b hb;exact⟨f3,f1,f4,f5⟩
 .obtain⟨o,es,ep,ho,r⟩:=hm;exact⟨o,es,ep,k _ o (λz=>(hc _ z).2.1 rfl) ho,r⟩
 .refine(I.hok b u e).stay (λc v hcc q=>k c v ?_ q) (λ_ q=>q) λ_ _ q=>q;rcases hcc with z|z
  .rw[z];exact nit b u e
  .exact nit c _ z
def Inv.xR{a:bx}{o:HO}(I:Inv X pins σ H s)(k:∀b u,b∉ch->s.heap.get? b=aj u->h'.get? b=aj u)(hc:∀b∈ch,mD X pins H b)(ha:s.heap.objs.size<=a)(new:dM X.prog X.w (upd H a o) h' a o):Inv X pins σ (upd H a o) {s with heap:=h',toks:=t' }:=by
 have nit:∀b u,H b=aj u->b∉ch:=λb u e z=>by rw[(hc b z).1]at e;cases e
 have fr:H a=aq:=I.hok.fresh ha;have sn:Same H (upd H a o):=bV fr;have na:∀b u,s.heap.get? b=aj u->b≠a:=λb u e z=>absurd (jj (gV e) (z ▸ ha)) (wz _);refine I.step (g':=s.gens) (d':=s.drawn) (ch:=ch) (λb hb=>?_) (λb o _ _ hn e _=>k b o hn e) (λb o _ _ hn e _=>⟨o.slots,k b o hn e⟩) (λb u _ e n=>by rw[aP (na b u e)];exact n) (λb o hn e=>⟨o,k b o hn e⟩) (λb xs e=>sn _ _ e) (λb o u e=>sn _ _ e) (λb ps e=>⟨#[],by rw[sn _ _ e];simp⟩) (λm hm=>?_) (λb u e=>?_) I.bare
 .obtain⟨_,f1,_,f3,f4,f5⟩:=hc b hb;exact⟨f3,f1,f4,f5⟩
 .obtain⟨o,es,ep,ho,r⟩:=hm;exact⟨o,es,ep,k _ o (λz=>(hc _ z).2.1 rfl) ho,r⟩
 .by_cases hb:b=a
  .subst hb;rw[aL]at e;cases e;exact new
  .rw[aP hb]at e;refine(I.hok b u e).stay (λc v hcc q=>k c v ?_ q) (λ_ q=>sn _ _ q) λ_ _ q=>sn _ _ q;rcases hcc with z|z
   .rw[z];exact nit b u e
   .exact nit c _ z
end
abbrev Itz(K:Fg)(a b:bx):It :=
 ⟨λi H=>∃xs ys x y,qK K H a xs/\qK K H b ys/\xs[i]?=aj x/\ys[i]?=aj y,
  λi H v H'=>∃p x y,H p=aq/\v=.ref p/\H'=upd H p (.tup [x,y])/\(∀xs,qK K H a xs->xs[i]?=aj x)/\∀ys,qK K H b ys->ys[i]?=aj y,
  λi H=>∃xs ys,qK K H a xs/\qK K H b ys/\(xs.length<=i∨ys.length<=i)⟩
abbrev aLH(z TI TO i1 i2 l1 l2:bx)(i:Nat)(h:jf):Prop:=IsZip h z TI TO .none/\IsPair h TI (.ref i1) (.ref i2)/\(∃a b,IsPair h TO a b)/\h.IsListIter i1 l1 i/\h.IsListIter i2 l2 i
def arH{K:Fg}{pt:Pos}{TI TO:bx}(D:ZipApart z TI TO i1 i2 l1 l2):Turn ak tl P w K (.Tuple es kt pt) (Itz K l1 l2) [z,TI,TO,i1,i2] z (aLH z TI TO i1 i2 l1 l2) where
 mem:=by simp
 obj:=λi h st b hb=>by
  obtain⟨hz,hTI,⟨a,c,hTO⟩,⟨o1,e1,_,d1⟩,⟨o2,e2,_,d2⟩⟩:=st;simp only[iy,ug,or_false]at hb;rcases hb with rfl|rfl|rfl|rfl|rfl
  .exact⟨_,hz,λv z=>nomatch z⟩
  .exact⟨_,hTI,λv z=>nomatch z⟩
  .exact⟨_,hTO,λv z=>nomatch z⟩
  .exact⟨o1,e1,λv z=>by rw[d1]at z;cases z⟩
  .exact⟨o2,e2,λv z=>by rw[d2]at z;cases z⟩
 keep:=λi h h' st k=>by
  obtain⟨hz,hTI,⟨a,c,hTO⟩,s1,s2⟩:=st;exact⟨k z (by simp) _ hz,k TI (by simp) _ hTI,⟨a,c,k TO (by simp) _ hTO⟩,s1.at λo e=>k i1 (by simp) o e,s2.at λo e=>k i2 (by simp) o e⟩
 item:=by
  intro X hP hw hK hcm ht i pins s σ H E I hf st hg;subst hP hw hK;obtain⟨hz,hTI,⟨a,c,hTO⟩,s1,s2⟩:=st;obtain⟨xs,ys,x,y,q1,q2,e1,e2⟩:=hg;obtain⟨us,r1,p1,_⟩:=I.list q1;obtain⟨ws,r2,p2,_⟩:=I.list q2;obtain⟨u,hu,ru⟩:=r1.get e1;obtain⟨v,hv,rv⟩:=r2.get e2;have fr:=I.hok.fresh (cu s.heap.objs.size);have lt:∀{c o},s.heap.get? c=aj o->s.heap.objs.size≠c:=λe=>yg (gV e);have n1:s.heap.objs.size≠i1:=by obtain⟨_,e,_⟩:=s1;exact lt e
  have n2:s.heap.objs.size≠i2:=by obtain⟨_,e,_⟩:=s2;exact lt e
  refine wpAny_pyNext_zip_item D hz hTI hTO s1 s2 p1.isList p2.isList (x:=u) (y:=v) (by simpa using hu) (by simpa using hv) λh' a1 a2 a3 a4 a5 a6 kk=>?_;refine⟨_,rfl,wpAny_letOwnedTupleGo_zip (s:={s with heap:=h' }) a1 λh2 b1 sb=>?_⟩
  have k2:∀b o,b∉[z,TO,i1,i2]->s.heap.get? b=aj o->h2.get? b=aj o:=λb o hb e =>
   sb.extBut _ _ (λq=>hb (by simp[q])) (kk b o (λq=>hb (by simp[q])) (λq=>hb (by simp[q])) (λq=>hb (by simp[q])) (λq=>hb (by simp[q])) e)
  have sub:∀b∈[z,TO,i1,i2],b∈[z,TI,TO,i1,i2]:=λb hb=>by
   simp only[iy,ug,or_false]at hb ⊢;rcases hb with e|e|e|e<;>simp[e]
  refine⟨.ref s.heap.objs.size,upd H s.heap.objs.size (.tup [x,y]),I.xR (t':=s.toks) (ch:=[z,TO,i1,i2]) k2 (λb hb=>hf b (sub b hb)) (cu _) ⟨show 2<=dh by decide,[u,v],.cons ru (.cons rv .nil),⟨_,sb.extBut _ _ (lt hz) a5,rfl,_,rfl⟩⟩,rfl,
   ⟨_,x,y,fr,rfl,rfl,λxs' q=>by rw[I.a05 q q1];exact e1,λys' q=>by rw[I.a05 q q2];exact e2⟩,
   ⟨b1,sb.extBut _ _ D.TIz (kk _ _ D.TIz D.TITO D.TIi1 D.TIi2 hTI),⟨_,_,sb.extBut _ _ D.TOz a2⟩,a3.extBut sb.extBut D.i1z,a4.extBut sb.extBut D.i2z⟩,λb hb=>?_⟩
  have hb2:=hb;simp only[iy,ug,or_false]at hb2;rw[aP]
  .exact(hf b hb).1
  .intro q;rcases hb2 with e|e|e|e|e
   .exact lt hz (q.symm.trans e)
   .exact lt hTI (q.symm.trans e)
   .exact lt hTO (q.symm.trans e)
   .exact n1 (q.symm.trans e)
   .exact n2 (q.symm.trans e)
 done:=by
  intro X hP hw hK hcm ht i pins s σ H E I hf st hg;subst hP hw hK;obtain⟨hz,hTI,⟨a,c,hTO⟩,s1,s2⟩:=st;obtain⟨xs,ys,q1,q2,le⟩:=hg;obtain⟨us,r1,p1,_⟩:=I.list q1;obtain⟨ws,r2,p2,_⟩:=I.list q2;have l1:=r1.length;have l2:=r2.length
  have sub:∀b∈[z,TO,i1,i2],b∈[z,TI,TO,i1,i2]:=λb hb=>by
   simp only[iy,ug,or_false]at hb ⊢;rcases hb with e|e|e|e<;>simp[e]
  refine wpAny_pyNext_zip_end (I.ok.hd (hcm rfl)) D hz hTI hTO s1 s2 p1.isList p2.isList (le.elim (λq=>.inl (by simp;omega)) λq=>.inr (by simp;omega)) λh' kk=>⟨rfl,?_⟩;exact I.a0P (t':=s.toks) (ch:=[z,TO,i1,i2]) (λb o hb e=>kk b o (λq=>hb (by simp[q])) (λq=>hb (by simp[q])) (λq=>hb (by simp[q])) (λq=>hb (by simp[q])) e) λb hb=>hf b (sub b hb)
 self:=λ_ _ _ _ _ st h=>wpAny_pyIter_zip st.1 h
def ay3{i:Nat}{x:D}(h1:xs[i]?=aj x)(h2:ys[i]?=aj y):(prs xs ys)[i]?=aj (.tup [x,y]):=by
 unfold prs;rw[kj,(a2a (z:=(x,y))).mpr ⟨h1,h2⟩];rfl
def ay4{xs ys:List D}:(prs xs ys).length=min xs.length ys.length:=by simp[prs]
variable{q:bx}
def af7{K:Fg}:a2W K H1 (.zip p q xs ys) (Itz K p q):=λH2 G2 t g ok=>by
 obtain⟨ok1,ok2⟩:aQ G2 p=aj xs/\aQ G2 q=aj ys:=ok;obtain⟨vs,hq1,rv1⟩:=c7 g ok1;obtain⟨ws,hq2,rv2⟩:=c7 g ok2;have l1:=rv1.length;have l2:=rv2.length;have hl:(Src.zip p q xs ys).items.length=min xs.length ys.length:=ay4;refine⟨λi hi=>?_,λi v H' hi hy=>?_,⟨vs,ws,hq1,hq2,by rw[hl];omega⟩⟩
 .rw[hl]at hi;obtain⟨x,e1,_⟩:=rv1.get (cg (show i<xs.length by omega));obtain⟨y,e2,_⟩:=rv2.get (cg (show i<ys.length by omega));exact⟨vs,ws,x,y,hq1,hq2,e1,e2⟩
 .obtain⟨a,x,y,fr,rfl,rfl,h1,h2⟩:=hy;obtain⟨d1,e1,f1⟩:=rv1.aeR (h1 vs hq1);obtain⟨d2,e2,f2⟩:=rv2.aeR (h2 ws hq2);have sn:Same H2 (upd H2 a (.tup [x,y])):=bV fr;exact⟨sn,.tup [d1,d2],ay3 e1 e2,.tup (oG.of aL) (.cons (f1.mono (.same sn)) (.cons (f2.mono (.same sn)) .nil)) (aeQ aL)⟩
def arI{K:Fg}:a0O K (.zip p q xs ys) (Itz K p q):=λH2 G2 g ok=>af7 (H1:=H2) H2 G2 (.refl _) g ok
abbrev a4B(ta:qM):TI3:=λρ G R=>ta ρ G λxs G1=>match xs with
 |[.ref p,.ref q]=>(match aQ G1 p,aQ G1 q with
  |some xs,aj ys=>R (.zip p q xs ys) G1
  |_,_=>False)
 |_=>False
variable{b:jc}
section
variable{X:Cx}{es:List jc}{kt:Nat}{pt:Pos}
private theorem arJ{a:jc}{ta:qM}{p:Pos}(hc:X.calm=ak)(hg:Gl X "zip")(hm:X.mg "zip"=aq)(hv:jw "zip"=aj (.type "zip"))(ha:PA3 X [a,b] ta)(hs:jt [a,b] X.env=[(ao,eval a X.env),(ao,eval b X.env)])(hs2:jt [b] X.env=[(ao,eval b X.env)])
  (hSJ:∀H p q xs ys,SJ H (.zip p q xs ys) (Itz X.K p q)):PI X (.Tuple es kt pt) (.Call (.Name "zip" p) [a,b] [] pos) (λσ H Q=>∃ρ G R,SR X.K H ρ σ/\HR X.K H G/\a4B ta ρ G R/\∀src J H' G',Ts H H'->HR X.K H' G'->SJ H' src J->R src G'->Q J H'):=by
 intro pins s σ H R I h _tk;obtain⟨ρ,G,R3,sr,g,q,k⟩:=h
 refine Call_ (sI I hg hm hv (PyProof.Rows.callWith_type1 (cY (ha pos pins s σ H (λvs H1=>Ts H H1/\∃ds G1,cG X.K H1 ds vs/\HR X.K H1 G1/\(match ds with
  |[.ref p,.ref q]=>(match aQ G1 p,aQ G1 q with
   |some xs,aj ys=>R3 (.zip p q xs ys) G1
   |_,_=>False)
  |_=>False)) I ⟨ρ,G,_,sr,g,q,λvs H1 ds G1 t1 r1 g1 q1=>⟨t1,ds,G1,r1,g1,q1⟩⟩) λus s1 ⟨vs,H1,I1,rr,t1,ds,G1,r1,g1,q1⟩=>?_) (by rw[hs,hs2]) (by rw[hs2];rfl)))
 split at q1
 .rename_i l1 l2;split at q1
  .rename_i xs ys e1 e2;cases r1 with
   |cons ra rb =>
    cases rb with
    |cons rb rc =>
     cases rc;cases ra;cases rb;cases rr with
     |cons ra rb =>
      cases rb with
      |cons rb rc =>
       cases rc;cases ra;cases rb;obtain⟨zs1,hz1,_⟩:=c7 g1 e1;obtain⟨zs2,hz2,_⟩:=c7 g1 e2;obtain⟨u1,_,p1,_⟩:=I1.list hz1;obtain⟨u2,_,p2,_⟩:=I1.list hz2;have a1:l1<s1.heap.objs.size:=by obtain⟨_,e,_⟩:=p1.isList;exact gV e
       have a2:l2<s1.heap.objs.size:=by obtain⟨_,e,_⟩:=p2.isList;exact gV e
       refine call_zip_2 p1.isList p2.isList λh' hz hTI hTO hi1 hi2 hsz kk=>wpAny_pyIter_zip (s:={s1 with heap:=h' }) hz ?_;have up:∀j,s1.heap.objs.size<=s1.heap.objs.size+j:=λj=>a1b _ j;refine⟨_,_,_,_,H1,rfl,I1.kept (t':=s1.toks) kk,(show Turn X.calm X.tp X.prog X.w X.K (.Tuple es kt pt) _ _ _ _ from hc ▸ arH (zipApart_new a1 a2)),⟨hz,hTI,⟨_,_,hTO⟩,hi1,hi2⟩,λb hb=>?_,k _ _ H1 G1 t1 g1 (hSJ H1 l1 l2 xs ys) q1⟩
       have hb':s1.heap.objs.size<=b:=by
        simp only[iy,ug,or_false]at hb;rcases hb with e|e|e|e|e<;>rw[e]
        .exact up 4
        .exact up 2
        .exact up 3
        .exact cu _
        .exact up 1
       exact I1.v9 hb' (I1.hok.fresh hb')
  .exact q1.elim
 .exact q1.elim
def aLJ(hc:X.calm=ak)(hg:Gl X "zip")(hm:X.mg "zip"=aq)(hv:jw "zip"=aj (.type "zip"))(ha:PA3 X [a,b] ta)(hs:jt [a,b] X.env=[(ao,eval a X.env),(ao,eval b X.env)])(hs2:jt [b] X.env=[(ao,eval b X.env)]):PI3 X (.Tuple es kt pt) (.Call (.Name "zip" p) [a,b] [] pos) (a4B ta) :=
 arJ (SJ:=a2W X.K) hc hg hm hv ha hs hs2 λ_ _ _ _ _=>af7
def aFL(hc:X.calm=ak)(hg:Gl X "zip")(hm:X.mg "zip"=aq)(hv:jw "zip"=aj (.type "zip"))(ha:PA3 X [a,b] ta)(hs:jt [a,b] X.env=[(ao,eval a X.env),(ao,eval b X.env)])(hs2:jt [b] X.env=[(ao,eval b X.env)]):PIS X (.Tuple es kt pt) (.Call (.Name "zip" p) [a,b] [] pos) (a4B ta) :=
 arJ (SJ:=λ_=>a0O X.K) hc hg hm hv ha hs hs2 λ_ _ _ _ _=>arI
end
variable{s:dg}
section
variable{prog:ju}{w:jq}{A:jr}{n:Nat}{St:Nat->jf->Prop}
def arK(W:Walks prog w A.in1 I fp wr n P St)(bt:Nat->Nat->Bool)(hcmp:CmpOf prog w A.in1 .Gt P bt)(S:bx)(hSf:S∉fp):∀(k j:Nat)(s:dg)(vb:bh)(c:Nat),n - (j+1)=k->j+1<=n->St (j+1) s.heap->P (argBest bt j) vb ->
   s.heap.get? S=aj {cls:=.type "list",dict:=none,data:=.seq #[vb,vb] c,slots:=#[]}->(∀v h' tk,P (argBest bt (n - 1)) v->(∀b o,b∉wr->b≠S->s.heap.get? b=aj o->h'.get? b=aj o)->R (.ok (.ret v)) {s with heap:=h',toks:=tk}) ->
   zm (gk prog w) A (.builtin "max.loop" ⟨[.ref I,.none,.ref S],kw⟩) R s:=by
 have nw:S∉wr:=λh=>hSf (W.sub _ h);have nm:(toString "max"++toString ".loop":String)="max.loop":=by decide
 intro k;induction k with
 |zero =>
  intro j s vb c hk hj hst hb hS hR;have hn:j+1=n:=by omega
  refine xu F.entry_max_loop ?_;rw[jr.under_plainId F.plain_max_loop _];show dj _ A.in1 (a1g (.ref S) >>= _) _ _ s;refine au (xq hS rfl ?_);show dj _ A.in1 (tryCatch (yt (.ref I)) _ >>= _) _ _ s;refine au (yj (W.done s _ _ (hn ▸ hst) λh' tk hk'=>?_));have z:=hk' S _ nw hS;show dj _ A.in1 (updateSeq S (λ_=>#[]) >>= _) _ _ _;refine au ?_;refine a1k z rfl (au (yu (dw (hR vb _ tk (by rw[←hn];exact hb) λb o h1 h2 e=>?_))));exact(qb _ _ (Ne.symm h2)).trans (hk' b o h1 e)
 |succ k ih =>
  intro j s vb c hk hj hst hb hS hR;have hn:j+1<n:=by omega
  refine xu F.entry_max_loop ?_;rw[jr.under_plainId F.plain_max_loop _];show dj _ A.in1 (a1g (.ref S) >>= _) _ _ s;refine au (xq hS rfl ?_);show dj _ A.in1 (tryCatch (yt (.ref I)) _ >>= _) _ _ s;refine au (yj (W.item (j+1) s _ _ hn hst λv h' tk hP hst' hk'=>?_));have z:=hk' S _ nw hS;show dj _ A.in1 (tryCatch (holding [v,v] (a1v .Gt v vb >>= _)) _ >>= _) _ _ _;refine au (yj (vq (au (hcmp (j+1) (argBest bt j) v vb _ _ _ hP hb ?_))));refine au (vq (uw (au (yu (dw ?_)))));cases e:bt (j+1) (argBest bt j)with
  |true =>
   simp only[if_true];refine au ?_;refine a1k z rfl (au (yu ?_));rw[nm];refine dw ⟨yw F.plain_max_loop _,ih (j+1) _ v _ (by omega) hn (W.frame _ _ _ hst' λb hbf o e=>?_) (by simp only[argBest,e,if_true];exact hP) (yd _ z rfl) λv' h2 tk2 hP' hk2=>hR v' h2 tk2 hP' λb o h1 h3 e=>?_⟩
   .exact(qb _ _ (λh:S=b=>hSf (by rw[h];exact hbf))).trans e
   .exact hk2 b o h1 h3 ((qb _ _ (Ne.symm h3)).trans (hk' b o h1 e))
  |false =>
   simp only[qw,if_false];refine au (yu ?_);rw[nm];refine dw ⟨yw F.plain_max_loop _,ih (j+1) _ vb c (by omega) hn hst' (by simp only[argBest,e,qw,if_false];exact hb) z λv' h2 tk2 hP' hk2=>hR v' h2 tk2 hP' λb o h1 h3 e=>hk2 b o h1 h3 (hk' b o h1 e)⟩
def anU(W:Walks prog w A.in1 I fp wr n P St)(bt:Nat->Nat->Bool)(hcmp:CmpOf prog w A.in1 .Gt P bt)(S:bx)(hSf:S∉fp){c:Nat}{kn:Str}(hst:St 0 s.heap)(hS:s.heap.get? S=aj {cls:=.type "list",dict:=none,data:=.seq #[] c,slots:=#[]})
  (h0:n=0->∀h' tk,(∀b o,b∉wr->b≠S->s.heap.get? b=aj o->h'.get? b=aj o)->R (.ok (.ret d)) {s with heap:=h',toks:=tk})
  (hR:0<n->∀v h' tk,P (argBest bt (n - 1)) v->(∀b o,b∉wr->b≠S->s.heap.get? b=aj o->h'.get? b=aj o)->R (.ok (.ret v)) {s with heap:=h',toks:=tk}) :
  zm (gk prog w) A (.builtin "max.loop" ⟨[.ref I,.none,.ref S],(kn,d)::kr⟩) R s:=by
 have nw:S∉wr:=λh=>hSf (W.sub _ h);have nm:(toString "max"++toString ".loop":String)="max.loop":=by decide
 refine xu F.entry_max_loop ?_;rw[jr.under_plainId F.plain_max_loop _];show dj _ A.in1 (a1g (.ref S) >>= _) _ _ s;refine au (xq hS rfl ?_);show dj _ A.in1 (tryCatch (yt (.ref I)) _ >>= _) _ _ s;by_cases hn:0<n
 .refine au (yj (W.item 0 s _ _ hn hst λv h' tk hP hst' hk'=>?_));have z:=hk' S _ nw hS;show dj _ A.in1 (updateSeq S (λ_=>#[v,v]) >>= _) _ _ _;refine au ?_;refine a1k z rfl ?_;rw[nm];refine dw ⟨yw F.plain_max_loop _,arK W bt hcmp S hSf _ 0 _ v _ rfl hn (W.frame _ _ _ hst' λb hbf o e=>?_) hP (yd _ z rfl) λv' h2 tk2 hP' hk2=>hR hn v' h2 tk2 hP' λb o h1 h3 e=>?_⟩
  .exact(qb _ _ (λh:S=b=>hSf (by rw[h];exact hbf))).trans e
  .exact hk2 b o h1 h3 ((qb _ _ (Ne.symm h3)).trans (hk' b o h1 e))
 .have n0:n=0:=by omega
  refine au (yj (W.done s _ _ (by rw[n0];exact hst) λh' tk hk'=>?_));exact au (a1h (dw (h0 n0 h' tk λb o h1 _ e=>hk' b o h1 e)))
end
def arL(a v:bh):argsOk "max" ⟨[a],[(Str.ofString "default",v)]⟩:=by unfold argsOk;nofun
def arM{xs:Array (Int×Tok)}(hh:A.handled=aq)(hl:s.heap.IsList l (intItems xs))
  (h0:xs.size=0->∀h' tk,(∀b o,s.heap.get? b=aj o->h'.get? b=aj o)->Q d {s with heap:=h',toks:=tk})
  (h:0<xs.size->∀v h' tk,(intItems xs)[argBest (λi j=>decide (numAt xs i>numAt xs j)) (xs.size - 1)]?=aj v->(∀b o,s.heap.get? b=aj o->h'.get? b=aj o)->Q v {s with heap:=h',toks:=tk}) :
  dj (gk prog w) A (call (.builtin "max") [.ref l] [(Str.ofString "default",d)]) Q E s:=by
 have nm:(toString "max"++toString ".loop":String)="max.loop":=by decide
 have sz:(intItems xs).size=xs.size:=by simp[intItems]
 refine kmk_tree F.kind_max F.plain_max F.entry_max (arL _ _) ?_;show dj _ A.in1 (Builtin.Builtins.bindParams "max" ["key","default"] 0 ⟨[],[(Str.ofString "default",d)]⟩ >>= _) _ _ s;refine au (wpAny_of_eq (show Builtin.Builtins.bindParams "max" ["key","default"] 0 ⟨[],[(Str.ofString "default",d)]⟩=pure [aq,aj d]from rfl) ?_);refine au (dw (au (iter_intList hl λs₂ e st hfp hlI=>?_)));subst e;refine au (qg ?_);rw[nm];have W:=Walks.list (prog:=prog) (w:=w) (A:=A.in1) hh s.heap.objs.size l hlI (intItems xs);refine dw ⟨yw F.plain_max_loop _,anU W _ (CmpOf.ints_gt (numAt xs) (λ_ _=>intItems_at)) _ (λhm=>wz _ (hfp _ hm)) (W.frame _ _ _ st λb _ o e=>cj _ e) (ig _ rfl) (λn0 h' tk hk=>?_) λn0 v h' tk hP hk=>?_⟩
 .refine h0 (by rw[←sz];exact n0) h' tk (old_kept (l:=l) λb o hbw e=>hk b o hbw (jg (gV e)) (cj _ e))
 .refine h (by rw[←sz];exact n0) v h' tk (by rw[sz]at hP;exact hP) (old_kept (l:=l) λb o hbw e=>hk b o hbw (jg (gV e)) (cj _ e))
abbrev vO(x d:D)(G:Gp)(R:eV):Prop:=match x with
 |.ref p=>(match aQ G p with
  |some ds=>∃ns:List Int,ds=ns.map D.int/\(ns=[]->R d G)/\∀M,M∈ns->(∀a∈ns,a<=M)->R (.int M) G
  |none=>False)
 |_=>False
abbrev akV(te td:cO):cO:=λρ G R=>te ρ G λx G1=>td ρ G1 λd G2=>vO x d G2 R
section
variable{X:Cx}{x:Str}{pos kp:Pos}
private theorem aFM(hc:X.calm=ak)(hg:Gl X x)(hm:X.mg x=aq)(hv:jw x=aj (.builtin "max"))(he:cU X e te)(hd:cU X d td)(hn:x≠"__name__")(hdb:(x==("__debug__":Str))=ao)
  (hs:jt [e] X.env=[(ao,eval e X.env)]):cU X (.Call (.Name x p) [e] [⟨aj "default",d,kp⟩] pos) (akV te td):=by
 intro pins s σ H Q I h _tk;obtain⟨ρ,G,R,sr,g,q,kk⟩:=h;refine a0m (sI I hg hm hv ?_ hn hdb)
 have hA:=(dN he u6 (by rw[hs];rfl)) pos pins s σ H (λvs H1=>Ts H H1/\∃ds G1,cG X.K H1 ds vs/\HR X.K H1 G1/\(match ds with
  |[y]=>td ρ G1 λd G2=>vO y d G2 R
  |_=>False)) I ⟨ρ,G,(λds G1=>match ds with
  |[y]=>td ρ G1 λd G2=>vO y d G2 R
  |_=>False),sr,g,q,λvs H1 ds G1 t1 r1 g1 q1=>⟨t1,ds,G1,r1,g1,q1⟩⟩
 refine callWith_kw (cY hA λus s1 ⟨vs,H1,I1,rr,t1,ds,G1,r1,g1,q1⟩=>?_) (by rw[hs];rfl) (by rw[hs];rfl) rfl rfl;split at q1
 .rename_i y;cases r1 with
  |@cons _ vy _ _ ry rn =>
   cases rn;cases rr with
   |@cons _ uy _ _ ru rn =>
    cases rn;refine cY (akD (nm:=some "default") (kpos:=kp) hd aq6 pos pins s1 σ H1 (λzs H2=>Ts H H2/\Ts H1 H2/\∃z G2 dz,zs=[z]/\RD X.K H2 dz z/\HR X.K H2 G2/\vO y dz G2 R) I1 ⟨ρ,G1,_,sr.mono t1,g1,q1,λv H2 dz G2 t2 r2 g2 q2=>⟨t1.trans t2,t2,v,G2,dz,rfl,r2,g2,q2⟩⟩) λkvs s2 ⟨zs,H2,I2,rz,tt,t2,z,G2,dz,e,r2,g2,q2⟩=>?_;subst e;cases rz with
    |@cons _ kv _ _ rk rn =>
     cases rn;show dj _ _ (call (.builtin "max") [uy] [(Str.ofString "default",kv)]) _ _ s2;unfold vO at q2;split at q2
     .rename_i l;split at q2
      .rename_i ds e1;obtain⟨ns,rfl,h0,h1⟩:=q2;cases ry;cases ru;obtain⟨ys,hq,r3⟩:=c7 g2 e1;obtain⟨its,rv',pl,_⟩:=I2.list hq;obtain⟨zs,rfl,e2⟩:=ints_of r3 rv';refine arM (I2.ok.hd hc) (int_list pl.isList) (λn0 h' tk kp=>?_) λn0 v h' tk hv kp=>?_
       .have:ns=[]:=by
         rw[←e2];cases zs with
         |nil=>rfl
         |cons _ _=>simp at n0
        exact⟨z,H2,I2.kept kp,rk,kk _ H2 _ G2 tt r2 g2 (h0 this)⟩
       .obtain⟨t,rfl⟩:=intItems_at hv;obtain⟨_,h2⟩:=argBest_gt (numAt zs.toArray) (zs.toArray.size - 1);refine⟨.int _,H2,I2.kept kp,⟨t,rfl⟩,kk _ H2 _ G2 tt (.int _) g2 (h1 _ (aiI e2 (by omega)) λa ha=>?_)⟩;obtain⟨j,hj,rfl⟩:=aiJ e2 ha;exact h2 j (by omega)
      .exact q2.elim
     .exact q2.elim
 .exact q1.elim
end
end
variable{x:List Key×bx×bh}
section
abbrev aLK:D->Option Key
 |.int i=>aj (.inl i)
 |.str x=>aj (.inr x)
 |_=>aq
abbrev arN:List D->Option (List Key)
 |[]=>aj []
 |d::r=>match aLK d,arN r with
  |some k,aj ks=>aj (k::ks)
  |_,_=>aq
abbrev a9N:D->Option DK
 |.int i=>aj (.inl (.inl i))
 |.str x=>aj (.inl (.inr x))
 |_=>aq
abbrev yP:DK->Bool
 |.inl _=>ao
 |.inr _=>ak
section
variable{κ:Type}[DecidableEq κ]{α:Type}
abbrev nH:List (κ×α)->κ->Option α
 |[],_=>aq
 |p::r,k=>if p.1=k then aj p.2 else nH r k
abbrev zR(kvs:List (κ×α))(k:κ)(v:α):List (κ×α):=if(nH kvs k).isSome=ak then kvs.map (λkv=>if kv.1=k then(kv.1,v)else kv)else kvs++[(k,v)]
end
@[simp]def yJ{κ:Type}(K:Fg)(H:Hp)(f:κ->DK):List (DK×D)->List (κ×V)->Prop:=Two λp q=>p.1=f q.1/\RD K H p.2 q.2
section
variable{κ:Type}[DecidableEq κ]{K:Fg}
def val_two(hf:∀a b,f a=f b->a=b){k:κ}:∀{kvs:List (DK×D)}{xs:List (κ×V)},yJ K H f kvs xs->(∀d,nH kvs (f k)=aj d->∃v,zN xs k=aj v/\RD K H d v)/\(nH kvs (f k)=aq->zN xs k=aq)
 |_,_,.nil=>⟨λd e=>(nomatch e),λ_=>rfl⟩
 |p::kvs,q::xs,.cons h r=>by
  obtain⟨h1,h2⟩:=h;by_cases c:q.1=k
  .have c2:p.1=f k:=by rw[h1,c]
   unfold nH;rw[if_pos c2,a07 c];exact⟨λd e=>by cases e;exact⟨_,rfl,h2⟩,λe=>(nomatch e)⟩
  .have c2:¬ p.1=f k:=λz=>c (hf _ _ (h1.symm.trans z));unfold nH;rw[if_neg c2,a08 c];exact val_two hf r
def arO(hf:∀a b,f a=f b->a=b){k:κ}(t:yJ K H f kvs xs):(nH kvs (f k)).isSome=(zN xs k).isSome:=by
 have z:=val_two hf (k:=k) t;cases e:nH kvs (f k)with
 |none=>rw[z.2 e];rfl
 |some d=>obtain⟨v,e2,_⟩:=z.1 d e;rw[e2];rfl
def akW{g:DK×D->DK×D}(gh:∀p q,p.1=f q.1/\RD K H p.2 q.2->(g p).1=f (h q).1/\RD K H (g p).2 (h q).2):∀{kvs:List (DK×D)}{xs:List (κ×V)},yJ K H f kvs xs->yJ K H f (kvs.map g) (xs.map h)
 |_,_,.nil=>.nil
 |_,_,.cons z r=>.cons (gh _ _ z) (akW gh r)
def af8{p:DK×D}{q:κ×V}(z:p.1=f q.1/\RD K H p.2 q.2):∀{kvs:List (DK×D)}{xs:List (κ×V)},yJ K H f kvs xs->yJ K H f (kvs++[p]) (xs++[q])
 |_,_,.nil=>.cons z .nil
 |_,_,.cons y r=>.cons y (af8 z r)
def a5U(hf:∀a b,f a=f b->a=b){k:κ}(rd:RD K H d v)(t:yJ K H f kvs xs):yJ K H f (zR kvs (f k) d) (putK xs k v):=by
 unfold zR putK;rw[a6I,arO hf t];split
 ·refine akW ?_ t;rintro p q ⟨h1,h2⟩;by_cases c:q.1=k
  .rw[if_pos (show p.1=f k by rw[h1,c]),if_pos c];exact⟨h1,rd⟩
  .rw[if_neg (show ¬ p.1=f k from λz=>c (hf _ _ (h1.symm.trans z))),if_neg c];exact⟨h1,h2⟩
 .exact af8 (p:=(f k,d)) (q:=(k,v)) ⟨rfl,rd⟩ t
end
def a5V(a b:Key)(h:(Sum.inl a:DK)=.inl b):a=b:=by cases h;rfl
def a5W(a b:List Key)(h:(Sum.inr a:DK)=.inr b):a=b:=by cases h;rfl
abbrev qP(x y:D)(G:Gp)(P:bx->Bool->List (DK×D)->DK->Prop):Prop:=match x with
 |.ref a=>(match G a,a9N y with
  |some (.jX t kvs),aj k=>yP k=t/\P a t kvs k
  |_,_=>False)
 |_=>False
abbrev a78(K:Fg)(H:Hp)(a:bx)(vy:V)(kvs:List (DK×D))(k:DK):Prop :=
 (∃k' xs,k=.inl k'/\H a=aj (.dK xs)/\yJ K H .inl kvs xs/\vy=kV k')∨∃ks xs b,k=.inr ks/\H a=aj (.dT xs)/\yJ K H .inr kvs xs/\vy=.ref b/\H b=aj (.tup (ks.map kV))
def acN{K:Fg}{k:DK}(ry:RD K H y vy)(e:a9N y=aj k):(∃k',k=.inl k'/\vy=kV k')∨∃ks b,k=.inr ks/\vy=.ref b/\H b=aj (.tup (ks.map kV)):=by
 cases ry with
 |int i=>cases e;exact .inl ⟨_,rfl,rfl⟩
 |str x=>cases e;exact .inl ⟨_,rfl,rfl⟩
 |_=>cases e
private theorem a0Q{K:Fg}{x:D}(rx:RD K H x vx)(ry:RD K H y vy)(g:HR K H G)(h:qP x y G P) :
  ∃a kvs k,x=.ref a/\vx=.ref a/\G a=aj (.jX (yP k) kvs)/\a9N y=aj k/\P a (yP k) kvs k/\a78 K H a vy kvs k:=by
 unfold qP at h;split at h
 .rename_i a;split at h
  .rename_i t kvs k e1 e2;obtain⟨rfl,h⟩:=h;cases rx;refine⟨a,kvs,k,rfl,rfl,e1,e2,h,?_⟩;rcases g a _ e1 with⟨z,xs,e3,r⟩|⟨z,xs,e3,r⟩
   .rcases acN ry e2 with⟨k',rfl,rfl⟩|⟨ks,b,rfl,_⟩
    .exact .inl ⟨k',xs,rfl,e3,r,rfl⟩
    .cases z
   .rcases acN ry e2 with⟨k',rfl,rfl⟩|⟨ks,b,rfl,rfl,eb⟩
    .cases z
    .exact .inr ⟨ks,xs,b,rfl,e3,r,rfl,eb⟩
  .exact h.elim
 .exact h.elim
def a78.get{K:Fg}{k:DK}(h:a78 K H a vy kvs k):(∀d,nH kvs k=aj d->∃v,a09 H a vy (aj v)/\RD K H d v)/\(nH kvs k=aq->a09 H a vy aq):=by
 rcases h with⟨k',xs,rfl,e,r,rfl⟩|⟨ks,xs,b,rfl,e,r,rfl,eb⟩
 .have z:=val_two a5V (k:=k') r;exact⟨λd e2=>(z.1 d e2).elim λv q=>⟨v,by rw[←q.1];exact .k e,q.2⟩,λe2=>by rw[←z.2 e2];exact .k e⟩
 .have z:=val_two a5W (k:=ks) r;exact⟨λd e2=>(z.1 d e2).elim λv q=>⟨v,by rw[←q.1];exact .t e eb,q.2⟩,λe2=>by rw[←z.2 e2];exact .t e eb⟩
def a78.any{K:Fg}{k:DK}(h:a78 K H a vy kvs k):∃o,a09 H a vy o/\o.isSome=(nH kvs k).isSome/\∀d v,RD K H d v->RD K H ((nH kvs k).getD d) (o.getD v):=by
 have z:=h.get;cases e:nH kvs k with
 |none=>exact⟨aq,z.2 e,rfl,λd v r=>r⟩
 |some d=>obtain⟨v,g,r⟩:=z.1 d e;exact⟨aj v,g,rfl,λ_ _ _=>r⟩
def a78.put{K:Fg}{kvs:List (DK×D)}{k:DK}(g:HR K H G)(h:a78 K H a vy kvs k)(rv:RD K H d v)(hl:kvs.length<dh):∃H',aeJ H a vy v H'/\Ts H H'/\HR K H' (aM G a (.jX (yP k) (zR kvs k d))):=by
 rcases h with⟨k',xs,rfl,e,r,rfl⟩|⟨ks,xs,b,rfl,e,r,rfl,eb⟩
 .have tt:Ts H (upd H a (.dK (putK xs k' v))):=.turn e (λ_ z=>nomatch z) (λ_ _ z=>nomatch z);exact⟨_,.k e (by rw[←r.length];exact hl),tt,g.turn (u:=.jX ao _) tt (.inl ⟨rfl,_,aL,(a5U a5V rv r).imp λ_ _ q=>⟨q.1,q.2.mono tt⟩⟩)⟩
 .have tt:Ts H (upd H a (.dT (putK xs ks v))):=.turn e (λ_ z=>nomatch z) (λ_ _ z=>nomatch z);exact⟨_,.t e eb (by rw[←r.length];exact hl),tt,g.turn (u:=.jX ak _) tt (.inr ⟨rfl,_,aL,(a5U a5W rv r).imp λ_ _ q=>⟨q.1,q.2.mono tt⟩⟩)⟩
abbrev a79(G:Gp)(a:bx):Option (Bool×List (DK×D)):=match G a with
 |some (.jX t kvs)=>aj (t,kvs)
 |some (.rdc _ t kvs)=>aj (t,kvs)
 |_=>aq
private theorem arP{K:Fg}{t:Bool}(g:HR K H G)(e:a79 G a=aj (t,kvs)) :
  (t=ao/\∃xs:List (Key×V),Rd H a (.dK xs)/\yJ K H .inl kvs xs)∨(t=ak/\∃xs:List (List Key×V),Rd H a (.dT xs)/\yJ K H .inr kvs xs):=by
 unfold a79 at e;split at e
 .rename_i t' kvs' q;cases e;rcases g a _ q with⟨z,xs,e2,tw⟩|⟨z,xs,e2,tw⟩
  .exact .inl ⟨z,xs,.inl e2,tw⟩
  .exact .inr ⟨z,xs,.inl e2,tw⟩
 .rename_i o t' kvs' q;cases e;rcases g a _ q with⟨z,xs,e2,tw⟩|⟨z,xs,e2,tw⟩
  .exact .inl ⟨z,xs,.inr ⟨o,e2⟩,tw⟩
  .exact .inr ⟨z,xs,.inr ⟨o,e2⟩,tw⟩
 .cases e
abbrev a7A(x y:D)(G:Gp)(P:List (DK×D)->DK->Prop):Prop:=match x with
 |.ref a=>(match a79 G a,a9N y with
  |some (t,kvs),aj k=>yP k=t/\P kvs k
  |_,_=>False)
 |_=>False
private theorem anV{K:Fg}{x:D}(rx:RD K H x vx)(ry:RD K H y vy)(g:HR K H G)(h:a7A x y G P) :
  ∃a kvs k,x=.ref a/\vx=.ref a/\P kvs k/\∀d,nH kvs k=aj d->∃v,a09 H a vy (aj v)/\RD K H d v:=by
 unfold a7A at h;split at h
 .rename_i a;split at h
  .rename_i t kvs k e1 e2;obtain⟨rfl,h⟩:=h;cases rx;refine⟨a,kvs,k,rfl,rfl,h,λd ed=>?_⟩;rcases arP g e1 with⟨z,xs,e3,r⟩|⟨z,xs,e3,r⟩
   .rcases acN ry e2 with⟨k',rfl,rfl⟩|⟨ks,b,rfl,_⟩
    .obtain⟨v,e4,rv⟩:=(val_two a5V (k:=k') r).1 d ed;exact⟨v,.inl ⟨xs,k',e3,rfl,e4.symm⟩,rv⟩
    .cases z
   .rcases acN ry e2 with⟨k',rfl,rfl⟩|⟨ks,b,rfl,rfl,eb⟩
    .cases z
    .obtain⟨v,e4,rv⟩:=(val_two a5W (k:=ks) r).1 d ed;exact⟨v,.inr ⟨xs,ks,b,e3,rfl,eb,e4.symm⟩,rv⟩
  .exact h.elim
 .exact h.elim
abbrev acO:R3:=λx y G R=>a7A x y G λkvs k=>match nH kvs k with
 |some d=>R d G
 |none=>False
abbrev gO:R3:=λx y G R=>match y with
 |.tup ds=>(match x with
  |.ref a=>(match G a with
   |some (.qL kvs)=>∃(n:List Int)(d:D),ds=n.map D.int/\kvs.lookup n=aj d/\R d G
   |_=>False)
  |_=>False)
 |_=>acO x y G R
abbrev af9:R3:=λx y G R=>match x,y with
 |.tup ds,.ref a=>(match G a with
  |some (.qL kvs)=>∃n:List Int,ds=n.map D.int/\R (.bl (kvs.lookup n).isSome) G
  |_=>False)
 |_,_=>qP y x G λ_ _ kvs k=>R (.bl (nH kvs k).isSome) G
abbrev a3A:R3:=λx y G R=>match x,y with
 |.tup ds,.ref a=>∃(kvs:List (List Int×D))(n:List Int),G a=aj (.qL kvs)/\ds=n.map D.int/\R (.bl (!(kvs.lookup n).isSome)) G
 |_,_=>False
variable{X:Cx}{s:dg}
def a3B{ks:List Key}(I:Inv X pins σ H s)(h:oG X.K H b (ks.map kV)):(zy (bN X.prog X.w)).is s.heap ks b:=by
 obtain⟨its,r,⟨o,h1,h2,n,h3⟩,_⟩:=I.tuple h;exact⟨o,its.toArray,n,h1,h2,h3,by simpa using a2P r⟩
def ay5(h:x.1=(toI x.1).map Sum.inl):entryOfKey (zy (bN P w)) x=entryOfKey (zy (bN P' w')) x:=by
 have e:x.1.map (bN P w).hash=x.1.map (bN P' w').hash:=by
  rw[h,jz,jz];rfl
 show(⟨reduceHash (Builtin.Tuple.tupleHashOf (x.1.map (bN P w).hash)),_,_⟩:a2f)=⟨reduceHash (Builtin.Tuple.tupleHashOf (x.1.map (bN P' w').hash)),_,_⟩;rw[e]
def akX{K:Fg}:∀{n:List Int}{vs:List V},cG K H (n.map D.int) vs->vs=(n.map (Sum.inl:Int->Key)).map kV
 |[],_,.nil=>rfl
 |i::r,_,.cons h t=>by
  cases h;rw[akX t];rfl
def aLL{a b:List Int}(h:a.map (Sum.inl:Int->Key)=b.map Sum.inl):a=b:=by rw[←ac7 a,h,ac7]
variable{n:List Int}
def akY{K:Fg}{kvs:List (List Int×D)}(r:Paired (KmR K H) kvs xs):(kvs.lookup n=aq/\atKey xs (n.map Sum.inl)=aq)∨∃d p,kvs.lookup n=aj d/\atKey xs (n.map Sum.inl)=aj p/\PlV d p.2:=by
 induction r with
 |nil=>exact .inl ⟨rfl,rfl⟩
 |@cons p x kvs xs h r ih =>
  obtain⟨m,d⟩:=p;unfold atKey at ih ⊢;by_cases c:n=m
  .subst c;refine .inr ⟨d,x.2,by rw[lg,beq_self_eq_true],?_,h.2.2⟩;rw[List.find?_cons_of_pos (by rw[h.1];exact decide_eq_true rfl)];rfl
  .have c2:¬ x.1=n.map Sum.inl:=λe=>c (aLL (e.symm.trans h.1));rw[List.find?_cons_of_neg (by simpa using c2),lg,show(n==m)=ao from beq_eq_false_iff_ne.mpr c];exact ih
def aFN{K:Fg}(r:Paired (KmR K H) kvs xs):∀x∈xs,x.1=(toI x.1).map Sum.inl/\oG K H x.2.1 (x.1.map kV):=by
 induction r with
 |nil=>exact λx hx=>nomatch hx
 |cons h r ih =>
  intro x hx;rcases iy.mp hx with rfl|hx
  .exact⟨by rw[h.1,ac7],h.2.1⟩
  .exact ih x hx
def a3C(I:Inv X pins σ H s)(g:HR X.K H G)(e:G a=aj (.qL kvs)):∃o xs,H a=aj o/\Mut (aj o)/\(∀ys,o≠.tup ys)/\(∀p u,o≠.j6 p u)/\Paired (KmR X.K H) kvs xs/\(a==vd)=ao/\s.heap.DictOfH (zy (bN X.prog X.w)) a xs:=by
 obtain⟨o,e3,q⟩:=g a _ e;rcases q with⟨rfl,rfl⟩|⟨P,w,xs,rfl,r⟩
 .obtain⟨_,hd,ws,rel,o,es,ep,h1,h2,h3,h4,_⟩:=aq8 I.hok e3;cases rel;exact⟨_,[],e3,True.intro,(λ_ z=>nomatch z),(λ_ _ z=>nomatch z),.nil,hd,⟨o,es,ep,h1,h2,h3,h4,(λx hx=>nomatch hx),a2j⟩⟩
 .obtain⟨⟨hd,o,es,ep,h1,h2,h3,h4,h5⟩,_⟩:=(show dM X.prog X.w H s.heap a (.ext _)from I.hok a _ e3);have al:=aFN r;exact⟨_,xs,e3,True.intro,(λ_ z=>nomatch z),(λ_ _ z=>nomatch z),r,hd,⟨o,es,ep,h1,h2,h3,by rw[h4];exact vp λx hx=>ay5 (al x hx).1,λx hx=>a3B I (al x hx).2,h5⟩⟩
def a0R{K:Fg}(r:RD K H (.tup (n.map D.int)) v):∃b,v=.ref b/\oG K H b ((n.map (Sum.inl:Int->Key)).map kV):=by
 cases r with
 |@tup b xs _ sq rb _ =>
 have:=akX rb;subst this;exact⟨b,rfl,sq⟩
def PlV.rd{K:Fg}(h:PlV d u):∃v,RelV v u/\RD K H d v:=by
 rcases h with⟨i,t,rfl,rfl⟩|⟨b,rfl,rfl⟩
 .exact⟨.int i,⟨t,rfl⟩,.int i⟩
 .exact⟨.bl b,rfl,.bl b⟩
abbrev a3D(kvs:List (List Int×D))(n:List Int)(d:D):List (List Int×D):=if(kvs.lookup n).isSome then kvs.map (λp=>if p.1=n then(p.1,d)else p)else kvs++[(n,d)]
def arQ{K:Fg}(h:(∃i,d=.int i)∨∃b,d=.bl b)(r:RD K H d v)(rv:RelV v u):PlV d u:=by
 rcases h with⟨i,rfl⟩|⟨b,rfl⟩
 .cases r;obtain⟨t,rfl⟩:=rv;exact .inl ⟨i,t,rfl,rfl⟩
 .cases r;exact .inr ⟨b,rfl,rv⟩
def arR{K:Fg}(r:Paired (KmR K H) kvs xs)(sq:oG K H b ((n.map (Sum.inl:Int->Key)).map kV))(pl:PlV d u):Paired (KmR K H) (a3D kvs n d) (a1u xs (n.map Sum.inl) b u):=by
 unfold a3D;rcases akY (n:=n) r with⟨z1,z2⟩|⟨d',p,z1,z2,_⟩
 .rw[z1,storedH_new z2];exact Paired.snoc r ⟨rfl,sq,pl⟩
 .rw[z1,storedH_old z2];show Paired (KmR K H) (kvs.map _) _;clear z1 z2
  induction r with
  |nil=>exact .nil
  |@cons q x kvs xs h r ih =>
   refine .cons ?_ ih;unfold putAt;show KmR K H (if q.1=n then(q.1,d)else q) _;by_cases c:q.1=n
   .rw[if_pos c,if_pos (by rw[h.1,c])];exact⟨h.1,h.2.1,pl⟩
   .rw[if_neg c,if_neg (λe=>c (aLL (h.1.symm.trans e)))];exact h
section
variable{X:Cx}{to ti tv te tf:cO}{pos:Pos}
private theorem aLM(hu:X.A.units+64<ni)(ho:cU X o to)(hi:cU X i ti)(hs:aJU i):cU X (.Subscript o i pos) (aD gO to ti):=by
 intro pins s σ H Q I h _tk;obtain⟨ρ,G,R,sr,g,t,k⟩:=h
 refine awZ PySem.F.slot_dict_getitem.lookup hs (cY (ho pins s σ H (λv H1=>Ts H H1/\∃x G1,RD X.K H1 x v/\HR X.K H1 G1/\ti ρ G1 λy G2=>gO x y G2 R) I ⟨ρ,G,_,sr,g,t,λv H1 d G1 t1 r1 g1 q1=>⟨t1,d,G1,r1,g1,q1⟩⟩) λu s1 ⟨vx,H1,I1,rx,t1,x,G1,rdx,g1,q1⟩ =>
  cY (hi pins s1 σ H1 (λv H2=>Ts H1 H2/\∃y G2,RD X.K H2 y v/\HR X.K H2 G2/\gO x y G2 R) I1 ⟨ρ,G1,_,sr.mono t1,g1,q1,λv H2 d G2 t2 r2 g2 q2=>⟨t2,d,G2,r2,g2,q2⟩⟩) λiv s2 ⟨vy,H2,I2,ry,t2,y,G2,rdy,g2,q2⟩=>?_)
 have fin:∀{d v ad},x=.ref ad->a09 H2 ad vy (aj v)->RD X.K H2 d v->R d G2->s2.TypeIs u "dict"/\dj (gk X.prog X.w) X.A (getItem u iv) (λw' s3=>∃v H',Inv X pins σ H' s3/\RelV v w'/\Q v H') X.xe s2:=λ{d v ad} ex gg rv q=>by
  subst ex;have hu:u=bh.ref ad:=by cases rdx;exact rx
  subst hu;exact⟨aeK I2 gg,an9 (by omega) I2 gg ry λw' s3 I3 rw'=>⟨v,H2,I3,rw',k v H2 d G2 (t1.trans t2) rv g2 q⟩⟩
 cases y with
 |tup ds =>
  cases x with
  |ref ad =>
   replace q2:(match G2 ad with
    |some (.qL kvs)=>∃(n:List Int)(d:D),ds=n.map D.int/\kvs.lookup n=aj d/\R d G2
    |_=>False):=q2
   have hx:u=bh.ref ad:=by cases rdx;exact rx
   subst hx;split at q2
   .rename_i kvs e1;obtain⟨n,d,rfl,ed,q2⟩:=q2;obtain⟨b,rfl,sq⟩:=a0R rdy;obtain rfl:iv=bh.ref b:=ry;obtain⟨_,xs,_,_,_,_,r,hd,dd⟩:=a3C I2 g2 e1;rcases akY (n:=n) r with⟨z,_⟩|⟨d',p,z1,z2,pl⟩
    .rw[z]at ed;cases ed
    .rw[z1]at ed;cases ed;obtain⟨v,rv,rd⟩:=pl.rd (K:=X.K) (H:=H2);exact⟨dd.typeIs,wpAny_getItem_heap (wg (by omega)) (a3B I2 sq) dd z2 ⟨v,H2,I2.tok _,rv,k v H2 _ G2 (t1.trans t2) rd g2 q2⟩⟩
   .exact q2.elim
  |_=>exact q2.elim
 |_ =>
  obtain⟨ad,kvs,kk,ex,_,q,dd⟩:=anV (rdx.mono t2) rdy g2 q2;split at q
  .rename_i d e2;obtain⟨v,gg,rv⟩:=dd d e2;exact fin ex gg rv q
  .exact q.elim
private theorem aLO(hu:X.A.units+64<ni):oH X (jm .In) af9:=acA λpins s σ H x y vx vy u v G R Q I rx ry ru rv g q k=>by
 unfold af9 at q;split at q
 .rename_i ds a;split at q
  .rename_i kvs e1;obtain⟨n,rfl,q⟩:=q;cases ry;obtain rfl:v=bh.ref a:=rv;obtain⟨b,rfl,sq⟩:=a0R rx;obtain rfl:u=bh.ref b:=ru;obtain⟨_,xs,_,_,_,_,r,hd,dd⟩:=a3C I g e1;refine wpAny_in_heap (wg (by omega)) (a3B I sq) hd dd ?_
   have e:(atKey xs (n.map Sum.inl)).isSome=(kvs.lookup n).isSome:=by
    rcases akY (n:=n) r with⟨z1,z2⟩|⟨_,_,z1,z2,_⟩<;>rw[z1,z2]<;>rfl
   rw[e];exact⟨.bl _,H,I.tok _,rfl,k _ H (.bl _) G (.refl H) (.bl _) g q⟩
  .exact q.elim
 .obtain⟨a,kvs,kk,rfl,rfl,e1,_,q,dd⟩:=a0Q ry rx g q;obtain⟨o,gg,eo,_⟩:=dd.any;obtain rfl:v=bh.ref a:=rv;exact aP8 (by omega) I gg ru λs' I'=>⟨.bl o.isSome,H,I',rfl,k _ H (.bl _) G (.refl H) (.bl _) g (by rw[eo];exact q)⟩
private theorem aFO(hu:X.A.units+64<ni):oH X (jm .NotIn) a3A:=acA λpins s σ H x y vx vy u v G R Q I rx ry ru rv g q k=>by
 unfold a3A at q;split at q
 .rename_i ds a;obtain⟨kvs,n,e1,rfl,q⟩:=q;cases ry;obtain rfl:v=bh.ref a:=rv;obtain⟨b,rfl,sq⟩:=a0R rx;obtain rfl:u=bh.ref b:=ru;obtain⟨_,xs,_,_,_,_,r,hd,dd⟩:=a3C I g e1;refine wpAny_notIn_heap (wg (by omega)) (a3B I sq) hd dd ?_
  have e:(atKey xs (n.map Sum.inl)).isSome=(kvs.lookup n).isSome:=by
   rcases akY (n:=n) r with⟨z1,z2⟩|⟨_,_,z1,z2,_⟩<;>rw[z1,z2]<;>rfl
  rw[e];exact⟨.bl _,H,I.tok _,rfl,k _ H (.bl _) G (.refl H) (.bl _) g q⟩
 .exact q.elim
abbrev afA(x y v:D)(F:cR)(ρ:aN)(G:Gp):Prop:=qP x y G λa t kvs k=>kvs.length<dh/\F.nx ρ (aM G a (.jX t (zR kvs k v)))
abbrev acP(to ti tv:cO):bC:=λF ρ G=>tv ρ G λv G1=>to ρ G1 λx G2=>ti ρ G2 λy G3=>afA x y v F ρ G3
def aFP(hu:X.A.units+64<ni)(ho:cU X o to)(hi:cU X i ti)(hv:cU X value tv)(hs:a1i value (aj (.Subscript o i pos')) pos.line X.env=pure ao):PS3 X (.Assign [.Subscript o i pos'] value pos) (acP to ti tv):=by
 refine PS.imp (ax0 (by omega) ho hi hv hs) λF σ H h=>?_;obtain⟨ρ,G,E,s,g,t,u⟩:=h;refine⟨ρ,G,_,s,g,t,λv H1 d G1 t1 rv g1 t'=>?_⟩;refine⟨ρ,G1,_,s.mono t1,g1,t',λvx H2 x G2 t2 rx g2 t''=>?_⟩;refine⟨ρ,G2,_,s.mono (t1.trans t2),g2,t'',λvy H3 y G3 t3 ry g3 t4=>?_⟩;obtain⟨a,kvs,kk,rfl,rfl,e1,_,⟨hl,q⟩,dd⟩:=a0Q (rx.mono t3) ry g3 t4;obtain⟨H4,pp,tt,g4⟩:=dd.put g3 (rv.mono (t2.trans t3)) hl;exact⟨a,H4,rfl,pp,u.nx ρ _ σ _ (s.mono (((t1.trans t2).trans t3).trans tt)) g4 q⟩
abbrev a3E(x:D)(G:Gp):Prop:=match x with
 |.ref a=>(match G a with
  |some (.jX _ _)=>True
  |_=>False)
 |_=>False
private theorem anW{K:Fg}{x:D}(rx:RD K H x vx)(g:HR K H G)(h:a3E x G):∃a,x=.ref a/\vx=.ref a/\IsD H a:=by
 unfold a3E at h;split at h
 .rename_i a;split at h
  .rename_i t kvs e;cases rx;rcases g a _ e with⟨_,xs,e2,_⟩|⟨_,xs,e2,_⟩
   .exact⟨a,rfl,rfl,.inl ⟨xs,.inl e2⟩⟩
   .exact⟨a,rfl,rfl,.inr ⟨xs,.inl e2⟩⟩
  .exact h.elim
 .exact h.elim
abbrev a5X(to te tf:cO):cO:=λρ G R=>to ρ G λx G1=>a3E x G1/\te ρ G1 λy G2=>tf ρ G2 λz G3=>qP x y G3 λ_ _ kvs k=>R ((nH kvs k).getD z) G3
def ay6(hu:X.A.units+64<ni)(ho:cU X o to)(he:cU X e te)(hf:cU X f tf)(m:M2 X o "get" apos e f cpos):cU X (.Call (.Attribute o "get" apos) [e,f] [] cpos) (a5X to te tf):=by
 refine PE.imp (aqD (by omega) ho he hf m) λσ H Q h=>?_;obtain⟨ρ,G,R,s,g,t,k⟩:=h;refine⟨ρ,G,_,s,g,t,λvx H1 x G1 t1 rx g1 t'=>?_⟩;obtain⟨isd,t'⟩:=t';obtain⟨a,rfl,rfl,ia⟩:=anW rx g1 isd;refine⟨a,rfl,ia,?_⟩;refine⟨ρ,G1,_,s.mono t1,g1,t',λvy H2 y G2 t2 ry g2 t''=>?_⟩;refine⟨ρ,G2,_,s.mono (t1.trans t2),g2,t'',λvz H3 z G3 t3 rz g3 t4=>?_⟩;obtain⟨a',kvs,kk,e,_,e1,_,q,dd⟩:=a0Q (rx.mono (t2.trans t3)) (ry.mono t3) g3 t4;cases e;obtain⟨o,gg,eo,hd⟩:=dd.any;exact⟨o,gg,k _ H3 _ G3 ((t1.trans t2).trans t3) (hd z vz rz) g3 q⟩
end
end
variable{ep:Nat}
section
section
variable{K:Type}[DecidableEq K]{k:K}{xs:List (K×bx×bh)}
abbrev afB(xs:List (K×bx×bh))(k:K):List (K×bx×bh):=xs.filter λx=>decide (x.1≠k)
end
def KT.drop(r:KT H kvs xs)(k:List Key):KT H (akE kvs k) (afB xs k):=by
 unfold akE afB
 induction r with
 |nil=>exact .nil
 |@cons p q ps qs h t ih =>
  rw[a1a,a1a];by_cases e:p.1=k
  .rw[if_neg (by simp[e]),if_neg (by simp[h.1.symm.trans e])];exact ih
  .rw[if_pos (by simp[e]),if_pos (by simp;exact λz=>e (h.1.trans z))];exact .cons h ih
section
abbrev aS8:RM3:=λx xs G R=>match xs with
 |[y,z]=>qP x y G λa t kvs k=>t=ak/\kvs.length<dh/\(match nH kvs k with
  |some d=>R d G
  |none=>R z (aM G a (.jX t (zR kvs k z))))
 |_=>False
def ay7{s:dg}{o:Obj}{es:Array a2f}(hd:(d==vd)=ao)(ho:s.heap.get? d=aj o)(hc:o.ExactDict)(hdat:o.data=.dict es ep)(hf:es.size<2^62)
  (h:∀t k,Q (.int (es.size:Int) t) {s with toks:=s.toks+k}):dj (gk prog w) A (call (.builtin "len") [.ref d]) Q E s:=by
 have ht:s.TypeIs (.ref d) "dict":=⟨o,ho,hc.1⟩;refine Calls.call_function_entry PySem.kind_len plain_len entry_len (args_len1 _) ?_;unfold Builtin.«len»;refine au (m:=oneArg "len" _) (dw (au (m:=callSpecial? (.ref d) (Str.ofString "__len__")) (wj (name:=Str.ofString "__len__") ht F.slot_dict_len (yx F.slot_dict_len ht F.entry_dict_len ?_ (F.args_dict_len_1 _)))));show dj _ _ (dictSize d >>= _) _ _ s;unfold dictSize;refine au (au (a2l ho hdat (dw ?_)));show dj _ _ (Builtin.Dict.pendingCount d >>= _) _ _ s;refine au (wpAny_pendingCount_other hd (wpAny_ret_mkInt ?_));rw[Nat.add_zero];show dj _ _ _ _ _ {s with toks:=s.toks+1};refine au (vq (dw (au (yu ?_))));show dj _ _ (if((es.size:Nat):Int)<0 then _ else _) _ _ _;rw[if_neg (by omega)];show dj _ _ (if((es.size:Nat):Int)≥2^63 then _ else _) _ _ _;rw[if_neg (by omega)];exact au (wpAny_mkInt (dw ⟨_,rfl,h _ 2⟩))
abbrev a3F:List D->Gp->eV->Prop:=λxs G R=>match xs with
 |[.ref a]=>(match G a with
  |some (.jX ao kvs)=>R (.int kvs.length) G
  |some (.qL kvs)=>kvs.length<1000000/\R (.int kvs.length) G
  |_=>False)
 |_=>False
private theorem aFQ:cI X (.builtin "len") a3F:=by
 intro pins s σ H xs vs us G R Q I rx rv g q k;unfold a3F at q;split at q
 .rename_i a;split at q
  .rename_i kvs e1;cases rx with
   |cons r1 rr =>
   cases rr;cases r1;cases rv with
   |cons rv rr =>
   cases rr;cases rv;rcases g a _ e1 with⟨_,ys,e,r⟩|⟨z,_⟩
   .refine aJT I (.inl e) λt s' I'=>⟨.int ys.length,H,I',⟨t,rfl⟩,k _ H (.int kvs.length) G (.refl H) (by rw[r.length];exact .int _) g q⟩
   .cases z
  .rename_i kvs e1;obtain⟨hl,q⟩:=q;cases rx with
   |cons r1 rr =>
   cases rr;cases r1;cases rv with
   |cons rv rr =>
   cases rr;cases rv;obtain⟨_,ws,_,_,_,_,rel,hd,o,es,ep,ho,hcl,hdat,he,_⟩:=a3C I g e1;have lw:es.size=kvs.length:=(size_of_entries he).trans (Paired.length rel).symm;exact ay7 hd ho hcl hdat (by omega) λt n=>⟨.int kvs.length,H,I.tok _,⟨t,by rw[lw]⟩,k _ H (.int kvs.length) G (.refl H) (.int _) g q⟩
  .exact q.elim
 .exact q.elim
end
end
variable{m:Nat}
section
open PySem.W
variable{i:Nat}
section
variable{cmp:Nat->Nat->(Bool->dg->Prop)->dg->Prop}{I:dg->Prop}{kf:Nat->Int}
abbrev ky(kf:Nat->Int)(p:Array Nat)(i:Nat):Int:=kf (p.getD i 0)
abbrev Up(kf:Nat->Int)(p:Array Nat)(k:Nat):Prop:=∀i j,i<=j->j<k->ky kf p i<=ky kf p j
abbrev Asks(cmp:Nat->Nat->(Bool->dg->Prop)->dg->Prop)(I:dg->Prop)(kf:Nat->Int)(n:Nat):Prop:=∀i j C s,i<n->j<n->I s->(∀s',I s'->C (decide (kf i<kf j)) s')->cmp i j C s
structure Pm(n:Nat)(p:Array Nat):Prop where
 size:p.size=n
 perm:p.toList.Perm (je n)
def Pm.lt{p:Array Nat}(h:Pm n p)(hi:i<n):p.getD i 0<n:=by
 have hs:i<p.size:=by rw[h.size];exact hi
 have e:p.getD i 0=p[i]:=by simp[Array.getD,hs]
 rw[e];exact ou.mp (h.perm.mem_iff.mp (by simp))
def Pm.inj{p:Array Nat}(h:Pm n p)(hi:i<n)(hj:j<n)(e:p.getD i 0=p.getD j 0):i=j:=by
 have hs:i<p.size:=by rw[h.size];exact hi
 have ht:j<p.size:=by rw[h.size];exact hj
 have nd:p.toList.Nodup:=(h.perm.nodup_iff).mpr List.nodup_range;have e1:p.getD i 0=p[i]:=by simp[Array.getD,hs]
 have e2:p.getD j 0=p[j]:=by simp[Array.getD,ht]
 rw[e1,e2]at e;have key:=a2b.mp nd;have hs':i<p.toList.length:=by simpa using hs
 have ht':j<p.toList.length:=by simpa using ht
 rcases Nat.lt_trichotomy i j with c|c|c
 .exact absurd (by simpa using e) (key i j hs' ht' c)
 .exact c
 .exact absurd (by simpa using e.symm) (key j i ht' hs' c)
def cQ{p q:Array Nat}(h:p[i]?=q[j]?):p.getD i 0=q.getD j 0:=by
 rw[Array.getD_eq_getD_getElem?,Array.getD_eq_getD_getElem?,h]
def Pm.rev(h:Pm n p):Pm n (a1x p 0 m):=⟨by rw[kas_rev_size];exact h.size,((mirror_perm p 0 m _).toList).trans h.perm⟩
def aiK{n:Nat}(hc:Asks cmp I kf n)(P:Pm n p):∀(f a:Nat)(s:dg),1<=a->a+f<=n->Up kf p a->I s->(∀m s',a<=m->m<=a+f->Up kf p m->(m<a+f->ky kf p m<ky kf p (m - 1))->I s'->Q m s')->(kas_asc p f a).kasWp cmp Q s
 |0,a,s,h1,h2,u,i,h=>h a s (cu _) (cu _) u (λz=>absurd z (wz _)) i
 |f+1,a,s,h1,h2,u,i,h=>by
  show cmp (p.getD a 0) (p.getD (a - 1) 0) _ s;refine hc _ _ _ s (P.lt (by omega)) (P.lt (by omega)) i λs' i'=>?_;by_cases c:kf (p.getD a 0)<kf (p.getD (a - 1) 0)
  .rw[decide_eq_true c];dsimp only;rw[if_pos rfl];exact h a s' (cu _) (by omega) u (λ_=>c) i'
  .rw[decide_eq_false c];dsimp only;rw[if_neg (by decide)];refine aiK hc P f (a+1) s' (by omega) (by omega) (λx y hxy hy=>?_) i' λm s2 l1 l2 u2 l3 i2=>h m s2 (by omega) (by omega) u2 (λz=>l3 (by omega)) i2;by_cases cy:y<a
   .exact u x y hxy cy
   .have ey:y=a:=by omega
    subst ey;by_cases cx:x=y
    .subst cx;exact a0z _
    .have:=u x (y - 1) (by omega) (by omega);have c':ky kf p (y - 1)<=ky kf p y:=by unfold ky;omega
     omega
def a7B{n:Nat}(hc:Asks cmp I kf n)(P:Pm n p){k:Nat}(hk:k<n)(u:Up kf p k):∀(f l r:Nat)(s:dg),l<=r->r<=k->r - l<=f->(∀x,x<l->ky kf p x<=ky kf p k)->(∀x,r<=x->x<k->ky kf p k<ky kf p x)->I s ->
   (∀m s',m<=k->(∀x,x<m->ky kf p x<=ky kf p k)->(∀x,m<=x->x<k->ky kf p k<ky kf p x)->I s'->Q m s')->(kas_place p k f l r).kasWp cmp Q s
 |0,l,r,s,h1,h2,h3,a,b,i,h=>h l s (by omega) a (λx hx=>b x (by omega)) i
 |f+1,l,r,s,h1,h2,h3,a,b,i,h=>by
  unfold kas_place;by_cases c0:l≥r
  .rw[if_pos c0];exact h l s (by omega) a (λx hx=>b x (by omega)) i
  .rw[if_neg c0];show cmp (p.getD k 0) (p.getD ((l+r) / 2) 0) _ s;refine hc _ _ _ s (P.lt (by omega)) (P.lt (by omega)) i λs' i'=>?_;by_cases c:kf (p.getD k 0)<kf (p.getD ((l+r) / 2) 0)
   .rw[decide_eq_true c];dsimp only;rw[if_pos rfl];refine a7B hc P hk u f l ((l+r) / 2) s' (by omega) (by omega) (by omega) a (λx hx hxk=>?_) i' h;have:=u ((l+r) / 2) x hx hxk;have c':ky kf p k<ky kf p ((l+r) / 2):=c;omega
   .rw[decide_eq_false c];dsimp only;rw[if_neg (by decide)];refine a7B hc P hk u f ((l+r) / 2+1) r s' (by omega) (by omega) (by omega) (λx hx=>?_) b i' h;have:=u x ((l+r) / 2) (by omega) (by omega);have c':ky kf p ((l+r) / 2)<=ky kf p k:=by unfold ky;omega
    omega
end
section
variable{prog:ju}{w:jq}{A:jr}{s:dg}
abbrev aLQ(prog:ju)(w:jq)(A:jr)(s:dg)(kf:Nat->Int)(vs:List bh)(h':jf):Prop :=
 ∃κ,(∀Q:SortKind->dg->Prop,Q κ {s with heap:=h' }->dj (gk prog w) A (keyKind' vs.toArray) Q (λ_ _=>False) {s with heap:=h' })/\∀i j (C:Bool->dg->Prop),i<vs.length->j<vs.length->C (decide (kf i<kf j)) {s with heap:=h' }->kas_ask prog w A κ vs i j C {s with heap:=h' }
end
abbrev aLR(a b:Int×Int):Prop:=a.1<b.1∨(a.1=b.1/\a.2<b.2)
instance (a b:Int×Int):Decidable (aLR a b):=by unfold aLR;infer_instance
section
abbrev acQ(h:jf)(ps:List (Int×Int))(vs:List bh):Prop:=vs.length=ps.length/\∀(i:Nat)(p:Int×Int),ps[i]?=aj p->∃(a:bx)(o:Obj)(n:Nat)(x y:Tok),vs[i]?=aj (bh.ref a)/\h.get? a=aj o/\o.cls=bh.type "tuple"/\o.data=.seq #[.int p.1 x,.int p.2 y] n
def acQ.firsts:∀{ps:List (Int×Int)}{vs:List bh},acQ h ps vs->∃fs:List bh,KatTups h vs fs/\fs.length=ps.length/\∀v∈fs,∃i t,v=.int i t
 |[],[],_=>⟨[],trivial,rfl,λv h=>by cases h⟩
 |[],_::_,H=>absurd H.1 (by simp)
 |_::_,[],H=>absurd H.1 (by simp)
 |p::ps,v::vs,H=>by
  obtain⟨a,o,n,x,y,e1,e2,e3,e4⟩:=H.2 0 p rfl;obtain⟨fs,k1,k2,k3⟩:=acQ.firsts (h:=h) (ps:=ps) (vs:=vs) ⟨by simpa using H.1,λi q hq=>by simpa using H.2 (i+1) q (by simpa using hq)⟩;have e1':v=.ref a:=by simpa using e1
  subst e1';refine⟨.int p.1 x::fs,KatTups.cons e2 e3 e4 rfl k1,by simp[k2],λu hu=>?_⟩;rcases iy.mp hu with rfl|hu
  .exact⟨_,_,rfl⟩
  .exact k3 u hu
end
end
section
open PySem.W
section
def aaU{xs:List V}{us:List bh}(r:Vals xs us):∀{l:List Nat},(∀i∈l,i<xs.length)->Vals (l.map λi=>xs.getD i .non) (l.map λi=>us.getD i bh.none)
 |[],_=>.nil
 |i::l,h=>by
  have hi:=h i (by simp);obtain⟨u,e1,ru⟩:=r.get (cg hi);have e2:xs.getD i .non=xs[i]:=by simp[a0n,hi]
  have e3:us.getD i bh.none=u:=by simp[a0n,e1]
  refine .cons ?_ (aaU r λj hj=>h j (by simp[hj]));show RelV (xs.getD i .non) (us.getD i bh.none);rw[e2,e3];exact ru
end
end
section
open PySem.W
abbrev u9(h:jf)(d:bx)(es:Array a2f)(ep:Nat):Prop:=∃o,h.get? d=aj o/\o.ExactDict/\o.data=.dict es ep
variable{h:jf}
section
variable{prog:ju}{w:jq}{A:jr}{s:dg}{es:Array a2f}{ep i:Nat}
def u9.typeIs(hm:u9 s.heap d es ep):s.TypeIs (.ref d) "dict":=let⟨o,ho,hc,_⟩:=hm;⟨o,ho,hc.1⟩
def u9.lt(hm:u9 h d es ep):d<h.objs.size:=let⟨_,ho,_⟩:=hm;gV ho
def u9.at{h':jf}(hm:u9 h d es ep)(k:∀o,h.get? d=aj o->h'.get? d=aj o):u9 h' d es ep:=let⟨o,ho,r⟩:=hm;⟨o,k o ho,r⟩
def ay8(hd:(d==vd)=ao)(hm:u9 s.heap d es ep)(hQ:Q (.ref s.heap.objs.size) {s with heap:=s.heap.push {cls:=.type "dict_keyiterator",data:=.fields #[.ref d,.int 0 0,.int es.size 0,.int ep 0]}}):dj (gk prog w) A (pyIter (.ref d)) Q E s:=by
 have T:=hm.typeIs;obtain⟨o,ho,hc,hdat⟩:=hm;refine wpAny_pyIter_slot T F.slot_dict_iter (yx F.slot_dict_iter T F.entry_dict_iter ?_ (F.args_dict_iter_1 _));unfold Builtin.«dict.__iter__»;refine au ?_;unfold Builtin.Dict.dictSlotNone;refine au (wpAny_notOrdered_dict T ?_);show dj _ _ (pure (bh.ref d)) _ _ s;refine dw ?_;show dj _ _ (Builtin.Dict.showsAll d >>= _) _ _ s;unfold Builtin.Dict.showsAll;rw[if_neg (by rw[hd];exact pq)];refine au (dw (au (a2l ho hdat (au (wpAny_dictEpoch ho hdat (au (qg (dw ⟨_,rfl,"dict_keyiterator",_,⟨_,ig _ rfl,rfl⟩,F.slot_dict_keyiterator_next.lookup,?_⟩))))))));simpa[a0j]using hQ
def ay9{e:a2f}(hit:s.heap.IsKeyIter it d i es.size ep)(hm:u9 s.heap d es ep)(hx:es[i]?=aj e)
  (hQ:∀h',h'.IsKeyIter it d (i+1) es.size ep->su it s.heap h'->Q (aj e.key) {s with heap:=h' }):dj (gk prog w) A (yt (.ref it)) Q E s:=by
 obtain⟨o,ho,hc,hd⟩:=id hit;obtain⟨od,hod,hcd,hdd⟩:=hm;have lt:i<es.size:=(Array.getElem?_eq_some_iff.mp hx).1;unfold yt;refine au (a2r (wj (name:=Str.ofString "__next__") hit.typeIs F.slot_dict_keyiterator_next (yx F.slot_dict_keyiterator_next hit.typeIs F.entry_dict_keyiterator_next ?_ (F.args_dict_keyiterator_next_1 _))));refine au (dw ?_);refine au ?_;refine au ?_
 (first|refine au (a0a hit.typeIs (dw ?_))|refine au (a1c hit.typeIs (dw ?_)));refine au (wpAny_fieldsOf ho hd ?_)
 have own:Builtin.Dict_items.ownsTuple "dict_keyiterator"=ao:=by decide
 simp only[own,qw,if_false];show dj _ _ (if(bh.ref d==bh.none)=ak then _ else _) _ _ s;rw[if_neg (show ¬ ((bh.ref d==bh.none)=ak)from pq)];refine au (dw (au (a2l hod hdd ?_)));rw[if_neg (by simp)];refine au (dw (au (wpAny_dictEpoch hod hdd ?_)));rw[if_neg (by simp)];refine dw ?_;simp only[show ¬ ((i:Int)<0)from by omega,if_false,xr,hx];refine au ?_
 (first|refine au (a0a hit.typeIs (dw ?_))|refine au (a1c hit.typeIs (dw ?_)));refine au (wpAny_isOneOf_keyiter hit.typeIs ?_)
 show dj _ _ (setField (.ref it) 1 (a0j ((i:Int)+1)) >>= _) _ _ s;refine au (zf ho hd (by simp) ?_);have hit':(s.heap.update it (Obj.mapFields (·.setIfInBounds 1 (a0j ((i:Int)+1))))).IsKeyIter it d (i+1) es.size ep:=⟨_,yd _ ho (Obj.isFreed_of_fields (Obj.data_mapFields hd _)),(Obj.cls_mapFields ..).trans hc,by rw[Obj.data_mapFields hd];simp[a0j]⟩;refine au (vq (au (wpAny_isOneOf_keyiter (s:={s with heap:=s.heap.update it (Obj.mapFields (·.setIfInBounds 1 (a0j ((i:Int)+1))))}) hit'.typeIs ?_)));show dj _ _ (pure e.key) _ _ _;exact dw (dw ⟨_,rfl,dw (hQ _ hit' (su.update ..))⟩)
def aFR(hh:A.handled=aq)(hit:s.heap.IsKeyIter it d i es.size ep)(hm:u9 s.heap d es ep)(hx:es.size<=i)(hQ:∀h',a1s it s.heap h'->Q aq {s with heap:=h' }):dj (gk prog w) A (yt (.ref it)) Q E s:=by
 obtain⟨o,ho,hc,hd⟩:=id hit;obtain⟨od,hod,hcd,hdd⟩:=hm;unfold yt;refine au (a2r (wj (name:=Str.ofString "__next__") hit.typeIs F.slot_dict_keyiterator_next (yx F.slot_dict_keyiterator_next hit.typeIs F.entry_dict_keyiterator_next ?_ (F.args_dict_keyiterator_next_1 _))));refine au (dw ?_);refine au ?_;refine au ?_
 (first|refine au (a0a hit.typeIs (dw ?_))|refine au (a1c hit.typeIs (dw ?_)));refine au (wpAny_fieldsOf ho hd ?_)
 have own:Builtin.Dict_items.ownsTuple "dict_keyiterator"=ao:=by decide
 simp only[own,qw,if_false];show dj _ _ (if(bh.ref d==bh.none)=ak then _ else _) _ _ s;rw[if_neg (show ¬ ((bh.ref d==bh.none)=ak)from pq)];refine au (dw (au (a2l hod hdd ?_)));rw[if_neg (by simp)];refine au (dw (au (wpAny_dictEpoch hod hdd ?_)));rw[if_neg (by simp)];refine dw ?_;simp only[show ¬ ((i:Int)<0)from by omega,if_false,xr,Array.getElem?_eq_none hx];refine au ?_
 (first|refine au (a0a hit.typeIs (dw ?_))|refine au (a1c hit.typeIs (dw ?_)));show dj _ _ (setField (.ref it) 0 .none >>= _) _ _ s
 refine au (zf ho hd (by simp) ?_);show dj _ _ (newExc (.type "StopIteration") [] >>= _) _ _ _;refine au ?_;simp only[newExc,newTuple];refine au (qg ?_ (by size_fits));refine au (m:=firstArgMember _ _) (wpAny_of_eq (a:=Value.none) (by first|rfl|(simp only[a2g];rfl)) (qg ?_ (by size_fits)));simp only[raiseNew];refine au (wpAny_handled ?_);rw[show A.in1.handled=aq from hh];refine au (dw (wpAny_throw ?_));refine au (wpAny_isInstance (T:="StopIteration") (b:=true) ⟨_,ig _ rfl,rfl⟩ isSubtype_stop ?_);refine dw (hQ _ λb o' hb e=>?_);exact cj _ (cj _ (((su.update _ _ _).2 b hb).trans e))
def arS(hh:A.handled=aq)(I:bx)(hne:d≠I):Walks prog w A I [I,d] [I] es.size (λi v=>∃e,es[i]?=aj e/\v=e.key) (λi h=>h.IsKeyIter I d i es.size ep/\u9 h d es ep) where
 sub:=λb hb=>by simp at hb;simp[hb]
 frame:=λ_ _ _ st hk=>⟨st.1.at λo e=>hk I (by simp) o e,st.2.at λo e=>hk d (by simp) o e⟩
 item:=λi s Q E hi st hQ=>by
  have hx:es[i]?=aj es[i]:=a2c hi;exact ay9 st.1 st.2 hx λh' hit' hs'=>hQ _ h' s.toks ⟨_,hx,rfl⟩ ⟨hit',st.2.at λo e=>hs'.extBut _ o hne e⟩ λb o hb e=>hs'.extBut b o (λh=>hb (by simp[h])) e
 done:=λs Q E st hQ=>aFR hh st.1 st.2 (cu _) λh' he'=>hQ h' s.toks λb o hb e=>he' b o (λh=>hb (by simp[h])) e
 self:=λ_ _ _ _ st hQ=>wpAny_pyIter_keyiter st.1 hQ
def aFS(lo:(d==vd)=ao):KdlSrc prog w "dict" d d es.size (λi v=>∃e,es[i]?=aj e/\v=e.key) (λh=>u9 h d es ep) where
 type:=λ_ hm=>hm.typeIs
 there:=λ_ hm=>⟨hm.lt,hm.lt⟩
 keep:=λ_ _ hm hk=>hm.at λo e=>hk d (.inl rfl) o e
 notList:=by decide
 notTuple:=by decide
 hint:=λ_ _ _ _ hm hq=>kdl_hint_dict hm.typeIs hq
 iter:=λ_ s hh hm=>⟨_,_,(λ_ _ hq=>ay8 lo hm hq),arS hh _ (jg hm.lt),⟨⟨_,ig _ rfl,rfl,rfl⟩,hm.at λo e=>cj _ e⟩⟩
end
end
section
open PySem.W
abbrev Itc(lo c:Int)(n:Nat):It:=⟨λi _=>i<n,λi H x H'=>H'=H/\x=.int (lo+(i:Int)*c),λi _=>n<=i⟩
def afC{K:iu}(it:bx)(lo c:Int)(n:Nat):Turn cm tl P w K tg (Itc lo c n) [it] it (λi h=>a1t h it (lo+(i:Nat)*c) ((n:Int) - (i:Nat)) c) where
 mem:=by simp
 obj:=λi h st b hb=>by
  have e:b=it:=by simpa using hb
  subst e
  exact⟨_,st,λv z=>by
   have z':Data.fields _=Data.cell v:=z;cases z'⟩
 keep:=λi h h' st k=>k it (by simp) _ st
 item:=by
  intro X hP hw hK hc ht i pins s σ H E I hf st hg;subst hP hw hK;obtain⟨f0,f1,f2,f3,f4,f5⟩:=hf it (by simp);have hi:i<n:=hg;refine wpAny_pyNext_range_item st (by omega) λh' st' kk=>?_;have I1:Inv X pins σ H {s with heap:=h',toks:=s.toks+1}:=I.turned (λb o hb e=>(kk.2 b hb).trans e) f0 f1 f3 f4 f5
  have st2:a1t h' it (lo+((i+1:Nat):Int)*c) ((n:Int) - ((i+1:Nat):Int)) c:=by
   have e1:lo+((i:Nat):Int)*c+c=lo+((i+1:Nat):Int)*c:=by
    rw[show((i+1:Nat):Int)=(i:Int)+1 by omega,Int.add_mul,Int.one_mul,Int.add_assoc]
   have e2:(n:Int) - ((i:Nat):Int) - 1=(n:Int) - ((i+1:Nat):Int):=by omega
   rw[←e1,←e2];exact st'
  exact⟨_,rfl,aa8 (s:={s with heap:=h',toks:=s.toks+1}) (n:="range_iterator") st2 rfl rfl (by decide) ⟨.int (lo+i*c),H,I1,⟨s.toks,rfl⟩,⟨rfl,rfl⟩,st2,λb hb=>(hf b hb).1⟩⟩
 done:=by
  intro X hP hw hK hc ht i pins s σ H E I hf st hg;subst hP hw hK;obtain⟨f0,f1,f2,f3,f4,f5⟩:=hf it (by simp);exact aeC (I.hnd.heap I.hok) st (by have:n<=i:=hg;omega) λh' eb=>⟨rfl,I.turned (t':=s.toks) (λb o hb e=>eb b o hb e) f0 f1 f3 f4 f5⟩
 self:=λ_ _ _ _ _ st h=>wpAny_pyIter_rangeiter st h
abbrev lO(i j c:Int):Nat:=if c=1 then(j - i).toNat else(i - j).toNat
variable{c:Int}{b:jc}
section
variable{X:Cx}
def anY{s:dg}{hi:Int}{t:Tok}{tk:Nat}(I:Inv X pins σ H s)(hc:c=1∨c=-1)(h1:-(2^62)<=lo)(h2:lo<2^62)(h3:-(2^62)<=hi)(h4:hi<2^62)
  (q:R (Itc lo c (lO lo hi c)) H):dj (gk X.prog X.w) X.A (pyIter (.ref s.heap.objs.size)) (PIE X pins σ tg R) E {s with heap:=s.heap.push {cls:=.type "range",data:=.fields #[.int lo t,.int hi u,.int c v]},toks:=tk}:=by
 refine wpAny_pyIter_range (IsRange.new ..) (hc.elim (λe=>by rw[e];exact small_one h1 h2 h3 h4) λe=>by rw[e];exact small_down h1 h2 h3 h4) ?_;have I1:Inv X pins σ H {s with heap:=s.heap.push {cls:=.type "range",data:=.fields #[.int lo t,.int hi u,.int c v]},toks:=tk}:=I.kept λb o e=>cj _ e
 refine⟨(s.heap.push {cls:=.type "range",data:=.fields #[.int lo t,.int hi u,.int c v]}).objs.size,[(s.heap.push {cls:=.type "range",data:=.fields #[.int lo t,.int hi u,.int c v]}).objs.size],_,_,H,rfl,
  I1.kept (t':=tk) λb o e=>cj _ e,afC _ lo c (lO lo hi c),?_,λb hb=>?_,q⟩
 .have e1:lo+((0:Nat):Int)*c=lo:=by simp
  have e2:((lO lo hi c:Nat):Int) - ((0:Nat):Int)=Builtin.Range.rangeSize lo hi c:=by
   rcases hc with rfl|rfl
   .rw[rangeSize_one];unfold lO;split<;>split<;>omega
   .rw[rangeSize_downNat];unfold lO;rw[if_neg (by decide)];omega
  show a1t _ _ (lo+((0:Nat):Int)*c) (((lO lo hi c:Nat):Int) - ((0:Nat):Int)) c;rw[e1,e2];exact ig _ rfl
 .have e:b=(s.heap.push {cls:=.type "range",data:=.fields #[.int lo t,.int hi u,.int c v]}).objs.size:=by simpa using hb
  subst e;exact I1.v9 (cu _) (I1.hok.fresh (cu _))
abbrev aLT(ta:TA):TI:=λσ H R=>ta σ H λvs H1=>∃i j c:Int,vs=[.int i,.int j,.int c]/\(-(2^61)<=i/\i<2^61/\-(2^61)<=j/\j<2^61)/\(c=1∨c=-1)/\R (Itc i c (lO i j c)) H1
def aaV(hg:Gl X "range")(hm:X.mg "range"=aq)(ha:PA X [a,b,d] ta)(hs:jt [a,b,d] X.env=[(ao,eval a X.env),(ao,eval b X.env),(ao,eval d X.env)])(hs2:jt [b,d] X.env=[(ao,eval b X.env),(ao,eval d X.env)]) :
  PI X tg (.Call (.Name "range" p) [a,b,d] [] pos) (aLT ta):=by
 intro pins s σ H R I h _tk;refine Call_ (sI I hg hm boot_range (PyProof.Rows.callWith_type1 (cY (ha pos pins s σ H _ I h) λus s1 ⟨vs,H1,I1,r1,q1⟩=>?_) (by rw[hs,hs2]) (by rw[hs2];rfl)));obtain⟨i,j,c,e,⟨q1,q2,q3,q4⟩,hc,q⟩:=q1;subst e;cases r1 with
 |cons r rr =>
 cases rr with
 |cons r' rr =>
 cases rr with
 |cons r'' rr =>
  cases rr;obtain⟨t,rfl⟩:=r;obtain⟨t',rfl⟩:=r';obtain⟨t'',rfl⟩:=r'';exact call_range_3 (by omega) (anY I1 hc (by omega) (by omega) (by omega) (by omega) q) (Or.inl (PyProof.noPylong_small (by omega)))
end
abbrev zT(lo c:Int)(n:Nat):List D:=(je n).map λ(i:Nat)=>.int (lo+(i:Int)*c)
def aaW{K:Fg}:a2W K H1 (.imm (zT lo c n)) (Itc lo c n):=λH2 G2 t g ok=>by
 refine⟨λi hi=>?_,λi v H' hi hy=>?_,?_⟩
 .have hi':i<n:=by simpa[Src.items,zT]using hi
  exact hi'
 .obtain⟨rfl,rfl⟩:=hy;have hi':i<n:=by simpa[Src.items,zT]using hi
  exact⟨.refl _,.int (lo+i*c),by simp[Src.items,zT,hi'],.int _⟩
 .show n<=_;simp[Src.items,zT]
def anZ{K:Fg}:a0O K (.imm (zT lo c n)) (Itc lo c n):=λH2 G2 g ok=>aaW (H1:=H2) H2 G2 (.refl _) g ok
abbrev afD(xs:List D)(G:Gp)(R:Src->Gp->Prop):Prop:=match xs with
 |[.int i,.int j,.int c]=>(-(2^61)<=i/\i<2^61/\-(2^61)<=j/\j<2^61)/\(c=1∨c=-1)/\R (.imm (zT i c (lO i j c))) G
 |_=>False
abbrev a3G(ta:qM):TI3:=λρ G R=>ta ρ G λxs G1=>afD xs G1 R
private theorem afE{K:Fg}(r:cG K H ds vs)(h:afD ds G R):∃i j c:Int,vs=[.int i,.int j,.int c]/\(-(2^61)<=i/\i<2^61/\-(2^61)<=j/\j<2^61)/\(c=1∨c=-1)/\R (.imm (zT i c (lO i j c))) G:=by
 unfold afD at h;split at h
 .rename_i i j c;cases r with
  |cons r1 r =>
  cases r with
  |cons r2 r =>
  cases r with
  |cons r3 r =>
  cases r;cases r1;cases r2;cases r3;exact⟨i,j,c,rfl,h⟩
 .exact h.elim
section
variable{X:Cx}
def aFT(hg:Gl X "range")(hm:X.mg "range"=aq)(ha:PA3 X [a,b,d] ta)(hs:jt [a,b,d] X.env=[(ao,eval a X.env),(ao,eval b X.env),(ao,eval d X.env)])(hs2:jt [b,d] X.env=[(ao,eval b X.env),(ao,eval d X.env)]):PI3 X tg (.Call (.Name "range" p) [a,b,d] [] pos) (a3G ta) :=
 PI.imp (aaV hg hm ha hs hs2) λσ H Q h=>by
 obtain⟨ρ,G,R,s,g,q,k⟩:=h;refine⟨ρ,G,_,s,g,q,λvs H1 ds G1 t1 r g1 h1=>?_⟩;obtain⟨i,j,c,e,h2,h3,h4⟩:=afE r h1;exact⟨i,j,c,e,h2,h3,k _ _ H1 G1 t1 g1 aaW h4⟩
def ayA(hg:Gl X "range")(hm:X.mg "range"=aq)(ha:PA3 X [a,b,d] ta)(hs:jt [a,b,d] X.env=[(ao,eval a X.env),(ao,eval b X.env),(ao,eval d X.env)])(hs2:jt [b,d] X.env=[(ao,eval b X.env),(ao,eval d X.env)]):PIS X tg (.Call (.Name "range" p) [a,b,d] [] pos) (a3G ta) :=
 PI.imp (aaV hg hm ha hs hs2) λσ H Q h=>by
 obtain⟨ρ,G,R,s,g,q,k⟩:=h;refine⟨ρ,G,_,s,g,q,λvs H1 ds G1 t1 r g1 h1=>?_⟩;obtain⟨i,j,c,e,h2,h3,h4⟩:=afE r h1;exact⟨i,j,c,e,h2,h3,k _ _ H1 G1 t1 g1 anZ h4⟩
end
end
variable{its:Array bh}
section
open PySem.W
def ayB:typeLookup (.type "list") "keys"=pure aq:=by rw[typeLookup_type,builtinLookup_eq_fast];nofun
variable{o:Obj}{h':jf}{ps:List (List Key×bx×bh)}
section
variable{prog:ju}{w:jq}{A:jr}{s:dg}
def ayC{k:Nat} 
  (hx:s.heap.get? a=aj o)(hc:o.cls=.type "list")(hdat:o.data=.seq xs k)(hd:o.dict=aq)(hA:A.handled=aq)
  (h:∀h' tk,(∀b o,s.heap.get? b=aj o->h'.get? b=aj o)->Q aq {s with heap:=h',toks:=tk}) :
  dj (gk prog w) A (getAttr? (.ref a) "keys") Q E s:=by
 obtain⟨c,dct,dat,sl⟩:=o;simp only at hc hdat hd;subst hc hdat hd;obtain⟨hp,g,d,tk,os⟩:=s;have hT:∀tk',(⟨hp,g,d,tk',os⟩:dg).TypeIs (.ref a) "list":=λ_=>⟨_,hx,rfl⟩;have f1:=sub_AttributeError;have f3:=F.slot_list_getattribute.lookup;have f4:=F.slot_list_getattribute.bind (.ref a);have f5:=am_list_getattr_none;unfold getAttr? getAttrBy? getAttrBy
 repeat (any_goals (first|assumption|exact hT _|((with_reducible show dj _ _ (call (bh.builtin "list.__getattribute__") _ _) _ _ _);refine call_meets F.slot_list_getattribute (hT _) am_entry_list_getattribute (F.args_list_getattribute_2 _ _) (meets_getattribute_miss_list a xs k sl "keys" _ ayB (by decide) (by decide)) ⟨hx,hA,λh' tk' e hx'=>?_⟩)|wp_step))
 obtain⟨t',u',he⟩:=hx'.there;show dj _ _ (getattributeRaised _ _ _ _ _ _ _) _ _ _;unfold getattributeRaised
 repeat (any_goals (first|assumption|wp_step))
 exact h _ _ hx'.keeps
def afF:entryFor table "dict.update.loop"=aj Builtin.«dict.update.loop» :=entryFor_of_fast (by nofun)
def a0S:plainId "dict.update.loop"=ak:=by decide+kernel
@[simp]def TK(prog:ju)(w:jq):=tupleKind (bN prog w)
abbrev ayD(prog:ju)(w:jq)(h:jf)(v:bh)(x:List Key×bx×bh):Prop:=∃p o n,v=.ref p/\h.get? p=aj o/\o.cls=.type "tuple"/\o.data=.seq #[.ref x.2.1,x.2.2] n/\(TK prog w).is h x.1 x.2.1
abbrev aaX(xs ps:List (List Key×bx×bh)):List (List Key×bx×bh):=ps.foldl (λacc x=>a1u acc x.1 x.2.1 x.2.2) xs
variable{h:jf}
def acR(x:(TK prog w).is h ks a)(k:∀o,h.get? a=aj o->h'.get? a=aj o):(TK prog w).is h' ks a:=by
 obtain⟨o,its,n,h1,r⟩:=x;exact⟨o,its,n,k _ h1,r⟩
def afG(xs:List (List Key×bx×bh))(k:List Key)(a:bx)(v:bh):(a1u xs k a v).length<=xs.length+1:=by
 unfold a1u;split<;>simp
def afH{k:List Key}{y:List Key×bx×bh}(h:y∈a1u xs k a v):y.2.1=a∨∃x∈xs,y.2.1=x.2.1:=by
 unfold a1u at h;split at h
 .obtain⟨x,hx,e⟩:=iw.mp h;refine .inr ⟨x,hx,?_⟩;subst e;unfold putAt;split<;>rfl
 .rcases vg.mp h with h|h
  .exact .inr ⟨y,h,rfl⟩
  .rw[qx]at h;subst h;exact .inl rfl
def acS(hm:h.DictOfH (TK prog w) d xs)(kd:∀o,h.get? d=aj o->h'.get? d=aj o)(kx:∀x∈xs,∀o,h.get? x.2.1=aj o->h'.get? x.2.1=aj o):h'.DictOfH (TK prog w) d xs:=by
 obtain⟨o,es,ep,h1,h2,h3,h4,h5,h6⟩:=hm;exact⟨o,es,ep,kd _ h1,h2,h3,h4,λx hx=>acR (h5 x hx) (kx x hx),h6⟩
abbrev aiL(prog:ju)(w:jq)(I d:bx)(h:jf)(v:bh)(x:List Key×bx×bh):Prop:=∃p o n,v=.ref p/\h.get? p=aj o/\o.cls=.type "tuple"/\o.data=.seq #[.ref x.2.1,x.2.2] n/\(TK prog w).is h x.1 x.2.1/\p≠I/\p≠d/\x.2.1≠I/\x.2.1≠d
def aiL.keep(q:aiL prog w I d h v x)(k:∀b o,b≠d->b≠I->h.get? b=aj o->h'.get? b=aj o):aiL prog w I d h' v x:=by
 obtain⟨p,o,n,e,h1,h2,h3,h4,h5,h6,h7,h8⟩:=q;exact⟨p,o,n,e,k _ _ h6 h5 h1,h2,h3,acR h4 λo e=>k _ _ h8 h7 e,h5,h6,h7,h8⟩
def ayE(q:aiL prog w I d s.heap v x)(h:Q [.ref x.2.1,x.2.2] s):dj (gk prog w) A (Builtin.Dict.pairItems v) Q E s:=by
 obtain⟨p,o,n,rfl,h1,h2,h3,h4,_⟩:=q;unfold Builtin.Dict.pairItems;refine au (wpAny_typeOf (T:="tuple") ⟨o,h1,h2⟩ ?_);rw[if_pos (by decide)];refine au (xq h1 h3 ?_);exact dw h
def ayF(hh:A.handled=aq)(hu:A.units+1<ni)(hdI:d≠I)(hlI:l≠I)(hld:l≠d)(hlen:its.size=ps.length) :
  ∀(k i:Nat)(s:dg)(xs:List (List Key×bx×bh))(j:Int)(t:Tok),ps.length - i=k->i<=ps.length->s.heap.IsListIter I l i->s.heap.IsList l its->s.heap.DictOfH (TK prog w) d xs->xs.length+(ps.length - i)<=dh ->
   (∀x∈xs,x.2.1≠I)->(∀(i:Nat)(v:bh)(x:List Key×bx×bh),its[i]?=aj v->ps[i]?=aj x->aiL prog w I d s.heap v x) ->
   (∀h' tk,h'.DictOfH (TK prog w) d (aaX xs (ps.drop i))->(∀b o,b≠d->b≠I->s.heap.get? b=aj o->h'.get? b=aj o)->R (.ok (.ret .none)) {s with heap:=h',toks:=tk}) ->
   zm (gk prog w) A (.builtin "dict.update.loop" ⟨[.ref d,.ref I,.int j t,.none],[]⟩) R s:=by
 intro k
 induction k with
 |zero =>
  intro i s xs j t hk hi hst hl hd hz hx hp hR;have hin:i=ps.length:=by omega
  refine xu afF ?_;rw[jr.under_plainId a0S _];show dj _ A.in1 (yt (.ref I) >>= _) _ _ s;have W:=Walks.list (prog:=prog) (w:=w) (A:=A.in1) hh I l hlI its;refine au (W.done s _ _ (by rw[hlen,←hin];exact⟨hst,hl⟩) λh' tk kk=>?_);have hd':h'.DictOfH (TK prog w) d xs:=acS hd (λo e=>kk _ _ (by simpa using hdI) e) λx m o e=>kk _ _ (by simpa using hx x m) e;show dj _ A.in1 (Builtin.Dict.addKeywords d [] >>= _) _ _ _;refine au (dw (dw ?_));refine hR h' tk (by rw[hin,List.drop_length];exact hd') λb o h1 h2 e=>kk b o (by simpa using h2) e
 |succ k ih =>
  intro i s xs j t hk hi hst hl hd hz hx hp hR;have hlt:i<ps.length:=by omega
  refine xu afF ?_;rw[jr.under_plainId a0S _];show dj _ A.in1 (yt (.ref I) >>= _) _ _ s;have W:=Walks.list (prog:=prog) (w:=w) (A:=A.in1) hh I l hlI its;refine au (W.item i s _ _ (by omega) ⟨hst,hl⟩ λv h' tk hP hst' kk=>?_);obtain⟨x,hxi⟩:∃x,ps[i]?=aj x:=⟨_,cg hlt⟩;have k1:∀b o,b≠d->b≠I->s.heap.get? b=aj o->h'.get? b=aj o:=λb o _ h2 e=>kk b o (by simpa using h2) e;have hp1:∀(i:Nat)(v:bh)(x:List Key×bx×bh),its[i]?=aj v->ps[i]?=aj x->aiL prog w I d h' v x:=λi v x e1 e2=>(hp i v x e1 e2).keep k1;have hd':h'.DictOfH (TK prog w) d xs:=acS hd (λo e=>kk _ _ (by simpa using hdI) e) λx m o e=>kk _ _ (by simpa using hx x m) e;have pv:=hp1 i v x hP hxi;obtain⟨p,o,n,_,_,_,_,hkey,_,_,h7,h8⟩:=id pv;refine au (vq (au (yj (ayE (s:={s with heap:=h',toks:=tk}) pv ?_))));show dj _ A.in1 (holding [bh.ref x.2.1,x.2.2] (dictSet d (.ref x.2.1) x.2.2)) _ _ _;refine vq (wpAny_dictSet_heap (s:={s with heap:=h',toks:=tk}) (wg hu) hkey hd' (λh2 hd2 hs2=>?_) (by omega));have k2:∀b o,b≠d->b≠I->s.heap.get? b=aj o->h2.get? b=aj o:=λb o h1 hI e=>(hs2.2 b h1).trans (k1 b o h1 hI e);refine dw ⟨yw a0S _,ih (i+1) _ (a1u xs x.1 x.2.1 x.2.2) _ _ (by omega) hlt (hst'.1.at λo e=>(hs2.2 I (Ne.symm hdI)).trans e) (hst'.2.at λo e=>(hs2.2 l hld).trans e) hd2 (by have:=afG xs x.1 x.2.1 x.2.2;omega) (λy hy=>?_) (λi v x e1 e2=>(hp i v x e1 e2).keep k2) λh3 tk3 hd3 k3=>?_⟩
  .rcases afH hy with e|⟨z,hz',e⟩
   .rw[e];exact h7
   .rw[e];exact hx z hz'
  .refine hR h3 tk3 ?_ λb o h1 hI e=>k3 b o h1 hI (k2 b o h1 hI e)
   have:ps.drop i=x::ps.drop (i+1):=by
    rw[uq hlt];rw[cg hlt]at hxi;cases hxi;rfl
   rw[this];exact hd3
def ayD.ok(q:ayD prog w h v x)(hI:h.objs.size<=I)(hd:h.objs.size<=d)(k:∀b o,h.get? b=aj o->h'.get? b=aj o):aiL prog w I d h' v x:=by
 obtain⟨p,o,n,e,h1,h2,h3,h4⟩:=q;have l1:=gV h1
 have l2:x.2.1<h.objs.size:=by
  obtain⟨o2,its,n2,z,_⟩:=id h4;exact gV z
 exact⟨p,o,n,e,k _ _ h1,h2,h3,acR h4 λo e=>k _ _ e,jg (jj l1 hI),jg (jj l1 hd),jg (jj l2 hI),jg (jj l2 hd)⟩
def ayG(hh:A.handled=aq)(hu:A.units+4<ni)(hl:s.heap.get? l=aj o)(hc:o.cls=.type "list")(hdat:o.data=.seq its n)(hdn:o.dict=aq)(hlen:its.size=ps.length)(hz:ps.length<=dh)
  (hp:∀(i:Nat)(v:bh)(x:List Key×bx×bh),its[i]?=aj v->ps[i]?=aj x->ayD prog w s.heap v x)
  (h:∀h' tk,h'.DictOfH (TK prog w) s.heap.objs.size (aaX [] ps)->(∀b o,s.heap.get? b=aj o->h'.get? b=aj o)->Q (.ref s.heap.objs.size) {s with heap:=h',toks:=tk}) :
  dj (gk prog w) A (call (.type "dict") [.ref l]) Q E s:=by
 refine callType_codes (Q₁:=λobj s₁=>obj=.ref s.heap.objs.size/\s₁={s with heap:=s.heap.push {cls:=.type "dict",data:=.dict #[]}}) F.kt_called_dict (F.kt_typeCall_dict_1 _) F.entry_dict_init (kt_code_dict_new _ ⟨rfl,rfl⟩) ?_;rintro obj s₁ ⟨rfl,rfl⟩;have kp:∀b o,s.heap.get? b=aj o->(s.heap.push {cls:=.type "dict",data:=.dict #[]}).get? b=aj o:=λb o e=>cj _ e;have hnew:(s.heap.push {cls:=.type "dict",data:=.dict #[]}).DictOfH (TK prog w) s.heap.objs.size []:=Heap.DictOfH.new s.heap;have hdl:l≠s.heap.objs.size:=jg (gV hl);refine⟨hnew.typeIs,F.args_dict_init_2 _ _,?_⟩;unfold Builtin.«dict.__init__»;refine au ?_;unfold Builtin.Dict.selfAndRest;refine au (wpAny_notOrdered_dict hnew.typeIs ?_);show dj _ _ (pure (s.heap.objs.size,[bh.ref l])) _ _ _;refine dw ?_;show dj _ _ (Builtin.Dict.updateFrom "dict.__init__" s.heap.objs.size (.ref l) [] .none) _ _ _;unfold Builtin.Dict.updateFrom;refine au (wpAny_typeOf (T:="list") ⟨o,kp _ _ hl,hc⟩ ?_);rw[if_pos (by decide)];refine au (ayC (kp _ _ hl) hc hdat hdn hh λh' tk k1=>?_);rw[if_pos (by rfl)];refine au (a1h ?_);have hl1:h'.IsList l its:=⟨o,k1 _ _ (kp _ _ hl),hc,n,hdat⟩;refine au (wpAny_pyIter_list (s:={s with heap:=h',toks:=tk}) hl1 ?_);have k2:∀b o,s.heap.get? b=aj o->(h'.push {cls:=.type "list_iterator",data:=.fields #[.ref l,a0j 0]}).get? b=aj o:=λb o e=>cj _ (k1 _ _ (kp _ _ e));have sz1:s.heap.objs.size<h'.objs.size:=gV (k1 s.heap.objs.size _ (ig _ rfl));refine dw ⟨yw a0S _,ayF (A:=A.in1) (its:=its) (ps:=ps) hh (by show A.units+1+1<ni;omega) (jg sz1) (jg (gV hl1.choose_spec.1)) hdl hlen ps.length 0 _ [] _ _ rfl (zq _) ⟨_,ig _ rfl,rfl,rfl⟩ (hl1.at λo e=>cj _ e) (acS hnew (λo e=>cj _ (k1 _ _ e)) λx hx=>by simp at hx) (by simp;omega) (λx hx=>by simp at hx) (λi v x e1 e2=>(hp i v x e1 e2).ok (vf sz1) (cu _) k2) λh3 tk3 hd3 k3=>?_⟩;exact⟨rfl,h h3 tk3 hd3 λb o e=>k3 b o (jg (gV e)) (jg (Nat.lt_trans (gV e) sz1)) (k2 b o e)⟩
end
end
section
open PySem.W
abbrev pairD:D->Option (List Key×D)
 |.tup [.tup ds,z]=>(match arN ds with
  |some ks=>aj (ks,z)
  |none=>aq)
 |_=>aq
abbrev aLU(kvs:List (DK×D))(ps:List (List Key×D)):List (DK×D):=ps.foldl (λacc p=>zR acc (.inr p.1) p.2) kvs
inductive Prs(K:Fg)(H:Hp):List (List Key×D)->List (List Key×bx×bh)->Prop where
 |nil:Prs K H [] []
 |cons {ks:List Key} {b:bx} {vz:V} {u:bh} {d:D} {kvs:List (List Key×D)} {ps:List (List Key×bx×bh)}:H b=aj (.tup (ks.map kV))->RD K H d vz->RelV vz u->Prs K H kvs ps->Prs K H ((ks,d)::kvs) ((ks,b,u)::ps)
def Prs.len{K:Fg}{kvs:List (List Key×D)}{ps:List (List Key×bx×bh)}(h:Prs K H kvs ps):kvs.length=ps.length:=by
 induction h with
 |nil=>rfl
 |cons _ _ _ _ ih=>simp[ih]
def Prs.fold{K:Fg}(h:Prs K H kvs ps):∀{k0:List (DK×D)}{y0:List (List Key×V)}{p0:List (List Key×bx×bh)},KT H y0 p0->yJ K H .inr k0 y0->∃ys,KT H ys (aaX p0 ps)/\yJ K H .inr (aLU k0 kvs) ys:=by
 induction h with
 |nil=>intro k0 y0 p0 a b;exact⟨y0,a,b⟩
 |@cons ks b vz u d kvs ps e rd rv _ ih =>
  intro k0 y0 p0 a c;exact ih (KT.put a ks e rv) (a5U a5W rd c)
section
variable{X:Cx}
abbrev aaY(p:List Int×D):D:=.tup [.tup (p.1.map D.int),p.2]
abbrev arT(d:D):Prop:=(∃i,d=.int i)∨∃b,d=.bl b
def arU{pins:List (bx×Obj)}{s:dg}(I:Inv X pins σ H s):∀{kvs:List (List Int×D)}{zs:List V}{its:List bh},cG X.K H (kvs.map aaY) zs->Vals zs its->(∀p∈kvs,arT p.2) ->
  ∃ps:List (List Key×bx×bh),Paired (KmR X.K H) kvs ps/\its.length=ps.length/\∀(i:Nat)(v:bh)(x:List Key×bx×bh),its[i]?=aj v->ps[i]?=aj x->ayD X.prog X.w s.heap v x
 |[],_,_,.nil,.nil,_=>⟨[],.nil,rfl,λi v x e=>by simp at e⟩
 |p::kvs,z::zs,u::its,.cons r rs,.cons v vs,hp=>by
  obtain⟨ps,h1,hl,hq⟩:=arU I rs vs λq m=>hp q (jo _ m);have pd:=hp p (rm ..);clear rs vs;cases r with
  |@tup a xs _ sq rr _ =>
  obtain rfl:u=bh.ref a:=v;cases rr with
  |cons r1 rr =>
  cases rr with
  |@cons _ vz _ _ r2 rr =>
  cases rr;obtain⟨b,rfl,sb⟩:=a0R r1;obtain⟨i2,vi,⟨o,g1,g2,n,g3⟩,_⟩:=I.tuple sq;cases vi with
  |cons va vi =>
  cases vi with
  |@cons _ uz _ _ vb vi =>
  cases vi;cases va;refine⟨(p.1.map Sum.inl,b,uz)::ps,.cons ⟨rfl,sb,arQ pd r2 vb⟩ h1,by simp[hl],λi v x e1 e2=>?_⟩;cases i with
  |zero =>
   simp at e1 e2;subst e1 e2;exact⟨a,o,n,rfl,g1,g2,by simpa using g3,a3B I sb⟩
  |succ i=>exact hq i v x (by simpa using e1) (by simpa using e2)
abbrev foldM(m:List (List Int×D))(kvs:List (List Int×D)):List (List Int×D):=kvs.foldl (λm p=>a3D m p.1 p.2) m
def ayH{K:Fg}(r:Paired (KmR K H) kvs ps):∀{m:List (List Int×D)}{xs:List (List Key×bx×bh)},Paired (KmR K H) m xs->Paired (KmR K H) (foldM m kvs) (aaX xs ps):=by
 induction r with
 |nil=>exact λh=>h
 |@cons p x kvs ps h r ih =>
  intro m xs q;show Paired _ (foldM (a3D m p.1 p.2) kvs) (aaX (a1u xs x.1 x.2.1 x.2.2) ps);refine ih ?_;have sq:=h.2.1;rw[h.1]at sq ⊢;exact arR q sq h.2.2
abbrev xT:List D->Gp->eV->Prop:=λxs G R=>match xs with
 |[.ref a]=>∃kvs:List (List Int×D),aQ G a=aj (kvs.map aaY)/\(∀p∈kvs,arT p.2)/\∀r,G r=aq->R (.ref r) (aM G r (.qL (foldM [] kvs)))
 |_=>False
private theorem ayI(hc:X.calm=ak)(hu:X.A.units+64<ni):cI X (.type "dict") xT:=by
 intro pins s σ H xs vs us G R Q I rx rv g q k;unfold xT at q;split at q
 .rename_i a;obtain⟨kvs,e1,pd,q⟩:=q;cases rx with
  |cons r1 rr =>
  cases rr;cases r1;cases rv with
  |cons rv rr =>
  cases rr;cases rv;obtain⟨zs,hq,r⟩:=c7 g e1;obtain⟨its,vi,⟨o,n,h1,h2,h3,h4⟩,hz⟩:=I.list hq;obtain⟨ps,hp,hl,hat⟩:=arU I r vi pd;have hpz:ps.length<=dh:=by rw[←hl,←vi.length];exact hz
  refine ayG (I.ok.hd hc) (by omega) h1 h2 h4 h3 (by simpa using hl) hpz (λi v x e1 e2=>hat i v x (by simpa using e1) e2) λh' tk hd kk=>?_;have fr:H s.heap.objs.size=aq:=I.hok.fresh (cu _);have rf:=ayH hp (m:=[]) (xs:=[]) .nil;generalize aaX [] ps=ys at hd rf;have sn:Same H (upd H s.heap.objs.size (.ext (anI X.prog X.w s.heap.objs.size ys))):=bV fr;obtain⟨q0,es,ep,g1,g2,g3,g4,_,g5⟩:=hd
  have J:Inv X pins σ (upd H s.heap.objs.size (.ext (anI X.prog X.w s.heap.objs.size ys))) {s with heap:=h',toks:=tk}:=I.laid (t':=tk) (o:=.ext (anI X.prog X.w s.heap.objs.size ys)) kk (cu _) ⟨⟨(by have:=I.big;simp;exact yg this),q0,es,ep,g1,g2,g3,g4,g5⟩,⟨q0,g1⟩,λh1 h2 z kp=>by
   obtain⟨z0,o1,es1,ep1,z1,z2⟩:=z;exact⟨z0,o1,es1,ep1,kp _ z1,z2⟩⟩
  exact⟨.ref s.heap.objs.size,_,J,rfl,k _ _ (.ref _) _ (.same sn) (.ref _) (g.put (u:=.qL (foldM [] kvs)) fr ⟨_,aL,.inr ⟨X.prog,X.w,ys,rfl,Paired.ahY rf λ_ _ z=>⟨z.1,(Ts.same sn).sqT z.2.1,z.2.2⟩⟩⟩) (q _ (jY g fr (yO J)))⟩
 .exact q.elim
def a3H{K:Fg}:∀(ks:List Key),cG K H (ks.map kD) (ks.map kV)
 |[]=>.nil
 |.inl i::r=>.cons (.int i) (a3H r)
 |.inr x::r=>.cons (.str x) (a3H r)
def ayJ{K:Fg}{kvs:List (List Int×D)}{ws:List (List Key×bx×bh)}(r:Paired (KmR K H) kvs ws):cG K H (kvs.map λp=>.tup (p.1.map D.int)) (ws.map λx=>.ref x.2.1):=by
 induction r with
 |nil=>exact .nil
 |@cons p x kvs ws h r ih =>
  refine .cons ?_ ih;have sq:=h.2.1;rw[h.1]at sq;refine .tup sq ?_ trivial;have:=a3H (K:=K) (H:=H) (p.1.map Sum.inl);rw[jz]at this;exact this
abbrev a0T:List D->Gp->eV->Prop:=λxs G R=>match xs with
 |[.ref a]=>∃kvs,G a=aj (.qL kvs)/\kvs.length<=dh/\∀l,G l=aq->R (.ref l) (aM G l (.lst (kvs.map λp=>.tup (p.1.map D.int))))
 |_=>False
private theorem ayK(hc:X.calm=ak):cI X (.type "list") a0T:=by
 intro pins s σ H xs vs us G R Q I rx rv g q k;unfold a0T at q;split at q
 .rename_i a;obtain⟨kvs,e1,hlen,q⟩:=q;cases rx with
  |cons r1 rr =>
  cases rr;cases r1;cases rv with
  |cons rv rr =>
  cases rr;cases rv;obtain⟨_,ws,_,_,_,_,rel,hd,o,es,ep,ho,hcl,hdat,he,his,hn⟩:=a3C I g e1;have lw:es.size=ws.length:=size_of_entries he;have lw2:ws.length=kvs.length:=(Paired.length rel).symm;refine kdl_call (aFS hd) (I.ok.hd hc) ⟨o,ho,hcl,hdat⟩ (by omega) λh' tk acc c kk hS hacc=>?_;have fr:H s.heap.objs.size=aq:=I.hok.fresh (cu _);have sn:Same H (upd H s.heap.objs.size (.lst (ws.map λx=>.ref x.2.1))):=bV fr
  have aLV:acc.toList=ws.map λx=>bh.ref x.2.1:=by
   apply List.ext_getElem?;intro i;by_cases hi:i<ws.length
   .have hi2:i<acc.size:=by rw[hacc.1,lw];exact hi
    obtain⟨en,e1,e2⟩:=hacc.2 i acc[i] (a2c hi2);have e3:es.toList[i]?=aj en:=by rw[Array.getElem?_toList];exact e1
    rw[he,kj,cg hi]at e3;have e4:entryOfKey (zy (bN X.prog X.w)) ws[i]=en:=by simpa using e3
    rw[Array.getElem?_toList,a2c hi2,e2,←e4,kj,cg hi];rfl
   .rw[a0q (by rw[yq,hacc.1,lw];omega),a0q (by simp;omega)]
  have vals:∀l:List (List Key×bx×bh),Vals (l.map λx=>V.ref x.2.1) (l.map λx=>bh.ref x.2.1):=λl=>by
   induction l with
   |nil=>exact .nil
   |cons x r ih=>exact .cons rfl ih
  have J:Inv X pins σ (upd H s.heap.objs.size (.lst (ws.map λx=>.ref x.2.1))) {s with heap:=h',toks:=tk}:=I.laid (t':=tk) (o:=.lst _) kk (cu _) ⟨by simp;omega,_,c,vals ws,by rw[←aLV];simpa using hS⟩;exact⟨.ref s.heap.objs.size,_,J,rfl,k _ _ (.ref _) _ (.same sn) (.ref _) (g.put (u:=.lst _) fr ⟨_,aL,(ayJ rel).mono (.same sn)⟩) (q _ (jY g fr (yO J)))⟩
 .exact q.elim
end
end
section
@[simp]def acT(X:Cx)(i:Nat)(nm:Str):Cx:={X with N:=X.N.set i nm}
section
variable{X:Cx}{pins:List (bx×Obj)}{i:Nat}{nm:Str}
def aFV(ok:X.Ok):(acT X i nm).Ok:=⟨ok.mod,ok.kind,ok.glob,ok.blt,ok.above,ok.inj,ok.has,ok.cab,ok.hd,ok.frames,ok.stk,ok.exf,ok.bs,ok.bsz,ok.aeF,ok.ai0,ok.v8,ok.frf⟩
def aFW(ok:(acT X i nm).Ok):X.Ok:=⟨ok.mod,ok.kind,ok.glob,ok.blt,ok.above,ok.inj,ok.has,ok.cab,ok.hd,ok.frames,ok.stk,ok.exf,ok.bs,ok.bsz,ok.aeF,ok.ai0,ok.v8,ok.frf⟩
def arV(I:Inv X pins σ H s):Inv (acT X i nm) pins (zP σ i) H s :=
 ⟨aFV I.ok,I.os,I.bare,I.base,let⟨m,hn,hl⟩:=I.loc;⟨m,hn,λj x v e1 e2 e3=>by
  obtain⟨n,e4⟩:=a6Z σ i j v e2;have e1':(X.N.set i nm)[j]?=aj x:=e1;rw[uo (Ne.symm n)]at e1';exact hl j x v e1' e4 e3⟩,I.cell,I.free,I.lZ,I.pin,I.hok,by rw[a6Y,I.len];simp,I.hnd,I.tup⟩
def vP(I:Inv (acT X i nm) pins σ H s):Inv X pins (zP σ i) H s :=
 ⟨aFW I.ok,I.os,I.bare,I.base,let⟨m,hn,hl⟩:=I.loc;⟨m,hn,λj x v e1 e2 e3=>by
  obtain⟨n,e4⟩:=a6Z σ i j v e2;exact hl j x v (by show(X.N.set i nm)[j]?=aj x;rw[uo (Ne.symm n)];exact e1) e4 e3⟩,I.cell,I.free,I.lZ,I.pin,I.hok,by rw[a6Y,I.len];simp,I.hnd,I.tup⟩
end
abbrev aLW(F:cR)(i:Nat):cR:={nx:=λρ G=>F.nx (qN ρ i) G,rt:=F.rt,bk:=λρ G=>F.bk (qN ρ i) G,ct:=λρ G=>F.ct (qN ρ i) G}
abbrev a4C(i:Nat)(t:bC):bC:=λF ρ G=>t (aLW F i) (qN ρ i) G
variable{i:Nat}
private theorem aFX{X:Cx}{nm:Str}{st:lq}{t:bC}(h:PS3 (acT X i nm) st t):PS3 X st (a4C i t):=by
 intro pins s σ H F I q _tk;obtain⟨ρ,G,E,sr,g,q,u⟩:=q;refine cY (h pins s (zP σ i) H {nx:=λσ H=>F.nx (zP σ i) H,rt:=F.rt,bk:=λσ H=>F.bk (zP σ i) H,ct:=λσ H=>F.ct (zP σ i) H} (arV I) ⟨qN ρ i,G,aLW E i,sr.clr i,g,q,⟨λρ G σ H' a b c=>u.nx _ _ _ _ (a.clr i) b c,u.rt,λρ G σ H' a b c=>u.bk _ _ _ _ (a.clr i) b c,λρ G σ H' a b c=>u.ct _ _ _ _ (a.clr i) b c⟩⟩) λf s' z=>?_;cases f with
 |next=>obtain⟨σ',H',I',z⟩:=z;exact⟨_,H',vP I',z⟩
 |brk=>obtain⟨σ',H',I',z⟩:=z;exact⟨_,H',vP I',z⟩
 |cont=>obtain⟨σ',H',I',z⟩:=z;exact⟨_,H',vP I',z⟩
 |ret v=>obtain⟨v,σ',H',I',r,z⟩:=z;exact⟨v,_,H',vP I',r,z⟩
def arW{nm:Str}(c:Cat X EX):Cat (acT X i nm) (λρ=>EX (qN ρ i)):=⟨λpins σ H s ρ e s' I sr q=>c.aqT pins _ H s _ e s' (vP I) (sr.clr i) q⟩
def arX{nm:Str}(c:Thr X EX):Thr (acT X i nm) (λρ=>EX (qN ρ i)):=trivial
def a7C{nm:Str}:∀{N:List Str}{i:Nat},N.Nodup->nm∉N->(N.set i nm).Nodup
 |[],_,h,_=>h
 |x::r,0,h,n=>by
  rw[vh]at h;show(nm::r).Nodup;rw[vh];exact⟨λz=>n (.tail _ z),h.2⟩
 |x::r,i+1,h,n=>by
  rw[vh]at h;show(x::r.set i nm).Nodup;rw[vh];refine⟨λz=>?_,a7C h.2 λz=>n (.tail _ z)⟩;rcases List.mem_or_eq_of_mem_set z with z|z
  .exact h.1 z
  .exact n (z ▸ .head _)
end
section
open PySem.W
section
end
section
end
end
section
open Builtin.Str
section
end
section
abbrev aO1:RM3:=λx xs G R=>match x,xs with
 |.str a,[.str b]=>(b.length==0)=ao/\a.length+2<=dh/\(Txt.split a b).length<=dh/\∀q,G q=aq->R (.ref q) (aM G q (.lst ((Txt.split a b).map D.str)))
 |_,_=>False
abbrev aC3:List D->Gp->eV->Prop:=λxs G R=>match xs with
 |[.int i]=>i.natAbs.log2<1920/\R (.str (toString i)) G
 |[.str z]=>R (.str z) G
 |_=>False
def acU:oM X (.type "str") (λxs H Q=>(∃i,xs=[.int i]/\i.natAbs.log2<1920/\Q (.str (toString i)) H)∨∃z,xs=[.str z]/\Q (.str z) H):=by
 intro pins s σ H xs us Q I r h;rcases h with⟨i,rfl,hz,q⟩|⟨z,rfl,q⟩
 .obtain⟨u,rfl,t,rfl⟩:=vals1 r;exact PySem.P.str_of_int hz ⟨.str _,H,I.tok _,⟨_,rfl⟩,q⟩
 .obtain⟨u,rfl,t,rfl⟩:=vals1 r;exact PySem.P.str_of_str ⟨.str _,H,I,⟨_,rfl⟩,q⟩
def aLX:cI X (.type "str") aC3:=cI.of acU λH xs vs G R Q rx g q k=>by
 cases rx with
 |nil=>exact False.elim q
 |cons r rr =>
  cases rr with
  |cons _ _=>cases r<;>exact False.elim q
  |nil =>
   cases r with
   |int i=>exact .inl ⟨i,rfl,q.1,λ_=>k _ H _ G (.refl H) (.str _) g q.2⟩
   |str z=>exact .inr ⟨z,rfl,λ_=>k _ H _ G (.refl H) (.str _) g q⟩
   |_=>exact False.elim q
abbrev akZ:List D->Gp->eV->Prop:=λxs G R=>match xs with
 |[.ref q]=>(match aQ G q with
  |some ds=>R (.tup ds) G
  |none=>False)
 |_=>False
private theorem ayL:cI X (.type "tuple") akZ:=cI.of a9J λH xs vs G R Q rx g q k=>by
 cases rx with
 |nil=>exact False.elim q
 |cons r rr =>
  cases rr with
  |cons _ _=>cases r<;>exact False.elim q
  |nil =>
   cases r with
   |ref a =>
    have q':(match aQ G a with
     |some ds=>R (.tup ds) G
     |none=>False):=q
    split at q'
    .rename_i ds e1;obtain⟨xs,h1,r1⟩:=c7 g e1;refine⟨a,xs,rfl,.inl ⟨h1,λl hl kf=>?_⟩⟩;have sn:Same H (upd H l (.tup xs)):=bV hl;exact k _ _ _ _ (.same sn) (.tup (oG.of aL) (r1.mono (.same sn)) (aeQ aL)) (g.same sn) q'
    .exact q'.elim
   |_=>exact False.elim q
end
end
section
section
end
end
section
open PySem.W
variable{x:Key×bh}
section
variable{prog:ju}{w:jq}
abbrev aLY(xs ps:List (Key×bh)):List (Key×bh):=ps.foldl (λacc x=>stored acc x.1 x.2) xs
abbrev ayM(prog:ju)(w:jq)(I d:bx)(h:jf)(v:bh)(x:Key×bh):Prop:=∃p o n key,v=.ref p/\h.get? p=aj o/\o.cls=.type "tuple"/\o.data=.seq #[key,x.2] n/\(bN prog w).is x.1 key=ak/\p≠I/\p≠d
def ayM.keep{h h':jf}(q:ayM prog w I d h v x)(k:∀b o,b≠d->b≠I->h.get? b=aj o->h'.get? b=aj o):ayM prog w I d h' v x:=by
 obtain⟨p,o,n,key,e,h1,h2,h3,h4,h5,h6⟩:=q;exact⟨p,o,n,key,e,k _ _ h6 h5 h1,h2,h3,h4,h5,h6⟩
abbrev aLZ(prog:ju)(w:jq)(h:jf)(v:bh)(x:Key×bh):Prop:=∃p o n key,v=.ref p/\h.get? p=aj o/\o.cls=.type "tuple"/\o.data=.seq #[key,x.2] n/\(bN prog w).is x.1 key=ak
def aLZ.ok{h h':jf}(q:aLZ prog w h v x)(hI:h.objs.size<=I)(hd:h.objs.size<=d)(k:∀b o,h.get? b=aj o->h'.get? b=aj o):ayM prog w I d h' v x:=by
 obtain⟨p,o,n,key,e,h1,h2,h3,h4⟩:=q;have l1:=gV h1;exact⟨p,o,n,key,e,k _ _ h1,h2,h3,h4,jg (jj l1 hI),jg (jj l1 hd)⟩
end
abbrev aFY(kvs:List (DK×D))(ps:List (Key×D)):List (DK×D):=ps.foldl (λacc p=>zR acc (.inl p.1) p.2) kvs
inductive arY(K:Fg)(H:Hp):List (Key×D)->List (Key×bh)->Prop where
 |nil:arY K H [] []
 |cons {k:Key} {vz:V} {u:bh} {d:D} {kvs:List (Key×D)} {ps:List (Key×bh)}:RD K H d vz->RelV vz u->arY K H kvs ps->arY K H ((k,d)::kvs) ((k,u)::ps)
def arY.fold{K:Fg}(h:arY K H kvs ps):∀{k0:List (DK×D)}{y0:List (Key×V)}{p0:List (Key×bh)},KV y0 p0->yJ K H .inl k0 y0->∃ys,KV ys (aLY p0 ps)/\yJ K H .inl (aFY k0 kvs) ys:=by
 induction h with
 |nil=>intro k0 y0 p0 a b;exact⟨y0,a,b⟩
 |@cons k vz u d kvs ps rd rv _ ih =>
  intro k0 y0 p0 a c;exact ih (KV.put a k rv) (a5U a5V rd c)
section
end
end
section
open PySem.W
section
end
section
end
end
section
open PySem.W
section
end
section
end
end
section
open PySem.W
section
section
variable[DecidableEq κ]
end
end
section
end
end
section
open PySem.W
section
variable{X:Cx}{A:jr}
def ao0(hu:A.units<ni)(I:Inv X pins σ H s)(g:aeJ H a y v H')(ry:RelV y u)(rv:RelV v r)(h:∀s',Inv X pins σ H' s'->Q () s'):dj (gk X.prog X.w) A (dictSet a u r) Q E s:=by
 rcases g with⟨kvs,k,e,ey,l,eH⟩|⟨kvs,k,b,e,ey,eb,l,eH⟩
 .subst ey eH;obtain⟨z,hd,vs,rel,dd⟩:=aBF I.hok e;have lp:=oN kvs k v;refine wpAny_dictSet_pairs (hsz:=by rw[←rel.length];exact z) (aaE ry) dd λh' d2 hs=>h _ (a0A I (by rw[e];exact True.intro) hs (let⟨q,_,_,hq,_⟩:=d2;⟨q,hq⟩) (aq9 (by omega) hd (rel.put k rv) d2))
 .subst ey eH;cases(show u=bh.ref b from ry);obtain⟨z,hd,xs,rel,dd⟩:=aq8 I.hok e;have lp:=oN kvs k v;refine wpAny_dictSet_heap (hsz:=by rw[←Paired.length rel];exact z) (show A.units<ni from hu) (a2Q I.hok eb) dd λh' d2 hs=>h _ ?_;obtain⟨q,es,ep,hq,h2,h3,h4,_,h5⟩:=d2;refine a0A I (by rw[e];exact True.intro) hs ⟨q,hq⟩ ⟨by omega,hd,_,(rel.put k eb rv).keeps λc ys ec=>?_,q,es,ep,hq,h2,h3,h4,h5⟩;rw[aP (aa6 ec e (λz=>nomatch z))];exact ec
abbrev acV(t:Bool)(tk tv:cO):cO:=λρ G R=>∀p,G p=aq->tk ρ (aM G p (.jX t [])) λy G1=>tv ρ G1 λv G2=>qP (.ref p) y G2 λa t' kvs k=>kvs.length<dh/\R (.ref p) (aM G2 a (.jX t' (zR kvs k v)))
def ayN{k:jc}{t:Bool}(hu:X.A.units+64<ni)(hk:cU X k tk)(hv:cU X v tv):cU X (.Dict [aj k] [v] pos) (acV t tk tv):=by
 intro pins s σ H Q I h _tk;obtain⟨ρ,G,R,sr,g,q,kk⟩:=h;refine wpAny_Dict_any rfl rfl (by simp) (by simp) ?_
 let p:=s.heap.objs.size
 have fr:H p=aq:=I.hok.fresh (cu _)
 obtain⟨H0,I0,sn,g0,fG⟩:∃H0,Inv X pins σ H0 {s with heap:=s.heap.push {cls:=.type "dict",data:=.dict #[]},toks:=s.toks}/\Same H H0/\HR X.K H0 (aM G p (.jX t []))/\G p=aq:=by
  cases t with
  |false =>
   have sn:Same H (upd H p (.dK [])):=bV fr;have J:=I.laid (a:=p) (o:=.dK []) (t':=s.toks) (λ_ _ q=>cj _ q) (cu _) (aeL s.heap I.big);exact⟨upd H p (.dK []),J,sn,g.put (u:=.jX ao []) fr (.inl ⟨rfl,[],aL,.nil⟩),jY g fr (yO J)⟩
  |true =>
   have sn:Same H (upd H p (.dT [])):=bV fr;have J:=I.laid (a:=p) (o:=.dT []) (t':=s.toks) (λ_ _ q=>cj _ q) (cu _) (aeM s.heap I.big);exact⟨upd H p (.dT []),J,sn,g.put (u:=.jX ak []) fr (.inr ⟨rfl,[],aL,.nil⟩),jY g fr (yO J)⟩
 have t0:Ts H H0:=.same sn;refine pairTrees_cons_walk (cY (hk pins _ σ H0 (λvy H1=>Ts H0 H1/\∃y G1,RD X.K H1 y vy/\HR X.K H1 G1/\tv ρ G1 λv G2=>qP (.ref p) y G2 λa t' kvs k=>kvs.length<dh/\R (.ref p) (aM G2 a (.jX t' (zR kvs k v)))) I0 ⟨ρ,_,_,sr.mono t0,g0,q p fG,λvy H1 y G1 t1 r1 g1 q1=>⟨t1,y,G1,r1,g1,q1⟩⟩) ?_);rintro uy s1 ⟨vy,H1,I1,ry,t1,y,G1,rdy,g1,q1⟩;refine cY (hv pins s1 σ H1 (λvv H2=>Ts H1 H2/\∃d G2,RD X.K H2 d vv/\HR X.K H2 G2/\qP (.ref p) y G2 λa t' kvs k=>kvs.length<dh/\R (.ref p) (aM G2 a (.jX t' (zR kvs k d)))) I1 ⟨ρ,G1,_,sr.mono (t0.trans t1),g1,q1,λvv H2 d G2 t2 r2 g2 q2=>⟨t2,d,G2,r2,g2,q2⟩⟩) ?_;rintro uv s2 ⟨vv,H2,I2,rv,t2,d,G2,rdv,g2,q2⟩;refine pairTrees_nil_walk ?_;obtain⟨a,kvs,kd,ea,_,e1,_,⟨hl,q3⟩,dd⟩:=a0Q (.ref p) (rdy.mono t2) g2 q2;cases ea;obtain⟨H4,pp,tt,g4⟩:=dd.put g2 rdv hl;unfold storeAll;rw[a0p];refine au (au (ao0 (by omega) I2 pp ry rv λs3 I3=>dw ?_));dsimp only;rw[List.forIn_nil];exact dw ⟨.ref p,H4,I3,rfl,kk _ H4 _ _ (((t0.trans t1).trans t2).trans tt) (.ref p) g4 q3⟩
end
end
variable{al:Bool}{apos cpos:Pos}
section
open PySem.W
structure Fz(X:Cx)(p:bx):Prop where
 free:∀ob,X.s₀.heap.get? p=aj ob->X.H₀ p=aq->p∈X.ex
 tup:∀xs,X.H₀ p≠aj (.tup xs)
 j6:∀o w,X.H₀ p≠aj (.j6 o w)
 zM:∀ps,X.H₀ p≠aj (.zM ps)
section
variable{pins:List (bx×Obj)}
def Fz.of(I:Inv X pins σ H s)(hu:H p=aj u)(h1:∀xs,u≠.tup xs)(h2:∀ob w,u≠.j6 ob w)(h3:∀ps,u≠.zM ps):Fz X p:=by
 refine⟨λob q n=>?_,λxs q=>?_,λo w q=>?_,λps q=>?_⟩
 .apply Classical.byContradiction;intro hx;have:=I.base.free p ob q n hx;rw[hu]at this;cases this
 .have:=I.base.tups p xs q;rw[hu]at this;exact h1 xs (jd.inj this)
 .have:=I.base.j7 p o w q;rw[hu]at this;exact h2 o w (jd.inj this)
 .obtain⟨more,this⟩:=I.base.v7 p ps q;rw[hu]at this;exact h3 _ (jd.inj this)
end
section
variable{X:Cx}{pins:List (bx×Obj)}{s:dg}
def Inv.freeze(I:Inv X pins σ H s)(hu:H a=aj u)(h1:∀xs,u≠.tup xs)(h2:∀ob w,u≠.j6 ob w)(h3:∀ps,u≠.zM ps)(h4:∀x,u≠.own x)(ho:s.heap.get? a=aj o):Inv X pins σ (upd H a (.j6 o u)) s:=by
 have ne:∀{b:bx}{v:HO},H b=aj v->v≠u->b≠a:=λe n z=>by subst z;rw[hu]at e;exact n (jd.inj e).symm
 have no:∀{b:bx},H b=aq->upd H a (.j6 o u) b=aq:=λ{b} e=>by
  rw[aP];exact e;intro z;subst z;rw[hu]at e;cases e
 have kt:∀b xs,H b=aj (.tup xs)->upd H a (.j6 o u) b=aj (.tup xs):=λb xs q=>by rw[aP (ne q λz=>h1 xs z.symm)];exact q
 have kf:∀b ob w,H b=aj (.j6 ob w)->upd H a (.j6 o u) b=aj (.j6 ob w):=λb ob w q=>by rw[aP (ne q λz=>h2 ob w z.symm)];exact q
 have ko:∀b x,H b=aj (.own x)->upd H a (.j6 o u) b=aj (.own x):=λb x q=>by rw[aP (ne q λz=>h4 x z.symm)];exact q
 refine⟨I.ok,I.os,I.bare,⟨I.base.keep,I.base.slot,λb ob q n hx=>no (I.base.free b ob q n hx),I.base.there,λb xs q=>kt b xs (I.base.tups b xs q),λb ob w q=>kf b ob w (I.base.j7 b ob w q),λb ps q=>?_⟩,I.loc,I.cell,no I.free,λx c e=>no (I.lZ x c e),λp hp=>?_,λb v e=>?_,I.len,I.hnd.mono kf,λp hp=>kt _ _ (I.tup p hp)⟩
 .obtain⟨more,e⟩:=I.base.v7 b ps q;exact⟨more,by rw[aP (ne e λz=>h3 _ z.symm)];exact e⟩
 .obtain⟨z1,z2,z3⟩:=I.pin p hp;exact⟨z1,no z2,z3⟩
 .by_cases hb:b=a
  .subst hb;rw[aL]at e;obtain rfl:=jd.inj e;exact⟨ho,(I.hok b u hu).stay (λ_ _ _ q=>q) (λc q=>ko c _ q) λc xs q=>kt c xs q⟩
  .rw[aP hb]at e;exact(I.hok b v e).stay (λ_ _ _ q=>q) (λc q=>ko c _ q) λc xs q=>kt c xs q
def aFZ(r:KV ys vs):∀{i:Nat}{k:Key}{y:V},ys[i]?=aj (k,y)->∃u,vs[i]?=aj (k,u)/\RelV y u:=by
 induction r with
 |nil=>intro i k y e;simp at e
 |@cons p q _ _ h _ ih =>
  intro i k y e;cases i with
  |zero =>
   simp only[a2k,jd.injEq]at e;subst e;obtain⟨q1,q2⟩:=q;obtain⟨h1,h2⟩:=h;exact⟨q2,by simp only[a2k];rw[show q1=k from h1.symm],h2⟩
  |succ i=>simpa using ih (by simpa using e)
def ayO{k:Key}{key:bh}(h:a6C k key=ak):RelV (kV k) key:=by
 rcases cZ h with⟨i,t,e1,e2⟩|⟨i,t,e1,e2⟩
 .subst e1;exact⟨t,e2⟩
 .subst e1;exact⟨t,e2⟩
def afI{od:Obj}{es:Array a2f}(I:Inv X pins σ H s)(hd:od.data=.dict es ep)(hq:H a=aj (.j6 od (.dK ys))) :
  ∃vs,KV ys vs/\s.heap.DictAt (bN X.prog X.w) a vs ep/\vs.length=es.size/\(a==vd)=ao:=by
 obtain⟨hod,_⟩:=(show s.heap.get? a=aj od/\_ from I.hok a _ hq);obtain⟨_,hsm,vs,kv,o1,es1,ep1,g1,g2,g3,g4,g5,g6⟩:=yL I.hok (.inr ⟨od,hq⟩);rw[hod]at g1;obtain rfl:=jd.inj g1;rw[hd]at g3;injection g3 with e1 e2;subst e1 e2;exact⟨vs,kv,⟨od,es,hod,g2,hd,g4,g5,g6⟩,by rw[←g5.length];simp,hsm⟩
end
abbrev Iti(a:bx)(od:Obj):It :=
 ⟨λi H=>∃ys:List (Key×V),H a=aj (.j6 od (.dK ys))/\i<ys.length,
  λi H v H'=>∃(p:bx)(k:Key)(y:V),H p=aq/\v=.ref p/\H'=upd H p (.tup [kV k,y])/\∀ys,H a=aj (.j6 od (.dK ys))->ys[i]?=aj (k,y),
  λi H=>∃ys:List (Key×V),H a=aj (.j6 od (.dK ys))/\ys.length<=i⟩
def a7D{K:Fg}{pt:Pos}{od:Obj}{en:Array a2f}(hd:od.data=.dict en ep) :
  Turn ak tl P w K (.Tuple es kt pt) (Iti a od) [it] it (λi h=>∃ok ov,IsItemIter h it a i en.size ep ok ov) where
 mem:=by simp
 obj:=λi h st b hb=>by
  have e:b=it:=by simpa using hb
  subst e;obtain⟨ok,ov,e⟩:=st;exact⟨_,e,λv z=>nomatch z⟩
 keep:=λi h h' st k=>by
  obtain⟨ok,ov,e⟩:=st;exact⟨ok,ov,k it (by simp) _ e⟩
 item:=by
  intro X hP hw hK hcm ht i pins s σ H E I hf st hg;subst hP hw hK;obtain⟨ok,ov,hit⟩:=st;obtain⟨ys,hq,hi⟩:=hg;obtain⟨vs,kv,hm,hn,_⟩:=afI I hd hq;have hx:ys[i]?=aj (ys[i].1,ys[i].2):=cg hi;obtain⟨u,hu,ru⟩:=aFZ kv hx;have fr:=I.hok.fresh (cu s.heap.objs.size);have nit:s.heap.objs.size≠it:=yg (gV hit);refine wpAny_pyNext_items_item (knd:=bN X.prog X.w) (kvs:=vs) (by rw[hn];exact hit) hm hu λkey h' hkey hout htu hsz kk=>?_;refine⟨_,rfl,wpAny_letOwnedTupleGo_items (s:={s with heap:=h' }) hout λh2 hin sb=>?_⟩;have k2:∀b o,b∉[it]->s.heap.get? b=aj o->h2.get? b=aj o:=λb o hb e=>sb.extBut _ _ (λq=>hb (by simp[q])) (kk b o (λq=>hb (by simp[q])) e)
  refine⟨.ref s.heap.objs.size,upd H s.heap.objs.size (.tup [kV ys[i].1,ys[i].2]),I.xR (t':=s.toks) (ch:=[it]) k2 hf (cu _) ⟨show 2<=dh by decide,[key,u],.cons (ayO hkey) (.cons ru .nil),⟨_,sb.extBut _ _ nit htu,rfl,_,rfl⟩⟩,rfl,
   ⟨_,ys[i].1,ys[i].2,fr,rfl,rfl,λzs z=>by rw[hq]at z;cases z;exact hx⟩,⟨_,_,by rw[hn]at hin;exact hin⟩,λb hb=>?_⟩
  have e:b=it:=by simpa using hb
  subst e;rw[aP (Ne.symm nit)];exact(hf _ hb).1
 done:=by
  intro X hP hw hK hcm ht i pins s σ H E I hf st hg;subst hP hw hK;obtain⟨ok,ov,hit⟩:=st;obtain⟨ys,hq,hi⟩:=hg;obtain⟨vs,kv,hm,hn,_⟩:=afI I hd hq;obtain⟨f0,f1,f2,f3,f4,f5⟩:=hf it (by simp);have hl:ys.length=vs.length:=Paired.length kv;exact wpAny_pyNext_items_end (knd:=bN X.prog X.w) (kvs:=vs) (I.ok.hd (hcm rfl)) (by rw[hn];exact hit) hm (a0q (by omega)) λh' eb=>⟨rfl,I.turned (t':=s.toks) (λb o hb e=>eb b o hb e) f0 f1 f3 f4 f5⟩
 self:=λ_ _ _ _ _ st h=>by
  obtain⟨ok,ov,hit⟩:=st;exact kcp_self hit h
def aG0{K:Fg}:∀k:Key,RD K H (kD k) (kV k)
 |.inl i=>.int i
 |.inr x=>.str x
def ayP{α β:Type}{P:α->β->Prop}{as:List α}{bs:List β}(t:Two P as bs):∀{i:Nat}{b:β},bs[i]?=aj b->∃a,as[i]?=aj a/\P a b:=by
 induction t with
 |nil=>intro i b e;simp at e
 |@cons a b _ _ h _ ih =>
  intro i c e;cases i with
  |zero=>simp only[a2k,jd.injEq]at e;subst e;exact⟨a,rfl,h⟩
  |succ i=>simpa using ih (by simpa using e)
def afJ{K:Fg}:a2W K H1 (.itm p od kvs) (Iti p od):=λH2 G2 t g ok=>by
 have ok':G2 p=aj (.rdc od ao kvs):=ok;rcases g p _ ok' with⟨_,ys,e,tw⟩|⟨z,_⟩
 .have hl:(Src.itm p od kvs).items.length=ys.length:=by simp[Src.items,tw.length]
  refine⟨λi hi=>⟨ys,e,by rw[hl]at hi;exact hi⟩,λi v H' hi hy=>?_,⟨ys,e,by rw[hl];exact cu _⟩⟩;obtain⟨q,k,y,fr,rfl,rfl,hy⟩:=hy;obtain⟨⟨dk,d⟩,e2,r1,r2⟩:=ayP tw (hy ys e);have r1:dk=.inl k:=r1;subst r1;have sn:Same H2 (upd H2 q (.tup [kV k,y])):=bV fr;exact⟨sn,.tup [kD k,d],by simp[Src.items,e2,dkD],.tup (oG.of aL) (.cons (aG0 k) (.cons (r2.mono (.same sn)) .nil)) (aeQ aL)⟩
 .cases z
def afK{K:Fg}:a0O K (.itm p od kvs) (Iti p od):=λH2 G2 g ok=>afJ (H1:=H2) H2 G2 (.refl _) g ok
abbrev a7E(al:Bool)(x:D)(G1:Gp)(R:Src->Gp->Prop):Prop:=match x with
 |.ref p=>(match G1 p with
  |some (.jX ao kvs)=>∀od,R (.itm p od kvs) (aM G1 p (.rdc od ao kvs))
  |some (.rdc od ao kvs)=>al=ak/\R (.itm p od kvs) G1
  |_=>False)
 |_=>False
abbrev mJ(al:Bool)(to:cO):TI3:=λρ G R=>to ρ G λx G1=>a7E al x G1 R
private theorem arZ{x:D}(h:a7E al x G1 R):∃p kvs,x=.ref p/\((G1 p=aj (.jX ao kvs)/\∀od,R (.itm p od kvs) (aM G1 p (.rdc od ao kvs)))∨∃od,G1 p=aj (.rdc od ao kvs)/\al=ak/\R (.itm p od kvs) G1):=by
 unfold a7E at h;split at h
 .rename_i p;split at h
  .rename_i kvs e;exact⟨p,kvs,rfl,.inl ⟨e,h⟩⟩
  .rename_i od kvs e;exact⟨p,kvs,rfl,.inr ⟨od,e,h⟩⟩
  .exact h.elim
 .exact h.elim
section
variable{X:Cx}
def a7F{o:jc}{to:cO}{es:List jc}{pt:Pos}(hc:X.calm=ak)(ho:cU X o to)
  (hbase:a03 o "items" X.env (eval o X.env)=eval o X.env)(hline:(apos.endLine==cpos.line)=ak)(hSJ:∀H p od kvs,(al=ao->Fz X p)->SJ H (.itm p od kvs) (Iti p od)) :
  PI X (.Tuple es kt pt) (.Call (.Attribute o "items" apos) [] [] cpos) (λσ H Q=>∃ρ G R,SR X.K H ρ σ/\HR X.K H G/\mJ al to ρ G R/\∀src J H' G',Ts H H'->HR X.K H' G'->SJ H' src J->R src G'->Q J H'):=by
 intro pins s σ H Q I h _tk;obtain⟨ρ,G,R,sr,g,q,kk⟩:=h;refine wpAny_Call_method0_late hbase hline (cY (ho pins s σ H (λvx H1=>Ts H H1/\∃x G1,RD X.K H1 x vx/\HR X.K H1 G1/\a7E al x G1 R) I ⟨ρ,G,_,sr,g,q,λv H1 x G1 t1 r1 g1 q1=>⟨t1,x,G1,r1,g1,q1⟩⟩) ?_);rintro v s1 ⟨vx,H1,I1,r1,t1,x1,G1,rx,g1,q1⟩;obtain⟨a,kvs,rfl,q2⟩:=arZ q1;cases rx;obtain rfl:v=bh.ref a:=r1
 obtain⟨ys,ed⟩:∃ys:List (Key×V),Rd H1 a (.dK ys):=by
  rcases q2 with⟨e1,_⟩|⟨od,e1,_⟩
  .rcases g1 a _ e1 with⟨_,ys,e2,_⟩|⟨z,_⟩
   .exact⟨ys,.inl e2⟩
   .cases z
  .rcases g1 a _ e1 with⟨_,ys,e2,_⟩|⟨z,_⟩
   .exact⟨ys,.inr ⟨od,e2⟩⟩
   .cases z
 obtain⟨h1,h2,h3⟩:=aqC I1 (.inl ⟨ys,ed⟩);refine⟨"dict","dict.items",PySem.F.plainAttrs_dict,PySem.F.slot_dict_items,PySem.F.type_dict_items,h1,h2,Calls.callWith_builtin rfl (PySem.evalArgs_none ?_)⟩;obtain⟨_,hsm,vs,kv,hd⟩:=yL I1.hok ed;refine call_meetsIn PySem.F.slot_dict_items h1 PySem.F.entry_dict_items (PySem.F.args_dict_items_1 _) (meets_dict_items (bN X.prog X.w) a hsm) ⟨⟨vs,hd⟩,?_⟩;obtain⟨od,en,ep,o1,o2,o3,o4,o5,o6⟩:=hd;have I2:Inv X pins σ H1 {s1 with heap:=s1.heap.push {cls:=.type "dict_items",data:=.fields #[.ref a]},toks:=s1.toks}:=I1.kept λb o e=>cj _ e;have od2:(s1.heap.push {cls:=.type "dict_items",data:=.fields #[.ref a]}).get? a=aj od:=cj _ o1;have hm:(s1.heap.push {cls:=.type "dict_items",data:=.fields #[.ref a]}).DictAt (bN X.prog X.w) a vs ep:=⟨od,en,od2,o2,o3,o4,o5,o6⟩;have hln:vs.length=en.size:=by rw[←o5.length];simp
 show dj (gk X.prog X.w) X.A (pyIter (.ref s1.heap.objs.size)) (PIE X pins σ (.Tuple es kt pt) Q) X.xe {s1 with heap:=s1.heap.push {cls:=.type "dict_items",data:=.fields #[.ref a]}};generalize hh:s1.heap.push {cls:=.type "dict_items",data:=.fields #[.ref a]}=hp at *;have hv:hp.IsItemsView s1.heap.objs.size a:=⟨_,by rw[←hh];exact ig _ rfl,rfl,rfl⟩;refine wpAny_pyIter_items (s:={s1 with heap:=hp}) (knd:=bN X.prog X.w) hv hm ?_;have I3:Inv X pins σ H1 {s1 with heap:=hp.push {cls:=.type "dict_itemiterator",data:=.fields #[.none,.bool ao,.ref a,.int 0 0,.int vs.length 0,.int ep 0,.none,.none]},toks:=s1.toks}:=I2.kept λb o e=>cj _ e;have od3:(hp.push {cls:=.type "dict_itemiterator",data:=.fields #[.none,.bool ao,.ref a,.int 0 0,.int vs.length 0,.int ep 0,.none,.none]}).get? a=aj od:=cj _ od2
 have hit:IsItemIter (hp.push {cls:=.type "dict_itemiterator",data:=.fields #[.none,.bool ao,.ref a,.int 0 0,.int vs.length 0,.int ep 0,.none,.none]}) hp.objs.size a 0 en.size ep .none .none:=by
  rw[←hln];exact ig _ rfl
 have fr1:H1 hp.objs.size=aq:=I2.hok.fresh (cu _);rcases q2 with⟨e1,q3⟩|⟨od',e1,ha,q3⟩
 .rcases g1 a _ e1 with⟨_,zs,e2,tw⟩|⟨z,_⟩
  .have tt:Ts H1 (upd H1 a (.j6 od (.dK zs))):=Ts.turn e2 (λxs z=>nomatch z) (λob w z=>nomatch z);have I4:=I3.freeze e2 (λxs z=>nomatch z) (λob w z=>nomatch z) (λps z=>nomatch z) (λx z=>nomatch z) od3;have g4:HR X.K (upd H1 a (.j6 od (.dK zs))) (aM G1 a (.rdc od ao kvs)):=g1.turn tt (.inl ⟨rfl,zs,aL,tw.imp λ_ _ q=>⟨q.1,q.2.mono tt⟩⟩);have na:hp.objs.size≠a:=yg (gV od2);refine⟨hp.objs.size,[hp.objs.size],_,Iti a od,_,rfl,I4,(show Turn X.calm X.tp X.prog X.w X.K (.Tuple es kt pt) _ _ _ _ from hc ▸ a7D o3),⟨_,_,hit⟩,λb hb=>?_,kk _ _ _ _ (t1.trans tt) g4 (hSJ _ a od kvs λ_=>Fz.of I1 e2 (λxs z=>nomatch z) (λob w z=>nomatch z) (λps z=>nomatch z)) (q3 od)⟩;have e:b=hp.objs.size:=by simpa using hb
   subst e;exact I2.v9 (cu _) (by rw[aP na];exact fr1)
  .cases z
 .rcases g1 a _ e1 with⟨_,zs,e2,tw⟩|⟨z,_⟩
  .obtain⟨od4,_⟩:=(show s1.heap.get? a=aj od'/\_ from I1.hok a _ e2);rw[o1]at od4;obtain rfl:=jd.inj od4;refine⟨hp.objs.size,[hp.objs.size],_,Iti a od,_,rfl,I3,(show Turn X.calm X.tp X.prog X.w X.K (.Tuple es kt pt) _ _ _ _ from hc ▸ a7D o3),⟨_,_,hit⟩,λb hb=>?_,kk _ _ _ _ t1 g1 (hSJ _ a od kvs λz=>by rw[ha]at z;cases z) q3⟩;have e:b=hp.objs.size:=by simpa using hb
   subst e;exact I2.v9 (cu _) fr1
  .cases z
def ayQ{pt:Pos}(hc:X.calm=ak)(ho:cU X o to)(hbase:a03 o "items" X.env (eval o X.env)=eval o X.env)(hline:(apos.endLine==cpos.line)=ak) :
  PI3 X (.Tuple es kt pt) (.Call (.Attribute o "items" apos) [] [] cpos) (mJ ak to):=a7F (SJ:=a2W X.K) hc ho hbase hline λ_ _ _ _ _=>afJ
def as3{pt:Pos}(hc:X.calm=ak)(ho:cU X o to)(hbase:a03 o "items" X.env (eval o X.env)=eval o X.env)(hline:(apos.endLine==cpos.line)=ak) :
  PIS X (.Tuple es kt pt) (.Call (.Attribute o "items" apos) [] [] cpos) (mJ ak to):=a7F (SJ:=λ_=>a0O X.K) hc ho hbase hline λ_ _ _ _ _=>afK
end
section
end
section
variable{pins:List (bx×Obj)}{s:dg}
def as4(I:Inv X pins σ H s)(d:IsD H a):∃od en ep,s.heap.get? a=aj od/\od.ExactDict/\od.data=.dict en ep/\(a==vd)=ao:=by
 rcases d with⟨kvs,e⟩|⟨kvs,e⟩
 .obtain⟨_,hd,vs,_,od,en,ep,h1,h2,h3,_⟩:=yL I.hok e;exact⟨od,en,ep,h1,h2,h3,hd⟩
 .obtain⟨_,hd,vs,_,od,en,ep,h1,h2,h3,_⟩:=a6J I.hok e;exact⟨od,en,ep,h1,h2,h3,hd⟩
end
end
section
open PySem.W
structure Tt(H H':Hp):Prop where
 tups:∀a xs,H a=aj (.tup xs)->H' a=aj (.tup xs)
 aEP:∀a o xs,H a=aj (.j6 o (.tup xs))->H' a=aj (.j6 o (.tup xs))
 aG1:∀a o φ,H a=aj (.j6 o (.ext φ))->H' a=aj (.j6 o (.ext φ))
def Tt.sqT{K:Fg}(t:Tt H H')(h:oG K H a xs):oG K H' a xs:=by
 rcases h with(h|⟨o,h⟩)|h
 .exact .inl (.inl (t.tups _ _ h))
 .exact .inl (.inr ⟨o,t.aEP _ _ _ h⟩)
 .exact .inr h
def aeP.gJ(t:Tt H H')(h:aeP H a xs):aeP H' a xs:=trivial
mutual
theorem RD.gJ{K:Fg}{H H':Hp}(t:Tt H H'):∀{d:D}{v:V},RD K H d v->RD K H' d v
 |_,_,.non=>.non
 |_,_,.bl b=>.bl b
 |_,_,.int i=>.int i
 |_,_,.str x=>.str x
 |_,_,.ty n=>.ty n
 |_,_,.ref a=>.ref a
 |_,_,.tup h r e=>.tup (t.sqT h) (cG.gJ t r) (e.gJ t)
theorem cG.gJ{K:Fg}{H H':Hp}(t:Tt H H'):∀{ds:List D}{vs:List V},cG K H ds vs->cG K H' ds vs
 |_,_,.nil=>.nil
 |_,_,.cons h r=>.cons (RD.gJ t h) (cG.gJ t r)
end
def SR.gJ{K:Fg}(t:Tt H H'):∀{ρ:aN}{σ:St},SR K H ρ σ->SR K H' ρ σ
 |_,_,.nil=>.nil
 |_,_,.none r=>.none (SR.gJ t r)
 |_,_,.some h r=>.some (h.gJ t) (SR.gJ t r)
def OR.aM0{K:Fg}(t:Tt H H')(h:OR K H a o)(k:∀u,H a=aj u->H' a=aj u):OR K H' a o:=by
 cases o with
 |lst ds=>obtain⟨xs,e,r⟩:=h;exact⟨xs,k _ e,r.gJ t⟩
 |rol ds =>
  obtain⟨xs,e,r⟩:=h;refine⟨xs,?_,r.gJ t⟩;rcases e with(e|⟨o,e⟩)|e
  .exact .inl (.inl (k _ e))
  .exact .inl (.inr ⟨o,k _ e⟩)
  .exact .inr e
 |jX b kvs =>
  rcases h with⟨z,xs,e,r⟩|⟨z,xs,e,r⟩
  .exact .inl ⟨z,xs,k _ e,r.imp λ_ _ q=>⟨q.1,q.2.gJ t⟩⟩
  .exact .inr ⟨z,xs,k _ e,r.imp λ_ _ q=>⟨q.1,q.2.gJ t⟩⟩
 |ins C fs=>obtain⟨dx,vs,e,r⟩:=h;exact⟨dx,vs,k _ e,r.imp λ_ _ q=>⟨q.1,q.2.gJ t⟩⟩
 |rdc ob b kvs =>
  rcases h with⟨z,xs,e,r⟩|⟨z,xs,e,r⟩
  .exact .inl ⟨z,xs,k _ e,r.imp λ_ _ q=>⟨q.1,q.2.gJ t⟩⟩
  .exact .inr ⟨z,xs,k _ e,r.imp λ_ _ q=>⟨q.1,q.2.gJ t⟩⟩
 |exn C=>obtain⟨o,vs,e,r⟩:=h;exact⟨o,vs,k _ e,r⟩
 |tpl ds=>obtain⟨xs,e,r⟩:=h;exact⟨xs,t.sqT e,r.gJ t⟩
 |qL kvs=>obtain⟨o,e,q⟩:=h;exact⟨o,k _ e,q.imp id λ⟨P,w,xs,e2,r⟩=>⟨P,w,xs,e2,Paired.ahY r λ_ _ z=>⟨z.1,t.sqT z.2.1,z.2.2⟩⟩⟩
 |tab q p=>obtain⟨ps,e,r⟩:=h;exact⟨ps,k _ e,r.keep t.aG1⟩
 |clo c d=>obtain⟨cc,c',doc,pm,ctv,ob,u,v,e1,e2,e3,e4,e5,e6⟩:=h;exact⟨cc,c',doc,pm,ctv,ob,u,v,k _ e1,e2.keep t.aG1,t.aG1 _ _ _ e3,e4,e5,e6.gJ t⟩
def as5{K:Fg}{t:Bool}(g:HR K H G)(e:G p=aj (.rdc od t kvs)) :
  ∃u,H p=aj (.j6 od u)/\(∀xs,u≠.tup xs)/\(∀ob w,u≠.j6 ob w)/\IsD H p/\Tt H (upd H p u)/\HR K (upd H p u) (aM G p (.jX t kvs)):=by
 have key:∀u,H p=aj (.j6 od u)->(∀xs,u≠.tup xs)->(∀φ,u≠.ext φ)->Tt H (upd H p u):=λu hu h1 h2=>by
  refine⟨λa xs q=>?_,λa o xs q=>?_,λa o φ q=>?_⟩
  .rw[aP];exact q;intro z;subst z;rw[hu]at q;cases q
  .rw[aP];exact q;intro z;subst z;rw[hu]at q;cases q;exact h1 xs rfl
  .rw[aP];exact q;intro z;subst z;rw[hu]at q;cases q;exact h2 φ rfl
 have rest:∀u,Tt H (upd H p u)->OR K (upd H p u) p (.jX t kvs)->HR K (upd H p u) (aM G p (.jX t kvs)):=λu tt new a v q=>by
  by_cases z:a=p
  .subst z;rw[aG]at q;obtain rfl:=jd.inj q;exact new
  .rw[bJ z]at q;exact(g a v q).aM0 tt λw y=>by rw[aP z];exact y
 rcases g p _ e with⟨z,xs,e2,tw⟩|⟨z,xs,e2,tw⟩
 .have tt:=key _ e2 (λxs z=>nomatch z) (λφ z=>nomatch z);exact⟨_,e2,(λxs z=>nomatch z),(λob w z=>nomatch z),.inl ⟨xs,.inr ⟨od,e2⟩⟩,tt,rest _ tt (.inl ⟨z,xs,aL,tw.imp λ_ _ q=>⟨q.1,q.2.gJ tt⟩⟩)⟩
 .have tt:=key _ e2 (λxs z=>nomatch z) (λφ z=>nomatch z);exact⟨_,e2,(λxs z=>nomatch z),(λob w z=>nomatch z),.inr ⟨xs,.inr ⟨od,e2⟩⟩,tt,rest _ tt (.inr ⟨z,xs,aL,tw.imp λ_ _ q=>⟨q.1,q.2.gJ tt⟩⟩)⟩
section
variable{pins:List (bx×Obj)}
def Inv.aiM(I:Inv X pins σ H s)(fz:Fz X p)(hu:H p=aj (.j6 od u))(h1:∀xs,u≠.tup xs)(isd:IsD H p):Inv X pins σ (upd H p u) s:=by
 have ne:∀{b:bx}{v:HO},H b=aj v->v≠.j6 od u->b≠p:=λe n z=>by subst z;rw[hu]at e;exact n (jd.inj e).symm
 have no:∀{b:bx},H b=aq->upd H p u b=aq:=λ{b} e=>by
  rw[aP];exact e;intro z;subst z;rw[hu]at e;cases e
 have kt:∀b xs,H b=aj (.tup xs)->upd H p u b=aj (.tup xs):=λb xs q=>by rw[aP (ne q λz=>nomatch z)];exact q
 have ko:∀b x,H b=aj (.own x)->upd H p u b=aj (.own x):=λb x q=>by rw[aP (ne q λz=>nomatch z)];exact q
 obtain⟨ho,hok⟩:=(show s.heap.get? p=aj od/\dM X.prog X.w H s.heap p u from I.hok p _ hu);refine⟨I.ok,I.os,I.bare,⟨I.base.keep,I.base.slot,λb ob q n hx=>?_,I.base.there,λb xs q=>kt b xs (I.base.tups b xs q),λb ob w q=>?_,λb ps q=>?_⟩,I.loc,I.cell,no I.free,λx c e=>no (I.lZ x c e),λq hq=>?_,λb v e=>?_,I.len,?_,λq hq=>kt _ _ (I.tup q hq)⟩
 .exact no (I.base.free b ob q n hx)
 .have:=I.base.j7 b ob w q;rw[aP];exact this;intro z;subst z;exact fz.j6 ob w q
 .obtain⟨more,e⟩:=I.base.v7 b ps q;exact⟨more,by rw[aP (ne e λz=>nomatch z)];exact e⟩
 .obtain⟨z1,z2,z3⟩:=I.pin q hq;exact⟨z1,no z2,z3⟩
 .by_cases hb:b=p
  .subst hb;rw[aL]at e;obtain rfl:=jd.inj e;exact hok.stay (λ_ _ _ q=>q) (λc q=>ko c _ q) λc xs q=>kt c xs q
  .rw[aP hb]at e;exact(I.hok b v e).stay (λ_ _ _ q=>q) (λc q=>ko c _ q) λc xs q=>kt c xs q
 .rcases I.hnd with z|⟨x,o,w,vs,a,b,c,d⟩
  .exact .inl z
  .refine .inr ⟨x,o,w,vs,a,?_,c,d⟩;rw[aP];exact b;intro z;subst z;rw[hu]at b;cases b;obtain⟨od',en,ep,o1,_,o3,_⟩:=as4 I isd;rw[ho]at o1;cases o1;rw[o3]at c;cases c
end
abbrev Src.aiM(G:Gp):Src->Gp
 |.itm p _ kvs=>aM G p (.jX ao kvs)
 |.key p _ t kvs=>aM G p (.jX t kvs)
 |_=>G
abbrev FzS(X:Cx):Src->Prop
 |.itm p _ _=>Fz X p
 |.key p _ _ _=>Fz X p
 |_=>True
abbrev aQE(X:Cx)(t:TI3):TI:=λσ H Q=>∃ρ G R,SR X.K H ρ σ/\HR X.K H G/\t ρ G R/\∀src J H' G',Ts H H'->HR X.K H' G'->(a0O X.K src J/\FzS X src)->R src G'->Q J H'
@[simp]def PIF(X:Cx)(tg iter:jc)(t:TI3):Prop:=PI X tg iter (aQE X t)
section
variable{X:Cx}
def as6{pt:Pos}(hc:X.calm=ak)(ho:cU X o to)(hbase:a03 o "items" X.env (eval o X.env)=eval o X.env)(hline:(apos.endLine==cpos.line)=ak) :
  PIF X (.Tuple es kt pt) (.Call (.Attribute o "items" apos) [] [] cpos) (mJ ao to):=a7F (SJ:=λ_ src J=>a0O X.K src J/\FzS X src) hc ho hbase hline λ_ _ _ _ z=>⟨afK,z rfl⟩
end
abbrev a5Y(ti:TI3)(tg:TG3)(tb:bC):bC:=λF ρ G=>ti ρ G λsrc G1=>∃P:Nat->aN->Gp->Prop,P 0 ρ G1/\(∀k ρ G,k<=src.items.length->P k ρ G->src.ok G) /\
 (∀k d ρ G,src.items[k]?=aj d->P k ρ G->tg d ρ λρ2=>tb {F with nx:=P (k+1),ct:=P (k+1),bk:=λρ G=>src.ok G/\F.nx ρ (src.aiM G)} ρ2 G)/\∀ρ G,P src.items.length ρ G->F.nx ρ (src.aiM G)
abbrev ThN(X:Cx)(E:cR)(σ:St)(H:Hp):Prop:=∃src ρ G,FzS X src/\SR X.K H ρ σ/\HR X.K H G/\src.ok G/\E.nx ρ (src.aiM G)
def as7{X:Cx}{F:Ends}(u:UpD X.K E F)(I:Inv X pins σ H s)(h:ThN X E σ H):∃H',Inv X pins σ H' s/\F.nx σ H':=by
 obtain⟨src,ρ,G,fz,sr,g,ok,q⟩:=h
 have one:∀{p:bx}{od:Obj}{t:Bool}{kvs:List (DK×D)},Fz X p->G p=aj (.rdc od t kvs)->E.nx ρ (aM G p (.jX t kvs))->∃H',Inv X pins σ H' s/\F.nx σ H':=λfz e q=>by
  obtain⟨w,hw,w1,w2,isd,tt,g'⟩:=as5 g e;exact⟨_,I.aiM fz hw w1 isd,u.nx _ _ _ _ (sr.gJ tt) g' q⟩
 cases src with
 |itm p o kvs=>exact one fz ok q
 |key p o t kvs=>exact one fz ok q
 |lst p xs=>exact⟨H,I,u.nx _ _ _ _ sr g q⟩
 |imm xs=>exact⟨H,I,u.nx _ _ _ _ sr g q⟩
 |zip p r xs ys=>exact⟨H,I,u.nx _ _ _ _ sr g q⟩
 |tpl p xs=>exact⟨H,I,u.nx _ _ _ _ sr g q⟩
 |enu p xs=>exact⟨H,I,u.nx _ _ _ _ sr g q⟩
 |enl p xs=>exact⟨H,I,u.nx _ _ _ _ sr g q⟩
section
variable{X:Cx}
private theorem ayR{ti:TI3}{tg:TG3}(hp:a2e (gk X.prog X.w) X.A X.env X.xe)(hi:PIF X tgt iter ti)(hg:PG3 X tgt tg)(hb:zO X body tb)
  (hs:∀x,a0w iter X.env x=pure x):PS3 X (.For tgt iter body [] pos) (a5Y ti tg tb):=by
 intro pins s σ H F I h _tk;obtain⟨ρ,G,E,sr,g,q,d⟩:=h;have key:=aq0 (pos:=pos) hp hi hg hb hs pins s σ H {F with nx:=ThN X E} I ⟨ρ,G,_,sr,g,q,λsrc J H1 G1 t1 g1 ⟨sj,fz⟩ ⟨P,p0,pok,pst,pend⟩=>?_⟩
 .refine cY key λf s' z=>?_;cases f with
  |next=>obtain⟨σ',H',J,z⟩:=z;obtain⟨H2,J2,z2⟩:=as7 d J z;exact⟨σ',H2,J2,z2⟩
  |brk=>obtain⟨σ',H',J,z⟩:=z;exact⟨σ',H',J,z⟩
  |cont=>obtain⟨σ',H',J,z⟩:=z;exact⟨σ',H',J,z⟩
  |ret w=>obtain⟨w,σ',H',J,r,z⟩:=z;exact⟨w,σ',H',J,r,z⟩
 .refine aeU (K:=X.K) (n:=src.items.length) (λk σ2 H2=>∃ρ' G',SR X.K H2 ρ' σ2/\HR X.K H2 G'/\P k ρ' G') ⟨ρ,G1,sr.mono t1,g1,p0⟩ (λσ2 H2 ⟨ρ',G',s2,g2,p⟩=>?_) (λk σ2 H2 hk ⟨ρ',G',s2,g2,p⟩=>?_) (λk y σ2 H2 H3 hk ⟨ρ',G',s2,g2,p⟩ hy=>?_)
   (λσ2 H2 ⟨ρ',G',s2,g2,p⟩=>⟨src,ρ',G',fz,s2,g2,pok _ ρ' G' (cu _) p,pend ρ' G' p⟩)
  .exact(sj H2 G' g2 (pok _ ρ' G' (cu _) p)).2.2
  .exact(sj H2 G' g2 (pok _ ρ' G' (vf hk) p)).1 k hk
  .obtain⟨sm,dk,e1,e2⟩:=(sj H2 G' g2 (pok _ ρ' G' (vf hk) p)).2.1 k y H3 hk hy;refine⟨ρ',dk,_,s2.mono (.same sm),e2,pst k dk ρ' G' e1 p,λρ2 σ3 s3 q3=>?_⟩;exact⟨ρ2,G',_,s3,g2.same sm,q3,⟨λρ4 G4 σ4 H4 s4 g4 q4=>⟨ρ4,G4,s4,g4,q4⟩,d.rt,λρ4 G4 σ4 H4 s4 g4 q4=>⟨src,ρ4,G4,fz,s4,g4,q4.1,q4.2⟩,λρ4 G4 σ4 H4 s4 g4 q4=>⟨ρ4,G4,s4,g4,q4⟩⟩⟩
end
end
section
open PySem.W
section
end
end
section
abbrev Ite(K:Fg)(a:bx):It :=
 ⟨λi H=>∃xs x,oG K H a xs/\xs[i]?=aj x,
  λi H v H'=>∃p x,H p=aq/\v=.ref p/\H'=upd H p (.tup [.int i,x])/\∀xs,oG K H a xs->xs[i]?=aj x,
  λi H=>∃xs,oG K H a xs/\xs.length=i⟩
abbrev aQF(e it l:bx)(i:Nat)(h:jf):Prop:=(∃old,IsEnum h e it i old)/\h.IsTupleIter it l i
def ao1{K:Fg}{pt:Pos}(hei:e≠it)(hl:l≠it)(hle:e≠l):Turn ak tl P w K (.Tuple es kt pt) (Ite K l) [e,it] e (aQF e it l) where
 mem:=by simp
 obj:=λi h st b hb=>by
  obtain⟨⟨old,he⟩,⟨o,e1,_,d1⟩⟩:=st;simp only[iy,ug,or_false]at hb;rcases hb with rfl|rfl
  .exact⟨_,he,λv z=>nomatch z⟩
  .exact⟨o,e1,λv z=>by rw[d1]at z;cases z⟩
 keep:=λi h h' st k=>by
  obtain⟨⟨old,he⟩,s1⟩:=st;exact⟨⟨old,k e (by simp) _ he⟩,s1.at λo x=>k it (by simp) o x⟩
 item:=by
  intro X hP hw hK hcm ht i pins s σ H E I hf st hg;subst hP hw hK;obtain⟨⟨old,he⟩,hit⟩:=st;obtain⟨xs,x,q,ex⟩:=hg;obtain⟨us,r,p,_⟩:=I.tuple q;obtain⟨u,hu,ru⟩:=r.get ex;have hlt:i<us.toArray.size:=by simpa using(fj.mp hu).1
  have fr:=I.hok.fresh (cu s.heap.objs.size);have lt:∀{c o},s.heap.get? c=aj o->s.heap.objs.size≠c:=λe=>yg (gV e);have n1:s.heap.objs.size≠it:=by obtain⟨_,e,_⟩:=hit;exact lt e
  have D:=aaH (prog:=X.prog) (w:=X.w) (A:=X.A.in1) (I.ok.hd (hcm rfl)) it l hl us.toArray;refine wpAny_pyNext_enum_itemD D he ⟨hit,p⟩ hlt hei (by simp[hei,hle]) λx' h' tk hx' ho st' hT hsz hk=>?_;have ex':x'=u:=by simpa[hu]using hx'.symm
  subst ex';refine⟨_,rfl,wpAny_letOwnedTupleGo_enum (s:={s with heap:=h',toks:=tk+1}) ho λh2 he2 sb=>?_⟩
  have k2:∀b o,b∉[e,it]->s.heap.get? b=aj o->h2.get? b=aj o:=λb o hb q =>
   sb.extBut _ _ (λz=>hb (by simp[z])) (hk b o (λz=>hb (by simp[z])) (λz=>hb (by simp[z])) q)
  refine⟨.ref s.heap.objs.size,upd H s.heap.objs.size (.tup [.int i,x]),I.xR (t':=tk+1) (ch:=[e,it]) k2 hf (cu _) ⟨show 2<=dh by decide,[.int i tk,x'],.cons ⟨tk,rfl⟩ (.cons ru .nil),⟨_,sb.extBut _ _ (lt he) hT,rfl,_,rfl⟩⟩,rfl,
   ⟨_,x,fr,rfl,rfl,λxs' q'=>by rw[I.xO q' q];exact ex⟩,⟨⟨x',by simpa using he2⟩,st'.1.extBut sb.extBut (Ne.symm hei)⟩,λb hb=>?_⟩
  have hb2:=hb;simp only[iy,ug,or_false]at hb2;rw[aP]
  .exact(hf b hb).1
  .intro q;rcases hb2 with e|e
   .exact lt he (q.symm.trans e)
   .exact n1 (q.symm.trans e)
 done:=by
  intro X hP hw hK hcm ht i pins s σ H E I hf st hg;subst hP hw hK;obtain⟨⟨old,he⟩,hit⟩:=st;obtain⟨xs,q,hl2⟩:=hg;obtain⟨us,r,p,_⟩:=I.tuple q;have hn:us.toArray.size=i:=by rw[gq,←r.length];exact hl2
  have D:=aaH (prog:=X.prog) (w:=X.w) (A:=X.A.in1) (I.ok.hd (hcm rfl)) it l hl us.toArray;exact wpAny_pyNext_enum_endD D he ⟨hn ▸ hit,p⟩ λh' hx=>⟨rfl,I.a0P (t':=s.toks) (ch:=[e,it]) (λb o hb q=>hx b o (λz=>hb (by simp[z])) q) hf⟩
 self:=λ_ _ _ _ _ st h=>a2m st.1.choose_spec h
def a0U{xs:List D}:(enm xs).length=xs.length:=by simp[enm]
def acW{i:Nat}{x:D}(h:xs[i]?=aj x):(enm xs)[i]?=aj (.tup [.int i,x]):=by
 unfold enm;rw[kj,List.getElem?_zipIdx,h];simp
def as8{K:Fg}:a0O K (.enu p xs) (Ite K p):=λH2 G2 g ok=>by
 obtain⟨vs,hq,rv⟩:=g p _ ok;have hl:(Src.enu p xs).items.length=xs.length:=a0U;refine⟨λi hi=>?_,λi v H' hi hy=>?_,⟨vs,hq,by rw[hl];exact rv.length.symm⟩⟩
 .rw[hl]at hi;obtain⟨y,e1,_⟩:=rv.get (cg hi);exact⟨vs,y,hq,e1⟩
 .obtain⟨a,x,fr,rfl,rfl,h1⟩:=hy;obtain⟨d,e1,e2⟩:=rv.aeR (h1 vs hq);have sn:Same H2 (upd H2 a (.tup [.int i,x])):=bV fr;exact⟨sn,.tup [.int i,d],acW e1,.tup (oG.of aL) (.cons (.int i) (.cons (e2.mono (.same sn)) .nil)) (aeQ aL)⟩
abbrev Itm(K:Fg)(a:bx):It :=
 ⟨λi H=>∃xs x,qK K H a xs/\xs[i]?=aj x,
  λi H v H'=>∃p x,H p=aq/\v=.ref p/\H'=upd H p (.tup [.int i,x])/\∀xs,qK K H a xs->xs[i]?=aj x,
  λi H=>∃xs,qK K H a xs/\xs.length=i⟩
abbrev aQG(e it l:bx)(i:Nat)(h:jf):Prop:=(∃old,IsEnum h e it i old)/\h.IsListIter it l i
def ao2{K:Fg}{pt:Pos}(hei:e≠it)(hl:l≠it)(hle:e≠l):Turn ak tl P w K (.Tuple es kt pt) (Itm K l) [e,it] e (aQG e it l) where
 mem:=by simp
 obj:=λi h st b hb=>by
  obtain⟨⟨old,he⟩,⟨o,e1,_,d1⟩⟩:=st;simp only[iy,ug,or_false]at hb;rcases hb with rfl|rfl
  .exact⟨_,he,λv z=>nomatch z⟩
  .exact⟨o,e1,λv z=>by rw[d1]at z;cases z⟩
 keep:=λi h h' st k=>by
  obtain⟨⟨old,he⟩,s1⟩:=st;exact⟨⟨old,k e (by simp) _ he⟩,s1.at λo x=>k it (by simp) o x⟩
 item:=by
  intro X hP hw hK hcm ht i pins s σ H E I hf st hg;subst hP hw hK;obtain⟨⟨old,he⟩,hit⟩:=st;obtain⟨xs,x,q,ex⟩:=hg;obtain⟨us,r,p,_⟩:=I.list q;obtain⟨u,hu,ru⟩:=r.get ex;have hlt:i<us.toArray.size:=by simpa using(fj.mp hu).1
  have fr:=I.hok.fresh (cu s.heap.objs.size);have lt:∀{c o},s.heap.get? c=aj o->s.heap.objs.size≠c:=λe=>yg (gV e);have n1:s.heap.objs.size≠it:=by obtain⟨_,e,_⟩:=hit;exact lt e
  have D:=Draws.list (prog:=X.prog) (w:=X.w) (A:=X.A.in1) (I.ok.hd (hcm rfl)) it l hl us.toArray;refine wpAny_pyNext_enum_itemD D he ⟨hit,p.isList⟩ hlt hei (by simp[hei,hle]) λx' h' tk hx' ho st' hT hsz hk=>?_;have ex':x'=u:=by simpa[hu]using hx'.symm
  subst ex';refine⟨_,rfl,wpAny_letOwnedTupleGo_enum (s:={s with heap:=h',toks:=tk+1}) ho λh2 he2 sb=>?_⟩
  have k2:∀b o,b∉[e,it]->s.heap.get? b=aj o->h2.get? b=aj o:=λb o hb q =>
   sb.extBut _ _ (λz=>hb (by simp[z])) (hk b o (λz=>hb (by simp[z])) (λz=>hb (by simp[z])) q)
  refine⟨.ref s.heap.objs.size,upd H s.heap.objs.size (.tup [.int i,x]),I.xR (t':=tk+1) (ch:=[e,it]) k2 hf (cu _) ⟨show 2<=dh by decide,[.int i tk,x'],.cons ⟨tk,rfl⟩ (.cons ru .nil),⟨_,sb.extBut _ _ (lt he) hT,rfl,_,rfl⟩⟩,rfl,
   ⟨_,x,fr,rfl,rfl,λxs' q'=>by rw[I.a05 q' q];exact ex⟩,⟨⟨x',by simpa using he2⟩,st'.1.extBut sb.extBut (Ne.symm hei)⟩,λb hb=>?_⟩
  have hb2:=hb;simp only[iy,ug,or_false]at hb2;rw[aP]
  .exact(hf b hb).1
  .intro q;rcases hb2 with e|e
   .exact lt he (q.symm.trans e)
   .exact n1 (q.symm.trans e)
 done:=by
  intro X hP hw hK hcm ht i pins s σ H E I hf st hg;subst hP hw hK;obtain⟨⟨old,he⟩,hit⟩:=st;obtain⟨xs,q,hl2⟩:=hg;obtain⟨us,r,p,_⟩:=I.list q;have hn:us.toArray.size=i:=by rw[gq,←r.length];exact hl2
  have D:=Draws.list (prog:=X.prog) (w:=X.w) (A:=X.A.in1) (I.ok.hd (hcm rfl)) it l hl us.toArray;exact wpAny_pyNext_enum_endD D he ⟨hn ▸ hit,p.isList⟩ λh' hx=>⟨rfl,I.a0P (t':=s.toks) (ch:=[e,it]) (λb o hb q=>hx b o (λz=>hb (by simp[z])) q) hf⟩
 self:=λ_ _ _ _ _ st h=>a2m st.1.choose_spec h
def as9{K:Fg}:a0O K (.enl p xs) (Itm K p):=λH2 G2 g ok=>by
 obtain⟨vs,hq,rv⟩:=c7 g ok;have hl:(Src.enl p xs).items.length=xs.length:=a0U;refine⟨λi hi=>?_,λi v H' hi hy=>?_,⟨vs,hq,by rw[hl];exact rv.length.symm⟩⟩
 .rw[hl]at hi;obtain⟨y,e1,_⟩:=rv.get (cg hi);exact⟨vs,y,hq,e1⟩
 .obtain⟨a,x,fr,rfl,rfl,h1⟩:=hy;obtain⟨d,e1,e2⟩:=rv.aeR (h1 vs hq);have sn:Same H2 (upd H2 a (.tup [.int i,x])):=bV fr;exact⟨sn,.tup [.int i,d],acW e1,.tup (oG.of aL) (.cons (.int i) (.cons (e2.mono (.same sn)) .nil)) (aeQ aL)⟩
abbrev a3I(ta:qM):TI3:=λρ G R=>ta ρ G λxs G1=>match xs with
 |[.tup ds]=>ds.all scD=ak/\∀a,(G1 a=aq∨G1 a=aj (.tpl ds))->R (.enu a ds) (aM G1 a (.tpl ds))
 |[.ref a]=>∃ds,aQ G1 a=aj ds/\R (.enl a ds) G1
 |_=>False
section
variable{X:Cx}{kt:Nat}{pt:Pos}
private theorem al0(hc:X.calm=ak)(hg:Gl X "enumerate")(hm:X.mg "enumerate"=aq)(hv:jw "enumerate"=aj (.type "enumerate"))(ha:PA3 X [a] ta)(hs:jt [a] X.env=[(ao,eval a X.env)]):PIS X (.Tuple es kt pt) (.Call (.Name "enumerate" p) [a] [] pos) (a3I ta):=by
 intro pins s σ H R I h _tk;obtain⟨ρ,G,R3,sr,g,q,k⟩:=h
 refine Call_ (sI I hg hm hv (PyProof.Rows.callWith_type1 (cY (ha pos pins s σ H (λvs H1=>Ts H H1/\∃ds G1,cG X.K H1 ds vs/\HR X.K H1 G1/\(match ds with
  |[.tup ds]=>ds.all scD=ak/\∀a,(G1 a=aq∨G1 a=aj (.tpl ds))->R3 (.enu a ds) (aM G1 a (.tpl ds))
  |[.ref a]=>∃ds,aQ G1 a=aj ds/\R3 (.enl a ds) G1
  |_=>False)) I ⟨ρ,G,_,sr,g,q,λvs H1 ds G1 t1 r1 g1 q1=>⟨t1,ds,G1,r1,g1,q1⟩⟩) λus s1 ⟨vs,H1,I1,rr,t1,ds,G1,r1,g1,q1⟩=>?_) hs rfl))
 split at q1
 .rename_i ds;obtain⟨sc,q1⟩:=q1;cases r1 with
  |cons ra rb =>
   cases rb;cases ra with
   |@tup l xs _ hq rv =>
    cases rr with
    |cons ru rn =>
     cases rn;cases ru;obtain⟨its,rv',pp,hz⟩:=I1.tuple hq;obtain⟨hG,g2⟩:=akS I1 g1 hq rv sc;have al:l<s1.heap.objs.size:=pp.lt;refine a9K (show s1.heap.IsTuple l its.toArray from pp) λh' he hi hsz kk=>a2m (s:={s1 with heap:=h' }) he ?_;refine⟨_,_,_,_,H1,rfl,I1.kept (t':=s1.toks) kk,(show Turn X.calm X.tp X.prog X.w X.K (.Tuple es kt pt) _ _ _ _ from hc ▸ ao1 (e:=s1.heap.objs.size+1) (it:=s1.heap.objs.size) (l:=l) (Nat.succ_ne_self _) (jg al) (yg (a1m al))),⟨⟨_,he⟩,hi⟩,λb hb=>?_,k _ _ H1 _ t1 g2 as8 (q1 l hG)⟩
     have hb':s1.heap.objs.size<=b:=by
      simp only[iy,ug,or_false]at hb;rcases hb with e|e<;>rw[e]
      .exact a1b _ _
      .exact cu _
     exact I1.v9 hb' (I1.hok.fresh hb')
 .rename_i l;obtain⟨ds,e1,q1⟩:=q1;cases r1 with
  |cons ra rb =>
   cases rb;cases ra;cases rr with
   |cons ru rn =>
    cases rn;cases ru;obtain⟨xs,hq,rv⟩:=c7 g1 e1;obtain⟨its,rv',pp,hz⟩:=I1.list hq
    have al:l<s1.heap.objs.size:=by
     obtain⟨o,ho,_⟩:=pp.isList;exact gV ho
    refine call_enumerate_list pp.isList λh' he hi hsz kk=>a2m (s:={s1 with heap:=h' }) he ?_;refine⟨_,_,_,_,H1,rfl,I1.kept (t':=s1.toks) kk,(show Turn X.calm X.tp X.prog X.w X.K (.Tuple es kt pt) _ _ _ _ from hc ▸ ao2 (e:=s1.heap.objs.size+1) (it:=s1.heap.objs.size) (l:=l) (Nat.succ_ne_self _) (jg al) (yg (a1m al))),⟨⟨_,he⟩,hi⟩,λb hb=>?_,k _ _ H1 _ t1 g1 as9 q1⟩
    have hb':s1.heap.objs.size<=b:=by
     simp only[iy,ug,or_false]at hb;rcases hb with e|e<;>rw[e]
     .exact a1b _ _
     .exact cu _
    exact I1.v9 hb' (I1.hok.fresh hb')
 .exact q1.elim
abbrev ltP(a:Int)(ns:List Int)(b:Int)(ms:List Int):Bool:=if a=b then(if ns=ms then ao else HT.lexLt ns ms)else decide (a<b)
abbrev acX:List D->Gp->eV->Prop:=λxs G R=>∃(a b:Int)(ns ms:List Int),xs=[.tup [.int a,.tup (ns.map D.int)],.tup [.int b,.tup (ms.map D.int)]]/\R (if ltP b ms a ns then .tup [.int b,.tup (ms.map D.int)]else .tup [.int a,.tup (ns.map D.int)]) G
def xU{K:Fg}:∀{ns:List Int}{vs:List V},cG K H (ns.map D.int) vs->vs=ns.map V.int
 |[],_,.nil=>rfl
 |n::ns,_,.cons r rr=>by cases r;rw[xU rr];rfl
def aaZ:∀(ns ms:List Int),fV (ns.map D.int) (ms.map D.int)=decide (ns=ms)
 |[],[]=>rfl
 |[],_::_=>rfl
 |_::_,[]=>rfl
 |n::ns,m::ms=>by
  show(eqP (.int n) (.int m)&&fV (ns.map D.int) (ms.map D.int))=_;rw[aaZ ns ms];have:eqP (.int n) (.int m)=decide (n=m):=by rw[eqP];exact Bool.eq_iff_iff.mpr (by simp)
  rw[this];simp[Bool.decide_and]
def ab0(n:Nat)(ns:List Int):bB (n+1) (.tup (ns.map D.int))=ak:=by
 simp only[bB,jl,iw];rintro x ⟨i,_,rfl⟩;cases n<;>rfl
def aG2(hc:X.calm=ak)(hu:X.A.units+64<ni):cI X (.builtin "min") acX:=by
 intro pins s σ H xs vs us G R Q I rx rv g q k;obtain⟨a,b,ns,ms,rfl,q⟩:=q
 .cases rx with
  |cons r1 rx =>
  cases rx with
  |cons r2 rx =>
  cases rx;have R1:=r1;have R2:=r2;cases r1 with
  |@tup l1 xs1 _ sq1 rr1 ct1 =>
  cases r2 with
  |@tup l2 xs2 _ sq2 rr2 ct2 =>
  cases rr1 with
  |cons i1 rr1 =>
  cases rr1 with
  |cons t1 rr1 =>
  cases rr1;cases rr2 with
  |cons i2 rr2 =>
  cases rr2 with
  |cons t2 rr2 =>
  cases rr2;have T1:=t1;have T2:=t2;cases i1;cases i2;cases t1 with
  |@tup m1 ys1 _ sm1 rs1 =>
  cases t2 with
  |@tup m2 ys2 _ sm2 rs2 =>
  cases rv with
  |cons v1 rv =>
  cases rv with
  |cons v2 rv =>
  cases rv;cases v1;cases v2;obtain rfl:=xU rs1;obtain rfl:=xU rs2;refine aeO (k:=ltP b ms a ns) (I.ok.hd hc) (λh2 tk Q2 E2 kk hQ=>?_) λh' tk kk=>?_
  .have I2:Inv X pins σ H {s with heap:=h2,toks:=tk}:=I.kept kk;obtain⟨j1,w1,p1,_⟩:=I2.tuple sq1;obtain⟨j2,w2,p2,_⟩:=I2.tuple sq2;obtain⟨z1,y1,q1,_⟩:=I2.tuple sm1;obtain⟨z2,y2,q2,_⟩:=I2.tuple sm2;cases w1 with
   |cons a1 w1 =>
   cases w1 with
   |cons a2 w1 =>
   cases w1;cases w2 with
   |cons b1 w2 =>
   cases w2 with
   |cons b2 w2 =>
   cases w2;obtain⟨tA,rfl⟩:=a1;obtain⟨tB,rfl⟩:=b1;cases a2;cases b2;obtain⟨⟨c1,dd1,data1,sl1⟩,ho1,hc1,n1,hd1⟩:=id p1;obtain⟨⟨c2,dd2,data2,sl2⟩,ho2,hc2,n2,hd2⟩:=id p2;simp only at hc1 hd1 hc2 hd2;subst hc1 hd1 hc2 hd2
   have e1:∀(A:jr),A.units+8<ni->SeqAt.EqAt A {s with heap:=h2,toks:=tk} (.int b tB) (.int a tA) (decide (b=a)):=λA hA=>by
    have:=a2U I2 8 A (.int b) (.int a) (.int b) (.int a) (.int b tB) (.int a tA) hA rfl rfl (.int b) (.int a) ⟨tB,rfl⟩ ⟨tA,rfl⟩;have e:eqP (.int b) (.int a)=decide (b=a):=by rw[eqP];exact Bool.eq_iff_iff.mpr (by simp)
    rw[e]at this;exact this
   have e2:∀(A:jr),A.units+8<ni->SeqAt.EqAt A {s with heap:=h2,toks:=tk} (.ref m2) (.ref m1) (decide (ms=ns)):=λA hA=>by
    have:=a2U I2 8 A _ _ _ _ (.ref m2) (.ref m1) hA (ab0 7 ms) (ab0 7 ns) T2 T1 rfl rfl;rw[eqP,aaZ]at this;exact this
   refine richCompare_meets_room (op:=.Lt) ⟨_,ho2,rfl⟩ ⟨_,ho1,rfl⟩ PySem.F.slot_tuple_lt PySem.F.entry_tuple_lt (PySem.F.args_tuple_lt_2 _ _) (ac6 l2 l1 (.int b tB) (.ref m2) (.int a tA) (.ref m1) n2 n1 dd2 dd1 sl2 sl1 (decide (b=a)) (decide (ms=ns)) (decide (b<a)) (HT.lexLt ms ns))
    ⟨ho2,ho1,e1 _ ?_,e2 _ ?_,λ_ prog w E Q h=>HT.a6M _ _ b tB a tA prog w E Q h,λ_ _ prog w E Q h=>HT.ai5 q2 q1 (intsAre_of y2) (intsAre_of y1) ?_ h,(λx=>nomatch x),?_⟩ ?_
   .show X.A.units+1+1+8<ni;omega
   .show X.A.units+1+1+8<ni;omega
   .show X.A.units+1+1<ni;omega
   .have e:(if decide (b=a)=ak then(if decide (ms=ns)=ak then ao else HT.lexLt ms ns)else decide (b<a))=ltP b ms a ns:=by
     unfold ltP;simp only[decide_eq_true_eq]
    rw[e];exact hQ
   .show X.A.units+1<ni;omega
  .cases e:ltP b ms a ns with
   |true =>
    rw[e]at q;exact⟨.ref l2,H,I.kept kk,rfl,k _ H _ G (.refl H) R2 g (by simpa using q)⟩
   |false =>
    rw[e]at q;exact⟨.ref l1,H,I.kept kk,rfl,k _ H _ G (.refl H) R1 g (by simpa using q)⟩
end
end
section
section
open Classical in
end
end
section
open PySem.W
section
end
section
end
end
section
open PySem.W
section
variable{X:Cx}
abbrev VS:List Str->List V->List (bh×bh)->Prop
 |[],[],[]=>True
 |k::ks,w::ws,u::us=>(∃t,u.1=.str k t)/\RelV w u.2/\VS ks ws us
 |_,_,_=>False
abbrev PDs(X:Cx)(pos:Pos)(keys:List (Option jc))(values:List jc)(ks:List Str)(t:qM):Prop :=
 ∀(pins:List (bx×Obj))(s:dg)(σ:St)(H:Hp)(Q:List V->Hp->Prop),Inv X pins σ H s->upA X.K t σ H Q->[Tk X.need s] ->
  dj (gk X.prog X.w) X.A (evalPairs (pairTrees keys values X.env pos)) (λus s'=>∃ws H',Inv X pins σ H' s'/\VS ks ws us/\Q ws H') X.xe s
def ayS:PDs X pos [] [] [] aC:=λpins s σ H Q I h=>by
 obtain⟨ρ,G,R,sr,g,q,kk⟩:=h;exact pairTrees_nil_walk ⟨[],H,I,trivial,kk [] H [] G (.refl H) .nil g q⟩
def asA{j1:Nat}{k:Str}{t:qM}(hv:cU X v tv)(hr:PDs X pos keys values ks t) :
  PDs X pos (aj (.Constant (.str k) j1 p1)::keys) (v::values) (k::ks) (aB tv t):=λpins s σ H Q I h=>by
 obtain⟨ρ,G,R,sr,g,q,kk⟩:=h;refine pairTrees_cons_walk (Calls.Constant_str (k:=j1) (pos:=p1) ?_);refine cY (hv pins _ σ H (λvv H1=>Ts H H1/\∃d G1,RD X.K H1 d vv/\HR X.K H1 G1/\t ρ G1 λds G2=>R (d::ds) G2) (I.tok _) ⟨ρ,G,_,sr,g,q,λvv H1 d G1 t1 r1 g1 q1=>⟨t1,d,G1,r1,g1,q1⟩⟩) ?_;rintro uv s2 ⟨vv,H1,I1,rv,t1,d,G1,rd,g1,q1⟩;exact cY (hr pins s2 σ H1 (λws H2=>Ts H1 H2/\∃ds G2,cG X.K H2 ds ws/\HR X.K H2 G2/\R (d::ds) G2) I1 ⟨ρ,G1,_,sr.mono t1,g1,q1,λws H2 ds G2 t2 r2 g2 q2=>⟨t2,ds,G2,r2,g2,q2⟩⟩) (by rintro us s3 ⟨ws,H2,I2,vs,t2,ds,G2,rds,g2,q2⟩;exact⟨vv::ws,H2,I2,⟨⟨_,rfl⟩,rv,vs⟩,kk (vv::ws) H2 (d::ds) G2 (t1.trans t2) (.cons (rd.mono t2) rds) g2 q2⟩)
end
end
section
open PySem.W
structure asB(qt:Bool)(P:ju)(w:jq)(K:iu)(mg:Str->Option bh)(base:jf)(CX:CXT)(k:Nat)(f:bx)(fd:jy)(ps:List Str)(sp:Sp):Prop where
 len:∀vs H Q E,sp vs H Q E->vs.length=ps.length
 run:∀(A:jr)(outer:List Env)(s:dg)(H:Hp)(args:Args)(us:List bh)(vs:List V)(Q:VK)(E:XK),fQ qt k A->a5B P w K mg base A outer s H->BindsTo s fd args (ps.zip us)->Vals vs us->sp vs H Q E->0<s.toks ->
  zm (gk P w) A (.call (.ref f) args) (CR CX outer P w H s Q E) s
def asB.mono{qt:Bool}{w:jq}{K:iu}{mg:Str->Option bh}{base:jf}{j k:Nat}(F:asB qt P w K mg base CX j f fd ps sp)(h:j<=k):asB qt P w K mg base CX k f fd ps sp :=
 ⟨F.len,λA outer s H args us vs Q E hr=>F.run A outer s H args us vs Q E (hr.mono h)⟩
section
end
end
section
open PySem.W
section
end
end
section
open PySem.W
section
variable{X:Cx}{pins:List (bx×Obj)}{s:dg}
def ayT(I:Inv X pins σ H s)(r:RD X.K H (.tup (ns.map D.int)) (.ref b)):∃its,IsTup s.heap b its/\a0e its.toList ns:=by
 cases r with
 |@tup _ ys _ hb rbs eb =>
  obtain⟨its,vi,p,_⟩:=I.tuple hb;have e:ys=ns.map V.int:=xU rbs;subst e;exact⟨its.toArray,p,by simpa using intsAre_of vi⟩
end
end
section
open PySem.W
structure qQ where
 qual:Str
 params:Arguments
 body:jc
 scope:ur
 x:Str
 pos:Pos
abbrev vQ(qt:Bool)(P:ju)(w:jq)(K:Fg)(mg:Str->Option bh)(base:jf)(k:Nat)(c:qQ)(sp:fU):Prop :=
 ∀(A:jr)(outer:List Env)(s:dg)(H:Hp)(us:List bh)(vs:List V)(ds:List D)(d:D)(G:Gp)(R:eV)(E:XK)(f cc c':bx)(pm ctv u:bh)(vv:V),fQ qt k A->a5B P w K mg base A outer s H->HR K H G->H f=aj (frO (kla_obj "<lambda>" c.qual c.params c.body c.scope [(c.x,cc)] pm c' ctv))->yN H c' c.qual ->
  s.heap.IsCell cc (aj u)->H cc=aq->RelV vv u->RD K H d vv->Vals vs us->cG K H ds vs->sp (d::ds) G R (λ_ _=>False) ->
  zm (gk P w) A (.call (.ref f) ⟨us,[]⟩) (CR (j9 P w) outer P w H s (λv H'=>∃d' G2,RD K H' d' v/\HR K H' G2/\R d' G2) E) s
abbrev spL(n m:Nat)(te:cO):fU:=λds G R _=>ds.length=m/\te (sU n ds) G R
def aG3{qt:Bool}{K:Fg}{mg:Str->Option bh}{base:jf}{k:Nat}{c:qQ}{ps:List Str}(S:ScX N ps c.x c.scope)(a6S:∀y∈c.scope.names,y.1=c.x->y.2≠.cell)
  (hb:∀(cl:List (Str×bx))(pm cdv ctv:bh)(us:List bh),us.length=ps.length->za (kla_fn "<lambda>" c.qual c.params c.body c.scope cl pm cdv ctv) ⟨us,[]⟩=pure (ps.zip us))
  (hbody:∀(f c' cc:bx)(A:jr)(outer:List Env)(s:dg)(H:Hp),fQ qt k (A.deeper (nD c.qual c.scope s.heap.objs.size f (.ref c') [(c.x,cc)])) ->
   cU (cxX qt (j9 P w) P w K mg base N c.qual c.scope f (.ref c') c.x cc A outer s H (λ_ _ _=>False)) c.body te) :
  vQ qt P w K mg base (k+1) c (spL N.length (ps.length+1) te):=by
 intro A outer s H us vs ds d G R E f cc c' pm ctv u vv hr e0 g hf rc hc hH rv rd rvs rds hsp;obtain⟨hl,hq⟩:=hsp;have hl':vs.length=ps.length:=by rw[←rds.length];simpa using hl
 refine axE S a6S hr e0 hf rc hc hH rv (hb _ _ _ _ us (by rw[←rvs.length];exact hl')) rvs hl' (λe s' z=>?_) λhr2=>?_
 .exact z
 .refine⟨_,hbody f c' cc A outer s H hr2,sU N.length (d::ds),G,_,?_,g,hq,λv H' d' G' _ r1 g1 q1=>⟨d',G',r1,g1,q1⟩⟩;unfold sU start;rw[show(d::ds).length=(vv::vs).length by simp[rds.length]];exact SR.entry (.cons rd rds)
section
variable{X:Cx}{pins:List (bx×Obj)}{σ:St}{H:Hp}{s:dg}{h':jf}
def Inv.asC{a:bx}{o:HO}(I:Inv X pins σ H s)(k:∀b u,b∉ch->s.heap.get? b=aj u->h'.get? b=aj u)(hc:∀b∈ch,mD X pins H b)(ha:a∈ch)(new:dM X.prog X.w (upd H a o) h' a o):Inv X pins σ (upd H a o) {s with heap:=h',toks:=t' }:=by
 have nit:∀b u,H b=aj u->b∉ch:=λb u e z=>by rw[(hc b z).1]at e;cases e
 have fr:H a=aq:=(hc a ha).1;have sn:Same H (upd H a o):=bV fr;refine I.step (g':=s.gens) (d':=s.drawn) (ch:=ch) (λb hb=>?_) (λb o _ _ hn e _=>k b o hn e) (λb o _ _ hn e _=>⟨o.slots,k b o hn e⟩) (λb u hn e n=>by rw[aP (show b≠a from λz=>hn (by rw[z];exact ha))];exact n) (λb o hn e=>⟨o,k b o hn e⟩) (λb xs e=>sn _ _ e) (λb o u e=>sn _ _ e) (λb ps e=>⟨#[],by rw[sn _ _ e];simp⟩) (λm hm=>?_) (λb u e=>?_) I.bare
 .obtain⟨_,f1,_,f3,f4,f5⟩:=hc b hb;exact⟨f3,f1,f4,f5⟩
 .obtain⟨o,es,ep,ho,r⟩:=hm;exact⟨o,es,ep,k _ o (λz=>(hc _ z).2.1 rfl) ho,r⟩
 .by_cases hb:b=a
  .subst hb;rw[aL]at e;cases e;exact new
  .rw[aP hb]at e;refine(I.hok b u e).stay (λc v hcc q=>k c v ?_ q) (λ_ q=>sn _ _ q) λ_ _ q=>sn _ _ q;rcases hcc with z|z
   .rw[z];exact nit b u e
   .exact nit c _ z
def mD.nfr(I:Inv X pins σ H s)(h:mD X pins H b):b∉frs X.stack:=by
 rcases I.ok.stk with e|⟨e,hf⟩
 .rw[e];exact h.2.2.1
 .rw[e];unfold frs;rw[a1y,hf];intro z;rcases iy.mp z with z|z
  .exact h.2.1 z
  .exact h.2.2.1 z
def mD.un(h:mD X pins H b)(e:s.heap.get? b=aj o)(u:Un (frs X.stack) [] H H' s.heap s'.heap):mD X pins H' b:=⟨u.free b o e h.1 (by simp),h.2⟩
abbrev a4D(X:Cx)(c:qQ)(f c' cc:bx)(H:Hp):Prop:=(∃ctv,H f=aj (frO (kla_obj "<lambda>" c.qual c.params c.body c.scope [(c.x,cc)] ((X.mg "__name__").getD .none) c' ctv)))/\yN H c' c.qual
def a4D.un{fs ex:List bx}(l:a4D X c f c' cc H)(u:Un fs ex H H' h1 h2):a4D X c f c' cc H':=by
 obtain⟨⟨ctv,e⟩,r⟩:=l;exact⟨⟨ctv,u.j7 _ _ _ e⟩,r.keep λa o φ q=>u.j7 _ _ _ q⟩
variable{qt:Bool}{k ix:Nat}{c:qQ}
private theorem asD(LO:vQ qt X.prog X.w X.K X.mg X.base k c sp)(hr:fQ qt k X.A.in1.in1)(I:Inv X pins σ H s)(g:HR X.K H G)(la:a4D X c f c' cc H)(hcc:X.env.cells.lookup c.x=aj cc)(hN:X.N[ix]?=aj c.x)(hx:X.env.scope.names.lookup c.x=aj .cell)(hv:σ[ix]?=aj (aj vc))(rdc:RD X.K H dx vc)(ru:RelV v u)(rd:RD X.K H d v)(q:sp [dx,d] G R (λ_ _=>False)) :
  dj (gk X.prog X.w) X.A.in1.in1 (call (.ref f) [u]) (λku s'=>∃kv H' kd G',Inv X pins σ H' s'/\Un (frs X.stack) [] H H' s.heap s'.heap/\RelV kv ku/\RD X.K H' kd kv/\HR X.K H' G'/\R kd G') (λ_ _=>False) s:=by
 obtain⟨⟨ctv,hf⟩,rc⟩:=la;obtain⟨m,hn,hl⟩:=I.loc;obtain⟨uc,ruc,lk⟩:=hl ix c.x vc hN hv (.inr (.inl hx))
 have hcell:s.heap.IsCell cc (aj uc):=by
  rcases lk with⟨kl,_⟩|⟨_,c0,e0,z⟩
  .have kl:X.env.scope.names.lookup c.x=aj .local:=kl;rw[hx]at kl;cases kl
  .rw[hcc]at e0;cases e0;exact z
 have e1:=I.env0;refine wpAny_call (codeAny_mono (LO X.A.in1.in1 X.stack s H [u] [v] [d] dx G R (λ_ _ _=>False) f cc c' _ ctv uc vc hr ⟨e1.frames,e1.mod,e1.bs,e1.bsz,e1.v8,e1.frf,e1.hok,e1.bare,e1.hnd⟩ g hf rc hcell (I.lZ _ _ hcc) ruc rdc (.cons ru .nil) (.cons rd .nil) q) λr s' hq=>?_);cases r with
 |error e =>
  exact hq.elim
 |ok fl =>
  cases fl with
  |ret u =>
   obtain⟨v,H',os,bare,un,hok,r,d',G2,r2,g2,q2⟩:=hq;exact⟨v,H',d',G2,I.call' (ch:=[]) os un hok bare (λb z=>absurd z (by simp)),un,r,r2,g2,q2⟩
  |next=>exact False.elim hq
  |brk=>exact False.elim hq
  |cont=>exact False.elim hq
end
abbrev vR(sp:fU)(dx:D)(C:List D->Gp->Prop):List D->List D->Gp->Prop
 |[],ks,G=>C ks G
 |d::ds,ks,G=>sp [dx,d] G (λk G'=>vR sp dx C ds (ks++[k]) G') (λ_ _=>False)
def Vals.snoc(h:RelV v u):∀{vs:List V}{us:List bh},Vals vs us->Vals (vs++[v]) (us++[u])
 |_,_,.nil=>.cons h .nil
 |_,_,.cons a r=>.cons a (Vals.snoc h r)
def cG.snoc{K:Fg}(h:RD K H d v):∀{ds:List D}{vs:List V},cG K H ds vs->cG K H (ds++[d]) (vs++[v])
 |_,_,.nil=>.cons h .nil
 |_,_,.cons a r=>.cons a (cG.snoc h r)
structure KSt(X:Cx)(pins:List (bx×Obj))(σ:St)(H1:Hp)(c:qQ)(f c' cc kS a:bx)(e1:Nat)(ks:List D)(C:Gp->Prop)(s:dg):Prop where
 ex:∃H G kvs kus e,Inv X pins σ H s/\HR X.K H G/\Ts H1 H/\a4D X c f c' cc H/\mD X pins H kS/\mD X pins H a/\cG X.K H ks kvs/\Vals kvs kus/\s.heap.get? kS=aj (vm "list" kus.toArray e)/\s.heap.get? a=aj (vm "list" #[] e1)/\C G
def ab1{K:Fg}{ds:List D}{xs:List V}(r:cG K H ds xs):∀{l:List Nat},(∀i∈l,i<ds.length)->cG K H (l.map λi=>ds.getD i .non) (l.map λi=>xs.getD i .non)
 |[],_=>.nil
 |i::l,h=>by
  have hi:=h i (by simp);obtain⟨v,e1,rd⟩:=r.get (cg hi);have e2:xs.getD i .non=v:=by simp[a0n,e1]
  have e3:ds.getD i .non=ds[i]:=by simp[a0n,hi]
  refine .cons ?_ (ab1 r λj hj=>h j (by simp[hj]));show RD K H (ds.getD i .non) (xs.getD i .non);rw[e2,e3];exact rd
section
end
end
section
open PySem.W
section
variable{X:Cx}{c:qQ}{T cc:bx}
abbrev aQJ(X:Cx)(T:bx)(c:qQ)(cc:bx):TE:=λσ H Q=>∃ps,H T=aj (.zM ps)/\a0F H c.qual c.pos ps /\
 ∀f c' ps' H',a4D X c f c' cc H'->H' T=aj (.zM ps')->a0F H' c.qual c.pos ps'->H f=aq->(∀b u,b≠T->H b=aj u->H' b=aj u)->Q (.ref f) H'
def aM3(hC:CodeHd X.base cC T)(hbt:X.base.BuiltinsAt X.mg T)(hcode:X.env.code=.ref cC)(hcl:closureFor c.scope X.env=pure [(c.x,cc)])(hd:defaultsOf c.params X.env=([],[]))(hq:X.env.qual++"<lambda>"=c.qual) :
  PE X (.Lambda c.params c.body c.scope c.pos) (aQJ X T c cc):=by
 intro pins s σ H Q I h _tk;obtain⟨ps,hT,st,h⟩:=h;refine kla_eval hd ?_;rw[hq];exact aE7 I hT st hC hbt hcode hcl λf c' ctv ps' H' s' I' ff hf rc hT' st' kp=>⟨.ref f,H',I',rfl,h f c' ps' H' ⟨⟨ctv,hf⟩,rc⟩ hT' st' ff kp⟩
end
end
section
open PySem.W
def al1{K:Fg}(h:RD K H d v):∀{ds:List D}{xs:List V}(j:Nat),cG K H ds xs->cG K H (ds.take j++d::ds.drop j) (xs.take j++v::xs.drop j)
 |[],_,j,.nil=>by simpa using cG.cons h .nil
 |_::_,_,0,r=>by simpa using cG.cons h r
 |_::_,_,j+1,.cons a r=>by simpa using cG.cons a (al1 h j r)
def afL(h:RelV v u):∀{xs:List V}{us:List bh}(j:Nat),Vals xs us->Vals (xs.take j++v::xs.drop j) (us.take j++u::us.drop j)
 |[],_,j,.nil=>by simpa using Paired.cons h .nil
 |_::_,_,0,r=>by simpa using Paired.cons h r
 |_::_,_,j+1,.cons a r=>by simpa using Paired.cons a (afL h j r)
section
variable{X:Cx}
abbrev qR:RM3:=λx xs G R=>match xs with
 |[.int i,z]=>akU x G λp ds=>∃j:Nat,i=(j:Int)/\j<=ds.length/\ds.length<dh/\R .non (aM G p (.lst (ds.take j++z::ds.drop j)))
 |_=>False
private theorem afM:acD X "list.insert" qR:=λpins s σ H x xs vx vs u us G R Q I rx rs ru rv g q k=>by
 have big:dh<2^62:=by decide
 unfold qR at q;split at q
 .rename_i i z;obtain⟨p,ds,ys,rfl,rfl,e,e1,r,j,ei,hj,hlt,q⟩:=arG rx g q;cases rs with
  |cons r1 rr =>
  cases rr with
  |@cons _ vz _ _ rz rr =>
  cases rr;cases r1;obtain rfl:u=bh.ref p:=ru;cases rv with
  |cons rv1 rv =>
  cases rv with
  |@cons _ uz _ _ rv2 rv =>
  cases rv;obtain⟨t2,rfl⟩:=rv1;obtain⟨hz,its,n,rvs,ho⟩:=(show dM X.prog X.w H s.heap p (.lst ys)from I.hok p _ e1);have hl:ds.length=ys.length:=r.length;have hl2:ys.length=its.length:=rvs.length
  have hf:Builtin.List.listFitsIndex i=ak:=by
   rw[ei];unfold Builtin.List.listFitsIndex;simp;omega
  have hz':its.toArray.size<=dh:=by rw[gq,←hl2];exact hz
  have mt:=PySem.AutoListH.list_insert_list_int_val_1 p its.toArray n i t2 uz (by rw[hf];decide) hz';refine call_meets PySem.F.slot_list_insert ⟨_,ho,rfl⟩ PySem.F.entry_list_insert (PySem.F.args_list_insert_3 _ _ _) mt ⟨ho,?_⟩;have hs:=su.update s.heap p (Obj.mapSeq λxs=>have k:=if i<0 then(i+((xs.size:Nat):Int)).toNat else min i.toNat xs.size;(xs.extract 0 k).push uz++xs.extract k)
  obtain⟨n',ho'⟩:∃n',(s.heap.update p (Obj.mapSeq λxs=>have k:=if i<0 then(i+((xs.size:Nat):Int)).toNat else min i.toNat xs.size;(xs.extract 0 k).push uz++xs.extract k)).get? p=aj (vm "list" (its.take j++uz::its.drop j).toArray n'):=by
   have:=get?_update_seq ho λxs=>have k:=if i<0 then(i+((xs.size:Nat):Int)).toNat else min i.toNat xs.size;(xs.extract 0 k).push uz++xs.extract k
   have ek:(if i<0 then(i+((its.toArray.size:Nat):Int)).toNat else min i.toNat its.toArray.size)=j:=by
    rw[ei,if_neg (by omega),gq];simp;omega
   have e:((its.toArray.extract 0 j).push uz++its.toArray.extract j)=(its.take j++uz::its.drop j).toArray:=by
    apply Array.toList_inj.mp;simp
    first
     |done
     |exact vo (by simp)
   rw[ek,e]at this;exact⟨_,this⟩
  have le:(ys.take j++vz::ys.drop j).length<=dh:=by
   simp;omega
  have tt:Ts H (upd H p (.lst (ys.take j++vz::ys.drop j))):=.turn e1 (λ_ z=>nomatch z) (λ_ _ z=>nomatch z);exact⟨.non,_,I.write (t':=s.toks) (x:=p) (e:=p) (o:=.lst (ys.take j++vz::ys.drop j)) (by rw[e1];exact True.intro) (.inl rfl) (λb o hb z=>(hs.2 b hb).trans z) ⟨_,ho'⟩ ⟨le,_,n',afL rv2 j rvs,ho'⟩,rfl,k _ _ _ _ tt .non (g.turn (u:=.lst _) tt ⟨_,aL,(al1 rz j r).mono tt⟩) q⟩
 .exact q.elim
abbrev ao4(x y d:D)(F:cR)(ρ:aN)(G:Gp):Prop:=match x with
 |.ref a=>∃(n:List Int)(kvs:List (List Int×D)),y=.tup (n.map D.int)/\G a=aj (.qL kvs)/\((∃i,d=.int i)∨∃b,d=.bl b)/\kvs.length<1000000/\F.nx ρ (aM G a (.qL (a3D kvs n d)))
 |_=>False
abbrev a7G(to ti tv:cO):bC:=λF ρ G=>tv ρ G λv G1=>to ρ G1 λx G2=>ti ρ G2 λy G3=>ao4 x y v F ρ G3
def aG4(hu:X.A.units+64<ni)(ho:cU X o to)(hi:cU X i ti)(hv:cU X value tv)(hs:a1i value (aj (.Subscript o i pos')) pos.line X.env=pure ao):PS3 X (.Assign [.Subscript o i pos'] value pos) (a7G to ti tv):=by
 intro pins s σ H D I h _tk;obtain⟨ρ,G,F,sr,g,t,up⟩:=h;have big:1000000<dh:=by decide
 refine wpAny_Assign_Subscript (cY (hv pins s σ H (λv H1=>Ts H H1/\∃d G1,RD X.K H1 d v/\HR X.K H1 G1/\to ρ G1 λx G2=>ti ρ G2 λy G3=>ao4 x y d F ρ G3) I ⟨ρ,G,_,sr,g,t,λv H1 d G1 t1 r1 g1 q1=>⟨t1,d,G1,r1,g1,q1⟩⟩) λr s1 ⟨v,H1,I1,rv,t1,d,G1,rd,g1,q1⟩ =>
  cY (ho pins s1 σ H1 (λv H2=>Ts H1 H2/\∃x G2,RD X.K H2 x v/\HR X.K H2 G2/\ti ρ G2 λy G3=>ao4 x y d F ρ G3) I1 ⟨ρ,G1,_,sr.mono t1,g1,q1,λv H2 d G2 t2 r2 g2 q2=>⟨t2,d,G2,r2,g2,q2⟩⟩) λu s2 ⟨vx,H2,I2,rx,t2,x,G2,rdx,g2,q2⟩ =>
  cY (hi pins s2 σ H2 (λv H3=>Ts H2 H3/\∃y G3,RD X.K H3 y v/\HR X.K H3 G3/\ao4 x y d F ρ G3) I2 ⟨ρ,G2,_,sr.mono (t1.trans t2),g2,q2,λv H3 d G3 t3 r3 g3 q3=>⟨t3,d,G3,r3,g3,q3⟩⟩) λiv s3 ⟨vy,H3,I3,ry,t3,y,G3,rdy,g3,q3⟩=>?_) hs
 cases x with
 |ref a =>
  obtain⟨n,kvs,rfl,e1,pd,lk,q3⟩:=q3;cases rdx;obtain rfl:u=bh.ref a:=rx;obtain⟨b,rfl,sq⟩:=a0R rdy;obtain rfl:iv=bh.ref b:=ry;obtain⟨o3,xs,eo,mu,n1,n2,r0,hd,dd⟩:=a3C I3 g3 e1;have lx:xs.length=kvs.length:=(Paired.length r0).symm;refine wpAny_setItem_heap (wg (by omega)) (a3B I3 sq) dd (λh' dd' hs'=>?_) (by omega);have rp:=arR r0 sq (arQ pd rd rv);generalize a1u xs (n.map Sum.inl) b r=ys at dd' rp;obtain⟨q0,es,ep,z1,z2,z3,z4,_,z5⟩:=dd';have tt:Ts H3 (upd H3 a (.ext (anI X.prog X.w a ys))):=.turn eo (λxs z=>n1 xs (by rw[z])) (λo u z=>n2 o u (by rw[z]));refine⟨σ,_,a0A (t':=_) (ob:=.ext (anI X.prog X.w a ys)) I3 (by rw[eo];exact mu) hs' ⟨q0,z1⟩ ⟨⟨hd,q0,es,ep,z1,z2,z3,z4,z5⟩,⟨q0,z1⟩,λh1 h2 z kp=>?_⟩,up.nx ρ _ σ _ (sr.mono (((t1.trans t2).trans t3).trans tt)) (g3.turn (u:=.qL (a3D kvs n d)) tt ⟨_,aL,.inr ⟨X.prog,X.w,ys,rfl,Paired.ahY rp λ_ _ z=>⟨z.1,tt.sqT z.2.1,z.2.2⟩⟩⟩) q3⟩;obtain⟨y0,o1,es1,ep1,y1,y2⟩:=z;exact⟨y0,o1,es1,ep1,kp _ y1,y2⟩
 |_=>exact q3.elim
end
end
variable{q:Nat}
section
open PySem.W
variable{i:Nat}
section
variable{kf:Nat->Int}
abbrev ab2(kf:Nat->Int)(p:Array Nat)(k:Nat):Prop:=∀i j,i<=j->j<k->ky kf p j<=ky kf p i
def ayU{p:Array Nat}{k:Nat}(hj:j<=p.size):ky kf (a1x p i j) k=if i<=k/\k<j then ky kf p (i+j - 1 - k)else ky kf p k:=by
 unfold ky a1x;have e:=getElem?_mirror_all (xs:=p) (i:=i) hj k;split at e
 .rw[if_pos ‹_›,cQ e]
 .rw[if_neg ‹_›,cQ e]
def Pm.asG(h:Pm n p):Pm n (a1x p i m):=⟨by rw[kas_rev_size];exact h.size,((mirror_perm p i m _).toList).trans h.perm⟩
abbrev Alike(kf:Nat->Int)(p:Array Nat)(m q:Nat):Prop:=q+1<=m/\∀i,m - (q+1)<=i->i<m->ky kf p i=ky kf p (m - 1)
def Alike.rev{p:Array Nat}(hm:m<=p.size)(h:Alike kf p m q)(k:Nat):ky kf (a1x p (m - (q+1)) m) k=ky kf p k:=by
 obtain⟨h1,h2⟩:=h;rw[ayU hm];split
 ·rw[h2 _ (by omega) (by omega),h2 k (by omega) (by omega)]
 .rfl
def ab2.same{q:Array Nat}(h:ab2 kf p m)(e:∀k,ky kf q k=ky kf p k):ab2 kf q m:=λi j a b=>by rw[e,e];exact h i j a b
def ab2.more{a:Nat}(u:ab2 kf p a)(h1:1<=a)(c:ky kf p a<=ky kf p (a - 1)):ab2 kf p (a+1):=λx y hxy hy=>by
 by_cases cy:y<a
 .exact u x y hxy cy
 .obtain rfl:y=a:=by omega
  by_cases cx:x=y
  .subst cx;exact a0z _
  .exact Int.le_trans c (u x (y - 1) (by omega) (by omega))
end
end
section
open PySem.W
variable{a i:Nat}
section
variable{cmp:Nat->Nat->(Bool->dg->Prop)->dg->Prop}{kf:Nat->Int}
abbrev Bf(kf:Nat->Int)(x y:Nat):Prop:=kf x<kf y∨(kf x=kf y/\x<y)
abbrev Sb(kf:Nat->Int)(p:Array Nat)(k:Nat):Prop:=∀i j,i<j->j<k->Bf kf (p.getD i 0) (p.getD j 0)
structure UnM(p:Array Nat)(k n:Nat):Prop where
 hi:∀i,k<=i->i<n->p.getD i 0=i
 lo:∀i,i<k->p.getD i 0<k
def UnM.more{k:Nat}(h:UnM p k n)(l:k<=m)(l2:m<=n):UnM p m n:=⟨λi a b=>h.hi i (by omega) b,λi a=>by
 by_cases c:i<k
 .have:=h.lo i c;omega
 .rw[h.hi i (by omega) (by omega)];exact a⟩
def Sb.asc(h:Sb kf p a)(u:UnM p a n)(l:a<=m)(l2:m<=n)(up:Up kf p m):Sb kf p m:=λi j hij hj=>by
 by_cases c:j<a
 .exact h i j hij c
 .have e:=u.hi j (by omega) (by omega);have k:=up i j (by omega) hj;unfold ky at k
  have:p.getD i 0<p.getD j 0:=by
   rw[e];by_cases d:i<a
   .have:=u.lo i d;omega
   .rw[u.hi i (by omega) (by omega)];exact hij
  unfold Bf;omega
def sX{p:Array Nat}{k:Nat}(hj:j<=p.size):(a1x p i j).getD k 0=if i<=k/\k<j then p.getD (i+j - 1 - k) 0 else p.getD k 0:=by
 unfold a1x;have e:=getElem?_mirror_all (xs:=p) (i:=i) hj k;split at e
 .rw[if_pos ‹_›,cQ e]
 .rw[if_neg ‹_›,cQ e]
def UnM.rev{p:Array Nat}{k:Nat}(h:UnM p k n)(hs:j<=p.size)(l:j<=k):UnM (a1x p i j) k n:=⟨λz a b=>by rw[sX hs,if_neg (by omega)];exact h.hi z a b,λz a=>by
 rw[sX hs];split
 ·exact h.lo _ (by omega)
 .exact h.lo z a⟩
structure Fl(kf:Nat->Int)(p:Array Nat)(a q:Nat):Prop where
 le:q+1<=a
 out:∀i j,i<j->j<a - (q+1)->Bf kf (p.getD j 0) (p.getD i 0)
 gap:∀i j,i<a - (q+1)->a - (q+1)<=j->j<a->kf (p.getD j 0)<kf (p.getD i 0)
 inn:∀i j,a - (q+1)<=i->i<j->j<a->kf (p.getD i 0)=kf (p.getD j 0)/\p.getD i 0<p.getD j 0
def Fl.all{p p':Array Nat}(h:Fl kf p a q)(e:∀k,k<a->p'.getD k 0=if a - (q+1)<=k then p.getD (a - (q+1)+a - 1 - k) 0 else p.getD k 0):∀i j,i<j->j<a->Bf kf (p'.getD j 0) (p'.getD i 0):=λi j hij hj=>by
 have l:=h.le;rw[e i (by omega),e j hj];by_cases c:a - (q+1)<=i
 .rw[if_pos c,if_pos (by omega)];have:=h.inn (a - (q+1)+a - 1 - j) (a - (q+1)+a - 1 - i) (by omega) (by omega) (by omega);exact .inr this
 .rw[if_neg c];split
  ·exact .inl (h.gap i _ (by omega) (by omega) (by omega))
  .exact h.out i j hij (by omega)
def Fl.low{p:Array Nat}(h:Fl kf p a q)(hi:i<a):kf (p.getD (a - 1) 0)<=kf (p.getD i 0):=by
 have l:=h.le;by_cases c:a - (q+1)<=i
 .by_cases d:i=a - 1
  .rw[d];exact a0z _
  .exact Int.le_of_eq (h.inn i (a - 1) c (by omega) (by omega)).1.symm
 .exact Int.le_of_lt (h.gap i (a - 1) (by omega) (by omega) (by omega))
private theorem Fl.next{p p':Array Nat}(h:Fl kf p a q)(e:∀k,k<a->p'.getD k 0=if a - (q+1)<=k then p.getD (a - (q+1)+a - 1 - k) 0 else p.getD k 0)(e2:p'.getD a 0=p.getD a 0)(c:kf (p.getD a 0)<kf (p.getD (a - 1) 0)):Fl kf p' (a+1) 0:=⟨by omega,λi j hij hj=>h.all e i j hij (by omega),λi j hi hj hj2=>by
 obtain rfl:j=a:=by omega
 have l:=h.le;rw[e2,e i (by omega)];split
 ·have:=h.low (i:=j - (q+1)+j - 1 - i) (by omega);omega
 .have:=h.low (i:=i) (by omega);omega,λi j hi hij hj=>by omega⟩
def Fl.like{p:Array Nat}(h:Fl kf p a q)(u:UnM p a n)(hn:a<n)(c:kf (p.getD a 0)=kf (p.getD (a - 1) 0)):Fl kf p (a+1) (q+1):=by
 have l:=h.le;have e:a+1 - (q+1+1)=a - (q+1):=by omega
 refine⟨by omega,λi j hij hj=>h.out i j hij (by omega),λi j hi hj hj2=>?_,λi j hi hij hj=>?_⟩
 .by_cases d:j=a
  .subst d;rw[c];exact h.gap i (j - 1) (by omega) (by omega) (by omega)
  .exact h.gap i j (by omega) (by omega) (by omega)
 .by_cases d:j=a
  .subst d;refine⟨?_,by rw[u.hi j (cu _) hn];exact u.lo i hij⟩;rw[c];by_cases d2:i=j - 1
   .rw[d2]
   .exact(h.inn i (j - 1) (by omega) (by omega) (by omega)).1
  .exact h.inn i j (by omega) hij (by omega)
def Fl.turn{p:Array Nat}(h:Fl kf p a q)(hs:a<=p.size):∀k,k<a->(if q>0 then a1x p (a - (q+1)) a else p).getD k 0=if a - (q+1)<=k then p.getD (a - (q+1)+a - 1 - k) 0 else p.getD k 0:=λk hk=>by
 have l:=h.le;split
 ·rw[sX hs];by_cases c:a - (q+1)<=k
  .rw[if_pos ⟨c,hk⟩,if_pos c]
  .rw[if_neg (by omega),if_neg c]
 .split
  ·rw[show a - (q+1)+a - 1 - k=k by omega]
  .rfl
private theorem a7H{n:Nat}(hc:Asks cmp I kf n):∀(f a q:Nat)(p:Array Nat)(s:dg),Pm n p->a+f<=n->Fl kf p a q->UnM p a n->I s->(∀p' m q' s',Pm n p'->a<=m->m<=a+f->Fl kf p' m q'->UnM p' m n->I s'->Q (p',m,q') s')->(kas_desc f p a q).kasWp cmp Q s
 |0,a,q,p,s,P,h2,F,U,i,h=>h p a q s P (cu _) (cu _) F U i
 |f+1,a,q,p,s,P,h2,F,U,i,h=>by
  have l:=F.le;show cmp (p.getD a 0) (p.getD (a - 1) 0) _ s;refine hc _ _ _ s (P.lt (by omega)) (P.lt (by omega)) i λs' i'=>?_;have z:=P.size;by_cases c:kf (p.getD a 0)<kf (p.getD (a - 1) 0)
  .rw[decide_eq_true c];dsimp only;rw[if_pos rfl];have t:=F.turn (by omega);have go:∀p',Pm n p'->(∀k,k<a->p'.getD k 0=if a - (q+1)<=k then p.getD (a - (q+1)+a - 1 - k) 0 else p.getD k 0)->UnM p' a n->(kas_desc f p' (a+1) 0).kasWp cmp Q s':=λp' P' e U'=>a7H hc f (a+1) 0 p' s' P' (by omega) (F.next e (by rw[U'.hi a (cu _) (by omega),U.hi a (cu _) (by omega)]) c) (U'.more (by omega) (by omega)) i' λp'' m q' s2 P'' l1 l2 d2 a2 i2=>h p'' m q' s2 P'' (by omega) (by omega) d2 a2 i2;by_cases cq:q>0
   .rw[if_pos cq]at t ⊢;exact go _ P.asG t (U.rev (by omega) (cu _))
   .rw[if_neg cq]at t ⊢;exact go p P t U
  .rw[decide_eq_false c];dsimp only;rw[if_neg (by decide)];show cmp (p.getD (a - 1) 0) (p.getD a 0) _ s';refine hc _ _ _ s' (P.lt (by omega)) (P.lt (by omega)) i' λs2 i2=>?_;by_cases d:kf (p.getD (a - 1) 0)<kf (p.getD a 0)
   .rw[decide_eq_true d];dsimp only;rw[if_pos rfl];exact h p a q s2 P (cu _) (by omega) F U i2
   .rw[decide_eq_false d];dsimp only;rw[if_neg (by decide)];exact a7H hc f (a+1) (q+1) p s2 P (by omega) (F.like U (by omega) (by omega)) (U.more (by omega) (by omega)) i2 λp'' m q' s3 P'' l1 l2 d2 a2 i3=>h p'' m q' s3 P'' (by omega) (by omega) d2 a2 i3
def ao5(hc:Asks cmp I kf n)(h2:2<=n)(P:Pm n p)(U:UnM p 1 n)(i:I s)(h:∀m q s',1<=m->m<=n->Pm n q->Sb kf q m->UnM q m n->I s'->Q (m,q) s'):(kas_count n p).kasWp cmp Q s:=by
 have part:∀(m:Nat)(p:Array Nat)(s:dg),1<=m->m<n->Pm n p->Fl kf p (m+1) 0->UnM p (m+1) n->I s->(kas_descPart m n p).kasWp cmp Q s:=by
  intro m p s m1 m2 P F U i;unfold kas_descPart;rw[KasT.kasWp_bind];refine a7H hc (n - (m+1)) (m+1) 0 p s P (by omega) F U i λp' k q' s' P' l1 l2 F' U' i'=>?_;have z:=P'.size;have t:=F'.turn (by omega)
  have go:∀p2,Pm n p2->(∀i j,i<j->j<k->Bf kf (p2.getD j 0) (p2.getD i 0))->UnM p2 k n->(kas_tail3 k n p2).kasWp cmp Q s':=λp2 P2 B U2=>by
   unfold kas_tail3;rw[KasT.kasWp_bind];have z2:=P2.size
   have sb:Sb kf (a1x p2 0 k) k:=λi j hij hj=>by
    rw[sX (by omega),sX (by omega),if_pos (by omega),if_pos (by omega)];exact B _ _ (by omega) (by omega)
   have u2:UnM (a1x p2 0 k) k n:=U2.rev (by omega) (cu _);refine aiK hc P2.asG (n - k) k s' (by omega) (by omega) (λi j hij hj=>?_) i' λx s3 q1 q2 u3 _ i3=>h x _ s3 (by omega) (by omega) P2.asG (sb.asc u2 q1 (by omega) u3) (u2.more q1 (by omega)) i3;by_cases e:i=j
   .rw[e];exact a0z _
   .have:=sb i j (by omega) hj;unfold ky;unfold Bf at this;omega
  dsimp only;by_cases cq:q'>0
  .rw[if_pos cq]at t ⊢;exact go _ P'.asG (F'.all t) (U'.rev (by omega) (cu _))
  .rw[if_neg cq]at t ⊢;exact go p' P' (F'.all t) U'
 have one:∀(m:Nat)(p:Array Nat),(∀i j,i<j->j<m->Bf kf (p.getD j 0) (p.getD i 0))->(∀i,i<m->kf (p.getD m 0)<kf (p.getD i 0))->Fl kf p (m+1) 0:=λm p a b=>⟨by omega,λi j hij hj=>a i j hij (by omega),λi j hi hj hj2=>by
  obtain rfl:j=m:=by omega
  exact b i (by omega),λi j hi hij hj=>by omega⟩
 unfold kas_count;rw[KasT.kasWp_bind];refine aiK hc P (n - 1) 1 s (cu _) (by omega) (λx y hxy hy=>by have:x=y:=(by omega);subst this;exact a0z _) i λm s' l1 l2 u l3 i'=>?_;have z:=P.size;have sb:Sb kf p m:=Sb.asc (a:=1) (λi j a b=>by omega) U l1 (by omega) u;have um:=U.more l1 (show m<=n by omega);by_cases c:m=n
 .subst c;rw[if_pos (by simp)];exact h m p s' l1 (by omega) P sb um i'
 .rw[if_neg (by simpa using c)];have l3:kf (p.getD m 0)<kf (p.getD (m - 1) 0):=l3 (by omega);by_cases c1:m>1
  .rw[if_pos c1];show cmp (p.getD 0 0) (p.getD (m - 1) 0) _ s';refine hc _ _ _ s' (P.lt (by omega)) (P.lt (by omega)) i' λs2 i2=>?_;by_cases d:kf (p.getD 0 0)<kf (p.getD (m - 1) 0)
   .rw[decide_eq_true d];dsimp only;rw[if_pos rfl];exact h m p s2 l1 (by omega) P sb um i2
   .rw[decide_eq_false d];dsimp only;rw[if_neg (by decide)]
    have al:∀i,i<m->kf (p.getD i 0)=kf (p.getD (m - 1) 0):=λi hi=>by
     have a1:=u 0 i (zq _) hi;have a2:=u i (m - 1) (by omega) (by omega);unfold ky at a1 a2;omega
    refine part m _ s2 l1 (by omega) P.asG (one m _ (λi j hij hj=>?_) λi hi=>?_) ((um.rev (by omega) (cu _)).more (by omega) (by omega)) i2
    .rw[sX (by omega),sX (by omega),if_pos (by omega),if_pos (by omega)];have:=sb (0+m - 1 - j) (0+m - 1 - i) (by omega) (by omega);exact this
    .rw[sX (by omega),sX (by omega),if_neg (by omega),if_pos (by omega),al (0+m - 1 - i) (by omega)];exact l3
  .rw[if_neg c1];obtain rfl:m=1:=by omega
   exact part 1 p s' l1 (by omega) P (one 1 p (λi j a b=>by omega) λi hi=>by
    obtain rfl:i=0:=by omega
    exact l3) (um.more (by omega) (by omega)) i'
def al2{n:Nat}(hc:Asks cmp I kf n):∀(f k:Nat)(p:Array Nat)(s:dg),Pm n p->1<=k->k+f=n->Sb kf p k->UnM p k n->I s->(∀q s',Pm n q->Sb kf q n->I s'->Q q s')->(kas_bin f p k).kasWp cmp Q s
 |0,k,p,s,P,h1,h2,u,U,i,h=>h p s P (by rw[←h2];exact u) i
 |f+1,k,p,s,P,h1,h2,u,U,i,h=>by
  unfold kas_bin;rw[KasT.kasWp_bind]
  have up:Up kf p k:=λi j hij hj=>by
   by_cases e:i=j
   .rw[e];exact a0z _
   .have:=u i j (by omega) hj;unfold ky;unfold Bf at this;omega
  refine a7B hc P (by omega) up k 0 k s (zq _) (cu _) (by omega) (λx hx=>absurd hx (Nat.not_lt_zero _)) (λx hx hk=>absurd hx (by omega)) i λm s' l1 a b i'=>?_;have hs:k<p.size:=by rw[P.size];omega
  have ek:=U.hi k (cu _) (by omega)
  have e:∀z,(bubble p k (k - m)).getD z 0=if z=m then p.getD k 0 else if m<z/\z<=k then p.getD (z - 1) 0 else p.getD z 0:=λz=>by
   have e:=getElem?_bubble hs (k - m) (by omega) z;rw[show k - (k - m)=m by omega]at e;by_cases c:z=m
   .rw[if_pos c]at e ⊢;exact cQ e
   .rw[if_neg c]at e ⊢;by_cases c2:m<z/\z<=k
    .rw[if_pos c2]at e ⊢;exact cQ e
    .rw[if_neg c2]at e ⊢;exact cQ e
  have e1:(bubble p k (k - m)).getD m 0=p.getD k 0:=by rw[e,if_pos rfl]
  have e2:∀z,m<z->z<=k->(bubble p k (k - m)).getD z 0=p.getD (z - 1) 0:=λz h1 h2=>by rw[e,if_neg (by omega),if_pos ⟨h1,h2⟩]
  have e3:∀z,z<m->(bubble p k (k - m)).getD z 0=p.getD z 0:=λz h1=>by rw[e,if_neg (by omega),if_neg (by omega)]
  refine al2 hc f (k+1) _ s' ⟨by rw[bubble_size];exact P.size,((bubble_perm p k _).toList).trans P.perm⟩ (by omega) (by omega) (λx y hxy hy=>?_) ⟨λz a b=>by rw[e,if_neg (by omega),if_neg (by omega)];exact U.hi z (by omega) b,λz a=>?_⟩ i' h
  .rcases Nat.lt_trichotomy x m with c|c|c
   .rw[e3 x c];rcases Nat.lt_trichotomy y m with d|d|d
    .rw[e3 y d];exact u x y hxy (by omega)
    .rw[d,e1];have:=a x c;have:=U.lo x (by omega);unfold ky at *;unfold Bf;omega
    .rw[e2 y d (by omega)];exact u x (y - 1) (by omega) (by omega)
   .rw[c,e1,e2 y (by omega) (by omega)];exact .inl (b (y - 1) (by omega) (by omega))
   .rw[e2 x c (by omega),e2 y (by omega) (by omega)];exact u (x - 1) (y - 1) (by omega) (by omega)
  .by_cases c:z=m
   .rw[c,e1,ek];omega
   .by_cases d:m<z
    .rw[e2 z d (by omega)];have:=U.lo (z - 1) (by omega);omega
    .rw[e3 z (by omega)];have:=U.lo z (by omega);omega
def asH(hc:Asks cmp I kf n)(h2:2<=n)(i:I s)(h:∀q s',Pm n q->Sb kf q n->I s'->Q q s'):(kas_sort n).kasWp cmp Q s:=by
 unfold kas_sort;rw[KasT.kasWp_bind];have r:∀i,i<n->(je n).toArray.getD i 0=i:=λi hi=>by simp[Array.getD,hi]
 refine ao5 hc h2 ⟨by simp,by simp⟩ ⟨λi a b=>r i b,λi a=>by rw[r i (by omega)];exact a⟩ i λm q s' l1 l2 P u U i'=>?_;dsimp only;by_cases c:m<n
 .rw[if_pos c,show max m 1=m by omega];exact al2 hc (n - m) m q s' P l1 (by omega) u U i' h
 .rw[if_neg c];obtain rfl:m=n:=by omega
  exact h q s' P u i'
end
end
section
open PySem.W
section
variable{prog:ju}{w:jq}{A:jr}
def asI{b:Bool}{fin:Bool}{xs ys:List bh}(i:Nat)(hx:a0e xs ns)(hy:a0e ys ms)(hf:fin=decide (xs.length<ys.length))(h:C (HT.lexLt ns ms) s):KatLex prog w A b fin C (xs.zip ys) i s:=by
 induction hx generalizing ys ms i with
 |nil =>
  refine kat_nil ?_;cases hy with
  |nil=>rw[hf];exact h
  |cons _ _ _=>rw[hf];simpa[HT.lexLt]using h
 |cons n t r ih =>
  cases hy with
  |nil=>exact kat_nil (by rw[hf];simpa[HT.lexLt]using h)
  |cons m u r' =>
   rw[HT.sO]at h;refine kat_cons (wpAny_eqBool_int (kat_go (λe=>kat_yes (ih (i+1) r' (by rw[hf];simp) ?_)) λe=>kat_no ?_))
   .have:n=m:=by simpa using e
    rw[if_pos this]at h;exact h
   .have:n≠m:=by simpa using e
    rw[if_neg this]at h;cases z:(b&&i==0)with
    |true=>exact oneLt_int h
    |false=>exact kat_one _ _ (HT.a6M _ _ _ _ _ _ _ _ _ _ h)
end
abbrev ayV(r:List Int):D:=.tup (r.map D.int)
abbrev a7I(h:jf)(rs:List (List Int))(vs:List bh):Prop:=vs.length=rs.length/\∀(i:Nat)(r:List Int),rs[i]?=aj r->∃(a:bx)(o:Obj)(n:Nat)(its:Array bh),vs[i]?=aj (bh.ref a)/\h.get? a=aj o/\o.cls=bh.type "tuple"/\o.data=.seq its n/\a0e its.toList r
def a7I.firsts:∀{rs:List (List Int)}{vs:List bh},a7I h rs vs->(∀r∈rs,r≠[])->∃fs:List bh,KatTups h vs fs/\fs.length=rs.length/\∀v∈fs,∃i t,v=.int i t
 |[],[],_,_=>⟨[],trivial,rfl,λv h=>by cases h⟩
 |[],_::_,H,_=>absurd H.1 (by simp)
 |_::_,[],H,_=>absurd H.1 (by simp)
 |r::rs,v::vs,H,hne=>by
  obtain⟨a,o,n,its,e1,e2,e3,e4,e5⟩:=H.2 0 r rfl;obtain⟨fs,k1,k2,k3⟩:=a7I.firsts (h:=h) (rs:=rs) (vs:=vs) ⟨by simpa using H.1,λi q hq=>by simpa using H.2 (i+1) q (by simpa using hq)⟩ λq hq=>hne q (jo _ hq);have e1':v=.ref a:=by simpa using e1
  subst e1';obtain⟨its⟩:=its;cases e5 with
  |nil=>exact absurd rfl (hne [] (rm ..))
  |cons m t rr =>
   refine⟨.int m t::fs,KatTups.cons e2 e3 e4 rfl k1,by simp[k2],λu hu=>?_⟩;rcases iy.mp hu with rfl|hu
   .exact⟨_,_,rfl⟩
   .exact k3 u hu
section
variable{prog:ju}{w:jq}{A:jr}
def asJ{vs:List bh}{kf:Nat->Int}(hkf:∀i j a b,rs[i]?=aj a->rs[j]?=aj b->HT.lexLt a b=decide (kf i<kf j))(hne:∀r∈rs,r≠[])(l2:2<=vs.length)(hp:a7I h' rs vs):aLQ prog w A s kf vs h':=by
 obtain⟨fs,k1,k2,k3⟩:=hp.firsts hne;have len:=hp.1;refine⟨tuples' (bh.type "int"!=bh.type "tuple"),λQ hQ=>kat_kind (s:={s with heap:=h' }) k1 (by omega) (λv hv=>?_) (by simp) hQ,λi j C hi hj hC=>?_⟩
 .obtain⟨i,t,rfl⟩:=k3 v hv;exact .now
 .obtain⟨p,ep⟩:∃p,rs[i]?=aj p:=⟨_,cg (by omega)⟩;obtain⟨q,eq⟩:∃q,rs[j]?=aj q:=⟨_,cg (by omega)⟩;obtain⟨a,o,n,its,a1,a2,a3,a4,a5⟩:=hp.2 i p ep;obtain⟨b,o',n',its',b1,b2,b3,b4,b5⟩:=hp.2 j q eq;have ga:vs.getD i bh.none=.ref a:=by simp[a0n,a1]
  have gb:vs.getD j bh.none=.ref b:=by simp[a0n,b1]
  rw[←hkf i j p q ep eq]at hC;unfold kas_ask;rw[ga,gb];exact kat_lt (s:={s with heap:=h' }) a2 a4 b2 b4 (asI 0 a5 b5 (by simp) hC)
end
section
variable{X:Cx}
def ayW{s:dg}(I:Inv X pins σ H s){rs:List (List Int)}(r:cG X.K H (rs.map ayV) xs)(rv:Vals xs us):a7I s.heap rs us:=by
 refine⟨by rw[←rv.length,←r.length,gj],λi row e=>?_⟩;obtain⟨v,e1,rd⟩:=r.get (i:=i) (d:=ayV row) (by simp[e]);obtain⟨u,e2,ru⟩:=rv.get e1;unfold ayV at rd;cases rd with
 |@tup b ys _ hb rbs eb =>
  cases ru;obtain⟨its,⟨o,q1,q2,n,q3⟩,ia⟩:=ayT I (ns:=row) (.tup hb rbs eb);exact⟨b,o,n,its,e2,q1,q2,q3,ia⟩
end
abbrev a3J(ds ks:List D)(G:Gp)(R:eV):Prop:=∃(rs:List (List Int))(kf:Nat->Int),ks=rs.map ayV/\(∀r∈rs,r≠[])/\(∀i j a b,rs[i]?=aj a->rs[j]?=aj b->HT.lexLt a b=decide (kf i<kf j))/\∀q:Array Nat,Pm ds.length q->Sb kf q ds.length->∀r,G r=aq->R (.ref r) (aM G r (.lst (q.toList.map λi=>ds.getD i .non)))
section
variable{X:Cx}{pins:List (bx×Obj)}{s:dg}{qt:Bool}{k ix:Nat}{c:qQ}
private theorem afO(LO:vQ qt X.prog X.w X.K X.mg X.base k c sp)(hr:fQ qt k X.A.in1.in1)(hu:X.A.units+64<ni)(I:Inv X pins σ H s)(g:HR X.K H G)(la:a4D X c f c' cc H)(hcc:X.env.cells.lookup c.x=aj cc)(hN:X.N[ix]?=aj c.x)(hx:X.env.scope.names.lookup c.x=aj .cell)(hv:σ[ix]?=aj (aj vc))(rdc:RD X.K H dx vc)
  {us:List bh}{ds:List D}(rd:cG X.K H ds xs)(rv:Vals xs us)(ho:s.heap.get? a=aj (vm "list" us.toArray n))(fa:mD X pins H a)(h64:ds.length<64){Q:VK}(hk:vR sp dx (λks G2=>a3J ds ks G2 R) ds [] G)
  (kk:∀v H' d G',Ts H H'->RD X.K H' d v->HR X.K H' G'->R d G'->Q v H')(hP:∀s',EP X pins σ Q (.ref a) s'->P (.done (.ret .none)) s') :
  dj (gk X.prog X.w) X.A.in1.in1 (ksk_tree a (.ref f) ao) P E s:=by
 have big:1000<dh:=by decide
 have lx:xs.length=ds.length:=rd.length.symm;have lu:us.length=ds.length:=by rw[←rv.length,lx]
 have la0:a<s.heap.objs.size:=gV ho;unfold ksk_tree;refine au (listItems_at ho rfl ?_);refine au (listUpdate_at ho rfl ?_ (by rw[gq];omega) (zq _));obtain⟨e1,ho1⟩:∃e1,(s.heap.update a (Obj.mapSeq λ_=>(#[]:Array bh))).get? a=aj (vm "list" #[] e1):=⟨_,get?_update_seq ho λ_=>#[]⟩;refine au (seqEpoch_at ho1 rfl ?_);refine au (wpAny_newTuple ?_ (by show us.length<=_;omega));refine au (wpAny_newList ?_ (zq _));refine vq ?_;have s0:=su.update s.heap a (Obj.mapSeq λ_=>(#[]:Array bh));have hkS:((s.heap.update a (Obj.mapSeq λ_=>(#[]:Array bh))).push (vm "tuple" us.toArray 0)).objs.size=s.heap.objs.size+1:=by rw[size_push',Heap.size_update]
 have kp:∀b o,b∉[a]->s.heap.get? b=aj o->(((s.heap.update a (Obj.mapSeq λ_=>(#[]:Array bh))).push (vm "tuple" us.toArray 0)).push (vm "list" #[] 0)).get? b=aj o:=λb o hb e=>cj _ (cj _ ((s0.2 b (by simpa using hb)).trans e));have okS:(((s.heap.update a (Obj.mapSeq λ_=>(#[]:Array bh))).push (vm "tuple" us.toArray 0)).push (vm "list" #[] 0)).get? ((s.heap.update a (Obj.mapSeq λ_=>(#[]:Array bh))).push (vm "tuple" us.toArray 0)).objs.size=aj (vm "list" #[] 0):=ig _ rfl;have oa5:(((s.heap.update a (Obj.mapSeq λ_=>(#[]:Array bh))).push (vm "tuple" us.toArray 0)).push (vm "list" #[] 0)).get? a=aj (vm "list" #[] e1):=cj _ (cj _ ho1);generalize eh:((s.heap.update a (Obj.mapSeq λ_=>(#[]:Array bh))).push (vm "tuple" us.toArray 0)).push (vm "list" #[] 0)=h5 at *;generalize ek:((s.heap.update a (Obj.mapSeq λ_=>(#[]:Array bh))).push (vm "tuple" us.toArray 0)).objs.size=kS at *;have I5:Inv X pins σ H {s with heap:=h5,toks:=s.toks}:=I.a0P (ch:=[a]) kp (λb hb=>by simp at hb;subst hb;exact fa);have fk:mD X pins H kS:=I.v9 (by rw[hkS];exact Nat.le_succ _) (I.hok.fresh (by rw[hkS];exact Nat.le_succ _));have hka:kS≠a:=by rw[hkS];exact yg (a1m la0)
 unfold ksk_rest;refine au (a1h ?_);rw[List.forIn_toArray];refine au (ksk_fold (λi s'=>∃ks,ks.length=i/\KSt X pins σ H c f c' cc kS a e1 ks (λG'=>vR sp dx (λks G2=>a3J ds ks G2 R) (ds.drop i) ks G') s') us 0 {s with heap:=h5} ⟨[],rfl,⟨H,G,[],[],0,I5,g,.refl H,la,fk,fa,.nil,.nil,okS,oa5,hk⟩⟩ ?step ?done)
 case step =>
  rintro j x s' hxj ⟨ks,hkl,⟨H',G',kvs,kus,e,J,g',ts,la',fk',fa',rk,vk,ok,oa,q⟩⟩;simp only[Nat.zero_add]at hkl q ⊢;obtain⟨d,x',ed,rdd,ru⟩:=Vals.aqW rd rv hxj;have hj:j<ds.length:=(fj.mp ed).1
  have edr:ds.drop j=d::ds.drop (j+1):=by
   rw[uq hj,(fj.mp ed).2]
  rw[edr]at q;have lk:kus.length=ks.length:=by rw[←vk.length,←rk.length]
  refine au (a2r (oh (asD LO hr J g' la' hcc hN hx hv (rdc.mono ts) ru (rdd.mono ts) q) (λku s'' he=>?_) λ_ _ hF=>hF.elim));obtain⟨kv,H2,kd,G2,J2,un,rku,rkd,g2,q2⟩:=he
  try dsimp only
  have ok2:=un.keep kS _ ok fk'.1 (fk'.nfr J) (by simp);have oa2:=un.keep a _ oa fa'.1 (fa'.nfr J) (by simp);obtain⟨c2,hc2⟩:∃c2,(s''.heap.update kS (Obj.mapSeq (·.push ku))).get? kS=aj (vm "list" (kus.toArray.push ku) c2):=⟨_,get?_update_seq ok2 (·.push ku)⟩;have sb:=su.update s''.heap kS (Obj.mapSeq (·.push ku));refine au (listUpdate_at ok2 rfl ?_ (by rw[gq];omega) (by rw[Array.size_push,gq];omega));have ts2:Ts H' H2:=⟨un.tups,un.j7⟩;have J3:=J2.a0P (t':=s''.toks) (ch:=[kS]) (h':=s''.heap.update kS (Obj.mapSeq (·.push ku))) (λb u hb e=>(sb.2 b (by simpa using hb)).trans e) (λb hb=>by simp at hb;subst hb;exact fk'.un ok un);exact dw ⟨rfl,ks++[kd],by simp[hkl],⟨H2,G2,kvs++[kv],kus++[ku],c2,J3,g2,ts.trans ts2,la'.un un,fk'.un ok un,fa'.un oa un,cG.snoc rkd (rk.mono ts2),Vals.snoc rku vk,by simpa using hc2,(sb.2 a hka.symm).trans oa2,q2⟩⟩
 case done =>
  rintro s' ⟨ks,hkl,⟨H',G',kvs,kus,e,J,g',ts,la',fk',fa',rk,vk,ok,oa,q⟩⟩;rw[List.drop_of_length_le (by omega)]at q;obtain⟨rs,kf,rfl,hne,hkf,hR⟩:=q;have lk:kus.length=us.length:=by rw[←vk.length,←rk.length];omega
  refine au (listItems_at ok rfl ?_);unfold ksk_end;simp only[qw,if_false]
  have fin:∀(st:SortSt)(q:Array Nat),Pm us.length q->Sb kf q us.length->(arrOf st).map (·.2)=(q.toList.map λi=>us.getD i bh.none).toArray->failedOf st=aq->dj (gk X.prog X.w) X.A.in1.in1 (ksk_tail a ao e1 (.ref kS) st) P E s':=by
   intro st q PM U har hf;unfold ksk_tail;simp only[qw,if_false];refine au (listUpdate_at ok rfl ?_ (by rw[gq];omega) (zq _));refine au (yu ?_);have s1:=su.update s'.heap kS (Obj.mapSeq λ_=>(#[]:Array bh));have na1:(s'.heap.update kS (Obj.mapSeq λ_=>(#[]:Array bh))).get? a=aj (vm "list" #[] e1):=(s1.2 a hka.symm).trans oa;refine au (seqEpoch_at na1 rfl ?_);rw[har];refine au (listUpdate_at na1 rfl ?_ (zq _) (by rw[gq,gj,yq,PM.size];omega));rw[hf];simp only[bne_self_eq_false,qw,if_false];have s2:=su.update (s'.heap.update kS (Obj.mapSeq λ_=>(#[]:Array bh))) a (Obj.mapSeq λ_=>(q.toList.map λi=>us.getD i bh.none).toArray);obtain⟨c3,hc3⟩:∃c3,((s'.heap.update kS (Obj.mapSeq λ_=>(#[]:Array bh))).update a (Obj.mapSeq λ_=>(q.toList.map λi=>us.getD i bh.none).toArray)).get? a=aj (vm "list" (q.toList.map λi=>us.getD i bh.none).toArray c3):=⟨_,get?_update_seq na1 λ_=>(q.toList.map λi=>us.getD i bh.none).toArray⟩;have hin:∀i∈q.toList,i<ds.length:=λi hi=>by rw[←lu];exact ou.mp (PM.perm.mem_iff.mp hi)
   have fr:H' a=aq:=fa'.1;have sn:Same H' (upd H' a (.lst (q.toList.map λi=>xs.getD i .non))):=bV fr;refine dw (hP _ ?_)
   have Jf:=J.asC (t':=s'.toks) (h':=(s'.heap.update kS (Obj.mapSeq λ_=>(#[]:Array bh))).update a (Obj.mapSeq λ_=>(q.toList.map λi=>us.getD i bh.none).toArray)) (ch:=[kS,a]) (a:=a) (o:=.lst (q.toList.map λi=>xs.getD i .non)) (λb u hb e=>by
    simp only[iy,ug,or_false,not_or]at hb;exact(s2.2 b hb.2).trans ((s1.2 b hb.1).trans e)) (λb hb=>by
    simp only[iy,ug,or_false]at hb;rcases hb with rfl|rfl
    .exact fk'
    .exact fa') (by simp) ⟨by rw[gj,yq,PM.size];omega,_,c3,aaU rv λi hi=>by rw[lx];exact hin i hi,hc3⟩
   rw[lu]at PM U;exact⟨.ref a,_,Jf,rfl,kk _ _ (.ref a) _ (ts.trans (.same sn)) (.ref a) (g'.put (u:=.lst _) fr ⟨_,aL,(ab1 rd hin).mono (ts.trans (.same sn))⟩) (hR q PM U a (jY g' fr (yO Jf)))⟩
  by_cases c2:us.toArray.size<2
  .rw[if_pos c2,if_pos c2];refine au (dw ?_);rw[StateT.run_pure];refine au (dw ?_);dsimp only;have c3:us.length<2:=by simpa using c2
   refine fin _ (je us.length).toArray ⟨by rw[gq,a2n],.refl _⟩ (λi j hij hj=>by omega) ?_ rfl;show(kus.toArray.zip us.toArray).map (·.2)=_
   have e1:(kus.toArray.zip us.toArray).map (·.2)=us.toArray:=by
    apply Array.ext
    .simp;omega
    .intro i h1 h2;simp
   rw[e1]
   have e2:(je us.length).toArray.toList.map (λi=>us.getD i bh.none)=us:=by
    apply List.ext_getElem (by simp);intro i h1 h2;simp[h2]
   rw[e2]
  .rw[if_neg c2,if_neg c2];have l2:2<=us.length:=by rw[gq]at c2;omega
   obtain⟨κ,k1,k2⟩:=asJ (prog:=X.prog) (w:=X.w) (A:=X.A.in1.in1) (s:=s') hkf hne (by omega) (ayW J rk vk);refine au (oh (k1 (λκ' s''=>κ'=κ/\s''=s') ⟨rfl,rfl⟩) ?_ λ_ _ z=>z.elim);rintro κ' s'' ⟨q1,q2⟩;subst q1;subst q2
   refine au (oh (kat_run (vs:=us) (Q:=λst' s3=>s3=s''/\failedOf st'=aq/\∃q,Pm us.length q/\Sb kf q us.length/\arrOf st'=q.map (kas_item (kus.toArray.zip us.toArray)))
    (G:=λq s3=>s3=s''/\Pm us.length q/\Sb kf q us.length) lk l2 (by omega) (λp st' s3 a1 a2 a3 a4=>⟨a4.1,a3,p,a4.2.1,a4.2.2,a2⟩)
    (asH (I:=λs3=>s3=s'') (λi j C s3 hi hj es hC=>by subst es;exact k2 i j C (by omega) (by omega) (hC _ rfl)) l2 rfl λq s3 P u es=>⟨es,P,u⟩)) ?_ λ_ _ e=>e)
   rintro⟨⟨⟩,st'⟩ s3 ⟨es,hf,q,PM,u,har⟩;subst es;dsimp only;exact fin st' q PM u (kat_snds lk har) hf
end
section
variable{X:Cx}{qt:Bool}{k ix:Nat}{c:qQ}{sp:fU}{T:bx}{te:cO}{p pos kp:Pos}
abbrev acY(te:cO)(T:bx)(c:qQ)(ix:Nat)(sp:fU):cO:=λρ G R=>te ρ G λx G1=>∃l ds dx,x=.ref l/\aQ G1 l=aj ds/\ds.length<64/\at3 ρ ix=aj dx/\G1 T=aj (.tab c.qual c.pos)/\vR sp dx (λks G2=>a3J ds ks G2 R) ds [] G1
private theorem ayY(LO:vQ qt X.prog X.w X.K X.mg X.base k c sp)(hr:fQ qt k X.A.in1.in1)(hu:X.A.units+64<ni)(hg:Gl X "sorted")(hm:X.mg "sorted"=aq)(hN:X.N[ix]?=aj c.x)(hx:X.env.scope.names.lookup c.x=aj .cell)
  (hcf:c.scope.names.filter (λp=>p.2==.free)=[(c.x,.free)])(hC:CodeHd X.base cC T)(hbt:X.base.BuiltinsAt X.mg T)(hcode:X.env.code=.ref cC)(hd:defaultsOf c.params X.env=([],[]))(hq:X.env.qual++"<lambda>"=c.qual)(he:cU X e te)
  (hs:jt [e] X.env=[(ao,eval e X.env)]):cU X (.Call (.Name "sorted" p) [e] [⟨aj "key",.Lambda c.params c.body c.scope c.pos,kp⟩] pos) (acY te T c ix sp):=by
 intro pins s σ H Q I h _tk;obtain⟨ρ,G,R,sr,g,q,kk⟩:=h;have big:1000<dh:=by decide
 obtain⟨cc,hcc⟩:=I.ok.has c.x (.inl hx);refine a0m (sI I hg hm (u:=.builtin "sorted") (by decide+kernel) ?_ (by decide) (by decide))
 have hA:=(dN he u6 (by rw[hs];rfl)) pos pins s σ H (λvs H1=>Ts H H1/\∃ds G1,cG X.K H1 ds vs/\HR X.K H1 G1/\(match ds with
  |[y]=>∃l ds dx,y=.ref l/\aQ G1 l=aj ds/\ds.length<64/\at3 ρ ix=aj dx/\G1 T=aj (.tab c.qual c.pos)/\vR sp dx (λks G2=>a3J ds ks G2 R) ds [] G1
  |_=>False)) I ⟨ρ,G,(λds G1=>match ds with
  |[y]=>∃l ds dx,y=.ref l/\aQ G1 l=aj ds/\ds.length<64/\at3 ρ ix=aj dx/\G1 T=aj (.tab c.qual c.pos)/\vR sp dx (λks G2=>a3J ds ks G2 R) ds [] G1
  |_=>False),sr,g,q,λvs H1 ds G1 t1 r1 g1 q1=>⟨t1,ds,G1,r1,g1,q1⟩⟩
 refine callWith_kw (cY hA λus s1 ⟨vs,H1,I1,rr,t1,ds,G1,r1,g1,q1⟩=>?_) (by rw[hs];rfl) (by rw[hs];rfl) rfl rfl;split at q1
 .rename_i y;obtain⟨l,ds,dx,rfl,e1,h64,hix,hGT,hk⟩:=q1;cases r1 with
  |@cons _ vy _ _ ry rn =>
   cases rn;cases rr with
   |@cons _ uy _ _ ru rn =>
    cases rn;cases ry;cases ru;obtain⟨ps1,hT1,st1⟩:=g1 T _ hGT;refine cY (akD (nm:=some "key") (kpos:=kp) (aM3 (cc:=cc) hC hbt hcode (a6X hcf hcc) hd hq) aq6 pos pins s1 σ H1 (λzs H2=>∃f c' ps',zs=[.ref f]/\a4D X c f c' cc H2/\H2 T=aj (.zM ps')/\a0F H2 c.qual c.pos ps'/\(∀b u,b≠T->H1 b=aj u->H2 b=aj u)) I1 ⟨ps1,hT1,st1,λf c' ps' H2 la hT2 st2 _ kp2=>⟨f,c',ps',rfl,la,hT2,st2,kp2⟩⟩) λkvs s2 ⟨zs,H2,I2,rz,f,c',ps',ez,la,hT2,st2,kp2⟩=>?_;subst ez;cases rz with
    |@cons _ kv _ _ rk rn =>
     cases rn;cases rk;show dj _ _ (call (.builtin "sorted") [.ref l] [(Str.ofString "key",.ref f)]) _ _ s2;have ts:Ts H1 H2:=⟨λa xs q0=>kp2 a _ (aa6 q0 hT1 (λz=>by cases z)) q0,λa o u q0=>kp2 a _ (aa6 q0 hT1 (λz=>by cases z)) q0⟩
     have g2:HR X.K H2 G1:=λa o q0=>by
      by_cases y:a=T
      .rw[y,hGT]at q0;cases q0;rw[y];exact⟨ps',hT2,st2⟩
      .exact(g1 a o q0).keep ts λu q=>kp2 a u y q
     obtain⟨xs,hsq,rd⟩:=c7 g2 e1;obtain⟨its,rv,pl,_⟩:=I2.list hsq;have li:its.length=ds.length:=by rw[←rv.length,←rd.length]
     obtain⟨vc,hv,rdc⟩:=(sr.mono (t1.trans ts)).get hix;refine call_function_entry_kw kind_sorted plain_sorted entry_sorted (ksk_s1 _ _) ?_;unfold Builtin.«sorted»;refine au (m:=checkCount "sorted" 1 1 _) (dw ?_);refine au (collect_list pl.isList ?_ (by omega));refine au (wpAny_newList ?_ (by omega));have sz:((s2.heap.push (vm "list" #[] 0)).update s2.heap.objs.size (Obj.mapSeq (·++its.toArray))).objs.size=s2.heap.objs.size+1:=by rw[Heap.size_update,size_push']
     have oL:(((s2.heap.push (vm "list" #[] 0)).update s2.heap.objs.size (Obj.mapSeq (·++its.toArray))).push (vm "list" its.toArray 0)).get? (s2.heap.objs.size+1)=aj (vm "list" its.toArray 0):=by rw[←sz];exact ig _ rfl
     have kp:∀b o,s2.heap.get? b=aj o->(((s2.heap.push (vm "list" #[] 0)).update s2.heap.objs.size (Obj.mapSeq (·++its.toArray))).push (vm "list" its.toArray 0)).get? b=aj o:=λb o e=>cj _ (((su.update (s2.heap.push (vm "list" #[] 0)) s2.heap.objs.size (Obj.mapSeq (·++its.toArray))).2 b (jg (gV e))).trans (cj _ e));show dj _ _ _ _ _ {s2 with heap:=((s2.heap.push (vm "list" #[] 0)).update s2.heap.objs.size (Obj.mapSeq (·++its.toArray))).push (vm "list" its.toArray 0)};rw[sz];refine au (vq (wpAny_call_entry_kw slot_list_sort ⟨_,oL,rfl⟩ entry_list_sort ?body (ksk_l1 _ _)))
     case body =>
      show dj (gk X.prog X.w) X.A.in1.in1 (Builtin.«list.sort» ⟨[.ref (s2.heap.objs.size+1)],[(Str.ofString "key",.ref f)]⟩) _ _ _;rw[ksk_t1];exact afO LO hr hu (I2.kept (t':=s2.toks) kp) g2 la hcc hN hx hv rdc rd rv oL (I2.v9 (Nat.le_succ _) (I2.hok.fresh (Nat.le_succ _))) h64 hk (λv H' d G' t=>kk v H' d G' ((t1.trans ts).trans t)) λs' ep=>⟨_,rfl,dw ⟨_,rfl,ep⟩⟩
 .exact q1.elim
end
end
end L2
namespace L4
open PySem PySem.Spec PyProof.Rows L2
inductive BF where
 |len|abs|isi|min|max|sum|afP|ab3|asK|ayZ
 deriving DecidableEq
inductive MK where
 |append|extend|insert
 deriving DecidableEq
inductive DM where
 |sdf|pop|sdk
 deriving DecidableEq
inductive GT where
 |con (d:D)|cls (a:bx)|fn (sp:fU) (n:Nat) (qt:Bool)|bf (b:BF)|bt (n:String)|kl (C:bx) (sp:fU) (dd:List D)|me (C:bx) (m:Str) (sp:fU) (dd:List D)|fl (C:bx) (f:Str)|clo (c:aqN) (sp:fU)|fnP (sp:fU) (n:Nat)
structure SI where
 N:List Str
 fl:List Bool
 lc:List Bool
 ce:List Bool
 gl:List (Str×GT)
 gv:List Bool
 calm:Bool
 need:Bool
mutual
inductive CE where
 |fre (i:Nat)|var (i:Nat)|con (d:D)|glo (k:Nat)|neg (a:CE)|asL (a:CE)|bin (o:Operator) (a b:CE)|cmp (o:a0x) (a b:CE)|chain (o o':a0x) (a b c:CE)
 |afQ (es:CEs)|ifx (c:CT) (a b:CE)|tup (es:CEs)|lst (es:CEs)|dct|ix (a b:CE)|sl (a:CE) (lo hi:CO)|call (k:Nat) (es:CEs)|meth (m:MK) (o:CE) (es:CEs)
 |comp (fl gv:List Bool) (ci:CI) (cc:CC) (e:CE)|a0V (n:Nat) (fl gv:List Bool) (ci:CI) (cc:CC) (e:CE)|maxD (k:Nat) (e d:CE)|dix (a b:CE)|din (neg:Bool) (a b:CE)|dgt (o e f:CE)|asM|az1 (t:Bool) (a b:CE)
inductive CEs where
 |nil|cons (e:CE) (r:CEs)
inductive CT where
 |cmp (o:a0x) (a b:CE)|chain (o o':a0x) (a b c:CE)|not (t:CT)|and (ts:CTs)|or (ts:CTs)|val (e:CE)|din (neg:Bool) (a b:CE)
inductive CTs where
 |nil|cons (t:CT) (r:CTs)
inductive CO where
 |none|some (e:CE)
inductive CI where
 |any (e:CE)|a3K (e:CE)|zip (a b:CE)|aiO (a b c:CE)|items (e:CE)|enu (e:CE)
inductive CC where
 |none|some (t:CT)
end
@[simp]def SI.cmp(S:SI)(xs:List Str)(fl gv:List Bool):SI:=⟨xs++S.N,xs.map (λ_=>ak)++fl,xs.map (λ_=>ak)++S.N.map (λ_=>ao),xs.map (λ_=>ao)++fl,S.gl,gv,S.calm,ao⟩
abbrev asN:cO:=λ_ _ _=>False
abbrev aC5:vD:=λ_ _ _=>False
abbrev NoX:aN->aV:=λ_ _ _=>False
abbrev aC6:Operator->R3
 |.Add=>cB
 |.Sub=>jW
 |.Mult=>oR
 |.FloorDiv=>gK
 |.Mod=>eX
 |.Pow=>aBQ
 |_=>λ_ _ _ _=>False
abbrev a7J:a0x->R3
 |.Eq=>j5
 |.NotEq=>jA
 |.Lt=>a5E
 |.LtE=>anL
 |.Gt=>a6V
 |.GtE=>axJ
 |.Is=>aEF
 |.IsNot=>aqQ
 |.In=>aL3
 |.NotIn=>akN
abbrev aSF:Bool->R3
 |true=>aLF
 |false=>aLE
abbrev aM6(K:Fg):BF->List D->Gp->eV->Prop
 |.len=>dO
 |.abs=>aaN
 |.isi=>aJ K
 |.min=>vN
 |.max=>zQ
 |.sum=>akT
 |.afP=>a0T
 |.ab3=>xT
 |.asK=>a3F
 |.ayZ=>acX
abbrev aG5(n:String):List D->Gp->eV->Prop:=if n="int" then a0H else if n="list" then a73 else if n="str" then aC3 else if n="tuple" then akZ else λ_ _ _=>False
abbrev mkT:MK->String
 |.append=>"list"
 |.extend=>"list"
 |.insert=>"list"
abbrev mkR:MK->RM3
 |.append=>dR
 |.extend=>vK
 |.insert=>qR
abbrev mkN:MK->Str
 |.append=>"append"
 |.extend=>"extend"
 |.insert=>"insert"
abbrev aG6(T:List (Str×GT))(k:Nat):cO:=match T[k]? with
 |some (_,.con d)=>aR d
 |some (_,.bt n)=>aR (.ty n)
 |_=>asN
abbrev aG7(T:List (Str×GT))(K:Fg)(ex:aN->aV)(k:Nat)(t:qM):cO:=match T[k]? with
 |some (_,.fn sp _ _)=>aU sp ex t
 |some (_,.bf b)=>cJ (aM6 K b) t
 |some (_,.bt n)=>cJ (aG5 n) t
 |_=>asN
abbrev aG8:Bool->R3
 |true=>a3A
 |false=>af9
mutual
noncomputable def mE(T:List (Str×GT))(K:Fg)(ex:aN->aV):CE->cO
 |.fre i=>aA i
 |.var i=>aA i
 |.con d=>aR d
 |.glo k=>aG6 T k
 |.neg a=>aaL (mE T K ex a)
 |.asL a=>a6U (mE T K ex a)
 |.bin o a b=>aD (aC6 o) (mE T K ex a) (mE T K ex b)
 |.cmp o a b=>aD (a7J o) (mE T K ex a) (mE T K ex b)
 |.chain o o' a b c=>oO (a7J o) (a7J o') (mE T K ex a) (mE T K ex b) (mE T K ex c)
 |.afQ es=>aG9 T K ex es
 |.ifx c a b=>aqO (mT T K ex c) (mE T K ex a) (mE T K ex b)
 |.tup es=>cP (mA T K ex es)
 |.lst es=>eF (mA T K ex es)
 |.dct=>acE
 |.ix a b=>aD bA (mE T K ex a) (mE T K ex b)
 |.sl a lo hi=>a0J (mE T K ex a) (mO T K ex lo) (mO T K ex hi)
 |.call k es=>aG7 T K ex k (mA T K ex es)
 |.meth m o .nil=>aF2 (mkT m) (mkR m) (mE T K ex o)
 |.meth m o (.cons e r)=>tM3 (mkT m) (mkR m) (mE T K ex o) (aB (mE T K ex e) (mA T K ex r))
 |.comp _ _ ci cc e=>vL (mI T K ex ci) (mC T K cc) (mE T K NoX e)
 |.a0V n _ _ ci cc e=>mH n (mI T K ex ci) (mC T K cc) (mE T K NoX e)
 |.maxD _ e d=>akV (mE T K ex e) (mE T K ex d)
 |.dix a b=>aD gO (mE T K ex a) (mE T K ex b)
 |.din neg a b=>aD (aG8 neg) (mE T K ex a) (mE T K ex b)
 |.dgt o e f=>a5X (mE T K ex o) (mE T K ex e) (mE T K ex f)
 |.asM=>a0K
 |.az1 t a b=>acV t (mE T K ex a) (mE T K ex b)
noncomputable def mA(T:List (Str×GT))(K:Fg)(ex:aN->aV):CEs->qM
 |.nil=>aC
 |.cons e r=>aB (mE T K ex e) (mA T K ex r)
noncomputable def aG9(T:List (Str×GT))(K:Fg)(ex:aN->aV):CEs->cO
 |.nil=>asN
 |.cons e .nil=>mE T K ex e
 |.cons e (.cons e' r)=>nF (mE T K ex e) (aG9 T K ex (.cons e' r))
noncomputable def mOr(T:List (Str×GT))(K:Fg)(ex:aN->aV):CEs->cO
 |.nil=>asN
 |.cons e .nil=>mE T K ex e
 |.cons e (.cons e' r)=>aBN (mE T K ex e) (mOr T K ex (.cons e' r))
noncomputable def mT(T:List (Str×GT))(K:Fg)(ex:aN->aV):CT->vD
 |.cmp o a b=>aK (aD (a7J o) (mE T K ex a) (mE T K ex b))
 |.chain o o' a b c=>aK (oO (a7J o) (a7J o') (mE T K ex a) (mE T K ex b) (mE T K ex c))
 |.not t=>j8 (mT T K ex t)
 |.and ts=>asO T K ex ts
 |.or ts=>aGA T K ex ts
 |.val e=>aK (mE T K ex e)
 |.din neg a b=>aK (aD (aG8 neg) (mE T K ex a) (mE T K ex b))
noncomputable def asO(T:List (Str×GT))(K:Fg)(ex:aN->aV):CTs->vD
 |.nil=>aC5
 |.cons e .nil=>mT T K ex e
 |.cons e (.cons e' r)=>u5 (mT T K ex e) (asO T K ex (.cons e' r))
noncomputable def aGA(T:List (Str×GT))(K:Fg)(ex:aN->aV):CTs->vD
 |.nil=>aC5
 |.cons e .nil=>mT T K ex e
 |.cons e (.cons e' r)=>pR (mT T K ex e) (aGA T K ex (.cons e' r))
noncomputable def mO(T:List (Str×GT))(K:Fg)(ex:aN->aV):CO->TO3
 |.none=>vG
 |.some e=>a6W (mE T K ex e)
noncomputable def mI(T:List (Str×GT))(K:Fg)(ex:aN->aV):CI->TI3
 |.any e=>lV (mE T K ex e)
 |.a3K e=>lW (aB (mE T K ex e) aC)
 |.zip a b=>a4B (aB (mE T K ex a) (aB (mE T K ex b) aC))
 |.aiO a b c=>a3G (aB (mE T K ex a) (aB (mE T K ex b) (aB (mE T K ex c) aC)))
 |.items e=>mJ ak (mE T K ex e)
 |.enu e=>a3I (aB (mE T K ex e) aC)
noncomputable def mC(T:List (Str×GT))(K:Fg):CC->vD
 |.none=>gM
 |.some t=>mT T K NoX t
end
abbrev isStar:jc->Bool
 |.Starred ..=>ak
 |_=>ao
abbrev isSlice:jc->Bool
 |.Slice ..=>ak
 |_=>ao
abbrev eZ:jc->Bool
 |.Call (.Name id _) [] [] _=>id !=("super":Str)
 |_=>ak
abbrev isSet:jc->Bool
 |.Set ..=>ak
 |_=>ao
abbrev aGB:BF->String
 |.len=>"len"
 |.abs=>"abs"
 |.isi=>"isinstance"
 |.min=>"min"
 |.max=>"max"
 |.sum=>"sum"
 |.afP=>"list"
 |.ab3=>"dict"
 |.asK=>"len"
 |.ayZ=>"min"
abbrev asQ:BF->bh
 |.afP=>.type "list"
 |.ab3=>.type "dict"
 |b=>.builtin (aGB b)
abbrev aiP:BF->Bool
 |.len=>ak
 |.abs=>ak
 |.isi=>ak
 |.asK=>ak
 |_=>ao
abbrev oV(S:SI):Bool:=(je S.gl.length).any λk=>S.gv[k]?==aj ak&&match S.gl[k]? with
 |some (y,.bt n)=>y==("range":Str)&&n=="range"
 |_=>ao
abbrev afR(S:SI):Bool:=(je S.gl.length).any λk=>S.gv[k]?==aj ak&&match S.gl[k]? with
 |some (y,.bt n)=>y==("zip":Str)&&n=="zip"
 |_=>ao
abbrev a7K(S:SI):Bool:=(je S.gl.length).any λk=>S.gv[k]?==aj ak&&match S.gl[k]? with
 |some (y,.bt n)=>y==("enumerate":Str)&&n=="enumerate"
 |_=>ao
abbrev al3(S:SI)(k:Nat)(x:Str):Bool:=match S.gl[k]? with
 |some (y,.bf b)=>y==x&&asQ b==.builtin "max"
 |_=>ao
abbrev aGC(S:SI)(y:Str):Bool:=(je S.N.length).any λi=>S.N[i]?==aj y&&S.ce[i]?==aj ak
abbrev ad0:List Str->Bool
 |[]=>ak
 |x::r=>!r.contains x&&ad0 r
abbrev vU:List jc->Option (List Str)
 |[]=>aj []
 |.Name x _::r=>(vU r).map (x:: ·)
 |_=>aq
abbrev uD(S:SI)(xs:List Str)(scope:ur)(fl gv:List Bool):Bool :=
 scope.kind==.function&&scope.names.all (λy=>y.2 !=.cell&&(y.2 !=.local||scope.names.lookup y.1==aj .local)&&(y.2 !=.free||aGC S y.1)) &&
 xs.all (λx=>scope.names.lookup x==aj .local&&!S.N.contains x&&x !=("__debug__":Str)&&x !=("__classdict__":Str))&&ad0 xs &&
 S.N.all (λy=>scope.names.lookup y !=aj .local) &&
 (je S.N.length).all (λi=>fl[i]? !=aj ak||(S.fl[i]?==aj ak&&match S.N[i]? with
  |some y=>scope.names.lookup y==aj .free
  |none=>ao)) &&
 (je S.gl.length).all (λk=>gv[k]? !=aj ak||match S.gl[k]? with
  |some (y,_)=>scope.names.lookup y==aj .globalImplicit
  |none=>ao)
abbrev aC7:D->Const->Bool
 |.int i,.int j=>i==j
 |.str s,.str t=>s==t
 |.bl b,.bool c=>b==c
 |.non,.none=>ak
 |_,_=>ao
abbrev plainT:jc->Bool
 |.UnaryOp .Not _ _=>ao
 |.BoolOp ..=>ao
 |.IfExp ..=>ao
 |.Compare ..=>ao
 |_=>ak
abbrev asR(S:SI)(k:Nat)(x:Str):Bool:=match S.gl[k]? with
 |some (y,.con _)=>y==x
 |some (y,.bt _)=>y==x
 |_=>ao
abbrev al4(S:SI)(k:Nat)(x:Str)(e:Bool):Bool:=match S.gl[k]? with
 |some (y,.fn _ _ qt)=>y==x&&(qt||S.calm)
 |some (y,.bf b)=>y==x&&e&&(S.calm||aiP b)
 |some (y,.bt _)=>y==x&&e
 |_=>ao
abbrev a0W:jc->Option (jc×Str×Bool)
 |.Call (.Attribute y n ap) [] [] cp=>aj (y,n,ap.endLine==cp.line)
 |_=>aq
abbrev sY:jc->Option (Str×jc)
 |.Call (.Name x _) [z] [] _=>aj (x,z)
 |_=>aq
abbrev lit:jc->Option (Str×Nat×Pos)
 |.Constant (.str y) j p=>aj (y,j,p)
 |_=>aq
abbrev asS:List Str->List (Option jc)->Bool
 |[],[]=>ak
 |k::ks,aj (.Constant (.str k') _ _)::es=>k==k'&&asS ks es
 |_,_=>ao
mutual
noncomputable def kE(S:SI):CE->jc->Bool
 |.fre i,.Name x _=>S.N[i]?==aj x&&S.ce[i]?==aj ak&&x !=("__debug__":Str)&&x !=("__classdict__":Str)
 |.var i,.Name x _=>S.N[i]?==aj x&&S.fl[i]?==aj ak
 |.con d,.Constant c _ _=>aC7 d c
 |.glo k,.Name x _=>S.gv[k]?==aj ak&&asR S k x
 |.neg a,.UnaryOp .USub e _=>kE S a e
 |.asL a,.UnaryOp .Not e _=>kE S a e
 |.bin o a b,.BinOp x o' y _=>o==o'&&kE S a x&&kE S b y
 |.cmp o a b,.Compare x [o'] [y] _=>o==o'&&!behindInMarks o' y&&kE S a x&&kE S b y
 |.chain o o' a b c,.Compare x [p,p'] [y,z] _=>o==p&&o'==p'&&!lastMarks [p,p'] [y,z]&&kE S a x&&kE S b y&&kE S c z
 |.afQ es,.BoolOp .And xs _=>yQ S es xs
 |.ifx c a b,.IfExp t x y _=>kT S c t&&kE S a x&&kE S b y
 |.tup es,.Tuple xs _ _=>yQ S es xs
 |.lst es,.List xs _=>yQ S es xs
 |.dct,.Dict [] [] _=>ak
 |.ix a b,.Subscript x y _=>!isSlice y&&kE S a x&&kE S b y
 |.sl a lo hi,.Subscript x (.Slice l h aq _) _=>kE S a x&&kO S lo l&&kO S hi h
 |.call k es,.Call (.Name x _) xs [] _=>yQ S es xs&&S.gv[k]?==aj ak&&al4 S k x (!xs.isEmpty)
 |.meth m o es,.Call (.Attribute y n ap) xs [] cp=>n==mkN m&&eZ y&&ap.endLine==cp.line&&decide (xs.length<30)&&kE S o y&&yQ S es xs
 |.comp fl gv ci cc e,.ListComp elt [⟨.Name x _,iter,ifs,a⟩] scope _=>a==0&&uD S [x] scope fl gv&&!isSet iter&&kI S ao ci iter&&kC (S.cmp [x] fl gv) cc ifs&&kE (S.cmp [x] fl gv) e elt
 |.a0V n fl gv ci cc e,.ListComp elt [⟨.Tuple es _ _,iter,ifs,a⟩] scope _=>S.calm&&a==0&&(match vU es with
  |some xs=>xs.length==n&&uD S xs scope fl gv&&!isSet iter&&kI S ak ci iter&&kC (S.cmp xs fl gv) cc ifs&&kE (S.cmp xs fl gv) e elt
  |none=>ao)
 |.maxD k e d,.Call (.Name x _) [y] [⟨aj n,z,_⟩] _=>n==("default":Str)&&S.calm&&S.gv[k]?==aj ak&&al3 S k x&&!isStar y&&kE S e y&&kE S d z
 |.dix a b,.Subscript x y _=>!isSlice y&&kE S a x&&kE S b y
 |.din neg a b,.Compare x [o'] [y] _=>o'==(if neg then a0x.NotIn else a0x.In)&&!behindInMarks o' y&&kE S a x&&kE S b y
 |.dgt o e f,.Call (.Attribute y n ap) [x,z] [] cp=>n==("get":Str)&&eZ y&&ap.endLine==cp.line&&!isStar x&&!isStar z&&kE S o y&&kE S e x&&kE S f z
 |.asM,.Dict [] [] _=>ak
 |.az1 _ a b,.Dict [aj x] [y] _=>kE S a x&&kE S b y
 |_,_=>ao
noncomputable def yQ(S:SI):CEs->List jc->Bool
 |.nil,[]=>ak
 |.cons e r,x::xs=>!isStar x&&kE S e x&&yQ S r xs
 |_,_=>ao
noncomputable def kT(S:SI):CT->jc->Bool
 |.cmp o a b,.Compare x [o'] [y] _=>o==o'&&!behindInMarks o' y&&kE S a x&&kE S b y
 |.chain o o' a b c,.Compare x [p,p'] [y,z] _=>o==p&&o'==p'&&!lastMarks [p,p'] [y,z]&&kE S a x&&kE S b y&&kE S c z
 |.not t,.UnaryOp .Not e _=>kT S t e
 |.and ts,.BoolOp .And xs _=>kTs S ts xs
 |.or ts,.BoolOp .Or xs _=>kTs S ts xs
 |.din neg a b,.Compare x [o'] [y] _=>o'==(if neg then a0x.NotIn else a0x.In)&&!behindInMarks o' y&&kE S a x&&kE S b y
 |.val e,x=>plainT x&&kE S e x
 |_,_=>ao
noncomputable def kTs(S:SI):CTs->List jc->Bool
 |.nil,[]=>ak
 |.cons e r,x::xs=>kT S e x&&kTs S r xs
 |_,_=>ao
noncomputable def kO(S:SI):CO->Option jc->Bool
 |.none,aq=>ak
 |.some e,aj x=>kE S e x
 |_,_=>ao
noncomputable def kI(S:SI)(tt:Bool):CI->jc->Bool
 |.any e,x=>kE S e x
 |.a3K e,.Call (.Name r _) [y] [] _=>r==("range":Str)&&oV S&&!isStar y&&kE S e y
 |.aiO a b c,.Call (.Name r _) [y,z,v] [] _=>r==("range":Str)&&oV S&&!isStar y&&!isStar z&&!isStar v&&kE S a y&&kE S b z&&kE S c v
 |.zip a b,.Call (.Name r _) [y,z] [] _=>tt&&r==("zip":Str)&&afR S&&!isStar y&&!isStar z&&kE S a y&&kE S b z
 |.items e,x=>tt&&(match a0W x with
  |some (y,n,l)=>l&&n==("items":Str)&&eZ y&&kE S e y
  |none=>ao)
 |.enu e,x=>tt&&(match sY x with
  |some (r,y)=>r==("enumerate":Str)&&a7K S&&!isStar y&&kE S e y
  |none=>ao)
 |_,_=>ao
noncomputable def kC(S:SI):CC->List jc->Bool
 |.none,[]=>ak
 |.some t,[x]=>kT S t x
 |_,_=>ao
end
end L4
namespace L4
open PySem PySem.Spec PyProof.Rows L2
variable{env:Env}
def aO(h:isStar e=ao):jt (e::es) env=(ao,eval e env)::jt es env:=by
 cases e<;>first|rfl|(exact absurd (show ak=ao from h) (by decide))
def a0X{env:Env}{pos:Pos}:∀{cs:CEs}{xs:List jc},yQ S cs xs=ak->(a0i pos (jt xs env)).any (·.1)=ao
 |.nil,[],_=>rfl
 |.nil,_::_,h=>absurd (show ao=ak from h) (by decide)
 |.cons _ _,[],h=>absurd (show ao=ak from h) (by decide)
 |.cons e r,x::xs,h=>by
  have h':(!isStar x&&kE S e x&&yQ S r xs)=ak:=h;simp only[bw,gw]at h';rw[aO h'.1.1];show(ao||(a0i pos (jt xs env)).any (·.1))=ao;rw[a0X h'.2];rfl
def lH{n:Str}(h:eZ o=ak):a03 o n env (eval o env)=eval o env:=by
 cases o with
 |Call f args kws pos =>
  cases f with
  |Name id p =>
   cases args with
   |nil =>
    cases kws with
    |nil =>
     have h':(id !=("super":Str))=ak:=h;unfold a03;simp only[h',Bool.true_or,if_true]
    |cons _ _=>rfl
   |cons _ _=>cases kws<;>rfl
  |_=>rfl
 |_=>rfl
@[simp]def BMv:List bh:=[.type "ValueError",.type "Exception",.type "BaseException",.type "object"]
abbrev aGD(X:Cx)(cm:Bool)(x:Str):GT->Prop
 |.con d=>∃u v,X.mg x=aj u/\RelV v u/\∀H,RD X.K H d v
 |.fn sp n qt=>(qt=ak∨cm=ak)->∃k f fd ps,cH qt X.prog X.w X.K X.mg X.base (j9 X.prog X.w) k f fd ps (d7 X.K sp)/\fQ qt k X.A/\X.mg x=aj (.ref f)/\yh X.K (.ref f)=ak/\Binds X.K fd ps []
 |.bf b=>X.mg x=aq/\jw x=aj (asQ b)
 |.bt n=>X.mg x=aq/\jw x=aj (.type n)
 |_=>False
structure jD(X:Cx)(S:SI)(ex:aN->aV):Prop where
 N:X.N=S.N
 nd:X.N.Nodup
 vis:∀(i:Nat)(x:Str),S.N[i]?=aj x->S.fl[i]?=aj ak->Vis X.env.scope x/\(x==("__debug__":Str))=ao/\(x==("__classdict__":Str))=ao
 ce:∀(i:Nat)(x:Str),S.N[i]?=aj x->S.ce[i]?=aj ak->X.env.kindOf x=aj .cell∨X.env.kindOf x=aj .free
 gm:∀(k:Nat)(x:Str)(g:GT),S.gl[k]?=aj (x,g)->(S.gv[k]?=aj ak->Gl X x)/\(x==("__debug__":Str))=ao/\x≠"__name__"/\aGD X S.calm x g
 hu:X.A.units+64<ni
 cm:S.calm=ak->X.calm=ak
 cat:Cat X ex
 nk:S.need=ak->X.need=ak
def jD.gl{S:SI}{ex:aN->aV}(Q:jD X S ex)(k:Nat)(x:Str)(g:GT)(h:S.gl[k]?=aj (x,g))(hv:S.gv[k]?=aj ak):Gl X x/\(x==("__debug__":Str))=ao/\x≠"__name__"/\aGD X S.calm x g :=
 ⟨(Q.gm k x g h).1 hv,(Q.gm k x g h).2⟩
section
variable{X:Cx}{ex:aN->aV}
def asT:cU X e asN:=λ_ _ _ _ _ _ ⟨_,_,_,_,_,z,_⟩=>z.elim
def az3:a6T X (wu o) (aC6 o):=by
 have no:∀{f:bh->bh->Sem bh},a6T X f (λ_ _ _ _=>False):=λ{f}=>⟨λ_ _ _ _=>False,λ_ _ _ _ _ _ _ _ _ _ _ _ h=>h.elim,λ_ _ _ _ _ _ _ _ _ _ _ h _=>h.elim⟩;exact match o with
 |.Add=>aKQ
 |.Sub=>aKM
 |.Mult=>aKN
 |.FloorDiv=>aEE
 |.Mod=>aKO
 |.Pow=>aKP
 |.MatMult=>no
 |.Div=>no
 |.LShift=>no
 |.RShift=>no
 |.BitOr=>no
 |.BitXor=>no
 |.BitAnd=>no
def xV(hu:X.A.units+64<ni):oH X (jm o) (a7J o):=by
 exact match o with
 |.Eq=>aPX hu
 |.NotEq=>aPY hu
 |.Lt=>aPL
 |.LtE=>aPO
 |.Gt=>aPM
 |.GtE=>aPN
 |.Is=>aPP
 |.IsNot=>aEG
 |.In=>aQ0 hu
 |.NotIn=>axP hu
private theorem aM8{n:String}:cI X (.type n) (aG5 n):=by
 unfold aG5;split
 ·rename_i h;subst h;exact aL1
 .split
  ·rename_i h;subst h;exact aEW
  .split
   ·rename_i h;subst h;exact aLX
   .split
    ·rename_i h;subst h;exact ayL
    .exact λ_ _ _ _ _ _ _ _ _ _ _ _ _ _ h _=>h.elim
def asU{qt:Bool}{k:Nat}{x:Str}{pos:Pos}(F:cH qt X.prog X.w X.K X.mg X.base (j9 X.prog X.w) k f fd ps (d7 X.K sp))(hr:fQ qt k X.A)(hg:Gl X x)(hm:X.mg x=aj (.ref f))(hk:yh X.K (.ref f)=ak)(hb:Binds X.K fd ps [])(hx:Cat X ex)
  (hdb:(x==("__debug__":Str))=ao):cU X (.Call (.Name x p) [] [] pos) (aU sp ex aC):=by
 intro pins s σ H Q I h _tk;obtain⟨ρ,G,R,sr,g,q,kk⟩:=h;refine a0m (abV I hg hm ?_ hdb);refine PySem.W.callWith_K0 I.kIn hk ?_;exact akK (E:=aeV X.K (ex ρ)) F hr hb (λe s' c=>hx.aqT pins σ H s ρ e s' I sr c) I .nil (Q:=λv H'=>∃d G',RD X.K H' d v/\HR X.K H' G'/\R d G') ⟨[],G,R,ex ρ,.nil,g,q,λv H' d G' r2 g2 q2=>⟨d,G',r2,g2,q2⟩,λC H' G' g' q'=>⟨C,G',rfl,g',q'⟩⟩ (by rintro v H' t2 ⟨d,G',r2,g2,q2⟩;exact kk v H' d G' t2 r2 g2 q2)
def ad1{xs:List jc}{cs:CEs}(h:yQ S cs xs=ak)(hl:xs.length<30):((a0i cp (jt xs X.env)).all (λx=>!x.1)&&(backToKw cp (keywordEach [] X.env)).all (λx=>x.1.isSome)
   &&decide (xs.length+([]:List Keyword).length+(if([]:List Keyword).isEmpty then 0 else 1)<30))=ak:=by
 have h1:(a0i cp (jt xs X.env)).all (λx=>!x.1)=ak:=by
  rw[jl];intro y hy;have:=a0X (env:=X.env) (pos:=cp) h;rw[List.any_eq_false]at this;have:=this y hy;simpa using this
 have h2:(decide (xs.length+([]:List Keyword).length+(if([]:List Keyword).isEmpty then 0 else 1)<30))=ak:=decide_eq_true (by simpa using hl);rw[h1,h2];rfl
end
end L4
namespace L4
open PySem PySem.Spec PyProof.Rows L2
variable{j:Nat}{pos:Pos}{x:Str}{m:MK}{env:Env}{scope:ur}{w:jc}
section
variable{X:Cx}{S:SI}{ex:aN->aV}
def aGE(h:aC7 d c=ak):cU X (.Constant c j pos) (aR d):=by
 cases d<;>cases c<;>first|exact absurd (show ao=ak from h) (by decide)|skip
 .exact aK9
 .have:=beq_iff_eq.mp h;subst this;exact aPH
 .have:=beq_iff_eq.mp h;subst this;exact aK8
 .have:=beq_iff_eq.mp h;subst this;exact aKA
def aGF{e:jc}(h:plainT e=ak):∀whole,isTrue e X.env whole=(do let v ←whole;standAt e.pos;holding [v] (truthy v)):=by
 cases e with
 |UnaryOp op x p=>cases op<;>first|exact absurd (show ao=ak from h) (by decide)|(intro _;rfl)
 |BoolOp _ _ _=>exact absurd (show ao=ak from h) (by decide)
 |IfExp _ _ _ _=>exact absurd (show ao=ak from h) (by decide)
 |Compare _ _ _ _=>exact absurd (show ao=ak from h) (by decide)
 |_=>intro _;rfl
def aC8(h:isSlice e=ao):ac0 e:=by
 cases e with
 |Slice _ _ _ _=>exact absurd (show ak=ao from h) (by decide)
 |_=>intro _ _;rfl
def aM9(Q:jD X S ex){k:Nat}{b:BF}(hk:S.gl[k]?=aj (x,.bf b))(hv:S.gv[k]?=aj ak)(hc:(S.calm||aiP b)=ak){t:qM}(ha:PA3 X (e::es) t)(he:isStar e=ao)(hp:(a0i pos (jt es X.env)).any (·.1)=ao):cU X (.Call (.Name x p) (e::es) [] pos) (cJ (aM6 X.K b) t):=by
 obtain⟨h1,h2,h3,h4⟩:=Q.gl _ _ _ hk hv
 have cm:aiP b=ao->X.calm=ak:=λz=>by
  rw[z,Bool.or_false]at hc;exact Q.cm hc
 cases b with
 |len=>exact oU aKZ h1 h4.1 h4.2 ha h3 h2 (aO he) hp
 |abs=>exact oU aL0 h1 h4.1 h4.2 ha h3 h2 (aO he) hp
 |isi=>exact oU acC h1 h4.1 h4.2 ha h3 h2 (aO he) hp
 |min=>exact oU (aFH (cm rfl)) h1 h4.1 h4.2 ha h3 h2 (aO he) hp
 |max=>exact oU (aFG (cm rfl)) h1 h4.1 h4.2 ha h3 h2 (aO he) hp
 |sum=>exact oU (aLC (cm rfl)) h1 h4.1 h4.2 ha h3 h2 (aO he) hp
 |afP=>exact a72 (ayK (cm rfl)) h1 h4.1 h4.2 ha h3 h2 (aO he) hp
 |ab3=>exact a72 (ayI (cm rfl) Q.hu) h1 h4.1 h4.2 ha h3 h2 (aO he) hp
 |asK=>exact oU aFQ h1 h4.1 h4.2 ha h3 h2 (aO he) hp
 |ayZ=>exact oU (aG2 (cm rfl) Q.hu) h1 h4.1 h4.2 ha h3 h2 (aO he) hp
def az4{ap cp:Pos}(ho:cU X o to)(hb:eZ o=ak)(hl:(ap.endLine==cp.line)=ak):cU X (.Call (.Attribute o (mkN m) ap) [] [] cp) (aF2 (mkT m) (mkR m) to):=by
 cases m with
 |append=>exact ar3 PySem.F.plainAttrs_list PySem.F.slot_list_append PySem.F.type_list_append aeZ ho (lH hb) hl
 |extend=>exact ar3 PySem.F.plainAttrs_list PySem.F.slot_list_extend PySem.F.type_list_extend af0 ho (lH hb) hl
 |insert=>exact ar3 PySem.F.plainAttrs_list PySem.F.slot_list_insert PySem.F.type_list_insert afM ho (lH hb) hl
def asV{t:qM}{cs:CEs}{ap cp:Pos}(ho:cU X o to)(ha:PA3 X (e::es) t)(hb:eZ o=ak)(hl:(ap.endLine==cp.line)=ak)(hk:yQ S cs (e::es)=ak)(hn:(e::es).length<30) :
  cU X (.Call (.Attribute o (mkN m) ap) (e::es) [] cp) (tM3 (mkT m) (mkR m) to t):=by
 have he:isStar e=ao:=by
  cases cs with
  |nil=>exact absurd (show ao=ak from hk) (by decide)
  |cons c r =>
   have h':(!isStar e&&kE S c e&&yQ S r es)=ak:=hk;simp only[bw,gw]at h';exact h'.1.1
 have hp:(a0i cp (jt es X.env)).any (·.1)=ao:=by
  have:=a0X (env:=X.env) (pos:=cp) hk;rw[aO he]at this;have z:(ao||(a0i cp (jt es X.env)).any (·.1))=ao:=this;simpa using z
 cases m with
 |append=>exact aF3 PySem.F.plainAttrs_list PySem.F.slot_list_append PySem.F.type_list_append aeZ ho ha (lH hb) (ad1 hk hn) hl (aO he) hp
 |extend=>exact aF3 PySem.F.plainAttrs_list PySem.F.slot_list_extend PySem.F.type_list_extend af0 ho ha (lH hb) (ad1 hk hn) hl (aO he) hp
 |insert=>exact aF3 PySem.F.plainAttrs_list PySem.F.slot_list_insert PySem.F.type_list_insert afM ho ha (lH hb) (ad1 hk hn) hl (aO he) hp
local macro_rules| `(tactic| walk_at "off")=>`(tactic| exact absurd (show ao=ak from by assumption) (by decide))
private theorem aGG(Q:jD X S ex){k:Nat}(h:kE S (.glo k) (.Name x p)=ak):cU X (.Name x p) (aG6 S.gl k):=by
 have h':(S.gv[k]?==aj ak&&asR S k x)=ak:=h;rw[bw]at h';obtain⟨hv,h⟩:=h';have hv:=beq_iff_eq.mp hv;unfold asR at h;unfold aG6;split at h
 .rename_i y d hk;have:=beq_iff_eq.mp h;subst this;obtain⟨h1,h2,h3,u,v,h4,h5,h6⟩:=Q.gl _ _ _ hk hv;exact aE9 h1 h4 h5 h6 h2
 .rename_i y d hk;have:=beq_iff_eq.mp h;subst this;obtain⟨h1,h2,h3,h4⟩:=Q.gl _ _ _ hk hv;exact aEA h1 h4.1 h4.2 h3 h2
 .exact absurd h (by decide)
private theorem az5(Q:jD X S ex){k:Nat}{xs:List jc}(ha:PA3 X xs (mA S.gl X.K ex es))(hk:yQ S es xs=ak)(hv:S.gv[k]?=aj ak)(h:al4 S k x (!xs.isEmpty)=ak):cU X (.Call (.Name x p) xs [] pos) (aG7 S.gl X.K ex k (mA S.gl X.K ex es)):=by
 unfold al4 at h;unfold aG7
 have one:∀{e:jc}{r:List jc},xs=e::r->isStar e=ao/\(a0i pos (jt r X.env)).any (·.1)=ao:=λ{e r} z=>by
  subst z;cases es with
  |nil=>exact absurd (show ao=ak from hk) (by decide)
  |cons c cr =>
   have h':(!isStar e&&kE S c e&&yQ S cr r)=ak:=hk;simp only[bw,gw]at h';exact⟨h'.1.1,a0X h'.2⟩
 split at h
 .rename_i y sp n qt hg;rw[bw]at h;obtain⟨h,hc⟩:=h;have:=beq_iff_eq.mp h;subst this;obtain⟨h1,h2,h3,h4⟩:=Q.gl _ _ _ hg hv;obtain⟨j,f,fd,ps,F,hr,hm,hkp,hb⟩:=h4 (a0r _ _ |>.mp hc);cases xs with
  |nil =>
   cases es with
   |nil=>exact asU F hr h1 hm hkp hb Q.cat h2
   |cons _ _=>exact absurd (show ao=ak from hk) (by decide)
  |cons e r=>exact axM F hr h1 hm hkp hb Q.cat ha h2 (aO (one rfl).1) (one rfl).2
 .rename_i y b hg;rw[bw,bw]at h;obtain⟨⟨h,hc⟩,hcm⟩:=h;have:=beq_iff_eq.mp h;subst this;cases xs with
  |nil=>exact absurd (show ao=ak from hc) (by decide)
  |cons e r=>exact aM9 Q hg hv hcm ha (one rfl).1 (one rfl).2
 .rename_i y n hg;rw[bw]at h;obtain⟨h,hc⟩:=h;have:=beq_iff_eq.mp h;subst this;obtain⟨h1,h2,h3,h4⟩:=Q.gl _ _ _ hg hv;cases xs with
  |nil=>exact absurd (show ao=ak from hc) (by decide)
  |cons e r=>exact a72 aM8 h1 h4.1 h4.2 ha h3 h2 (aO (one rfl).1) (one rfl).2
 .exact absurd h (by decide)
def nJ{names:List (Str×qe)}{k:qe}(h:names.lookup y=aj k) :
  (names.map λ(n,k)=>if(k==.free&&env.scope.kind==.function&&env.kindOf n==aj .cell)then(n,.cell)else(n,k)).lookup y=aj k ∨
  (k=.free/\(names.map λ(n,k)=>if(k==.free&&env.scope.kind==.function&&env.kindOf n==aj .cell)then(n,.cell)else(n,k)).lookup y=aj .cell):=by
 induction names with
 |nil=>simp at h
 |cons p r ih =>
  obtain⟨n,kd⟩:=p;rw[lg]at h;show a3a y ((if(kd==.free&&env.scope.kind==.function&&env.kindOf n==aj .cell)=ak then(n,qe.cell)else(n,kd))::_)=aj k∨(k=.free/\a3a y ((if(kd==.free&&env.scope.kind==.function&&env.kindOf n==aj .cell)=ak then(n,qe.cell)else(n,kd))::_)=aj .cell);cases hx:y==n with
  |true =>
   rw[hx]at h;have hkd:kd=k:=by simpa using h
   subst hkd;by_cases hc:(kd==.free&&env.scope.kind==.function&&env.kindOf n==aj .cell)=ak
   .rw[if_pos hc,lg,hx];refine .inr ⟨?_,rfl⟩;simp only[bw,beq_iff_eq]at hc;exact hc.1.1
   .rw[if_neg hc,lg,hx];exact .inl rfl
  |false =>
   rw[hx]at h;have z:=ih h;by_cases hc:(kd==.free&&env.scope.kind==.function&&env.kindOf n==aj .cell)=ak
   .rw[if_pos hc,lg,hx];exact z
   .rw[if_neg hc,lg,hx];exact z
def ab4:∀{xs:List Str},ad0 xs=ak->xs.Nodup
 |[],_=>a2j
 |x::r,h=>by
  have h':(!r.contains x&&ad0 r)=ak:=h;rw[bw]at h';exact vh.mpr ⟨by simpa using h'.1,ab4 h'.2⟩
def a4E{xs:List Str}{fl gv:List Bool}(h:uD S xs scope fl gv=ak) :
  scope.kind=.function/\(∀y∈scope.names,y.2≠.cell/\(y.2=.local->scope.names.lookup y.1=aj .local)/\(y.2=.free->aGC S y.1=ak)) /\
  (∀x∈xs,scope.names.lookup x=aj .local/\x∉S.N/\(x==("__debug__":Str))=ao/\(x==("__classdict__":Str))=ao)/\xs.Nodup/\(∀y∈S.N,scope.names.lookup y≠aj .local) /\
  (∀(i:Nat)(y:Str),S.N[i]?=aj y->fl[i]?=aj ak->S.fl[i]?=aj ak/\scope.names.lookup y=aj .free) /\
  ∀(k:Nat)(y:Str)(g:GT),S.gl[k]?=aj (y,g)->gv[k]?=aj ak->scope.names.lookup y=aj .globalImplicit:=by
 unfold uD at h;simp only[bw]at h;obtain⟨⟨⟨⟨⟨⟨h1,h2⟩,h3⟩,h4⟩,h5⟩,h8⟩,h9⟩:=h;refine⟨beq_iff_eq.mp h1,λy hy=>?_,λx hx=>?_,ab4 h4,λy hy=>?_,λi y e1 e2=>?_,λk y g e1 e2=>?_⟩
 .have z:=jl.mp h2 y hy;simp only[bw,bne_iff_ne,ne_eq,a0r,beq_iff_eq]at z;obtain⟨⟨z1,z2⟩,z3⟩:=z;exact⟨z1,λe=>z2.resolve_left λn=>n e,λe=>z3.resolve_left λn=>n e⟩
 .have z:=jl.mp h3 x hx;simp only[bw]at z;obtain⟨⟨⟨z1,z2⟩,z3⟩,z4⟩:=z;exact⟨beq_iff_eq.mp z1,by simpa using z2,by simpa using z3,by simpa using z4⟩
 .have z:=jl.mp h5 y hy;simpa using z
 .have z:=jl.mp h8 i (ou.mpr (fj.mp e1).1);rw[e2,e1]at z;simpa using z
 .have z:=jl.mp h9 k (ou.mpr (fj.mp e1).1);rw[e2,e1]at z;simpa using z
def fW(Q:jD X S ex){fl gv:List Bool}(h:uD S xs scope fl gv=ak):sW X xs scope:=by
 obtain⟨h1,h2,h3,h4,h5,h8,h9⟩:=a4E h;refine⟨h1,λy hy=>(h2 y hy).1,λy hy=>(h2 y hy).2.1,λx hx=>(h3 x hx).1,λy hy e=>?_,λx hx=>by rw[Q.N];exact(h3 x hx).2.1,h4,by rw[Q.N];exact h5⟩;have z:=(h2 y hy).2.2 e;unfold aGC at z;obtain⟨i,_,z⟩:=a2s.mp z;rw[bw]at z;exact Q.ce i y.1 (beq_iff_eq.mp z.1) (beq_iff_eq.mp z.2)
def aGH{X:Cx}:Cat X NoX:=⟨λ_ _ _ _ _ _ _ _ _ z=>z.elim⟩
def ab5{α:Type}{xs ys:List α}{i:Nat}{y:α}(h:(xs++ys)[i]?=aj y):(i<xs.length/\y∈xs)∨∃j,i=xs.length+j/\ys[j]?=aj y:=by
 by_cases c:i<xs.length
 .rw[qj c]at h;exact .inl ⟨c,iz h⟩
 .rw[ux (by omega)]at h;exact .inr ⟨i - xs.length,by omega,h⟩
def al5{α β:Type}{xs:List α}{f:α->β}{ys:List β}:(xs.map f++ys)[xs.length+j]?=ys[j]?:=by
 rw[ux (by simp)];congr 1;simp
def jD.cmp(Q:jD X S ex){fl gv:List Bool}(h:uD S xs scope fl gv=ak)(C:bx)(s:dg)(H:Hp)(fp:List bx)(pins:List (bx×Obj)):jD (jC X xs scope C s H fp pins) (S.cmp xs fl gv) NoX:=by
 obtain⟨h1,h2,h3,h4,h5,h8,h9⟩:=a4E h;refine⟨by show xs++X.N=xs++S.N;rw[Q.N],aiH (fW Q h) Q.nd,λi y e1 e2=>?_,λi y e1 e2=>?_,λk y g e1=>?_,Q.hu,Q.cm,aGH,λz=>nomatch z⟩
 .rcases ab5 e1 with⟨_,m⟩|⟨j,rfl,e1'⟩
  .obtain⟨a1,a2,a3,a4⟩:=h3 y m;exact⟨.inl (a0y a1),a3,a4⟩
  .have e2':fl[j]?=aj ak:=al5.symm.trans e2;obtain⟨a1,a2⟩:=h8 j y e1' e2';obtain⟨_,b2,b3⟩:=Q.vis j y e1' a1;refine⟨?_,b2,b3⟩;rcases nJ (env:=X.env) a2 with z|⟨_,z⟩
   .exact .inr (.inr z)
   .exact .inr (.inl z)
 .rcases ab5 e1 with⟨c,m⟩|⟨j,rfl,e1'⟩
  .have e2':(xs.map (λ_=>ao)++fl)[i]?=aj ak:=e2;rw[qj (by simpa using c)]at e2';simp at e2'
  .have e2':fl[j]?=aj ak:=al5.symm.trans e2;obtain⟨a1,a2⟩:=h8 j y e1' e2';rcases nJ (env:=X.env) a2 with z|⟨_,z⟩
   .exact .inr z
   .exact .inl z
 .obtain⟨b1,b2,b3,b4⟩:=Q.gm k y g e1;refine⟨λe2=>?_,b2,b3,?_⟩
  .rcases nJ (env:=X.env) (h9 k y g e1 e2)with z|⟨z,_⟩
   .exact z
   .cases z
  .cases g<;>exact b4
def a7L:∀{es:List jc}{xs:List Str},vU es=aj xs->Two (λe x=>∃p,e=jc.Name x p) es xs
 |[],xs,h=>by
  have:xs=[]:=by simpa[vU]using h.symm
  subst this;exact .nil
 |e::es,xs,h=>by
  cases e with
  |Name x p =>
   have h':(vU es).map (x:: ·)=aj xs:=h;cases q:vU es with
   |none=>rw[q]at h';cases h'
   |some r =>
    rw[q]at h';have:xs=x::r:=by simpa using h'.symm
    subst this;exact .cons ⟨p,rfl⟩ (a7L q)
  |_=>exact absurd (show(aq:Option (List Str))=aj xs from h) (λz=>nomatch z)
private theorem a0Y(Q:jD X S ex)(h:oV S=ak):Gl X "range"/\X.mg "range"=aq:=by
 unfold oV at h;obtain⟨k,_,h⟩:=a2s.mp h;rw[bw]at h;obtain⟨hv,h⟩:=h;split at h
 .rename_i y n e;rw[bw]at h;have:=beq_iff_eq.mp h.1;subst this;obtain⟨g1,g2,g3,g4⟩:=Q.gl _ _ _ e (beq_iff_eq.mp hv);exact⟨g1,g4.1⟩
 .exact absurd h (by decide)
def asW{neg:Bool}(hu:X.A.units+64<ni)(h:(o==(if neg then a0x.NotIn else a0x.In))=ak):oH X (jm o) (aG8 neg):=by
 have:=beq_iff_eq.mp h;subst this;cases neg with
 |true=>exact aFO hu
 |false=>exact aLO hu
private theorem asY(Q:jD X S ex)(h:afR S=ak):Gl X "zip"/\X.mg "zip"=aq/\jw "zip"=aj (.type "zip"):=by
 unfold afR at h;obtain⟨k,_,h⟩:=a2s.mp h;rw[bw]at h;obtain⟨hv,h⟩:=h;split at h
 .rename_i y n e;rw[bw]at h;have e1:=beq_iff_eq.mp h.1;have e2:=beq_iff_eq.mp h.2;subst e1;subst e2;obtain⟨g1,g2,g3,g4⟩:=Q.gl _ _ _ e (beq_iff_eq.mp hv);exact⟨g1,g4.1,g4.2⟩
 .exact absurd h (by decide)
private theorem al6(Q:jD X S ex)(h:a7K S=ak):Gl X "enumerate"/\X.mg "enumerate"=aq/\jw "enumerate"=aj (.type "enumerate"):=by
 unfold a7K at h;obtain⟨k,_,h⟩:=a2s.mp h;rw[bw]at h;obtain⟨hv,h⟩:=h;split at h
 .rename_i y n e;rw[bw]at h;have e1:=beq_iff_eq.mp h.1;have e2:=beq_iff_eq.mp h.2;subst e1;subst e2;obtain⟨g1,g2,g3,g4⟩:=Q.gl _ _ _ e (beq_iff_eq.mp hv);exact⟨g1,g4.1,g4.2⟩
 .exact absurd h (by decide)
private theorem asZ(Q:jD X S ex){k:Nat}(h:al3 S k x=ak)(hv:S.gv[k]?=aj ak):Gl X x/\X.mg x=aq/\jw x=aj (.builtin "max")/\x≠"__name__"/\(x==("__debug__":Str))=ao:=by
 unfold al3 at h;split at h
 .rename_i y b e;rw[bw]at h;have e1:=beq_iff_eq.mp h.1;have e2:=beq_iff_eq.mp h.2;subst e1;obtain⟨g1,g2,g3,g4⟩:=Q.gl _ _ _ e hv;exact⟨g1,g4.1,by rw[←e2];exact g4.2,g3,g2⟩
 .exact absurd h (by decide)
def a7M{n:Str}{l:Bool}(h:a0W w=aj (y,n,l)):∃ap cp,w=.Call (.Attribute y n ap) [] [] cp/\l=(ap.endLine==cp.line):=by
 unfold a0W at h;split at h
 .cases h;exact⟨_,_,rfl,rfl⟩
 .cases h
def a7N(h:sY w=aj (x,z)):∃p q,w=.Call (.Name x p) [z] [] q:=by
 unfold sY at h;split at h
 .cases h;exact⟨_,_,rfl⟩
 .cases h
def ab6(h:isSet e=ao):∀x,a0w e env x=pure x:=by
 cases e<;>first|(intro _;rfl)|exact absurd (show ak=ao from h) (by decide)
end
end L4
namespace L4
open PySem PySem.Spec PyProof.Rows L2
def aY{P:Prop}(h:ao=ak):P:=absurd h (by decide)
def aGI{t:TI3}(h:PIS X tg e t):PI3 X tg e t:=PI.imp h λσ H Q ⟨ρ,G,R,sr,g,q,k⟩=>⟨ρ,G,R,sr,g,q,λsrc J H' G' t1 g1 sS r=>k src J H' G' t1 g1 (λH2 G2 _ g2 ok=>sS H2 G2 g2 ok) r⟩
mutual
theorem eO{X:Cx}{S:SI}{ex:aN->aV}(Q:jD X S ex):∀(c:CE)(e:jc),kE S c e=ak->cU X e (mE S.gl X.K ex c)
 |.fre i,e,h=>by
  cases e with
  |Name x p =>
   have h':(S.N[i]?==aj x&&S.ce[i]?==aj ak&&x !=("__debug__":Str)&&x !=("__classdict__":Str))=ak:=h;simp only[bw]at h';have e1:=beq_iff_eq.mp h'.1.1.1;have v:Vis X.env.scope x:=(Q.ce i x e1 (beq_iff_eq.mp h'.1.1.2)).elim (λz=>.inr (.inl z)) (λz=>.inr (.inr z));exact aBK i (by rw[Q.N];exact e1) v (beq_eq_false_iff_ne.mpr (bne_iff_ne.mp h'.1.2)) (beq_eq_false_iff_ne.mpr (bne_iff_ne.mp h'.2))
  |_=>exact aY h
 |.var i,e,h=>by
  cases e with
  |Name x p =>
   have h':(S.N[i]?==aj x&&S.fl[i]?==aj ak)=ak:=h;rw[bw]at h';have e1:=beq_iff_eq.mp h'.1;obtain⟨v1,v2,v3⟩:=Q.vis i x e1 (beq_iff_eq.mp h'.2);exact aBK i (by rw[Q.N];exact e1) v1 v2 v3
  |_=>exact aY h
 |.con d,e,h=>by
  cases e with
  |Constant c j p=>exact aGE h
  |_=>exact aY h
 |.glo k,e,h=>by
  cases e with
  |Name x p=>exact aGG Q h
  |_=>exact aY h
 |.neg a,e,h=>by
  cases e with
  |UnaryOp op x p =>
   cases op with
   |USub=>exact aKX (eO Q a x h)
   |_=>exact aY h
  |_=>exact aY h
 |.asL a,e,h=>by
  cases e with
  |UnaryOp op x p =>
   cases op with
   |Not=>exact aKI (eO Q a x h)
   |_=>exact aY h
  |_=>exact aY h
 |.bin o a b,e,h=>by
  cases e with
  |BinOp x o' y p =>
   have h':(o==o'&&kE S a x&&kE S b y)=ak:=h;simp only[bw]at h';have:=beq_iff_eq.mp h'.1.1;subst this;exact aPI az3 (eO Q a x h'.1.2) (eO Q b y h'.2)
  |_=>exact aY h
 |.cmp o a b,e,h=>by
  cases e with
  |Compare x ops ys p =>
   match ops,ys,h with
   |[o'],[y],h =>
    have h':(o==o'&&!behindInMarks o' y&&kE S a x&&kE S b y)=ak:=h;simp only[bw,gw]at h';have:=beq_iff_eq.mp h'.1.1.1;subst this;exact aBL (xV Q.hu) (eO Q a x h'.1.2) (eO Q b y h'.2) h'.1.1.2
   |[],_,h=>exact aY h
   |_::_::_,_,h=>exact aY h
   |[_],[],h=>exact aY h
   |[_],_::_::_,h=>exact aY h
  |_=>exact aY h
 |.chain o o' a b c,e,h=>by
  cases e with
  |Compare x ops ys p =>
   match ops,ys,h with
   |[p1,p2],[y,z],h =>
    have h':(o==p1&&o'==p2&&!lastMarks [p1,p2] [y,z]&&kE S a x&&kE S b y&&kE S c z)=ak:=h;simp only[bw,gw]at h';have e1:=beq_iff_eq.mp h'.1.1.1.1.1;have e2:=beq_iff_eq.mp h'.1.1.1.1.2;subst e1;subst e2;exact axF (xV Q.hu) (xV Q.hu) (eO Q a x h'.1.1.2) (eO Q b y h'.1.2) (eO Q c z h'.2) h'.1.1.1.2
   |[],_,h=>exact aY h
   |[_],_,h=>exact aY h
   |_::_::_::_,_,h=>exact aY h
   |[_,_],[],h=>exact aY h
   |[_,_],[_],h=>exact aY h
   |[_,_],_::_::_::_,h=>exact aY h
  |_=>exact aY h
 |.afQ es,e,h=>by
  cases e with
  |BoolOp op xs p =>
   cases op with
   |And=>exact aC9 Q es xs p h
   |Or=>exact aY h
  |_=>exact aY h
 |.ifx c a b,e,h=>by
  cases e with
  |IfExp t x y p =>
   have h':(kT S c t&&kE S a x&&kE S b y)=ak:=h;simp only[bw]at h';exact axH (okT Q c t h'.1.1) (eO Q a x h'.1.2) (eO Q b y h'.2)
  |_=>exact aY h
 |.tup es,e,h=>by
  cases e with
  |Tuple xs j p=>exact aBP (okA Q es xs h)
  |_=>exact aY h
 |.lst es,e,h=>by
  cases e with
  |List xs p=>exact aKJ (okA Q es xs h)
  |_=>exact aY h
 |.dct,e,h=>by
  cases e with
  |Dict ks vs p =>
   match ks,vs,h with
   |[],[],_=>exact aF4
   |_::_,_,h=>exact aY h
   |[],_::_,h=>exact aY h
  |_=>exact aY h
 |.ix a b,e,h=>by
  cases e with
  |Subscript x y p =>
   have h':(!isSlice y&&kE S a x&&kE S b y)=ak:=h;simp only[bw,gw]at h';exact aPQ (eO Q a x h'.1.2) (eO Q b y h'.2) (aC8 h'.1.1)
  |_=>exact aY h
 |.sl a lo hi,e,h=>by
  cases e with
  |Subscript x y p =>
   cases y with
   |Slice l u st q =>
    cases st with
    |none =>
     have h':(kE S a x&&kO S lo l&&kO S hi u)=ak:=h;simp only[bw]at h';exact axR (eO Q a x h'.1.1) (okO Q lo l h'.1.2) (okO Q hi u h'.2)
    |some _=>exact aY h
   |_=>exact aY h
  |_=>exact aY h
 |.call k es,e,h=>by
  cases e with
  |Call f xs kws p =>
   cases f with
   |Name x q =>
    cases kws with
    |nil =>
     have h':(yQ S es xs&&S.gv[k]?==aj ak&&al4 S k x (!xs.isEmpty))=ak:=h;simp only[bw]at h';exact az5 Q (okA Q es xs h'.1.1) h'.1.1 (beq_iff_eq.mp h'.1.2) h'.2
    |cons _ _=>exact aY h
   |_=>exact aY h
  |_=>exact aY h
 |.meth m o .nil,e,h=>by
  cases e with
  |Call f xs kws p =>
   cases f with
   |Attribute y n ap =>
    cases kws with
    |nil =>
     have h':(n==mkN m&&eZ y&&ap.endLine==p.line&&decide (xs.length<30)&&kE S o y&&yQ S .nil xs)=ak:=h;simp only[bw]at h';obtain⟨⟨⟨⟨⟨h1,h2⟩,h3⟩,h4⟩,h5⟩,h6⟩:=h';have:=beq_iff_eq.mp h1;subst this;cases xs with
     |nil=>exact az4 (eO Q o y h5) h2 h3
     |cons _ _=>exact aY h6
    |cons _ _=>exact aY h
   |_=>exact aY h
  |_=>exact aY h
 |.meth m o (.cons c r),e,h=>by
  cases e with
  |Call f xs kws p =>
   cases f with
   |Attribute y n ap =>
    cases kws with
    |nil =>
     have h':(n==mkN m&&eZ y&&ap.endLine==p.line&&decide (xs.length<30)&&kE S o y&&yQ S (.cons c r) xs)=ak:=h;simp only[bw]at h';obtain⟨⟨⟨⟨⟨h1,h2⟩,h3⟩,h4⟩,h5⟩,h6⟩:=h';have:=beq_iff_eq.mp h1;subst this;cases xs with
     |nil=>exact aY h6
     |cons x xs =>
      have h7:(!isStar x&&kE S c x&&yQ S r xs)=ak:=h6;simp only[bw,gw]at h7;exact asV (eO Q o y h5) (dN (eO Q c x h7.1.2) (okA Q r xs h7.2) (aO h7.1.1)) h2 h3 h6 (of_decide_eq_true h4)
    |cons _ _=>exact aY h
   |_=>exact aY h
  |_=>exact aY h
 |.comp fl gv ci cc c,e,h=>by
  cases e with
  |ListComp elt gens scope p =>
   cases gens with
   |nil=>exact aY h
   |cons g gr =>
    cases gr with
    |cons _ _=>obtain⟨tg,it,ifs,a⟩:=g;cases tg<;>exact aY h
    |nil =>
     obtain⟨tg,it,ifs,a⟩:=g;cases tg with
     |Name x px =>
      have h':(a==0&&uD S [x] scope fl gv&&!isSet it&&kI S ao ci it&&kC (S.cmp [x] fl gv) cc ifs&&kE (S.cmp [x] fl gv) c elt)=ak:=h;simp only[bw,gw]at h';obtain⟨⟨⟨⟨⟨h2,h3⟩,h4⟩,h5⟩,h6⟩,h7⟩:=h';have:=beq_iff_eq.mp h2;subst this;exact acL (fW Q h3) (λC s H fp pins σ=>arA (fW Q h3) Q.nd) af4 (okI (tt:=false) Q (λz=>nomatch z) ci it h5) (λC s H fp pins=>okC (Q.cmp h3 C s H fp pins) cc ifs h6) (λC s H fp pins=>eO (Q.cmp h3 C s H fp pins) c elt h7) (ab6 h4)
     |_=>exact aY h
  |_=>exact aY h
 |.a0V n fl gv ci cc c,e,h=>by
  cases e with
  |ListComp elt gens scope p =>
   cases gens with
   |nil=>exact aY h
   |cons g gr =>
    cases gr with
    |cons _ _=>obtain⟨tg,it,ifs,a⟩:=g;cases tg<;>exact aY h
    |nil =>
     obtain⟨tg,it,ifs,a⟩:=g;cases tg with
     |Tuple es k tp =>
      have h':(S.calm&&a==0&&(match vU es with
       |some xs=>xs.length==n&&uD S xs scope fl gv&&!isSet it&&kI S ak ci it&&kC (S.cmp xs fl gv) cc ifs&&kE (S.cmp xs fl gv) c elt
       |none=>ao))=ak:=h
      rw[bw,bw]at h';obtain⟨⟨h1,h2⟩,h'⟩:=h';have:=beq_iff_eq.mp h2;subst this;cases q:vU es with
      |none=>rw[q]at h';exact aY h'
      |some xs =>
       rw[q]at h';simp only[bw,gw]at h';obtain⟨⟨⟨⟨⟨h0,h3⟩,h4⟩,h5⟩,h6⟩,h7⟩:=h';have:=beq_iff_eq.mp h0;subst this;exact acL (fW Q h3) (λC s H fp pins σ=>arB (fW Q h3) Q.nd (Q.cm h1) (a7L q)) (λd ds e=>(acK e).2) (okI (tt:=true) Q (λ_=>⟨Q.cm h1,_,_,_,rfl⟩) ci it h5) (λC s H fp pins=>okC (Q.cmp h3 C s H fp pins) cc ifs h6) (λC s H fp pins=>eO (Q.cmp h3 C s H fp pins) c elt h7) (ab6 h4)
     |_=>exact aY h
  |_=>exact aY h
 |.dix a b,e,h=>by
  cases e with
  |Subscript x y p =>
   have h':(!isSlice y&&kE S a x&&kE S b y)=ak:=h;simp only[bw,gw]at h';exact aLM Q.hu (eO Q a x h'.1.2) (eO Q b y h'.2) (aC8 h'.1.1)
  |_=>exact aY h
 |.din neg a b,e,h=>by
  cases e with
  |Compare x ops ys p =>
   match ops,ys,h with
   |[o'],[y],h =>
    have h':(o'==(if neg then a0x.NotIn else a0x.In)&&!behindInMarks o' y&&kE S a x&&kE S b y)=ak:=h;simp only[bw,gw]at h';exact aBL (asW Q.hu h'.1.1.1) (eO Q a x h'.1.2) (eO Q b y h'.2) h'.1.1.2
   |[],_,h=>exact aY h
   |_::_::_,_,h=>exact aY h
   |[_],[],h=>exact aY h
   |[_],_::_::_,h=>exact aY h
  |_=>exact aY h
 |.dgt c d f,e,h=>by
  cases e with
  |Call g as ks p =>
   cases g with
   |Attribute y n ap =>
    match as,ks,h with
    |[],_,h=>exact aY h
    |[_],_,h=>exact aY h
    |_::_::_::_,_,h=>exact aY h
    |[_,_],_::_,h=>exact aY h
    |[x,z],[],h =>
     have h':(n==("get":Str)&&eZ y&&ap.endLine==p.line&&!isStar x&&!isStar z&&kE S c y&&kE S d x&&kE S f z)=ak:=h;simp only[bw,gw]at h';obtain⟨⟨⟨⟨⟨⟨⟨h0,h1⟩,h2⟩,h3⟩,h4⟩,h5⟩,h6⟩,h7⟩:=h';have:=beq_iff_eq.mp h0;subst this
     have k2:yQ S (.cons d (.cons f .nil)) [x,z]=ak:=by
      show(!isStar x&&kE S d x&&(!isStar z&&kE S f z&&ak))=ak;rw[h3,h4,h6,h7];rfl
     exact ay6 Q.hu (eO Q c y h5) (eO Q d x h6) (eO Q f z h7) ⟨lH h1,ad1 (X:=X) (cp:=p) k2 (show 2<30 by decide),h2,by rw[aO h3,aO h4];rfl⟩
   |_=>exact aY h
  |_=>exact aY h
 |.asM,e,h=>by
  cases e with
  |Dict ks vs p =>
   match ks,vs,h with
   |[],[],_=>exact axS
   |_::_,_,h=>exact aY h
   |[],_::_,h=>exact aY h
  |_=>exact aY h
 |.az1 t a b,e,h=>by
  cases e with
  |Dict ks vs p =>
   match ks,vs,h with
   |[aj x],[y],h =>
    have h':(kE S a x&&kE S b y)=ak:=h;rw[bw]at h';exact ayN Q.hu (eO Q a x h'.1) (eO Q b y h'.2)
   |[],_,h=>exact aY h
   |[aq],_,h=>exact aY h
   |some _::_::_,_,h=>exact aY h
   |none::_::_,_,h=>exact aY h
   |[aj _],[],h=>exact aY h
   |[aj _],_::_::_,h=>exact aY h
  |_=>exact aY h
 |.maxD k c d,e,h=>by
  cases e with
  |Call f as ks p =>
   cases f with
   |Name x q =>
    match as,ks,h with
    |[],_,h=>exact aY h
    |_::_::_,_,h=>exact aY h
    |[_],[],h=>exact aY h
    |[_],⟨aq,_,_⟩::_,h=>exact aY h
    |[_],⟨aj _,_,_⟩::_::_,h=>exact aY h
    |[y],[⟨aj n,z,kp⟩],h =>
     have h':(n==("default":Str)&&S.calm&&S.gv[k]?==aj ak&&al3 S k x&&!isStar y&&kE S c y&&kE S d z)=ak:=h;simp only[bw,gw]at h';obtain⟨⟨⟨⟨⟨⟨h0,h1⟩,h2⟩,h3⟩,h4⟩,h5⟩,h6⟩:=h';have:=beq_iff_eq.mp h0;subst this;obtain⟨g1,g2,g3,g4,g5⟩:=asZ Q h3 (beq_iff_eq.mp h2);exact aFM (Q.cm h1) g1 g2 g3 (eO Q c y h5) (eO Q d z h6) g4 g5 (aO h4)
   |_=>exact aY h
  |_=>exact aY h
theorem okA{X:Cx}{S:SI}{ex:aN->aV}(Q:jD X S ex):∀(c:CEs)(es:List jc),yQ S c es=ak->PA3 X es (mA S.gl X.K ex c)
 |.nil,es,h=>by
  cases es with
  |nil=>exact u6
  |cons _ _=>exact aY h
 |.cons c r,es,h=>by
  cases es with
  |nil=>exact aY h
  |cons x xs =>
   have h7:(!isStar x&&kE S c x&&yQ S r xs)=ak:=h;simp only[bw,gw]at h7;exact dN (eO Q c x h7.1.2) (okA Q r xs h7.2) (aO h7.1.1)
theorem aC9{X:Cx}{S:SI}{ex:aN->aV}(Q:jD X S ex):∀(c:CEs)(es:List jc)(p:Pos),yQ S c es=ak->cU X (.BoolOp .And es p) (aG9 S.gl X.K ex c)
 |.nil,es,p,h=>asT
 |.cons c .nil,es,p,h=>by
  match es,h with
  |[],h=>exact aY h
  |[x],h =>
   have h7:(!isStar x&&kE S c x&&yQ S .nil [])=ak:=h;simp only[bw,gw]at h7;exact aBO (eO Q c x h7.1.2)
  |x::y::ys,h =>
   have h7:(!isStar x&&kE S c x&&yQ S .nil (y::ys))=ak:=h;simp only[bw,gw]at h7;exact aY h7.2
 |.cons c (.cons c' r),es,p,h=>by
  match es,h with
  |[],h=>exact aY h
  |[x],h =>
   have h7:(!isStar x&&kE S c x&&yQ S (.cons c' r) [])=ak:=h;simp only[bw,gw]at h7;exact aY h7.2
  |x::y::ys,h =>
   have h7:(!isStar x&&kE S c x&&yQ S (.cons c' r) (y::ys))=ak:=h;simp only[bw,gw]at h7;exact aKH (eO Q c x h7.1.2) (aC9 Q (.cons c' r) (y::ys) p h7.2)
theorem aQM{X:Cx}{S:SI}{ex:aN->aV}(Q:jD X S ex):∀(c:CEs)(es:List jc)(p:Pos),yQ S c es=ak->cU X (.BoolOp .Or es p) (mOr S.gl X.K ex c)
 |.nil,es,p,h=>asT
 |.cons c .nil,es,p,h=>by
  match es,h with
  |[],h=>exact aY h
  |[x],h =>
   have h7:(!isStar x&&kE S c x&&yQ S .nil [])=ak:=h;simp only[bw,gw]at h7;exact aBO (eO Q c x h7.1.2)
  |x::y::ys,h =>
   have h7:(!isStar x&&kE S c x&&yQ S .nil (y::ys))=ak:=h;simp only[bw,gw]at h7;exact aY h7.2
 |.cons c (.cons c' r),es,p,h=>by
  match es,h with
  |[],h=>exact aY h
  |[x],h =>
   have h7:(!isStar x&&kE S c x&&yQ S (.cons c' r) [])=ak:=h;simp only[bw,gw]at h7;exact aY h7.2
  |x::y::ys,h =>
   have h7:(!isStar x&&kE S c x&&yQ S (.cons c' r) (y::ys))=ak:=h;simp only[bw,gw]at h7;exact aPK (eO Q c x h7.1.2) (aQM Q (.cons c' r) (y::ys) p h7.2)
theorem okT{X:Cx}{S:SI}{ex:aN->aV}(Q:jD X S ex):∀(c:CT)(e:jc),kT S c e=ak->PT3 X e (mT S.gl X.K ex c)
 |.cmp o a b,e,h=>by
  cases e with
  |Compare x ops ys p =>
   match ops,ys,h with
   |[o'],[y],h =>
    have h':(o==o'&&!behindInMarks o' y&&kE S a x&&kE S b y)=ak:=h;simp only[bw,gw]at h';have:=beq_iff_eq.mp h'.1.1.1;subst this;exact aBM (xV Q.hu) (eO Q a x h'.1.2) (eO Q b y h'.2) h'.1.1.2
   |[],_,h=>exact aY h
   |_::_::_,_,h=>exact aY h
   |[_],[],h=>exact aY h
   |[_],_::_::_,h=>exact aY h
  |_=>exact aY h
 |.chain o o' a b c,e,h=>by
  cases e with
  |Compare x ops ys p =>
   match ops,ys,h with
   |[p1,p2],[y,z],h =>
    have h':(o==p1&&o'==p2&&!lastMarks [p1,p2] [y,z]&&kE S a x&&kE S b y&&kE S c z)=ak:=h;simp only[bw,gw]at h';have e1:=beq_iff_eq.mp h'.1.1.1.1.1;have e2:=beq_iff_eq.mp h'.1.1.1.1.2;subst e1;subst e2;exact axG (xV Q.hu) (xV Q.hu) (eO Q a x h'.1.1.2) (eO Q b y h'.1.2) (eO Q c z h'.2) h'.1.1.1.2
   |[],_,h=>exact aY h
   |[_],_,h=>exact aY h
   |_::_::_::_,_,h=>exact aY h
   |[_,_],[],h=>exact aY h
   |[_,_],[_],h=>exact aY h
   |[_,_],_::_::_::_,h=>exact aY h
  |_=>exact aY h
 |.not t,e,h=>by
  cases e with
  |UnaryOp op x p =>
   cases op with
   |Not=>exact aKG (okT Q t x h)
   |_=>exact aY h
  |_=>exact aY h
 |.and ts,e,h=>by
  cases e with
  |BoolOp op xs p =>
   cases op with
   |And=>exact PW.pt (at4 Q ts xs p h)
   |Or=>exact aY h
  |_=>exact aY h
 |.or ts,e,h=>by
  cases e with
  |BoolOp op xs p =>
   cases op with
   |Or=>exact PW.pt (aCA Q ts xs p h)
   |And=>exact aY h
  |_=>exact aY h
 |.din neg a b,e,h=>by
  cases e with
  |Compare x ops ys p =>
   match ops,ys,h with
   |[o'],[y],h =>
    have h':(o'==(if neg then a0x.NotIn else a0x.In)&&!behindInMarks o' y&&kE S a x&&kE S b y)=ak:=h;simp only[bw,gw]at h';exact aBM (asW Q.hu h'.1.1.1) (eO Q a x h'.1.2) (eO Q b y h'.2) h'.1.1.2
   |[],_,h=>exact aY h
   |_::_::_,_,h=>exact aY h
   |[_],[],h=>exact aY h
   |[_],_::_::_,h=>exact aY h
  |_=>exact aY h
 |.val c,e,h=>by
  have h':(plainT e&&kE S c e)=ak:=h;rw[bw]at h';exact aKC (eO Q c e h'.2) (aGF h'.1)
theorem at4{X:Cx}{S:SI}{ex:aN->aV}(Q:jD X S ex):∀(c:CTs)(es:List jc)(p:Pos),kTs S c es=ak->PW3 X (.BoolOp .And es p) (asO S.gl X.K ex c)
 |.nil,es,p,h=>λ_ _ _ _ _ _ _ ⟨_,_,_,_,_,z,_⟩=>z.elim
 |.cons c .nil,es,p,h=>by
  match es,h with
  |[],h=>exact aY h
  |[x],h =>
   have h7:(kT S c x&&kTs S .nil [])=ak:=h;simp only[bw]at h7;exact aEC (okT Q c x h7.1)
  |x::y::ys,h =>
   have h7:(kT S c x&&kTs S .nil (y::ys))=ak:=h;simp only[bw]at h7;exact aY h7.2
 |.cons c (.cons c' r),es,p,h=>by
  match es,h with
  |[],h=>exact aY h
  |[x],h =>
   have h7:(kT S c x&&kTs S (.cons c' r) [])=ak:=h;simp only[bw]at h7;exact aY h7.2
  |x::y::ys,h =>
   have h7:(kT S c x&&kTs S (.cons c' r) (y::ys))=ak:=h;simp only[bw]at h7;exact aKF (okT Q c x h7.1) (at4 Q (.cons c' r) (y::ys) p h7.2)
theorem aCA{X:Cx}{S:SI}{ex:aN->aV}(Q:jD X S ex):∀(c:CTs)(es:List jc)(p:Pos),kTs S c es=ak->PW3 X (.BoolOp .Or es p) (aGA S.gl X.K ex c)
 |.nil,es,p,h=>λ_ _ _ _ _ _ _ ⟨_,_,_,_,_,z,_⟩=>z.elim
 |.cons c .nil,es,p,h=>by
  match es,h with
  |[],h=>exact aY h
  |[x],h =>
   have h7:(kT S c x&&kTs S .nil [])=ak:=h;simp only[bw]at h7;exact aKE (okT Q c x h7.1)
  |x::y::ys,h =>
   have h7:(kT S c x&&kTs S .nil (y::ys))=ak:=h;simp only[bw]at h7;exact aY h7.2
 |.cons c (.cons c' r),es,p,h=>by
  match es,h with
  |[],h=>exact aY h
  |[x],h =>
   have h7:(kT S c x&&kTs S (.cons c' r) [])=ak:=h;simp only[bw]at h7;exact aY h7.2
  |x::y::ys,h =>
   have h7:(kT S c x&&kTs S (.cons c' r) (y::ys))=ak:=h;simp only[bw]at h7;exact aPJ (okT Q c x h7.1) (aCA Q (.cons c' r) (y::ys) p h7.2)
theorem okO{X:Cx}{S:SI}{ex:aN->aV}(Q:jD X S ex):∀(c:CO)(e:Option jc),kO S c e=ak->PO3 X e (mO S.gl X.K ex c)
 |.none,e,h=>by
  cases e with
  |none=>exact aEH
  |some _=>exact aY h
 |.some c,e,h=>by
  cases e with
  |none=>exact aY h
  |some x=>exact aEI (eO Q c x h)
theorem okI{X:Cx}{S:SI}{ex:aN->aV}(Q:jD X S ex){tg:jc}{tt:Bool}(htt:tt=ak->X.calm=ak/\∃es kt pt,tg=.Tuple es kt pt):∀(c:CI)(e:jc),kI S tt c e=ak->PI3 X tg e (mI S.gl X.K ex c)
 |.any c,e,h=>aL4 (eO Q c e h)
 |.a3K c,e,h=>by
  cases e with
  |Call f as ks p =>
   cases f with
   |Name r q =>
    cases as with
    |nil=>exact aY h
    |cons y yr =>
     cases yr with
     |cons _ _=>exact aY h
     |nil =>
      cases ks with
      |cons _ _=>exact aY h
      |nil =>
       have h':(r==("range":Str)&&oV S&&!isStar y&&kE S c y)=ak:=h;simp only[bw,gw]at h';obtain⟨⟨⟨h1,h2⟩,h3⟩,h4⟩:=h';have:=beq_iff_eq.mp h1;subst this;obtain⟨g1,g2⟩:=a0Y Q h2;exact aF7 g1 g2 (dN (eO Q c y h4) u6 (aO h3)) (aO h3)
   |_=>exact aY h
  |_=>exact aY h
 |.aiO a b c,e,h=>by
  cases e with
  |Call f as ks p =>
   cases f with
   |Name r q =>
    match as,ks,h with
    |[],_,h=>exact aY h
    |[_],_,h=>exact aY h
    |[_,_],_,h=>exact aY h
    |_::_::_::_::_,_,h=>exact aY h
    |[_,_,_],_::_,h=>exact aY h
    |[y,z,v],[],h =>
     have h':(r==("range":Str)&&oV S&&!isStar y&&!isStar z&&!isStar v&&kE S a y&&kE S b z&&kE S c v)=ak:=h;simp only[bw,gw]at h';obtain⟨⟨⟨⟨⟨⟨⟨h1,h2⟩,h3⟩,h4⟩,h5⟩,h6⟩,h7⟩,h8⟩:=h';have:=beq_iff_eq.mp h1;subst this;obtain⟨g1,g2⟩:=a0Y Q h2;exact aFT g1 g2 (dN (eO Q a y h6) (dN (eO Q b z h7) (dN (eO Q c v h8) u6 (aO h5)) (aO h4)) (aO h3)) (by rw[aO h3,aO h4,aO h5];rfl) (by rw[aO h4,aO h5];rfl)
   |_=>exact aY h
  |_=>exact aY h
 |.zip a b,e,h=>by
  cases e with
  |Call f as ks p =>
   cases f with
   |Name r q =>
    match as,ks,h with
    |[],_,h=>exact aY h
    |[_],_,h=>exact aY h
    |_::_::_::_,_,h=>exact aY h
    |[_,_],_::_,h=>exact aY h
    |[y,z],[],h =>
     have h':(tt&&r==("zip":Str)&&afR S&&!isStar y&&!isStar z&&kE S a y&&kE S b z)=ak:=h;simp only[bw,gw]at h';obtain⟨⟨⟨⟨⟨⟨h0,h1⟩,h2⟩,h3⟩,h4⟩,h5⟩,h6⟩:=h';have:=beq_iff_eq.mp h1;subst this;obtain⟨g1,g2,g3⟩:=asY Q h2;obtain⟨hc,es,kt,pt,rfl⟩:=htt h0;exact aLJ hc g1 g2 g3 (dN (eO Q a y h5) (dN (eO Q b z h6) u6 (aO h4)) (aO h3)) (by rw[aO h3,aO h4];rfl) (aO h4)
   |_=>exact aY h
  |_=>exact aY h
 |.items c,e,h=>by
  have h':(tt&&(match a0W e with
   |some (y,n,l)=>l&&n==("items":Str)&&eZ y&&kE S c y
   |none=>ao))=ak:=h
  rw[bw]at h';obtain⟨h0,h4⟩:=h';cases q2:a0W e with
  |none=>rw[q2]at h4;exact aY h4
  |some z =>
   obtain⟨y,n,l⟩:=z;rw[q2]at h4;simp only[bw]at h4;obtain⟨⟨⟨h5,h6⟩,h7⟩,h8⟩:=h4;have e6:=beq_iff_eq.mp h6;subst e6;obtain⟨ap,cp,rfl,rfl⟩:=a7M q2;obtain⟨hc,es,kt,pt,rfl⟩:=htt h0;exact ayQ hc (eO Q c y h8) (lH h7) h5
 |.enu c,e,h=>by
  have h':(tt&&(match sY e with
   |some (r,y)=>r==("enumerate":Str)&&a7K S&&!isStar y&&kE S c y
   |none=>ao))=ak:=h
  rw[bw]at h';obtain⟨h0,h4⟩:=h';cases q2:sY e with
  |none=>rw[q2]at h4;exact aY h4
  |some z =>
   obtain⟨r,y⟩:=z;rw[q2]at h4;simp only[bw,gw]at h4;obtain⟨⟨⟨h5,h6⟩,h7⟩,h8⟩:=h4;have e5:=beq_iff_eq.mp h5;subst e5;obtain⟨p,pos,rfl⟩:=a7N q2;obtain⟨g1,g2,g3⟩:=al6 Q h6;obtain⟨hc,es,kt,pt,rfl⟩:=htt h0;exact aGI (al0 hc g1 g2 g3 (dN (eO Q c y h8) u6 (aO h7)) (aO h7))
theorem okD{X:Cx}{S:SI}{ex:aN->aV}(Q:jD X S ex){pos:Pos}:∀(cs:CEs)(ks:List Str)(keys:List (Option jc))(vs:List jc),yQ S cs vs=ak->asS ks keys=ak->keys.length=vs.length->PDs X pos keys vs ks (mA S.gl X.K ex cs)
 |.nil,ks,keys,vs,h,h2,h3=>by
  cases vs with
  |cons _ _=>exact aY h
  |nil =>
  cases keys with
  |cons _ _=>cases h3
  |nil =>
  cases ks with
  |cons _ _=>exact aY h2
  |nil=>exact ayS
 |.cons c cs,ks,keys,vs,h,h2,h3=>by
  cases vs with
  |nil=>exact aY h
  |cons v vs =>
  have h':(!isStar v&&kE S c v&&yQ S cs vs)=ak:=h;simp only[bw]at h';cases keys with
  |nil=>cases h3
  |cons ke keys =>
  cases ks with
  |nil=>exact aY h2
  |cons k ks =>
  cases ke with
  |none=>exact aY h2
  |some e =>
  cases e with
  |Constant cc j p =>
   cases cc with
   |str k' =>
    have h2':(k==k'&&asS ks keys)=ak:=h2;rw[bw]at h2';have e0:=beq_iff_eq.mp h2'.1;subst e0;exact asA (eO Q c v h'.1.2) (okD Q cs ks keys vs h'.2 h2'.2 (Nat.succ.inj h3))
   |_=>exact aY h2
  |_=>exact aY h2
theorem okC{X:Cx}{S:SI}(Q:jD X S NoX):∀(c:CC)(es:List jc),kC S c es=ak->anQ X es (mC S.gl X.K c)
 |.none,es,h=>by
  cases es with
  |nil=>exact axW
  |cons _ _=>exact aY h
 |.some t,es,h=>by
  match es,h with
  |[],h=>exact aY h
  |[x],h=>exact axX (okT Q t x h)
  |_::_::_,h=>exact aY h
end
end L4
namespace L4
open PySem PySem.Spec PyProof.Rows L2
inductive CTg where
 |nm (i:Nat)|tup (is:List Nat)
mutual
inductive CS where
 |ret (e:CE)|expr (e:CE)|ifs (t:CT) (a b:CB)|set (i:Nat) (e:CE)
 |pass|ao7
 |setC (i:Nat) (fl gv:List Bool) (ci:CI) (cc:CC) (e:CE)|sZ (ci:CI) (tg:CTg) (b:CB)|az7 (ci:CI) (tg:CTg) (b:CB)
 |al7 (i n:Nat) (fl gv:List Bool) (ci:CI) (cc:CC) (e:CE)|ao8 (is:List Nat) (e:CE)|ao9 (t:CT) (b:CB)|az8 (o i e:CE)|at5 (o i e:CE)|hid (i:Nat) (nm:Str) (s:CS)
inductive CB where
 |nil|cons (s:CS) (r:CB)
end
abbrev afS:bC:=λ_ _ _=>False
@[simp]def SI.hid(S:SI)(i:Nat)(nm:Str):SI:={S with N:=S.N.set i nm,fl:=S.fl.set i ao,lc:=S.lc.set i ao,ce:=S.ce.set i ao}
abbrev mIS(T:List (Str×GT))(K:Fg)(ex:aN->aV):CI->TI3
 |.any e=>a77 (mE T K ex e)
 |.a3K e=>lW (aB (mE T K ex e) aC)
 |.zip a b=>a4B (aB (mE T K ex a) (aB (mE T K ex b) aC))
 |.aiO a b c=>a3G (aB (mE T K ex a) (aB (mE T K ex b) (aB (mE T K ex c) aC)))
 |.items e=>mJ ak (mE T K ex e)
 |.enu e=>a3I (aB (mE T K ex e) aC)
abbrev mIF(T:List (Str×GT))(K:Fg)(ex:aN->aV):CI->TI3
 |.items e=>mJ ao (mE T K ex e)
 |_=>λ_ _ _=>False
abbrev mG:CTg->TG3
 |.nm i=>fO i
 |.tup is=>vM is
abbrev aUT(T:List (Str×GT))(k:Nat)(to te:cO):bC:=match T[k]? with
 |some (_,.fl C f)=>aFK C to te f
 |_=>afS
mutual
noncomputable def mS(T:List (Str×GT))(K:Fg)(ex:aN->aV):CS->bC
 |.ret e=>bM (mE T K ex e)
 |.expr e=>d8 (mE T K ex e)
 |.ifs t a b=>cA (mT T K ex t) (mB T K ex a) (mB T K ex b)
 |.set i e=>bF i (mE T K ex e)
 |.setC i _ _ ci cc e=>bF i (vL (mI T K ex ci) (mC T K cc) (mE T K NoX e))
 |.sZ ci tg b=>eN (mIS T K ex ci) (mG tg) (mB T K ex b)
 |.az7 ci tg b=>a5Y (mIF T K ex ci) (mG tg) (mB T K ex b)
 |.al7 i n _ _ ci cc e=>bF i (mH n (mI T K ex ci) (mC T K cc) (mE T K NoX e))
 |.ao8 is e=>a2Z is (mE T K ex e)
 |.ao9 t b=>xQ (mT T K ex t) (mB T K ex b)
 |.az8 o i e=>acP (mE T K ex o) (mE T K ex i) (mE T K ex e)
 |.at5 o i e=>a7G (mE T K ex o) (mE T K ex i) (mE T K ex e)
 |.hid i _ s=>a4C i (mS T K (λρ=>ex (qN ρ i)) s)
 |.pass=>bL
 |.ao7=>afS
noncomputable def mB(T:List (Str×GT))(K:Fg)(ex:aN->aV):CB->bC
 |.nil=>bL
 |.cons s .nil=>mS T K ex s
 |.cons s (.cons s' r)=>aH (mS T K ex s) (mB T K ex (.cons s' r))
end
abbrev isTup:jc->Bool
 |.Tuple ..=>ak
 |_=>ao
abbrev nM:jc->Bool
 |.ListComp ..=>ak
 |.SetComp ..=>ak
 |.DictComp ..=>ak
 |_=>ao
abbrev kTg(S:SI):CTg->jc->Bool
 |.nm i,.Name x _=>S.N[i]?==aj x&&S.fl[i]?==aj ak
 |.tup is,.Tuple es _ _=>kNs S is es
 |_,_=>ao
where
 kNs (S:SI):List Nat->List jc->Bool
 |[],[]=>ak
 |i::is,.Name x _::es=>S.N[i]?==aj x&&S.fl[i]?==aj ak&&kNs S is es
 |_,_=>ao
abbrev at6(S:SI):CTg->Bool
 |.nm _=>ak
 |.tup _=>S.calm
mutual
noncomputable def kS(S:SI)(lv:Nat):CS->lq->Bool
 |.ret e,.Return (aj x) _=>kE S e x
 |.expr e,.Expr x _=>!nM x&&kE S e x
 |.ifs t a b,.If x y z _=>kT S t x&&kB S lv a y&&kB S lv b z
 |.set i e,.Assign [.Name x _] y _=>S.N[i]?==aj x&&S.fl[i]?==aj ak&&!nM y&&kE S e y
 |.setC i fl gv ci cc e,.Assign [.Name y _] (.ListComp elt [⟨.Name x _,iter,ifs,a⟩] scope _) _=>S.N[i]?==aj y&&S.fl[i]?==aj ak&&a==0&&uD S [x] scope fl gv&&!isSet iter&&kI S ao ci iter&&kC (S.cmp [x] fl gv) cc ifs&&kE (S.cmp [x] fl gv) e elt
 |.al7 i n fl gv ci cc e,.Assign [.Name y _] (.ListComp elt [⟨.Tuple es _ _,iter,ifs,a⟩] scope _) _=>S.calm&&S.N[i]?==aj y&&S.fl[i]?==aj ak&&a==0&&(match vU es with
  |some xs=>xs.length==n&&uD S xs scope fl gv&&!isSet iter&&kI S ak ci iter&&kC (S.cmp xs fl gv) cc ifs&&kE (S.cmp xs fl gv) e elt
  |none=>ao)
 |.ao8 is e,.Assign [.Tuple es _ _] y _=>S.calm&&!isTup y&&!nM y&&kTg.kNs S is es&&kE S e y
 |.az8 o i e,.Assign [.Subscript x y _] z _=>!isSlice y&&!nM z&&kE S o x&&kE S i y&&kE S e z
 |.at5 o i e,.Assign [.Subscript x y _] z _=>!isSlice y&&!nM z&&kE S o x&&kE S i y&&kE S e z
 |.hid i nm s,st=>!S.N.contains nm&&kS (S.hid i nm) lv s st
 |.ao9 t b,.While x y [] _=>lv !=1&&kT S t x&&kB S lv b y
 |.sZ ci tg b,.For tgt iter body [] _=>lv !=1&&at6 S tg&&!isSet iter&&kTg S tg tgt&&kI S (isTup tgt&&S.calm) ci iter&&kB S lv b body
 |.az7 ci tg b,.For tgt iter body [] _=>lv !=1&&at6 S tg&&!isSet iter&&kTg S tg tgt&&kI S (isTup tgt&&S.calm) ci iter&&kB S lv b body
 |.pass,.Pass _=>ak
 |.ao7,_=>ak
 |_,_=>ao
noncomputable def kB(S:SI)(lv:Nat):CB->List lq->Bool
 |.nil,[]=>ak
 |.cons s r,x::xs=>kS S lv s x&&kB S lv r xs
 |_,_=>ao
end
structure aiQ(X:Cx)(S:SI)(ex:aN->aV)(lv:Nat):Prop where
 si:jD X S ex
 loc:∀(i:Nat)(x:Str),S.N[i]?=aj x->S.fl[i]?=aj ak->Loc X.env.scope x
 lcl:∀(i:Nat)(x:Str),S.N[i]?=aj x->S.lc[i]?=aj ak->X.env.kindOf x=aj .local
 fn:∀(i:Nat)(x:Str),S.N[i]?=aj x->S.fl[i]?=aj ak->X.fn x=ak
 cls:∀(k:Nat)(x:Str)(a:bx),S.gl[k]?=aj (x,.cls a)->S.gv[k]?=aj ak->PySem.W.excIn X.K a BMv "ValueError.__new__"=ak/\(a1r X.K a).isSome=ak/\PySem.W.typeIn X.K (.ref a)=aj (.type "type")/\PySem.W.subIn X.K (.ref a) (.type "BaseException")=aj ak
 l0:lv≠1->a2e (gk X.prog X.w) X.A X.env X.xe
 rz:lv=0->S.calm=ak->Thr X ex
 stk:X.stack=X.env::X.outer
 frm:X.env.frame=aj X.env.locals
variable{env:Env}
def afT{t:Option jc}{n:Nat}(h:nM e=ao):a1i e t n env=pure ao:=by
 cases e<;>first|rfl|exact absurd (show ak=ao from h) (by decide)
def aGK{k:Nat}{tp:Pos}(h:isTup e=ao):swappedStores [.Tuple es k tp] e env=pure aq:=by
 cases e<;>first|rfl|exact absurd (show ak=ao from h) (by decide)
def aiR{ex:aN->aV}{lv:Nat}(Q:aiQ X S ex lv):∀{is:List Nat}{es:List jc},kTg.kNs S is es=ak->Two (axZ X) es is
 |[],[],_=>.nil
 |[],_::_,h=>by exact aY h
 |_::_,[],h=>by exact aY h
 |i::is,e::es,h=>by
  cases e with
  |Name x p =>
   have h':(S.N[i]?==aj x&&S.fl[i]?==aj ak&&kTg.kNs S is es)=ak:=h;simp only[bw]at h';have e1:=beq_iff_eq.mp h'.1.1;exact .cons ⟨x,p,rfl,by rw[Q.si.N];exact e1,Q.loc i x e1 (beq_iff_eq.mp h'.1.2),.inl (Q.fn i x e1 (beq_iff_eq.mp h'.1.2))⟩ (aiR Q h'.2)
  |_=>exact aY h
variable{ex:aN->aV}{lv:Nat}
def aCB(Q:aiQ X S ex lv):∀{c:CTg}{e:jc},at6 S c=ak->kTg S c e=ak->PG3 X e (mG c)
 |.nm i,e,_,h=>by
  cases e with
  |Name x p =>
   have h':(S.N[i]?==aj x&&S.fl[i]?==aj ak)=ak:=h;simp only[bw]at h';have e1:=beq_iff_eq.mp h'.1;exact aFA Q.si.nd (by rw[Q.si.N];exact e1) (Q.loc i x e1 (beq_iff_eq.mp h'.2)) (.inl (Q.fn i x e1 (beq_iff_eq.mp h'.2)))
  |_=>exact aY h
 |.tup is,e,hc,h=>by
  cases e with
  |Tuple es k p=>exact aBZ Q.si.nd (Q.si.cm hc) (aiR Q h)
  |_=>exact aY h
variable{S:SI}{tt:Bool}
def aQN{X:Cx}(Q:jD X S ex)(htt:tt=ak->X.calm=ak/\∃es kt pt,tg=.Tuple es kt pt):∀(c:CI)(e:jc),kI S tt c e=ak->PIS X tg e (mIS S.gl X.K ex c)
 |.any c,e,h=>aFC (eO Q c e h)
 |.a3K c,e,h=>by
  cases e with
  |Call f as ks p =>
   cases f with
   |Name r q =>
    cases as with
    |nil=>exact aY h
    |cons y yr =>
     cases yr with
     |cons _ _=>exact aY h
     |nil =>
      cases ks with
      |cons _ _=>exact aY h
      |nil =>
       have h':(r==("range":Str)&&oV S&&!isStar y&&kE S c y)=ak:=h;simp only[bw,gw]at h';obtain⟨⟨⟨h1,h2⟩,h3⟩,h4⟩:=h';have:=beq_iff_eq.mp h1;subst this;obtain⟨g1,g2⟩:=a0Y Q h2;exact ay1 g1 g2 (dN (eO Q c y h4) u6 (aO h3)) (aO h3)
   |_=>exact aY h
  |_=>exact aY h
 |.aiO a b c,e,h=>by
  cases e with
  |Call f as ks p =>
   cases f with
   |Name r q =>
    match as,ks,h with
    |[],_,h=>exact aY h
    |[_],_,h=>exact aY h
    |[_,_],_,h=>exact aY h
    |_::_::_::_::_,_,h=>exact aY h
    |[_,_,_],_::_,h=>exact aY h
    |[y,z,v],[],h =>
     have h':(r==("range":Str)&&oV S&&!isStar y&&!isStar z&&!isStar v&&kE S a y&&kE S b z&&kE S c v)=ak:=h;simp only[bw,gw]at h';obtain⟨⟨⟨⟨⟨⟨⟨h1,h2⟩,h3⟩,h4⟩,h5⟩,h6⟩,h7⟩,h8⟩:=h';have:=beq_iff_eq.mp h1;subst this;obtain⟨g1,g2⟩:=a0Y Q h2;exact ayA g1 g2 (dN (eO Q a y h6) (dN (eO Q b z h7) (dN (eO Q c v h8) u6 (aO h5)) (aO h4)) (aO h3)) (by rw[aO h3,aO h4,aO h5];rfl) (by rw[aO h4,aO h5];rfl)
   |_=>exact aY h
  |_=>exact aY h
 |.zip a b,e,h=>by
  cases e with
  |Call f as ks p =>
   cases f with
   |Name r q =>
    match as,ks,h with
    |[],_,h=>exact aY h
    |[_],_,h=>exact aY h
    |_::_::_::_,_,h=>exact aY h
    |[_,_],_::_,h=>exact aY h
    |[y,z],[],h =>
     have h':(tt&&r==("zip":Str)&&afR S&&!isStar y&&!isStar z&&kE S a y&&kE S b z)=ak:=h;simp only[bw,gw]at h';obtain⟨⟨⟨⟨⟨⟨h0,h1⟩,h2⟩,h3⟩,h4⟩,h5⟩,h6⟩:=h';have:=beq_iff_eq.mp h1;subst this;obtain⟨g1,g2,g3⟩:=asY Q h2;obtain⟨hc,es,kt,pt,rfl⟩:=htt h0;exact aFL hc g1 g2 g3 (dN (eO Q a y h5) (dN (eO Q b z h6) u6 (aO h4)) (aO h3)) (by rw[aO h3,aO h4];rfl) (aO h4)
   |_=>exact aY h
  |_=>exact aY h
 |.items c,e,h=>by
  have h':(tt&&(match a0W e with
   |some (y,n,l)=>l&&n==("items":Str)&&eZ y&&kE S c y
   |none=>ao))=ak:=h
  rw[bw]at h';obtain⟨h0,h4⟩:=h';cases q2:a0W e with
  |none=>rw[q2]at h4;exact aY h4
  |some z =>
   obtain⟨y,n,l⟩:=z;rw[q2]at h4;simp only[bw]at h4;obtain⟨⟨⟨h5,h6⟩,h7⟩,h8⟩:=h4;have e6:=beq_iff_eq.mp h6;subst e6;obtain⟨ap,cp,rfl,rfl⟩:=a7M q2;obtain⟨hc,es,kt,pt,rfl⟩:=htt h0;exact as3 hc (eO Q c y h8) (lH h7) h5
 |.enu c,e,h=>by
  have h':(tt&&(match sY e with
   |some (r,y)=>r==("enumerate":Str)&&a7K S&&!isStar y&&kE S c y
   |none=>ao))=ak:=h
  rw[bw]at h';obtain⟨h0,h4⟩:=h';cases q2:sY e with
  |none=>rw[q2]at h4;exact aY h4
  |some z =>
   obtain⟨r,y⟩:=z;rw[q2]at h4;simp only[bw,gw]at h4;obtain⟨⟨⟨h5,h6⟩,h7⟩,h8⟩:=h4;have e5:=beq_iff_eq.mp h5;subst e5;obtain⟨p,pos,rfl⟩:=a7N q2;obtain⟨g1,g2,g3⟩:=al6 Q h6;obtain⟨hc,es,kt,pt,rfl⟩:=htt h0;exact al0 hc g1 g2 g3 (dN (eO Q c y h8) u6 (aO h7)) (aO h7)
def a7O:PIF X tg e (λ_ _ _=>False):=λ_ _ _ _ _ _ ⟨_,_,_,_,_,z,_⟩=>z.elim
def aQO{X:Cx}(Q:jD X S ex)(htt:tt=ak->X.calm=ak/\∃es kt pt,tg=.Tuple es kt pt):∀(c:CI)(e:jc),kI S tt c e=ak->PIF X tg e (mIF S.gl X.K ex c)
 |.any c,e,h=>a7O
 |.a3K c,e,h=>a7O
 |.aiO a b c,e,h=>a7O
 |.zip a b,e,h=>a7O
 |.enu a,e,h=>a7O
 |.items c,e,h=>by
  have h':(tt&&(match a0W e with
   |some (y,n,l)=>l&&n==("items":Str)&&eZ y&&kE S c y
   |none=>ao))=ak:=h
  rw[bw]at h';obtain⟨h0,h4⟩:=h';cases q2:a0W e with
  |none=>rw[q2]at h4;exact aY h4
  |some z =>
   obtain⟨y,n,l⟩:=z;rw[q2]at h4;simp only[bw]at h4;obtain⟨⟨⟨h5,h6⟩,h7⟩,h8⟩:=h4;have e6:=beq_iff_eq.mp h6;subst e6;obtain⟨ap,cp,rfl,rfl⟩:=a7M q2;obtain⟨hc,es,kt,pt,rfl⟩:=htt h0;exact as6 hc (eO Q c y h8) (lH h7) h5
variable{i:Nat}
def a7P{j:Nat}{l:List Bool}(h:(l.set i ao)[j]?=aj ak):i≠j/\l[j]?=aj ak:=by
 by_cases c:i=j
 .subst c;by_cases k:i<l.length
  .rw[a2o k]at h;cases h
  .rw[a0q (by rw[List.length_set];omega)]at h;cases h
 .rw[uo c]at h;exact⟨c,h⟩
def aGL{nm:Str}(Q:jD X S ex)(n:nm∉S.N):jD (acT X i nm) (S.hid i nm) (λρ=>ex (qN ρ i)) where
 N:=by show X.N.set i _=S.N.set i _;rw[Q.N]
 nd:=a7C Q.nd (by rw[Q.N];exact n)
 vis:=λj x e1 e2=>by
  obtain⟨c,e2⟩:=a7P e2;have e1:(S.N.set i nm)[j]?=aj x:=e1;rw[uo c]at e1;exact Q.vis j x e1 e2
 ce:=λj x e1 e2=>by
  obtain⟨c,e2⟩:=a7P e2;have e1:(S.N.set i nm)[j]?=aj x:=e1;rw[uo c]at e1;exact Q.ce j x e1 e2
 gm:=λk x g e=>by
  obtain⟨a,b,c,d⟩:=Q.gm k x g e;refine⟨a,b,c,?_⟩;cases g<;>exact d
 hu:=Q.hu
 cm:=Q.cm
 cat:=arW Q.cat
 nk:=Q.nk
def aGM{nm:Str}(Q:aiQ X S ex lv)(n:nm∉S.N):aiQ (acT X i nm) (S.hid i nm) (λρ=>ex (qN ρ i)) lv where
 si:=aGL Q.si n
 loc:=λj x e1 e2=>by
  obtain⟨c,e2⟩:=a7P e2;have e1:(S.N.set i nm)[j]?=aj x:=e1;rw[uo c]at e1;exact Q.loc j x e1 e2
 lcl:=λj x e1 e2=>by
  obtain⟨c,e2⟩:=a7P e2;have e1:(S.N.set i nm)[j]?=aj x:=e1;rw[uo c]at e1;exact Q.lcl j x e1 e2
 fn:=λj x e1 e2=>by
  obtain⟨c,e2⟩:=a7P e2;have e1:(S.N.set i nm)[j]?=aj x:=e1;rw[uo c]at e1;exact Q.fn j x e1 e2
 cls:=Q.cls
 l0:=Q.l0
 rz:=λa b=>arX (Q.rz a b)
 stk:=Q.stk
 frm:=Q.frm
def afU(h:isTup e=ak):∃es kt pt,e=.Tuple es kt pt:=by
 cases e<;>first|exact⟨_,_,_,rfl⟩|exact aY h
mutual
theorem okS:∀(c:CS){X:Cx}{S:SI}{ex:aN->aV}{lv:Nat},aiQ X S ex lv->∀(st:lq),kS S lv c st=ak->PS3 X st (mS S.gl X.K ex c)
 |.hid i nm c,X,S,ex,lv,Q,st,h=>by
  have h':(!S.N.contains nm&&kS (S.hid i nm) lv c st)=ak:=by
   cases st<;>exact h
  rw[bw,gw]at h'
  exact aFX (okS c (aGM Q (by
   intro z;rw[List.contains_iff_mem.mpr z]at h';cases h'.1)) st h'.2)
 |.ret e,X,S,ex,lv,Q,st,h=>by
  cases st with
  |Return v p =>
   cases v with
   |some x=>exact aBT (eO Q.si e x h)
   |none=>exact aY h
  |_=>exact aY h
 |.expr e,X,S,ex,lv,Q,st,h=>by
  cases st with
  |Expr x p =>
   have h':(!nM x&&kE S e x)=ak:=h;simp only[bw,gw]at h';exact aEM (eO Q.si e x h'.2) (afT h'.1)
  |_=>exact aY h
 |.ifs t a b,X,S,ex,lv,Q,st,h=>by
  cases st with
  |If x y z p =>
   have h':(kT S t x&&kB S lv a y&&kB S lv b z)=ak:=h;simp only[bw]at h';exact aPR (okT Q.si t x h'.1.1) (okB a Q y h'.1.2) (okB b Q z h'.2)
  |_=>exact aY h
 |.set i e,X,S,ex,lv,Q,st,h=>by
  cases st with
  |Assign ts y p =>
   cases ts with
   |nil=>exact aY h
   |cons t r =>
    cases r with
    |cons _ _=>cases t<;>exact aY h
    |nil =>
     cases t with
     |Name x q =>
      have h':(S.N[i]?==aj x&&S.fl[i]?==aj ak&&!nM y&&kE S e y)=ak:=h;simp only[bw,gw]at h';have e1:=beq_iff_eq.mp h'.1.1.1;exact aBU (i:=i) Q.si.nd (by rw[Q.si.N];exact e1) (Q.loc i x e1 (beq_iff_eq.mp h'.1.1.2)) (eO Q.si e y h'.2) (afT h'.1.2) (.inl (Q.fn i x e1 (beq_iff_eq.mp h'.1.1.2)))
     |_=>exact aY h
  |_=>exact aY h
 |.az8 o i e,X,S,ex,lv,Q,st,h=>by
  cases st with
  |Assign ts z p =>
   cases ts with
   |nil=>exact aY h
   |cons t r =>
    cases r with
    |cons _ _=>cases t<;>exact aY h
    |nil =>
     cases t with
     |Subscript x y q =>
      have h':(!isSlice y&&!nM z&&kE S o x&&kE S i y&&kE S e z)=ak:=h;simp only[bw,gw]at h';exact aFP Q.si.hu (eO Q.si o x h'.1.1.2) (eO Q.si i y h'.1.2) (eO Q.si e z h'.2) (afT h'.1.1.1.2)
     |_=>exact aY h
  |_=>exact aY h
 |.at5 o i e,X,S,ex,lv,Q,st,h=>by
  cases st with
  |Assign ts z p =>
   cases ts with
   |nil=>exact aY h
   |cons t r =>
    cases r with
    |cons _ _=>cases t<;>exact aY h
    |nil =>
     cases t with
     |Subscript x y q =>
      have h':(!isSlice y&&!nM z&&kE S o x&&kE S i y&&kE S e z)=ak:=h;simp only[bw,gw]at h';exact aG4 Q.si.hu (eO Q.si o x h'.1.1.2) (eO Q.si i y h'.1.2) (eO Q.si e z h'.2) (afT h'.1.1.1.2)
     |_=>exact aY h
  |_=>exact aY h
 |.setC i fl gv ci cc c,X,S,ex,lv,Q,st,h=>by
  cases st with
  |Assign ts z p =>
   cases ts with
   |nil=>exact aY h
   |cons t r =>
    cases r with
    |cons _ _=>cases t<;>exact aY h
    |nil =>
     cases t with
     |Name y q =>
      cases z with
      |ListComp elt gens scope pp =>
       cases gens with
       |nil=>exact aY h
       |cons g gr =>
        cases gr with
        |cons _ _=>obtain⟨tg,it,ifs,a⟩:=g;cases tg<;>exact aY h
        |nil =>
         obtain⟨tg,it,ifs,a⟩:=g;cases tg with
         |Name x px =>
          have h':(S.N[i]?==aj y&&S.fl[i]?==aj ak&&a==0&&uD S [x] scope fl gv&&!isSet it&&kI S ao ci it&&kC (S.cmp [x] fl gv) cc ifs&&kE (S.cmp [x] fl gv) c elt)=ak:=h;simp only[bw,gw]at h';obtain⟨⟨⟨⟨⟨⟨⟨hy,hy2⟩,h2⟩,h3⟩,h4⟩,h5⟩,h6⟩,h7⟩:=h';have:=beq_iff_eq.mp h2;subst this;have e1:=beq_iff_eq.mp hy;exact akR (i:=i) (fW Q.si h3) (λC s H fp pins σ=>arA (fW Q.si h3) Q.si.nd) af4 Q.si.nd (by rw[Q.si.N];exact e1) (Q.loc i y e1 (beq_iff_eq.mp hy2)) (Q.fn i y e1 (beq_iff_eq.mp hy2)) (okI (tt:=false) Q.si (λz=>nomatch z) ci it h5) (λC s H fp pins=>okC (Q.si.cmp h3 C s H fp pins) cc ifs h6) (λC s H fp pins=>eO (Q.si.cmp h3 C s H fp pins) c elt h7) (ab6 h4)
         |_=>exact aY h
      |_=>exact aY h
     |_=>exact aY h
  |_=>exact aY h
 |.al7 i n fl gv ci cc c,X,S,ex,lv,Q,st,h=>by
  cases st with
  |Assign ts z p =>
   cases ts with
   |nil=>exact aY h
   |cons t r =>
    cases r with
    |cons _ _=>cases t<;>exact aY h
    |nil =>
     cases t with
     |Name y q =>
      cases z with
      |ListComp elt gens scope pp =>
       cases gens with
       |nil=>exact aY h
       |cons g gr =>
        cases gr with
        |cons _ _=>obtain⟨tg,it,ifs,a⟩:=g;cases tg<;>exact aY h
        |nil =>
         obtain⟨tg,it,ifs,a⟩:=g;cases tg with
         |Tuple es k tp =>
          have h':(S.calm&&S.N[i]?==aj y&&S.fl[i]?==aj ak&&a==0&&(match vU es with
           |some xs=>xs.length==n&&uD S xs scope fl gv&&!isSet it&&kI S ak ci it&&kC (S.cmp xs fl gv) cc ifs&&kE (S.cmp xs fl gv) c elt
           |none=>ao))=ak:=h
          rw[bw,bw,bw,bw]at h';obtain⟨⟨⟨⟨h1,hy⟩,hy2⟩,h2⟩,h'⟩:=h';have:=beq_iff_eq.mp h2;subst this;have e1:=beq_iff_eq.mp hy;cases qn:vU es with
          |none=>rw[qn]at h';exact aY h'
          |some xs =>
           rw[qn]at h';simp only[bw,gw]at h';obtain⟨⟨⟨⟨⟨h0,h3⟩,h4⟩,h5⟩,h6⟩,h7⟩:=h';have:=beq_iff_eq.mp h0;subst this;exact akR (i:=i) (fW Q.si h3) (λC s H fp pins σ=>arB (fW Q.si h3) Q.si.nd (Q.si.cm h1) (a7L qn)) (λd ds e=>(acK e).2) Q.si.nd (by rw[Q.si.N];exact e1) (Q.loc i y e1 (beq_iff_eq.mp hy2)) (Q.fn i y e1 (beq_iff_eq.mp hy2)) (okI (tt:=true) Q.si (λ_=>⟨Q.si.cm h1,_,_,_,rfl⟩) ci it h5) (λC s H fp pins=>okC (Q.si.cmp h3 C s H fp pins) cc ifs h6) (λC s H fp pins=>eO (Q.si.cmp h3 C s H fp pins) c elt h7) (ab6 h4)
         |_=>exact aY h
      |_=>exact aY h
     |_=>exact aY h
  |_=>exact aY h
 |.ao8 is e,X,S,ex,lv,Q,st,h=>by
  cases st with
  |Assign ts y p =>
   cases ts with
   |nil=>exact aY h
   |cons t r =>
    cases r with
    |cons _ _=>cases t<;>exact aY h
    |nil =>
     cases t with
     |Tuple es k tp =>
      have h':(S.calm&&!isTup y&&!nM y&&kTg.kNs S is es&&kE S e y)=ak:=h;simp only[bw,gw]at h';obtain⟨⟨⟨⟨h1,h2⟩,h3⟩,h4⟩,h5⟩:=h';exact aFE (aBZ Q.si.nd (Q.si.cm h1) (aiR Q h4)) (eO Q.si e y h5) (show a1i y (aj (.Tuple es k tp)) p.line X.env=pure ao from afT h3) (aGK h2) rfl
     |_=>exact aY h
  |_=>exact aY h
 |.ao9 t b,X,S,ex,lv,Q,st,h=>by
  cases st with
  |While x y el p =>
   cases el with
   |cons _ _=>exact aY h
   |nil =>
    have h':(lv !=1&&kT S t x&&kB S lv b y)=ak:=h;simp only[bw]at h';exact ay2 (Q.l0 (bne_iff_ne.mp h'.1.1)) (okT Q.si t x h'.1.2) (okB b Q y h'.2)
  |_=>exact aY h
 |.sZ ci tg b,X,S,ex,lv,Q,st,h=>by
  cases st with
  |For tgt it body el p =>
   cases el with
   |cons _ _=>exact aY h
   |nil =>
    have h':(lv !=1&&at6 S tg&&!isSet it&&kTg S tg tgt&&kI S (isTup tgt&&S.calm) ci it&&kB S lv b body)=ak:=h;simp only[bw,gw]at h';obtain⟨⟨⟨⟨⟨h1,hg⟩,h2⟩,h3⟩,h4⟩,h5⟩:=h';exact aFD (Q.l0 (bne_iff_ne.mp h1)) (aQN Q.si (λz=>by rw[bw]at z;exact⟨Q.si.cm z.2,afU z.1⟩) ci it h4) (aCB Q hg h3) (okB b Q body h5) (ab6 h2)
  |_=>exact aY h
 |.az7 ci tg b,X,S,ex,lv,Q,st,h=>by
  cases st with
  |For tgt it body el p =>
   cases el with
   |cons _ _=>exact aY h
   |nil =>
    have h':(lv !=1&&at6 S tg&&!isSet it&&kTg S tg tgt&&kI S (isTup tgt&&S.calm) ci it&&kB S lv b body)=ak:=h;simp only[bw,gw]at h';obtain⟨⟨⟨⟨⟨h1,hg⟩,h2⟩,h3⟩,h4⟩,h5⟩:=h';exact ayR (Q.l0 (bne_iff_ne.mp h1)) (aQO Q.si (λz=>by rw[bw]at z;exact⟨Q.si.cm z.2,afU z.1⟩) ci it h4) (aCB Q hg h3) (okB b Q body h5) (ab6 h2)
  |_=>exact aY h
 |.ao7,X,S,ex,lv,Q,st,h=>by
  intro pins s σ H D I hq _;obtain⟨ρ,G,F,sr,g,q,up⟩:=hq;exact q.elim
 |.pass,X,S,ex,lv,Q,st,h=>by
  cases st with
  |Pass _=>exact aEL
  |_=>exact aY h
theorem okB:∀(c:CB){X:Cx}{S:SI}{ex:aN->aV}{lv:Nat},aiQ X S ex lv->∀(st:List lq),kB S lv c st=ak->zO X st (mB S.gl X.K ex c)
 |.nil,X,S,ex,lv,Q,st,h=>by
  cases st with
  |nil=>exact aKS
  |cons _ _=>exact aY h
 |.cons s .nil,X,S,ex,lv,Q,st,h=>by
  match st,h with
  |[],h=>exact aY h
  |[x],h =>
   have h':(kS S lv s x&&kB S lv .nil [])=ak:=h;rw[bw]at h';exact aBS (okS s Q x h'.1)
  |x::y::ys,h =>
   have h':(kS S lv s x&&kB S lv .nil (y::ys))=ak:=h;rw[bw]at h';exact aY h'.2
 |.cons s (.cons s' r),X,S,ex,lv,Q,st,h=>by
  match st,h with
  |[],h=>exact aY h
  |x::ys,h =>
   have h':(kS S lv s x&&kB S lv (.cons s' r) ys)=ak:=h;rw[bw]at h';exact aEK (okS s Q x h'.1) (okB (.cons s' r) Q ys h'.2)
end
end L4
namespace L4
open PySem PySem.Spec PyProof.Rows L2
abbrev bK(R:eV):eV:=λd G'=>∃G0,Le G0 G'/\R d G0
abbrev m6(EX:aV):aV:=λC G'=>∃G0,Le G0 G'/\EX C G0
abbrev uE(n m:Nat)(tb:aV->bC):fU:=λds G R EX=>ds.length=m/\tb (m6 EX) ⟨λ_ G'=>bK R .non G',bK R,λ_ _=>False,λ_ _=>False⟩ (sU n ds) G
def bK.here(h:R d G):bK R d G:=⟨G,.refl G,h⟩
def m6.here(h:R d G):m6 R d G:=⟨G,.refl G,h⟩
def afV{K:Fg}(h:UpX K EX E):UpX K (m6 EX) E:=λC H' G' g ⟨G0,l,q⟩=>h C H' G0 (g.le l) q
variable{qt:Bool}{P:ju}{w:jq}{mg:Str->Option bh}{base:jf}{x qual:Str}{st:lq}{f:bx}{fd:jy}{ps:List Str}
def azA{K:Fg}{N:List Str}{k:Nat}{tb:aV->bC}(F:Fun K x qual st f fd)(S:bD N ps (aZ st))
  (hbody:∀(cdv:bh)(A:jr)(outer:List Env)(s:dg)(H:Hp)(E:XK)(EX:aV),fQ qt k (A.deeper (envOfC qual (aZ st) s.heap.objs.size f cdv))->UpX K EX E ->
   zO (cx1 qt P w K mg base N qual (aZ st) f cdv A outer s H E) (cD st) (tb EX)):cH qt P w K mg base (j9 P w) (k+1) f fd ps (d7 K (uE N.length ps.length tb)):=by
 refine(aEO F S hbody).imp ?_;rintro vs H Q E ⟨ds,G,R,EX,r,g,⟨hl,q⟩,kk,hE⟩;exact⟨ds,G,bK R,m6 EX,r,g,⟨hl,q⟩,(by rintro v H' d G' r1 g1 ⟨G0,l,q⟩;exact kk v H' d G0 r1 (g1.le l) q),afV hE⟩
abbrev GTs(P:ju)(w:jq)(K:Fg)(mg:Str->Option bh)(base:jf)(k:Nat)(x:Str):GT->Prop
 |.con d=>∃u v,mg x=aj u/\RelV v u/\∀H,RD K H d v
 |.fn sp n qt=>∃f fd ps,cH qt P w K mg base (j9 P w) k f fd ps (d7 K sp)/\mg x=aj (.ref f)/\yh K (.ref f)=ak/\Binds K fd ps []
 |.bf b=>mg x=aq/\jw x=aj (asQ b)
 |.bt n=>mg x=aq/\jw x=aj (.type n)
 |_=>False
abbrev azB(sc:ur)(x:Str):Bool:=match sc.names.lookup x with
 |some .local=>ak
 |some .cell=>ak
 |_=>ao
abbrev azC(sc:ur)(x:Str):Bool:=match sc.names.lookup x with
 |some .local=>ak
 |_=>ao
abbrev azD(sc:ur)(x:Str):Bool:=match sc.names.lookup x with
 |some .globalImplicit=>ak
 |_=>ao
abbrev azE(sc:ur)(x:Str):Bool:=match sc.names.lookup x with
 |some .cell=>ak
 |_=>ao
private theorem al8{sc:ur}(h:azE sc x=ak):sc.names.lookup x=aj .cell:=by
 unfold azE at h;split at h
 .rename_i e;exact e
 .exact aY h
abbrev a7Q(S:SI)(sc:ur):Bool:=(je S.N.length).all (λi=>match S.N[i]? with
  |none=>ao
  |some x=>x !=("__debug__":Str)&&x !=("__classdict__":Str)&&(S.fl[i]? !=aj ak||azB sc x)&&(S.lc[i]? !=aj ak||azC sc x)&&(S.ce[i]? !=aj ak||azE sc x)) &&
 (je S.gl.length).all (λk=>match S.gl[k]? with
  |none=>ao
  |some (y,_)=>(S.gv[k]? !=aj ak||azD sc y)&&y !=("__debug__":Str)&&y !=("__name__":Str))
private theorem al9(h:azB sc x=ak):Loc sc x:=by
 unfold azB at h;split at h
 .rename_i e;exact .inl e
 .rename_i e;exact .inr e
 .exact aY h
def ad2(h:Loc sc x):Vis sc x:=h.elim .inl λz=>.inr (.inl z)
private theorem alA{sc:ur}(h:azC sc x=ak):sc.names.lookup x=aj .local:=by
 unfold azC at h;split at h
 .rename_i e;exact e
 .exact aY h
private theorem alB{sc:ur}(h:azD sc x=ak):sc.names.lookup x=aj .globalImplicit:=by
 unfold azD at h;split at h
 .rename_i e;exact e
 .exact aY h
variable{S:SI}
def oW{sc:ur}(h:a7Q S sc=ak){i:Nat}(e:S.N[i]?=aj x) :
  (x==("__debug__":Str))=ao/\(x==("__classdict__":Str))=ao/\(S.fl[i]?=aj ak->Loc sc x)/\(S.lc[i]?=aj ak->sc.names.lookup x=aj .local)/\(S.ce[i]?=aj ak->sc.names.lookup x=aj .cell):=by
 unfold a7Q at h;rw[bw]at h;have hi:i<S.N.length:=(fj.mp e).1;have q:=jl.mp h.1 i (ou.mpr hi);rw[e]at q;simp only[bw,bne_iff_ne,ne_eq,a0r]at q;obtain⟨⟨⟨⟨q1,q2⟩,q3⟩,q4⟩,q5⟩:=q;refine⟨beq_eq_false_iff_ne.mpr q1,beq_eq_false_iff_ne.mpr q2,λz=>?_,λz=>?_,λz=>?_⟩
 .rcases q3 with q|q
  .exact absurd z q
  .exact al9 q
 .rcases q4 with q|q
  .exact absurd z q
  .exact alA q
 .rcases q5 with q|q
  .exact absurd z q
  .exact al8 q
def alC{sc:ur}(h:a7Q S sc=ak){k:Nat}{g:GT}(e:S.gl[k]?=aj (x,g)):(S.gv[k]?=aj ak->sc.names.lookup x=aj .globalImplicit)/\(x==("__debug__":Str))=ao/\x≠"__name__":=by
 unfold a7Q at h;rw[bw]at h;have q:=jl.mp h.2 k (ou.mpr (fj.mp e).1);rw[e]at q;simp only[bw,bne_iff_ne,ne_eq,a0r]at q;exact⟨λz=>alB (q.1.1.resolve_left λn=>n z),beq_eq_false_iff_ne.mpr q.1.2,q.2⟩
def at7{K:Fg}{k:Nat}{c:CB}(F:Fun K x qual st f fd)(hS:bD S.N ps (aZ st))
  (hc:S.calm=!qt)(hv:a7Q S (aZ st)=ak)(hk:kB S 0 c (cD st)=ak)(hg:∀(j:Nat)(y:Str)(g:GT),S.gl[j]?=aj (y,g)->GTs P w K mg base k y g)(hn:S.need=ao:=by rfl) :
  cH qt P w K mg base (j9 P w) (k+1) f fd ps (d7 K (uE S.N.length ps.length λEX=>mB S.gl K (λ_=>EX) c)):=by
 refine azA F hS λcdv A outer s H E EX hr hE=>?_;refine okB c (X:=cx1 qt P w K mg base S.N qual (aZ st) f cdv A outer s H E) (S:=S) (ex:=λ_=>EX) (lv:=0) ?_ (cD st) hk;refine⟨⟨rfl,hS.nd,λi y e1 e2=>?_,λi y e1 e2=>.inl ((oW hv e1).2.2.2.2 e2),λj y g e=>?_,hr.units,λz=>hc.symm.trans z,aKU hE,λz=>by rw[hn]at z;cases z⟩,λi y e1 e2=>?_,λi y e1 e2=>?_,λ_ _ _ _=>rfl,λj y a e _=>?_,λ_=>own1,λ_ _=>aKV hE,rfl,rfl⟩
 .obtain⟨a1,a2,a3,a4⟩:=oW hv e1;exact⟨ad2 (a3 e2),a1,a2⟩
 .obtain⟨a1,a2,a3⟩:=alC hv e;have z:=hg j y g e;refine⟨a1,a2,a3,?_⟩;cases g with
  |con d=>exact z
  |fn sp n q2 =>
   intro hz;obtain⟨f',fd',ps',F',m',k',b'⟩:=z;refine⟨k,f',fd',ps',F',⟨λe=>hr.hd ?_,hr.dp,hr.un⟩,m',k',b'⟩;have hs:S.calm=ak:=hz.resolve_left (by rw[e];decide);rw[hc]at hs;simpa using hs
  |bf b=>exact z
  |bt n=>exact z
  |_=>exact z.elim
 .exact(oW hv e1).2.2.1 e2
 .exact(oW hv e1).2.2.2.1 e2
 .exact(hg j y _ e).elim
end L4
namespace L4
open PySem PySem.Spec PyProof.Rows L2 PySem.W
abbrev aGN(sc:ur)(x:Str):Bool:=match sc.names.lookup x with
 |some .free=>ak
 |_=>ao
variable{sc:ur}{x:Str}
def azF(h:aGN sc x=ak):sc.names.lookup x=aj .free:=by
 unfold aGN at h;split at h
 .assumption
 .exact aY h
abbrev at8(S:SI)(sc:ur):Bool:=(je S.N.length).all (λi=>match S.N[i]? with
  |none=>ao
  |some x=>x !=("__debug__":Str)&&x !=("__classdict__":Str)&&(S.fl[i]? !=aj ak||azB sc x)&&(S.lc[i]? !=aj ak||azC sc x)&&(S.ce[i]? !=aj ak||(azE sc x||aGN sc x))) &&
 (je S.gl.length).all (λk=>match S.gl[k]? with
  |none=>ao
  |some (y,_)=>(S.gv[k]? !=aj ak||azD sc y)&&y !=("__debug__":Str)&&y !=("__name__":Str))
variable{S:SI}
def at9(h:at8 S sc=ak){i:Nat}(e:S.N[i]?=aj x) :
  (x==("__debug__":Str))=ao/\(x==("__classdict__":Str))=ao/\(S.fl[i]?=aj ak->Loc sc x)/\(S.lc[i]?=aj ak->sc.names.lookup x=aj .local)/\(S.ce[i]?=aj ak->sc.names.lookup x=aj .cell∨sc.names.lookup x=aj .free):=by
 unfold at8 at h;rw[bw]at h;have hi:i<S.N.length:=(fj.mp e).1;have q:=jl.mp h.1 i (ou.mpr hi);rw[e]at q;simp only[bw,bne_iff_ne,ne_eq,a0r]at q;obtain⟨⟨⟨⟨q1,q2⟩,q3⟩,q4⟩,q5⟩:=q;exact⟨beq_eq_false_iff_ne.mpr q1,beq_eq_false_iff_ne.mpr q2,λz=>al9 (q3.resolve_left λn=>n z),λz=>alA (q4.resolve_left λn=>n z),λz=>(q5.resolve_left λn=>n z).elim (λy=>.inl (al8 y)) λy=>.inr (azF y)⟩
variable{g:GT}
def aGO(h:at8 S sc=ak){k:Nat}(e:S.gl[k]?=aj (y,g)):(S.gv[k]?=aj ak->sc.names.lookup y=aj .globalImplicit)/\(y==("__debug__":Str))=ao/\y≠"__name__":=by
 unfold at8 at h;rw[bw]at h;have hi:k<S.gl.length:=(fj.mp e).1;have q:=jl.mp h.2 k (ou.mpr hi);rw[e]at q;simp only[bw,bne_iff_ne,ne_eq,a0r]at q;exact⟨λz=>alB (q.1.1.resolve_left λn=>n z),beq_eq_false_iff_ne.mpr q.1.2,q.2⟩
section
variable{w:jq}{K:Fg}{mg:Str->Option bh}{base:jf}{k:Nat}
def atA{X:Cx}{qt:Bool}(hX:X.prog=P/\X.w=w/\X.K=K/\X.mg=mg/\X.base=base)(hr:fQ qt k X.A)(hc:S.calm=!qt)(z:GTs P w K mg base k y g):aGD X S.calm y g:=by
 obtain⟨rfl,rfl,rfl,rfl,rfl⟩:=hX;cases g with
 |con d=>exact z
 |fn sp n q2 =>
  intro hz;obtain⟨f',fd',ps',F',m',k',b'⟩:=z;refine⟨k,f',fd',ps',F',⟨λe=>hr.hd ?_,hr.dp,hr.un⟩,m',k',b'⟩;have hs:S.calm=ak:=hz.resolve_left (by rw[e];decide);rw[hc]at hs;simpa using hs
 |bf b=>exact z
 |bt n=>exact z
 |_=>exact z.elim
end
def aqV.mono{qt:Bool}{w:jq}{K:Fg}{mg:Str->Option bh}{base:jf}{j k:Nat}(F:aqV qt P w K mg base j c sp)(h:j<=k):aqV qt P w K mg base k c sp :=
 λA outer s H us vs ds d G R E f hr=>F A outer s H us vs ds d G R E f (hr.mono h)
abbrev inBody(s:lq)(i:Nat):lq:=(cD s).getD i (.Pass ⟨0,0,0,0⟩)
private theorem aoA(h:sc.names.all (λp=>p.2 !=.free||p.1==x)=ak):∀y,sc.names.lookup y=aj .free->y=x:=by
 have key:∀(l:List (Str×qe)),l.all (λp=>p.2 !=.free||p.1==x)=ak->∀y,l.lookup y=aj .free->y=x:=by
  intro l
  induction l with
  |nil=>intro _ y z;cases z
  |cons p r ih =>
   intro ha y z;obtain⟨n,kd⟩:=p;rw[a04,bw]at ha;rw[lg]at z;split at z
   .rename_i e;cases z;rcases a0r _ _ |>.mp ha.1 with q|q
    .simp at q
    .rw[beq_iff_eq.mp e];exact beq_iff_eq.mp q
   .exact ih ha.2 y z
 exact key _ h
private theorem atB{K:Fg}{qual:Str}{st:lq}{f c t:bx}{fd:jy}(F:Fun K x qual st f fd){y:Str}(h:tabIn K y=aj (c,t))(hn:nsIn K ji y=aj (aj (.ref f))):fd.code=.ref c:=by
 obtain⟨oc,od,dV,kV,doc,pm,an,cdv,ct,osl,rfl,lk,_⟩:=F.ex;unfold tabIn at h;rw[hn]at h;dsimp only at h;rw[lk]at h;dsimp only at h;split at h
 .rename_i c' e;split at h
  .split at h
   .cases h;first|exact e|assumption|rfl
   .cases h
  .cases h
 .cases h
abbrev uW(K:Fg)(x:Str):bx×bx:=(tabIn K x).getD (0,0)
def alD{K:Fg}(h:(tabIn K x).isSome=ak):tabIn K x=aj ((uW K x).1,(uW K x).2):=by
 unfold uW;cases e:tabIn K x with
 |none=>rw[e]at h;cases h
 |some p=>rfl
end L4
namespace L2
open PySem PySem.Spec PyProof.Rows
variable{qt:Bool}{x:Str}
section
open PySem.W
abbrev atD(T:bx)(H:Hp):Prop:=H T=aj (.zM #[])/\∀b,b≠T->H b=aq∨∃o xs,H b=aj (.j6 o (.lst xs))
private theorem aoB{w:jq}{K:iu}{mg:Str->Option bh}{k:Nat}{s₁:dg}{vs:List bh}{ns:List Int}
  (KX:K.In s₁.heap)(hns:s₁.heap.Ns ji mg)(hb:s₁.heap.Ns a2h mb)(hbb:∀x:Str,x≠"__name__"->mb x=jw x)(hlim:s₁.heap.NoLimit)(hg:s₁.gens=#[])
  (ha:s₁.heap.get? a=aj {cls:=.type "list",data:=.seq vs.toArray})(hi:a0e vs ns)(hl:ns.length<=dh)(hr:fQ qt k callerA)
  (hC:CodeHd s₁.heap cC T)(hT:s₁.heap.get? T=aj (tabObj #[]))(hKT:K.lookup T=aq)(hbm:∃bm o,mg "__builtins__"=aj (.ref bm)/\bm≠a2h/\bm≠ji/\s₁.heap.get? bm=aj o/\o.cls=.type "module"/\o.dict=aj a2h/\o.data=.plain)
  (F:∀base:jf,K.In base->base.Ns ji mg->base.BuiltinsAt mg T->CodeHd base cC T->cH qt P w K mg base CX k fa fd [x] sp)(hbind:∀(s:dg)(u:bh),BindsTo s fd ⟨[u],[]⟩ [(x,u)])
  (hsp:∀H:Hp,atD T H->qK K H a (ns.map V.int)->sp [.ref a] H (λv _=>v=.bl ak) λ_ _ _=>False)
  (hCX:∀H e s',CX [] H s₁ (λ_ _ _=>False) e s'->False) :
  zm (gk P w) callerA (.call (.ref fa) ⟨[.ref a],[]⟩) (λr s'=>r=.ok (.ret (.bool ak))/\OldK s₁.heap s'.heap/\s'.os=s₁.os/\AllBare s'.gens) s₁:=by
 have rv:=aaG hi;have lenV:=hi.length;have aT:a≠T:=λz=>by rw[z,hT]at ha;cases ha
 have core:∀H:Hp,atD T H->qK K H a (ns.map V.int)->xM P w H s₁.heap->(∀b,H b≠aq->b=a∨b=T)->(H a≠aq->K.lookup a=aq) ->
   zm (gk P w) callerA (.call (.ref fa) ⟨[.ref a],[]⟩) (λr s'=>r=.ok (.ret (.bool ak))/\OldK s₁.heap s'.heap/\s'.os=s₁.os/\AllBare s'.gens) s₁:=by
  intro H hO hS hok hA hK;have a5Z:∀{b:bx}{o:Obj},s₁.heap.get? b=aj o->H b=aq->(a6D s₁.heap H).get? b=aj o:=λe n=>apQ e n
  have no:∀{b:bx}{o:Obj},s₁.heap.get? b=aj o->(∀its n,o.data≠.seq its n)->o.cls≠.none->H b=aq:=λ{b o} e d1 d2=>by
   cases q:H b with
   |none=>rfl
   |some u =>
    rcases hA b (by rw[q];simp)with e'|e'
    .subst e';rw[ha]at e;cases e;exact absurd rfl (d1 _ _)
    .subst e';rw[hT]at e;cases e;exact absurd rfl d2
  have noD:∀{b:bx}{o:Obj}{es:Array a2f}{ep:Nat},s₁.heap.get? b=aj o->o.data=.dict es ep->H b=aq:=λ{b o es ep} e d=>by
   cases q:H b with
   |none=>rfl
   |some u =>
    rcases hA b (by rw[q];simp)with e'|e'
    .subst e';rw[ha]at e;cases e;cases d
    .subst e';rw[hT]at e;cases e;cases d
  have nsK:∀{b:bx}{m:Str->Option bh},s₁.heap.Ns b m->(a6D s₁.heap H).Ns b m:=λ{b m} ⟨o,es,ep,e,d,r⟩=>⟨o,es,ep,a5Z e (noD e d),d,r⟩
  have hKb:K.In (a6D s₁.heap H):=λb o e=>a5Z (KX b o e) (by
   cases q:H b with
   |none=>rfl
   |some u =>
    rcases hA b (by rw[q];simp)with e'|e'
    .subst e';rw[hK (by rw[q];simp)]at e;cases e
    .subst e';rw[hKT]at e;cases e)
  have hM:Mod K mg (a6D s₁.heap H):=⟨hKb,nsK hns,⟨mb,nsK hb,hbb⟩,let⟨mc,h1,h2⟩:=hlim;⟨mc,nsK h1,h2⟩⟩
  have hBA:(a6D s₁.heap H).BuiltinsAt mg T:=by
   obtain⟨bm,o,b1,b2,b3,b4,b5,b6,b7⟩:=hbm;refine⟨bm,o,b1,b2,b3,λz=>?_,a5Z b4 (no b4 (λits n z=>by rw[b7]at z;cases z) (by rw[b5];intro z;cases z)),b5,b6,b7⟩;rw[z,hT]at b4;cases b4;cases b5
  have hCb:CodeHd (a6D s₁.heap H) cC T:=by
   obtain⟨o,vs',file,tf,flags,tg,inF,text,tt,e,c1,c2,r⟩:=hC;exact⟨o,vs',file,tf,flags,tg,inF,text,tt,a5Z e (no e (λits n z=>by rw[c2]at z;cases z) (by rw[c1];intro z;cases z)),c1,c2,r⟩
  have e0:a5B P w K mg (a6D s₁.heap H) callerA [] s₁ H:=⟨rfl,hM,λb o e=>awJ e,a2y (an2 _ _),trivial,λb hb=>absurd (show b∈([]:List bx)from hb) (by simp),hok,.of_eq hg,.inl rfl⟩;refine codeAny_mono ((F _ hKb (nsK hns) hBA hCb).run callerA [] s₁ H ⟨[.ref a],[]⟩ [.ref a] [.ref a] _ _ hr e0 (hbind s₁ (.ref a)) (.cons rfl .nil) (hsp H hO hS)) λr s' h=>?_;cases r with
  |error e=>exact(hCX H e s' h).elim
  |ok fl =>
   cases fl with
   |next=>exact False.elim h
   |brk=>exact False.elim h
   |cont=>exact False.elim h
   |ret u =>
    obtain⟨v,H',os,bare,un,hok',r',q⟩:=h;have q':v=.bl ak:=q;subst q';obtain rfl:u=bh.bool ak:=r'
    have old:∀b o,b≠T->s₁.heap.get? b=aj o->s'.heap.get? b=aj o:=λb o bT e=>by
     cases q:H b with
     |none=>exact un.keep b o e q (by intro z;exact absurd (show b∈([]:List bx)from z) (by simp)) (by simp)
     |some u =>
      rcases hO.2 b bT with z|⟨ob,xs,z⟩
      .rw[q]at z;cases z
      .have z2:=un.j7 b ob _ z;obtain⟨e1,_⟩:=hok b _ z;obtain⟨e2,_⟩:=hok' b _ z2;rw[e]at e1;cases e1;exact e2
    obtain⟨more,eM⟩:=un.v7 T _ hO.1;have hT':s'.heap.get? T=aj (tabObj (#[]++more)):=hok' T _ eM;refine⟨rfl,⟨λb o e=>?_,λb o e=>?_⟩,os,bare⟩
    .by_cases bT:b=T
     .subst bT;rw[hT]at e;cases e;exact .inr (.inl ⟨(hC.tab hT).isCodeTable,rfl,#[],#[]++more,rfl,by rw[Array.empty_append];exact hT'⟩)
     .exact .inl (old b o bT e)
    .by_cases bT:b=T
     .subst bT;exact⟨_,hT'⟩
     .exact⟨o,old b o bT e⟩
 cases hk:K.lookup a with
 |some o =>
  have e:=KX a o hk;rw[ha]at e;cases e;refine core (λb=>if b=T then aj (.zM #[])else aq) ⟨if_pos rfl,λb n=>.inl (if_neg n)⟩ (.inr ⟨_,vs.toArray,_,hk,rfl,rfl,rfl,by rw[gq,lenV];exact hl,by simpa using rv⟩) (λb u z=>?_) (λb z=>?_) λz=>absurd (if_neg aT) z
  .by_cases hb:b=T
   .have z':=(if_pos hb).symm.trans z;cases z';subst hb;exact hT
   .have z':=(if_neg hb).symm.trans z;cases z'
  .by_cases hb:b=T
   .exact .inr hb
   .exact absurd (if_neg hb) z
 |none =>
  refine core (λb=>if b=T then aj (.zM #[])else if b=a then aj (.j6 {cls:=.type "list",data:=.seq vs.toArray} (.lst (ns.map V.int)))else aq) ⟨if_pos rfl,λb n=>?_⟩ (.inl (.inr ⟨{cls:=.type "list",data:=.seq vs.toArray},(if_neg aT).trans (if_pos rfl)⟩)) (λb u z=>?_) (λb z=>?_) λ_=>hk
  .by_cases hb:b=a
   .exact .inr ⟨_,_,(if_neg n).trans (if_pos hb)⟩
   .exact .inl ((if_neg n).trans (if_neg hb))
  .by_cases hb:b=T
   .have z':=(if_pos hb).symm.trans z;cases z';subst hb;exact hT
   .have z:=(if_neg hb).symm.trans z;by_cases hb2:b=a
    .have z':=(if_pos hb2).symm.trans z;cases z';subst hb2;exact⟨ha,by rw[gj];exact hl,vs,_,rv,ha⟩
    .have z':=(if_neg hb2).symm.trans z;cases z'
  .by_cases hb:b=T
   .exact .inr hb
   .by_cases hb2:b=a
    .exact .inl hb2
    .exact absurd ((if_neg hb).trans (if_neg hb2)) z
def atE{l:PySem.W.OpenLaw}{n k:Nat}{q:ju}{loose:List Str}{XP:(Str->Option bh)->jf->Prop}{YP:jq->jf->Prop}{d dm:DefRec}{K:Params->iu}{CX:jq->CXT}{sp:jq->Sp}{xm:Str}{T cC:jq->bx}
  (hn:l.most=aj n)(hn2:n<=dh)(hdf:d.params.defaults=[])(hr:fQ qt k callerA)
  (hY:∀(w:jq)(h:jf),YP w h->(K w.params).In h)(hdm:(recsOf q).find? (λe=>e.name==xm)=aj dm)(ht:∀w,tabIn (K w.params) xm=aj (cC w,T w))(hKT:∀w,(K w.params).lookup (T w)=aq)
  (F:∀(w:jq)(mg:Str->Option bh)(fa:bx)(h:jf),(K w.params).In h->h.Ns ji mg->mg d.name=aj (.ref fa) ->
   ∃fd:jy,(∀(s:dg)(u:bh),BindsTo s fd ⟨[u],[]⟩ [(x,u)]) /\
    ∀base:jf,(K w.params).In base->base.Ns ji mg->base.BuiltinsAt mg (T w)->CodeHd base (cC w) (T w)->cH qt l.prog w (K w.params) mg base (CX w) k fa fd [x] (sp w))
  (hsp:∀(w:jq)(H:Hp)(a:bx)(ns:List Int),ns.length<=n->atD (T w) H->qK (K w.params) H a (ns.map V.int)->sp w [.ref a] H (λv _=>v=.bl ak) λ_ _ _=>False)
  (hCX:∀(w:jq)(H:Hp)(s:dg)(e:bh)(s':dg),CX w [] H s (λ_ _ _=>False) e s'->False) :
  PySem.W.WalkO q loose XP YP l.row.toRowW d [] (λf vs=>PySem.call f vs):=by
 refine Att.aeN hn hdf λw s₀ s₁ mg mb fa o pm cd doc a vs ns G Y ho hd hcd hmg hobj hints hlen hg=>?_;have KX:=hY w _ Y;obtain⟨fd,hb,hF⟩:=F w mg fa _ KX G.T.g hmg;obtain⟨t1,t2⟩:=tab_of G.T KX hdm (ht w);obtain⟨bm,ob,b1,b2,b3,b4,b5,b6⟩:=G.T.bmain
 have bG:bm≠ji:=λz=>by
  obtain⟨o,es,ep,e,hd,_⟩:=G.T.g;rw[z,e]at b3;cases b3;rw[hd]at b6;cases b6
 exact aoB KX G.T.g G.T.b G.T.builtins G.T.nolimit hg hobj hints (uh hlen hn2) hr t1 t2 (hKT w) ⟨bm,ob,b1,b2,bG,b3,b4,b5,b6⟩ hF hb (λH hO hS=>hsp w H a ns hlen hO hS) λH e s'=>hCX w H s₁ e s'
end
end L2
namespace L4
open PySem PySem.Spec PyProof.Rows L2 PySem.W
section
variable{w:jq}{K:Fg}{mg:Str->Option bh}{base:jf}{k:Nat}
def atF{c:qQ}{ps:List Str}{S:SI}{ce:CE}(hS:ScX S.N ps c.x c.scope)(a6S:∀y∈c.scope.names,y.1=c.x->y.2≠.cell)
  (hb:∀(cl:List (Str×bx))(pm cdv ctv:bh)(us:List bh),us.length=ps.length->za (kla_fn "<lambda>" c.qual c.params c.body c.scope cl pm cdv ctv) ⟨us,[]⟩=pure (ps.zip us))
  (hc:S.calm=ak)(hv:at8 S c.scope=ak)(hk:kE S ce c.body=ak)(hg:∀(j:Nat)(y:Str)(g:GT),S.gl[j]?=aj (y,g)->GTs P w K mg base k y g)(hn:S.need=ao:=by rfl) :
  vQ ao P w K mg base (k+1) c (spL S.N.length (ps.length+1) (mE S.gl K (λ_=>m6 λ_ _=>False) ce)):=by
 refine aG3 hS a6S hb λf c' cc A outer s H hr=>?_;refine eO (X:=cxX ao (j9 P w) P w K mg base S.N c.qual c.scope f (.ref c') c.x cc A outer s H (λ_ _ _=>False)) (S:=S) (ex:=λ_=>m6 λ_ _=>False) ?_ ce c.body hk;refine⟨rfl,hS.nd,λi y e1 e2=>?_,λi y e1 e2=>(at9 hv e1).2.2.2.2 e2,λj y g e=>?_,hr.units,λ_=>rfl,⟨λpins σ H' s' ρ e s'' I sr z=>?_⟩,λz=>by rw[hn]at z;cases z⟩
 .obtain⟨a1,a2,a3,_⟩:=at9 hv e1;exact⟨ad2 (a3 e2),a1,a2⟩
 .obtain⟨a1,a2,a3⟩:=aGO hv e;exact⟨a1,a2,a3,atA (qt:=false) ⟨rfl,rfl,rfl,rfl,rfl⟩ hr hc (hg j y g e)⟩
 .exact z.elim
def vQ.mono{qt:Bool}{j k:Nat}(F:vQ qt P w K mg base j c sp)(h:j<=k):vQ qt P w K mg base k c sp :=
 λA outer s H us vs ds d G R E f cc c' pm ctv u vv hr=>F A outer s H us vs ds d G R E f cc c' pm ctv u vv (hr.mono h)
end
end L4
namespace L2
open PySem PySem.Spec PyProof.Rows
variable{b:bx}
section
open PySem.W
@[simp]def tbs(TL:List (bx×bx)):List bx:=TL.map (·.2)
abbrev aGP(TL:List (bx×bx))(H:Hp):Prop:=(∀t∈tbs TL,H t=aj (.zM #[]))/\∀b,b∉tbs TL->H b=aq∨∃o xs,H b=aj (.j6 o (.lst xs))
abbrev H0(K:iu)(TL:List (bx×bx))(a:bx)(o:Obj)(ns:List Int):Hp:=λb=>if b∈tbs TL then aj (.zM #[])else if b=a/\K.lookup a=aq then aj (.j6 o (.lst (ns.map V.int)))else aq
section
variable{K:iu}{o:Obj}{ns:List Int}{h:jf}
def H0.tab(hb:b∈tbs TL):H0 K TL a o ns b=aj (.zM #[]):=if_pos hb
def H0.cases{b:bx}(e:H0 K TL a o ns b=aj u):(b∈tbs TL/\u=.zM #[])∨(b∉tbs TL/\b=a/\K.lookup a=aq/\u=.j6 o (.lst (ns.map V.int))):=by
 unfold H0 at e;by_cases c:b∈tbs TL
 .rw[if_pos c]at e;cases e;exact .inl ⟨c,rfl⟩
 .rw[if_neg c]at e;by_cases d:b=a/\K.lookup a=aq
  .rw[if_pos d]at e;cases e;exact .inr ⟨c,d.1,d.2,rfl⟩
  .rw[if_neg d]at e;cases e
def H0.only:aGP TL (H0 K TL a o ns):=⟨λt ht=>H0.tab ht,λb hb=>by
 cases e:H0 K TL a o ns b with
 |none=>exact .inl rfl
 |some u =>
  rcases H0.cases e with z|z
  .exact absurd z.1 hb
  .rw[z.2.2.2];exact .inr ⟨_,_,rfl⟩⟩
def H0.out{q:Obj}(ho:h.get? a=aj o)(hd:∃its n,o.data=.seq its n)(hT:∀t∈tbs TL,h.get? t=aj (tabObj #[]))(e:h.get? b=aj q)(n1:q≠tabObj #[])(n2:q≠o):H0 K TL a o ns b=aq:=by
 cases z:H0 K TL a o ns b with
 |none=>rfl
 |some u =>
  exfalso;rcases H0.cases z with y|y
  .rw[hT b y.1]at e;exact n1 (jd.inj e).symm
  .rw[y.2.1,ho]at e;exact n2 (jd.inj e).symm
end
end
end L2
namespace L4
open PySem PySem.Spec PyProof.Rows L2 PySem.W
abbrev aGQ(qual x:Str)(s:lq):qQ:=match s with
 |.Return (aj (.Tuple [_,.Call _ _ [⟨_,.Lambda a b sc p,_⟩] _] _ _)) _=>⟨qual++".<locals>."++"<lambda>",a,b,sc,x,p⟩
 |s=>⟨"",dF s,.Name "" ⟨0,0,0,0⟩,aZ s,"",⟨0,0,0,0⟩⟩
abbrev aQP(s:lq):jc:=match s with
 |.Return (aj (.Tuple [e,_] _ _)) _=>e
 |_=>.Name "" ⟨0,0,0,0⟩
abbrev aQQ(s:lq):jc:=match s with
 |.Return (aj (.Tuple [_,.Call _ [e] _ _] _ _)) _=>e
 |_=>.Name "" ⟨0,0,0,0⟩
abbrev aoC(s:lq):Nat×Pos×Pos×Pos×Pos×Pos:=match s with
 |.Return (aj (.Tuple [_,.Call (.Name _ p1) _ [⟨_,_,kp⟩] p2] kt pt)) pr=>(kt,p1,p2,pt,pr,kp)
 |_=>(0,⟨0,0,0,0⟩,⟨0,0,0,0⟩,⟨0,0,0,0⟩,⟨0,0,0,0⟩,⟨0,0,0,0⟩)
def aMA{b:List lq}{t:bC}(h1:zO X a t)(h2:zO X b u):zO X (a++b) (aH t u):=PSs.imp (axN h1 h2) λF σ H h=>by
 obtain⟨ρ,G,E,s,g,q,d⟩:=h;exact⟨ρ,G,_,s,g,q,⟨λρ' G' σ' H' s' g' q'=>⟨ρ',G',E,s',g',q',d⟩,d.rt,d.bk,d.ct⟩⟩
section
variable{P:ju}{w:jq}{K:Fg}{mg:Str->Option bh}{base:jf}{k:Nat}
abbrev aGR(gl:List (Str×GT))(K:Fg)(ex:aN->aV)(T:bx)(c:qQ)(ix:Nat)(sp:fU)(c1:CB)(ce cl:CE):bC:=aH (mB gl K ex c1) (bM (cP (aB (mE gl K ex ce) (aB (acY (mE gl K ex cl) T c ix sp) aC))))
def atG{x qual:Str}{st:lq}{f cC T:bx}{fd:jy}{ps:List Str}{ix:Nat}{S:SI}{c:qQ}{sp:fU}{c1:CB}{ce cl:CE}{pre:List lq}{e l:jc}{kt:Nat}{p1 p2 pt pr kp:Pos}(F:Fun K x qual st f fd)(hS:bD S.N ps (aZ st))
  (hb:cD st=pre++[.Return (aj (.Tuple [e,.Call (.Name "sorted" p1) [l] [⟨aj "key",.Lambda c.params c.body c.scope c.pos,kp⟩] p2] kt pt)) pr])(hd:∀env,defaultsOf c.params env=([],[]))(hq:qual++".<locals>."++"<lambda>"=c.qual)(hfc:fd.code=.ref cC)(hC:CodeHd base cC T)(hbt:base.BuiltinsAt mg T)
  (hcf:c.scope.names.filter (λp=>p.2==.free)=[(c.x,.free)])(hix:S.N[ix]?=aj c.x)(hxc:(aZ st).names.lookup c.x=aj .cell)(hgs:(aZ st).names.lookup ("sorted":Str)=aj .globalImplicit)(hms:mg "sorted"=aq)
  (LO:vQ ao P w K mg base k c sp)(hc:S.calm=ak)(hv:a7Q S (aZ st)=ak)(h1:kB S 0 c1 pre=ak)(hke:kE S ce e=ak)(hse:isStar e=ao)(hkl:kE S cl l=ak)(hsl:isStar l=ao)
  (hg:∀(j:Nat)(y:Str)(g:GT),S.gl[j]?=aj (y,g)->GTs P w K mg base (k+2) y g)(hn:S.need=ao:=by rfl):cH ao P w K mg base (j9 P w) (k+3) f fd ps (d7 K (uE S.N.length ps.length λEX=>aGR S.gl K (λ_=>EX) T c ix sp c1 ce cl)):=by
 obtain⟨oc,od,dV,kV,doc,pm,an,cdv,ct,osl,rfl,lk,aQR⟩:=F.ex;rw[hb]at lk ⊢;have ecd:cdv=.ref cC:=hfc;subst ecd;refine cH.imp (?_:cH ao P w K mg base (j9 P w) (k+3) f _ ps (d7 K (aKT S.N.length ps.length λEX=>aGR S.gl K (λ_=>EX) T c ix sp c1 ce cl))) λvs H Q E ⟨ds,G,R,EX,r,g,⟨hl,q⟩,kk,hE⟩=>⟨ds,G,bK R,m6 EX,r,g,⟨hl,q⟩,(by rintro v H' d G' r1 g1 ⟨G0,l,q⟩;exact kk v H' d G0 r1 (g1.le l) q),afV hE⟩;refine aq7 (k:=k+2) lk aQR hS (λvs H Q E h=>?_) λA outer s H vs Q E hr hsp=>?_
 .obtain⟨ds,G,R,EX,r,g,⟨hl,q⟩,_⟩:=h;rw[←r.length,hl]
 .obtain⟨ds,G,R,EX,r,g,⟨hl,q⟩,kk,hE⟩:=hsp
  have SS:aiQ (a9F ao (j9 P w) P w K mg base S.N qual (aZ st) f (.ref cC) A outer s H E) S (λ_=>EX) 0:=by
   refine⟨⟨rfl,hS.nd,λi y e1 e2=>?_,λi y e1 e2=>.inl ((oW hv e1).2.2.2.2 e2),λj y g e=>?_,hr.units,λz=>rfl,aKU hE,λz=>by rw[hn]at z;cases z⟩,λi y e1 e2=>(oW hv e1).2.2.1 e2,λi y e1 e2=>(oW hv e1).2.2.2.1 e2,λ_ _ _ _=>rfl,λj y a e _=>(hg j y _ e).elim,λ_=>own1,λ_ _=>aKV hE,rfl,rfl⟩
   .obtain⟨a1,a2,a3,a4⟩:=oW hv e1;exact⟨ad2 (a3 e2),a1,a2⟩
   .obtain⟨a1,a2,a3⟩:=alC hv e;exact⟨a1,a2,a3,atA ⟨rfl,rfl,rfl,rfl,rfl⟩ hr hc (hg j y g e)⟩
  have hu:(A.deeper (envOfC qual (aZ st) s.heap.objs.size f (.ref cC))).units+64<ni:=by have:=hr.un;omega
  have pe:=ayY (X:=a9F ao (j9 P w) P w K mg base S.N qual (aZ st) f (.ref cC) A outer s H E) (p:=p1) (pos:=p2) (kp:=kp) (T:=T) (cC:=cC) (ix:=ix) LO hr.in1.in1 hu hgs hms hix hxc hcf hC hbt rfl (hd _) hq (eO SS.si cl l hkl) (aO hsl);have pb:=aMA (okB c1 SS pre h1) (aBS (aBT (pos:=pr) (aBP (x1:=kt) (pos:=pt) (dN (eO SS.si ce e hke) (dN pe u6) (aO hse)))));refine⟨_,pb,sU S.N.length ds,G,_,?_,g,q,⟨λρ G' σ' H' s1 g1 q1=>kk .non H' .non G' .non g1 q1,λd G' v H' r1 g1 q1=>kk v H' d G' r1 g1 q1,λ_ _ _ _ _ _ z=>z.elim,λ_ _ _ _ _ _ z=>z.elim⟩⟩;unfold sU L2.start;rw[r.length];exact SR.entry r
end
end L4
namespace L4
open PySem PySem.Spec PyProof.Rows L2
def vV{P:Str->GT->Prop}:∀(j:Nat)(y:Str)(g:GT),([]:List (Str×GT))[j]?=aj (y,g)->P y g:=λj y g h=>by simp at h
def cV{P:Str->GT->Prop}{x:Str}{g:GT}{l:List (Str×GT)}(h:P x g)(r:∀(j:Nat)(y:Str)(g:GT),l[j]?=aj (y,g)->P y g):∀(j:Nat)(y:Str)(g':GT),((x,g)::l)[j]?=aj (y,g')->P y g'
 |0,y,g',e=>by simp at e;obtain⟨e1,e2⟩:=e;subst e1;subst e2;exact h
 |j+1,y,g',e=>r j y g' (by simpa using e)
section
variable{w:jq}{K:Fg}{mg:Str->Option bh}{base:jf}{k:Nat}{x:Str}
def gcI{z:Int}(h:∃t,mg x=aj (.int z t)):GTs P w K mg base k x (.con (.int z)):=by
 obtain⟨t,h⟩:=h;exact⟨_,.int z,h,⟨t,rfl⟩,λ_=>.int z⟩
def gcT(h:∃a,mg x=aj (.ref a)/\∀H,RD K H (.tup ds) (.ref a)):GTs P w K mg base k x (.con (.tup ds)):=by
 obtain⟨a,h,r⟩:=h;exact⟨_,.ref a,h,rfl,r⟩
end
def aGS{K:Fg}{its:Array bh}{n:Nat}{sl:Array (Option bh)}(h:K.lookup a=aj ⟨.type "tuple",aq,.seq its n,sl⟩)(hz:its.size<=dh)(v:Vals xs its.toList)(r:∀H,cG K H ds xs)(H:Hp):RD K H (.tup ds) (.ref a) :=
 .tup (.inr ⟨_,its,n,h,rfl,rfl,rfl,hz,v⟩) (r H) trivial
def a0Z:jw "enumerate"=aj (.type "enumerate"):=by decide+kernel
def lQ:jw "range"=aj (.type "range"):=by decide+kernel
def atH:jw "zip"=aj (.type "zip"):=by decide+kernel
end L4
namespace L4
open PySem PySem.Spec PyProof.Rows L2
def alE{K:Fg}{ps:List Str}(h:∀us:List bh,us.length=ps.length->za fd ⟨us,[]⟩=pure (ps.zip us)):Binds K fd ps []:=Binds.all h
end L4
namespace L5
open PySem PySem.Spec PyProof.Rows L2 L4
abbrev onB(x:D)(f:Bool->Prop):Prop:=match x with
 |.bl k=>f k
 |_=>False
abbrev onI(x:D)(f:Int->Prop):Prop:=match x with
 |.int k=>f k
 |_=>False
def aGT{k:Bool}:onB (.bl k) f=f k:=rfl
def azG{k:Int}:onI (.int k) f=f k:=rfl
abbrev ab7(xs:List D):Prop:=xs.length<=dh
def aGU:ab7 []=True:=eq_true (show 0<=dh by decide)
def aGV:ab7 [a0]=True:=eq_true (show 1<=dh by decide)
def aGW:ab7 [a0,a1]=True:=eq_true (show 2<=dh by decide)
def aGX:ab7 [a0,a1,a2]=True:=eq_true (show 3<=dh by decide)
variable{i j:Int}{n:Nat}{T:String}{ds:List D}{q:bx}{b:Bool}
section
variable{t:bC}{F:cR}{G:Gp}{R:eV}{K:Fg}
def atJ:aH t u F ρ G=t {F with nx:=u F} ρ G:=rfl
def aGY:bL F ρ G=F.nx ρ G:=rfl
def aGZ:d8 te F ρ G=te ρ G λ_ G1=>F.nx ρ G1:=rfl
def aMC:bM te F ρ G=te ρ G F.rt:=rfl
def aMD:cA tt t u F ρ G=tt ρ G λb G1=>if b=ak then t F ρ G1 else u F ρ G1:=rfl
def aME{i:Nat}:bF i te F ρ G=te ρ G λx G1=>F.nx (a2T ρ i x) G1:=rfl
def x_c:aR d ρ G R=R d G:=rfl
def aH0:aA 0 (aj d::ρ) G R=R d G:=rfl
def aH1:aA (n+1) (o::ρ) G R=aA n ρ G R:=rfl
def atL:a2T (o::ρ) 0 d=aj d::ρ:=rfl
def atM:a2T (o::ρ) (n+1) d=o::a2T ρ n d:=rfl
def atN:qN (o::ρ) 0=aq::ρ:=rfl
def atO:qN (o::ρ) (n+1)=o::qN ρ n:=rfl
def aQU{r:R3}:aD r ta tb ρ G R=ta ρ G λx G1=>tb ρ G1 λy G2=>r x y G2 R:=rfl
def aH2:aK te ρ G Q=te ρ G λx G1=>onB x λk=>Q k G1:=rfl
def azH{r r':R3}:oO r r' ta tb tc ρ G R=ta ρ G λx G1=>tb ρ G1 λy G2=>r x y G2 λz G3=>onB z λk=>if k=ak then tc ρ G3 λw G4=>r' y w G4 R else R (.bl ao) G3:=by
 unfold oO;congr 1;funext x G1;congr 1;funext y G2;congr 1;funext z G3;cases z with
 |bl k=>cases k<;>rfl
 |_=>rfl
def aMF:u5 tt tt' ρ G Q=tt ρ G λc G1=>if c=ak then tt' ρ G1 Q else Q ao G1:=rfl
def aQV:pR tt tt' ρ G Q=tt ρ G λc G1=>if c=ak then Q ak G1 else tt' ρ G1 Q:=rfl
def aMG:j8 tt ρ G Q=tt ρ G λc G1=>Q (!c) G1:=rfl
def aH3:nF ta tb ρ G R=ta ρ G λx G1=>onB x λk=>if k=ak then tb ρ G1 R else R (.bl ao) G1:=by
 unfold nF;congr 1;funext x G1;cases x with
 |bl k=>cases k<;>rfl
 |_=>rfl
def aH4:a6U ta ρ G R=ta ρ G λx G1=>onB x λk=>R (.bl (!k)) G1:=rfl
def aMH:aaL ta ρ G R=ta ρ G λx G1=>onI x λk=>R (.int (-k)) G1:=rfl
def aMI:aqO tt ta tb ρ G R=tt ρ G λc G1=>if c=ak then ta ρ G1 R else tb ρ G1 R:=rfl
def aMJ:aC ρ G Q=Q [] G:=rfl
def aH5:aB te tA ρ G Q=te ρ G λx G1=>tA ρ G1 λxs G2=>Q (x::xs) G2:=rfl
def aMK:cP tA ρ G R=tA ρ G λxs G1=>ab7 xs/\R (.tup xs) G1:=rfl
def aML:eF tA ρ G R=tA ρ G λxs G1=>ab7 xs/\∀p,G1 p=aq->R (.ref p) (aM G1 p (.lst xs)):=rfl
def aMM:acE ρ G R=∀p,G p=aq->R (.ref p) (aM G p (.jX ao [])):=rfl
def x_call{ex:aN->aV}:aU sp ex tA ρ G R=tA ρ G λds G1=>sp ds G1 R (ex ρ):=rfl
def aQW:cJ r tA ρ G R=tA ρ G λxs G1=>r xs G1 R:=rfl
def x_m{r:RM3}:tM3 T r te tA ρ G R=te ρ G λx G1=>aeY T G1 x/\tA ρ G1 λxs G2=>r x xs G2 R:=rfl
def jE:aeY "list" G (.ref p)=((aQ G p).isSome=ak):=by unfold aeY;simp
def atP:vG ρ G Q=Q aq G:=rfl
def aH6:a6W te ρ G Q=te ρ G λx G1=>onI x λk=>Q (aj k) G1:=rfl
def azI:a0J te tl th ρ G R=te ρ G λx G1=>tl ρ G1 λlo G2=>th ρ G2 λhi G3=>axQ x lo hi G3 R:=rfl
def atQ:cB (.int i) (.int j) G R=R (.int (i+j)) G:=rfl
def atR{xs ys:List D}:cB (.tup xs) (.tup ys) G R=(xs.length+ys.length<=dh/\R (.tup (xs++ys)) G):=rfl
def aMN:jW (.int i) (.int j) G R=R (.int (i - j)) G:=rfl
def aCF:oR (.int i) (.int j) G R=(aq1 i j/\R (.int (i*j)) G):=rfl
def aH7:gK (.int i) (.int j) G R=(aDJ i j/\R (.int (i / j)) G):=rfl
def aMO:eX (.int i) (.int j) G R=(0<j/\R (.int (i%j)) G):=rfl
def x_lt:a5E (.int i) (.int j) G R=R (.bl (decide (i<j))) G:=rfl
def aQX:a6V (.int i) (.int j) G R=R (.bl (decide (j<i))) G:=rfl
def x_ge:axJ (.int i) (.int j) G R=R (.bl (decide (j<=i))) G:=rfl
def aQY:anL (.int i) (.int j) G R=R (.bl (decide (i<=j))) G:=rfl
def azJ:j5 (.int i) (.int j) G R=R (.bl (i==j)) G:=by
 show(bB 20 (.int i)=ak/\bB 20 (.int j)=ak/\_)=_;simp[bB,eqP]
def azK:jA (.int i) (.int j) G R=R (.bl (!(i==j))) G:=by
 show(bB 20 (.int i)=ak/\bB 20 (.int j)=ak/\_)=_;simp[bB,eqP]
def azL:j5 (.tup xs) (.tup ys) G R=(bB 20 (.tup xs)=ak/\bB 20 (.tup ys)=ak/\R (.bl (eqP (.tup xs) (.tup ys))) G):=rfl
def azM:jA (.tup xs) (.tup ys) G R=(bB 20 (.tup xs)=ak/\bB 20 (.tup ys)=ak/\R (.bl (!eqP (.tup xs) (.tup ys))) G):=rfl
def azN{z:Str}:dO [.str z] G R=(z.length<=dh/\R (.int z.length) G):=rfl
def azO:dO [.tup ds] G R=R (.int ds.length) G:=rfl
def dG(h:aQ G q=aj ds):dO [.ref q] G R=R (.int ds.length) G:=by unfold dO;simp only[h]
def aMP:aaN [.int i] G R=R (.int (if i<0 then -i else i)) G:=rfl
def azP:a0H [.bl b] G R=R (.int (if b then 1 else 0)) G:=rfl
def aiS(h:atI xs i=aj d):bA (.tup xs) (.int i) G R=R d G:=by unfold bA;simp only[h]
def tD(e:aQ G p=aj xs)(h:atI xs i=aj d):bA (.ref p) (.int i) G R=R d G:=by unfold bA;simp only[e,h]
def afW:aJ K [.non,.ty "int"] G R=R (.bl ao) G:=by
 show("int"∈eY/\R (.bl (L2.subB "NoneType" "int")) G)=_;rw[show L2.subB "NoneType" "int"=ao from by decide];simp[eY]
def ad3:aJ K [.non,.ty "bool"] G R=R (.bl ao) G:=by
 show("bool"∈eY/\R (.bl (L2.subB "NoneType" "bool")) G)=_;rw[show L2.subB "NoneType" "bool"=ao from by decide];simp[eY]
def a9O:aJ K [.non,.ty "tuple"] G R=R (.bl ao) G:=by
 show("tuple"∈eY/\R (.bl (L2.subB "NoneType" "tuple")) G)=_;rw[show L2.subB "NoneType" "tuple"=ao from by decide];simp[eY]
def aiT:aJ K [(.bl b),.ty "int"] G R=R (.bl ak) G:=by
 show("int"∈eY/\R (.bl (L2.subB "bool" "int")) G)=_;rw[show L2.subB "bool" "int"=ak from by decide];simp[eY]
def afX:aJ K [(.bl b),.ty "bool"] G R=R (.bl ak) G:=by
 show("bool"∈eY/\R (.bl (L2.subB "bool" "bool")) G)=_;rw[show L2.subB "bool" "bool"=ak from by decide];simp[eY]
def ad4:aJ K [(.bl b),.ty "tuple"] G R=R (.bl ao) G:=by
 show("tuple"∈eY/\R (.bl (L2.subB "bool" "tuple")) G)=_;rw[show L2.subB "bool" "tuple"=ao from by decide];simp[eY]
def afY:aJ K [(.int i),.ty "int"] G R=R (.bl ak) G:=by
 show("int"∈eY/\R (.bl (L2.subB "int" "int")) G)=_;rw[show L2.subB "int" "int"=ak from by decide];simp[eY]
def ad5:aJ K [(.int i),.ty "bool"] G R=R (.bl ao) G:=by
 show("bool"∈eY/\R (.bl (L2.subB "int" "bool")) G)=_;rw[show L2.subB "int" "bool"=ao from by decide];simp[eY]
def a9P:aJ K [(.int i),.ty "tuple"] G R=R (.bl ao) G:=by
 show("tuple"∈eY/\R (.bl (L2.subB "int" "tuple")) G)=_;rw[show L2.subB "int" "tuple"=ao from by decide];simp[eY]
def afZ:aJ K [(.str z),.ty "int"] G R=R (.bl ao) G:=by
 show("int"∈eY/\R (.bl (L2.subB "str" "int")) G)=_;rw[show L2.subB "str" "int"=ao from by decide];simp[eY]
def ad6:aJ K [(.str z),.ty "bool"] G R=R (.bl ao) G:=by
 show("bool"∈eY/\R (.bl (L2.subB "str" "bool")) G)=_;rw[show L2.subB "str" "bool"=ao from by decide];simp[eY]
def a9Q:aJ K [(.str z),.ty "tuple"] G R=R (.bl ao) G:=by
 show("tuple"∈eY/\R (.bl (L2.subB "str" "tuple")) G)=_;rw[show L2.subB "str" "tuple"=ao from by decide];simp[eY]
def ag0:aJ K [(.tup xs),.ty "int"] G R=R (.bl ao) G:=by
 show("int"∈eY/\R (.bl (L2.subB "tuple" "int")) G)=_;rw[show L2.subB "tuple" "int"=ao from by decide];simp[eY]
def ad7:aJ K [(.tup xs),.ty "bool"] G R=R (.bl ao) G:=by
 show("bool"∈eY/\R (.bl (L2.subB "tuple" "bool")) G)=_;rw[show L2.subB "tuple" "bool"=ao from by decide];simp[eY]
def a9R:aJ K [(.tup xs),.ty "tuple"] G R=R (.bl ak) G:=by
 show("tuple"∈eY/\R (.bl (L2.subB "tuple" "tuple")) G)=_;rw[show L2.subB "tuple" "tuple"=ak from by decide];simp[eY]
def yR(h:G q=aj (.lst xs)):aJ K [.ref q,.ty "list"] G R=R (.bl ak) G:=by
 have e:tyD G (.ref q)=aj "list":=by unfold tyD;simp only[h]
 unfold aJ;simp only[e];rw[show L2.subB "list" "list"=ak from by decide];simp[eY]
def acB{C C':bx}(h:G q=aj (.exn C))(e:ExC K C)(k:a0f K (.ref C) (.ref C')=aj b)(z:R (.bl b) G):aJ K [.ref q,.ref C'] G R:=by
 unfold aJ;simp only[exD,h];exact⟨b,e,k,z⟩
end
def aF(h:G p=aj (.lst xs)):aQ G p=aj xs:=by unfold aQ;rw[h]
def vW(h:G p=aj (.rol xs)):aQ G p=aj xs:=by unfold aQ;rw[h]
def bO:aQ (aM G p (.lst xs)) p=aj xs:=aF aG
def fX{P Q:Prop}(h1:b=ak->P)(h2:b=ao->Q):if b=ak then P else Q:=by
 cases b
 .exact h2 rfl
 .exact h1 rfl
abbrev kn(G:Gp)(d:D):Prop:=(tyD G d).isSome=ak
def atU(h:kn G (.ref q)):tyD G (.ref q)=aj "list" ∨ tyD G (.ref q)=aj "dict":=by
 unfold kn at h
 have e:tyD G (.ref q)=(match G q with
  |some (.lst _)=>aj "list"
  |some (.rol _)=>aj "list"
  |some (.jX _ _)=>aj "dict"
  |_=>aq):=rfl
 rw[e]at h ⊢;split at h
 .exact .inl rfl
 .exact .inl rfl
 .exact .inr rfl
 .simp at h
def aiU{b:List D}:kn G (.tup b):=rfl
section
variable{K:Fg}{q:bx}
def atV{x:D}{n:String}(e:tyD G x=aj T)(hn:n∈eY):aJ K [x,.ty n] G R=R (.bl (L2.subB T n)) G:=by
 show(match tyD G x with
  |some T=>n∈eY/\R (.bl (L2.subB T n)) G
  |none=>_)=_
 rw[e];exact propext ⟨λh=>h.2,λh=>⟨hn,h⟩⟩
def aiV(h:kn G (.ref q)):aJ K [.ref q,.ty "int"] G R=R (.bl ao) G:=by
 rcases atU h with e|e<;>rw[atV e (by decide)]<;>rfl
def a1A(h:kn G (.ref q)):aJ K [.ref q,.ty "tuple"] G R=R (.bl ao) G:=by
 rcases atU h with e|e<;>rw[atV e (by decide)]<;>rfl
def at0{α:Type}{a:α}{xs:List α}:atI (a::xs) 0=aj a:=by
 unfold atI ixN;simp
def atS{α:Type}{a:α}{xs:List α}:atI (a::xs) ((n+1:Nat):Int)=atI xs (n:Int):=by
 unfold atI ixN;have h0:(0:Int)<=((n+1:Nat):Int):=by omega
 have h1:(0:Int)<=(n:Int):=by omega
 rw[if_pos h0,if_pos h1];by_cases h:n<xs.length
 .have a1:((n+1:Nat):Int)<((a::xs).length:Int):=by simp;omega
  have a2:(n:Int)<(xs.length:Int):=by omega
  rw[if_pos a1,if_pos a2];simp
 .have a1:¬ ((n+1:Nat):Int)<((a::xs).length:Int):=by simp;omega
  have a2:¬ (n:Int)<(xs.length:Int):=by omega
  rw[if_neg a1,if_neg a2];rfl
def pU{α:Type}{xs:List α}:atI xs (n:Int)=xs[n]?:=by
 unfold atI ixN;rw[if_pos (by omega)];by_cases h:n<xs.length
 .rw[if_pos (by omega)];simp
 .rw[if_neg (by omega)];simp at h;simp[h]
def alF:bA (.tup (a::xs)) (.int 0) G R=R a G:=aiS at0
variable{b:D}
def azQ:bA (.tup (a::b::xs)) (.int 1) G R=R b G:=aiS (i:=((1:Nat):Int)) (by rw[atS,pU];rfl)
def azR:bA (.tup (a::b::c::xs)) (.int 2) G R=R c G:=aiS (i:=((2:Nat):Int)) (by rw[atS,pU];rfl)
end
section
end
section
variable{b:bx}
def kJ{xs ys:List D}(h1:aQ G a=aj xs)(h2:aQ G b=aj ys)(s1:xs.all (bB 20)=ak)(s2:ys.all (bB 20)=ak):j5 (.ref a) (.ref b) G R=R (.bl (fV xs ys)) G:=by
 show eqG G (.ref a) (.ref b) (λb=>R (.bl b) G)=_;unfold eqG;simp only[h1,h2,s1,s2,true_and]
def iK{xs ys:List D}(h1:aQ G a=aj xs)(h2:aQ G b=aj ys)(s1:xs.all (bB 20)=ak)(s2:ys.all (bB 20)=ak):jA (.ref a) (.ref b) G R=R (.bl (!fV xs ys)) G:=by
 show eqG G (.ref a) (.ref b) (λb=>R (.bl (!b)) G)=_;unfold eqG;simp only[h1,h2,s1,s2,true_and]
end
section
variable{i j:Int}
def aH8(h:-18446744073709551616<i/\i<18446744073709551616):oR (.int i) (.int j) G R=R (.int (i*j)) G:=by
 rw[aCF];exact propext ⟨λz=>z.2,λz=>⟨.inl ⟨by have:=h.1;omega,by have:=h.2;omega⟩,z⟩⟩
def aH9(h:-18446744073709551616<j/\j<18446744073709551616):oR (.int i) (.int j) G R=R (.int (i*j)) G:=by
 rw[aCF];exact propext ⟨λz=>z.2,λz=>⟨.inr ⟨by have:=h.1;omega,by have:=h.2;omega⟩,z⟩⟩
def azS(h:0<j/\j<1073741824):gK (.int i) (.int j) G R=R (.int (i / j)) G:=by
 rw[aH7];exact propext ⟨λz=>z.2,λz=>⟨h,z⟩⟩
def aHA(h:0<j):eX (.int i) (.int j) G R=R (.int (i%j)) G:=by
 rw[aMO];exact propext ⟨λz=>z.2,λz=>⟨h,z⟩⟩
end
section
variable{i:Int}
def atX{α:Type}{xs:List α}(h0:0<=i)(h1:i<(xs.length:Int)):∃d,atI xs i=aj d/\d∈xs:=by
 obtain⟨n,rfl⟩:=Int.eq_ofNat_of_zero_le h0;have hn:n<xs.length:=by omega
 exact⟨xs[n],by rw[pU];simp[hn],List.getElem_mem hn⟩
def aHB{xs:List D}(e:aQ G p=aj xs)(h0:0<=i)(h1:i<(xs.length:Int))(h:∀d∈xs,R d G):bA (.ref p) (.int i) G R:=by
 obtain⟨d,h2,h3⟩:=atX h0 h1;rw[tD e h2];exact h d h3
variable{P:D->Prop}
def all_nil:∀d∈([]:List D),P d:=λ_ h=>by simp at h
def all_cons{a:D}{r:List D}(h1:P a)(h2:∀d∈r,P d):∀d∈a::r,P d:=λd h=>by
 rcases iy.mp h with rfl|h
 .exact h1
 .exact h2 d h
end
section
variable{b:Bool}{α:Type}{l:List α}
def aiW:(True/\P)=P:=true_and P
def aiX:(!true)=ao:=rfl
def ag1:(!false)=ak:=rfl
def atY:((!b)=ak)=(b=ao):=by cases b<;>simp
def aoD:(if True then P else Q)=P:=if_true ..
def aiY:(if False then P else Q)=Q:=if_false ..
def aMQ:(ao=ak)=False:=by simp
def aMR:(ak=ao)=False:=by simp
def aiZ:(a::l).length=l.length+1:=qz
def aoE:([]:List α).length=0:=rfl
def aoF{β:Type}{f:α->β}:(l.map f).length=l.length:=gj ..
end
end L5
namespace L6
open PySem PySem.Spec PyProof.Rows L2 L4 L5
abbrev aHC(x:D)(G:Gp)(Q:Src->Gp->Prop):Prop:=match x with
 |.ref p=>(match aQ G p with
  |some xs=>Q (.lst p xs) G
  |none=>False)
 |.tup xs=>Q (.imm xs) G
 |.str z=>Q (.imm (signs z)) G
 |_=>False
abbrev alG(x:D)(G:Gp)(Q:Src->Gp->Prop):Prop:=match x with
 |.ref p=>(match aQ G p with
  |some xs=>Q (.lst p xs) G
  |none=>False)
 |.str z=>Q (.imm (signs z)) G
 |.tup xs=>xs.all scD=ak/\∀a,(G a=aq∨G a=aj (.tpl xs))->Q (.tpl a xs) (aM G a (.tpl xs))
 |_=>False
abbrev aCG(xs:List D)(G:Gp)(Q:Src->Gp->Prop):Prop:=match xs with
 |[.int j]=>-(2^62)<=j/\j<2^62/\Q (.imm (a0M 0 j)) G
 |_=>False
abbrev aHD(xs:List D)(G:Gp)(Q:Src->Gp->Prop):Prop:=match xs with
 |[.ref p,.ref q]=>(match aQ G p,aQ G q with
  |some xs,aj ys=>Q (.zip p q xs ys) G
  |_,_=>False)
 |_=>False
def aHE:akV te td ρ G R=te ρ G λx G1=>td ρ G1 λd G2=>vO x d G2 R:=rfl
variable{ns:List Int}
def aHF(hp:aQ G p=aj (ns.map D.int))(h0:ns=[]->R d G)(h:∀M,M∈ns->(∀a∈ns,a<=M)->R (.int M) G):vO (.ref p) d G R:=by
 unfold vO;simp only[hp];exact⟨ns,rfl,h0,h⟩
variable{q:bx}
section
variable{j:Int}
def azT:lV te ρ G Q=te ρ G λx G1=>aHC x G1 Q:=rfl
def aMS:a77 te ρ G Q=te ρ G λx G1=>alG x G1 Q:=rfl
def aHG:lW ta ρ G Q=ta ρ G λxs G1=>aCG xs G1 Q:=rfl
def aMT:a4B ta ρ G Q=ta ρ G λxs G1=>aHD xs G1 Q:=rfl
def jF(h:aQ G p=aj xs):aHC (.ref p) G Q=Q (.lst p xs) G:=by unfold aHC;simp only[h]
def ab8(h:aQ G p=aj xs)(h':aQ G q=aj ys):aHD [.ref p,.ref q] G Q=Q (.zip p q xs ys) G:=by unfold aHD;simp only[h,h']
def kW(h:aQ G p=aj xs):alG (.ref p) G Q=Q (.lst p xs) G:=by unfold alG;simp only[h]
def azU(h:-4611686018427387904<=j/\j<4611686018427387904):aCG [.int j] G Q=Q (.imm (a0M 0 j)) G:=by
 show(_/\_/\_)=_;exact propext ⟨λz=>z.2.2,λz=>⟨by omega,by omega,z⟩⟩
end
abbrev ab9(dv:D->Option (List D))(src:Src)(tc:vD)(te:cO)(ρ:aN)(G1:Gp)(R:eV):Prop:=src.items.length<dh/\∀p,G1 p=aq->∃P:Nat->List D->Gp->Prop,P 0 [] (aM G1 p (.lst [])) /\
 (∀k ds G,k<=src.items.length->P k ds G->src.ok G/\G p=aj (.lst ds)/\ds.length<=k) /\
 (∀k d ds G,src.items[k]?=aj d->P k ds G->∃ys,dv d=aj ys/\tc (ys.map aj++ρ) G λb G2=>if b=ak then te (ys.map aj++ρ) G2 λy G3=>G3 p=aj (.lst ds)/\P (k+1) (ds++[y]) (aM G3 p (.lst (ds++[y])))else P (k+1) ds G2) /\
 ∀ds G,P src.items.length ds G->∃G0,Le G0 G/\R (.ref p) G0
variable{ti:TI3}
def aHH:a0N dv ti tc te ρ G R=ti ρ G λsrc G1=>ab9 dv src tc te ρ G1 R:=rfl
private theorem aW(l:Le G G')(h:aQ G p=aj xs):aQ G' p=aj xs:=by
 unfold aQ at h ⊢;split at h
 .rename_i e;rw[l _ _ e];exact h
 .rename_i e;rw[l _ _ e];exact h
 .cases h
variable{src:Src}
def aMU(l:Le G G')(h:src.ok G):src.ok G':=by
 cases src with
 |lst p xs=>exact aW l h
 |imm xs=>trivial
 |zip p q xs ys=>exact⟨aW l h.1,aW l h.2⟩
 |itm p o kvs=>exact l _ _ h
 |key p o t kvs=>exact l _ _ h
 |tpl p xs=>exact l _ _ h
 |enu p xs=>exact l _ _ h
 |enl p xs=>exact aW l h
def aHI(l:Le (aM G p o) G'):Le (aM G p o') (aM G' p o'):=λa u e=>by
 by_cases h:a=p
 .subst h;rw[aG]at e ⊢;exact e
 .rw[bJ h]at e ⊢;exact l a u (by rw[bJ h];exact e)
def vX(v:D->List D)(c:D->Bool)(f:D->D)(hl:src.items.length<dh)(hok:src.ok G)(hv:∀d∈src.items,dv d=aj (v d))
  (hc:∀d∈src.items,∀G',Le G G'->∀Q:Bool->Gp->Prop,(∀G'',Le G' G''->Q (c d) G'')->tc ((v d).map aj++ρ) G' Q)
  (he:∀d∈src.items,c d=ak->∀G',Le G G'->∀Q:D->Gp->Prop,(∀G'',Le G' G''->Q (f d) G'')->te ((v d).map aj++ρ) G' Q)
  (h:∀p,G p=aq->R (.ref p) (aM G p (.lst ((src.items.filter c).map f)))):ab9 dv src tc te ρ G R:=by
 refine⟨hl,λp hp=>⟨λk ds G'=>ds=((src.items.take k).filter c).map f/\Le (aM G p (.lst ds)) G',⟨rfl,.refl _⟩,λk ds G' hk ⟨e,l⟩=>?_,λk d ds G' hd ⟨e,l⟩=>?_,λds G' ⟨e,l⟩=>?_⟩⟩
 .refine⟨aMU ((Le.new hp).trans l) hok,l p _ aG,?_⟩;rw[e,gj];exact uh (List.length_filter_le _ _) (by rw[qy];omega)
 .have hm:d∈src.items:=iz hd
  have ht:src.items.take (k+1)=src.items.take k++[d]:=by
   rw[a2V,hd];rfl
  refine⟨v d,hv d hm,hc d hm G' ((Le.new hp).trans l) _ λG2 l2=>?_⟩;cases hcd:c d with
  |true =>
   rw[if_pos rfl];refine he d hm hcd G2 (((Le.new hp).trans l).trans l2) _ λG3 l3=>?_;have l4:=(l.trans l2).trans l3;refine⟨l4 p _ aG,?_,aHI l4⟩;rw[ht,List.filter_append,mq,←e];simp[hcd]
  |false =>
   rw[if_neg (by decide)];refine⟨?_,l.trans l2⟩;rw[ht,List.filter_append,mq,←e];simp[hcd]
 .rw[a0g]at e;subst e;exact⟨_,l,h p hp⟩
def alH(c:D->Bool)(f:D->D)(hl:src.items.length<dh)(hok:src.ok G)
  (hc:∀d∈src.items,∀G',Le G G'->∀Q:Bool->Gp->Prop,(∀G'',Le G' G''->Q (c d) G'')->tc (aj d::ρ) G' Q)
  (he:∀d∈src.items,c d=ak->∀G',Le G G'->∀Q:D->Gp->Prop,(∀G'',Le G' G''->Q (f d) G'')->te (aj d::ρ) G' Q)
  (h:∀p,G p=aq->R (.ref p) (aM G p (.lst ((src.items.filter c).map f)))):ab9 aiG src tc te ρ G R:=vX (λd=>[d]) c f hl hok (λ_ _=>rfl) hc he h
def comp_map(f:D->D)(hl:src.items.length<dh)(hok:src.ok G)
  (he:∀d∈src.items,∀G',Le G G'->∀Q:D->Gp->Prop,(∀G'',Le G' G''->Q (f d) G'')->te (aj d::ρ) G' Q)
  (h:∀p,G p=aq->R (.ref p) (aM G p (.lst (src.items.map f)))):ab9 aiG src gM te ρ G R :=
 alH (λ_=>ak) f hl hok (λd _ G' _ Q h=>h G' (.refl _)) (λd hd _=>he d hd) λp hp=>by
  have:src.items.filter (λ_=>ak)=src.items:=a0b.mpr λ_ _=>rfl;rw[this];exact h p hp
abbrev abA(src:Src)(tg:TG3)(tb:bC)(F:cR)(ρ:aN)(G1:Gp):Prop:=∃P:Nat->aN->Gp->Prop,P 0 ρ G1/\(∀k ρ G,k<=src.items.length->P k ρ G->src.ok G) /\
 (∀k d ρ G,src.items[k]?=aj d->P k ρ G->tg d ρ λρ2=>tb {F with nx:=P (k+1),ct:=P (k+1),bk:=F.nx} ρ2 G)/\∀ρ G,P src.items.length ρ G->F.nx ρ G
variable{tg:TG3}{F:cR}
def aHJ:eN ti tg tb F ρ G=ti ρ G λsrc G1=>abA src tg tb F ρ G1:=rfl
variable{i:Nat}
def azV:fO i d ρ Q=Q (a2T ρ i d):=rfl
def vY{is:List Nat}{ds:List D}(h:ds.length=is.length):vM is (.tup ds) ρ Q=Q (a4A ρ is ds):=propext ⟨λz=>z.2,λz=>⟨h,z⟩⟩
def azW:a4A ρ is []=ρ:=by cases is<;>rfl
def alI:a4A ρ (i::is) (d::ds)=a4A (a2T ρ i d) is ds:=rfl
variable{j:Int}
def qT(P:Nat->aN->Gp->Prop)(h0:P 0 ρ G)
  (hb:∀(k:Nat) ρ G,(k:Int)<j->P k ρ G->tg (.int k) ρ λρ2=>tb {F with nx:=P (k+1),ct:=P (k+1),bk:=F.nx} ρ2 G)(he:∀ρ G,P j.toNat ρ G->F.nx ρ G):abA (.imm (a0M 0 j)) tg tb F ρ G:=by
 have hlen:(Src.imm (a0M 0 j)).items.length=j.toNat:=by simp[Src.items,a0M]
 refine⟨P,h0,λ_ _ _ _ _=>trivial,λk d ρ G hd p=>?_,λρ G p=>he ρ G (hlen ▸ p)⟩;have hk:k<j.toNat:=by rw[←hlen];exact(fj.mp hd).1
 have e:d=.int k:=by
  have:(a0M 0 j)[k]?=aj d:=hd;unfold a0M at this;rw[kj,a2L (by omega)]at this;simp at this;exact this.symm
 subst e;exact hb k ρ G (by omega) p
def nO{xs:List D}(P:Nat->aN->Gp->Prop)(h0:P 0 ρ G)(hs:∀k ρ G,P k ρ G->aQ G q=aj xs)
  (hb:∀k d ρ G,xs[k]?=aj d->P k ρ G->tg d ρ λρ2=>tb {F with nx:=P (k+1),ct:=P (k+1),bk:=F.nx} ρ2 G)(he:∀ρ G,P xs.length ρ G->F.nx ρ G):abA (.lst q xs) tg tb F ρ G :=
 ⟨P,h0,λk ρ G _ p=>hs k ρ G p,hb,he⟩
variable{b:bx}
section
def aMV{i:Int}:vN [.int i,.int j] G R=R (.int (if j<i then j else i)) G:=rfl
def jG{ds:List D}(h:G p=aj (.lst ds))(hl:ds.length<dh):dR (.ref p) [d] G R=R .non (aM G p (.lst (ds++[d]))):=by
 unfold dR;simp only[h,hl,true_and]
def atZ{ds es:List D}(h:G p=aj (.lst ds))(h2:G b=aj (.lst es))(hl:ds.length+es.length<=dh):vK (.ref p) [.ref b] G R=R .non (aM G p (.lst (ds++es))):=by
 unfold vK;simp only[h,h2,hl,true_and]
def alJ{ds es:List D}(h:G p=aj (.lst ds))(h2:G b=aj (.lst es))(hl:ds.length+es.length<=dh):cB (.ref p) (.ref b) G R=∀q,G q=aq->R (.ref q) (aM G q (.lst (ds++es))):=by
 unfold cB;simp only[h,h2,hl,true_and]
def au0(h:aQ G q=aj ds):a73 [.ref q] G R=∀l,G l=aq->R (.ref l) (aM G l (.lst ds)):=by
 unfold a73;simp only[h]
end
def zU{G:Gp}{a p:bx}{o:GO}(h:G a=aj o)(n:G p=aq):a≠p:=λe=>by subst e;rw[h]at n;cases n
private theorem aCH(l:Le G G')(h:kn G d):kn G' d:=by
 cases d with
 |ref q =>
  unfold kn tyD at h ⊢;dsimp only at h ⊢;split at h
  .rename_i e;rw[l _ _ e];rfl
  .rename_i e;rw[l _ _ e];rfl
  .rename_i e;rw[l _ _ e];rfl
  .cases h
 |_=>exact h
def azX{i:Int}:(a0M i j).length=(j - i).toNat:=by simp[a0M]
section
variable{F:cR}
def aHK:a2Z is te F ρ G=te ρ G λd G1=>vM is d ρ λρ2=>F.nx ρ2 G1:=rfl
def ad8:xQ c tb F ρ G=∃W:Nat->aN->Gp->Prop,(∃m,W m ρ G)/\∀m ρ G,W m ρ G->c ρ G λb G1=>if b=ak then tb {F with nx:=λρ' G'=>∃m',m'<m/\W m' ρ' G',ct:=λρ' G'=>∃m',m'<m/\W m' ρ' G',bk:=F.nx} ρ G1 else F.nx ρ G1:=rfl
def ag2:∀ns ms:List Int,ns.map D.int=ms.map D.int->ns=ms
 |[],[],_=>rfl
 |[],_::_,e=>by cases e
 |_::_,[],e=>by cases e
 |n::ns,m::ms,e=>by
  simp only[nj,List.cons.injEq]at e;obtain⟨e1,e2⟩:=e;cases e1;rw[ag2 ns ms e2]
def aMW(h:aQ G q=aj (ns.map D.int)):akT [.ref q] G R=R (.int ns.sum) G:=by
 refine propext ⟨λz=>?_,λz=>?_⟩
 .have z':(match aQ G q with
   |some ds=>∃ns:List Int,ds=ns.map D.int/\R (.int ns.sum) G
   |none=>False):=z
  rw[h]at z';obtain⟨ms,e,r⟩:=z';rw[ag2 ns ms e];exact r
 .show(match aQ G q with
   |some ds=>∃ns:List Int,ds=ns.map D.int/\R (.int ns.sum) G
   |none=>False)
  rw[h];exact⟨ns,rfl,z⟩
end
end L6
namespace L7
open PySem PySem.Spec PyProof.Rows L2 L4 L5 L6
section
variable{F:cR}
def aHL:a3G ta ρ G Q=ta ρ G λxs G1=>afD xs G1 Q:=rfl
def azY{i j c:Int}(h:-2305843009213693952<=i/\i<2305843009213693952/\-2305843009213693952<=j/\j<2305843009213693952)(hc:c=1∨c=-1):afD [.int i,.int j,.int c] G Q=Q (.imm (zT i c (lO i j c))) G :=
 propext ⟨λz=>z.2.2,λz=>⟨h,hc,z⟩⟩
def aMX{i:Nat}{t:bC}:a4C i t F ρ G=t {nx:=λρ G=>F.nx (qN ρ i) G,rt:=F.rt,bk:=λρ G=>F.bk (qN ρ i) G,ct:=λρ G=>F.ct (qN ρ i) G} (qN ρ i) G:=rfl
def aHM:a0K ρ G R=∀p,G p=aq->R (.ref p) (aM G p (.qL [])):=rfl
def aHN:acP to ti tv F ρ G=tv ρ G λv G1=>to ρ G1 λx G2=>ti ρ G2 λy G3=>afA x y v F ρ G3:=rfl
end
end L7
namespace L8
open PySem PySem.Spec PyProof.Rows L2 L4 L5 L6 L7
section
def azZ:a5X to te tf ρ G R=to ρ G λx G1=>a3E x G1/\te ρ G1 λy G2=>tf ρ G2 λz G3=>qP x y G3 λ_ _ kvs k=>R ((nH kvs k).getD z) G3:=rfl
def au1{t:Bool}(h:G p=aj (.jX t kvs)):a3E (.ref p) G=True:=by
 unfold L2.a3E;simp only[h]
def a7R{t:Bool}{k:DK}(h:G p=aj (.jX t kvs))(hk:a9N y=aj k)(ht:yP k=t):qP (.ref p) y G P=P p t kvs k:=by
 unfold L2.qP;simp only[h,hk];exact propext ⟨λz=>z.2,λz=>⟨ht,z⟩⟩
def aoG{t:Bool}{k:DK}(h:a79 G p=aj (t,kvs))(hk:a9N y=aj k)(ht:yP k=t):a7A (.ref p) y G P=P kvs k:=by
 unfold L2.a7A;simp only[h,hk,ht,true_and]
def aoH{t:Bool}(h:G p=aj (.jX t kvs)):a79 G p=aj (t,kvs):=by unfold L2.a79;rw[h]
def au2{t:Bool}{k:DK}(h:a79 G p=aj (t,kvs))(hk:a9N y=aj k)(ht:yP k=t)(e:nH kvs k=aj d):gO (.ref p) y G R=R d G:=by
 have:gO (.ref p) y G R=L2.acO (.ref p) y G R:=by
  cases y with
  |tup ds=>exact nomatch (show aq=aj k from hk)
  |_=>rfl
 rw[this];unfold L2.acO;rw[aoG h hk ht];simp only[e]
def aA0{t:Bool}{k:DK}(h:G p=aj (.jX t kvs))(hk:a9N y=aj k)(ht:yP k=t)(e:nH kvs k=aj d):gO (.ref p) y G R=R d G:=au2 (aoH h) hk ht e
end
end L8
namespace L9
open PySem PySem.Spec PyProof.Rows L2 L4 L5 L6 L7 L8
section
variable{F:cR}{p:bx}
@[simp]def ky(a p:Int):List Key:=[.inl a,.inl p]
def aHO{t:Bool}:acV t tk tv ρ G R=∀p,G p=aq->tk ρ (aM G p (.jX t [])) λy G1=>tv ρ G1 λv G2=>qP (.ref p) y G2 λa t' kvs k=>kvs.length<dh/\R (.ref p) (aM G2 a (.jX t' (zR kvs k v))):=rfl
def a1B{i:Int}:a9N (.int i)=aj (.inl (.inl i)):=rfl
def aA1{t:Bool}{k:DK}{kvs:List (DK×D)}(h:G p=aj (.jX t kvs))(hk:a9N y=aj k)(ht:yP k=t)(hl:kvs.length<dh):afA (.ref p) y v F ρ G=F.nx ρ (aM G p (.jX t (zR kvs k v))):=by
 unfold L2.afA;rw[a7R h hk ht];exact propext ⟨λw=>w.2,λw=>⟨hl,w⟩⟩
end
end L9
namespace L10
open PySem PySem.Spec PyProof.Rows L2 L4 L5 L6
section
variable{ρ:aN}{G:Gp}{F:cR}{al:Bool}{kvs:List (DK×D)}{tg:TG3}{tb:bC}
def aoI:mJ al to ρ G Q=to ρ G λx G1=>a7E al x G1 Q:=rfl
def aA2(h:G p=aj (.jX ao kvs)):a7E al (.ref p) G Q=∀od,Q (.itm p od kvs) (aM G p (.rdc od ao kvs)):=by
 unfold L2.a7E;simp only[h]
abbrev aCI(src:Src)(tg:TG3)(tb:bC)(F:cR)(ρ:aN)(G1:Gp):Prop:=∃P:Nat->aN->Gp->Prop,P 0 ρ G1/\(∀k ρ G,k<=src.items.length->P k ρ G->src.ok G) /\
 (∀k d ρ G,src.items[k]?=aj d->P k ρ G->tg d ρ λρ2=>tb {F with nx:=P (k+1),ct:=P (k+1),bk:=λρ G=>src.ok G/\F.nx ρ (src.aiM G)} ρ2 G)/\∀ρ G,P src.items.length ρ G->F.nx ρ (src.aiM G)
def aHP{ti:TI3}:a5Y ti tg tb F ρ G=ti ρ G λsrc G1=>aCI src tg tb F ρ G1:=rfl
def a7S{α β:Type}{f:α->β}{l:List α}{k:Nat}{d:β}(h:(l.map f)[k]?=aj d):∃q,l[k]?=aj q/\f q=d:=by
 rw[kj]at h;cases e:l[k]? with
 |none=>rw[e]at h;cases h
 |some q=>rw[e]at h;exact⟨q,rfl,jd.inj h⟩
def au3(P:Nat->aN->Gp->Prop)(h0:P 0 ρ G)(hs:∀k ρ G,P k ρ G->G p=aj (.rdc od ao kvs))
  (hb:∀k q ρ G,kvs[k]?=aj q->P k ρ G->tg (.tup [dkD q.1,q.2]) ρ λρ2=>tb {F with nx:=P (k+1),ct:=P (k+1),bk:=λρ G=>G p=aj (.rdc od ao kvs)/\F.nx ρ (aM G p (.jX ao kvs))} ρ2 G)
  (he:∀ρ G,P kvs.length ρ G->F.nx ρ (aM G p (.jX ao kvs))):aCI (.itm p od kvs) tg tb F ρ G :=
 ⟨P,h0,λk ρ G _ q=>hs k ρ G q,λk d ρ G e q=>by obtain⟨z,e1,rfl⟩:=a7S e;exact hb k z ρ G e1 q,λρ G q=>he ρ G (by simpa[Src.items]using q)⟩
end
end L10
namespace L11
open PySem PySem.Spec PyProof.Rows L2 L4 L5 L6
abbrev au4(xs:List D)(G1:Gp)(R:Src->Gp->Prop):Prop:=match xs with
 |[.tup ds]=>ds.all scD=ak/\∀a,(G1 a=aq∨G1 a=aj (.tpl ds))->R (.enu a ds) (aM G1 a (.tpl ds))
 |[.ref a]=>∃ds,aQ G1 a=aj ds/\R (.enl a ds) G1
 |_=>False
variable{ns:List Int}
section
variable{F:cR}{xs:List D}{tg:TG3}
def au5:a3I ta ρ G Q=ta ρ G λxs G1=>au4 xs G1 Q:=rfl
def aA3(ns:List Int):(ns.map D.int).all scD=ak:=by
 rw[jl];rintro d hd;obtain⟨n,_,rfl⟩:=iw.mp hd;rfl
def au6(h:G a=aq∨G a=aj (.tpl xs)):Le G (aM G a (.tpl xs)):=λb u e=>by
 by_cases c:b=a
 .subst c;rcases h with h|h
  .rw[h]at e;cases e
  .rw[aG];rw[h]at e;exact e
 .rw[bJ c];exact e
def au7(h:∀a,(G a=aq∨G a=aj (.tpl (ns.map D.int)))->Q (.enu a (ns.map D.int)) (aM G a (.tpl (ns.map D.int)))):au4 [.tup (ns.map D.int)] G Q:=⟨aA3 ns,h⟩
def aoJ(hs:xs.all scD=ak)(h:∀a,(G a=aq∨G a=aj (.tpl xs))->Q (.tpl a xs) (aM G a (.tpl xs))):alG (.tup xs) G Q:=⟨hs,h⟩
def au8(P:Nat->aN->Gp->Prop)(h0:P 0 ρ G)(hs:∀k ρ G,P k ρ G->G p=aj (.tpl xs))
  (hb:∀k d ρ G,xs[k]?=aj d->P k ρ G->tg d ρ λρ2=>tb {F with nx:=P (k+1),ct:=P (k+1),bk:=F.nx} ρ2 G)(he:∀ρ G,P xs.length ρ G->F.nx ρ G):abA (.tpl p xs) tg tb F ρ G :=
 ⟨P,h0,λk ρ G _ q=>hs k ρ G q,λk d ρ G e q=>hb k d ρ G e q,λρ G q=>he ρ G q⟩
def au9(P:Nat->aN->Gp->Prop)(h0:P 0 ρ G)(hs:∀k ρ G,P k ρ G->G p=aj (.tpl xs))
  (hb:∀k d ρ G,xs[k]?=aj d->P k ρ G->tg (.tup [.int k,d]) ρ λρ2=>tb {F with nx:=P (k+1),ct:=P (k+1),bk:=F.nx} ρ2 G)(he:∀ρ G,P xs.length ρ G->F.nx ρ G):abA (.enu p xs) tg tb F ρ G:=by
 refine⟨P,h0,λk ρ G _ q=>hs k ρ G q,λk d ρ G e q=>?_,λρ G q=>he ρ G (by rw[←a0U];exact q)⟩
 have hk:k<xs.length:=by
  have:=(fj.mp e).1;rw[show(Src.enu p xs).items=enm xs from rfl,a0U]at this;exact this
 have e2:=acW (cg hk);rw[show(Src.enu p xs).items=enm xs from rfl,e2]at e;cases e;exact hb k _ ρ G (cg hk) q
def alK{a b:Int}{ms:List Int}(h1:ltP b ms a ns=ak->R (.tup [.int b,.tup (ms.map D.int)]) G)(h2:ltP b ms a ns=ao->R (.tup [.int a,.tup (ns.map D.int)]) G):acX [.tup [.int a,.tup (ns.map D.int)],.tup [.int b,.tup (ms.map D.int)]] G R:=by
 refine⟨a,b,ns,ms,rfl,?_⟩;cases e:ltP b ms a ns with
 |true=>exact h1 e
 |false=>exact h2 e
def aMY{a b:Int}(h:ltP b ms a ns=ak):b<=a:=by
 unfold L2.ltP at h;split at h
 .omega
 .have:=of_decide_eq_true h;omega
def aMZ{a b:Int}(h:ltP b ms a ns=ao):a<=b:=by
 unfold L2.ltP at h;split at h
 .omega
 .have:=of_decide_eq_false h;omega
end
end L11
namespace L12
open PySem PySem.Spec PyProof.Rows L2 L4 L5 L6
section
end
end L12
namespace L14
open PySem PySem.Spec PyProof.Rows L2 L4 L5 L6
variable{q:Int×Int}{kvs:List (List Int×D)}{n:List Int}
section
variable{ρ:aN}{F:cR}{R:eV}
def aHQ:a7G to ti tv F ρ G=tv ρ G λv G1=>to ρ G1 λx G2=>ti ρ G2 λy G3=>ao4 x y v F ρ G3:=rfl
abbrev ent(q:Int×Int):List Int×D:=([q.1,q.2],.bl ak)
abbrev setG(M:List (Int×Int)):GO:=.qL (M.map ent)
abbrev nP(M:List (Int×Int))(q:Int×Int):List (Int×Int):=if q∈M then M else M++[q]
def aj0{r:Int×Int}(h:[q.1,q.2]=[r.1,r.2]):q=r:=by
 injection h with h1 h2;injection h2 with h2;exact Prod.ext h1 h2
def aj1{q:Int×Int}:∀{M:List (Int×Int)},((M.map ent).lookup [q.1,q.2]).isSome=decide (q∈M)
 |[]=>rfl
 |r::M=>by
  rw[nj,ent,lg];by_cases c:q=r
  .subst c;simp
  .rw[show([q.1,q.2]==[r.1,r.2])=ao from beq_eq_false_iff_ne.mpr λe=>c (aj0 e)];show((M.map ent).lookup [q.1,q.2]).isSome=_;rw[aj1];simp[c]
def alL{M:List (Int×Int)}:a3D (M.map ent) [q.1,q.2] (.bl ak)=(nP M q).map ent:=by
 unfold a3D nP;rw[aj1];by_cases c:q∈M
 .rw[if_pos (decide_eq_true c),if_pos c,jz];refine vp λr _=>?_;show(if(ent r).1=[q.1,q.2]then((ent r).1,D.bl ak)else ent r)=ent r;split<;>rfl
 .rw[if_neg (by simpa using c),if_neg c,mq];rfl
def aA4{i j:Int}(h:G p=aj (setG M))(k:R (.bl (decide ((i,j)∈M))) G):af9 (.tup [.int i,.int j]) (.ref p) G R:=by
 show(match G p with
  |some (.qL kvs)=>∃n:List Int,[D.int i,.int j]=n.map D.int/\R (.bl (kvs.lookup n).isSome) G
  |_=>False)
 rw[h];refine⟨[i,j],rfl,?_⟩;rw[aj1 (q:=(i,j))];exact k
def aA5{M:List (Int×Int)}{i j:Int}(h:G p=aj (setG M))(hl:M.length<1000000)(k:F.nx ρ (aM G p (setG (nP M (i,j))))):ao4 (.ref p) (.tup [.int i,.int j]) (.bl ak) F ρ G :=
 ⟨[i,j],_,rfl,h,.inr ⟨ak,rfl⟩,by rw[gj];exact hl,by rw[alL (q:=(i,j))];exact k⟩
def aoK{M:List (Int×Int)}(h:G p=aj (setG M))(hl:M.length<=dh)(k:∀l,G l=aq->R (.ref l) (aM G l (.lst (M.map λq=>.tup [.int q.1,.int q.2])))):a0T [.ref p] G R:=by
 refine⟨_,h,by rw[gj];exact hl,λl hl=>?_⟩;have:=k l hl;rw[jz];exact this
def ag3:∀{M N:List (Int×Int)},foldM (N.map ent) (M.map ent)=(M.foldl nP N).map ent
 |[],N=>rfl
 |q::M,N=>by
  show foldM (a3D (N.map ent) (ent q).1 (ent q).2) (M.map ent)=_;rw[show a3D (N.map ent) (ent q).1 (ent q).2=(nP N q).map ent from alL,ag3];rfl
def aoL{M:List (Int×Int)}(h:aQ G p=aj (M.map λq=>.tup [.tup [.int q.1,.int q.2],.bl ak]))(k:∀r,G r=aq->R (.ref r) (aM G r (setG (M.foldl nP [])))):xT [.ref p] G R:=by
 refine⟨M.map ent,?_,λz hz=>?_,λr hr=>?_⟩
 .rw[jz];exact h
 .obtain⟨q,_,rfl⟩:=iw.mp hz;exact .inr ⟨ak,rfl⟩
 .have:=ag3 (M:=M) (N:=[]);rw[a0k]at this;rw[this];exact k r hr
private theorem ag4:r∈nP M q↔r∈M∨r=q:=by
 unfold nP;split
 ·rename_i h;exact⟨.inl,λz=>z.elim id λz=>z ▸ h⟩
 .simp
def ag5:∀{M N:List (Int×Int)},r∈M.foldl nP N↔r∈N∨r∈M
 |[],N=>by simp
 |q::M,N=>by
  rw[a0s,ag5,ag4,iy,or_assoc]
def auA(M:List (Int×Int))(q:Int×Int):(nP M q).length<=M.length+1:=by
 unfold nP;split<;>simp
private theorem aj2{M:List (Int×Int)}(h:M.Nodup):(nP M q).Nodup:=by
 unfold nP;split
 ·exact h
 .rename_i c;exact a1n.mpr ⟨h,by simp,λa ha b hb=>by rw[qx.mp hb];exact λe=>c (e ▸ ha)⟩
def aj3(h:G p=aj (.qL kvs))(e:kvs.lookup n=aj d)(k:R d G):gO (.ref p) (.tup (n.map D.int)) G R:=by
 show(match G p with
  |some (.qL kvs)=>∃(m:List Int)(d:D),n.map D.int=m.map D.int/\kvs.lookup m=aj d/\R d G
  |_=>False)
 rw[h];exact⟨n,d,rfl,e,k⟩
abbrev aHR(x:D)(T:bx)(c:qQ)(ix:Nat)(sp:fU)(ρ:aN)(G1:Gp)(R:eV):Prop:=∃l ds dx,x=.ref l/\aQ G1 l=aj ds/\ds.length<64/\at3 ρ ix=aj dx/\G1 T=aj (.tab c.qual c.pos)/\vR sp dx (λks G2=>a3J ds ks G2 R) ds [] G1
def aA6{ix:Nat}:acY te T c ix sp ρ G R=te ρ G λx G1=>aHR x T c ix sp ρ G1 R:=rfl
def auB(hp:aQ G p=aj xs)(h:Q (.enl p xs) G):L11.au4 [.ref p] G Q:=⟨xs,hp,h⟩
def alM(f:D->D):∀(ds ks:List D)(G:Gp),(∀d∈ds,∀G',Le G G'->∀R:eV,(∀G'',Le G' G''->R (f d) G'')->sp [dx,d] G' R (λ_ _=>False))->(∀G',Le G G'->C (ks++ds.map f) G')->vR sp dx C ds ks G
 |[],ks,G,_,h=>by
  have:=h G (.refl G);rw[a0k,ud]at this;exact this
 |d::ds,ks,G,hk,h=>hk d (rm ..) G (.refl G) _ λG1 l1=>alM f ds (ks++[f d]) G1 (λe he G' l=>hk e (jo _ he) G' (l1.trans l)) λG' l=>by
   have:=h G' (l1.trans l);simpa using this
def aHS(h:G p=aj (.qL kvs))(hl:kvs.length<1000000)(z:R (.int kvs.length) G):a3F [.ref p] G R:=by
 unfold L2.a3F;simp only[h];exact⟨hl,z⟩
def auC(h:G p=aj (.qL kvs))(z:R (.bl (!(kvs.lookup n).isSome)) G):a3A (.tup (n.map D.int)) (.ref p) G R:=⟨kvs,n,h,rfl,z⟩
end
end L14
namespace Law
open PySem PySem.Spec PyProof.Rows L2 L4 PySem.W
abbrev top(i:Nat):lq:=PySem.Challenge.pw_depot_k75_whole_errands.main.body.getD i (.Pass ⟨0,0,0,0⟩)
@[simp]def a7T:lq:=top 7
@[simp]def abB:lq:=top 8
@[simp]def abC:lq:=top 11
@[simp]def a4F:lq:=top 12
@[simp]def ag6:lq:=top 13
@[simp]def abD:lq:=top 14
@[simp]def aCJ:lq:=top 15
@[simp]def a7U:lq:=top 17
@[simp]def oX:lq:=top 20
@[simp]def a7V:lq:=top 21
@[simp]def vZ:lq:=top 22
@[simp]def yS:lq:=top 23
@[simp]def uF:lq:=top 24
@[simp]def w5:lq:=top 25
@[simp]def alN:lq:=top 27
@[simp]def a7W:lq:=top 26
@[simp]def auD:lq:=top 28
@[simp]def ag7:lq:=top 29
@[simp]def uG:lq:=top 30
@[simp]def alO:lq:=top 31
@[simp]def f9:lq:=top 33
@[simp]def w6:lq:=top 35
@[simp]def a4G:lq:=top 36
@[simp]def a1C:lq:=top 37
@[simp]def a4H:lq:=top 38
@[simp]def a1D:lq:=top 39
@[simp]def a4I:lq:=top 40
@[simp]def a1E:lq:=top 41
@[simp]def a4J:lq:=top 42
@[simp]def a7X:lq:=top 43
@[simp]def wA:lq:=top 44
@[simp]def a7Y:lq:=top 45
@[simp]def yU:lq:=top 46
@[simp]def ag8:lq:=top 47
set_option genInjectivity false in
structure aX where
 a7Z:bx
 tE:jy
 abE:bx
 xW:jy
 abF:bx
 xX:jy
 a4K:bx
 oY:jy
 ag9:bx
 a1F:jy
 abG:bx
 xY:jy
 aCK:bx
 alP:jy
 a80:bx
 tG:jy
 oZ:bx
 fM:jy
 a81:bx
 tH:jy
 wB:bx
 jH:jy
 yV:bx
 lJ:jy
 uH:bx
 iD:jy
 wC:bx
 jJ:jy
 alQ:bx
 a65:jy
 a82:bx
 tK:jy
 auE:bx
 ad9:jy
 agA:bx
 a1G:jy
 uI:bx
 iG:jy
 alR:bx
 a66:jy
 agB:bx
 wF:jy
 wG:bx
 jK:jy
 a4L:bx
 p7:jy
 a1H:bx
 mK:jy
 a4M:bx
 p8:jy
 a1I:bx
 mL:jy
 a4N:bx
 pA:jy
 a1J:bx
 mQ:jy
 a4O:bx
 pB:jy
 a83:bx
 tL:jy
 wH:bx
 jL:jy
 a84:bx
 tM:jy
 yW:bx
 lK:jy
 a85:bx
 aCL:jy
 dH:bx
 a1K:bx
abbrev wI(base:jf)(mg:Str->Option bh)(A:aX):Prop:=base.BuiltinsAt mg A.dH/\CodeHd base A.a1K A.dH
abbrev tO(K:Fg)(A:aX)(ex:aN->aV):bC :=
  (bM (nF (cJ (aJ K) (aB (aA 0) (aB (aR (.ty "int")) aC))) (nF (a6U (cJ (aJ K) (aB (aA 0) (aB (aR (.ty "bool")) aC)))) (oO anL anL (aA 1) (aA 0) (aA 2)))))
abbrev dI(K:Fg)(A:aX):fU:=uE 3 3 λEX=>tO K A (λ_=>EX)
abbrev aj4:CB:=(.cons (.ret (.afQ (.cons (.call 1 (.cons (.var 0) (.cons (.glo 0) .nil))) (.cons (.asL (.call 1 (.cons (.var 0) (.cons (.glo 2) .nil)))) (.cons (.chain .LtE .LtE (.var 1) (.var 0) (.var 2)) .nil))))) .nil)
abbrev aj5(K:Fg)(A:aX):SI:=⟨["thing","least","most"],[ak,ak,ak],[ak,ak,ak],[ao,ao,ao],[("int",.bt "int"),("isinstance",.bf .isi),("bool",.bt "bool")],[ak,ak,ak],ak,ao⟩
abbrev a4P(K:Fg)(A:aX)(ex:aN->aV):bC :=
  (bM (nF (aU (dI K A) ex (aB (aD bA (aA 0) (aR (.int 0))) (aB (aR (.int 0)) (aB (aD jW (aA 1) (aR (.int 1))) aC)))) (aU (dI K A) ex (aB (aD bA (aA 0) (aR (.int 1))) (aB (aA 2) (aB (aA 3) aC))))))
abbrev qU(K:Fg)(A:aX)(ex:aN->aV):bC :=
  aH (cA (pR (j8 (aK (cJ (aJ K) (aB (aA 0) (aB (aR (.ty "tuple")) aC))))) (aK (aD jA (cJ dO (aB (aA 0) aC)) (aR (.int 2))))) (bM (aR (.bl ao))) bL) (a4P K A ex)
abbrev kY(K:Fg)(A:aX):fU:=uE 4 4 λEX=>qU K A (λ_=>EX)
abbrev aoM:CB:=(.cons (.ifs (.or (.cons (.not (.val (.call 1 (.cons (.var 0) (.cons (.glo 0) .nil))))) (.cons (.cmp .NotEq (.call 2 (.cons (.var 0) .nil)) (.con (.int 2))) .nil))) (.cons (.ret (.con (.bl ao))) .nil) .nil) (.cons (.ret (.afQ (.cons (.call 3 (.cons (.ix (.var 0) (.con (.int 0))) (.cons (.con (.int 0)) (.cons (.bin .Sub (.var 1) (.con (.int 1))) .nil)))) (.cons (.call 3 (.cons (.ix (.var 0) (.con (.int 1))) (.cons (.var 2) (.cons (.var 3) .nil)))) .nil)))) .nil))
abbrev aoN(K:Fg)(A:aX):SI:=⟨["thing","aisles","first","last"],[ak,ak,ak,ak],[ak,ak,ak,ak],[ao,ao,ao,ao],[("tuple",.bt "tuple"),("isinstance",.bf .isi),("len",.bf .len),("is_whole",.fn (dI K A) 3 ao)],[ak,ak,ak,ak],ak,ao⟩
abbrev a4Q(K:Fg)(A:aX)(ex:aN->aV):bC :=
  (bM (aU (dI K A) ex (aB (aD bA (aA 0) (aR (.int 2))) (aB (aR (.int 1)) (aB (aR (.int 20)) aC)))))
abbrev a4R(K:Fg)(A:aX)(ex:aN->aV):bC :=
  aH (cA (pR (j8 (aK (aU (dI K A) ex (aB (aD bA (aA 0) (aR (.int 0))) (aB (aR (.int 1)) (aB (aR (.int 26)) aC)))))) (j8 (aK (aU (dI K A) ex (aB (aD bA (aA 0) (aR (.int 1))) (aB (aR (.int 1)) (aB (aR (.int 99)) aC))))))) (bM (aR (.bl ao))) bL) (a4Q K A ex)
abbrev qW(K:Fg)(A:aX)(ex:aN->aV):bC :=
  aH (cA (pR (j8 (aK (cJ (aJ K) (aB (aA 0) (aB (aR (.ty "tuple")) aC))))) (aK (aD jA (cJ dO (aB (aA 0) aC)) (aR (.int 3))))) (bM (aR (.bl ao))) bL) (a4R K A ex)
abbrev tQ(K:Fg)(A:aX):fU:=uE 1 1 λEX=>qW K A (λ_=>EX)
abbrev aoO:CB:=(.cons (.ifs (.or (.cons (.not (.val (.call 1 (.cons (.var 0) (.cons (.glo 0) .nil))))) (.cons (.cmp .NotEq (.call 2 (.cons (.var 0) .nil)) (.con (.int 3))) .nil))) (.cons (.ret (.con (.bl ao))) .nil) .nil) (.cons (.ifs (.or (.cons (.not (.val (.call 4 (.cons (.ix (.var 0) (.con (.int 0))) (.cons (.con (.int 1)) (.cons (.glo 3) .nil)))))) (.cons (.not (.val (.call 4 (.cons (.ix (.var 0) (.con (.int 1))) (.cons (.con (.int 1)) (.cons (.glo 5) .nil)))))) .nil))) (.cons (.ret (.con (.bl ao))) .nil) .nil) (.cons (.ret (.call 4 (.cons (.ix (.var 0) (.con (.int 2))) (.cons (.con (.int 1)) (.cons (.glo 6) .nil))))) .nil)))
abbrev aoP(K:Fg)(A:aX):SI:=⟨["thing"],[ak],[ak],[ao],[("tuple",.bt "tuple"),("isinstance",.bf .isi),("len",.bf .len),("MOST_AISLES",.con (.int 26)),("is_whole",.fn (dI K A) 3 ao),("MOST_PLACES",.con (.int 99)),("MOST_GAP",.con (.int 20))],[ak,ak,ak,ak,ak,ak,ak],ak,ao⟩
abbrev wJ(K:Fg)(A:aX)(ex:aN->aV):bC :=
  (cA (j8 (aK (aU (tQ K A) ex (aB (aA 0) aC)))) afS bL)
abbrev bU(K:Fg)(A:aX):fU:=uE 1 1 λEX=>wJ K A (λ_=>EX)
abbrev agC:CB:=(.cons (.ifs (.not (.val (.call 0 (.cons (.var 0) .nil)))) (.cons .ao7 .nil) .nil) .nil)
abbrev agD(K:Fg)(A:aX):SI:=⟨["plan"],[ak],[ak],[ao],[("is_plan",.fn (tQ K A) 1 ao)],[ak],ak,ao⟩
abbrev a86(K:Fg)(A:aX)(ex:aN->aV):bC :=
  (bM (aU (kY K A) ex (aB (aA 1) (aB (aD bA (aA 0) (aR (.int 0))) (aB (aR (.int 1)) (aB (aD bA (aA 0) (aR (.int 1))) aC))))))
abbrev a87(K:Fg)(A:aX)(ex:aN->aV):bC :=
  aH (d8 (aU (bU K A) ex (aB (aA 0) aC))) (a86 K A ex)
abbrev xZ(K:Fg)(A:aX):fU:=uE 2 2 λEX=>a87 K A (λ_=>EX)
abbrev auF:CB:=(.cons (.expr (.call 0 (.cons (.var 0) .nil))) (.cons (.ret (.call 1 (.cons (.var 1) (.cons (.ix (.var 0) (.con (.int 0))) (.cons (.con (.int 1)) (.cons (.ix (.var 0) (.con (.int 1))) .nil)))))) .nil))
abbrev auG(K:Fg)(A:aX):SI:=⟨["plan","thing"],[ak,ak],[ak,ak],[ao,ao],[("need_plan",.fn (bU K A) 1 ao),("is_pair",.fn (kY K A) 4 ao)],[ak,ak],ak,ao⟩
abbrev a4S(K:Fg)(A:aX)(ex:aN->aV):bC :=
  (bM (aU (kY K A) ex (aB (aA 1) (aB (aD bA (aA 0) (aR (.int 0))) (aB (aR (.int 0)) (aB (aD cB (aD bA (aA 0) (aR (.int 1))) (aR (.int 1))) aC))))))
abbrev a3L(K:Fg)(A:aX)(ex:aN->aV):bC :=
  aH (d8 (aU (bU K A) ex (aB (aA 0) aC))) (a4S K A ex)
abbrev nQ(K:Fg)(A:aX):fU:=uE 2 2 λEX=>a3L K A (λ_=>EX)
abbrev aoQ:CB:=(.cons (.expr (.call 0 (.cons (.var 0) .nil))) (.cons (.ret (.call 1 (.cons (.var 1) (.cons (.ix (.var 0) (.con (.int 0))) (.cons (.con (.int 0)) (.cons (.bin .Add (.ix (.var 0) (.con (.int 1))) (.con (.int 1))) .nil)))))) .nil))
abbrev aoR(K:Fg)(A:aX):SI:=⟨["plan","thing"],[ak,ak],[ak,ak],[ao,ao],[("need_plan",.fn (bU K A) 1 ao),("is_pair",.fn (kY K A) 4 ao)],[ak,ak],ak,ao⟩
abbrev alS(K:Fg)(A:aX)(ex:aN->aV):bC :=
  (bM (aD cB (aD oR (aD bA (aA 0) (aR (.int 2))) (cJ aaN (aB (aD jW (aD bA (aA 1) (aR (.int 0))) (aD bA (aA 2) (aR (.int 0)))) aC))) (cJ vN (aB (aA 3) (aB (aA 4) aC)))))
abbrev alT(K:Fg)(A:aX)(ex:aN->aV):bC :=
  aH (bF 4 (aD jW (aD oR (aR (.int 2)) (aD cB (aD bA (aA 0) (aR (.int 1))) (aR (.int 1)))) (aA 3))) (alS K A ex)
abbrev alU(K:Fg)(A:aX)(ex:aN->aV):bC :=
  aH (bF 3 (aD cB (aD bA (aA 1) (aR (.int 1))) (aD bA (aA 2) (aR (.int 1))))) (alT K A ex)
abbrev alV(K:Fg)(A:aX)(ex:aN->aV):bC :=
  aH (cA (aK (aD j5 (aD bA (aA 1) (aR (.int 0))) (aD bA (aA 2) (aR (.int 0))))) (bM (cJ aaN (aB (aD jW (aD bA (aA 1) (aR (.int 1))) (aD bA (aA 2) (aR (.int 1)))) aC))) bL) (alU K A ex)
abbrev auH(K:Fg)(A:aX)(ex:aN->aV):bC :=
  aH (cA (pR (j8 (aK (aU (nQ K A) ex (aB (aA 0) (aB (aA 1) aC))))) (j8 (aK (aU (nQ K A) ex (aB (aA 0) (aB (aA 2) aC)))))) afS bL) (alV K A ex)
abbrev adA(K:Fg)(A:aX):fU:=uE 5 3 λEX=>auH K A (λ_=>EX)
abbrev aN0:CB:=(.cons (.ifs (.or (.cons (.not (.val (.call 0 (.cons (.var 0) (.cons (.var 1) .nil))))) (.cons (.not (.val (.call 0 (.cons (.var 0) (.cons (.var 2) .nil))))) .nil))) (.cons .ao7 .nil) .nil) (.cons (.ifs (.cmp .Eq (.ix (.var 1) (.con (.int 0))) (.ix (.var 2) (.con (.int 0)))) (.cons (.ret (.call 1 (.cons (.bin .Sub (.ix (.var 1) (.con (.int 1))) (.ix (.var 2) (.con (.int 1)))) .nil))) .nil) .nil) (.cons (.set 3 (.bin .Add (.ix (.var 1) (.con (.int 1))) (.ix (.var 2) (.con (.int 1))))) (.cons (.set 4 (.bin .Sub (.bin .Mult (.con (.int 2)) (.bin .Add (.ix (.var 0) (.con (.int 1))) (.con (.int 1)))) (.var 3))) (.cons (.ret (.bin .Add (.bin .Mult (.ix (.var 0) (.con (.int 2))) (.call 1 (.cons (.bin .Sub (.ix (.var 1) (.con (.int 0))) (.ix (.var 2) (.con (.int 0)))) .nil))) (.call 2 (.cons (.var 3) (.cons (.var 4) .nil))))) .nil)))))
abbrev aN1(K:Fg)(A:aX):SI:=⟨["plan","one","other","by_front","by_back"],[ak,ak,ak,ak,ak],[ak,ak,ak,ak,ak],[ao,ao,ao,ao,ao],[("is_spot",.fn (nQ K A) 2 ao),("abs",.bf .abs),("min",.bf .min)],[ak,ak,ak],ak,ao⟩
abbrev zV(K:Fg)(A:aX)(ex:aN->aV):bC :=
  (cA (j8 (aK (aU (xZ K A) ex (aB (aA 0) (aB (aA 1) aC))))) afS bL)
abbrev pC(K:Fg)(A:aX):fU:=uE 2 2 λEX=>zV K A (λ_=>EX)
abbrev aj6:CB:=(.cons (.ifs (.not (.val (.call 0 (.cons (.var 0) (.cons (.var 1) .nil))))) (.cons .ao7 .nil) .nil) .nil)
abbrev aj7(K:Fg)(A:aX):SI:=⟨["plan","thing"],[ak,ak],[ak,ak],[ao,ao],[("is_bin",.fn (xZ K A) 2 ao)],[ak],ak,ao⟩
abbrev lR(K:Fg)(A:aX)(ex:aN->aV):bC :=
  (d8 (tM3 "list" dR (aD bA (aA 2) (aA 3)) (aB (aA 4) aC)))
abbrev m7(K:Fg)(A:aX)(ex:aN->aV):bC :=
  (bM (aA 2))
abbrev gP(K:Fg)(A:aX)(ex:aN->aV):bC :=
  aH (eN (a77 (aA 0)) (vM [3,4]) (lR K A ex)) (m7 K A ex)
abbrev gQ(K:Fg)(A:aX)(ex:aN->aV):bC :=
  aH (a4C 3 (bF 2 (vL (lW (aB (aD cB (aA 1) (aR (.int 1))) aC)) gM (eF aC)))) (gP K A ex)
abbrev jM(K:Fg)(A:aX)(ex:aN->aV):bC :=
  aH (a4C 3 (a4C 4 (bF 1 (akV (mH 2 (lV (aA 0)) gM (aA 0)) (aaL (aR (.int 1))))))) (gQ K A ex)
abbrev eU(K:Fg)(A:aX):fU:=uE 5 1 λEX=>jM K A (λ_=>EX)
abbrev a1L:CB:=(.cons (.hid 3 "-" (.hid 4 "--" (.set 1 (.maxD 0 (.a0V 2 [ao,ao,ao,ao,ao] [ao,ao] (.any (.var 0)) .none (.var 0)) (.neg (.con (.int 1))))))) (.cons (.hid 3 "-" (.setC 2 [ao,ao,ao,ao,ao] [ao,ao] (.a3K (.bin .Add (.var 1) (.con (.int 1)))) .none (.lst .nil))) (.cons (.sZ (.any (.var 0)) (.tup [3,4]) (.cons (.expr (.meth .append (.ix (.var 2) (.var 3)) (.cons (.var 4) .nil))) .nil)) (.cons (.ret (.var 2)) .nil))))
abbrev a1M(K:Fg)(A:aX):SI:=⟨["bins","last","aisles","aisle","place"],[ak,ak,ak,ak,ak],[ak,ak,ak,ak,ak],[ao,ao,ao,ao,ao],[("max",.bf .max),("range",.bt "range")],[ak,ak],ak,ao⟩
abbrev zW(K:Fg)(A:aX)(ex:aN->aV):bC :=
  (bM (aqO (aK (aD j5 (aA 1) (aR (.int 0)))) (cJ zQ (aB (aA 0) aC)) (cJ vN (aB (aA 0) aC))))
abbrev iV(K:Fg)(A:aX):fU:=uE 2 2 λEX=>zW K A (λ_=>EX)
abbrev aj8:CB:=(.cons (.ret (.ifx (.cmp .Eq (.var 1) (.con (.int 0))) (.call 0 (.cons (.var 0) .nil)) (.call 1 (.cons (.var 0) .nil)))) .nil)
abbrev aj9(K:Fg)(A:aX):SI:=⟨["places","end"],[ak,ak],[ak,ak],[ao,ao],[("max",.bf .max),("min",.bf .min)],[ak,ak],ak,ao⟩
abbrev qX(K:Fg)(A:aX)(ex:aN->aV):bC :=
  (bM (aD oR (aR (.int 2)) (cJ aaN (aB (aD jW (aU (iV K A) ex (aB (aA 1) (aB (aA 2) aC))) (aA 2)) aC))))
abbrev qY(K:Fg)(A:aX)(ex:aN->aV):bC :=
  aH (cA (aK (aD j5 (cJ dO (aB (aA 1) aC)) (aR (.int 0)))) (bM (aR (.int 0))) bL) (qX K A ex)
abbrev nR(K:Fg)(A:aX)(ex:aN->aV):bC :=
  aH (cA (aK (aD jA (aA 3) (aA 2))) (bM (aD cB (aD bA (aA 0) (aR (.int 1))) (aR (.int 1)))) bL) (qY K A ex)
abbrev iH(K:Fg)(A:aX):fU:=uE 4 4 λEX=>nR K A (λ_=>EX)
abbrev a88:CB:=(.cons (.ifs (.cmp .NotEq (.var 3) (.var 2)) (.cons (.ret (.bin .Add (.ix (.var 0) (.con (.int 1))) (.con (.int 1)))) .nil) .nil) (.cons (.ifs (.cmp .Eq (.call 0 (.cons (.var 1) .nil)) (.con (.int 0))) (.cons (.ret (.con (.int 0))) .nil) .nil) (.cons (.ret (.bin .Mult (.con (.int 2)) (.call 2 (.cons (.bin .Sub (.call 1 (.cons (.var 1) (.cons (.var 2) .nil))) (.var 2)) .nil)))) .nil)))
abbrev a89(K:Fg)(A:aX):SI:=⟨["plan","places","end","goal"],[ak,ak,ak,ak],[ak,ak,ak,ak],[ao,ao,ao,ao],[("len",.bf .len),("farthest",.fn (iV K A) 2 ao),("abs",.bf .abs)],[ak,ak,ak],ak,ao⟩
abbrev m8(K:Fg)(A:aX)(ex:aN->aV):bC :=
  (acP (aA 3) (aA 6) (cJ acX (aB (a5X (aA 3) (aA 6) (aA 7)) (aB (aA 7) aC))))
abbrev jN(K:Fg)(A:aX)(ex:aN->aV):bC :=
  aH (bF 7 (cP (aB (aD cB (aD bA (aA 5) (aR (.int 0))) (aU (iH K A) ex (aB (aA 0) (aB (aA 1) (aB (aA 4) (aB (aA 6) aC)))))) (aB (aD cB (aD bA (aA 5) (aR (.int 1))) (cP (aB (aA 6) aC))) aC)))) (m8 K A ex)
abbrev qZ(K:Fg)(A:aX)(ex:aN->aV):bC :=
  (eN (a77 (cP (aB (aR (.int 0)) (aB (aD cB (aD bA (aA 0) (aR (.int 1))) (aR (.int 1))) aC)))) (fO 6) (jN K A ex))
abbrev uJ(K:Fg)(A:aX)(ex:aN->aV):bC :=
  (bM (aA 3))
abbrev uK(K:Fg)(A:aX)(ex:aN->aV):bC :=
  aH (a5Y (mJ ao (aA 2)) (vM [4,5]) (qZ K A ex)) (uJ K A ex)
abbrev pW(K:Fg)(A:aX)(ex:aN->aV):bC :=
  aH (bF 3 acE) (uK K A ex)
abbrev jO(K:Fg)(A:aX):fU:=uE 8 3 λEX=>pW K A (λ_=>EX)
abbrev a9S:CB:=(.cons (.set 3 .dct) (.cons (.az7 (.items (.var 2)) (.tup [4,5]) (.cons (.sZ (.any (.tup (.cons (.con (.int 0)) (.cons (.bin .Add (.ix (.var 0) (.con (.int 1))) (.con (.int 1))) .nil)))) (.nm 6) (.cons (.set 7 (.tup (.cons (.bin .Add (.ix (.var 5) (.con (.int 0))) (.call 0 (.cons (.var 0) (.cons (.var 1) (.cons (.var 4) (.cons (.var 6) .nil)))))) (.cons (.bin .Add (.ix (.var 5) (.con (.int 1))) (.tup (.cons (.var 6) .nil))) .nil)))) (.cons (.az8 (.var 3) (.var 6) (.call 1 (.cons (.dgt (.var 3) (.var 6) (.var 7)) (.cons (.var 7) .nil)))) .nil))) .nil)) (.cons (.ret (.var 3)) .nil)))
abbrev a9T(K:Fg)(A:aX):SI:=⟨["plan","places","ways","found","end","way","goal","one"],[ak,ak,ak,ak,ak,ak,ak,ak],[ak,ak,ak,ak,ak,ak,ak,ak],[ao,ao,ao,ao,ao,ao,ao,ao],[("steps_within",.fn (iH K A) 4 ao),("min",.bf .ayZ)],[ak,ak],ak,ao⟩
abbrev nU(K:Fg)(A:aX)(ex:aN->aV):bC :=
  (bF 2 (aU (jO K A) ex (aB (aA 0) (aB (aA 3) (aB (aA 2) aC)))))
abbrev pD(K:Fg)(A:aX)(ex:aN->aV):bC :=
  (bM (aD bA (aD gO (aA 2) (aR (.int 0))) (aR (.int 1))))
abbrev pF(K:Fg)(A:aX)(ex:aN->aV):bC :=
  aH (eN (a77 (aA 1)) (fO 3) (nU K A ex)) (pD K A ex)
abbrev lX(K:Fg)(A:aX)(ex:aN->aV):bC :=
  aH (bF 2 (acV ao (aR (.int 0)) (cP (aB (aR (.int 0)) (aB (cP aC) aC))))) (pF K A ex)
abbrev fY(K:Fg)(A:aX):fU:=uE 4 2 λEX=>lX K A (λ_=>EX)
abbrev a5G:CB:=(.cons (.set 2 (.az1 ao (.con (.int 0)) (.tup (.cons (.con (.int 0)) (.cons (.tup .nil) .nil))))) (.cons (.sZ (.any (.var 1)) (.nm 3) (.cons (.set 2 (.call 0 (.cons (.var 0) (.cons (.var 3) (.cons (.var 2) .nil))))) .nil)) (.cons (.ret (.ix (.dix (.var 2) (.con (.int 0))) (.con (.int 1)))) .nil)))
abbrev a5H(K:Fg)(A:aX):SI:=⟨["plan","aisles","ways","places"],[ak,ak,ak,ak],[ak,ak,ak,ak],[ao,ao,ao,ao],[("ways_behind",.fn (jO K A) 3 ao)],[ak],ak,ao⟩
abbrev rA(K:Fg)(A:aX)(ex:aN->aV):bC :=
  (bM (eF (aB (cP (aB (aA 0) (aB (aA 2) aC))) (aB (cP (aB (aA 0) (aB (aU (iV K A) ex (aB (aA 1) (aB (aA 2) aC))) aC))) (aB (cP (aB (aA 0) (aB (aA 2) aC))) aC)))))
abbrev rB(K:Fg)(A:aX)(ex:aN->aV):bC :=
  aH (cA (aK (aD j5 (cJ dO (aB (aA 1) aC)) (aR (.int 0)))) (bM (eF aC)) bL) (rA K A ex)
abbrev nW(K:Fg)(A:aX)(ex:aN->aV):bC :=
  aH (cA (aK (aD jA (aA 3) (aA 2))) (bM (eF (aB (cP (aB (aA 0) (aB (aA 2) aC))) (aB (cP (aB (aA 0) (aB (aA 3) aC))) aC)))) bL) (rB K A ex)
abbrev iI(K:Fg)(A:aX):fU:=uE 4 4 λEX=>nW K A (λ_=>EX)
abbrev a8A:CB:=(.cons (.ifs (.cmp .NotEq (.var 3) (.var 2)) (.cons (.ret (.lst (.cons (.tup (.cons (.var 0) (.cons (.var 2) .nil))) (.cons (.tup (.cons (.var 0) (.cons (.var 3) .nil))) .nil)))) .nil) .nil) (.cons (.ifs (.cmp .Eq (.call 0 (.cons (.var 1) .nil)) (.con (.int 0))) (.cons (.ret (.lst .nil)) .nil) .nil) (.cons (.ret (.lst (.cons (.tup (.cons (.var 0) (.cons (.var 2) .nil))) (.cons (.tup (.cons (.var 0) (.cons (.call 1 (.cons (.var 1) (.cons (.var 2) .nil))) .nil))) (.cons (.tup (.cons (.var 0) (.cons (.var 2) .nil))) .nil))))) .nil)))
abbrev a8B(K:Fg)(A:aX):SI:=⟨["aisle","places","end","goal"],[ak,ak,ak,ak],[ak,ak,ak,ak],[ao,ao,ao,ao],[("len",.bf .len),("farthest",.fn (iV K A) 2 ao)],[ak,ak],ak,ao⟩
abbrev adB(K:Fg)(A:aX)(ex:aN->aV):bC :=
  (cA (aK (aD jA (aD bA (aA 0) (aaL (aR (.int 1)))) (aA 1))) (d8 (tM3 "list" dR (aA 0) (aB (aA 1) aC))) bL)
abbrev wK(K:Fg)(A:aX):fU:=uE 2 2 λEX=>adB K A (λ_=>EX)
abbrev aA7:CB:=(.cons (.ifs (.cmp .NotEq (.ix (.var 0) (.neg (.con (.int 1)))) (.var 1)) (.cons (.expr (.meth .append (.var 0) (.cons (.var 1) .nil))) .nil) .nil) .nil)
abbrev aA8(K:Fg)(A:aX):SI:=⟨["spots","spot"],[ak,ak],[ak,ak],[ao,ao],[],[],ak,ao⟩
abbrev nY(K:Fg)(A:aX)(ex:aN->aV):bC :=
  (d8 (aU (wK K A) ex (aB (aA 2) (aB (aA 6) aC))))
abbrev uL(K:Fg)(A:aX)(ex:aN->aV):bC :=
  (bF 3 (aA 5))
abbrev yX(K:Fg)(A:aX)(ex:aN->aV):bC :=
  aH (eN (a77 (aU (iI K A) ex (aB (aA 4) (aB (aD bA (aA 0) (aA 4)) (aB (aA 3) (aB (aA 5) aC)))))) (fO 6) (nY K A ex)) (uL K A ex)
abbrev a1N(K:Fg)(A:aX)(ex:aN->aV):bC :=
  (bM (aA 2))
abbrev a1O(K:Fg)(A:aX)(ex:aN->aV):bC :=
  aH (d8 (aU (wK K A) ex (aB (aA 2) (aB (aR (.tup [.int 0,.int 0])) aC)))) (a1N K A ex)
abbrev a1P(K:Fg)(A:aX)(ex:aN->aV):bC :=
  aH (eN (a3I (aB (aA 1) aC)) (vM [4,5]) (yX K A ex)) (a1O K A ex)
abbrev a1Q(K:Fg)(A:aX)(ex:aN->aV):bC :=
  aH (bF 3 (aR (.int 0))) (a1P K A ex)
abbrev zX(K:Fg)(A:aX)(ex:aN->aV):bC :=
  aH (bF 2 (eF (aB (aR (.tup [.int 0,.int 0])) aC))) (a1Q K A ex)
abbrev pG(K:Fg)(A:aX):fU:=uE 7 2 λEX=>zX K A (λ_=>EX)
abbrev ajA:CB:=(.cons (.set 2 (.lst (.cons (.glo 0) .nil))) (.cons (.set 3 (.con (.int 0))) (.cons (.sZ (.enu (.var 1)) (.tup [4,5]) (.cons (.sZ (.any (.call 2 (.cons (.var 4) (.cons (.ix (.var 0) (.var 4)) (.cons (.var 3) (.cons (.var 5) .nil)))))) (.nm 6) (.cons (.expr (.call 3 (.cons (.var 2) (.cons (.var 6) .nil)))) .nil)) (.cons (.set 3 (.var 5)) .nil))) (.cons (.expr (.call 3 (.cons (.var 2) (.cons (.glo 0) .nil)))) (.cons (.ret (.var 2)) .nil)))))
abbrev ajB(K:Fg)(A:aX):SI:=⟨["aisles","ends","spots","end","aisle","goal","spot"],[ak,ak,ak,ak,ak,ak,ak],[ak,ak,ak,ak,ak,ak,ak],[ao,ao,ao,ao,ao,ao,ao],[("DOOR",.con (.tup [.int 0,.int 0])),("enumerate",.bt "enumerate"),("spots_within",.fn (iI K A) 4 ao),("go_to",.fn (wK K A) 2 ao)],[ak,ak,ak,ak],ak,ao⟩
abbrev abH(K:Fg)(A:aX)(ex:aN->aV):bC :=
  (d8 (aU (pC K A) ex (aB (aA 0) (aB (aA 2) aC))))
abbrev agE(K:Fg)(A:aX)(ex:aN->aV):bC :=
  (bM (aU (pG K A) ex (aB (aA 3) (aB (aU (fY K A) ex (aB (aA 0) (aB (aA 3) aC))) aC))))
abbrev agF(K:Fg)(A:aX)(ex:aN->aV):bC :=
  aH (bF 3 (aU (eU K A) ex (aB (aA 1) aC))) (agE K A ex)
abbrev agG(K:Fg)(A:aX)(ex:aN->aV):bC :=
  aH (eN (a77 (aA 1)) (fO 2) (abH K A ex)) (agF K A ex)
abbrev ajC(K:Fg)(A:aX)(ex:aN->aV):bC :=
  aH (d8 (aU (bU K A) ex (aB (aA 0) aC))) (agG K A ex)
abbrev yC(K:Fg)(A:aX):fU:=uE 4 2 λEX=>ajC K A (λ_=>EX)
abbrev aHT:CB:=(.cons (.expr (.call 0 (.cons (.var 0) .nil))) (.cons (.sZ (.any (.var 1)) (.nm 2) (.cons (.expr (.call 1 (.cons (.var 0) (.cons (.var 2) .nil)))) .nil)) (.cons (.set 3 (.call 2 (.cons (.var 1) .nil))) (.cons (.ret (.call 4 (.cons (.var 3) (.cons (.call 3 (.cons (.var 0) (.cons (.var 3) .nil))) .nil)))) .nil))))
abbrev aHU(K:Fg)(A:aX):SI:=⟨["plan","bins","spot","aisles"],[ak,ak,ak,ak],[ak,ak,ak,ak],[ao,ao,ao,ao],[("need_plan",.fn (bU K A) 1 ao),("need_bin",.fn (pC K A) 2 ao),("places_by_aisle",.fn (eU K A) 1 ao),("shortest_ends",.fn (fY K A) 2 ao),("spots_by",.fn (pG K A) 2 ao)],[ak,ak,ak,ak,ak],ak,ao⟩
abbrev a8C(K:Fg)(A:aX)(ex:aN->aV):bC :=
  (bM (cJ akT (aB (mH 2 (a4B (aB (aA 1) (aB (a0J (aA 1) (a6W (aR (.int 1))) vG) aC))) gM (aU (adA K A) NoX (aB (aA 2) (aB (aA 0) (aB (aA 1) aC))))) aC)))
abbrev a8D(K:Fg)(A:aX)(ex:aN->aV):bC :=
  aH (d8 (aU (bU K A) ex (aB (aA 0) aC))) (a8C K A ex)
abbrev rC(K:Fg)(A:aX):fU:=uE 2 2 λEX=>a8D K A (λ_=>EX)
abbrev auI:CB:=(.cons (.expr (.call 0 (.cons (.var 0) .nil))) (.cons (.ret (.call 3 (.cons (.a0V 2 [ak,ao] [ao,ao,ak,ao] (.zip (.var 1) (.sl (.var 1) (.some (.con (.int 1))) .none)) .none (.call 2 (.cons (.var 2) (.cons (.var 0) (.cons (.var 1) .nil))))) .nil))) .nil))
abbrev auJ(K:Fg)(A:aX):SI:=⟨["plan","spots"],[ak,ak],[ao,ak],[ak,ao],[("need_plan",.fn (bU K A) 1 ao),("zip",.bt "zip"),("far",.fn (adA K A) 3 ao),("sum",.bf .sum)],[ak,ak,ao,ak],ak,ao⟩
abbrev jP(K:Fg)(A:aX)(ex:aN->aV):bC :=
  (bM (vL (a3G (aB (aD bA (aA 0) (aR (.int 1))) (aB (aD cB (aD bA (aA 1) (aR (.int 1))) (aA 2)) (aB (aA 2) aC)))) gM (cP (aB (aD bA (aA 1) (aR (.int 0))) (aB (aA 0) aC)))))
abbrev pH(K:Fg)(A:aX)(ex:aN->aV):bC :=
  aH (bF 2 (aqO (aK (aD a5E (aD bA (aA 0) (aR (.int 1))) (aD bA (aA 1) (aR (.int 1))))) (aR (.int 1)) (aaL (aR (.int 1))))) (jP K A ex)
abbrev lY(K:Fg)(A:aX)(ex:aN->aV):bC :=
  aH (cA (aK (aD jA (aD bA (aA 0) (aR (.int 0))) (aD bA (aA 1) (aR (.int 0))))) (bM (eF (aB (aA 0) (aB (aA 1) aC)))) bL) (pH K A ex)
abbrev fZ(K:Fg)(A:aX):fU:=uE 3 2 λEX=>lY K A (λ_=>EX)
abbrev a5I:CB:=(.cons (.ifs (.cmp .NotEq (.ix (.var 0) (.con (.int 0))) (.ix (.var 1) (.con (.int 0)))) (.cons (.ret (.lst (.cons (.var 0) (.cons (.var 1) .nil)))) .nil) .nil) (.cons (.set 2 (.ifx (.cmp .Lt (.ix (.var 0) (.con (.int 1))) (.ix (.var 1) (.con (.int 1)))) (.con (.int 1)) (.neg (.con (.int 1))))) (.cons (.ret (.comp [ak,ao,ao] [ao] (.aiO (.ix (.var 0) (.con (.int 1))) (.bin .Add (.ix (.var 1) (.con (.int 1))) (.var 2)) (.var 2)) .none (.tup (.cons (.ix (.var 1) (.con (.int 0))) (.cons (.var 0) .nil))))) .nil)))
abbrev a5J(K:Fg)(A:aX):SI:=⟨["one","other","step"],[ak,ak,ak],[ao,ak,ak],[ak,ao,ao],[("range",.bt "range")],[ak],ak,ao⟩
abbrev wL(K:Fg)(A:aX)(ex:aN->aV):bC :=
  (cA (aK (aD af9 (aA 7) (aA 3))) (a7G (aA 4) (aA 7) (aR (.bl ak))) bL)
abbrev a8E(K:Fg)(A:aX)(ex:aN->aV):bC :=
  (eN (a77 (aU (fZ K A) ex (aB (aA 5) (aB (aA 6) aC)))) (fO 7) (wL K A ex))
abbrev abI(K:Fg)(A:aX)(ex:aN->aV):bC :=
  (bM (cJ a0T (aB (aA 4) aC)))
abbrev abJ(K:Fg)(A:aX)(ex:aN->aV):bC :=
  aH (eN (a4B (aB (aA 1) (aB (a0J (aA 1) (a6W (aR (.int 1))) vG) aC))) (vM [5,6]) (a8E K A ex)) (abI K A ex)
abbrev abK(K:Fg)(A:aX)(ex:aN->aV):bC :=
  aH (bF 4 a0K) (abJ K A ex)
abbrev abL(K:Fg)(A:aX)(ex:aN->aV):bC :=
  aH (a4C 7 (bF 3 (cJ xT (aB (vL (lV (aA 2)) gM (cP (aB (aA 0) (aB (aR (.bl ak)) aC)))) aC)))) (abK K A ex)
abbrev adC(K:Fg)(A:aX)(ex:aN->aV):bC :=
  aH (d8 (aU (bU K A) ex (aB (aA 0) aC))) (abL K A ex)
abbrev a1R(K:Fg)(A:aX):fU:=uE 8 3 λEX=>adC K A (λ_=>EX)
abbrev aA9:CB:=(.cons (.expr (.call 0 (.cons (.var 0) .nil))) (.cons (.hid 7 "-" (.set 3 (.call 1 (.cons (.comp [ao,ao,ao,ao,ao,ao,ao,ao] [ao,ao,ao,ao,ao] (.any (.var 2)) .none (.tup (.cons (.var 0) (.cons (.con (.bl ak)) .nil)))) .nil)))) (.cons (.set 4 .asM) (.cons (.sZ (.zip (.var 1) (.sl (.var 1) (.some (.con (.int 1))) .none)) (.tup [5,6]) (.cons (.sZ (.any (.call 3 (.cons (.var 5) (.cons (.var 6) .nil)))) (.nm 7) (.cons (.ifs (.din ao (.var 7) (.var 3)) (.cons (.at5 (.var 4) (.var 7) (.con (.bl ak))) .nil) .nil) .nil)) .nil)) (.cons (.ret (.call 4 (.cons (.var 4) .nil))) .nil)))))
abbrev aAA(K:Fg)(A:aX):SI:=⟨["plan","spots","bins","wanted","met","one","other","spot"],[ak,ak,ak,ak,ak,ak,ak,ak],[ak,ak,ak,ak,ak,ak,ak,ak],[ao,ao,ao,ao,ao,ao,ao,ao],[("need_plan",.fn (bU K A) 1 ao),("dict",.bf .ab3),("zip",.bt "zip"),("spots_between",.fn (fZ K A) 2 ao),("list",.bf .afP)],[ak,ak,ak,ak,ak],ak,ao⟩
abbrev bY:qQ:=aGQ "errand" "turns" (inBody f9 4)
abbrev mR(K:Fg)(A:aX)(ex:aN->aV):cO :=
  (cP (aB (aD gO (aA 0) (aD bA (aA 1) (aR (.int 0)))) (aB (aD bA (aA 1) (aR (.int 1))) aC)))
abbrev gR(K:Fg)(A:aX):fU:=spL 2 2 (mR K A (λ_=>m6 λ_ _=>False))
abbrev a1S:CE:=(.tup (.cons (.dix (.fre 0) (.ix (.var 1) (.con (.int 0)))) (.cons (.ix (.var 1) (.con (.int 1))) .nil)))
abbrev a1T(K:Fg)(A:aX):SI:=⟨["turns","row"],[ao,ak],[ao,ak],[ak,ao],[],[],ak,ao⟩
abbrev a1U(K:Fg)(A:aX)(ex:aN->aV):bC :=
  (bF 4 (cJ xT (aB (mH 2 (a3I (aB (aU (a1R K A) ex (aB (aA 0) (aB (aA 3) (aB (aA 2) aC)))) aC)) gM (cP (aB (aA 1) (aB (aA 0) aC)))) aC)))
abbrev a1V(K:Fg)(A:aX)(ex:aN->aV):bC :=
  aH (bF 3 (aU (yC K A) ex (aB (aA 0) (aB (aA 2) aC)))) (a1U K A ex)
abbrev a1W(K:Fg)(A:aX)(ex:aN->aV):bC :=
  aH (bF 2 (vL (lV (aA 1)) gM (aD bA (aA 0) (aR (.int 0))))) (a1V K A ex)
abbrev a4T(K:Fg)(A:aX)(ex:aN->aV):bC :=
  aH (d8 (aU (bU K A) ex (aB (aA 0) aC))) (a1W K A ex)
abbrev a1X(K:Fg)(A:aX)(ex:aN->aV):bC :=
  aH (a4T K A ex) (bM (cP (aB (aA 3) (aB (acY (aA 1) A.dH bY 4 (gR K A)) aC))))
abbrev rD(K:Fg)(A:aX):fU:=uE 5 2 λEX=>a1X K A (λ_=>EX)
abbrev a8F:CB:=(.cons (.expr (.call 0 (.cons (.var 0) .nil))) (.cons (.setC 2 [ao,ao,ao,ao,ao] [ao,ao,ao,ao,ao] (.any (.var 1)) .none (.ix (.var 0) (.con (.int 0)))) (.cons (.set 3 (.call 1 (.cons (.var 0) (.cons (.var 2) .nil)))) (.cons (.set 4 (.call 4 (.cons (.a0V 2 [ao,ao,ao,ao,ao] [ao,ao,ao,ao,ao] (.enu (.call 3 (.cons (.var 0) (.cons (.var 3) (.cons (.var 2) .nil))))) .none (.tup (.cons (.var 1) (.cons (.var 0) .nil)))) .nil))) .nil))))
abbrev a8G:CE:=(.var 3)
abbrev a8H:CE:=(.var 1)
abbrev agH(K:Fg)(A:aX):SI:=⟨["plan","rows","bins","spots","turns"],[ak,ak,ak,ak,ak],[ak,ak,ak,ak,ao],[ao,ao,ao,ao,ak],[("need_plan",.fn (bU K A) 1 ao),("walk",.fn (yC K A) 2 ao),("enumerate",.bt "enumerate"),("stops",.fn (a1R K A) 3 ao),("dict",.bf .ab3)],[ak,ak,ak,ak,ak],ak,ao⟩
abbrev rE(K:Fg)(A:aX)(ex:aN->aV):bC :=
  (bM (aD eX (aD cB (aD oR (aA 2) (aA 2)) (aD oR (aR (.int 48271)) (aA 1))) (aR (.int 2147483629))))
abbrev rF(K:Fg)(A:aX)(ex:aN->aV):bC :=
  aH (bF 2 (aD eX (aD cB (aD oR (aD bA (aA 0) (aD eX (aA 1) (cJ dO (aB (aA 0) aC)))) (aR (.int 48271))) (aD oR (aA 1) (aR (.int 104729)))) (aR (.int 2147483647)))) (rE K A ex)
abbrev rG(K:Fg)(A:aX)(ex:aN->aV):bC :=
  aH (cA (aK (aD j5 (cJ dO (aB (aA 0) aC)) (aR (.int 0)))) (bM (aR (.int 0))) bL) (rF K A ex)
abbrev nZ(K:Fg)(A:aX)(ex:aN->aV):bC :=
  aH (cA (aK (aD a5E (aA 1) (cJ dO (aB (aA 0) aC)))) (bM (aD bA (aA 0) (aA 1))) bL) (rG K A ex)
abbrev bZ(K:Fg)(A:aX):fU:=uE 3 2 λEX=>nZ K A (λ_=>EX)
abbrev a8I:CB:=(.cons (.ifs (.cmp .Lt (.var 1) (.call 0 (.cons (.var 0) .nil))) (.cons (.ret (.ix (.var 0) (.var 1))) .nil) .nil) (.cons (.ifs (.cmp .Eq (.call 0 (.cons (.var 0) .nil)) (.con (.int 0))) (.cons (.ret (.con (.int 0))) .nil) .nil) (.cons (.set 2 (.bin .Mod (.bin .Add (.bin .Mult (.ix (.var 0) (.bin .Mod (.var 1) (.call 0 (.cons (.var 0) .nil)))) (.con (.int 48271))) (.bin .Mult (.var 1) (.con (.int 104729)))) (.con (.int 2147483647)))) (.cons (.ret (.bin .Mod (.bin .Add (.bin .Mult (.var 2) (.var 2)) (.bin .Mult (.con (.int 48271)) (.var 1))) (.con (.int 2147483629)))) .nil))))
abbrev a8J(K:Fg)(A:aX):SI:=⟨["_law_script","_law_k","_law_mixed"],[ak,ak,ak],[ak,ak,ak],[ao,ao,ao],[("len",.bf .len)],[ak],ak,ao⟩
abbrev pX(K:Fg)(A:aX)(ex:aN->aV):bC :=
  (bM (cP (aB (aA 2) (aB (aA 3) (aB (aD cB (aR (.int 1)) (aD eX (aU (bZ K A) ex (aB (aA 0) (aB (aR (.int 2)) aC))) (aR (.int 20)))) aC)))))
abbrev yZ(K:Fg)(A:aX)(ex:aN->aV):bC :=
  aH (cA (aK (aD j5 (aD eX (aD gK (aA 1) (aR (.int 9))) (aR (.int 4))) (aR (.int 1)))) (bF 3 (aD cB (aR (.int 1)) (aD eX (aD gK (aA 1) (aR (.int 36))) (aR (.int 99))))) bL) (pX K A ex)
abbrev z6(K:Fg)(A:aX)(ex:aN->aV):bC :=
  aH (bF 3 (aD cB (aR (.int 1)) (aD eX (aA 1) (aR (.int 9))))) (yZ K A ex)
abbrev pY(K:Fg)(A:aX)(ex:aN->aV):bC :=
  aH (bF 1 (aU (bZ K A) ex (aB (aA 0) (aB (aR (.int 1)) aC)))) (z6 K A ex)
abbrev z7(K:Fg)(A:aX)(ex:aN->aV):bC :=
  aH (cA (aK (aD j5 (aD eX (aD gK (aA 1) (aR (.int 6))) (aR (.int 6))) (aR (.int 1)))) (bF 2 (aD cB (aR (.int 1)) (aD eX (aD gK (aA 1) (aR (.int 36))) (aR (.int 26))))) bL) (pY K A ex)
abbrev z8(K:Fg)(A:aX)(ex:aN->aV):bC :=
  aH (bF 2 (aD cB (aR (.int 1)) (aD eX (aA 1) (aR (.int 6))))) (z7 K A ex)
abbrev wM(K:Fg)(A:aX)(ex:aN->aV):bC :=
  aH (bF 1 (aU (bZ K A) ex (aB (aA 0) (aB (aR (.int 0)) aC)))) (z8 K A ex)
abbrev mU(K:Fg)(A:aX):fU:=uE 4 1 λEX=>wM K A (λ_=>EX)
abbrev agI:CB:=(.cons (.set 1 (.call 0 (.cons (.var 0) (.cons (.con (.int 0)) .nil)))) (.cons (.set 2 (.bin .Add (.con (.int 1)) (.bin .Mod (.var 1) (.con (.int 6))))) (.cons (.ifs (.cmp .Eq (.bin .Mod (.bin .FloorDiv (.var 1) (.con (.int 6))) (.con (.int 6))) (.con (.int 1))) (.cons (.set 2 (.bin .Add (.con (.int 1)) (.bin .Mod (.bin .FloorDiv (.var 1) (.con (.int 36))) (.con (.int 26))))) .nil) .nil) (.cons (.set 1 (.call 0 (.cons (.var 0) (.cons (.con (.int 1)) .nil)))) (.cons (.set 3 (.bin .Add (.con (.int 1)) (.bin .Mod (.var 1) (.con (.int 9))))) (.cons (.ifs (.cmp .Eq (.bin .Mod (.bin .FloorDiv (.var 1) (.con (.int 9))) (.con (.int 4))) (.con (.int 1))) (.cons (.set 3 (.bin .Add (.con (.int 1)) (.bin .Mod (.bin .FloorDiv (.var 1) (.con (.int 36))) (.con (.int 99))))) .nil) .nil) (.cons (.ret (.tup (.cons (.var 2) (.cons (.var 3) (.cons (.bin .Add (.con (.int 1)) (.bin .Mod (.call 0 (.cons (.var 0) (.cons (.con (.int 2)) .nil))) (.con (.int 20)))) .nil))))) .nil)))))))
abbrev agJ(K:Fg)(A:aX):SI:=⟨["_law_script","_law_cell","_law_aisles","_law_places"],[ak,ak,ak,ak],[ak,ak,ak,ak],[ao,ao,ao,ao],[("_law_cell_at",.fn (bZ K A) 2 ao)],[ak],ak,ao⟩
abbrev tR(K:Fg)(A:aX)(ex:aN->aV):bC :=
  (bM (nF (cJ (aJ K) (aB (aA 0) (aB (aR (.ty "int")) aC))) (a6U (cJ (aJ K) (aB (aA 0) (aB (aR (.ty "bool")) aC))))))
abbrev gU(K:Fg)(A:aX):fU:=uE 1 1 λEX=>tR K A (λ_=>EX)
abbrev adD:CB:=(.cons (.ret (.afQ (.cons (.call 1 (.cons (.var 0) (.cons (.glo 0) .nil))) (.cons (.asL (.call 1 (.cons (.var 0) (.cons (.glo 2) .nil)))) .nil)))) .nil)
abbrev adE(K:Fg)(A:aX):SI:=⟨["_law_found"],[ak],[ak],[ao],[("int",.bt "int"),("isinstance",.bf .isi),("bool",.bt "bool")],[ak,ak,ak],ak,ao⟩
abbrev kZ(K:Fg)(A:aX)(ex:aN->aV):bC :=
  (d8 (tM3 "list" dR (aA 4) (aB (cP (aB (aA 6) (aB (aA 8) (aB (aD cB (aR (.int 1)) (aD eX (aD gK (aA 7) (aR (.int 7))) (aR (.int 1000000)))) aC)))) aC)))
abbrev rH(K:Fg)(A:aX)(ex:aN->aV):bC :=
  aH (cA (aK (aD j5 (aD eX (aD gK (aA 7) (aR (.int 1000))) (aR (.int 4))) (aR (.int 1)))) (bF 8 (aD eX (aD gK (aA 7) (aR (.int 4000))) (aR (.int 1000)))) bL) (kZ K A ex)
abbrev gA(K:Fg)(A:aX)(ex:aN->aV):bC :=
  aH (bF 8 (aD eX (aD gK (aA 7) (aR (.int 200))) (aR (.int 5)))) (rH K A ex)
abbrev rJ(K:Fg)(A:aX)(ex:aN->aV):bC :=
  aH (cA (u5 (aK (aD j5 (aD eX (aA 7) (aR (.int 3))) (aR (.int 1)))) (aK (aD jA (aA 4) (eF aC)))) (bF 6 (aD bA (aD bA (aA 4) (aD eX (aD gK (aA 7) (aR (.int 3))) (cJ dO (aB (aA 4) aC)))) (aR (.int 0)))) bL) (gA K A ex)
abbrev rK(K:Fg)(A:aX)(ex:aN->aV):bC :=
  aH (bF 7 (aU (bZ K A) ex (aB (aA 0) (aB (aD cB (aR (.int 9)) (aD oR (aR (.int 2)) (aA 5))) aC)))) (rJ K A ex)
abbrev rM(K:Fg)(A:aX)(ex:aN->aV):bC :=
  aH (bF 6 (cP (aB (aD eX (aA 2) (aD bA (aA 1) (aR (.int 0)))) (aB (aD cB (aR (.int 1)) (aD eX (aD gK (aA 2) (aD bA (aA 1) (aR (.int 0)))) (aD bA (aA 1) (aR (.int 1))))) aC)))) (rK K A ex)
abbrev wN(K:Fg)(A:aX)(ex:aN->aV):bC :=
  aH (bF 2 (aU (bZ K A) ex (aB (aA 0) (aB (aD cB (aR (.int 8)) (aD oR (aR (.int 2)) (aA 5))) aC)))) (rM K A ex)
abbrev pZ(K:Fg)(A:aX)(ex:aN->aV):bC :=
  (bM (aA 4))
abbrev z9(K:Fg)(A:aX)(ex:aN->aV):bC :=
  aH (eN (lW (aB (aA 3) aC)) (fO 5) (wN K A ex)) (pZ K A ex)
abbrev qC(K:Fg)(A:aX)(ex:aN->aV):bC :=
  aH (bF 4 (eF aC)) (z9 K A ex)
abbrev zA(K:Fg)(A:aX)(ex:aN->aV):bC :=
  aH (cA (aK (aD j5 (aD eX (aD gK (aA 2) (aR (.int 9))) (aR (.int 8))) (aR (.int 1)))) (bF 3 (aD eX (aD gK (aA 2) (aR (.int 72))) (aR (.int 61)))) bL) (qC K A ex)
abbrev zB(K:Fg)(A:aX)(ex:aN->aV):bC :=
  aH (bF 3 (aD eX (aA 2) (aR (.int 9)))) (zA K A ex)
abbrev wO(K:Fg)(A:aX)(ex:aN->aV):bC :=
  aH (bF 2 (aU (bZ K A) ex (aB (aA 0) (aB (aR (.int 3)) aC)))) (zB K A ex)
abbrev mV(K:Fg)(A:aX):fU:=uE 9 2 λEX=>wO K A (λ_=>EX)
abbrev agK:CB:=(.cons (.set 2 (.call 0 (.cons (.var 0) (.cons (.con (.int 3)) .nil)))) (.cons (.set 3 (.bin .Mod (.var 2) (.con (.int 9)))) (.cons (.ifs (.cmp .Eq (.bin .Mod (.bin .FloorDiv (.var 2) (.con (.int 9))) (.con (.int 8))) (.con (.int 1))) (.cons (.set 3 (.bin .Mod (.bin .FloorDiv (.var 2) (.con (.int 72))) (.con (.int 61)))) .nil) .nil) (.cons (.set 4 (.lst .nil)) (.cons (.sZ (.a3K (.var 3)) (.nm 5) (.cons (.set 2 (.call 0 (.cons (.var 0) (.cons (.bin .Add (.con (.int 8)) (.bin .Mult (.con (.int 2)) (.var 5))) .nil)))) (.cons (.set 6 (.tup (.cons (.bin .Mod (.var 2) (.ix (.var 1) (.con (.int 0)))) (.cons (.bin .Add (.con (.int 1)) (.bin .Mod (.bin .FloorDiv (.var 2) (.ix (.var 1) (.con (.int 0)))) (.ix (.var 1) (.con (.int 1))))) .nil)))) (.cons (.set 7 (.call 0 (.cons (.var 0) (.cons (.bin .Add (.con (.int 9)) (.bin .Mult (.con (.int 2)) (.var 5))) .nil)))) (.cons (.ifs (.and (.cons (.cmp .Eq (.bin .Mod (.var 7) (.con (.int 3))) (.con (.int 1))) (.cons (.cmp .NotEq (.var 4) (.lst .nil)) .nil))) (.cons (.set 6 (.ix (.ix (.var 4) (.bin .Mod (.bin .FloorDiv (.var 7) (.con (.int 3))) (.call 2 (.cons (.var 4) .nil)))) (.con (.int 0)))) .nil) .nil) (.cons (.set 8 (.bin .Mod (.bin .FloorDiv (.var 7) (.con (.int 200))) (.con (.int 5)))) (.cons (.ifs (.cmp .Eq (.bin .Mod (.bin .FloorDiv (.var 7) (.con (.int 1000))) (.con (.int 4))) (.con (.int 1))) (.cons (.set 8 (.bin .Mod (.bin .FloorDiv (.var 7) (.con (.int 4000))) (.con (.int 1000)))) .nil) .nil) (.cons (.expr (.meth .append (.var 4) (.cons (.tup (.cons (.var 6) (.cons (.var 8) (.cons (.bin .Add (.con (.int 1)) (.bin .Mod (.bin .FloorDiv (.var 7) (.con (.int 7))) (.con (.int 1000000)))) .nil)))) .nil))) .nil)))))))) (.cons (.ret (.var 4)) .nil))))))
abbrev agL(K:Fg)(A:aX):SI:=⟨["_law_script","_law_plan_here","_law_cell","_law_many","_law_found","_law_k","_law_spot","_law_other","_law_lot"],[ak,ak,ak,ak,ak,ak,ak,ak,ak],[ak,ak,ak,ak,ak,ak,ak,ak,ak],[ao,ao,ao,ao,ao,ao,ao,ao,ao],[("_law_cell_at",.fn (bZ K A) 2 ao),("range",.bt "range"),("len",.bf .len)],[ak,ak,ak],ak,ao⟩
abbrev jQ(K:Fg)(A:aX)(ex:aN->aV):bC :=
  (d8 (tM3 "list" dR (aA 2) (aB (cP (aB (aA 3) (aB (aA 4) aC))) aC)))
abbrev uM(K:Fg)(A:aX)(ex:aN->aV):bC :=
  aH (cA (aK (aD j5 (aA 3) (aD bA (aA 1) (aR (.int 0))))) (bF 4 (aD jW (aD cB (aA 4) (cJ a0H (aB (aD a6V (aD bA (aA 1) (aR (.int 1))) (aA 4)) aC))) (cJ a0H (aB (aD a5E (aD bA (aA 1) (aR (.int 1))) (aA 4)) aC)))) (bF 3 (aD jW (aD cB (aA 3) (cJ a0H (aB (aD a6V (aD bA (aA 1) (aR (.int 0))) (aA 3)) aC))) (cJ a0H (aB (aD a5E (aD bA (aA 1) (aR (.int 0))) (aA 3)) aC))))) (jQ K A ex)
abbrev o7(K:Fg)(A:aX)(ex:aN->aV):bC :=
  (bM (aA 2))
abbrev wQ(K:Fg)(A:aX)(ex:aN->aV):bC :=
  aH (xQ (aK (aD jA (cP (aB (aA 3) (aB (aA 4) aC))) (aA 1))) (uM K A ex)) (o7 K A ex)
abbrev wR(K:Fg)(A:aX)(ex:aN->aV):bC :=
  aH (a2Z [3,4] (aA 0)) (wQ K A ex)
abbrev tU(K:Fg)(A:aX)(ex:aN->aV):bC :=
  aH (bF 2 (eF aC)) (wR K A ex)
abbrev lM(K:Fg)(A:aX):fU:=uE 5 2 λEX=>tU K A (λ_=>EX)
abbrev adF:CB:=(.cons (.set 2 (.lst .nil)) (.cons (.ao8 [3,4] (.var 0)) (.cons (.ao9 (.cmp .NotEq (.tup (.cons (.var 3) (.cons (.var 4) .nil))) (.var 1)) (.cons (.ifs (.cmp .Eq (.var 3) (.ix (.var 1) (.con (.int 0)))) (.cons (.set 4 (.bin .Sub (.bin .Add (.var 4) (.call 0 (.cons (.cmp .Gt (.ix (.var 1) (.con (.int 1))) (.var 4)) .nil))) (.call 0 (.cons (.cmp .Lt (.ix (.var 1) (.con (.int 1))) (.var 4)) .nil)))) .nil) (.cons (.set 3 (.bin .Sub (.bin .Add (.var 3) (.call 0 (.cons (.cmp .Gt (.ix (.var 1) (.con (.int 0))) (.var 3)) .nil))) (.call 0 (.cons (.cmp .Lt (.ix (.var 1) (.con (.int 0))) (.var 3)) .nil)))) .nil)) (.cons (.expr (.meth .append (.var 2) (.cons (.tup (.cons (.var 3) (.cons (.var 4) .nil))) .nil))) .nil))) (.cons (.ret (.var 2)) .nil))))
abbrev adG(K:Fg)(A:aX):SI:=⟨["_law_one","_law_other","_law_found","_law_aisle","_law_place"],[ak,ak,ak,ak,ak],[ak,ak,ak,ak,ak],[ao,ao,ao,ao,ao],[("int",.bt "int")],[ak],ak,ao⟩
abbrev wU(K:Fg)(A:aX)(ex:aN->aV):bC :=
  (d8 (tM3 "list" vK (aA 1) (aB (aU (lM K A) ex (aB (aD bA (aA 0) (aA 2)) (aB (aD bA (aA 0) (aD cB (aA 2) (aR (.int 1)))) aC))) aC)))
abbrev zE(K:Fg)(A:aX)(ex:aN->aV):bC :=
  (bM (aA 1))
abbrev zF(K:Fg)(A:aX)(ex:aN->aV):bC :=
  aH (eN (lW (aB (aD jW (cJ dO (aB (aA 0) aC)) (aR (.int 1))) aC)) (fO 2) (wU K A ex)) (zE K A ex)
abbrev wW(K:Fg)(A:aX)(ex:aN->aV):bC :=
  aH (bF 1 (eF (aB (aD bA (aA 0) (aR (.int 0))) aC))) (zF K A ex)
abbrev jR(K:Fg)(A:aX):fU:=uE 3 1 λEX=>wW K A (λ_=>EX)
abbrev agM:CB:=(.cons (.set 1 (.lst (.cons (.ix (.var 0) (.con (.int 0))) .nil))) (.cons (.sZ (.a3K (.bin .Sub (.call 1 (.cons (.var 0) .nil)) (.con (.int 1)))) (.nm 2) (.cons (.expr (.meth .extend (.var 1) (.cons (.call 2 (.cons (.ix (.var 0) (.var 2)) (.cons (.ix (.var 0) (.bin .Add (.var 2) (.con (.int 1)))) .nil))) .nil))) .nil)) (.cons (.ret (.var 1)) .nil)))
abbrev agN(K:Fg)(A:aX):SI:=⟨["_law_spots_here","_law_found","_law_k"],[ak,ak,ak],[ak,ak,ak],[ao,ao,ao],[("range",.bt "range"),("len",.bf .len),("_law_steps",.fn (lM K A) 2 ao)],[ak,ak,ak],ak,ao⟩
abbrev pI(K:Fg)(A:aX)(ex:aN->aV):bC :=
  (cA (pR (aK (aD a5E (aD bA (aA 2) (aR (.int 0))) (aR (.int 0)))) (pR (aK (aD axJ (aD bA (aA 2) (aR (.int 0))) (aD bA (aA 1) (aR (.int 0))))) (pR (aK (aD a5E (aD bA (aA 2) (aR (.int 1))) (aR (.int 0)))) (aK (aD a6V (aD bA (aA 2) (aR (.int 1))) (aD cB (aD bA (aA 1) (aR (.int 1))) (aR (.int 1)))))))) (bM (aR (.bl ao))) bL)
abbrev uN(K:Fg)(A:aX)(ex:aN->aV):bC :=
  aH (cA (pR (j8 (aK (cJ (aJ K) (aB (aA 2) (aB (aR (.ty "tuple")) aC))))) (pR (aK (aD jA (cJ dO (aB (aA 2) aC)) (aR (.int 2)))) (pR (j8 (aK (aU (gU K A) ex (aB (aD bA (aA 2) (aR (.int 0))) aC)))) (j8 (aK (aU (gU K A) ex (aB (aD bA (aA 2) (aR (.int 1))) aC))))))) (bM (aR (.bl ao))) bL) (pI K A ex)
abbrev pJ(K:Fg)(A:aX)(ex:aN->aV):bC :=
  (cA (pR (aK (aD j5 (aA 4) (aA 5))) (u5 (aK (aD jA (aD bA (aA 4) (aR (.int 0))) (aD bA (aA 5) (aR (.int 0))))) (pR (aK (aD jA (aD bA (aA 4) (aR (.int 1))) (aD bA (aA 5) (aR (.int 1))))) (u5 (aK (aD a5E (aR (.int 0)) (aD bA (aA 4) (aR (.int 1))))) (aK (aD anL (aD bA (aA 4) (aR (.int 1))) (aD bA (aA 1) (aR (.int 1))))))))) (bM (aR (.bl ao))) bL)
abbrev pK(K:Fg)(A:aX)(ex:aN->aV):bC :=
  aH (bF 5 (aD bA (aA 0) (aD cB (aA 3) (aR (.int 1))))) (pJ K A ex)
abbrev uO(K:Fg)(A:aX)(ex:aN->aV):bC :=
  aH (bF 4 (aD bA (aA 0) (aA 3))) (pK K A ex)
abbrev wX(K:Fg)(A:aX)(ex:aN->aV):bC :=
  (bM (nF (aD j5 (aD bA (aA 0) (aR (.int 0))) (cP (aB (aR (.int 0)) (aB (aR (.int 0)) aC)))) (aD j5 (aD bA (aA 0) (aD jW (cJ dO (aB (aA 0) aC)) (aR (.int 1)))) (cP (aB (aR (.int 0)) (aB (aR (.int 0)) aC))))))
abbrev wY(K:Fg)(A:aX)(ex:aN->aV):bC :=
  aH (eN (lW (aB (aD jW (cJ dO (aB (aA 0) aC)) (aR (.int 1))) aC)) (fO 3) (uO K A ex)) (wX K A ex)
abbrev wZ(K:Fg)(A:aX)(ex:aN->aV):bC :=
  aH (eN (a77 (aA 0)) (fO 2) (uN K A ex)) (wY K A ex)
abbrev tV(K:Fg)(A:aX)(ex:aN->aV):bC :=
  aH (cA (pR (j8 (aK (cJ (aJ K) (aB (aA 0) (aB (aR (.ty "list")) aC))))) (aK (aD j5 (aA 0) (eF aC)))) (bM (aR (.bl ao))) bL) (wZ K A ex)
abbrev lN(K:Fg)(A:aX):fU:=uE 6 2 λEX=>tV K A (λ_=>EX)
abbrev adH:CB:=(.cons (.ifs (.or (.cons (.not (.val (.call 1 (.cons (.var 0) (.cons (.glo 0) .nil))))) (.cons (.cmp .Eq (.var 0) (.lst .nil)) .nil))) (.cons (.ret (.con (.bl ao))) .nil) .nil) (.cons (.sZ (.any (.var 0)) (.nm 2) (.cons (.ifs (.or (.cons (.not (.val (.call 1 (.cons (.var 2) (.cons (.glo 2) .nil))))) (.cons (.cmp .NotEq (.call 3 (.cons (.var 2) .nil)) (.con (.int 2))) (.cons (.not (.val (.call 4 (.cons (.ix (.var 2) (.con (.int 0))) .nil)))) (.cons (.not (.val (.call 4 (.cons (.ix (.var 2) (.con (.int 1))) .nil)))) .nil))))) (.cons (.ret (.con (.bl ao))) .nil) .nil) (.cons (.ifs (.or (.cons (.cmp .Lt (.ix (.var 2) (.con (.int 0))) (.con (.int 0))) (.cons (.cmp .GtE (.ix (.var 2) (.con (.int 0))) (.ix (.var 1) (.con (.int 0)))) (.cons (.cmp .Lt (.ix (.var 2) (.con (.int 1))) (.con (.int 0))) (.cons (.cmp .Gt (.ix (.var 2) (.con (.int 1))) (.bin .Add (.ix (.var 1) (.con (.int 1))) (.con (.int 1)))) .nil))))) (.cons (.ret (.con (.bl ao))) .nil) .nil) .nil))) (.cons (.sZ (.a3K (.bin .Sub (.call 3 (.cons (.var 0) .nil)) (.con (.int 1)))) (.nm 3) (.cons (.set 4 (.ix (.var 0) (.var 3))) (.cons (.set 5 (.ix (.var 0) (.bin .Add (.var 3) (.con (.int 1))))) (.cons (.ifs (.or (.cons (.cmp .Eq (.var 4) (.var 5)) (.cons (.and (.cons (.cmp .NotEq (.ix (.var 4) (.con (.int 0))) (.ix (.var 5) (.con (.int 0)))) (.cons (.or (.cons (.cmp .NotEq (.ix (.var 4) (.con (.int 1))) (.ix (.var 5) (.con (.int 1)))) (.cons (.and (.cons (.cmp .Lt (.con (.int 0)) (.ix (.var 4) (.con (.int 1)))) (.cons (.cmp .LtE (.ix (.var 4) (.con (.int 1))) (.ix (.var 1) (.con (.int 1)))) .nil))) .nil))) .nil))) .nil))) (.cons (.ret (.con (.bl ao))) .nil) .nil) .nil)))) (.cons (.ret (.afQ (.cons (.cmp .Eq (.ix (.var 0) (.con (.int 0))) (.tup (.cons (.con (.int 0)) (.cons (.con (.int 0)) .nil)))) (.cons (.cmp .Eq (.ix (.var 0) (.bin .Sub (.call 3 (.cons (.var 0) .nil)) (.con (.int 1)))) (.tup (.cons (.con (.int 0)) (.cons (.con (.int 0)) .nil)))) .nil)))) .nil))))
abbrev adI(K:Fg)(A:aX):SI:=⟨["_law_spots_here","_law_plan_here","_law_spot","_law_k","_law_one","_law_other"],[ak,ak,ak,ak,ak,ak],[ak,ak,ak,ak,ak,ak],[ao,ao,ao,ao,ao,ao],[("list",.bt "list"),("isinstance",.bf .isi),("tuple",.bt "tuple"),("len",.bf .len),("_law_whole",.fn (gU K A) 1 ao),("range",.bt "range")],[ak,ak,ak,ak,ak,ak],ak,ao⟩
abbrev xA(K:Fg)(A:aX)(ex:aN->aV):bC :=
  (cA (u5 (aK (aD j5 (aD bA (aD bA (aA 0) (aA 3)) (aR (.int 0))) (cJ dO (aB (aA 2) aC)))) (u5 (aK (aD j5 (aD bA (aD bA (aA 0) (aD cB (aA 3) (aR (.int 1)))) (aR (.int 0))) (aD cB (cJ dO (aB (aA 2) aC)) (aR (.int 1))))) (aK (aD a5E (cJ dO (aB (aA 2) aC)) (aA 1))))) (d8 (tM3 "list" dR (aA 2) (aB (aD bA (aD bA (aA 0) (aA 3)) (aR (.int 1))) aC))) bL)
abbrev zG(K:Fg)(A:aX)(ex:aN->aV):bC :=
  (bM (aD cB (aA 2) (eF (aB (aR (.int 0)) aC))))
abbrev zH(K:Fg)(A:aX)(ex:aN->aV):bC :=
  aH (eN (lW (aB (aD jW (cJ dO (aB (aA 0) aC)) (aR (.int 1))) aC)) (fO 3) (xA K A ex)) (zG K A ex)
abbrev xB(K:Fg)(A:aX)(ex:aN->aV):bC :=
  aH (bF 2 (eF aC)) (zH K A ex)
abbrev mW(K:Fg)(A:aX):fU:=uE 4 2 λEX=>xB K A (λ_=>EX)
abbrev agO:CB:=(.cons (.set 2 (.lst .nil)) (.cons (.sZ (.a3K (.bin .Sub (.call 1 (.cons (.var 0) .nil)) (.con (.int 1)))) (.nm 3) (.cons (.ifs (.and (.cons (.cmp .Eq (.ix (.ix (.var 0) (.var 3)) (.con (.int 0))) (.call 1 (.cons (.var 2) .nil))) (.cons (.cmp .Eq (.ix (.ix (.var 0) (.bin .Add (.var 3) (.con (.int 1)))) (.con (.int 0))) (.bin .Add (.call 1 (.cons (.var 2) .nil)) (.con (.int 1)))) (.cons (.cmp .Lt (.call 1 (.cons (.var 2) .nil)) (.var 1)) .nil)))) (.cons (.expr (.meth .append (.var 2) (.cons (.ix (.ix (.var 0) (.var 3)) (.con (.int 1))) .nil))) .nil) .nil) .nil)) (.cons (.ret (.bin .Add (.var 2) (.lst (.cons (.con (.int 0)) .nil)))) .nil)))
abbrev agP(K:Fg)(A:aX):SI:=⟨["_law_path_here","_law_last","_law_found","_law_k"],[ak,ak,ak,ak],[ak,ak,ak,ak],[ao,ao,ao,ao],[("range",.bt "range"),("len",.bf .len)],[ak,ak],ak,ao⟩
abbrev o8(K:Fg)(A:aX)(ex:aN->aV):bC :=
  (d8 (tM3 "list" dR (aA 3) (aB (cP (aB (aA 5) (aB (aA 4) aC))) aC)))
abbrev iJ(K:Fg)(A:aX)(ex:aN->aV):bC :=
  (cA (aK (aD jA (aD bA (aA 1) (aA 5)) (aA 4))) (aH (bF 4 (aD bA (aA 1) (aA 5))) (o8 K A ex)) (cA (u5 (aK (aD jA (aA 6) (eF aC))) (aK (aD j5 (aA 4) (aR (.int 0))))) (bF 3 (aD cB (aA 3) (eF (aB (cP (aB (aA 5) (aB (cJ zQ (aB (aA 6) aC)) aC))) (aB (cP (aB (aA 5) (aB (aA 4) aC))) aC))))) (cA (aK (aD jA (aA 6) (eF aC))) (bF 3 (aD cB (aA 3) (eF (aB (cP (aB (aA 5) (aB (cJ vN (aB (aA 6) aC)) aC))) (aB (cP (aB (aA 5) (aB (aA 4) aC))) aC))))) bL)))
abbrev uP(K:Fg)(A:aX)(ex:aN->aV):bC :=
  aH (cA (aK (aD a6V (aA 5) (aR (.int 0)))) (d8 (tM3 "list" dR (aA 3) (aB (cP (aB (aA 5) (aB (aA 4) aC))) aC))) bL) (iJ K A ex)
abbrev zJ(K:Fg)(A:aX)(ex:aN->aV):bC :=
  aH (bF 6 (mH 2 (lV (aA 0)) (aK (aD j5 (aA 0) (aA 7))) (aA 1))) (uP K A ex)
abbrev tW(K:Fg)(A:aX)(ex:aN->aV):bC :=
  (bM (aD cB (aA 3) (eF (aB (cP (aB (aR (.int 0)) (aB (aR (.int 0)) aC))) aC))))
abbrev a1Y(K:Fg)(A:aX)(ex:aN->aV):bC :=
  aH (eN (lW (aB (cJ dO (aB (aA 1) aC)) aC)) (fO 5) (zJ K A ex)) (tW K A ex)
abbrev a1Z(K:Fg)(A:aX)(ex:aN->aV):bC :=
  aH (bF 4 (aR (.int 0))) (a1Y K A ex)
abbrev zY(K:Fg)(A:aX)(ex:aN->aV):bC :=
  aH (bF 3 (eF (aB (cP (aB (aR (.int 0)) (aB (aR (.int 0)) aC))) aC))) (a1Z K A ex)
abbrev pL(K:Fg)(A:aX):fU:=uE 7 3 λEX=>zY K A (λ_=>EX)
abbrev ajD:CB:=(.cons (.set 3 (.lst (.cons (.tup (.cons (.con (.int 0)) (.cons (.con (.int 0)) .nil))) .nil))) (.cons (.set 4 (.con (.int 0))) (.cons (.sZ (.a3K (.call 1 (.cons (.var 1) .nil))) (.nm 5) (.cons (.al7 6 2 [ao,ao,ao,ao,ao,ak,ao] [ao,ao,ao,ao] (.any (.var 0)) (.some (.cmp .Eq (.var 0) (.var 7))) (.var 1)) (.cons (.ifs (.cmp .Gt (.var 5) (.con (.int 0))) (.cons (.expr (.meth .append (.var 3) (.cons (.tup (.cons (.var 5) (.cons (.var 4) .nil))) .nil))) .nil) .nil) (.cons (.ifs (.cmp .NotEq (.ix (.var 1) (.var 5)) (.var 4)) (.cons (.set 4 (.ix (.var 1) (.var 5))) (.cons (.expr (.meth .append (.var 3) (.cons (.tup (.cons (.var 5) (.cons (.var 4) .nil))) .nil))) .nil)) (.cons (.ifs (.and (.cons (.cmp .NotEq (.var 6) (.lst .nil)) (.cons (.cmp .Eq (.var 4) (.con (.int 0))) .nil))) (.cons (.set 3 (.bin .Add (.var 3) (.lst (.cons (.tup (.cons (.var 5) (.cons (.call 2 (.cons (.var 6) .nil)) .nil))) (.cons (.tup (.cons (.var 5) (.cons (.var 4) .nil))) .nil))))) .nil) (.cons (.ifs (.cmp .NotEq (.var 6) (.lst .nil)) (.cons (.set 3 (.bin .Add (.var 3) (.lst (.cons (.tup (.cons (.var 5) (.cons (.call 3 (.cons (.var 6) .nil)) .nil))) (.cons (.tup (.cons (.var 5) (.cons (.var 4) .nil))) .nil))))) .nil) .nil) .nil)) .nil)) .nil)))) (.cons (.ret (.bin .Add (.var 3) (.lst (.cons (.tup (.cons (.con (.int 0)) (.cons (.con (.int 0)) .nil))) .nil)))) .nil))))
abbrev ajE(K:Fg)(A:aX):SI:=⟨["_law_bins","_law_ends_here","_law_whole_here","_law_spots_here","_law_end","_law_aisle","_law_here"],[ak,ak,ak,ak,ak,ak,ak],[ak,ak,ak,ak,ak,ao,ak],[ao,ao,ao,ao,ao,ak,ao],[("range",.bt "range"),("len",.bf .len),("max",.bf .max),("min",.bf .min)],[ak,ak,ak,ak],ak,ao⟩
abbrev rN(K:Fg)(A:aX)(ex:aN->aV):bC :=
  (bM (aD j5 (aA 3) (aU (jR K A) ex (aB (aU (pL K A) ex (aB (aA 1) (aB (aA 5) (aB (aD cB (aD bA (aA 2) (aR (.int 1))) (aR (.int 1))) aC)))) aC))))
abbrev rO(K:Fg)(A:aX)(ex:aN->aV):bC :=
  aH (cA (pR (aK (aD jA (cJ dO (aB (aA 5) aC)) (aD cB (aA 4) (aR (.int 1))))) (aK (aD jA (vL (lV (aA 5)) (u5 (aK (aD jA (aA 0) (aR (.int 0)))) (aK (aD jA (aA 0) (aD cB (aD bA (aA 3) (aR (.int 1))) (aR (.int 1)))))) (aA 0)) (eF aC)))) (bM (aR (.bl ao))) bL) (rN K A ex)
abbrev rP(K:Fg)(A:aX)(ex:aN->aV):bC :=
  aH (bF 5 (aU (mW K A) ex (aB (aA 3) (aB (aA 4) aC)))) (rO K A ex)
abbrev rQ(K:Fg)(A:aX)(ex:aN->aV):bC :=
  aH (bF 4 (cJ zQ (aB (mH 2 (lV (aA 1)) gM (aA 0)) aC))) (rP K A ex)
abbrev rR(K:Fg)(A:aX)(ex:aN->aV):bC :=
  aH (bF 3 (aU (jR K A) ex (aB (aA 0) aC))) (rQ K A ex)
abbrev rT(K:Fg)(A:aX)(ex:aN->aV):bC :=
  aH (cA (aK (aD j5 (aA 1) (eF aC))) (bM (aD j5 (aA 0) (eF (aB (cP (aB (aR (.int 0)) (aB (aR (.int 0)) aC))) aC)))) bL) (rR K A ex)
abbrev o9(K:Fg)(A:aX)(ex:aN->aV):bC :=
  aH (cA (j8 (aK (aU (lN K A) ex (aB (aA 0) (aB (aA 2) aC))))) (bM (aR (.bl ao))) bL) (rT K A ex)
abbrev fB(K:Fg)(A:aX):fU:=uE 6 3 λEX=>o9 K A (λ_=>EX)
abbrev a8K:CB:=(.cons (.ifs (.not (.val (.call 0 (.cons (.var 0) (.cons (.var 2) .nil))))) (.cons (.ret (.con (.bl ao))) .nil) .nil) (.cons (.ifs (.cmp .Eq (.var 1) (.lst .nil)) (.cons (.ret (.cmp .Eq (.var 0) (.lst (.cons (.tup (.cons (.con (.int 0)) (.cons (.con (.int 0)) .nil))) .nil)))) .nil) .nil) (.cons (.set 3 (.call 1 (.cons (.var 0) .nil))) (.cons (.set 4 (.call 2 (.cons (.a0V 2 [ao,ao,ao,ao,ao,ao] [ao,ao,ao,ao,ao,ao] (.any (.var 1)) .none (.var 0)) .nil))) (.cons (.set 5 (.call 3 (.cons (.var 3) (.cons (.var 4) .nil)))) (.cons (.ifs (.or (.cons (.cmp .NotEq (.call 4 (.cons (.var 5) .nil)) (.bin .Add (.var 4) (.con (.int 1)))) (.cons (.cmp .NotEq (.comp [ao,ao,ak,ao,ao,ao] [ao,ao,ao,ao,ao,ao] (.any (.var 5)) (.some (.and (.cons (.cmp .NotEq (.var 0) (.con (.int 0))) (.cons (.cmp .NotEq (.var 0) (.bin .Add (.ix (.var 3) (.con (.int 1))) (.con (.int 1)))) .nil)))) (.var 0)) (.lst .nil)) .nil))) (.cons (.ret (.con (.bl ao))) .nil) .nil) (.cons (.ret (.cmp .Eq (.var 3) (.call 1 (.cons (.call 5 (.cons (.var 1) (.cons (.var 5) (.cons (.bin .Add (.ix (.var 2) (.con (.int 1))) (.con (.int 1))) .nil)))) .nil)))) .nil)))))))
abbrev a8L(K:Fg)(A:aX):SI:=⟨["_law_spots_here","_law_bins","_law_plan_here","_law_path_here","_law_last","_law_ends_here"],[ak,ak,ak,ak,ak,ak],[ak,ak,ao,ak,ak,ak],[ao,ao,ak,ao,ao,ao],[("_law_spots",.fn (lN K A) 2 ao),("_law_path",.fn (jR K A) 1 ao),("max",.bf .max),("_law_ends",.fn (mW K A) 2 ao),("len",.bf .len),("_law_due",.fn (pL K A) 3 ao)],[ak,ak,ak,ak,ak,ak],ak,ao⟩
abbrev fK(K:Fg)(A:aX)(ex:aN->aV):bC :=
  (cA (aK (aD a3A (cP (aB (aA 4) (aB (aA 5) aC))) (aA 2))) (a7G (aA 2) (cP (aB (aA 4) (aB (aA 5) aC))) (cJ a3F (aB (aA 2) aC))) bL)
abbrev m9(K:Fg)(A:aX)(ex:aN->aV):bC :=
  aH (bF 5 (aD cB (aA 5) (aA 8))) (fK K A ex)
abbrev iM(K:Fg)(A:aX)(ex:aN->aV):bC :=
  (xQ (aK (aD jA (aA 5) (aA 7))) (m9 K A ex))
abbrev uQ(K:Fg)(A:aX)(ex:aN->aV):bC :=
  (cA (aK (aD j5 (aA 4) (aA 6))) (aH (bF 8 (aD jW (cJ a0H (aB (aD a6V (aA 7) (aA 5)) aC)) (cJ a0H (aB (aD a5E (aA 7) (aA 5)) aC)))) (iM K A ex)) bL)
abbrev uR(K:Fg)(A:aX)(ex:aN->aV):bC :=
  aH (a2Z [6,7] (aD bA (aA 0) (aD cB (aA 3) (aR (.int 1))))) (uQ K A ex)
abbrev zK(K:Fg)(A:aX)(ex:aN->aV):bC :=
  aH (a2Z [4,5] (aD bA (aA 0) (aA 3))) (uR K A ex)
abbrev a2A(K:Fg)(A:aX)(ex:aN->aV):bC :=
  (bM (aA 2))
abbrev a2B(K:Fg)(A:aX)(ex:aN->aV):bC :=
  aH (eN (lW (aB (aD jW (cJ dO (aB (aA 0) aC)) (aR (.int 1))) aC)) (fO 3) (zK K A ex)) (a2A K A ex)
abbrev zZ(K:Fg)(A:aX)(ex:aN->aV):bC :=
  aH (bF 2 a0K) (a2B K A ex)
abbrev pN(K:Fg)(A:aX):fU:=uE 9 2 λEX=>zZ K A (λ_=>EX)
abbrev ajF:CB:=(.cons (.set 2 .asM) (.cons (.sZ (.a3K (.bin .Sub (.call 1 (.cons (.var 0) .nil)) (.con (.int 1)))) (.nm 3) (.cons (.ao8 [4,5] (.ix (.var 0) (.var 3))) (.cons (.ao8 [6,7] (.ix (.var 0) (.bin .Add (.var 3) (.con (.int 1))))) (.cons (.ifs (.cmp .Eq (.var 4) (.var 6)) (.cons (.set 8 (.bin .Sub (.call 2 (.cons (.cmp .Gt (.var 7) (.var 5)) .nil)) (.call 2 (.cons (.cmp .Lt (.var 7) (.var 5)) .nil)))) (.cons (.ao9 (.cmp .NotEq (.var 5) (.var 7)) (.cons (.set 5 (.bin .Add (.var 5) (.var 8))) (.cons (.ifs (.din ak (.tup (.cons (.var 4) (.cons (.var 5) .nil))) (.var 2)) (.cons (.at5 (.var 2) (.tup (.cons (.var 4) (.cons (.var 5) .nil))) (.call 3 (.cons (.var 2) .nil))) .nil) .nil) .nil))) .nil)) .nil) .nil)))) (.cons (.ret (.var 2)) .nil)))
abbrev ajG(K:Fg)(A:aX):SI:=⟨["_law_spots_here","_law_plan_here","_law_found","_law_k","_law_aisle","_law_place","_law_other","_law_last","_law_step"],[ak,ak,ak,ak,ak,ak,ak,ak,ak],[ak,ak,ak,ak,ak,ak,ak,ak,ak],[ao,ao,ao,ao,ao,ao,ao,ao,ao],[("range",.bt "range"),("len",.bf .len),("int",.bt "int"),("len",.bf .asK)],[ak,ak,ak,ak],ak,ao⟩
abbrev uT(K:Fg)(A:aX)(ex:aN->aV):bC :=
  (bM (aD a6V (aD bA (aA 0) (aR (.int 1))) (aD bA (aA 1) (aR (.int 1)))))
abbrev qD(K:Fg)(A:aX)(ex:aN->aV):bC :=
  aH (cA (aK (aD jA (aD gO (aA 2) (aD bA (aA 0) (aR (.int 0)))) (aD gO (aA 2) (aD bA (aA 1) (aR (.int 0)))))) (bM (aD a6V (aD gO (aA 2) (aD bA (aA 0) (aR (.int 0)))) (aD gO (aA 2) (aD bA (aA 1) (aR (.int 0)))))) bL) (uT K A ex)
abbrev jT(K:Fg)(A:aX):fU:=uE 3 3 λEX=>qD K A (λ_=>EX)
abbrev a9U:CB:=(.cons (.ifs (.cmp .NotEq (.dix (.var 2) (.ix (.var 0) (.con (.int 0)))) (.dix (.var 2) (.ix (.var 1) (.con (.int 0))))) (.cons (.ret (.cmp .Gt (.dix (.var 2) (.ix (.var 0) (.con (.int 0)))) (.dix (.var 2) (.ix (.var 1) (.con (.int 0)))))) .nil) .nil) (.cons (.ret (.cmp .Gt (.ix (.var 0) (.con (.int 1))) (.ix (.var 1) (.con (.int 1))))) .nil))
abbrev a9V(K:Fg)(A:aX):SI:=⟨["_law_one","_law_other","_law_met_here"],[ak,ak,ak],[ak,ak,ak],[ao,ao,ao],[],[],ak,ao⟩
abbrev a2C(K:Fg)(A:aX)(ex:aN->aV):bC :=
  (bF 9 (aD jW (aA 9) (aR (.int 1))))
abbrev xC(K:Fg)(A:aX)(ex:aN->aV):bC :=
  (d8 (tM3 "list" qR (aA 7) (aB (aA 9) (aB (aA 8) aC))))
abbrev a4U(K:Fg)(A:aX)(ex:aN->aV):bC :=
  aH (xQ (u5 (aK (aD a6V (aA 9) (aR (.int 0)))) (aK (aU (jT K A) ex (aB (aD bA (aA 7) (aD jW (aA 9) (aR (.int 1)))) (aB (aA 8) (aB (aA 6) aC)))))) (a2C K A ex)) (xC K A ex)
abbrev a4V(K:Fg)(A:aX)(ex:aN->aV):bC :=
  aH (bF 9 (cJ dO (aB (aA 7) aC))) (a4U K A ex)
abbrev a3M(K:Fg)(A:aX)(ex:aN->aV):bC :=
  aH (cA (aK (aD a3A (aD bA (aA 8) (aR (.int 0))) (aA 6))) (bM (aR (.bl ao))) bL) (a4V K A ex)
abbrev agQ(K:Fg)(A:aX)(ex:aN->aV):bC :=
  (a4C 8 (bM (nF (aD j5 (aA 3) (aA 2)) (nF (aD j5 (aD bA (aA 10) (aR (.int 1))) (aA 7)) (aU (fB K A) (λρ=>ex (qN ρ 8)) (aB (aD bA (aA 10) (aR (.int 0))) (aB (vL (lV (aA 2)) gM (aD bA (aA 0) (aR (.int 0)))) (aB (aA 1) aC))))))))
abbrev agR(K:Fg)(A:aX)(ex:aN->aV):bC :=
  aH (bF 10 (aU (rD K A) ex (aB (aA 1) (aB (aA 3) aC)))) (agQ K A ex)
abbrev agS(K:Fg)(A:aX)(ex:aN->aV):bC :=
  aH (d8 (tM3 "list" dR (aD bA (aA 4) (aR (.int 1))) (aB (aR .non) aC))) (agR K A ex)
abbrev a8M(K:Fg)(A:aX)(ex:aN->aV):bC :=
  aH (d8 (tM3 "list" dR (aD bA (aA 4) (aR (.int 0))) (aB (cP (aB (aR (.int 0)) (aB (aR (.int 1)) aC))) aC))) (agS K A ex)
abbrev agT(K:Fg)(A:aX)(ex:aN->aV):bC :=
  aH (cA (aK (aD jA (aD bA (aA 4) (aR (.int 1))) (aA 7))) (bM (aR (.bl ao))) bL) (a8M K A ex)
abbrev agU(K:Fg)(A:aX)(ex:aN->aV):bC :=
  aH (eN (a77 (aA 2)) (fO 8) (a3M K A ex)) (agT K A ex)
abbrev agV(K:Fg)(A:aX)(ex:aN->aV):bC :=
  aH (bF 7 (eF aC)) (agU K A ex)
abbrev alW(K:Fg)(A:aX)(ex:aN->aV):bC :=
  aH (bF 6 (aU (pN K A) ex (aB (aD bA (aA 4) (aR (.int 0))) (aB (aA 1) aC)))) (agV K A ex)
abbrev alX(K:Fg)(A:aX)(ex:aN->aV):bC :=
  aH (cA (aK (aD jA (aU (rC K A) ex (aB (aA 1) (aB (aD bA (aA 4) (aR (.int 0))) aC))) (aU (rC K A) ex (aB (aA 1) (aB (aA 5) aC))))) (bM (aR (.bl ao))) bL) (alW K A ex)
abbrev alY(K:Fg)(A:aX)(ex:aN->aV):bC :=
  aH (cA (j8 (aK (aU (fB K A) ex (aB (aD bA (aA 4) (aR (.int 0))) (aB (mH 3 (lV (aA 2)) gM (aA 0)) (aB (aA 1) aC)))))) (bM (aR (.bl ao))) bL) (alX K A ex)
abbrev alZ(K:Fg)(A:aX)(ex:aN->aV):bC :=
  aH (bF 5 (aU (yC K A) ex (aB (aA 1) (aB (mH 3 (lV (aA 2)) gM (aA 0)) aC)))) (alY K A ex)
abbrev am0(K:Fg)(A:aX)(ex:aN->aV):bC :=
  aH (cA (pR (aK (aD jA (aA 3) (aA 2))) (pR (j8 (aK (cJ (aJ K) (aB (aA 4) (aB (aR (.ty "tuple")) aC))))) (pR (aK (aD jA (cJ dO (aB (aA 4) aC)) (aR (.int 2)))) (j8 (aK (cJ (aJ K) (aB (aD bA (aA 4) (aR (.int 1))) (aB (aR (.ty "list")) aC)))))))) (bM (aR (.bl ao))) bL) (alZ K A ex)
abbrev am1(K:Fg)(A:aX)(ex:aN->aV):bC :=
  aH (bF 4 (aU (rD K A) ex (aB (aA 1) (aB (aA 3) aC)))) (am0 K A ex)
abbrev am2(K:Fg)(A:aX)(ex:aN->aV):bC :=
  aH (bF 3 (cJ a73 (aB (aA 2) aC))) (am1 K A ex)
abbrev am3(K:Fg)(A:aX)(ex:aN->aV):bC :=
  aH (bF 2 (aU (mV K A) ex (aB (aA 0) (aB (aA 1) aC)))) (am2 K A ex)
abbrev auK(K:Fg)(A:aX)(ex:aN->aV):bC :=
  aH (bF 1 (aU (mU K A) ex (aB (aA 0) aC))) (am3 K A ex)
abbrev adJ(K:Fg)(A:aX):fU:=uE 11 1 λEX=>auK K A (λ_=>EX)
abbrev agW:CB:=(.cons (.set 1 (.call 0 (.cons (.var 0) .nil))) (.cons (.set 2 (.call 1 (.cons (.var 0) (.cons (.var 1) .nil)))) (.cons (.set 3 (.call 2 (.cons (.var 2) .nil))) (.cons (.set 4 (.call 3 (.cons (.var 1) (.cons (.var 3) .nil)))) (.cons (.ifs (.or (.cons (.cmp .NotEq (.var 3) (.var 2)) (.cons (.not (.val (.call 5 (.cons (.var 4) (.cons (.glo 4) .nil))))) (.cons (.cmp .NotEq (.call 6 (.cons (.var 4) .nil)) (.con (.int 2))) (.cons (.not (.val (.call 5 (.cons (.ix (.var 4) (.con (.int 1))) (.cons (.glo 2) .nil))))) .nil))))) (.cons (.ret (.con (.bl ao))) .nil) .nil) (.cons (.set 5 (.call 7 (.cons (.var 1) (.cons (.a0V 3 [ao,ao,ao,ao,ao,ao,ao,ao,ao,ao,ao] [ao,ao,ao,ao,ao,ao,ao,ao,ao,ao,ao,ao] (.any (.var 2)) .none (.var 0)) .nil)))) (.cons (.ifs (.not (.val (.call 8 (.cons (.ix (.var 4) (.con (.int 0))) (.cons (.a0V 3 [ao,ao,ao,ao,ao,ao,ao,ao,ao,ao,ao] [ao,ao,ao,ao,ao,ao,ao,ao,ao,ao,ao,ao] (.any (.var 2)) .none (.var 0)) (.cons (.var 1) .nil)))))) (.cons (.ret (.con (.bl ao))) .nil) .nil) (.cons (.ifs (.cmp .NotEq (.call 9 (.cons (.var 1) (.cons (.ix (.var 4) (.con (.int 0))) .nil))) (.call 9 (.cons (.var 1) (.cons (.var 5) .nil)))) (.cons (.ret (.con (.bl ao))) .nil) .nil) (.cons (.set 6 (.call 10 (.cons (.ix (.var 4) (.con (.int 0))) (.cons (.var 1) .nil)))) (.cons (.set 7 (.lst .nil)) (.cons (.sZ (.any (.var 2)) (.nm 8) (.cons (.ifs (.din ak (.ix (.var 8) (.con (.int 0))) (.var 6)) (.cons (.ret (.con (.bl ao))) .nil) .nil) (.cons (.set 9 (.call 6 (.cons (.var 7) .nil))) (.cons (.ao9 (.and (.cons (.cmp .Gt (.var 9) (.con (.int 0))) (.cons (.val (.call 11 (.cons (.ix (.var 7) (.bin .Sub (.var 9) (.con (.int 1)))) (.cons (.var 8) (.cons (.var 6) .nil))))) .nil))) (.cons (.set 9 (.bin .Sub (.var 9) (.con (.int 1)))) .nil)) (.cons (.expr (.meth .insert (.var 7) (.cons (.var 9) (.cons (.var 8) .nil)))) .nil))))) (.cons (.ifs (.cmp .NotEq (.ix (.var 4) (.con (.int 1))) (.var 7)) (.cons (.ret (.con (.bl ao))) .nil) .nil) (.cons (.expr (.meth .append (.ix (.var 4) (.con (.int 0))) (.cons (.tup (.cons (.con (.int 0)) (.cons (.con (.int 1)) .nil))) .nil))) (.cons (.expr (.meth .append (.ix (.var 4) (.con (.int 1))) (.cons (.con .non) .nil))) (.cons (.set 10 (.call 3 (.cons (.var 1) (.cons (.var 3) .nil)))) (.cons (.hid 8 "-" (.ret (.afQ (.cons (.cmp .Eq (.var 3) (.var 2)) (.cons (.cmp .Eq (.ix (.var 10) (.con (.int 1))) (.var 7)) (.cons (.call 8 (.cons (.ix (.var 10) (.con (.int 0))) (.cons (.comp [ao,ao,ao,ao,ao,ao,ao,ao,ao,ao,ao] [ao,ao,ao,ao,ao,ao,ao,ao,ao,ao,ao,ao] (.any (.var 2)) .none (.ix (.var 0) (.con (.int 0)))) (.cons (.var 1) .nil)))) .nil)))))) .nil))))))))))))))))
abbrev aN2(K:Fg)(A:aX):SI:=⟨["_law_script","_law_plan_here","_law_rows_here","_law_handed","_law_found","_law_spots_here","_law_met_here","_law_due_here","_law_row","_law_at","_law_again"],[ak,ak,ak,ak,ak,ak,ak,ak,ak,ak,ak],[ak,ak,ak,ak,ak,ak,ak,ak,ak,ak,ak],[ao,ao,ao,ao,ao,ao,ao,ao,ao,ao,ao],[("_law_plan",.fn (mU K A) 1 ao),("_law_rows",.fn (mV K A) 2 ao),("list",.bt "list"),("errand",.fn (rD K A) 2 ao),("tuple",.bt "tuple"),("isinstance",.bf .isi),("len",.bf .len),("walk",.fn (yC K A) 2 ao),("_law_by_rule",.fn (fB K A) 3 ao),("length",.fn (rC K A) 2 ao),("_law_met",.fn (pN K A) 2 ao),("_law_behind",.fn (jT K A) 3 ao)],[ak,ak,ak,ak,ak,ak,ak,ak,ak,ak,ak,ak],ak,ao⟩
structure uZ(K:Fg)(mg:Str->Option bh)(x:Str)(st:lq)(f:bx)(d:jy)(ps:List Str):Prop where
 F:Fun K x x st f d
 B:Binds K d ps []
 m:mg x=aj (.ref f)
structure Txt(K:Fg)(mg:Str->Option bh)(A:aX):Prop where
 a1K:A.wF.code=.ref A.a1K
 iQ:uZ K mg "is_whole" a7T A.a7Z A.tE ["thing","least","most"]
 lA:uZ K mg "is_pair" abB A.abE A.xW ["thing","aisles","first","last"]
 mX:uZ K mg "is_plan" abC A.abF A.xX ["thing"]
 cT:uZ K mg "need_plan" a4F A.a4K A.oY ["plan"]
 rW:uZ K mg "is_bin" ag6 A.ag9 A.a1F ["plan","thing"]
 mY:uZ K mg "is_spot" abD A.abG A.xY ["plan","thing"]
 abM:uZ K mg "far" aCJ A.aCK A.alP ["plan","one","other"]
 lB:uZ K mg "need_bin" a7U A.a80 A.tG ["plan","thing"]
 cW:uZ K mg "places_by_aisle" oX A.oZ A.fM ["bins"]
 iR:uZ K mg "farthest" a7V A.a81 A.tH ["places","end"]
 dW:uZ K mg "steps_within" vZ A.wB A.jH ["plan","places","end","goal"]
 fH:uZ K mg "ways_behind" yS A.yV A.lJ ["plan","places","ways"]
 dB:uZ K mg "shortest_ends" uF A.uH A.iD ["plan","aisles"]
 dX:uZ K mg "spots_within" w5 A.wC A.jJ ["aisle","places","end","goal"]
 yD:uZ K mg "go_to" alN A.alQ A.a65 ["spots","spot"]
 lC:uZ K mg "spots_by" a7W A.a82 A.tK ["aisles","ends"]
 a00:uZ K mg "walk" auD A.auE A.ad9 ["plan","bins"]
 rY:uZ K mg "length" ag7 A.agA A.a1G ["plan","spots"]
 dD:uZ K mg "spots_between" uG A.uI A.iG ["one","other"]
 yE:uZ K mg "stops" alO A.alR A.a66 ["plan","spots","bins"]
 oA:uZ K mg "errand" f9 A.agB A.wF ["plan","rows"]
 d9:uZ K mg "_law_cell_at" w6 A.wG A.jK ["_law_script","_law_k"]
 iW:uZ K mg "_law_plan" a4G A.a4L A.p7 ["_law_script"]
 gB:uZ K mg "_law_whole" a1C A.a1H A.mK ["_law_found"]
 iY:uZ K mg "_law_rows" a4H A.a4M A.p8 ["_law_script","_law_plan_here"]
 gC:uZ K mg "_law_steps" a1D A.a1I A.mL ["_law_one","_law_other"]
 iZ:uZ K mg "_law_path" a4I A.a4N A.pA ["_law_spots_here"]
 gF:uZ K mg "_law_spots" a1E A.a1J A.mQ ["_law_spots_here","_law_plan_here"]
 j4:uZ K mg "_law_ends" a4J A.a4O A.pB ["_law_path_here","_law_last"]
 lD:uZ K mg "_law_due" a7X A.a83 A.tL ["_law_bins","_law_ends_here","_law_whole_here"]
 dY:uZ K mg "_law_by_rule" wA A.wH A.jL ["_law_spots_here","_law_bins","_law_plan_here"]
 lE:uZ K mg "_law_met" a7Y A.a84 A.tM ["_law_spots_here","_law_plan_here"]
 fJ:uZ K mg "_law_behind" yU A.yW A.lK ["_law_one","_law_other","_law_met_here"]
 aN3:uZ K mg "law" ag8 A.a85 A.aCL ["_law_script"]
 gW:∃t,mg "MOST_AISLES"=aj (.int 26 t)
 gY:∃t,mg "MOST_PLACES"=aj (.int 99 t)
 oE:∃t,mg "MOST_GAP"=aj (.int 20 t)
 a8N:∃a,mg "DOOR"=aj (.ref a)/\∀H,RD K H (.tup [.int 0,.int 0]) (.ref a)
 aCM:mg "abs"=aq
 auL:mg "bool"=aq
 auM:mg "dict"=aq
 a4W:mg "enumerate"=aq
 am4:mg "int"=aq
 gG:mg "isinstance"=aq
 pO:mg "len"=aq
 ajH:mg "list"=aq
 am5:mg "max"=aq
 am6:mg "min"=aq
 pP:mg "range"=aq
 auN:mg "sorted"=aq
 aN4:mg "sum"=aq
 a67:mg "tuple"=aq
 aCN:mg "zip"=aq
end Law
namespace Law
open PySem PySem.Spec PyProof.Rows L2 L4 L5 L6
local macro_rules| `(tactic| walk_at "wp")=>`(tactic| first|(simp(maxSteps:=2000000) (implicitDefEqProofs:=false) (disch:=first|rfl|decide|assumption|omega) only[L5.atJ,L5.aGY,L5.aGZ,L5.aMC,L5.aMD,L5.aME,L5.x_c,L5.aH0,L5.aH1,L5.aQU,L5.aH2,L5.azH,L5.aMF,L5.aQV,L5.aMG,L5.aH3,L5.aH4,L5.aMH,L5.aMI,L5.aMJ,L5.aH5,L5.aMK,L5.aML,L5.aMM,L5.x_call,L5.aQW,L5.x_m,L5.atP,L5.aH6,L5.azI,L5.aGT,L5.azG,L5.atQ,L5.atR,L5.aMN,L5.aH8,L5.aH9,L5.azS,L5.aHA,L5.x_lt,L5.aQX,L5.x_ge,L5.aQY,L5.azJ,L5.azK,L5.azL,L5.azM,L5.azN,L5.azO,L5.aMP,L5.azP,L5.bO,L5.alF,L5.azQ,L5.azR,L5.aGU,L5.aGV,L5.aGW,L5.aGX,L5.afW,L5.ad3,L5.a9O,L5.aiT,L5.afX,L5.ad4,L5.afY,L5.ad5,L5.a9P,L5.afZ,L5.ad6,L5.a9Q,L5.ag0,L5.ad7,L5.a9R,L5.aiW,L5.aiX,L5.ag1,L5.atY,L5.aoD,L5.aiY,L5.aMQ,L5.aMR,L5.aiZ,L5.aoE,L5.aoF,L6.azT,L6.aMS,L6.aHG,L6.azU,L6.aHH,L6.aHJ,L6.azV,L6.vY,L6.azW,L6.aMV,L6.aHK,L6.aHE,L6.aMT,L8.azZ,L9.aHO,L14.aHQ,L14.aA6,L11.au5,L10.aoI,L10.aHP,L7.aHL,L7.aHM,L7.aHN,L7.aMX,reduceIte,reduceCtorEq];try dsimp only[L5.atL,L5.atM,L5.atN,L5.atO,L6.alI])|dsimp only[L5.atL,L5.atM,L5.atN,L5.atO,L6.alI])
local macro_rules| `(tactic| exists $ls,*)=>`(tactic| (simp(implicitDefEqProofs:=false) only[$[$ls:term],*];repeat (first|(walk_at "wp")|(simp(implicitDefEqProofs:=false) only[$[$ls:term],*]))))
local macro_rules| `(tactic| symm)=>`(tactic| repeat (walk_at "wp"))
variable{b w m:bx}{ns:List Int}{n i j e:Int}{x y g:Nat}{q l:Int×Int}{F:cR}{ex:aN->aV}
section
variable{K:Fg}{A:aX}{G:Gp}{R:eV}{mg:Str->Option bh}
open L7 L8 L9 L10 L11 L14
abbrev isW(d:D)(a b:Int):Bool:=match d with
 |.int i=>decide (a<=i)&&decide (i<=b)
 |_=>ao
private theorem oF{a b:Int}(hd:kn G d)(h:R (.bl (isW d a b)) G):dI K A [d,.int a,.int b] G R EX:=by
 refine⟨rfl,?_⟩;replace h:=bK.here h;show tO K A _ _ [aj d,aj (.int a),aj (.int b)] G;cases d
 case ref q=>exists tO,aiV hd;exact h
 case ty n=>simp[kn,tyD]at hd
 all_goals exists tO
 case int i =>
  by_cases c:a<=i
  .simp only[c,decide_true,if_true];simpa[isW,c]using h
  .simp only[c,decide_false,qw,if_false];simpa[isW,c]using h
 all_goals exact h
abbrev cellAt(ns:List Int)(k:Nat):Int:=if k<ns.length then ns.getD k 0 else if ns=[]then 0 else
 let m:=(ns.getD (k%ns.length) 0*48271+k*104729)%2147483647
 (m*m+48271*k)%2147483629
def a3N(hG:G a=aj (.rol (ns.map D.int))){k:Nat}(hk:k<1000)(h:R (.int (cellAt ns k)) G):bZ K A [.ref a,.int (k:Int)] G R EX:=by
 refine⟨rfl,?_⟩;replace h:=bK.here h;show nZ K A _ _ [aj (.ref a),aj (.int k),aq] G;exists nZ,dG (vW hG);by_cases c:k<ns.length
 .rw[if_pos (decide_eq_true (by omega))];have e:atI (ns.map D.int) (k:Int)=aj (.int (ns.getD k 0)):=by rw[pU];simp[c,a0n]
  rw[tD (vW hG) e];rw[show cellAt ns k=ns.getD k 0 by unfold cellAt;rw[if_pos c]]at h;exact h
 .rw[if_neg (by simp;omega)];exists rG,dG (vW hG);by_cases hn:ns=[]
  .subst hn;rw[show cellAt [] k=0 by unfold cellAt;simp]at h;exact h
  .have h0:0<(ns.length:Int):=by cases ns with
    |nil=>exact absurd rfl hn
    |cons n r=>simp
   have e0:((ns.length:Int)==0)=ao:=by simp;exact hn
   rw[e0];exists rF,dG (vW hG);have hm:k%ns.length<ns.length:=Nat.mod_lt _ (by omega)
   have e2:atI (ns.map D.int) ((k:Int)%(ns.length:Int))=aj (.int (ns.getD (k%ns.length) 0)):=by
    rw[←Int.natCast_emod,pU];simp[hm,a0n]
   rw[tD (vW hG) e2];exists rE
   have ec:cellAt ns k=((ns.getD (k%ns.length) 0*48271+(k:Int)*104729)%2147483647*((ns.getD (k%ns.length) 0*48271+(k:Int)*104729)%2147483647)+48271*(k:Int))%2147483629:=by
    unfold cellAt;rw[if_neg c,if_neg hn]
   rw[←ec];exact h
abbrev isP(d:D)(n a b:Int):Bool:=match d with
 |.tup [x,y]=>isW x 0 (n - 1)&&isW y a b
 |_=>ao
private theorem abN{a b:Int}(hd:kn G d)(hc:∀x y,d=.tup [x,y]->kn G x/\kn G y)(h:R (.bl (isP d n a b)) G):kY K A [d,.int n,.int a,.int b] G R EX:=by
 refine⟨rfl,?_⟩;replace h:=bK.here h;show qU K A _ _ [aj d,aj (.int n),aj (.int a),aj (.int b)] G;cases d
 case ref q=>exists qU,a1A hd;exact h
 case ty n=>simp[kn,tyD]at hd
 case tup xs =>
  exists qU
  match xs,h,hc with
  |[],h,_=>exact h
  |[x],h,_=>exact h
  |x::y::z::r,h,_ =>
   have e:((((x::y::z::r).length:Nat):Int)==2)=ao:=by simp;omega
   simp only[e];exact h
  |[x,y],h,hc =>
   obtain⟨h1,h2⟩:=hc x y rfl;exists a4P;refine oF h1 ?_;symm;refine fX (λe=>oF h2 ?_) λe=>?_
   .simpa[isP,e]using h
   .simpa[isP,e]using h
 all_goals exists qU
 all_goals exact h
def auO{a b:Int}:isP (.tup [.int i,.int j]) n a b=(decide (0<=i)&&decide (i<=n - 1)&&(decide (a<=j)&&decide (j<=b))):=rfl
abbrev agX(d:D):Bool:=match d with
 |.tup [x,y,z]=>isW x 1 26&&(isW y 1 99&&isW z 1 20)
 |_=>ao
private theorem aoS(hd:kn G d)(hc:∀x y z,d=.tup [x,y,z]->kn G x/\kn G y/\kn G z)(h:R (.bl (agX d)) G):tQ K A [d] G R EX:=by
 refine⟨rfl,?_⟩;replace h:=bK.here h;show qW K A _ _ [aj d] G;cases d
 case ref q=>exists qW,a1A hd;exact h
 case ty n=>simp[kn,tyD]at hd
 case tup xs =>
  exists qW
  match xs,h,hc with
  |[],h,_=>exact h
  |[x],h,_=>exact h
  |[x,y],h,_=>exact h
  |x::y::z::w::r,h,_ =>
   have e:((((x::y::z::w::r).length:Nat):Int)==3)=ao:=by simp;omega
   simp only[e];exact h
  |[x,y,z],h,hc =>
   obtain⟨h1,h2,h3⟩:=hc x y z rfl;exists a4R;refine oF h1 ?_;symm;refine ai9 (λe=>?_) λe=>?_
   .simpa[agX,e]using h
   .have e:isW x 1 26=ak:=by simpa using e
    refine oF h2 ?_;symm;refine ai9 (λe2=>?_) λe2=>?_
    .simpa[agX,e2]using h
    .have e2:isW y 1 99=ak:=by simpa using e2
     exists a4Q;refine oF h3 ?_;simpa[agX,e,e2]using h
 all_goals exists qW
 all_goals exact h
def agY(hd:kn G d)(hc:∀x y z,d=.tup [x,y,z]->kn G x/\kn G y/\kn G z)(h0:agX d=ao->False)(h1:agX d=ak->R .non G):bU K A [d] G R EX:=by
 refine⟨rfl,?_⟩;show wJ K A _ _ [aj d] G;exists wJ;refine aoS hd hc ?_;symm;exact ai9 (λe=>h0 e) λe=>bK.here (h1 (by simpa using e))
abbrev gZ(x y g:Nat):D:=.tup [.int x,.int y,.int g]
structure OkP(x y g:Nat):Prop where
 x0:1<=x
 x1:x<=26
 y0:1<=y
 y1:y<=99
 g0:1<=g
 g1:g<=20
def aAB(o:OkP x y g):agX (gZ x y g)=ak:=by
 obtain⟨_,_,_,_,_,_⟩:=o;simp[agX,gZ,isW];omega
def mZ(o:OkP x y g)(h:R .non G):bU K A [gZ x y g] G R EX :=
 agY aiU (λa b c e=>by cases e;exact⟨rfl,rfl,rfl⟩) (λe=>by rw[aAB o]at e;cases e) λ_=>h
abbrev kp(G:Gp)(d:D):Prop:=kn G d/\∀xs,d=.tup xs->∀x∈xs,kn G x
def kp.pr(h:kp G d):∀x y,d=.tup [x,y]->kn G x/\kn G y:=λx y e=>⟨h.2 _ e x (by simp),h.2 _ e y (by simp)⟩
def kp.le(l:Le G G')(h:kp G d):kp G' d:=⟨aCH l h.1,λxs e x m=>aCH l (h.2 xs e x m)⟩
def aHW(h:∀x∈xs,kn G x):kp G (.tup xs):=⟨aiU,λys e=>by cases e;exact h⟩
abbrev HS(G:Gp)(p:bx)(xs:List D)(G':Gp):Prop:=G' p=aj (.lst xs)/\∀q u,q≠p->G q=aj u->G' q=aj u
def HS.le(h:HS G p xs G'):Le (aM G p (.lst xs)) G':=λq u e=>by
 by_cases c:q=p
 .subst c;rw[aG]at e;exact e ▸ h.1
 .rw[bJ c]at e;exact h.2 q u c e
def HS.new{q:bx}(h:HS G p xs G')(hq:G' q=aq):HS G p xs (aM G' q o):=⟨bW h.1 hq,λr u n e=>bW (h.2 r u n e) hq⟩
def HS.trans(h:HS G p xs G')(h2:HS G' p ys G2):HS G p ys G2:=⟨h2.1,λr u n e=>h2.2 r u n (h.2 r u n e)⟩
def HS.put(h:G p=aj (.lst xs)):HS G p ys (aM G p (.lst ys)):=⟨aG,λr u n e=>by rw[bJ n];exact e⟩
def HS.more(h:HS G p xs G')(l:Le G' G2):HS G p xs G2:=⟨l _ _ h.1,λr u n e=>l _ _ (h.2 r u n e)⟩
def HS.leG(h:HS G p xs G')(hp:G p=aq):Le G G':=λr u e=>h.2 r u (λz=>by subst z;rw[hp]at e;cases e) e
def HS.mk0:HS G p xs (aM G p (.lst xs)):=⟨aG,λr u n e=>by rw[bJ n];exact e⟩
def HS.snd(h:HS G p xs G'):HS G p ys (aM G' p (.lst ys)):=h.trans (.put h.1)
def am7(h:R (.bl ak) G):gU K A [.int i] G R EX:=by
 refine⟨rfl,?_⟩;show tR K A _ _ [aj (.int i)] G;exists tR;exact bK.here h
@[simp]def bQ(q:Int×Int):D:=.tup [.int q.1,.int q.2]
def am8{x y:Int}(hG:G a=aj (.rol (ns.map D.int)))(hx:1<=x/\x<=26)(hy:1<=y/\y<=99)(h:∀x y g:Nat,OkP x y g->F.rt (gZ x y g) G):pX K A ex F [aj (.ref a),r1,aj (.int x),aj (.int y)] G:=by
 exists pX;refine a3N (k:=2) hG (by omega) ?_;symm;have z:=h x.toNat y.toNat (1+cellAt ns 2%20).toNat ⟨by omega,by omega,by omega,by omega,by omega,by omega⟩;unfold gZ at z;rw[Int.toNat_of_nonneg (by omega),Int.toNat_of_nonneg (by omega),Int.toNat_of_nonneg (by omega)]at z;exact z
def am9{x:Int}(hG:G a=aj (.rol (ns.map D.int)))(hx:1<=x/\x<=26)(h:∀x y g:Nat,OkP x y g->F.rt (gZ x y g) G):pY K A ex F [aj (.ref a),r1,aj (.int x),r3] G:=by
 exists pY;refine a3N (k:=1) hG (by omega) ?_;exists z6,yZ;exact fX (λ_=>am8 hG hx (by omega) h) λ_=>am8 hG hx (by omega) h
def aAC(hG:G a=aj (.rol (ns.map D.int)))(h:∀x y g:Nat,OkP x y g->R (gZ x y g) G):mU K A [.ref a] G R EX:=by
 refine⟨rfl,?_⟩;have h':∀x y g:Nat,OkP x y g->bK R (gZ x y g) G:=λx y g o=>bK.here (h x y g o);show wM K A _ _ [aj (.ref a),aq,aq,aq] G;exists wM;refine a3N (k:=0) hG (by omega) ?_;exists z8,z7;exact fX (λ_=>am9 hG (by omega) h') λ_=>am9 hG (by omega) h'
abbrev Wk(y:Nat)(q r:Int×Int):Prop:=q.1=r.1∨(q.2=r.2/\(q.2=0∨q.2=(y:Int)+1))
abbrev InP(x y:Nat)(q:Int×Int):Prop:=0<=q.1/\q.1<x/\0<=q.2/\q.2<=(y:Int)+1
structure Walk(x y:Nat)(qs:List (Int×Int)):Prop where
 inn:∀q∈qs,InP x y q
 step:∀(k:Nat) q r,qs[k]?=aj q->qs[k+1]?=aj r->Wk y q r
def Walk.snoc{qs:List (Int×Int)}(h:Walk x y qs)(hl:qs[qs.length - 1]?=aj l)(hr:InP x y r)(hw:Wk y l r):Walk x y (qs++[r]):=by
 have n0:qs.length - 1<qs.length:=(fj.mp hl).1;refine⟨λq hq=>?_,λk a b ha hb=>?_⟩
 .rcases vg.mp hq with hq|hq
  .exact h.inn q hq
  .rw[qx]at hq;exact hq ▸ hr
 .have kb:=(fj.mp hb).1;rw[kh,a1p]at kb;rw[qj (by omega)]at ha;by_cases c:k+1<qs.length
  .rw[qj c]at hb;exact h.step k a b ha hb
  .have e:k+1=qs.length:=by omega
   rw[e,List.getElem?_concat_length]at hb;cases hb;rw[show k=qs.length - 1 by omega,hl]at ha;cases ha;exact hw
def aoT:(qs++[r])[(qs++[r]).length - 1]?=aj r:=by
 simp
abbrev cX(g:Nat)(q r:Int×Int):Int:=(if q.2 - r.2<0 then -(q.2 - r.2)else q.2 - r.2)+(g:Int)*(if q.1 - r.1<0 then -(q.1 - r.1)else q.1 - r.1)
abbrev xD(g:Nat):List (Int×Int)->Int
 |q::r::z=>cX g q r+xD g (r::z)
 |_=>0
def abO{g:Nat}{q:Int×Int}:∀xs:List (Int×Int),xD g (xs++[q,r])=xD g (xs++[q])+cX g q r
 |[]=>by simp[xD]
 |[a]=>by simp[xD]
 |a::b::z=>by
  have:=abO (g:=g) (q:=q) (r:=r) (b::z);simp only[zc,xD]at *;omega
def uU{qs:List (Int×Int)}{k:Nat}(hp:aQ G p=aj (qs.map bQ))(hq:qs[k]?=aj q)(h:R (.tup [.int q.1,.int q.2]) G):bA (.ref p) (.int (k:Int)) G R:=by
 rw[tD hp (d:=bQ q) (by rw[pU,kj,hq];rfl)];exact h
def rZ:∀(xs:List (Int×Int)){n:Nat},2<=n->(xs.map bQ).all (bB n)=ak
 |[],_,_=>rfl
 |q::r,n,h=>by
  rw[nj,a04,rZ r h];obtain⟨m,rfl⟩:∃m,n=m+2:=⟨n - 2,by omega⟩;rfl
def auP{xs:List (Int×Int)}:fV (xs.map bQ) (xs.map bQ)=ak:=xP (n:=2) λx hx=>jl.mp (rZ xs (by omega)) x hx
abbrev mxL:List Int->Int
 |[]=>0
 |[a]=>a
 |a::b::r=>if mxL (b::r)<a then a else mxL (b::r)
abbrev mnL:List Int->Int
 |[]=>0
 |[a]=>a
 |a::b::r=>if a<mnL (b::r)then a else mnL (b::r)
private theorem qF:∀{l:List Int},l≠[]->mxL l∈l/\∀a∈l,a<=mxL l
 |[],h=>absurd rfl h
 |[a],_=>⟨by simp[mxL],λb hb=>by simp at hb;simp[mxL,hb]⟩
 |a::b::r,_=>by
  obtain⟨h1,h2⟩:=qF (l:=b::r) (by simp);unfold mxL;split
  ·rename_i c;refine⟨by simp,λd hd=>?_⟩;rcases iy.mp hd with e|hd
   .omega
   .have:=h2 d hd;omega
  .rename_i c;refine⟨jo _ h1,λd hd=>?_⟩;rcases iy.mp hd with e|hd
   .omega
   .exact h2 d hd
private theorem a3O:∀{l:List Int},l≠[]->mnL l∈l/\∀a∈l,mnL l<=a
 |[],h=>absurd rfl h
 |[a],_=>⟨by simp[mnL],λb hb=>by simp at hb;simp[mnL,hb]⟩
 |a::b::r,_=>by
  obtain⟨h1,h2⟩:=a3O (l:=b::r) (by simp);unfold mnL;split
  ·rename_i c;refine⟨by simp,λd hd=>?_⟩;rcases iy.mp hd with e|hd
   .omega
   .have:=h2 d hd;omega
  .rename_i c;refine⟨jo _ h1,λd hd=>?_⟩;rcases iy.mp hd with e|hd
   .omega
   .exact h2 d hd
def adK{l:List Int}{M:Int}(h1:M∈l)(h2:∀a∈l,a<=M):M=mxL l:=by
 have n:l≠[]:=λe=>by subst e;cases h1
 have:=(qF n).2 M h1;have:=h2 _ (qF n).1;omega
def auQ{l:List Int}{M:Int}(h1:M∈l)(h2:∀a∈l,M<=a):M=mnL l:=by
 have n:l≠[]:=λe=>by subst e;cases h1
 have:=(a3O n).2 M h1;have:=h2 _ (a3O n).1;omega
abbrev xE(n:Int)(ps:List Int)(e g:Int):Int:=if g=e then(if ps=[]then 0 else if e=0 then 2*mxL ps else 2*(n - mnL ps))else n
abbrev cost(n:Int):List (List Int)->Int->List Int->Int
 |ps::r,e,g::es=>xE n ps e g+cost n r g es
 |_,_,_=>0
abbrev bI(e:Int)(es:List Int):Int:=es.getLastD e
def fP{g:Int}:bI e (es++[g])=g:=by simp[bI]
def ajJ{g:Int}:bI e (g::es)=bI g es:=by
 unfold bI;cases es with
 |nil=>rfl
 |cons a r=>simp[List.getLastD]
def yF{n:Int}{g:Int}:∀{bH:List (List Int)}{e:Int}{es:List Int},es.length=bH.length->cost n (bH++[ps]) e (es++[g])=cost n bH e es+xE n ps (bI e es) g
 |[],e,[],_=>by simp[cost,bI]
 |[],_,_::_,h=>by simp at h
 |_::_,_,[],h=>by simp at h
 |q::r,e,f::es,h=>by
  have ih:=yF (n:=n) (ps:=ps) (g:=g) (bH:=r) (e:=f) (es:=es) (by simpa using h);show xE n q e f+cost n (r++[ps]) f (es++[g])=xE n q e f+cost n r f es+xE n ps (bI e (f::es)) g;rw[ih,ajJ];omega
structure Ens(n:Int)(k:Nat)(es:List Int):Prop where
 len:es.length=k
 inn:∀g∈es,g=0∨g=n
def Ens.snoc{k:Nat}{g:Int}(h:Ens n k es)(hg:g=0∨g=n):Ens n (k+1) (es++[g]) :=
 ⟨by simp[h.len],λf hf=>(vg.mp hf).elim (h.inn f) λz=>by rw[qx.mp z];exact hg⟩
def Ens.split{k:Nat}(h:Ens n (k+1) es):∃es0 g,es=es0++[g]/\Ens n k es0/\(g=0∨g=n):=by
 have ne:es≠[]:=λe=>by have:=h.len;rw[e]at this;simp at this
 refine⟨es.dropLast,es.getLast ne,(a1q ne).symm,⟨by rw[List.length_dropLast,h.len];rfl,λg hg=>h.inn g (List.dropLast_subset _ hg)⟩,h.inn _ (List.getLast_mem ne)⟩
def Ens.last{k:Nat}(h:Ens n k es):bI 0 es=0∨bI 0 es=n:=by
 unfold bI;cases es with
 |nil=>exact .inl rfl
 |cons a r=>simp only[List.getLastD];exact h.inn _ (List.getLast_mem _)
@[simp]def Way:=Int×Int×List Int
abbrev Ent(n:Int)(bH:List (List Int))(z:Way):Prop:=Ens n bH.length z.2.2/\bI 0 z.2.2=z.1/\z.2.1=cost n bH 0 z.2.2
structure a2D(n:Int)(bH:List (List Int))(kvs:List Way):Prop where
 ent:∀z∈kvs,Ent n bH z
 all:∀es,Ens n bH.length es->∃z∈kvs,z.1=bI 0 es/\z.2.1<=cost n bH 0 es
 nd:(kvs.map (·.1)).Nodup
def a2D.nil:a2D n [] [(0,0,[])]:=by
 refine⟨λz hz=>?_,λes h=>?_,by simp⟩
 .rw[qx.mp hz];exact⟨⟨rfl,λg hg=>by cases hg⟩,rfl,rfl⟩
 .have:es=[]:=List.length_eq_zero_iff.mp h.len;subst this;exact⟨_,List.mem_singleton_self _,rfl,a0z _⟩
def a2D.key(h:a2D n bH kvs):∀z∈kvs,z.1=0∨z.1=n:=λz hz=>by
 obtain⟨h1,h2,_⟩:=h.ent z hz;rw[←h2];exact h1.last
def amA:∀{l:List Int},l.Nodup->(∀z∈l,z=0∨z=n)->l.length<=2
 |[],_,_=>by simp
 |[_],_,_=>by simp
 |[_,_],_,_=>by simp
 |a::b::c::r,nd,h=>by
  simp only[vh,iy,not_or]at nd;have h1:=h a (by simp);have h2:=h b (by simp);have h3:=h c (by simp);omega
def a2D.two{kvs:List Way}(h:a2D n bH kvs):kvs.length<=2:=by
 have:=amA h.nd (λz hz=>by obtain⟨w,hw,rfl⟩:=iw.mp hz;exact h.key w hw);simpa using this
structure Fnd(n:Int)(bH:List (List Int))(C:List (Int×Int))(fk:List Way):Prop where
 ent:∀z∈fk,Ent n bH z
 bd:∀c∈C,∃z∈fk,z.1=c.1/\z.2.1<=c.2
 nd:(fk.map (·.1)).Nodup
def Fnd.nil:Fnd n bH [] []:=⟨(λz hz=>by cases hz),(λc hc=>by cases hc),(by simp)⟩
def Fnd.two{fk:List Way}(h:Fnd n bH C fk):fk.length<=2:=by
 have:=amA h.nd (λz hz=>by
  obtain⟨w,hw,rfl⟩:=iw.mp hz;obtain⟨h1,h2,_⟩:=h.ent w hw;rw[←h2];exact h1.last)
 simpa using this
abbrev oJ(fk:List Way)(g:Int):Option (Int×List Int):=match fk with
 |[]=>aq
 |z::r=>if z.1=g then aj z.2 else oJ r g
abbrev agZ(fk:List Way)(g:Int)(w:Int×List Int):List Way:=if(oJ fk g).isSome then fk.map (λz=>if z.1=g then(z.1,w)else z)else fk++[(g,w)]
private theorem a8O:∀{fk:List Way}{g:Int}{w:Int×List Int},oJ fk g=aj w->(g,w)∈fk
 |[],_,_,h=>by cases h
 |z::r,g,w,h=>by
  unfold oJ at h;split at h
  .rename_i c;cases h;rw[←c];exact .head _
  .exact jo _ (a8O h)
def a68:∀{fk:List Way}{z:Way},(fk.map (·.1)).Nodup->z∈fk->oJ fk z.1=aj z.2
 |[],_,_,h=>by cases h
 |y::r,z,nd,h=>by
  rw[nj,vh]at nd;unfold oJ;rcases iy.mp h with e|h
  .rw[if_pos (by rw[e]),e]
  .rw[if_neg (λc=>nd.1 (by rw[c];exact iw.mpr ⟨z,h,rfl⟩))];exact a68 nd.2 h
private theorem abP:∀{fk:List Way}{g:Int},oJ fk g=aq->∀z∈fk,z.1≠g
 |[],_,_,_,h=>by cases h
 |y::r,g,h,z,hz=>by
  unfold oJ at h;split at h
  .cases h
  .rename_i c;rcases iy.mp hz with e|hz
   .rw[e];exact c
   .exact abP h z hz
private theorem Fnd.put{g:Int}{one w:Int×List Int}(h:Fnd n bH C fk)(ho:Ent n bH (g,one))(hw:(w=one/\(∀v,oJ fk g=aj v->one.1<=v.1))∨(oJ fk g=aj w/\w.1<=one.1)) :
  Fnd n bH (C++[(g,one.1)]) (agZ fk g w):=by
 have ew:Ent n bH (g,w):=by
  rcases hw with⟨e,_⟩|⟨e,_⟩
  .rw[e];exact ho
  .exact h.ent _ (a8O e)
 have lo:w.1<=one.1:=by
  rcases hw with⟨e,_⟩|⟨_,e⟩
  .rw[e];exact a0z _
  .exact e
 have lv:∀v,oJ fk g=aj v->w.1<=v.1:=λv hv=>by
  rcases hw with⟨e,q⟩|⟨e,_⟩
  .rw[e];exact q v hv
  .rw[e]at hv;cases hv;exact a0z _
 unfold agZ;split
 ·rename_i hs;obtain⟨v,hv⟩:=a0D.mp hs;have here:(g,w)∈fk.map (λz=>if z.1=g then(z.1,w)else z):=iw.mpr ⟨(g,v),a8O hv,by simp⟩;refine⟨λz hz=>?_,λc hc=>?_,?_⟩
  .obtain⟨y,hy,rfl⟩:=iw.mp hz;split
   ·rename_i e;rw[e];exact ew
   .exact h.ent y hy
  .rcases vg.mp hc with hc|hc
   .obtain⟨z,hz,h1,h2⟩:=h.bd c hc;by_cases e:z.1=g
    .have:=a68 h.nd hz;rw[e]at this;exact⟨_,here,by rw[←h1,e],Int.le_trans (lv _ this) h2⟩
    .exact⟨z,iw.mpr ⟨z,hz,if_neg e⟩,h1,h2⟩
   .rw[qx.mp hc];exact⟨_,here,rfl,lo⟩
  .have:(fk.map (λz=>if z.1=g then(z.1,w)else z)).map (·.1)=fk.map (·.1):=by
    rw[jz];refine vp λz _=>?_;simp only[Function.comp];split<;>rfl
   rw[this];exact h.nd
 .rename_i hs
  have hn:oJ fk g=aq:=by cases q:oJ fk g with
   |none=>rfl
   |some v=>rw[q]at hs;exact absurd rfl hs
  refine⟨λz hz=>?_,λc hc=>?_,?_⟩
  .rcases vg.mp hz with hz|hz
   .exact h.ent z hz
   .rw[qx.mp hz];exact ew
  .rcases vg.mp hc with hc|hc
   .obtain⟨z,hz,h1,h2⟩:=h.bd c hc;exact⟨z,zu _ hz,h1,h2⟩
   .rw[qx.mp hc];exact⟨_,nu _ (List.mem_singleton_self _),rfl,lo⟩
  .rw[mq,a1n];refine⟨h.nd,by simp,λa ha b hb e=>?_⟩;obtain⟨z,hz,rfl⟩:=iw.mp ha;simp at hb;exact abP hn z hz (e.trans hb)
private theorem Ent.next{z:Way}{g:Int}(h:Ent n bH z)(hg:g=0∨g=n):Ent n (bH++[ps]) (g,z.2.1+xE n ps z.1 g,z.2.2++[g]):=by
 obtain⟨h1,h2,h3⟩:=h;refine⟨by rw[kh];exact h1.snoc hg,fP,?_⟩;show z.2.1+xE n ps z.1 g=cost n (bH++[ps]) 0 (z.2.2++[g]);rw[yF h1.len,h2,h3]
abbrev cands(n:Int)(ps:List Int)(kvs:List Way):List (Int×Int):=kvs.flatMap λz=>[(0,z.2.1+xE n ps z.1 0),(n,z.2.1+xE n ps z.1 n)]
private theorem a2D.next(h:a2D n bH kvs)(f:Fnd n (bH++[ps]) (cands n ps kvs) fk):a2D n (bH++[ps]) fk:=by
 refine⟨f.ent,λes he=>?_,f.nd⟩;rw[kh]at he;obtain⟨es0,g,rfl,h0,hg⟩:=he.split;obtain⟨z,hz,z1,z2⟩:=h.all es0 h0
 have:(g,z.2.1+xE n ps z.1 g)∈cands n ps kvs:=by
  refine List.mem_flatMap.mpr ⟨z,hz,?_⟩;rcases hg with rfl|rfl<;>simp
 obtain⟨y,hy,y1,y2⟩:=f.bd _ this;refine⟨y,hy,by rw[fP];exact y1,?_⟩;rw[yF h0.len,←z1];simp only at y2;omega
def a2D.zero{n:Int}{bH:List (List Int)}(h:a2D n bH kvs):∃w,oJ kvs 0=aj w/\Ens n bH.length w.2/\bI 0 w.2=0/\w.1=cost n bH 0 w.2/\∀es,Ens n bH.length es->bI 0 es=0->w.1<=cost n bH 0 es:=by
 have rep:Ens n bH.length (a0d bH.length 0):=⟨by simp,λg hg=>.inl (List.eq_of_mem_replicate hg)⟩
 have rl:∀k,bI 0 (a0d k 0)=0:=λk=>by
  unfold bI;cases k with
  |zero=>rfl
  |succ k =>
   rw[List.replicate_succ'];exact fP
 obtain⟨z,hz,z1,z2⟩:=h.all _ rep;rw[rl]at z1;obtain⟨e1,e2,e3⟩:=h.ent z hz;have gz:=a68 h.nd hz;rw[z1]at gz;refine⟨z.2,gz,e1,by rw[e2,z1],e3,λes he hl=>?_⟩;obtain⟨y,hy,y1,y2⟩:=h.all es he;have gy:=a68 h.nd hy;rw[y1,hl,gz]at gy;rw[jd.inj gy];exact y2
abbrev cN(qs:List (Int×Int))(q:Int×Int):List (Int×Int):=if qs[qs.length - 1]?=aj q then qs else qs++[q]
def auR{qs:List (Int×Int)}(hl:qs[qs.length - 1]?=aj l):xD g (qs++[r])=xD g qs+cX g l r:=by
 have ne:qs≠[]:=λe=>by subst e;cases hl
 have e:qs=qs.dropLast++[l]:=by
  have h:=a1q ne;rw[List.getLast_eq_getElem]at h;rw[cg (by have:=a0c.mpr ne;omega)]at hl;rw[jd.inj hl]at h;exact h.symm
 have:=abO (g:=g) (q:=l) (r:=r) qs.dropLast;rw[←e]at this;rw[←this];congr 1;rw[show qs.dropLast++[l,r]=(qs.dropLast++[l])++[r] by simp,←e]
def adM:cX g q q=0:=by simp[cX]
def cL:(cN qs q)[(cN qs q).length - 1]?=aj q:=by
 unfold cN;split
 ·assumption
 .exact aoT
private theorem xF{qs:List (Int×Int)}(hl:qs[qs.length - 1]?=aj l):xD g (cN qs q)=xD g qs+cX g l q:=by
 unfold cN;split
 ·rename_i h;rw[hl]at h;rw[jd.inj h,adM];omega
 .exact auR hl
def sE{qs:List (Int×Int)}(w:Walk x y qs)(hl:qs[qs.length - 1]?=aj l)(hq:InP x y q)(hw:Wk y l q):Walk x y (cN qs q):=by
 unfold cN;split
 ·exact w
 .exact w.snoc hl hq hw
def yG{qs:List (Int×Int)}:(cN qs q).length<=qs.length+1:=by
 unfold cN;split
 ·omega
 .simp
abbrev fL(ps:List Int)(e:Int):Int:=if e=0 then mxL ps else mnL ps
abbrev spW(i:Int)(ps:List Int)(e g:Int):List (Int×Int):=if g=e then(if ps=[]then[]else[(i,e),(i,fL ps e),(i,e)])else[(i,e),(i,g)]
abbrev OkA(y:Nat)(bH:List (List Int)):Prop:=∀ps∈bH,∀p∈ps,1<=p/\p<=(y:Int)
def amB(h:∀p∈ps,1<=p/\p<=(y:Int))(n:ps≠[]):1<=fL ps e/\fL ps e<=y:=by
 unfold fL;split
 ·exact h _ (qF n).1
 .exact h _ (a3O n).1
def along{j k:Nat}(h:j<=k):cX g ((j:Int),e) ((k:Int),e)=(g:Int)*k - g*j:=by
 unfold cX;simp only[Int.sub_self];rw[←Int.mul_sub];have:(if(j:Int) - k<0 then -((j:Int) - k)else(j:Int) - k)=(k:Int) - j:=by split<;>omega
 rw[this];simp
def within{f:Int}:cX g (i,e) (i,f)=if e - f<0 then -(e - f)else e - f:=by
 unfold cX;simp
structure SpI(x y g:Nat)(bH:List (List Int))(es:List Int)(k:Nat)(qs:List (Int×Int)):Prop where
 w:Walk x y qs
 ex:∃j:Nat,qs[qs.length - 1]?=aj ((j:Int),bI 0 (es.take k))/\xD g qs=cost ((y:Int)+1) (bH.take k) 0 (es.take k)+(g:Int)*j/\j<=k/\j<x/\∀m,k=m+1->bH[m]?≠aj []->j=m
 len:qs.length<=1+3*k
def take_snoc{α:Type}{l:List α}{k:Nat}{a:α}(h:l[k]?=aj a):l.take (k+1)=l.take k++[a]:=by rw[a2V,h];rfl
def SpI.start(hx:1<=x):SpI x y g bH es 0 [(0,0)]:=by
 refine⟨⟨λq hq=>?_,λk q r _ hr=>?_⟩,⟨0,rfl,by simp[xD,cost],cu _,by omega,λm e=>by cases e⟩,by simp⟩
 .rw[qx]at hq;subst hq;exact⟨by decide,by simp only;omega,by decide,by simp only;omega⟩
 .exact absurd (fj.mp hr).1 (by simp)
private theorem SpI.next{bH:List (List Int)}{es:List Int}{k:Nat}{gl:Int}(h:SpI x y g bH es k qs)(hp:bH[k]?=aj ps)(he:es[k]?=aj gl)(hE:Ens ((y:Int)+1) bH.length es)(hk:k<x)(ok:OkA y bH) :
  SpI x y g bH es (k+1) ((spW k ps (bI 0 (es.take k)) gl).foldl cN qs):=by
 obtain⟨w,⟨j,hl,hlen,jk,jx,_⟩,ql⟩:=h;have ps1:=ok ps (iz hp);have eE:Ens ((y:Int)+1) k (es.take k):=⟨by rw[qy,hE.len];have:=(fj.mp hp).1;omega,λf hf=>hE.inn f (List.mem_of_mem_take hf)⟩;have el:=eE.last;have gi:=hE.inn gl (iz he)
 have ec:cost ((y:Int)+1) (bH.take (k+1)) 0 (es.take (k+1))=cost ((y:Int)+1) (bH.take k) 0 (es.take k)+xE ((y:Int)+1) ps (bI 0 (es.take k)) gl:=by
  rw[take_snoc hp,take_snoc he];exact yF (by rw[eE.len,qy];have:=(fj.mp hp).1;omega)
 have ee:bI 0 (es.take (k+1))=gl:=by rw[take_snoc he];exact fP
 generalize bI 0 (es.take k)=e at *;have i1:InP x y ((k:Int),e):=⟨by simp only;omega,by simp only;omega,by simp only;omega,by simp only;omega⟩;have q1:=sE w hl i1 (.inr ⟨rfl,el⟩);have l1:=xF (g:=g) (q:=((k:Int),e)) hl;rw[along jk]at l1;have s1:=yG (qs:=qs) (q:=((k:Int),e));unfold spW;by_cases c:gl=e
 .rw[if_pos c];by_cases n:ps=[]
  .rw[if_pos n];refine⟨w,⟨j,by rw[ee,c];exact hl,?_,by omega,jx,λm e hn=>?_⟩,by simp only[List.foldl_nil];omega⟩
   .rw[ec,List.foldl_nil,hlen];unfold xE;rw[if_pos c,if_pos n];simp
   .cases e;exact absurd (by rw[hp,n]) hn
  .rw[if_neg n];have⟨f1,f2⟩:=amB (e:=e) ps1 n;have i2:InP x y ((k:Int),fL ps e):=⟨by simp only;omega,by simp only;omega,by simp only;omega,by simp only;omega⟩;have q2:=sE q1 cL i2 (.inl rfl);have l2:=xF (g:=g) (q:=((k:Int),fL ps e)) (cL (qs:=qs) (q:=((k:Int),e)));have s2:=yG (qs:=cN qs ((k:Int),e)) (q:=((k:Int),fL ps e));have q3:=sE q2 cL i1 (.inl rfl);have l3:=xF (g:=g) (q:=((k:Int),e)) (cL (qs:=cN qs ((k:Int),e)) (q:=((k:Int),fL ps e)));have s3:=yG (qs:=cN (cN qs ((k:Int),e)) ((k:Int),fL ps e)) (q:=((k:Int),e));rw[within]at l2 l3;show SpI x y g bH es (k+1) (cN (cN (cN qs ((k:Int),e)) ((k:Int),fL ps e)) ((k:Int),e));refine⟨q3,⟨k,by rw[cL,ee,c],?_,by omega,hk,λm e hn=>by omega⟩,by omega⟩
   have hs:xE ((y:Int)+1) ps e gl=2*(if e - fL ps e<0 then -(e - fL ps e)else e - fL ps e):=by
    unfold xE;rw[if_pos c,if_neg n];rcases el with z|z
    .rw[if_pos z];have:fL ps e=mxL ps:=by unfold fL;rw[if_pos z]
     rw[←this];split<;>omega
    .have z0:¬ e=0:=by omega
     rw[if_neg z0];have:fL ps e=mnL ps:=by unfold fL;rw[if_neg z0]
     rw[←this];split<;>omega
   rw[ec,hs,l3,l2,l1,hlen];split<;>split<;>omega
 .rw[if_neg c];have i2:InP x y ((k:Int),gl):=⟨by simp only;omega,by simp only;omega,by simp only;omega,by simp only;omega⟩;have q2:=sE q1 cL i2 (.inl rfl);have l2:=xF (g:=g) (q:=((k:Int),gl)) (cL (qs:=qs) (q:=((k:Int),e)));have s2:=yG (qs:=cN qs ((k:Int),e)) (q:=((k:Int),gl));rw[within]at l2;show SpI x y g bH es (k+1) (cN (cN qs ((k:Int),e)) ((k:Int),gl));refine⟨q2,⟨k,by rw[cL,ee],?_,by omega,hk,λm e hn=>by omega⟩,by omega⟩
  have hs:xE ((y:Int)+1) ps e gl=(y:Int)+1:=by
   unfold xE;rw[if_neg c]
  rw[ec,hs,l2,l1,hlen];split<;>omega
def SpI.home{bH:List (List Int)}(h:SpI x y g bH es bH.length qs)(hx:1<=x)(hE:Ens ((y:Int)+1) bH.length es)(h0:bI 0 es=0)(hn:∀m,bH.length=m+1->bH[m]?≠aj []) :
  Walk x y (cN qs (0,0))/\cN qs (0,0)≠[]/\(cN qs (0,0)).length<=2+3*bH.length/\xD g (cN qs (0,0))=cost ((y:Int)+1) bH 0 es+2*(g:Int)*((bH.length - 1:Nat):Int):=by
 obtain⟨w,⟨j,hl,hlen,jk,jx,hj⟩,ql⟩:=h;rw[vo (by rw[hE.len];exact cu _),h0]at hl;rw[vo (cu _),vo (by rw[hE.len];exact cu _)]at hlen
 have j1:j=bH.length - 1:=by
  cases q:bH.length with
  |zero=>omega
  |succ m=>rw[hj m q (hn m q)];rfl
 have l1:=xF (g:=g) (q:=((0:Int),(0:Int))) hl;have s1:=yG (qs:=qs) (q:=((0:Int),(0:Int)));refine⟨sE w hl ⟨by decide,by simp only;omega,by decide,by simp only;omega⟩ (.inr ⟨rfl,.inl rfl⟩),λe=>?_,by omega,?_⟩
 .have:=cL (qs:=qs) (q:=((0:Int),(0:Int)));rw[e]at this;cases this
 .rw[l1,hlen,←j1];unfold cX;simp only[Int.sub_self,Int.sub_zero];have:(if(j:Int)<0 then -(j:Int)else(j:Int))=(j:Int):=if_neg (by omega);rw[this];have:(2:Int)*(g:Int)*(j:Int)=(g:Int)*j+(g:Int)*j:=by rw[Int.mul_assoc];omega
  rw[this];simp;omega
abbrev a8P(a b p:Int):List (Int×Int):=if a<=b then(je (b - a).toNat).map (λi:Nat=>(a+1+(i:Int),p))else(je (a - b).toNat).map (λi:Nat=>(a - 1 - (i:Int),p))
abbrev a5L(a p q:Int):List (Int×Int):=if p<=q then(je (q - p).toNat).map (λi:Nat=>(a,p+1+(i:Int)))else(je (p - q).toNat).map (λi:Nat=>(a,p - 1 - (i:Int)))
abbrev stp(c d:Int×Int):List (Int×Int):=a8P c.1 d.1 c.2++a5L d.1 c.2 d.2
abbrev sgn(a b:Int):Int:=if a<b then 1 else if b<a then -1 else 0
def adN{α:Type}{n:Nat}{f:Nat->α}(h:0<n):(je n).map f=f 0::(je (n - 1)).map (λi=>f (i+1)):=by
 obtain⟨m,rfl⟩:∃m,n=m+1:=⟨n - 1,by omega⟩;rw[a2p,nj,jz];rfl
def aoW{a b p:Int}(h:a≠b):a8P a b p=(a+sgn a b,p)::a8P (a+sgn a b) b p:=by
 unfold a8P sgn;by_cases c:a<b
 .rw[if_pos (by omega),if_pos c,if_pos (by omega),adN (by omega)];refine congr (congrArg _ (by simp)) ?_;rw[show(b - (a+1)).toNat=(b - a).toNat - 1 by omega];refine vp λi _=>?_;simp only[a2z,Prod.mk.injEq,and_true];omega
 .rw[if_neg (by omega),if_neg c,if_pos (by omega),adN (by omega)];refine congr (congrArg _ (by simp;omega)) ?_;by_cases d:a+-1<=b
  .rw[if_pos d,show(b - (a+-1)).toNat=0 by omega,show(a - b).toNat - 1=0 by omega];rfl
  .rw[if_neg d,show(a+-1 - b).toNat=(a - b).toNat - 1 by omega];refine vp λi _=>?_;simp only[a2z,Prod.mk.injEq,and_true];omega
def aoX{a p q:Int}(h:p≠q):a5L a p q=(a,p+sgn p q)::a5L a (p+sgn p q) q:=by
 unfold a5L sgn;by_cases c:p<q
 .rw[if_pos (by omega),if_pos c,if_pos (by omega),adN (by omega)];refine congr (congrArg _ (by simp)) ?_;rw[show(q - (p+1)).toNat=(q - p).toNat - 1 by omega];refine vp λi _=>?_;simp only[a2z,Prod.mk.injEq,true_and];omega
 .rw[if_neg (by omega),if_neg c,if_pos (by omega),adN (by omega)];refine congr (congrArg _ (by simp;omega)) ?_;by_cases d:p+-1<=q
  .rw[if_pos d,show(q - (p+-1)).toNat=0 by omega,show(p - q).toNat - 1=0 by omega];rfl
  .rw[if_neg d,show(p+-1 - q).toNat=(p - q).toNat - 1 by omega];refine vp λi _=>?_;simp only[a2z,Prod.mk.injEq,true_and];omega
def a3P{a p:Int}:a8P a a p=[]:=by simp[a8P]
def a3Q{a p:Int}:a5L a p p=[]:=by simp[a5L]
def lU:stp c c=[]:=by simp[stp,a3P,a3Q]
abbrev nxt(c d:Int×Int):Int×Int:=if c.1=d.1 then(c.1,c.2+sgn c.2 d.2)else(c.1+sgn c.1 d.1,c.2)
def a2E(h:c≠d):stp c d=nxt c d::stp (nxt c d) d:=by
 obtain⟨a,p⟩:=c;obtain⟨b,q⟩:=d;unfold nxt;simp only;by_cases e:a=b
 .subst e;have n:p≠q:=λz=>h (by rw[z]);rw[if_pos rfl];simp only[stp,a3P,a0t];exact aoX n
 .rw[if_neg e];simp only[stp];rw[aoW e,zc]
def auS{a b p:Int}:(a8P a b p).length=(if a<=b then b - a else a - b).toNat:=by
 unfold a8P;split<;>simp
def auT{a p q:Int}:(a5L a p q).length=(if p<=q then q - p else p - q).toNat:=by
 unfold a5L;split<;>simp
def a69{c d:Int×Int}:(stp c d).length=(if c.1<=d.1 then d.1 - c.1 else c.1 - d.1).toNat+(if c.2<=d.2 then d.2 - c.2 else c.2 - d.2).toNat:=by
 unfold stp;rw[kh,auS,auT]
def amC{j k:Nat}(h:j<=k):stp ((j:Int),e) (((k+1:Nat):Int),e)=stp ((j:Int),e) ((k:Int),e)++[(((k+1:Nat):Int),e)]:=by
 unfold stp a8P;simp only[a3Q,ud];rw[if_pos (by omega),if_pos (by omega),show(((k+1:Nat):Int) - j).toNat=((k:Int) - j).toNat+1 by omega,List.range_succ,mq];congr 1;simp only[nj,a0k,List.cons.injEq,Prod.mk.injEq,and_true];omega
abbrev pth(c:Int×Int):List (Int×Int)->List (Int×Int)
 |[]=>[]
 |q::r=>stp c q++pth q r
abbrev dZ:List (Int×Int)->List (Int×Int)
 |[]=>[]
 |q::r=>q::pth q r
def ah0{q:Int×Int}:∀{l:List (Int×Int)}{c:Int×Int},pth c (l++[q])=pth c l++stp (l.getLastD c) q
 |[],c=>by simp[pth]
 |a::r,c=>by
  show stp c a++pth a (r++[q])=(stp c a++pth a r)++stp ((a::r).getLastD c) q;rw[ah0,qu];cases r with
  |nil=>simp
  |cons b t=>simp only[a2d,List.getLast?_cons_cons];rw[List.getLast?_cons];rfl
def iT{l:List (Int×Int)}(h:l[l.length - 1]?=aj c):dZ (l++[q])=dZ l++stp c q:=by
 cases l with
 |nil=>cases h
 |cons a r =>
  show a::pth a (r++[q])=a::pth a r++stp c q;rw[ah0]
  have:r.getLastD a=c:=by
   cases r with
   |nil=>simpa using h
   |cons b t =>
    rw[a2d,List.getLast?_eq_getElem?]
    have h':(b::t)[(b::t).length - 1]?=aj c:=by
     have e:(a::b::t).length - 1=((b::t).length - 1)+1:=by simp
     rw[e,List.getElem?_cons_succ]at h;exact h
    rw[h'];rfl
  rw[this];rfl
abbrev inn(i:Int)(ps:List Int)(e g:Int):List (Int×Int):=if g=e then(if ps=[]then[]else stp (i,e) (i,fL ps e)++stp (i,fL ps e) (i,e))else stp (i,e) (i,g)
abbrev rem(i:Nat)(e:Int):List (List Int)->List Int->List (Int×Int)
 |ps::r,g::es=>(if i=0 then[]else[((i:Int),e)])++(inn i ps e g++rem (i+1) g r es)
 |_,_=>[]
abbrev tot(bH:List (List Int))(es:List Int):List (Int×Int):=(0,0)::(rem 0 0 bH es++stp (((bH.length - 1:Nat):Int),0) (0,0))
def ah1{k:Nat}{g:Int}{bH:List (List Int)}{es:List Int}(hp:bH[k]?=aj ps)(he:es[k]?=aj g):rem k e (bH.drop k) (es.drop k)=(if k=0 then[]else[((k:Int),e)])++(inn k ps e g++rem (k+1) g (bH.drop (k+1)) (es.drop (k+1))):=by
 have h1:=fj.mp hp;have h2:=fj.mp he;rw[uq h1.1,uq h2.1,h1.2,h2.2];rfl
structure SpP(bH:List (List Int))(es:List Int)(k:Nat)(qs:List (Int×Int)):Prop where
 ex:∃j:Nat,qs[qs.length - 1]?=aj ((j:Int),bI 0 (es.take k))/\j<=k - 1/\(∀m,k=m+1->bH[m]?≠aj []->j=m)/\dZ qs++stp ((j:Int),bI 0 (es.take k)) (((k - 1:Nat):Int),bI 0 (es.take k))++rem k (bI 0 (es.take k)) (bH.drop k) (es.drop k)=(0,0)::rem 0 0 bH es
def SpP.start:SpP bH es 0 [(0,0)]:=⟨⟨0,rfl,cu _,(λm e=>by cases e),by simp[dZ,pth,lU,bI]⟩⟩
private theorem nA{qs:List (Int×Int)}(hl:qs[qs.length - 1]?=aj l):dZ (cN qs q)=dZ qs++stp l q:=by
 unfold cN;split
 ·rename_i h;rw[hl]at h;rw[jd.inj h,lU,ud]
 .exact iT hl
def aHY{j k:Nat}(h:j<=k - 1):stp ((j:Int),e) ((k:Int),e)=stp ((j:Int),e) (((k - 1:Nat):Int),e)++(if k=0 then[]else[((k:Int),e)]):=by
 cases k with
 |zero=>simp
 |succ m=>rw[if_neg (by omega)];exact amC (by omega)
private theorem SpP.next{es:List Int}{k:Nat}{gl:Int}(h:SpP bH es k qs)(hp:bH[k]?=aj ps)(he:es[k]?=aj gl):SpP bH es (k+1) ((spW k ps (bI 0 (es.take k)) gl).foldl cN qs):=by
 obtain⟨j,hl,jk,_,ht⟩:=h;have ee:bI 0 (es.take (k+1))=gl:=by rw[take_snoc he];exact fP
 rw[ah1 hp he]at ht;generalize bI 0 (es.take k)=e at *;have s1:=aHY (e:=e) jk;rw[←qu,qu (dZ qs),←s1]at ht;unfold spW;unfold inn at ht;by_cases c:gl=e
 .rw[if_pos c];rw[if_pos c]at ht;by_cases n:ps=[]
  .rw[if_pos n];rw[if_pos n,a0t]at ht;refine⟨j,by rw[ee,c];exact hl,by omega,λm e hn=>?_,?_⟩
   .cases e;exact absurd (by rw[hp,n]) hn
   .rw[ee];subst c;exact ht
  .rw[if_neg n];rw[if_neg n]at ht;show SpP bH es (k+1) (cN (cN (cN qs ((k:Int),e)) ((k:Int),fL ps e)) ((k:Int),e));refine⟨k,by rw[cL,ee,c],by omega,λm e hn=>by omega,?_⟩;rw[nA cL,nA cL,nA hl,ee];subst c;rw[show k+1 - 1=k by omega,lU,ud,←ht];simp only[qu]
 .rw[if_neg c];rw[if_neg c]at ht;show SpP bH es (k+1) (cN (cN qs ((k:Int),e)) ((k:Int),gl));refine⟨k,by rw[cL,ee],by omega,λm e hn=>by omega,?_⟩;rw[nA cL,nA hl,ee,show k+1 - 1=k by omega,lU,ud,←ht];simp only[qu]
def SpP.home{bH:List (List Int)}{es:List Int}(h:SpP bH es bH.length qs)(hl:es.length=bH.length)(h0:bI 0 es=0)(hn:∀m,bH.length=m+1->bH[m]?≠aj []):dZ (cN qs (0,0))=tot bH es:=by
 obtain⟨j,h1,jk,hj,ht⟩:=h
 have j1:j=bH.length - 1:=by
  cases q:bH.length with
  |zero=>omega
  |succ m=>rw[hj m q (hn m q)];rfl
 rw[vo (by rw[hl];exact cu _),h0]at h1 ht;rw[nA h1,j1];rw[j1,lU,ud,a2q (cu _),show rem bH.length 0 [] (es.drop bH.length)=[]from rfl,ud]at ht;unfold tot;rw[ht];rfl
structure DuP(bH:List (List Int))(es:List Int)(k:Nat)(qs:List (Int×Int)):Prop where
 last:qs[qs.length - 1]?=aj (((k - 1:Nat):Int),bI 0 (es.take k))
 path:dZ qs++rem k (bI 0 (es.take k)) (bH.drop k) (es.drop k)=(0,0)::rem 0 0 bH es
def DuP.start:DuP bH es 0 [(0,0)]:=⟨rfl,by simp[dZ,pth,bI]⟩
abbrev du1(k:Nat)(e:Int)(qs:List (Int×Int)):List (Int×Int):=if k=0 then qs else qs++[((k:Int),e)]
abbrev du2(k:Nat)(ps:List Int)(e g:Int)(qs:List (Int×Int)):List (Int×Int):=if g=e then(if ps=[]then qs else qs++[((k:Int),fL ps e),((k:Int),e)])else qs++[((k:Int),g)]
def a2F:(qs++[a])[(qs++[a]).length - 1]?=aj a:=by simp
def aHZ{es:List Int}{k:Nat}(h:DuP bH es k qs):(du1 k (bI 0 (es.take k)) qs)[(du1 k (bI 0 (es.take k)) qs).length - 1]?=aj ((k:Int),bI 0 (es.take k))/\dZ (du1 k (bI 0 (es.take k)) qs)=dZ qs++(if k=0 then[]else[((k:Int),bI 0 (es.take k))]):=by
 unfold du1;cases k with
 |zero=>simp only[if_pos];exact⟨h.last,by simp⟩
 |succ m =>
  rw[if_neg (by omega),if_neg (by omega)];refine⟨a2F,?_⟩;rw[iT h.last,show m+1 - 1=m by omega,amC (cu _),lU];rfl
private theorem DuP.next{es:List Int}{k:Nat}{gl:Int}(h:DuP bH es k qs)(hp:bH[k]?=aj ps)(he:es[k]?=aj gl):DuP bH es (k+1) (du2 k ps (bI 0 (es.take k)) gl (du1 k (bI 0 (es.take k)) qs)):=by
 have⟨h1,h2⟩:=aHZ h;have ht:=h.path;have ee:bI 0 (es.take (k+1))=gl:=by rw[take_snoc he];exact fP
 rw[ah1 hp he]at ht;generalize bI 0 (es.take k)=e at *;rw[←qu,←h2]at ht;generalize du1 k e qs=q1 at *;unfold du2;unfold inn at ht;by_cases c:gl=e
 .rw[if_pos c];rw[if_pos c]at ht;subst c;by_cases n:ps=[]
  .rw[if_pos n];rw[if_pos n,a0t]at ht;exact⟨by rw[ee];exact h1,by rw[ee];exact ht⟩
  .rw[if_neg n];rw[if_neg n]at ht;rw[show q1++[((k:Int),fL ps gl),((k:Int),gl)]=(q1++[((k:Int),fL ps gl)])++[((k:Int),gl)] by simp];refine⟨by rw[ee];exact a2F,?_⟩;rw[ee,iT a2F,iT h1,←ht];simp only[qu]
 .rw[if_neg c];rw[if_neg c]at ht;refine⟨by rw[ee];exact a2F,?_⟩;rw[ee,iT h1,←ht];simp only[qu]
def DuP.home{bH:List (List Int)}{es:List Int}(h:DuP bH es bH.length qs)(hl:es.length=bH.length)(h0:bI 0 es=0):dZ (qs++[(0,0)])=tot bH es:=by
 have h1:=h.last;have ht:=h.path;rw[vo (by rw[hl];exact cu _),h0]at h1 ht;rw[iT h1];rw[a2q (cu _),show rem bH.length 0 [] (es.drop bH.length)=[]from rfl,ud]at ht;unfold tot;rw[ht];rfl
abbrev scan(last:Nat)(f:List Int):List (Int×Int)->List Int
 |a::b::r=>scan last (if a.1=(f.length:Int)/\b.1=(f.length:Int)+1/\f.length<last then f++[a.2]else f) (b::r)
 |_=>f
def abQ{last:Nat}{f:List Int}(h:f.length=last):∀{l:List (Int×Int)},scan last f l=f
 |[]=>rfl
 |[_]=>rfl
 |a::b::r=>by
  unfold scan;rw[if_neg (by omega)];exact abQ h
def aAE{last:Nat}{f:List Int}{d:Int×Int}{l:List (Int×Int)}(h2:d.1=(f.length:Int)):scan last f (c::d::l)=scan last f (d::l):=by
 rw[scan,if_neg (by omega)]
def a8Q{last:Nat}{f:List Int}{d:Int×Int}{l:List (Int×Int)}(h2:d.1=(f.length:Int)):∀(n:Nat){c:Int×Int},(stp c d).length=n->c.1=(f.length:Int)->scan last f (c::(stp c d++l))=scan last f (d::l):=by
 intro n
 induction n with
 |zero =>
  intro c hn hc;have e:stp c d=[]:=List.length_eq_zero_iff.mp hn;by_cases q:c=d
  .rw[e,q];rfl
  .rw[a2E q]at e;cases e
 |succ n ih =>
  intro c hn hc;by_cases q:c=d
  .rw[q,lU]at hn;cases hn
  .have n1:(nxt c d).1=(f.length:Int):=by unfold nxt;rw[if_pos (by rw[hc,h2])];exact hc
   rw[a2E q,zc,aAE n1];rw[a2E q]at hn;exact ih (by simpa using hn) n1
private theorem ah2{last:Nat}{f:List Int}{i:Nat}{g:Int}{l:List (Int×Int)}(h:f.length=i):scan last f (((i:Int),e)::(inn i ps e g++l))=scan last f (((i:Int),g)::l):=by
 subst h;unfold inn;split
 ·rename_i c;subst c;split
  ·rfl
  .rw[qu,a8Q rfl _ rfl rfl,a8Q rfl _ rfl rfl]
 .rw[a8Q rfl _ rfl rfl]
def ah3{last:Nat}:∀{bH:List (List Int)}{es:List Int}{i:Nat}{e:Int}{f:List Int},es.length=bH.length->f.length=i->i+bH.length=last->scan last f (((i:Int),e)::(rem (i+1) e bH es++H))=f++(e::es).take bH.length
 |[],es,i,e,f,_,h2,h3=>by
  rw[abQ (by simp at h3;omega)];simp
 |ps::r,[],_,_,_,h,_,_=>by simp at h
 |ps::r,g::es,i,e,f,h1,h2,h3=>by
  rw[rem,if_neg (by omega)];simp only[zc,a0t,qu];rw[scan,if_pos ⟨by simp only[h2],by simp only[h2];omega,by simp at h3;omega⟩,ah2 (by simp[h2])];rw[ah3 (by simpa using h1) (by simp[h2]) (by simp at h3;omega)];simp
def aAF{k:Nat}{es:List Int}(h:es.length=k+1)(h0:bI 0 es=0):es.take k++[0]=es:=by
 have ne:es≠[]:=λe=>by rw[e]at h;cases h
 have h1:=a1q ne
 have h2:es.getLast ne=0:=by
  unfold bI at h0;rw[a2d,List.getLast?_eq_some_getLast ne]at h0;exact h0
 rw[List.dropLast_eq_take,h2,h]at h1;exact h1
def auU{r:List (List Int)}{es:List Int}(h:es.length=r.length+1)(h0:bI 0 es=0):scan r.length [] (tot (ps::r) es)++[0]=es:=by
 obtain⟨g,es',rfl⟩:∃g es',es=g::es':=by cases es with
  |nil=>cases h
  |cons g es'=>exact⟨g,es',rfl⟩
 have e:tot (ps::r) (g::es')=(((0:Nat):Int),(0:Int))::(inn ((0:Nat):Int) ps 0 g++(rem 1 g r es'++stp (((r.length+1 - 1:Nat):Int),0) (0,0))):=by
  unfold tot;rw[rem,if_pos rfl];simp only[a0t,qu];rfl
 rw[e,ah2 (i:=0) rfl,ah3 (i:=0) (by simpa using h) rfl (by simp),a0t];exact aAF h h0
def auV{a p q r:Int}(h:(p<r/\r<=q)∨(q<=r/\r<p)):(a,r)∈a5L a p q:=by
 unfold a5L;split
 ·exact iw.mpr ⟨(r - p - 1).toNat,ou.mpr (by omega),by simp only[Prod.mk.injEq,true_and];omega⟩
 .exact iw.mpr ⟨(p - r - 1).toNat,ou.mpr (by omega),by simp only[Prod.mk.injEq,true_and];omega⟩
def amE{a p q r:Int}(h:(p<r/\r<=q)∨(q<=r/\r<p)):(a,r)∈stp (a,p) (a,q):=nu _ (auV h)
def aAG{p g:Int}(hp:p∈ps)(h:∀p∈ps,1<=p/\p<=(y:Int))(he:e=0∨e=(y:Int)+1)(hg:g=0∨g=(y:Int)+1):(i,p)∈inn i ps e g:=by
 have hb:=h p hp;have ne:ps≠[]:=λe=>by subst e;cases hp
 unfold inn;rw[if_neg ne];split
 ·refine zu _ (amE ?_);unfold fL;rcases he with rfl|rfl
  .rw[if_pos rfl];have:=(qF ne).2 p hp;omega
  .rw[if_neg (by omega)];have:=(a3O ne).2 p hp;omega
 .exact amE (by omega)
def amF{y:Nat}{p:Int}:∀{bH:List (List Int)}{es:List Int}{i k:Nat}{e:Int},es.length=bH.length->(∀ps∈bH,∀p∈ps,1<=p/\p<=(y:Int))->(∀g∈es,g=0∨g=(y:Int)+1)->(e=0∨e=(y:Int)+1)->bH[k]?=aj ps->p∈ps->(((i+k:Nat):Int),p)∈rem i e bH es
 |[],_,_,_,_,_,_,_,_,h,_=>by simp at h
 |_::_,[],_,_,_,h,_,_,_,_,_=>by simp at h
 |ps0::r,g::es,i,k,e,h1,h2,h3,he,hk,hp=>by
  rw[rem];refine nu _ ?_;have hg:=h3 g (by simp);cases k with
  |zero =>
   simp at hk;subst hk;exact zu _ (aAG hp (h2 _ (by simp)) he hg)
  |succ k =>
   refine nu _ ?_;have:=amF (i:=i+1) (k:=k) (e:=g) (by simpa using h1) (λq hq=>h2 q (jo _ hq)) (λq hq=>h3 q (jo _ hq)) hg (by simpa using hk) hp;rw[show i+(k+1)=i+1+k by omega];exact this
def aAH{p:Int}{bH:List (List Int)}{es:List Int}{k:Nat}(h1:es.length=bH.length)(h2:∀ps∈bH,∀p∈ps,1<=p/\p<=(y:Int))(h3:∀g∈es,g=0∨g=(y:Int)+1)(hk:bH[k]?=aj ps)(hp:p∈ps):((k:Int),p)∈tot bH es:=by
 refine jo _ (zu _ ?_);have:=amF (i:=0) (k:=k) (e:=0) h1 h2 h3 (.inl rfl) hk hp
 rwa [Nat.zero_add]at this
private theorem aAI{g:Int}(h:∀p∈ps,1<=p/\p<=(y:Int))(he:e=0∨e=(y:Int)+1)(hg:g=0∨g=(y:Int)+1):(inn i ps e g).length<=2*(y+1):=by
 unfold inn;split
 ·split
  ·simp
  .rename_i ne
   have:1<=fL ps e/\fL ps e<=y:=by
    unfold fL;split
    ·exact h _ (qF ne).1
    .exact h _ (a3O ne).1
   rw[kh,a69,a69];simp only
   (repeat' split)<;>omega
 .rw[a69];simp only
  (repeat' split)<;>omega
def amG{y:Nat}:∀{bH:List (List Int)}{es:List Int}{i:Nat}{e:Int},(∀ps∈bH,∀p∈ps,1<=p/\p<=(y:Int))->(∀g∈es,g=0∨g=(y:Int)+1)->(e=0∨e=(y:Int)+1)->(rem i e bH es).length<=bH.length*(2*(y+1)+1)
 |[],_,_,_,_,_,_=>by simp[rem]
 |_::_,[],_,_,_,_,_=>by simp[rem]
 |ps::r,g::es,i,e,h2,h3,he=>by
  have hg:=h3 g (by simp);have a1:=aAI (i:=i) (h2 ps (by simp)) he hg;have a2:=amG (i:=i+1) (e:=g) (bH:=r) (λq hq=>h2 q (jo _ hq)) (λq hq=>h3 q (jo _ hq)) hg;rw[rem,kh,kh,qz,Nat.add_mul];have:(if i=0 then[]else[((i:Int),e)]).length<=1:=by split<;>simp
  omega
def aAJ{bH:List (List Int)}(h1:bH.length<=x)(hx:x<=26)(hy:y<=99)(h2:∀ps∈bH,∀p∈ps,1<=p/\p<=(y:Int))(h3:∀g∈es,g=0∨g=(y:Int)+1):(tot bH es).length<=6000:=by
 unfold tot;have a:=amG (i:=0) (e:=0) (bH:=bH) (es:=es) h2 h3 (.inl rfl);rw[qz,kh,a69];simp only;have:bH.length*(2*(y+1)+1)<=26*(2*(99+1)+1):=Nat.mul_le_mul (by omega) (by omega)
 (repeat' split)<;>omega
def auW{qs:List (Int×Int)}{k:Nat}:(dZ (qs.take k)).length<=(dZ qs).length:=by
 have pl:∀(l:List (Int×Int))(c:Int×Int)(n:Nat),(pth c (l.take n)).length<=(pth c l).length:=by
  intro l
  induction l with
  |nil=>intro c n;simp[pth]
  |cons a r ih =>
   intro c n;cases n with
   |zero=>simp[pth]
   |succ n =>
    rw[List.take_succ_cons,pth,pth,kh,kh];have:=ih a n;omega
 cases qs with
 |nil=>simp
 |cons a r =>
  cases k with
  |zero=>simp[dZ]
  |succ k =>
   rw[List.take_succ_cons,dZ,dZ,qz,qz];have:=pl r a k;omega
def auX(hp:aQ G p=aj (ns.map D.int))(hn:ns≠[])(h:∀M,M∈ns->(∀a∈ns,a<=M)->R (.int M) G):zQ [.ref p] G R:=by
 unfold zQ anT;simp only[hp];exact⟨ns,rfl,hn,h⟩
def aCP(hp:aQ G p=aj (ns.map D.int))(hn:ns≠[])(h:∀M,M∈ns->(∀a∈ns,M<=a)->R (.int M) G):vN [.ref p] G R:=by
 unfold vN anT;simp only[hp];exact⟨ns,rfl,hn,h⟩
def a8R{ps:List Int}(hp:aQ G p=aj (ps.map D.int))(n:ps≠[])(h:R (.int (fL ps e)) G):iV K A [.ref p,.int e] G R EX:=by
 refine⟨rfl,?_⟩;show zW K A _ _ [aj (.ref p),aj (.int e)] G;exists zW;unfold fL at h;refine fX (λc=>auX hp n λM h1 h2=>?_) λc=>aCP hp n λM h1 h2=>?_
 .rw[if_pos (by simpa using c),←adK h1 h2]at h;exact bK.here h
 .rw[if_neg (by simpa using c),←auQ h1 h2]at h;exact bK.here h
def aAK{ps:List Int}{gl:Int}(o:OkP x y g)(hp:aQ G p=aj (ps.map D.int))(hb:∀q∈ps,1<=q/\q<=(y:Int))(he:e=0∨e=(y:Int)+1)(h:R (.int (xE ((y:Int)+1) ps e gl)) G):iH K A [gZ x y g,.ref p,.int e,.int gl] G R EX:=by
 refine⟨rfl,?_⟩;replace h:=bK.here h;show nR K A _ _ [aj (gZ x y g),aj (.ref p),aj (.int e),aj (.int gl)] G;have oy:=o.y1;unfold xE at h;exists nR;refine ai9 (λc=>?_) λc=>?_
 .unfold gZ;symm;rw[if_neg (by simpa using c)]at h;exact h
 .rw[if_pos (by simpa using c)]at h;exists qY,dG hp;by_cases n:ps=[]
  .subst n;rw[if_pos rfl]at h;exact h
  .rw[if_neg n]at h;have e0:((ps.length:Int)==0)=ao:=by simpa using n
   rw[e0];exists qX;refine a8R hp n ?_;have⟨f1,f2⟩:=amB (e:=e) hb n;symm
   have z:(2:Int)*(if fL ps e - e<0 then -(fL ps e - e)else fL ps e - e)=if e=0 then 2*mxL ps else 2*((y:Int)+1 - mnL ps):=by
    unfold fL at f1 f2 ⊢;by_cases c0:e=0
    .simp only[if_pos c0]at f1 f2 ⊢;split<;>omega
    .simp only[if_neg c0]at f1 f2 ⊢;split<;>omega
   rw[z];exact h
abbrev wV(w:Int×List Int):D:=.tup [.int w.1,.tup (w.2.map D.int)]
abbrev wD(z:Way):DK×D:=(.inl (.inl z.1),wV z.2)
def amH{g:Int}:∀{fk:List Way},nH (fk.map wD) (.inl (.inl g))=(oJ fk g).map wV
 |[]=>rfl
 |z::r=>by
  rw[nj];unfold nH oJ;by_cases c:z.1=g
  .rw[if_pos (show(wD z).1=.inl (.inl g)from by rw[←c];rfl),if_pos c];rfl
  .rw[if_neg (show ¬ (wD z).1=.inl (.inl g)from λq=>c (by
    have q:(Sum.inl (Sum.inl z.1):DK)=.inl (.inl g):=q;simpa using q)),if_neg c]
   exact amH
def aN5{g:Int}{w:Int×List Int}{fk:List Way}:zR (fk.map wD) (.inl (.inl g)) (wV w)=(agZ fk g w).map wD:=by
 unfold zR agZ;rw[amH];have e:((oJ fk g).map wV).isSome=(oJ fk g).isSome:=by cases oJ fk g<;>rfl
 rw[e];split
 ·rw[jz,jz];refine vp λz _=>?_;simp only[Function.comp];by_cases c:z.1=g
  .rw[if_pos (show(wD z).1=.inl (.inl g)from by rw[←c];rfl),if_pos c];rfl
  .rw[if_neg (show ¬ (wD z).1=.inl (.inl g)from λq=>c (by
    have q:(Sum.inl (Sum.inl z.1):DK)=.inl (.inl g):=q;simpa using q)),if_neg c]
 .rw[mq];rfl
structure DW(G:Gp)(w:bx)(od:Obj)(kvs:List Way)(f:bx)(fk:List Way)(G':Gp):Prop where
 hw:G' w=aj (.rdc od ao (kvs.map wD))
 hf:G' f=aj (.jX ao (fk.map wD))
 old:∀q u,q≠w->G q=aj u->G' q=aj u
def DW.put{fk':List Way}(h:DW G w od kvs f fk G')(hf:G f=aq):DW G w od kvs f fk' (aM G' f (.jX ao (fk'.map wD))):=by
 refine⟨?_,aG,λq u n e=>?_⟩
 .rw[bJ (λz=>by have:=h.hw;rw[z,h.hf]at this;cases this)];exact h.hw
 .rw[bJ (λz=>by subst z;rw[hf]at e;cases e)];exact h.old q u n e
def DW.le(h:DW G w od kvs f fk G')(l:Le G' G2):DW G w od kvs f fk G2:=⟨l _ _ h.hw,l _ _ h.hf,λq u n e=>l _ _ (h.old q u n e)⟩
abbrev mnW(a b:Int×List Int):Int×List Int:=if L2.ltP b.1 b.2 a.1 a.2=ak then b else a
abbrev upW(fk:List Way)(g:Int)(o:Int×List Int):List Way:=agZ fk g (mnW ((oJ fk g).getD o) o)
abbrev ah4(n:Int)(ps:List Int)(z:Way)(g:Int):Int×List Int:=(z.2.1+xE n ps z.1 g,z.2.2++[g])
abbrev upZ(n:Int)(ps:List Int)(fk:List Way)(z:Way):List Way:=[0,n].foldl (λf g=>upW f g (ah4 n ps z g)) fk
abbrev nxW(n:Int)(ps:List Int)(kvs:List Way):List Way:=kvs.foldl (upZ n ps) []
abbrev wyF(n:Int)(bH:List (List Int)):List Way:=bH.foldl (λk ps=>nxW n ps k) [(0,0,[])]
abbrev enF(n:Int)(bH:List (List Int)):List Int:=((oJ (wyF n bH) 0).getD (0,[])).2
def lF{α β:Type}{f:β->α->β}{b:β}{l:List α}{k:Nat}{a:α}(h:l[k]?=aj a):(l.take (k+1)).foldl f b=f ((l.take k).foldl f b) a:=by
 rw[take_snoc h,List.foldl_append];rfl
private theorem auY{ps:List Int}{bH:List (List Int)}{z:Way}{gl:Int}(o:OkP x y g)(s:DW G w od kvs f fk G')(hf:G f=aq)(hp:aQ G' p=aj (ps.map D.int))(hb:∀q∈ps,1<=q/\q<=(y:Int))(hz:Ent ((y:Int)+1) bH z)(hl:bH.length<1000)(hg:gl=0∨gl=(y:Int)+1)(hF:Fnd ((y:Int)+1) (bH++[ps]) C fk)
  (h:∀r7 fk',fk'=upW fk gl (ah4 ((y:Int)+1) ps z gl)->Fnd ((y:Int)+1) (bH++[ps]) (C++[(gl,z.2.1+xE ((y:Int)+1) ps z.1 gl)]) fk'->F.nx [aj (gZ x y g),aj (.ref p),aj (.ref w),aj (.ref f),aj (.int z.1),aj (wV z.2),aj (.int gl),r7] (aM G' f (.jX ao (fk'.map wD)))) :
  jN K A ex F [aj (gZ x y g),aj (.ref p),aj (.ref w),aj (.ref f),aj (.int z.1),aj (wV z.2),aj (.int gl),r7] G':=by
 have big:10000<dh:=by decide
 have zl:z.2.2.length=bH.length:=hz.1.len;have z1:z.1=0∨z.1=(y:Int)+1:=by rw[←hz.2.1];exact hz.1.last
 have key:∀w':Int×List Int,agZ fk gl w'=upW fk gl (ah4 ((y:Int)+1) ps z gl)->Fnd ((y:Int)+1) (bH++[ps]) (C++[(gl,z.2.1+xE ((y:Int)+1) ps z.1 gl)]) (agZ fk gl w')->afA (.ref f) (.int gl) (wV w') F [aj (gZ x y g),aj (.ref p),aj (.ref w),aj (.ref f),aj (.int z.1),aj (wV z.2),aj (.int gl),aj (wV (z.2.1+xE ((y:Int)+1) ps z.1 gl,z.2.2++[gl]))] G':=λw' ew hw'=>by
  rw[aA1 s.hf a1B rfl (by rw[gj];have:=hF.two;omega),aN5];exact h _ _ ew hw'
 have nx:=Ent.next (ps:=ps) hz hg;unfold wV at key ⊢;exists jN;refine aAK o hp hb z1 ?_;symm;refine⟨by omega,?_⟩;exists m8,au1 s.hf;rw[a7R s.hf a1B rfl,amH];have e1:z.2.2.map D.int++[.int gl]=(z.2.2++[gl]).map D.int:=by simp
 rw[e1];cases q:oJ fk gl with
 |none =>
  have ew:agZ fk gl (z.2.1+xE ((y:Int)+1) ps z.1 gl,z.2.2++[gl])=upW fk gl (ah4 ((y:Int)+1) ps z gl):=by
   unfold upW mnW ah4;rw[q];simp
  refine alK (λ_=>?_) λ_=>?_
  .symm;exact key (z.2.1+xE ((y:Int)+1) ps z.1 gl,z.2.2++[gl]) ew (hF.put nx (.inl ⟨rfl,λv hv=>by rw[q]at hv;cases hv⟩))
  .symm;exact key (z.2.1+xE ((y:Int)+1) ps z.1 gl,z.2.2++[gl]) ew (hF.put nx (.inl ⟨rfl,λv hv=>by rw[q]at hv;cases hv⟩))
 |some v =>
  refine alK (λc=>?_) λc=>?_
  .symm;exact key (z.2.1+xE ((y:Int)+1) ps z.1 gl,z.2.2++[gl]) (by unfold upW mnW ah4;rw[q];simp only[Option.getD_some];rw[if_pos c]) (hF.put nx (.inl ⟨rfl,λv' hv=>by rw[q]at hv;cases hv;exact aMY c⟩))
  .symm;exact key v (by unfold upW mnW ah4;rw[q];simp only[Option.getD_some];rw[if_neg (by rw[c];decide)]) (hF.put nx (.inr ⟨q,aMZ c⟩))
def ajK{kvs:List Way}{k:Nat}{z:Way}(h:kvs[k]?=aj z):cands n ps (kvs.take (k+1))=cands n ps (kvs.take k)++[(0,z.2.1+xE n ps z.1 0),(n,z.2.1+xE n ps z.1 n)]:=by
 unfold cands;rw[take_snoc h,List.flatMap_append];simp
private theorem aI0{ps:List Int}{bH:List (List Int)}{kvs:List Way}(o:OkP x y g)(hp:aQ G p=aj (ps.map D.int))(hb:∀q∈ps,1<=q/\q<=(y:Int))(hw:G w=aj (.jX ao (kvs.map wD)))(hW:a2D ((y:Int)+1) bH kvs)(hl:bH.length<1000)
  (h:∀f G' fk,fk=nxW ((y:Int)+1) ps kvs->Le G G'->G f=aq->G' f=aj (.jX ao (fk.map wD))->a2D ((y:Int)+1) (bH++[ps]) fk->R (.ref f) G'):jO K A [gZ x y g,.ref p,.ref w] G R EX:=by
 have big:10000<dh:=by decide
 refine⟨rfl,?_⟩;show pW K A _ _ [aj (gZ x y g),aj (.ref p),aj (.ref w),aq,aq,aq,aq,aq] G;exists pW;intro f hf;exists uK;rw[aA2 (bW hw hf)];intro od;have wf:w≠f:=zU hw hf
 have pw:∀{G':Gp}{fk:List Way},DW G w od kvs f fk G'->aQ G' p=aj (ps.map D.int):=λ{G' fk} s=>by
  unfold L2.aQ at hp ⊢;split at hp
  .rename_i e;rw[s.old p _ (λz=>by rw[z,hw]at e;cases e) e];exact hp
  .rename_i e;rw[s.old p _ (λz=>by rw[z,hw]at e;cases e) e];exact hp
  .cases hp
 refine au3 (λk ρ G'=>∃r4 r5 r6 r7 fk,ρ=[aj (gZ x y g),aj (.ref p),aj (.ref w),aj (.ref f),r4,r5,r6,r7]/\DW G w od kvs f fk G'/\fk=(kvs.take k).foldl (upZ ((y:Int)+1) ps) []/\Fnd ((y:Int)+1) (bH++[ps]) (cands ((y:Int)+1) ps (kvs.take k)) fk) ⟨_,_,_,_,[],rfl,⟨aG,?_,λq u n e=>?_⟩,rfl,.nil⟩ (λk ρ G' h=>?_) (λk q ρ G' hk h=>?_) λρ G' h=>?_
 .rw[bJ (Ne.symm wf)];exact aG
 .rw[bJ n];exact bW e hf
 .obtain⟨_,_,_,_,fk,rfl,s,_,hF⟩:=h;exact s.hw
 .obtain⟨_,_,_,_,fk,rfl,s,efk,hF⟩:=h;obtain⟨z,hz,rfl⟩:=a7S hk;have ez:=hW.ent z (iz hz);show vM [4,5] (.tup [.int z.1,wV z.2]) _ _;rw[vY rfl];symm;unfold gZ;exists qZ;refine aoJ rfl λa ha=>?_;have la:=au6 ha;have af:a≠f:=λe=>by subst e;rcases ha with ha|ha<;>(rw[s.hf]at ha;cases ha)
  refine au8 (λm ρ G2=>∃r6 r7 fk2,ρ=[aj (gZ x y g),aj (.ref p),aj (.ref w),aj (.ref f),aj (.int z.1),aj (wV z.2),r6,r7]/\DW G w od kvs f fk2 G2/\G2 a=aj (.tpl [.int 0,.int ((y:Int)+1)])/\fk2=([0,(y:Int)+1].take m).foldl (λf g=>upW f g (ah4 ((y:Int)+1) ps z g)) fk/\Fnd ((y:Int)+1) (bH++[ps]) (cands ((y:Int)+1) ps (kvs.take k)++[(0,z.2.1+xE ((y:Int)+1) ps z.1 0),((y:Int)+1,z.2.1+xE ((y:Int)+1) ps z.1 ((y:Int)+1))].take m) fk2) ⟨_,_,fk,rfl,s.le la,aG,rfl,by simpa using hF⟩ (λm ρ G2 h=>?_) (λm d ρ G2 hd h=>?_) λρ G2 h=>?_
  .obtain⟨_,_,_,_,_,ht,_⟩:=h;exact ht
  .obtain⟨_,_,fk2,rfl,s2,ht,ef2,hF2⟩:=h
   obtain⟨gl,hg,eg,rfl,et⟩:∃gl:Int,(gl=0∨gl=(y:Int)+1)/\[0,(y:Int)+1][m]?=aj gl/\d=.int gl/\[(0,z.2.1+xE ((y:Int)+1) ps z.1 0),((y:Int)+1,z.2.1+xE ((y:Int)+1) ps z.1 ((y:Int)+1))].take (m+1)=[(0,z.2.1+xE ((y:Int)+1) ps z.1 0),((y:Int)+1,z.2.1+xE ((y:Int)+1) ps z.1 ((y:Int)+1))].take m++[(gl,z.2.1+xE ((y:Int)+1) ps z.1 gl)]:=by
    match m,hd with
    |0,hd=>exact⟨0,.inl rfl,rfl,(jd.inj hd).symm,rfl⟩
    |1,hd=>exact⟨(y:Int)+1,.inr rfl,rfl,(jd.inj hd).symm,rfl⟩
    |m+2,hd=>exact absurd (fj.mp hd).1 (by simp)
   symm;refine auY o s2 hf (pw s2) hb ez hl hg hF2 λr7 fk' ef' hF'=>?_;refine⟨_,_,fk',rfl,s2.put hf,by rw[bJ af];exact ht,by rw[ef',ef2,lF eg],?_⟩;rw[et,←qu];exact hF'
  .obtain⟨_,_,fk2,rfl,s2,ht,ef2,hF2⟩:=h;refine⟨_,_,_,_,fk2,rfl,s2,by rw[ef2,lF hz,←efk];rfl,?_⟩;rw[ajK hz];simpa using hF2
 .obtain⟨_,_,_,_,fk,rfl,s,efk,hF⟩:=h;rw[gj,a0g]at hF efk;exists uJ;refine bK.here (h f _ fk efk (λq u e=>?_) hf (by rw[bJ (Ne.symm wf)];exact s.hf) (hW.next hF));by_cases c:q=w
  .subst c;rw[aG];rw[hw]at e;exact e
  .rw[bJ c];exact s.old q u c e
abbrev Ais(G:Gp)(al:bx)(bH:List (List Int)):Prop:=∃rs:List bx,G al=aj (.lst (rs.map D.ref))/\rs.length=bH.length/\∀(k:Nat) r ps,rs[k]?=aj r->bH[k]?=aj ps->G r=aj (.lst (ps.map D.int))
def Ais.le(l:Le G G')(h:Ais G al bH):Ais G' al bH:=by
 obtain⟨rs,h1,h2,h3⟩:=h;exact⟨rs,l _ _ h1,h2,λk r ps a b=>l _ _ (h3 k r ps a b)⟩
def aI1{bH:List (List Int)}(o:OkP x y g)(ha:Ais G al bH)(ok:OkA y bH)(hl:bH.length<1000)
  (h:∀es G',es=enF ((y:Int)+1) bH->Le G G'->Ens ((y:Int)+1) bH.length es->bI 0 es=0->R (.tup (es.map D.int)) G'):fY K A [gZ x y g,.ref al] G R EX:=by
 refine⟨rfl,?_⟩;show lX K A _ _ [aj (gZ x y g),aj (.ref al),aq,aq] G;exists lX;intro w hw;symm;rw[a7R (t:=false) aG a1B rfl];refine⟨by decide,?_⟩
 have lw:Le G (aM (aM G w (.jX ao [])) w (.jX ao (zR [] (.inl (.inl 0)) (.tup [.int 0,.tup []])))):=λa u e=>by
  have:a≠w:=zU e hw;rw[bJ this,bJ this];exact e
 obtain⟨rs,h1,h2,h3⟩:=ha;exists pF;rw[kW (aF (lw _ _ h1))];refine nO (λk ρ G'=>∃r3 w kvs,ρ=[aj (gZ x y g),aj (.ref al),aj (.ref w),r3]/\Le G G'/\G' w=aj (.jX ao (kvs.map wD))/\kvs=wyF ((y:Int)+1) (bH.take k)/\a2D ((y:Int)+1) (bH.take k) kvs) ⟨_,w,[(0,0,[])],rfl,lw,aG,rfl,.nil⟩ (λk ρ G' h=>?_) (λk d ρ G' hd h=>?_) λρ G' h=>?_
 .obtain⟨_,_,_,_,l,_⟩:=h;exact aF (l _ _ h1)
 .obtain⟨_,w,kvs,rfl,l,hk,ek,hW⟩:=h;obtain⟨r,hr,rfl⟩:=a7S hd;have kl:k<bH.length:=by rw[←h2];exact(fj.mp hr).1
  have hp:=h3 k r _ hr (cg kl);exists nU;refine aI0 o (aF (l _ _ hp)) (ok _ (List.getElem_mem kl)) hk hW (by rw[qy];omega) λf G2 fk ef l2 _ hf hW2=>?_;symm;exact⟨_,f,fk,rfl,l.trans l2,hf,by rw[ef,ek];unfold wyF;rw[lF (cg kl)],by rw[take_snoc (cg kl)];exact hW2⟩
 .obtain⟨_,w,kvs,rfl,l,hk,ek,hW⟩:=h;rw[gj,h2,a0g]at hW ek;obtain⟨v,v1,v2,v3,v4,v5⟩:=hW.zero;exists pD;rw[aA0 hk a1B rfl (d:=wV v) (by rw[amH,v1];rfl)];unfold wV;symm;exact bK.here (h v.2 G' (by unfold enF;rw[←ek,v1];rfl) l v2 v3)
def adO{q:bx}{qs:List (Int×Int)}(c:Int->Int->Bool)(f:Int->Int->Int)(hq:aQ G q=aj (qs.map bQ))(hl:qs.length<1000)
  (hc:∀u v G',Le G G'->∀Q:Bool->Gp->Prop,(∀G'',Le G' G''->Q (c u v) G'')->tc (aj (.int u)::aj (.int v)::ρ) G' Q)
  (he:∀u v G',Le G G'->∀Q:D->Gp->Prop,(∀G'',Le G' G''->Q (.int (f u v)) G'')->te (aj (.int u)::aj (.int v)::ρ) G' Q)
  (h:∀p,G p=aq->R (.ref p) (aM G p (.lst (((qs.filter λq=>c q.1 q.2).map λq=>f q.1 q.2).map D.int)))):ab9 (anR 2) (.lst q (qs.map bQ)) tc te ρ G R:=by
 have big:10000<dh:=by decide
 let g1:D->Int:=λd=>match d with|.tup [.int u,_]=>u|_=>0
 let g2:D->Int:=λd=>match d with|.tup [_,.int v]=>v|_=>0
 refine vX (λd=>match d with|.tup xs=>xs|_=>[]) (λd=>c (g1 d) (g2 d)) (λd=>.int (f (g1 d) (g2 d))) (by show(qs.map bQ).length<_;rw[gj];omega) hq (λd hd=>?_) (λd hd G' l Q h=>?_) (λd hd _ G' l Q h=>?_) λp hp=>?_
 .obtain⟨q,_,rfl⟩:=iw.mp hd;rfl
 .obtain⟨q,_,rfl⟩:=iw.mp hd;exact hc _ _ G' l Q h
 .obtain⟨q,_,rfl⟩:=iw.mp hd;exact he _ _ G' l Q h
 .have e:((qs.map bQ).filter λd=>c (g1 d) (g2 d)).map (λd=>D.int (f (g1 d) (g2 d)))=((qs.filter λq=>c q.1 q.2).map λq=>f q.1 q.2).map D.int:=by
   rw[List.filter_map,jz,jz];rfl
  show R _ (aM G p (.lst (((qs.map bQ).filter _).map _)));rw[e];exact h p hp
abbrev sG(bs:List (Int×Int))(i:Int):List Int:=(bs.filter λq=>decide (q.1=i)).map (·.2)
abbrev iB(bs:List (Int×Int)):Int:=if bs=[]then -1 else mxL (bs.map (·.1))
abbrev zL(bs:List (Int×Int)):List (List Int):=(je (iB bs+1).toNat).map λ(i:Nat)=>sG bs i
abbrev InB(x y:Nat)(q:Int×Int):Prop:=0<=q.1/\q.1<x/\1<=q.2/\q.2<=(y:Int)
def aoY{bs:List (Int×Int)}{k:Nat}(h:bs[k]?=aj q):sG (bs.take (k+1)) i=if q.1=i then sG (bs.take k) i++[q.2]else sG (bs.take k) i:=by
 unfold sG;rw[take_snoc h,List.filter_append,mq];by_cases c:q.1=i<;>simp[c]
private theorem ah5{bs:List (Int×Int)}(hx:1<=x)(h:∀q∈bs,InB x y q):-1<=iB bs/\iB bs<x:=by
 unfold iB;split
 ·omega
 .rename_i n;obtain⟨q,hq,e⟩:=iw.mp (qF (show bs.map (·.1)≠[] by simpa using n)).1;have⟨h1,h2,_⟩:=h q hq;rw[←e];omega
def a8S{bs:List (Int×Int)}(h:q∈bs):q.1<=iB bs:=by
 unfold iB;have n:bs≠[]:=λe=>by subst e;cases h
 rw[if_neg n];exact(qF (show bs.map (·.1)≠[] by simpa using n)).2 _ (iw.mpr ⟨q,h,rfl⟩)
def yH{bs:List (Int×Int)}:(zL bs).length=(iB bs+1).toNat:=by simp[zL]
def adP{bs:List (Int×Int)}{k:Nat}(h:k<(iB bs+1).toNat):(zL bs)[k]?=aj (sG bs k):=by
 unfold zL;rw[kj,a2L h];rfl
def adQ{bs:List (Int×Int)}(h:∀q∈bs,InB x y q):OkA y (zL bs):=λps hps p hp=>by
 obtain⟨i,_,rfl⟩:=iw.mp hps;obtain⟨q,hq,rfl⟩:=iw.mp hp;have⟨_,_,a,b⟩:=h q (yp.mp hq).1;exact⟨a,b⟩
def aAM{bs:List (Int×Int)}{m:Nat}(h0:-1<=iB bs)(e:(zL bs).length=m+1):(zL bs)[m]?≠aj []:=λh=>by
 rw[yH]at e;rw[adP (by omega)]at h;have h:=jd.inj h;have n:bs≠[]:=λz=>by subst z;simp[iB]at e
 have em:iB bs=(m:Int):=by omega
 unfold iB at em;rw[if_neg n]at em;obtain⟨q,hq,eq⟩:=iw.mp (qF (show bs.map (·.1)≠[] by simpa using n)).1;have:q.2∈sG bs m:=iw.mpr ⟨q,yp.mpr ⟨hq,by simp[eq,em]⟩,rfl⟩;rw[h]at this;cases this
def amJ{xs:List (Int×Int)}{k:Nat}(h:(xs.map bQ)[k]?=aj d):∃q,xs[k]?=aj q/\d=bQ q:=by
 obtain⟨q,e,rfl⟩:=a7S h;exact⟨q,e,rfl⟩
def auZ{bs:List (Int×Int)}{rs:List bx}(hb:aQ G b=aj (bs.map bQ))(h0:∀q∈bs,0<=q.1)(bl:bs.length<1000)(hr:rs.length=(iB bs+1).toNat)(nd:rs.Nodup)(fr:∀r∈rs,G r=aq/\r≠al)(fal:G al=aq)(l:Le G G1)(h1:G1 al=aj (.lst (rs.map D.ref)))(h2:∀r∈rs,G1 r=aj (.lst []))
  (h:∀G',Le G G'->Ais G' al (zL bs)->F.rt (.ref al) G'):gP K A ex F [aj (.ref b),r1,aj (.ref al),r3,r4] G1:=by
 have big:10000<dh:=by decide
 exists gP;rw[kW (aW l hb)];refine nO (λk ρ G'=>∃r3 r4,ρ=[aj (.ref b),r1,aj (.ref al),r3,r4]/\Le G G'/\G' al=aj (.lst (rs.map D.ref))/\∀(i:Nat) r,rs[i]?=aj r->G' r=aj (.lst ((sG (bs.take k) i).map D.int))) ⟨_,_,rfl,l,h1,λi r e=>h2 r (iz e)⟩ (λk ρ G' h=>?_) (λk d ρ G' hd h=>?_) λρ G' h=>?_
 .obtain⟨_,_,_,l,_⟩:=h;exact aW l hb
 .obtain⟨_,_,rfl,l,ha,hrs⟩:=h;obtain⟨⟨i,j⟩,hq,rfl⟩:=amJ hd;have qm:=iz hq;have i0:=h0 _ qm;have il:=a8S qm;simp only at i0 il;obtain⟨n,rfl⟩:∃n:Nat,i=(n:Int):=⟨i.toNat,by omega⟩;have ir:n<rs.length:=by rw[hr];omega
  have hri:=hrs n _ (cg ir);have⟨f1,f2⟩:=fr _ (List.getElem_mem ir);unfold bQ;rw[vY rfl];exists lR;rw[tD (aF ha) (d:=.ref rs[n]) (by rw[pU,kj];simp[ir])];symm;rw[jE,aF hri];refine⟨rfl,?_⟩;symm
  rw[jG hri (by
   rw[gj];have:(sG (bs.take k) n).length<=(bs.take k).length:=by unfold sG;rw[gj];exact List.length_filter_le _ _
   rw[qy]at this;omega)]
  refine⟨_,_,rfl,λa u e=>?_,?_,λm r em=>?_⟩
  .rw[bJ (zU e f1)];exact l a u e
  .rw[bJ (Ne.symm f2)];exact ha
  .rw[aoY hq];by_cases c:m=n
   .subst c;rw[cg ir]at em;cases em;rw[aG,if_pos rfl,mq];rfl
   .have rn:r≠rs[n]:=λe=>c (by
     have hm:=(fj.mp em);obtain⟨hm1,hm2⟩:=hm;exact(List.getElem_inj nd).mp (hm2.trans e))
    rw[bJ rn,if_neg (show ¬ (n:Int)=(m:Int) by omega)];exact hrs m r em
 .obtain⟨_,_,rfl,l,ha,hrs⟩:=h;rw[gj,a0g]at hrs;exists m7;refine h G' l ⟨rs,ha,by rw[yH];exact hr,λk r ps hk hp=>?_⟩;rw[adP (by rw[←hr];exact(fj.mp hk).1)]at hp;cases hp;exact hrs k r hk
private theorem aAN{bs:List (Int×Int)}(h:∀q∈bs,0<=q.1/\q.1<100):-1<=iB bs/\iB bs<100:=by
 unfold iB;split
 ·omega
 .rename_i n;obtain⟨q,hq,e⟩:=iw.mp (qF (show bs.map (·.1)≠[] by simpa using n)).1;have:=h q hq;rw[←e];omega
def ah6{bs:List (Int×Int)}{m:Int}(hb:aQ G b=aj (bs.map bQ))(h0:∀q∈bs,0<=q.1/\q.1<100)(bl:bs.length<1000)(em:m=iB bs)(l:Le G G1)(h:∀al G',Le G G'->Ais G' al (zL bs)->F.rt (.ref al) G'):gQ K A ex F [aj (.ref b),aj (.int m),r2,r3,r4] G1:=by
 have big:10000<dh:=by decide
 have mb:=aAN h0;rw[←em]at mb;exists gQ;have il:(Src.imm (a0M 0 (m+1))).items.length=(m+1).toNat:=by show(a0M 0 (m+1)).length=_;rw[azX,Int.sub_zero]
 refine⟨by rw[il];omega,λp hp=>⟨λk ds G'=>∃rs:List bx,ds=rs.map D.ref/\rs.length=k/\rs.Nodup/\(∀r∈rs,G' r=aj (.lst [])/\G1 r=aq/\r≠p)/\G' p=aj (.lst ds)/\Le G1 G',⟨[],rfl,rfl,a2j,(λr hr=>by cases hr),aG,.new hp⟩,λk ds G' hk h=>?_,λk d ds G' hd h=>?_,λds G' h=>?_⟩⟩
 .obtain⟨rs,rfl,rl,_,_,hp',_⟩:=h;exact⟨trivial,hp',by rw[gj];omega⟩
 .obtain⟨rs,rfl,rl,nd,fr,hp',l1⟩:=h;refine⟨[d],rfl,?_⟩;dsimp only[L2.gM];rw[if_pos rfl];symm;intro q hq;have qp:q≠p:=λe=>by subst e;rw[hp']at hq;cases hq
  refine⟨by rw[bJ (Ne.symm qp)];exact hp',rs++[q],by simp,by simp[rl],?_,λr hr=>?_,aG,λa u e=>?_⟩
  .rw[a1n];refine⟨nd,by simp,λa ha c hc e=>?_⟩;rw[qx]at hc;subst hc e;rw[(fr a ha).1]at hq;cases hq
  .rcases vg.mp hr with hr|hr
   .have⟨f1,f2,f3⟩:=fr r hr;refine⟨?_,f2,f3⟩;rw[bJ f3,bJ (λe=>by subst e;rw[f1]at hq;cases hq)];exact f1
   .rw[qx]at hr;subst hr;exact⟨by rw[bJ qp];exact aG,l1.free hq,qp⟩
  .have ap:a≠p:=zU e hp;rw[bJ ap];exact bW (l1 a u e) hq
 .obtain⟨rs,rfl,rl,nd,fr,hp',l1⟩:=h;rw[il]at rl;refine⟨G',.refl _,?_⟩;symm;refine auZ hb (λq hq=>(h0 q hq).1) bl (by rw[←em];exact rl) nd (λr hr=>⟨l.free (fr r hr).2.1,(fr r hr).2.2⟩) (l.free hp) (l.trans l1) hp' (λr hr=>(fr r hr).1) λG2 l2 ha=>h p G2 l2 ha
def av0{bs:List (Int×Int)}(hb:aQ G b=aj (bs.map bQ))(h0:∀q∈bs,0<=q.1/\q.1<100)(bl:bs.length<1000)(h:∀al G',Le G G'->Ais G' al (zL bs)->R (.ref al) G'):eU K A [.ref b] G R EX:=by
 have big:10000<dh:=by decide
 refine⟨rfl,?_⟩;have h':∀al G',Le G G'->Ais G' al (zL bs)->bK R (.ref al) G':=λal G' a b=>bK.here (h al G' a b);show jM K A _ _ [aj (.ref b),aq,aq,aq,aq] G;exists jM;rw[jF hb];refine adO (λ_ _=>ak) (λu _=>u) hb bl (λu v G' l Q h=>h G' (.refl _)) (λu v G' l Q h=>h G' (.refl _)) λp hp=>?_;have e:(bs.filter λ_=>ak)=bs:=a0b.mpr λ_ _=>rfl;rw[e];symm;refine aHF bO (λz=>?_) λM h1 h2=>?_
 .symm;exact ah6 hb h0 bl (by unfold iB;rw[if_pos (by simpa using z)]) (.new hp) h'
 .symm;refine ah6 hb h0 bl ?_ (.new hp) h';have n:bs≠[]:=λz=>by subst z;cases h1
  unfold iB;rw[if_neg n];exact adK h1 h2
def av1(o:OkP x y g)(hq:InB x y q)(h:R (.bl ak) G):xZ K A [gZ x y g,bQ q] G R EX:=by
 refine⟨rfl,?_⟩;show a87 K A _ _ [aj (gZ x y g),aj (bQ q)] G;exists a87;refine mZ o ?_;unfold gZ;exists a86;refine abN aiU (λa b e=>by cases e;exact⟨rfl,rfl⟩) ?_;have⟨h1,h2,h3,h4⟩:=hq
 have e:isP (bQ q) x 1 y=ak:=by
  rw[auO];simp;omega
 rw[e];exact bK.here h
def ajL(o:OkP x y g)(hq:InB x y q)(h:R .non G):pC K A [gZ x y g,bQ q] G R EX:=by
 refine⟨rfl,?_⟩;show zV K A _ _ [aj (gZ x y g),aj (bQ q)] G;exists zV;refine av1 o hq ?_;symm;exact bK.here h
def aAO{ps:List Int}{gl:Int}(hp:aQ G p=aj (ps.map D.int))(h:∀r G',Le G G'->G r=aq->G' r=aj (.lst ((spW i ps e gl).map bQ))->R (.ref r) G'):iI K A [.int i,.ref p,.int e,.int gl] G R EX:=by
 refine⟨rfl,?_⟩;have h':∀r G',Le G G'->G r=aq->G' r=aj (.lst ((spW i ps e gl).map bQ))->bK R (.ref r) G':=λr G' a b c=>bK.here (h r G' a b c);clear h;unfold spW at h';show nW K A _ _ [aj (.int i),aj (.ref p),aj (.int e),aj (.int gl)] G;exists nW;refine ai9 (λc=>?_) λc=>?_
 .rw[if_neg (by simpa using c)]at h';intro r hr;exact h' r _ (.new hr) hr aG
 .rw[if_pos (by simpa using c)]at h';exists rB,dG hp;by_cases n:ps=[]
  .subst n;rw[if_pos rfl]at h';symm;intro r hr;exact h' r _ (.new hr) hr aG
  .rw[if_neg n]at h';have e0:((ps.length:Int)==0)=ao:=by simpa using n
   rw[e0];exists rA;refine a8R hp n ?_;symm;intro r hr;exact h' r _ (.new hr) hr aG
def aAP{α:Type}{xs:List α}{l:α}(h:xs[xs.length - 1]?=aj l):atI xs (-1)=aj l:=by
 have n0:xs.length - 1<xs.length:=(fj.mp h).1
 have e:L2.ixN xs.length (-1)=aj (xs.length - 1):=by
  unfold L2.ixN;rw[if_neg (by decide)];have:-(xs.length:Int)<=-1:=by omega
  simp only[this,if_true];congr 1;omega
 unfold L2.atI;rw[e];exact h
def av2{qs:List (Int×Int)}(hp:G p=aj (.lst (qs.map bQ)))(hl:qs[qs.length - 1]?=aj l)(ql:qs.length<1000)(h:∀G',HS G p ((cN qs q).map bQ) G'->R .non G'):wK K A [.ref p,bQ q] G R EX:=by
 have big:10000<dh:=by decide
 refine⟨rfl,?_⟩;have h':∀G',HS G p ((cN qs q).map bQ) G'->bK R .non G':=λG' a=>bK.here (h G' a);clear h;unfold cN at h';show adB K A _ _ [aj (.ref p),aj (bQ q)] G;exists adB;rw[tD (aF hp) (d:=bQ l) (aAP (by rw[gj,kj,hl];rfl))];unfold bQ at *;symm;refine⟨rfl,rfl,?_⟩
 have ee:eqP (.tup [.int l.1,.int l.2]) (.tup [.int q.1,.int q.2])=decide (l=q):=by
  show(eqP (.int l.1) (.int q.1)&&(eqP (.int l.2) (.int q.2)&&ak))=_;rw[show eqP (.int l.1) (.int q.1)=(l.1==q.1)from rfl,show eqP (.int l.2) (.int q.2)=(l.2==q.2)from rfl,Bool.and_true];rcases l with⟨a,b⟩;rcases q with⟨c,d⟩;simp[Prod.ext_iff,Bool.decide_and];rfl
 rw[ee];symm;by_cases c:l=q
 .rw[if_pos (by rw[hl,c])]at h';rw[if_neg (by simpa using c)];exact h' G ⟨hp,λr u _ e=>e⟩
 .rw[if_neg (by rw[hl];simpa using c)]at h';rw[if_pos (by simpa using c),jE,aF hp];refine⟨rfl,?_⟩;rw[jG hp (by rw[gj];omega)];rw[mq]at h';exact h' _ (.put hp)
def av3{es:List Int}{gl:Int}{k:Nat}{ws qs:List (Int×Int)}(hs:G s=aq)(h1:HS G s (qs.map bQ) G1)(ha:G1 a=aj (.tpl (es.map D.int)))(hr:G1 r=aj (.lst (ws.map bQ)))(rs:r≠s)(hl:qs[qs.length - 1]?=aj l)(ql:qs.length+ws.length<900)
  (h:∀r6 G',HS G s ((ws.foldl cN qs).map bQ) G'->G' a=aj (.tpl (es.map D.int))->F.nx [aj (.ref al),aj (.tup (es.map D.int)),aj (.ref s),aj (.int e),aj (.int k),aj (.int gl),r6] G') :
  abA (.lst r (ws.map bQ)) (fO 6) (nY K A ex) F [aj (.ref al),aj (.tup (es.map D.int)),aj (.ref s),aj (.int e),aj (.int k),aj (.int gl),r6] G1:=by
 refine nO (λm ρ G'=>∃r6 l,ρ=[aj (.ref al),aj (.tup (es.map D.int)),aj (.ref s),aj (.int e),aj (.int k),aj (.int gl),r6]/\HS G s (((ws.take m).foldl cN qs).map bQ) G'/\G' a=aj (.tpl (es.map D.int))/\G' r=aj (.lst (ws.map bQ))/\((ws.take m).foldl cN qs)[((ws.take m).foldl cN qs).length - 1]?=aj l/\((ws.take m).foldl cN qs).length<=qs.length+m) ⟨_,l,rfl,h1,ha,hr,hl,by simp⟩ (λm ρ G' h=>?_) (λm d ρ G' hd h=>?_) λρ G' h=>?_
 .obtain⟨_,_,_,_,_,hr,_⟩:=h;exact aF hr
 .obtain⟨_,l2,rfl,s2,ha2,hr2,hl2,ql2⟩:=h;obtain⟨q,hq,rfl⟩:=amJ hd;have mw:m<ws.length:=(fj.mp hq).1;exists nY;refine av2 s2.1 hl2 (by omega) λG3 s3=>?_;have sa:a≠s:=λe=>by subst e;rw[s2.1]at ha2;cases ha2
  refine⟨_,q,rfl,by rw[lF hq];exact s2.trans s3,s3.2 a _ sa ha2,s3.2 r _ rs hr2,by rw[lF hq];exact cL,?_⟩;rw[lF hq];have:=yG (qs:=(ws.take m).foldl cN qs) (q:=q);omega
 .obtain⟨_,l2,rfl,s2,ha2,hr2,hl2,ql2⟩:=h;rw[gj,a0g]at s2;exact h _ G' s2 ha2
abbrev qsF(bH:List (List Int))(es:List Int):Nat->List (Int×Int)
 |0=>[(0,0)]
 |k+1=>(spW k (bH.getD k []) (bI 0 (es.take k)) (es.getD k 0)).foldl cN (qsF bH es k)
def a8T{es:List Int}{k:Nat}{gl:Int}(hp:bH[k]?=aj ps)(he:es[k]?=aj gl):qsF bH es (k+1)=(spW k ps (bI 0 (es.take k)) gl).foldl cN (qsF bH es k):=by
 show(spW k (bH.getD k []) _ (es.getD k 0)).foldl cN _=_;rw[a0v,a0v,hp,he];rfl
private theorem ah7{bH:List (List Int)}{es:List Int}(h:es.length=bH.length):∀{k:Nat},k<=bH.length->SpP bH es k (qsF bH es k)
 |0,_=>.start
 |k+1,hk=>by
  have hp:=cg (show k<bH.length by omega);have he:=cg (show k<es.length by omega);rw[a8T hp he];exact(ah7 h (by omega)).next hp he
structure Nd(qs:List (Int×Int)):Prop where
 nd:∀(k:Nat) q r,qs[k]?=aj q->qs[k+1]?=aj r->q≠r
 hd:qs[0]?=aj (0,0)
private theorem Nd.cN{q:Int×Int}(h:Nd qs):Nd (cN qs q):=by
 unfold Law.cN;split
 ·exact h
 .rename_i n;have l0:0<qs.length:=(fj.mp h.hd).1;refine⟨λk a b ha hb=>?_,by rw[qj l0];exact h.hd⟩;have kb:=(fj.mp hb).1;rw[kh,a1p]at kb;rw[qj (by omega)]at ha;by_cases c:k+1<qs.length
  .rw[qj c]at hb;exact h.nd k a b ha hb
  .have e:k+1=qs.length:=by omega
   rw[e,ux (cu _),Nat.sub_self]at hb;cases hb;intro z;exact n (by rw[show qs.length - 1=k by omega,ha,z])
def Nd.fold:∀{ws qs:List (Int×Int)},Nd qs->Nd (ws.foldl Law.cN qs)
 |[],_,h=>h
 |a::r,qs,h=>Nd.fold (ws:=r) (qs:=Law.cN qs a) h.cN
def av4:∀{k:Nat},Nd (qsF bH es k)
 |0=>⟨λk q r _ h=>by simp[qsF]at h,rfl⟩
 |_+1=>Nd.fold av4
abbrev wkE(y:Nat)(bs:List (Int×Int)):List Int:=enF ((y:Int)+1) (zL bs)
abbrev wkF(y:Nat)(bs:List (Int×Int)):List (Int×Int):=cN (qsF (zL bs) (wkE y bs) (zL bs).length) (0,0)
structure aoZ(x y:Nat)(bs:List (Int×Int)):Prop where
 w:Walk x y (wkF y bs)
 nd:Nd (wkF y bs)
 len:(wkF y bs).length<=1000
 last:(wkF y bs)[(wkF y bs).length - 1]?=aj (0,0)
 path:dZ (wkF y bs)=tot (zL bs) (wkE y bs)
 ens:Ens ((y:Int)+1) (zL bs).length (wkE y bs)
 l0:bI 0 (wkE y bs)=0
private theorem ajM{bH:List (List Int)}{es:List Int}(o:OkP x y g)(ha:Ais G al bH)(hE:Ens ((y:Int)+1) bH.length es)(h0:bI 0 es=0)(hn:∀m,bH.length=m+1->bH[m]?≠aj [])(px:bH.length<=x)(ok:OkA y bH)
  (h:∀s G',Le G G'->G s=aq->G' s=aj (.lst ((cN (qsF bH es bH.length) (0,0)).map bQ))->Walk x y (cN (qsF bH es bH.length) (0,0))->(cN (qsF bH es bH.length) (0,0)).length<=1000->R (.ref s) G'):pG K A [.ref al,.tup (es.map D.int)] G R EX:=by
 have ox:=o.x1;refine⟨rfl,?_⟩;show zX K A _ _ [aj (.ref al),aj (.tup (es.map D.int)),aq,aq,aq,aq,aq] G;exists zX;intro s hs;exists a1Q,a1P;refine au7 λa ht=>?_;have sa:s≠a:=λe=>by subst e;rw[aG]at ht;rcases ht with ht|ht<;>cases ht
 obtain⟨rs,a1,a2,a3⟩:=ha;refine au9 (λk ρ G'=>∃r4 r5 r6,ρ=[aj (.ref al),aj (.tup (es.map D.int)),aj (.ref s),aj (.int (bI 0 (es.take k))),r4,r5,r6]/\HS G s ((qsF bH es k).map bQ) G'/\G' a=aj (.tpl (es.map D.int))/\SpI x y g bH es k (qsF bH es k)) ⟨_,_,_,rfl,HS.mk0.more (au6 ht),aG,.start o.x0⟩ (λk ρ G' h=>?_) (λk d ρ G' hd h=>?_) λρ G' h=>?_
 .obtain⟨_,_,_,_,_,ht,_⟩:=h;exact ht
 .obtain⟨_,_,_,rfl,s2,ht2,hi⟩:=h;obtain⟨gl,hg,rfl⟩:=a7S hd;have kl:k<bH.length:=by rw[←hE.len];exact(fj.mp hg).1
  have kr:k<rs.length:=by rw[a2];exact kl
  have hp:=a3 k _ _ (cg kr) (cg kl);have l2:=s2.leG hs;obtain⟨j,hl,_⟩:=hi.ex;have aR3:=hi.len;rw[vY rfl];exists yX;rw[tD (aF (l2 _ _ a1)) (d:=.ref rs[k]) (by rw[pU,kj];simp[kr])];symm;refine aAO (aF (l2 _ _ hp)) λr G3 l3 hr3 hr=>?_;symm;rw[kW (aF hr)];have wl:(spW k bH[k] (bI 0 (es.take k)) gl).length<=3:=by unfold spW;split<;>(try split)<;>simp
  refine av3 hs (s2.more l3) (l3 _ _ ht2) hr (λe=>by subst e;rw[s2.1]at hr3;cases hr3) hl (by omega) λr6 G4 s4 ht4=>?_;exists uL;rw[←a8T (cg kl) hg]at s4;refine⟨_,_,_,by rw[take_snoc hg,fP],s4,ht4,?_⟩;rw[a8T (cg kl) hg];exact hi.next (cg kl) hg hE (by omega) ok
 .obtain⟨_,_,_,rfl,s2,ht2,hi⟩:=h;rw[gj,hE.len]at hi s2;obtain⟨j,hl,_⟩:=hi.ex;have aR3:=hi.len;have⟨f1,f2,f3,f4⟩:=hi.home o.x0 hE h0 hn;exists a1O;refine av2 (q:=(0,0)) s2.1 hl (by omega) λG3 s3=>?_;exists a1N;have s4:=s2.trans s3;exact bK.here (h s G3 (s4.leG hs) hs s4.1 f1 (by omega))
def w_walk{bs:List (Int×Int)}(o:OkP x y g)(hb:aQ G b=aj (bs.map bQ))(hB:∀q∈bs,InB x y q)(bl:bs.length<1000)
  (h:∀s G',Le G G'->G s=aq->G' s=aj (.lst ((wkF y bs).map bQ))->aoZ x y bs->R (.ref s) G'):yC K A [gZ x y g,.ref b] G R EX:=by
 have ox:=o.x1;refine⟨rfl,?_⟩;show ajC K A _ _ [aj (gZ x y g),aj (.ref b),aq,aq] G;exists ajC;refine mZ o ?_;exists agG;rw[kW hb];refine nO (λk ρ G'=>∃r2,ρ=[aj (gZ x y g),aj (.ref b),r2,aq]/\Le G G') ⟨_,rfl,.refl _⟩ (λk ρ G' h=>?_) (λk d ρ G' hd h=>?_) λρ G' h=>?_
 .obtain⟨_,_,l⟩:=h;exact aW l hb
 .obtain⟨_,rfl,l⟩:=h;obtain⟨q,hq,rfl⟩:=amJ hd;exists abH;refine ajL o (hB q (iz hq)) ?_;symm;exact⟨_,rfl,l⟩
 .obtain⟨_,rfl,l⟩:=h;have la:=ah5 o.x0 hB;have pl:(zL bs).length<=x:=by rw[yH];omega
  exists agF;refine av0 (aW l hb) (λq hq=>⟨(hB q hq).1,by have:=(hB q hq).2.1;omega⟩) bl λal G2 l2 ha=>?_;exists agE;refine aI1 o ha (adQ hB) (by omega) λes G3 ee l3 e1 e2=>?_;symm;subst ee;have hn:∀m,(zL bs).length=m+1->(zL bs)[m]?≠aj []:=λm hm=>aAM la.1 hm;refine ajM o (ha.le l3) e1 e2 hn pl (adQ hB) λs G4 l4 fs hs w ql=>?_;exact bK.here (h s G4 (l.trans (l2.trans (l3.trans l4))) ((l.trans (l2.trans l3)).free fs) hs ⟨w,av4.cN,ql,cL,(ah7 e1.len (cu _)).home e1.len e2 hn,e1,e2⟩)
abbrev DS(G:Gp)(p:bx)(M:List (Int×Int))(G':Gp):Prop:=G' p=aj (setG M)/\∀q u,q≠p->G q=aj u->G' q=aj u
def DS.new{q:bx}(h:DS G p M G')(hq:G' q=aq):DS G p M (aM G' q o):=⟨bW h.1 hq,λr u n e=>bW (h.2 r u n e) hq⟩
def DS.put{N:List (Int×Int)}(h:DS G p M G'):DS G p N (aM G' p (setG N)):=⟨aG,λr u n e=>by rw[bJ n];exact h.2 r u n e⟩
def DS.mk0:DS G p M (aM G p (setG M)):=⟨aG,λr u n e=>by rw[bJ n];exact e⟩
def DS.leG(h:DS G p M G')(hp:G p=aq):Le G G':=λr u e=>h.2 r u (λz=>by subst z;rw[hp]at e;cases e) e
def DS.more(h:DS G p M G')(l:Le G' G2):DS G p M G2:=⟨l _ _ h.1,λr u n e=>l _ _ (h.2 r u n e)⟩
@[simp]def P2:=Int×Int
abbrev isB(y:Nat)(q:P2):Bool:=decide (0<q.2)&&decide (q.2<=(y:Int))
abbrev fC(q r:P2):Int:=if q.2<r.2 then 1 else -1
abbrev cnt(q r:P2):Nat:=(r.2 - q.2).natAbs
abbrev aAQ(q r:P2)(i:Nat):P2:=(q.1,q.2+(i:Int)*fC q r)
abbrev yK(q r:P2):List P2:=(je (cnt q r)).map λi=>aAQ q r (i+1)
abbrev dJ(w:P2->Bool)(M:List P2)(q:P2):List P2:=if w q=ak then nP M q else M
abbrev uX(q r:P2):List P2:=if q.1=r.1 then q::yK q r else[q,r]
abbrev a8U(w:P2->Bool)(M:List P2)(q r:P2):List P2:=(uX q r).foldl (dJ w) M
private theorem ap0{b:P2->Bool}{q:P2}:r∈dJ b M q↔r∈M∨(r=q/\b q=ak):=by
 unfold dJ;split
 ·rename_i c;rw[ag4];simp[c]
 .rename_i c;simp[c]
def a8V{b:P2->Bool}:∀{l M:List P2},r∈l.foldl (dJ b) M↔r∈M∨(r∈l/\b r=ak)
 |[],M=>by simp
 |q::l,M=>by
  rw[a0s,a8V,ap0,iy];constructor
  .rintro((h|⟨rfl,h⟩)|⟨h,h2⟩)
   .exact .inl h
   .exact .inr ⟨.inl rfl,h⟩
   .exact .inr ⟨.inr h,h2⟩
  .rintro(h|⟨rfl|h,h2⟩)
   .exact .inl (.inl h)
   .exact .inl (.inr ⟨rfl,h2⟩)
   .exact .inr ⟨h,h2⟩
def ah8{b:P2->Bool}{M:List P2}{q:P2}(h:M.Nodup):(dJ b M q).Nodup:=by
 unfold dJ;split
 ·exact aj2 h
 .exact h
def a8W{b:P2->Bool}:∀{l M:List P2},M.Nodup->(l.foldl (dJ b) M).Nodup
 |[],M,h=>h
 |q::l,M,h=>by rw[a0s];exact a8W (ah8 h)
def ap1{b:P2->Bool}(M:List P2)(q:P2):(dJ b M q).length<=M.length+1:=by
 unfold dJ;split
 ·exact auA M q
 .omega
def xG{b:P2->Bool}:∀(l M:List P2),(l.foldl (dJ b) M).length<=M.length+l.length
 |[],M=>by simp
 |q::l,M=>by
  rw[a0s,qz];have:=xG (b:=b) l (dJ b M q);have:=ap1 (b:=b) M q;omega
def a2G(q r:P2):(yK q r).length=cnt q r:=by simp[yK]
def av5{q r:P2}(h:q.1=r.1)(n:q≠r):r∈yK q r:=by
 have n2:q.2≠r.2:=λe=>n (Prod.ext h e);have c0:0<cnt q r:=by unfold cnt;omega
 refine iw.mpr ⟨cnt q r - 1,ou.mpr (by omega),?_⟩;unfold aAQ;refine Prod.ext h ?_;show q.2+((cnt q r - 1+1:Nat):Int)*fC q r=r.2;rw[show cnt q r - 1+1=cnt q r by omega];unfold cnt fC;split<;>omega
abbrev oK(w:P2->Bool)(qs:List P2):Nat->List P2
 |0=>[]
 |k+1=>a8U w (oK w qs k) (qs.getD k (0,0)) (qs.getD (k+1) (0,0))
def ah9{q:P2}(h:cnt q r<=100):(uX q r).length<=101:=by
 unfold uX;split
 ·rw[qz,a2G];omega
 .simp
def a2H{w:P2->Bool}{qs:List P2}(h:∀k,cnt (qs.getD k (0,0)) (qs.getD (k+1) (0,0))<=100):∀k,(oK w qs k).length<=k*101
 |0=>by simp[oK]
 |k+1=>by
  have a:=a2H (w:=w) h k;have b:=xG (b:=w) (uX (qs.getD k (0,0)) (qs.getD (k+1) (0,0))) (oK w qs k);have c:=ah9 (h k);show(a8U w (oK w qs k) _ _).length<=_;unfold a8U;omega
def av6{r:Int×Int}(h:q.1=r.1):(zT q.2 (fC q r) (lO q.2 (r.2+fC q r) (fC q r))).map (λd=>D.tup [.int q.1,d])=(uX q r).map bQ:=by
 have n:lO q.2 (r.2+fC q r) (fC q r)=cnt q r+1:=by
  unfold L2.lO fC cnt;by_cases c:q.2<r.2
  .rw[if_pos c,if_pos rfl];omega
  .rw[if_neg c,if_neg (by decide)];omega
 rw[n];unfold L2.zT uX yK;rw[if_pos h,a2p,nj,nj,nj,jz,jz,jz];congr 1;show D.tup [.int q.1,.int (q.2+((0:Nat):Int)*fC q r)]=D.tup [.int q.1,.int q.2];simp
def ap2{r:Int×Int}(hq:-1000<=q.2/\q.2<=1000)(hr:-1000<=r.2/\r.2<=1000)(h:∀p,G p=aq->R (.ref p) (aM G p (.lst ((uX q r).map bQ)))):fZ K A [bQ q,bQ r] G R EX:=by
 have big:10000<dh:=by decide
 refine⟨rfl,?_⟩;have h':∀p,G p=aq->bK R (.ref p) (aM G p (.lst ((uX q r).map bQ))):=λp hp=>bK.here (h p hp);clear h;show lY K A _ _ [aj (bQ q),aj (bQ r),aq] G;exists lY;by_cases c:q.1=r.1
 .rw[if_neg (by simp[c])];exists pH
  have go:∀k:Int,k=fC q r->jP K A (λ_=>m6 EX) {nx:=λ_ G'=>bK R D.non G',rt:=bK R} [aj (bQ q),aj (bQ r),aj (.int k)] G:=by
   rintro _ rfl;have hk:fC q r=1∨fC q r=-1:=by unfold fC;split<;>simp
   have b:-2305843009213693952<=q.2/\q.2<2305843009213693952/\-2305843009213693952<=r.2+fC q r/\r.2+fC q r<2305843009213693952:=by omega
   have n:lO q.2 (r.2+fC q r) (fC q r)<=5000:=by
    unfold L2.lO;rcases hk with e|e<;>rw[e]<;>split<;>omega
   exists jP,azY b hk;refine comp_map (λd=>D.tup [.int q.1,d]) (by show(zT _ _ _).length<_;unfold L2.zT;rw[gj,a2n];omega) trivial (λd hd G' l Q z=>?_) λp hp=>?_
   .symm;exact z G' (.refl _)
   .rw[show(Src.imm (zT q.2 (fC q r) (lO q.2 (r.2+fC q r) (fC q r)))).items=zT q.2 (fC q r) (lO q.2 (r.2+fC q r) (fC q r))from rfl,av6 c];exact h' p hp
  by_cases d:q.2<r.2
  .rw[if_pos (by simpa using d)];exact go 1 (by unfold fC;rw[if_pos d])
  .rw[if_neg (by simpa using d)];exact go (-1) (by unfold fC;rw[if_neg d])
 .rw[if_pos (by simp[c])];symm;intro p hp;have:=h' p hp;unfold uX at this;rw[if_neg c]at this;exact this
def av7{p:bx}{xs:List D}{lo hi:Option Int}(h:aQ G p=aj xs):axQ (.ref p) lo hi G R=∀q,G q=aq->R (.ref q) (aM G q (.lst (cutD xs lo hi))):=by
 unfold axQ;simp only[h]
def amK{α:Type}{xs:List α}:cutD xs (aj 1) aq=xs.tail:=by
 unfold L2.cutD;have e:=HT.ax2 xs.length 0 1;rw[show((1:Nat):Int)=1 from rfl]at e;rw[e,HT.aqF];cases xs with
 |nil=>rfl
 |cons x r =>
  have:min 1 (x::r).length=1:=by simp
  rw[this];simp
def yI{xs ys:List (Int×Int)}:prs (xs.map bQ) (ys.map bQ)=(xs.zip ys).map λz=>D.tup [bQ z.1,bQ z.2]:=by
 unfold L2.prs;rw[List.zip_map,jz];rfl
def DS.ls(s:DS G m M G')(n:p≠m)(h:aQ G p=aj xs):aQ G' p=aj xs:=by
 unfold aQ at h ⊢;cases e:G p with
 |none=>rw[e]at h;cases h
 |some u=>rw[e]at h;rw[s.2 p u n e];exact h
def aCR(h:aQ G p=aj xs)(hm:G m=aq):p≠m:=λe=>by
 subst e;unfold aQ at h;rw[hm]at h;cases h
def cQ{qs:List (Int×Int)}{k:Nat}(h:qs[k]?=aj q):qs.getD k (0,0)=q:=by simp[a0n,h]
def a6A{qs:List (Int×Int)}(w:Walk x y qs)(hy:y<=99)(k:Nat):0<=(qs.getD k (0,0)).2/\(qs.getD k (0,0)).2<=100:=by
 cases e:qs[k]? with
 |none=>simp[a0n,e]
 |some q =>
  have:=w.inn q (iz e);rw[cQ e];exact⟨this.2.2.1,by have:=this.2.2.2;omega⟩
def sH{qs:List (Int×Int)}(w:Walk x y qs)(hy:y<=99)(k:Nat):cnt (qs.getD k (0,0)) (qs.getD (k+1) (0,0))<=100:=by
 have h1:=a6A w hy k;have h2:=a6A w hy (k+1);unfold cnt;omega
def ajO{bs M:List (Int×Int)}(hw:G wr=aj (setG (bs.foldl nP [])))(s:DS G0 m M G)(ml:M.length<900000)(h:∀G',DS G0 m (dJ (λq=>decide (q∈bs)) M q) G'->(∀a u,a≠m->G a=aj u->G' a=aj u)->F.nx [r0,r1,r2,aj (.ref wr),aj (.ref m),r5,r6,aj (bQ q)] G'):wL K A ex F [r0,r1,r2,aj (.ref wr),aj (.ref m),r5,r6,aj (bQ q)] G:=by
 have big:10000<dh:=by decide
 have hm:=s.1;exists wL;refine aA4 hw ?_;symm
 have em:decide ((q.1,q.2)∈bs.foldl nP [])=decide (q∈bs):=by
  congr 1;exact propext (by rw[ag5];simp)
 rw[em];refine fX (λc=>?_) λc=>?_
 .symm;refine aA5 hm (by omega) ?_;refine h _ ?_ λa u n e=>by rw[bJ n];exact e
  unfold dJ;rw[if_pos (by exact c)];exact s.put
 .refine h _ ?_ λa u n e=>e;unfold dJ;rw[if_neg (by simpa using c)];exact s
def aAR{qs bs:List (Int×Int)}(o:OkP x y g)(hp:aQ G p=aj (qs.map bQ))(hb:aQ G b=aj (bs.map bQ))(w:Walk x y qs)(ql:qs.length<=1000)(bl:bs.length<=5000)(h:∀l G',Le G G'->G l=aq->G' l=aj (.lst ((oK (λq=>decide (q∈bs)) qs (qs.length - 1)).map bQ))->R (.ref l) G'):a1R K A [gZ x y g,.ref p,.ref b] G R EX:=by
 have big:10000<dh:=by decide
 refine⟨rfl,?_⟩;have h':∀l G',Le G G'->G l=aq->G' l=aj (.lst ((oK (λq=>decide (q∈bs)) qs (qs.length - 1)).map bQ))->bK R (.ref l) G':=λl G' a b c=>bK.here (h l G' a b c);clear h;show adC K A _ _ [aj (gZ x y g),aj (.ref p),aj (.ref b),aq,aq,aq,aq,aq] G;exists adC;refine mZ o ?_;exists abL;rw[jF hb];refine comp_map (λd=>D.tup [d,.bl ak]) (by show(bs.map bQ).length<_;rw[gj];omega) hb (λd hd G' l Q z=>?_) λc hc=>?_
 .symm;exact z G' (.refl _)
 rw[show((Src.lst b (bs.map bQ)).items.map λd=>D.tup [d,.bl ak])=bs.map λq=>D.tup [.tup [.int q.1,.int q.2],.bl ak] by show((bs.map bQ).map _)=_;rw[jz];rfl];refine aoL bO λwr hwr=>?_;exists abK;intro m hm;exists abJ;have l1:Le G (aM G c (.lst (bs.map λq=>D.tup [.tup [.int q.1,.int q.2],.bl ak]))):=.new hc;have l2:=l1.trans (Le.new (o:=setG (bs.foldl nP [])) hwr);have l3:=l2.trans (Le.new (o:=.qL []) hm);rw[av7 (aW l3 hp)];intro q hq;rw[amK,←List.map_tail,ab8 (aW (l3.trans (.new hq)) hp) bO];generalize e4:aM (aM (aM (aM G c (.lst (bs.map λq=>D.tup [.tup [.int q.1,.int q.2],.bl ak]))) wr (setG (bs.foldl nP []))) m (.qL [])) q (.lst (qs.tail.map bQ))=G4;have l4:Le G G4:=by rw[←e4];exact l3.trans (.new hq)
 have hm4:G4 m=aj (setG []):=by rw[←e4];exact bW aG hq
 have hw4:G4 wr=aj (setG (bs.foldl nP [])):=by rw[←e4];exact bW (bW aG hm) hq
 have hp4:aQ G4 p=aj (qs.map bQ):=aW l4 hp;have hq4:aQ G4 q=aj (qs.tail.map bQ):=by rw[←e4];exact bO
 have np:p≠m:=aCR (aW l2 hp) hm;have nq:q≠m:=λe=>by subst e;rw[aG]at hq;cases hq
 have nw:wr≠m:=λe=>by subst e;rw[aG]at hm;cases hm
 have il:(Src.zip p q (qs.map bQ) (qs.tail.map bQ)).items.length=qs.length - 1:=by
  show(prs (qs.map bQ) (qs.tail.map bQ)).length=_;rw[yI,gj,List.length_zip,List.length_tail];omega
 refine⟨λk ρ G'=>∃r5 r6 r7,ρ=[aj (gZ x y g),aj (.ref p),aj (.ref b),aj (.ref wr),aj (.ref m),r5,r6,r7]/\DS G4 m (oK (λq=>decide (q∈bs)) qs k) G',⟨_,_,_,rfl,hm4,λ_ _ _ e=>e⟩,λk ρ G' _ h=>?_,λk d ρ G' hd h=>?_,λρ G' h=>?_⟩
 .obtain⟨_,_,_,_,s⟩:=h;exact⟨s.ls np hp4,s.ls nq hq4⟩
 .obtain⟨_,_,_,rfl,s⟩:=h;rw[show(Src.zip p q (qs.map bQ) (qs.tail.map bQ)).items=prs (qs.map bQ) (qs.tail.map bQ)from rfl,yI,kj]at hd;obtain⟨z,hz,rfl⟩:=xg.mp hd;obtain⟨z1,z2⟩:=a2a.mp hz;rw[List.getElem?_tail]at z2;have i1:=a6A w o.y1 k;have i2:=a6A w o.y1 (k+1);have c1:=sH w o.y1 k;have kl:k<1000:=by have:=(fj.mp z1).1;omega
  have sl:=a2H (w:=λq=>decide (q∈bs)) (qs:=qs) (sH w o.y1) k
  have en:oK (λq=>decide (q∈bs)) qs (k+1)=(uX z.1 z.2).foldl (dJ λq=>decide (q∈bs)) (oK (λq=>decide (q∈bs)) qs k):=by
   show a8U _ _ _ _=_;rw[cQ z1,cQ z2];rfl
  rw[cQ z1]at i1 c1;rw[cQ z2]at i2 c1;have pl:=ah9 c1;rw[vY rfl];exists a8E;refine ap2 (by omega) (by omega) λsg hsg=>?_;rw[kW bO];have nsg:sg≠m:=λe=>by subst e;rw[s.1]at hsg;cases hsg
  refine nO (λj ρ G''=>∃r7,ρ=[aj (gZ x y g),aj (.ref p),aj (.ref b),aj (.ref wr),aj (.ref m),aj (bQ z.1),aj (bQ z.2),r7]/\DS G4 m (((uX z.1 z.2).take j).foldl (dJ λq=>decide (q∈bs)) (oK (λq=>decide (q∈bs)) qs k)) G''/\aQ G'' sg=aj ((uX z.1 z.2).map bQ)) ⟨_,rfl,s.new hsg,bO⟩ (λj ρ G'' h=>h.choose_spec.2.2) (λj d ρ G'' hd h=>?_) λρ G'' h=>?_
  .obtain⟨_,rfl,s2,hl⟩:=h;rw[kj]at hd;obtain⟨t,ht,rfl⟩:=xg.mp hd;symm;have fl:=xG (b:=λq=>decide (q∈bs)) ((uX z.1 z.2).take j) (oK (λq=>decide (q∈bs)) qs k);have tl:((uX z.1 z.2).take j).length<=101:=by rw[qy];omega
   refine ajO (s2.2 wr _ nw hw4) s2 (by omega) λG5 s5 k5=>⟨_,rfl,?_,?_⟩
   .rw[a2V,ht];show DS G4 m (List.foldl _ _ (_++[t])) G5;rw[List.foldl_append];exact s5
   .unfold aQ at hl ⊢;cases e:G'' sg with
    |none=>rw[e]at hl;cases hl
    |some u=>rw[e]at hl;rw[k5 sg u nsg e];exact hl
  .obtain⟨_,rfl,s2,hl⟩:=h;refine⟨_,_,_,rfl,?_⟩;rw[en];rw[gj,a0g]at s2;exact s2
 .obtain⟨_,_,_,rfl,s⟩:=h;rw[il]at s;exists abI;have sl:=a2H (w:=λq=>decide (q∈bs)) (qs:=qs) (sH w o.y1) (qs.length - 1);have bg:900000<dh:=by decide
  refine aoK s.1 (by omega) λl hl=>?_
  have l5:Le G G':=λa u e=>s.2 a u (λz=>by
   have:=l2 a u e;rw[z,hm]at this;cases this) (l4 a u e)
  have gl:G l=aq:=by
   cases e:G l with
   |none=>rfl
   |some u=>rw[l5 l u e]at hl;cases hl
  exact h' l _ (l5.trans (.new hl)) gl aG
def av8{bs:List (Int×Int)}(h:(i,j)∈bs):j∈sG bs i:=iw.mpr ⟨(i,j),yp.mpr ⟨h,by simp⟩,rfl⟩
def av9{q:Int×Int}:∀{l:List (Int×Int)}{c:Int×Int},q∈pth c l->∃(k:Nat)(a b:Int×Int),(c::l)[k]?=aj a/\(c::l)[k+1]?=aj b/\q∈stp a b
 |[],c,h=>by cases h
 |d::l,c,h=>by
  rcases vg.mp h with h|h
  .exact⟨0,c,d,rfl,rfl,h⟩
  .obtain⟨k,a,b,h1,h2,h3⟩:=av9 h;exact⟨k+1,a,b,h1,h2,h3⟩
def aAS{a b p:Int}(h:q∈a8P a b p):q.2=p:=by
 unfold a8P at h;split at h<;>(obtain⟨i,_,rfl⟩:=iw.mp h;rfl)
def avA{a b:Int×Int}(h1:a.1=b.1)(h:q∈a5L b.1 a.2 b.2):q∈yK a b:=by
 unfold a5L at h;unfold yK aAQ cnt fC;split at h
 .obtain⟨i,hi,rfl⟩:=iw.mp h;rw[ou]at hi;refine iw.mpr ⟨i,ou.mpr (by omega),Prod.ext h1 ?_⟩;simp only;rw[if_pos (by omega)]
  push_cast
  omega
 .obtain⟨i,hi,rfl⟩:=iw.mp h;rw[ou]at hi;refine iw.mpr ⟨i,ou.mpr (by omega),Prod.ext h1 ?_⟩;simp only;rw[if_neg (by omega)]
  push_cast
  omega
def aAT{b:Int×Int}(w:Wk y a b)(h1:1<=q.2)(h2:q.2<=(y:Int))(h:q∈stp a b):q∈uX a b:=by
 unfold uX;rcases vg.mp h with h|h
 .rcases w with w|⟨w1,w2⟩
  .rw[w,a3P]at h;cases h
  .have:=aAS h;omega
 .rcases w with w|⟨w1,w2⟩
  .rw[if_pos w];exact jo _ (avA w h)
  .rw[w1,a3Q]at h;cases h
def ahA{w:P2->Bool}{qs:List P2}{q:P2}(hw:w q=ak):∀{n k:Nat},k<n->q∈uX (qs.getD k (0,0)) (qs.getD (k+1) (0,0))->q∈oK w qs n
 |0,_,h,_=>by omega
 |n+1,k,h,m=>by
  show q∈a8U w (oK w qs n) _ _;unfold a8U;rw[a8V];by_cases e:k=n
  .subst e;exact .inr ⟨m,hw⟩
  .exact .inl (ahA hw (by omega) m)
def a8X{w:P2->Bool}:∀n,(oK w qs n).Nodup
 |0=>a2j
 |n+1=>by
  show(a8U w (oK w qs n) _ _).Nodup;unfold a8U;exact a8W (a8X n)
def cover{bs:List (Int×Int)}(W:aoZ x y bs)(hB:∀q∈bs,InB x y q)(hq:q∈bs):q∈oK (λq=>decide (q∈bs)) (wkF y bs) ((wkF y bs).length - 1):=by
 obtain⟨i,j⟩:=q;have⟨i0,i1,j0,j1⟩:=hB _ hq;simp only at i0 i1 j0 j1;obtain⟨ii,rfl⟩:∃ii:Nat,i=(ii:Int):=⟨i.toNat,by omega⟩;have il:=a8S hq;simp only at il
 have mem:((ii:Int),j)∈dZ (wkF y bs):=by
  rw[W.path];exact aAH W.ens.len (adQ hB) W.ens.inn (adP (by omega)) (av8 hq)
 have hd:=W.nd.hd;have wk:=W.w.step;generalize wkF y bs=qs at mem hd wk ⊢;cases qs with
 |nil=>cases hd
 |cons c l =>
  cases hd;rcases iy.mp mem with e|m
  .cases e;omega
  .obtain⟨k,a,b,h1,h2,h3⟩:=av9 m;have kl:=(fj.mp h2).1;refine ahA (decide_eq_true hq) (k:=k) (by omega) ?_;rw[cQ h1,cQ h2];exact aAT (wk k a b h1 h2) j0 j1 h3
def avB{r:Int×Int}:eqP (.tup [.int q.1,.int q.2]) (.tup [.int r.1,.int r.2])=decide (q=r):=by
 show(eqP (.int q.1) (.int r.1)&&(eqP (.int q.2) (.int r.2)&&ak))=_;rw[show eqP (.int q.1) (.int r.1)=(q.1==r.1)from rfl,show eqP (.int q.2) (.int r.2)=(q.2==r.2)from rfl,Bool.and_true];rcases q with⟨a,b⟩;rcases r with⟨c,d⟩;simp[Prod.ext_iff,Bool.decide_and];rfl
def avC{a b:Int}:((if decide (b>a)then 1 else 0:Int) - (if decide (b<a)then 1 else 0))=sgn a b:=by
 unfold sgn;by_cases c:a<b
 .have:¬ b<a:=by omega
  simp[c,this]
 .by_cases d:b<a
  .simp[c,d]
  .simp[c,d]
def avD(hl:(stp c d).length<9000)(h:∀p G',Le G G'->G p=aq->G' p=aj (.lst ((stp c d).map bQ))->R (.ref p) G'):lM K A [bQ c,bQ d] G R EX:=by
 have big:10000<dh:=by decide
 refine⟨rfl,?_⟩;have h':∀p G',Le G G'->G p=aq->G' p=aj (.lst ((stp c d).map bQ))->bK R (.ref p) G':=λp G' a b e=>bK.here (h p G' a b e);clear h;show tU K A _ _ [aj (bQ c),aj (bQ d),aq,aq,aq] G;exists tU;intro p hp;exists wR;unfold bQ;rw[vY rfl];simp only[wQ,atJ,ad8];refine⟨λmm ρ G'=>∃e ws,ρ=[aj (bQ c),aj (bQ d),aj (.ref p),aj (.int e.1),aj (.int e.2)]/\HS G p (ws.map bQ) G'/\ws++stp e d=stp c d/\(stp e d).length=mm,⟨_,c,[],rfl,.mk0,rfl,rfl⟩,λmm ρ G' hw=>?_⟩;obtain⟨e,ws,rfl,s,hs,hm⟩:=hw;have wl:ws.length<9000:=by rw[←hs,kh]at hl;omega
 unfold bQ;symm;refine⟨rfl,rfl,?_⟩;rw[avB];by_cases q:e=d
 .rw[if_neg (by simp[q])];rw[q,lU,ud]at hs;exists o7;rw[hs]at s;exact h' p G' (s.leG hp) hp s.1
 .rw[if_pos (by simp[q])]
  have fin:∀f:Int×Int,f=nxt e d->jQ K A (λ_=>m6 EX) {nx:=λρ' G''=>∃m',m'<mm/\∃e ws,ρ'=[aj (bQ c),aj (bQ d),aj (.ref p),aj (.int e.1),aj (.int e.2)]/\HS G p (ws.map bQ) G''/\ws++stp e d=stp c d/\(stp e d).length=m',rt:=bK R,ct:=λρ' G''=>∃m',m'<mm/\∃e ws,ρ'=[aj (bQ c),aj (bQ d),aj (.ref p),aj (.int e.1),aj (.int e.2)]/\HS G p (ws.map bQ) G''/\ws++stp e d=stp c d/\(stp e d).length=m',bk:=o7 K A (λ_=>m6 EX) {nx:=λ_ G'=>bK R .non G',rt:=bK R}} [aj (bQ c),aj (bQ d),aj (.ref p),aj (.int f.1),aj (.int f.2)] G':=λf hf=>by
   exists jQ;refine⟨by rw[jE,aF s.1];rfl,?_⟩;rw[jG s.1 (by rw[gj];omega)];have st:=a2E q;rw[←hf]at st;refine⟨(stp f d).length,by rw[←hm,st];simp,f,ws++[f],rfl,by rw[mq];exact s.snd,by rw[←hs,st];simp,rfl⟩
  exists uM;by_cases b:e.1=d.1
  .rw[if_pos (by simp[b])];symm;have:e.2+(if decide (d.2>e.2)then 1 else 0) - (if decide (d.2<e.2)then 1 else 0)=e.2+sgn e.2 d.2:=by rw[←avC];omega
   rw[this];exact fin (e.1,e.2+sgn e.2 d.2) (by unfold nxt;rw[if_pos b])
  .rw[if_neg (by simp[b])];symm;have:e.1+(if decide (d.1>e.1)then 1 else 0) - (if decide (d.1<e.1)then 1 else 0)=e.1+sgn e.1 d.1:=by rw[←avC];omega
   rw[this];exact fin (e.1+sgn e.1 d.1,e.2) (by unfold nxt;rw[if_neg b])
def amL{qs:List (Int×Int)}(hb:aQ G b=aj (qs.map bQ))(n:qs≠[])(qn:qs.length<=1000)(ql:(dZ qs).length<9000)(h:∀p G',Le G G'->G p=aq->G' p=aj (.lst ((dZ qs).map bQ))->R (.ref p) G'):jR K A [.ref b] G R EX:=by
 have big:10000<dh:=by decide
 have n0:0<qs.length:=a0c.mpr n;refine⟨rfl,?_⟩;have h':∀p G',Le G G'->G p=aq->G' p=aj (.lst ((dZ qs).map bQ))->bK R (.ref p) G':=λp G' a b e=>bK.here (h p G' a b e);clear h;show wW K A _ _ [aj (.ref b),aq,aq] G;exists wW;refine uU (k:=0) hb (cg n0) ?_;symm;intro p hp;have pb:∀{G':Gp}{xs:List D},HS G p xs G'->aQ G' b=aj (qs.map bQ):=λ{G' xs} s=>aW (s.leG hp) hb;exists zF,dG (aW (Le.new hp) hb);refine qT (λk ρ G'=>∃r2,ρ=[aj (.ref b),aj (.ref p),r2]/\HS G p ((dZ (qs.take (k+1))).map bQ) G') ⟨_,rfl,?_⟩ (λk ρ G' hk h=>?_) λρ G' h=>?_
 .cases qs with
  |nil=>exact absurd rfl n
  |cons q r=>exact .mk0
 .obtain⟨_,rfl,s⟩:=h;have k1:k+1<qs.length:=by omega
  have kl:=auW (qs:=qs) (k:=k+1+1);have e2:qs.take (k+1+1)=qs.take (k+1)++[qs[k+1]]:=take_snoc (cg k1)
  have e3:dZ (qs.take (k+1+1))=dZ (qs.take (k+1))++stp qs[k] qs[k+1]:=by
   rw[e2];exact iT (by rw[qy,show min (k+1) qs.length - 1=k by omega,zx (by omega)];exact cg (by omega))
  rw[e3,kh]at kl;exists wU;rw[jE,aF s.1];refine⟨rfl,?_⟩;symm;refine uU (pb s) (cg (by omega)) ?_;symm;rw[show(k:Int)+1=((k+1:Nat):Int) by omega];refine uU (pb s) (cg k1) ?_;symm;refine avD (by omega) λp2 G2 l2 hp2 hg2=>?_;have s2:=s.more l2;symm;rw[atZ s2.1 hg2 (by rw[gj,gj];omega)];symm;exact⟨_,rfl,by rw[e3,mq];exact s2.snd⟩
 .obtain⟨_,rfl,s⟩:=h;rw[show((qs.length:Int) - 1).toNat+1=qs.length by omega,a0g]at s;exists zE;exact h' p G' (s.leG hp) hp s.1
def aAU{ps:List (Int×Int)}{last:Nat}(hb:aQ G b=aj (ps.map bQ))(n:ps≠[])(pl:ps.length<9000)(h:∀p G',Le G G'->G p=aq->G' p=aj (.lst ((scan last [] ps++[0]).map D.int))->R (.ref p) G'):mW K A [.ref b,.int last] G R EX:=by
 have big:10000<dh:=by decide
 have n0:0<ps.length:=a0c.mpr n;refine⟨rfl,?_⟩;have h':∀p G',Le G G'->G p=aq->G' p=aj (.lst ((scan last [] ps++[0]).map D.int))->bK R (.ref p) G':=λp G' a b e=>bK.here (h p G' a b e);clear h;show xB K A _ _ [aj (.ref b),aj (.int last),aq,aq] G;exists xB;intro p hp;have pb:∀{G':Gp}{xs:List D},HS G p xs G'->aQ G' b=aj (ps.map bQ):=λ{G' xs} s=>aW (s.leG hp) hb;exists zH,dG (aW (Le.new (o:=.lst []) hp) hb);refine qT (λk ρ G'=>∃r3 f,ρ=[aj (.ref b),aj (.int last),aj (.ref p),r3]/\HS G p (f.map D.int) G'/\scan last f (ps.drop k)=scan last [] ps/\f.length<=k) ⟨_,[],rfl,.mk0,rfl,cu _⟩ (λk ρ G' hk h=>?_) λρ G' h=>?_
 .obtain⟨_,f,rfl,s,hs,fl⟩:=h;have k1:k+1<ps.length:=by omega
  have e1:ps.drop k=ps[k]::ps[k+1]::ps.drop (k+2):=by rw[uq (by omega),uq k1]
  have e2:ps.drop (k+1)=ps[k+1]::ps.drop (k+2):=uq k1;rw[e1,scan,←e2]at hs;have l2:aQ G' p=aj (f.map D.int):=aF s.1;have keep:(if ps[k].1=(f.length:Int)/\ps[k+1].1=(f.length:Int)+1/\f.length<last then f++[ps[k].2]else f)=f->∃r3 f,([aj (.ref b),aj (.int last),aj (.ref p),aj (.int (k:Int))]:aN)=[aj (.ref b),aj (.int last),aj (.ref p),r3]/\HS G p (f.map D.int) G'/\scan last f (ps.drop (k+1))=scan last [] ps/\f.length<=k+1:=λe=>⟨_,f,rfl,s,by rw[e]at hs;exact hs,by omega⟩;exists xA;refine uU (pb s) (cg (by omega)) ?_;symm;rw[dG l2,gj];symm;refine fX (λc1=>?_) λc1=>?_
  .rw[show(k:Int)+1=((k+1:Nat):Int) by omega];refine uU (pb s) (cg k1) ?_;symm;rw[dG l2,gj];symm;refine fX (λc2=>?_) λc2=>?_;rw[dG l2,gj];symm;refine fX (λc3=>?_) λc3=>?_
   .rw[if_pos ⟨by simpa using c1,by simpa using c2,by simpa using c3⟩]at hs;rw[jE,l2];refine⟨rfl,?_⟩;symm;refine uU (pb s) (cg (by omega)) ?_;symm;rw[jG s.1 (by rw[gj];omega)];exact⟨_,f++[ps[k].2],rfl,by rw[mq];exact s.snd,hs,by simp;omega⟩
   .exact keep (if_neg λz=>by simp[z.2.2]at c3)
   .exact keep (if_neg λz=>by simp[z.2.1]at c2)
  .exact keep (if_neg λz=>by simp[z.1]at c1)
 .obtain⟨_,f,rfl,s,hs,fl⟩:=h;have ek:((ps.length:Int) - 1).toNat=ps.length - 1:=by omega
  rw[ek]at hs fl;rw[uq (by omega),a2q (by omega)]at hs;have ef:f=scan last [] ps:=hs;exists zG;intro q hq;rw[alJ (bW s.1 hq) aG (by rw[gj];simp;omega)];intro r hr;have hr0:G r=aq:=(s.leG hp).free ((Le.new hq).free hr);refine h' r _ ((s.leG hp).trans ((Le.new hq).trans (.new hr))) hr0 ?_;rw[aG,ef,mq];rfl
abbrev duF(bs:List (Int×Int))(es:List Int):Nat->List (Int×Int)
 |0=>[(0,0)]
 |k+1=>du2 k (sG bs k) (bI 0 (es.take k)) (es.getD k 0) (du1 k (bI 0 (es.take k)) (duF bs es k))
def amM{k:Nat}{qs:List (Int×Int)}:(du1 k e qs).length<=qs.length+1:=by
 unfold du1;split<;>simp
def aAV{k:Nat}{g:Int}{qs:List (Int×Int)}:(du2 k ps e g qs).length<=qs.length+2:=by
 unfold du2;split
 ·split<;>simp
 .simp
def a6B{bs:List (Int×Int)}:∀{k:Nat},(duF bs es k).length<=1+3*k
 |0=>by simp[duF]
 |k+1=>by
  have:=a6B (bs:=bs) (es:=es) (k:=k);have:=amM (k:=k) (e:=bI 0 (es.take k)) (qs:=duF bs es k);have:=aAV (k:=k) (ps:=sG bs k) (e:=bI 0 (es.take k)) (g:=es.getD k 0) (qs:=du1 k (bI 0 (es.take k)) (duF bs es k));rw[duF];omega
private theorem ahB{bs:List (Int×Int)}{es:List Int}(h:es.length=(zL bs).length):∀{k:Nat},k<=(zL bs).length->DuP (zL bs) es k (duF bs es k)
 |0,_=>.start
 |k+1,hk=>by
  have hp:(zL bs)[k]?=aj (sG bs k):=adP (by rw[yH]at hk;omega);have he:=cg (show k<es.length by omega);rw[duF,a0v,he];exact(ahB h (by omega)).next hp he
def aN6{es ps:List Int}{k:Nat}{gl:Int}{qs:List (Int×Int)}(fs:G s=aq)(hs:G1 s=aj (.lst (qs.map bQ)))(l:Le G G1)(he:aQ G ea=aj (es.map D.int))(hg:es[k]?=aj gl)(hp:aQ G1 p=aj (ps.map D.int))(ql:qs.length<9000)
  (h:∀s' G',G s'=aq->G' s'=aj (.lst ((du2 k ps e gl qs).map bQ))->Le G G'->F.nx [aj (.ref b),aj (.ref ea),r2,aj (.ref s'),aj (.int gl),aj (.int k),aj (.ref p)] G') :
  iJ K A ex F [aj (.ref b),aj (.ref ea),r2,aj (.ref s),aj (.int e),aj (.int k),aj (.ref p)] G1:=by
 have big:10000<dh:=by decide
 have ix:∀{R:eV}{G2:Gp},Le G G2->R (.int gl) G2->bA (.ref ea) (.int (k:Int)) G2 R:=λ{R G2} l2 z=>by
  rw[tD (aW l2 he) (d:=.int gl) (by rw[pU,kj,hg];rfl)];exact z
 have lu:∀{G2:Gp}{o:GO},Le G G2->Le G (aM G2 s o):=λ{G2 o} l2 a u z=>by rw[bJ (zU z fs)];exact l2 a u z
 unfold du2 at h;exists iJ;refine ix l ?_;symm;refine ai9 (λc=>?_) λc=>?_
 .rw[if_neg (by simpa using c)]at h;refine ix l ?_;exists o8;rw[jE,aF hs];refine⟨rfl,?_⟩;symm;rw[jG hs (by rw[gj];omega)];rw[mq]at h;exact h s _ fs aG (lu l)
 .have c:gl=e:=by simpa using c
  subst c;rw[if_pos rfl]at h;intro q hq;have hp2:=aW (Le.new (o:=.lst []) hq) hp;rw[iK hp2 bO (by rw[jl];rintro d hd;obtain⟨i,_,rfl⟩:=iw.mp hd;rfl) rfl];by_cases n:ps=[]
  .subst n;rw[if_pos rfl]at h;simp only[a0k,fV];symm;intro q2 hq2;rw[iK (aW (.new hq2) hp2) bO rfl rfl];simp only[a0k,fV];symm;exact h s _ fs (bW (bW hs hq) hq2) (l.trans ((Le.new hq).trans (.new hq2)))
  .rw[if_neg n]at h
   have ee:fV (ps.map D.int) []=ao:=by cases ps with
    |nil=>exact absurd rfl n
    |cons a r=>rfl
   rw[ee];symm;refine fX (λc0=>?_) λc0=>?_
   .have c0:gl=0:=by simpa using c0
    refine auX hp2 n λM h1 h2=>?_;symm;intro q2 hq2;rw[alJ (bW (bW hs hq) hq2) aG (by rw[gj];simp;omega)];intro r hr;have eM:M=fL ps gl:=by unfold fL;rw[if_pos c0,adK h1 h2]
    have l3:Le G (aM (aM G1 q (.lst [])) q2 (.lst [.tup [.int (k:Int),.int M],.tup [.int (k:Int),.int gl]])):=l.trans ((Le.new hq).trans (.new hq2));refine h r _ (l3.free hr) ?_ (l3.trans (.new hr));rw[aG,mq,←eM];rfl
   .have c0:¬ gl=0:=by simpa using c0
    intro q2 hq2;have hp3:=aW (Le.new (o:=.lst []) hq2) hp2;rw[iK hp3 bO (by rw[jl];rintro d hd;obtain⟨i,_,rfl⟩:=iw.mp hd;rfl) rfl,ee];symm;refine aCP hp3 n λM h1 h2=>?_;symm;intro q3 hq3;rw[alJ (bW (bW (bW hs hq) hq2) hq3) aG (by rw[gj];simp;omega)];intro r hr;have eM:M=fL ps gl:=by unfold fL;rw[if_neg c0,auQ h1 h2]
    have l3:Le G (aM (aM (aM G1 q (.lst [])) q2 (.lst [])) q3 (.lst [.tup [.int (k:Int),.int M],.tup [.int (k:Int),.int gl]])):=l.trans ((Le.new hq).trans ((Le.new hq2).trans (.new hq3)));refine h r _ (l3.free hr) ?_ (l3.trans (.new hr));rw[aG,mq,←eM];rfl
def aI2{bs:List (Int×Int)}{es:List Int}(hb:aQ G b=aj (bs.map bQ))(bl:bs.length<1000)(he:aQ G ea=aj (es.map D.int))(el:es.length<100)
  (h:∀p G',Le G G'->G' p=aj (.lst ((duF bs es es.length++[(0,0)]).map bQ))->R (.ref p) G'):pL K A [.ref b,.ref ea,wh] G R EX:=by
 have big:10000<dh:=by decide
 refine⟨rfl,?_⟩;have h':∀p G',Le G G'->G' p=aj (.lst ((duF bs es es.length++[(0,0)]).map bQ))->bK R (.ref p) G':=λp G' a e=>bK.here (h p G' a e);clear h;show zY K A _ _ [aj (.ref b),aj (.ref ea),aj wh,aq,aq,aq,aq] G;exists zY;intro s hs;exists a1Z,a1Y,dG (aW (Le.new (o:=.lst [.tup [.int 0,.int 0]]) hs) he);refine qT (λk ρ G'=>∃r5 r6 s,ρ=[aj (.ref b),aj (.ref ea),aj wh,aj (.ref s),aj (.int (bI 0 (es.take k))),r5,r6]/\G s=aq/\G' s=aj (.lst ((duF bs es k).map bQ))/\Le G G') ⟨_,_,s,rfl,hs,aG,.new hs⟩ (λk ρ G' hk h=>?_) λρ G' h=>?_
 .obtain⟨_,_,s,rfl,fs,hs,l⟩:=h;have kl:k<es.length:=by omega
  have hg:=cg kl;have dl:=a6B (bs:=bs) (es:=es) (k:=k);exists zJ;rw[jF (aW l hb)];refine adO (λu _=>u==(k:Int)) (λ_ v=>v) (aW l hb) bl (λu v G2 l2 Q h=>?_) (λu v G2 l2 Q h=>h G2 (.refl _)) λp hp=>?_
  .symm;exact h G2 (.refl _)
  .have ef:((bs.filter λq=>q.1==(k:Int)).map λq=>q.2)=sG bs k:=by
    unfold sG;congr 1
   rw[ef];have sp:s≠p:=zU hs hp;have l1:Le G (aM G' p (.lst ((sG bs k).map D.int))):=l.trans (.new hp);have hs1:=bW (o:=.lst ((sG bs k).map D.int)) hs hp;have el2:bI 0 (es.take (k+1))=es[k]:=by rw[take_snoc hg];exact fP
   have en:duF bs es (k+1)=du2 k (sG bs k) (bI 0 (es.take k)) es[k] (du1 k (bI 0 (es.take k)) (duF bs es k)):=by rw[duF,a0v,hg];rfl
   have d1:=amM (k:=k) (e:=bI 0 (es.take k)) (qs:=duF bs es k)
   have fin:∀G2,G2 s=aj (.lst ((du1 k (bI 0 (es.take k)) (duF bs es k)).map bQ))->Le G G2->aQ G2 p=aj ((sG bs k).map D.int)->iJ K A (λ_=>m6 EX) {nx:=λρ G'=>∃r5 r6 s,ρ=[aj (.ref b),aj (.ref ea),aj wh,aj (.ref s),aj (.int (bI 0 (es.take (k+1)))),r5,r6]/\G s=aq/\G' s=aj (.lst ((duF bs es (k+1)).map bQ))/\Le G G',rt:=bK R,ct:=λρ G'=>∃r5 r6 s,ρ=[aj (.ref b),aj (.ref ea),aj wh,aj (.ref s),aj (.int (bI 0 (es.take (k+1)))),r5,r6]/\G s=aq/\G' s=aj (.lst ((duF bs es (k+1)).map bQ))/\Le G G',bk:=tW K A (λ_=>m6 EX) {nx:=λ_ G'=>bK R .non G',rt:=bK R}} [aj (.ref b),aj (.ref ea),aj wh,aj (.ref s),aj (.int (bI 0 (es.take k))),aj (.int k),aj (.ref p)] G2:=λG2 h2 l2 hp2=>by
    refine aN6 fs h2 l2 he hg hp2 (by omega) λs' G3 f3 h3 l3=>?_;exact⟨_,_,s',by rw[el2],f3,by rw[en];exact h3,l3⟩
   exists uP;refine fX (λc=>?_) λc=>?_
   .have c:0<k:=by simpa using c
    rw[jE,aF hs1];refine⟨rfl,?_⟩;symm;rw[jG hs1 (by rw[gj];omega)];refine fin _ ?_ (λa u z=>by rw[bJ (zU z fs)];exact l1 a u z) (aF (by rw[bJ (Ne.symm sp)];exact aG));rw[aG];unfold du1;rw[if_neg (by omega),mq];rfl
   .have c:k=0:=by simpa using c
    refine fin _ ?_ l1 bO;unfold du1;rw[if_pos c];exact hs1
 .obtain⟨_,_,s,rfl,fs,hs,l⟩:=h;have dl:=a6B (bs:=bs) (es:=es) (k:=es.length);rw[show((es.length:Int)).toNat=es.length by omega]at hs;exists tW;intro q hq;rw[alJ (bW hs hq) aG (by rw[gj];simp;omega)];intro r hr;refine h' r _ (l.trans ((Le.new hq).trans (.new hr))) ?_;rw[aG,mq];rfl
def avE{qs:List (Int×Int)}(o:OkP x y g)(hb:G b=aj (.lst (qs.map bQ)))(w:Walk x y qs)(nd:Nd qs)(la:qs[qs.length - 1]?=aj (0,0))(ql:qs.length<=1000)(h:∀G',Le G G'->R (.bl ak) G'):lN K A [.ref b,gZ x y g] G R EX:=by
 have big:10000<dh:=by decide
 have n0:0<qs.length:=(fj.mp nd.hd).1;have n:qs≠[]:=a0c.mp n0;have ls:=aF hb;refine⟨rfl,?_⟩;have h':∀G',Le G G'->bK R (.bl ak) G':=λG' l=>bK.here (h G' l);clear h;show tV K A _ _ [aj (.ref b),aj (gZ x y g),aq,aq,aq,aq] G;exists tV,yR hb;intro q hq;have l1:Le G (aM G q (.lst [])):=.new hq;rw[kJ (aW l1 ls) bO (rZ qs (by omega)) rfl]
 have ee:fV (qs.map bQ) []=ao:=by cases qs with
  |nil=>exact absurd rfl n
  |cons a r=>rfl
 rw[ee];exists wZ;rw[kW (aW l1 ls)];refine nO (λk ρ G'=>∃r2,ρ=[aj (.ref b),aj (gZ x y g),r2,aq,aq,aq]/\Le G G') ⟨_,rfl,l1⟩ (λk ρ G' h=>?_) (λk d ρ G' hd h=>?_) λρ G' h=>?_
 .obtain⟨_,_,l⟩:=h;exact aW l ls
 .obtain⟨_,rfl,l⟩:=h;obtain⟨⟨i,j⟩,hq,rfl⟩:=amJ hd;have⟨i1,i2,i3,i4⟩:=w.inn _ (iz hq);simp only at i1 i2 i3 i4;unfold bQ;exists uN;refine am7 ?_;symm;refine am7 ?_;unfold gZ;exists pI;rw[if_neg (by simp;omega)];symm;rw[if_neg (by simp;omega)];symm;rw[if_neg (by simp;omega)];symm;rw[if_neg (by simp;omega)];exact⟨_,rfl,l⟩
 .obtain⟨_,rfl,l⟩:=h;exists wY,dG (aW l ls);refine qT (λk ρ G'=>∃r2 r3 r4 r5,ρ=[aj (.ref b),aj (gZ x y g),r2,r3,r4,r5]/\Le G G') ⟨_,_,_,_,rfl,l⟩ (λk ρ G' hk h=>?_) λρ G' h=>?_
  .obtain⟨_,_,_,_,rfl,l⟩:=h;have k1:k+1<qs.length:=by omega
   have a1:qs[k]?=aj qs[k]:=cg (by omega);have a2:qs[k+1]?=aj qs[k+1]:=cg k1;have ne:=nd.nd k _ _ a1 a2;have wk:=w.step k _ _ a1 a2;generalize qs[k]=q1 at *;generalize qs[k+1]=q2 at *;exists uO;refine uU (aW l ls) a1 ?_;exists pK;rw[show(k:Int)+1=((k+1:Nat):Int) by omega];refine uU (aW l ls) a2 ?_;exists pJ;refine⟨rfl,rfl,?_⟩;rw[avB,decide_eq_false ne];symm;unfold gZ;unfold Wk at wk;by_cases c:q1.1=q2.1
   .rw[if_neg (by simp[c])];exact⟨_,_,_,_,rfl,l⟩
   .rcases wk with wk|⟨w1,w2⟩
    .exact absurd wk c
    .rw[if_pos (by simp[c])];symm;rw[if_neg (by simp[w1])];symm;rcases w2 with w2|w2
     .rw[if_neg (by simp[w2])];exact⟨_,_,_,_,rfl,l⟩
     .rw[if_pos (by simp;omega)];symm;rw[if_neg (by simp;omega)];exact⟨_,_,_,_,rfl,l⟩
  .obtain⟨_,_,_,_,rfl,l⟩:=h;exists wX;refine uU (k:=0) (aW l ls) nd.hd ?_;symm;refine⟨rfl,rfl,?_⟩;rw[show eqP (.tup [.int (0,0).1,.int (0,0).2]) (.tup [.int 0,.int 0])=ak from rfl];exists dG (aW l ls);rw[show(qs.length:Int) - 1=((qs.length - 1:Nat):Int) by omega];refine uU (aW l ls) la ?_;symm;refine⟨rfl,rfl,?_⟩;exact h' G' l
def aI3:wkF y []=[(0,0)]:=by
 show cN [(0,0)] (0,0)=_;simp[cN]
def avF{bs:List (Int×Int)}(n:bs≠[])(hB:∀q∈bs,InB x y q):∃(m:Nat)(ps:List Int)(r:List (List Int)),iB bs=(m:Int)/\zL bs=ps::r/\r.length=m:=by
 obtain⟨q,t,rfl⟩:∃q t,bs=q::t:=by cases bs with
  |nil=>exact absurd rfl n
  |cons q t=>exact⟨q,t,rfl⟩
 have h1:=a8S (rm (a:=q) (l:=t));have h2:=(hB q (by simp)).1;have hl:=yH (bs:=q::t);cases e:zL (q::t)with
 |nil=>rw[e]at hl;simp at hl;omega
 |cons ps r =>
  rw[e,qz]at hl;exact⟨r.length,ps,r,by omega,rfl,rfl⟩
def abR{bs:List (Int×Int)}(o:OkP x y g)(hs:G s=aj (.lst ((wkF y bs).map bQ)))(wo:aoZ x y bs)(hb:aQ G b=aj (bs.map bQ))(hB:∀q∈bs,InB x y q)(bl:bs.length<900)(h:∀G',Le G G'->R (.bl ak) G'):fB K A [.ref s,.ref b,gZ x y g] G R EX:=by
 have big:10000<dh:=by decide
 have⟨x0,x1,y0,y1,g0,g1⟩:=o;refine⟨rfl,?_⟩;have h':∀G',Le G G'->bK R (.bl ak) G':=λG' l=>bK.here (h G' l);clear h;show o9 K A _ _ [aj (.ref s),aj (.ref b),aj (gZ x y g),aq,aq,aq] G;exists o9;refine avE o hs wo.w wo.nd wo.last wo.len λG2 l2=>?_;exists rT;intro q hq;have l12:Le G (aM G2 q (.lst [])):=l2.trans (.new hq);rw[kJ (aW l12 hb) bO (rZ _ (by omega)) rfl];generalize aM G2 q (.lst [])=G3 at l12;by_cases c:bs=[]
 .subst c;rw[aI3]at hs;simp only[a0k,fV];symm;intro q2 hq2;have l3:Le G (aM G3 q2 (.lst [.tup [.int 0,.int 0]])):=l12.trans (.new hq2);rw[kJ (aF (l3 _ _ hs)) bO (by rfl) (by rfl)];rw[show fV ([(0,0)].map bQ) [.tup [.int 0,.int 0]]=ak from by rfl];exact h' _ l3
 .have ee:fV (bs.map bQ) []=ao:=by cases bs with
   |nil=>exact absurd rfl c
   |cons q r=>rfl
  rw[ee];obtain⟨m,ps,rr,em,ep,er⟩:=avF c hB;have la:=ah5 x0 hB;have pl:(zL bs).length<=x:=by rw[yH];omega
  have okA:=adQ hB;have el:(wkE y bs).length=rr.length+1:=by rw[wo.ens.len,ep];rfl
  have elp:(wkE y bs).length=(zL bs).length:=wo.ens.len;have tl:(tot (zL bs) (wkE y bs)).length<=6000:=aAJ pl (by omega) (by omega) okA wo.ens.inn;have wn:wkF y bs≠[]:=λe=>by have:=wo.nd.hd;rw[e]at this;cases this
  have sn:scan m [] (tot (zL bs) (wkE y bs))++[0]=wkE y bs:=by
   have:=auU (ps:=ps) el wo.l0;rw[er,←ep]at this;exact this
  exists rR;refine amL (aF (l12 _ _ hs)) wn wo.len (by rw[wo.path];omega) λp G4 l4 fp hp=>?_;rw[wo.path]at hp;have l14:Le G G4:=l12.trans l4;exists rQ;rw[jF (aW l14 hb)];refine adO (λ_ _=>ak) (λu _=>u) (aW l14 hb) (by omega) (λu v G' l Q h=>h G' (.refl _)) (λu v G' l Q h=>h G' (.refl _)) λp2 hp2=>?_;have ef:(bs.filter λ_=>ak)=bs:=a0b.mpr λ_ _=>rfl;rw[ef];symm;refine auX bO (by simpa using c) λM h1 h2=>?_
  have eM:M=(m:Int):=by
   rw[←em];unfold iB;rw[if_neg c];exact adK h1 h2
  subst eM;have l15:Le G (aM G4 p2 (.lst ((bs.map λq=>q.1).map D.int))):=l14.trans (.new hp2);have hp5:(aM G4 p2 (.lst ((bs.map λq=>q.1).map D.int))) p=aj (.lst ((tot (zL bs) (wkE y bs)).map bQ)):=bW hp hp2;generalize aM G4 p2 (.lst ((bs.map λq=>q.1).map D.int))=G5 at l15 hp5;exists rP;refine aAU (last:=m) (aF hp5) (by unfold tot;simp) (by omega) λe G6 l6 fe he=>?_;rw[sn]at he;have l16:Le G G6:=l15.trans l6;exists rO,dG (aF he);rw[el,er,if_neg (by simp)];symm;rw[jF (aF he)];refine alH (λ_=>ao) (λd=>d) (by show((wkE y bs).map D.int).length<_;rw[gj,el];omega) (aF he) (λd hd G' l Q z=>?_) (λd hd cc=>by cases cc) λp3 hp3=>?_
  .obtain⟨ev,hev,rfl⟩:=iw.mp hd;have:=wo.ens.inn ev hev;unfold gZ;symm;by_cases c0:ev=0
   .rw[if_neg (by simp[c0])];exact z _ (.refl _)
   .rw[if_pos (by simp[c0])];symm;rw[show(ev==(y:Int)+1)=ak from by simp;omega];exact z _ (.refl _)
  .rw[show((Src.lst e ((wkE y bs).map D.int)).items.filter λ_=>ao).map (λd=>d)=[] by simp];symm;intro p4 hp4;rw[iK (aW (.new hp4) bO) bO rfl rfl];simp only[fV];have l17:Le G6 (aM (aM G6 p3 (.lst [])) p4 (.lst [])):=(Le.new hp3).trans (.new hp4);generalize aM (aM G6 p3 (.lst [])) p4 (.lst [])=G7 at l17;have l18:Le G G7:=l16.trans l17;unfold gZ;exists rN;refine aI2 (aW l18 hb) (by omega) (aF (l17 _ _ he)) (by omega) λd G8 l8 hd=>?_;symm
   have dp:dZ (duF bs (wkE y bs) (wkE y bs).length++[(0,0)])=tot (zL bs) (wkE y bs):=by
    rw[elp];exact(ahB elp (cu _)).home elp wo.l0
   have dl:=a6B (bs:=bs) (es:=wkE y bs) (k:=(wkE y bs).length);refine amL (aF hd) (by simp) (by simp;omega) (by rw[dp];omega) λdpa G9 l9 _ hdp=>?_;rw[dp]at hdp;have l69:Le G6 G9:=l17.trans (l8.trans l9);have hp9:G9 p=aj (.lst ((tot (zL bs) (wkE y bs)).map bQ)):=l69 _ _ (l6 _ _ hp5);symm;rw[kJ (aF hp9) (aF hdp) (rZ _ (by omega)) (rZ _ (by omega)),auP];exact h' _ (l16.trans l69)
abbrev a8Y(M:List P2)(q r:P2):List P2:=if q.1=r.1 then(yK q r).foldl (dJ λ_=>ak) M else M
abbrev xH(qs:List P2):Nat->List P2
 |0=>[]
 |k+1=>a8Y (xH qs k) (qs.getD k (0,0)) (qs.getD (k+1) (0,0))
variable{w:P2->Bool}
def adS(M:List P2)(q:P2):(dJ (λ_=>ak) M q).filter w=dJ w (M.filter w) q:=by
 unfold dJ nP;rw[if_pos rfl];by_cases m:q∈M<;>by_cases c:w q=ak<;>simp[m,c]
def fold_filter{w:P2->Bool}:∀(l M:List P2),(l.foldl (dJ λ_=>ak) M).filter w=l.foldl (dJ w) (M.filter w)
 |[],M=>rfl
 |q::l,M=>by rw[a0s,a0s,fold_filter l,adS]
private theorem step_eq{M:List P2}{q r:P2}(hw:∀q,w q=ak->isB y q=ak)(hq:isB y q=ak->q∈M)(hr:q.1=r.1∨isB y q=ao/\isB y r=ao):a8U w (M.filter w) q r=(a8Y M q r).filter w:=by
 unfold a8U a8Y uX;by_cases c:q.1=r.1
 .rw[if_pos c,if_pos c,a0s,fold_filter];congr 1;unfold dJ;split
  ·rename_i h;unfold nP;rw[if_pos (yp.mpr ⟨hq (hw q h),h⟩)]
  .rfl
 .rw[if_neg c,if_neg c];obtain⟨h1,h2⟩:=hr.resolve_left c;have k1:¬ w q=ak:=λz=>by rw[hw q z]at h1;cases h1
  have k2:¬ w r=ak:=λz=>by rw[hw r z]at h2;cases h2
  simp[dJ,k1,k2]
def ap3{q r:P2}(hq:isB y q=ak->q∈M)(hr:q.1=r.1∨isB y q=ao/\isB y r=ao)(hb:isB y r=ak):r∈a8Y M q r:=by
 unfold a8Y;by_cases c:q.1=r.1
 .rw[if_pos c,a8V];by_cases e:q=r
  .exact .inl (by rw[←e];exact hq (by rw[e];exact hb))
  .exact .inr ⟨av5 c e,rfl⟩
 .obtain⟨_,h2⟩:=hr.resolve_left c;rw[hb]at h2;cases h2
def amN{y:Nat}{w:P2->Bool}{qs:List P2}(hw:∀q,w q=ak->isB y q=ak)(h0:isB y (qs.getD 0 (0,0))=ao)(hs:∀k,k+1<qs.length->(qs.getD k (0,0)).1=(qs.getD (k+1) (0,0)).1∨isB y (qs.getD k (0,0))=ao/\isB y (qs.getD (k+1) (0,0))=ao) :
  ∀k,k<qs.length->oK w qs k=(xH qs k).filter w/\(isB y (qs.getD k (0,0))=ak->qs.getD k (0,0)∈xH qs k)
 |0,_=>⟨rfl,λz=>by rw[h0]at z;cases z⟩
 |k+1,h=>by
  obtain⟨a,b⟩:=amN hw h0 hs k (by omega);refine⟨?_,ap3 b (hs k h)⟩;show a8U w (oK w qs k) _ _=_;rw[a];exact step_eq hw b (hs k h)
def ahC{qs:List P2}(h:∀k,cnt (qs.getD k (0,0)) (qs.getD (k+1) (0,0))<=100):∀k,(xH qs k).length<=k*101
 |0=>by simp[xH]
 |k+1=>by
  have a:=ahC h k;have b:=xG (b:=λ_=>ak) (yK (qs.getD k (0,0)) (qs.getD (k+1) (0,0))) (xH qs k);rw[a2G]at b;have c:=h k;show(a8Y (xH qs k) _ _).length<=_;unfold a8Y;split<;>omega
def abS{qs bs:List P2}(W:Walk x y qs)(h0:qs[0]?=aj (0,0))(hB:∀q∈bs,InB x y q):oK (λq=>decide (q∈bs)) qs (qs.length - 1)=(xH qs (qs.length - 1)).filter λq=>decide (q∈bs):=by
 have n0:=(fj.mp h0).1;refine(amN (y:=y) (λq hq=>?_) (by rw[cQ h0];rfl) (λk hk=>?_) (qs.length - 1) (by omega)).1
 .have⟨_,_,a,b⟩:=hB q (of_decide_eq_true hq);unfold isB;rw[decide_eq_true (by omega),decide_eq_true b];rfl
 .have a1:qs[k]?=aj qs[k]:=cg (by omega);have a2:qs[k+1]?=aj qs[k+1]:=cg hk;rw[cQ a1,cQ a2];refine(W.step k _ _ a1 a2).imp id ?_;rintro⟨e,z⟩;unfold isB;rw[←e];rcases z with z|z<;>rw[z]<;>simp<;>omega
def tX{w:P2->Bool}{q:P2}:∀{M:List P2},q∈M.filter w->r∈M.filter w->((M.filter w).idxOf q<(M.filter w).idxOf r↔M.idxOf q<M.idxOf r)
 |[],h,_=>by cases h
 |a::t,hq,hr=>by
  have wq:=(yp.mp hq).2;have wr:=(yp.mp hr).2;by_cases c:w a=ak
  .rw[List.filter_cons_of_pos c]at hq hr ⊢;rw[a0u,a0u,a0u,a0u];by_cases e1:a=q<;>by_cases e2:a=r
   .subst e1;subst e2;simp
   .subst e1;simp[beq_eq_false_iff_ne.mpr e2]
   .subst e2;simp[beq_eq_false_iff_ne.mpr e1]
   .have h1:=(iy.mp hq).resolve_left λe=>e1 e.symm;have h2:=(iy.mp hr).resolve_left λe=>e2 e.symm;have:=tX h1 h2;simp only[beq_eq_false_iff_ne.mpr e1,beq_eq_false_iff_ne.mpr e2,cond_false];omega
  .rw[List.filter_cons_of_neg c]at hq hr ⊢;have e1:a≠q:=λe=>c (e ▸ wq);have e2:a≠r:=λe=>c (e ▸ wr);rw[a0u (xs:=t),a0u (xs:=t),beq_eq_false_iff_ne.mpr e1,beq_eq_false_iff_ne.mpr e2];have:=tX hq hr;simp only[cond_false];omega
abbrev tnK(M:List (Int×Int)):List (List Int×D):=M.zipIdx.map λz=>([z.1.1,z.1.2],D.int (z.2:Int))
def aCS{q:Int×Int}:∀{M:List (Int×Int)}(n:Nat),q∈M->((M.zipIdx n).map λz=>([z.1.1,z.1.2],D.int (z.2:Int))).lookup [q.1,q.2]=aj (.int ((n+M.idxOf q:Nat):Int))
 |[],_,h=>by cases h
 |a::t,n,h=>by
  rw[List.zipIdx_cons,nj,lg,a0u];by_cases e:a=q
  .subst e;simp
  .have ht:=(iy.mp h).resolve_left λz=>e z.symm;have ne:([q.1,q.2]==[a.1,a.2])=ao:=beq_eq_false_iff_ne.mpr λz=>e (aj0 z).symm;rw[show([q.1,q.2]==[((a,n):(Int×Int)×Nat).1.1,((a,n):(Int×Int)×Nat).1.2])=ao from ne,beq_eq_false_iff_ne.mpr e];show a3a [q.1,q.2] _=_;rw[aCS (n+1) ht];simp only[cond_false];congr 3;omega
def amO{q:Int×Int}:∀{M:List (Int×Int)}(n:Nat),q∉M->((M.zipIdx n).map λz=>([z.1.1,z.1.2],D.int (z.2:Int))).lookup [q.1,q.2]=aq
 |[],_,_=>rfl
 |a::t,n,h=>by
  rw[List.zipIdx_cons,nj,lg];have e:a≠q:=λz=>h (z ▸ rm ..);have ne:([q.1,q.2]==[a.1,a.2])=ao:=beq_eq_false_iff_ne.mpr λz=>e (aj0 z).symm;rw[show([q.1,q.2]==[((a,n):(Int×Int)×Nat).1.1,((a,n):(Int×Int)×Nat).1.2])=ao from ne];exact amO (n+1) λz=>h (jo _ z)
def adT{M:List (Int×Int)}(h:q∈M):(tnK M).lookup [q.1,q.2]=aj (.int (M.idxOf q:Nat)):=by
 have:=aCS 0 h;rw[Nat.zero_add]at this;exact this
def ajP:((tnK M).lookup [q.1,q.2]).isSome=decide (q∈M):=by
 by_cases h:q∈M
 .rw[adT h,decide_eq_true h];rfl
 .rw[show(tnK M).lookup [q.1,q.2]=aq from amO 0 h,decide_eq_false h];rfl
def amP{M:List (Int×Int)}(h:q∉M):a3D (tnK M) [q.1,q.2] (.int (M.length:Int))=tnK (M++[q]):=by
 unfold L2.a3D;rw[ajP,decide_eq_false h,if_neg (by decide)];unfold tnK;rw[List.zipIdx_append,mq];simp
def ahD:∀(M N:List (Int×Int)),(N++M).Nodup->foldM (tnK N) (M.zipIdx N.length |>.map λz=>([z.1.1,z.1.2],D.int (z.2:Int)))=tnK (N++M)
 |[],N,_=>by rw[ud];rfl
 |q::M,N,nd=>by
  have hq:q∉N:=λh=>(a1n.mp nd).2.2 q h q (rm ..) rfl;rw[List.zipIdx_cons,nj];show foldM (a3D (tnK N) [q.1,q.2] (.int (N.length:Int))) _=_;rw[amP hq];have:=ahD M (N++[q]) (by simpa using nd);rw[kh,a1p]at this;rw[this,qu];rfl
def avG{M:List (Int×Int)}(nd:M.Nodup):foldM [] (tnK M)=tnK M:=ahD M [] nd
def avH{kf:Nat->Int}{n:Nat}{l m:List Nat}(e:∀i j,i<n->j<n->(Bf kf i j↔Bf kg i j))(hl:l.Perm (je n))(hm:m.Perm (je n))(pl:l.Pairwise (Bf kf))(pm:m.Pairwise (Bf kg)):l=m:=by
 have il:∀i∈l,i<n:=λi hi=>ou.mp (hl.mem_iff.mp hi);have pl':l.Pairwise (Bf kg):=pl.imp_of_mem λ{a b} ha hb h=>(e a b (il a ha) (il b hb)).mp h;refine(hl.trans hm.symm).eq_of_pairwise (λa b _ _ h1 h2=>?_) pl' pm;unfold L2.Bf at h1 h2;omega
structure Rw where
 q:Int×Int
 l:Int
 n:Int
@[simp]def rw0:Rw:=⟨(0,0),0,0⟩
abbrev iC(r:Rw):D:=.tup [bQ r.q,.int r.l,.int r.n]
abbrev kR(M:List P2)(r:Rw):Int:=((M.idxOf r.q:Nat):Int)*1000+r.l
abbrev kyR(M:List P2)(rs:List Rw)(i:Nat):Int:=kR M (rs.getD i rw0)
def a4X{rs:List Rw}{k:Nat}(h:rs[k]?=aj r):rs.getD k rw0=r:=by simp[a0n,h]
abbrev OkR(x y:Nat)(r:Rw):Prop:=InB x y r.q/\0<=r.l/\r.l<=999
@[simp]def bR(rs:List Rw):List P2:=rs.map (·.q)
def amR(h:∀r∈rs,OkR x y r):∀q∈bR rs,InB x y q:=λq hq=>by
 obtain⟨r,hr,rfl⟩:=iw.mp hq;exact(h r hr).1
abbrev stR(y:Nat)(rs:List Rw):List P2:=oK (λq=>decide (q∈bR rs)) (wkF y (bR rs)) ((wkF y (bR rs)).length - 1)
def aI4{t:bx}{M:List P2}{r:Rw}(ht:G t=aj (.qL (tnK M)))(hm:r.q∈M)(h:R (.tup [.int (M.idxOf r.q:Nat),.int r.l]) G):gR K A [.ref t,iC r] G R EX:=by
 refine⟨rfl,?_⟩;show mR K A _ [aj (.ref t),aj (iC r)] G R;unfold iC bQ;exists mR;refine aj3 (n:=[r.q.1,r.q.2]) ht (adT hm) ?_;symm;exact h
def ahE{rs:List Rw}(o:OkP x y g)(hb:aQ G b=aj (rs.map iC))(hB:∀r∈rs,OkR x y r)(bl:rs.length<64)(hT:G A.dH=aj (.tab bY.qual bY.pos))
  (h:∀s l (q:Array Nat) G',Le G G'->G s=aq->G l=aq->s≠l->G' s=aj (.lst ((wkF y (bR rs)).map bQ))->aoZ x y (bR rs)->Pm rs.length q->Sb (kyR (stR y rs) rs) q rs.length->G' l=aj (.lst (q.toList.map λi=>(rs.map iC).getD i .non))->R (.tup [.ref s,.ref l]) G'):rD K A [gZ x y g,.ref b] G R EX:=by
 have big:10000<dh:=by decide
 refine⟨rfl,?_⟩;have h':∀s l (q:Array Nat) G',Le G G'->G s=aq->G l=aq->s≠l->G' s=aj (.lst ((wkF y (bR rs)).map bQ))->aoZ x y (bR rs)->Pm rs.length q->Sb (kyR (stR y rs) rs) q rs.length->G' l=aj (.lst (q.toList.map λi=>(rs.map iC).getD i .non))->bK R (.tup [.ref s,.ref l]) G':=λs l q G' a b c d e f i j k=>bK.here (h s l q G' a b c d e f i j k);clear h;have hb2:=amR hB;have bl2:(bR rs).length<64:=by rw[gj];exact bl
 show a1X K A _ _ [aj (gZ x y g),aj (.ref b),aq,aq,aq] G;exists a1X,a4T;refine mZ o ?_;exists a1W;rw[jF hb];refine comp_map (λd=>match d with|.tup (a::_)=>a|_=>.non) (by show(rs.map iC).length<_;rw[gj];omega) hb (λd hd G' l Q z=>?_) λc hc=>?_
 .obtain⟨r,hr,rfl⟩:=iw.mp hd;unfold iC bQ;symm;exact z G' (.refl _)
 rw[show((Src.lst b (rs.map iC)).items.map λd=>match d with|.tup (a::_)=>a|_=>.non)=(bR rs).map bQ by show((rs.map iC).map _)=_;rw[jz,jz];rfl];have l1:Le G (aM G c (.lst ((bR rs).map bQ))):=.new hc;exists a1V;refine w_walk (bs:=bR rs) o bO hb2 (by omega) λs G2 l2 fs hs W=>?_;exists a1U;refine aAR (qs:=wkF y (bR rs)) (bs:=bR rs) o (aF hs) (aW l2 bO) W.w W.len (by omega) λp G3 l3 fp hp=>?_;symm;have sl:=a2H (w:=λq=>decide (q∈bR rs)) (qs:=wkF y (bR rs)) (sH W.w o.y1) ((wkF y (bR rs)).length - 1);have cv:∀r∈rs,r.q∈stR y rs:=λr hr=>cover W hb2 (iw.mpr ⟨r,hr,rfl⟩);have nd:(stR y rs).Nodup:=a8X _;have wl:=W.len;have ml:(stR y rs).length<900000:=by unfold stR;omega
 rw[show oK (λq=>decide (q∈bR rs)) (wkF y (bR rs)) ((wkF y (bR rs)).length - 1)=stR y rs from rfl]at hp;generalize hM:stR y rs=M at hp cv nd ml h';have bi2:1000000<dh:=by decide
 refine auB (aF hp) ?_
 have it:∀d∈(Src.enl p (M.map bQ)).items,∃(i:Nat)(q:Int×Int),d=.tup [.int i,bQ q]:=λd hd=>by
  obtain⟨z,hz,rfl⟩:=iw.mp (show d∈(M.map bQ).zipIdx.map _ from hd);obtain⟨d,i⟩:=z;obtain⟨q,_,rfl⟩:=iw.mp (iz (List.mem_zipIdx_iff_getElem?.mp hz));exact⟨i,q,rfl⟩
 refine vX (λd=>match d with|.tup xs=>xs|_=>[]) (λ_=>ak) (λd=>match d with|.tup [i,q]=>.tup [q,i]|_=>.non) (by show(enm (M.map bQ)).length<_;rw[a0U,gj];omega) (aF hp) (λd hd=>?_) (λd hd G' l Q z=>?_) (λd hd _ G' l Q z=>?_) λc2 hc2=>?_
 .obtain⟨i,q,rfl⟩:=it d hd;rfl
 .obtain⟨i,q,rfl⟩:=it d hd;symm;exact z G' (.refl _)
 .obtain⟨i,q,rfl⟩:=it d hd;symm;exact z G' (.refl _)
 have el:(((Src.enl p (M.map bQ)).items.filter λ_=>ak).map λd=>match d with|.tup [i,q]=>.tup [q,i]|_=>.non)=(tnK M).map aaY:=by
  rw[a0b.mpr λ_ _=>rfl];show((M.map bQ).zipIdx.map _).map _=_;unfold tnK;rw[List.zipIdx_map,jz,jz,jz];rfl
 rw[el];refine⟨tnK M,bO,λz hz=>?_,λt ht=>?_⟩
 .obtain⟨w,_,rfl⟩:=iw.mp hz;exact .inl ⟨_,rfl⟩
 rw[avG nd];have l34:Le G3 (aM (aM G3 c2 (.lst ((tnK M).map aaY))) t (.qL (tnK M))):=(Le.new hc2).trans (.new ht);have gt:aM (aM G3 c2 (.lst ((tnK M).map aaY))) t (.qL (tnK M)) t=aj (.qL (tnK M)):=aG;generalize aM (aM G3 c2 (.lst ((tnK M).map aaY))) t (.qL (tnK M))=G4 at l34 gt;have l4:Le G G4:=(l1.trans (l2.trans l3)).trans l34;symm;refine⟨b,rs.map iC,.ref t,rfl,aW l4 hb,by rw[gj];omega,rfl,l4 _ _ hT,?_⟩;refine alM (λd=>match d with|.tup [.tup [.int a,.int b],l,_]=>.tup [.int (M.idxOf (a,b):Nat),l]|_=>.non) _ _ _ (λd hd G' l' R' k=>?_) λG5 l5=>?_
 .obtain⟨r,hr,rfl⟩:=iw.mp hd;exact aI4 (l' _ _ gt) (cv r hr) (k G' (.refl _))
 refine⟨rs.map λr=>[(M.idxOf r.q:Nat),r.l],kyR M rs,?_,λr hr=>?_,λi j u v hu hv=>?_,λq hP hS r hr=>?_⟩
 .rw[a0t,jz,jz];rfl
 .obtain⟨q,_,rfl⟩:=iw.mp hr;exact List.cons_ne_nil _ _
 .rw[kj]at hu hv;obtain⟨r1,e1,rfl⟩:=xg.mp hu;obtain⟨r2,e2,rfl⟩:=xg.mp hv;have⟨_,a1,a2⟩:=hB r1 (iz e1);have⟨_,b1,b2⟩:=hB r2 (iz e2);unfold kyR kR;rw[a4X e1,a4X e2,HT.sO,HT.sO,HT.yM];by_cases c1:((M.idxOf r1.q:Nat):Int)=(M.idxOf r2.q:Nat)
  .rw[if_pos c1];by_cases c2:r1.l=r2.l
   .rw[if_pos c2];exact(decide_eq_false (by omega)).symm
   .rw[if_neg c2];exact decide_eq_decide.mpr (by omega)
  .rw[if_neg c1];exact decide_eq_decide.mpr (by omega)
 .rw[gj]at hP hS;symm;have hs5:=l5 _ _ (l34 _ _ (l3 _ _ hs));exact h' s r q _ (l4.trans (l5.trans (.new hr))) (l1.free fs) ((l4.trans l5).free hr) (λe=>by rw[←e,hs5]at hr;cases hr) (bW hs5 hr) W hP hS aG
abbrev DM(G0:Gp)(f:bx)(M:List P2)(G:Gp):Prop:=G f=aj (.qL (tnK M))/\∀a u,a≠f->G0 a=aj u->G a=aj u
def adV{M:List P2}:(tnK M).length=M.length:=by unfold tnK;simp
def avJ{M:List P2}{a:Int}(s:DM G0 f M G)(ml:M.length<900000)(h:∀G',DM G0 f (dJ (λ_=>ak) M (a,j)) G'->F.nx [r0,r1,aj (.ref f),r3,aj (.int a),aj (.int j),r6,r7,r8] G'):fK K A ex F [r0,r1,aj (.ref f),r3,aj (.int a),aj (.int j),r6,r7,r8] G:=by
 have hf:=s.1;exists fK;refine auC (n:=[a,j]) hf ?_;rw[ajP (q:=(a,j))];symm;by_cases c:(a,j)∈M
 .rw[if_neg (by simp[c])];refine h _ ?_;unfold dJ L14.nP;rw[if_pos rfl,if_pos c];exact s
 .rw[if_pos (by simp[c])];refine aHS hf (by rw[adV];omega) ?_;symm;refine⟨[a,j],tnK M,rfl,hf,.inl ⟨_,rfl⟩,by rw[adV];omega,h _ ?_⟩;unfold dJ L14.nP;rw[if_pos rfl,if_neg c,adV,amP (q:=(a,j)) c];exact⟨aG,λb u n e=>by rw[bJ n];exact s.2 b u n e⟩
def aAW{r:Int×Int}:q.2+((cnt q r:Nat):Int)*fC q r=r.2:=by
 unfold cnt fC;split<;>omega
def aI5{r:Int×Int}{i:Nat}(h:i<cnt q r):q.2+(i:Int)*fC q r≠r.2:=by
 unfold cnt at h;unfold fC;split<;>omega
def aI6{r:Int×Int}(h:0<cnt q r):((if decide (r.2>q.2)then 1 else 0) - (if decide (r.2<q.2)then 1 else 0):Int)=fC q r:=by
 unfold cnt at h;unfold fC;by_cases c:q.2<r.2
 .rw[if_pos c,if_pos (decide_eq_true (show r.2>q.2 from c)),if_neg (by simp;omega)];rfl
 .rw[if_neg c,if_neg (by simp;omega),if_pos (decide_eq_true (show r.2<q.2 by omega))];rfl
def ap4{i:Nat}(h:i<cnt q r):(yK q r).take (i+1)=(yK q r).take i++[aAQ q r (i+1)]:=by
 rw[a2V];congr 1;unfold yK;rw[kj,a2L h];rfl
def avK{M:List P2}{r:Int×Int}(c:q.1=r.1)(cl:cnt q r<=100)(s:DM G0 f M G)(ml:M.length<800000)(h:∀r5 r8 G',DM G0 f ((yK q r).foldl (dJ λ_=>ak) M) G'->F.nx [r0,r1,aj (.ref f),r3,aj (.int q.1),r5,aj (.int r.1),aj (.int r.2),r8] G')(st:Int)(hst:0<cnt q r->st=fC q r):iM K A ex F [r0,r1,aj (.ref f),r3,aj (.int q.1),aj (.int q.2),aj (.int r.1),aj (.int r.2),aj (.int st)] G:=by
 simp only[iM,ad8];refine⟨λmm ρ G'=>∃i,i+mm=cnt q r/\ρ=[r0,r1,aj (.ref f),r3,aj (.int q.1),aj (.int (q.2+(i:Int)*fC q r)),aj (.int r.1),aj (.int r.2),aj (.int st)]/\DM G0 f (((yK q r).take i).foldl (dJ λ_=>ak) M) G',⟨cnt q r,0,by omega,by simp,s⟩,λmm ρ G' hw=>?_⟩;obtain⟨i,him,rfl,s2⟩:=hw;symm;by_cases hi:i<cnt q r
 .have n1:=aI5 hi;rw[if_pos (by simpa using n1)];have es:st=fC q r:=hst (by omega);exists m9;have fl:=xG (b:=λ_=>ak) ((yK q r).take i) M;have tl:((yK q r).take i).length<=100:=by rw[qy,a2G];omega
  have en:q.2+(i:Int)*fC q r+st=q.2+((i+1:Nat):Int)*fC q r:=by
   rw[es,show((i+1:Nat):Int)=(i:Int)+1 by omega,Int.add_mul,Int.one_mul,Int.add_assoc]
  refine avJ s2 (by omega) λG3 s3=>?_;refine⟨mm - 1,by omega,i+1,by omega,by rw[en],?_⟩;rw[ap4 hi,List.foldl_append];rw[en]at s3;exact s3
 .have ei:i=cnt q r:=by omega
  subst ei;rw[if_neg (by simp[aAW])];rw[vo (by rw[a2G];exact cu _)]at s2;exact h _ _ _ s2
def DM.ls(s:DM G0 m M G)(n:p≠m)(h:aQ G0 p=aj xs):aQ G p=aj xs:=by
 unfold aQ at h ⊢;cases e:G0 p with
 |none=>rw[e]at h;cases h
 |some u=>rw[e]at h;rw[s.2 p u n e];exact h
def aN8{qs:List (Int×Int)}(o:OkP x y g)(hp:aQ G p=aj (qs.map bQ))(w:Walk x y qs)(ql:qs.length<=1000)(n:qs≠[])(h:∀f G',Le G G'->G f=aq->G' f=aj (.qL (tnK (xH qs (qs.length - 1))))->R (.ref f) G'):pN K A [.ref p,gZ x y g] G R EX:=by
 have big:10000<dh:=by decide
 refine⟨rfl,?_⟩;have h':∀f G',Le G G'->G f=aq->G' f=aj (.qL (tnK (xH qs (qs.length - 1))))->bK R (.ref f) G':=λf G' a b c=>bK.here (h f G' a b c);clear h;have n0:0<qs.length:=a0c.mpr n;show zZ K A _ _ [aj (.ref p),aj (gZ x y g),aq,aq,aq,aq,aq,aq,aq] G;exists zZ;intro f hf;have hpf:=aW (Le.new (o:=.qL []) hf) hp;have np:p≠f:=aCR hp hf;exists a2B,dG hpf;generalize e4:aM G f (.qL [])=G4;have hf4:G4 f=aj (.qL (tnK [])):=by rw[←e4];exact aG
 have l4:Le G G4:=by rw[←e4];exact .new hf
 have hp4:aQ G4 p=aj (qs.map bQ):=aW l4 hp;refine qT (λk ρ G'=>∃r3 r4 r5 r6 r7 r8,ρ=[aj (.ref p),aj (gZ x y g),aj (.ref f),r3,r4,r5,r6,r7,r8]/\DM G4 f (xH qs k) G') ⟨_,_,_,_,_,_,rfl,hf4,λ_ _ _ e=>e⟩ (λk ρ G' hk h=>?_) λρ G' h=>?_
 .obtain⟨_,_,_,_,_,_,rfl,s⟩:=h;have k1:k+1<qs.length:=by omega
  have hp5:=s.ls np hp4;have a1:qs[k]?=aj qs[k]:=cg (by omega);have a2:qs[k+1]?=aj qs[k+1]:=cg k1;have cl:=sH w o.y1 k;rw[cQ a1,cQ a2]at cl;have ml:=ahC (sH w o.y1) k
  have en:xH qs (k+1)=a8Y (xH qs k) qs[k] qs[k+1]:=by
   show a8Y (xH qs k) _ _=_;rw[cQ a1,cQ a2]
  exists zK;refine uU hp5 a1 ?_;rw[vY rfl];exists uR;rw[show(k:Int)+1=((k+1:Nat):Int) by omega];refine uU hp5 a2 ?_;rw[vY rfl];exists uQ;by_cases c:qs[k].1=qs[k+1].1
  .rw[if_pos (by simp[c])];refine avK c cl s (by omega) (λr5 r8 G3 s3=>?_) _ λhc=>aI6 hc;refine⟨_,_,_,_,_,_,rfl,?_⟩;rw[en];unfold a8Y;rw[if_pos c];exact s3
  .rw[if_neg (by simp[c])];refine⟨_,_,_,_,_,_,rfl,?_⟩;rw[en];unfold a8Y;rw[if_neg c];exact s
 .obtain⟨_,_,_,_,_,_,rfl,s⟩:=h;rw[show((qs.length:Int) - 1).toNat=qs.length - 1 by omega]at s;exists a2A;exact h' f G' (λa u e=>s.2 a u (λz=>by subst z;rw[hf]at e;cases e) (l4 _ _ e)) hf s.1
abbrev aAX(y g:Nat)(i j i' j':Int):Int:=if i=i' then(if j - j'<0 then -(j - j')else j - j')else(g:Int)*(if i - i'<0 then -(i - i')else i - i')+(if 2*((y:Int)+1) - (j+j')<j+j' then 2*((y:Int)+1) - (j+j')else j+j')
abbrev okS(x y:Nat)(i j:Int):Prop:=0<=i/\i<x/\0<=j/\j<=(y:Int)+1
def abT(o:OkP x y g)(hd:kp G d)(h:R (.bl (isP d x 0 (y+1))) G):nQ K A [gZ x y g,d] G R EX:=by
 refine⟨rfl,?_⟩;show a3L K A _ _ [aj (gZ x y g),aj d] G;exists a3L;refine mZ o ?_;unfold gZ;exists a4S;exact abN hd.1 hd.pr (bK.here h)
def aCT(h:okS x y i j):isP (.tup [.int i,.int j]) x 0 (y+1)=ak:=by
 obtain⟨h1,h2,h3,h4⟩:=h;rw[auO];simp;omega
def aCU:kp G (.tup [.int i,.int j]):=aHW (all_cons rfl (all_cons rfl all_nil))
def aN9(o:OkP x y g){i' j':Int}(h1:okS x y i j)(h2:okS x y i' j')(h:R (.int (aAX y g i j i' j')) G):adA K A [gZ x y g,.tup [.int i,.int j],.tup [.int i',.int j']] G R EX:=by
 refine⟨rfl,?_⟩;have⟨a1,a2,a3,a4⟩:=h1;have⟨b1,b2,b3,b4⟩:=h2;have ox:=o.x1;have oy:=o.y1;have og:=o.g1;show auH K A _ _ [aj (gZ x y g),aj (.tup [.int i,.int j]),aj (.tup [.int i',.int j']),aq,aq] G;exists auH;refine abT o aCU ?_;rw[aCT h1];symm;refine abT o aCU ?_;rw[aCT h2];exists alV;unfold aAX at h;refine ai9 (λe=>?_) λe=>?_
 .rw[if_pos (by simpa using e)]at h;exact bK.here h
 .rw[if_neg (by simpa using e)]at h;unfold gZ;exists alU,alT,alS;exact bK.here h
def avL{r:Int×Int}(w:Wk y q r):aAX y g q.1 q.2 r.1 r.2=cX g q r:=by
 unfold aAX cX;by_cases c:q.1=r.1
 .rw[if_pos c,c,Int.sub_self];simp
 .rw[if_neg c];rcases w with w|⟨w1,w2⟩
  .exact absurd w c
  .rw[w1,Int.sub_self];rw[w1]at w2;generalize (g:Int)*(if q.1 - r.1<0 then -(q.1 - r.1)else q.1 - r.1)=M;split<;>split<;>omega
def ahF{g:Nat}:∀qs:List (Int×Int),xD g qs=((qs.zip qs.tail).map λz=>cX g z.1 z.2).sum
 |[]=>rfl
 |[_]=>rfl
 |a::b::z=>by
  have ih:=ahF (g:=g) (b::z);show cX g a b+xD g (b::z)=cX g a b+(((b::z).zip (b::z).tail).map λz=>cX g z.1 z.2).sum;rw[ih]
def aAY{qs:List (Int×Int)}{z:(Int×Int)×(Int×Int)}(h:z∈qs.zip qs.tail):∃k,qs[k]?=aj z.1/\qs[k+1]?=aj z.2:=by
 obtain⟨k,hk⟩:=a2t.mp h;obtain⟨h1,h2⟩:=a2a.mp hk;exact⟨k,h1,by rw[List.getElem?_tail]at h2;exact h2⟩
def ahG{qs:List (Int×Int)}(o:OkP x y g)(hs:aQ G p=aj (qs.map bQ))(w:Walk x y qs)(n:qs≠[])(ql:qs.length<=1000)(h:∀G',Le G G'->R (.int (xD g qs)) G'):rC K A [gZ x y g,.ref p] G R EX:=by
 have big:10000<dh:=by decide
 refine⟨rfl,?_⟩;have h':∀G',Le G G'->bK R (.int (xD g qs)) G':=λG' l=>bK.here (h G' l);show a8D K A _ _ [aj (gZ x y g),aj (.ref p)] G;exists a8D;refine mZ o ?_;exists a8C;rw[av7 hs];intro q hq;rw[amK,←List.map_tail];rw[ab8 (aW (.new hq) hs) bO];have zl:(qs.zip qs.tail).length<=1000:=by rw[List.length_zip,List.length_tail];omega
 refine vX (λd=>match d with|.tup xs=>xs|_=>[]) (λ_=>ak) (λd=>match d with|.tup [.tup [.int i,.int j],.tup [.int i',.int j']]=>.int (cX g (i,j) (i',j'))|_=>.non) ?_ ⟨aW (.new hq) hs,bO⟩ (λd hd=>?_) (λd hd G' l Q h=>h G' (.refl _)) (λd hd _ G' l Q h=>?_) λr hr=>?_
 .show(prs (qs.map bQ) (qs.tail.map bQ)).length<_;rw[yI,gj];omega
 .rw[show(Src.zip p q (qs.map bQ) (qs.tail.map bQ)).items=prs (qs.map bQ) (qs.tail.map bQ)from rfl,yI]at hd;obtain⟨z,_,rfl⟩:=iw.mp hd;rfl
 .rw[show(Src.zip p q (qs.map bQ) (qs.tail.map bQ)).items=prs (qs.map bQ) (qs.tail.map bQ)from rfl,yI]at hd;obtain⟨⟨⟨i,j⟩,⟨i',j'⟩⟩,hz,rfl⟩:=iw.mp hd;obtain⟨k,h1,h2⟩:=aAY hz;have w1:=w.inn _ (iz h1);have w2:=w.inn _ (iz h2);have st:=avL (g:=g) (w.step k _ _ h1 h2);symm;refine aN9 o w1 w2 ?_;rw[st];exact h G' (.refl _)
 .have e:((Src.zip p q (qs.map bQ) (qs.tail.map bQ)).items.filter λ_=>ak).map (λd=>match d with|.tup [.tup [.int i,.int j],.tup [.int i',.int j']]=>D.int (cX g (i,j) (i',j'))|_=>.non)=((qs.zip qs.tail).map λz=>cX g z.1 z.2).map D.int:=by
   rw[show(Src.zip p q (qs.map bQ) (qs.tail.map bQ)).items=prs (qs.map bQ) (qs.tail.map bQ)from rfl,yI,a0b.mpr λ_ _=>rfl,jz,jz];rfl
  rw[e,aMW bO,←ahF];symm;exact h' _ ((Le.new hq).trans (.new hr))
abbrev RwI(G:Gp)(a p:bx)(x y g:Nat)(m:Int)(k:Nat)(ρ:aN)(G':Gp):Prop:=∃(r2 r5 r6 r7 r8:Option D)(rs:List Rw),ρ=[aj (.ref a),aj (gZ x y g),r2,aj (.int m),aj (.ref p),r5,r6,r7,r8]/\HS G p (rs.map iC) G'/\(∀r∈rs,OkR x y r)/\rs.length=k
def aAZ{rs:List Rw}{d:Int}(s:HS G0 p (rs.map iC) G)(rl:rs.length<100)(iq:InB x y q)
  (h:∀(r:Rw) w8 G',OkR x y r->HS G0 p ((rs++[r]).map iC) G'->F.nx [r0,r1,r2,r3,aj (.ref p),r5,aj (.tup [.int q.1,.int q.2]),aj (.int d),w8] G'):gA K A ex F [r0,r1,r2,r3,aj (.ref p),r5,aj (.tup [.int q.1,.int q.2]),aj (.int d),r8] G:=by
 have big:10000<dh:=by decide
 have sev:∀l:Int,0<=l/\l<=999->kZ K A ex F [r0,r1,r2,r3,aj (.ref p),r5,aj (.tup [.int q.1,.int q.2]),aj (.int d),aj (.int l)] G:=λl hl=>by
  exists kZ;rw[jE,aF s.1];refine⟨rfl,?_⟩;symm;rw[jG s.1 (by rw[gj];omega)];refine h ⟨q,l,1+d / 7%1000000⟩ _ _ ⟨iq,hl⟩ ?_;rw[mq];exact s.snd
 exists gA,rH;exact fX (λ_=>sev _ (by omega)) λ_=>sev _ (by omega)
def amS{m:Int}(hG:G a=aj (.rol (ns.map D.int)))(o:OkP x y g)(hm:0<=m/\m<=60)(h:∀(p:bx)(rs:List Rw)(G':Gp),Le G G'->G' p=aj (.lst (rs.map iC))->(∀r∈rs,OkR x y r)->rs.length<=60->F.rt (.ref p) G') :
  qC K A ex F [aj (.ref a),aj (gZ x y g),r2,aj (.int m),aq,aq,aq,aq,aq] G:=by
 have big:10000<dh:=by decide
 have⟨x0,x1,y0,y1,g0,g1⟩:=o;have hx:0<(x:Int)/\(x:Int)<1073741824:=by omega
 have hy:0<(y:Int):=by omega
 exists qC;intro p hp;exists z9;refine qT (RwI G a p x y g m) ⟨_,_,_,_,_,[],rfl,.mk0,(λq hq=>by cases hq),rfl⟩ (λk ρ G' hk h=>?_) λρ G' h=>?_
 .obtain⟨_,_,_,_,_,rs,rfl,s,hB,bl⟩:=h;have rl:(rs.map iC).length<100:=by rw[gj];omega
  exists wN;rw[show(8:Int)+2*(k:Int)=((8+2*k:Nat):Int) by omega];refine a3N (k:=8+2*k) (s.leG hp _ _ hG) (by omega) ?_;generalize cellAt ns (8+2*k)=c;unfold gZ;exists rM;have m1:=Int.emod_nonneg c (show(x:Int)≠0 by omega);have m2:=Int.emod_lt_of_pos c hx.1;have m3:=Int.emod_nonneg (c / (x:Int)) (show(y:Int)≠0 by omega);have m4:=Int.emod_lt_of_pos (c / (x:Int)) hy;have ib:InB x y (c%(x:Int),1+c / (x:Int)%(y:Int)):=⟨m1,m2,by simp only;omega,by simp only;omega⟩;exists rK;rw[show(9:Int)+2*(k:Int)=((9+2*k:Nat):Int) by omega];refine a3N (k:=9+2*k) (s.leG hp _ _ hG) (by omega) ?_;generalize cellAt ns (9+2*k)=d;have fiv:∀(q:Int×Int)(w8:Option D)(G2:Gp),Le G' G2->InB x y q->gA K A ex {F with nx:=RwI G a p x y g m (k+1),ct:=RwI G a p x y g m (k+1),bk:=pZ K A ex F} [aj (.ref a),aj (gZ x y g),aj (.int c),aj (.int m),aj (.ref p),aj (.int (k:Int)),aj (.tup [.int q.1,.int q.2]),aj (.int d),w8] G2:=λq w8 G2 l2 iq=>aAZ (s.more l2) (by omega) iq λr w8 G3 ok s3=>⟨_,_,_,_,_,_,rfl,s3,λz hz=>(vg.mp hz).elim (hB z) λe=>by rw[qx.mp e];exact ok,by simp[bl]⟩;exists rJ;refine fX (λ_=>?_) λ_=>fiv (c%(x:Int),1+c / (x:Int)%(y:Int)) _ G' (.refl _) ib;symm;intro p2 hp2
  rw[iK (aW (.new hp2) (aF s.1)) bO (by
   rw[List.all_map];exact jl.mpr λr _=>rfl) rfl]
  have l2:Le G' (aM G' p2 (.lst [])):=.new hp2;by_cases c0:rs=[]
  .subst c0;exact fiv (c%(x:Int),1+c / (x:Int)%(y:Int)) _ _ l2 ib
  .have rp:0<(rs.map iC).length:=by rw[gj];exact a0c.mpr c0
   rw[show fV (rs.map iC) []=ao by
    cases rs with
    |nil=>exact absurd rfl c0
    |cons _ _=>rfl]
   rw[gj]at rp rl;have rq:0<(rs.length:Int)/\(rs.length:Int)<1073741824:=by omega
   exists dG (aW l2 (aF s.1));refine aHB (aW l2 (aF s.1)) (Int.emod_nonneg _ (by omega)) (by rw[gj];exact Int.emod_lt_of_pos _ (by omega)) λe he=>?_;obtain⟨r,hr,rfl⟩:=iw.mp he;unfold iC bQ;symm;exact fiv r.q _ _ l2 (hB r hr).1
 .obtain⟨_,_,_,_,_,rs,rfl,s,hB,bl⟩:=h;exists pZ;exact h p rs G' (s.leG hp) s.1 hB (by omega)
def aB0(hG:G a=aj (.rol (ns.map D.int)))(o:OkP x y g)(h:∀(p:bx)(rs:List Rw)(G':Gp),Le G G'->G' p=aj (.lst (rs.map iC))->(∀r∈rs,OkR x y r)->rs.length<=60->R (.ref p) G'):mV K A [.ref a,gZ x y g] G R EX:=by
 refine⟨rfl,?_⟩;have h':∀(p:bx)(rs:List Rw)(G':Gp),Le G G'->G' p=aj (.lst (rs.map iC))->(∀r∈rs,OkR x y r)->rs.length<=60->bK R (.ref p) G':=λp bs G' a b c d=>bK.here (h p bs G' a b c d);show wO K A _ _ [aj (.ref a),aj (gZ x y g),aq,aq,aq,aq,aq,aq,aq] G;exists wO;refine a3N (k:=3) hG (by omega) ?_;generalize cellAt ns 3=c;exists zB,zA;exact fX (λ_=>amS hG o (by omega) h') λ_=>amS hG o (by omega) h'
def ap5{ds:List D}{j:Nat}(h:G f=aj (.lst ds))(hj:j<=ds.length)(hl:ds.length<dh)(k:R .non (aM G f (.lst (ds.take j++z::ds.drop j)))):qR (.ref f) [.int (j:Int),z] G R:=by
 unfold L2.qR L2.akU;simp only[h];exact⟨j,rfl,hj,hl,k⟩
def aI7{kf:Nat->Int}{ls:List Nat}{k m:Nat}(p:ls.Perm (je k))(w:ls.Pairwise (Bf kf))(hm:m<=ls.length)(hb:∀i x,m<=i->ls[i]?=aj x->kf k<kf x)(ha:∀x,0<m->ls[m - 1]?=aj x->kf x<=kf k):(ls.take m++k::ls.drop m).Pairwise (Bf kf)/\(ls.take m++k::ls.drop m).Perm (je (k+1)):=by
 have w2:(ls.take m++ls.drop m).Pairwise (Bf kf):=by rw[List.take_append_drop];exact w
 have wa:=List.pairwise_append.mp w2
 have dr:∀x∈ls.drop m,kf k<kf x:=λx hx=>by
  obtain⟨i,hi⟩:=a2t.mp hx;rw[List.getElem?_drop]at hi;exact hb _ x (a1b _ _) hi
 have tk:∀x∈ls.take m,Bf kf x k:=λx hx=>by
  have xk:x<k:=ou.mp (p.mem_iff.mp (List.mem_of_mem_take hx));obtain⟨i,hi⟩:=a2t.mp hx;have im:=(fj.mp hi).1;rw[qy]at im;rw[zx (by omega)]at hi
  have le:kf x<=kf k:=by
   by_cases e:i=m - 1
   .exact ha x (by omega) (e ▸ hi)
   .have em:ls[m - 1]?=aj ls[m - 1]:=cg (by omega);have h1:=ha _ (by omega) em;obtain⟨il,rfl⟩:=fj.mp hi;have:=a2b.mp w i (m - 1) il (by omega) (by omega);unfold L2.Bf at this;omega
  unfold L2.Bf;omega
 refine⟨List.pairwise_append.mpr ⟨wa.1,List.pairwise_cons.mpr ⟨λx hx=>.inl (dr x hx),wa.2.1⟩,λa z b y=>?_⟩,?_⟩
 .rcases iy.mp y with e|y
  .rw[e];exact tk a z
  .exact wa.2.2 a z b y
 .rw[List.range_succ];refine List.perm_middle.trans ?_;rw[List.take_append_drop];exact(List.perm_append_singleton k _).symm.trans (p.append_right [k])
def w_behind{t:bx}{r s:Rw}(ht:G t=aj (.qL (tnK M)))(hr:r.q∈M)(hs:s.q∈M)(br:0<=r.l/\r.l<=999)(bs:0<=s.l/\s.l<=999)(h:R (.bl (decide (kR M s<kR M r))) G):jT K A [iC r,iC s,.ref t] G R EX:=by
 refine⟨rfl,?_⟩;have h':=bK.here h;clear h;show qD K A _ _ [aj (iC r),aj (iC s),aj (.ref t)] G;have gr:∀R:eV,R (.int (M.idxOf r.q:Nat)) G->gO (.ref t) (.tup [.int r.q.1,.int r.q.2]) G R:=λR z=>aj3 (n:=[r.q.1,r.q.2]) ht (adT hr) z;have gs:∀R:eV,R (.int (M.idxOf s.q:Nat)) G->gO (.ref t) (.tup [.int s.q.1,.int s.q.2]) G R:=λR z=>aj3 (n:=[s.q.1,s.q.2]) ht (adT hs) z;unfold kR at h';unfold iC bQ;exists qD;refine gr _ ?_;symm;refine gs _ ?_;symm;by_cases c:((M.idxOf r.q:Nat):Int)=(M.idxOf s.q:Nat)
 .rw[if_neg (by simp[c])];exists uT;rw[show decide (r.l>s.l)=decide (((M.idxOf s.q:Nat):Int)*1000+s.l<((M.idxOf r.q:Nat):Int)*1000+r.l)from decide_eq_decide.mpr (by omega)];exact h'
 .rw[if_pos (by simp[c])];symm;refine gr _ ?_;symm;refine gs _ ?_;symm;rw[show decide (((M.idxOf r.q:Nat):Int)>(M.idxOf s.q:Nat))=decide (((M.idxOf s.q:Nat):Int)*1000+s.l<((M.idxOf r.q:Nat):Int)*1000+r.l)from decide_eq_decide.mpr (by omega)];exact h'
def jU(rs:List Rw){n:Nat}(h:3<=n):(rs.map iC).all (bB n)=ak:=by
 obtain⟨m,rfl⟩:∃m,n=m+3:=⟨n - 3,by omega⟩;rw[List.all_map];exact jl.mpr λr _=>rfl
def a2I{rs:List Rw}:fV (rs.map iC) (rs.map iC)=ak:=xP (n:=3) λx hx=>jl.mp (jU rs (cu _)) x hx
def a3R{rs:List Rw}{ls:List Nat}:(ls.map λi=>iC (rs.getD i rw0))=(ls.map λi=>rs.getD i rw0).map iC:=by rw[jz];rfl
def avM{t:bx}{k:Nat}{rs:List Rw}{ls:List Nat}{r:Rw}(hd:G d=aj (.lst (ls.map λi=>iC (rs.getD i rw0))))(ht:G t=aj (.qL (tnK M)))(hM:∀r∈rs,r.q∈M)(hB:∀r∈rs,OkR x y r)(hr:rs[k]?=aj r)(rl:rs.length<100)(p:ls.Perm (je k))(w:ls.Pairwise (Bf (kyR M rs)))
  (h:∀(zs:List Nat) G' r9,zs.Perm (je (k+1))->zs.Pairwise (Bf (kyR M rs))->HS G d (zs.map λi=>iC (rs.getD i rw0)) G'->F.nx [r0,r1,r2,r3,r4,r5,aj (.ref t),aj (.ref d),aj (iC r),r9,r10] G'):a3M K A ex F [r0,r1,r2,r3,r4,r5,aj (.ref t),aj (.ref d),aj (iC r),r9,r10] G:=by
 have big:10000<dh:=by decide
 have kl:=(fj.mp hr).1;have ll:ls.length=k:=by rw[p.length_eq,a2n]
 have mr:=iz hr;have ek:kyR M rs k=kR M r:=by unfold kyR;rw[a4X hr]
 have ix:∀R:eV,R (.tup [.int r.q.1,.int r.q.2]) G->bA (iC r) (.int 0) G R:=λR z=>by
  unfold iC bQ;rw[alF];exact z
 exists a3M;refine ix _ (auC (n:=[r.q.1,r.q.2]) ht ?_);rw[ajP (q:=r.q),decide_eq_true (hM r mr)];exists a4V;rw[dG (aF hd),gj];simp only[a4U,atJ,ad8];refine⟨λm ρ G'=>m<=ls.length/\ρ=[r0,r1,r2,r3,r4,r5,aj (.ref t),aj (.ref d),aj (iC r),aj (.int (m:Int)),r10]/\(∀i z,m<=i->ls[i]?=aj z->kyR M rs k<kyR M rs z)/\Le G G',⟨ls.length,cu _,rfl,λi z hi hz=>?_,.refl _⟩,λm ρ G' hw=>?_⟩
 .rw[a0q hi]at hz;cases hz
 obtain⟨hm,rfl,hb,l⟩:=hw
 have go:(∀z,0<m->ls[m - 1]?=aj z->kyR M rs z<=kyR M rs k)->xC K A ex F [r0,r1,r2,r3,r4,r5,aj (.ref t),aj (.ref d),aj (iC r),aj (.int (m:Int)),r10] G':=λha=>by
  obtain⟨w2,p2⟩:=aI7 p w hm hb ha;exists xC;rw[jE,aF (l _ _ hd)];refine⟨rfl,ap5 (l _ _ hd) (by rw[gj];exact hm) (by rw[gj];omega) ?_⟩
  have e:(ls.map λi=>iC (rs.getD i rw0)).take m++iC r::(ls.map λi=>iC (rs.getD i rw0)).drop m=(ls.take m++k::ls.drop m).map λi=>iC (rs.getD i rw0):=by
   rw[mq,nj,List.map_take,List.map_drop,a4X hr]
  rw[e];exact h _ _ _ p2 w2 ⟨aG,λr u n e=>by rw[bJ n];exact l _ _ e⟩
 symm;by_cases c:0<m
 .rw[if_pos (decide_eq_true (by omega))];obtain⟨z,hz⟩:∃z,ls[m - 1]?=aj z:=⟨_,cg (by omega)⟩;have zk:z<k:=ou.mp (p.mem_iff.mp (iz hz));have ez:rs[z]?=aj rs[z]:=cg (by omega);have mz:=iz ez;have ekz:kyR M rs z=kR M rs[z]:=by unfold kyR;rw[a4X ez]
  have ey:atI (ls.map λi=>iC (rs.getD i rw0)) ((m:Int) - 1)=aj (iC rs[z]):=by
   rw[show(m:Int) - 1=((m - 1:Nat):Int) by omega,pU,kj,hz];show aj (iC (rs.getD z rw0))=_;rw[a4X ez]
  rw[tD (aF (l _ _ hd)) ey];symm;refine w_behind (l _ _ ht) (hM _ mz) (hM _ mr) (hB _ mz).2 (hB _ mr).2 ?_;symm;by_cases e:kR M r<kR M rs[z]
  .rw[if_pos (decide_eq_true e)];exists a2C;refine⟨m - 1,by omega,by omega,by rw[show(m:Int) - 1=((m - 1:Nat):Int) by omega],λi v hi hv=>?_,l⟩;by_cases ci:i=m - 1
   .rw[ci,hz]at hv;cases hv;rw[ek,ekz];exact e
   .exact hb i v (by omega) hv
  .rw[if_neg (by simpa using e)];refine go λv _ hv=>?_;rw[hz]at hv;cases hv;rw[ek,ekz];omega
 .rw[if_neg (by simp;omega)];exact go λv h0=>absurd h0 c
def avN{M:List P2}{r s:Rw}(hr:r.q∈M.filter w)(hs:s.q∈M.filter w)(br:0<=r.l/\r.l<=999)(bs:0<=s.l/\s.l<=999):kR (M.filter w) r<kR (M.filter w) s↔kR M r<kR M s:=by
 have a:=tX hr hs;have b:=tX hs hr;unfold kR;omega
variable{q:Array Nat}
def aNA{kf:Nat->Int}{n:Nat}(P:Pm n q)(h:Sb kf q n):q.toList.Pairwise (Bf kf):=a2b.mpr λi j hi hj hij=>by
 have z:=P.size;rw[yq]at hi hj;have:=h i j hij (by omega);simpa[Array.getD,hi,hj]using this
def amT{rs:List Rw}{ls:List Nat}(W:aoZ x y (bR rs))(hB:∀r∈rs,OkR x y r)(P:Pm rs.length q)(S:Sb (kyR (stR y rs) rs) q rs.length)(p:ls.Perm (je rs.length))(w:ls.Pairwise (Bf (kyR (xH (wkF y (bR rs)) ((wkF y (bR rs)).length - 1)) rs))):(q.toList.map λi=>(rs.map iC).getD i .non)=ls.map λi=>iC (rs.getD i rw0):=by
 have hb:=amR hB;have e:stR y rs=_:=abS W.w W.nd.hd hb;have cv:∀r∈rs,r.q∈stR y rs:=λr hr=>cover W hb (iw.mpr ⟨r,hr,rfl⟩);rw[e]at S cv
 have el:q.toList=ls:=avH (λi j hi hj=>by
  have ei:=cg hi;have ej:=cg hj;have mi:=iz ei;have mj:=iz ej;have a:=avN (cv _ mi) (cv _ mj) (hB _ mi).2 (hB _ mj).2;have b:=avN (cv _ mj) (cv _ mi) (hB _ mj).2 (hB _ mi).2;unfold L2.Bf kyR;rw[a4X ei,a4X ej];omega) P.perm p (aNA P S) w
 rw[el];refine vp λi hi=>?_;have il:i<rs.length:=ou.mp (p.mem_iff.mp hi);simp[a0n,il]
def avO{F:D->Gp->Prop}{rs:List Rw}(hb:aQ G b=aj (rs.map iC))(rl:rs.length<1000)(he:∀(r:Rw) G' (Q:eV),Q (bQ r.q) G'->te (aj (bQ r.q)::aj (.int r.l)::aj (.int r.n)::ρ) G' Q)(h:∀p,G p=aq->R (.ref p) (aM G p (.lst ((bR rs).map bQ)))):ab9 (anR 3) (.lst b (rs.map iC)) gM te ρ G R:=by
 have big:10000<dh:=by decide
 refine vX (λd=>match d with|.tup xs=>xs|_=>[]) (λ_=>ak) (λd=>match d with|.tup (a::_)=>a|_=>.non) (by show(rs.map iC).length<_;rw[gj];omega) hb (λd hd=>?_) (λd hd G' l Q z=>z G' (.refl _)) (λd hd _ G' l Q z=>?_) λp hp=>?_
 .obtain⟨r,_,rfl⟩:=iw.mp hd;rfl
 .obtain⟨r,_,rfl⟩:=iw.mp hd;exact he r G' _ (z G' (.refl _))
 .rw[a0b.mpr λ_ _=>rfl,show((Src.lst b (rs.map iC)).items.map λd=>match d with|.tup (a::_)=>a|_=>.non)=(bR rs).map bQ by show((rs.map iC).map _)=_;rw[jz,jz];rfl];exact h p hp
def aI8{l:bx}{rs:List Rw}{ls:List Nat}{ws zs:List D}(o:OkP x y g)(hB:∀r∈rs,OkR x y r)(bl:rs.length<=60)(hb:G b=aj (.lst (rs.map iC)))(hb2:G b2=aj (.lst (rs.map iC)))(hs:G s=aj (.lst ws))(hl:G l=aj (.lst zs))(hd:G d=aj (.lst (ls.map λi=>iC (rs.getD i rw0))))(hT:G A.dH=aj (.tab bY.qual bY.pos))(wl:ws.length<=1000)(zl:zs.length<=1000)
  (n1:b≠s)(n2:b≠l)(n3:b2≠s)(n4:b2≠l)(n5:d≠s)(n6:d≠l)(n7:s≠l)(p:ls.Perm (je rs.length))(w:ls.Pairwise (Bf (kyR (xH (wkF y (bR rs)) ((wkF y (bR rs)).length - 1)) rs)))(h:∀G',F.rt (.bl ak) G') :
  a8M K A ex F [r0,aj (gZ x y g),aj (.ref b),aj (.ref b2),aj (.tup [.ref s,.ref l]),r5,r6,aj (.ref d),r8,r9,aq] G:=by
 have big:10000<dh:=by decide
 have tn:∀{q:bx}{xs:List D},G q=aj (.lst xs)->A.dH≠q:=λe z=>by rw[z,e]at hT;cases hT
 exists a8M;rw[jE,aF hs];refine⟨rfl,?_⟩;symm;rw[jG hs (by omega)];exists agS;rw[jE,aF (show aM G s (.lst (ws++[.tup [.int 0,.int 1]])) l=aj (.lst zs) by rw[bJ (Ne.symm n7)];exact hl)];refine⟨rfl,?_⟩;symm;rw[jG (show aM G s (.lst (ws++[.tup [.int 0,.int 1]])) l=aj (.lst zs) by rw[bJ (Ne.symm n7)];exact hl) (by omega)];have k:∀q u,q≠s->q≠l->G q=aj u->aM (aM G s (.lst (ws++[.tup [.int 0,.int 1]]))) l (.lst (zs++[.non])) q=aj u:=λq u a b e=>by rw[bJ b,bJ a];exact e
 generalize aM (aM G s (.lst (ws++[.tup [.int 0,.int 1]]))) l (.lst (zs++[.non]))=G1 at k;have hb1:=k _ _ n1 n2 hb;have aNB:=k _ _ n3 n4 hb2;have hd1:=k _ _ n5 n6 hd;exists agR;refine ahE o (aF aNB) hB (by omega) (k _ _ (tn hs) (tn hl) hT) λs2 l2 q G2 le _ _ _ hs2 W P S hl2=>?_;exists agQ;rw[kJ (aF (le _ _ aNB)) (aF (le _ _ hb1)) (jU rs (by omega)) (jU rs (by omega)),a2I];symm;rw[amT W hB P S p w]at hl2;rw[kJ (aF hl2) (aF (le _ _ hd1)) (by rw[a3R];exact jU _ (by omega)) (by rw[a3R];exact jU _ (by omega)),a3R,a2I];symm;rw[jF (aF (le _ _ hb1))];refine comp_map (λd=>match d with|.tup (a::_)=>a|_=>.non) (by show(rs.map iC).length<_;rw[gj];omega) (aF (le _ _ hb1)) (λd hd G' l Q z=>?_) λc hc=>?_
 .obtain⟨r,hr,rfl⟩:=iw.mp hd;unfold iC bQ;symm;exact z G' (.refl _)
 rw[show((Src.lst b (rs.map iC)).items.map λd=>match d with|.tup (a::_)=>a|_=>.non)=(bR rs).map bQ by show((rs.map iC).map _)=_;rw[jz,jz];rfl];symm;refine abR o (bW hs2 hc) W bO (amR hB) (by rw[gj];omega) λG3 _=>?_;symm;exact h _
def aNC(hG:G a=aj (.rol (ns.map D.int)))(hT:G A.dH=aj (.tab bY.qual bY.pos))(h:∀G',R (.bl ak) G'):adJ K A [.ref a] G R EX:=by
 have big:10000<dh:=by decide
 refine⟨rfl,?_⟩;have h':∀G',bK R (.bl ak) G':=λG'=>bK.here (h G');clear h;show auK K A _ _ [aj (.ref a),aq,aq,aq,aq,aq,aq,aq,aq,aq,aq] G;exists auK;refine aAC hG λx y g o=>?_;exists am3;refine aB0 hG o λb rs G0 l0 hb hB bl=>?_;exists am2,au0 (aF hb);intro b2 fb2;have bb:b≠b2:=λe=>by rw[←e,hb]at fb2;cases fb2
 have l1:Le G0 (aM G0 b2 (.lst (rs.map iC))):=.new fb2;have hb2:aM G0 b2 (.lst (rs.map iC)) b2=aj (.lst (rs.map iC)):=aG;generalize aM G0 b2 (.lst (rs.map iC))=G1 at l1 hb2;have hb1:=l1 _ _ hb;have hqB:=amR hB;have ql:(bR rs).length<=60:=by rw[gj];exact bl
 exists am1;refine ahE o (aF hb2) hB (by omega) (l1 _ _ (l0 _ _ hT)) λs l q G2 l2 fs fl sl hs W P S hl=>?_;have wl:=W.len;exists am0;rw[iK (aF (l2 _ _ hb2)) (aF (l2 _ _ hb1)) (jU rs (by omega)) (jU rs (by omega)),a2I];exists yR hl;exists alZ;rw[if_neg (by decide),jF (aF (l2 _ _ hb1))];refine avO (F:=λ_ _=>True) (aF (l2 _ _ hb1)) (by omega) (λr G' Q z=>?_) λc hc=>?_
 .symm;exact z
 symm;refine w_walk (bs:=bR rs) o bO hqB (by omega) λs5 G3 l3 _ hs5 _=>?_;have l23:Le G2 G3:=(Le.new hc).trans l3;exists alY;rw[jF (aF (l23 _ _ (l2 _ _ hb1)))];refine avO (F:=λ_ _=>True) (aF (l23 _ _ (l2 _ _ hb1))) (by omega) (λr G' Q z=>?_) λc2 hc2=>?_
 .symm;exact z
 symm;refine abR o (bW (l23 _ _ hs) hc2) W bO hqB (by omega) λG4 l4=>?_;have l34:Le G3 G4:=(Le.new hc2).trans l4;have l24:Le G2 G4:=l23.trans l34;have wn:wkF y (bR rs)≠[]:=λe=>by have:=W.nd.hd;rw[e]at this;cases this
 exists alX;refine ahG o (aF (l24 _ _ hs)) W.w wn wl λG5 l5=>?_;symm;refine ahG o (aF (l5 _ _ (l34 _ _ hs5))) W.w wn wl λG6 l6=>?_;have l26:Le G2 G6:=l24.trans (l5.trans l6);symm;rw[if_neg (by simp)];exists alW;refine aN8 o (aF (l26 _ _ hs)) W.w wl wn λt G7 l7 _ ht=>?_;have l27:Le G2 G7:=l26.trans l7;exists agV;intro d fd;generalize hM:xH (wkF y (bR rs)) ((wkF y (bR rs)).length - 1)=M at ht
 have cM:∀r∈rs,r.q∈M:=λr hr=>by
  have c:=cover W hqB (iw.mpr ⟨r,hr,rfl⟩);rw[abS W.w W.nd.hd hqB,hM]at c;exact(yp.mp c).1
 have hb7:=l27 _ _ (l2 _ _ hb1);exists agU;rw[kW (aW (.new fd) (aF hb7))];refine nO (λk ρ G'=>∃(ls:List Nat)(r8 r9:Option D),ρ=[aj (.ref a),aj (gZ x y g),aj (.ref b),aj (.ref b2),aj (.tup [.ref s,.ref l]),aj (.ref s5),aj (.ref t),aj (.ref d),r8,r9,aq]/\HS G7 d (ls.map λi=>iC (rs.getD i rw0)) G'/\ls.Perm (je k)/\ls.Pairwise (Bf (kyR M rs))) ⟨[],_,_,rfl,.mk0,.refl _,.nil⟩ (λk ρ G' h=>?_) (λk e ρ G' he h=>?_) λρ G' h=>?_
 .obtain⟨_,_,_,_,s2,_⟩:=h;exact aW (s2.leG fd) (aF hb7)
 .obtain⟨ls,_,_,rfl,s2,p,w⟩:=h;rw[kj]at he;obtain⟨r,hr,rfl⟩:=xg.mp he;symm;exact avM s2.1 (s2.leG fd _ _ ht) cM hB hr (by omega) p w λzs G3 r9 p2 w2 s3=>⟨zs,_,_,rfl,s2.trans s3,p2,w2⟩
 .obtain⟨ls,_,_,rfl,s2,p,w⟩:=h;rw[gj]at p;have l8:=s2.leG fd;have l28:Le G2 G':=l27.trans l8;subst hM;exists agT;rw[amT W hB P S p w]at hl;rw[iK (aF (l28 _ _ hl)) (aF s2.1) (by rw[a3R];exact jU _ (by omega)) (by rw[a3R];exact jU _ (by omega)),a3R,a2I];symm;have nn:∀{z v:bx}{u:GO},G1 z=aj u->G1 v=aq->z≠v:=λe f c=>by rw[←c,e]at f;cases f
  have n8:∀{z:bx}{u:GO},G7 z=aj u->d≠z:=λe c=>by rw[←c,fd]at e;cases e
  exact aI8 o hB bl (l28 _ _ (l2 _ _ hb1)) (l28 _ _ (l2 _ _ hb2)) (l28 _ _ hs) (l28 _ _ hl) s2.1 (l28 _ _ (l2 _ _ (l1 _ _ (l0 _ _ hT)))) (by rw[gj];omega) (by rw[gj,p.length_eq,a2n];omega) (nn hb1 fs) (nn hb1 fl) (nn hb2 fs) (nn hb2 fl) (n8 (l27 _ _ hs)) (n8 (l27 _ _ hl)) sl p w h'
def main(T:Txt K mg A)(a:bx)(ns:List Int)(hl:ns.length<=63)(G:Gp)(hG:G a=aj (.rol (ns.map D.int)))(hT:G A.dH=aj (GO.tab bY.qual bY.pos)):adJ K A [.ref a] G (λd _=>d=.bl ak) (λ_ _=>False):=aNC hG hT λ_=>rfl
end
end Law
namespace Law
open PySem PySem.Spec PyProof.Rows L2 L4 PySem.W
variable{qt:Bool}{x:Str}{st:lq}{f:bx}{ps:List Str}
section
variable{P:ju}{w:jq}{K:Fg}{mg:Str->Option bh}{base:jf}{A:aX}
local macro_rules| `(tactic| walk_at "sc")=>`(tactic| exact⟨rfl,rfl,rfl,by decide+kernel,rfl,by decide+kernel,by decide+kernel⟩)
def qG{j k:Nat}{d:jy}{sp:fU}{n:Nat}(h:cH qt P w K mg base (j9 P w) j f d ps (d7 K sp))(t:uZ K mg x st f d ps)(hj:j<=k:=by decide):GTs P w K mg base k x (.fn sp n qt):=⟨_,_,_,h.mono hj,t.m,t.F.kp,t.B⟩
def dc{qual:Str}{fd:jy}{k:Nat}{S:SI}{c:CB}{tb:aV->bC}(F:Fun K x qual st f fd)(hS:bD S.N ps (aZ st))(hc:S.calm=!qt)(hv:a7Q S (aZ st)=ak)(hk:kB S 0 c (cD st)=ak)(he:(λEX=>mB S.gl K (λ_=>EX) c)=tb)(hg:∀(j:Nat)(y:Str)(g:GT),S.gl[j]?=aj (y,g)->GTs P w K mg base k y g)(hn:S.need=ao:=by rfl):cH qt P w K mg base (j9 P w) (k+1) f fd ps (d7 K (uE S.N.length ps.length tb)):=by
 rw[←he];exact at7 F hS hc hv hk hg hn
def a4Y(T:Txt K mg A)(hB:wI base mg A):cH ao P w K mg base (j9 P w) 1 A.a7Z A.tE ["thing","least","most"] (d7 K (dI K A)) :=
 dc (S:=aj5 K A) (c:=aj4) T.iQ.F (show bD ["thing","least","most"] ["thing","least","most"] _ from by walk_at "sc") rfl (by nofun) (by nofun) (by nofun) (cV ⟨T.am4,acH⟩ (cV ⟨T.gG,fD⟩ (cV ⟨T.auL,akO⟩ vV)))
def a8Z(T:Txt K mg A)(hB:wI base mg A):cH ao P w K mg base (j9 P w) 2 A.abE A.xW ["thing","aisles","first","last"] (d7 K (kY K A)) :=
 dc (S:=aoN K A) (c:=aoM) T.lA.F (show bD ["thing","aisles","first","last"] ["thing","aisles","first","last"] _ from by walk_at "sc") rfl (by nofun) (by nofun) (by nofun) (cV ⟨T.a67,a0L⟩ (cV ⟨T.gG,fD⟩ (cV ⟨T.pO,jB⟩ (cV (qG (a4Y T hB) T.iQ) vV))))
def ajQ(T:Txt K mg A)(hB:wI base mg A):cH ao P w K mg base (j9 P w) 2 A.abF A.xX ["thing"] (d7 K (tQ K A)) :=
 dc (S:=aoP K A) (c:=aoO) T.mX.F (show bD ["thing"] ["thing"] _ from by walk_at "sc") rfl (by nofun) (by nofun) (by nofun) (cV ⟨T.a67,a0L⟩ (cV ⟨T.gG,fD⟩ (cV ⟨T.pO,jB⟩ (cV (gcI T.gW) (cV (qG (a4Y T hB) T.iQ) (cV (gcI T.gY) (cV (gcI T.oE) vV)))))))
def gH(T:Txt K mg A)(hB:wI base mg A):cH ao P w K mg base (j9 P w) 3 A.a4K A.oY ["plan"] (d7 K (bU K A)) :=
 dc (S:=agD K A) (c:=agC) T.cT.F (show bD ["plan"] ["plan"] _ from by walk_at "sc") rfl (by nofun) (by nofun) (by nofun) (cV (qG (ajQ T hB) T.mX) vV)
def ap6(T:Txt K mg A)(hB:wI base mg A):cH ao P w K mg base (j9 P w) 4 A.ag9 A.a1F ["plan","thing"] (d7 K (xZ K A)) :=
 dc (S:=auG K A) (c:=auF) T.rW.F (show bD ["plan","thing"] ["plan","thing"] _ from by walk_at "sc") rfl (by nofun) (by nofun) (by nofun) (cV (qG (gH T hB) T.cT) (cV (qG (a8Z T hB) T.lA) vV))
def ajR(T:Txt K mg A)(hB:wI base mg A):cH ao P w K mg base (j9 P w) 4 A.abG A.xY ["plan","thing"] (d7 K (nQ K A)) :=
 dc (S:=aoR K A) (c:=aoQ) T.mY.F (show bD ["plan","thing"] ["plan","thing"] _ from by walk_at "sc") rfl (by nofun) (by nofun) (by nofun) (cV (qG (gH T hB) T.cT) (cV (qG (a8Z T hB) T.lA) vV))
def aI9(T:Txt K mg A)(hB:wI base mg A):cH ao P w K mg base (j9 P w) 5 A.aCK A.alP ["plan","one","other"] (d7 K (adA K A)) :=
 dc (S:=aN1 K A) (c:=aN0) T.abM.F (show bD ["plan","one","other","by_front","by_back"] ["plan","one","other"] _ from by walk_at "sc") rfl (by nofun) (by nofun) (by nofun) (cV (qG (ajR T hB) T.mY) (cV ⟨T.aCM,ar4⟩ (cV ⟨T.am6,acF⟩ vV)))
def ahH(T:Txt K mg A)(hB:wI base mg A):cH ao P w K mg base (j9 P w) 5 A.a80 A.tG ["plan","thing"] (d7 K (pC K A)) :=
 dc (S:=aj7 K A) (c:=aj6) T.lB.F (show bD ["plan","thing"] ["plan","thing"] _ from by walk_at "sc") rfl (by nofun) (by nofun) (by nofun) (cV (qG (ap6 T hB) T.rW) vV)
def a02(T:Txt K mg A)(hB:wI base mg A):cH ao P w K mg base (j9 P w) 1 A.oZ A.fM ["bins"] (d7 K (eU K A)) :=
 dc (S:=a1M K A) (c:=a1L) T.cW.F (show bD ["bins","last","aisles","aisle","place"] ["bins"] _ from by walk_at "sc") rfl (by nofun) (by nofun) (by nofun) (cV ⟨T.am5,acG⟩ (cV ⟨T.pP,lQ⟩ vV))
def a4Z(T:Txt K mg A)(hB:wI base mg A):cH ao P w K mg base (j9 P w) 1 A.a81 A.tH ["places","end"] (d7 K (iV K A)) :=
 dc (S:=aj9 K A) (c:=aj8) T.iR.F (show bD ["places","end"] ["places","end"] _ from by walk_at "sc") rfl (by nofun) (by nofun) (by nofun) (cV ⟨T.am5,acG⟩ (cV ⟨T.am6,acF⟩ vV))
def a5M(T:Txt K mg A)(hB:wI base mg A):cH ao P w K mg base (j9 P w) 2 A.wB A.jH ["plan","places","end","goal"] (d7 K (iH K A)) :=
 dc (S:=a89 K A) (c:=a88) T.dW.F (show bD ["plan","places","end","goal"] ["plan","places","end","goal"] _ from by walk_at "sc") rfl (by nofun) (by nofun) (by nofun) (cV ⟨T.pO,jB⟩ (cV (qG (a4Z T hB) T.iR) (cV ⟨T.aCM,ar4⟩ vV)))
def a90(T:Txt K mg A)(hB:wI base mg A):cH ao P w K mg base (j9 P w) 3 A.yV A.lJ ["plan","places","ways"] (d7 K (jO K A)) :=
 dc (S:=a9T K A) (c:=a9S) T.fH.F (show bD ["plan","places","ways","found","end","way","goal","one"] ["plan","places","ways"] _ from by walk_at "sc") rfl (by nofun) (by nofun) (by nofun) (cV (qG (a5M T hB) T.dW) (cV ⟨T.am6,acF⟩ vV))
def a3S(T:Txt K mg A)(hB:wI base mg A):cH ao P w K mg base (j9 P w) 4 A.uH A.iD ["plan","aisles"] (d7 K (fY K A)) :=
 dc (S:=a5H K A) (c:=a5G) T.dB.F (show bD ["plan","aisles","ways","places"] ["plan","aisles"] _ from by walk_at "sc") rfl (by nofun) (by nofun) (by nofun) (cV (qG (a90 T hB) T.fH) vV)
def a5N(T:Txt K mg A)(hB:wI base mg A):cH ao P w K mg base (j9 P w) 2 A.wC A.jJ ["aisle","places","end","goal"] (d7 K (iI K A)) :=
 dc (S:=a8B K A) (c:=a8A) T.dX.F (show bD ["aisle","places","end","goal"] ["aisle","places","end","goal"] _ from by walk_at "sc") rfl (by nofun) (by nofun) (by nofun) (cV ⟨T.pO,jB⟩ (cV (qG (a4Z T hB) T.iR) vV))
def avP(T:Txt K mg A)(hB:wI base mg A):cH ao P w K mg base (j9 P w) 1 A.alQ A.a65 ["spots","spot"] (d7 K (wK K A)) :=
 dc (S:=aA8 K A) (c:=aA7) T.yD.F (show bD ["spots","spot"] ["spots","spot"] _ from by walk_at "sc") rfl (by nofun) (by nofun) (by nofun) vV
def ahI(T:Txt K mg A)(hB:wI base mg A):cH ao P w K mg base (j9 P w) 3 A.a82 A.tK ["aisles","ends"] (d7 K (pG K A)) :=
 dc (S:=ajB K A) (c:=ajA) T.lC.F (show bD ["aisles","ends","spots","end","aisle","goal","spot"] ["aisles","ends"] _ from by walk_at "sc") rfl (by nofun) (by nofun) (by nofun) (cV (gcT T.a8N) (cV ⟨T.a4W,a0Z⟩ (cV (qG (a5N T hB) T.dX) (cV (qG (avP T hB) T.yD) vV))))
def amU(T:Txt K mg A)(hB:wI base mg A):cH ao P w K mg base (j9 P w) 6 A.auE A.ad9 ["plan","bins"] (d7 K (yC K A)) :=
 dc (S:=aHU K A) (c:=aHT) T.a00.F (show bD ["plan","bins","spot","aisles"] ["plan","bins"] _ from by walk_at "sc") rfl (by nofun) (by nofun) (by nofun) (cV (qG (gH T hB) T.cT) (cV (qG (ahH T hB) T.lB) (cV (qG (a02 T hB) T.cW) (cV (qG (a3S T hB) T.dB) (cV (qG (ahI T hB) T.lC) vV)))))
def ap7(T:Txt K mg A)(hB:wI base mg A):cH ao P w K mg base (j9 P w) 6 A.agA A.a1G ["plan","spots"] (d7 K (rC K A)) :=
 dc (S:=auJ K A) (c:=auI) T.rY.F (show bD ["plan","spots"] ["plan","spots"] _ from by walk_at "sc") rfl (by nofun) (by nofun) (by nofun) (cV (qG (gH T hB) T.cT) (cV ⟨T.aCN,atH⟩ (cV (qG (aI9 T hB) T.abM) (cV ⟨T.aN4,aF5⟩ vV))))
def a3T(T:Txt K mg A)(hB:wI base mg A):cH ao P w K mg base (j9 P w) 1 A.uI A.iG ["one","other"] (d7 K (fZ K A)) :=
 dc (S:=a5J K A) (c:=a5I) T.dD.F (show bD ["one","other","step"] ["one","other"] _ from by walk_at "sc") rfl (by nofun) (by nofun) (by nofun) (cV ⟨T.pP,lQ⟩ vV)
def avQ(T:Txt K mg A)(hB:wI base mg A):cH ao P w K mg base (j9 P w) 4 A.alR A.a66 ["plan","spots","bins"] (d7 K (a1R K A)) :=
 dc (S:=aAA K A) (c:=aA9) T.yE.F (show bD ["plan","spots","bins","wanted","met","one","other","spot"] ["plan","spots","bins"] _ from by walk_at "sc") rfl (by nofun) (by nofun) (by nofun) (cV (qG (gH T hB) T.cT) (cV ⟨T.auM,akP⟩ (cV ⟨T.aCN,atH⟩ (cV (qG (a3T T hB) T.dD) (cV ⟨T.ajH,acI⟩ vV)))))
def a9W(T:Txt K mg A)(hB:wI base mg A):vQ ao P w K mg base 1 bY (gR K A):=by
 have h:=atF (P:=P) (w:=w) (K:=K) (mg:=mg) (base:=base) (k:=0) (c:=bY) (ps:=["row"]) (S:=a1T K A) (ce:=a1S) (show ScX ["turns","row"] ["row"] "turns" bY.scope from⟨rfl,rfl,rfl,by decide+kernel,rfl,by decide+kernel,aoA (by decide+kernel),rfl⟩) (by decide+kernel) (λ_ _ _ _ us hl=>match us,hl with|[_],_=>rfl) rfl (by nofun) (by nofun) vV;have e:(mE (a1T K A).gl K (λ_=>m6 λ_ _=>False) a1S)=mR K A (λ_=>m6 λ_ _=>False):=by nofun
 rw[e]at h;exact h
def ap8(T:Txt K mg A)(hB:wI base mg A):cH ao P w K mg base (j9 P w) 7 A.agB A.wF ["plan","rows"] (d7 K (rD K A)):=by
 have h:=atG (P:=P) (w:=w) (K:=K) (mg:=mg) (base:=base) (k:=4) (S:=agH K A) (ix:=4) (c:=bY) (sp:=gR K A) (c1:=a8F) (ce:=a8G) (cl:=a8H) (pre:=(cD f9).take 4) (e:=aQP (inBody f9 4)) (l:=aQQ (inBody f9 4)) (kt:=(aoC (inBody f9 4)).1) (p1:=(aoC (inBody f9 4)).2.1) (p2:=(aoC (inBody f9 4)).2.2.1) (pt:=(aoC (inBody f9 4)).2.2.2.1) (pr:=(aoC (inBody f9 4)).2.2.2.2.1) (kp:=(aoC (inBody f9 4)).2.2.2.2.2) T.oA.F (show bD ["plan","rows","bins","spots","turns"] ["plan","rows"] _ from by walk_at "sc") (by nofun) (λ_=>rfl) (by nofun) T.a1K hB.2 hB.1 (by nofun) rfl (by nofun) (by nofun) T.auN (vQ.mono (a9W T hB) (by decide)) rfl (by nofun) (by nofun) (by nofun) rfl (by nofun) rfl (cV (qG (gH T hB) T.cT) (cV (qG (amU T hB) T.a00) (cV ⟨T.a4W,a0Z⟩ (cV (qG (avQ T hB) T.yE) (cV ⟨T.auM,akP⟩ vV)))));have e:(λEX=>aGR (agH K A).gl K (λ_=>EX) A.dH bY 4 (gR K A) a8F a8G a8H)=λEX=>a1X K A (λ_=>EX):=by nofun
 rw[e]at h;exact h
def uV(T:Txt K mg A)(hB:wI base mg A):cH ao P w K mg base (j9 P w) 1 A.wG A.jK ["_law_script","_law_k"] (d7 K (bZ K A)) :=
 dc (S:=a8J K A) (c:=a8I) T.d9.F (show bD ["_law_script","_law_k","_law_mixed"] ["_law_script","_law_k"] _ from by walk_at "sc") rfl (by nofun) (by nofun) (by nofun) (cV ⟨T.pO,jB⟩ vV)
def adW(T:Txt K mg A)(hB:wI base mg A):cH ao P w K mg base (j9 P w) 2 A.a4L A.p7 ["_law_script"] (d7 K (mU K A)) :=
 dc (S:=agJ K A) (c:=agI) T.iW.F (show bD ["_law_script","_law_cell","_law_aisles","_law_places"] ["_law_script"] _ from by walk_at "sc") rfl (by nofun) (by nofun) (by nofun) (cV (qG (uV T hB) T.d9) vV)
def a9X(T:Txt K mg A)(hB:wI base mg A):cH ao P w K mg base (j9 P w) 1 A.a1H A.mK ["_law_found"] (d7 K (gU K A)) :=
 dc (S:=adE K A) (c:=adD) T.gB.F (show bD ["_law_found"] ["_law_found"] _ from by walk_at "sc") rfl (by nofun) (by nofun) (by nofun) (cV ⟨T.am4,acH⟩ (cV ⟨T.gG,fD⟩ (cV ⟨T.auL,akO⟩ vV)))
def adX(T:Txt K mg A)(hB:wI base mg A):cH ao P w K mg base (j9 P w) 2 A.a4M A.p8 ["_law_script","_law_plan_here"] (d7 K (mV K A)) :=
 dc (S:=agL K A) (c:=agK) T.iY.F (show bD ["_law_script","_law_plan_here","_law_cell","_law_many","_law_found","_law_k","_law_spot","_law_other","_law_lot"] ["_law_script","_law_plan_here"] _ from by walk_at "sc") rfl (by nofun) (by nofun) (by nofun) (cV (qG (uV T hB) T.d9) (cV ⟨T.pP,lQ⟩ (cV ⟨T.pO,jB⟩ vV)))
def a9Y(T:Txt K mg A)(hB:wI base mg A):cH ao P w K mg base (j9 P w) 1 A.a1I A.mL ["_law_one","_law_other"] (d7 K (lM K A)) :=
 dc (S:=adG K A) (c:=adF) T.gC.F (show bD ["_law_one","_law_other","_law_found","_law_aisle","_law_place"] ["_law_one","_law_other"] _ from by walk_at "sc") rfl (by nofun) (by nofun) (by nofun) (cV ⟨T.am4,acH⟩ vV)
def adY(T:Txt K mg A)(hB:wI base mg A):cH ao P w K mg base (j9 P w) 2 A.a4N A.pA ["_law_spots_here"] (d7 K (jR K A)) :=
 dc (S:=agN K A) (c:=agM) T.iZ.F (show bD ["_law_spots_here","_law_found","_law_k"] ["_law_spots_here"] _ from by walk_at "sc") rfl (by nofun) (by nofun) (by nofun) (cV ⟨T.pP,lQ⟩ (cV ⟨T.pO,jB⟩ (cV (qG (a9Y T hB) T.gC) vV)))
def a9Z(T:Txt K mg A)(hB:wI base mg A):cH ao P w K mg base (j9 P w) 2 A.a1J A.mQ ["_law_spots_here","_law_plan_here"] (d7 K (lN K A)) :=
 dc (S:=adI K A) (c:=adH) T.gF.F (show bD ["_law_spots_here","_law_plan_here","_law_spot","_law_k","_law_one","_law_other"] ["_law_spots_here","_law_plan_here"] _ from by walk_at "sc") rfl (by nofun) (by nofun) (by nofun) (cV ⟨T.ajH,acI⟩ (cV ⟨T.gG,fD⟩ (cV ⟨T.a67,a0L⟩ (cV ⟨T.pO,jB⟩ (cV (qG (a9X T hB) T.gB) (cV ⟨T.pP,lQ⟩ vV))))))
def adZ(T:Txt K mg A)(hB:wI base mg A):cH ao P w K mg base (j9 P w) 1 A.a4O A.pB ["_law_path_here","_law_last"] (d7 K (mW K A)) :=
 dc (S:=agP K A) (c:=agO) T.j4.F (show bD ["_law_path_here","_law_last","_law_found","_law_k"] ["_law_path_here","_law_last"] _ from by walk_at "sc") rfl (by nofun) (by nofun) (by nofun) (cV ⟨T.pP,lQ⟩ (cV ⟨T.pO,jB⟩ vV))
def ahJ(T:Txt K mg A)(hB:wI base mg A):cH ao P w K mg base (j9 P w) 1 A.a83 A.tL ["_law_bins","_law_ends_here","_law_whole_here"] (d7 K (pL K A)) :=
 dc (S:=ajE K A) (c:=ajD) T.lD.F (show bD ["_law_bins","_law_ends_here","_law_whole_here","_law_spots_here","_law_end","_law_aisle","_law_here"] ["_law_bins","_law_ends_here","_law_whole_here"] _ from by walk_at "sc") rfl (by nofun) (by nofun) (by nofun) (cV ⟨T.pP,lQ⟩ (cV ⟨T.pO,jB⟩ (cV ⟨T.am5,acG⟩ (cV ⟨T.am6,acF⟩ vV))))
def a5O(T:Txt K mg A)(hB:wI base mg A):cH ao P w K mg base (j9 P w) 3 A.wH A.jL ["_law_spots_here","_law_bins","_law_plan_here"] (d7 K (fB K A)) :=
 dc (S:=a8L K A) (c:=a8K) T.dY.F (show bD ["_law_spots_here","_law_bins","_law_plan_here","_law_path_here","_law_last","_law_ends_here"] ["_law_spots_here","_law_bins","_law_plan_here"] _ from by walk_at "sc") rfl (by nofun) (by nofun) (by nofun) (cV (qG (a9Z T hB) T.gF) (cV (qG (adY T hB) T.iZ) (cV ⟨T.am5,acG⟩ (cV (qG (adZ T hB) T.j4) (cV ⟨T.pO,jB⟩ (cV (qG (ahJ T hB) T.lD) vV))))))
def ahK(T:Txt K mg A)(hB:wI base mg A):cH ao P w K mg base (j9 P w) 1 A.a84 A.tM ["_law_spots_here","_law_plan_here"] (d7 K (pN K A)) :=
 dc (S:=ajG K A) (c:=ajF) T.lE.F (show bD ["_law_spots_here","_law_plan_here","_law_found","_law_k","_law_aisle","_law_place","_law_other","_law_last","_law_step"] ["_law_spots_here","_law_plan_here"] _ from by walk_at "sc") rfl (by nofun) (by nofun) (by nofun) (cV ⟨T.pP,lQ⟩ (cV ⟨T.pO,jB⟩ (cV ⟨T.am4,acH⟩ (cV ⟨T.pO,jB⟩ vV))))
def a91(T:Txt K mg A)(hB:wI base mg A):cH ao P w K mg base (j9 P w) 1 A.yW A.lK ["_law_one","_law_other","_law_met_here"] (d7 K (jT K A)) :=
 dc (S:=a9V K A) (c:=a9U) T.fJ.F (show bD ["_law_one","_law_other","_law_met_here"] ["_law_one","_law_other","_law_met_here"] _ from by walk_at "sc") rfl (by nofun) (by nofun) (by nofun) vV
def aIA(T:Txt K mg A)(hB:wI base mg A):cH ao P w K mg base (j9 P w) 8 A.a85 A.aCL ["_law_script"] (d7 K (adJ K A)) :=
 dc (S:=aN2 K A) (c:=agW) T.aN3.F (show bD ["_law_script","_law_plan_here","_law_rows_here","_law_handed","_law_found","_law_spots_here","_law_met_here","_law_due_here","_law_row","_law_at","_law_again"] ["_law_script"] _ from by walk_at "sc") rfl (by nofun) (by nofun) (by nofun) (cV (qG (adW T hB) T.iW) (cV (qG (adX T hB) T.iY) (cV ⟨T.ajH,acI⟩ (cV (qG (ap8 T hB) T.oA) (cV ⟨T.a67,a0L⟩ (cV ⟨T.gG,fD⟩ (cV ⟨T.pO,jB⟩ (cV (qG (amU T hB) T.a00) (cV (qG (a5O T hB) T.dY) (cV (qG (ap7 T hB) T.rY) (cV (qG (ahK T hB) T.lE) (cV (qG (a91 T hB) T.fJ) vV))))))))))))
end
abbrev amV(K:Fg)(T:bx):Sp:=λvs H Q _=>∃(a:bx)(ns:List Int),vs=[.ref a]/\qK K H a (ns.map V.int)/\ns.length<=63/\K.lookup T=aq/\H T=aj (.zM #[])/\∀H',Q (.bl ak) H'
variable{mg:Str->Option bh}
def aB1{K:Fg}{A:aX}(T:Txt K mg A):∀vs H Q E,amV K A.dH vs H Q E->d7 K (adJ K A) vs H Q E:=by
 rintro vs H Q E ⟨a,ns,rfl,hS,hl,hK,hT,k⟩
 have ne:A.dH≠a:=λz=>by
  rw[←z]at hS;rcases hS with(e|⟨o,e⟩)|⟨o,_,_,e,_⟩
  .rw[hT]at e;cases e
  .rw[hT]at e;cases e
  .rw[hK]at e;cases e
 refine⟨[.ref a],λb=>if b=a then aj (.rol (ns.map D.int))else if b=A.dH then aj (GO.tab bY.qual bY.pos)else aq,λd _=>d=.bl ak,λ_ _=>False,.cons (.ref a) .nil,λb o e=>?_,main T a ns hl _ (if_pos rfl) ((if_neg ne).trans (if_pos rfl)),λv H' d G' r g e=>?_,λC H' G' g z=>z.elim⟩
 .have e2:(if b=a then aj (GO.rol (ns.map D.int))else if b=A.dH then aj (GO.tab bY.qual bY.pos)else aq)=aj o:=e;by_cases hb:b=a
  .subst hb;rw[if_pos rfl]at e2;cases e2;exact⟨_,hS,cG.ints ns⟩
  .rw[if_neg hb]at e2;by_cases hb2:b=A.dH
   .subst hb2;rw[if_pos rfl]at e2;cases e2;exact⟨#[],hT,.inl rfl⟩
   .rw[if_neg hb2]at e2;cases e2
 .subst e;cases r;exact k H'
abbrev Cb(K:Fg)(x q:Str)(st:lq)(f:bx):Prop:=∃oc kV dc pm cd ct od an sl,K.lookup f=aj ⟨oc,od,.func (tu x q (dF st) (cD st) (aZ st) .none kV dc pm an cd ct),sl⟩/\a2i K cd q=ak/\yh K (.ref f)=ak
variable{q:Str}
def Cb.get{K:Fg}(b:Cb K x q st f)(ps:List Str)(h:∀kV dc pm an cd ct,∀us:List bh,us.length=ps.length->za (tu x q (dF st) (cD st) (aZ st) .none kV dc pm an cd ct) ⟨us,[]⟩=pure (ps.zip us)):∃d,Fun K x q st f d/\Binds K d ps []/\yh K (.ref f)=ak:=by
 obtain⟨oc,kV,dc,pm,cd,ct,od,an,sl,l,c,k⟩:=b;exact⟨_,aqM (st:=st) l c k,alE (h _ _ _ _ _ _),k⟩
abbrev Fb(K:Fg)(x:Str)(st:lq)(f:bx):Prop:=qd K ji x=aj (aj (.ref f))/\Cb K x x st f
def len1(k:∀kV dc pm an cd ct a,za (tu q q (dF st) (cD st) (aZ st) .none kV dc pm an cd ct) ⟨[a],[]⟩=pure (ps.zip [a])):∀kV dc pm an cd ct,∀us:List bh,us.length=1->za (tu q q (dF st) (cD st) (aZ st) .none kV dc pm an cd ct) ⟨us,[]⟩=pure (ps.zip us):=λ_ _ _ _ _ _ us h=>by
 rcases us with _|⟨a,_|⟨_,_⟩⟩<;>first|exact k _ _ _ _ _ _ a|simp at h
def len2(k:∀kV dc pm an cd ct a b,za (tu q q (dF st) (cD st) (aZ st) .none kV dc pm an cd ct) ⟨[a,b],[]⟩=pure (ps.zip [a,b])):∀kV dc pm an cd ct,∀us:List bh,us.length=2->za (tu q q (dF st) (cD st) (aZ st) .none kV dc pm an cd ct) ⟨us,[]⟩=pure (ps.zip us):=λ_ _ _ _ _ _ us h=>by
 rcases us with _|⟨a,_|⟨b,_|⟨_,_⟩⟩⟩<;>first|exact k _ _ _ _ _ _ a b|simp at h
def ajS(k:∀kV dc pm an cd ct a b c,za (tu q q (dF st) (cD st) (aZ st) .none kV dc pm an cd ct) ⟨[a,b,c],[]⟩=pure (ps.zip [a,b,c])):∀kV dc pm an cd ct,∀us:List bh,us.length=3->za (tu q q (dF st) (cD st) (aZ st) .none kV dc pm an cd ct) ⟨us,[]⟩=pure (ps.zip us):=λ_ _ _ _ _ _ us h=>by
 rcases us with _|⟨a,_|⟨b,_|⟨c,_|⟨_,_⟩⟩⟩⟩<;>first|exact k _ _ _ _ _ _ a b c|simp at h
def aIB(k:∀kV dc pm an cd ct a b c d,za (tu q q (dF st) (cD st) (aZ st) .none kV dc pm an cd ct) ⟨[a,b,c,d],[]⟩=pure (ps.zip [a,b,c,d])):∀kV dc pm an cd ct,∀us:List bh,us.length=4->za (tu q q (dF st) (cD st) (aZ st) .none kV dc pm an cd ct) ⟨us,[]⟩=pure (ps.zip us):=λ_ _ _ _ _ _ us h=>by
 rcases us with _|⟨a,_|⟨b,_|⟨c,_|⟨d,_|⟨_,_⟩⟩⟩⟩⟩<;>first|exact k _ _ _ _ _ _ a b c d|simp at h
def Fb.get{K:Fg}{q:Str}{st:lq}{f:bx}{h:jf}{mg:Str->Option bh}(b:Fb K q st f)(XK:K.In h)(GG:h.Ns ji mg)(ps:List Str)(h:∀kV dc pm an cd ct,∀us:List bh,us.length=ps.length->za (tu q q (dF st) (cD st) (aZ st) .none kV dc pm an cd ct) ⟨us,[]⟩=pure (ps.zip us)):∃d,uZ K mg q st f d ps:=by
 obtain⟨d,F,B,_⟩:=b.2.get ps h;exact⟨d,F,B,a1f XK GG b.1⟩
abbrev Mb(K:Fg)(c:bx)(x q:Str)(st:lq)(f:bx):Prop:=a1o K (.ref c) x=aj (aj (.ref f))/\PySem.W.isFn K (.ref f)=ak/\Cb K x q st f
def Mb.get{K:Fg}{c:bx}{x q:Str}{st:lq}{f:bx}(b:Mb K c x q st f)(ps:List Str)(h:∀kV dc pm an cd ct,∀us:List bh,us.length=ps.length->za (tu x q (dF st) (cD st) (aZ st) .none kV dc pm an cd ct) ⟨us,[]⟩=pure (ps.zip us)):∃d,Fun K x q st f d/\Binds K d ps []/\a1o K (.ref c) x=aj (aj (.ref f))/\PySem.W.isFn K (.ref f)=ak/\yh K (.ref f)=ak:=by
 obtain⟨d,F,B,k⟩:=b.2.2.get ps h;exact⟨d,F,B,b.1,b.2.1,k⟩
variable{l:PySem.W.OpenLaw}
def all_mk{w:jq}{K:Fg}{h:jf}{fa:bx}(XK:K.In h)(GG:h.Ns ji mg)(hfa:mg "law"=aj (.ref fa))
  (a3U:(tabIn K "errand").isSome=ak)
  (abU:K.lookup (uW K "errand").2=aq)
  (iQ:Fb K "is_whole" a7T ajT)
  (lA:Fb K "is_pair" abB ap9)
  (mX:Fb K "is_plan" abC apA)
  (cT:Fb K "need_plan" a4F ahL)
  (rW:Fb K "is_bin" ag6 avR)
  (mY:Fb K "is_spot" abD apB)
  (abM:Fb K "far" aCJ aND)
  (lB:Fb K "need_bin" a7U ajU)
  (cW:Fb K "places_by_aisle" oX a2J)
  (iR:Fb K "farthest" a7V ajV)
  (dW:Fb K "steps_within" vZ a92)
  (fH:Fb K "ways_behind" yS aa0)
  (dB:Fb K "shortest_ends" uF a5P)
  (dX:Fb K "spots_within" w5 a93)
  (yD:Fb K "go_to" alN aB2)
  (lC:Fb K "spots_by" a7W ajW)
  (a00:Fb K "walk" auD aIC)
  (rY:Fb K "length" ag7 avS)
  (dD:Fb K "spots_between" uG a5Q)
  (yE:Fb K "stops" alO aB3)
  (oA:Fb K "errand" f9 avT)
  (d9:Fb K "_law_cell_at" w6 a94)
  (iW:Fb K "_law_plan" a4G ahM)
  (gB:Fb K "_law_whole" a1C ae0)
  (iY:Fb K "_law_rows" a4H ahN)
  (gC:Fb K "_law_steps" a1D ae1)
  (iZ:Fb K "_law_path" a4I ahO)
  (gF:Fb K "_law_spots" a1E ae2)
  (j4:Fb K "_law_ends" a4J ahP)
  (lD:Fb K "_law_due" a7X ajX)
  (dY:Fb K "_law_by_rule" wA a95)
  (lE:Fb K "_law_met" a7Y ajY)
  (fJ:Fb K "_law_behind" yU aa1)
  (a85:qd K ji "law"=aj (aj (.ref avU)))
  (avV:K.lookup avU=aj ⟨aR9,aRA,.func (tu "law" "law" (dF ag8) (cD ag8) (aZ ag8) .none aRB aRC aRD aRE aID aRF),aRG⟩)
  (agW:a2i K aID "law"=ak)
  (avW:yh K (.ref avU)=ak)
  (gW:qd K ji "MOST_AISLES"=aj (aj (.int 26 aa2)))
  (gY:qd K ji "MOST_PLACES"=aj (aj (.int 99 aa3)))
  (oE:qd K ji "MOST_GAP"=aj (aj (.int 20 ajZ)))
  (a8N:qd K ji "DOOR"=aj (aj (.ref avX)))
  (ae3:K.lookup avX=aj ⟨.type "tuple",aq,.seq #[(.int 0 aB4),(.int 0 aB5)] aOL,aOM⟩)
  (avY:qd K ji "abs"=aj aq)
  (ak0:qd K ji "bool"=aj aq)
  (ak1:qd K ji "dict"=aj aq)
  (xJ:qd K ji "enumerate"=aj aq)
  (avZ:qd K ji "int"=aj aq)
  (tY:qd K ji "isinstance"=aj aq)
  (aw0:qd K ji "len"=aj aq)
  (ak2:qd K ji "list"=aj aq)
  (aw1:qd K ji "max"=aj aq)
  (aw2:qd K ji "min"=aj aq)
  (ae4:qd K ji "range"=aj aq)
  (a96:qd K ji "sorted"=aj aq)
  (aw3:qd K ji "sum"=aj aq)
  (ae5:qd K ji "tuple"=aj aq)
  (aw4:qd K ji "zip"=aj aq) :
  ∃fd:jy,(∀(s:dg)(v:bh),BindsTo s fd ⟨[v],[]⟩ [("_law_script",v)])/\∀base:jf,K.In base->base.Ns ji mg->base.BuiltinsAt mg (uW K "errand").2->CodeHd base (uW K "errand").1 (uW K "errand").2->cH ao l.prog w K mg base (j9 l.prog w) 8 fa fd ["_law_script"] (amV K (uW K "errand").2):=by
 have e:=hfa.symm.trans (a1f XK GG a85);cases e;obtain⟨tE,ak3⟩:=iQ.get XK GG ["thing","least","most"] (ajS λ_ _ _ _ _ _ _ _ _=>rfl);obtain⟨xW,apC⟩:=lA.get XK GG ["thing","aisles","first","last"] (aIB λ_ _ _ _ _ _ _ _ _ _=>rfl);obtain⟨xX,apD⟩:=mX.get XK GG ["thing"] (len1 λ_ _ _ _ _ _ _=>rfl);obtain⟨oY,ahQ⟩:=cT.get XK GG ["plan"] (len1 λ_ _ _ _ _ _ _=>rfl);obtain⟨a1F,aw5⟩:=rW.get XK GG ["plan","thing"] (len2 λ_ _ _ _ _ _ _ _=>rfl);obtain⟨xY,apE⟩:=mY.get XK GG ["plan","thing"] (len2 λ_ _ _ _ _ _ _ _=>rfl);obtain⟨alP,aNE⟩:=abM.get XK GG ["plan","one","other"] (ajS λ_ _ _ _ _ _ _ _ _=>rfl);obtain⟨tG,ak4⟩:=lB.get XK GG ["plan","thing"] (len2 λ_ _ _ _ _ _ _ _=>rfl);obtain⟨fM,a2K⟩:=cW.get XK GG ["bins"] (len1 λ_ _ _ _ _ _ _=>rfl);obtain⟨tH,ak5⟩:=iR.get XK GG ["places","end"] (len2 λ_ _ _ _ _ _ _ _=>rfl);obtain⟨jH,a97⟩:=dW.get XK GG ["plan","places","end","goal"] (aIB λ_ _ _ _ _ _ _ _ _ _=>rfl);obtain⟨lJ,aa4⟩:=fH.get XK GG ["plan","places","ways"] (ajS λ_ _ _ _ _ _ _ _ _=>rfl);obtain⟨iD,a5R⟩:=dB.get XK GG ["plan","aisles"] (len2 λ_ _ _ _ _ _ _ _=>rfl);obtain⟨jJ,a98⟩:=dX.get XK GG ["aisle","places","end","goal"] (aIB λ_ _ _ _ _ _ _ _ _ _=>rfl);obtain⟨a65,aB6⟩:=yD.get XK GG ["spots","spot"] (len2 λ_ _ _ _ _ _ _ _=>rfl);obtain⟨tK,ak6⟩:=lC.get XK GG ["aisles","ends"] (len2 λ_ _ _ _ _ _ _ _=>rfl);obtain⟨ad9,aIE⟩:=a00.get XK GG ["plan","bins"] (len2 λ_ _ _ _ _ _ _ _=>rfl);obtain⟨a1G,aw6⟩:=rY.get XK GG ["plan","spots"] (len2 λ_ _ _ _ _ _ _ _=>rfl);obtain⟨iG,a5S⟩:=dD.get XK GG ["one","other"] (len2 λ_ _ _ _ _ _ _ _=>rfl);obtain⟨a66,aB7⟩:=yE.get XK GG ["plan","spots","bins"] (ajS λ_ _ _ _ _ _ _ _ _=>rfl);obtain⟨wF,ahR⟩:=oA.get XK GG ["plan","rows"] (len2 λ_ _ _ _ _ _ _ _=>rfl);obtain⟨jK,a99⟩:=d9.get XK GG ["_law_script","_law_k"] (len2 λ_ _ _ _ _ _ _ _=>rfl);obtain⟨p7,ahS⟩:=iW.get XK GG ["_law_script"] (len1 λ_ _ _ _ _ _ _=>rfl);obtain⟨mK,ae6⟩:=gB.get XK GG ["_law_found"] (len1 λ_ _ _ _ _ _ _=>rfl);obtain⟨p8,ahT⟩:=iY.get XK GG ["_law_script","_law_plan_here"] (len2 λ_ _ _ _ _ _ _ _=>rfl);obtain⟨mL,ae7⟩:=gC.get XK GG ["_law_one","_law_other"] (len2 λ_ _ _ _ _ _ _ _=>rfl);obtain⟨pA,ahU⟩:=iZ.get XK GG ["_law_spots_here"] (len1 λ_ _ _ _ _ _ _=>rfl);obtain⟨mQ,ae8⟩:=gF.get XK GG ["_law_spots_here","_law_plan_here"] (len2 λ_ _ _ _ _ _ _ _=>rfl);obtain⟨pB,ahV⟩:=j4.get XK GG ["_law_path_here","_law_last"] (len2 λ_ _ _ _ _ _ _ _=>rfl);obtain⟨tL,ak7⟩:=lD.get XK GG ["_law_bins","_law_ends_here","_law_whole_here"] (ajS λ_ _ _ _ _ _ _ _ _=>rfl);obtain⟨jL,a9A⟩:=dY.get XK GG ["_law_spots_here","_law_bins","_law_plan_here"] (ajS λ_ _ _ _ _ _ _ _ _=>rfl);obtain⟨tM,ak8⟩:=lE.get XK GG ["_law_spots_here","_law_plan_here"] (len2 λ_ _ _ _ _ _ _ _=>rfl);obtain⟨lK,aa5⟩:=fJ.get XK GG ["_law_one","_law_other","_law_met_here"] (ajS λ_ _ _ _ _ _ _ _ _=>rfl);have Z:=λ{x:Str}(h:qd K ji x=aj aq)=>PySem.W.mg_none_of XK GG h;have T:Txt K mg ⟨ajT,tE,ap9,xW,apA,xX,ahL,oY,avR,a1F,apB,xY,aND,alP,ajU,tG,a2J,fM,ajV,tH,a92,jH,aa0,lJ,a5P,iD,a93,jJ,aB2,a65,ajW,tK,aIC,ad9,avS,a1G,a5Q,iG,aB3,a66,avT,wF,a94,jK,ahM,p7,ae0,mK,ahN,p8,ae1,mL,ahO,pA,ae2,mQ,ahP,pB,ajX,tL,a95,jL,ajY,tM,aa1,lK,avU,_,(uW K "errand").2,(uW K "errand").1⟩:=⟨atB ahR.F (alD a3U) oA.1,ak3,apC,apD,ahQ,aw5,apE,aNE,ak4,a2K,ak5,a97,aa4,a5R,a98,aB6,ak6,aIE,aw6,a5S,aB7,ahR,a99,ahS,ae6,ahT,ae7,ahU,ae8,ahV,ak7,a9A,ak8,aa5,⟨aqM (st:=ag8) avV agW avW,alE (ps:=["_law_script"]) (λus hl=>match us,hl with|[_],_=>rfl),a1f XK GG a85⟩,⟨aa2,a1f XK GG gW⟩,⟨aa3,a1f XK GG gY⟩,⟨ajZ,a1f XK GG oE⟩,⟨avX,a1f XK GG a8N,aGS (xs:=[.int 0,.int 0]) ae3 (show 2<=dh by decide) (.cons ⟨aB4,rfl⟩ (.cons ⟨aB5,rfl⟩ .nil)) λ_=>(.cons (.int _) (.cons (.int _) .nil))⟩,Z avY,Z ak0,Z ak1,Z xJ,Z avZ,Z tY,Z aw0,Z ak2,Z aw1,Z aw2,Z ae4,Z a96,Z aw3,Z ae5,Z aw4⟩;exact⟨_,λs v=>.of_eq rfl,λbase _ _ h1 h2=>(aIA T ⟨h1,h2⟩).imp (aB1 T)⟩
def walk{q:ju}{d:DefRec}{K:Params->iu}(hn:l.most=aj 63)(hdf:d.params.defaults=[])
  (hY:∀(w:jq)(h:jf),YP w h->(K w.params).In h)(hdm:((recsOf q).find? (λe=>e.name==("errand":Str))).isSome=ak)(hT:∀w:jq,(tabIn (K w.params) "errand").isSome=ak)(hKT:∀w:jq,(K w.params).lookup (uW (K w.params) "errand").2=aq)
  (F:∀(w:jq)(mg:Str->Option bh)(fa:bx)(h:jf),(K w.params).In h->h.Ns ji mg->mg d.name=aj (.ref fa) ->
   ∃fd:jy,(∀(s:dg)(u:bh),BindsTo s fd ⟨[u],[]⟩ [("_law_script",u)])/\∀base:jf,(K w.params).In base->base.Ns ji mg->base.BuiltinsAt mg (uW (K w.params) "errand").2->CodeHd base (uW (K w.params) "errand").1 (uW (K w.params) "errand").2->cH ao l.prog w (K w.params) mg base (j9 l.prog w) 8 fa fd ["_law_script"] (amV (K w.params) (uW (K w.params) "errand").2)) :
  PySem.W.WalkO q loose XP YP l.row.toRowW d [] (λf vs=>PySem.call f vs):=by
 obtain⟨dm,hdm⟩:=a0D.mp hdm;exact L2.atE (n:=63) (k:=8) (x:="_law_script") (CX:=λw=>j9 l.prog w) (T:=λw=>(uW (K w.params) "errand").2) (cC:=λw=>(uW (K w.params) "errand").1) (sp:=λw=>amV (K w.params) (uW (K w.params) "errand").2) hn (by decide) hdf ⟨λ_=>rfl,by decide,by decide⟩ hY hdm (λw=>alD (hT w)) hKT F (λw _ a ns hl hO hS=>⟨a,ns,rfl,hS,hl,hKT w,hO.1,λ_=>rfl⟩) λ_ _ _ _ _ z=>z
end Law
open PySem PySem.W PyProof.Rows
set_option tactic.hygienic true in
theorem PySem.Challenge.cw_depot_k75_whole_errands_holds : PySem.Challenge.rw_depot_k75_whole_errands.Holds := by
 w_on;refine PySem.W.holds_law Law.frW λsaid=>?_;o_head (PySem.W.kHook Law.frK.heap_1 Law.frA Law.frE)
 case hl=>exact Law.frL
 case hw=>w_witness2
 k_fill
 refine Law.walk (l:=PySem.Challenge.rw_depot_k75_whole_errands) rfl rfl (λw h Y=>PySem.W.kIn_of Y) (by nofun) (λw=>by nofun) (λw=>by nofun) ?F
 case F =>
  intro w mg fa h KX G hmg;refine' Law.all_mk KX G hmg ?a3U ?abU ?iQ ?lA ?mX ?cT ?rW ?mY ?abM ?lB ?cW ?iR ?dW ?fH ?dB ?dX ?yD ?lC ?a00 ?rY ?dD ?yE ?oA ?d9 ?iW ?gB ?iY ?gC ?iZ ?gF ?j4 ?lD ?dY ?lE ?fJ ?a85 ?avV ?agW ?avW ?gW ?gY ?oE ?a8N ?ae3 ?avY ?ak0 ?ak1 ?xJ ?avZ ?tY ?aw0 ?ak2 ?aw1 ?aw2 ?ae4 ?a96 ?aw3 ?ae5 ?aw4
  case a3U|abU=>nofun
  case iQ|lA|mX|cT|rW|mY|abM|lB|cW|iR|dW|fH|dB|dX|yD|lC|a00|rY|dD|yE|oA|d9|iW|gB|iY|gC|iZ|gF|j4|lD|dY|lE|fJ=>exact⟨by k_is,_,_,_,_,_,_,_,_,_,by k_is,by k_is,by k_is⟩
  case a85|avV|agW|avW|gW|gY|oE|a8N|ae3|avY|ak0|ak1|xJ|avZ|tY|aw0|ak2|aw1|aw2|ae4|a96|aw3|ae5|aw4=>k_is
