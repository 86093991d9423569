import PyProof.Rows.All
import Wide.All
import OpenK.KLine
import OpenK.KOwn
import Wide.FinOn
import Lean
import PyProof.EqAt
import PyProof.EqKinds
import PyProof.TupleCall
import KE.KMinKey
import KE.KSortTup
import KE.KRevSl
import KE.KStateDown
import PyProof.Rows.Range3
import KE.KDictOf
import PyProof.AttrMissSeq
import KE.KRevIter
import KE.KItemsList
import KE.KPairComp
import KE.KEqDict
import KE.KDictSum
import KE.RegKIsAll
import KE.KNest
import KE.KClos
import PyProof.Draws
import PyProof.EnumMake
import PySem.Challenge.RW_depot_k22_deeds_on_shelves
set_option Elab.async false
set_option linter.all false
set_option maxRecDepth 100000
set_option maxHeartbeats 4000000
set_option compiler.extract_closed false
local macro_rules|`(command|abbrev $i:declId $s:optDeclSig $v:declVal)=>`(command|noncomputable def $i:declId $s:optDeclSig $v:declVal)
local macro_rules|`(command|@[simp]def $i:declId $s:optDeclSig $v:declVal)=>`(command|noncomputable abbrev $i:declId $s:optDeclSig $v:declVal)
local macro_rules|`(command|def $i:declId $s:optDeclSig $v:declVal)=>`(command|theorem $i:declId $(⟨Lean.mkNode ``Lean.Parser.Command.declSig #[s.raw[0],s.raw[1][0]]⟩):declSig $v:declVal)
local macro_rules|`(command|private theorem $i:declId $s:declSig $v:declVal)=>`(command|set_option tactic.hygienic true in theorem $i:declId $s:declSig $v:declVal)
local macro_rules|`(tactic|nofun)=>`(tactic|kernel_rfl)
open Option renaming some->aj,none->au,some->jf,isSome_iff_exists->a0v,map_eq_some_iff->a1h,isSome_map->a2e,none->a2i
open Bool renaming true->ak,false->ao,and_eq_true->bx,not_eq_true'->iu,false_eq_true->qe,false_ne_true->qw,not_true->a1d,eq_iff_iff->a2o,or_eq_true->a2q,false_xor->a2z
open PySem renaming Value->aq,wpAny_bind->bh,Addr->bw,wpAny_pure->cj,Shared->cu,wpAny->dg,sizeLine->dh,model->dw,compareOp->jg,starEach->ji,World->jj,Heap->jm,Expr->jq,cLine->jr,Program->jt,mainGlobals->ju,FuncData->jw,Around->jx,bootBuiltins->mz,sysModules->qd,Stmt->qm,wpAny_holding->qp,wpAny_mono->qy,backTo->tu,bindArgs->uc,attributeBase->uh,wpAny_field->uq,NameKind->uw,CmpOp->vh,wpAny_dictEntries->vp,wpAny_Call_Name_kw->xg,wpAny_call_entry->xq,binaryOp->xr,wpAny_truthy_bool->yg,tupleKind_room_in1->yt,behindInMarks->yw,wpAny_setField->za,Scope->zc,wpAny_rule->zq,wpAny_newObj_type->zx,wpAny_typeNameOfWhole_keyiter->a0b,assignEach->a0e,keywordEach->a0f,pyNext->a0g,swapsWith->a0h,storedH->a0j,Keyword->a0k,DictEntry->a0q,ExcBaseFacts->a0w,wpAny_typeNameOf_keyiter->a0x,wpAny_Call_method0_late->a0y,codeAny->a0X,codeAny_builtin->a1e,tupleKind->a1f,foldedSetIterable->a1j,rawInt->a1l,wpAny_seqItems->a1m,letOwnedTupleGo->a1v,wpAny_passesOwn->a1w,wpAny_callSpecial?_slot->a2c,wpAny_pyIter_list->a2f
open PySem.Heap renaming get?_push_of_some->cg,lt_size->gw,get?_push_size->iw,SameBut->ni,get?_update_self->a1k,ExtBut->a2g,MadeExcOf->a2w,size_push->a2x
open Nat renaming le_refl->dz,ne_of_lt->jc,lt_of_lt_of_le->jo,le_trans->qu,zero_le->ur,lt_irrefl->vq,le_of_lt->xu,lt_of_le_of_lt->yu,lt_trichotomy->zy,le_succ_of_le->a0o,le_succ->a0r,lt_succ_of_lt->a1i,ne_of_gt->a1n,le_of_eq->a2a,min_eq_left->a2p
open List renaming size_toArray->fj,length_map->gk,getElem?_eq_getElem->gV,mem_map->ig,map_cons->iz,mem_cons->jd,getElem?_eq_some_iff->jk,all_eq_true->jy,mem_of_getElem?->jz,map_map->kh,range->kj,mem_filter->nj,mem_cons_of_mem->ou,length_cons->qb,mem_singleton->qj,map_append->ql,mem_append_right->qz,getD->su,lookup_cons->ud,mem_append->uo,getElem_mem->ux,map_congr_left->vg,getElem?_map->vm,nodup_append->vo,nodup_cons->wj,mem_cons_self->wu,length_append->wz,mem_range->yc,lookup->yd,pairwise_iff_getElem->yp,length_filter_le->yq,getElem?_append_right->zf,all_cons->zj,filter_cons->zp,pairwise_map->a0a,getElem?_cons_zero->a0c,not_mem_nil->a0d,find?_cons->a0i,getElem?_append_left->a0p,replicate->a0s,nodup_nil->a0u,filter_cons_of_pos->a0z,filter_cons_of_neg->a0V,any_cons->a1a,Pairwise->a1c,append_nil->a1g,mem_append_left->a1p,take_length->a1r,cons_append->a1s,filter_sublist->a1u,drop_eq_getElem_cons->a1z,foldl_cons->a1D,mem_filterMap->a1F,take_succ->a2b,length->a2h,length_take->a2j,length_nil->a2m,map_nil->a2n,filter_map->a2r,filterMap_cons->a2t
open PySem.W renaming kitOne->iy,Frag->je,findIn->lg,nsIn->qg,fnOf->qx,keepIn->uf,Looks->ug,subIn->um,clsIn->wg,emptyDict->yh,kia_one->yj,excIn->yx,mg_of->zm,instObj->zu,typeIn->a0t,codeIn->a1o,plainGet->a1q,isFn->a1O,hasDictIn->a2d,Hook->a2k,hideAll->a2l,plainGet_of->a2u,callWith_K0->a2v,lookIn->a2y,callWith_K->a2K
open PyProof.Rows renaming seqObj->oh,IntsAre->a1b,get?_update_seq->a1x
open Array renaming length_toList->vf,getElem?_toList->a0l,getElem?_eq_some_iff->a0m,getElem?_eq_getElem->a1y
open Int renaming toNat_natCast->a0n,le_refl->a1t,emod_nonneg->a2s
namespace Law
open PySem PySem.W PyProof.Rows
abbrev zM(n:Nat):qm:=PySem.Challenge.pw_depot_k22_deeds_on_shelves.main.body.getD n (.Pass ⟨0,0,0,0⟩)
abbrev frQ:jt:={PySem.Challenge.pw_depot_k22_deeds_on_shelves with main:={PySem.Challenge.pw_depot_k22_deeds_on_shelves.main with body:=[zM 1,zM 2,zM 3,zM 4,zM 5,zM 6,zM 7,zM 9,zM 10,zM 11,zM 12,zM 13,zM 14,zM 16,zM 17,zM 18,zM 19,zM 21,zM 22,zM 23,zM 25,zM 26,zM 27,zM 28,zM 30,zM 31,zM 32,zM 33,zM 34,zM 35,zM 36,zM 37,zM 38,zM 39,zM 40,zM 41]}}
def frB{p:jt}{α:Type}{Yf:cu->α}{Ya:jj->α}{N:Nat}{g0:Bool}
  (e:opening p=plainProg p.main.scope.names)(hN:Nat.ble 600 N=ak)(f:∀s,fenceModules? p s=aj s)
  (h:∀(w:jj)(os:OsState),(topFrom treeTable p w N ⟨boot_heap w.params,#[],boot_drawn,boot_toks,os⟩).map (λs=>(openSeen q loose (importedModules p.main.body) Xt g0 s,Yf s))=aj (openGood q loose,Ya w)) :
  LeftO p q loose Xt Yf Ya N g0:=λw=>by
 obtain⟨⟨h1,gs,d,k,os⟩,e1,e'⟩:=a1h.mp (boot_open e hN f w);obtain⟨rfl,rfl,rfl,rfl⟩:h1=boot_heap w.params/\gs=#[]/\d=boot_drawn/\k=boot_toks:=by simpa using e'
 unfold openEnds;rw[e1];exact h w os
@[simp]def frX:cu->Bool:=λs=>xlAt frQ [] s&&recOk (RowW.records (OpenRow.toRowW (OpenLaw.row PySem.Challenge.rw_depot_k22_deeds_on_shelves))) s
end Law
local macro_rules
 | `(tactic| o_head $H)=>`(tactic| refine PySem.W.holds_open (q:=Law.frQ) (loose:=[]) (Xt:=Law.frX) (XP:=PySem.W.XL Law.frQ []) (Yf:=a2k.obs $H) (Ya:=a2k.val $H)
     (YP:=a2k.says $H) (N:=5778) ?hl (a2k.of $H) (a2k.keeps $H) (λs e=>PySem.W.xl_of s (Bool.and_eq_true_iff.mp e).1) PySem.W.XL.keeps (by rfl) (by rfl) (by rfl)
     (λs e=>PySem.W.recFacts_of (Bool.and_eq_true_iff.mp e).2) (by rfl) (by first|assumption|decide+kernel) (by decide+kernel) ⟨rfl,rfl,rfl,rfl,rfl,by decide+kernel⟩ ?hw ?hc)
open PySem PySem.W in
def Law.frW:OpenLaw.wellSaid PySem.Challenge.rw_depot_k22_deeds_on_shelves=ak:=by nofun
open PySem PySem.W in
def Law.frK(h0:∀{α:Type}(Yf:cu->α)(Ya:jj->α),LeftO (OpenLaw.row PySem.Challenge.rw_depot_k22_deeds_on_shelves).prog Law.frQ [] Law.frX Yf Ya 5778)
  (h1:∀YP d,WalkO Law.frQ [] (XL Law.frQ []) YP (OpenRow.toRowW (OpenLaw.row PySem.Challenge.rw_depot_k22_deeds_on_shelves)) d [] (λf vs=>PySem.call f vs)):OpenLaw.Holds PySem.Challenge.rw_depot_k22_deeds_on_shelves:=by
 w_on;refine PySem.W.holds_law Law.frW λsaid=>?_;k_head
 case hl=>exact h0 _ _
 case hw=>w_witness2
 exact h1 _ _
@[simp]def Law.frA:List Nat:=[2,3,15,22,23,24,25,28,35,36,37,40,47,48,49,52,59,60,61,64,71,72,73,76,83,84,85,88,95,96,97,100,102,103,105,106,107,109,110,112,113,114,116,117,119,120,121,123,124,126,127,128,130,131,133,134,135,137,138,140,141,142,144,145,147,148,149,151,152,154,155,156,158,159,161,162,163,165,166,168,169,170,172,173,175,176,184,185,187,188,190,191,192,194,195,197,198,199,201,202,204,205,206,208,209,211,212,213,215,216,218,219,220,222,223,225,226,227,229,230,232,233,234,237,238,239,241,242,244,245,246,248,249,251,252,253,255,256,258,259,260,261,262,263,264,267,269,270,272,273,274,276,277,279,280,281,284,285,286,289,290,291,293,294,296,297,298,300,301,303,304,305,307,308,310,311,312,314,315,317,318,319,322,323,324,327,328,329,331,332,334,335,336,339,340]
def Law.frE:∀P,Law.frA=(Law.frK.heap_1 P).map (·.1):=λ_=>by nofun
open PySem PySem.W in
def Law.frL:LeftO (OpenLaw.row PySem.Challenge.rw_depot_k22_deeds_on_shelves).prog Law.frQ [] Law.frX (Hook.obs (kHook Law.frK.heap_1 Law.frA Law.frE)) (Hook.val (kHook Law.frK.heap_1 Law.frA Law.frE)) 5778 :=
 Law.frB (by nofun) (by nofun) (λs=>by nofun) (λw os=>by nofun)
local macro_rules|`(tactic|omega)=>`(tactic|first|lia|omega (config := {}))
set_option tactic.hygienic false
namespace L2
open PySem PySem.Spec PyProof.Rows
variable{a b:bw}{o:Obj}{x:Str}
section
structure Tr(B:jm)(x:bw)(C fl:aq)(h:jm):Prop where
 ex:∃(o:Obj)(vs:Array aq)(T:bw)(oT:Obj)(ts:Array aq),h.get? x=aj o/\o.cls=C/\o.data=.fields vs/\vs[1]?=aj (.ref T)/\vs[2]?=aj .none/\B.get? T=au/\T≠x/\h.get? T=aj oT/\oT.data=.fields ts/\ts[3]?=aj fl
structure aeR(B:jm)(l:List Env)(x:bw)(C fl:aq)(h:jm):Prop where
 stays:B.StaysIn h
 new:B.get? x=au
 aE8:h.FunFrames B l
 tr:Tr B x C fl h
@[simp]def Fly(B:jm)(l:List Env)(x:bw)(C:aq)(h:jm):Prop:=aeR B l x C .none h
variable{i:Nat}{v:aq}
section
variable{M:Model}{A:jx}{s:cu}{B:jm}{env:Env}{outer:List Env}{x:bw}{fl:aq}
def aeR.fld{h:jm}(f:aeR B l x C fl h):∃o vs,h.get? x=aj o/\o.cls=C/\o.data=.fields vs/\vs[2]?=aj .none:=by
 obtain⟨o,vs,_,_,_,h1,h2,h3,_,h5,_⟩:=f.tr.ex;exact⟨o,vs,h1,h2,h3,h5⟩
def rC{h:jm}{vs:Array aq}(e:h.get? a=aj o)(d:o.data=.fields vs) :
  (h.update a (Obj.mapFields (·.setIfInBounds i v))).get? a=aj (Obj.mapFields (·.setIfInBounds i v) o)/\(Obj.mapFields (·.setIfInBounds i v) o).data=.fields (vs.setIfInBounds i v)/\(Obj.mapFields (·.setIfInBounds i v) o).cls=o.cls /\
  (∀b,b≠a->(h.update a (Obj.mapFields (·.setIfInBounds i v))).get? b=h.get? b):=by
 have d':=Obj.data_mapFields d (·.setIfInBounds i v);exact⟨a1k _ e (Obj.isFreed_of_fields d'),d',Obj.cls_mapFields _ _,λb hb=>Heap.get?_update_other _ _ (Ne.symm hb)⟩
def a1C{h:jm}{u:Obj}(e:h.get? a=aj o)(d:o.data=.fields vs)(e2:h.get? b=aj u)(n:∀ws,u.data≠.fields ws):b≠a:=λq=>by
 subst q;rw[e]at e2;cases e2;exact n vs d
def a90(f:aeR B l x C fl s.heap)(h:∀h',Fly B l x C h'->s.heap.UpToSlots h'->Q () {s with heap:=h' }):dg M A (setFlight (.ref x) au) Q E s:=by
 obtain⟨st,nw,fu,⟨o,vs,T,oT,ts,e1,e2,e3,e4,e5,e6,e7,e8,e9,e10⟩⟩:=f;unfold setFlight;refine bh (uq e1 e3 e4 ?_);rw[if_pos (by simp)];have l3:3<ts.size:=(a0m.mp e10).1;obtain⟨u1,u2,u3,u4⟩:=rC (i:=3) (v:=(au:Option bw).elim aq.none λf=>a1l f) e8 e9;refine za e8 e9 l3 (h _ ⟨λb u q=>?_,nw,fu.of_keeps λb u q n=>⟨u,(u4 b (a1C e8 e9 q n)).trans q,rfl⟩,⟨o,vs,T,_,_,(u4 x (Ne.symm e7)).trans e1,e2,e3,e4,e5,e6,e7,u1,u2,?_⟩⟩ λb u q n=>⟨u.slots,(u4 b (a1C e8 e9 q n)).trans q⟩)
 .exact(u4 b λz=>by subst z;rw[e6]at q;cases q).trans (st b u q)
 .simp[l3]
def ah4{hadNext:Bool}{vs:Array aq}(hfr:A.frames=aj (env::outer))(hf:env.frame=aj L)(st:B.StaysIn s.heap)(nw:B.get? x=au)(fu:s.heap.FunFrames B (env::outer))(e1:s.heap.get? x=aj o)(e2:o.cls=C)(e3:o.data=.fields vs)(e4:1<vs.size)(e5:vs[2]?=aj .none)
  (h:∀h',aeR B (env::outer) x C (a1l L) h'->s.heap.UpToSlots h'->Q () {s with heap:=h' }) :
  dg M A (do let a ←frameOf env;let pl ←entryPlaceOf L hadNext;let b ←EntryCells.newEntry head a .none (a1l L) .none pl;setField (.ref x) 1 b) Q E s:=by
 have nf:x∉(env::outer).filterMap (·.frame):=λm=>by
  obtain⟨_,u,hu,hn⟩:=fu.mem m;rw[e1]at hu;cases hu;exact hn vs e3
 refine bh (wpAny_frameOf_fun hfr fu hf λk so=>bh (wpAny_entryPlaceOf λpl hpl=>?_));unfold EntryCells.newEntry newFields;refine bh (zx ?_ (hpl.sizeOk5 _ _ _ _ _));have k1:k.get? x=aj o:=(so.2.1 x nf).trans e1;have tne:k.objs.size≠x:=λz=>absurd (gw k1) (by rw[z];exact vq _);have kB:∀b u,B.get? b=aj u->k.get? b=aj u:=λb u q=>(so.2.1 b λm=>by rw[(fu.mem m).1]at q;cases q).trans (st b u q);generalize hT:({cls:=.type "traceback",dict:=none,data:=.fields ([head,.ref L,.none,a1l L,.none]++(if pl.isEmpty then a0s 6 aq.none else pl)).toArray}:Obj)=oT;have p1:(k.push oT).get? x=aj o:=cg _ k1;obtain⟨u1,u2,u3,u4⟩:=rC (i:=1) (v:=.ref k.objs.size) p1 e3;have keep:∀b u,b≠x->k.get? b=aj u->((k.push oT).update x (Obj.mapFields (·.setIfInBounds 1 (.ref k.objs.size)))).get? b=aj u:=λb u n q=>(u4 b n).trans (cg _ q)
 have pT:(k.push oT).get? k.objs.size=aj oT:=by
  subst hT;exact iw k rfl
 refine za p1 e3 e4 (h _ ⟨λb u q=>keep b u (λz=>by subst z;rw[nw]at q;cases q) (kB b u q),nw,fu.of_keeps λb u q n=>?_,⟨_,_,k.objs.size,oT,_,u1,u3.trans e2,u2,?_,?_,?_,tne,(u4 _ tne).trans pT,by rw[←hT],?_⟩⟩ λb u q n=>?_)
 .obtain⟨sl,z⟩:=so.2.2 b u q;exact⟨_,keep b _ (a1C e1 e3 q n) z,rfl⟩
 .simp[e4]
 .rw[Array.getElem?_setIfInBounds_ne (by decide)];exact e5
 .cases q:B.get? k.objs.size with
  |none=>rfl
  |some u=>exact absurd (gw (kB _ u q)) (vq _)
 .first|(simp;done)|(rcases hpl with rfl|⟨_,_,_,_,_,_,_,rfl⟩<;>simp)
 .obtain⟨sl,z⟩:=so.2.2 b u q;exact⟨sl,keep b _ (a1C e1 e3 q n) z⟩
def an9(hfr:A.frames=aj (env::outer))(hf:env.frame=aj L)(f:Fly B (env::outer) x C s.heap)(h:∀h',aeR B (env::outer) x C (a1l L) h'->s.heap.UpToSlots h'->Q () {s with heap:=h' }):dg M A (noteFrame (.ref x) env) Q E s:=by
 obtain⟨st,nw,fu,⟨o,vs,T,oT,ts,e1,e2,e3,e4,e5,e6,e7,e8,e9,e10⟩⟩:=f;unfold noteFrame;simp only[hf];refine bh (uq e1 e3 e4 ?_);rw[if_pos (by simp)];refine bh (uq e8 e9 e10 ?_);rw[if_neg (by simp[a1l])];have l3:3<ts.size:=(a0m.mp e10).1;obtain⟨u1,u2,u3,u4⟩:=rC (i:=3) (v:=.none) e8 e9;refine bh (za e8 e9 l3 ?_);refine ah4 hfr hf (λb u q=>(u4 b λz=>by subst z;rw[e6]at q;cases q).trans (st b u q)) nw (fu.of_keeps λb u q n=>⟨u,(u4 b (a1C e8 e9 q n)).trans q,rfl⟩) ((u4 x (Ne.symm e7)).trans e1) e2 e3 (a0m.mp e4).1 e5 λh' f' up=>h h' f' ?_;exact λb u q n=>up b u ((u4 b (a1C e8 e9 q n)).trans q) n
def aeR.tail{h:jm}(f:aeR B (env::outer) x C fl h):aeR B outer x C fl h:=by
 obtain⟨st,nw,⟨_,_,fu⟩,tr⟩:=f;exact⟨st,nw,fu,tr⟩
def asF(hfr:A.frames=aj (env::outer))(hf:env.frame=aj L)(f:Fly B (env::outer) x C s.heap)(h:∀h',Fly B outer x C h'->s.heap.UpToSlots h'->Q () {s with heap:=h' }):dg M A (leaving env (.ref x)) Q E s:=by
 unfold leaving;refine bh (an9 hfr hf f λh1 f1 up1=>a90 f1 λh2 f2 up2=>?_);exact h h2 f2.tail (up1.trans up2)
def akR{h0:jm}(hfr:A.frames=aj (env::outer))(hf:env.frame=aj L)(st:B.StaysIn h0)(fu:h0.FunFrames B (env::outer))(hm:a2w h0 s.heap x C us)(h:∀h',Fly B outer x C h'->s.heap.UpToSlots h'->Q () {s with heap:=h' }):dg M A (leaving env (.ref x)) Q E s:=by
 obtain⟨t,e1,_,_⟩:=hm.there;unfold leaving noteFrame;simp only[hf];refine bh (bh (uq (vs:=#[.ref t,.none,.none,.none,.bool ao,.none]) (i:=1) e1 rfl rfl ?_));rw[if_neg (by simp)]
 have nw:B.get? x=au:=by
  cases q:B.get? x with
  |none=>rfl
  |some u=>have:=st x u q;rw[hm.new]at this;cases this
 refine ah4 hfr hf (λb u q=>hm.keeps b u (st b u q)) nw (fu.of_keeps λb u q _=>⟨u,hm.keeps b u q,rfl⟩) e1 rfl rfl (by simp) rfl λh1 f1 up1=>a90 f1 λh2 f2 up2=>?_;exact h h2 f2.tail (up1.trans up2)
end
abbrev abZ(A:jx)(h:jm):Prop:=A.handled=au∨∃x o vs,A.handled=aj (.ref x)/\h.get? x=aj o/\o.data=.fields vs/\vs[2]?=aj .none
def ac0:entryFor table "proto.unchain"=aj Builtin.«proto.unchain» :=entryFor_of_fast (by nofun)
section
variable{prog:jt}{w:jj}{A:jx}{E:aq->cu->Prop}{s:cu}
def apU{α:Type}{Q:α->cu->Prop}{oa:Obj}{ws:Array aq}(hq:abZ A s.heap)(ea:s.heap.get? a=aj oa)(da:oa.data=.fields ws)(la:2<ws.size)(na:∀x,A.handled=aj (.ref x)->x≠a)
  (h:∀h',(∀b,b≠a->h'.get? b=s.heap.get? b)->(∃o,h'.get? a=aj o/\o.cls=oa.cls)->E (.ref a) {s with heap:=h' }):dg (dw prog w) A (raiseNew (.ref a):Sem α) Q E s:=by
 unfold raiseNew;refine bh (wpAny_handled ?_);rcases hq with hn|⟨x,o,vs,hx,ex,dx,vx⟩
 .rw[hn];exact bh (cj (wpAny_throw (h s.heap (λ_ _=>rfl) ⟨oa,ea,rfl⟩)))
 .rw[hx];have ne:=na x hx;show dg (dw prog w) _ (if((aq.ref x)!=(aq.ref a))=ak then _ else _) _ _ _;rw[if_pos (by simpa using ne)];refine bh (qp (wpAny_runValue (a1e ac0 ?_)));show dg (dw prog w) _ (field (.ref x) 2 >>= _) _ _ _;refine bh (uq ex dx vx ?_);show dg (dw prog w) _ (if((aq.none:aq)==aq.none)=ak then _ else _) _ _ _;rw[if_pos (by decide)];refine bh (cj (cj ?_));obtain⟨u1,u2,u3,u4⟩:=rC (i:=2) (v:=.ref x) ea da;show dg (dw prog w) _ (setField (.ref a) 2 (.ref x) >>= _) _ _ _;exact bh (za ea da la (wpAny_throw (h _ u4 ⟨_,u1,u3⟩)))
def sO{α:Type}{Q:α->cu->Prop}(hq:abZ A s.heap)(h:∀a h',(∀b o,s.heap.get? b=aj o->h'.get? b=aj o)->(∃o,h'.get? a=aj o/\o.cls=.type "StopIteration")->E (.ref a) {s with heap:=h' }) :
  dg (dw prog w) A (newExc (.type "StopIteration") [] >>= λe=>(raiseNew e:Sem α)) Q E s:=by
 refine bh ?_;unfold newExc newTuple;refine bh (zx (bh (wpAny_of_eq (a:=Value.none) (by simp only[firstArgMember];rfl) (zx ?_ (by size_fits)))) (by size_fits));generalize hh:s.heap.push {cls:=.type "tuple",data:=.seq ([]:List aq).toArray}=h1;generalize ho:({cls:=.type "StopIteration",data:=.fields (#[.ref s.heap.objs.size,.none,.none,.none,.bool ao,.none]++ownMembersOf (.type "StopIteration") [])}:Obj)=o1;have k1:∀b o,s.heap.get? b=aj o->(h1.push o1).get? b=aj o:=λb o e=>cg _ (hh ▸ cg _ e)
 have ea:(h1.push o1).get? h1.objs.size=aj o1:=by
  subst ho;exact iw h1 rfl
 have old:∀b o,s.heap.get? b=aj o->b≠h1.objs.size:=λb o e z=>by
  have l1:b<h1.objs.size:=by
   rw[←hh,a2x];exact a1i (gw e)
  exact absurd l1 (by rw[z];exact vq _)
 refine apU (ws:=#[.ref s.heap.objs.size,.none,.none,.none,.bool ao,.none]++ownMembersOf (.type "StopIteration") []) ?_ ea (by rw[←ho]) (by simp[ownMembersOf]) (λx hx=>?_) λh' k c=>h h1.objs.size h' (λb o e=>(k b (old b o e)).trans (k1 b o e)) ?_
 .rcases hq with z|⟨x,o,vs,a1,a2,a3⟩
  .exact .inl z
  .exact .inr ⟨x,o,vs,a1,k1 _ _ a2,a3⟩
 .rcases hq with z|⟨x',o,vs,a1,a2,a3⟩
  .rw[z]at hx;cases hx
  .rw[a1]at hx;cases hx;exact old _ _ a2
 .obtain⟨o,e,c⟩:=c;exact⟨o,e,by rw[c,←ho]⟩
def vY{T id:String}{b:Builtin}(slot:Slot T (Str.ofString "__next__") id)(entry:entryFor table id=aj b)(hT:s.TypeIs (.ref it) T)(args:argsOk id ⟨[.ref it],[]⟩)
  (hb:dg (dw prog w) A.in1 (b ⟨[.ref it],[]⟩) (λ_ _=>False) (λe s'=>∃a o,e=.ref a/\s'.heap.get? a=aj o/\o.cls=.type "StopIteration"/\Q au s') s):dg (dw prog w) A (a0g (.ref it)) Q E s:=by
 unfold a0g;refine bh (wpAny_attempt (a2c hT slot (xq slot hT entry (qy hb (λ_ _ z=>z.elim) λe s' z=>?_) args)));obtain⟨a,o,rfl,e1,e2,q⟩:=z;exact bh (wpAny_isInstance (T:="StopIteration") (b:=true) ⟨o,e1,e2⟩ isSubtype_stop (cj q))
def a91(hq:abZ A s.heap)(e:s.heap.get? it=aj o)(d:o.data=.fields vs)(l:vs[2]?≠aj .none):abZ A (s.heap.update it (Obj.mapFields (·.setIfInBounds i v))):=by
 rcases hq with z|⟨x,ox,ws,a1,a2,a3,a4⟩
 .exact .inl z
 .refine .inr ⟨x,ox,ws,a1,?_,a3,a4⟩
  have ne:x≠it:=λz=>by
   subst z;rw[e]at a2;cases a2;rw[d]at a3;cases a3;exact l a4
  exact((rC e d).2.2.2 x ne).trans a2
def apV{items:Array aq}(hq:abZ A s.heap)(hit:s.heap.IsListIter it l i)(hl:s.heap.IsList l items)(hx:items[i]?=au)
  (h:∀h',a2g it s.heap h'->Q au {s with heap:=h' }):dg (dw prog w) A (a0g (.ref it)) Q E s:=by
 obtain⟨o,e1,c1,d1⟩:=id hit;obtain⟨ol,e2,_,nl,d2⟩:=hl;refine vY slot_listiter_next entry_listiter_next hit.typeIs (args_listiter_next _) ?_;show dg (dw prog w) _ (field (.ref it) 0 >>= _) _ _ s;refine bh (uq e1 d1 (x:=.ref l) rfl ?_);show dg (dw prog w) _ (field (.ref it) 1 >>= _) _ _ s;refine bh (uq e1 d1 (x:=.int i 0) rfl ?_);show dg (dw prog w) _ (seqItems? (.ref l) >>= _) _ _ s;refine bh (a1m e2 d2 ?_);simp only[hx,a0n];refine bh (zq (bh (za e1 d1 (by simp) ?_)));refine sO (A:=A.in1) (a91 hq e1 d1 (by simp)) λa h' k c=>?_;obtain⟨oa,ea,ca⟩:=c;exact⟨a,oa,rfl,ea,ca,h h' λb ob n e=>k b ob (((rC e1 d1).2.2.2 b n).trans e)⟩
def asG{items:Array aq}(hq:abZ A s.heap)(hit:s.heap.IsTupleIter it l i)(hl:s.heap.IsTuple l items)(hx:items[i]?=au)
  (h:∀h',a2g it s.heap h'->Q au {s with heap:=h' }):dg (dw prog w) A (a0g (.ref it)) Q E s:=by
 obtain⟨o,e1,c1,d1⟩:=id hit;obtain⟨ol,e2,_,nl,d2⟩:=hl;refine vY F.slot_tuple_iterator_next F.entry_tuple_iterator_next hit.typeIs (F.args_tuple_iterator_next_1 _) ?_;show dg (dw prog w) _ (field (.ref it) 0 >>= _) _ _ s;refine bh (uq e1 d1 (x:=.ref l) rfl ?_);show dg (dw prog w) _ (field (.ref it) 1 >>= _) _ _ s;refine bh (uq e1 d1 (x:=.int i 0) rfl ?_);show dg (dw prog w) _ (seqItems? (.ref l) >>= _) _ _ s;refine bh (a1m e2 d2 ?_);simp only[hx,a0n];refine bh (zq (bh (za e1 d1 (by simp) ?_)));refine sO (A:=A.in1) (a91 hq e1 d1 (by simp)) λa h' k c=>?_;obtain⟨oa,ea,ca⟩:=c;exact⟨a,oa,rfl,ea,ca,h h' λb ob n e=>k b ob (((rC e1 d1).2.2.2 b n).trans e)⟩
def asH{x left step:Int}(hq:abZ A s.heap)(hit:IsRangeIter s.heap it x left step)(hleft:left<=0)
  (h:∀h',a2g it s.heap h'->Q au {s with heap:=h' }):dg (dw prog w) A (a0g (.ref it)) Q E s:=by
 refine vY F.slot_range_iterator_next F.entry_range_iterator_next ⟨_,hit,rfl⟩ (F.args_range_iterator_next_1 _) ?_;show dg (dw prog w) _ (field (.ref it) 0 >>= _) _ _ s;refine bh (uq hit rfl (i:=0) rfl ?_);show dg (dw prog w) _ (field (.ref it) 1 >>= _) _ _ s;refine bh (uq hit rfl (i:=1) rfl ?_);show dg (dw prog w) _ (field (.ref it) 2 >>= _) _ _ s;refine bh (uq hit rfl (i:=2) rfl ?_);show dg (dw prog w) _ (if left<=0 then _ else _) _ _ s;rw[if_pos hleft];refine bh (zq (bh ?_));refine sO (A:=A.in1) hq λa h' k c=>?_;obtain⟨oa,ea,ca⟩:=c;exact⟨a,oa,rfl,ea,ca,h h' λb ob n e=>k b ob e⟩
def apW{t:Tok}(hq:abZ A s.heap)(hit:s.heap.IsStrIter it "str_ascii_iterator" x t i)(hx:x.cps[i]?=au)
  (h:∀h',a2g it s.heap h'->Q au {s with heap:=h' }):dg (dw prog w) A (a0g (.ref it)) Q E s:=by
 obtain⟨o,e1,c1,d1⟩:=id hit;refine vY F.slot_str_ascii_iterator_next F.entry_str_ascii_iterator_next hit.typeIs (F.args_str_ascii_iterator_next_1 _) ?_;show dg (dw prog w) _ (field (.ref it) 0 >>= _) _ _ s;refine bh (uq e1 d1 (x:=.str x t) rfl ?_);show dg (dw prog w) _ (field (.ref it) 1 >>= _) _ _ s;refine bh (uq e1 d1 (x:=.int i 0) rfl ?_);simp only[hx,a0n];refine bh (zq (bh (za e1 d1 (by simp) (bh (wpAny_letGo ?_)))));refine sO (A:=A.in1) (a91 hq e1 d1 (by simp)) λa h' k c=>?_;obtain⟨oa,ea,ca⟩:=c;exact⟨a,oa,rfl,ea,ca,h h' λb ob n e=>k b ob (((rC e1 d1).2.2.2 b n).trans e)⟩
def apY{t:Tok}(hq:abZ A s.heap)(hit:s.heap.IsStrIter it "str_iterator" x t i)(hx:x.cps[i]?=au)
  (h:∀h',a2g it s.heap h'->Q au {s with heap:=h' }):dg (dw prog w) A (a0g (.ref it)) Q E s:=by
 obtain⟨o,e1,c1,d1⟩:=id hit;refine vY F.slot_str_iterator_next F.entry_str_iterator_next hit.typeIs (F.args_str_iterator_next_1 _) ?_;show dg (dw prog w) _ (field (.ref it) 0 >>= _) _ _ s;refine bh (uq e1 d1 (x:=.str x t) rfl ?_);show dg (dw prog w) _ (field (.ref it) 1 >>= _) _ _ s;refine bh (uq e1 d1 (x:=.int i 0) rfl ?_);simp only[hx,a0n];refine bh (zq (bh (za e1 d1 (by simp) (bh (wpAny_letGo ?_)))));refine sO (A:=A.in1) (a91 hq e1 d1 (by simp)) λa h' k c=>?_;obtain⟨oa,ea,ca⟩:=c;exact⟨a,oa,rfl,ea,ca,h h' λb ob n e=>k b ob (((rC e1 d1).2.2.2 b n).trans e)⟩
end
end
section
@[simp]def Key:=Sum Int Str
abbrev a4Q:Key->aq->Bool
 |.inl k,v=>aq.isInt k v
 |.inr x,v=>aq.isStrOf x v
abbrev aPI(w:jj):Key->Int
 |.inl k=>hashInt k
 |.inr x=>hashStr w x
def d9:∀{k:Key}{v:aq},a4Q k v=ak->(∃i t,k=Sum.inl i/\v=aq.int i t)∨(∃x t,k=Sum.inr x/\v=aq.str x t)
 |.inl i,v,h=>by
  obtain⟨t,e⟩:=Value.isInt_shape (k:=i) (v:=v) h;exact .inl ⟨i,t,rfl,e⟩
 |.inr x,v,h=>by
  obtain⟨t,e⟩:=Value.isStrOf_shape (x:=x) (v:=v) h;exact .inr ⟨x,t,rfl,e⟩
def apZ(i:Int)(t:Tok):a4Q (.inl i) (.int i t)=ak:=by simp[a4Q,aq.isInt]
def aq0(x:Str)(t:Tok):a4Q (.inr x) (.str x t)=ak:=by simp[a4Q,aq.isStrOf]
def aE9(a b:Int):decide ((Sum.inl a:Key)=Sum.inl b)=(a==b):=by
 by_cases e:a=b
 .subst e;simp
 .have h:¬ (Sum.inl a:Key)=Sum.inl b:=λq=>e (Sum.inl.inj q);rw[decide_eq_false h];exact(beq_eq_false_iff_ne.mpr e).symm
def aEA(a b:Str):decide ((Sum.inr a:Key)=Sum.inr b)=decide (a=b):=by
 by_cases e:a=b
 .subst e;simp
 .have h:¬ (Sum.inr a:Key)=Sum.inr b:=λq=>e (Sum.inr.inj q);rw[decide_eq_false h,decide_eq_false e]
def aEB(a:Int)(b:Str):decide ((Sum.inl a:Key)=Sum.inr b)=ao:=decide_eq_false (λq=>nomatch q)
def aEC(a:Str)(b:Int):decide ((Sum.inr a:Key)=Sum.inl b)=ao:=decide_eq_false (λq=>nomatch q)
abbrev aK(prog:jt)(w:jj):PySem.KeyKind prog w Key where
 is:=a4Q
 hash:=aPI w
 inj:=λv a b ha hb=>by
  rcases d9 ha with⟨i,t,rfl,rfl⟩|⟨x,t,rfl,rfl⟩
  .rcases d9 hb with⟨j,u,rfl,e⟩|⟨y,u,rfl,e⟩
   .injection e with e1 _;rw[e1]
   .exact nomatch e
  .rcases d9 hb with⟨j,u,rfl,e⟩|⟨y,u,rfl,e⟩
   .exact nomatch e
   .injection e with e1 _;rw[e1]
 byValue:=λk v h=>by
  rcases d9 h with⟨i,t,rfl,rfl⟩|⟨x,t,rfl,rfl⟩<;>rfl
 pyHash:=λhv h=>by
  rcases d9 hv with⟨i,t,rfl,rfl⟩|⟨x,t,rfl,rfl⟩
  .exact wpAny_pyHash_int h
  .exact wpAny_pyHash_str h
 eqBool:=λhu hv h=>by
  rcases d9 hu with⟨i,t,rfl,rfl⟩|⟨x,t,rfl,rfl⟩
  .rcases d9 hv with⟨j,u,rfl,rfl⟩|⟨y,u,rfl,rfl⟩
   .rw[aE9]at h;exact wpAny_eqBool_int h
   .rw[aEB]at h;exact SeqAt.EqAt.int_str i t y u _ _ _ _ h
  .rcases d9 hv with⟨j,u,rfl,rfl⟩|⟨y,u,rfl,rfl⟩
   .rw[aEC]at h;exact SeqAt.EqAt.str_int x t j u _ _ _ _ h
   .rw[aEA]at h;exact wpAny_eqBool_str h
 «strs» :=λk x t v h=>by
  rcases d9 h with⟨i,u,rfl,e⟩|⟨y,u,rfl,e⟩
  .exact nomatch e
  .injection e with e1 _;subst e1;cases v<;>rfl
def a7N(prog:jt)(w:jj)(i:Int)(t:Tok):(aK prog w).is (.inl i) (.int i t)=ak:=apZ i t
def ah5(prog:jt)(w:jj)(x:Str)(t:Tok):(aK prog w).is (.inr x) (.str x t)=ak:=aq0 x t
end
section
inductive V where
 |non|bl (b:Bool)|int (i:Int)|str (x:Str)|byt (b:Array UInt8)|flt (b:UInt64)|ref (a:bw)|ty (n:String)
 deriving DecidableEq
abbrev RelV:V->aq->Prop
 |.non,u=>u=aq.none
 |.bl b,u=>u=aq.bool b
 |.int i,u=>∃t,u=aq.int i t
 |.str x,u=>∃t,u=aq.str x t
 |.byt b,u=>∃t,u=aq.bytes b t
 |.flt b,u=>∃t,u=aq.float b t
 |.ref a,u=>u=aq.ref a
 |.ty n,u=>u=aq.type n
@[simp]def Vals:List V->List aq->Prop:=Paired RelV
def Vals.length{xs:List V}{us:List aq}(r:Vals xs us):xs.length=us.length:=Paired.length r
def Vals.get:∀{xs:List V}{us:List aq}{i:Nat}{x:V},Vals xs us->xs[i]?=aj x->∃u,us[i]?=aj u/\RelV x u
 |_,_,_,_,.nil,e=>by simp at e
 |_,_,0,_,.cons r _,e=>by simp at e;subst e;exact⟨_,rfl,r⟩
 |_,_,i+1,x,.cons _ t,e=>by
  obtain⟨u,h1,h2⟩:=Vals.get (i:=i) (x:=x) t (by simpa using e);exact⟨u,by simpa using h1,h2⟩
def Vals.append:∀{xs ys:List V}{us ws:List aq},Vals xs us->Vals ys ws->Vals (xs++ys) (us++ws)
 |_,_,_,_,.nil,s=>s
 |_,_,_,_,.cons r t,s=>.cons r (Vals.append t s)
abbrev xH:Option V->Option aq->Prop
 |some v,aj u=>RelV v u
 |none,au=>True
 |_,_=>False
abbrev KV{κ:Type}:List (κ×V)->List (κ×aq)->Prop:=Paired λ(p:κ×V)(q:κ×aq)=>p.1=q.1/\RelV p.2 q.2
abbrev kV:Key->V
 |.inl i=>.int i
 |.inr x=>.str x
inductive HO where
 |lst (xs:List V)
 |tup (xs:List V)
 |dK (kvs:List (Key×V))|dT (kvs:List (List Key×V))
 |set (S:Int->Bool) (n:Nat)
 |ins (C dx:bw) (fs:List (Str×V))
 |own (x:bw)
 |xd (fs:List (Str×V))
 |met (f x:bw)
 |rng (lo hi:Int)
 |jD (o:Obj) (u:HO)
 |tbl (ps:Array aq)
 |ext (φ:jm->Prop)
@[simp]def Hp:=Addr->Option HO
abbrev upd(H:Hp)(a:bw)(o:HO):Hp:=λb=>if b=a then aj o else H b
def aM{o:HO}:upd H a o a=aj o:=by unfold upd;rw[if_pos rfl]
def bA{o:HO}(h:b≠a):upd H a o b=H b:=by unfold upd;rw[if_neg h]
def asI{H:Hp}{o u:HO}(h:H a=aj o)(h':H b=aj u)(d:o≠u):a≠b:=by
 intro e;subst e;rw[h]at h';exact d (jf.inj h')
def nR{H:Hp}{o:HO}(h:H a=aj o)(h':H b=au):a≠b:=by
 intro e;subst e;rw[h]at h';cases h'
section
variable(P:jt)(w:jj)
abbrev gZ(H:Hp)(h:jm)(a:bw):HO->Prop
 |.lst xs=>xs.length<=dh/\∃(its:List aq)(n:Nat),Vals xs its/\h.get? a=aj {cls:=.type "list",data:=.seq its.toArray n}
 |.tup xs=>xs.length<=dh/\∃its:List aq,Vals xs its/\IsTup h a its.toArray
 |.dK kvs=>kvs.length<=dh/\(a==qd)=ao/\∃vs,KV kvs vs/\h.DictOf (aK P w) a vs
 |.dT kvs=>kvs.length<=dh/\(a==qd)=ao/\∃xs:List (List Key×bw×aq),
   Paired (λ(p:List Key×V)(q:List Key×bw×aq)=>p.1=q.1/\H q.2.1=aj (.tup (p.1.map kV))/\RelV p.2 q.2.2) kvs xs /\
   ∃o es ep,h.get? a=aj o/\o.ExactDict/\o.data=.dict es ep/\es.toList=xs.map (entryOfKey (a1f (aK P w)))/\(xs.map (·.1)).Nodup
 |.set S n=>h.SetOf (intKind P w) a S n
 |.ins C dx fs=>H dx=aj (.own a)/\fs.length<=1000/\dx≠a/\h.get? a=aj (zu C dx) /\
   ∃mA,h.Ns1 dx mA/\(∀f,xH (fs.lookup f) (mA f))/\PySem.Within mA (fs.map (·.1))
 |.own _=>∃o,h.get? a=aj o
 |.xd fs=>∃mA,h.Ns1 a mA/\∀f,xH (fs.lookup f) (mA f)
 |.rng lo hi=>∃t u v,h.get? a=aj {cls:=.type "range",data:=.fields #[.int lo t,.int hi u,.int 1 v]}
 |.jD o u=>h.get? a=aj o/\gZ H h a u
 |.tbl ps=>h.get? a=aj {cls:=.none,data:=.fields ps}
 |.met f x=>h.get? a=aj (PySem.W.methodObj (.ref f) (.ref x))
 |.ext φ=>φ h/\(∃o,h.get? a=aj o)/\∀h1 h2:jm,φ h1->(∀o,h1.get? a=aj o->h2.get? a=aj o)->φ h2
abbrev HOk(H:Hp)(h:jm):Prop:=∀a o,H a=aj o->gZ P w H h a o
end
section
variable{w:jj}{h h':jm}{a:bw}{o:HO}
def gZ.lt(x:gZ P w H h a o):a<h.objs.size:=by
 cases o with
 |lst xs=>obtain⟨_,_,_,_,e⟩:=x;exact gw e
 |tup xs=>obtain⟨_,_,_,p⟩:=x;exact p.lt
 |dK kvs=>obtain⟨_,_,_,_,o,_,_,e,_⟩:=x;exact gw e
 |dT kvs=>obtain⟨_,_,_,_,o,_,_,e,_⟩:=x;exact gw e
 |set S n=>obtain⟨o,_,_,_,e,_⟩:=x;exact gw e
 |ins C dx fs=>obtain⟨_,_,_,e,_⟩:=x;exact gw e
 |own y=>obtain⟨_,e⟩:=x;exact gw e
 |xd fs=>obtain⟨_,⟨_,_,_,e,_⟩,_⟩:=x;exact gw e
 |rng lo hi=>obtain⟨_,_,_,e⟩:=x;exact gw e
 |jD ob u=>obtain⟨e,_⟩:=x;exact gw e
 |tbl ps=>exact gw (show h.get? a=aj _ from x)
 |met f y=>exact gw (show h.get? a=aj _ from x)
 |ext φ=>obtain⟨_,⟨_,e⟩,_⟩:=x;exact gw e
def Paired.aeS{α β:Type}{F G:α->β->Prop}:∀{l₁:List α}{l₂:List β},Paired F l₁ l₂->(∀a b,F a b->G a b)->Paired G l₁ l₂
 |_,_,.nil,_=>.nil
 |_,_,.cons r t,f=>.cons (f _ _ r) (Paired.aeS t f)
def gZ.stay(x:gZ P w H h a o)(k:∀b u,(b=a∨H b=aj (.own a))->h.get? b=aj u->h'.get? b=aj u)
  (ho:∀b,H b=aj (.own a)->H' b=aj (.own a))(ht:∀b xs,H b=aj (.tup xs)->H' b=aj (.tup xs)):gZ P w H' h' a o:=by
 induction o with
 |lst xs=>obtain⟨z,its,n,r,e⟩:=x;exact⟨z,its,n,r,k _ _ (.inl rfl) e⟩
 |tup xs=>obtain⟨z,its,r,ob,e,c⟩:=x;exact⟨z,its,r,ob,k _ _ (.inl rfl) e,c⟩
 |dK kvs=>obtain⟨z,y,vs,r,ob,es,ep,e,c⟩:=x;exact⟨z,y,vs,r,ob,es,ep,k _ _ (.inl rfl) e,c⟩
 |dT kvs =>
  obtain⟨z,y,xs,r,ob,es,ep,e,c⟩:=x;exact⟨z,y,xs,Paired.aeS r λp q z=>⟨z.1,ht _ _ z.2.1,z.2.2⟩,ob,es,ep,k _ _ (.inl rfl) e,c⟩
 |set S n=>obtain⟨ob,es,ep,t,e,c⟩:=x;exact⟨ob,es,ep,t,k _ _ (.inl rfl) e,c⟩
 |ins C dx fs =>
  obtain⟨d,z,ne,e,mA,⟨od,es,ep,e2,c⟩,r⟩:=x;exact⟨ho _ d,z,ne,k _ _ (.inl rfl) e,mA,⟨od,es,ep,k _ _ (.inr d) e2,c⟩,r⟩
 |own y=>obtain⟨ob,e⟩:=x;exact⟨ob,k _ _ (.inl rfl) e⟩
 |xd fs=>obtain⟨mA,⟨od,es,ep,e,c⟩,r⟩:=x;exact⟨mA,⟨od,es,ep,k _ _ (.inl rfl) e,c⟩,r⟩
 |rng lo hi=>obtain⟨t,u,v,e⟩:=x;exact⟨t,u,v,k _ _ (.inl rfl) e⟩
 |jD ob u ih=>obtain⟨e,q⟩:=x;exact⟨k _ _ (.inl rfl) e,ih q⟩
 |tbl ps =>
  have e:h.get? a=aj {cls:=.none,data:=.fields ps}:=x;show h'.get? a=aj {cls:=.none,data:=.fields ps};exact k a _ (.inl rfl) e
 |met f y =>
  have e:h.get? a=aj (PySem.W.methodObj (.ref f) (.ref y)):=x;show h'.get? a=aj (PySem.W.methodObj (.ref f) (.ref y));exact k a _ (.inl rfl) e
 |ext φ=>obtain⟨p,⟨o,e⟩,st⟩:=x;exact⟨st _ _ p λo q=>k _ _ (.inl rfl) q,⟨o,k _ _ (.inl rfl) e⟩,st⟩
def HOk.lt(x:HOk P w H h)(e:H a=aj o):a<h.objs.size:=(x a o e).lt
def HOk.fresh(x:HOk P w H h)(e:h.objs.size<=a):H a=au:=by
 cases q:H a with
 |none=>rfl
 |some u=>exact absurd (jo (x.lt q) e) (vq _)
def HOk.kept(x:HOk P w H h)(k:∀b u,h.get? b=aj u->h'.get? b=aj u):HOk P w H h':=λa o e =>
 (x a o e).stay (λb u _ q=>k b u q) (λ_ q=>q) λ_ _ q=>q
def HOk.laid(x:HOk P w H h)(k:∀b u,h.get? b=aj u->h'.get? b=aj u)(hp:h.objs.size<=a)(new:gZ P w (upd H a o) h' a o):HOk P w (upd H a o) h':=λb u e=>by
 have hn:=x.fresh hp;by_cases hb:b=a
 .subst hb;rw[aM]at e;cases e;exact new
 .rw[bA hb]at e;exact(x b u e).stay (λc v _ q=>k c v q) (λc q=>by rw[bA (nR q hn)];exact q) λc xs q=>by rw[bA (nR q hn)];exact q
end
abbrev Rd(H:Hp)(a:bw)(u:HO):Prop:=H a=aj u∨∃o,H a=aj (.jD o u)
def Rd.of(h:H a=aj u):Rd H a u:=.inl h
def Rd.ok{w:jj}{h:jm}(r:Rd H a u)(x:HOk P w H h):gZ P w H h a u:=by
 rcases r with r|⟨o,r⟩
 .exact x a u r
 .obtain⟨_,q⟩:=x a _ r;exact q
abbrev Mut:Option HO->Prop
 |some (.lst _)=>True
 |some (.dK _)=>True
 |some (.dT _)=>True
 |some (.set _ _)=>True
 |some (.ins _ _ _)=>True
 |some (.ext _)=>True
 |_=>False
section
variable{w:jj}{h h':jm}{x:bw}
def HOk.write(ok:HOk P w H h)(mu:Mut (H x))(he:e=x∨H e=aj (.own x))(k:∀b u,b≠e->h.get? b=aj u->h'.get? b=aj u)(heo:∃u,h'.get? e=aj u)
  (new:gZ P w (upd H x o') h' x o'):HOk P w (upd H x o') h':=λb u q=>by
 have aKF:∀c y,H c=aj (.own y)->c≠x:=λc y r z=>by subst z;rw[r]at mu;exact mu
 have aPJ:∀c xs,H c=aj (.tup xs)->c≠x:=λc xs r z=>by subst z;rw[r]at mu;exact mu
 by_cases hb:b=x
 .subst hb;rw[aM]at q;cases q;exact new
 .rw[bA hb]at q;by_cases hbe:b=e
  .have q':H b=aj (.own x):=by
    rcases he with z|z
    .exact absurd (hbe.trans z) hb
    .rw[hbe];exact z
   rw[q]at q';cases q';obtain⟨v,hv⟩:=heo;exact⟨v,by rw[hbe];exact hv⟩
  .refine(ok b u q).stay (λc v hc r=>k c v ?_ r) (λc r=>by rw[bA (aKF c b r)];exact r) λc xs r=>by rw[bA (aPJ c xs r)];exact r
   rcases hc with rfl|hc
   .exact hbe
   .rintro rfl;rcases he with z|z
    .exact aKF c b hc z
    .rw[hc]at z;cases z;exact hb rfl
end
structure Un(fs ex:List bw)(H H':Hp)(h h':jm):Prop where
 keep:∀b o,h.get? b=aj o->H b=au->b∉fs->b∉ex->h'.get? b=aj o
 slot:∀b o,h.get? b=aj o->H b=au->b∈fs->b∉ex->∃sl,h'.get? b=aj {o with slots:=sl}
 free:∀b o,h.get? b=aj o->H b=au->b∉ex->H' b=au
 there:∀b o,h.get? b=aj o->b∉ex->∃o',h'.get? b=aj o'
 tups:∀b xs,H b=aj (.tup xs)->H' b=aj (.tup xs)
 mQ:∀b o u,H b=aj (.jD o u)->H' b=aj (.jD o u)
 zJ:∀b ps,H b=aj (.tbl ps)->∃more,H' b=aj (.tbl (ps++more))
section
variable{fs ex:List bw}{h h1 h':jm}{a x:bw}{o:HO}
def Un.any(u:Un fs ex H H1 h h1){ob:Obj}(q:h.get? b=aj ob)(n:H b=au)(hx:b∉ex):∃sl,h1.get? b=aj {ob with slots:=sl}:=by
 by_cases hb:b∈fs
 .exact u.slot b ob q n hb hx
 .exact⟨ob.slots,u.keep b ob q n hb hx⟩
def Un.kept(k:∀b u,h.get? b=aj u->h'.get? b=aj u):Un fs ex H H h h' :=
 ⟨λb ob q _ _ _=>k b ob q,λb ob q _ _ _=>⟨ob.slots,k b ob q⟩,λ_ _ _ n _=>n,λb ob q _=>⟨ob,k b ob q⟩,λ_ _ q=>q,λ_ _ _ q=>q,λ_ ps q=>⟨#[],by rw[q];simp⟩⟩
def Un.refl:Un fs ex H H h h:=Un.kept λ_ _ q=>q
def Un.laid(k:∀b u,h.get? b=aj u->h'.get? b=aj u)(hp:h.objs.size<=a)(hn:H a=au):Un fs ex H (upd H a o) h h' where
 keep:=λb u q _ _ _=>k b u q
 slot:=λb u q _ _ _=>⟨u.slots,k b u q⟩
 free:=λb u q n _=>by rw[bA (jc (jo (gw q) hp))];exact n
 there:=λb u q _=>⟨u,k b u q⟩
 tups:=λb xs q=>by rw[bA (nR q hn)];exact q
 mQ:=λb u xs q=>by rw[bA (nR q hn)];exact q
 zJ:=λb ps q=>⟨#[],by rw[bA (nR q hn),q];simp⟩
def Un.write(mu:Mut (H x))(he:e=x∨H e=aj (.own x))(k:∀b u,b≠e->h.get? b=aj u->h'.get? b=aj u)(heo:∃u,h'.get? e=aj u):Un fs ex H (upd H x o) h h':=by
 have hx:∀b,H b=au->b≠x:=λb n z=>by subst z;rw[n]at mu;exact mu
 have hb:∀b,H b=au->b≠e:=λb n z=>by
  subst z;rcases he with r|r
  .exact hx b n r
  .rw[n]at r;cases r
 have hm:∀b u,H b=aj u->¬ Mut (aj u)->b≠x:=λb u q nm z=>by subst z;rw[q]at mu;exact nm mu
 refine⟨λb u q n _ _=>k b u (hb b n) q,λb u q n _ _=>⟨u.slots,k b u (hb b n) q⟩,λb u q n _=>by rw[bA (hx b n)];exact n,λb u q _=>?_,
  λb xs q=>by rw[bA (hm b _ q λz=>z)];exact q,λb u xs q=>by rw[bA (hm b _ q λz=>z)];exact q,λb ps q=>⟨#[],by rw[bA (hm b _ q λz=>z),q];simp⟩⟩
 by_cases hbe:b=e
 .subst hbe;exact heo
 .exact⟨u,k b u hbe q⟩
end
abbrev trk(h:jm)(H:Hp):List bw:=(kj h.objs.size).filter λa=>(H a).isSome
abbrev aeT(h:jm)(H:Hp):jm:=a2l h (trk h H)
def aq1(h:jm)(H:Hp):(aeT h H).objs.size=h.objs.size:=PySem.W.hideAll_size _ _
def asJ{h:jm}(e:h.get? b=aj o)(n:H b=au):(aeT h H).get? b=aj o :=
 PySem.W.hideAll_get _ e λhm=>by
  have q:(H b).isSome=ak:=(nj.mp hm).2;rw[n]at q;simp at q
def ayC{h:jm}(e:(aeT h H).get? b=aj o):h.get? b=aj o/\H b=au:=by
 have e':h.get? b=aj o:=PySem.W.of_hideAll (trk h H) e;refine⟨e',?_⟩;cases q:H b with
 |none=>rfl
 |some x =>
  have hm:b∈trk h H:=nj.mpr ⟨yc.mpr (gw e'),by simp[q]⟩;have z:(aeT h H).get? b=au:=PySem.W.hideAll_none (trk h H) hm;rw[z]at e;cases e
abbrev ayD(g h:jm)(L:bw):List (bw×Obj):=(kj h.objs.size).filterMap λa=>if a=L∨(g.get? a).isSome=ak then au else(h.get? a).map λo=>(a,o)
abbrev rest(g h:jm)(L d:bw):List (bw×Obj):=(ayD g h L).filter λp=>decide (p.1≠d)
end
variable{v:V}{A:jx}{t':Nat}{N:List Str}{M:Model}
section
structure Mod(K:je)(mg:Str->Option aq)(base:jm):Prop where
 kin:K.In base
 glob:base.Ns ju mg
 blt:∃mb,base.Ns builtinsNs mb/\∀x:Str,x≠"__name__"->mb x=mz x
 nolimit:base.NoLimit
structure Cx where
 prog:jt
 w:jj
 K:je
 mg:Str->Option aq
 base:jm
 A:jx
 N:List Str
 s₀:cu
 H₀:Hp
 env:Env
 outer:List Env
 stack:List Env
 ex:List bw
 fn:Str->Bool
 calm:Bool
 pn:List (bw×Obj)
 tp:List (bw×List V)
 xe:aq->cu->Prop
abbrev frs(l:List Env):List bw:=l.filterMap (·.frame)
@[simp]def Cx.fs(X:Cx):List bw:=frs X.outer
abbrev Vis(sc:zc)(x:Str):Prop:=sc.names.lookup x=aj .local∨sc.names.lookup x=aj .cell∨sc.names.lookup x=aj .free
abbrev Loc(sc:zc)(x:Str):Prop:=sc.names.lookup x=aj .local∨sc.names.lookup x=aj .cell
abbrev Look(env:Env)(h:jm)(m:Str->Option aq)(x:Str)(u:aq):Prop :=
 (env.kindOf x=aj .local/\m x=aj u)∨((env.kindOf x=aj .cell∨env.kindOf x=aj .free)/\∃c,env.cells.lookup x=aj c/\h.IsCell c (aj u))
structure Cx.Ok(X:Cx):Prop where
 mod:Mod X.K X.mg X.base
 kind:X.env.scope.kind=.function
 glob:X.env.globals=ju
 blt:X.env.builtins=builtinsNs
 above:X.s₀.heap.objs.size<=X.env.locals
 inj:∀x y c,X.env.cells.lookup x=aj c->X.env.cells.lookup y=aj c->x=y
 has:∀x,(X.env.kindOf x=aj .cell∨X.env.kindOf x=aj .free)->∃c,X.env.cells.lookup x=aj c
 cab:∀x c,X.fn x=ak->X.env.cells.lookup x=aj c->X.s₀.heap.objs.size<=c
 hd:X.calm=ak->X.A.handled=au
 frames:X.A.frames=aj X.stack
 stk:X.stack=X.outer∨(X.stack=X.env::X.outer/\X.env.frame=aj X.env.locals)
 exf:∀b∈X.ex,b≠X.env.locals/\∀x c,X.env.cells.lookup x=aj c->c≠b
 bs:∀b o,X.base.get? b=aj o->X.s₀.heap.get? b=aj o/\X.H₀ b=au
 bsz:X.base.objs.size<=X.s₀.heap.objs.size
 ah6:∀b o,X.base.get? b=aj o->b∉X.ex
 akS:∀b∈X.ex,b∉X.fs
 a1X:X.s₀.heap.FunFrames X.base X.outer
 frf:∀b∈X.fs,X.H₀ b=au
abbrev Hnd(A:jx)(H:Hp):Prop:=A.handled=au∨∃x o u vs,A.handled=aj (.ref x)/\H x=aj (.jD o u)/\o.data=.fields vs/\vs[2]?=aj .none
def Hnd.mono(h:Hnd A H)(f:∀b o u,H b=aj (.jD o u)->H' b=aj (.jD o u)):Hnd A H':=by
 rcases h with z|⟨x,o,u,vs,a,b,c⟩
 .exact .inl z
 .exact .inr ⟨x,o,u,vs,a,f _ _ _ b,c⟩
def Hnd.heap{w:jj}{h:jm}(q:Hnd A H)(hok:HOk P w H h):abZ A h:=by
 rcases q with z|⟨x,o,u,vs,a,b,c⟩
 .exact .inl z
 .exact .inr ⟨x,o,vs,a,(hok x _ b).1,c⟩
structure Inv(X:Cx)(pins:List (bw×Obj))(σ:List (Option V))(H:Hp)(s:cu):Prop where
 ok:X.Ok
 os:s.os=X.s₀.os
 bare:AllBare s.gens
 base:Un X.fs X.ex X.H₀ H X.s₀.heap s.heap
 loc:∃m,s.heap.Ns X.env.locals m/\∀(i:Nat)(x:Str)(v:V),X.N[i]?=aj x->σ[i]?=aj (aj v)->Vis X.env.scope x->∃u,RelV v u/\Look X.env s.heap m x u
 cell:∀x c,X.env.cells.lookup x=aj c->∃v,s.heap.IsCell c v
 free:H X.env.locals=au
 pL:∀x c,X.env.cells.lookup x=aj c->H c=au
 pin:∀p∈X.pn++pins,s.heap.get? p.1=aj p.2/\H p.1=au/\p.1≠X.env.locals/\p.1∉X.fs/\∀v,p.2.data≠.cell v
 hok:HOk X.prog X.w H s.heap
 len:σ.length=X.N.length
 hnd:Hnd X.A H
 tup:∀p∈X.tp,H p.1=aj (.tup p.2)
variable{i:Nat}
section
variable{X:Cx}{pins:List (bw×Obj)}{σ:List (Option V)}{H H':Hp}{s:cu}{h':jm}
def Cx.Ok.aPK(ok:X.Ok)(e:X.base.get? b=aj o):b∉X.fs:=λhb=>by
 have:=(ok.a1X.mem hb).1;rw[e]at this;cases this
def Inv.bs(I:Inv X pins σ H s):∀b o,X.base.get? b=aj o->s.heap.get? b=aj o/\H b=au:=λb o e =>
 ⟨I.base.keep b o (I.ok.bs b o e).1 (I.ok.bs b o e).2 (I.ok.aPK e) (I.ok.ah6 b o e),I.base.free b o (I.ok.bs b o e).1 (I.ok.bs b o e).2 (I.ok.ah6 b o e)⟩
def Inv.bk(I:Inv X pins σ H s):∀b o,X.base.get? b=aj o->s.heap.get? b=aj o:=λb o e=>(I.bs b o e).1
def Inv.mod(I:Inv X pins σ H s):Mod X.K X.mg X.base:=I.ok.mod
def Inv.kIn(I:Inv X pins σ H s):X.K.In s.heap:=I.ok.mod.kin.keeps I.bk
def Inv.lt(I:Inv X pins σ H s):X.env.locals<s.heap.objs.size:=let⟨_,hn,_⟩:=I.loc;hn.lt
def Inv.sz(I:Inv X pins σ H s):X.s₀.heap.objs.size<=s.heap.objs.size:=qu I.ok.above (xu I.lt)
def Inv.aPL(I:Inv X pins σ H s)(h:s.heap.objs.size<=a):a∉X.fs:=λhb=>by
 obtain⟨_,o,ho,_⟩:=I.ok.a1X.mem hb;exact absurd (jo (gw ho) (qu I.sz h)) (vq _)
def Inv.cne(I:Inv X pins σ H s):∀x c,X.env.cells.lookup x=aj c->c≠X.env.locals:=λx c e z=>by
 obtain⟨v,o,ho,hd⟩:=I.cell x c e;obtain⟨m,⟨o',es,ep,ho',hd',_⟩,_⟩:=I.loc;rw[z,ho']at ho;cases ho;rw[hd']at hd;cases hd
def Inv.a1X(I:Inv X pins σ H s):s.heap.FunFrames X.base X.outer:=by
 have all:∀(l:List Env),(∀b∈frs l,b∈X.fs)->X.s₀.heap.FunFrames X.base l->s.heap.FunFrames X.base l:=by
  intro l
  induction l with
  |nil=>intro _ _;trivial
  |cons env r ih =>
   intro hs hl;obtain⟨hk,⟨L,o,hf,hn,ho,hd⟩,hr⟩:=hl;have hL:L∈X.fs:=hs L (by unfold frs;rw[a2t,hf];exact wu);obtain⟨sl,e⟩:=I.base.slot L o ho (I.ok.frf L hL) hL λz=>I.ok.akS L z hL;exact⟨hk,⟨L,_,hf,hn,e,hd⟩,ih (λb hb=>hs b (by unfold frs;rw[a2t,hf];exact ou _ hb)) hr⟩
 exact all X.outer (λ_ hb=>hb) I.ok.a1X
def Inv.stack(I:Inv X pins σ H s):s.heap.FunFrames X.base X.stack:=by
 rcases I.ok.stk with e|⟨e,hf⟩
 .rw[e];exact I.a1X
 .rw[e];obtain⟨m,hn,_⟩:=I.loc;refine .cons (by rw[I.ok.kind];decide) hf hn ?_ I.a1X;exact Heap.get?_none_of_le (qu I.ok.bsz I.ok.above)
def Inv.akT(I:Inv X pins σ H s):∀b∈frs X.stack,b∈X.env.locals::X.fs:=λb hb=>by
 rcases I.ok.stk with e|⟨e,hf⟩
 .rw[e]at hb;exact ou _ hb
 .rw[e]at hb;unfold frs at hb;rw[a2t,hf]at hb;exact hb
def Inv.aeU(I:Inv X pins σ H s):∀b∈frs X.stack,H b=au:=λb hb=>by
 rcases jd.mp (I.akT b hb)with e|hb
 .rw[e];exact I.free
 .obtain⟨_,o,ho,_⟩:=I.ok.a1X.mem hb;exact I.base.free b o ho (I.ok.frf b hb) λz=>I.ok.akS b z hb
def Inv.step{g':Array GenState}{d':Drawn}{ch:List bw}(I:Inv X pins σ H s)
  (hch:∀b∈ch,(b∈X.ex∨X.s₀.heap.objs.size<=b)/\b≠X.env.locals/\(∀x c,X.env.cells.lookup x=aj c->c≠b)/\∀p∈X.pn++pins,p.1≠b)
  (keep:∀b o,b≠X.env.locals->b∉X.fs->b∉ch->s.heap.get? b=aj o->H b=au->h'.get? b=aj o)
  (slot:∀b o,b≠X.env.locals->b∈X.fs->b∉ch->s.heap.get? b=aj o->H b=au->∃sl,h'.get? b=aj {o with slots:=sl})(free:∀b o,b∉ch->s.heap.get? b=aj o->H b=au->H' b=au)
  (there:∀b o,b∉ch->s.heap.get? b=aj o->∃o',h'.get? b=aj o')
  (tups:∀b xs,H b=aj (.tup xs)->H' b=aj (.tup xs))(mQ:∀b o u,H b=aj (.jD o u)->H' b=aj (.jD o u))(zJ:∀b ps,H b=aj (.tbl ps)->∃more,H' b=aj (.tbl (ps++more)))
  (ns:∀m,s.heap.Ns X.env.locals m->h'.Ns X.env.locals m)(hok:HOk X.prog X.w H' h')(hg:AllBare g') :
  Inv X pins σ H' {s with heap:=h',gens:=g',drawn:=d',toks:=t' }:=by
 have neL:∀b o,X.s₀.heap.get? b=aj o->b≠X.env.locals:=λb o e=>jc (jo (gw e) I.ok.above)
 have neC:∀b o,X.s₀.heap.get? b=aj o->b∉X.ex->b∉ch:=λb o e hx hb=>by
  rcases(hch b hb).1 with z|z
  .exact hx z
  .exact absurd (jo (gw e) z) (vq _)
 have cellK:∀x c,X.env.cells.lookup x=aj c->∀v,s.heap.IsCell c v->h'.IsCell c v:=λx c e v ⟨o,ho,hd⟩=>by
  have nch:c∉ch:=λz=>(hch c z).2.2.1 x c e rfl;by_cases hc:c∈X.fs
  .obtain⟨sl,q⟩:=slot c o (I.cne x c e) hc nch ho (I.pL x c e);exact⟨_,q,hd⟩
  .exact⟨o,keep c o (I.cne x c e) hc nch ho (I.pL x c e),hd⟩
 refine⟨I.ok,I.os,hg,⟨λb o e n hb hx=>?_,λb o e n hb hx=>?_,λb o e n hx=>?_,λb o e hx=>?_,λb xs e=>tups b xs (I.base.tups b xs e),λb o xs e=>mQ b o xs (I.base.mQ b o xs e),λb ps e=>?_⟩,?_,λx c e=>?_,?_,λx c e=>?_,λp hp=>?_,hok,I.len,I.hnd.mono mQ,λp hp=>tups _ _ (I.tup p hp)⟩
 .exact keep b o (neL b o e) hb (neC b o e hx) (I.base.keep b o e n hb hx) (I.base.free b o e n hx)
 .obtain⟨sl,e1⟩:=I.base.slot b o e n hb hx;obtain⟨sl',e2⟩:=slot b _ (neL b o e) hb (neC b o e hx) e1 (I.base.free b o e n hx);exact⟨sl',e2⟩
 .obtain⟨o',e1⟩:=I.base.there b o e hx;exact free b o' (neC b o e hx) e1 (I.base.free b o e n hx)
 .obtain⟨o',e1⟩:=I.base.there b o e hx;exact there b o' (neC b o e hx) e1
 .obtain⟨m1,e1⟩:=I.base.zJ b ps e;obtain⟨m2,e2⟩:=zJ b _ e1;exact⟨m1++m2,by rw[e2,Array.append_assoc]⟩
 .obtain⟨m,hn,hl⟩:=I.loc;refine⟨m,ns m hn,λi x v e1 e2 e3=>?_⟩;obtain⟨u,r,l⟩:=hl i x v e1 e2 e3;refine⟨u,r,?_⟩;rcases l with l|⟨k,c,e,z⟩
  .exact .inl l
  .exact .inr ⟨k,c,e,cellK x c e _ z⟩
 .obtain⟨v,z⟩:=I.cell x c e;exact⟨v,cellK x c e v z⟩
 .obtain⟨m,⟨o,_,_,ho,_⟩,_⟩:=I.loc;exact free _ o (λz=>(hch _ z).2.1 rfl) ho I.free
 .obtain⟨v,o,ho,hd⟩:=I.cell x c e;exact free c o (λz=>(hch c z).2.2.1 x c e rfl) ho (I.pL x c e)
 .obtain⟨e,n,ne,nf,d⟩:=I.pin p hp;have nch:p.1∉ch:=λz=>(hch p.1 z).2.2.2 p hp rfl;exact⟨keep p.1 p.2 ne nf nch e n,free p.1 p.2 nch e n,ne,nf,d⟩
def Inv.un(I:Inv X pins σ H s)(u:Un X.fs [] H H' s.heap h')(hok:HOk X.prog X.w H' h'):Inv X pins σ H' {s with heap:=h',toks:=t' }:=by
 obtain⟨m,⟨o,es,ep,ho,r⟩,_⟩:=id I.loc;obtain⟨sl,hL⟩:=u.any ho I.free (by simp)
 exact I.step (g':=s.gens) (d':=s.drawn) (ch:=[]) (λ_ z=>nomatch z) (λb o _ hb _ e n=>u.keep b o e n hb (by simp)) (λb o _ hb _ e n=>u.slot b o e n hb (by simp)) (λb o _ e n=>u.free b o e n (by simp)) (λb o _ e=>u.there b o e (by simp)) u.tups u.mQ u.zJ (λm' hm=>by
  obtain⟨o',es',ep',ho',r'⟩:=hm;rw[ho]at ho';cases ho';exact⟨_,es',ep',hL,r'⟩) hok I.bare
def Inv.call(I:Inv X pins σ H s)(u:Un (frs X.stack) ch H H' s.heap h')(hok:HOk X.prog X.w H' h')(hg:AllBare g')
  (hch:∀b∈ch,(b∈X.ex∨X.s₀.heap.objs.size<=b)/\b≠X.env.locals/\(∀x c,X.env.cells.lookup x=aj c->c≠b)/\∀p∈X.pn++pins,p.1≠b) :
  Inv X pins σ H' {s with heap:=h',gens:=g',drawn:=d',toks:=t' }:=by
 obtain⟨m,⟨o,es,ep,ho,r⟩,_⟩:=id I.loc;obtain⟨sl,hL⟩:=u.any ho I.free λz=>(hch _ z).2.1 rfl
 exact I.step (ch:=ch) hch (λb o hL hb hc e n=>u.keep b o e n (λz=>(jd.mp (I.akT b z)).elim hL hb) hc) (λb o _ _ hc e n=>u.any e n hc) (λb o hc e n=>u.free b o e n hc) (λb o hc e=>u.there b o e hc) u.tups u.mQ u.zJ (λm' hm=>by
  obtain⟨o',es',ep',ho',r'⟩:=hm;rw[ho]at ho';cases ho';exact⟨_,es',ep',hL,r'⟩) hok hg
def Inv.turned(I:Inv X pins σ H s)(k:∀b o,b≠it->s.heap.get? b=aj o->h'.get? b=aj o)(hn:H it=au)(hL:it≠X.env.locals)
  (h1:it∈X.ex∨X.s₀.heap.objs.size<=it)(h2:∀x c,X.env.cells.lookup x=aj c->c≠it)(h3:∀p∈X.pn++pins,p.1≠it):Inv X pins σ H {s with heap:=h',toks:=t' }:=by
 have nit:∀b u,H b=aj u->b≠it:=λb u e z=>by rw[z,hn]at e;cases e
 refine I.step (g':=s.gens) (d':=s.drawn) (ch:=[it]) (λb hb=>?_) (λb o _ _ hc e _=>k b o (λz=>hc (by simp[z])) e) (λb o _ _ hc e _=>⟨o.slots,k b o (λz=>hc (by simp[z])) e⟩) (λ_ _ _ _ n=>n)
  (λb o hc e=>⟨o,k b o (λz=>hc (by simp[z])) e⟩) (λ_ _ e=>e) (λ_ _ _ e=>e) (λb ps e=>⟨#[],by rw[e];simp⟩) (λm hm=>?_) (λb u e=>?_) I.bare
 .have e:b=it:=by simpa using hb
  subst e;exact⟨h1,hL,h2,h3⟩
 .obtain⟨o,es,ep,ho,r⟩:=hm;exact⟨o,es,ep,k _ o (Ne.symm hL) ho,r⟩
 .refine(I.hok b u e).stay (λc v hc q=>k c v ?_ q) (λ_ q=>q) λ_ _ q=>q;rcases hc with z|z
  .rw[z];exact nit b u e
  .exact nit c _ z
def Inv.tok(I:Inv X pins σ H s)(t:Nat):Inv X pins σ H {s with toks:=t}:=I.un (h':=s.heap) (t':=t) Un.refl I.hok
def Inv.kept{t':Nat}(I:Inv X pins σ H s)(k:∀b u,s.heap.get? b=aj u->h'.get? b=aj u):Inv X pins σ H {s with heap:=h',toks:=t' }:=I.un (Un.kept k) (I.hok.kept k)
def Inv.laid{a:bw}{o:HO}{t':Nat}(I:Inv X pins σ H s)(k:∀b u,s.heap.get? b=aj u->h'.get? b=aj u)(hp:s.heap.objs.size<=a)(new:gZ X.prog X.w (upd H a o) h' a o) :
  Inv X pins σ (upd H a o) {s with heap:=h',toks:=t' }:=I.un (Un.laid k hp (I.hok.fresh hp)) (I.hok.laid k hp new)
def Inv.write{x:bw}{o:HO}{t':Nat}(I:Inv X pins σ H s)(mu:Mut (H x))(he:e=x∨H e=aj (.own x))(k:∀b u,b≠e->s.heap.get? b=aj u->h'.get? b=aj u)(heo:∃u,h'.get? e=aj u)
  (new:gZ X.prog X.w (upd H x o) h' x o):Inv X pins σ (upd H x o) {s with heap:=h',toks:=t' }:=I.un (Un.write mu he k heo) (I.hok.write mu he k heo new)
def Inv.weak{σ':List (Option V)}(I:Inv X pins σ H s)(hl:σ'.length=σ.length)(w:∀(i:Nat) v,σ'[i]?=aj (aj v)->σ[i]?=aj (aj v)):Inv X pins σ' H s :=
 ⟨I.ok,I.os,I.bare,I.base,let⟨m,hn,hl'⟩:=I.loc;⟨m,hn,λi x v e1 e2 e3=>hl' i x v e1 (w i v e2) e3⟩,I.cell,I.free,I.pL,I.pin,I.hok,hl.trans I.len,I.hnd,I.tup⟩
def Inv.anB(I:Inv X pins σ H s)(h:∀p∈a4R,s.heap.get? p.1=aj p.2/\H p.1=au/\p.1≠X.env.locals/\p.1∉X.fs/\∀v,p.2.data≠.cell v):Inv X a4R σ H s :=
 ⟨I.ok,I.os,I.bare,I.base,I.loc,I.cell,I.free,I.pL,λp hp=>(uo.mp hp).elim (λz=>I.pin p (a1p _ z)) (h p),I.hok,I.len,I.hnd,I.tup⟩
def a9F(hN:N.Nodup){j:Nat}(a:N[i]?=aj x)(b:N[j]?=aj x):i=j:=by
 obtain⟨h1,e1⟩:=jk.mp a;obtain⟨h2,e2⟩:=jk.mp b;exact(List.getElem_inj hN).mp (e1.trans e2.symm)
def ad9(I:Inv X pins σ H s)(hN:X.N.Nodup)(hi:X.N[i]?=aj x)(hx:Loc X.env.scope x)(r:RelV v u)
  (h:∀s',Inv X pins (σ.set i (aj v)) H s'->(∃a,ni a s.heap s'.heap/\(a=X.env.locals∨X.env.cells.lookup x=aj a))->Q () s')(hf:X.fn x=ak∨X.env.scope.names.lookup x=aj .local:=by first|exact .inl rfl|exact .inr rfl|assumption):dg M A (storeName X.env x u) Q E s:=by
 obtain⟨m,hn,hl⟩:=id I.loc;have hcls:(X.env.scope.kind==.class||(X.env.scope.kind==.module&&X.env.locals !=X.env.globals))=ao:=by rw[I.ok.kind];rfl
 have hiσ:i<σ.length:=by rw[I.len];exact(jk.mp hi).1
 have cne:=I.cne
 have tracked:∀{a:bw}{h':jm},(∃o,s.heap.get? a=aj o/\H a=au)->ni a s.heap h'->HOk X.prog X.w H h':=λ{a h'} ha hs b ob e=>by
  obtain⟨_,_,hfree⟩:=ha;refine(I.hok b ob e).stay (λc w' hc q=>(hs.2 c ?_).trans q) (λ_ q=>q) λ_ _ q=>q;rintro rfl;rcases hc with rfl|hc
  .rw[hfree]at e;cases e
  .rw[hfree]at hc;cases hc
 rcases hx with hk|hk
 .refine wpAny_storeName_local hk hn (λh' hn' hs=>?_) hcls;obtain⟨oL,_,_,hoL,_⟩:=id hn;refine h _ ⟨I.ok,I.os,I.bare,⟨λb o e n hb hx=>?_,λb o e n hb hx=>?_,I.base.free,λb o e hx=>?_,I.base.tups,I.base.mQ,I.base.zJ⟩,⟨_,hn',λj y v' e1 e2 e3=>?_⟩,λy c e=>?_,I.free,I.pL,λp hp=>?_,tracked ⟨oL,hoL,I.free⟩ hs,by simpa using I.len,I.hnd,I.tup⟩ ⟨_,hs,.inl rfl⟩
  .exact(hs.2 b (jc (jo (gw e) I.ok.above))).trans (I.base.keep b o e n hb hx)
  .obtain⟨sl,e1⟩:=I.base.slot b o e n hb hx;exact⟨sl,(hs.2 b (jc (jo (gw e) I.ok.above))).trans e1⟩
  .obtain⟨o',e1⟩:=I.base.there b o e hx;exact⟨o',(hs.2 b (jc (jo (gw e) I.ok.above))).trans e1⟩
  .by_cases hj:j=i
   .subst hj;rw[hi]at e1;cases e1;rw[List.getElem?_set_self hiσ]at e2;cases e2;exact⟨u,r,.inl ⟨hk,by simp⟩⟩
   .rw[List.getElem?_set_ne (Ne.symm hj)]at e2;obtain⟨u',r',q⟩:=hl j y v' e1 e2 e3;refine⟨u',r',?_⟩;rcases q with⟨k,e⟩|⟨k,c,e,z⟩
    .refine .inl ⟨k,?_⟩;have:y≠x:=λe=>hj (a9F hN e1 (e ▸ hi));simp[this,e]
    .exact .inr ⟨k,c,e,z.sameBut hs (cne y c e)⟩
  .obtain⟨w',z⟩:=I.cell y c e;exact⟨w',z.sameBut hs (cne y c e)⟩
  .obtain⟨e,n,ne,nf,d⟩:=I.pin p hp;exact⟨(hs.2 p.1 ne).trans e,n,ne,nf,d⟩
 .have hfn:X.fn x=ak:=by
   rcases hf with z|z
   .exact z
   .rw[z]at hk;cases hk
  obtain⟨c,hc⟩:=I.ok.has x (.inl hk);obtain⟨w',z⟩:=I.cell x c hc;refine wpAny_storeName_cell I.ok.kind hk hc z (λh' hc' hs=>?_);obtain⟨oc,hoc,aPM⟩:=id z;refine h {s with heap:=h' } ⟨I.ok,I.os,I.bare,⟨λb o e n hb hx=>?_,λb o e n hb hx=>?_,I.base.free,λb o e hx=>?_,I.base.tups,I.base.mQ,I.base.zJ⟩,⟨m,hn.sameBut hs (Ne.symm (cne x c hc)),λj y v' e1 e2 e3=>?_⟩,λy c' e=>?_,I.free,I.pL,λp hp=>?_,tracked ⟨oc,hoc,I.pL x c hc⟩ hs,by simpa using I.len,I.hnd,I.tup⟩ ⟨c,hs,.inr hc⟩
  .exact(hs.2 b (jc (jo (gw e) (I.ok.cab x c hfn hc)))).trans (I.base.keep b o e n hb hx)
  .obtain⟨sl,e1⟩:=I.base.slot b o e n hb hx;exact⟨sl,(hs.2 b (jc (jo (gw e) (I.ok.cab x c hfn hc)))).trans e1⟩
  .obtain⟨o',e1⟩:=I.base.there b o e hx;exact⟨o',(hs.2 b (jc (jo (gw e) (I.ok.cab x c hfn hc)))).trans e1⟩
  .by_cases hj:j=i
   .subst hj;rw[hi]at e1;cases e1;rw[List.getElem?_set_self hiσ]at e2;cases e2;exact⟨u,r,.inr ⟨.inl hk,c,hc,hc'⟩⟩
   .rw[List.getElem?_set_ne (Ne.symm hj)]at e2;obtain⟨u',r',q⟩:=hl j y v' e1 e2 e3;refine⟨u',r',?_⟩;rcases q with q|⟨k,c',e,z'⟩
    .exact .inl q
    .refine .inr ⟨k,c',e,z'.sameBut hs ?_⟩;rintro rfl;exact hj (a9F hN e1 (I.ok.inj _ _ _ e hc ▸ hi))
  .by_cases hcc:c'=c
   .subst hcc;exact⟨_,hc'⟩
   .obtain⟨w2,z2⟩:=I.cell y c' e;exact⟨w2,z2.sameBut hs hcc⟩
  .obtain⟨e,n,ne,nf,d⟩:=I.pin p hp;refine⟨(hs.2 p.1 ?_).trans e,n,ne,nf,d⟩;intro q;rw[q,hoc]at e;have q':oc=p.2:=jf.inj e;exact d w' (by rw[←q'];exact aPM)
def a9G(I:Inv X pins σ H s)(hN:X.N.Nodup)(hi:X.N[i]?=aj x)(hx:Loc X.env.scope x)(r:RelV v u)
  (h:∀s',Inv X pins (σ.set i (aj v)) H s'->Q () s')(hf:X.fn x=ak∨X.env.scope.names.lookup x=aj .local:=by first|exact .inl rfl|exact .inr rfl|assumption):dg M A (storeName X.env x u) Q E s :=
 ad9 I hN hi hx r (λs' I' _=>h s' I') hf
def Inv.call'{s':cu}(I:Inv X pins σ H s)(ho:s'.os=s.os)(u:Un (frs X.stack) ch H H' s.heap s'.heap)(hok:HOk X.prog X.w H' s'.heap)(hg:AllBare s'.gens)
  (hch:∀b∈ch,(b∈X.ex∨X.s₀.heap.objs.size<=b)/\b≠X.env.locals/\(∀x c,X.env.cells.lookup x=aj c->c≠b)/\∀p∈X.pn++pins,p.1≠b):Inv X pins σ H' s':=by
 obtain⟨h',g',d',t',o'⟩:=s';have e:o'=s.os:=ho;subst e;exact I.call (g':=g') (t':=t') (d':=d') u hok hg hch
end
@[simp]def XK:=Value->Option bw->Hp->Prop
@[simp]def St:=List (Option V)
@[simp]def VK:=V->Hp->Prop
@[simp]def TE:=St->Hp->VK->Prop
@[simp]def TT:=St->Hp->(Bool->Hp->Prop)->Prop
@[simp]def TA:=St->Hp->(List V->Hp->Prop)->Prop
structure Ends where
 nx:St->Hp->Prop
 rt:VK
 bk:St->Hp->Prop:=λ_ _=>False
 ct:St->Hp->Prop:=λ_ _=>False
@[simp]def TS:=Ends->St->Hp->Prop
abbrev EP(X:Cx)(pins:List (bw×Obj))(σ:St)(Q:VK)(u:aq)(s':cu):Prop:=∃v H',Inv X pins σ H' s'/\RelV v u/\Q v H'
abbrev TP(X:Cx)(pins:List (bw×Obj))(σ:St)(Q:Bool->Hp->Prop)(b:Bool)(s':cu):Prop:=∃H',Inv X pins σ H' s'/\Q b H'
abbrev AP(X:Cx)(pins:List (bw×Obj))(σ:St)(Q:List V->Hp->Prop)(us:List aq)(s':cu):Prop:=∃vs H',Inv X pins σ H' s'/\Vals vs us/\Q vs H'
set_option tactic.hygienic true in
abbrev SP(X:Cx)(pins:List (bw×Obj))(D:Ends)(f:Flow)(s':cu):Prop :=
 match f with
 |.next=>∃σ' H',Inv X pins σ' H' s'/\D.nx σ' H'
 |.brk=>∃σ' H',Inv X pins σ' H' s'/\D.bk σ' H'
 |.cont=>∃σ' H',Inv X pins σ' H' s'/\D.ct σ' H'
 |.ret u=>∃v σ' H',Inv X pins σ' H' s'/\RelV v u/\D.rt v H'
abbrev PE(X:Cx)(e:jq)(t:TE):Prop :=
 ∀(pins:List (bw×Obj))(s:cu)(σ:St)(H:Hp)(Q:VK),Inv X pins σ H s->t σ H Q->dg (dw X.prog X.w) X.A (eval e X.env) (EP X pins σ Q) X.xe s
abbrev PT(X:Cx)(e:jq)(t:TT):Prop :=
 ∀(pins:List (bw×Obj))(s:cu)(σ:St)(H:Hp)(Q:Bool->Hp->Prop),Inv X pins σ H s->t σ H Q->dg (dw X.prog X.w) X.A (isTrue e X.env (eval e X.env)) (TP X pins σ Q) X.xe s
abbrev PW(X:Cx)(e:jq)(t:TT):Prop :=
 ∀(whole:Sem aq)(pins:List (bw×Obj))(s:cu)(σ:St)(H:Hp)(Q:Bool->Hp->Prop),Inv X pins σ H s->t σ H Q->dg (dw X.prog X.w) X.A (isTrue e X.env whole) (TP X pins σ Q) X.xe s
def PW.pt{t:TT}(h:PW X e t):PT X e t:=h _
abbrev PA(X:Cx)(es:List jq)(t:TA):Prop :=
 ∀(pos:Pos)(pins:List (bw×Obj))(s:cu)(σ:St)(H:Hp)(Q:List V->Hp->Prop),Inv X pins σ H s->t σ H Q->dg (dw X.prog X.w) X.A (spliced (tu pos (ji es X.env))) (AP X pins σ Q) X.xe s
abbrev PS(X:Cx)(st:qm)(t:TS):Prop :=
 ∀(pins:List (bw×Obj))(s:cu)(σ:St)(H:Hp)(D:Ends),Inv X pins σ H s->t D σ H->dg (dw X.prog X.w) X.A (exec st X.env) (SP X pins D) X.xe s
abbrev PSs(X:Cx)(st:List qm)(t:TS):Prop :=
 ∀(pins:List (bw×Obj))(s:cu)(σ:St)(H:Hp)(D:Ends),Inv X pins σ H s->t D σ H->dg (dw X.prog X.w) X.A (execs st X.env) (SP X pins D) X.xe s
def dZ{α:Type}{t:Sem α}{Q Q':α->cu->Prop}{E:aq->cu->Prop}{s:cu}(h:dg M A t Q E s)(hQ:∀a s,Q a s->Q' a s):dg M A t Q' E s:=wpAny_mono h hQ λ_ _ x=>x
end
variable{pins:List (bw×Obj)}{pos:Pos}
section
section
variable{X:Cx}
def bin{a b:jq}{ta tb:TE}(ha:PE X a ta)(hb:PE X b tb){s:cu}{σ:St}{H:Hp}{R:V->V->Hp->Prop}(I:Inv X pins σ H s)(h:ta σ H λx H1=>tb σ H1 λy H2=>R x y H2)
  {α:Type}{Q:α->cu->Prop}{f:aq->aq->Sem α}
  (hf:∀v u s2 x y H2,Inv X pins σ H2 s2->RelV x v->RelV y u->R x y H2->dg (dw X.prog X.w) X.A (f v u) Q X.xe s2) :
  dg (dw X.prog X.w) X.A (eval a X.env) (λv s₁=>dg (dw X.prog X.w) X.A (eval b X.env) (λu s₂=>dg (dw X.prog X.w) X.A (f v u) Q X.xe s₂) X.xe s₁) X.xe s:=by
 refine dZ (ha pins s σ H _ I h) ?_;rintro v s1 ⟨x,H1,I1,r1,q1⟩;refine dZ (hb pins s1 σ H1 _ I1 q1) ?_;rintro u s2 ⟨y,H2,I2,r2,q2⟩;exact hf v u s2 x y H2 I2 r1 r2 q2
abbrev aEE(i:Nat):TE:=λσ H Q=>∃v,σ[i]?=aj (aj v)/\Q v H
abbrev tC(v:V):TE:=λ_ H Q=>Q v H
def asL{i:Nat}(hN:X.N[i]?=aj x)(hv:Vis X.env.scope x)(hd:(x==("__debug__":Str))=ao:=by decide)(hcd:(x==("__classdict__":Str))=ao:=by decide):PE X (.Name x pos) (aEE i):=by
 intro pins s σ H Q I h;obtain⟨v,e,h⟩:=h;obtain⟨m,hn,hl⟩:=I.loc;obtain⟨u,r,l⟩:=hl i x v hN e hv;have fin:EP X pins σ Q u s:=⟨v,H,I,r,h⟩;rcases l with⟨hk,hm⟩|⟨hk,c,hc,hcell⟩
 .exact wpAny_Name (wpAny_loadName_local I.ok.kind hk hn hm fin) hd
 .rcases hk with hk|hk
  .exact wpAny_Name (wpAny_loadName_cell I.ok.kind hk hc hcell fin) hd
  .exact wpAny_Name (wpAny_loadName_free I.ok.kind hk hc hcell fin hcd) hd
def aEF{i j pos}:PE X (.Constant (.int i) j pos) (tC (.int i)):=λ_ _ _ H _ I h=>wpAny_Constant_int ⟨.int i,H,I.tok _,⟨_,rfl⟩,h⟩
def aKI{b j pos}:PE X (.Constant (.bool b) j pos) (tC (.bl b)):=λ_ _ _ H _ I h=>Constant_bool ⟨.bl b,H,I,rfl,h⟩
def aEG{j pos}:PE X (.Constant .none j pos) (tC .non):=λ_ _ _ H _ I h=>Constant_none ⟨.non,H,I,rfl,h⟩
def aEH{x j pos}:PE X (.Constant (.str x) j pos) (tC (.str x)):=λ_ _ _ H _ I h=>Calls.Constant_str ⟨.str x,H,I.tok _,⟨_,rfl⟩,h⟩
abbrev Gl(X:Cx)(x:Str):Prop:=X.env.kindOf x=aj .globalImplicit
def rD(I:Inv X pins σ H s)(hg:Gl X x)(hm:X.mg x=aj u)(h:Q u s)
  (hd:(x==("__debug__":Str))=ao:=by decide):dg (dw X.prog X.w) X.A (eval (.Name x pos) X.env) Q E s :=
 Calls.Name_function_global I.ok.kind hg (Calls.loadGlobal_global (by rw[I.ok.glob];exact I.mod.glob.keeps I.bk) hm h) hd
def a3M(I:Inv X pins σ H s)(hg:Gl X x)(hm:X.mg x=au)(hv:mz x=aj u)(h:Q u s)
  (hn:x≠"__name__":=by decide)(hd:(x==("__debug__":Str))=ao:=by decide):dg (dw X.prog X.w) X.A (eval (.Name x pos) X.env) Q E s:=by
 obtain⟨mb,h1,h2⟩:=I.mod.blt;exact Calls.Name_function_global I.ok.kind hg (Calls.loadGlobal_builtin (by rw[I.ok.glob];exact I.mod.glob.keeps I.bk) hm (by rw[I.ok.blt];exact h1.keeps I.bk) ((h2 x hn).trans hv) h) hd
def ayE(hg:Gl X x)(hm:X.mg x=aj u)(r:RelV v u)(hd:(x==("__debug__":Str))=ao:=by decide):PE X (.Name x pos) (tC v) :=
 λ_ _ _ H _ I h=>rD I hg hm ⟨v,H,I,r,h⟩ hd
def ayF(hg:Gl X x)(hm:X.mg x=au)(hv:mz x=aj u)(r:RelV v u)(hn:x≠"__name__":=by decide)(hd:(x==("__debug__":Str))=ao:=by decide):PE X (.Name x pos) (tC v) :=
 λ_ _ _ H _ I h=>a3M I hg hm hv ⟨v,H,I,r,h⟩ hn hd
variable{a b:jq}{ta tb:TE}{pos:Pos}
def a9H(b:jq)(h:op≠.In)(h2:op≠.NotIn):yw op b=ao:=by
 have e1:(op==vh.In)=ao:=by cases op<;>first|rfl|exact absurd rfl h
 have e2:(op==vh.NotIn)=ao:=by cases op<;>first|rfl|exact absurd rfl h2
 cases b<;>simp[yw,e1,e2]
abbrev tB(t:TE):TT:=λσ H Q=>t σ H λx H1=>∃c,x=.bl c/\Q c H1
def aEI{e:jq}{t:TE}(h:PE X e t)(he:∀whole,isTrue e X.env whole=(do let v ←whole;standAt e.pos;holding [v] (truthy v)):=by intro _;rfl):PT X e (tB t):=by
 intro pins s σ H Q I hw;refine isTrue_plain (dZ (h pins s σ H _ I hw) ?_) (he _);rintro v s1 ⟨x,H1,I1,r1,q1⟩;obtain⟨d,rfl,q⟩:=q1;cases r1;exact yg ⟨H1,I1,q⟩
variable{rest:List jq}
abbrev aKJ(t u:TT):TT:=λσ H Q=>t σ H λc H1=>if c=ak then u σ H1 Q else Q ao H1
abbrev tOr(t u:TT):TT:=λσ H Q=>t σ H λc H1=>if c=ak then Q ak H1 else u σ H1 Q
abbrev aPN(t:TT):TT:=λσ H Q=>t σ H λc H1=>Q (!c) H1
def ayG(ha:PT X a tA):PW X (.BoolOp .And [a] pos) tA:=by
 intro wh pins s σ H Q I h;refine isTrue_and (dZ (ha pins s σ H Q I h) λc s1 e=>?_);cases c with
 |true=>exact isTrue_and_nil e
 |false=>exact e
def aEJ(ha:PT X a tA):PW X (.BoolOp .Or [a] pos) tA:=by
 intro wh pins s σ H Q I h;refine isTrue_or (dZ (ha pins s σ H Q I h) λc s1 e=>?_);cases c with
 |false=>exact isTrue_or_nil e
 |true=>exact e
def aEK(ha:PT X a tA)(hb:PW X (.BoolOp .And (b::rest) pos) tB'):PW X (.BoolOp .And (a::b::rest) pos) (aKJ tA tB'):=by
 intro wh pins s σ H Q I h;refine isTrue_and (dZ (ha pins s σ H _ I h) ?_);rintro c s1 ⟨H1,I1,q1⟩;cases c with
 |true=>exact hb wh pins s1 σ H1 Q I1 q1
 |false=>exact⟨H1,I1,q1⟩
def aKK(ha:PT X a tA)(hb:PW X (.BoolOp .Or (b::rest) pos) tB'):PW X (.BoolOp .Or (a::b::rest) pos) (tOr tA tB'):=by
 intro wh pins s σ H Q I h;refine isTrue_or (dZ (ha pins s σ H _ I h) ?_);rintro c s1 ⟨H1,I1,q1⟩;cases c with
 |true=>exact⟨H1,I1,q1⟩
 |false=>exact hb wh pins s1 σ H1 Q I1 q1
def aEL(ha:PT X a tA):PT X (.UnaryOp .Not a pos) (aPN tA):=by
 intro pins s σ H Q I h;exact isTrue_not (ha pins s σ H (λc H1=>Q (!c) H1) I h)
abbrev aKL(ta tb:TE):TE:=λσ H Q=>ta σ H λx H1=>∃c,x=.bl c/\if c=ak then tb σ H1 Q else Q (.bl ao) H1
abbrev aPO(ta tb:TE):TE:=λσ H Q=>ta σ H λx H1=>∃c,x=.bl c/\if c=ak then Q (.bl ak) H1 else tb σ H1 Q
abbrev aKM(ta:TE):TE:=λσ H Q=>ta σ H λx H1=>∃c,x=.bl c/\Q (.bl (!c)) H1
def aEM{op}{t:TE}(h:PE X a t):PE X (.BoolOp op [a] pos) t:=λpins s σ H Q I hw=>BoolOp_one (h pins s σ H Q I hw)
def aEN(ha:PE X a ta)(hb:PE X (.BoolOp .And (b::rest) pos) tb):PE X (.BoolOp .And (a::b::rest) pos) (aKL ta tb):=by
 intro pins s σ H Q I h;refine BoolOp_and (dZ (ha pins s σ H _ I h) ?_);rintro v s1 ⟨x,H1,I1,r1,q1⟩;obtain⟨c,rfl,q1⟩:=q1;cases r1;refine yg ?_;cases c with
 |true=>exact hb pins s1 σ H1 Q I1 q1
 |false=>exact⟨.bl ao,H1,I1,rfl,q1⟩
def aKN(ha:PE X a ta)(hb:PE X (.BoolOp .Or (b::rest) pos) tb):PE X (.BoolOp .Or (a::b::rest) pos) (aPO ta tb):=by
 intro pins s σ H Q I h;refine BoolOp_or (dZ (ha pins s σ H _ I h) ?_);rintro v s1 ⟨x,H1,I1,r1,q1⟩;obtain⟨c,rfl,q1⟩:=q1;cases r1;refine yg ?_;cases c with
 |false=>exact hb pins s1 σ H1 Q I1 q1
 |true=>exact⟨.bl ak,H1,I1,rfl,q1⟩
def aEO(ha:PE X a ta):PE X (.UnaryOp .Not a pos) (aKM ta):=by
 intro pins s σ H Q I h;refine UnaryOp_ (dZ (ha pins s σ H _ I h) ?_);rintro v s1 ⟨x,H1,I1,r1,q1⟩;obtain⟨c,rfl,q1⟩:=q1;cases r1;exact not_of (yg ⟨.bl (!c),H1,I1,rfl,q1⟩)
end
end
variable{n:Nat}{cm:Bool}
section
abbrev SqL(K:je)(H:Hp)(a:bw)(xs:List V):Prop :=
 Rd H a (.lst xs) ∨
  ∃(o:Obj)(its:Array aq)(n:Nat),K.lookup a=aj o/\o.cls=.type "list"/\o.dict=au/\o.data=.seq its n/\its.size<=dh/\Vals xs its.toList
abbrev SqT(K:je)(H:Hp)(a:bw)(xs:List V):Prop :=
 Rd H a (.tup xs) ∨
  ∃(o:Obj)(its:Array aq)(n:Nat),K.lookup a=aj o/\o.cls=.type "tuple"/\o.data=.seq its n/\its.size<=dh/\Vals xs its.toList
abbrev aPP:aq->Option V
 |.none=>aj .non
 |.bool b=>aj (.bl b)
 |.int i _=>aj (.int i)
 |.str x _=>aj (.str x)
 |.bytes b _=>aj (.byt b)
 |.float b _=>aj (.flt b)
 |.ref a=>aj (.ref a)
 |.type n=>aj (.ty n)
 |_=>au
def RelV.abs{x:V}(r:RelV x u):aPP u=aj x:=by
 cases x with
 |non=>cases r;rfl
 |bl _=>cases r;rfl
 |int _=>obtain⟨t,rfl⟩:=r;rfl
 |str _=>obtain⟨t,rfl⟩:=r;rfl
 |byt _=>obtain⟨t,rfl⟩:=r;rfl
 |flt _=>obtain⟨t,rfl⟩:=r;rfl
 |ref _=>cases r;rfl
 |ty _=>cases r;rfl
def RelV.inj{x:V}(r:RelV x u)(q:RelV y u):x=y:=jf.inj (r.abs.symm.trans q.abs)
def Vals.inj:∀{xs ys:List V}{us:List aq},Vals xs us->Vals ys us->xs=ys
 |_,_,_,.nil,.nil=>rfl
 |_,_,_,.cons r t,.cons r' t'=>by rw[r.inj r',Vals.inj t t']
section
variable{X:Cx}{pins:List (bw×Obj)}{s:cu}{a:bw}{xs:List V}
def SqL.of{K:je}(h:H a=aj (.lst xs)):SqL K H a xs:=.inl (.inl h)
def SqT.of{K:je}(h:H a=aj (.tup xs)):SqT K H a xs:=.inl (.inl h)
def Inv.list(I:Inv X pins σ H s)(h:SqL X.K H a xs):∃its:List aq,Vals xs its/\PlainL s.heap a its.toArray/\xs.length<=dh:=by
 rcases h with h|⟨o,its,n,hk,hc,hd,hs,hz,r⟩
 .obtain⟨z,its,n,r,e⟩:=h.ok I.hok;exact⟨its,r,⟨_,n,e,rfl,rfl,rfl⟩,z⟩
 .refine⟨its.toList,r,⟨o,n,I.kIn a o hk,hc,hd,by simpa using hs⟩,?_⟩;have e:=r.length;simp only[vf]at e;omega
def Inv.tuple(I:Inv X pins σ H s)(h:SqT X.K H a xs):∃its:List aq,Vals xs its/\IsTup s.heap a its.toArray/\xs.length<=dh:=by
 rcases h with h|⟨o,its,n,hk,hc,hs,hz,r⟩
 .obtain⟨z,its,r,p⟩:=h.ok I.hok;exact⟨its,r,p,z⟩
 .refine⟨its.toList,r,⟨o,I.kIn a o hk,hc,n,by simpa using hs⟩,?_⟩;have e:=r.length;simp only[vf]at e;omega
def Inv.asM(I:Inv X pins σ H s)(h:SqL X.K H a xs)(h':SqL X.K H a ys):xs=ys:=by
 obtain⟨its,r,⟨o,n,e,_,_,d⟩,_⟩:=I.list h;obtain⟨its',r',⟨o',n',e',_,_,d'⟩,_⟩:=I.list h';rw[e]at e';cases e';rw[d]at d';injection d' with d1 _;have:its=its':=by simpa using congrArg Array.toList d1
 subst this;exact r.inj r'
def Inv.a1E(I:Inv X pins σ H s)(h:SqT X.K H a xs)(h':SqT X.K H a ys):xs=ys:=by
 obtain⟨its,r,⟨o,e,_,n,d⟩,_⟩:=I.tuple h;obtain⟨its',r',⟨o',e',_,n',d'⟩,_⟩:=I.tuple h';rw[e]at e';cases e';rw[d]at d';injection d' with d1 _;have:its=its':=by simpa using congrArg Array.toList d1
 subst this;exact r.inj r'
end
section
end
section
variable{X:Cx}{st:qm}{rest:List qm}{t u:TS}{te:TE}{pos:Pos}
abbrev aCW:TS:=λD σ H=>D.nx σ H
abbrev aKO(t u:TS):TS:=λD σ H=>t {D with nx:=u D} σ H
def ayH:PSs X [] aCW:=λ_ _ σ H _ I h=>wpAny_execs_nil ⟨σ,H,I,h⟩
private theorem asN(h1:PS X st t)(h2:PSs X rest u):PSs X (st::rest) (aKO t u):=by
 intro pins s σ H D I h;refine wpAny_execs_cons (dZ (h1 pins s σ H {D with nx:=u D} I h) λf s1 q=>?_);cases f with
 |next =>
  obtain⟨σ',H',I',q⟩:=q;exact h2 pins s1 σ' H' D I' q
 |ret v=>exact q
 |brk=>exact q
 |cont=>exact q
private theorem ayI(h1:PS X st t):PSs X [st] t:=by
 intro pins s σ H D I h;refine wpAny_execs_cons (dZ (h1 pins s σ H D I h) λf s1 q=>?_);cases f with
 |next=>exact wpAny_execs_nil q
 |ret v=>exact q
 |brk=>exact q
 |cont=>exact q
def ayJ:PS X (.Pass pos) aCW:=λ_ _ σ H _ I h=>wpAny_Pass ⟨σ,H,I,h⟩
def Inv.quiet(I:Inv X pins σ H s):interactive X.env=ao:=by simp[interactive,I.ok.kind]
abbrev aKP(te:TE):TS:=λD σ H=>te σ H λ_ H1=>D.nx σ H1
def ayK(he:PE X e te)(hs:a0h e au pos.line X.env=pure ao:=by rfl):PS X (.Expr e pos) (aKP te):=by
 intro pins s σ H D I h;exact wpAny_Expr_any (dZ (he pins s σ H _ I h) (by rintro v s1 ⟨x,H1,I1,r1,q1⟩;exact⟨σ,H1,I1,q1⟩)) I.quiet hs
abbrev aPQ(te:TE):TS:=λD σ H=>te σ H D.rt
def aEP(he:PE X e te):PS X (.Return (aj e) pos) (aPQ te):=by
 intro pins s σ H D I h;exact wpAny_Return_some (dZ (he pins s σ H _ I h) (by rintro v s1 ⟨x,H1,I1,r1,q1⟩;exact⟨x,σ,H1,I1,r1,q1⟩))
abbrev aPR(c:TT)(t u:TS):TS:=λD σ H=>c σ H λb H1=>if b=ak then t D σ H1 else u D σ H1
def aKQ{c:jq}{a b:List qm}(hc:PT X c tc)(ha:PSs X a t)(hb:PSs X b u):PS X (.If c a b pos) (aPR tc t u):=by
 intro pins s σ H D I h;refine wpAny_If (dZ (hc pins s σ H _ I h) ?_);rintro d s1 ⟨H1,I1,q1⟩;cases d with
 |true=>exact ha pins s1 σ H1 D I1 q1
 |false=>exact hb pins s1 σ H1 D I1 q1
end
@[simp]def TG:=V->St->Hp->(St->Hp->Prop)->Prop
@[simp]def TGs:=List V->St->Hp->(St->Hp->Prop)->Prop
abbrev PG(X:Cx)(target:jq)(t:TG):Prop :=
 ∀(pins:List (bw×Obj))(s:cu)(σ:St)(H:Hp)(v:V)(u:aq)(Q:St->Hp->Prop),Inv X pins σ H s->RelV v u->t v σ H Q ->
  dg (dw X.prog X.w) X.A (assign target X.env u) (λ_ s'=>∃σ' H',Inv X pins σ' H' s'/\Q σ' H') X.xe s
abbrev PGs(X:Cx)(ts:List jq)(t:TGs):Prop :=
 ∀(pins:List (bw×Obj))(s:cu)(σ:St)(H:Hp)(vs:List V)(us:List aq)(Q:St->Hp->Prop),Inv X pins σ H s->Vals vs us->t vs σ H Q ->
  dg (dw X.prog X.w) X.A (assignInOrder ((a0e ts X.env).map (·.2)) us) (λ_ s'=>∃σ' H',Inv X pins σ' H' s'/\Q σ' H') X.xe s
variable{i:Nat}
section
variable{X:Cx}{pos:Pos}
abbrev anD(i:Nat):TG:=λv σ H Q=>Q (σ.set i (aj v)) H
def aeV(hN:X.N.Nodup)(hi:X.N[i]?=aj x)(hx:Loc X.env.scope x)(hf:X.fn x=ak∨X.env.scope.names.lookup x=aj .local:=by first|exact .inl rfl|exact .inr rfl|assumption):PG X (.Name x pos) (anD i):=by
 intro pins s σ H v u Q I r h;exact wpAny_assign_Name (a9G I hN hi hx r (λs' I'=>⟨_,H,I',h⟩) hf)
abbrev aKS:TGs:=λvs σ H Q=>vs=[]/\Q σ H
abbrev aCY(t:TG)(u:TGs):TGs:=λvs σ H Q=>∃v r,vs=v::r/\t v σ H λσ' H'=>u r σ' H' Q
def ayL:PGs X [] aKS:=by
 intro pins s σ H vs us Q I r h;obtain⟨e,h⟩:=h;subst e;cases r;exact assignInOrder_nil ⟨σ,H,I,h⟩
def asO{t:TG}(h1:PG X e t)(h2:PGs X es u)
  (hs:(a0e (e::es) X.env).map (·.2)=assign e X.env::(a0e es X.env).map (·.2):=by rfl):PGs X (e::es) (aCY t u):=by
 intro pins s σ H vs us Q I r h;obtain⟨v,vr,e1,h⟩:=h;subst e1;cases r with
 |cons r rr =>
  rw[hs];refine assignInOrder_cons (dZ (h1 pins s σ H _ _ _ I r h) ?_);rintro _ s1 ⟨σ1,H1,I1,q1⟩;exact h2 pins s1 σ1 H1 _ _ Q I1 rr q1
abbrev aPS(K:je)(n:Nat)(t:TGs):TG:=λv σ H Q=>∃a xs,v=.ref a/\SqT K H a xs/\xs.length=n/\t xs σ H Q
def aEQ{k:Nat}{t:TGs}(hc:X.calm=ak)(h:PGs X es t)
  (hn:(a0e es X.env).length=n:=by rfl)(hst:(a0e es X.env).findIdx? (·.1)=au:=by rfl):PG X (.Tuple es k pos) (aPS X.K n t):=by
 intro pins s σ H v u Q I r hw;obtain⟨a,xs,e1,hq,hl,hw⟩:=hw;subst e1;cases r;obtain⟨its,rv,ht,hz⟩:=I.tuple hq;refine assign_Tuple_tuple (I.ok.hd hc) ht (by simp[hn,←hl,rv.length]) hst λh' hx=>?_;have I1:Inv X pins σ H {s with heap:=h' }:=I.kept (t':=s.toks) λb o e=>hx b o (jc (gw e)) e;exact h pins _ σ H xs _ Q I1 (by simpa using rv) hw
abbrev aKT(te:TE)(g:TG):TS:=λD σ H=>te σ H λx H1=>g x σ H1 D.nx
def aER{g:TG}(he:PE X e te)(hg:PG X tg g)(hs:swapsWithSole [tg] e pos.line X.env=pure ao:=by rfl)(hw:swappedStores [tg] e X.env=pure au:=by rfl)
  (h1:(a0e [tg] X.env).map (·.2)=[assign tg X.env]:=by rfl):PS X (.Assign [tg] e pos) (aKT te g):=by
 intro pins s σ H D I h;refine wpAny_Assign_stores (dZ (he pins s σ H _ I h) ?_) hs hw;rintro v s1 ⟨x,H1,I1,r1,q1⟩;rw[h1];exact dZ (hg pins s1 σ H1 x v _ I1 r1 q1) λ_ s2 q=>q
def aES(hN:X.N.Nodup)(hi:X.N[i]?=aj x)(hx:Loc X.env.scope x)(he:PE X e te)(hs:a0h e (aj (.Name x pos')) pos.line X.env=pure ao:=by rfl)(hf:X.fn x=ak∨X.env.scope.names.lookup x=aj .local:=by first|exact .inl rfl|exact .inr rfl|assumption) :
  PS X (.Assign [.Name x pos'] e pos) (aKT te (anD i)):=by
 intro pins s σ H D I h;refine wpAny_Assign_Name (dZ (he pins s σ H _ I h) ?_) hs;rintro v s1 ⟨y,H1,I1,r1,q1⟩;exact a9G I1 hN hi hx r1 (λs2 I2=>⟨_,H1,I2,q1⟩) hf
end
section
end
structure It where
 go:Nat->Hp->Prop
 yld:Nat->Hp->V->Hp->Prop
 stop:Nat->Hp->Prop
abbrev a8F(X:Cx)(pins:List (bw×Obj))(H:Hp)(b:bw):Prop :=
 H b=au/\b≠X.env.locals/\b∉X.fs/\(b∈X.ex∨X.s₀.heap.objs.size<=b)/\(∀x c,X.env.cells.lookup x=aj c->c≠b)/\∀p∈X.pn++pins,p.1≠b
variable{s:cu}
def Inv.a8G(I:Inv X pins σ H s)(hb:s.heap.objs.size<=b)(hn:H' b=au):a8F X pins H' b:=by
 refine⟨hn,a1n (jo I.lt hb),I.aPL hb,.inr (qu I.sz hb),λx c e z=>?_,λp hp z=>?_⟩
 .obtain⟨v,q⟩:=I.cell x c e;exact absurd (jo q.lt (by rw[z];exact hb)) (vq _)
 .exact absurd (jo (gw (I.pin p hp).1) (by rw[z];exact hb)) (vq _)
structure Turn(cm:Bool)(tl:List (bw×List V))(P:jt)(w:jj)(K:je)(tg:jq)(J:It)(fp:List bw)(it:bw)(tn:Nat->jm->Prop):Prop where
 mem:it∈fp
 obj:∀i h,tn i h->∀b∈fp,∃o,h.get? b=aj o/\∀v,o.data≠.cell v
 keep:∀i h h',tn i h->(∀b∈fp,∀o,h.get? b=aj o->h'.get? b=aj o)->tn i h'
 item:∀(X:Cx),X.prog=P->X.w=w->X.K=K->(cm=ak->X.calm=ak)->(∀p∈tl,p∈X.tp)->∀(i:Nat)(pins:List (bw×Obj))(s:cu)(σ:St)(H:Hp)(E:aq->cu->Prop),Inv X pins σ H s->(∀b∈fp,a8F X pins H b)->tn i s.heap->J.go i H ->
  dg (dw P w) X.A (a0g (.ref it)) (λr s1=>∃u,r=aj u /\
   dg (dw P w) X.A (a1v tg (.ref it) u) (λ_ s2=>∃x H',Inv X pins σ H' s2/\RelV x u/\J.yld i H x H'/\tn (i+1) s2.heap/\∀b∈fp,H' b=au) E s1) E s
 done:∀(X:Cx),X.prog=P->X.w=w->X.K=K->(cm=ak->X.calm=ak)->(∀p∈tl,p∈X.tp)->∀(i:Nat)(pins:List (bw×Obj))(s:cu)(σ:St)(H:Hp)(E:aq->cu->Prop),Inv X pins σ H s->(∀b∈fp,a8F X pins H b)->tn i s.heap->J.stop i H ->
  dg (dw P w) X.A (a0g (.ref it)) (λr s1=>r=au/\Inv X pins σ H s1) E s
 self:∀(A:jx)(i:Nat)(s:cu)(Q:aq->cu->Prop)(E:aq->cu->Prop),tn i s.heap->Q (.ref it) s->dg (dw P w) A (pyIter (.ref it)) Q E s
@[simp]def TI:=St->Hp->(It->Hp->Prop)->Prop
abbrev PIE(X:Cx)(pins:List (bw×Obj))(σ:St)(tg:jq)(R:It->Hp->Prop)(itv:aq)(s2:cu):Prop :=
 ∃(it:bw)(fp:List bw)(tn:Nat->jm->Prop)(J:It)(H':Hp),itv=.ref it/\Inv X pins σ H' s2/\Turn X.calm X.tp X.prog X.w X.K tg J fp it tn/\tn 0 s2.heap/\(∀b∈fp,a8F X pins H' b)/\R J H'
abbrev PI(X:Cx)(tg iter:jq)(wi:TI):Prop :=
 ∀(pins:List (bw×Obj))(s:cu)(σ:St)(H:Hp)(R:It->Hp->Prop),Inv X pins σ H s->wi σ H R ->
  dg (dw X.prog X.w) X.A (eval iter X.env) (λv s1=>dg (dw X.prog X.w) X.A (pyIter v) (PIE X pins σ tg R) X.xe s1) X.xe s
def a7O{n:String}(ho:s.heap.get? it=aj o)(hc:o.cls=.type n)(hd:o.data=.fields vs)
  (hn:["enumerate","zip","dict_itemiterator","dict_reverseitemiterator","odict_iterator","itertools.zip_longest","itertools.pairwise"].contains n=ao)(hQ:Q () s):dg M A (a1v tg (.ref it) u) Q E s:=by
 unfold a1v
 cases tg<;>first
  |exact cj hQ
  |(cases u<;>first
    |exact cj hQ
    |(refine bh (wpAny_load ho ?_)
      rw[hc,hd];show dg M A (if(["enumerate","zip","dict_itemiterator","dict_reverseitemiterator","odict_iterator","itertools.zip_longest","itertools.pairwise"].contains n&&vs[0]?==aj (a1l _))=ak then _ else _) Q E s;rw[if_neg (by intro h;rw[hn,Bool.false_and]at h;cases h)];exact cj hQ))
abbrev Itl(K:je)(a:bw):It :=
 ⟨λi H=>∃xs x,SqL K H a xs/\xs[i]?=aj x,λi H x H'=>H'=H/\∀xs,SqL K H a xs->xs[i]?=aj x,λi H=>∃xs,SqL K H a xs/\xs.length<=i⟩
abbrev Itt(K:je)(a:bw):It :=
 ⟨λi H=>∃xs x,SqT K H a xs/\xs[i]?=aj x,λi H x H'=>H'=H/\∀xs,SqT K H a xs->xs[i]?=aj x,λi H=>∃xs,SqT K H a xs/\xs.length<=i⟩
abbrev Itr(lo:Int)(n:Nat):It:=⟨λi _=>i<n,λi H x H'=>H'=H/\x=.int (lo+i),λi _=>n<=i⟩
def adA{w:jj}{K:je}(a it:bw):Turn cm tl P w K tg (Itl K a) [it] it (λi h=>h.IsListIter it a i) where
 mem:=by simp
 obj:=λi h st b hb=>by
  have e:b=it:=by simpa using hb
  subst e;obtain⟨o,e,c,d⟩:=st;exact⟨o,e,λv z=>by rw[d]at z;cases z⟩
 keep:=λi h h' st k=>st.at λo e=>k it (by simp) o e
 item:=by
  intro X hP hw hK hc ht i pins s σ H E I hf st hg;subst hP hw hK;obtain⟨xs,x,hq,hx⟩:=hg;obtain⟨its,rv,p,hz⟩:=I.list hq;obtain⟨u,hu,ru⟩:=rv.get hx;obtain⟨f0,f1,f2,f3,f4,f5⟩:=hf it (by simp);refine wpAny_pyNext_list_item st p.isList (x:=u) (by simpa using hu) λh' st' sb=>?_;have I1:Inv X pins σ H {s with heap:=h' }:=I.turned (t':=s.toks) (λb o hb e=>(sb.2 b hb).trans e) f0 f1 f3 f4 f5;obtain⟨o,e,c,d⟩:=id st';exact⟨u,rfl,a7O (s:={s with heap:=h' }) e c d (by decide) ⟨x,H,I1,ru,⟨rfl,λys hy=>by rw[I.asM hy hq];exact hx⟩,st',λb hb=>(hf b hb).1⟩⟩
 done:=by
  intro X hP hw hK hc ht i pins s σ H E I hf st hg;subst hP hw hK;obtain⟨xs,hq,hx⟩:=hg;obtain⟨its,rv,p,hz⟩:=I.list hq;obtain⟨f0,f1,f2,f3,f4,f5⟩:=hf it (by simp);have hl:=rv.length;exact apV (I.hnd.heap I.hok) st p.isList (by simp;omega) λh' eb=>⟨rfl,I.turned (t':=s.toks) (λb o hb e=>eb b o hb e) f0 f1 f3 f4 f5⟩
 self:=λ_ _ _ _ _ st h=>wpAny_pyIter_listiter st h
def a9I{w:jj}{K:je}(a it:bw):Turn cm tl P w K tg (Itt K a) [it] it (λi h=>h.IsTupleIter it a i) where
 mem:=by simp
 obj:=λi h st b hb=>by
  have e:b=it:=by simpa using hb
  subst e;obtain⟨o,e,c,d⟩:=st;exact⟨o,e,λv z=>by rw[d]at z;cases z⟩
 keep:=λi h h' st k=>st.at λo e=>k it (by simp) o e
 item:=by
  intro X hP hw hK hc ht i pins s σ H E I hf st hg;subst hP hw hK;obtain⟨xs,x,hq,hx⟩:=hg;obtain⟨its,rv,p,hz⟩:=I.tuple hq;obtain⟨u,hu,ru⟩:=rv.get hx;obtain⟨f0,f1,f2,f3,f4,f5⟩:=hf it (by simp);refine wpAny_pyNext_tuple_item st (show s.heap.IsTuple a its.toArray from p) (x:=u) (by simpa using hu) λh' st' sb=>?_;have I1:Inv X pins σ H {s with heap:=h' }:=I.turned (t':=s.toks) (λb o hb e=>(sb.2 b hb).trans e) f0 f1 f3 f4 f5;obtain⟨o,e,c,d⟩:=id st';exact⟨u,rfl,a7O (s:={s with heap:=h' }) e c d (by decide) ⟨x,H,I1,ru,⟨rfl,λys hy=>by rw[I.a1E hy hq];exact hx⟩,st',λb hb=>(hf b hb).1⟩⟩
 done:=by
  intro X hP hw hK hc ht i pins s σ H E I hf st hg;subst hP hw hK;obtain⟨xs,hq,hx⟩:=hg;obtain⟨its,rv,p,hz⟩:=I.tuple hq;obtain⟨f0,f1,f2,f3,f4,f5⟩:=hf it (by simp);have hl:=rv.length;exact asG (I.hnd.heap I.hok) st (show s.heap.IsTuple a its.toArray from p) (by simp;omega) λh' eb=>⟨rfl,I.turned (t':=s.toks) (λb o hb e=>eb b o hb e) f0 f1 f3 f4 f5⟩
 self:=λ_ _ _ _ _ st h=>wpAny_pyIter_tupleiter st h
def akU{w:jj}{K:je}(it:bw)(lo:Int)(n:Nat):Turn cm tl P w K tg (Itr lo n) [it] it (λi h=>IsRangeIter h it (lo+(i:Nat)*1) ((n:Int) - (i:Nat)) 1) where
 mem:=by simp
 obj:=λi h st b hb=>by
  have e:b=it:=by simpa using hb
  subst e
  exact⟨_,st,λv z=>by
   have z':Data.fields _=Data.cell v:=z;cases z'⟩
 keep:=λi h h' st k=>k it (by simp) _ st
 item:=by
  intro X hP hw hK hc ht i pins s σ H E I hf st hg;subst hP hw hK;obtain⟨f0,f1,f2,f3,f4,f5⟩:=hf it (by simp);have hi:i<n:=hg;refine wpAny_pyNext_range_item st (by omega) λh' st' kk=>?_;have I1:Inv X pins σ H {s with heap:=h',toks:=s.toks+1}:=I.turned (λb o hb e=>(kk.2 b hb).trans e) f0 f1 f3 f4 f5
  have st2:IsRangeIter h' it (lo+((i+1:Nat):Int)*1) ((n:Int) - ((i+1:Nat):Int)) 1:=by
   have e1:lo+((i:Nat):Int)*1+1=lo+((i+1:Nat):Int)*1:=by omega
   have e2:(n:Int) - ((i:Nat):Int) - 1=(n:Int) - ((i+1:Nat):Int):=by omega
   rw[←e1,←e2];exact st'
  refine⟨_,rfl,a7O (s:={s with heap:=h',toks:=s.toks+1}) (n:="range_iterator") st2 rfl rfl (by decide) ⟨.int (lo+i),H,I1,⟨s.toks,?_⟩,⟨rfl,rfl⟩,st2,λb hb=>(hf b hb).1⟩⟩;rw[Int.mul_one]
 done:=by
  intro X hP hw hK hc ht i pins s σ H E I hf st hg;subst hP hw hK;obtain⟨f0,f1,f2,f3,f4,f5⟩:=hf it (by simp);exact asH (I.hnd.heap I.hok) st (by have:n<=i:=hg;omega) λh' eb=>⟨rfl,I.turned (t':=s.toks) (λb o hb e=>eb b o hb e) f0 f1 f3 f4 f5⟩
 self:=λ_ _ _ _ _ st h=>wpAny_pyIter_rangeiter st h
end
section
section
variable{X:Cx}
def asQ{s:cu}{lo hi:Int}{t v:Tok}{tk:Nat}(I:Inv X pins σ H s)(h1:-(2^62)<=lo)(h2:lo<2^62)(h3:-(2^62)<=hi)(h4:hi<2^62)
  (q:R (Itr lo (hi - lo).toNat) H):dg (dw X.prog X.w) X.A (pyIter (.ref s.heap.objs.size)) (PIE X pins σ tg R) E {s with heap:=s.heap.push {cls:=.type "range",data:=.fields #[.int lo t,.int hi u,.int 1 v]},toks:=tk}:=by
 refine wpAny_pyIter_range (IsRange.new ..) (small_one h1 h2 h3 h4) ?_;have I1:Inv X pins σ H {s with heap:=s.heap.push {cls:=.type "range",data:=.fields #[.int lo t,.int hi u,.int 1 v]},toks:=tk}:=I.kept λb o e=>cg _ e
 refine⟨(s.heap.push {cls:=.type "range",data:=.fields #[.int lo t,.int hi u,.int 1 v]}).objs.size,[(s.heap.push {cls:=.type "range",data:=.fields #[.int lo t,.int hi u,.int 1 v]}).objs.size],_,_,H,rfl,
  I1.kept (t':=tk) λb o e=>cg _ e,akU _ lo (hi - lo).toNat,?_,λb hb=>?_,q⟩
 .have e1:lo+((0:Nat):Int)*1=lo:=by simp
  have e2:(((hi - lo).toNat:Nat):Int) - ((0:Nat):Int)=Builtin.Range.rangeSize lo hi 1:=by rw[rangeSize_one];split<;>omega
  show IsRangeIter _ _ (lo+((0:Nat):Int)*1) ((((hi - lo).toNat:Nat):Int) - ((0:Nat):Int)) 1;rw[e1,e2];exact iw _ rfl
 .have e:b=(s.heap.push {cls:=.type "range",data:=.fields #[.int lo t,.int hi u,.int 1 v]}).objs.size:=by simpa using hb
  subst e;exact I1.a8G (dz _) (I1.hok.fresh (dz _))
abbrev aKV(ta:TA):TI:=λσ H R=>ta σ H λvs H1=>∃j:Int,vs=[.int j]/\-(2^62)<=j/\j<2^62/\R (Itr 0 j.toNat) H1
def adB{a:jq}{p:Pos}(hg:Gl X "range")(hm:X.mg "range"=au)(ha:PA X [a] ta)(hs:ji [a] X.env=[(ao,eval a X.env)]:=by rfl):PI X tg (.Call (.Name "range" p) [a] [] pos) (aKV ta):=by
 intro pins s σ H R I h;refine Call_ (a3M I hg hm boot_range (PyProof.Rows.callWith_type1 (dZ (ha pos pins s σ H _ I h) ?_) hs rfl));rintro us s1 ⟨vs,H1,I1,r1,q1⟩;obtain⟨j,e,q1,q2,q⟩:=q1;subst e;cases r1 with
 |cons r rr =>
  cases rr;obtain⟨t,rfl⟩:=r;exact call_range_1 (asQ I1 (by omega) (by omega) q1 q2 (by simpa using q))
abbrev aPV(wi:TI)(g:TG)(tb:TS):TS:=λD σ H=>wi σ H λJ H1=>∃W:Nat->Nat->St->Hp->Prop,(∃m,W 0 m σ H1)/\∀i m σ H,W i m σ H ->
 (J.stop i H/\D.nx σ H)∨(J.go i H/\∃N:St->Hp->Prop,(∀σ' H',N σ' H'->∃m',m'<m/\W (i+1) m' σ' H')/\∀x H',J.yld i H x H'->g x σ H' λσ2 H2=>tb {D with nx:=N,ct:=N,bk:=D.nx} σ2 H2)
abbrev a6E(fp:List bw)(h:jm):List (bw×Obj):=fp.filterMap λb=>(h.get? b).map λo=>(b,o)
def xJ{h:jm}(hb:b∈fp)(e:h.get? b=aj o):(b,o)∈a6E fp h:=a1F.mpr ⟨b,hb,by rw[e];rfl⟩
def aq2{h:jm}{p:bw×Obj}(hp:p∈a6E fp h):p.1∈fp/\h.get? p.1=aj p.2:=by
 obtain⟨b,hb,e⟩:=a1F.mp hp;cases q:h.get? b with
 |none=>rw[q]at e;cases e
 |some o =>
  rw[q]at e;have e':(b,o)=p:=jf.inj e;subst e';exact⟨hb,q⟩
def Inv.pinned{s:cu}(I:Inv X pins σ H s)(hf:∀b∈fp,a8F X pins H b)(ho:∀b∈fp,∃o,s.heap.get? b=aj o/\∀v,o.data≠.cell v):Inv X (pins++a6E fp s.heap) σ H s :=
 I.anB λp hp=>(uo.mp hp).elim (λz=>I.pin p (qz _ z)) λz=>by
  obtain⟨hb,e⟩:=aq2 z;obtain⟨f0,f1,f2,_⟩:=hf p.1 hb;obtain⟨o,e',d⟩:=ho p.1 hb;rw[e]at e';cases e';exact⟨e,f0,f1,f2,d⟩
def Inv.a4T(I:Inv X (pins++pl) σ H s):Inv X pins σ H s:=I.anB λp hp=>I.pin p (qz _ (a1p _ hp))
private theorem aET{g:TG}(hp:PassesOwn (dw X.prog X.w) X.A X.env X.xe)(hi:PI X tg iter wi)(hg:PG X tg g)(hb:PSs X body tb)
  (hs:∀x,a1j iter X.env x=pure x:=by intro _;rfl):PS X (.For tg iter body [] pos) (aPV wi g tb):=by
 intro pins s σ H D I h;refine wpAny_For (dZ (hi pins s σ H _ I h) λv s1 h1=>dZ h1 λitv s2 h2=>?_) hs;obtain⟨it,fp,tn,J,H2,e,I2,T,st2,f2,W,⟨m0,w0⟩,turn⟩:=h2;subst e;have stat:∀{H':Hp},(∀b∈fp,H' b=au)->∀b∈fp,a8F X pins H' b:=λhn b hb=>⟨hn b hb,(f2 b hb).2⟩;refine codeAny_forLoop_any (λn s'=>∃i σ' H',Inv X pins σ' H' s'/\tn i s'.heap/\(∀b∈fp,H' b=au)/\W i n σ' H') ?_ m0 ⟨0,σ,H2,I2,st2,λb hb=>(f2 b hb).1,w0⟩;rintro n s3 ⟨i,σ3,H3,I3,st3,fr3,w3⟩;rcases turn i n σ3 H3 w3 with⟨stop,qn⟩|⟨go,N,hN,step⟩
 .refine a1w hp (dZ (T.done X rfl rfl rfl (λh=>h) (λ_ h=>h) i pins s3 σ3 H3 X.xe I3 (stat fr3) st3 stop) ?_);rintro r s4 ⟨hr,I4⟩;subst hr;exact wpAny_execs_nil ⟨σ3,H3,I4,qn⟩
 .refine a1w hp (dZ (T.item X rfl rfl rfl (λh=>h) (λ_ h=>h) i pins s3 σ3 H3 X.xe I3 (stat fr3) st3 go) ?_);rintro r s4 ⟨u,hr,h4⟩;subst hr;refine a1w hp (dZ h4 λ_ s5 ⟨x,H5,I5,r5,y5,st5,fr5⟩=>?_);have I5':=I5.pinned (stat fr5) (T.obj _ _ st5);refine a1w hp (dZ (hg _ s5 σ3 H5 x u _ I5' r5 (step x H5 y5)) λ_ s6 ⟨σ6,H6,I6,q6⟩=>?_);refine a1w hp (dZ (hb _ s6 σ6 H6 _ I6 q6) λf s7 q7=>?_)
  have again:∀{σ7:St}{H7:Hp},Inv X (pins++a6E fp s5.heap) σ7 H7 s7->N σ7 H7->∃m,m<n/\∃i σ' H',Inv X pins σ' H' s7/\tn i s7.heap/\(∀b∈fp,H' b=au)/\W i m σ' H':=λ{σ7 H7} I7 n7=>by
   obtain⟨m',hm,w7⟩:=hN σ7 H7 n7;refine⟨m',hm,i+1,σ7,H7,I7.a4T,T.keep _ _ _ st5 λb hb o e=>(I7.pin (b,o) (qz _ (qz _ (xJ hb e)))).1,λb hb=>?_,w7⟩;obtain⟨o,e,d⟩:=T.obj _ _ st5 b hb;exact(I7.pin (b,o) (qz _ (qz _ (xJ hb e)))).2.1
  cases f with
  |next=>obtain⟨σ7,H7,I7,n7⟩:=q7;exact again I7 n7
  |cont=>obtain⟨σ7,H7,I7,n7⟩:=q7;exact again I7 n7
  |brk=>obtain⟨σ7,H7,I7,q7⟩:=q7;exact⟨σ7,H7,I7.a4T,q7⟩
  |ret v=>obtain⟨x7,σ7,H7,I7,r7,q7⟩:=q7;exact⟨x7,σ7,H7,I7.a4T,r7,q7⟩
end
end
section
@[simp]def R2:=V->V->Hp->VK->Prop
abbrev vV(X:Cx)(f:aq->aq->Sem aq)(r:R2):Prop :=
 ∀(pins:List (bw×Obj))(s:cu)(σ:St)(H:Hp)(x y:V)(v u:aq)(Q:VK),Inv X pins σ H s->RelV x v->RelV y u->r x y H Q ->
  dg (dw X.prog X.w) X.A (f v u) (EP X pins σ Q) X.xe s
abbrev UnR(X:Cx)(f:aq->Sem aq)(r:V->Hp->VK->Prop):Prop :=
 ∀(pins:List (bw×Obj))(s:cu)(σ:St)(H:Hp)(x:V)(v:aq)(Q:VK),Inv X pins σ H s->RelV x v->r x H Q ->
  dg (dw X.prog X.w) X.A (f v) (EP X pins σ Q) X.xe s
abbrev vZ(X:Cx)(f:aq)(r:List V->Hp->VK->Prop):Prop :=
 ∀(pins:List (bw×Obj))(s:cu)(σ:St)(H:Hp)(xs:List V)(us:List aq)(Q:VK),Inv X pins σ H s->Vals xs us->r xs H Q ->
  dg (dw X.prog X.w) X.A (call f us) (EP X pins σ Q) X.xe s
abbrev tOp(r:R2)(ta tb:TE):TE:=λσ H Q=>ta σ H λx H1=>tb σ H1 λy H2=>r x y H2 Q
abbrev tUn(r:V->Hp->VK->Prop)(ta:TE):TE:=λσ H Q=>ta σ H λx H1=>r x H1 Q
abbrev rI(C:Int->Int->Prop)(g:Int->Int->V):R2:=λx y H Q=>∃i j,x=.int i/\y=.int j/\C i j/\Q (g i j) H
abbrev rI0(g:Int->Int->V):R2:=λx y H Q=>∃i j,x=.int i/\y=.int j/\Q (g i j) H
abbrev rU(g:Int->V):V->Hp->VK->Prop:=λx H Q=>∃i,x=.int i/\Q (g i) H
variable{r:R2}
section
variable{X:Cx}{a b:jq}{ta tb:TE}{pos:Pos}
def aEU(ha:PE X a ta)(hb:PE X b tb){s:cu}{σ:St}{H:Hp}{R:V->V->Hp->Prop}(I:Inv X pins σ H s)
  (h:ta σ H λx H1=>tb σ H1 λy H2=>R x y H2){Q:aq->cu->Prop}{f:aq->aq->Sem aq}
  (hf:∀v u s2 x y H2,Inv X pins σ H2 s2->RelV x v->RelV y u->R x y H2->dg (dw X.prog X.w) X.A (f v u) Q X.xe s2) :
  dg (dw X.prog X.w) X.A (eval a X.env) (λv s₁=>dg (dw X.prog X.w) X.A (eval b X.env) (λu s₂=>dg (dw X.prog X.w) X.A (f v u) Q X.xe s₂) X.xe s₁) X.xe s:=by
 refine dZ (ha pins s σ H _ I h) ?_;rintro v s1 ⟨x,H1,I1,r1,q1⟩;refine dZ (hb pins s1 σ H1 _ I1 q1) ?_;rintro u s2 ⟨y,H2,I2,r2,q2⟩;exact hf v u s2 x y H2 I2 r1 r2 q2
def aKW(ho:vV X (xr op) r)(ha:PE X a ta)(hb:PE X b tb):PE X (.BinOp a op b pos) (tOp r ta tb):=by
 intro pins s σ H Q I h;exact wpAny_BinOp (aEU ha hb I h λv u s2 x y H2 I2 rx ry q=>ho pins s2 σ H2 x y v u Q I2 rx ry q)
def aKX{r:V->Hp->VK->Prop}(ho:UnR X (unaryOp op) r)(ha:PE X a ta):PE X (.UnaryOp op a pos) (tUn r ta):=by
 intro pins s σ H Q I h;exact UnaryOp_ (dZ (ha pins s σ H _ I h) (by rintro v s1 ⟨x,H1,I1,r1,q1⟩;exact ho pins s1 σ H1 x v Q I1 r1 q1))
def opI{g:Int->Int->Int}
  (rule:∀(i j:Int)(t u:Tok)(s:cu)(Q:aq->cu->Prop)(E:aq->cu->Prop),C i j->Q (.int (g i j) s.toks) {s with toks:=s.toks+1}->dg (dw X.prog X.w) X.A (f (.int i t) (.int j u)) Q E s) :
  vV X f (rI C λi j=>.int (g i j)):=by
 intro pins s σ H x y v u Q I rx ry h;obtain⟨i,j,rfl,rfl,hc,q⟩:=h;obtain⟨t,rfl⟩:=rx;obtain⟨t',rfl⟩:=ry;exact rule i j t t' s _ _ hc ⟨.int (g i j),H,I.tok _,⟨_,rfl⟩,q⟩
def aKY{g:Int->Int->Int}
  (rule:∀(i j:Int)(t u:Tok)(s:cu)(Q:aq->cu->Prop)(E:aq->cu->Prop),Q (.int (g i j) s.toks) {s with toks:=s.toks+1}->dg (dw X.prog X.w) X.A (f (.int i t) (.int j u)) Q E s) :
  vV X f (rI0 λi j=>.int (g i j)):=by
 intro pins s σ H x y v u Q I rx ry h;obtain⟨i,j,rfl,rfl,q⟩:=h;obtain⟨t,rfl⟩:=rx;obtain⟨t',rfl⟩:=ry;exact rule i j t t' s _ _ ⟨.int (g i j),H,I.tok _,⟨_,rfl⟩,q⟩
def ayM{g:Int->Int->Bool}
  (rule:∀(i j:Int)(t u:Tok)(s:cu)(Q:aq->cu->Prop)(E:aq->cu->Prop),Q (.bool (g i j)) s->dg (dw X.prog X.w) X.A (f (.int i t) (.int j u)) Q E s) :
  vV X f (rI0 λi j=>.bl (g i j)):=by
 intro pins s σ H x y v u Q I rx ry h;obtain⟨i,j,rfl,rfl,q⟩:=h;obtain⟨t,rfl⟩:=rx;obtain⟨t',rfl⟩:=ry;exact rule i j t t' s _ _ ⟨.bl (g i j),H,I,rfl,q⟩
abbrev aEV(i j:Int):Prop:=0<j/\j<1073741824
abbrev aEW(i j:Int):Prop:=0<=j/\j<=1000000/\i.natAbs<2^64
abbrev asR(i j:Int):Prop:=(-(2^64)<i/\i<2^64)∨(-(2^64)<j/\j<2^64)
def asR.ok{i j:Int}(h:asR i j):IntMulOk i j:=by
 rcases h with⟨h1,h2⟩|⟨h1,h2⟩
 .exact .of_left (intBits_le_64 h1 h2)
 .exact .of_right (intBits_le_64 h1 h2)
def aEX:vV X (xr .Add) (rI0 λi j=>.int (i+j)):=aKY λ_ _ _ _ _ _ _ q=>add_int q
def aEY:vV X (xr .Sub) (rI0 λi j=>.int (i - j)):=aKY λ_ _ _ _ _ _ _ q=>sub_int q
def aEZ:vV X (xr .Mult) (rI asR λi j=>.int (i*j)):=opI λ_ _ _ _ _ _ _ hc q=>mul_int q hc.ok
def ayN:vV X (xr .FloorDiv) (rI aEV λi j=>.int (i / j)):=opI λi j _ _ _ _ _ hc q=>by
 have h1:(0:Int)<j:=hc.1;have h2:j<1073741824:=hc.2;exact floordiv_int (by omega) (by rw[Int.fdiv_eq_ediv_of_nonneg i (by omega)];exact q) (.inl (PyProof.noPylong_small (by omega)))
def aF0:vV X (xr .Mod) (rI (λ_ j=>0<j) λi j=>.int (i%j)):=opI λi j _ _ _ _ _ hc q=>by
 have h1:(0:Int)<j:=hc;exact mod_int' (by omega) (by rw[Int.fmod_eq_emod_of_nonneg i (by omega)];exact q)
def aF1:vV X (xr .Pow) (rI aEW λi j=>.int (i^j.toNat)):=opI λ_ _ _ _ _ _ _ hc q=>pow_int_small hc.1 hc.2.1 hc.2.2 q
def unI{g:Int->Int}
  (rule:∀(i:Int)(t:Tok)(s:cu)(Q:aq->cu->Prop)(E:aq->cu->Prop),Q (.int (g i) s.toks) {s with toks:=s.toks+1}->dg (dw X.prog X.w) X.A (f (.int i t)) Q E s) :
  UnR X f (rU λi=>.int (g i)):=by
 intro pins s σ H x v Q I rx h;obtain⟨i,rfl,q⟩:=h;obtain⟨t,rfl⟩:=rx;exact rule i t s _ _ ⟨.int (g i),H,I.tok _,⟨_,rfl⟩,q⟩
def aF2:UnR X (unaryOp .USub) (rU λi=>.int (-i)):=unI λ_ _ _ _ _ q=>neg_int q
end
variable{x:V}
section
variable{X:Cx}{a b c:jq}{ta tb tc:TE}{pos:Pos}
def aeW{Q:VK}{k k':Bool}(I:Inv X pins σ H s)(q:Q (.bl k) H)(e:k=k'):EP X pins σ Q (.bool k') s:=by
 subst e;exact⟨.bl k,H,I,rfl,q⟩
def aKZ:vV X (jg .Lt) (rI0 λi j=>.bl (decide (i<j))):=ayM λ_ _ _ _ _ _ _ q=>lt_int q
def aL0:vV X (jg .LtE) (rI0 λi j=>.bl (decide (i<=j))):=ayM λ_ _ _ _ _ _ _ q=>le_int q
def aL1:vV X (jg .Gt) (rI0 λi j=>.bl (decide (j<i))):=ayM λ_ _ _ _ _ _ _ q=>gt_int q
def aL2:vV X (jg .GtE) (rI0 λi j=>.bl (decide (j<=i))):=ayM λ_ _ _ _ _ _ _ q=>ge_int q
def aq3:vV X (jg .In) (λx y H Q=>∃i j,x=.str i/\y=.str j/\Q (.bl (!(Builtin.Str.occurrences j i 0 j.length 1).isEmpty)) H):=by
 intro pins s σ H x y v u Q I rx ry h;obtain⟨i,j,rfl,rfl,q⟩:=h;obtain⟨t,rfl⟩:=rx;obtain⟨t',rfl⟩:=ry;exact in_str (aeW I q rfl)
def aF3:vV X (jg .Is) (λx y H Q=>y=.non/\Q (.bl (decide (x=.non))) H):=by
 intro pins s σ H x y v u Q I rx ry h;obtain⟨rfl,q⟩:=h;cases ry;refine is_none_gen (aeW I q ?_)
 cases x<;>first
  |(cases rx;rfl)
  |(obtain⟨t,rfl⟩:=rx;rfl)
def ayO:vV X (jg .IsNot) (λx y H Q=>y=.non/\Q (.bl (!decide (x=.non))) H):=by
 intro pins s σ H x y v u Q I rx ry h;obtain⟨rfl,q⟩:=h;cases ry;refine isnot_none_gen (aeW I q ?_)
 cases x<;>first
  |(cases rx;rfl)
  |(obtain⟨t,rfl⟩:=rx;rfl)
def aeX:vV X (jg .NotIn) (λx y H Q=>∃i j,x=.str i/\y=.str j/\Q (.bl (!(!(Builtin.Str.occurrences j i 0 j.length 1).isEmpty))) H):=by
 intro pins s σ H x y v u Q I rx ry h;obtain⟨i,j,rfl,rfl,q⟩:=h;obtain⟨t,rfl⟩:=rx;obtain⟨t',rfl⟩:=ry;exact notIn_str (aeW I q rfl)
def vV.or(h:vV X f r)(h':vV X f r'):vV X f (λx y H Q=>r x y H Q∨r' x y H Q):=by
 intro pins s σ H x y v u Q I rx ry q;rcases q with q|q
 .exact h pins s σ H x y v u Q I rx ry q
 .exact h' pins s σ H x y v u Q I rx ry q
def aPX(b:jq)(h:op≠.In:=by decide)(h2:op≠.NotIn:=by decide):yw op b=ao:=by
 have e1:(op==vh.In)=ao:=by cases op<;>first|rfl|exact absurd rfl h
 have e2:(op==vh.NotIn)=ao:=by cases op<;>first|rfl|exact absurd rfl h2
 cases b<;>simp[yw,e1,e2]
def ayP(ho:vV X (jg op) r)(ha:PE X a ta)(hb:PE X b tb)(hm:yw op b=ao):PE X (.Compare a [op] [b] pos) (tOp r ta tb):=by
 intro pins s σ H Q I h;exact wpAny_Compare1 (aEU ha hb I h λv u s2 x y H2 I2 rx ry q=>ho pins s2 σ H2 x y v u Q I2 rx ry q) hm
abbrev asS(t:TE):TT:=λσ H Q=>t σ H λx H'=>∃k,x=.bl k/\Q k H'
def ayQ(ho:vV X (jg op) r)(ha:PE X a ta)(hb:PE X b tb)(hm:yw op b=ao):PT X (.Compare a [op] [b] pos) (asS (tOp r ta tb)):=by
 intro pins s σ H Q I h
 refine wpAny_isTrue_Compare1 (dZ (ha pins s σ H _ I h) λv s1 ⟨x,H1,I1,r1,q1⟩=>dZ (hb pins s1 σ H1 _ I1 q1) λu s2 ⟨y,H2,I2,r2,q2⟩ =>
  dZ (ho pins s2 σ H2 x y v u _ I2 r1 r2 q2) λc s3 ⟨z,H3,I3,r3,k,e,q3⟩=>?_) hm
 subst e;cases r3;exact yg ⟨H3,I3,q3⟩
abbrev akV(r r':R2)(ta tb tc:TE):TE:=λσ H Q=>ta σ H λx H1=>tb σ H1 λy H2=>r x y H2 λz H3=>∃k,z=.bl k /\
 (if k=ak then tc σ H3 λw' H4=>r' y w' H4 Q else Q (.bl ao) H3)
def asT(ho:vV X (jg op) r)(ho':vV X (jg op') r')(ha:PE X a ta)(hb:PE X b tb)(hc:PE X c tc)
  (hm:lastMarks [op,op'] [b,c]=ao:=by with_unfolding_all rfl):PE X (.Compare a [op,op'] [b,c] pos) (akV r r' ta tb tc):=by
 intro pins s σ H Q I h
 refine Compare_chain (dZ (ha pins s σ H _ I h) λv s1 ⟨x,H1,I1,r1,q1⟩=>chain_link (dZ (hb pins s1 σ H1 _ I1 q1) λu s2 ⟨y,H2,I2,r2,q2⟩ =>
  dZ (ho pins s2 σ H2 x y v u _ I2 r1 r2 q2) λd s3 ⟨z,H3,I3,r3,k,e,q3⟩=>?_)) hm
 subst e;cases r3;refine yg ?_;cases k with
 |false=>exact ite_ff ⟨.bl ao,H3,I3,rfl,q3⟩
 |true=>exact ite_tt (chain_last (dZ (hc pins s3 σ H3 _ I3 q3) λw' s4 ⟨z',H4,I4,r4,q4⟩=>ho' pins s4 σ H4 y z' u w' Q I4 r2 r4 q4))
def asU(ho:vV X (jg op) r)(ho':vV X (jg op') r')(ha:PE X a ta)(hb:PE X b tb)(hc:PE X c tc)
  (hm:lastMarks [op,op'] [b,c]=ao:=by with_unfolding_all rfl):PT X (.Compare a [op,op'] [b,c] pos) (asS (akV r r' ta tb tc)):=by
 intro pins s σ H Q I h
 refine isTrue_chain (dZ (ha pins s σ H _ I h) λv s1 ⟨x,H1,I1,r1,q1⟩=>test_link (dZ (hb pins s1 σ H1 _ I1 q1) λu s2 ⟨y,H2,I2,r2,q2⟩ =>
  dZ (ho pins s2 σ H2 x y v u _ I2 r1 r2 q2) λd s3 ⟨z,H3,I3,r3,k,e,q3⟩=>?_)) hm
 subst e;cases r3;refine yg ?_;cases k with
 |false =>
  obtain⟨k',e',q'⟩:=q3;cases e';exact ite_ff ⟨H3,I3,q'⟩
 |true =>
  refine ite_tt (test_last (dZ (hc pins s3 σ H3 _ I3 q3) λw' s4 ⟨z',H4,I4,r4,q4⟩=>dZ (ho' pins s4 σ H4 y z' u w' _ I4 r2 r4 q4) ?_));rintro d' s5 ⟨z2,H5,I5,r5,k2,e2,q5⟩;subst e2;cases r5;exact yg ⟨H5,I5,q5⟩
def a9J:(dh:Nat)<2^63:=by rw[sizeLine_eq];decide
def akW:vV X (xr .Add) (λx y H Q=>∃i j,x=.str i/\y=.str j/\i.length+j.length<=dh/\Q (.str (i++j)) H):=by
 intro pins s σ H x y v u Q I rx ry h;obtain⟨i,j,rfl,rfl,hz,q⟩:=h;obtain⟨t,rfl⟩:=rx;obtain⟨t',rfl⟩:=ry;exact add_str (λt' tk=>⟨.str (i++j),H,I.tok _,⟨_,rfl⟩,q⟩) hz
def vals1(r:Vals [x] us):∃u,us=[u]/\RelV x u:=by
 cases r with
 |cons r1 r2=>cases r2;exact⟨_,rfl,r1⟩
def vals2(r:Vals [x,y] us):∃u w',us=[u,w']/\RelV x u/\RelV y w':=by
 cases r with
 |cons r1 r2 =>
  cases r2 with
  |cons r3 r4=>cases r4;exact⟨_,_,rfl,r1,r3⟩
def aq4(hc:X.calm=ak):vZ X (.builtin "max") (λxs H Q=>∃i j,xs=[.int i,.int j]/\Q (.int (if j>i then j else i)) H):=by
 intro pins s σ H xs us Q I r h;obtain⟨i,j,rfl,q⟩:=h;obtain⟨u,w',rfl,⟨t,rfl⟩,⟨t',rfl⟩⟩:=vals2 r;refine max_two_ints (I.ok.hd hc) λh' tk k=>⟨_,H,I.kept k,?_,q⟩;by_cases hj:j>i
 .rw[if_pos hj,if_pos hj];exact⟨_,rfl⟩
 .rw[if_neg hj,if_neg hj];exact⟨_,rfl⟩
def aq5(hc:X.calm=ak):vZ X (.builtin "min") (λxs H Q=>∃i j,xs=[.int i,.int j]/\Q (.int (if j<i then j else i)) H):=by
 intro pins s σ H xs us Q I r h;obtain⟨i,j,rfl,q⟩:=h;obtain⟨u,w',rfl,⟨t,rfl⟩,⟨t',rfl⟩⟩:=vals2 r;refine min_two_ints (I.ok.hd hc) λh' tk k=>⟨_,H,I.kept k,?_,q⟩;by_cases hj:j<i
 .rw[if_pos hj,if_pos hj];exact⟨_,rfl⟩
 .rw[if_neg hj,if_neg hj];exact⟨_,rfl⟩
def aq6:vZ X (.type "int") (λxs H Q=>(∃i,xs=[.int i]/\Q (.int i) H)∨∃k,xs=[.bl k]/\Q (.int (if k then 1 else 0)) H):=by
 intro pins s σ H xs us Q I r h;rcases h with⟨i,rfl,q⟩|⟨k,rfl,q⟩
 .obtain⟨u,rfl,t,rfl⟩:=vals1 r;exact call_int_int ⟨.int i,H,I,⟨_,rfl⟩,q⟩
 .obtain⟨u,rfl,r1⟩:=vals1 r;cases r1;exact call_int_bool ⟨.int (if k then 1 else 0),H,I.tok _,⟨_,rfl⟩,q⟩
end
end
variable{env:Env}
section
structure akX(h:jm)(x dx C:bw)(mA:Str->Option aq):Prop where
 obj:h.get? x=aj (zu C dx)
 ns:h.Ns1 dx mA
 ne:dx≠x
private theorem aq7{h:jm}{mA:Str->Option aq}(n:h.Ns1 dx mA):∃od,h.get? dx=aj od/\∀name,a2y name od=aj (mA name):=by
 obtain⟨o,es,ep,ho,hd,hk,_,hm⟩:=n;refine⟨o,ho,λname=>?_⟩;have e:=hm name;unfold nsFind findBy at e;rw[←Array.find?_toList]at e;unfold a2y;rw[hd];dsimp only;split
 ·rename_i y q;rw[q]at e;exact congrArg aj e
 .rename_i q;rw[q]at e
  have a:es.toList.any (·.refKey)=ao:=by
   rw[List.any_eq_false];intro y hy;obtain⟨z,t,hkey⟩:=hk y (Array.mem_toList_iff.mp hy);simp[a0q.refKey,hkey]
  have a':¬ es.toList.any (·.refKey)=ak:=by rw[a];exact qw
  rw[if_neg a'];exact congrArg aj e
def akX.look{h:jm}{x:bw}{mA:Str->Option aq}(I:akX h x dx C mA):∃od,PySem.W.InstAt h x (zu C dx) C (aj od)/\∀name,a2y name od=aj (mA name) :=
 let⟨od,ho,hl⟩:=aq7 I.ns
 ⟨od,⟨I.obj,rfl,rfl,ho⟩,hl⟩
section
variable{prog:jt}{w:jj}{A:jx}{s:cu}{K:je}{x:bw}{mA:Str->Option aq}{v:aq}
def get_map{expr:Bool}(X:K.In s.heap)(I:akX s.heap x dx C mA)(hg:a1q K C name=ak)(hh:a2d K C=ak)
  (ha:lg K (.ref C) name=aj au)(hv:mA name=aj v)(hv':PySem.W.handedIn v=ak)(h:Q v {s with toks:=s.toks+1}) :
  dg (dw prog w) A (getAttr (.ref x) name expr) Q E s:=by
 obtain⟨od,J,hl⟩:=I.look;exact PySem.W.get_value X J (a2u hg).1 (PySem.W.findObj_own hh ha rfl (by rw[hl,hv])) hv' h
def asV(X:K.In s.heap)(I:akX s.heap x dx C mA)(hg:a1q K C name=ak)
  (hf:lg K (.ref C) name=aj (aj (.ref f)))(ht:a1O K (.ref f)=ak)(hv:mA name=au)(h:Q (.ref f,[.ref x]) s) :
  dg (dw prog w) A (getMethod (.ref x) name pl) Q E s:=by
 obtain⟨od,J,hl⟩:=I.look;exact PySem.W.method_fn X J (a2u hg).1 (a2u hg).2 hf (beq_iff_eq.mp ht) (by show(a2y name od).map (·.isSome)=aj ao;rw[hl,hv];rfl) h
def ayR{ns:List Str}(X:K.In s.heap)(I:akX s.heap x dx C mA)
  (hs:lg K (.ref C) "__setattr__"=aj (aj (.builtin "object.__setattr__")))(hp:PySem.W.plainOver K C=ak)(ht:PySem.W.takerIn K C name=aj au)(hh:a2d K C=ak)
  (hw:PySem.Within mA ns)(hsz:ns.length<=dh)
  (h:∀h',akX h' x dx C (λy=>if y=name then aj v else mA y)->ni dx s.heap h'->Q () {s with heap:=h',toks:=s.toks+2}) :
  dg (dw prog w) A (setAttr (.ref x) name v) Q E s:=by
 obtain⟨od,J,hl⟩:=I.look;refine PySem.W.set_plain X J hs (PySem.W.osa_open (s:={s with toks:=s.toks+1}) (r:=none) X J hp ht λb=>?_);obtain⟨cd,hc,hd'⟩:=PySem.W.any_some hh;have hx:s.heap.get? x=aj ⟨.ref C,aj dx,.plain,#[]⟩:=I.obj;refine bh (cj (bh (bh (wpAny_loadPart hx (bh (ug.here (s:={s with toks:=s.toks+1}) (PySem.W.looks_clsIn X hc) ?_))))));rw[hd'];refine cj (a:=some dx) (bh (cj (bh ?_)));refine wpAny_nsSet1 (s:={s with toks:=s.toks+1}) I.ns λh' hn2 hs2=>?_;obtain⟨oD,esD,epD,hoD,hdD,hcD⟩:=hn2.count (PySem.Within.cons name v hw);refine bh (wpAny_lookBehind hoD (by rw[hdD];exact pastItsLine_dict (qu hcD (by rw[qb];omega))) ?_);exact cj (h _ ⟨(hs2.2 _ (Ne.symm I.ne)).trans I.obj,hn2,I.ne⟩ hs2)
def asW(X:K.In s.heap)(hm:PySem.W.makesIn K C=ak)
  (hi:lg K (.ref C) "__init__"=aj (aj (.ref f)))(hf:a0t K (.ref f)=aj (.type "function"))
  (h:a0X (dw prog w) (A.under (.builtin "type.__call__" ⟨.ref C::vs,kw⟩)) (.call (.ref f) ⟨.ref (s.heap.objs.size+1)::vs,kw⟩) (PySem.W.InitBack (s.heap.objs.size+1) R)
   {s with heap:=(s.heap.push yh).push (zu C s.heap.objs.size)}) :
  a0X (dw prog w) A (.call (.ref C) ⟨vs,kw⟩) R s:=by
 obtain⟨hh,g,d,t,os⟩:=s;exact PySem.W.make_core (PySem.W.makes_of X hm) (PySem.W.looks_findIn X hi) (λself=>PySem.W.bind_fn X self hf) (.inl rfl) h
end
abbrev xK(f:Str)(v:V):List (Str×V)->List (Str×V)
 |[]=>[(f,v)]
 |(g,x)::r=>if g=f then(g,v)::r else(g,x)::xK f v r
def a7P(f g:Str)(v:V):∀fs:List (Str×V),(xK f v fs).lookup g=if g=f then aj v else fs.lookup g
 |[]=>by
  show yd g [(f,v)]=_;by_cases h:g=f
  .have hb:(g==f)=ak:=beq_iff_eq.mpr h;simp only[yd,hb,if_pos h]
  .have hb:(g==f)=ao:=beq_eq_false_iff_ne.mpr h;simp only[yd,hb,if_neg h]
 |(k,x)::r=>by
  have ih:=a7P f g v r;rw[show xK f v ((k,x)::r)=(if k=f then(k,v)::r else(k,x)::xK f v r)from rfl];by_cases hk:k=f
  .rw[if_pos hk];by_cases h:g=k
   .have hb:(g==k)=ak:=beq_iff_eq.mpr h;simp only[yd,hb,if_pos (h.trans hk)]
   .have hb:(g==k)=ao:=beq_eq_false_iff_ne.mpr h;simp only[yd,hb,if_neg (λe:g=f=>h (e.trans hk.symm))]
  .rw[if_neg hk];by_cases h:g=k
   .have hb:(g==k)=ak:=beq_iff_eq.mpr h;simp only[yd,hb,if_neg (λe:g=f=>hk (h.symm.trans e))]
   .have hb:(g==k)=ao:=beq_eq_false_iff_ne.mpr h;simp only[yd,hb];exact ih
def a6F(f:Str)(v:V):∀fs:List (Str×V),f∈(xK f v fs).map (·.1)/\∀g,g∈fs.map (·.1)->g∈(xK f v fs).map (·.1)
 |[]=>⟨by simp[xK],λg h=>by simp at h⟩
 |(k,x)::r=>by
  obtain⟨i1,i2⟩:=a6F f v r;rw[show xK f v ((k,x)::r)=(if k=f then(k,v)::r else(k,x)::xK f v r)from rfl];by_cases hk:k=f
  .rw[if_pos hk];subst hk;exact⟨by simp,λg h=>by simpa using h⟩
  .rw[if_neg hk];refine⟨?_,λg h=>?_⟩
   .rw[iz];exact ou _ i1
   .rw[iz]at h ⊢;rcases jd.mp h with e|e
    .exact jd.mpr (.inl e)
    .exact ou _ (i2 g e)
def a7Q(f:Str)(v:V):∀fs:List (Str×V),(xK f v fs).length<=fs.length+1
 |[]=>by simp[xK]
 |(k,x)::r=>by
  have ih:=a7Q f v r;rw[show xK f v ((k,x)::r)=(if k=f then(k,v)::r else(k,x)::xK f v r)from rfl];by_cases hk:k=f
  .rw[if_pos hk,qb,qb];omega
  .rw[if_neg hk,qb,qb];omega
variable{o:Option aq}
def xH.some_of(r:xH (aj v) o):∃u,o=aj u/\RelV v u:=by
 cases o with
 |none=>exact(show False from r).elim
 |some u=>exact⟨u,rfl,r⟩
def xH.none_of(r:xH au o):o=au:=by
 cases o with
 |none=>rfl
 |some u=>exact(show False from r).elim
def aq8(r:RelV v u):PySem.W.handedIn u=ak:=by
 cases v with
 |non=>cases(show u=aq.none from r);rfl
 |bl b=>cases(show u=aq.bool b from r);rfl
 |int i=>obtain⟨t,e⟩:=(show ∃t,u=aq.int i t from r);cases e;rfl
 |str x=>obtain⟨t,e⟩:=(show ∃t,u=aq.str x t from r);cases e;rfl
 |byt b=>obtain⟨t,e⟩:=(show ∃t,u=aq.bytes b t from r);cases e;rfl
 |flt b=>obtain⟨t,e⟩:=(show ∃t,u=aq.float b t from r);cases e;rfl
 |ref a=>cases(show u=aq.ref a from r);rfl
 |ty n=>cases(show u=aq.type n from r);rfl
section
variable{w:jj}{h:jm}{a:bw}{fs:List (Str×V)}
def aeY(hok:HOk P w H h)(e:H a=aj (.ins C dx fs)):∃mA,akX h a dx C mA/\(∀f,xH (fs.lookup f) (mA f))/\PySem.Within mA (fs.map (·.1))/\fs.length<=1000/\H dx=aj (.own a):=by
 obtain⟨d,z,ne,ob,mA,n,r,q⟩:=(show gZ P w H h a (.ins C dx fs)from hok a _ e);exact⟨mA,⟨ob,n,ne⟩,r,q,z,d⟩
end
structure Cls(K:je)(C:bw):Prop where
 pg:a1q K C Str.empty=ak
 hd:a2d K C=ak
 po:PySem.W.plainOver K C=ak
 sa:lg K (.ref C) "__setattr__"=aj (aj (.builtin "object.__setattr__"))
def Cls.get{K:je}(c:Cls K C)(f:Str):a1q K C f=ak:=c.pg
abbrev nT(K:je)(C:bw)(f:Str):Prop:=lg K (.ref C) f=aj au
def nT.taker{K:je}(n:nT K C f):PySem.W.takerIn K C f=aj au:=by
 unfold PySem.W.takerIn;rw[show lg K (.ref C) f=aj au from n];rfl
structure Meth(K:je)(C:bw)(m:Str)(f:bw):Prop where
 at_:lg K (.ref C) m=aj (aj (.ref f))
 fn:a1O K (.ref f)=ak
 kp:uf K (.ref f)=ak
section
variable{X:Cx}{pins:List (bw×Obj)}{s:cu}{a:bw}{fs:List (Str×V)}{v:V}{A:jx}
def akY{b:Bool}(I:Inv X pins σ H s)(e:H a=aj (.ins C dx fs))(c:Cls X.K C)(n:nT X.K C f)(l:fs.lookup f=aj v)
  (h:∀u s',Inv X pins σ H s'->RelV v u->Q u s'):dg (dw X.prog X.w) A (getAttr (.ref a) f b) Q E s:=by
 obtain⟨mA,O,r,_,_,_⟩:=aeY I.hok e;obtain⟨u,hu,ru⟩:=xH.some_of (v:=v) (o:=mA f) (by rw[←l];exact r f);exact get_map I.kIn O (c.get f) c.hd n hu (aq8 ru) (h u _ (I.tok _) ru)
def a9K{m:Str}{g:bw}(I:Inv X pins σ H s)(e:H a=aj (.ins C dx fs))(c:Cls X.K C)(k:Meth X.K C m g)(l:fs.lookup m=au)
  (h:Q (.ref g,[.ref a]) s):dg (dw X.prog X.w) A (getMethod (.ref a) m pl) Q E s:=by
 obtain⟨mA,O,r,_,_,_⟩:=aeY I.hok e;have hn:mA m=au:=xH.none_of (by rw[←l];exact r m);exact asV I.kIn O (c.get m) k.at_ k.fn hn h
def akZ(I:Inv X pins σ H s)(e:H a=aj (.ins C dx fs))(c:Cls X.K C)(n:nT X.K C f)(hl:fs.length<1000)(ry:RelV y u)
  (h:∀s',Inv X pins σ (upd H a (.ins C dx (xK f y fs))) s'->Q () s'):dg (dw X.prog X.w) A (setAttr (.ref a) f u) Q E s:=by
 obtain⟨mA,O,r,wi,_,ho⟩:=aeY I.hok e;have hz:(fs.map (·.1)).length<=dh:=by rw[gk,sizeLine_eq];omega
 refine ayR I.kIn O c.sa c.po n.taker c.hd wi hz λh' O' sb=>h _ ?_;have hd:∃o,h'.get? dx=aj o:=let⟨o,_,_,e',_⟩:=O'.ns;⟨o,e'⟩
 refine I.write (x:=a) (e:=dx) (by rw[e];exact True.intro) (.inr ho) (λb q hb z=>(sb.2 b hb).trans z) hd ?_;refine⟨by rw[bA O.ne];exact ho,?_,O.ne,O'.obj,_,O'.ns,λg=>?_,λg hg=>?_⟩
 .have:=a7Q f y fs;omega
 .show xH ((xK f y fs).lookup g) (if g=f then aj u else mA g);rw[a7P];by_cases q:g=f
  .rw[if_pos q,if_pos q];exact ry
  .rw[if_neg q,if_neg q];exact r g
 .by_cases q:g=f
  .rw[q];exact(a6F f y fs).1
  .refine(a6F f y fs).2 g (wi g λz=>hg ?_);show(if g=f then aj u else mA g)=au;rw[if_neg q];exact z
def Inv.made(I:Inv X pins σ H s):Inv X pins σ (upd (upd H s.heap.objs.size (.own (s.heap.objs.size+1))) (s.heap.objs.size+1) (.ins C s.heap.objs.size []))
  {s with heap:=(s.heap.push yh).push (zu C s.heap.objs.size)}:=by
 have e1:(s.heap.push yh).get? s.heap.objs.size=aj yh:=iw s.heap rfl
 have e2:((s.heap.push yh).push (zu C s.heap.objs.size)).get? (s.heap.objs.size+1)=aj (zu C s.heap.objs.size):=by
  have:=iw (s.heap.push yh) (o:=zu C s.heap.objs.size) rfl
  rwa [a2x]at this
 have e3:(s.heap.push yh).Ns s.heap.objs.size (λ_=>au):=⟨yh,#[],_,e1,rfl,(λe he=>absurd he (by simp)),λ_=>rfl⟩;have I1:=I.laid (a:=s.heap.objs.size) (o:=.own (s.heap.objs.size+1)) (h':=s.heap.push yh) (t':=s.toks) (λb u q=>cg _ q) (dz _) ⟨_,e1⟩;refine I1.laid (a:=s.heap.objs.size+1) (o:=.ins C s.heap.objs.size []) (t':=s.toks) (λb u q=>cg _ q) (a2a (a2x _ _)) ?_;have ne:s.heap.objs.size≠s.heap.objs.size+1:=jc (Nat.lt_succ_self _);refine⟨by rw[bA ne,aM],ur _,ne,e2,λ_=>au,(Heap.Ns1.of_empty e3).at λo q=>cg _ q,λ_=>True.intro,λy hy=>absurd rfl hy⟩
def ayS{prog:jt}{w:jj}{f:Str}{s:cu}(hb:uh e f env (eval e env)=eval e env)
  (h:dg (dw prog w) A (eval e env) (λo s₁=>dg (dw prog w) A (getAttr o f ak) Q E s₁) E s):dg (dw prog w) A (eval (.Attribute e f pos) env) Q E s :=
 Attribute_any_ h (by rw[arm_eval_Attribute,hb])
end
abbrev aPY(K:je)(ta:TE)(f:Str):TE:=λσ H Q=>ta σ H λx H1=>∃a C dx fs v,x=.ref a/\H1 a=aj (.ins C dx fs)/\Cls K C/\nT K C f/\fs.lookup f=aj v/\Q v H1
abbrev aPZ(K:je)(ta tv:TE)(f:Str):TS:=λD σ H=>tv σ H λy H1=>ta σ H1 λx H2=>∃a C dx fs,x=.ref a/\H2 a=aj (.ins C dx fs)/\Cls K C/\nT K C f/\fs.length<1000 /\
 D.nx σ (upd H2 a (.ins C dx (xK f y fs)))
section
variable{X:Cx}{o:jq}{pos:Pos}
def aF4(he:PE X e ta)(hb:uh e f X.env (eval e X.env)=eval e X.env):PE X (.Attribute e f pos) (aPY X.K ta f):=by
 intro pins s σ H Q I h;refine ayS hb (dZ (he pins s σ H _ I h) ?_);rintro u s1 ⟨x,H1,I1,rx,a,C,dx,fs,v,ex,ea,c,n,l,q⟩;subst ex;obtain rfl:u=aq.ref a:=rx;exact akY I1 ea c n l λu' s2 I2 ru=>⟨v,H1,I2,ru,q⟩
def aF5(ha:PE X o ta)(hv:PE X value tv)(hs:a0h value (aj (.Attribute o f pos')) pos.line X.env=pure ao):PS X (.Assign [.Attribute o f pos'] value pos) (aPZ X.K ta tv f):=by
 intro pins s σ H D I h;refine plainObj_wpAny_Assign_Attribute (dZ (hv pins s σ H _ I h) λu s1 ⟨y,H1,I1,ry,q⟩=>dZ (ha pins s1 σ H1 _ I1 q) ?_) hs;rintro ov s2 ⟨x,H2,I2,rx,a,C,dx,fs,ex,ea,c,n,l,q2⟩;subst ex;obtain rfl:ov=aq.ref a:=rx;exact akZ I2 ea c n l ry λs3 I3=>⟨σ,_,I3,q2⟩
end
section
end
end
variable{mg:Str->Option aq}{base:jm}{outer:List Env}
section
structure lW(qt:Bool)(k:Nat)(A:jx):Prop where
 hd:qt=ao->A.handled=au
 dp:A.depth+3*k+5<recursionLimit
 un:A.units+16*k+200<jr
def lW.mono{j k:Nat}(r:lW qt k A)(h:j<=k):lW qt j A:=⟨r.hd,by have:=r.dp;omega,by have:=r.un;omega⟩
def lW.deeper{k:Nat}(r:lW qt (k+1) A)(env:Env):lW qt k (A.deeper env) :=
 ⟨r.hd,by have:=r.dp;show A.depth+1+3*k+5<_;omega,by have:=r.un;show A.units+3+16*k+200<_;omega⟩
def al0:(A.under (.builtin "type.__call__" ⟨.ref C::us,kw⟩)).depth=A.depth+1:=by
 first|rfl|simp[jx.under,Code.weight,Code.isCreation,Code.isGuard,Code.isCaller,Code.frames,Code.isFrame,guardIds]
def al1:(A.under (.builtin "type.__call__" ⟨.ref C::us,kw⟩)).units=A.units+1:=by
 first|rfl|simp[jx.under,Code.cUnits,Code.frames,Code.isFrame]
def lW.make{k:Nat}(r:lW qt (k+1) A)(C:bw)(us:List aq)(kw:List (Str×aq)):lW qt k (A.under (.builtin "type.__call__" ⟨.ref C::us,kw⟩)) :=
 ⟨r.hd,by have:=r.dp;rw[al0];omega,by have:=r.un;rw[al1];omega⟩
def lW.depth{k:Nat}(r:lW qt k A):A.depth<recursionLimit:=by have:=r.dp;omega
def lW.units{k:Nat}(r:lW qt k A):A.units+64<jr:=by have:=r.un;omega
abbrev aQ0:TA:=λ_ H Q=>Q [] H
abbrev aL3(ta:TE)(tr:TA):TA:=λσ H Q=>ta σ H λx H1=>tr σ H1 λxs H2=>Q (x::xs) H2
section
variable{X:Cx}{t:TA}{pos:Pos}
def aF6:PA X [] aQ0:=λ_ _ _ _ H Q I h=>Calls.spliced_nil ⟨[],H,I,.nil,h⟩
def ayT(ha:PE X e te)(hr:PA X es t)(hs:ji (e::es) X.env=(ao,eval e X.env)::ji es X.env:=by rfl):PA X (e::es) (aL3 te t):=by
 intro pos pins s σ H Q I h;rw[hs];show dg _ _ (spliced ((ao,eval e X.env)::tu pos (ji es X.env))) _ _ s;refine Calls.spliced_cons (dZ (ha pins s σ H _ I h) ?_);rintro u s1 ⟨x,H1,I1,r1,q1⟩;exact dZ (hr pos pins s1 σ H1 _ I1 q1) (by rintro us s2 ⟨xs,H2,I2,r2,q2⟩;exact⟨x::xs,H2,I2,.cons r1 r2,q2⟩)
abbrev aQ1(t:TA):TE:=λσ H Q=>t σ H λxs H1=>xs.length<=dh/\∀p,H1 p=au->Q (.ref p) (upd H1 p (.tup xs))
abbrev aQ2(t:TA):TE:=λσ H Q=>t σ H λxs H1=>xs.length<=dh/\∀p,H1 p=au->Q (.ref p) (upd H1 p (.lst xs))
def aF7{x1}(h:PA X es t):PE X (.Tuple es x1 pos) (aQ1 t):=by
 intro pins s σ H Q I hq;refine wpAny_Tuple_spliced (dZ (h pos pins s σ H _ I hq) λus s1 ⟨xs,H1,I1,r,z,q⟩=>⟨by rw[←r.length];exact z,?_⟩);have hf:H1 s1.heap.objs.size=au:=I1.hok.fresh (dz _);refine⟨.ref s1.heap.objs.size,upd H1 s1.heap.objs.size (.tup xs),I1.laid (t':=s1.toks) (λb u e=>cg _ e) (dz _) ?_,rfl,q _ hf⟩;exact⟨z,us,r,⟨_,iw _ rfl,rfl,_,rfl⟩⟩
def aF8(h:PA X es t):PE X (.List es pos) (aQ2 t):=by
 intro pins s σ H Q I hq;refine wpAny_List_spliced (dZ (h pos pins s σ H _ I hq) λus s1 ⟨xs,H1,I1,r,z,q⟩=>⟨by rw[←r.length];exact z,?_⟩);have hf:H1 s1.heap.objs.size=au:=I1.hok.fresh (dz _);refine⟨.ref s1.heap.objs.size,upd H1 s1.heap.objs.size (.lst xs),I1.laid (t':=s1.toks) (λb u e=>cg _ e) (dz _) ?_,rfl,q _ hf⟩;exact⟨z,us,0,r,iw _ rfl⟩
end
@[simp]def Sp:=List V->Hp->VK->XK->Prop
@[simp]def CXT:=List Env->Hp->cu->XK->aq->cu->Prop
structure al2(P:jt)(w:jj)(K:je)(mg:Str->Option aq)(base:jm)(A:jx)(outer:List Env)(s:cu)(H:Hp):Prop where
 frames:A.frames=aj outer
 mod:Mod K mg base
 bs:∀b o,base.get? b=aj o->s.heap.get? b=aj o/\H b=au
 bsz:base.objs.size<=s.heap.objs.size
 a1X:s.heap.FunFrames base outer
 frf:∀b∈frs outer,H b=au
 hok:HOk P w H s.heap
 bare:AllBare s.gens
 hnd:Hnd A H
abbrev CE(outer:List Env)(P:jt)(w:jj)(H:Hp)(s:cu)(Q:VK)(u:aq)(s':cu):Prop :=
 ∃v H',s'.os=s.os/\AllBare s'.gens/\Un (frs outer) [] H H' s.heap s'.heap/\HOk P w H' s'.heap/\RelV v u/\Q v H'
abbrev CR(CX:CXT)(outer:List Env)(P:jt)(w:jj)(H:Hp)(s:cu)(Q:VK)(E:XK)(r:Result)(s':cu):Prop :=
 match r with
 |.ok (.ret u)=>CE outer P w H s Q u s'
 |.ok _=>False
 |.error e=>CX outer H s E e s'
structure cH(qt:Bool)(P:jt)(w:jj)(K:je)(mg:Str->Option aq)(base:jm)(CX:CXT)(k:Nat)(f:bw)(fd:jw)(ps:List Str)(sp:Sp):Prop where
 len:∀vs H Q E,sp vs H Q E->vs.length=ps.length
 run:∀(A:jx)(outer:List Env)(s:cu)(H:Hp)(args:Args)(us:List aq)(vs:List V)(Q:VK)(E:XK),lW qt k A->al2 P w K mg base A outer s H->BindsTo s fd args (ps.zip us)->Vals vs us->sp vs H Q E ->
  a0X (dw P w) A (.call (.ref f) args) (CR CX outer P w H s Q E) s
def cH.mono{w:jj}{K:je}{mg:Str->Option aq}{base:jm}{j k:Nat}(F:cH qt P w K mg base CX j f fd ps sp)(h:j<=k) :
  cH qt P w K mg base CX k f fd ps sp:=⟨F.len,λA outer s H args us vs Q E hr=>F.run A outer s H args us vs Q E (hr.mono h)⟩
def cH.imp{w:jj}{K:je}{k:Nat}(F:cH qt P w K mg base CX k f fd ps sp)
  (h:∀vs H Q E,sp' vs H Q E->sp vs H Q E):cH qt P w K mg base CX k f fd ps sp' :=
 ⟨λvs H Q E q=>F.len vs H Q E (h _ _ _ _ q),λA outer s H args us vs Q E hr he hb hv hs=>F.run A outer s H args us vs Q E hr he hb hv (h _ _ _ _ hs)⟩
def al2.make{w:jj}{K:je}(e:al2 P w K mg base A outer s H)(C:bw)(us:List aq)(kw:List (Str×aq)) :
  al2 P w K mg base (A.under (.builtin "type.__call__" ⟨.ref C::us,kw⟩)) outer s H:=⟨by first|exact e.frames|(simpa[jx.under,Code.envs,Code.isFrame,pushEnvs]using e.frames),e.mod,e.bs,e.bsz,e.a1X,e.frf,e.hok,e.bare,e.hnd⟩
section
variable{X:Cx}{pins:List (bw×Obj)}
def Inv.env0(I:Inv X pins σ H s):al2 X.prog X.w X.K X.mg X.base X.A X.stack s H :=
 ⟨I.ok.frames,I.ok.mod,I.bs,qu I.ok.bsz I.sz,I.stack,I.aeU,I.hok,I.bare,I.hnd⟩
end
abbrev Binds(K:je)(fd:jw)(ps:List Str)(ds:List aq):Prop :=
 ∀(s:cu)(us:List aq),K.In s.heap->(us++ds).length=ps.length->BindsTo s fd ⟨us,[]⟩ (ps.zip (us++ds))
variable{ps:List Str}
def Binds.all{K:je}(h:∀us:List aq,us.length=ps.length->uc fd ⟨us,[]⟩=pure (ps.zip us)):Binds K fd ps []:=λs us _ hl=>by
 rw[a1g]at hl ⊢;exact .of_eq (h us hl)
section
variable{f C:bw}
structure Mk(K:je)(C f:bw):Prop where
 makes:PySem.W.makesIn K C=ak
 init:lg K (.ref C) "__init__"=aj (aj (.ref f))
 fn:a1O K (.ref f)=ak
 kp:uf K (.ref C)=ak
end
section
end
structure bF(N P:List Str)(sc:zc):Prop where
 kind:sc.kind=.function
 co:sc.isCoroutine=ao
 gen:sc.isGenerator=ao
 nd:N.Nodup
 pre:N.take P.length=P
 par:∀x∈P,sc.names.lookup x=aj .local∨sc.names.lookup x=aj .cell
 aF9:∀y∈sc.names,y.2≠.free
def adC{kindOf:Str->Option uw}{x:Str}:∀{binds:List (Str×aq)}{m:Str->Option aq},(∀v,(x,v)∉binds)->bindL kindOf binds m x=m x
 |[],_,_=>rfl
 |(n,v)::r,m,h=>by
  unfold bindL;rw[adC λw hw=>h w (ou _ hw)];split
  ·have:x≠n:=by rintro rfl;exact h v wu
   simp[this]
  .rfl
def adD{kindOf:Str->Option uw}{x:Str}:∀{binds:List (Str×aq)}{m:Str->Option aq},(∀v,(x,v)∉binds)->bindC kindOf binds m x=m x
 |[],_,_=>rfl
 |(n,v)::r,m,h=>by
  unfold bindC;rw[adD λw hw=>h w (ou _ hw)];split
  ·rfl
  .have:x≠n:=by rintro rfl;exact h v wu
   simp[this]
def adE{kindOf:Str->Option uw}{x:Str}{v:aq}:∀{P:List Str}{vs:List aq}{i:Nat}{m:Str->Option aq},P.Nodup->P[i]?=aj x->vs[i]?=aj v->kindOf x=aj .local ->
  bindL kindOf (P.zip vs) m x=aj v
 |[],_,_,_,_,h,_,_=>by simp at h
 |_::_,[],_,_,_,_,h,_=>by simp at h
 |p::P,w::vs,0,m,nd,h1,h2,hk=>by
  simp at h1 h2;subst h1;subst h2;show bindL kindOf ((p,w)::P.zip vs) m p=_;unfold bindL;rw[adC λv hv=>(wj.mp nd).1 (List.of_mem_zip hv).1,if_pos hk];simp
 |p::P,w::vs,i+1,m,nd,h1,h2,hk=>by
  show bindL kindOf ((p,w)::P.zip vs) m x=_;unfold bindL;exact adE (i:=i) (wj.mp nd).2 (by simpa using h1) (by simpa using h2) hk
def adF{kindOf:Str->Option uw}{x:Str}{v:aq}:∀{P:List Str}{vs:List aq}{i:Nat}{m:Str->Option aq},P.Nodup->P[i]?=aj x->vs[i]?=aj v->kindOf x≠aj .local ->
  bindC kindOf (P.zip vs) m x=aj v
 |[],_,_,_,_,h,_,_=>by simp at h
 |_::_,[],_,_,_,_,h,_=>by simp at h
 |p::P,w::vs,0,m,nd,h1,h2,hk=>by
  simp at h1 h2;subst h1;subst h2;show bindC kindOf ((p,w)::P.zip vs) m p=_;unfold bindC;rw[adD λv hv=>(wj.mp nd).1 (List.of_mem_zip hv).1,if_neg hk];simp
 |p::P,w::vs,i+1,m,nd,h1,h2,hk=>by
  show bindC kindOf ((p,w)::P.zip vs) m x=_;unfold bindC;exact adF (i:=i) (wj.mp nd).2 (by simpa using h1) (by simpa using h2) hk
abbrev start(N:List Str)(vs:List V):St:=vs.map aj++a0s (N.length - vs.length) au
abbrev vG(qt:Bool)(CX:CXT)(P:jt)(w:jj)(K:je)(mg:Str->Option aq)(base:jm)(N:List Str)(qual:Str)(scope:zc)(f:bw)(cd:aq)(A:jx)(outer:List Env)(s:cu)(H:Hp)(E:XK):Cx where
 prog:=P
 w:=w
 K:=K
 mg:=mg
 base:=base
 A:=A.deeper (envOfC qual scope s.heap.objs.size f cd)
 N:=N
 s₀:=s
 H₀:=H
 env:=envOfC qual scope s.heap.objs.size f cd
 outer:=outer
 stack:=envOfC qual scope s.heap.objs.size f cd::outer
 ex:=[]
 calm:=!qt
 fn:=λ_=>ak
 pn:=[]
 tp:=[]
 xe:=λe s'=>dg (dw P w) (A.deeper (envOfC qual scope s.heap.objs.size f cd)) (leaving (envOfC qual scope s.heap.objs.size f cd) e) (λ_ s''=>CX outer H s E e s'') (λe' s''=>CX outer H s E e' s'') s'
def ah7{sc:zc}(h:sc.names.lookup x=aj .cell):∃c,(cellsFrom n sc.names []).lookup x=aj c:=by
 have q:=PySem.W.cellsFrom_some sc.names n [] (.inl h);exact a0v.mp q
def aqA{w:jj}{K:je}{scope:zc}{s:cu}{vs:List V}
  (S:bF N ps scope)(hd:qt=ao->A.handled=au)(e0:al2 P w K mg base A outer s H)(hl:vs.length=ps.length)(r:Vals vs us)
  (x:InCallC s s.heap.objs.size (bindL (envOfC qual scope s.heap.objs.size f cd).kindOf (ps.zip us) λ_=>au) (cellsFrom (s.heap.objs.size+1) scope.names []) (bindC (envOfC qual scope s.heap.objs.size f cd).kindOf (ps.zip us) λ_=>au) s1) :
  Inv (vG qt CX P w K mg base N qual scope f cd A outer s H E) [] (start N vs) H s1:=by
 have hpl:ps.length<=N.length:=by have:=congrArg a2h S.pre;rw[a2j]at this;omega
 obtain⟨h1,tk,rfl,hk⟩:=x.done;have noA:∀b:bw,b∉(vG qt CX P w K mg base N qual scope f cd A outer s H E).ex:=λb z=>absurd (show b∈([]:List bw)from z) (by simp)
 refine⟨⟨e0.mod,S.kind,rfl,rfl,dz _,λy z c h1 h2=>?_,λy hy=>?_,λy c _ h=>?_,λz=>hd (by cases qt with|false=>rfl|true=>cases z),jx.frames_deeper e0.frames,.inr ⟨rfl,rfl⟩,λb z=>absurd z (noA b),e0.bs,e0.bsz,λb _ _=>noA b,λb z=>absurd z (noA b),e0.a1X,e0.frf⟩,
  rfl,e0.bare,Un.kept hk,⟨_,x.toInCall.ns,λi y v h1 h2 h3=>?_⟩,λy c h=>⟨_,x.cell y c h⟩,e0.hok.fresh (dz _),λy c h=>?_,λp hp=>absurd (show p∈([]:List (bw×Obj))from hp) (by simp),e0.hok.kept hk,?_,e0.hnd,λp hp=>absurd (show p∈([]:List (bw×List V))from hp) (by simp)⟩
 .exact name_of_addr x.apart (PySem.mem_of_lookup h1) (PySem.mem_of_lookup h2)
 .have hy:scope.names.lookup y=aj .cell∨scope.names.lookup y=aj .free:=hy;rcases hy with hy|hy
  .exact ah7 hy
  .exact absurd rfl (S.aF9 _ (PySem.mem_of_lookup hy))
 .exact xu (x.above y c (PySem.mem_of_lookup h))
 .have hi:i<vs.length:=by
   unfold start at h2;by_cases hi:i<vs.length
   .exact hi
   .rw[zf (by simpa using hi)]at h2;rw[List.getElem?_replicate]at h2;split at h2<;>cases h2
  have ha:vs[i]?=aj v:=by
   unfold start at h2;rw[a0p (by simpa using hi),vm]at h2;cases e:vs[i]? with
   |none=>rw[e]at h2;cases h2
   |some a=>rw[e]at h2;cases h2;rfl
  obtain⟨u,hu,rv⟩:=r.get ha
  have hp:ps[i]?=aj y:=by
   rw[←S.pre,List.getElem?_take_of_lt (by omega)];exact h1
  have ndP:ps.Nodup:=by rw[←S.pre];exact S.nd.sublist (List.take_sublist _ _)
  refine⟨u,rv,?_⟩;rcases S.par y (jz hp)with k|k
  .exact .inl ⟨k,adE ndP hp hu k⟩
  .obtain⟨c,e⟩:=ah7 (n:=s.heap.objs.size+1) k;refine .inr ⟨.inl k,c,e,?_⟩;have q:=x.cell y c e;rw[adF ndP hp hu (by show scope.names.lookup y≠_;rw[k];decide)]at q;exact q
 .exact e0.hok.fresh (xu (x.above y c (PySem.mem_of_lookup h)))
 .unfold start;show _=N.length;rw[wz,gk,List.length_replicate];omega
private theorem aL5{w:jj}{K:je}{k:Nat}{kV ct:aq}{an:Option bw}(lk:K.lookup f=aj ⟨oc,od,.func (qx name qual params body scope dV kV doc pm an cdv ct),osl⟩)(hcd:a1o K cdv qual=ak)(S:bF N ps scope)
  (len:∀vs H Q E,sp vs H Q E->vs.length=ps.length)
  (hbody:∀(A:jx)(outer:List Env)(s:cu)(H:Hp)(vs:List V)(Q:VK)(E:XK),lW qt k (A.deeper (envOfC qual scope s.heap.objs.size f cdv))->sp vs H Q E ->
   ∃t,PSs (vG qt CX P w K mg base N qual scope f cdv A outer s H E) body t/\t {nx:=λ_ H'=>Q .non H',rt:=Q} (start N vs) H) :
  cH qt P w K mg base CX (k+1) f (qx name qual params body scope dV kV doc pm an cdv ct) ps sp:=by
 refine⟨len,λA outer s H args us vs Q E hr e0 hb r hsp=>?_⟩;have hl:=len _ _ _ _ hsp;have KX:K.In s.heap:=e0.mod.kin.keeps λb o e=>(e0.bs b o e).1;have lim:s.heap.NoLimit:=e0.mod.nolimit.keeps λb o e=>(e0.bs b o e).1
 have hkind:∀y∈ps.zip us,scope.names.lookup y.1=aj .local∨(scope.names.lookup y.1=aj .cell/\((cellsFrom (s.heap.objs.size+1) scope.names []).lookup y.1).isSome=ak):=λ⟨n,v⟩ hy=>by
  rcases S.par n (List.of_mem_zip hy).1 with q|q
  .exact .inl q
  .exact .inr ⟨q,PySem.W.cellsFrom_some _ _ _ (.inl q)⟩
 refine codeAny_call_function hr.depth (KX _ _ lk) rfl S.co S.gen rfl (PySem.W.codeRec_of KX hcd) (hb _ _ _ _ ?_);refine wpAny_newFunctionEnv_cells S.kind hkind λenv he s1 x=>?_;subst he;refine⟨lim.keeps x.toInCall.keep,codeAny_func ?_⟩;obtain⟨t,ht,hq⟩:=hbody A outer s H vs Q E (hr.deeper _) hsp;have I:Inv (vG qt CX P w K mg base N qual scope f cdv A outer s H E) [] (start N vs) H s1:=aqA S hr.hd e0 hl r x;refine qy (ht [] s1 (start N vs) H _ I hq) (λfl s' hs=>?_) λe s' hs=>hs
 have fin:∀{σ':St}{H':Hp}{v:V}{u:aq},Inv (vG qt CX P w K mg base N qual scope f cdv A outer s H E) [] σ' H' s'->RelV v u->Q v H'->CE outer P w H s Q u s' :=
  λ{σ' H' v u} J rv q=>⟨v,H',J.os,J.bare,J.base,J.hok,rv,q⟩
 cases fl with
 |ret u =>
  obtain⟨v,σ',H',J,rv,q⟩:=hs;exact fin J rv q
 |next =>
  obtain⟨σ',H',J,q⟩:=hs;exact fin (v:=V.non) (u:=Value.none) J rfl q
 |brk =>
  obtain⟨_,_,_,q⟩:=hs;exact False.elim q
 |cont =>
  obtain⟨_,_,_,q⟩:=hs;exact False.elim q
end
section
section
end
end
variable{h':jm}
section
variable{o:Option V}
section
variable{κ:Type}[DecidableEq κ]
abbrev zN(kvs:List (κ×V))(k:κ):Option V:=(kvs.find? λkv=>decide (kv.1=k)).map (·.2)
abbrev putK(kvs:List (κ×V))(k:κ)(v:V):List (κ×V) :=
 if(kvs.any λkv=>decide (kv.1=k))=ak then kvs.map (λkv=>if kv.1=k then(kv.1,v)else kv)else kvs++[(k,v)]
abbrev zO(kvs:List (κ×V))(k:κ):List (κ×V):=kvs.filter λkv=>decide (kv.1≠k)
def zP{p:κ×V}{r:List (κ×V)}{k:κ}(e:p.1=k):zN (p::r) k=aj p.2:=by simp[zN,a0i,e]
def zQ{p:κ×V}{r:List (κ×V)}{k:κ}(e:¬ p.1=k):zN (p::r) k=zN r k:=by simp[zN,a0i,e]
def a9L(k:κ):∀kvs:List (κ×V),(kvs.any λkv=>decide (kv.1=k))=(zN kvs k).isSome
 |[]=>rfl
 |p::r=>by
  rw[a1a];by_cases e:p.1=k
  .simp only[zP e,decide_eq_true e,Bool.true_or,Option.isSome_some]
  .rw[zQ e,decide_eq_false e,Bool.false_or];exact a9L k r
def zR(kvs:List (κ×V))(k:κ)(v:V):(putK kvs k v).length<=kvs.length+1:=by
 unfold putK;split
 ·rw[gk];omega
 .rw[wz,qb,a2m];omega
def xH.w5{u:Option aq}(r:xH o u):o.isSome=u.isSome:=by
 cases o with
 |none=>cases u with
  |none=>rfl
  |some _=>exact(show False from r).elim
 |some _=>cases u with
  |none=>exact(show False from r).elim
  |some _=>rfl
def xH.getD{u:Option aq}(r:xH o u)(rd:RelV d d'):RelV (o.getD d) (u.getD d'):=by
 cases o with
 |none=>cases u with
  |none=>exact rd
  |some _=>exact(show False from r).elim
 |some _=>cases u with
  |none=>exact(show False from r).elim
  |some _=>exact r
def KV.val(r:KV kvs vs)(k:κ):xH (zN kvs k) (valueAt vs k):=by
 unfold KV at r
 induction r with
 |nil=>exact True.intro
 |@cons p q ps qs h t ih =>
  obtain⟨h1,h2⟩:=h;by_cases e:p.1=k
  .have e':q.1=k:=h1.symm.trans e;have b:valueAt (q::qs) k=aj q.2:=by simp[valueAt,a0i,e']
   rw[zP e,b];exact h2
  .have e':¬ q.1=k:=λz=>e (h1.trans z);have b:valueAt (q::qs) k=valueAt qs k:=by simp[valueAt,a0i,e']
   rw[zQ e,b];exact ih
def KV.any{kvs:List (κ×V)}{vs:List (κ×aq)}(r:KV kvs vs)(k:κ):(kvs.any λkv=>decide (kv.1=k))=vs.any λkv=>decide (kv.1=k):=by
 unfold KV at r
 induction r with
 |nil=>rfl
 |cons h t ih=>rw[a1a,a1a,ih,h.1]
def KV.repl{kvs:List (κ×V)}{vs:List (κ×aq)}(r:KV kvs vs)(k:κ)(ry:RelV y u) :
  KV (kvs.map λkv=>if kv.1=k then(kv.1,y)else kv) (vs.map λkv=>if kv.1=k then(kv.1,u)else kv):=by
 unfold KV at r ⊢
 induction r with
 |nil=>exact .nil
 |@cons p q ps qs h t ih =>
  rw[iz,iz];refine .cons ?_ ih;obtain⟨h1,h2⟩:=h;by_cases e:p.1=k
  .rw[if_pos e,if_pos (h1.symm.trans e)];exact⟨h1,ry⟩
  .rw[if_neg e,if_neg (λz=>e (h1.trans z))];exact⟨h1,h2⟩
def KV.put(r:KV kvs vs)(k:κ)(ry:RelV y u):KV (putK kvs k y) (stored vs k u):=by
 unfold putK stored;rw[r.any k];by_cases e:(vs.any λkv=>decide (kv.1=k))=ak
 .rw[if_pos e,if_pos e];exact r.repl k ry
 .rw[if_neg e,if_neg e];exact Paired.snoc r ⟨rfl,ry⟩
def KV.drop(r:KV kvs vs)(k:κ):KV (zO kvs k) (without vs k):=by
 unfold KV at r ⊢;unfold zO without
 induction r with
 |nil=>exact .nil
 |@cons p q ps qs h t ih =>
  obtain⟨h1,h2⟩:=h;rw[zp,zp];by_cases e:p.1=k
  .have a:¬ decide (p.1≠k)=ak:=by simp[e]
   have b:¬ decide (q.1≠k)=ak:=by simp[h1.symm.trans e]
   rw[if_neg a,if_neg b];exact ih
  .have e':¬ q.1=k:=λz=>e (h1.trans z);have a:decide (p.1≠k)=ak:=by simp[e]
   have b:decide (q.1≠k)=ak:=by simp[e']
   rw[if_pos a,if_pos b];exact .cons ⟨h1,h2⟩ ih
def KV.length{kvs:List (κ×V)}{vs:List (κ×aq)}(r:KV kvs vs):kvs.length=vs.length:=Paired.length r
def ah8(kvs:List (κ×V))(k:κ):(zO kvs k).length<=kvs.length:=yq _ _
end
def a7R{w:jj}{k:Key}(r:RelV (kV k) u):(aK P w).is k u=ak:=by
 cases k with
 |inl i=>obtain⟨t,e⟩:=(show ∃t,u=aq.int i t from r);subst e;exact a7N P w i t
 |inr x=>obtain⟨t,e⟩:=(show ∃t,u=aq.str x t from r);subst e;exact ah5 P w x t
def a6G{w:jj}:∀{ks:List Key}{us:List aq},Vals (ks.map kV) us->ItemsAre (aK P w) ks us
 |[],_,r=>by rw[a2n]at r;cases r;exact .nil
 |k::ks,_,r=>by
  rw[iz]at r;cases r with
  |cons h t=>exact .cons (a7R h) (a6G t)
@[simp]def KT(H:Hp):List (List Key×V)->List (List Key×bw×aq)->Prop:=Paired λp q=>p.1=q.1/\H q.2.1=aj (.tup (p.1.map kV))/\RelV p.2 q.2.2
def KT.val(r:KT H kvs xs)(k:List Key):xH (zN kvs k) ((atKey xs k).map (·.2)):=by
 induction r with
 |nil=>exact True.intro
 |@cons p q ps qs h t ih =>
  obtain⟨h1,_,h2⟩:=h;by_cases e:p.1=k
  .have e':q.1=k:=h1.symm.trans e;have b:atKey (q::qs) k=aj q.2:=by simp[atKey,a0i,e']
   rw[zP e,b];exact h2
  .have e':¬ q.1=k:=λz=>e (h1.trans z);have b:atKey (q::qs) k=atKey qs k:=by simp[atKey,a0i,e']
   rw[zQ e,b];exact ih
def KT.repl{kvs:List (List Key×V)}{xs:List (List Key×bw×aq)}(r:KT H kvs xs)(k:List Key)(ry:RelV y u) :
  KT H (kvs.map λkv=>if kv.1=k then(kv.1,y)else kv) (xs.map (putAt k u)):=by
 induction r with
 |nil=>exact .nil
 |@cons p q ps qs h t ih =>
  rw[iz,iz];refine .cons ?_ ih;obtain⟨h1,h2,h3⟩:=h;unfold putAt;by_cases e:p.1=k
  .rw[if_pos e,if_pos (h1.symm.trans e)];exact⟨h1,h2,ry⟩
  .rw[if_neg e,if_neg (λz=>e (h1.trans z))];exact⟨h1,h2,h3⟩
def KT.put(r:KT H kvs xs)(k:List Key)(hb:H b=aj (.tup (k.map kV)))(ry:RelV y u) :
  KT H (putK kvs k y) (a0j xs k b u):=by
 have e:(kvs.any λkv=>decide (kv.1=k))=(atKey xs k).isSome:=by
  rw[a9L,(r.val k).w5,a2e]
 unfold putK a0j;rw[e];by_cases q:(atKey xs k).isSome=ak
 .rw[if_pos q,if_pos q];exact r.repl k ry
 .rw[if_neg q,if_neg q];exact Paired.snoc r ⟨rfl,hb,ry⟩
def KT.keeps(r:KT H kvs xs)(ht:∀b ys,H b=aj (.tup ys)->H' b=aj (.tup ys)):KT H' kvs xs :=
 Paired.aeS r λ_ _ z=>⟨z.1,ht _ _ z.2.1,z.2.2⟩
section
variable{w:jj}{h:jm}{a:bw}
def aCZ(ok:HOk P w H h)(e:Rd H a u):gZ P w H h a u:=e.ok ok
def a2L{kvs:List (Key×V)}(ok:HOk P w H h)(e:Rd H a (.dK kvs)):kvs.length<=dh/\(a==qd)=ao/\∃vs,KV kvs vs/\h.DictOf (aK P w) a vs :=
 show gZ P w H h a (.dK kvs)from aCZ ok e
def a9M{kvs:List (Key×V)}(ok:HOk P w H h)(e:H a=aj (.dK kvs)):kvs.length<=dh/\(a==qd)=ao/\∃vs,KV kvs vs/\h.DictOf (aK P w) a vs:=a2L ok (.inl e)
def xM{ks:List Key}(ok:HOk P w H h)(e:H a=aj (.tup (ks.map kV))):(a1f (aK P w)).is h ks a:=by
 obtain⟨_,its,r,o,h1,h2,n,h3⟩:=(show gZ P w H h a (.tup (ks.map kV))from ok a _ e);exact⟨o,its.toArray,n,h1,h2,h3,by simpa using a6G r⟩
variable{kvs:List (List Key×V)}
def a2M(ok:HOk P w H h)(e:Rd H a (.dT kvs)):kvs.length<=dh/\(a==qd)=ao /\
  ∃xs,KT H kvs xs/\h.DictOfH (a1f (aK P w)) a xs:=by
 obtain⟨z,y,xs,r,o,es,ep,h1,h2,h3,h4,h5⟩:=(show gZ P w H h a (.dT kvs)from aCZ ok e);refine⟨z,y,xs,r,o,es,ep,h1,h2,h3,h4,λx hx=>?_,h5⟩
 have all:∀{l:List (List Key×V)}{m:List (List Key×bw×aq)},KT H l m->∀x∈m,(a1f (aK P w)).is h x.1 x.2.1:=by
  intro l m q
  induction q with
  |nil=>intro x hx;exact nomatch hx
  |@cons p q ps qs hq t ih =>
   intro x hx;rcases jd.mp hx with e|hx
   .subst e;exact xM ok (by rw[←hq.1];exact hq.2.1)
   .exact ih x hx
 exact all r x hx
def ah9(ok:HOk P w H h)(e:H a=aj (.dT kvs)):kvs.length<=dh/\(a==qd)=ao /\
  ∃xs,KT H kvs xs/\h.DictOfH (a1f (aK P w)) a xs:=a2M ok (.inl e)
end
abbrev a3N(H:Hp)(a:bw)(y:V)(r:Option V):Prop :=
 (∃kvs k,Rd H a (.dK kvs)/\y=kV k/\r=zN kvs k)∨∃kvs k b,Rd H a (.dT kvs)/\y=.ref b/\H b=aj (.tup (k.map kV))/\r=zN kvs k
abbrev al3(H:Hp)(a:bw)(y v:V)(H':Hp):Prop :=
 (∃kvs k,H a=aj (.dK kvs)/\y=kV k/\kvs.length<dh/\H'=upd H a (.dK (putK kvs k v))) ∨
 ∃kvs k b,H a=aj (.dT kvs)/\y=.ref b/\H b=aj (.tup (k.map kV))/\kvs.length<dh/\H'=upd H a (.dT (putK kvs k v))
def a3N.k{a:bw}{k:Key}(e:H a=aj (.dK kvs)):a3N H a (kV k) (zN kvs k):=.inl ⟨kvs,k,.inl e,rfl,rfl⟩
def a3N.t{k:List Key}(e:H a=aj (.dT kvs))(eb:H b=aj (.tup (k.map kV))):a3N H a (.ref b) (zN kvs k):=.inr ⟨kvs,k,b,.inl e,rfl,eb,rfl⟩
def al3.k{a:bw}{kvs:List (Key×V)}{k:Key}{v:V}(e:H a=aj (.dK kvs))(hl:kvs.length<dh):al3 H a (kV k) v (upd H a (.dK (putK kvs k v))):=.inl ⟨kvs,k,e,rfl,hl,rfl⟩
def al3.t{kvs:List (List Key×V)}{k:List Key}(e:H a=aj (.dT kvs))(eb:H b=aj (.tup (k.map kV)))(hl:kvs.length<dh) :
  al3 H a (.ref b) v (upd H a (.dT (putK kvs k v))):=.inr ⟨kvs,k,b,e,rfl,eb,hl,rfl⟩
section
variable{X:Cx}{pins:List (bw×Obj)}{s:cu}{a:bw}{v:V}{r:aq}{o:Option V}{A:jx}
def Inv.big(I:Inv X pins σ H s):qd<s.heap.objs.size:=by
 have h:ju<s.heap.objs.size:=(I.mod.glob.keeps I.bk).lt;exact Nat.lt_trans (by decide) h
def aqB(hu:A.units+1<jr)(I:Inv X pins σ H s)(g:a3N H a y (aj v))(ry:RelV y u)(h:∀w' s',Inv X pins σ H s'->RelV v w'->Q w' s') :
  dg (dw X.prog X.w) A (getItem (.ref a) u) Q E s:=by
 rcases g with⟨kvs,k,e,ey,l⟩|⟨kvs,k,b,e,ey,eb,l⟩
 .subst ey;obtain⟨z,hd,vs,rel,dd⟩:=a2L I.hok e;obtain⟨w',hw,rw'⟩:=xH.some_of (v:=v) (o:=valueAt vs k) (by rw[l];exact rel.val k);exact wpAny_getItem_of (a7R ry) dd.mapOf hw (h w' _ (I.tok _) rw')
 .subst ey;cases(show u=aq.ref b from ry);obtain⟨z,hd,xs,rel,dd⟩:=a2M I.hok e;obtain⟨w',hw,rw'⟩:=xH.some_of (v:=v) (o:=(atKey xs k).map (·.2)) (by rw[l];exact rel.val k);obtain⟨p,hp,hp2⟩:=a1h.mp hw;refine wpAny_getItem_heap (yt hu) (xM I.hok eb) dd hp ?_;rw[hp2];exact h w' _ (I.tok _) rw'
def aQ3(hu:A.units+1<jr)(I:Inv X pins σ H s)(g:a3N H a y o)(ry:RelV y u)(h:∀s',Inv X pins σ H s'->Q (.bool o.isSome) s') :
  dg (dw X.prog X.w) A (jg .In u (.ref a)) Q E s:=by
 rcases g with⟨kvs,k,e,ey,l⟩|⟨kvs,k,b,e,ey,eb,l⟩
 .subst ey;obtain⟨z,hd,vs,rel,dd⟩:=a2L I.hok e;refine wpAny_in_of (a7R ry) hd dd.mapOf ?_;rw[←(rel.val k).w5,←l];exact h _ (I.tok _)
 .subst ey;cases(show u=aq.ref b from ry);obtain⟨z,hd,xs,rel,dd⟩:=a2M I.hok e;refine wpAny_in_heap (yt hu) (xM I.hok eb) hd dd ?_;have q:=(rel.val k).w5;rw[a2e]at q;rw[←q,←l];exact h _ (I.tok _)
def ayU(hu:A.units+1<jr)(I:Inv X pins σ H s)(g:a3N H a y o)(ry:RelV y u)(h:∀s',Inv X pins σ H s'->Q (.bool (!o.isSome)) s') :
  dg (dw X.prog X.w) A (jg .NotIn u (.ref a)) Q E s:=by
 rcases g with⟨kvs,k,e,ey,l⟩|⟨kvs,k,b,e,ey,eb,l⟩
 .subst ey;obtain⟨z,hd,vs,rel,dd⟩:=a2L I.hok e;refine wpAny_notIn_of (a7R ry) hd dd.mapOf ?_;rw[←(rel.val k).w5,←l];exact h _ (I.tok _)
 .subst ey;cases(show u=aq.ref b from ry);obtain⟨z,hd,xs,rel,dd⟩:=a2M I.hok e;refine wpAny_notIn_heap (yt hu) (xM I.hok eb) hd dd ?_;have q:=(rel.val k).w5;rw[a2e]at q;rw[←q,←l];exact h _ (I.tok _)
def a1G{ob:HO}(I:Inv X pins σ H s)(mu:Mut (H a))(hs:ni a s.heap h')(he:∃q,h'.get? a=aj q)(new:gZ X.prog X.w (upd H a ob) h' a ob) :
  Inv X pins σ (upd H a ob) {s with heap:=h',toks:=t' } :=
 I.write (x:=a) (e:=a) mu (.inl rfl) (λb q hb z=>(hs.2 b hb).trans z) he new
def asY{w:jj}{kvs:List (Key×V)}(z:kvs.length<=dh)(hd:(a==qd)=ao)(rel:KV kvs vs)(dd:h'.DictOf (aK P w) a vs) :
  gZ P w H' h' a (.dK kvs):=⟨z,hd,vs,rel,dd⟩
def aqC(hu:A.units+1<jr)(I:Inv X pins σ H s)(g:al3 H a y v H')(ry:RelV y u)(rv:RelV v r)(h:∀s',Inv X pins σ H' s'->Q () s') :
  dg (dw X.prog X.w) A (setItem (.ref a) u r) Q E s:=by
 rcases g with⟨kvs,k,e,ey,l,eH⟩|⟨kvs,k,b,e,ey,eb,l,eH⟩
 .subst ey eH;obtain⟨z,hd,vs,rel,dd⟩:=a9M I.hok e;have hz:vs.length<=dh:=by rw[←rel.length];exact z
  have hl:(putK kvs k v).length<=dh:=by have:=zR kvs k v;omega
  refine wpAny_setItem_pairs (hsz:=hz) (a7R ry) dd λh' dd' hs=>h _ ?_;have he:∃q,h'.get? a=aj q:=let⟨q,_,_,hq,_⟩:=dd';⟨q,hq⟩
  exact a1G I (by rw[e];exact True.intro) hs he (asY hl hd (rel.put k rv) dd')
 .subst ey eH;cases(show u=aq.ref b from ry);obtain⟨z,hd,xs,rel,dd⟩:=ah9 I.hok e;have hz:xs.length<=dh:=by rw[←Paired.length rel];exact z
  have hl:(putK kvs k v).length<=dh:=by have:=zR kvs k v;omega
  refine wpAny_setItem_heap (hsz:=hz) (yt hu) (xM I.hok eb) dd λh' dd' hs=>h _ ?_;obtain⟨q,es,ep,hq,h2,h3,h4,_,h5⟩:=dd';refine a1G I (by rw[e];exact True.intro) hs ⟨q,hq⟩ ⟨hl,hd,_,(rel.put k eb rv).keeps λc ys ec=>?_,q,es,ep,hq,h2,h3,h4,h5⟩;rw[bA (asI ec e (λz=>nomatch z))];exact ec
end
section
variable{X:Cx}{pins:List (bw×Obj)}{a:bw}{kvs:List (Key×V)}{k:Key}{A:jx}
def aL6(I:Inv X pins σ H s)(e:H a=aj (.dK kvs))(ry:RelV (kV k) u)(l:zN kvs k=aj v)(hm:more=[]∨∃x,more=[x])
  (h:∀w' s',Inv X pins σ (upd H a (.dK (zO kvs k))) s'->RelV v w'->Q w' s'):dg (dw X.prog X.w) A (call (.builtin "dict.pop") (.ref a::u::more)) Q E s:=by
 obtain⟨z,hd,vs,rel,dd⟩:=a9M I.hok e;obtain⟨w',hw,rw'⟩:=xH.some_of (v:=v) (o:=valueAt vs k) (by rw[←l];exact rel.val k)
 have hp:(keyPart u).isSome=ak:=by
  cases k with
  |inl i=>obtain⟨t,q⟩:=(show ∃t,u=aq.int i t from ry);subst q;rfl
  |inr x=>obtain⟨t,q⟩:=(show ∃t,u=aq.str x t from ry);subst q;rfl
 have ha:argsOk "dict.pop" ⟨.ref a::u::more,[]⟩:=by
  rcases hm with q|⟨x,q⟩
  .subst q;exact PySem.F.args_dict_pop_2 _ _
  .subst q;exact PySem.F.args_dict_pop_3 _ _ _
 refine call_meetsIn PySem.F.slot_dict_pop dd.typeIs PySem.F.entry_dict_pop ha (meets_dict_pop_there (aK X.prog X.w) a (a7R ry) more hm hp)
  ⟨vs,w',dd,by rw[←rel.length];exact z,hw,λh' dd' hs=>h w' _ ?_ rw'⟩
 have he:∃q,h'.get? a=aj q:=let⟨q,_,_,hq,_⟩:=dd';⟨q,hq⟩
 exact a1G I (by rw[e];exact True.intro) hs he (asY (qu (ah8 kvs k) z) hd (rel.drop k) dd')
def aL7(I:Inv X pins σ H s)(e:Rd H a (.dK kvs))(h:∀t s',Inv X pins σ H s'->Q (.int kvs.length t) s'):dg (dw X.prog X.w) A (call (.builtin "len") [.ref a]) Q E s:=by
 obtain⟨z,hd,vs,rel,dd⟩:=a2L I.hok e;refine call_len_dict hd dd (by rw[←rel.length];rw[sizeLine_eq]at z;omega) ?_;rw[←rel.length];exact h _ _ (I.tok _)
end
abbrev ayV(i:jq):Prop:=∀ov iv,subscripted i ao ov iv=operate [ov,iv] (getItem ov iv)
def anE{prog:jt}{w:jj}{T id:String} 
  (hl:typeLookup (.type T) "__getitem__"=pure (aj (.builtin id)))(hs:ayV slice)
  (h:dg (dw prog w) A (eval value env) (λo s₁=>dg (dw prog w) A (eval slice env) (λi s₂=>s₂.TypeIs o T/\dg (dw prog w) A (getItem o i) Q E s₂) E s₁) E s) :
  dg (dw prog w) A (eval (.Subscript value slice pos) env) Q E s:=by
 refine Subscript_ (qy h (λo s₁ h₁=>qy h₁ (λi s₂ h₂=>?_) λ_ _ x=>x) λ_ _ x=>x);obtain⟨hT,h₂⟩:=h₂;unfold subscriptTail;refine bh ?_;rw[getitemInPython_of_ne hT.not_modules];refine bh (wpAny_specialOf hT hl ?_)
 have fin:dg (dw prog w) A (subscripted slice ao o i) (λr s₃=>dg (dw prog w) A (letTemporaryGo value o r >>= λ_=>pure r) Q E s₃) E s₂:=by
  rw[hs o i];exact wpAny_operating (qy h₂ (λr s₃ h₃=>bh (wpAny_letTemporaryGo (cj h₃))) λ_ _ x=>x)
 first
  |exact cj (bh fin)
  |exact bh (cj (bh fin))
  |exact bh fin
def ahB{s:cu}(I:Inv X pins σ H s)(g:a3N H a y o):s.TypeIs (.ref a) "dict":=by
 rcases g with⟨kvs,k,e,_,_⟩|⟨kvs,k,b,e,_,_,_⟩
 .obtain⟨_,_,vs,_,dd⟩:=a2L I.hok e;exact dd.typeIs
 .obtain⟨_,_,xs,_,dd⟩:=a2M I.hok e;exact dd.typeIs
abbrev aL8(td ty:TE):TE:=λσ H Q=>td σ H λx H1=>ty σ H1 λy H2=>∃a v,x=.ref a/\a3N H2 a y (aj v)/\Q v H2
abbrev aL9(td ty tv:TE):TS:=λD σ H=>tv σ H λv H1=>td σ H1 λx H2=>ty σ H2 λy H3=>∃a H4,x=.ref a/\al3 H3 a y v H4/\D.nx σ H4
section
variable{X:Cx}{o:jq}{pos:Pos}{ty:TE}
def ayW(hu:X.A.units+1<jr)(ho:PE X o td)(hi:PE X i ty)(hs:ayV i):PE X (.Subscript o i pos) (aL8 td ty):=by
 intro pins s σ H Q I h;refine anE PySem.F.slot_dict_getitem.lookup hs (dZ (ho pins s σ H _ I h) λu s1 ⟨x,H1,I1,rx,q1⟩=>dZ (hi pins s1 σ H1 _ I1 q1) ?_);rintro iv s2 ⟨y,H2,I2,ry,a,v,ex,g,q2⟩;subst ex;obtain rfl:u=aq.ref a:=rx;exact⟨ahB I2 g,aqB hu I2 g ry λw' s3 I3 rw'=>⟨v,H2,I3,rw',q2⟩⟩
def ayX(hu:X.A.units+1<jr)(ho:PE X o td)(hi:PE X i ty)(hv:PE X value tv)(hs:a0h value (aj (.Subscript o i pos')) pos.line X.env=pure ao) :
  PS X (.Assign [.Subscript o i pos'] value pos) (aL9 td ty tv):=by
 intro pins s σ H D I h;refine wpAny_Assign_Subscript (dZ (hv pins s σ H _ I h) λr s1 ⟨v,H1,I1,rv,q1⟩=>dZ (ho pins s1 σ H1 _ I1 q1) λu s2 ⟨x,H2,I2,rx,q2⟩=>dZ (hi pins s2 σ H2 _ I2 q2) ?_) hs;rintro iv s3 ⟨y,H3,I3,ry,a,H4,ex,g,q3⟩;subst ex;obtain rfl:u=aq.ref a:=rx;exact aqC hu I3 g ry rv λs4 I4=>⟨σ,H4,I4,q3⟩
end
def asZ{w:jj}(h:jm)(hb:qd<h.objs.size):gZ P w H (h.push {cls:=.type "dict",data:=.dict #[]}) h.objs.size (.dK []) :=
 ⟨ur _,beq_eq_false_iff_ne.mpr (Ne.symm (jc hb)),[],.nil,Heap.DictOf.new h⟩
def at4{w:jj}(h:jm)(hb:qd<h.objs.size):gZ P w H (h.push {cls:=.type "dict",data:=.dict #[]}) h.objs.size (.dT []) :=
 ⟨ur _,beq_eq_false_iff_ne.mpr (Ne.symm (jc hb)),[],.nil,_,#[],0,iw _ rfl,⟨rfl,rfl,rfl⟩,rfl,rfl,a0u⟩
abbrev aFA:TE:=λ_ H Q=>∀p,H p=au->Q (.ref p) (upd H p (.dK []))
abbrev aFB:TE:=λ_ H Q=>∀p,H p=au->Q (.ref p) (upd H p (.dT []))
section
variable{pos:Pos}
def at5:PE X (.Dict [] [] pos) aFA:=λpins s σ H Q I h =>
 wpAny_Dict_empty ⟨.ref s.heap.objs.size,_,I.laid (a:=s.heap.objs.size) (o:=.dK []) (t':=s.toks) (λ_ _ q=>cg _ q) (dz _) (asZ s.heap I.big),rfl,h _ (I.hok.fresh (dz _))⟩
def ahC:PE X (.Dict [] [] pos) aFB:=λpins s σ H Q I h =>
 wpAny_Dict_empty ⟨.ref s.heap.objs.size,_,I.laid (a:=s.heap.objs.size) (o:=.dT []) (t':=s.toks) (λ_ _ q=>cg _ q) (dz _) (at4 s.heap I.big),rfl,h _ (I.hok.fresh (dz _))⟩
end
structure M1(X:Cx)(o:jq)(m:Str)(apos:Pos)(e:jq)(cpos:Pos):Prop where
 base:uh o m X.env (eval o X.env)=eval o X.env
 few:((tu cpos (ji [e] X.env)).all (λx=>!x.1)&&(backToKw cpos (a0f [] X.env)).all (λx=>x.1.isSome)
  &&decide (([e]:List jq).length+([]:List a0k).length+(if([]:List a0k).isEmpty then 0 else 1)<30))=ak
 line:(apos.endLine==cpos.line)=ak
 trees:tu cpos (ji [e] X.env)=[(ao,eval e X.env)]
structure M2(X:Cx)(o:jq)(m:Str)(apos:Pos)(e f:jq)(cpos:Pos):Prop where
 base:uh o m X.env (eval o X.env)=eval o X.env
 few:((tu cpos (ji [e,f] X.env)).all (λx=>!x.1)&&(backToKw cpos (a0f [] X.env)).all (λx=>x.1.isSome)
  &&decide (([e,f]:List jq).length+([]:List a0k).length+(if([]:List a0k).isEmpty then 0 else 1)<30))=ak
 line:(apos.endLine==cpos.line)=ak
 trees:tu cpos (ji [e,f] X.env)=[(ao,eval e X.env),(ao,eval f X.env)]
abbrev IsD(H:Hp)(a:bw):Prop:=(∃kvs,Rd H a (.dK kvs))∨∃kvs,Rd H a (.dT kvs)
def a9N{s:cu}(I:Inv X pins σ H s)(d:IsD H a) :
  s.TypeIs (.ref a) "dict"/\(∀b,aq.ref a=.ref b->∃ob,s.heap.get? b=aj ob/\ob.dict=au)/\(a==qd)=ao:=by
 rcases d with⟨kvs,e⟩|⟨kvs,e⟩
 .obtain⟨_,hd,vs,_,dd⟩:=a2L I.hok e;refine⟨dd.typeIs,λb q=>?_,hd⟩;cases q;obtain⟨ob,_,_,h1,h2,_⟩:=dd;exact⟨ob,h1,h2.2.1⟩
 .obtain⟨_,hd,xs,_,dd⟩:=a2M I.hok e;refine⟨dd.typeIs,λb q=>?_,hd⟩;cases q;obtain⟨ob,_,_,h1,h2,_⟩:=dd;exact⟨ob,h1,h2.2.1⟩
section
variable{X:Cx}{pins:List (bw×Obj)}{a:bw}{r:aq}{o:Option V}{A:jx}
def aFC(hu:A.units+1<jr)(I:Inv X pins σ H s)(g:a3N H a y o)(ry:RelV y u)(rd:RelV d r)(h:∀w' s',Inv X pins σ H s'->RelV (o.getD d) w'->Q w' s') :
  dg (dw X.prog X.w) A (call (.builtin "dict.get") [.ref a,u,r]) Q E s:=by
 rcases g with⟨kvs,k,e,ey,l⟩|⟨kvs,k,b,e,ey,eb,l⟩
 .subst ey;obtain⟨z,hd,vs,rel,dd⟩:=a2L I.hok e;refine call_meetsIn PySem.F.slot_dict_get dd.typeIs PySem.F.entry_dict_get (PySem.F.args_dict_get_3 _ _ _) (meets_dict_get_default (aK X.prog X.w) a (a7R ry) hd r) ⟨_,dd.mapOf,h _ _ (I.tok _) ?_⟩;rw[l];exact(rel.val k).getD rd
 .subst ey;cases(show u=aq.ref b from ry);obtain⟨z,hd,xs,rel,dd⟩:=a2M I.hok e;refine call_meetsIn PySem.F.slot_dict_get dd.typeIs PySem.F.entry_dict_get (PySem.F.args_dict_get_3 _ _ _) (meetsH_dict_get_default (a1f (aK X.prog X.w)) a b hd r) ⟨yt hu,k,xs,xM I.hok eb,dd,h _ _ (I.tok _) ?_⟩;rw[l];exact(rel.val k).getD rd
end
abbrev aFD(td ty tx:TE):TE:=λσ H Q=>td σ H λx H1=>∃a,x=.ref a/\IsD H1 a/\ty σ H1 λy H2=>tx σ H2 λz H3=>∃o,a3N H3 a y o/\Q (o.getD z) H3
section
variable{X:Cx}{o:jq}{ty:TE}
def at6(hu:X.A.units+1<jr)(ho:PE X o td)(he:PE X e ty)(hf:PE X f tx)(m:M2 X o "get" apos e f cpos):PE X (.Call (.Attribute o "get" apos) [e,f] [] cpos) (aFD td ty tx):=by
 intro pins s σ H Q I h;refine wpAny_Call_method m.base m.few m.line PySem.F.plainAttrs_dict PySem.F.slot_dict_get PySem.F.type_dict_get (dZ (ho pins s σ H _ I h) ?_);rintro u s1 ⟨x,H1,I1,rx,a,ex,d,q1⟩;subst ex;obtain rfl:u=aq.ref a:=rx;obtain⟨t1,t2,_⟩:=a9N I1 d;refine⟨t1,t2,?_⟩;rw[m.trees]
 refine Calls.callWith_builtin rfl (Calls.evalArgs_plain (Calls.spliced_cons (dZ (he pins s1 σ H1 _ I1 q1) λiv s2 ⟨y,H2,I2,ry,q2⟩ =>
  Calls.spliced_cons (dZ (hf pins s2 σ H2 _ I2 q2) λfv s3 ⟨z,H3,I3,rz,ov,g,q3⟩=>Calls.spliced_nil ?_))))
 exact aFC hu I3 g ry rz λw' s4 I4 rw'=>⟨_,H3,I4,rw',q3⟩
end
section
end
section
end
end
end L2
namespace HT
open PySem PyProof.Rows
abbrev lexLt:List Int->List Int->Bool
 |[],[]=>ao
 |[],_::_=>ak
 |_::_,[]=>ao
 |x::xs,y::ys=>if x=y then lexLt xs ys else decide (x<y)
def al5(x y:Int)(xs ys:List Int):lexLt (x::xs) (y::ys)=if x=y then lexLt xs ys else decide (x<y):=rfl
def ac1:lexLt [] []=ao:=rfl
def a9O(y:Int)(ys:List Int):lexLt [] (y::ys)=ak:=rfl
def a9P(x:Int)(xs:List Int):lexLt (x::xs) []=ao:=rfl
def at7(A:jx)(s:cu)(a:Int)(t:Tok)(c:Int)(u:Tok):∃e,SeqAt.EqAt A s (.int a t) (.int c u) e/\(e=ak↔a=c) :=
 ⟨(a==c),SeqAt.EqAt.int_int a t c u,by simp⟩
def ahD(A:jx)(s:cu)(a:Int)(t:Tok)(c:Int)(u:Tok)(prog:jt)(w:jj)(E:aq->cu->Prop)(Q:aq->cu->Prop)(h:Q (.bool (decide (a<c))) s) :
  dg (dw prog w) A (richCompare .Lt (.int a t) (.int c u)) Q E s :=
 (PyProof.Rows.lt_int h:dg (dw prog w) A (jg .Lt (.int a t) (.int c u)) Q E s)
section
open PySem.SeqAt
open PySem.AutoSeq1 (wpAny_loadPart')
open PySem.MeetsSeq PySem.MeetsSeq2 PySem.MeetsSeq3
private theorem ac2(l b:bw)(items items2:Array aq)(n n2:Nat)(dd dd2:Option bw)(sl sl2:Array (Option aq))(ns ms:List Int)(hi:a1b items.toList ns)(hj:a1b items2.toList ms) :
  Meets (Builtin.«tuple.__lt__» ⟨[.ref l,.ref b],[]⟩)
   (λ_ R s=>s.heap.get? l=aj {cls:=.type "tuple",dict:=dd,data:=.seq items n,slots:=sl}/\s.heap.get? b=aj {cls:=.type "tuple",dict:=dd2,data:=.seq items2 n2,slots:=sl2} /\
    R (.ok (.ret (.bool (lexLt ns ms)))) s) :=
 .of_wp λprog w A R s h=>by
  obtain⟨hp,g,d,tk,os⟩:=s;obtain⟨hl,hb,h⟩:=h;have f2:=AutoSeq1.sub_tuple_tuple;have z1:items.size=ns.length:=by rw[←hi.length];simp
  have z2:items2.size=ms.length:=by rw[←hj.length];simp
  wp_walk using wpAny_loadPart' hl,wpAny_loadPart' hb,wpAny_forIn_list _ (λrest b s'=>b.1=au/\s'=⟨hp,g,d,tk,os⟩/\∃(vs ws:List aq)(ns' ms':List Int),rest=vs.zip ws /\
   a1b vs ns'/\a1b ws ms'/\ns'.length+items2.size=ms'.length+items.size/\R (.ok (.ret (.bool (lexLt ns' ms')))) ⟨hp,g,d,tk,os⟩) _
  case turn =>
   rintro⟨y,x⟩ rest b s' ⟨hb',rfl,vs,ws,ns',ms',hz,hvi,hwi,hlen,hR⟩;cases hvi with
   |nil=>rw[List.zip_nil_left]at hz;cases hz
   |cons a t aQ5 =>
    cases hwi with
    |nil=>rw[List.zip_nil_right]at hz;cases hz
    |cons c u aQ6 =>
     rw[List.zip_cons_cons]at hz;injection hz with hyx hrest;injection hyx with hy hx;subst hy hx;rw[al5]at hR;simp only[qb]at hlen;obtain⟨e,he,hiff⟩:=at7 A.in1 ⟨hp,g,d,tk,os⟩ a t c u;refine bh (he prog w _ _ ?_);cases e with
     |true =>
      rw[if_pos (hiff.mp rfl)]at hR
      wp_walk
      exact⟨rfl,rfl,_,_,_,_,hrest,aQ5,aQ6,by omega,hR⟩
     |false =>
      rw[if_neg (λq=>absurd (hiff.mpr q) qw)]at hR;have hri:=ahD A.in1 ⟨hp,g,d,tk,os⟩ a t c u prog w
      wp_walk using hri
      exact⟨_,rfl,by simpa using hR⟩
  case fin =>
   rintro⟨b1,b2⟩ s' ⟨hb',rfl,vs,ws,ns',ms',hz,hvi,hwi,hlen,hR⟩;simp only at hb';subst hb'
   have hv:lexLt ns' ms'=decide (items.size<items2.size):=by
    cases hvi with
    |nil =>
     cases hwi with
     |nil =>
      simp only[a2m]at hlen;rw[ac1];exact(decide_eq_false (by omega)).symm
     |cons c u hw =>
      simp only[a2m,qb]at hlen;rw[a9O];exact(decide_eq_true (by omega)).symm
    |cons a t hv =>
     cases hwi with
     |nil =>
      simp only[a2m,qb]at hlen;rw[a9P];exact(decide_eq_false (by omega)).symm
     |cons c u hw =>
      rw[List.zip_cons_cons]at hz;cases hz
   rw[hv]at hR
   wp_walk
   exact⟨_,rfl,by simpa[Builtin.Tuple.tupleCompareSizes]using hR⟩
  case h =>
   exact⟨rfl,rfl,items.toList,items2.toList,ns,ms,rfl,hi,hj,by omega,h⟩
end
variable{b:bw}
section
variable{prog:jt}{w:jj}{A:jx}{s:cu}
def al6{items items2:Array aq}{ns:List Int}(hl:IsTup s.heap l items)(hb:IsTup s.heap b items2)(hi:a1b items.toList ns)(hj:a1b items2.toList ms)
  (hu:A.units<jr)(h:Q (.bool (lexLt ns ms)) s):dg (dw prog w) A (jg .Lt (.ref l) (.ref b)) Q E s:=by
 obtain⟨⟨cls,dd,data,sl⟩,ho,hc,n,hd⟩:=id hl;obtain⟨⟨cls2,dd2,data2,sl2⟩,ho2,hc2,n2,hd2⟩:=id hb;simp only at hc hd hc2 hd2;subst hc hd hc2 hd2
 exact richCompare_meets_room (op:=.Lt) ⟨_,ho,rfl⟩ ⟨_,ho2,rfl⟩ PySem.F.slot_tuple_lt PySem.F.entry_tuple_lt (PySem.F.args_tuple_lt_2 _ _) (ac2 l b items items2 n n2 dd dd2 sl sl2 ns ms hi hj)
  ⟨ho,ho2,show aq.bool (lexLt ns ms)≠aq.notImplemented/\Q (.bool (lexLt ns ms)) s from⟨(λx=>nomatch x),h⟩⟩ hu
def ayY{t:bw}{vs ws:List aq}(ht:IsTup s.heap t vs.toArray)(hb:IsTup s.heap b ws.toArray)(hv:vs≠[])
  (h1:ws=[]->Q (.ref t) s)(h2:ws≠[]->Q (.ref s.heap.objs.size) {s with heap:=s.heap.push {cls:=.type "tuple",data:=.seq (vs++ws).toArray}})
  (hsz:vs.length+ws.length<=dh):dg (dw prog w) A (xr .Add (.ref t) (.ref b)) Q E s:=by
 obtain⟨⟨cls,dd,data,sl⟩,ho,hc,n,hd⟩:=id ht;obtain⟨⟨cls2,dd2,data2,sl2⟩,ho2,hc2,n2,hd2⟩:=id hb;simp only at hc hd hc2 hd2;subst hc hd hc2 hd2;have e:vs.toArray++ws.toArray=(vs++ws).toArray:=by simp
 by_cases hw:ws=[]
 .exact concat_meets ⟨_,ho,rfl⟩ ⟨_,ho2,rfl⟩ noFill_tuple_add seq_tuple_add PySem.F.slot_tuple_add PySem.F.entry_tuple_add (PySem.F.args_tuple_add_2 _ _)
   (tuple_addW1 t b vs.toArray ws.toArray n n2 dd dd2 sl sl2 (by simpa using hv) (by simp[hw])) ⟨ho,ho2,h1 hw⟩
 .refine concat_meets ⟨_,ho,rfl⟩ ⟨_,ho2,rfl⟩ noFill_tuple_add seq_tuple_add PySem.F.slot_tuple_add PySem.F.entry_tuple_add (PySem.F.args_tuple_add_2 _ _)
   (tuple_addW2 t b vs.toArray ws.toArray n n2 dd dd2 sl sl2 (by simpa using hv) (by simpa using hw) (by rw[fj,fj];exact hsz)) ⟨ho,ho2,?_⟩
  rw[e];exact h2 hw
end
end HT
namespace L2
open PySem PySem.Spec PyProof.Rows
section
@[simp]def TO:=St->Hp->(Option Int->Hp->Prop)->Prop
abbrev PO(X:Cx)(e:Option jq)(t:TO):Prop :=
 ∀(pins:List (bw×Obj))(s:cu)(σ:St)(H:Hp)(Q:Option Int->Hp->Prop),Inv X pins σ H s->t σ H Q ->
  dg (dw X.prog X.w) X.A (evalPart e X.env) (λu s'=>∃o H',Inv X pins σ H' s'/\IsPart u o/\Q o H') X.xe s
abbrev ayZ:TO:=λ_ H Q=>Q au H
abbrev aLA(t:TE):TO:=λσ H Q=>t σ H λx H1=>∃i,x=.int i/\Q (aj i) H1
def intsAre_of{ns:List Int}:∀{us:List aq},Vals (ns.map V.int) us->a1b us ns:=by
 induction ns with
 |nil=>intro us r;rw[a2n]at r;cases r;exact .nil
 |cons n ns ih =>
  intro us r;rw[iz]at r;cases r with
  |cons r1 r2 =>
   obtain⟨t,e⟩:=r1;subst e;exact .cons n t (ih r2)
section
variable{X:Cx}
def az0:PO X au ayZ:=by
 intro pins s σ H Q I h;rw[evalPart_none];exact cj ⟨au,H,I,.none,h⟩
def az1(h:PE X e te):PO X (aj e) (aLA te):=by
 intro pins s σ H Q I hw;rw[evalPart_some];refine dZ (h pins s σ H _ I hw) ?_;rintro u s1 ⟨x,H1,I1,r1,q1⟩;obtain⟨i,rfl,q⟩:=q1;obtain⟨t,rfl⟩:=r1;exact⟨aj i,H1,I1,.int i t,q⟩
abbrev aLB(K:je):R2:=λx y H Q=>∃a b xs ys,x=.ref a/\y=.ref b/\SqT K H a xs/\SqT K H b ys/\xs≠[]/\xs.length+ys.length<=dh /\
 (ys=[]->Q (.ref a) H)/\(ys≠[]->∀p,H p=au->Q (.ref p) (upd H p (.tup (xs++ys))))
def Vals.a4U(r:Vals xs us):us=[]↔xs=[]:=by
 cases r with
 |nil=>simp
 |cons _ _=>simp
def az2:vV X (xr .Add) (aLB X.K):=by
 intro pins s σ H x y v u Q I rx ry h;obtain⟨a,b,xs,ys,rfl,rfl,ha,hb,hx,hz,q1,q2⟩:=h;cases rx;cases ry;obtain⟨its,r1,p1,_⟩:=I.tuple ha;obtain⟨its2,r2,p2,_⟩:=I.tuple hb;refine HT.ayY p1 p2 (λz=>hx (r1.a4U.mp z)) (λz=>⟨.ref a,H,I,rfl,q1 (r2.a4U.mp z)⟩) (λz=>?_) (by rw[←r1.length,←r2.length];exact hz);refine⟨.ref s.heap.objs.size,_,I.laid (t':=s.toks) (o:=.tup (xs++ys)) (λb ob q=>cg _ q) (dz _) ?_,rfl,q2 (λw=>z (r2.a4U.mpr w)) _ (I.hok.fresh (dz _))⟩;exact⟨by rw[wz];exact hz,_,r1.append r2,IsTup.new _ _⟩
end
end
variable{n:Nat}{i:Int}{r:R2}{x:V}{v:aq}
section
abbrev ixN(n:Nat)(i:Int):Option Nat:=if 0<=i then(if i<n then aj i.toNat else au)else if -(n:Int)<=i then aj (i+n).toNat else au
abbrev atI{α:Type}(xs:List α)(i:Int):Option α:=(ixN xs.length i).bind λj=>xs[j]?
def az3{j:Nat}(h:ixN n i=aj j):seqIndex? i n=aj j/\j<n/\-(n:Int)<=i/\i<n:=by
 unfold ixN at h;by_cases h0:0<=i
 .rw[if_pos h0]at h;by_cases h1:i<n
  .rw[if_pos h1]at h;have e:i.toNat=j:=jf.inj h;exact⟨by rw[seqIndex_of h0 h1,e],by omega,by omega,h1⟩
  .rw[if_neg h1]at h;cases h
 .rw[if_neg h0]at h;by_cases h1:-(n:Int)<=i
  .rw[if_pos h1]at h;have e:(i+n).toNat=j:=jf.inj h;exact⟨by rw[seqIndex_neg (by omega) h1,e],by omega,h1,by omega⟩
  .rw[if_neg h1]at h;cases h
def aeZ{α:Type}{xs:List α}{v:α}(h:atI xs i=aj v):∃j,seqIndex? i xs.length=aj j/\xs[j]?=aj v/\j<xs.length/\-(xs.length:Int)<=i/\i<xs.length:=by
 unfold atI at h;cases e:ixN xs.length i with
 |none=>rw[e]at h;cases h
 |some j =>
  rw[e]at h;obtain⟨h1,h2,h3,h4⟩:=az3 e;exact⟨j,h1,h,h2,h3,h4⟩
abbrev af0(b:jq):Prop:=∀o i,subscripted b ao o i=operate [o,i] (getItem o i)
abbrev IxR(X:Cx)(r:R2):Prop :=
 ∀(value slice:jq)(pins:List (bw×Obj))(s:cu)(σ:St)(H:Hp)(x y:V)(v u:aq)(Q:VK),Inv X pins σ H s->RelV x v->RelV y u->r x y H Q ->
  subscripted slice ao v u=operate [v,u] (getItem v u)->dg (dw X.prog X.w) X.A (subscriptTail value slice v u) (EP X pins σ Q) X.xe s
abbrev MtR(X:Cx)(id:String)(r:V->List V->Hp->VK->Prop):Prop :=
 ∀(pins:List (bw×Obj))(s:cu)(σ:St)(H:Hp)(x:V)(xs:List V)(v:aq)(us:List aq)(Q:VK),Inv X pins σ H s->RelV x v->Vals xs us->r x xs H Q ->
  dg (dw X.prog X.w) X.A (call (.builtin id) (v::us)) (EP X pins σ Q) X.xe s
section
variable{X:Cx}{a b:jq}{pos:Pos}
def IxR.or(h:IxR X r)(h':IxR X r'):IxR X (λx y H Q=>r x y H Q∨r' x y H Q):=by
 intro value slice pins s σ H x y v u Q I rx ry q hs;rcases q with q|q
 .exact h value slice pins s σ H x y v u Q I rx ry q hs
 .exact h' value slice pins s σ H x y v u Q I rx ry q hs
def aLC(hr:IxR X r)(ha:PE X a ta)(hb:PE X b tb)(hs:af0 b):PE X (.Subscript a b pos) (tOp r ta tb):=by
 intro pins s σ H Q I h;exact Subscript_ (aEU ha hb I h λv u s2 x y H2 I2 rx ry q=>hr a b pins s2 σ H2 x y v u Q I2 rx ry q (hs _ _))
abbrev aLD(K:je):R2:=λx y H Q=>∃p xs i v,x=.ref p/\y=.int i/\SqL K H p xs/\atI xs i=aj v/\Q v H
abbrev aLE(K:je):R2:=λx y H Q=>∃p xs i v,x=.ref p/\y=.int i/\SqT K H p xs/\atI xs i=aj v/\Q v H
abbrev aLF:R2:=λx y H Q=>∃z i c,x=.str z/\y=.int i/\z.length<=dh/\atI z.cps.toList i=aj c/\Q (.str ⟨#[c]⟩) H
def az5:IxR X (aLD X.K):=by
 intro value slice pins s σ H x y v u Q I rx ry h hs;obtain⟨p,xs,i,z,rfl,rfl,hq,he,q⟩:=h;cases rx;obtain⟨t,rfl⟩:=ry;obtain⟨its,r,pl,hz⟩:=I.list hq;obtain⟨j,h1,h2,h3,h4,h5⟩:=aeZ he;obtain⟨w,ew,rw'⟩:=r.get h2;have hl:=r.length;have hn:=a9J;have fin:EP X pins σ Q w s:=⟨z,H,I,rw',q⟩;by_cases h0:0<=i
 .have hj:i.toNat=j:=by
   rw[seqIndex_of h0 h5]at h1;exact jf.inj h1
  exact item_listR pl.isList h0 (by omega) (by rw[hj];simpa using ew) fin hs
 .have hj:(i+(its.toArray.size:Int)).toNat=j:=by
   rw[seqIndex_neg (by omega) h4]at h1;rw[fj,←hl];exact jf.inj h1
  exact subscriptTail_builtinR (x:=w) pl.isList.typeIs slot_list_getitem.lookup
   (wpAny_getItem_list_neg (Q:=λr s'=>r=w/\EP X pins σ Q r s') pl.isList (by omega) (by rw[fj]<;>omega) (by omega) (by rw[hj];simpa using ew) ⟨rfl,fin⟩) hs
def aFE:IxR X (aLE X.K):=by
 intro value slice pins s σ H x y v u Q I rx ry h hs;obtain⟨p,xs,i,z,rfl,rfl,hq,he,q⟩:=h;cases rx;obtain⟨t,rfl⟩:=ry;obtain⟨its,r,pl,hz⟩:=I.tuple hq;obtain⟨j,h1,h2,h3,h4,h5⟩:=aeZ he;obtain⟨w,ew,rw'⟩:=r.get h2;have hl:=r.length;have hn:=a9J;have fin:EP X pins σ Q w s:=⟨z,H,I,rw',q⟩
 exact subscriptTail_builtinR (x:=w) pl.typeIs slot_tuple_getitem.lookup
  (getItem_tuple (j:=j) (Q:=λr s'=>r=w/\EP X pins σ Q r s') pl (by omega) (by omega) (by rw[fj,←hl];exact h1) (by simpa using ew) ⟨rfl,fin⟩) hs
def aFF:IxR X aLF:=by
 intro value slice pins s σ H x y v u Q I rx ry h hs;obtain⟨z,i,c,rfl,rfl,hz,he,q⟩:=h;obtain⟨t,rfl⟩:=rx;obtain⟨t',rfl⟩:=ry;obtain⟨j,h1,h2,h3,h4,h5⟩:=aeZ he;have hl:z.cps.toList.length=z.length:=by simp[Str.length]
 rw[hl]at h1 h4 h5;have hn:=a9J
 exact tail_any (typeIs_str s z t) slot_str_getitem.lookup (getItem_str (c:=c) (by
  have e1:decide (i< -(2^63:Int))=ao:=decide_eq_false (by omega);have e2:decide (i≥2^63)=ao:=decide_eq_false (by omega);rw[e1,e2,Bool.or_false]) (by rw[h1];simpa using h2) ⟨.str ⟨#[c]⟩,H,I.tok _,⟨_,rfl⟩,q⟩) hs
abbrev rIx(K:je):R2:=λx y H Q=>aLD K x y H Q∨aLE K x y H Q∨aLF x y H Q
def aFG:IxR X (rIx X.K):=az5.or (aFE.or aFF)
abbrev yO:V->Bool
 |.non=>ak
 |.bl _=>ak
 |.int _=>ak
 |.str _=>ak
 |_=>ao
abbrev eqV:V->V->Bool
 |.non,.non=>ak
 |.bl a,.bl b=>a==b
 |.bl a,.int b=>(if a then 1 else 0)==b
 |.int a,.bl b=>a==(if b then 1 else 0)
 |.int a,.int b=>a==b
 |.str a,.str b=>a==b
 |_,_=>ao
def a6H{A:jx}(ry:RelV y u)(rx:RelV x v)(fy:yO y=ak)(fx:yO x=ak):SeqAt.EqAt A s u v (eqV y x):=by
 cases y with
 |non =>
  cases ry;cases x with
  |non=>cases rx;exact SeqAt.EqAt.same _
  |bl b=>cases rx;exact SeqAt.EqAt.none_bool b
  |int b=>obtain⟨t,rfl⟩:=rx;exact SeqAt.EqAt.none_int b t
  |str b=>obtain⟨t,rfl⟩:=rx;exact SeqAt.EqAt.none_str b t
  |_=>exact absurd (show ao=ak from fx) qw
 |bl a =>
  cases ry;cases x with
  |non=>cases rx;exact SeqAt.EqAt.bool_none a
  |bl b=>cases rx;exact SeqAt.EqAt.bool_bool a b
  |int b=>obtain⟨t,rfl⟩:=rx;exact SeqAt.EqAt.bool_int a b t
  |str b=>obtain⟨t,rfl⟩:=rx;exact SeqAt.EqAt.bool_str a b t
  |_=>exact absurd (show ao=ak from fx) qw
 |int a =>
  obtain⟨t',rfl⟩:=ry;cases x with
  |non=>cases rx;exact SeqAt.EqAt.int_none a t'
  |bl b=>cases rx;exact SeqAt.EqAt.int_bool a t' b
  |int b=>obtain⟨t,rfl⟩:=rx;exact SeqAt.EqAt.int_int a t' b t
  |str b=>obtain⟨t,rfl⟩:=rx;exact SeqAt.EqAt.int_str a t' b t
  |_=>exact absurd (show ao=ak from fx) qw
 |str a =>
  obtain⟨t',rfl⟩:=ry;cases x with
  |non=>cases rx;exact SeqAt.EqAt.str_none a t'
  |bl b=>cases rx;exact SeqAt.EqAt.str_bool a t' b
  |int b=>obtain⟨t,rfl⟩:=rx;exact SeqAt.EqAt.str_int a t' b t
  |str b=>obtain⟨t,rfl⟩:=rx;exact SeqAt.EqAt.str_str a t' b t
  |_=>exact absurd (show ao=ak from fx) qw
 |_=>exact absurd (show ao=ak from fy) qw
abbrev eqU(x:V)(u:aq):Bool:=match u with
 |.none=>eqV .non x
 |.bool b=>eqV (.bl b) x
 |.int i _=>eqV (.int i) x
 |.str z _=>eqV (.str z) x
 |_=>ao
def at8(r:RelV y u)(f:yO y=ak):eqU x u=eqV y x:=by
 cases y with
 |non=>cases r;rfl
 |bl b=>cases r;rfl
 |int i=>obtain⟨t,rfl⟩:=r;rfl
 |str z=>obtain⟨t,rfl⟩:=r;rfl
 |_=>exact absurd (show ao=ak from f) qw
def a4V{x:V}:∀{xs:List V}{us:List aq},Vals xs us->xs.all yO=ak->us.any (eqU x)=xs.any λy=>eqV y x
 |_,_,.nil,_=>rfl
 |y::xs,u::us,.cons r t,f=>by
  rw[zj,bx]at f;rw[a1a,a1a,at8 r f.1,a4V t f.2]
def zT{A:jx}{x:V}{v:aq}(rx:RelV x v)(fx:yO x=ak):∀{xs:List V}{us:List aq},Vals xs us->xs.all yO=ak->∀u∈us,SeqAt.EqAt A s u v (eqU x u)
 |_,_,.nil,_=>λu hu=>by cases hu
 |y::xs,u::us,.cons r t,f=>λu' hu=>by
  rw[zj,bx]at f;rcases jd.mp hu with rfl|hu
  .rw[at8 r f.1];exact a6H r rx f.1 fx
  .exact zT rx fx t f.2 u' hu
abbrev inV(x:V)(xs:List V):Bool:=xs.any λy=>eqV y x
abbrev rIn(K:je)(neg:Bool):R2:=λx y H Q=>∃p xs,y=.ref p/\(SqL K H p xs∨SqT K H p xs)/\yO x=ak/\xs.all yO=ak/\Q (.bl (if neg then !inV x xs else inV x xs)) H
def aqD:vV X (jg .In) (rIn X.K ao):=by
 intro pins s σ H x y v u Q I rx ry h;obtain⟨p,xs,rfl,hq,fx,fs,q⟩:=h;cases ry;rcases hq with hq|hq
 .obtain⟨its,r,pl,hz⟩:=I.list hq;refine SeqAt.in_listAt (eqU x) pl.isList (λw hw=>zT rx fx r fs w (by simpa using hw)) ⟨.bl _,H,I,rfl,?_⟩;rw[show its.toArray.any (eqU x)=its.any (eqU x) by simp,a4V r fs];exact q
 .obtain⟨its,r,pl,hz⟩:=I.tuple hq;refine SeqAt.in_tupleAt (eqU x) pl (λw hw=>zT rx fx r fs w (by simpa using hw)) ⟨.bl _,H,I,rfl,?_⟩;rw[show its.toArray.any (eqU x)=its.any (eqU x) by simp,a4V r fs];exact q
def af2:vV X (jg .NotIn) (rIn X.K ak):=by
 intro pins s σ H x y v u Q I rx ry h;obtain⟨p,xs,rfl,hq,fx,fs,q⟩:=h;cases ry;rcases hq with hq|hq
 .obtain⟨its,r,pl,hz⟩:=I.list hq;refine SeqAt.notIn_listAt (eqU x) pl.isList (λw hw=>zT rx fx r fs w (by simpa using hw)) ⟨.bl _,H,I,rfl,?_⟩;rw[show its.toArray.any (eqU x)=its.any (eqU x) by simp,a4V r fs];exact q
 .obtain⟨its,r,pl,hz⟩:=I.tuple hq;refine SeqAt.notIn_tupleAt (eqU x) pl (λw hw=>zT rx fx r fs w (by simpa using hw)) ⟨.bl _,H,I,rfl,?_⟩;rw[show its.toArray.any (eqU x)=its.any (eqU x) by simp,a4V r fs];exact q
def af3:vZ X (.builtin "len") (λxs H Q=>∃p ys,xs=[.ref p]/\(SqL X.K H p ys∨SqT X.K H p ys)/\Q (.int ys.length) H):=by
 intro pins s σ H xs us Q I r h;obtain⟨p,ys,rfl,hq,q⟩:=h;obtain⟨u,rfl,rx⟩:=vals1 r;cases rx;have hn:=a9J;rcases hq with hq|hq
 .obtain⟨its,r',pl,hz⟩:=I.list hq;have hlen:=r'.length;exact Calls.call_len_list pl.isList (by simp only[fj]<;>omega) ⟨.int ys.length,H,I.tok _,⟨s.toks+1,by rw[fj,hlen]⟩,q⟩
 .obtain⟨its,r',pl,hz⟩:=I.tuple hq;have hlen:=r'.length;exact len_tuple pl (by simp only[fj]<;>omega) ⟨.int ys.length,H,I.tok _,⟨s.toks+1,by rw[fj,hlen]⟩,q⟩
def af4:vZ X (.builtin "len") (λxs H Q=>∃z,xs=[.str z]/\z.length<=dh/\Q (.int z.length) H):=by
 intro pins s σ H xs us Q I r h;obtain⟨z,rfl,hz,q⟩:=h;obtain⟨u,rfl,t,rfl⟩:=vals1 r;have hn:=a9J;exact len_str (by omega) ⟨.int z.length,H,I.tok _,⟨_,rfl⟩,q⟩
def vZ.or{r:List V->Hp->VK->Prop}(h:vZ X f r)(h':vZ X f r'):vZ X f (λxs H Q=>r xs H Q∨r' xs H Q):=by
 intro pins s σ H xs us Q I rs q;rcases q with q|q
 .exact h pins s σ H xs us Q I rs q
 .exact h' pins s σ H xs us Q I rs q
def af5:vZ X (.type "list") (λxs H Q=>∃p ys,xs=[.ref p]/\(SqL X.K H p ys∨SqT X.K H p ys)/\∀l,H l=au->Q (.ref l) (upd H l (.lst ys))):=by
 intro pins s σ H xs us Q I r h;obtain⟨p,ys,rfl,hq,q⟩:=h;obtain⟨u,rfl,rx⟩:=vals1 r;cases rx
 have fin:∀(its:List aq),Vals ys its->ys.length<=dh->∀(h':jm)(c':Nat),(∀b o',s.heap.get? b=aj o'->h'.get? b=aj o') ->
   h'.get? s.heap.objs.size=aj {cls:=.type "list",dict:=none,data:=.seq its.toArray c',slots:=#[]}->EP X pins σ Q (.ref s.heap.objs.size) {s with heap:=h' }:=λits r' hz h' c' kp e =>
  ⟨.ref s.heap.objs.size,_,I.laid (t':=s.toks) kp (dz _) (show gZ X.prog X.w _ h' _ (.lst ys)from⟨hz,its,c',r',e⟩),rfl,q _ (I.hok.fresh (dz _))⟩
 rcases hq with hq|hq
 .obtain⟨its,r',pl,hz⟩:=I.list hq;have hlen:=r'.length;obtain⟨o,ho,hc,n,hd⟩:=pl.isList;exact call_list_seq p (.inl rfl) ho hc hd (λh' c' kp e=>fin its r' hz h' c' kp e) (by simp only[fj]<;>omega)
 .obtain⟨its,r',pl,hz⟩:=I.tuple hq;have hlen:=r'.length;obtain⟨o,ho,hc,n,hd⟩:=pl;exact call_list_seq p (.inr rfl) ho hc hd (λh' c' kp e=>fin its r' hz h' c' kp e) (by simp only[fj]<;>omega)
def ac3:vZ X (.type "tuple") (λxs H Q=>∃p ys,xs=[.ref p]/\((SqL X.K H p ys/\∀l,H l=au->Q (.ref l) (upd H l (.tup ys)))∨(SqT X.K H p ys/\Q (.ref p) H))):=by
 intro pins s σ H xs us Q I r h;obtain⟨p,ys,rfl,h⟩:=h;obtain⟨u,rfl,rx⟩:=vals1 r;cases rx;rcases h with⟨hq,q⟩|⟨hq,q⟩
 .obtain⟨its,r',pl,hz⟩:=I.list hq;have hlen:=r'.length;refine call_tuple_list pl.isList (λh' kp=>?_) (by simp only[fj]<;>omega);have I1:Inv X pins σ H {s with heap:=h' }:=I.kept (t':=s.toks) kp
  have I2:Inv X pins σ (upd H h'.objs.size (.tup ys)) {s with heap:=h'.push {cls:=.type "tuple",data:=.seq its.toArray}} :=
   I1.laid (t':=s.toks) (λb o e=>cg _ e) (dz _) (show gZ X.prog X.w _ _ _ (.tup ys)from⟨hz,its,r',IsTup.new _ _⟩)
  exact⟨.ref h'.objs.size,_,I2,rfl,q _ (I1.hok.fresh (dz _))⟩
 .obtain⟨its,r',pl,hz⟩:=I.tuple hq;exact call_tuple_same pl ⟨.ref p,H,I,rfl,q⟩
abbrev tyV(K:je)(T:String)(x:V)(H:Hp):Prop:=match x with
 |.str _=>T="str"
 |.int _=>T="int"
 |.ref p=>(T="list"/\∃xs,SqL K H p xs)∨(T="tuple"/\∃o,K.lookup p=aj o/\o.cls=.type "tuple"/\o.dict=au) ∨
   (T="dict"/\((∃kvs,H p=aj (.dK kvs))∨∃kvs,H p=aj (.dT kvs)))∨(T="set"/\∃S n,H p=aj (.set S n))
 |_=>False
def at9{pins:List (bw×Obj)}{s:cu}{T:String}(I:Inv X pins σ H s)(r:RelV x v)(ty:tyV X.K T x H) :
  s.TypeIs v T/\∀a,v=.ref a->∃ob,s.heap.get? a=aj ob/\ob.dict=au:=by
 cases x with
 |str z =>
  obtain⟨t,rfl⟩:=r;cases(show T="str" from ty);exact⟨typeIs_str s z t,λ_ e=>nomatch e⟩
 |int i =>
  obtain⟨t,rfl⟩:=r;cases(show T="int" from ty);exact⟨typeIs_int s i t,λ_ e=>nomatch e⟩
 |ref p =>
  cases r;rcases ty with⟨rfl,xs,hq⟩|⟨rfl,o,hk,hc,hd⟩|⟨rfl,hk⟩|⟨rfl,S,n,hk⟩
  .obtain⟨its,_,pl,_⟩:=I.list hq;refine⟨pl.isList.typeIs,λa e=>?_⟩;cases e;obtain⟨o,n,e,c,hd,_⟩:=pl;exact⟨o,e,hd⟩
  .refine⟨⟨o,I.kIn p o hk,hc⟩,λa e=>?_⟩;cases e;exact⟨o,I.kIn _ o hk,hd⟩
  .have z:∃o,s.heap.get? p=aj o/\o.ExactDict:=by
    rcases hk with⟨kvs,hk⟩|⟨kvs,hk⟩
    .obtain⟨_,_,_,_,o,_,_,e,ex,_⟩:=I.hok p _ hk;exact⟨o,e,ex⟩
    .obtain⟨_,_,_,_,o,_,_,e,ex,_⟩:=I.hok p _ hk;exact⟨o,e,ex⟩
   obtain⟨o,e,ex⟩:=z;refine⟨⟨o,e,ex.1⟩,λa e2=>?_⟩;cases e2;exact⟨o,e,ex.2.1⟩
  .obtain⟨o,_,_,_,e,ex,_⟩:=I.hok p _ hk;refine⟨⟨o,e,ex.1⟩,λa e2=>?_⟩;cases e2;exact⟨o,e,ex.2.1⟩
 |_=>exact False.elim ty
end
end
variable{its:List aq}{t':Nat}
section
abbrev MtM(X:Cx)(id:String)(r:V->List V->Hp->VK->Prop):Prop :=
 ∀(pins:List (bw×Obj))(s:cu)(σ:St)(H:Hp)(x:V)(xs:List V)(v:aq)(us:List aq)(Q:VK),Inv X pins σ H s->RelV x v->Vals xs us->r x xs H Q ->
  dg (dw X.prog X.w) X.A (call (.builtin id) (v::us)) (EP X pins σ Q) X.xe s
def Vals.one(h:Vals [x] us):∃u,us=[u]/\RelV x u:=by
 cases h with
 |cons r h=>cases h;exact⟨_,rfl,r⟩
def Vals.zero:∀{us:List aq},Vals [] us->us=[]
 |_,.nil=>rfl
def Vals.dropLast{xs:List V}{us:List aq}(h:Vals xs us):Vals xs.dropLast us.dropLast:=by
 induction h with
 |nil=>exact .nil
 |cons r t ih =>
  cases t with
  |nil=>exact .nil
  |cons q t'=>exact .cons r ih
def al8{α:Type}(l:List α):l.eraseIdx (l.length - 1)=l.dropLast:=by
 induction l with
 |nil=>rfl
 |cons a r ih =>
  cases r with
  |nil=>rfl
  |cons b r =>
   have e:(a::b::r).length - 1=((b::r).length - 1)+1:=by
    have h1:(a::b::r).length=r.length+2:=rfl;have h2:(b::r).length=r.length+1:=rfl;omega
   rw[e,List.eraseIdx_cons_succ,ih]
   all_goals rfl
section
variable{pins:List (bw×Obj)}{s:cu}{xs ys:List V}
def Inv.aLG{its':List aq}(I:Inv X pins σ H s)(hH:H l=aj (.lst xs))
  (e:s.heap.get? l=aj {cls:=.type "list",data:=.seq its.toArray n})(hf:f its.toArray=its'.toArray)(hv:Vals ys its')(hz:ys.length<=dh) :
  Inv X pins σ (upd H l (.lst ys)) {s with heap:=s.heap.update l (Obj.mapSeq f),toks:=t' }:=by
 have q:=PySem.IsL.update e f;rw[hf]at q;refine I.write (x:=l) (e:=l) (by rw[hH];exact trivial) (.inl rfl) (λb' u hb hu=>(Heap.get?_update_other s.heap (Obj.mapSeq f) (Ne.symm hb)).trans hu) ⟨_,q⟩ ?_;exact⟨hz,its',_,hv,q⟩
def Inv.aLH(I:Inv X pins σ H s)(hv:Vals ys its)(hz:ys.length<=dh) :
  Inv X pins σ (upd H s.heap.objs.size (.lst ys)) {s with heap:=s.heap.push {cls:=.type "list",data:=.seq its.toArray},toks:=t' } :=
 I.laid (λ_ _ q=>cg _ q) (dz _) ⟨hz,its,0,hv,iw _ rfl⟩
def Inv.fresh(I:Inv X pins σ H s):H s.heap.objs.size=au:=I.hok.fresh (dz _)
def Inv.az6(I:Inv X pins σ H s)(hH:H l=aj (.lst xs)):xs.length<=dh/\∃(its:List aq)(n:Nat),Vals xs its/\xs.length=its.length/\s.heap.get? l=aj {cls:=.type "list",data:=.seq its.toArray n}:=by
 obtain⟨z,its,n,r,e⟩:=I.hok l _ hH;exact⟨z,its,n,r,r.length,e⟩
end
section
abbrev az7:V->List V->Hp->VK->Prop:=λx vs H Q=>∃l xs y,x=.ref l/\vs=[y]/\H l=aj (.lst xs)/\xs.length<dh/\Q .non (upd H l (.lst (xs++[y])))
def adG:MtM X "list.append" az7:=by
 intro pins s σ H x vs v us Q I rx rv h;obtain⟨l,xs,y,rfl,rfl,hH,hz,q⟩:=h;cases rx;obtain⟨u,rfl,ru⟩:=rv.one;obtain⟨z,its,n,r,hl,e⟩:=I.az6 hH;refine call_meets F.slot_list_append ⟨_,e,rfl⟩ F.entry_list_append (F.args_list_append_2 _ _) (PySem.list_append l its.toArray n u (by rw[fj];omega)) ⟨e,?_⟩;refine⟨.non,_,I.aLG (its':=its++[u]) hH e (by simp) (r.append (.cons ru .nil)) ?_,rfl,q⟩;rw[wz,List.length_singleton];omega
abbrev aQ7:V->List V->Hp->VK->Prop:=λx vs H Q=>∃l xs y,x=.ref l/\vs=[]/\H l=aj (.lst xs)/\xs[xs.length - 1]?=aj y/\Q y (upd H l (.lst xs.dropLast))
def aFH:MtM X "list.pop" aQ7:=by
 intro pins s σ H x vs v us Q I rx rv h;obtain⟨l,xs,y,rfl,rfl,hH,hy,q⟩:=h;cases rx;have hus:=rv.zero;subst hus;obtain⟨z,its,n,r,hl,e⟩:=I.az6 hH;obtain⟨u,hu,ru⟩:=r.get hy
 have hy':its.toArray[its.toArray.size - 1]?=aj u:=by
  show its.toArray[its.length - 1]?=aj u;rw[←a0l,←hl];exact hu
 refine call_meets F.slot_list_pop ⟨_,e,rfl⟩ F.entry_list_pop (F.args_list_pop_1 _) (MeetsSeq.list_pop_last l its.toArray n u hy' (by rw[fj];omega)) ⟨e,?_⟩;refine⟨y,_,I.aLG (its':=its.dropLast) hH e ?_ r.dropLast ?_,ru,q⟩
 .show its.toArray.eraseIdxIfInBounds (its.toArray.size - 1)=its.dropLast.toArray;rw[fj,List.eraseIdxIfInBounds_toArray,al8]
 .rw[List.length_dropLast];omega
abbrev aQ8:R2:=λx y H Q=>∃l b xs zs,x=.ref l/\y=.ref b/\H l=aj (.lst xs)/\H b=aj (.lst zs)/\xs.length+zs.length<=dh/\∀p,H p=au->Q (.ref p) (upd H p (.lst (xs++zs)))
def aFI:vV X (xr .Add) aQ8:=by
 intro pins s σ H x y v u Q I rx ry h;obtain⟨l,b,xs,zs,rfl,rfl,hH,hB,hz,q⟩:=h;cases rx;cases ry;obtain⟨z,its,n,r,hl,e⟩:=I.az6 hH;obtain⟨z2,its2,n2,r2,hl2,e2⟩:=I.az6 hB;refine PySem.P.add_list e e2 ?_ (by rw[fj,fj];omega);have ea:its.toArray++its2.toArray=(its++its2).toArray:=by simp
 rw[ea];exact⟨.ref _,_,I.aLH (t':=s.toks) (r.append r2) (by rw[wz];omega),rfl,q _ I.fresh⟩
end
section
end
section
end
end
end L2
namespace Att
open PySem PySem.W PySem.Calls PyProof.Rows
def a8H{h:jm}:∀(ns:List Int)(vs:List aq),WellAll P h vs (ns.map WData.int)->a1b vs ns:=by
 intro ns
 induction ns with
 |nil =>
  intro vs w;rw[a2n]at w;cases w;exact .nil
 |cons n ns ih =>
  intro vs w;rw[iz]at w;cases w with
  |cons a b =>
   cases a;exact .cons _ _ (ih _ b)
variable{l:OpenLaw}{n:Nat}
def aqE(hn:l.most=aj n){h:jm} 
  (hpre:l.row.toRowW.claim.pre args=ak)(hwl:WellAll P h vals args) :
  ∃a vs ns,vals=[aq.ref a]/\args=[WData.list (ns.map WData.int)]/\h.get? a=aj {cls:=.type "list",data:=.seq vs.toArray}/\a1b vs ns/\ns.length<=n:=by
 have hsh:WShape.hasAll [] args [.list .int]=ak:=(pre_splitW hpre).1;have hc:l.pre.holds [] {args:=args}=ak:=(pre_splitW hpre).2;obtain⟨d,r,rfl,h1,h2⟩:=hasAllW_cons hsh;obtain rfl:=hasAllW_nil h2;obtain⟨xs,rfl,h3⟩:=hasW_list h1;obtain⟨ns,rfl⟩:=items_int h3
 have hlen:ns.length<=n:=by
  unfold OpenLaw.pre at hc
  have h4:(WTm.not (.lt (.lit (.int (n:Int))) (.len (.arg 0)))).holds [] {args:=[.list (ns.map .int)]}=ak:=by
   have h4:=(holds_andW hc).1;rw[hn]at h4;exact h4
  have h5:=condW_of h4 (w_not (w_lt w_lit (w_len_list (w_arg rfl))));rw[gk]at h5;refine Nat.le_of_not_lt λq=>?_;have q':(n:Int)<((ns.length:Nat):Int):=by omega
  first
   |(rw[decide_eq_true q']at h5;exact absurd h5 (by decide))
   |(simp at h5;omega)
 cases hwl with
 |cons w1 w2 =>
  cases w2;cases w1 with
  |list ho hall=>exact⟨_,_,ns,rfl,rfl,ho,a8H ns _ hall,hlen⟩
def aqF(l:OpenLaw)(args:List WData):l.row.toRowW.claim.post args (.bool ak) args=ak :=
 postW_of (r:=l.row.toRowW) (X:=(ak==ak))
  (show WShape.has [] (.bool ak) .bool=ak by first|rfl|decide|simp[WShape.has,WShape.arms,WShape.armsAll])
  (show(WTm.eq .res (.lit (.bool ak))).value [] {args:=args,res:=some (.bool ak),after:=args}=aj (.bool (ak==ak))from w_eq_bool (w_res rfl) w_lit) rfl
def ahE{d:DefRec}
  (hn:l.most=aj n)(hdf:d.params.defaults=[])
  (call:∀(w:jj)(s₀ s₁:cu)(mg mb:Str->Option aq)(fa:bw)(o:Obj)(pm cd doc:aq)(a:bw)(vs:List aq)(ns:List Int),
   Ground q loose [] XP w s₀ mg mb s₁.heap->YP w s₁.heap ->
   s₁.heap.get? fa=aj o->o.data=.func (docDef d.name d.params d.body d.scope pm cd doc)->s₁.heap.CodeRec cd d.name->mg d.name=aj (.ref fa) ->
   s₁.heap.get? a=aj {cls:=.type "list",data:=.seq vs.toArray}->a1b vs ns->ns.length<=n->s₁.gens=#[] ->
   a0X (dw l.prog w) callerA (.call (.ref fa) ⟨[.ref a],[]⟩) (λr s'=>r=.ok (.ret (.bool ak))/\OldK s₁.heap s'.heap/\s'.os=s₁.os/\AllBare s'.gens) s₁) :
  WalkO q loose XP YP l.row.toRowW d [] (λf vs=>PySem.call f vs):=by
 intro w s₀ s₁ mg mb G Y fa o pm cd doc dV kV ho hd hcd hD hmg hg args vals as hpre hlay hrd hwl hlo;obtain rfl:dV=.none:=Dflts.none hD hdf;obtain rfl:kV=.none:=Dflts.noKw hD;obtain⟨a,vs,ns,rfl,rfl,hobj,hints,hlen⟩:=aqE hn hpre hwl;refine enter_call (codeAny_mono (call w s₀ s₁ mg mb fa o pm cd doc a vs ns G Y ho (fd_plain hd) hcd hmg hobj hints hlen hg) λr s' hq=>?_);obtain⟨rfl,h2,h3,h4⟩:=hq;exact⟨.inl ⟨.bool ak,.bool ak,[],rfl,λ_=>rfl,.bool ak,aqF l _,λ_=>⟨a1c.nil,λ_ hm=>(nomatch hm)⟩⟩,h2,h3,h4⟩
section
abbrev ledger(h:jm)(L d:bw):List (bw×Obj):=(kj h.objs.size).filterMap λa=>if a=L∨a=d then au else(h.get? a).map λo=>(a,o)
end
end Att
namespace L2
open PySem PySem.Spec PyProof.Rows
variable{mg:Str->Option aq}{a:bw}{x:Str}
section
def adH:∀{vs:List aq}{ns:List Int},a1b vs ns->Vals (ns.map V.int) vs
 |_,_,.nil=>.nil
 |_,_,.cons n t h=>.cons ⟨t,rfl⟩ (adH h)
abbrev Only(H:Hp):Prop:=∀b,H b=au∨∃o xs,H b=aj (.jD o (.lst xs))
private theorem atA{w:jj}{K:je}{k:Nat}{s₁:cu}{vs:List aq}{ns:List Int}
  (KX:K.In s₁.heap)(hns:s₁.heap.Ns ju mg)(hb:s₁.heap.Ns builtinsNs mb)(hbb:∀x:Str,x≠"__name__"->mb x=mz x)(hlim:s₁.heap.NoLimit)(hg:s₁.gens=#[])
  (ha:s₁.heap.get? a=aj {cls:=.type "list",data:=.seq vs.toArray})(hi:a1b vs ns)(hl:ns.length<=dh)(hr:lW qt k callerA)
  (F:∀base:jm,K.In base->base.Ns ju mg->cH qt P w K mg base CX k fa fd [x] sp)(hbind:∀(s:cu)(u:aq),BindsTo s fd ⟨[u],[]⟩ [(x,u)])
  (hsp:∀H:Hp,Only H->SqL K H a (ns.map V.int)->sp [.ref a] H (λv _=>v=.bl ak) λ_ _ _=>False)
  (hCX:∀H e s',CX [] H s₁ (λ_ _ _=>False) e s'->False) :
  a0X (dw P w) callerA (.call (.ref fa) ⟨[.ref a],[]⟩) (λr s'=>r=.ok (.ret (.bool ak))/\OldK s₁.heap s'.heap/\s'.os=s₁.os/\AllBare s'.gens) s₁:=by
 have rv:=adH hi;have lenV:=hi.length
 have core:∀H:Hp,Only H->SqL K H a (ns.map V.int)->HOk P w H s₁.heap->(∀b,H b≠au->b=a)->(H a≠au->K.lookup a=au) ->
   a0X (dw P w) callerA (.call (.ref fa) ⟨[.ref a],[]⟩) (λr s'=>r=.ok (.ret (.bool ak))/\OldK s₁.heap s'.heap/\s'.os=s₁.os/\AllBare s'.gens) s₁:=by
  intro H hO hS hok hA hK;have anF:∀{b:bw}{o:Obj},s₁.heap.get? b=aj o->H b=au->(aeT s₁.heap H).get? b=aj o:=λe n=>asJ e n
  have noA:∀{b:bw}{o:Obj}{es:Array a0q}{ep:Nat},s₁.heap.get? b=aj o->o.data=.dict es ep->H b=au:=λ{b o es ep} e d=>by
   cases q:H b with
   |none=>rfl
   |some u =>
    have e':b=a:=hA b (by rw[q];simp);subst e';rw[ha]at e;cases e;have d':Data.seq vs.toArray _=Data.dict es ep:=d;cases d'
  have nsK:∀{b:bw}{m:Str->Option aq},s₁.heap.Ns b m->(aeT s₁.heap H).Ns b m:=λ{b m} ⟨o,es,ep,e,d,r⟩=>⟨o,es,ep,anF e (noA e d),d,r⟩
  have hKb:K.In (aeT s₁.heap H):=λb o e=>anF (KX b o e) (by
   cases q:H b with
   |none=>rfl
   |some u =>
    have e':b=a:=hA b (by rw[q];simp);subst e';rw[hK (by rw[q];simp)]at e;cases e)
  have hM:Mod K mg (aeT s₁.heap H):=⟨hKb,nsK hns,⟨mb,nsK hb,hbb⟩,let⟨mc,h1,h2⟩:=hlim;⟨mc,nsK h1,h2⟩⟩;have e0:al2 P w K mg (aeT s₁.heap H) callerA [] s₁ H:=⟨rfl,hM,λb o e=>ayC e,a2a (aq1 _ _),trivial,λb hb=>absurd (show b∈([]:List bw)from hb) (by simp),hok,.of_eq hg,.inl rfl⟩;refine codeAny_mono ((F _ hKb (nsK hns)).run callerA [] s₁ H ⟨[.ref a],[]⟩ [.ref a] [.ref a] _ _ hr e0 (hbind s₁ (.ref a)) (.cons rfl .nil) (hsp H hO hS)) λr s' h=>?_;cases r with
  |error e=>exact(hCX H e s' h).elim
  |ok fl =>
   cases fl with
   |next=>exact False.elim h
   |brk=>exact False.elim h
   |cont=>exact False.elim h
   |ret u =>
    obtain⟨v,H',os,bare,un,hok',r',q⟩:=h;have q':v=.bl ak:=q;subst q';obtain rfl:u=aq.bool ak:=r';refine⟨rfl,OldK.of_keep λb o e=>?_,os,bare⟩;cases q:H b with
    |none=>exact un.keep b o e q (by intro z;exact absurd (show b∈([]:List bw)from z) (by simp)) (by simp)
    |some u =>
     rcases hO b with z|⟨ob,xs,z⟩
     .rw[q]at z;cases z
     .have z2:=un.mQ b ob _ z;obtain⟨e1,_⟩:=hok b _ z;obtain⟨e2,_⟩:=hok' b _ z2;rw[e]at e1;cases e1;exact e2
 cases hk:K.lookup a with
 |some o =>
  have e:=KX a o hk;rw[ha]at e;cases e;refine core (λ_=>au) (λ_=>.inl rfl) (.inr ⟨_,vs.toArray,_,hk,rfl,rfl,rfl,by rw[fj,lenV];exact hl,by simpa using rv⟩) (λb u z=>by have z':(au:Option HO)=aj u:=z;cases z') (λb z=>absurd rfl z) λz=>absurd rfl z
 |none =>
  refine core (λb=>if b=a then aj (.jD {cls:=.type "list",data:=.seq vs.toArray} (.lst (ns.map V.int)))else au) (λb=>?_) (.inl (.inr ⟨{cls:=.type "list",data:=.seq vs.toArray},if_pos rfl⟩)) (λb u z=>?_) (λb z=>?_) λ_=>hk
  .by_cases hb:b=a
   .exact .inr ⟨_,_,if_pos hb⟩
   .exact .inl (if_neg hb)
  .by_cases hb:b=a
   .have z':=(if_pos hb).symm.trans z;cases z';subst hb;exact⟨ha,by rw[gk];exact hl,vs,_,rv,ha⟩
   .have z':=(if_neg hb).symm.trans z;cases z'
  .by_cases hb:b=a
   .exact hb
   .exact absurd (if_neg hb) z
end
variable{n:Nat}
section
def az8{l:PySem.W.OpenLaw}{k:Nat}{q:jt}{loose:List Str}{XP:(Str->Option aq)->jm->Prop}{YP:jj->jm->Prop}{d:DefRec}{K:Params->je}{CX:jj->CXT}{sp:jj->Sp}
  (hn:l.most=aj n)(hn2:n<=dh)(hdf:d.params.defaults=[])(hr:lW qt k callerA)
  (hY:∀(w:jj)(h:jm),YP w h->(K w.params).In h)
  (F:∀(w:jj)(mg:Str->Option aq)(fa:bw)(h:jm),(K w.params).In h->h.Ns ju mg->mg d.name=aj (.ref fa) ->
   ∃fd:jw,(∀(s:cu)(u:aq),BindsTo s fd ⟨[u],[]⟩ [(x,u)]) /\
    ∀base:jm,(K w.params).In base->base.Ns ju mg->cH qt l.prog w (K w.params) mg base (CX w) k fa fd [x] (sp w))
  (hsp:∀(w:jj)(H:Hp)(a:bw)(ns:List Int),ns.length<=n->Only H->SqL (K w.params) H a (ns.map V.int)->sp w [.ref a] H (λv _=>v=.bl ak) λ_ _ _=>False)
  (hCX:∀(w:jj)(H:Hp)(s:cu)(e:aq)(s':cu),CX w [] H s (λ_ _ _=>False) e s'->False) :
  PySem.W.WalkO q loose XP YP l.row.toRowW d [] (λf vs=>PySem.call f vs):=by
 refine Att.ahE hn hdf λw s₀ s₁ mg mb fa o pm cd doc a vs ns G Y ho hd hcd hmg hobj hints hlen hg=>?_;have KX:=hY w _ Y;obtain⟨fd,hb,hF⟩:=F w mg fa _ KX G.T.g hmg;exact atA KX G.T.g G.T.b G.T.builtins G.T.nolimit hg hobj hints (qu hlen hn2) hr hF hb (λH hO hS=>hsp w H a ns hlen hO hS) λH e s'=>hCX w H s₁ e s'
end
variable{st:qm}{pos:Pos}
section
abbrev inClass(s:qm)(j:Nat):qm:=match s with
 |.ClassDef _ _ _ body _ _ _ _ _ _ _=>body.getD j (.Pass ⟨0,0,0,0⟩)
 |_=>.Pass ⟨0,0,0,0⟩
abbrev eE(s:qm):Arguments:=match s with
 |.FunctionDef _ a _ _ _ _ _ _ _ _=>a
 |_=>{posonlyargs:=[],args:=[],vararg:=none,kwonlyargs:=[],kw_defaults:=[],kwarg:=none,defaults:=[]}
abbrev cV(s:qm):List qm:=match s with
 |.FunctionDef _ _ b _ _ _ _ _ _ _=>b
 |_=>[]
abbrev bI(s:qm):zc:=match s with
 |.FunctionDef _ _ _ _ _ _ sc _ _ _=>sc
 |_=>{kind:=.function,names:=[],isGenerator:=false,isCoroutine:=false}
structure Fun(K:je)(x qual:Str)(st:qm)(f:bw)(fd:jw):Prop where
 ex:∃(oc:aq)(od:Option bw)(dV kV doc pm:aq)(an:Option bw)(cdv ct:aq)(osl:Array (Option aq)),
  fd=qx x qual (eE st) (cV st) (bI st) dV kV doc pm an cdv ct/\K.lookup f=aj ⟨oc,od,.func fd,osl⟩/\a1o K cdv qual=ak
 kp:uf K (.ref f)=ak
section
variable{K:je}
def al9{qual:Str}{f:bw}{oc:aq}{od an:Option bw}{osl:Array (Option aq)}{dV kV doc pm cdv ct:aq}(l:K.lookup f=aj ⟨oc,od,.func (qx x qual (eE st) (cV st) (bI st) dV kV doc pm an cdv ct),osl⟩)
  (c:a1o K cdv qual=ak)(k:uf K (.ref f)=ak):Fun K x qual st f (qx x qual (eE st) (cV st) (bI st) dV kV doc pm an cdv ct):=⟨⟨oc,od,dV,kV,doc,pm,an,cdv,ct,osl,rfl,l,c⟩,k⟩
end
section
variable{X:Cx}
def pv(i:Nat)(hN:X.N[i]?=aj x:=by rfl)(hv:Vis X.env.scope x:=by first|exact Or.inl rfl|exact Or.inr (Or.inl rfl)|exact Or.inr (Or.inr rfl))(hd:(x==("__debug__":Str))=ao:=by decide)
  (hcd:(x==("__classdict__":Str))=ao:=by decide):PE X (.Name x pos) (aEE i):=asL hN hv hd hcd
end
def alA{c A B:Prop}[Decidable c](h1:c->A)(h2:¬ c->B):if c then A else B:=by
 by_cases h:c
 .rw[if_pos h];exact h1 h
 .rw[if_neg h];exact h2 h
abbrev Same(H H':Hp):Prop:=∀b o,H b=aj o->H' b=aj o
def Same.refl(H:Hp):Same H H:=λ_ _ h=>h
section
end
section
variable[DecidableEq κ]
end
end
variable{b:bw}
section
@[simp]def NK:=List Int×Int
abbrev a9Q(h:jm)(k:NK)(a:bw):Prop:=∃o b t n,h.get? a=aj o/\o.cls=.type "tuple"/\o.data=.seq #[.ref b,.int k.2 t] n/\∀(P:jt)(w:jj),IsTupleKey (aK P w) h (k.1.map Sum.inl) b
def anG{x y:List Int}(h:x.map (Sum.inl:Int->Key)=y.map Sum.inl):x=y:=by
 induction x generalizing y with
 |nil=>cases y with
  |nil=>rfl
  |cons _ _=>cases h
 |cons a r ih=>cases y with
  |nil=>cases h
  |cons b q =>
   rw[iz,iz]at h;injection h with h1 h2;injection h1 with h1;rw[h1,ih h2]
variable{x:NK}
def a9R{P:jt}{w:jj}{h:jm}(hx:a9Q h x a)(hy:a9Q h y a):x=y:=by
 obtain⟨o,b,t,n,e1,e2,e3,e4⟩:=hx;obtain⟨o',b',t',n',g1,g2,g3,g4⟩:=hy;rw[e1]at g1;cases g1;rw[e3]at g3;simp only[Data.seq.injEq,Array.mk.injEq,List.cons.injEq,aq.ref.injEq,aq.int.injEq,and_true]at g3;obtain⟨⟨rfl,h2,_⟩,_⟩:=g3;have:=anG ((e4 P w).inj (g4 P w));exact Prod.ext this h2
def atB{P:jt}{w:jj}{h:jm}{k:NK}{o:Obj}{es ep}(x:a9Q h k a)(ho:h.get? d=aj o)(hd:o.data=.dict es ep)(hs:ni d h h'):a9Q h' k a:=by
 obtain⟨o',b,t,n,e1,e2,e3,e4⟩:=x
 have hne:a≠d:=by
  rintro rfl;rw[e1]at ho;cases ho;rw[hd]at e3;exact nomatch e3
 exact⟨o',b,t,n,(hs.2 a hne).trans e1,e2,e3,λP w=>(e4 P w).keeps ho hd hs⟩
section
variable{prog:jt}{w:jj}{A:jx}{s:cu}
abbrev alB(prog:jt)(w:jj)(k:NK):Int:=reduceHash (Builtin.Tuple.tupleHashOf [tupleKeyHash (aK prog w) (k.1.map Sum.inl),(aK prog w).hash (.inl k.2)])
def anH{k:NK}(x:a9Q s.heap k a):s.TypeIs (.ref a) "tuple":=let⟨o,_,_,_,ho,hc,_⟩:=x;⟨o,ho,hc⟩
def aqG{k:NK}(hu:A.units+8<jr)(hk:a9Q s.heap k a)(h:Q (alB prog w k) {s with toks:=s.toks+(k.1.length+1+1+1)}) :
  dg (dw prog w) A (pyHash (.ref a)) Q E s:=by
 have hT:=anH hk;obtain⟨o,b,t,n,ho,hc,hd,hi⟩:=hk;unfold pyHash
 first|unfold pyHashByItsType|skip
 first|refine bh (wpAny_cRoomFor_or (.inr (by omega)) ?_)|skip
 refine bh (wpAny_specialOf hT PySem.F.slot_tuple_hash.lookup ?_);show dg _ _ (if(aj (aq.builtin "tuple.__hash__")==aj aq.none)=ak then _ else _) Q E s;rw[if_neg (by rw[beq_builtin_none];exact qw)];refine bh (wpAny_specialOf hT PySem.F.slot_tuple_hash.lookup ?_);show dg _ _ (callSpecialIfBoundUnlessNone? (.ref a) "__hash__" _ >>= _) Q E s;refine bh (wpAny_callSpecialIfBoundUnlessNone?_slot hT PySem.F.slot_tuple_hash (xq PySem.F.slot_tuple_hash hT PySem.F.entry_tuple_hash ?_ (PySem.F.args_tuple_hash_1 _)));show dg _ _ (Builtin.Tuple.tupleItemsOf (.ref a) >>= _) _ _ s;refine bh (wpAny_tupleItemsOf ho hd ?_);refine bh ?_;rw[←Array.forIn_toList];have hl:(k.1.map (Sum.inl:Int->Key)).length=k.1.length:=gk ..
 refine wpAny_forIn_list _
  (λrest (acc:Array Int) s'=>(rest=[aq.ref b,.int k.2 t]/\acc=#[]/\s'=s)∨(rest=[aq.int k.2 t]/\acc=#[tupleKeyHash (aK prog w) (k.1.map Sum.inl)]/\s'={s with toks:=s.toks+(k.1.length+1)})∨(rest=[]/\acc=#[tupleKeyHash (aK prog w) (k.1.map Sum.inl),(aK prog w).hash (.inl k.2)]/\s'={s with toks:=s.toks+(k.1.length+1+1)}))
  _ ?_ ?_ _ _ (.inl ⟨rfl,rfl,rfl⟩)
 .rintro x rest acc s' (⟨hr,rfl,rfl⟩|⟨hr,rfl,rfl⟩|⟨hr,_⟩)
  .injection hr with h1 h2;subst h1 h2;refine bh (wpAny_pyHash_tuple (knd:=aK prog w) (by show A.units+1<jr;omega) (hi prog w) ?_);rw[hl]
   first
    |exact cj (.inr (.inl ⟨rfl,rfl,rfl⟩))
    |exact bh (cj (cj (.inr (.inl ⟨rfl,rfl,rfl⟩))))
  .injection hr with h1 h2;subst h1 h2;refine bh ((aK prog w).pyHash (a7N prog w k.2 t) ?_)
   first
    |exact cj (.inr (.inr ⟨rfl,rfl,rfl⟩))
    |exact bh (cj (cj (.inr (.inr ⟨rfl,rfl,rfl⟩))))
  .cases hr
 .rintro acc s' (⟨hr,_⟩|⟨hr,_⟩|⟨_,rfl,rfl⟩)
  .cases hr
  .cases hr
  .show dg _ _ (retInt (Builtin.Tuple.tupleHashOf [tupleKeyHash (aK prog w) (k.1.map Sum.inl),(aK prog w).hash (.inl k.2)])) _ _ _;refine wpAny_ret_mkInt ?_;show dg _ _ (if(decide (-(2:Int)^63<=Builtin.Tuple.tupleHashOf [tupleKeyHash (aK prog w) (k.1.map Sum.inl),(aK prog w).hash (.inl k.2)])&&decide (Builtin.Tuple.tupleHashOf [tupleKeyHash (aK prog w) (k.1.map Sum.inl),(aK prog w).hash (.inl k.2)]<2^63))=ak then _ else _) Q E _;unfold alB reduceHash at h;by_cases hr:(decide (-(2:Int)^63<=Builtin.Tuple.tupleHashOf [tupleKeyHash (aK prog w) (k.1.map Sum.inl),(aK prog w).hash (.inl k.2)])&&decide (Builtin.Tuple.tupleHashOf [tupleKeyHash (aK prog w) (k.1.map Sum.inl),(aK prog w).hash (.inl k.2)]<2^63))=ak
   .rw[if_pos hr];rw[if_pos hr]at h;exact cj (by simpa[Nat.add_assoc]using h)
   .rw[if_neg hr];rw[if_neg hr]at h;exact bh (zq (cj (by simpa[Nat.add_assoc]using h)))
def az9(P:jt)(w0:jj)(hu:A.units+8<jr)(hx:a9Q s.heap x a)(hy:a9Q s.heap y b):SeqAt.EqAt A s (.ref a) (.ref b) (decide (x=y)):=by
 by_cases hab:a=b
 .subst hab;have e:x=y:=a9R (P:=P) (w:=w0) hx hy;subst e;rw[decide_eq_true rfl];exact SeqAt.EqAt.same _
 .obtain⟨o,b1,t,n,e1,e2,e3,e4⟩:=hx;obtain⟨o',b2,t',n',g1,g2,g3,g4⟩:=hy;refine SeqAt.EqAt.of_refs hab ?_
  have z:=SeqAt.RcAt.tuples (A:=A) (s:=s) (e:=λj=>if j=0 then decide (x.1=y.1)else decide (x.2=y.2)) (show s.heap.IsTuple a #[.ref b1,.int x.2 t]from⟨o,e1,e2,n,e3⟩) (show s.heap.IsTuple b #[.ref b2,.int y.2 t']from⟨o',g1,g2,n',g3⟩) (by omega) (λj h1 h2=>by
   match j,h1,h2 with
   |0,_,_ =>
    rw[if_pos rfl];intro prog' w' E' Q' hq
    have e:decide (x.1.map (Sum.inl:Int->Key)=y.1.map Sum.inl)=decide (x.1=y.1):=by
     rw[decide_eq_decide];exact⟨anG,λz=>by rw[z]⟩
    exact wpAny_eqBool_tuple (knd:=aK prog' w') (by show A.units+1<jr;omega) (e4 prog' w') (g4 prog' w') (by rw[e];exact hq)
   |1,_,_ =>
    rw[if_neg (by decide)];intro prog' w' E' Q' hq
    exact wpAny_eqBool_int (by
     have e:(x.2==y.2)=decide (x.2=y.2):=rfl
     first
      |exact hq
      |(rw[e];exact hq))
   |j+2,h1,_=>exact absurd h1 (by simp))
  have e:((kj (min (#[aq.ref b1,.int x.2 t]:Array aq).size (#[aq.ref b2,.int y.2 t']:Array aq).size)).all (λj=>if j=0 then decide (x.1=y.1)else decide (x.2=y.2))&&(#[aq.ref b1,.int x.2 t]:Array aq).size==(#[aq.ref b2,.int y.2 t']:Array aq).size)=decide (x=y):=by
   show((kj 2).all _&&ak)=_;rw[show kj 2=[0,1]from rfl];simp only[zj,List.all_nil,Bool.and_true,if_true,Nat.one_ne_zero,if_false];rw[a2o,bx,decide_eq_true_eq,decide_eq_true_eq,decide_eq_true_eq];exact⟨λz=>Prod.ext z.1 z.2,λz=>by rw[z];exact⟨rfl,rfl⟩⟩
  rw[e]at z;exact z
def alC{m:Nat}{ks:List Key}(hk:IsTupleKey (aK prog w) s.heap ks a)(h:Q ak s):dg (dw prog w) A (eqIsQuiet (m+1) (.ref a)) Q E s:=by
 have hT:=hk.typeIs;obtain⟨o,items,n,ho,_,hd,hi⟩:=hk;unfold eqIsQuiet;refine bh (wpAny_specialOf hT PySem.F.slot_tuple_eq.lookup ?_);show dg _ _ (isInstance (.ref a) (.type "tuple") >>= _) _ _ s;refine bh (wpAny_isInstance hT isSubtype_tuple_tuple ?_);simp only[a1d,qe,if_false];refine bh (a1m ho hd ?_);refine bh ?_;show dg _ _ (forIn items _ _) _ _ s;rw[←Array.forIn_toList];refine wpAny_forIn_list _ (λrest r s'=>r.1=au/\s'=s/\∀v∈rest,carriedByValue v=ak) _ ?_ ?_ _ _ ⟨rfl,rfl,hi.byValue⟩
 .rintro v rest r s' ⟨hr,rfl,hall⟩;rw[eqIsQuiet_byValue _ (hall v wu)];refine bh (cj ?_);simp only[a1d,qe,if_false];exact cj ⟨rfl,rfl,λu hu'=>hall u (ou _ hu')⟩
 .rintro⟨r1,r2⟩ s' ⟨hr,rfl,_⟩;simp only at hr;subst hr;exact cj h
def atD{k:NK}(hk:a9Q s.heap k a)(h:Q ak s):dg (dw prog w) A (eqIsQuiet 8 (.ref a)) Q E s:=by
 have hT:=anH hk;obtain⟨o,b,t,n,ho,_,hd,hi⟩:=hk;unfold eqIsQuiet;refine bh (wpAny_specialOf hT PySem.F.slot_tuple_eq.lookup ?_);show dg _ _ (isInstance (.ref a) (.type "tuple") >>= _) _ _ s;refine bh (wpAny_isInstance hT isSubtype_tuple_tuple ?_);simp only[a1d,qe,if_false];refine bh (a1m ho hd ?_);refine bh ?_;rw[←Array.forIn_toList];refine wpAny_forIn_list _ (λrest r s'=>r.1=au/\s'=s/\∀v∈rest,v=.ref b∨v=.int k.2 t) _ ?_ ?_ _ _ ⟨rfl,rfl,λv hv=>by simpa using hv⟩
 .rintro v rest r s' ⟨hr,rfl,hall⟩;rcases hall v wu with rfl|rfl
  .refine bh (alC (m:=6) (hi prog w) ?_);simp only[a1d,qe,if_false];exact cj ⟨rfl,rfl,λu hu'=>hall u (ou _ hu')⟩
  .rw[eqIsQuiet_byValue _ rfl];refine bh (cj ?_);simp only[a1d,qe,if_false];exact cj ⟨rfl,rfl,λu hu'=>hall u (ou _ hu')⟩
 .rintro⟨r1,r2⟩ s' ⟨hr,rfl,_⟩;simp only at hr;subst hr;exact cj h
end
abbrev xO(prog:jt)(w:jj):HeapKind prog w NK where
 is:=a9Q
 hash:=alB prog w
 draws:=λk=>k.1.length+1+1+1
 room:=λA=>A.units+8<jr
 inj:=λhx hy=>a9R (P:=prog) (w:=w) hx hy
 keeps:=λx ho hd hs=>atB (P:=prog) (w:=w) x ho hd hs
 pyHash:=λhu hk h=>aqG hu hk h
 eqBool:=λhu hx hy h=>az9 prog w hu hx hy prog w _ _ h
 quiet:=λhk h=>atD hk h
end
variable{o:HO}{p:bw}{pins:List (bw×Obj)}{i:Nat}{v:V}{r:R2}
section
inductive D where
 |non|bl (b:Bool)|int (i:Int)|str (x:Str)|tup (xs:List D)|ref (a:bw)|ty (n:String)
@[simp]def Fg:=je
@[simp]def ahF(H:Hp)(a:bw)(xs:List V):Prop:=H a=aj (.tup xs)
def aqH(h:H a=aj (.tup xs)):ahF H a xs:=h
mutual
inductive RD(K:Fg)(H:Hp):D->V->Prop where
 |non:RD K H .non .non
 |bl (b:Bool):RD K H (.bl b) (.bl b)
 |int (i:Int):RD K H (.int i) (.int i)
 |str (x:Str):RD K H (.str x) (.str x)
 |ty (n:String):RD K H (.ty n) (.ty n)
 |ref (a:bw):RD K H (.ref a) (.ref a)
 |tup {a:bw} {xs:List V} {ds:List D}:SqT K H a xs->dB K H ds xs->ahF H a xs->RD K H (.tup ds) (.ref a)
inductive dB(K:Fg)(H:Hp):List D->List V->Prop where
 |nil:dB K H [] []
 |cons {d:D} {v:V} {ds:List D} {vs:List V}:RD K H d v->dB K H ds vs->dB K H (d::ds) (v::vs)
end
structure Ts(H H':Hp):Prop where
 tups:∀a xs,H a=aj (.tup xs)->H' a=aj (.tup xs)
 mQ:∀a o u,H a=aj (.jD o u)->H' a=aj (.jD o u)
def Ts.refl(H:Hp):Ts H H:=⟨λ_ _ h=>h,λ_ _ _ h=>h⟩
def Ts.trans(a:Ts H H1)(b:Ts H1 H2):Ts H H2:=⟨λc xs h=>b.tups c xs (a.tups c xs h),λc o u h=>b.mQ c o u (a.mQ c o u h)⟩
def Ts.same(s:Same H H'):Ts H H':=⟨λa _ h=>s a _ h,λa _ _ h=>s a _ h⟩
def Ts.rd(t:Ts H H')(h:Rd H a (.tup xs)):Rd H' a (.tup xs):=by
 rcases h with h|⟨o,h⟩
 .exact .inl (t.tups _ _ h)
 .exact .inr ⟨o,t.mQ _ _ _ h⟩
def Ts.sqT{K:Fg}(t:Ts H H')(h:SqT K H a xs):SqT K H' a xs:=h.elim (λq=>.inl (t.rd q)) .inr
def ahF.mono(t:Ts H H')(h:ahF H a xs):ahF H' a xs:=t.tups _ _ h
def bO(h:H p=au):Same H (upd H p o):=λb u e=>by
 rw[bA (nR e h)];exact e
mutual
theorem RD.mono{K:Fg}{H H':Hp}(t:Ts H H'):∀{d:D}{v:V},RD K H d v->RD K H' d v
 |_,_,.non=>.non
 |_,_,.bl b=>.bl b
 |_,_,.int i=>.int i
 |_,_,.str x=>.str x
 |_,_,.ty n=>.ty n
 |_,_,.ref a=>.ref a
 |_,_,.tup h r e=>.tup (t.sqT h) (dB.mono t r) (e.mono t)
theorem dB.mono{K:Fg}{H H':Hp}(t:Ts H H'):∀{ds:List D}{vs:List V},dB K H ds vs->dB K H' ds vs
 |_,_,.nil=>.nil
 |_,_,.cons h r=>.cons (RD.mono t h) (dB.mono t r)
end
section
variable{K:Fg}
def dB.length:∀{ds:List D}{vs:List V},dB K H ds vs->ds.length=vs.length
 |_,_,.nil=>rfl
 |_,_,.cons _ r=>congrArg (·+1) (dB.length r)
def dB.append:∀{ds:List D}{vs:List V}{es:List D}{ws:List V},dB K H ds vs->dB K H es ws->dB K H (ds++es) (vs++ws)
 |_,_,_,_,.nil,s=>s
 |_,_,_,_,.cons h r,s=>.cons h (dB.append r s)
def dB.get:∀{ds:List D}{vs:List V}{i:Nat}{d:D},dB K H ds vs->ds[i]?=aj d->∃v,vs[i]?=aj v/\RD K H d v
 |_,_,_,_,.nil,e=>by simp at e
 |_,_,0,_,.cons r _,e=>by simp at e;subst e;exact⟨_,rfl,r⟩
 |_,_,i+1,d,.cons _ t,e=>by
  obtain⟨u,h1,h2⟩:=dB.get (i:=i) (d:=d) t (by simpa using e);exact⟨u,by simpa using h1,h2⟩
def dB.aqI:∀{ds:List D}{vs:List V}{i:Nat}{v:V},dB K H ds vs->vs[i]?=aj v->∃d,ds[i]?=aj d/\RD K H d v
 |_,_,_,_,.nil,e=>by simp at e
 |_,_,0,_,.cons r _,e=>by simp at e;subst e;exact⟨_,rfl,r⟩
 |_,_,i+1,d,.cons _ t,e=>by
  obtain⟨u,h1,h2⟩:=dB.aqI (i:=i) (v:=d) t (by simpa using e);exact⟨u,by simpa using h1,h2⟩
def dB.ints(ns:List Int):dB K H (ns.map D.int) (ns.map V.int):=by
 induction ns with
 |nil=>exact .nil
 |cons n r ih=>exact .cons (.int n) ih
def dB.a4U(r:dB K H ds vs):vs=[]↔ds=[]:=by
 cases r<;>simp
end
@[simp]def DK:=Key ⊕ List Key
inductive GO where
 |lst (ds:List D)|rol (ds:List D)|cF (t:Bool) (kvs:List (DK×D))|ins (C:bw) (fs:List (Str×D))|exn (C:bw)|rdc (o:Obj) (t:Bool) (kvs:List (DK×D))|tpl (ds:List D)|nU (kvs:List (NK×Int))|rnm (o:Obj) (kvs:List (NK×Int))
@[simp]def Gp:=Addr->Option GO
abbrev aH(G:Gp)(a:bw)(o:GO):Gp:=λb=>if b=a then aj o else G b
def aD{o:GO}:aH G a o a=aj o:=by unfold aH;rw[if_pos rfl]
def aW{o:GO}(h:b≠a):aH G a o b=G b:=by unfold aH;rw[if_neg h]
def fL{o:GO}(h:G b=aj u)(n:G a=au):aH G a o b=aj u:=by
 rw[aW];exact h;intro e;subst e;rw[h]at n;cases n
abbrev Le(G G':Gp):Prop:=∀a o,G a=aj o->G' a=aj o
def Le.refl(G:Gp):Le G G:=λ_ _ h=>h
def Le.trans(a:Le G G1)(b:Le G1 G2):Le G G2:=λc o h=>b c o (a c o h)
def Le.new{o:GO}(n:G a=au):Le G (aH G a o):=λ_ _ h=>fL h n
abbrev kD:Key->D
 |.inl i=>.int i
 |.inr x=>.str x
abbrev dkD:DK->D
 |.inl k=>kD k
 |.inr ks=>.tup (ks.map kD)
inductive Two{α β:Type}(P:α->β->Prop):List α->List β->Prop where
 |nil:Two P [] []
 |cons {a:α} {b:β} {as:List α} {bs:List β}:P a b->Two P as bs->Two P (a::as) (b::bs)
def Two.imp{α β:Type}{P Q:α->β->Prop}(f:∀a b,P a b->Q a b):∀{as:List α}{bs:List β},Two P as bs->Two Q as bs
 |_,_,.nil=>.nil
 |_,_,.cons h r=>.cons (f _ _ h) (Two.imp f r)
def Two.length{α β:Type}{P:α->β->Prop}:∀{as:List α}{bs:List β},Two P as bs->as.length=bs.length
 |_,_,.nil=>rfl
 |_,_,.cons _ r=>congrArg (·+1) (Two.length r)
abbrev a2N(C a:bw)(h:jm):Prop:=∃o vs,h.get? a=aj o/\o.cls=.ref C/\o.data=.fields vs
abbrev nkD(k:NK):D:=.tup [.tup (k.1.map D.int),.int k.2]
abbrev azA(P:jt)(w:jj)(a:bw)(xs:List (NK×bw×aq))(h:jm):Prop:=(a==qd)=ao/\∃o es ep,h.get? a=aj o/\o.ExactDict/\o.data=.dict es ep/\es.toList=xs.map (entryOfKey (xO P w))/\(xs.map (·.1)).Nodup
abbrev ahG(K:Fg)(H:Hp)(p:NK×Int)(x:NK×bw×aq):Prop:=x.1=p.1/\RD K H (nkD p.1) (.ref x.2.1)/\∃t,x.2.2=aq.int p.2 t
abbrev NOk(K:Fg)(H:Hp)(a:bw)(kvs:List (NK×Int))(o:HO):Prop:=(kvs=[]/\o=.dT [])∨∃(P:jt)(w:jj)(xs:List (NK×bw×aq)),o=.ext (azA P w a xs)/\Paired (ahG K H) kvs xs
def NOk.imp{K:Fg}{a:bw}{o:HO}(h:NOk K H a kvs o)(f:∀d v,RD K H d v->RD K H' d v):NOk K H' a kvs o:=Or.imp id (λ⟨P,w,xs,e,r⟩=>⟨P,w,xs,e,Paired.aeS r λ_ _ z=>⟨z.1,f _ _ z.2.1,z.2.2⟩⟩) h
def NOk.no{K:Fg}(h:NOk K H a kvs o):(∀xs,o≠.tup xs)/\(∀ob w,o≠.jD ob w)/\(∀ps,o≠.tbl ps)/\∀x,o≠.own x:=by
 rcases h with⟨_,rfl⟩|⟨P,w,xs,rfl,_⟩<;>exact⟨(λ_ z=>nomatch z),(λ_ _ z=>nomatch z),(λ_ z=>nomatch z),(λ_ z=>nomatch z)⟩
abbrev OR(K:Fg)(H:Hp)(a:bw):GO->Prop
 |.lst ds=>∃xs,H a=aj (.lst xs)/\dB K H ds xs
 |.rol ds=>∃xs,SqL K H a xs/\dB K H ds xs
 |.cF t kvs=>(t=ao/\∃xs:List (Key×V),H a=aj (.dK xs)/\Two (λp q=>p.1=.inl q.1/\RD K H p.2 q.2) kvs xs) ∨
   (t=ak/\∃xs:List (List Key×V),H a=aj (.dT xs)/\Two (λp q=>p.1=.inr q.1/\RD K H p.2 q.2) kvs xs)
 |.ins C fs=>∃(dx:bw)(vs:List (Str×V)),H a=aj (.ins C dx vs)/\Two (λp q=>p.1=q.1/\RD K H p.2 q.2) fs vs
 |.rdc o t kvs=>(t=ao/\∃xs:List (Key×V),H a=aj (.jD o (.dK xs))/\Two (λp q=>p.1=.inl q.1/\RD K H p.2 q.2) kvs xs) ∨
   (t=ak/\∃xs:List (List Key×V),H a=aj (.jD o (.dT xs))/\Two (λp q=>p.1=.inr q.1/\RD K H p.2 q.2) kvs xs)
 |.tpl ds=>∃xs,SqT K H a xs/\dB K H ds xs
 |.nU kvs=>∃o,H a=aj o/\NOk K H a kvs o
 |.rnm ob kvs=>∃o,H a=aj (.jD ob o)/\NOk K H a kvs o
 |.exn C=>∃o vs,H a=aj (.jD o (.ext (a2N C a)))/\o.data=.fields vs/\vs[2]?=aj .none
abbrev HR(K:Fg)(H:Hp)(G:Gp):Prop:=∀a o,G a=aj o->OR K H a o
def OR.keep{K:Fg}{o:GO}(t:Ts H H')(h:OR K H a o)(k:∀u,H a=aj u->H' a=aj u):OR K H' a o:=by
 cases o with
 |lst ds=>obtain⟨xs,e,r⟩:=h;exact⟨xs,k _ e,r.mono t⟩
 |rol ds =>
  obtain⟨xs,e,r⟩:=h;refine⟨xs,?_,r.mono t⟩;rcases e with(e|⟨o,e⟩)|e
  .exact .inl (.inl (k _ e))
  .exact .inl (.inr ⟨o,k _ e⟩)
  .exact .inr e
 |cF b kvs =>
  rcases h with⟨z,xs,e,r⟩|⟨z,xs,e,r⟩
  .exact .inl ⟨z,xs,k _ e,r.imp λ_ _ q=>⟨q.1,q.2.mono t⟩⟩
  .exact .inr ⟨z,xs,k _ e,r.imp λ_ _ q=>⟨q.1,q.2.mono t⟩⟩
 |ins C fs=>obtain⟨dx,vs,e,r⟩:=h;exact⟨dx,vs,k _ e,r.imp λ_ _ q=>⟨q.1,q.2.mono t⟩⟩
 |rdc ob b kvs =>
  rcases h with⟨z,xs,e,r⟩|⟨z,xs,e,r⟩
  .exact .inl ⟨z,xs,k _ e,r.imp λ_ _ q=>⟨q.1,q.2.mono t⟩⟩
  .exact .inr ⟨z,xs,k _ e,r.imp λ_ _ q=>⟨q.1,q.2.mono t⟩⟩
 |exn C=>obtain⟨o,vs,e,r⟩:=h;exact⟨o,vs,k _ e,r⟩
 |tpl ds=>obtain⟨xs,e,r⟩:=h;exact⟨xs,t.sqT e,r.mono t⟩
 |nU kvs=>obtain⟨o,e,r⟩:=h;exact⟨o,k _ e,r.imp λ_ _ z=>z.mono t⟩
 |rnm ob kvs=>obtain⟨o,e,r⟩:=h;exact⟨o,k _ e,r.imp λ_ _ z=>z.mono t⟩
def HR.same{K:Fg}(h:HR K H G)(s:Same H H'):HR K H' G:=λa o e=>(h a o e).keep (.same s) λu q=>s a u q
def HR.le{K:Fg}(h:HR K H G')(l:Le G G'):HR K H G:=λa o e=>h a o (l a o e)
def HR.put{K:Fg}(h:HR K H G)(n:H p=au)(new:OR K (upd H p o) p u):HR K (upd H p o) (aH G p u):=λa v e=>by
 by_cases q:a=p
 .subst q;rw[aD]at e;cases e;exact new
 .rw[aW q]at e;exact(h a v e).keep (.same (bO n)) λw z=>bO n a w z
def HR.turn{K:Fg}(h:HR K H G)(t:Ts H (upd H p o))(new:OR K (upd H p o) p u):HR K (upd H p o) (aH G p u):=λa v e=>by
 by_cases q:a=p
 .subst q;rw[aD]at e;cases e;exact new
 .rw[aW q]at e;exact(h a v e).keep t λw z=>by rw[bA q];exact z
def Ts.turn(e:H p=aj u)(h1:∀xs,u≠.tup xs)(h2:∀ob w,u≠.jD ob w):Ts H (upd H p o):=by
 refine⟨λa xs q=>?_,λa ob w q=>?_⟩
 .rw[bA];exact q;intro z;subst z;rw[e]at q;exact h1 xs (jf.inj q)
 .rw[bA];exact q;intro z;subst z;rw[e]at q;exact h2 ob w (jf.inj q)
@[simp]def aP:=List (Option D)
@[simp]def iB:=D->Gp->Prop
@[simp]def cJ:=aP->Gp->iB->Prop
@[simp]def TT3:=aP->Gp->(Bool->Gp->Prop)->Prop
@[simp]def xG:=aP->Gp->(List D->Gp->Prop)->Prop
abbrev at3:aP->Nat->Option D
 |[],_=>au
 |x::_,0=>x
 |_::r,n+1=>at3 r n
abbrev a1Y:aP->Nat->D->aP
 |[],_,_=>[]
 |_::r,0,d=>aj d::r
 |x::r,n+1,d=>x::a1Y r n d
inductive SR(K:Fg)(H:Hp):aP->St->Prop where
 |nil:SR K H [] []
 |none {ρ:aP} {σ:St} {v:Option V}:SR K H ρ σ->SR K H (a2i::ρ) (v::σ)
 |some {ρ:aP} {σ:St} {d:D} {v:V}:RD K H d v->SR K H ρ σ->SR K H (jf d::ρ) (jf v::σ)
def SR.mono{K:Fg}(t:Ts H H'):∀{ρ:aP}{σ:St},SR K H ρ σ->SR K H' ρ σ
 |_,_,.nil=>.nil
 |_,_,.none r=>.none (SR.mono t r)
 |_,_,.some h r=>.some (h.mono t) (SR.mono t r)
def SR.get{K:Fg}:∀{ρ:aP}{σ:St}{i:Nat}{d:D},SR K H ρ σ->at3 ρ i=jf d->∃v,σ[i]?=jf (jf v)/\RD K H d v
 |_,_,_,_,.nil,e=>by simp[at3]at e
 |_,_,0,_,.none _,e=>by simp[at3]at e
 |_,_,0,_,.some h _,e=>by simp[at3]at e;subst e;exact⟨_,rfl,h⟩
 |_,_,i+1,_,.none r,e=>by
  obtain⟨v,h1,h2⟩:=SR.get (i:=i) r (by simpa[at3]using e);exact⟨v,by simpa using h1,h2⟩
 |_,_,i+1,_,.some _ r,e=>by
  obtain⟨v,h1,h2⟩:=SR.get (i:=i) r (by simpa[at3]using e);exact⟨v,by simpa using h1,h2⟩
def SR.set{K:Fg}{v:V}(q:RD K H d v):∀{ρ:aP}{σ:St}(i:Nat),SR K H ρ σ->SR K H (a1Y ρ i d) (σ.set i (jf v))
 |_,_,_,.nil=>.nil
 |_,_,0,.none r=>.some q r
 |_,_,0,.some _ r=>.some q r
 |_,_,i+1,.none r=>.none (SR.set q i r)
 |_,_,i+1,.some h r=>.some h (SR.set q i r)
abbrev af7(n:Nat)(ds:List D):aP:=ds.map jf++a0s (n - ds.length) a2i
def SR.nones{K:Fg}:∀n:Nat,SR K H (a0s n a2i) (a0s n a2i)
 |0=>.nil
 |n+1=>.none (SR.nones n)
def SR.entry{K:Fg}{k:Nat}:∀{ds:List D}{vs:List V},dB K H ds vs->SR K H (ds.map jf++a0s k a2i) (vs.map jf++a0s k a2i)
 |_,_,.nil=>SR.nones k
 |_,_,.cons h r=>.some h (SR.entry r)
abbrev upE(K:Fg)(t:cJ):TE:=λσ H Q=>∃ρ G R,SR K H ρ σ/\HR K H G/\t ρ G R/\∀v H' d G',Ts H H'->RD K H' d v->HR K H' G'->R d G'->Q v H'
abbrev upT(K:Fg)(t:TT3):TT:=λσ H Q=>∃ρ G R,SR K H ρ σ/\HR K H G/\t ρ G R/\∀b H' G',Ts H H'->HR K H' G'->R b G'->Q b H'
abbrev upA(K:Fg)(t:xG):TA:=λσ H Q=>∃ρ G R,SR K H ρ σ/\HR K H G/\t ρ G R/\∀vs H' ds G',Ts H H'->dB K H' ds vs->HR K H' G'->R ds G'->Q vs H'
@[simp]def cO(X:Cx)(e:jq)(t:cJ):Prop:=PE X e (upE X.K t)
@[simp]def PT3(X:Cx)(e:jq)(t:TT3):Prop:=PT X e (upT X.K t)
@[simp]def PW3(X:Cx)(e:jq)(t:TT3):Prop:=PW X e (upT X.K t)
@[simp]def PA3(X:Cx)(es:List jq)(t:xG):Prop:=PA X es (upA X.K t)
structure gJ where
 nx:aP->Gp->Prop
 rt:iB
 bk:aP->Gp->Prop:=λ_ _=>False
 ct:aP->Gp->Prop:=λ_ _=>False
@[simp]def bJ:=gJ->aP->Gp->Prop
structure UpD(K:Fg)(E:gJ)(F:Ends):Prop where
 nx:∀ρ G σ H',SR K H' ρ σ->HR K H' G->E.nx ρ G->F.nx σ H'
 rt:∀d G v H',RD K H' d v->HR K H' G->E.rt d G->F.rt v H'
 bk:∀ρ G σ H',SR K H' ρ σ->HR K H' G->E.bk ρ G->F.bk σ H'
 ct:∀ρ G σ H',SR K H' ρ σ->HR K H' G->E.ct ρ G->F.ct σ H'
abbrev upS(K:Fg)(t:bJ):TS:=λF σ H=>∃ρ G E,SR K H ρ σ/\HR K H G/\t E ρ G/\UpD K E F
@[simp]def PS3(X:Cx)(st:qm)(t:bJ):Prop:=PS X st (upS X.K t)
@[simp]def a8I(X:Cx)(st:List qm)(t:bJ):Prop:=PSs X st (upS X.K t)
section
variable{X:Cx}
def PE.imp{t:TE}(h:PE X e t)(k:∀σ H Q,t' σ H Q->t σ H Q):PE X e t':=λpins s σ H Q I q=>h pins s σ H Q I (k _ _ _ q)
def PT.imp{t:TT}(h:PT X e t)(k:∀σ H Q,t' σ H Q->t σ H Q):PT X e t':=λpins s σ H Q I q=>h pins s σ H Q I (k _ _ _ q)
def PW.imp{t:TT}(h:PW X e t)(k:∀σ H Q,t' σ H Q->t σ H Q):PW X e t':=λwh pins s σ H Q I q=>h wh pins s σ H Q I (k _ _ _ q)
def PA.imp{t:TA}(h:PA X e t)(k:∀σ H Q,t' σ H Q->t σ H Q):PA X e t':=λp pins s σ H Q I q=>h p pins s σ H Q I (k _ _ _ q)
def PS.imp{t:TS}(h:PS X e t)(k:∀F σ H,t' F σ H->t F σ H):PS X e t':=λpins s σ H F I q=>h pins s σ H F I (k _ _ _ q)
abbrev KF(K:Fg)(H:Hp):Prop:=∀b o,K.lookup b=aj o->H b=au
def qX(I:Inv X pins σ H s):KF X.K H:=λb o e=>(I.bs b o (I.ok.mod.kin b o e)).2
def PE.kf{t:TE}(h:PE X e t):PE X e (λσ H Q=>t σ H λv H'=>KF X.K H'->Q v H'):=λpins s σ H Q I q =>
 dZ (h pins s σ H _ I q) λ_ _ ⟨v,H',I',r,q'⟩=>⟨v,H',I',r,q' (qX I')⟩
def PSs.imp{t:TS}(h:PSs X e t)(k:∀F σ H,t' F σ H->t F σ H):PSs X e t':=λpins s σ H F I q=>h pins s σ H F I (k _ _ _ q)
end
def jE{K:Fg}(g:HR K H G)(n:H p=au)(k:KF K (upd H p o)):G p=au:=by
 have kn:K.lookup p=au:=by
  cases q:K.lookup p with
  |none=>rfl
  |some u=>have:=k p u q;rw[aM]at this;cases this
 cases q:G p with
 |none=>rfl
 |some u =>
  have z:=g p u q;cases u with
  |lst ds=>obtain⟨xs,e,_⟩:=z;rw[n]at e;cases e
  |rol ds =>
   obtain⟨xs,e,_⟩:=z;rcases e with(e|⟨o,e⟩)|⟨o,_,_,e,_⟩
   .rw[n]at e;cases e
   .rw[n]at e;cases e
   .rw[kn]at e;cases e
  |cF tt kvs =>
   rcases z with⟨_,xs,e,_⟩|⟨_,xs,e,_⟩
   .rw[n]at e;cases e
   .rw[n]at e;cases e
  |rdc ob tt kvs =>
   rcases z with⟨_,xs,e,_⟩|⟨_,xs,e,_⟩
   .rw[n]at e;cases e
   .rw[n]at e;cases e
  |ins C fs=>obtain⟨dx,vs,e,_⟩:=z;rw[n]at e;cases e
  |exn C=>obtain⟨o,vs,e,_⟩:=z;rw[n]at e;cases e
  |nU kvs=>obtain⟨_,e,_⟩:=z;rw[n]at e;cases e
  |rnm ob kvs=>obtain⟨_,e,_⟩:=z;rw[n]at e;cases e
  |tpl ds =>
   obtain⟨xs,e,_⟩:=z;rcases e with(e|⟨o,e⟩)|⟨o,_,_,e,_⟩
   .rw[n]at e;cases e
   .rw[n]at e;cases e
   .rw[kn]at e;cases e
section
variable{X:Cx}{a b c:jq}{ta tb tc:cJ}{pos:Pos}
abbrev aB(i:Nat):cJ:=λρ G R=>match at3 ρ i with
 |some d=>R d G
 |none=>False
abbrev aY(d:D):cJ:=λ_ G R=>R d G
private theorem aFJ{K:Fg}{Q:VK}(h:upE K (aB i) σ H Q):aEE i σ H Q:=by
 obtain⟨ρ,G,R,s,g,t,k⟩:=h;unfold aB at t;split at t
 .rename_i d e;obtain⟨v,h1,h2⟩:=s.get e;exact⟨v,h1,k v H d G (.refl H) h2 g t⟩
 .exact t.elim
def aqK{K:Fg}(r:∀H,RD K H d v){Q:VK}(h:upE K (aY d) σ H Q):tC v σ H Q:=by
 obtain⟨ρ,G,R,s,g,t,k⟩:=h;exact k v H d G (.refl H) (r H) g t
def aLJ(i:Nat)(hN:X.N[i]?=aj x:=by rfl)(hv:Vis X.env.scope x:=by first|exact Or.inl rfl|exact Or.inr (Or.inl rfl)|exact Or.inr (Or.inr rfl))(hd:(x==("__debug__":Str))=ao:=by decide)
  (hcd:(x==("__classdict__":Str))=ao:=by decide):cO X (.Name x pos) (aB i):=PE.imp (asL hN hv hd hcd) λ_ _ _ h=>aFJ h
def aLK{i j pos}:cO X (.Constant (.int i) j pos) (aY (.int i)):=PE.imp aEF λ_ _ _ h=>aqK (λ_=>.int i) h
def aQA{b j pos}:cO X (.Constant (.bool b) j pos) (aY (.bl b)):=PE.imp aKI λ_ _ _ h=>aqK (λ_=>.bl b) h
def aLL{j pos}:cO X (.Constant .none j pos) (aY .non):=PE.imp aEG λ_ _ _ h=>aqK (λ_=>.non) h
def aLM{x j pos}:cO X (.Constant (.str x) j pos) (aY (.str x)):=PE.imp aEH λ_ _ _ h=>aqK (λ_=>.str x) h
def atE(hg:Gl X x)(hm:X.mg x=aj u)(r:RelV v u)(rd:∀H,RD X.K H d v)(hd:(x==("__debug__":Str))=ao:=by decide):cO X (.Name x pos) (aY d) :=
 PE.imp (ayE hg hm r hd) λ_ _ _ h=>aqK rd h
def aFK{n:String}(hg:Gl X x)(hm:X.mg x=au)(hv:mz x=aj (.type n))(hn:x≠"__name__":=by decide)(hd:(x==("__debug__":Str))=ao:=by decide):cO X (.Name x pos) (aY (.ty n)) :=
 PE.imp (ayF hg hm hv (v:=.ty n) rfl hn hd) λ_ _ _ h=>aqK (λ_=>.ty n) h
@[simp]def R3:=D->D->Gp->iB->Prop
abbrev OpI(K:Fg)(r:R2)(r3:R3):Prop:=∀(H:Hp)(x y:D)(vx vy:V)(G:Gp)(R:iB)(Q:VK),RD K H x vx->RD K H y vy->HR K H G->r3 x y G R->(∀v H' d G',Ts H H'->RD K H' d v->HR K H' G'->R d G'->Q v H')->r vx vy H λv H'=>KF K H'->Q v H'
abbrev a9S(X:Cx)(f:aq->aq->Sem aq)(r3:R3):Prop:=∃r,vV X f r/\OpI X.K r r3
abbrev OpC(K:Fg)(r:R2)(r3:R3):Prop:=∀(H:Hp)(x y:D)(vx vy:V)(G:Gp)(R:iB)(Q:VK),RD K H x vx->RD K H y vy->HR K H G->r3 x y G R->(∀v H' d G',Ts H H'->RD K H' d v->HR K H' G'->R d G'->Q v H')->r vx vy H Q
abbrev nH(X:Cx)(f:aq->aq->Sem aq)(r3:R3):Prop:=∃r,vV X f r/\OpC X.K r r3
abbrev aG(r:R3)(ta tb:cJ):cJ:=λρ G R=>ta ρ G λx G1=>tb ρ G1 λy G2=>r x y G2 R
variable{r3:R3}
def aLN{K:Fg}(o:OpI K r r3){Q:VK}(h:upE K (aG r3 ta tb) σ H Q):tOp r (upE K ta) (upE K tb) σ H λv H'=>KF K H'->Q v H':=by
 obtain⟨ρ,G,R,s,g,t,k⟩:=h;refine⟨ρ,G,_,s,g,t,λvx H1 x G1 t1 rx g1 t'=>?_⟩;refine⟨ρ,G1,_,s.mono t1,g1,t',λvy H2 y G2 t2 ry g2 t''=>?_⟩;exact o H2 x y vx vy G2 R Q (rx.mono t2) ry g2 t'' λv H' d G' t3=>k v H' d G' ((t1.trans t2).trans t3)
def alE{K:Fg}(o:OpC K r r3){Q:VK}(h:upE K (aG r3 ta tb) σ H Q):tOp r (upE K ta) (upE K tb) σ H Q:=by
 obtain⟨ρ,G,R,s,g,t,k⟩:=h;refine⟨ρ,G,_,s,g,t,λvx H1 x G1 t1 rx g1 t'=>?_⟩;refine⟨ρ,G1,_,s.mono t1,g1,t',λvy H2 y G2 t2 ry g2 t''=>?_⟩;exact o H2 x y vx vy G2 R Q (rx.mono t2) ry g2 t'' λv H' d G' t3=>k v H' d G' ((t1.trans t2).trans t3)
def aQB(o:a9S X (xr op) r3)(ha:cO X a ta)(hb:cO X b tb):cO X (.BinOp a op b pos) (aG r3 ta tb):=by
 obtain⟨r,o1,o2⟩:=o;exact PE.imp (PE.kf (aKW o1 ha hb)) λ_ _ _ h=>aLN o2 h
def atF(o:nH X (jg op) r3)(ha:cO X a ta)(hb:cO X b tb)(hm:yw op b=ao):cO X (.Compare a [op] [b] pos) (aG r3 ta tb):=by
 obtain⟨r,o1,o2⟩:=o;exact PE.imp (ayP o1 ha hb hm) λ_ _ _ h=>alE o2 h
abbrev aQ(t:cJ):TT3:=λρ G R=>t ρ G λx G1=>match x with
 |.bl k=>R k G1
 |_=>False
def af9{K:Fg}{t:TE}(f:∀σ H Q,upE K t3 σ H Q->t σ H Q)(h:upT K (aQ t3) σ H Q):asS t σ H Q:=by
 obtain⟨ρ,G,R,s,g,u,k⟩:=h;refine f _ _ _ ⟨ρ,G,_,s,g,u,λv H' d G' t1 r g1 q=>?_⟩;cases r with
 |bl b=>exact⟨b,rfl,k b H' G' t1 g1 q⟩
 |_=>exact q.elim
def anJ(o:nH X (jg op) r3)(ha:cO X a ta)(hb:cO X b tb)(hm:yw op b=ao):PT3 X (.Compare a [op] [b] pos) (aQ (aG r3 ta tb)):=by
 obtain⟨r,o1,o2⟩:=o;exact PT.imp (ayQ o1 ha hb hm) λ_ _ _ h=>af9 (λ_ _ _=>alE o2) h
def aLO{e:jq}{t:cJ}(h:cO X e t)(he:∀whole,isTrue e X.env whole=(do let v ←whole;standAt e.pos;holding [v] (truthy v)):=by intro _;rfl):PT3 X e (aQ t) :=
 PT.imp (aEI h he) λ_ _ _ h=>af9 (λ_ _ _ q=>q) h
abbrev uE(r r':R3)(ta tb tc:cJ):cJ:=λρ G R=>ta ρ G λx G1=>tb ρ G1 λy G2=>r x y G2 λz G3=>match z with
 |.bl ak=>tc ρ G3 λw G4=>r' y w G4 R
 |.bl ao=>R (.bl ao) G3
 |_=>False
variable{r3':R3}
def ahH{K:Fg}(o:OpC K r r3)(o':OpC K r' r3'){Q:VK}(h:upE K (uE r3 r3' ta tb tc) σ H Q):akV r r' (upE K ta) (upE K tb) (upE K tc) σ H Q:=by
 obtain⟨ρ,G,R,s,g,t,k⟩:=h;refine⟨ρ,G,_,s,g,t,λvx H1 x G1 t1 rx g1 t'=>?_⟩;refine⟨ρ,G1,_,s.mono t1,g1,t',λvy H2 y G2 t2 ry g2 t''=>?_⟩;refine o H2 x y vx vy G2 _ _ (rx.mono t2) ry g2 t'' λv H3 d G3 t3 rd g3 q=>?_;cases rd with
 |bl b =>
  refine⟨b,rfl,?_⟩;cases b with
  |true =>
   rw[if_pos rfl];refine⟨ρ,G3,_,s.mono ((t1.trans t2).trans t3),g3,q,λvw H4 w G4 t4 rw' g4 q'=>?_⟩;exact o' H4 y w vy vw G4 R Q (ry.mono (t3.trans t4)) rw' g4 q' λv H' d G' t5=>k v H' d G' (((t1.trans t2).trans t3).trans (t4.trans t5))
  |false =>
   rw[if_neg qw];exact k _ H3 _ G3 ((t1.trans t2).trans t3) (.bl ao) g3 q
 |_=>exact q.elim
def azC(o:nH X (jg op) r3)(o':nH X (jg op') r3')(ha:cO X a ta)(hb:cO X b tb)(hc:cO X c tc)
  (hm:lastMarks [op,op'] [b,c]=ao:=by with_unfolding_all rfl):cO X (.Compare a [op,op'] [b,c] pos) (uE r3 r3' ta tb tc):=by
 obtain⟨r,o1,o2⟩:=o;obtain⟨r',o1',o2'⟩:=o';exact PE.imp (asT o1 o1' ha hb hc hm) λ_ _ _ h=>ahH o2 o2' h
def azD(o:nH X (jg op) r3)(o':nH X (jg op') r3')(ha:cO X a ta)(hb:cO X b tb)(hc:cO X c tc)
  (hm:lastMarks [op,op'] [b,c]=ao:=by with_unfolding_all rfl):PT3 X (.Compare a [op,op'] [b,c] pos) (aQ (uE r3 r3' ta tb tc)):=by
 obtain⟨r,o1,o2⟩:=o;obtain⟨r',o1',o2'⟩:=o';exact PT.imp (asU o1 o1' ha hb hc hm) λ_ _ _ h=>af9 (λ_ _ _=>ahH o2 o2') h
variable{sa sb:TT3}{rest:List jq}
abbrev yP(t u:TT3):TT3:=λρ G R=>t ρ G λc G1=>if c=ak then u ρ G1 R else R ao G1
abbrev afA(t u:TT3):TT3:=λρ G R=>t ρ G λc G1=>if c=ak then R ak G1 else u ρ G1 R
abbrev qY(t:TT3):TT3:=λρ G R=>t ρ G λc G1=>R (!c) G1
def aFL{K:Fg}(h:upT K (yP sa sb) σ H Q):aKJ (upT K sa) (upT K sb) σ H Q:=by
 obtain⟨ρ,G,R,s,g,t,k⟩:=h;refine⟨ρ,G,_,s,g,t,λc H1 G1 t1 g1 q=>?_⟩;cases c with
 |true=>exact⟨ρ,G1,R,s.mono t1,g1,q,λb H' G' t2=>k b H' G' (t1.trans t2)⟩
 |false=>exact k ao H1 G1 t1 g1 q
def aLP{K:Fg}(h:upT K (afA sa sb) σ H Q):tOr (upT K sa) (upT K sb) σ H Q:=by
 obtain⟨ρ,G,R,s,g,t,k⟩:=h;refine⟨ρ,G,_,s,g,t,λc H1 G1 t1 g1 q=>?_⟩;cases c with
 |false=>exact⟨ρ,G1,R,s.mono t1,g1,q,λb H' G' t2=>k b H' G' (t1.trans t2)⟩
 |true=>exact k ak H1 G1 t1 g1 q
def aFM(ha:PT3 X a sa):PW3 X (.BoolOp .And [a] pos) sa:=ayG ha
def aLQ(ha:PT3 X a sa):PW3 X (.BoolOp .Or [a] pos) sa:=aEJ ha
def aLR(ha:PT3 X a sa)(hb:PW3 X (.BoolOp .And (b::rest) pos) sb):PW3 X (.BoolOp .And (a::b::rest) pos) (yP sa sb):=PW.imp (aEK ha hb) λ_ _ _ h=>aFL h
def aQC(ha:PT3 X a sa)(hb:PW3 X (.BoolOp .Or (b::rest) pos) sb):PW3 X (.BoolOp .Or (a::b::rest) pos) (afA sa sb):=PW.imp (aKK ha hb) λ_ _ _ h=>aLP h
def aLS(ha:PT3 X a sa):PT3 X (.UnaryOp .Not a pos) (qY sa):=PT.imp (aEL ha) λσ H Q h=>by
 obtain⟨ρ,G,R,s,g,t,k⟩:=h;exact⟨ρ,G,_,s,g,t,λc H1 G1 t1 g1 q=>k (!c) H1 G1 t1 g1 q⟩
abbrev a3O(ta tb:cJ):cJ:=λρ G R=>ta ρ G λx G1=>match x with
 |.bl ak=>tb ρ G1 R
 |.bl ao=>R (.bl ao) G1
 |_=>False
abbrev aD2(ta tb:cJ):cJ:=λρ G R=>ta ρ G λx G1=>match x with
 |.bl ak=>R (.bl ak) G1
 |.bl ao=>tb ρ G1 R
 |_=>False
abbrev afB(ta:cJ):cJ:=λρ G R=>ta ρ G λx G1=>match x with
 |.bl c=>R (.bl (!c)) G1
 |_=>False
def aD3{op}(h:cO X a ta):cO X (.BoolOp op [a] pos) ta:=aEM h
def aLT(ha:cO X a ta)(hb:cO X (.BoolOp .And (b::rest) pos) tb):cO X (.BoolOp .And (a::b::rest) pos) (a3O ta tb):=PE.imp (aEN ha hb) λσ H Q h=>by
 obtain⟨ρ,G,R,s,g,t,k⟩:=h;refine⟨ρ,G,_,s,g,t,λv H1 x G1 t1 r g1 q=>?_⟩;cases r with
 |bl c =>
  refine⟨c,rfl,?_⟩;cases c with
  |true=>exact⟨ρ,G1,R,s.mono t1,g1,q,λb H' d G' t2=>k b H' d G' (t1.trans t2)⟩
  |false=>exact k _ H1 _ G1 t1 (.bl ao) g1 q
 |_=>exact q.elim
def aQD(ha:cO X a ta)(hb:cO X (.BoolOp .Or (b::rest) pos) tb):cO X (.BoolOp .Or (a::b::rest) pos) (aD2 ta tb):=PE.imp (aKN ha hb) λσ H Q h=>by
 obtain⟨ρ,G,R,s,g,t,k⟩:=h;refine⟨ρ,G,_,s,g,t,λv H1 x G1 t1 r g1 q=>?_⟩;cases r with
 |bl c =>
  refine⟨c,rfl,?_⟩;cases c with
  |false=>exact⟨ρ,G1,R,s.mono t1,g1,q,λb H' d G' t2=>k b H' d G' (t1.trans t2)⟩
  |true=>exact k _ H1 _ G1 t1 (.bl ak) g1 q
 |_=>exact q.elim
def aLU(ha:cO X a ta):cO X (.UnaryOp .Not a pos) (afB ta):=PE.imp (aEO ha) λσ H Q h=>by
 obtain⟨ρ,G,R,s,g,t,k⟩:=h;refine⟨ρ,G,_,s,g,t,λv H1 x G1 t1 r g1 q=>?_⟩;cases r with
 |bl c=>exact⟨c,rfl,k _ H1 _ G1 t1 (.bl _) g1 q⟩
 |_=>exact q.elim
end
section
variable{X:Cx}{t:xG}{pos:Pos}
abbrev aF:xG:=λ_ G R=>R [] G
abbrev aA(ta:cJ)(tr:xG):xG:=λρ G R=>ta ρ G λx G1=>tr ρ G1 λxs G2=>R (x::xs) G2
def atG:PA3 X [] aF:=PA.imp aF6 λσ H Q h=>by
 obtain⟨ρ,G,R,s,g,t,k⟩:=h;exact k [] H [] G (.refl H) .nil g t
def a3P(ha:cO X e te)(hr:PA3 X es t)(hs:ji (e::es) X.env=(ao,eval e X.env)::ji es X.env:=by rfl):PA3 X (e::es) (aA te t):=PA.imp (ayT ha hr hs) λσ H Q h=>by
 obtain⟨ρ,G,R,s,g,t,k⟩:=h;refine⟨ρ,G,_,s,g,t,λv H1 x G1 t1 r g1 q=>?_⟩;refine⟨ρ,G1,_,s.mono t1,g1,q,λvs H2 xs G2 t2 rs g2 q'=>?_⟩;exact k (v::vs) H2 (x::xs) G2 (t1.trans t2) (.cons (r.mono t2) rs) g2 q'
abbrev fM(t:xG):cJ:=λρ G R=>t ρ G λxs G1=>xs.length<=dh/\R (.tup xs) G1
abbrev mR(t:xG):cJ:=λρ G R=>t ρ G λxs G1=>xs.length<=dh/\∀p,G1 p=au->R (.ref p) (aH G1 p (.lst xs))
def aLV{x1}(h:PA3 X es t):cO X (.Tuple es x1 pos) (fM t):=PE.imp (aF7 h) λσ H Q h=>by
 obtain⟨ρ,G,R,s,g,t,k⟩:=h;refine⟨ρ,G,_,s,g,t,λvs H1 xs G1 t1 r g1 q=>?_⟩;refine⟨by rw[←r.length];exact q.1,λp hp=>?_⟩;have sn:Same H1 (upd H1 p (.tup vs)):=bO hp;exact k (.ref p) _ (.tup xs) G1 (t1.trans (.same sn)) (.tup (SqT.of aM) (r.mono (.same sn)) (aqH aM)) (g1.same sn) q.2
def aLW(h:PA3 X es t):cO X (.List es pos) (mR t):=PE.imp (PE.kf (aF8 h)) λσ H Q h=>by
 obtain⟨ρ,G,R,s,g,t,k⟩:=h;refine⟨ρ,G,_,s,g,t,λvs H1 xs G1 t1 r g1 q=>?_⟩;refine⟨by rw[←r.length];exact q.1,λp hp kf=>?_⟩;have sn:Same H1 (upd H1 p (.lst vs)):=bO hp;exact k (.ref p) _ (.ref p) _ (t1.trans (.same sn)) (.ref p) (g1.put (u:=.lst xs) hp ⟨vs,aM,r.mono (.same sn)⟩) (q.2 p (jE g1 hp kf))
end
end
section
section
variable{X:Cx}{a b c:jq}{pos:Pos}
abbrev rI3(C:Int->Int->Prop)(g:Int->Int->Int):R3:=λx y G R=>match x,y with
 |.int i,.int j=>C i j/\R (.int (g i j)) G
 |_,_=>False
abbrev aLY(g:Int->Int->Int):R3:=λx y G R=>match x,y with
 |.int i,.int j=>R (.int (g i j)) G
 |_,_=>False
abbrev azE(g:Int->Int->Bool):R3:=λx y G R=>match x,y with
 |.int i,.int j=>R (.bl (g i j)) G
 |_,_=>False
def anK{g:Int->Int->Int}(h:vV X f (rI C λi j=>.int (g i j))):a9S X f (rI3 C g):=by
 refine⟨_,h,λH x y vx vy G R Q rx ry gh h k=>?_⟩;cases rx with
 |int i =>
  cases ry with
  |int j=>exact⟨i,j,rfl,rfl,h.1,λ_=>k _ H _ G (.refl H) (.int _) gh h.2⟩
  |_=>exact False.elim h
 |_=>exact False.elim h
def aFN{g:Int->Int->Int}(h:vV X f (rI0 λi j=>.int (g i j))):a9S X f (aLY g):=by
 refine⟨_,h,λH x y vx vy G R Q rx ry gh h k=>?_⟩;cases rx with
 |int i =>
  cases ry with
  |int j=>exact⟨i,j,rfl,rfl,λ_=>k _ H _ G (.refl H) (.int _) gh h⟩
  |_=>exact False.elim h
 |_=>exact False.elim h
def alF{g:Int->Int->Bool}(h:vV X f (rI0 λi j=>.bl (g i j))):nH X f (azE g):=by
 refine⟨_,h,λH x y vx vy G R Q rx ry gh h k=>?_⟩;cases rx with
 |int i =>
  cases ry with
  |int j=>exact⟨i,j,rfl,rfl,k _ H _ G (.refl H) (.bl _) gh h⟩
  |_=>exact False.elim h
 |_=>exact False.elim h
abbrev adJ:R3:=aLY λi j=>i - j
abbrev yQ:R3:=rI3 asR λi j=>i*j
abbrev eO:R3:=rI3 aEV λi j=>i / j
abbrev cN:R3:=rI3 (λ_ j=>0<j) λi j=>i%j
abbrev adK:R3:=rI3 aEW λi j=>i^j.toNat
def aLZ:a9S X (xr .Sub) adJ:=aFN aEY
def aM0:a9S X (xr .Mult) yQ:=anK aEZ
def aFO:a9S X (xr .FloorDiv) eO:=anK ayN
def aM1:a9S X (xr .Mod) cN:=anK aF0
def aM2:a9S X (xr .Pow) adK:=anK aF1
abbrev aqL:R3:=azE λi j=>decide (i<j)
abbrev ac7:R3:=azE λi j=>decide (j<i)
abbrev aM3:R3:=azE λi j=>decide (j<=i)
def aQE:nH X (jg .Lt) aqL:=alF aKZ
def aQF:nH X (jg .Gt) ac7:=alF aL1
def aQG:nH X (jg .GtE) aM3:=alF aL2
abbrev atH:R3:=λx y G R=>match x,y with
 |.int i,.int j=>R (.bl (decide (i<=j))) G
 |.str i,.str j=>R (.bl (!decide (j.cps.toList<i.cps.toList))) G
 |_,_=>False
def aqM:vV X (jg .LtE) (λx y H Q=>∃i j,x=.str i/\y=.str j/\Q (.bl (!decide (j.cps.toList<i.cps.toList))) H):=by
 intro pins s σ H x y v u Q I rx ry h;obtain⟨i,j,rfl,rfl,q⟩:=h;obtain⟨t,rfl⟩:=rx;obtain⟨t',rfl⟩:=ry;exact PySem.P.le_str ⟨.bl _,H,I,rfl,q⟩
def aQH:nH X (jg .LtE) atH:=by
 refine⟨_,aL0.or aqM,λH x y vx vy G R Q rx ry gh h k=>?_⟩;cases rx with
 |int i =>
  cases ry with
  |int j=>exact .inl ⟨i,j,rfl,rfl,k _ H _ G (.refl H) (.bl _) gh h⟩
  |_=>exact False.elim h
 |str i =>
  cases ry with
  |str j=>exact .inr ⟨i,j,rfl,rfl,k _ H _ G (.refl H) (.bl _) gh h⟩
  |_=>exact False.elim h
 |_=>exact False.elim h
abbrev eX:R3:=λx y G R=>match x,y with
 |.int i,.int j=>R (.int (i+j)) G
 |.str i,.str j=>i.length+j.length<=dh/\R (.str (i++j)) G
 |.tup xs,.tup ys=>xs.length+ys.length<=dh/\R (.tup (xs++ys)) G
 |.ref l,.ref m=>match G l,G m with
  |some (.lst xs),aj (.lst ys)=>xs.length+ys.length<=dh/\∀p,G p=au->R (.ref p) (aH G p (.lst (xs++ys)))
  |_,_=>False
 |_,_=>False
def atJ:vV X (xr .Add) (λx y H Q=>∃a b ys,x=.ref a/\y=.ref b/\SqT X.K H a []/\SqT X.K H b ys/\Q (.ref b) H):=by
 intro pins s σ H x y v u Q I rx ry h;obtain⟨a,b,ys,rfl,rfl,ha,hb,q⟩:=h;cases rx;cases ry;obtain⟨its,r1,p1,_⟩:=I.tuple ha;obtain⟨its2,r2,p2,_⟩:=I.tuple hb;cases r1;obtain⟨⟨cls,dd,data,sl⟩,ho,hc,n,hd⟩:=id p1;obtain⟨⟨cls2,dd2,data2,sl2⟩,ho2,hc2,n2,hd2⟩:=id p2;simp only at hc hd hc2 hd2;subst hc hd hc2 hd2
 exact concat_meets ⟨_,ho,rfl⟩ ⟨_,ho2,rfl⟩ noFill_tuple_add seq_tuple_add PySem.F.slot_tuple_add PySem.F.entry_tuple_add (PySem.F.args_tuple_add_2 _ _)
   (tuple_addW0 a b #[] its2.toArray n n2 dd dd2 sl sl2 (by simp)) ⟨ho,ho2,⟨.ref b,H,I,rfl,q⟩⟩
private theorem aM4:a9S X (xr .Add) eX:=by
 refine⟨_,aEX.or (akW.or (az2.or (atJ.or aFI))),λH x y vx vy G R Q rx ry gh h k=>?_⟩;cases rx with
 |int i =>
  cases ry with
  |int j=>exact .inl ⟨i,j,rfl,rfl,λ_=>k _ H _ G (.refl H) (.int _) gh h⟩
  |_=>exact False.elim h
 |str i =>
  cases ry with
  |str j=>exact .inr (.inl ⟨i,j,rfl,rfl,h.1,λ_=>k _ H _ G (.refl H) (.str _) gh h.2⟩)
  |_=>exact False.elim h
 |@tup a xs ds ha ra ea =>
  cases ry with
  |@tup b ys es hb rb eb =>
   by_cases hn:ds=[]
   .subst hn;cases ra;exact .inr (.inr (.inr (.inl ⟨a,b,ys,rfl,rfl,ha,hb,λ_=>k _ H _ G (.refl H) (.tup hb rb eb) gh h.2⟩)))
   .refine .inr (.inr (.inl ⟨a,b,xs,ys,rfl,rfl,ha,hb,λz=>hn (ra.a4U.mp z),by rw[←ra.length,←rb.length];exact h.1,λz _=>?_,λ_ p hp _=>?_⟩))
    .subst z;cases rb;have h2:=h.2;rw[a1g]at h2;exact k _ H _ G (.refl H) (.tup ha ra ea) gh h2
    .have sn:Same H (upd H p (.tup (xs++ys))):=bO hp;exact k _ _ _ G (.same sn) (.tup (SqT.of aM) ((ra.append rb).mono (.same sn)) (aqH aM)) (gh.same sn) h.2
  |_=>exact False.elim h
 |ref l =>
  cases ry with
  |ref m =>
   have h':(match G l,G m with
    |some (.lst xs),aj (.lst ys)=>xs.length+ys.length<=dh/\∀p,G p=au->R (.ref p) (aH G p (.lst (xs++ys)))
    |_,_=>False):=h
   split at h'
   .rename_i xs ys e1 e2;obtain⟨xv,f1,r1⟩:=gh l _ e1;obtain⟨yv,f2,r2⟩:=gh m _ e2;refine .inr (.inr (.inr (.inr ⟨l,m,xv,yv,rfl,rfl,f1,f2,by rw[←r1.length,←r2.length];exact h'.1,λp hp kf=>?_⟩)));have sn:Same H (upd H p (.lst (xv++yv))):=bO hp;exact k _ _ _ _ (.same sn) (.ref p) (gh.put (u:=.lst (xs++ys)) hp ⟨_,aM,(r1.append r2).mono (.same sn)⟩) (h'.2 p (jE gh hp kf))
   .exact h'.elim
  |_=>exact False.elim h
 |_=>exact False.elim h
abbrev aFP:R3:=λx y G R=>match x,y with
 |.non,.non=>R (.bl ak) G
 |_,.non=>R (.bl ao) G
 |.bl i,.bl j=>R (.bl (i==j)) G
 |.int _,.bl _=>R (.bl ao) G
 |.str _,.bl _=>R (.bl ao) G
 |.non,.bl _=>R (.bl ao) G
 |.tup _,.bl _=>R (.bl ao) G
 |.ref _,.bl _=>R (.bl ao) G
 |_,_=>False
abbrev atL:R3:=λx y G R=>aFP x y G λd G'=>match d with
 |.bl k=>R (.bl (!k)) G'
 |_=>False
def isV(x:V)(v:aq)(k:Bool)(r:RelV x v):(v==.bool k)=decide (x=.bl k):=by
 cases x with
 |non=>cases r;rfl
 |bl b =>
  cases r;cases b<;>cases k<;>rfl
 |int _=>obtain⟨t,rfl⟩:=r;rfl
 |str _=>obtain⟨t,rfl⟩:=r;rfl
 |byt _=>obtain⟨t,rfl⟩:=r;rfl
 |flt _=>obtain⟨t,rfl⟩:=r;rfl
 |ref _=>cases r;rfl
 |ty _=>cases r;rfl
def adL(x:V)(v:aq)(k:Bool)(r:RelV x v):plainIs v (.bool k)=ak:=by
 cases x with
 |non=>cases r;rfl
 |bl b=>cases r;rfl
 |int _=>obtain⟨t,rfl⟩:=r;rfl
 |str _=>obtain⟨t,rfl⟩:=r;rfl
 |byt _=>obtain⟨t,rfl⟩:=r;rfl
 |flt _=>obtain⟨t,rfl⟩:=r;rfl
 |ref _=>cases r;rfl
 |ty _=>cases r;rfl
def azF:vV X (jg .Is) (λx y H Q=>∃k,y=.bl k/\Q (.bl (decide (x=.bl k))) H):=by
 intro pins s σ H x y v u Q I rx ry h;obtain⟨k,rfl,q⟩:=h;cases ry;exact wpAny_is_plain (adL x v k rx) ⟨.bl _,H,I,by rw[isV x v k rx];rfl,q⟩
def aqN:vV X (jg .IsNot) (λx y H Q=>∃k,y=.bl k/\Q (.bl (!decide (x=.bl k))) H):=by
 intro pins s σ H x y v u Q I rx ry h;obtain⟨k,rfl,q⟩:=h;cases ry;exact wpAny_isNot_plain (adL x v k rx) ⟨.bl _,H,I,by rw[isV x v k rx];rfl,q⟩
def aQI:nH X (jg .Is) aFP:=by
 refine⟨_,aF3.or azF,λH x y vx vy G R Q rx ry gh h k=>?_⟩;cases ry with
 |non =>
  refine .inl ⟨rfl,?_⟩;cases rx with
  |non=>exact k _ H _ G (.refl H) (.bl _) gh h
  |_=>exact k _ H _ G (.refl H) (.bl _) gh h
 |bl j =>
  refine .inr ⟨j,rfl,?_⟩;cases rx with
  |bl i =>
   have e:decide (V.bl i=V.bl j)=(i==j):=by cases i<;>cases j<;>rfl
   rw[e];exact k _ H _ G (.refl H) (.bl _) gh h
  |ty n=>exact False.elim h
  |_=>exact k _ H _ G (.refl H) (.bl _) gh h
 |_=>cases rx<;>exact False.elim h
def aFQ:nH X (jg .IsNot) atL:=by
 refine⟨_,ayO.or aqN,λH x y vx vy G R Q rx ry gh h k=>?_⟩;cases ry with
 |non =>
  refine .inl ⟨rfl,?_⟩;cases rx with
  |non=>exact k _ H _ G (.refl H) (.bl _) gh h
  |_=>exact k _ H _ G (.refl H) (.bl _) gh h
 |bl j =>
  refine .inr ⟨j,rfl,?_⟩;cases rx with
  |bl i =>
   have e:decide (V.bl i=V.bl j)=(i==j):=by cases i<;>cases j<;>rfl
   rw[e];exact k _ H _ G (.refl H) (.bl _) gh h
  |ty n=>exact False.elim h
  |_=>exact k _ H _ G (.refl H) (.bl _) gh h
 |_=>cases rx<;>exact False.elim h
abbrev bH(G:Gp)(a:bw):Option (List D):=match G a with
 |some (.lst ds)=>aj ds
 |some (.rol ds)=>aj ds
 |_=>au
private theorem cC{K:Fg}(g:HR K H G){a:bw}(e:bH G a=aj ds):∃xs,SqL K H a xs/\dB K H ds xs:=by
 unfold bH at e;split at e
 .rename_i ds' q;cases e;obtain⟨xs,h1,h2⟩:=g a _ q;exact⟨xs,SqL.of h1,h2⟩
 .rename_i ds' q;cases e;exact g a _ q
 .cases e
abbrev cW:R3:=λx y G R=>match x,y with
 |.tup xs,.int i=>match atI xs i with
  |some d=>R d G
  |none=>False
 |.str z,.int i=>z.length<=dh/\match atI z.cps.toList i with
  |some c=>R (.str ⟨#[c]⟩) G
  |none=>False
 |.ref p,.int i=>match bH G p with
  |some xs=>(match atI xs i with
   |some d=>R d G
   |none=>False)
  |none=>False
 |_,_=>False
def atM{K:Fg}(r:dB K H ds xs){i:Int}(e:atI ds i=aj d):∃v,atI xs i=aj v/\RD K H d v:=by
 unfold atI at e ⊢;rw[←r.length];cases q:ixN ds.length i with
 |none=>rw[q]at e;cases e
 |some j =>
  rw[q]at e;exact r.get e
private theorem aQJ(ha:cO X a ta)(hb:cO X b tb)(hs:af0 b):cO X (.Subscript a b pos) (aG cW ta tb):=by
 refine PE.imp (aLC aFG ha hb hs) λ_ _ _ h=>alE ?_ h;intro H x y vx vy G R Q rx ry gh h k;cases rx with
 |@tup p xs ds hp r =>
  cases ry with
  |int i =>
   have h':(match atI ds i with
    |some d=>R d G
    |none=>False):=h
   split at h'
   .rename_i d e;obtain⟨v,e1,e2⟩:=atM r e;exact .inr (.inl ⟨p,xs,i,v,rfl,rfl,hp,e1,k v H d G (.refl H) e2 gh h'⟩)
   .exact h'.elim
  |_=>exact False.elim h
 |str z =>
  cases ry with
  |int i =>
   have h':z.length<=dh/\(match atI z.cps.toList i with
    |some c=>R (.str ⟨#[c]⟩) G
    |none=>False):=h
   obtain⟨hz,h'⟩:=h';split at h'
   .rename_i d e;exact .inr (.inr ⟨z,i,d,rfl,rfl,hz,e,k _ H _ G (.refl H) (.str _) gh h'⟩)
   .exact h'.elim
  |_=>exact False.elim h
 |ref p =>
  cases ry with
  |int i =>
   have h':(match bH G p with
    |some xs=>(match atI xs i with
     |some d=>R d G
     |none=>False)
    |none=>False):=h
   split at h'
   .rename_i ds e;obtain⟨xs,hp,r⟩:=cC gh e;split at h'
    .rename_i d e';obtain⟨v,e1,e2⟩:=atM r e';exact .inl ⟨p,xs,i,v,rfl,rfl,hp,e1,k v H d G (.refl H) e2 gh h'⟩
    .exact h'.elim
   .exact h'.elim
  |_=>exact False.elim h
 |_=>exact False.elim h
@[simp]def TO3:=aP->Gp->(Option Int->Gp->Prop)->Prop
abbrev upO(K:Fg)(t:TO3):TO:=λσ H Q=>∃ρ G R,SR K H ρ σ/\HR K H G/\t ρ G R/\∀i H' G',Ts H H'->HR K H' G'->R i G'->Q i H'
@[simp]def PO3(X:Cx)(e:Option jq)(t:TO3):Prop:=PO X e (upO X.K t)
def PO.imp{t:TO}(h:PO X e t)(k:∀σ H Q,t' σ H Q->t σ H Q):PO X e t':=λpins s σ H Q I q=>h pins s σ H Q I (k _ _ _ q)
abbrev ahI:TO3:=λ_ G R=>R au G
abbrev atN(t:cJ):TO3:=λρ G R=>t ρ G λx G1=>match x with
 |.int i=>R (aj i) G1
 |_=>False
def aFR:PO3 X au ahI:=PO.imp az0 λσ H Q h=>by
 obtain⟨ρ,G,R,s,g,t,k⟩:=h;exact k au H G (.refl H) g t
def aFS(h:cO X e te):PO3 X (aj e) (atN te):=PO.imp (az1 h) λσ H Q h=>by
 obtain⟨ρ,G,R,s,g,t,k⟩:=h;refine⟨ρ,G,_,s,g,t,λv H1 x G1 t1 r g1 q=>?_⟩;cases r with
 |int i=>exact⟨i,rfl,k _ H1 G1 t1 g1 q⟩
 |_=>exact False.elim q
end
end
variable{F:Ends}
section
section
variable{X:Cx}{st:qm}{rest:List qm}{t u:bJ}{te:cJ}{pos:Pos}
abbrev bL:bJ:=λF ρ G=>F.nx ρ G
abbrev aN(t u:bJ):bJ:=λF ρ G=>t {F with nx:=u F} ρ G
def aM6:a8I X [] bL:=PSs.imp ayH λF σ H h=>by
 obtain⟨ρ,G,E,s,g,q,d⟩:=h;exact d.nx ρ G σ H s g q
def aFT{K:Fg}(h:upS K (aN t u) F σ H):aKO (upS K t) (upS K u) F σ H:=by
 obtain⟨ρ,G,E,s,g,q,d⟩:=h;exact⟨ρ,G,_,s,g,q,⟨λρ' G' σ' H' s1 g1 h=>⟨ρ',G',E,s1,g1,h,d⟩,d.rt,d.bk,d.ct⟩⟩
def aFU(h1:PS3 X st t)(h2:a8I X rest u):a8I X (st::rest) (aN t u):=PSs.imp (asN h1 h2) λ_ _ _ h=>aFT h
def aM7(h1:PS3 X st t):a8I X [st] t:=ayI h1
def aFV:PS3 X (.Pass pos) bL:=PS.imp ayJ λF σ H h=>by
 obtain⟨ρ,G,E,s,g,q,d⟩:=h;exact d.nx ρ G σ H s g q
abbrev cB(te:cJ):bJ:=λF ρ G=>te ρ G λ_ G1=>F.nx ρ G1
def aFW(he:cO X e te)(hs:a0h e au pos.line X.env=pure ao:=by rfl):PS3 X (.Expr e pos) (cB te):=PS.imp (ayK he hs) λF σ H h=>by
 obtain⟨ρ,G,E,s,g,q,d⟩:=h;exact⟨ρ,G,_,s,g,q,λv H' x G' t1 r g1 h=>d.nx ρ G' σ H' (s.mono t1) g1 h⟩
abbrev bU(te:cJ):bJ:=λF ρ G=>te ρ G F.rt
def aM8(he:cO X e te):PS3 X (.Return (aj e) pos) (bU te):=PS.imp (aEP he) λF σ H h=>by
 obtain⟨ρ,G,E,s,g,q,d⟩:=h;exact⟨ρ,G,_,s,g,q,λv H' x G' t1 r g1 h=>d.rt x G' v H' r g1 h⟩
abbrev dG(c:TT3)(t u:bJ):bJ:=λF ρ G=>c ρ G λb G1=>if b=ak then t F ρ G1 else u F ρ G1
def aQL{c:jq}{a b:List qm}{tc:TT3}(hc:PT3 X c tc)(ha:a8I X a t)(hb:a8I X b u):PS3 X (.If c a b pos) (dG tc t u):=PS.imp (aKQ hc ha hb) λF σ H h=>by
 obtain⟨ρ,G,E,s,g,q,d⟩:=h;refine⟨ρ,G,_,s,g,q,λb H' G' t1 g1 h=>?_⟩;cases b with
 |true=>exact⟨ρ,G',E,s.mono t1,g1,h,d⟩
 |false=>exact⟨ρ,G',E,s.mono t1,g1,h,d⟩
abbrev cD(i:Nat)(te:cJ):bJ:=λF ρ G=>te ρ G λx G1=>F.nx (a1Y ρ i x) G1
def aD4(hN:X.N.Nodup)(hi:X.N[i]?=aj x)(hx:Loc X.env.scope x)(he:cO X e te)(hs:a0h e (aj (.Name x pos')) pos.line X.env=pure ao:=by rfl)(hf:X.fn x=ak∨X.env.scope.names.lookup x=aj .local:=by first|exact .inl rfl|exact .inr rfl|assumption) :
  PS3 X (.Assign [.Name x pos'] e pos) (cD i te):=PS.imp (aES hN hi hx he hs hf) λF σ H h=>by
 obtain⟨ρ,G,E,s,g,q,d⟩:=h;exact⟨ρ,G,_,s,g,q,λv H' x G' t1 r g1 h=>d.nx _ G' _ H' ((s.mono t1).set r i) g1 h⟩
end
section
def atO{K:Fg}{J:It}{g:TG}{tb:TS}(Pv:Nat->St->Hp->Prop)(h0:Pv 0 σ H)
  (stop:∀σ H,Pv n σ H->J.stop n H)(go:∀i σ H,i<n->Pv i σ H->J.go i H)
  (hs:∀i x σ H H',i<n->Pv i σ H->J.yld i H x H'->g x σ H' λσ2 H2=>tb {F with nx:=Pv (i+1),ct:=Pv (i+1),bk:=F.nx} σ2 H2)(hd:∀σ H,Pv n σ H->F.nx σ H) :
  ∃W:Nat->Nat->St->Hp->Prop,(∃m,W 0 m σ H)/\∀i m σ H,W i m σ H ->
   (J.stop i H/\F.nx σ H)∨(J.go i H/\∃N:St->Hp->Prop,(∀σ' H',N σ' H'->∃m',m'<m/\W (i+1) m' σ' H')/\∀x H',J.yld i H x H'->g x σ H' λσ2 H2=>tb {F with nx:=N,ct:=N,bk:=F.nx} σ2 H2):=by
 refine⟨λi m σ H=>m=n - i/\i<=n/\Pv i σ H,⟨n,by simp,ur _,h0⟩,?_⟩;rintro i m σ H ⟨rfl,hi,p⟩;by_cases hlt:i<n
 .exact .inr ⟨go i σ H hlt p,Pv (i+1),λσ' H' p'=>⟨n - (i+1),by omega,rfl,hlt,p'⟩,λx H' y=>hs i x σ H H' hlt p y⟩
 .have e:i=n:=by omega
  subst e;exact .inl ⟨stop σ H p,hd σ H p⟩
end
@[simp]def aZ:=Addr->Gp->Prop
@[simp]def qK:=List D->Gp->iB->aZ->Prop
abbrev UpX(K:Fg)(EX:aZ)(E:XK):Prop:=∀C H' G',HR K H' G'->EX C G'->E (.ref C) au H'
abbrev d8(K:Fg)(sp:qK):Sp:=λvs H Q E=>∃ds G R EX,dB K H ds vs/\HR K H G/\sp ds G R EX/\(∀v H' d G',RD K H' d v->HR K H' G'->R d G'->Q v H')/\UpX K EX E
section
variable{EX:aZ}
abbrev aQM(n m:Nat)(tb:aZ->bJ):qK:=λds G R EX=>ds.length=m/\tb EX ⟨λ_ G'=>R .non G',R,λ_ _=>False,λ_ _=>False⟩ (af7 n ds) G
end
end
section
abbrev lX(P:jt)(w:jj):CXT:=λouter H s E e s'=>∃(x C:bw)(H':Hp)(B:jm),e=.ref x/\Fly B outer x (.ref C) s'.heap/\HOk P w H' B /\
 (∀b o,s.heap.get? b=aj o->H b=au->b∉frs outer->B.get? b=aj o)/\(∀b o,s.heap.get? b=aj o->b∉frs outer->∃o',B.get? b=aj o') /\
 Un (frs outer) [] H H' s.heap s'.heap/\s'.os=s.os/\AllBare s'.gens/\E (.ref C) au H'
def anL(h:b∈frs l):∃env∈l,env.frame=aj b:=a1F.mp h
def afC{env:Env}(h:env∈l)(e:env.frame=aj b):b∈frs l:=a1F.mpr ⟨env,h,e⟩
section
variable{qt:Bool}{P:jt}{w:jj}{K:Fg}{mg:Str->Option aq}{base:jm}{N:List Str}{qual:Str}{scope:zc}{f:bw}{cd:aq}{A:jx}{outer:List Env}{s₀:cu}{H₀:Hp}{E:XK}
@[simp]def cx1(qt:Bool)(P:jt)(w:jj)(K:Fg)(mg:Str->Option aq)(base:jm)(N:List Str)(qual:Str)(scope:zc)(f:bw)(cd:aq)(A:jx)(outer:List Env)(s₀:cu)(H₀:Hp)(E:XK):Cx:=vG qt (lX P w) P w K mg base N qual scope f cd A outer s₀ H₀ E
def m7{X:Cx}(I:Inv X pins σ H s)(hst:X.stack=X.env::X.outer)(hf:X.env.frame=aj X.env.locals){o:Obj}(e:X.s₀.heap.get? b=aj o)(n:b∉frs X.outer):b∉frs X.stack:=λhb=>by
 obtain⟨env,he,hfr⟩:=anL hb;rw[hst]at he;rcases jd.mp he with rfl|he
 .have z:X.env.locals=b:=jf.inj (hf.symm.trans hfr);have h1:=I.ok.above;have h2:=gw e;rw[z]at h1;exact absurd (jo h2 h1) (vq _)
 .exact n (afC he hfr)
def azG{s:cu}(I:Inv (cx1 qt P w K mg base N qual scope f cd A outer s₀ H₀ E) pins σ H s)(hm:a2w s.heap h' e (.ref C) us)(q:E (.ref C) au H) :
  (cx1 qt P w K mg base N qual scope f cd A outer s₀ H₀ E).xe (.ref e) {s with heap:=h' }:=by
 have hst:(cx1 qt P w K mg base N qual scope f cd A outer s₀ H₀ E).stack=(cx1 qt P w K mg base N qual scope f cd A outer s₀ H₀ E).env::outer:=rfl;have hin:∀env∈(cx1 qt P w K mg base N qual scope f cd A outer s₀ H₀ E).stack,∀b,env.frame=aj b->b∈frs (cx1 qt P w K mg base N qual scope f cd A outer s₀ H₀ E).stack:=λenv he b hb=>afC he hb;have hB:∀b o,(a2l s.heap (frs (cx1 qt P w K mg base N qual scope f cd A outer s₀ H₀ E).stack)).get? b=aj o->s.heap.get? b=aj o:=λb o e=>PySem.W.of_hideAll _ e;have toB:∀b o,s.heap.get? b=aj o->b∉frs (cx1 qt P w K mg base N qual scope f cd A outer s₀ H₀ E).stack->(a2l s.heap (frs (cx1 qt P w K mg base N qual scope f cd A outer s₀ H₀ E).stack)).get? b=aj o:=λb o e n=>PySem.W.hideAll_get _ e n;have fr:=PySem.W.funFrames_hide I.stack hin;refine akR (B:=a2l s.heap (frs (cx1 qt P w K mg base N qual scope f cd A outer s₀ H₀ E).stack)) (h0:=s.heap) I.ok.frames rfl hB fr hm λh2 k1 k4=>?_;have up:∀b o,s.heap.get? b=aj o->(∀vs,o.data≠.fields vs)->∃sl,h2.get? b=aj {o with slots:=sl}:=λb o e nd=>k4 b o (hm.keeps b o e) nd
 have hfd:∀b∈frs outer,∀o,s.heap.get? b=aj o->∀vs,o.data≠.fields vs:=λb hb o e=>by
  obtain⟨_,o',ho',hd⟩:=I.a1X.mem hb;rw[e]at ho';cases ho';exact hd
 refine⟨e,C,H,_,rfl,k1,?_,λb o eb nb hb=>?_,λb o eb hb=>?_,⟨λb o eb nb hb _=>?_,λb o eb nb hb _=>?_,λb o eb nb hx=>I.base.free b o eb nb hx,λb o eb hx=>?_,I.base.tups,I.base.mQ,I.base.zJ⟩,I.os,I.bare,q⟩
 .intro b o hb;refine(I.hok b o hb).stay (λc u hc eu=>toB c u eu λhz=>?_) (λ_ z=>z) λ_ _ z=>z;have n:=I.aeU c hz;rcases hc with rfl|hc
  .rw[hb]at n;cases n
  .rw[hc]at n;cases n
 .exact toB b o (I.base.keep b o eb nb hb (by simp[vG])) (m7 I hst rfl eb hb)
 .obtain⟨o',e'⟩:=I.base.there b o eb (by simp[vG]);exact⟨o',toB b o' e' (m7 I hst rfl eb hb)⟩
 .exact k1.stays b o (toB b o (I.base.keep b o eb nb hb (by simp[vG])) (m7 I hst rfl eb hb))
 .obtain⟨sl,e1⟩:=I.base.slot b o eb nb hb (by simp[vG]);obtain⟨sl2,e2⟩:=up b _ e1 (hfd b hb _ e1);exact⟨sl2,e2⟩
 .obtain⟨o',e'⟩:=I.base.there b o eb (by simp[vG]);by_cases hb:b∈frs outer
  .obtain⟨sl,e1⟩:=up b o' e' (hfd b hb o' e');exact⟨_,e1⟩
  .exact⟨o',k1.stays b o' (toB b o' e' (m7 I hst rfl eb hb))⟩
def azH(hE:∀C H',E' C au H'->E C au H')(I:Inv (cx1 qt P w K mg base N qual scope f cd A outer s₀ H₀ E) pins σ H s)
  (c:lX P w (cx1 qt P w K mg base N qual scope f cd A outer s₀ H₀ E).stack H s E' e s'):(cx1 qt P w K mg base N qual scope f cd A outer s₀ H₀ E).xe e s':=by
 obtain⟨x,C,H',B,rfl,fl,hok,cov,alG,un,os,bare,q⟩:=c;have hst:(cx1 qt P w K mg base N qual scope f cd A outer s₀ H₀ E).stack=(cx1 qt P w K mg base N qual scope f cd A outer s₀ H₀ E).env::outer:=rfl;refine asF (B:=B) I.ok.frames rfl fl λh2 k1 k4=>?_
 have hfs:∀b∈frs outer,b∈frs (cx1 qt P w K mg base N qual scope f cd A outer s₀ H₀ E).stack:=λb hb=>by
  obtain⟨env,he,hf⟩:=anL hb;exact afC (ou _ he) hf
 have hfd:∀b∈frs outer,∀o,s'.heap.get? b=aj o->∀vs,o.data≠.fields vs:=λb hb o e=>by
  obtain⟨_,o',ho',hd⟩:=fl.aE8.mem (hfs b hb);rw[e]at ho';cases ho';exact hd
 refine⟨x,C,H',B,rfl,k1,hok,λb o eb nb hb=>?_,λb o eb hb=>?_,⟨λb o eb nb hb _=>?_,λb o eb nb hb _=>?_,λb o eb nb hx=>?_,λb o eb hx=>?_,λb xs z=>un.tups b xs (I.base.tups b xs z),λb o u z=>un.mQ b o u (I.base.mQ b o u z),λb ps z=>?_⟩,os.trans I.os,bare,hE _ _ q⟩
 .exact cov b o (I.base.keep b o eb nb hb (by simp[vG])) (I.base.free b o eb nb (by simp[vG])) (m7 I hst rfl eb hb)
 .obtain⟨o',e'⟩:=I.base.there b o eb (by simp[vG]);exact alG b o' e' (m7 I hst rfl eb hb)
 .exact k1.stays b o (cov b o (I.base.keep b o eb nb hb (by simp[vG])) (I.base.free b o eb nb (by simp[vG])) (m7 I hst rfl eb hb))
 .obtain⟨sl,e1⟩:=I.base.slot b o eb nb hb (by simp[vG]);obtain⟨sl2,e2⟩:=un.slot b _ e1 (I.base.free b o eb nb (by simp[vG])) (hfs b hb) (by simp);obtain⟨sl3,e3⟩:=k4 b _ e2 (hfd b hb _ e2);exact⟨sl3,e3⟩
 .obtain⟨o',e'⟩:=I.base.there b o eb (by simp[vG]);exact un.free b o' e' (I.base.free b o eb nb (by simp[vG])) (by simp)
 .obtain⟨o',e'⟩:=I.base.there b o eb (by simp[vG]);by_cases hb:b∈frs outer
  .obtain⟨o2,e2⟩:=un.there b o' e' (by simp);obtain⟨sl,e3⟩:=k4 b o2 e2 (hfd b hb o2 e2);exact⟨_,e3⟩
  .obtain⟨o2,e2⟩:=alG b o' e' (m7 I hst rfl eb hb);exact⟨o2,k1.stays b o2 e2⟩
 .obtain⟨m1,e1⟩:=I.base.zJ b ps z;obtain⟨m2,e2⟩:=un.zJ b _ e1;exact⟨m1++m2,by rw[e2,Array.append_assoc]⟩
end
abbrev a2P(K:Fg)(EX:aZ):XK:=λC _ H'=>∃c G',C=.ref c/\HR K H' G'/\EX c G'
structure Cat(X:Cx)(EX:aP->aZ):Prop where
 ahJ:∀pins σ H s ρ e s',Inv X pins σ H s->SR X.K H ρ σ->lX X.prog X.w X.stack H s (a2P X.K (EX ρ)) e s'->X.xe e s'
structure Thr(X:Cx)(EX:aP->aZ):Prop where
 made:∀pins σ H s ρ C e us h',Inv X pins σ H s->SR X.K H ρ σ->a2w s.heap h' e (.ref C) us->a2P X.K (EX ρ) (.ref C) au H->X.xe (.ref e) {s with heap:=h' }
section
variable{qt:Bool}{w:jj}{K:Fg}{mg:Str->Option aq}{base:jm}{N:List Str}{A:jx}{outer:List Env}{s₀:cu}{H₀:Hp}
def ahK(h:UpX K EX E)(q:a2P K EX C au H'):E C au H':=by
 obtain⟨c,G',rfl,g,q⟩:=q;exact h c H' G' g q
def aQO(h:UpX K EX E):Cat (cx1 qt P w K mg base N qual scope f cd A outer s₀ H₀ E) (λ_=>EX) :=
 ⟨λpins σ H s ρ e s' I _ c=>azH (E':=a2P K EX) (λC H' q=>ahK h q) I c⟩
def aQP(h:UpX K EX E):Thr (cx1 qt P w K mg base N qual scope f cd A outer s₀ H₀ E) (λ_=>EX) :=
 ⟨λpins σ H s ρ C e us h' I _ hm q=>azG I hm (ahK h q)⟩
def own1:PassesOwn (dw P w) (cx1 qt P w K mg base N qual scope f cd A outer s₀ H₀ E).A (cx1 qt P w K mg base N qual scope f cd A outer s₀ H₀ E).env (cx1 qt P w K mg base N qual scope f cd A outer s₀ H₀ E).xe:=PassesOwn.leaving
end
section
variable{X:Cx}{k:Nat}{sp:qK}{EX:aP->aZ}{x:Str}{p pos:Pos}{t:xG}
abbrev aR(sp:qK)(EX:aP->aZ)(t:xG):cJ:=λρ G R=>t ρ G λds G1=>sp ds G1 R (EX ρ)
private theorem anM{Q Q':VK}(F:cH qt X.prog X.w X.K X.mg X.base (lX X.prog X.w) k f fd ps (d8 X.K sp))(hr:lW qt k X.A)(hb:Binds X.K fd ps [])
  (hx:∀e s',lX X.prog X.w X.stack H s E e s'->X.xe e s')
  (I:Inv X pins σ H s)(r:Vals vs us)(h:d8 X.K sp vs H Q E)(hQ:∀v H',Ts H H'->Q v H'->Q' v H'):dg (dw X.prog X.w) X.A (call (.ref f) us) (EP X pins σ Q') X.xe s:=by
 have hl:(us++[]).length=ps.length:=by rw[a1g,←r.length];exact F.len _ _ _ _ h
 refine wpAny_call (codeAny_mono (F.run X.A X.stack s H ⟨us,[]⟩ (us++[]) vs Q E hr I.env0 (hb s us I.kIn hl) (by rw[a1g];exact r) h) λr s' hq=>?_);cases r with
 |error e=>exact hx e s' hq
 |ok fl =>
  cases fl with
  |ret u =>
   obtain⟨v,H',os,bare,un,hok,r,q⟩:=hq;exact⟨v,H',I.call' (ch:=[]) os un hok bare (λb z=>absurd z (by simp)),r,hQ v H' ⟨un.tups,un.mQ⟩ q⟩
  |next=>exact False.elim hq
  |brk=>exact False.elim hq
  |cont=>exact False.elim hq
def azI(F:cH qt X.prog X.w X.K X.mg X.base (lX X.prog X.w) k f fd ps (d8 X.K sp))(hr:lW qt k X.A)(hg:Gl X x)(hm:X.mg x=aj (.ref f))(hk:uf X.K (.ref f)=ak)(hb:Binds X.K fd ps [])(hx:Cat X EX)
  (ha:PA3 X (e::es) t)(hdb:(x==("__debug__":Str))=ao:=by decide)(he:ji (e::es) X.env=(ao,eval e X.env)::ji es X.env:=by rfl)(hpl:(tu pos (ji es X.env)).any (·.1)=ao:=by rfl) :
  cO X (.Call (.Name x p) (e::es) [] pos) (aR sp EX t):=by
 intro pins s σ H Q I h;obtain⟨ρ,G,R,sr,g,q,kk⟩:=h;refine xg (rD I hg hm ?_ hdb);refine a2K (h₀:=X.base) I.ok.mod.kin hk (dZ (ha pos pins s σ H (λvs H1=>Ts H H1/\∃ds G1,dB X.K H1 ds vs/\HR X.K H1 G1/\sp ds G1 R (EX ρ)) I ⟨ρ,G,_,sr,g,q,λvs H1 ds G1 t1 r1 g1 q1=>⟨t1,ds,G1,r1,g1,q1⟩⟩) λus s1 ⟨vs,H1,I1,r,t1,ds,G1,r1,g1,q1⟩=>⟨I1.kIn,?_⟩) he hpl;refine anM (E:=a2P X.K (EX ρ)) F hr hb (λe s' c=>hx.ahJ pins σ H1 s1 ρ e s' I1 (sr.mono t1) c) I1 r (Q:=λv H'=>∃d G',RD X.K H' d v/\HR X.K H' G'/\R d G') ⟨ds,G1,R,EX ρ,r1,g1,q1,λv H' d G' r2 g2 q2=>⟨d,G',r2,g2,q2⟩,λC H' G' g' q'=>⟨C,G',rfl,g',q'⟩⟩ (by rintro v H' t2 ⟨d,G',r2,g2,q2⟩;exact kk v H' d G' (t1.trans t2) r2 g2 q2)
def aFX{qt:Bool}{P:jt}{w:jj}{K:Fg}{base:jm}{qual:Str}{f:bw}{fd:jw}{N ps:List Str}{k:Nat}{tb:aZ->bJ}(F:Fun K x qual st f fd)(S:bF N ps (bI st))
  (hbody:∀(cdv:aq)(A:jx)(outer:List Env)(s:cu)(H:Hp)(E:XK)(EX:aZ),lW qt k (A.deeper (envOfC qual (bI st) s.heap.objs.size f cdv))->UpX K EX E ->
   a8I (cx1 qt P w K mg base N qual (bI st) f cdv A outer s H E) (cV st) (tb EX)):cH qt P w K mg base (lX P w) (k+1) f fd ps (d8 K (aQM N.length ps.length tb)):=by
 obtain⟨oc,od,dV,kV,doc,pm,an,cdv,ct,osl,rfl,lk,hcd⟩:=F.ex;have hpl:ps.length<=N.length:=by have:=congrArg a2h S.pre;rw[a2j]at this;omega
 refine aL5 lk hcd S (λvs H Q E h=>?_) λA outer s H vs Q E hr hsp=>?_
 .obtain⟨ds,G,R,EX,r,g,⟨hl,q⟩,_⟩:=h;rw[←r.length,hl]
 .obtain⟨ds,G,R,EX,r,g,⟨hl,q⟩,kk,hE⟩:=hsp;refine⟨_,hbody cdv A outer s H E EX hr hE,af7 N.length ds,G,_,?_,g,q,⟨λρ G' σ' H' s1 g1 q1=>kk .non H' .non G' .non g1 q1,λd G' v H' r1 g1 q1=>kk v H' d G' r1 g1 q1,λ_ _ _ _ _ _ z=>z.elim,λ_ _ _ _ _ _ z=>z.elim⟩⟩;unfold af7 start;rw[r.length];exact SR.entry r
end
section
variable{X:Cx}{C:bw}{bmB:List aq}{B Bn newId nid initId inN:String}{EX:aP->aZ}{x:Str}{pos:Pos}{t:xG}
private theorem a93{K:Fg}{h:jm}(XK:K.In h)(q:yx K C bmB newId=ak):∃bm N nm q bs hdct sn sub ab col dd k0 k1 k2 k3 k5 mN,h.get? C=aj (excClassObj nm q C N bs bm hdct sn sub ab col dd k0 k1 k2 k3 k5 newId)/\h.Ns N mN/\mN "__init__"=au/\OwnTail h bmB bm:=by
 unfold yx at q;split at q
 .rename_i dd cd sl ho;split at q
  .rename_i C' bm k0 k1 k2 k3 n k5 hm hs;simp only[bx,beq_iff_eq,iu]at q;obtain⟨⟨⟨⟨⟨rfl,rfl⟩,hdel⟩,ht⟩,hok⟩,hni⟩:=q;obtain⟨nm,bs,mro,ns,qn,hd,sn,sub,ab,col,del⟩:=cd;dsimp only at hm hdel hok hni;subst hm hdel
   have hsl:sl=#[k0,k1,k2,k3,aj (.builtin n),k5]:=by
    obtain⟨l⟩:=sl;simp only at hs;rw[hs]
   subst hsl;exact⟨bm,ns,nm,qn,bs,hd,sn,sub,ab,col,dd,k0,k1,k2,k3,k5,_,XK _ _ ho,.of_isNs (PySem.W.isNs_of_in XK hok),PySem.W.nsMap_none_of_in XK hok hni,PySem.W.tail_of_in XK ht⟩
  .cases q
 .cases q
abbrev oZ(EX:aP->aZ)(C:bw)(t:xG):bJ:=λ_ ρ G=>t ρ G λds G1=>ds.length<=dh/\EX ρ C G1
def azJ(hc:X.calm=ak)(Fn:a0w Bn newId inN bmN)(hBn:bmB.contains (.type Bn)=ak)(FB:a0w B nid initId bmB)(hg:Gl X x)(hm:X.mg x=aj (.ref C))(hq:yx X.K C bmB newId=ak)(hT:Thr X EX)
  (ha:PA3 X (e::es) t)(hd:(x==("__debug__":Str))=ao:=by decide)
  (he:ji (e::es) X.env=(ao,eval e X.env)::ji es X.env:=by rfl)(hplain:(tu cpos (ji es X.env)).any (·.1)=ao:=by rfl) :
  PS3 X (.Raise (aj (.Call (.Name x np) (e::es) [] cpos)) au pos) (oZ EX C t):=by
 intro pins s σ H F I h;obtain⟨ρ,G,E3,sr,g,q,dd⟩:=h;obtain⟨tl,N,nm,q',bs,hdct,sn,sub,ab,col,dd',k0,k1,k2,k3,k5,mN,hC,hN,hni,T⟩:=a93 I.mod.kin hq
 refine wpAny_Raise_call_subU (C:=C) (nm:=nm) (q:=q') (N:=N) (bs:=bs) (bm:=tl) (hdct:=hdct) (sn:=sn) (sub:=sub) (ab:=ab) (col:=col) (dd:=dd') (k0:=k0) (k1:=k1) (k2:=k2) (k3:=k3) (k5:=k5)
  Fn hBn FB (mN:=mN) (T.hasType FB.hasBase) (I.ok.hd hc) (by rw[he];show(ao||(tu cpos (ji es X.env)).any (·.1))=ao;rw[hplain];rfl) hni (rD I hg hm ⟨rfl,?_⟩ hd)
 have hA:=ha cpos pins s σ H (λvs H1=>Ts H H1/\∃ds G1,dB X.K H1 ds vs/\HR X.K H1 G1/\ds.length<=dh/\EX ρ C G1) I ⟨ρ,G,_,sr,g,q,λvs H1 ds G1 t1 r1 g1 q1=>⟨t1,ds,G1,r1,g1,q1.1,q1.2⟩⟩;rw[he]at hA ⊢;refine Calls.evalArgs_plain (dZ hA ?_);rintro us s2 ⟨vs,H2,I2,r2,t1,ds,G1,r1,g1,hl,q1⟩;exact⟨rfl,by rw[←r2.length,←r1.length];exact hl,I2.bk _ _ hC,hN.keeps I2.bk,T.keeps I2.bk,λh' e' hm'=>hT.made pins σ H2 s2 ρ C e' us h' I2 (sr.mono t1) hm' ⟨C,G1,rfl,g1,q1⟩⟩
end
end
variable{A:jx}{B:jm}{M:Model}
section
abbrev a9T:aP->Nat->aP
 |[],_=>[]
 |_::r,0=>au::r
 |x::r,n+1=>x::a9T r n
abbrev a6I:St->Nat->St
 |[],_=>[]
 |_::r,0=>au::r
 |x::r,n+1=>x::a6I r n
def SR.clr{K:Fg}:∀{ρ:aP}{σ:St}(i:Nat),SR K H ρ σ->SR K H (a9T ρ i) (a6I σ i)
 |_,_,_,.nil=>.nil
 |_,_,0,.none r=>.none r
 |_,_,0,.some _ r=>.none r
 |_,_,i+1,.none r=>.none (SR.clr i r)
 |_,_,i+1,.some h r=>.some h (SR.clr i r)
def ahL:∀(σ:St)(i:Nat),(a6I σ i).length=σ.length
 |[],_=>rfl
 |_::_,0=>rfl
 |_::r,i+1=>congrArg (·+1) (ahL r i)
def ahM:∀(σ:St)(i j:Nat)(v:V),(a6I σ i)[j]?=aj (aj v)->j≠i/\σ[j]?=aj (aj v)
 |[],_,_,_,h=>by simp[a6I]at h
 |_::_,0,0,_,h=>by simp[a6I]at h
 |_::_,0,j+1,_,h=>⟨by omega,by simpa[a6I]using h⟩
 |_::_,i+1,0,_,h=>⟨by omega,by simpa[a6I]using h⟩
 |_::r,i+1,j+1,v,h=>by
  obtain⟨a,b⟩:=ahM r i j v (by simpa[a6I]using h);exact⟨by omega,by simpa using b⟩
variable{x:bw}{n:Str}
section
variable{X:Cx}
abbrev xeT(X:Cx)(EX:aP->aZ):aq->cu->Prop:=λe s'=>∃pins σ H s ρ,Inv X pins σ H s/\SR X.K H ρ σ/\lX X.prog X.w X.stack H s (a2P X.K (EX ρ)) e s'
@[simp]def azK(X:Cx)(pn:List (bw×Obj))(EX:aP->aZ):Cx:={X with pn:=X.pn++pn,xe:=xeT {X with pn:=X.pn++pn} EX}
@[simp]def aqO(X:Cx)(x:bw):Cx:={X with A:=X.A.mark (aj (.ref x)),calm:=false,xe:=λ_ _=>False}
def aMA(ok:X.Ok)(pn:List (bw×Obj))(E:aq->cu->Prop):({X with pn:=pn,xe:=E}:Cx).Ok :=
 ⟨ok.mod,ok.kind,ok.glob,ok.blt,ok.above,ok.inj,ok.has,ok.cab,ok.hd,ok.frames,ok.stk,ok.exf,ok.bs,ok.bsz,ok.ah6,ok.akS,ok.a1X,ok.frf⟩
def azL(I:Inv X pins σ H s)(E:aq->cu->Prop):Inv ({X with pn:=X.pn++pins,xe:=E}:Cx) [] σ H s :=
 ⟨aMA I.ok _ _,I.os,I.bare,I.base,I.loc,I.cell,I.free,I.pL,λp hp=>I.pin p (by simpa using hp),I.hok,I.len,I.hnd,I.tup⟩
def w6(I:Inv ({X with pn:=X.pn++pins,xe:=E}:Cx) a4R σ H s):Inv X pins σ H s :=
 ⟨⟨I.ok.mod,I.ok.kind,I.ok.glob,I.ok.blt,I.ok.above,I.ok.inj,I.ok.has,I.ok.cab,I.ok.hd,I.ok.frames,I.ok.stk,I.ok.exf,I.ok.bs,I.ok.bsz,I.ok.ah6,I.ok.akS,I.ok.a1X,I.ok.frf⟩,I.os,I.bare,I.base,I.loc,I.cell,I.free,I.pL,λp hp=>I.pin p (a1p _ hp),I.hok,I.len,I.hnd,I.tup⟩
def anN(I:Inv X pins σ H s)(x:bw)(q:Hnd (X.A.mark (aj (.ref x))) H):Inv (aqO X x) pins σ H s :=
 ⟨⟨I.ok.mod,I.ok.kind,I.ok.glob,I.ok.blt,I.ok.above,I.ok.inj,I.ok.has,I.ok.cab,(λz=>nomatch z),I.ok.frames,I.ok.stk,I.ok.exf,I.ok.bs,I.ok.bsz,I.ok.ah6,I.ok.akS,I.ok.a1X,I.ok.frf⟩,I.os,I.bare,I.base,I.loc,I.cell,I.free,I.pL,I.pin,I.hok,I.len,q,I.tup⟩
def a1H(ok:X.Ok)(hn:X.A.handled=au)(I:Inv (aqO X x) pins σ H s):Inv X pins σ H s :=
 ⟨ok,I.os,I.bare,I.base,I.loc,I.cell,I.free,I.pL,I.pin,I.hok,I.len,.inl hn,I.tup⟩
def aQQ(pn:List (bw×Obj))(EX:aP->aZ):Cat (azK X pn EX) EX:=⟨λpins σ H s ρ e s' I sr c =>
 ⟨pins,σ,H,s,ρ,⟨⟨I.ok.mod,I.ok.kind,I.ok.glob,I.ok.blt,I.ok.above,I.ok.inj,I.ok.has,I.ok.cab,I.ok.hd,I.ok.frames,I.ok.stk,I.ok.exf,I.ok.bs,I.ok.bsz,I.ok.ah6,I.ok.akS,I.ok.a1X,I.ok.frf⟩,I.os,I.bare,I.base,I.loc,I.cell,I.free,I.pL,I.pin,I.hok,I.len,I.hnd,I.tup⟩,sr,c⟩⟩
def aFY{P:jt}{w:jj}{s s':cu}(fl:Fly B l x (.ref C) s'.heap)(cov:∀b o,s.heap.get? b=aj o->H b=au->b∉frs l->B.get? b=aj o)
  (alG:∀b o,s.heap.get? b=aj o->b∉frs l->∃o',B.get? b=aj o')(un:Un (frs l) [] H H' s.heap s'.heap)(st:B.StaysIn h2)(up:s'.heap.UpToSlots h2):Un (frs l) [] H H' s.heap h2:=by
 have hfd:∀b∈frs l,∀o,s'.heap.get? b=aj o->∀vs,o.data≠.fields vs:=λb hb o e=>by
  obtain⟨_,o',ho',hd⟩:=fl.aE8.mem hb;rw[e]at ho';cases ho';exact hd
 refine⟨λb o eb nb hb _=>st b o (cov b o eb nb hb),λb o eb nb hb hx=>?_,un.free,λb o eb hx=>?_,un.tups,un.mQ,un.zJ⟩
 .obtain⟨sl,e1⟩:=un.slot b o eb nb hb hx;obtain⟨sl2,e2⟩:=up b _ e1 (hfd b hb _ e1);exact⟨sl2,e2⟩
 .by_cases hb:b∈frs l
  .obtain⟨o2,e2⟩:=un.there b o eb hx;obtain⟨sl,e3⟩:=up b o2 e2 (hfd b hb o2 e2);exact⟨_,e3⟩
  .obtain⟨o2,e2⟩:=alG b o eb hb;exact⟨o2,st b o2 e2⟩
def a94(I:Inv X pins σ H s)(hN:X.N.Nodup)(hi:X.N[i]?=aj n)(hl:X.env.kindOf n=aj .local)
  (h:∀s',Inv X pins (a6I σ i) H s'->Q () s'):dg M A (do bindName X.env n .none;unbindBehindTheSuite X.env n pos) Q E s:=by
 obtain⟨m,hn,hlo⟩:=id I.loc;have cne:=I.cne;refine wpAny_nameGoes_keeps hl hn (by rw[I.ok.kind];rfl) λh' v hn' hs=>?_;obtain⟨oL,_,_,hoL,_⟩:=id hn;refine h _ ⟨I.ok,I.os,I.bare,⟨λb o e n hb hx=>?_,λb o e n hb hx=>?_,I.base.free,λb o e hx=>?_,I.base.tups,I.base.mQ,I.base.zJ⟩,⟨_,hn',λj y v' e1 e2 e3=>?_⟩,λy c e=>?_,I.free,I.pL,λp hp=>?_,λb ob e=>?_,(ahL σ i).trans I.len,I.hnd,I.tup⟩
 .exact(hs.2 b (jc (jo (gw e) I.ok.above))).trans (I.base.keep b o e n hb hx)
 .obtain⟨sl,e1⟩:=I.base.slot b o e n hb hx;exact⟨sl,(hs.2 b (jc (jo (gw e) I.ok.above))).trans e1⟩
 .obtain⟨o',e1⟩:=I.base.there b o e hx;exact⟨o',(hs.2 b (jc (jo (gw e) I.ok.above))).trans e1⟩
 .obtain⟨hj,e2'⟩:=ahM σ i j v' e2;obtain⟨u',r',q⟩:=hlo j y v' e1 e2' e3;refine⟨u',r',?_⟩;rcases q with⟨k,e⟩|⟨k,c,e,z⟩
  .refine .inl ⟨k,?_⟩;have:y≠n:=λe=>hj (a9F hN e1 (e ▸ hi));simp[this,e]
  .exact .inr ⟨k,c,e,z.sameBut hs (cne y c e)⟩
 .obtain⟨w',z⟩:=I.cell y c e;exact⟨w',z.sameBut hs (cne y c e)⟩
 .obtain⟨e,n,ne,nf,d⟩:=I.pin p hp;exact⟨(hs.2 p.1 ne).trans e,n,ne,nf,d⟩
 .refine(I.hok b ob e).stay (λc w' hc q=>(hs.2 c ?_).trans q) (λ_ q=>q) λ_ _ q=>q;rintro rfl;have hfree:=I.free;rcases hc with z|hc
  .rw[z,e]at hfree;cases hfree
  .rw[hfree]at hc;cases hc
private theorem aQR{K:Fg}{s:cu}{oe:Obj}{b:Bool}(KX:K.In s.heap)(he:s.heap.get? x=aj oe)(hcls:oe.cls=.ref C)
  (hc:(wg K Dc).isSome=ak)(ht:a0t K (.ref Dc)=aj (.type "type"))(hb:um K (.ref Dc) (.type "BaseException")=aj ak)(hs:um K (.ref C) (.ref Dc)=aj b)(h:Q b s):dg M A (excMatches (.ref x) (.ref Dc)) Q E s:=by
 have l1:ug M s.heap (typeOf (.ref Dc)) (.type "type"):=PySem.W.looks_typeIn KX ht;have l2:ug M s.heap (isSubtype (.ref Dc) (.type "BaseException")) ak:=PySem.W.looks_subIn KX hb;have l3:ug M s.heap (isSubtype (.ref C) (.ref Dc)) b:=PySem.W.looks_subIn KX hs
 have l4:ug M s.heap (typeOf (.ref x)) (.ref C):=by
  have z:=(ug.ld (M:=M) (part:=none) he).andThen (f:=λo=>pure o.cls) (b:=.ref C) (by rw[hcls];exact .now);exact z
 have l0:ug M s.heap (isSubtype (.type "type") (.type "tuple")) ao:=.of_pure tc_notTuple
 have lt:ug M s.heap (isType (.ref Dc)) ak:=by
  intro A' Q' E' s' k q;cases eK:wg K Dc with
  |none=>rw[eK]at hc;cases hc
  |some cd =>
   unfold wg at eK;split at eK
   .rename_i ho;unfold isType loadHead;exact bh (wpAny_loadPart (k _ _ (KX _ _ ho)) (cj q))
   .cases eK
 unfold excMatches isInstance isExcClass
 repeat (first|with_reducible refine ug.here l0 ?_|with_reducible refine ug.here l1 ?_|with_reducible refine ug.here l2 ?_|with_reducible refine ug.here l3 ?_|with_reducible refine ug.here l4 ?_|with_reducible refine ug.here lt ?_|wp_step)
 cases b<;>(wp_walk;exact h)
abbrev ahN(K:Fg)(Dc:bw)(i:Nat)(tb:(aP->aZ)->bJ)(th:bJ):bJ:=λF ρ G =>
 tb (λρ1 C G1=>um K (.ref C) (.ref Dc)=aj ak/\∀x,G1 x=au->th {nx:=λρ2 G2=>F.nx (a9T ρ2 i) G2,rt:=F.rt,bk:=λρ2 G2=>F.bk (a9T ρ2 i) G2,ct:=λρ2 G2=>F.ct (a9T ρ2 i) G2} (a1Y ρ1 i (.ref x)) (aH G1 x (.exn C))) F ρ G
private theorem atQ(h:SP (azK X pins EX) [] F f s):SP X pins F f s:=by
 cases f with
 |next=>obtain⟨σ',H',I,q⟩:=h;exact⟨σ',H',w6 I,q⟩
 |brk=>obtain⟨σ',H',I,q⟩:=h;exact⟨σ',H',w6 I,q⟩
 |cont=>obtain⟨σ',H',I,q⟩:=h;exact⟨σ',H',w6 I,q⟩
 |ret u=>obtain⟨v,σ',H',I,r,q⟩:=h;exact⟨v,σ',H',w6 I,r,q⟩
def ahO{w:jj}(hok:HOk P w H B)(n:B.get? x=au):H x=au:=by
 cases e0:H x with
 |none=>rfl
 |some o =>
  have lt:=(hok x o e0)
  obtain⟨o',ho'⟩:∃o',B.get? x=aj o':=by
   cases o with
   |lst xs=>obtain⟨_,_,_,_,e⟩:=lt;exact⟨_,e⟩
   |tup xs=>obtain⟨_,_,_,o,e,_⟩:=lt;exact⟨_,e⟩
   |dK kvs=>obtain⟨_,_,_,_,o,_,_,e,_⟩:=lt;exact⟨_,e⟩
   |dT kvs=>obtain⟨_,_,_,_,o,_,_,e,_⟩:=lt;exact⟨_,e⟩
   |set S n=>obtain⟨o,_,_,_,e,_⟩:=lt;exact⟨_,e⟩
   |ins C dx fs=>obtain⟨_,_,_,e,_⟩:=lt;exact⟨_,e⟩
   |own y=>obtain⟨_,e⟩:=lt;exact⟨_,e⟩
   |xd fs=>obtain⟨_,⟨_,_,_,e,_⟩,_⟩:=lt;exact⟨_,e⟩
   |rng lo hi=>obtain⟨_,_,_,e⟩:=lt;exact⟨_,e⟩
   |jD ob u=>obtain⟨e,_⟩:=lt;exact⟨_,e⟩
   |tbl ps=>exact⟨_,(show B.get? x=aj _ from lt)⟩
   |met f y=>exact⟨_,(show B.get? x=aj _ from lt)⟩
   |ext φ=>obtain⟨_,⟨_,e⟩,_⟩:=lt;exact⟨_,e⟩
  rw[n]at ho';cases ho'
private theorem aMB
  (hcm:X.calm=ak)(hN:X.N.Nodup)(hi:X.N[i]?=aj n)(hl:X.env.kindOf n=aj .local)(hst:X.stack=X.env::X.outer)(hfn:X.env.frame=aj X.env.locals)
  (hg:Gl X cx)(hm:X.mg cx=aj (.ref Dc))(hc:(wg X.K Dc).isSome=ak)(ht:a0t X.K (.ref Dc)=aj (.type "type"))(hbx:um X.K (.ref Dc) (.type "BaseException")=aj ak)
  (hb:∀pn EX,a8I (azK X pn EX) body (tb EX))(hh:∀x,a8I (aqO X x) (b₀::suite) th)(hd:(cx==("__debug__":Str))=ao:=by decide) :
  PS3 X (.Try body [.ExceptHandler (aj (.Name cx cp)) (aj n) (b₀::suite) hpos] [] [] pos) (ahN X.K Dc i tb th):=by
 intro pins s σ H F I h;obtain⟨ρ,G,E3,sr,g,q,d⟩:=h;refine wpAny_Try_except (qy (hb pins _ [] s σ H F (azL I _) ⟨ρ,G,E3,sr,g,q,d⟩) (λf s1 q1=>?_) λe s1 q1=>?_)
 .have q2:=atQ q1;cases f with
  |next=>exact wpAny_execs_nil q2
  |brk=>exact q2
  |cont=>exact q2
  |ret u=>exact q2
 .obtain⟨a4R,σ1,H1,s0,ρ1,I1,sr1,x,C,H',B,rfl,fl,hok,cov,alG,un,os,bare,c,G',e2,g',hsub,hth⟩:=q1;cases e2;have J1:Inv X pins σ1 H1 s0:=w6 I1;have hn:X.A.handled=au:=I.ok.hd hcm;have hfr:X.A.frames=aj (X.env::X.outer):=by rw[←hst];exact I.ok.frames
  have fl':Fly B (X.env::X.outer) x (.ref C) s1.heap:=by rw[←hst];exact fl
  refine an9 (B:=B) hfr hfn fl' λh4 aMC sm4=>?_;refine a90 aMC λh5 fl5 sm5=>?_;have hxB:B.get? x=au:=fl.new;have nxH:H' x=au:=ahO hok hxB
  have track:∀(h6:jm)(oe:Obj)(ws:Array aq),Fly B (X.env::X.outer) x (.ref C) h6->s1.heap.UpToSlots h6->h6.get? x=aj oe->oe.cls=.ref C->oe.data=.fields ws ->
    Inv X pins σ1 (upd H' x (.jD oe (.ext (a2N C x)))) {s1 with heap:=h6}/\Ts H1 (upd H' x (.jD oe (.ext (a2N C x)))):=by
   intro h6 oe ws fl6 sm aqP atR adM;have un6:=aFY (P:=X.prog) (w:=X.w) fl cov alG un fl6.stays sm
   have nx0:s0.heap.get? x=au:=by
    cases e0:s0.heap.get? x with
    |none=>rfl
    |some o =>
     by_cases hx:x∈frs X.stack
     .obtain⟨_,o',ho',hd'⟩:=fl6.aE8.mem (by rw[←hst];exact hx);rw[aqP]at ho';cases ho';exact absurd adM (hd' ws)
     .obtain⟨o',ho'⟩:=alG x o e0 hx;rw[hxB]at ho';cases ho'
   have sn:Same H' (upd H' x (.jD oe (.ext (a2N C x)))):=bO nxH;have nst:∀b o,s0.heap.get? b=aj o->b≠x:=λb o e z=>by subst z;rw[nx0]at e;cases e
   have un7:Un (frs X.stack) [] H1 (upd H' x (.jD oe (.ext (a2N C x)))) s0.heap h6:=⟨un6.keep,un6.slot,λb o e n hx=>by rw[bA (nst b o e)];exact un6.free b o e n hx,un6.there,λb xs z=>sn _ _ (un6.tups b xs z),λb o u z=>sn _ _ (un6.mQ b o u z),λb ps z=>by
    obtain⟨m,e⟩:=un6.zJ b ps z;exact⟨m,sn _ _ e⟩⟩
   have aQU:HOk X.prog X.w (upd H' x (.jD oe (.ext (a2N C x)))) h6:=λb o e=>by
    by_cases hb:b=x
    .subst hb;rw[aM]at e;cases e;refine⟨aqP,⟨oe,ws,aqP,atR,adM⟩,⟨oe,aqP⟩,λh1 h2 ⟨o1,w1,e1,e2,e3⟩ k=>⟨o1,w1,k _ e1,e2,e3⟩⟩
    .rw[bA hb]at e;exact((hok.kept fl6.stays) b o e).stay (λ_ _ _ z=>z) (λc z=>sn _ _ z) λc xs z=>sn _ _ z
   exact⟨J1.call' (ch:=[]) (s':={s1 with heap:=h6}) os un7 aQU bare (λb z=>absurd z (by simp)),un7.tups,un7.mQ⟩
  obtain⟨oe,ws5,hoe,hoec,hoed,aQV⟩:=fl5.fld;obtain⟨J5,_⟩:=track h5 oe ws5 fl5 (sm4.trans sm5) hoe hoec hoed;refine wpAny_handleBy_cons (codeAny_handlers_test ?_) (by intro q;cases q);refine rD (X:=aqO X x) (anN J5 x (.inr ⟨x,oe,_,ws5,rfl,aM,hoed,aQV⟩)) hg hm ?_ hd;refine aQR (K:=X.K) J5.kIn hoe hoec hc ht hbx hsub ?_;refine codeAny_handlers_suite_as ?_;refine a90 fl5 λh6 fl6 sm6=>?_;obtain⟨oe6,ws,aqP,atR,adM,aD6⟩:=fl6.fld;obtain⟨J7,tt⟩:=track h6 oe6 ws fl6 ((sm4.trans sm5).trans sm6) aqP atR adM;have gx:G' x=au:=jE (K:=X.K) g' nxH (qX (X:=X) J7);refine a9G (X:=aqO X x) (anN J7 x (.inr ⟨x,oe6,_,ws,rfl,aM,adM,aD6⟩)) hN hi (.inl hl) (v:=.ref x) (u:=.ref x) rfl (λs8 J8=>?_) (.inr hl);have q8:=hth x gx
  refine qy (hh x pins s8 _ _ {nx:=λσ2 H2=>F.nx (a6I σ2 i) H2,rt:=F.rt,bk:=λσ2 H2=>F.bk (a6I σ2 i) H2,ct:=λσ2 H2=>F.ct (a6I σ2 i) H2} J8
   ⟨a1Y ρ1 i (.ref x),aH G' x (.exn C),_,(sr1.mono tt).set (.ref x) i,g'.put (u:=.exn C) nxH ⟨oe6,ws,aM,adM,aD6⟩,q8,⟨λρ2 G2 σ2 H2 s2 g2 z=>d.nx _ G2 _ H2 (s2.clr i) g2 z,d.rt,λρ2 G2 σ2 H2 s2 g2 z=>d.bk _ G2 _ H2 (s2.clr i) g2 z,λρ2 G2 σ2 H2 s2 g2 z=>d.ct _ G2 _ H2 (s2.clr i) g2 z⟩⟩) (λf s9 q9=>?_) λ_ _ z=>z.elim
  cases f with
  |next=>obtain⟨σ2,H2,I2,z⟩:=q9;exact a94 (a1H J7.ok hn I2) hN hi hl λs10 I10=>⟨_,H2,I10,z⟩
  |brk=>obtain⟨σ2,H2,I2,z⟩:=q9;exact a94 (a1H J7.ok hn I2) hN hi hl λs10 I10=>⟨_,H2,I10,z⟩
  |cont=>obtain⟨σ2,H2,I2,z⟩:=q9;exact a94 (a1H J7.ok hn I2) hN hi hl λs10 I10=>⟨_,H2,I10,z⟩
  |ret u=>obtain⟨v,σ2,H2,I2,r2,z⟩:=q9;exact a94 (a1H J7.ok hn I2) hN hi hl λs10 I10=>⟨v,_,H2,I10,r2,z⟩
end
end
section
section
variable{X:Cx}{a b:jq}{pos:Pos}
abbrev ahP(t:cJ):cJ:=λρ G R=>t ρ G λx G1=>match x with
 |.int i=>R (.int (-i)) G1
 |_=>False
def aMD(ha:cO X a ta):cO X (.UnaryOp .USub a pos) (ahP ta):=PE.imp (aKX aF2 ha) λσ H Q h=>by
 obtain⟨ρ,G,R,s,g,t,k⟩:=h;refine⟨ρ,G,_,s,g,t,λv H1 x G1 t1 r g1 q=>?_⟩;cases r with
 |int i=>exact⟨i,rfl,k _ H1 _ G1 t1 (.int _) g1 q⟩
 |_=>exact False.elim q
abbrev aV:Nat->D->Bool
 |0,.tup _=>ao
 |n+1,.tup xs=>xs.all (aV n)
 |_,.ref _=>ao
 |_,.ty _=>ao
 |_,_=>ak
mutual
noncomputable def eqP:D->D->Bool
 |.non,.non=>ak
 |.bl a,.bl b=>a==b
 |.bl a,.int b=>(if a then 1 else 0)==b
 |.int a,.bl b=>a==(if b then 1 else 0)
 |.int a,.int b=>a==b
 |.str a,.str b=>a==b
 |.tup xs,.tup ys=>sS xs ys
 |_,_=>ao
noncomputable def sS:List D->List D->Bool
 |[],[]=>ak
 |x::xs,y::ys=>eqP x y&&sS xs ys
 |_,_=>ao
end
abbrev xP(xs ys:List D)(j:Nat):Bool:=match xs[j]?,ys[j]? with
 |some a,aj b=>eqP a b
 |_,_=>ao
def zU(n:Nat)(e:Nat->Bool):(kj (n+1)).all e=(e 0&&(kj n).all λj=>e (j+1)):=by
 rw[List.range_succ_eq_map,zj,List.all_map];rfl
def nW:∀(xs ys:List D),sS xs ys=((kj (min xs.length ys.length)).all (xP xs ys)&&xs.length==ys.length)
 |[],[]=>rfl
 |[],y::ys=>by simp[sS]
 |x::xs,[]=>by simp[sS]
 |x::xs,y::ys=>by
  have ih:=nW xs ys;have e:min (x::xs).length (y::ys).length=min xs.length ys.length+1:=by simp only[qb];omega
  rw[sS,ih,e,zU];have e0:xP (x::xs) (y::ys) 0=eqP x y:=rfl
  have e1:(λj=>xP (x::xs) (y::ys) (j+1))=xP xs ys:=by
   funext j;simp[xP]
  have e2:((x::xs).length==(y::ys).length)=(xs.length==ys.length):=by
   simp only[qb];by_cases h:xs.length=ys.length
   .simp[h]
   .have h':¬ (xs.length+1=ys.length+1):=by omega
    simp[h,h']
  rw[e0,e1,e2,Bool.and_assoc]
def ahQ{xs ys:List D}(h:(xs.length !=ys.length)=ak):sS xs ys=ao:=by
 rw[nW];have:(xs.length==ys.length)=ao:=by simpa using h
 rw[this,Bool.and_false]
def adN{xs ys:List D}(h:xs.length=ys.length):sS xs ys=(kj xs.length).all (xP xs ys):=by
 rw[nW,h];simp
def dB.aME{K:Fg}(ih:∀{x y:D}{v:V},aV n x=ak->aV n y=ak->RD K H x v->RD K H y v->x=y):∀{xs ys:List D},(∀x∈xs,aV n x=ak)->(∀y∈ys,aV n y=ak)->dB K H xs vs->dB K H ys vs->xs=ys:=by
 induction vs with
 |nil=>intro xs ys _ _ h1 h2;cases h1;cases h2;rfl
 |cons v vs jh =>
  intro xs ys hx hy h1 h2;cases h1 with
  |cons a r =>
  cases h2 with
  |cons b t=>rw[ih (hx _ (wu ..)) (hy _ (wu ..)) a b,jh (λx m=>hx x (ou _ m)) (λy m=>hy y (ou _ m)) r t]
def RD.inj(I:Inv X pins σ H s):∀{x y:D}{v:V},aV n x=ak->aV n y=ak->RD X.K H x v->RD X.K H y v->x=y:=by
 induction n with
 |zero=>intro x y v hx hy h1 h2;cases h1<;>cases h2<;>first|rfl|cases hx|cases hy
 |succ n ih =>
  intro x y v hx hy h1 h2;cases h1 with
  |tup s1 r1 _ =>
   cases h2 with
   |tup s2 r2 _ =>
    have e:=I.a1E s1 s2;subst e;rw[dB.aME ih (by simpa[aV]using hx) (by simpa[aV]using hy) r1 r2]
   |ref=>cases hy
  |ref=>cases hx
  |_=>cases h2;rfl
mutual
theorem sU:∀{n:Nat}{x:D},aV n x=ak->eqP x x=ak
 |_,.non,_=>rfl
 |_,.bl b,_=>by simp[eqP]
 |_,.int b,_=>by simp[eqP]
 |_,.str b,_=>by simp[eqP]
 |n,.ref _,h=>by cases n<;>simp[aV]at h
 |n,.ty _,h=>by cases n<;>simp[aV]at h
 |0,.tup _,h=>by simp[aV]at h
 |n+1,.tup xs,h=>by rw[eqP];exact adO (n:=n) (by simpa[aV]using h)
theorem adO:∀{n:Nat}{xs:List D},(∀x∈xs,aV n x=ak)->sS xs xs=ak
 |_,[],_=>rfl
 |n,x::xs,h=>by rw[sS,sU (h x (by simp)),adO λy m=>h y (by simp[m])];rfl
end
def Vals.ahR{K:Fg}(r:dB K H ds xs)(v:Vals xs us){j:Nat}(e:us[j]?=aj u):∃d x,ds[j]?=aj d/\RD K H d x/\RelV x u:=by
 have hj:j<us.length:=(jk.mp e).1;have hj':j<xs.length:=by rw[v.length];exact hj
 have ex:xs[j]?=aj xs[j]:=gV hj';obtain⟨u',e1,r1⟩:=v.get ex;rw[e]at e1;cases e1;obtain⟨d,e2,r2⟩:=r.aqI ex;exact⟨d,_,e2,r2,r1⟩
def zV{K:Fg}{n:Nat}{us ws:List aq}(rx:dB K H xs vx)(ry:dB K H ys vy)(vx':Vals vx us)(vy':Vals vy ws)
  (ih:∀x∈xs,∀y∈ys,∀(v w:V)(u t:aq),RD K H x v->RD K H y w->RelV v u->RelV w t->SeqAt.EqAt A s u t (eqP x y)) :
  ∀j (h1:j<us.toArray.size) (h2:j<ws.toArray.size),SeqAt.EqAt A s us.toArray[j] ws.toArray[j] (xP xs ys j):=by
 intro j h1 h2;have e1:us[j]?=aj us.toArray[j]:=by simp[gV (show j<us.length by simpa using h1)]
 have e2:ws[j]?=aj ws.toArray[j]:=by simp[gV (show j<ws.length by simpa using h2)]
 obtain⟨d,x,f1,f2,f3⟩:=Vals.ahR rx vx' e1;obtain⟨d',y,g1,g2,g3⟩:=Vals.ahR ry vy' e2;have e:xP xs ys j=eqP d d':=by simp[xP,f1,g1]
 rw[e];exact ih d (jz f1) d' (jz g1) x y _ _ f2 g2 f3 g3
abbrev scD:D->Bool
 |.non=>ak
 |.bl _=>ak
 |.int _=>ak
 |.str _=>ak
 |_=>ao
def azM{K:Fg}{x:D}{v:aq}(hx:scD x=ak)(hy:scD y=ak)(rx:RD K H x vx)(ry:RD K H y vy)(ru:RelV vx u)(rv:RelV vy v):SeqAt.EqAt A s u v (eqP x y):=by
 have fx:yO vx=ak:=by cases rx<;>first|rfl|cases hx
 have fy:yO vy=ak:=by cases ry<;>first|rfl|cases hy
 have e:eqV vx vy=eqP x y:=by cases rx<;>cases ry<;>first|(simp[eqV,eqP];done)|cases hx|cases hy
 rw[←e];exact a6H ru rv fx fy
def zW(h:A.units+(n+1)<jr):A.in1.units+n<jr:=by
 show A.units+1+n<jr;omega
def a3Q(I:Inv X pins σ H s):∀(n:Nat)(A:jx)(x y:D)(vx vy:V)(u v:aq),A.units+n<jr->aV n x=ak->aV n y=ak->RD X.K H x vx->RD X.K H y vy->RelV vx u->RelV vy v->SeqAt.EqAt A s u v (eqP x y):=by
 intro n
 induction n with
 |zero =>
  intro A x y vx vy u v hu hx hy rx ry ru rv;have sx:scD x=ak:=by cases x<;>first|rfl|(simp[aV]at hx)
  have sy:scD y=ak:=by cases y<;>first|rfl|(simp[aV]at hy)
  exact azM sx sy rx ry ru rv
 |succ n ih =>
  intro A x y vx vy u v hu hx hy rx ry ru rv;have hu0:A.units<jr:=by omega
  cases rx with
  |@tup ax xs ds hax rax eax =>
   cases ru;obtain⟨its,vv,px,_⟩:=I.tuple hax;cases ry with
   |@tup ay ys es hay ray eay =>
    cases rv;obtain⟨jts,ww,py,_⟩:=I.tuple hay;by_cases hab:ax=ay
    .subst hab;have e:=RD.inj I (n:=n+1) hx hy (.tup hax rax eax) (.tup hay ray eay);rw[e,sU hy];exact SeqAt.EqAt.same _
    .refine SeqAt.EqAt.of_refs hab ?_
     have z:=SeqAt.RcAt.tuples (e:=xP ds es) (show s.heap.IsTuple ax its.toArray from px) (show s.heap.IsTuple ay jts.toArray from py) hu0 (zV (n:=n) rax ray vv ww λx mx y my v w u t r1 r2 r3 r4 =>
      ih A.in1 x y v w u t (zW hu) (jy.mp (by simpa[aV]using hx) x mx) (jy.mp (by simpa[aV]using hy) y my) r1 r2 r3 r4)
     have e:((kj (min its.toArray.size jts.toArray.size)).all (xP ds es)&&its.toArray.size==jts.toArray.size)=eqP (.tup ds) (.tup es):=by
      rw[eqP,nW,fj,fj,←vv.length,←ww.length,←rax.length,←ray.length]
     rw[e]at z;exact z
   |non=>cases rv;exact SeqAt.EqAt.tuple_none (show s.heap.IsTuple ax its.toArray from px) hu0
   |bl b=>cases rv;exact SeqAt.EqAt.tuple_bool b (show s.heap.IsTuple ax its.toArray from px) hu0
   |int i=>obtain⟨t,rfl⟩:=rv;exact SeqAt.EqAt.tuple_int i t (show s.heap.IsTuple ax its.toArray from px) hu0
   |str z=>obtain⟨t,rfl⟩:=rv;exact SeqAt.EqAt.tuple_str z t (show s.heap.IsTuple ax its.toArray from px) hu0
   |ref _=>simp[aV]at hy
   |ty _=>simp[aV]at hy
  |ref _=>simp[aV]at hx
  |ty _=>simp[aV]at hx
  |non =>
   cases ry with
   |@tup ay ys es hay ray =>
    cases rv;cases ru;obtain⟨jts,ww,py,_⟩:=I.tuple hay;exact SeqAt.EqAt.none_tuple (show s.heap.IsTuple ay jts.toArray from py) hu0
   |ref _=>simp[aV]at hy
   |ty _=>simp[aV]at hy
   |_=>exact a6H ru rv rfl rfl
  |bl b =>
   cases ry with
   |@tup ay ys es hay ray =>
    cases rv;cases ru;obtain⟨jts,ww,py,_⟩:=I.tuple hay;exact SeqAt.EqAt.bool_tuple b (show s.heap.IsTuple ay jts.toArray from py) hu0
   |ref _=>simp[aV]at hy
   |ty _=>simp[aV]at hy
   |_=>exact a6H ru rv rfl rfl
  |int i =>
   cases ry with
   |@tup ay ys es hay ray =>
    cases rv;obtain⟨t,rfl⟩:=ru;obtain⟨jts,ww,py,_⟩:=I.tuple hay;exact SeqAt.EqAt.int_tuple i t (show s.heap.IsTuple ay jts.toArray from py) hu0
   |ref _=>simp[aV]at hy
   |ty _=>simp[aV]at hy
   |_=>exact a6H ru rv rfl rfl
  |str z =>
   cases ry with
   |@tup ay ys es hay ray =>
    cases rv;obtain⟨t,rfl⟩:=ru;obtain⟨jts,ww,py,_⟩:=I.tuple hay;exact SeqAt.EqAt.str_tuple z t (show s.heap.IsTuple ay jts.toArray from py) hu0
   |ref _=>simp[aV]at hy
   |ty _=>simp[aV]at hy
   |_=>exact a6H ru rv rfl rfl
end
end
variable{a1:bw}
section
section
variable{X:Cx}
def aR0(I:Inv X pins σ H s)(n:Nat)(A:jx)(x y:D)(vx vy:V)(u v:aq)(hu:A.units+(n+1)<jr)(hx:aV (n+1) x=ak)(hy:aV (n+1) y=ak)(rx:RD X.K H x vx)(ry:RD X.K H y vy)(ru:RelV vx u)(rv:RelV vy v):SeqAt.RcAt A s u v (eqP x y):=by
 have hu0:A.units<jr:=by omega
 cases rx with
 |non =>
  cases ru;cases ry with
  |non =>
   cases rv
   first|exact SeqAt.RcAt.none_none|(simp only[eqP];exact SeqAt.RcAt.none_none)
  |bl b2 =>
   cases rv
   first|exact SeqAt.RcAt.none_bool b2|(simp only[eqP];exact SeqAt.RcAt.none_bool b2)
  |int i2 =>
   obtain⟨t2,rfl⟩:=rv
   first|exact SeqAt.RcAt.none_int i2 t2|(simp only[eqP];exact SeqAt.RcAt.none_int i2 t2)
  |str z2 =>
   obtain⟨t2,rfl⟩:=rv
   first|exact SeqAt.RcAt.none_str z2 t2|(simp only[eqP];exact SeqAt.RcAt.none_str z2 t2)
  |@tup a2 xs2 vH h2 r2 =>
   cases rv;obtain⟨its2,vv2,p2,_⟩:=I.tuple h2
   first|exact SeqAt.RcAt.none_tuple (show s.heap.IsTuple a2 its2.toArray from p2) hu0|(simp only[eqP];exact SeqAt.RcAt.none_tuple (show s.heap.IsTuple a2 its2.toArray from p2) hu0)
  |ref _=>simp[aV]at hy
  |ty _=>simp[aV]at hy
 |bl b1 =>
  cases ru;cases ry with
  |non =>
   cases rv
   first|exact SeqAt.RcAt.bool_none b1|(simp only[eqP];exact SeqAt.RcAt.bool_none b1)
  |bl b2 =>
   cases rv
   first|exact SeqAt.RcAt.bool_bool b1 b2|(simp only[eqP];exact SeqAt.RcAt.bool_bool b1 b2)
  |int i2 =>
   obtain⟨t2,rfl⟩:=rv
   first|exact SeqAt.RcAt.bool_int b1 i2 t2|(simp only[eqP];exact SeqAt.RcAt.bool_int b1 i2 t2)
  |str z2 =>
   obtain⟨t2,rfl⟩:=rv
   first|exact SeqAt.RcAt.bool_str b1 z2 t2|(simp only[eqP];exact SeqAt.RcAt.bool_str b1 z2 t2)
  |@tup a2 xs2 vH h2 r2 =>
   cases rv;obtain⟨its2,vv2,p2,_⟩:=I.tuple h2
   first|exact SeqAt.RcAt.bool_tuple b1 (show s.heap.IsTuple a2 its2.toArray from p2) hu0|(simp only[eqP];exact SeqAt.RcAt.bool_tuple b1 (show s.heap.IsTuple a2 its2.toArray from p2) hu0)
  |ref _=>simp[aV]at hy
  |ty _=>simp[aV]at hy
 |int i1 =>
  obtain⟨t1,rfl⟩:=ru;cases ry with
  |non =>
   cases rv
   first|exact SeqAt.RcAt.int_none i1 t1|(simp only[eqP];exact SeqAt.RcAt.int_none i1 t1)
  |bl b2 =>
   cases rv
   first|exact SeqAt.RcAt.int_bool i1 t1 b2|(simp only[eqP];exact SeqAt.RcAt.int_bool i1 t1 b2)
  |int i2 =>
   obtain⟨t2,rfl⟩:=rv
   first|exact SeqAt.RcAt.int_int i1 t1 i2 t2|(simp only[eqP];exact SeqAt.RcAt.int_int i1 t1 i2 t2)
  |str z2 =>
   obtain⟨t2,rfl⟩:=rv
   first|exact SeqAt.RcAt.int_str i1 t1 z2 t2|(simp only[eqP];exact SeqAt.RcAt.int_str i1 t1 z2 t2)
  |@tup a2 xs2 vH h2 r2 =>
   cases rv;obtain⟨its2,vv2,p2,_⟩:=I.tuple h2
   first|exact SeqAt.RcAt.int_tuple i1 t1 (show s.heap.IsTuple a2 its2.toArray from p2) hu0|(simp only[eqP];exact SeqAt.RcAt.int_tuple i1 t1 (show s.heap.IsTuple a2 its2.toArray from p2) hu0)
  |ref _=>simp[aV]at hy
  |ty _=>simp[aV]at hy
 |str z1 =>
  obtain⟨t1,rfl⟩:=ru;cases ry with
  |non =>
   cases rv
   first|exact SeqAt.RcAt.str_none z1 t1|(simp only[eqP];exact SeqAt.RcAt.str_none z1 t1)
  |bl b2 =>
   cases rv
   first|exact SeqAt.RcAt.str_bool z1 t1 b2|(simp only[eqP];exact SeqAt.RcAt.str_bool z1 t1 b2)
  |int i2 =>
   obtain⟨t2,rfl⟩:=rv
   first|exact SeqAt.RcAt.str_int z1 t1 i2 t2|(simp only[eqP];exact SeqAt.RcAt.str_int z1 t1 i2 t2)
  |str z2 =>
   obtain⟨t2,rfl⟩:=rv
   first|exact SeqAt.RcAt.str_str z1 t1 z2 t2|(simp only[eqP];exact SeqAt.RcAt.str_str z1 t1 z2 t2)
  |@tup a2 xs2 vH h2 r2 =>
   cases rv;obtain⟨its2,vv2,p2,_⟩:=I.tuple h2
   first|exact SeqAt.RcAt.str_tuple z1 t1 (show s.heap.IsTuple a2 its2.toArray from p2) hu0|(simp only[eqP];exact SeqAt.RcAt.str_tuple z1 t1 (show s.heap.IsTuple a2 its2.toArray from p2) hu0)
  |ref _=>simp[aV]at hy
  |ty _=>simp[aV]at hy
 |@tup a1 xs1 ds1 h1 r1 =>
  cases ru;obtain⟨iD,vv1,p1,_⟩:=I.tuple h1;cases ry with
  |non =>
   cases rv
   first|exact SeqAt.RcAt.tuple_none (show s.heap.IsTuple a1 iD.toArray from p1) hu0|(simp only[eqP];exact SeqAt.RcAt.tuple_none (show s.heap.IsTuple a1 iD.toArray from p1) hu0)
  |bl b2 =>
   cases rv
   first|exact SeqAt.RcAt.tuple_bool b2 (show s.heap.IsTuple a1 iD.toArray from p1) hu0|(simp only[eqP];exact SeqAt.RcAt.tuple_bool b2 (show s.heap.IsTuple a1 iD.toArray from p1) hu0)
  |int i2 =>
   obtain⟨t2,rfl⟩:=rv
   first|exact SeqAt.RcAt.tuple_int i2 t2 (show s.heap.IsTuple a1 iD.toArray from p1) hu0|(simp only[eqP];exact SeqAt.RcAt.tuple_int i2 t2 (show s.heap.IsTuple a1 iD.toArray from p1) hu0)
  |str z2 =>
   obtain⟨t2,rfl⟩:=rv
   first|exact SeqAt.RcAt.tuple_str z2 t2 (show s.heap.IsTuple a1 iD.toArray from p1) hu0|(simp only[eqP];exact SeqAt.RcAt.tuple_str z2 t2 (show s.heap.IsTuple a1 iD.toArray from p1) hu0)
  |@tup a2 xs2 vH h2 r2 =>
   cases rv;obtain⟨its2,vv2,p2,_⟩:=I.tuple h2
   have z:=SeqAt.RcAt.tuples (e:=xP ds1 vH) (show s.heap.IsTuple a1 iD.toArray from p1) (show s.heap.IsTuple a2 its2.toArray from p2) hu0 (zV (n:=n) r1 r2 vv1 vv2 λx mx y my v w u t q1 q2 q3 q4 =>
      a3Q I n A.in1 x y v w u t (zW hu) (jy.mp (by simpa[aV]using hx) x mx) (jy.mp (by simpa[aV]using hy) y my) q1 q2 q3 q4)
   have e:((kj (min iD.toArray.size its2.toArray.size)).all (xP ds1 vH)&&iD.toArray.size==its2.toArray.size)=eqP (.tup ds1) (.tup vH):=by
    rw[eqP,nW,fj,fj,←vv1.length,←vv2.length,←r1.length,←r2.length]
   rw[e]at z;exact z
  |ref _=>simp[aV]at hy
  |ty _=>simp[aV]at hy
 |ref _=>simp[aV]at hx
 |ty _=>simp[aV]at hx
def aR1(I:Inv X pins σ H s)(n:Nat)(A:jx)(hl:SqL X.K H a1 xs)(y:D)(vy:V)(v:aq)(hu0:A.units<jr)(hy:aV n y=ak)(ry:RD X.K H y vy)(rv:RelV vy v):SeqAt.RcAt A s (.ref a1) v ao:=by
 obtain⟨iD,vv1,pl,_⟩:=I.list hl;have p1:=pl.isList;cases ry with
 |non =>
  cases rv;exact SeqAt.RcAt.list_none p1 hu0
 |bl b2 =>
  cases rv;exact SeqAt.RcAt.list_bool b2 p1 hu0
 |int i2 =>
  obtain⟨t2,rfl⟩:=rv;exact SeqAt.RcAt.list_int i2 t2 p1 hu0
 |str z2 =>
  obtain⟨t2,rfl⟩:=rv;exact SeqAt.RcAt.list_str z2 t2 p1 hu0
 |@tup a2 xs2 vH h2 r2 =>
  cases rv;obtain⟨its2,vv2,p2,_⟩:=I.tuple h2;exact SeqAt.RcAt.list_tuple (show s.heap.IsList a1 iD.toArray from p1) (show s.heap.IsTuple a2 its2.toArray from p2) hu0
 |ref _=>cases n<;>simp[aV]at hy
 |ty _=>cases n<;>simp[aV]at hy
def aR2(I:Inv X pins σ H s)(n:Nat)(A:jx)(hl:SqL X.K H a2 xs)(y:D)(vy:V)(v:aq)(hu0:A.units<jr)(hy:aV n y=ak)(ry:RD X.K H y vy)(rv:RelV vy v):SeqAt.RcAt A s v (.ref a2) ao:=by
 obtain⟨its2,vv2,pl,_⟩:=I.list hl;have p2:=pl.isList;cases ry with
 |non =>
  cases rv;exact SeqAt.RcAt.none_list p2 hu0
 |bl b1 =>
  cases rv;exact SeqAt.RcAt.bool_list b1 p2 hu0
 |int i1 =>
  obtain⟨t1,rfl⟩:=rv;exact SeqAt.RcAt.int_list i1 t1 p2 hu0
 |str z1 =>
  obtain⟨t1,rfl⟩:=rv;exact SeqAt.RcAt.str_list z1 t1 p2 hu0
 |@tup a1 xs1 ds1 h1 r1 =>
  cases rv;obtain⟨iD,vv1,p1,_⟩:=I.tuple h1;exact SeqAt.RcAt.tuple_list (show s.heap.IsTuple a1 iD.toArray from p1) (show s.heap.IsList a2 its2.toArray from p2) hu0
 |ref _=>cases n<;>simp[aV]at hy
 |ty _=>cases n<;>simp[aV]at hy
def aR3(I:Inv X pins σ H s)(n:Nat)(A:jx){ds1 vH:List D}(h1:SqL X.K H a1 xs1)(h2:SqL X.K H a2 xs2)(r1:dB X.K H ds1 xs1)(r2:dB X.K H vH xs2)
  (hu:A.units+(n+1)<jr)(hx:ds1.all (aV n)=ak)(hy:vH.all (aV n)=ak):SeqAt.RcAt A s (.ref a1) (.ref a2) (sS ds1 vH):=by
 have hu0:A.units<jr:=by omega
 obtain⟨iD,vv1,q1,_⟩:=I.list h1;obtain⟨its2,vv2,q2,_⟩:=I.list h2;have p1:=q1.isList;have p2:=q2.isList;by_cases hl:ds1.length=vH.length
 .have hsz:iD.toArray.size=its2.toArray.size:=by rw[fj,fj,←vv1.length,←vv2.length,←r1.length,←r2.length];exact hl
  have z:=SeqAt.RcAt.lists (e:=xP ds1 vH) p1 p2 hsz hu0 (zV (n:=n) r1 r2 vv1 vv2 λx mx y my v w u t q1 q2 q3 q4 =>
      a3Q I n A.in1 x y v w u t (zW hu) (jy.mp hx x mx) (jy.mp hy y my) q1 q2 q3 q4)
  have e:(kj iD.toArray.size).all (xP ds1 vH)=sS ds1 vH:=by rw[adN hl,fj,←vv1.length,←r1.length]
  rw[e]at z;exact z
 .have hne:(iD.toArray.size !=its2.toArray.size)=ak:=by rw[fj,fj,←vv1.length,←vv2.length,←r1.length,←r2.length];simpa using hl
  have e:sS ds1 vH=ao:=ahQ (by simpa using hl);rw[e];exact SeqAt.RcAt.lists_lengths p1 p2 hne hu0
def aG1(I:Inv X pins σ H s)(n:Nat)(A:jx)(x y:D)(vx vy:V)(u v:aq)(hu:A.units+(n+1)<jr)(hx:aV (n+1) x=ak)(hy:aV (n+1) y=ak)(rx:RD X.K H x vx)(ry:RD X.K H y vy)(ru:RelV vx u)(rv:RelV vy v):SeqAt.RcNeAt A s u v (!eqP x y):=by
 have hu0:A.units<jr:=by omega
 cases rx with
 |non =>
  cases ru;cases ry with
  |non =>
   cases rv
   first|exact SeqAt.RcNeAt.none_none|(simp only[eqP];exact SeqAt.RcNeAt.none_none)
  |bl b2 =>
   cases rv
   first|exact SeqAt.RcNeAt.none_bool b2|(simp only[eqP];exact SeqAt.RcNeAt.none_bool b2)
  |int i2 =>
   obtain⟨t2,rfl⟩:=rv
   first|exact SeqAt.RcNeAt.none_int i2 t2|(simp only[eqP];exact SeqAt.RcNeAt.none_int i2 t2)
  |str z2 =>
   obtain⟨t2,rfl⟩:=rv
   first|exact SeqAt.RcNeAt.none_str z2 t2|(simp only[eqP];exact SeqAt.RcNeAt.none_str z2 t2)
  |@tup a2 xs2 vH h2 r2 =>
   cases rv;obtain⟨its2,vv2,p2,_⟩:=I.tuple h2
   first|exact SeqAt.RcNeAt.none_tuple (show s.heap.IsTuple a2 its2.toArray from p2) hu0|(simp only[eqP];exact SeqAt.RcNeAt.none_tuple (show s.heap.IsTuple a2 its2.toArray from p2) hu0)
  |ref _=>simp[aV]at hy
  |ty _=>simp[aV]at hy
 |bl b1 =>
  cases ru;cases ry with
  |non =>
   cases rv
   first|exact SeqAt.RcNeAt.bool_none b1|(simp only[eqP];exact SeqAt.RcNeAt.bool_none b1)
  |bl b2 =>
   cases rv
   first|exact SeqAt.RcNeAt.bool_bool b1 b2|(simp only[eqP];exact SeqAt.RcNeAt.bool_bool b1 b2)
  |int i2 =>
   obtain⟨t2,rfl⟩:=rv
   first|exact SeqAt.RcNeAt.bool_int b1 i2 t2|(simp only[eqP];exact SeqAt.RcNeAt.bool_int b1 i2 t2)
  |str z2 =>
   obtain⟨t2,rfl⟩:=rv
   first|exact SeqAt.RcNeAt.bool_str b1 z2 t2|(simp only[eqP];exact SeqAt.RcNeAt.bool_str b1 z2 t2)
  |@tup a2 xs2 vH h2 r2 =>
   cases rv;obtain⟨its2,vv2,p2,_⟩:=I.tuple h2
   first|exact SeqAt.RcNeAt.bool_tuple b1 (show s.heap.IsTuple a2 its2.toArray from p2) hu0|(simp only[eqP];exact SeqAt.RcNeAt.bool_tuple b1 (show s.heap.IsTuple a2 its2.toArray from p2) hu0)
  |ref _=>simp[aV]at hy
  |ty _=>simp[aV]at hy
 |int i1 =>
  obtain⟨t1,rfl⟩:=ru;cases ry with
  |non =>
   cases rv
   first|exact SeqAt.RcNeAt.int_none i1 t1|(simp only[eqP];exact SeqAt.RcNeAt.int_none i1 t1)
  |bl b2 =>
   cases rv
   first|exact SeqAt.RcNeAt.int_bool i1 t1 b2|(simp only[eqP];exact SeqAt.RcNeAt.int_bool i1 t1 b2)
  |int i2 =>
   obtain⟨t2,rfl⟩:=rv
   first|exact SeqAt.RcNeAt.int_int i1 t1 i2 t2|(simp only[eqP];exact SeqAt.RcNeAt.int_int i1 t1 i2 t2)
  |str z2 =>
   obtain⟨t2,rfl⟩:=rv
   first|exact SeqAt.RcNeAt.int_str i1 t1 z2 t2|(simp only[eqP];exact SeqAt.RcNeAt.int_str i1 t1 z2 t2)
  |@tup a2 xs2 vH h2 r2 =>
   cases rv;obtain⟨its2,vv2,p2,_⟩:=I.tuple h2
   first|exact SeqAt.RcNeAt.int_tuple i1 t1 (show s.heap.IsTuple a2 its2.toArray from p2) hu0|(simp only[eqP];exact SeqAt.RcNeAt.int_tuple i1 t1 (show s.heap.IsTuple a2 its2.toArray from p2) hu0)
  |ref _=>simp[aV]at hy
  |ty _=>simp[aV]at hy
 |str z1 =>
  obtain⟨t1,rfl⟩:=ru;cases ry with
  |non =>
   cases rv
   first|exact SeqAt.RcNeAt.str_none z1 t1|(simp only[eqP];exact SeqAt.RcNeAt.str_none z1 t1)
  |bl b2 =>
   cases rv
   first|exact SeqAt.RcNeAt.str_bool z1 t1 b2|(simp only[eqP];exact SeqAt.RcNeAt.str_bool z1 t1 b2)
  |int i2 =>
   obtain⟨t2,rfl⟩:=rv
   first|exact SeqAt.RcNeAt.str_int z1 t1 i2 t2|(simp only[eqP];exact SeqAt.RcNeAt.str_int z1 t1 i2 t2)
  |str z2 =>
   obtain⟨t2,rfl⟩:=rv
   first|exact SeqAt.RcNeAt.str_str z1 t1 z2 t2|(simp only[eqP];exact SeqAt.RcNeAt.str_str z1 t1 z2 t2)
  |@tup a2 xs2 vH h2 r2 =>
   cases rv;obtain⟨its2,vv2,p2,_⟩:=I.tuple h2
   first|exact SeqAt.RcNeAt.str_tuple z1 t1 (show s.heap.IsTuple a2 its2.toArray from p2) hu0|(simp only[eqP];exact SeqAt.RcNeAt.str_tuple z1 t1 (show s.heap.IsTuple a2 its2.toArray from p2) hu0)
  |ref _=>simp[aV]at hy
  |ty _=>simp[aV]at hy
 |@tup a1 xs1 ds1 h1 r1 =>
  cases ru;obtain⟨iD,vv1,p1,_⟩:=I.tuple h1;cases ry with
  |non =>
   cases rv
   first|exact SeqAt.RcNeAt.tuple_none (show s.heap.IsTuple a1 iD.toArray from p1) hu0|(simp only[eqP];exact SeqAt.RcNeAt.tuple_none (show s.heap.IsTuple a1 iD.toArray from p1) hu0)
  |bl b2 =>
   cases rv
   first|exact SeqAt.RcNeAt.tuple_bool b2 (show s.heap.IsTuple a1 iD.toArray from p1) hu0|(simp only[eqP];exact SeqAt.RcNeAt.tuple_bool b2 (show s.heap.IsTuple a1 iD.toArray from p1) hu0)
  |int i2 =>
   obtain⟨t2,rfl⟩:=rv
   first|exact SeqAt.RcNeAt.tuple_int i2 t2 (show s.heap.IsTuple a1 iD.toArray from p1) hu0|(simp only[eqP];exact SeqAt.RcNeAt.tuple_int i2 t2 (show s.heap.IsTuple a1 iD.toArray from p1) hu0)
  |str z2 =>
   obtain⟨t2,rfl⟩:=rv
   first|exact SeqAt.RcNeAt.tuple_str z2 t2 (show s.heap.IsTuple a1 iD.toArray from p1) hu0|(simp only[eqP];exact SeqAt.RcNeAt.tuple_str z2 t2 (show s.heap.IsTuple a1 iD.toArray from p1) hu0)
  |@tup a2 xs2 vH h2 r2 =>
   cases rv;obtain⟨its2,vv2,p2,_⟩:=I.tuple h2
   have z:=SeqAt.RcNeAt.tuples (e:=xP ds1 vH) (show s.heap.IsTuple a1 iD.toArray from p1) (show s.heap.IsTuple a2 its2.toArray from p2) hu0 (zV (n:=n) r1 r2 vv1 vv2 λx mx y my v w u t q1 q2 q3 q4 =>
      a3Q I n A.in1 x y v w u t (zW hu) (jy.mp (by simpa[aV]using hx) x mx) (jy.mp (by simpa[aV]using hy) y my) q1 q2 q3 q4)
   have e:((kj (min iD.toArray.size its2.toArray.size)).all (xP ds1 vH)&&iD.toArray.size==its2.toArray.size)=eqP (.tup ds1) (.tup vH):=by
    rw[eqP,nW,fj,fj,←vv1.length,←vv2.length,←r1.length,←r2.length]
   rw[e]at z;exact z
  |ref _=>simp[aV]at hy
  |ty _=>simp[aV]at hy
 |ref _=>simp[aV]at hx
 |ty _=>simp[aV]at hx
def aG2(I:Inv X pins σ H s)(n:Nat)(A:jx)(hl:SqL X.K H a1 xs)(y:D)(vy:V)(v:aq)(hu0:A.units<jr)(hy:aV n y=ak)(ry:RD X.K H y vy)(rv:RelV vy v):SeqAt.RcNeAt A s (.ref a1) v ak:=by
 obtain⟨iD,vv1,pl,_⟩:=I.list hl;have p1:=pl.isList;cases ry with
 |non =>
  cases rv;exact SeqAt.RcNeAt.list_none p1 hu0
 |bl b2 =>
  cases rv;exact SeqAt.RcNeAt.list_bool b2 p1 hu0
 |int i2 =>
  obtain⟨t2,rfl⟩:=rv;exact SeqAt.RcNeAt.list_int i2 t2 p1 hu0
 |str z2 =>
  obtain⟨t2,rfl⟩:=rv;exact SeqAt.RcNeAt.list_str z2 t2 p1 hu0
 |@tup a2 xs2 vH h2 r2 =>
  cases rv;obtain⟨its2,vv2,p2,_⟩:=I.tuple h2;exact SeqAt.RcNeAt.list_tuple (show s.heap.IsList a1 iD.toArray from p1) (show s.heap.IsTuple a2 its2.toArray from p2) hu0
 |ref _=>cases n<;>simp[aV]at hy
 |ty _=>cases n<;>simp[aV]at hy
def aG3(I:Inv X pins σ H s)(n:Nat)(A:jx)(hl:SqL X.K H a2 xs)(y:D)(vy:V)(v:aq)(hu0:A.units<jr)(hy:aV n y=ak)(ry:RD X.K H y vy)(rv:RelV vy v):SeqAt.RcNeAt A s v (.ref a2) ak:=by
 obtain⟨its2,vv2,pl,_⟩:=I.list hl;have p2:=pl.isList;cases ry with
 |non =>
  cases rv;exact SeqAt.RcNeAt.none_list p2 hu0
 |bl b1 =>
  cases rv;exact SeqAt.RcNeAt.bool_list b1 p2 hu0
 |int i1 =>
  obtain⟨t1,rfl⟩:=rv;exact SeqAt.RcNeAt.int_list i1 t1 p2 hu0
 |str z1 =>
  obtain⟨t1,rfl⟩:=rv;exact SeqAt.RcNeAt.str_list z1 t1 p2 hu0
 |@tup a1 xs1 ds1 h1 r1 =>
  cases rv;obtain⟨iD,vv1,p1,_⟩:=I.tuple h1;exact SeqAt.RcNeAt.tuple_list (show s.heap.IsTuple a1 iD.toArray from p1) (show s.heap.IsList a2 its2.toArray from p2) hu0
 |ref _=>cases n<;>simp[aV]at hy
 |ty _=>cases n<;>simp[aV]at hy
def aG4(I:Inv X pins σ H s)(n:Nat)(A:jx){ds1 vH:List D}(h1:SqL X.K H a1 xs1)(h2:SqL X.K H a2 xs2)(r1:dB X.K H ds1 xs1)(r2:dB X.K H vH xs2)
  (hu:A.units+(n+1)<jr)(hx:ds1.all (aV n)=ak)(hy:vH.all (aV n)=ak):SeqAt.RcNeAt A s (.ref a1) (.ref a2) (!sS ds1 vH):=by
 have hu0:A.units<jr:=by omega
 obtain⟨iD,vv1,q1,_⟩:=I.list h1;obtain⟨its2,vv2,q2,_⟩:=I.list h2;have p1:=q1.isList;have p2:=q2.isList;by_cases hl:ds1.length=vH.length
 .have hsz:iD.toArray.size=its2.toArray.size:=by rw[fj,fj,←vv1.length,←vv2.length,←r1.length,←r2.length];exact hl
  have z:=SeqAt.RcNeAt.lists (e:=xP ds1 vH) p1 p2 hsz hu0 (zV (n:=n) r1 r2 vv1 vv2 λx mx y my v w u t q1 q2 q3 q4 =>
      a3Q I n A.in1 x y v w u t (zW hu) (jy.mp hx x mx) (jy.mp hy y my) q1 q2 q3 q4)
  have e:(kj iD.toArray.size).all (xP ds1 vH)=sS ds1 vH:=by rw[adN hl,fj,←vv1.length,←r1.length]
  rw[e]at z;exact z
 .have hne:(iD.toArray.size !=its2.toArray.size)=ak:=by rw[fj,fj,←vv1.length,←vv2.length,←r1.length,←r2.length];simpa using hl
  have e:sS ds1 vH=ao:=ahQ (by simpa using hl);rw[e];exact SeqAt.RcNeAt.lists_lengths p1 p2 hne hu0
abbrev eqG(G:Gp)(x y:D)(k:Bool->Prop):Prop:=match x,y with
 |.ref a,.ref b=>(match bH G a,bH G b with
  |some xs,aj ys=>xs.all (aV 20)=ak/\ys.all (aV 20)=ak/\k (sS xs ys)
  |_,_=>False)
 |.ref a,y=>(match bH G a with
  |some _=>aV 20 y=ak/\k ao
  |none=>False)
 |x,.ref b=>(match bH G b with
  |some _=>aV 20 x=ak/\k ao
  |none=>False)
 |x,y=>aV 20 x=ak/\aV 20 y=ak/\k (eqP x y)
abbrev lE:R3:=λx y G R=>eqG G x y λb=>R (.bl b) G
abbrev zK:R3:=λx y G R=>eqG G x y λb=>R (.bl (!b)) G
def zX{r3:R3}(h:∀(pins:List (bw×Obj))(s:cu)(σ:St)(H:Hp)(x y:D)(vx vy:V)(u v:aq)(G:Gp)(R:iB)(Q:VK),Inv X pins σ H s->RD X.K H x vx->RD X.K H y vy->RelV vx u->RelV vy v->HR X.K H G->r3 x y G R ->
   (∀w H' d G',Ts H H'->RD X.K H' d w->HR X.K H' G'->R d G'->Q w H')->dg (dw X.prog X.w) X.A (f u v) (EP X pins σ Q) X.xe s):nH X f r3 :=
 ⟨λvx vy H Q=>∃x y G R,RD X.K H x vx/\RD X.K H y vy/\HR X.K H G/\r3 x y G R/\∀w H' d G',Ts H H'->RD X.K H' d w->HR X.K H' G'->R d G'->Q w H',
  λpins s σ H vx vy u v Q I ru rv ⟨x,y,G,R,rx,ry,g,q,k⟩=>h pins s σ H x y vx vy u v G R Q I rx ry ru rv g q k,λH x y vx vy G R Q rx ry g q k=>⟨x,y,G,R,rx,ry,g,q,k⟩⟩
private theorem anO(hu:X.A.units+64<jr){neg:Bool}(hop:op=if neg then .NotEq else .Eq){x:D}{v:aq}{k:Bool->Prop}{Q:VK}(I:Inv X pins σ H s)(rx:RD X.K H x vx)(ry:RD X.K H y vy)(ru:RelV vx u)(rv:RelV vy v)(g:HR X.K H G)
  (h:eqG G x y k)(hk:∀b,k b->EP X pins σ Q (.bool (neg ^^ b)) s):dg (dw X.prog X.w) X.A (jg op u v) (EP X pins σ Q) X.xe s:=by
 have fin:∀{b:Bool},(if neg then SeqAt.RcNeAt X.A s u v (!b)else SeqAt.RcAt X.A s u v b)->k b->dg (dw X.prog X.w) X.A (jg op u v) (EP X pins σ Q) X.xe s:=λ{b} z kb=>by
  have e:=hk b kb;cases neg with
  |true =>
   subst hop;rw[Bool.true_xor]at e;exact z X.prog X.w X.xe _ e
  |false =>
   subst hop;rw[a2z]at e;exact z X.prog X.w X.xe _ e
 have hu1:X.A.units+(20+1)<jr:=by omega
 have hu2:X.A.units+(19+1)<jr:=by omega
 have hu0:X.A.units<jr:=by omega
 have plain:aV 20 x=ak->aV 20 y=ak->k (eqP x y)->dg (dw X.prog X.w) X.A (jg op u v) (EP X pins σ Q) X.xe s:=λhx hy kk=>fin (b:=eqP x y) (by
  cases neg with
  |true=>exact aG1 I 19 X.A x y vx vy u v hu2 hx hy rx ry ru rv
  |false=>exact aR0 I 19 X.A x y vx vy u v hu2 hx hy rx ry ru rv) kk
 have left:∀a xs,x=.ref a->bH G a=aj xs->aV 20 y=ak->k ao->dg (dw X.prog X.w) X.A (jg op u v) (EP X pins σ Q) X.xe s:=λa xs e1 e2 hy kk=>by
  subst e1;cases rx;cases ru;obtain⟨zs,hz,_⟩:=cC g e2;refine fin (b:=false) ?_ kk;cases neg with
  |true=>exact aG2 I 20 X.A hz y vy v hu0 hy ry rv
  |false=>exact aR1 I 20 X.A hz y vy v hu0 hy ry rv
 have right:∀a xs,y=.ref a->bH G a=aj xs->aV 20 x=ak->k ao->dg (dw X.prog X.w) X.A (jg op u v) (EP X pins σ Q) X.xe s:=λa xs e1 e2 hy kk=>by
  subst e1;cases ry;cases rv;obtain⟨zs,hz,_⟩:=cC g e2;refine fin (b:=false) ?_ kk;cases neg with
  |true=>exact aG3 I 20 X.A hz x vx u hu0 hy rx ru
  |false=>exact aR2 I 20 X.A hz x vx u hu0 hy rx ru
 unfold eqG at h;split at h
 .rename_i a b;split at h
  .rename_i xs ys e1 e2;cases rx;cases ry;cases ru;cases rv;obtain⟨zs1,hz1,q1⟩:=cC g e1;obtain⟨zs2,hz2,q2⟩:=cC g e2;refine fin (b:=sS xs ys) ?_ h.2.2;cases neg with
   |true=>exact aG4 I 20 X.A hz1 hz2 q1 q2 hu1 h.1 h.2.1
   |false=>exact aR3 I 20 X.A hz1 hz2 q1 q2 hu1 h.1 h.2.1
  .exact h.elim
 .rename_i a _;split at h
  .rename_i xs e1;exact left a xs rfl e1 h.1 h.2
  .exact h.elim
 .rename_i b _;split at h
  .rename_i xs e1;exact right b xs rfl e1 h.1 h.2
  .exact h.elim
 .exact plain h.1 h.2.1 h.2.2
def aR4(hu:X.A.units+64<jr):nH X (jg .Eq) lE:=zX λpins s σ H x y vx vy u v G R Q I rx ry ru rv g q k =>
 anO (neg:=false) hu rfl I rx ry ru rv g q λb kb=>⟨.bl b,H,I,by rw[a2z];rfl,k _ H (.bl b) G (.refl H) (.bl b) g kb⟩
def aR5(hu:X.A.units+64<jr):nH X (jg .NotEq) zK:=zX λpins s σ H x y vx vy u v G R Q I rx ry ru rv g q k =>
 anO (neg:=true) hu rfl I rx ry ru rv g q λb kb=>⟨.bl (!b),H,I,by rw[Bool.true_xor];rfl,k _ H (.bl (!b)) G (.refl H) (.bl (!b)) g kb⟩
end
end
section
open PySem.W PySem.Calls
open PySem.Builtin PySem.Builtin.ObjectAttr PySem.Builtin.Getset_descriptor
section
variable{prog:jt}{w:jj}{A:jx}{s:cu}{K:Fg}{x:bw}{o:Obj}
def ac8{tp:aq}(X:K.In s.heap)(hx:s.heap.get? x=aj o)(hc:o.cls=.ref C)(hm:mroIn K C (.type "object")=aj ak)
  (h:R (.ok (.ret (.ref C))) s):a0X (dw prog w) A (.call (.builtin "getset_descriptor.__get__") ⟨[.builtin "object.__class__",.ref x,tp],[]⟩) R s:=by
 obtain⟨hh,g,dr,t,os⟩:=s;have L0:Looks (dw prog w) hh (typeOf (.ref x)) (.ref C):=hc ▸ (Looks.ld hx).andThen .now;have L1:=looks_mroIn (M:=model prog w) X hm;refine codeAny_call_builtin KF.slot_gs.plain KF.entry_gs (KF.slot_gs.check _ _ _ _ _ _ _ _ KF.type_class (KF.args_gs _ _ _) ?_);unfold Builtin.«getset_descriptor.__get__» descrGet;rw[dga_obj];refine bh (cj ?_);unfold descrGetter descrCheckInstance descrNameAndClass isInstance;simp only[KF.owner_class]
 repeat lk
 refine⟨Code.quiet_builtin _ (by decide+kernel),a1e KF.entry_class ?_⟩;unfold Builtin.«object.__class__» shownTypeOf
 repeat lk
 exact h
def aqQ(X:K.In s.heap)(hx:s.heap.get? x=aj o)(hc:o.cls=.ref C)
  (hga:findIn K (.ref C) "__getattribute__"=aj (aj (.builtin "BaseException.__getattribute__")))(hgn:findIn K (.ref C) "__getattr__"=aj au)(ha:findIn K (.ref C) "__class__"=aj (aj (.builtin "object.__class__")))
  (hb:subIn K (.ref C) (.type "BaseException")=aj ak)(hm:mroIn K C (.type "object")=aj ak)(h:Q (aj (.ref C)) {s with toks:=s.toks+1}):dg (dw prog w) A (getAttr? (.ref x) "__class__") Q E s:=by
 obtain⟨hh,g,d,t,os⟩:=s;have L0:Looks (dw prog w) hh (typeOf (.ref x)) (.ref C):=hc ▸ (Looks.ld hx).andThen .now;have L1:=looks_findIn (M:=model prog w) X hga;have L2':=looks_findIn (M:=model prog w) X hgn;have L3:=looks_findIn (M:=model prog w) X ha;have L4:=looks_subIn (M:=model prog w) X hb;unfold getAttr? getAttrBy? getAttrBy;refine bh (wpAny_mkText (bh (wpAny_attempt (qp (bh (L0.at (bh (L1.at ?_))))))));have hx2:(aq.builtin "BaseException.__getattribute__"==aq.builtin "object.__getattribute__")=ao:=by decide+kernel
 have f3:=PySem.F.attr_ValueError.ga.bind (.ref x);have hk:builtinKind "BaseException.__getattribute__"=aj .slot:=by decide+kernel
 have hsplit:splitId "BaseException.__getattribute__"=aj ("BaseException","__getattribute__"):=by decide+kernel
 have ha2:=PySem.F.args_bexc_ga (.ref x) (.str "__class__" t)
 repeat (first|with_reducible refine L0.at ?_|with_reducible refine L1.at ?_|with_reducible refine L2'.at ?_|with_reducible refine L3.at ?_|with_reducible refine L4.at ?_|wp_step)
 refine codeAny_call_builtin PySem.F.attr_ValueError.ga.plain PySem.F.entry_bexc_ga ?_;simp only[checkBuiltinCall,hk,hsplit];unfold isInstance;have f5:=PySem.F.typeOf_object_class;have f6:=PySem.F.slot_gs_get.lookup;have f7:=PySem.F.slot_gs_set.lookup
 repeat (any_goals (first|assumption|with_reducible refine L0.at ?_|with_reducible refine L1.at ?_|with_reducible refine L2'.at ?_|with_reducible refine L3.at ?_|with_reducible refine L4.at ?_|wp_step))
 refine ac8 X hx hc hm ?_
 repeat (any_goals (first|assumption|wp_step))
end
end
variable{T:String}{σ:St}{R:iB}
section
variable{n:String}{s:cu}{H:Hp}{Q:VK}
section
variable{X:Cx}{x:Str}{p pos:Pos}{e:jq}{t:xG}{id T:String}{r3:List D->Gp->iB->Prop}
abbrev cX(X:Cx)(f:aq)(r3:List D->Gp->iB->Prop):Prop :=
 ∀(pins:List (bw×Obj))(s:cu)(σ:St)(H:Hp)(xs:List D)(vs:List V)(us:List aq)(G:Gp)(R:iB)(Q:VK),Inv X pins σ H s->dB X.K H xs vs->Vals vs us->HR X.K H G->r3 xs G R ->
  (∀v H' d G',Ts H H'->RD X.K H' d v->HR X.K H' G'->R d G'->Q v H')->dg (dw X.prog X.w) X.A (call f us) (EP X pins σ Q) X.xe s
def cX.of{r:List V->Hp->VK->Prop}(h:vZ X f r)(i:∀(H:Hp)(xs:List D)(vs:List V)(G:Gp)(R:iB)(Q:VK),dB X.K H xs vs->HR X.K H G->r3 xs G R ->
  (∀v H' d G',Ts H H'->RD X.K H' d v->HR X.K H' G'->R d G'->Q v H')->r vs H λv H'=>KF X.K H'->Q v H'):cX X f r3:=λpins s σ H xs vs us G R Q I rx rv g q k =>
 dZ (h pins s σ H vs us _ I rv (i H xs vs G R Q rx g q k)) λ_ _ ⟨v,H',I',r,q'⟩=>⟨v,H',I',r,q' (qX I')⟩
abbrev iW(r3:List D->Gp->iB->Prop)(t:xG):cJ:=λρ G R=>t ρ G λxs G1=>r3 xs G1 R
def rE(hc:cX X (.builtin id) r3)(hg:Gl X x)(hm:X.mg x=au)(hv:mz x=aj (.builtin id))(ha:PA3 X (e::es) t)(hn:x≠"__name__":=by decide)(hdb:(x==("__debug__":Str))=ao:=by decide)
  (he:ji (e::es) X.env=(ao,eval e X.env)::ji es X.env:=by rfl)(hpl:(tu pos (ji es X.env)).any (·.1)=ao:=by rfl):cO X (.Call (.Name x p) (e::es) [] pos) (iW r3 t):=by
 intro pins s σ H Q I h;obtain⟨ρ,G,R,sr,g,q,kk⟩:=h;refine xg (a3M I hg hm hv ?_ hn hdb)
 exact PyProof.Rows.callWith_builtin1 (dZ (ha pos pins s σ H (λvs H1=>Ts H H1/\∃ds G1,dB X.K H1 ds vs/\HR X.K H1 G1/\r3 ds G1 R) I ⟨ρ,G,_,sr,g,q,λvs H1 ds G1 t1 r1 g1 q1=>⟨t1,ds,G1,r1,g1,q1⟩⟩) λus s1 ⟨vs,H1,I1,r,t1,ds,G1,r1,g1,q1⟩ =>
  hc pins s1 σ H1 ds vs us G1 R Q I1 r1 r g1 q1 λv H' d G' t2=>kk v H' d G' (t1.trans t2)) he hpl
def a9U(hc:cX X (.type T) r3)(hg:Gl X x)(hm:X.mg x=au)(hv:mz x=aj (.type T))(ha:PA3 X (e::es) t)(hn:x≠"__name__":=by decide)(hdb:(x==("__debug__":Str))=ao:=by decide)
  (he:ji (e::es) X.env=(ao,eval e X.env)::ji es X.env:=by rfl)(hpl:(tu pos (ji es X.env)).any (·.1)=ao:=by rfl):cO X (.Call (.Name x p) (e::es) [] pos) (iW r3 t):=by
 intro pins s σ H Q I h;obtain⟨ρ,G,R,sr,g,q,kk⟩:=h;refine xg (a3M I hg hm hv ?_ hn hdb)
 exact PyProof.Rows.callWith_type1 (dZ (ha pos pins s σ H (λvs H1=>Ts H H1/\∃ds G1,dB X.K H1 ds vs/\HR X.K H1 G1/\r3 ds G1 R) I ⟨ρ,G,_,sr,g,q,λvs H1 ds G1 t1 r1 g1 q1=>⟨t1,ds,G1,r1,g1,q1⟩⟩) λus s1 ⟨vs,H1,I1,r,t1,ds,G1,r1,g1,q1⟩ =>
  hc pins s1 σ H1 ds vs us G1 R Q I1 r1 r g1 q1 λv H' d G' t2=>kk v H' d G' (t1.trans t2)) he hpl
abbrev zY:List D->Gp->iB->Prop:=λxs G R=>match xs with
 |[.str z]=>z.length<=dh/\R (.int z.length) G
 |[.tup ds]=>R (.int ds.length) G
 |[.ref q]=>(match bH G q with
  |some ds=>R (.int ds.length) G
  |none=>False)
 |_=>False
private theorem aMF:cX X (.builtin "len") zY:=cX.of (af3.or af4) λH xs vs G R Q rx g q k=>by
 cases rx with
 |nil=>exact False.elim q
 |cons r rr =>
  cases rr with
  |cons _ _=>cases r<;>exact False.elim q
  |nil =>
   cases r with
   |str z=>exact .inr ⟨z,rfl,q.1,λ_=>k _ H _ G (.refl H) (.int _) g q.2⟩
   |@tup a xs ds ha ra=>exact .inl ⟨a,xs,rfl,.inr ha,λ_=>by rw[←ra.length];exact k _ H _ G (.refl H) (.int _) g q⟩
   |ref a =>
    have q':(match bH G a with
     |some ds=>R (.int ds.length) G
     |none=>False):=q
    split at q'
    .rename_i ds e1;obtain⟨xs,h1,r1⟩:=cC g e1;exact .inl ⟨a,xs,rfl,.inl h1,λ_=>by rw[←r1.length];exact k _ H _ G (.refl H) (.int _) g q'⟩
    .exact q'.elim
   |_=>exact False.elim q
abbrev ahS:List D->Gp->iB->Prop:=λxs G R=>match xs with
 |[.int i]=>R (.int i) G
 |[.bl b]=>R (.int (if b then 1 else 0)) G
 |_=>False
def aMG:cX X (.type "int") ahS:=cX.of aq6 λH xs vs G R Q rx g q k=>by
 cases rx with
 |nil=>exact False.elim q
 |cons r rr =>
  cases rr with
  |cons _ _=>cases r<;>exact False.elim q
  |nil =>
   cases r with
   |int i=>exact .inl ⟨i,rfl,λ_=>k _ H _ G (.refl H) (.int _) g q⟩
   |bl b=>exact .inr ⟨b,rfl,λ_=>k _ H _ G (.refl H) (.int _) g q⟩
   |_=>exact False.elim q
abbrev a9V:List D->Gp->iB->Prop:=λxs G R=>match xs with
 |[.tup ds]=>∀l,G l=au->R (.ref l) (aH G l (.lst ds))
 |[.ref q]=>(match bH G q with
  |some ds=>∀l,G l=au->R (.ref l) (aH G l (.lst ds))
  |none=>False)
 |_=>False
private theorem aG5:cX X (.type "list") a9V:=cX.of af5 λH xs vs G R Q rx g q k=>by
 cases rx with
 |nil=>exact False.elim q
 |cons r rr =>
  cases rr with
  |cons _ _=>cases r<;>exact False.elim q
  |nil =>
   cases r with
   |@tup a xs ds ha ra =>
    refine⟨a,xs,rfl,.inr ha,λl hl kf=>?_⟩;have sn:Same H (upd H l (.lst xs)):=bO hl;exact k _ _ _ _ (.same sn) (.ref l) (g.put (u:=.lst ds) hl ⟨_,aM,ra.mono (.same sn)⟩) (q l (jE g hl kf))
   |ref a =>
    have q':(match bH G a with
     |some ds=>∀l,G l=au->R (.ref l) (aH G l (.lst ds))
     |none=>False):=q
    split at q'
    .rename_i ds e1;obtain⟨xs,h1,r1⟩:=cC g e1;refine⟨a,xs,rfl,.inl h1,λl hl kf=>?_⟩;have sn:Same H (upd H l (.lst xs)):=bO hl;exact k _ _ _ _ (.same sn) (.ref l) (g.put (u:=.lst ds) hl ⟨_,aM,r1.mono (.same sn)⟩) (q' l (jE g hl kf))
    .exact q'.elim
   |_=>exact False.elim q
abbrev tyD(G:Gp):D->Option String
 |.non=>aj "NoneType"
 |.bl _=>aj "bool"
 |.int _=>aj "int"
 |.str _=>aj "str"
 |.tup _=>aj "tuple"
 |.ref q=>(match G q with
  |some (.lst _)=>aj "list"
  |some (.rol _)=>aj "list"
  |some (.cF _ _)=>aj "dict"
  |_=>au)
 |.ty _=>au
abbrev exD(G:Gp):D->Option bw
 |.ref q=>(match G q with
  |some (.exn C)=>aj C
  |_=>au)
 |_=>au
abbrev subB(T n:String):Bool:=T==n||(T=="bool"&&n=="int")
abbrev aMH:List String:=["NoneType","bool","int","str","list","tuple","dict"]
abbrev jC:List String:=["int","bool","str","list","tuple","dict","ValueError"]
def aG7:∀T∈aMH,∀n∈jC,iy [] (.type T) (.type n)=aj (subB T n):=by decide+kernel
def rF(K:Fg)(h1:T∈aMH)(h2:n∈jC):iy K (.type T) (.type n)=aj (subB T n):=aG7 T h1 n h2
structure ExC(K:Fg)(C:bw):Prop where
 ga:lg K (.ref C) "__getattribute__"=aj (aj (.builtin "BaseException.__getattribute__"))
 gn:lg K (.ref C) "__getattr__"=aj au
 cl:lg K (.ref C) "__class__"=aj (aj (.builtin "object.__class__"))
 be:um K (.ref C) (.type "BaseException")=aj ak
 ob:PySem.W.mroIn K C (.type "object")=aj ak
 cs:(wg K C).isSome=ak
private theorem atV{K:Fg}(c:ExC K C):PySem.W.KitX K (.ref a) (.ref C) (a2N C a) where
 ty:=λM h X ⟨o,vs,h1,h2,_⟩=>h2 ▸ (ug.ld h1).andThen .now
 it:=λM h X _=>by
  intro A' Q' E' s' k q;cases eK:wg K C with
  |none=>have:=c.cs;rw[eK]at this;cases this
  |some cd =>
   unfold wg at eK;split at eK
   .rename_i ho;unfold isType loadHead;exact bh (wpAny_loadPart (k _ _ (X _ _ ho)) (cj q))
   .cases eK
 ne:=λh tp dd its n sl X htp=>by
  refine Bool.eq_false_iff.mpr λq=>?_;have e:C=tp:=Value.ref.inj (beq_iff_eq.mp q);subst e;cases eK:wg K C with
  |none=>have:=c.cs;rw[eK]at this;cases this
  |some cd =>
   unfold wg at eK;split at eK
   .rename_i ho;have z:=(X _ _ ho).symm.trans htp;cases z
   .cases eK
 ca:=λX ⟨o,vs,h1,h2,_⟩ k=>aqQ X h1 h2 c.ga c.gn c.cl c.be c.ob k
abbrev aJ(K:Fg):List D->Gp->iB->Prop:=λxs G R=>match xs with
 |[x,.ty n]=>(match tyD G x with
  |some T=>n∈jC/\R (.bl (subB T n)) G
  |none=>(match exD G x with
   |some C=>∃b,ExC K C/\iy K (.ref C) (.type n)=aj b/\R (.bl b) G
   |none=>False))
 |[x,.ref C']=>(match exD G x with
  |some C=>∃b,ExC K C/\iy K (.ref C) (.ref C')=aj b/\R (.bl b) G
  |none=>False)
 |_=>False
variable{x:D}
private theorem atX(h:exD G x=aj C):∃a,x=.ref a/\G a=aj (.exn C):=by
 cases x with
 |ref q =>
  refine⟨q,rfl,?_⟩
  have h':(match G q with
   |some (.exn C)=>aj C
   |_=>au)=aj C:=h
  split at h'
  .rename_i e1;cases h';exact e1
  .cases h'
 |_=>cases h
variable{G:Gp}
def rG{C:bw}{c:aq}{b:Bool}(I:Inv X pins σ H s)(g:HR X.K H G)(e:G a=aj (.exn C))(hc:ExC X.K C)(hk:iy X.K (.ref C) c=aj b)(q:R (.bl b) G)
  (k:∀v H' d G',Ts H H'->RD X.K H' d v->HR X.K H' G'->R d G'->Q v H'):dg (dw X.prog X.w) X.A (call (.builtin "isinstance") [.ref a,c]) (EP X pins σ Q) X.xe s:=by
 obtain⟨o0,vs0,z,_⟩:=g a _ e;obtain⟨_,z1,_,_⟩:=I.hok a _ z;exact yj (atV hc) I.kIn z1 hk (λz=>nomatch z) λtk=>⟨.bl b,H,I.tok tk,rfl,k _ H _ G (.refl H) (.bl b) g q⟩
private theorem aG8{vx:V}{u:aq}(I:Inv X pins σ H s)(rx:RD X.K H x vx)(ru:RelV vx u)(g:HR X.K H G)(e:tyD G x=aj T)(hn:n∈jC)(q:R (.bl (subB T n)) G)
  (k:∀v H' d G',Ts H H'->RD X.K H' d v->HR X.K H' G'->R d G'->Q v H'):dg (dw X.prog X.w) X.A (call (.builtin "isinstance") [u,.type n]) (EP X pins σ Q) X.xe s:=by
 have fin:∀tk,EP X pins σ Q (.bool (subB T n)) {s with toks:=tk}:=λtk=>⟨.bl _,H,I.tok tk,rfl,k _ H _ G (.refl H) (.bl _) g q⟩;cases rx with
 |non=>cases ru;cases e;exact yj PySem.W.kitx_none I.kIn True.intro (rF _ (by decide) hn) (λz=>nomatch z) fin
 |bl b=>cases ru;cases e;exact yj PySem.W.kitx_bool I.kIn True.intro (rF _ (by decide) hn) (λz=>nomatch z) fin
 |int i=>obtain⟨t,rfl⟩:=ru;cases e;exact yj PySem.W.kitx_int I.kIn True.intro (rF _ (by decide) hn) (λz=>nomatch z) fin
 |str i=>obtain⟨t,rfl⟩:=ru;cases e;exact yj PySem.W.kitx_str I.kIn True.intro (rF _ (by decide) hn) (λz=>nomatch z) fin
 |ty n=>cases e
 |@tup a xs ds ha ra =>
  cases ru;cases e;obtain⟨its,_,p,_⟩:=I.tuple ha;obtain⟨o,h1,h2,_⟩:=p;exact yj PySem.W.kitx_tuple I.kIn ⟨o,h1,h2⟩ (rF _ (by decide) hn) (λz=>nomatch z) fin
 |ref a =>
  cases ru
  have e':(match G a with
   |some (.lst _)=>aj "list"
   |some (.rol _)=>aj "list"
   |some (.cF _ _)=>aj "dict"
   |_=>au)=aj T:=e
  split at e'
  .rename_i ds e1;cases e';obtain⟨xs,h1,_⟩:=cC g (show bH G a=aj ds by unfold bH;rw[e1]);obtain⟨its,_,p,_⟩:=I.list h1;obtain⟨o,n',h1,h2,_⟩:=p;exact yj PySem.W.kitx_list I.kIn ⟨o,h1,h2⟩ (rF _ (by decide) hn) (λz=>nomatch z) fin
  .rename_i ds e1;cases e';obtain⟨xs,h1,_⟩:=cC g (show bH G a=aj ds by unfold bH;rw[e1]);obtain⟨its,_,p,_⟩:=I.list h1;obtain⟨o,n',h1,h2,_⟩:=p;exact yj PySem.W.kitx_list I.kIn ⟨o,h1,h2⟩ (rF _ (by decide) hn) (λz=>nomatch z) fin
  .rename_i kvs e1;cases e';rcases g a _ e1 with⟨_,xs,h1,_⟩|⟨_,xs,h1,_⟩
   .obtain⟨_,_,vs,_,o,es,ep,h1,h2,_⟩:=I.hok a _ h1;exact yj PySem.W.kitx_dict I.kIn ⟨o,h1,h2.1⟩ (rF _ (by decide) hn) (λz=>nomatch z) fin
   .obtain⟨_,_,xs,_,o,es,ep,h1,h2,_⟩:=I.hok a _ h1;exact yj PySem.W.kitx_dict I.kIn ⟨o,h1,h2.1⟩ (rF _ (by decide) hn) (λz=>nomatch z) fin
  .cases e'
private theorem afE:cX X (.builtin "isinstance") (aJ X.K):=by
 intro pins s σ H xs vs us G R Q I rx rv g q k;cases rx with
 |nil=>exact False.elim q
 |@cons x v ds ws r1 rr =>
  cases rr with
  |nil=>cases r1<;>exact False.elim q
  |@cons y v2 vH ws2 r2 rr2 =>
   cases rr2 with
   |cons _ _=>cases r2<;>exact False.elim q
   |nil =>
    obtain⟨u1,u2,rfl,ru1,ru2⟩:=vals2 rv;cases r2 with
    |ty n =>
     cases ru2
     have q':(match tyD G x with
      |some T=>n∈jC/\R (.bl (subB T n)) G
      |none=>(match exD G x with
       |some C=>∃b,ExC X.K C/\iy X.K (.ref C) (.type n)=aj b/\R (.bl b) G
       |none=>False)):=q
     split at q'
     .rename_i T eT;exact aG8 I r1 ru1 g eT q'.1 q'.2 k
     .split at q'
      .rename_i C eC;obtain⟨a,rfl,ea⟩:=atX eC;obtain⟨b,hc,hk,q'⟩:=q';cases r1;cases ru1;exact rG I g ea hc hk q' k
      .exact q'.elim
    |ref C' =>
     cases ru2
     have q':(match exD G x with
      |some C=>∃b,ExC X.K C/\iy X.K (.ref C) (.ref C')=aj b/\R (.bl b) G
      |none=>False):=q
     split at q'
     .rename_i C eC;obtain⟨a,rfl,ea⟩:=atX eC;obtain⟨b,hc,hk,q'⟩:=q';cases r1;cases ru1;exact rG I g ea hc hk q' k
     .exact q'.elim
    |_=>exact False.elim q
end
end
variable{id:String}
section
def a9W{K:Fg}{x:D}(hx:scD x=ak)(rx:RD K H x vx):∀{ys:List D}{vs:List V},dB K H ys vs->ys.all scD=ak->vs.any (λy=>eqV y vx)=ys.any (λy=>eqP y x)
 |_,_,.nil,_=>rfl
 |_,_,.cons h r,hs=>by
  rw[zj,bx]at hs;rw[a1a,a1a,a9W hx rx r hs.2];congr 1;obtain⟨h1,_⟩:=hs;cases rx<;>cases h<;>first|(simp[eqV,eqP];done)|cases hx|cases h1
variable{x:D}
def a4W{K:Fg}(hx:scD x=ak)(rx:RD K H x vx):yO vx=ak:=by cases rx<;>first|rfl|cases hx
def zZ{K:Fg}:∀{ys:List D}{vs:List V},dB K H ys vs->ys.all scD=ak->vs.all yO=ak
 |_,_,.nil,_=>rfl
 |_,_,.cons h r,hs=>by
  rw[zj,bx]at hs;rw[zj,a4W hs.1 h,zZ r hs.2];rfl
abbrev inG(G:Gp)(x y:D)(k:Bool->Prop):Prop:=match x,y with
 |.str i,.str j=>k (!(Builtin.Str.occurrences j i 0 j.length 1).isEmpty)
 |x,.tup ys=>scD x=ak/\ys.all scD=ak/\k (ys.any λy=>eqP y x)
 |x,.ref p=>(match bH G p with
  |some ys=>scD x=ak/\ys.all scD=ak/\k (ys.any λy=>eqP y x)
  |none=>False)
 |_,_=>False
abbrev aMI:R3:=λx y G R=>inG G x y λb=>R (.bl b) G
abbrev anP:R3:=λx y G R=>inG G x y λb=>R (.bl (!b)) G
variable{o:jq}
section
variable{X:Cx}
private theorem aR7(hu:X.A.units+64<jr):nH X (jg .In) aMI:=by
 refine⟨_,aq3.or aqD,λH x y vx vy G R Q rx ry g h k=>?_⟩;have h':inG G x y λb=>R (.bl b) G:=h;unfold inG at h';split at h'
 .cases rx;cases ry;exact .inl ⟨_,_,rfl,rfl,k _ H _ G (.refl H) (.bl _) g h'⟩
 .cases ry with
  |@tup a xs ds ha ra =>
   refine .inr ⟨a,xs,rfl,.inr ha,a4W h'.1 rx,zZ ra h'.2.1,?_⟩;have e:inV vx xs=_:=a9W h'.1 rx ra h'.2.1;simp only[qe,if_false];rw[e];exact k _ H _ G (.refl H) (.bl _) g h'.2.2
 .cases ry;split at h'
  .rename_i ys e1;obtain⟨xs,hq,ra⟩:=cC g e1;refine .inr ⟨_,xs,rfl,.inl hq,a4W h'.1 rx,zZ ra h'.2.1,?_⟩;have e:inV vx xs=_:=a9W h'.1 rx ra h'.2.1;simp only[qe,if_false];rw[e];exact k _ H _ G (.refl H) (.bl _) g h'.2.2
  .exact h'.elim
 .exact h'.elim
private theorem azN(hu:X.A.units+64<jr):nH X (jg .NotIn) anP:=by
 refine⟨_,aeX.or af2,λH x y vx vy G R Q rx ry g h k=>?_⟩;have h':inG G x y λb=>R (.bl (!b)) G:=h;unfold inG at h';split at h'
 .cases rx;cases ry;exact .inl ⟨_,_,rfl,rfl,k _ H _ G (.refl H) (.bl _) g h'⟩
 .cases ry with
  |@tup a xs ds ha ra =>
   refine .inr ⟨a,xs,rfl,.inr ha,a4W h'.1 rx,zZ ra h'.2.1,?_⟩;have e:inV vx xs=_:=a9W h'.1 rx ra h'.2.1;simp only[if_true];rw[e];exact k _ H _ G (.refl H) (.bl _) g h'.2.2
 .cases ry;split at h'
  .rename_i ys e1;obtain⟨xs,hq,ra⟩:=cC g e1;refine .inr ⟨_,xs,rfl,.inl hq,a4W h'.1 rx,zZ ra h'.2.1,?_⟩;have e:inV vx xs=_:=a9W h'.1 rx ra h'.2.1;simp only[if_true];rw[e];exact k _ H _ G (.refl H) (.bl _) g h'.2.2
  .exact h'.elim
 .exact h'.elim
abbrev afF(T:String)(G:Gp):D->Prop
 |.str _=>T="str"
 |.ref p=>T="list"/\(bH G p).isSome=ak
 |_=>False
def atY{K:Fg}(g:HR K H G)(r:RD K H x v)(h:afF T G x):tyV K T v H:=by
 cases r with
 |str z=>exact h
 |ref p =>
  obtain⟨rfl,h⟩:=h;obtain⟨ds,e⟩:=a0v.mp h;obtain⟨xs,hq,_⟩:=cC g e;exact .inl ⟨rfl,xs,hq⟩
 |_=>exact False.elim h
@[simp]def RM3:=D->List D->Gp->iB->Prop
abbrev a8K(X:Cx)(id:String)(r3:RM3):Prop :=
 ∀(pins:List (bw×Obj))(s:cu)(σ:St)(H:Hp)(x:D)(xs:List D)(vx:V)(vs:List V)(u:aq)(us:List aq)(G:Gp)(R:iB)(Q:VK),Inv X pins σ H s->RD X.K H x vx->dB X.K H xs vs->RelV vx u->Vals vs us->HR X.K H G->r3 x xs G R ->
  (∀v H' d G',Ts H H'->RD X.K H' d v->HR X.K H' G'->R d G'->Q v H')->dg (dw X.prog X.w) X.A (call (.builtin id) (u::us)) (EP X pins σ Q) X.xe s
variable{r3:RM3}
def a8K.of{r:V->List V->Hp->VK->Prop}(h:MtR X id r)(i:∀(H:Hp)(x:D)(xs:List D)(vx:V)(vs:List V)(G:Gp)(R:iB)(Q:VK),RD X.K H x vx->dB X.K H xs vs->HR X.K H G->r3 x xs G R ->
  (∀v H' d G',Ts H H'->RD X.K H' d v->HR X.K H' G'->R d G'->Q v H')->r vx vs H λv H'=>KF X.K H'->Q v H'):a8K X id r3:=λpins s σ H x xs vx vs u us G R Q I rx rs ru rv g q k =>
 dZ (h pins s σ H vx vs u us _ I ru rv (i H x xs vx vs G R Q rx rs g q k)) λ_ _ ⟨v,H',I',r,q'⟩=>⟨v,H',I',r,q' (qX I')⟩
abbrev tM3(T:String)(r:RM3)(to:cJ)(t:xG):cJ:=λρ G R=>to ρ G λx G1=>afF T G1 x/\t ρ G1 λxs G2=>r x xs G2 R
abbrev aGA(T:String)(r:RM3)(to:cJ):cJ:=λρ G R=>to ρ G λx G1=>afF T G1 x/\r x [] G1 R
def aGB{t:xG}{apos cpos:Pos}(pa:PlainAttrs T)(slot:Slot T name id)(hty:typeOf (.builtin id)=pure (.type "method_descriptor"))(hm:a8K X id r3)(ho:cO X o to)(ha:PA3 X (e::es) t)
  (hbase:uh o name X.env (eval o X.env)=eval o X.env:=by rfl)
  (hfew:((tu cpos (ji (e::es) X.env)).all (λx=>!x.1)&&(backToKw cpos (a0f [] X.env)).all (λx=>x.1.isSome)
   &&decide ((e::es).length+([]:List a0k).length+(if([]:List a0k).isEmpty then 0 else 1)<30))=ak:=by rfl)
  (hline:(apos.endLine==cpos.line)=ak:=by rfl)(hs:ji (e::es) X.env=(ao,eval e X.env)::ji es X.env:=by rfl)(hplain:(tu cpos (ji es X.env)).any (·.1)=ao:=by rfl) :
  cO X (.Call (.Attribute o name apos) (e::es) [] cpos) (tM3 T r3 to t):=by
 intro pins s σ H Q I h;obtain⟨ρ,G,R,sr,g,q,kk⟩:=h;refine wpAny_Call_method_late hbase hfew hline rfl (dZ (ho pins s σ H (λvx H1=>Ts H H1/\∃x G1,RD X.K H1 x vx/\HR X.K H1 G1/\afF T G1 x/\t ρ G1 λxs G2=>r3 x xs G2 R) I ⟨ρ,G,_,sr,g,q,λv H1 x G1 t1 r1 g1 q1=>⟨t1,x,G1,r1,g1,q1⟩⟩) ?_);rintro v s1 ⟨vx,H1,I1,r1,t1,x,G1,rx,g1,ty,q1⟩;obtain⟨h1,h2⟩:=at9 I1 r1 (atY g1 rx ty);refine⟨T,id,pa,slot,hty,h1,h2,?_⟩;have hA:=ha cpos pins s1 σ H1 (λvs H2=>Ts H1 H2/\∃xs G2,dB X.K H2 xs vs/\HR X.K H2 G2/\r3 x xs G2 R) I1 ⟨ρ,G1,_,sr.mono t1,g1,q1,λvs H2 xs G2 t2 r2 g2 q2=>⟨t2,xs,G2,r2,g2,q2⟩⟩;rw[hs]at hA ⊢;refine Calls.callWith_builtin (by show(ao||(tu cpos (ji es X.env)).any (·.1))=ao;rw[hplain]<;>rfl) (Calls.evalArgs_plain ?_);exact dZ hA (by rintro us s2 ⟨vs,H2,I2,r2,t2,xs,G2,rs,g2,q2⟩;exact hm pins s2 σ H2 x xs vx vs v us G2 R Q I2 (rx.mono t2) rs r1 r2 g2 q2 λv H' d G' t3=>kk v H' d G' ((t1.trans t2).trans t3))
def atZ{apos cpos:Pos}(pa:PlainAttrs T)(slot:Slot T name id)(hty:typeOf (.builtin id)=pure (.type "method_descriptor"))(hm:a8K X id r3)(ho:cO X o to)
  (hbase:uh o name X.env (eval o X.env)=eval o X.env:=by rfl)(hline:(apos.endLine==cpos.line)=ak:=by rfl):cO X (.Call (.Attribute o name apos) [] [] cpos) (aGA T r3 to):=by
 intro pins s σ H Q I h;obtain⟨ρ,G,R,sr,g,q,kk⟩:=h;refine a0y hbase hline (dZ (ho pins s σ H (λvx H1=>Ts H H1/\∃x G1,RD X.K H1 x vx/\HR X.K H1 G1/\afF T G1 x/\r3 x [] G1 R) I ⟨ρ,G,_,sr,g,q,λv H1 x G1 t1 r1 g1 q1=>⟨t1,x,G1,r1,g1,q1⟩⟩) ?_);rintro v s1 ⟨vx,H1,I1,r1,t1,x,G1,rx,g1,ty,q1⟩;obtain⟨h1,h2⟩:=at9 I1 r1 (atY g1 rx ty);exact⟨T,id,pa,slot,hty,h1,h2,Calls.callWith_builtin rfl (PySem.evalArgs_none (hm pins s1 σ H1 x [] vx [] v [] G1 R Q I1 rx .nil r1 .nil g1 q1 λv H' d G' t3=>kk v H' d G' (t1.trans t3)))⟩
abbrev wA:RM3:=λx xs G R=>match x,xs with
 |.ref p,[d]=>(match G p with
  |some (.lst ds)=>ds.length<dh/\R .non (aH G p (.lst (ds++[d])))
  |_=>False)
 |_,_=>False
private theorem ahU:a8K X "list.append" wA:=a8K.of adG λH x xs vx vs G R Q rx rs g q k=>by
 cases rx with
 |ref p =>
  cases rs with
  |nil=>exact False.elim q
  |@cons d v ds ws r rr =>
   cases rr with
   |cons _ _=>exact False.elim q
   |nil =>
    have q':(match G p with
     |some (.lst ds)=>ds.length<dh/\R .non (aH G p (.lst (ds++[d])))
     |_=>False):=q
    split at q'
    .rename_i ds e1;obtain⟨ys,f1,r1⟩:=g p _ e1;refine⟨p,ys,v,rfl,rfl,f1,by rw[←r1.length];exact q'.1,λ_=>?_⟩;have tt:Ts H (upd H p (.lst (ys++[v]))):=.turn f1 (λ_ z=>nomatch z) (λ_ _ z=>nomatch z);exact k _ _ _ _ tt .non (g.turn (u:=.lst (ds++[d])) tt ⟨_,aM,(r1.append (.cons r .nil)).mono tt⟩) q'.2
    .exact q'.elim
 |_=>cases rs<;>exact False.elim q
abbrev a3R:cJ:=λ_ G R=>∀p,G p=au->R (.ref p) (aH G p (.cF ao []))
def aGC:cO X (.Dict [] [] pos) a3R:=PE.imp (PE.kf at5) λσ H Q h=>by
 obtain⟨ρ,G,R,s,g,q,k⟩:=h;intro p hp kf;have sn:Same H (upd H p (.dK [])):=bO hp;exact k _ _ _ _ (.same sn) (.ref p) (g.put (u:=.cF ao []) hp (.inl ⟨rfl,[],aM,.nil⟩)) (q p (jE g hp kf))
abbrev a1I:cJ:=λ_ G R=>∀p,G p=au->R (.ref p) (aH G p (.cF ak []))
def azO:cO X (.Dict [] [] pos) a1I:=PE.imp (PE.kf ahC) λσ H Q h=>by
 obtain⟨ρ,G,R,s,g,q,k⟩:=h;intro p hp kf;have sn:Same H (upd H p (.dT [])):=bO hp;exact k _ _ _ _ (.same sn) (.ref p) (g.put (u:=.cF ak []) hp (.inr ⟨rfl,[],aM,.nil⟩)) (q p (jE g hp kf))
end
end
end L2
namespace L2
open PySem
def lF:mz "isinstance"=aj (.builtin "isinstance"):=by decide+kernel
def a9X:mz "len"=aj (.builtin "len"):=by decide+kernel
def aGD:mz "min"=aj (.builtin "min"):=by decide+kernel
def aGE:mz "max"=aj (.builtin "max"):=by decide+kernel
def au0:mz "sum"=aj (.builtin "sum"):=by decide+kernel
def m8:mz "sorted"=aj (.builtin "sorted"):=by decide+kernel
def au1:mz "int"=aj (.type "int"):=by decide+kernel
def azP:mz "bool"=aj (.type "bool"):=by decide+kernel
def ahV:mz "tuple"=aj (.type "tuple"):=by decide+kernel
def anQ:mz "list"=aj (.type "list"):=by decide+kernel
def afG:mz "dict"=aj (.type "dict"):=by decide+kernel
def ac9:mz "ValueError"=aj (.type "ValueError"):=by decide+kernel
end L2
namespace L2
open PySem PySem.Spec PyProof.Rows
variable{cm:Bool}{p a:bw}{lo:Int}{n:Nat}{pos:Pos}
section
abbrev Its(x:Str):It:=⟨λi _=>i<x.cps.size,λi H v H'=>H'=H/\∃c,x.cps[i]?=aj c/\v=.str ⟨#[c]⟩,λi _=>x.cps.size<=i⟩
def adP{w:jj}{K:je}(it:bw)(x:Str)(t:Tok):Turn cm tl P w K tg (Its x) [it] it (λi h=>h.IsStrIter it "str_ascii_iterator" x t (min i x.cps.size)) where
 mem:=by simp
 obj:=λi h st b hb=>by
  have e:b=it:=by simpa using hb
  subst e;obtain⟨o,e,c,d⟩:=st;exact⟨o,e,λv z=>by rw[d]at z;cases z⟩
 keep:=λi h h' st k=>let⟨o,e,r⟩:=st;⟨o,k it (by simp) o e,r⟩
 item:=by
  intro X hP hw hK hcm ht i pins s σ H E I hf st hg;subst hP hw hK;obtain⟨f0,f1,f2,f3,f4,f5⟩:=hf it (by simp);have hi:i<x.cps.size:=hg;rw[a2p (xu hi)]at st;refine wpAny_pyNext_ascii_item st (c:=x.cps[i]) (by simp[hi]) λh' st' kk=>?_;have I1:Inv X pins σ H {s with heap:=h',toks:=s.toks+1}:=I.turned (λb o hb e=>(kk.2 b hb).trans e) f0 f1 f3 f4 f5;obtain⟨o,e1,c1,d1⟩:=id st';refine⟨_,rfl,a7O (s:={s with heap:=h',toks:=s.toks+1}) e1 c1 d1 (by decide) ⟨.str ⟨#[x.cps[i]]⟩,H,I1,⟨_,rfl⟩,⟨rfl,x.cps[i],by simp[hi],rfl⟩,?_,λb hb=>(hf b hb).1⟩⟩;rw[a2p hi];exact st'
 done:=by
  intro X hP hw hK hcm ht i pins s σ H E I hf st hg;subst hP hw hK;obtain⟨f0,f1,f2,f3,f4,f5⟩:=hf it (by simp);have hi:x.cps.size<=i:=hg;rw[Nat.min_eq_right hi]at st;exact apW (I.hnd.heap I.hok) st (by simp) λh' eb=>⟨rfl,I.turned (t':=s.toks) (λb o hb e=>eb b o hb e) f0 f1 f3 f4 f5⟩
 self:=λ_ _ _ _ _ st h=>wpAny_pyIter_striter_ascii st h
def adQ{w:jj}{K:je}(it:bw)(x:Str)(t:Tok):Turn cm tl P w K tg (Its x) [it] it (λi h=>h.IsStrIter it "str_iterator" x t (min i x.cps.size)) where
 mem:=by simp
 obj:=λi h st b hb=>by
  have e:b=it:=by simpa using hb
  subst e;obtain⟨o,e,c,d⟩:=st;exact⟨o,e,λv z=>by rw[d]at z;cases z⟩
 keep:=λi h h' st k=>let⟨o,e,r⟩:=st;⟨o,k it (by simp) o e,r⟩
 item:=by
  intro X hP hw hK hcm ht i pins s σ H E I hf st hg;subst hP hw hK;obtain⟨f0,f1,f2,f3,f4,f5⟩:=hf it (by simp);have hi:i<x.cps.size:=hg;rw[a2p (xu hi)]at st;refine wpAny_pyNext_wide_item st (c:=x.cps[i]) (by simp[hi]) λh' st' kk=>?_;have I1:Inv X pins σ H {s with heap:=h',toks:=s.toks+1}:=I.turned (λb o hb e=>(kk.2 b hb).trans e) f0 f1 f3 f4 f5;obtain⟨o,e1,c1,d1⟩:=id st';refine⟨_,rfl,a7O (s:={s with heap:=h',toks:=s.toks+1}) e1 c1 d1 (by decide) ⟨.str ⟨#[x.cps[i]]⟩,H,I1,⟨_,rfl⟩,⟨rfl,x.cps[i],by simp[hi],rfl⟩,?_,λb hb=>(hf b hb).1⟩⟩;rw[a2p hi];exact st'
 done:=by
  intro X hP hw hK hcm ht i pins s σ H E I hf st hg;subst hP hw hK;obtain⟨f0,f1,f2,f3,f4,f5⟩:=hf it (by simp);have hi:x.cps.size<=i:=hg;rw[Nat.min_eq_right hi]at st;exact apY (I.hnd.heap I.hok) st (by simp) λh' eb=>⟨rfl,I.turned (t':=s.toks) (λb o hb e=>eb b o hb e) f0 f1 f3 f4 f5⟩
 self:=λ_ _ _ _ _ st h=>wpAny_pyIter_striter_wide st h
inductive Src where
 |lst (p:bw) (xs:List D)|imm (xs:List D)|zip (p q:bw) (xs ys:List D)|itm (p:bw) (o:Obj) (kvs:List (DK×D))|key (p:bw) (o:Obj) (t:Bool) (kvs:List (DK×D))|tpl (p:bw) (xs:List D)|enu (p:bw) (xs:List D)|nky (p:bw) (o:Obj) (kvs:List (NK×Int))
abbrev enm(xs:List D):List D:=xs.zipIdx.map λz=>.tup [.int z.2,z.1]
abbrev prs(xs ys:List D):List D:=(xs.zip ys).map λz=>.tup [z.1,z.2]
abbrev Src.items:Src->List D
 |.lst _ xs=>xs
 |.imm xs=>xs
 |.zip _ _ xs ys=>prs xs ys
 |.itm _ _ kvs=>kvs.map λz=>.tup [dkD z.1,z.2]
 |.key _ _ _ kvs=>kvs.map λz=>dkD z.1
 |.tpl _ xs=>xs
 |.enu _ xs=>enm xs
 |.nky _ _ kvs=>kvs.map λz=>nkD z.1
abbrev Src.ok(G:Gp):Src->Prop
 |.lst p xs=>bH G p=aj xs
 |.imm _=>True
 |.zip p q xs ys=>bH G p=aj xs/\bH G q=aj ys
 |.itm p o kvs=>G p=aj (.rdc o ao kvs)
 |.key p o t kvs=>G p=aj (.rdc o t kvs)
 |.tpl p xs=>G p=aj (.tpl xs)
 |.enu p xs=>G p=aj (.tpl xs)
 |.nky p o kvs=>G p=aj (.rnm o kvs)
abbrev a9Y(K:Fg)(H1:Hp)(src:Src)(J:It):Prop:=∀H2 G2,Ts H1 H2->HR K H2 G2->src.ok G2 ->
 (∀i,i<src.items.length->J.go i H2)/\(∀i v H',i<src.items.length->J.yld i H2 v H'->Same H2 H'/\∃d,src.items[i]?=aj d/\RD K H' d v)/\J.stop src.items.length H2
@[simp]def TI3:=aP->Gp->(Src->Gp->Prop)->Prop
abbrev upI(K:Fg)(t:TI3):TI:=λσ H Q=>∃ρ G R,SR K H ρ σ/\HR K H G/\t ρ G R/\∀src J H' G',Ts H H'->HR K H' G'->a9Y K H' src J->R src G'->Q J H'
@[simp]def PI3(X:Cx)(tg iter:jq)(t:TI3):Prop:=PI X tg iter (upI X.K t)
abbrev signs(z:Str):List D:=z.cps.toList.map λc=>.str ⟨#[c]⟩
abbrev a6K(te:cJ):TI3:=λρ G R=>te ρ G λx G1=>match x with
 |.ref p=>(match bH G1 p with
  |some xs=>R (.lst p xs) G1
  |none=>False)
 |.tup xs=>R (.imm xs) G1
 |.str z=>R (.imm (signs z)) G1
 |_=>False
def adR{K:Fg}:a9Y K H1 (.lst p xs) (Itl K p):=λH2 G2 t g ok=>by
 obtain⟨vs,hq,rv⟩:=cC g (show bH G2 p=aj xs from ok);refine⟨λi hi=>?_,λi v H' hi hy=>?_,⟨vs,hq,a2a rv.length.symm⟩⟩
 .have hi':i<xs.length:=hi;obtain⟨y,e1,_⟩:=rv.get (gV hi');exact⟨vs,y,hq,e1⟩
 .obtain⟨rfl,hy⟩:=hy;obtain⟨d,e1,e2⟩:=rv.aqI (hy vs hq);exact⟨.refl _,d,e1,e2⟩
def ahW{K:Fg}(hq:SqT K H1 a vs)(rv:dB K H1 xs vs):a9Y K H1 (.imm xs) (Itt K a):=λH2 G2 t g ok=>by
 have hq2:=t.sqT hq;have rv2:=rv.mono t;refine⟨λi hi=>?_,λi v H' hi hy=>?_,⟨vs,hq2,a2a rv.length.symm⟩⟩
 .have hi':i<xs.length:=hi;obtain⟨y,e1,_⟩:=rv2.get (gV hi');exact⟨vs,y,hq2,e1⟩
 .obtain⟨rfl,hy⟩:=hy;obtain⟨d,e1,e2⟩:=rv2.aqI (hy vs hq2);exact⟨.refl _,d,e1,e2⟩
def a9Z{K:Fg}:a9Y K H1 (.imm (signs z)) (Its z):=λH2 G2 t g ok=>by
 have hl:(signs z).length=z.cps.size:=by simp[signs]
 refine⟨λi hi=>?_,λi v H' hi hy=>?_,?_⟩
 .have:i<(signs z).length:=hi;rw[hl]at this;exact this
 .obtain⟨rfl,c,hc,rfl⟩:=hy;exact⟨.refl _,.str ⟨#[c]⟩,by simp[Src.items,signs,hc],.str _⟩
 .show z.cps.size<=(signs z).length;rw[hl];exact dz _
def ahX{K:Fg}:a9Y K H1 (.imm ((kj n).map λ(i:Nat)=>.int (lo+(i:Int)))) (Itr lo n):=λH2 G2 t g ok=>by
 refine⟨λi hi=>?_,λi v H' hi hy=>?_,?_⟩
 .have hi':i<n:=by simpa[Src.items]using hi
  exact hi'
 .obtain⟨rfl,rfl⟩:=hy;have hi':i<n:=by simpa[Src.items]using hi
  exact⟨.refl _,.int (lo+i),by simp[Src.items,hi'],.int _⟩
 .show n<=_;simp[Src.items]
section
variable{X:Cx}
def PI.imp{t:TI}(h:PI X tg e t)(k:∀σ H Q,t' σ H Q->t σ H Q):PI X tg e t':=λpins s σ H Q I q=>h pins s σ H Q I (k _ _ _ q)
private theorem aMJ(hl:cO X l te):PI3 X tg l (a6K te):=by
 intro pins s σ H R I h;obtain⟨ρ,G,R3,sr,g,q,k⟩:=h
 refine dZ (hl pins s σ H (λv H1=>Ts H H1/\∃x G1,RD X.K H1 x v/\HR X.K H1 G1/\(match x with
  |.ref p=>(match bH G1 p with
   |some xs=>R3 (.lst p xs) G1
   |none=>False)
  |.tup xs=>R3 (.imm xs) G1
  |.str z=>R3 (.imm (signs z)) G1
  |_=>False)) I ⟨ρ,G,_,sr,g,q,λv H1 x G1 t1 r g1 q1=>⟨t1,x,G1,r,g1,q1⟩⟩) λv s1 ⟨x,H1,I1,r1,t1,d,G1,rd,g1,q1⟩=>?_
 cases rd with
 |ref a =>
  have q1':(match bH G1 a with
   |some xs=>R3 (.lst a xs) G1
   |none=>False):=q1
  split at q1'
  .rename_i xs e;cases r1;obtain⟨vs,hq,rv⟩:=cC g1 e;obtain⟨its,rv',p,hz⟩:=I1.list hq;refine a2f p.isList ?_;refine⟨s1.heap.objs.size,[s1.heap.objs.size],_,_,H1,rfl,I1.kept (t':=s1.toks) λb o e=>cg _ e,adA a _,⟨_,iw _ rfl,rfl,rfl⟩,λb hb=>?_,k _ _ H1 G1 t1 g1 adR q1'⟩;have e:b=s1.heap.objs.size:=by simpa using hb
   subst e;exact I1.a8G (dz _) (I1.hok.fresh (dz _))
  .exact q1'.elim
 |@tup a vs xs hq rv =>
  cases r1;obtain⟨its,rv',p,hz⟩:=I1.tuple hq;refine wpAny_pyIter_tuple (show s1.heap.IsTuple a its.toArray from p) ?_;refine⟨s1.heap.objs.size,[s1.heap.objs.size],_,_,H1,rfl,I1.kept (t':=s1.toks) λb o e=>cg _ e,a9I a _,⟨_,iw _ rfl,rfl,rfl⟩,λb hb=>?_,k _ _ H1 G1 t1 g1 (ahW hq rv) q1⟩;have e:b=s1.heap.objs.size:=by simpa using hb
  subst e;exact I1.a8G (dz _) (I1.hok.fresh (dz _))
 |str z =>
  obtain⟨t,rfl⟩:=r1;cases ha:z.cps.all (· <128)
  .refine wpAny_pyIter_wide ha ?_;refine⟨s1.heap.objs.size,[s1.heap.objs.size],_,_,H1,rfl,I1.kept (t':=s1.toks) λb o e=>cg _ e,adQ _ z t,?_,λb hb=>?_,k _ _ H1 G1 t1 g1 a9Z q1⟩
   .rw[Nat.zero_min];exact⟨_,iw _ rfl,rfl,rfl⟩
   .have e:b=s1.heap.objs.size:=by simpa using hb
    subst e;exact I1.a8G (dz _) (I1.hok.fresh (dz _))
  .refine wpAny_pyIter_ascii ha ?_;refine⟨s1.heap.objs.size,[s1.heap.objs.size],_,_,H1,rfl,I1.kept (t':=s1.toks) λb o e=>cg _ e,adP _ z t,?_,λb hb=>?_,k _ _ H1 G1 t1 g1 a9Z q1⟩
   .rw[Nat.zero_min];exact⟨_,iw _ rfl,rfl,rfl⟩
   .have e:b=s1.heap.objs.size:=by simpa using hb
    subst e;exact I1.a8G (dz _) (I1.hok.fresh (dz _))
 |_=>exact q1.elim
abbrev acA(lo hi:Int):List D:=(kj (hi - lo).toNat).map λ(i:Nat)=>.int (lo+(i:Int))
abbrev a3S(ta:xG):TI3:=λρ G R=>ta ρ G λxs G1=>match xs with
 |[.int j]=>-(2^62)<=j/\j<2^62/\R (.imm (acA 0 j)) G1
 |_=>False
def aGH{a:jq}{p:Pos}(hg:Gl X "range")(hm:X.mg "range"=au)(ha:PA3 X [a] ta)(hs:ji [a] X.env=[(ao,eval a X.env)]):PI3 X tg (.Call (.Name "range" p) [a] [] pos) (a3S ta) :=
 PI.imp (adB hg hm ha hs) λσ H Q h=>by
 obtain⟨ρ,G,R,s,g,q,k⟩:=h;refine⟨ρ,G,_,s,g,q,λvs H1 ds G1 t1 r g1 h1=>?_⟩;cases r with
 |nil=>exact h1.elim
 |cons r rr =>
  cases rr with
  |cons _ _=>cases r<;>exact False.elim h1
  |nil =>
   cases r with
   |int j =>
    obtain⟨l1,l2,h1⟩:=h1;refine⟨j,rfl,l1,l2,k _ _ H1 G1 t1 g1 ?_ h1⟩;unfold acA;rw[show(j - 0).toNat=j.toNat by omega];exact ahX
   |_=>exact False.elim h1
end
end
variable{env:Env}{j:Nat}
section
abbrev sV(cells:List (Str×bw)):List (Str×uw)->List (Str×bw)->List (Str×bw)
 |[],cs=>cs
 |(n,k)::r,cs=>sV cells r (if k=.free then(match cells.lookup n with
  |some a=>(n,a)::cs
  |none=>cs)else cs)
def wB{scope:zc}(h:∀y∈scope.names,y.2=.free->∃c,env.cells.lookup y.1=aj c):closureFor scope env=pure (sV env.cells scope.names []):=by
 unfold closureFor
 have all:∀(l:List (Str×uw))(cs:List (Str×bw)),(∀y∈l,y.2=.free->∃c,env.cells.lookup y.1=aj c) ->
   (forIn l cs λ(x:Str×uw)(r:List (Str×bw))=>(if(x.2==uw.free)=ak then do
    let a ←cellOf env x.1
    pure (ForInStep.yield ((x.1,a)::r))else pure (ForInStep.yield r):Sem (ForInStep (List (Str×bw)))))=(pure (sV env.cells l cs):Sem (List (Str×bw))):=by
  intro l
  induction l with
  |nil=>intro cs _;rfl
  |cons y r ih =>
   intro cs hl;obtain⟨n,k⟩:=y;rw[List.forIn_cons];by_cases hk:k=.free
   .subst hk;obtain⟨c,hc⟩:=hl (n,.free) (by simp) rfl;have e:cellOf env n=pure c:=by unfold cellOf;rw[hc]
    simp only[beq_self_eq_true,if_true,e];show(forIn r ((n,c)::cs) _:Sem _)=_;rw[ih _ λy hy=>hl y (by simp[hy])];simp only[sV,if_true,hc]
   .have hk':(k==uw.free)=ao:=by simpa using hk
    simp only[hk',qe,if_false];show(forIn r cs _:Sem _)=_;rw[ih _ λy hy=>hl y (by simp[hy])];simp only[sV,if_neg hk]
 have z:=all scope.names [] h;exact congrArg (λm=>m >>= λcs=>pure cs) z
private theorem m9{cells:List (Str×bw)}:∀{l:List (Str×uw)}{cs:List (Str×bw)}{y:Str}{c:bw},(sV cells l cs).lookup y=aj c->(∀c,cs.lookup y=aj c->cells.lookup y=aj c)->cells.lookup y=aj c
 |[],cs,y,c,h,k=>k c h
 |(n,kd)::r,cs,y,c,h,k=>by
  unfold sV at h;refine m9 h λc' h'=>?_;by_cases hk:kd=.free
  .rw[if_pos hk]at h';split at h'
   .rename_i a ha;rw[ud]at h';split at h'
    .rename_i e;have e':y=n:=beq_iff_eq.mp e;subst e';rw[ha];exact h'
    .exact k c' h'
   .exact k c' h'
  .rw[if_neg hk]at h';exact k c' h'
def aa0{cells:List (Str×bw)}:∀{l:List (Str×uw)}{cs:List (Str×bw)}{y:Str},(∃c,cs.lookup y=aj c)->∃c,(sV cells l cs).lookup y=aj c
 |[],cs,y,h=>h
 |(n,kd)::r,cs,y,h=>by
  unfold sV;refine aa0 ?_;by_cases hk:kd=.free
  .rw[if_pos hk];split
   ·rw[ud];split
    ·exact⟨_,rfl⟩
    .exact h
   .exact h
  .rw[if_neg hk];exact h
def a6L{cells:List (Str×bw)}{c:bw}(hc:cells.lookup y=aj c):∀{l:List (Str×uw)}{cs:List (Str×bw)},(y,uw.free)∈l->∃c,(sV cells l cs).lookup y=aj c
 |[],cs,h=>by simp at h
 |(n,kd)::r,cs,h=>by
  unfold sV;rcases jd.mp h with e|h
  .cases e;refine aa0 ?_;rw[if_pos rfl,hc];simp
  .exact a6L hc h
private theorem mem_of_lookup{α:Type}:∀{l:List (Str×α)}{y:Str}{k:α},l.lookup y=aj k->(y,k)∈l
 |[],_,_,h=>by simp at h
 |(n,kd)::r,y,k,h=>by
  rw[ud]at h;split at h
  .rename_i e;have e':y=n:=beq_iff_eq.mp e;cases h;subst e';simp
  .exact ou _ (mem_of_lookup h)
structure a00(X:Cx)(xs:List Str)(scope:zc):Prop where
 kind:scope.kind=.function
 alH:∀y∈scope.names,y.2≠.cell
 locs:∀y∈scope.names,y.2=.local->scope.names.lookup y.1=aj .local
 var:∀x∈xs,scope.names.lookup x=aj .local
 frees:∀y∈scope.names,y.2=.free->X.env.kindOf y.1=aj .cell∨X.env.kindOf y.1=aj .free
 out:∀x∈xs,x∉X.N
 nd:xs.Nodup
 only:∀y∈X.N,scope.names.lookup y≠aj .local
@[simp]def rH(X:Cx)(xs:List Str)(scope:zc)(C:bw)(s₃:cu)(H₃:Hp)(fp:List bw)(pins:List (bw×Obj)):Cx :=
 {X with N:=xs++X.N,s₀:=s₃,H₀:=H₃,env:=compEnvC scope (sV X.env.cells scope.names []) C X.env,outer:=X.stack,stack:=X.stack,ex:=fp,fn:=λ_=>ao,pn:=X.pn++pins,xe:=λ_ _=>False}
abbrev nn(xs:List Str)(σ:St):St:=xs.map (λ_=>au)++σ
def au2{xs:List Str}{i:Nat}{v:V}(h:(nn xs σ)[i]?=aj (aj v)):∃j,i=xs.length+j/\σ[j]?=aj (aj v):=by
 unfold nn at h;by_cases c:i<xs.length
 .rw[a0p (by simpa using c)]at h;simp at h
 .rw[zf (by simpa using c)]at h;exact⟨i - xs.length,by omega,by simpa using h⟩
def anR{α:Type}{xs ys:List α}:(xs++ys)[xs.length+j]?=ys[j]?:=by
 rw[zf (by omega)];congr 1;omega
def gK{env:Env}{k:uw}:∀{names:List (Str×uw)},(names.map λ(n,k)=>if(k==.free&&env.scope.kind==.function&&env.kindOf n==aj .cell)then(n,.cell)else(n,k)).lookup y=aj k ->
  ∃k',names.lookup y=aj k'/\(k=k'∨(k=.cell/\k'=.free))
 |[],h=>by simp at h
 |(n,kd)::r,h=>by
  rw[iz]at h;by_cases hc:(kd==.free&&env.scope.kind==.function&&env.kindOf n==aj .cell)=ak
  .have h':yd y ((n,uw.cell)::(r.map λ(n,k)=>if(k==.free&&env.scope.kind==.function&&env.kindOf n==aj .cell)then(n,.cell)else(n,k)))=aj k:=by
    simp only[hc,if_true]at h;exact h
   rw[ud]at h' ⊢;cases hx:y==n with
   |true =>
    rw[hx]at h';cases h';refine⟨kd,rfl,.inr ⟨rfl,?_⟩⟩;simp only[bx,beq_iff_eq]at hc;exact hc.1.1
   |false =>
    rw[hx]at h';exact gK h'
  .have h':yd y ((n,kd)::(r.map λ(n,k)=>if(k==.free&&env.scope.kind==.function&&env.kindOf n==aj .cell)then(n,.cell)else(n,k)))=aj k:=by
    simp only[hc,if_false]at h;exact h
   rw[ud]at h' ⊢;cases hx:y==n with
   |true =>
    rw[hx]at h';cases h';exact⟨_,rfl,.inl rfl⟩
   |false =>
    rw[hx]at h';exact gK h'
end
variable{b:bw}{tk:Nat}
section
section
variable{X:Cx}{pins:List (bw×Obj)}{s:cu}
def afH(I:Inv X pins σ H s)(hb:b∈frs X.stack):b=X.env.locals∨b∈X.fs:=jd.mp (I.akT b hb)
def aGI(I:Inv X pins σ H s)(c:a00 X xs scope)(hC:s.heap.objs.size<=C)(hf:∀b∈fp,a8F X pins H b/\b<s.heap.objs.size):(rH X xs scope C s H fp pins).Ok where
 mod:=I.ok.mod
 kind:=c.kind
 glob:=I.ok.glob
 blt:=I.ok.blt
 above:=hC
 inj:=λy z d h1 h2=>I.ok.inj y z d (m9 h1 λ_ h=>by simp at h) (m9 h2 λ_ h=>by simp at h)
 has:=λy h=>by
  have hy:(y,uw.free)∈scope.names:=by
   rcases h with h|h
   .obtain⟨k',e,z⟩:=gK (env:=X.env) (names:=scope.names) h;rcases z with z|⟨_,z⟩
    .subst z;exact absurd rfl (c.alH _ (mem_of_lookup e))
    .subst z;exact mem_of_lookup e
   .obtain⟨k',e,z⟩:=gK (env:=X.env) (names:=scope.names) h;rcases z with z|⟨z,_⟩
    .subst z;exact mem_of_lookup e
    .cases z
  obtain⟨d,hd⟩:=I.ok.has y (c.frees _ hy rfl);exact a6L hd hy
 cab:=λ_ _ h=>absurd h (by simp)
 hd:=I.ok.hd
 frames:=I.ok.frames
 stk:=.inl rfl
 exf:=λb hb=>by
  obtain⟨⟨f0,f1,f2,f3,f4,f5⟩,lt⟩:=hf b hb;exact⟨jc (jo lt hC),λy d h=>f4 y d (m9 h λ_ h=>by simp at h)⟩
 bs:=λb o e=>I.bs b o e
 bsz:=qu I.ok.bsz I.sz
 ah6:=λb o e hb=>by
  obtain⟨⟨f0,f1,f2,f3,f4,f5⟩,lt⟩:=hf b hb;rcases f3 with z|z
  .exact I.ok.ah6 b o e z
  .exact absurd (jo (gw e) (qu I.ok.bsz z)) (vq _)
 akS:=λb hb hs=>by
  obtain⟨⟨f0,f1,f2,f3,f4,f5⟩,lt⟩:=hf b hb;rcases afH I hs with z|z
  .exact f1 z
  .exact f2 z
 a1X:=I.stack
 frf:=λb hb=>I.aeU b hb
def aGJ(I:Inv X pins σ H s)(c:a00 X xs scope)(hC:s.heap.objs.size=C)(hf:∀b∈fp,a8F X pins H b/\b<s.heap.objs.size){h₁:jm}{m:Str->Option aq}(hn:h₁.Ns C m)(hk:∀b o,s.heap.get? b=aj o->h₁.get? b=aj o) :
  Inv (rH X xs scope C s H fp pins) [] (nn xs σ) H {s with heap:=h₁,toks:=tk}:=by
 have lt:∀b o,s.heap.get? b=aj o->b≠C:=λb o e=>by rw[←hC];exact jc (gw e)
 refine⟨aGI I c (a2a hC) hf,rfl,I.bare,Un.kept hk,⟨m,hn,λi y v e1 e2 e3=>?_⟩,λy d e=>?_,I.hok.fresh (a2a hC),λy d e=>I.pL y d (m9 e λ_ h=>by simp at h),λp hp=>?_,I.hok.kept hk,by simp[nn,I.len],I.hnd,I.tup⟩
 .obtain⟨i,rfl,e2'⟩:=au2 e2
  .have e1':X.N[i]?=aj y:=anR.symm.trans e1;have hy:y∈X.N:=jz e1'
   have free:(y,uw.free)∈scope.names:=by
    have e3':∃k,(relabel scope X.env).names.lookup y=aj k/\(k=.local∨k=.cell∨k=.free):=by
     rcases e3 with h|h|h
     .exact⟨_,h,.inl rfl⟩
     .exact⟨_,h,.inr (.inl rfl)⟩
     .exact⟨_,h,.inr (.inr rfl)⟩
    obtain⟨k,h,hk⟩:=e3';obtain⟨k',e,z⟩:=gK (env:=X.env) (names:=scope.names) h;rcases z with z|⟨_,z⟩
    .subst z;rcases hk with rfl|rfl|rfl
     .exact absurd e (c.only y hy)
     .exact absurd rfl (c.alH _ (mem_of_lookup e))
     .exact mem_of_lookup e
    .subst z;exact mem_of_lookup e
   have hkd:=c.frees _ free rfl;obtain⟨m',hn',hlo⟩:=I.loc;have vis:Vis X.env.scope y:=hkd.elim (λz=>.inr (.inl z)) λz=>.inr (.inr z);obtain⟨u,r,l⟩:=hlo i y v e1' e2' vis;refine⟨u,r,.inr ⟨?_,?_⟩⟩
   .rcases e3 with h|h|h
    .obtain⟨k',e,z⟩:=gK (env:=X.env) (names:=scope.names) h;rcases z with z|⟨z,_⟩
     .subst z;exact absurd e (c.only y hy)
     .cases z
    .exact .inl h
    .exact .inr h
   .rcases l with⟨hl,_⟩|⟨_,d,hd,hcell⟩
    .rcases hkd with z|z
     .rw[z]at hl;cases hl
     .rw[z]at hl;cases hl
    .obtain⟨d',hd'⟩:=a6L (cells:=X.env.cells) (l:=scope.names) (cs:=[]) hd free;have:=m9 hd' λ_ h=>by simp at h
     rw[hd]at this;cases this;refine⟨d,hd',?_⟩;obtain⟨o,ho,hod⟩:=hcell;exact⟨o,hk _ _ ho,hod⟩
 .obtain⟨w,o,ho,hod⟩:=I.cell y d (m9 e λ_ h=>by simp at h);exact⟨w,o,hk _ _ ho,hod⟩
 .have hp':p∈X.pn++pins:=by simpa using hp
  obtain⟨e,n,ne,nf,d⟩:=I.pin p hp';refine⟨hk _ _ e,n,lt _ _ e,λz=>?_,d⟩;rcases afH I z with z|z
  .exact ne z
  .exact nf z
def azQ(I:Inv X pins σ H s)(hC:s.heap.objs.size=C)(hf:∀b∈fp,a8F X pins H b/\b<s.heap.objs.size){s':cu}(J:Inv (rH X xs scope C s H fp pins) a4R σ' H' s')(hs:ni C s'.heap h') :
  Inv X pins σ H' {s' with heap:=h',toks:=tk}:=by
 have ne:∀b o,s.heap.get? b=aj o->b≠C:=λb o e=>by rw[←hC];exact jc (gw e)
 have u:Un (frs X.stack) fp H H' s.heap s'.heap:=J.base;have hfree:H' C=au:=J.free;refine I.call' (ch:=fp) J.os ⟨λb o e n hb hx=>?_,λb o e n hb hx=>?_,u.free,λb o e hx=>?_,u.tups,u.mQ,u.zJ⟩ (λb o e=>?_) J.bare (λb hb=>?_)
 .exact(hs.2 b (ne b o e)).trans (u.keep b o e n hb hx)
 .obtain⟨sl,e1⟩:=u.slot b o e n hb hx;exact⟨sl,(hs.2 b (ne b o e)).trans e1⟩
 .obtain⟨o',e1⟩:=u.there b o e hx;exact⟨o',(hs.2 b (ne b o e)).trans e1⟩
 .refine(J.hok b o e).stay (λd w hd q=>(hs.2 d ?_).trans q) (λ_ q=>q) λ_ _ q=>q;rintro rfl;rcases hd with z|z
  .rw[z]at hfree;rw[e]at hfree;cases hfree
  .rw[hfree]at z;cases z
 .obtain⟨⟨f0,f1,f2,f3,f4,f5⟩,lt⟩:=hf b hb;exact⟨f3,f1,f4,f5⟩
end
end
variable{pins:List (bw×Obj)}{A:jx}
section
abbrev aa1:TT3:=λ_ G R=>R ak G
abbrev aqS(X:Cx)(ifs:List jq)(tc:TT3):Prop :=
 ∀(pins:List (bw×Obj))(s:cu)(σ:St)(H:Hp)(Q:Bool->Hp->Prop),Inv X pins σ H s->upT X.K tc σ H Q ->
  dg (dw X.prog X.w) X.A (forIn ifs ak λc r=>if r=ak then do let ok ←isTrue c X.env (eval c X.env);pure (ForInStep.yield ok)else pure (ForInStep.yield r)) (TP X pins σ Q) X.xe s
def azR:aqS X [] aa1:=λpins s σ H Q I h=>by
 obtain⟨ρ,G,R,sr,g,q,k⟩:=h;exact cj ⟨H,I,k ak H G (.refl H) g q⟩
def azS{c:jq}{tc:TT3}(hc:PT3 X c tc):aqS X [c] tc:=λpins s σ H Q I h=>by
 rw[List.forIn_cons];simp only[if_true];refine bh (bh (dZ (hc pins s σ H Q I h) λb s1 q=>?_));exact cj (cj q)
section
variable{X:Cx}{x:Str}{xs:List Str}{tgt:jq}{dv:D->Option (List D)}{scope:zc}{iter elt:jq}{ifs:List jq}{pos:Pos}{ti:TI3}{tc:TT3}{te:cJ}
structure azT(X:Cx)(pins:List (bw×Obj))(H':Hp)(C:bw)(h:jm):Prop where
 ns:∃m,h.Ns C m
 free:H' C=au
 loc:C≠X.env.locals
 young:X.s₀.heap.objs.size<=C
 cells:∀y d,X.env.cells.lookup y=aj d->d≠C
 pins:∀p∈X.pn++pins,p.1≠C
def azT.turn{X:Cx}{s:cu}(o:azT X pins H' C s.heap)(I:Inv X pins σ H' s)(hs:ni C s.heap h'):Inv X pins σ H' {s with heap:=h' } :=
 I.turned (t':=s.toks) (λb ob hb e=>(hs.2 b hb).trans e) o.free o.loc (.inr o.young) o.cells o.pins
abbrev azU(Y:Cx)(tgt:jq)(xs:List Str)(dv:D->Option (List D))(σ:St):Prop:=∀(pins:List (bw×Obj))(s:cu)(H:Hp)(v:V)(u:aq)(d:D)(ds:List D),Inv Y pins (nn xs σ) H s->RelV v u->RD Y.K H d v->dv d=aj ds ->
 dg (dw Y.prog Y.w) Y.A (assign tgt Y.env u) (λ_ s'=>∃vs,dB Y.K H ds vs/\Inv Y pins (vs.map aj++σ) H s') Y.xe s
def au3{K:Fg}(s:SR K H ρ σ):∀{ds:List D}{vs:List V},dB K H ds vs->SR K H (ds.map aj++ρ) (vs.map aj++σ)
 |_,_,.nil=>s
 |_,_,.cons h r=>.some h (au3 s r)
private theorem au4{prog:jt}{w:jj}{elt iter:jq}{ifs:List jq}{scope:zc}(J:Nat->cu->Prop)
  (turn:∀n s,J n s->dg (dw prog w) A (a0g it) (λr s1=>match r with
   |none=>R (.ok .next) s1
   |some v=>dg (dw prog w) A (a1v target it v) (λ_ s1'=>dg (dw prog w) A (assign target env v) (λ_ s2 =>
     dg (dw prog w) A (forIn ifs ak λc r=>if r=ak then do let ok ←isTrue c env (eval c env);pure (ForInStep.yield ok)else pure (ForInStep.yield r)) (λok s3 =>
      if ok=ak then dg (dw prog w) A (eval elt env) (λx s4 =>
         dg (dw prog w) A (call (.builtin "list.append") [acc,x]) (λ_ s5=>∃m,m<n/\J m s5) (notedBy (dw prog w) A env λe s'=>R (.error e) s') s4) (notedBy (dw prog w) A env λe s'=>R (.error e) s') s3
      else ∃m,m<n/\J m s3) (notedBy (dw prog w) A env λe s'=>R (.error e) s') s2) (notedBy (dw prog w) A env λe s'=>R (.error e) s') s1') (notedBy (dw prog w) A env λe s'=>R (.error e) s') s1) (notedBy (dw prog w) A env λe s'=>R (.error e) s') s)
  (n:Nat)(h:J n s):a0X (dw prog w) A (.compLoop (.ListComp elt [⟨target,iter,ifs,0⟩] scope pos) 0 it acc env) R s:=by
 refine codeAny_loop rfl J (λn s hJ=>?_) n h;show dg _ A ((compTurn (.ListComp elt [⟨target,iter,ifs,0⟩] scope pos) 0 it acc env).onRaise (λz=>do noteFrame z env;theTreesLotGoes z)) _ _ s;refine wpAny_noted ?_;rw[compTurn_list];refine bh (wpAny_standAt (bh (qy (turn n s hJ) (λr s1 h1=>?_) λ_ _ z=>z)));cases r with
 |none=>exact cj h1
 |some v =>
  refine bh (qy h1 (λ_ s1' h1'=>?_) λ_ _ z=>z);refine bh (qy h1' (λ_ s2 h2=>bh (qy h2 (λok s3 h3=>?_) λ_ _ z=>z)) λ_ _ z=>z);cases ok with
  |false=>exact cj ⟨rfl,h3⟩
  |true=>exact bh (bh (qy h3 (λx s4 h4=>bh (qy h4 (λ_ s5 h5=>cj (cj ⟨rfl,h5⟩)) λ_ _ z=>z)) λ_ _ z=>z))
private theorem adS(c:a00 X xs scope)(hT:∀C s H fp pins σ,azU (rH X xs scope C s H fp pins) tgt xs dv σ)(hdv:∀d ds,dv d=aj ds->ds.length=xs.length)(hc:∀C s H fp pins,aqS (rH X xs scope C s H fp pins) ifs tc)(he:∀C s H fp pins,cO (rH X xs scope C s H fp pins) elt te){s2:cu}{σ:St}{H H2:Hp}{ρ:aP}{G1:Gp}{R:iB}{it:bw}{fp:List bw}{tn:Nat->jm->Prop}{J:It}{src:Src}{RR:aq->bw->Result->cu->Prop}(sr:SR X.K H ρ σ)(I2:Inv X pins σ H2 s2)(T:Turn X.calm X.tp X.prog X.w X.K tgt J fp it tn)(st2:tn 0 s2.heap)(f2:∀b∈fp,a8F X pins H2 b)(t1:Ts H H2)(g1:HR X.K H2 G1)(sj:a9Y X.K H2 src J)
  (hlen:src.items.length<dh)(body:∀p,G1 p=au->∃P:Nat->List D->Gp->Prop,P 0 [] (aH G1 p (.lst [])) /\
   (∀k ds G,k<=src.items.length->P k ds G->src.ok G/\G p=aj (.lst ds)/\ds.length<=k) /\
   (∀k d ds G,src.items[k]?=aj d->P k ds G->∃ys,dv d=aj ys/\tc (ys.map aj++ρ) G λb G2=>if b=ak then te (ys.map aj++ρ) G2 λy G3=>G3 p=aj (.lst ds)/\P (k+1) (ds++[y]) (aH G3 p (.lst (ds++[y])))else P (k+1) ds G2) /\
   ∀ds G,P src.items.length ds G->∃G0,Le G0 G/\R (.ref p) G0)
  (hRR:∀Da C s5 H' G0,Inv X pins σ H' s5->azT X pins H' C s5.heap->Ts H H'->HR X.K H' G0->R (.ref Da) G0->RR (.ref Da) C (.ok .next) s5) :
  dg (dw X.prog X.w) X.A (newList []) (λacc s₃=>dg (dw X.prog X.w) X.A (newFunctionEnv scope X.env.globals (sV X.env.cells scope.names []) [] X.env.qual au .none (aj X.env)) (λcenv s₄ =>
   a0X (dw X.prog X.w) X.A (.compStart (.ListComp elt [⟨tgt,iter,ifs,0⟩] scope pos) 0 (.ref it) acc {cenv with scope:=relabel scope X.env}) (RR acc cenv.locals) s₄) X.xe s₃) X.xe s2:=by
 refine zx ?_;have I3:=I2.aLH (its:=[]) (ys:=[]) (t':=s2.toks) .nil (by decide);have hD:H2 s2.heap.objs.size=au:=I2.fresh;have kf:=qX I3;have gD:G1 s2.heap.objs.size=au:=jE g1 hD kf;obtain⟨P,p0,pok,pst,pend⟩:=body _ gD
 have ltD:∀b∈fp,b<s2.heap.objs.size:=λb hb=>by
  obtain⟨o,e,_⟩:=T.obj 0 _ st2 b hb;exact gw e
 have hsz3:(s2.heap.push {cls:=.type "list",data:=.seq ([]:List aq).toArray}).objs.size=s2.heap.objs.size+1:=a2x ..
 have hf3:∀b∈fp,a8F X pins (upd H2 s2.heap.objs.size (.lst [])) b/\b<(s2.heap.push {cls:=.type "list",data:=.seq ([]:List aq).toArray}).objs.size:=λb hb=>by
  obtain⟨f0,fr⟩:=f2 b hb;exact⟨⟨by rw[bA (jc (ltD b hb))];exact f0,fr⟩,by rw[hsz3];exact a1i (ltD b hb)⟩
 refine wpAny_newFunctionEnv c.alH (by intro y hy;simp at hy) (λh₁ hns₁ hsb₁=>?_) c.kind;dsimp only at hns₁ hsb₁ ⊢;generalize hH3:s2.heap.push {cls:=.type "list",data:=.seq ([]:List aq).toArray}=h3 at *;generalize hDe:s2.heap.objs.size=Da at *;have aD8:∀b o,h3.get? b=aj o->h₁.get? b=aj o:=λb o e=>hsb₁.extBut b o (jc (gw e)) (cg _ e)
 show a0X (dw X.prog X.w) X.A (Code.compStart (elt.ListComp [{target:=tgt,iter:=iter,ifs:=ifs,is_async:=0}] scope pos) 0 (aq.ref it) (aq.ref Da) (compEnvC scope (sV X.env.cells scope.names []) h3.objs.size X.env))
  (RR (.ref Da) h3.objs.size) {s2 with heap:=h₁,toks:=s2.toks+([]:List (Str×aq)).length}
 have J0:=aGJ (tk:=s2.toks+([]:List (Str×aq)).length) I3 c rfl hf3 hns₁ aD8;have st1:tn 0 h₁:=T.keep _ _ _ st2 λb hb o e=>aD8 b o (by rw[←hH3];exact cg _ e);have g0:HR X.K (upd H2 Da (.lst [])) (aH G1 Da (.lst [])):=g1.put (u:=.lst []) hD ⟨[],aM,.nil⟩;have ts0:Ts H2 (upd H2 Da (.lst [])):=.same (bO hD)
 have loop:∀s₄:cu,Inv (rH X xs scope h3.objs.size {s2 with heap:=h3,toks:=s2.toks} (upd H2 Da (.lst [])) fp pins) [] (nn xs σ) (upd H2 Da (.lst [])) s₄->tn 0 s₄.heap ->
   a0X (dw X.prog X.w) X.A (.compLoop (.ListComp elt [⟨tgt,iter,ifs,0⟩] scope pos) 0 (.ref it) (.ref Da) (compEnvC scope (sV X.env.cells scope.names []) h3.objs.size X.env)) (RR (.ref Da) h3.objs.size) s₄:=by
  intro s₄ J4 st4
  refine au4 (λn s'=>∃i ds H' G',Inv (rH X xs scope h3.objs.size {s2 with heap:=h3,toks:=s2.toks} (upd H2 Da (.lst [])) fp pins) [] (nn xs σ) H' s'/\tn i s'.heap/\(∀b∈fp,H' b=au)/\HR X.K H' G'/\P i ds G'/\i<=src.items.length/\n=src.items.length - i/\Ts H2 H') (λn s' hI=>?_) src.items.length
   ⟨0,[],_,_,J4,st4,λb hb=>(hf3 b hb).1.1,g0,p0,ur _,by simp,ts0⟩
  obtain⟨i,ds,H',G',J,st,fr,g',p,hi',rfl,ts⟩:=hI;obtain⟨ok,hDl,hdl⟩:=pok i ds G' hi' p;obtain⟨sgo,aRB,aML⟩:=sj H' G' ts g' ok
  have fpX:∀{H':Hp},(∀b∈fp,H' b=au)->∀b∈fp,a8F (rH X xs scope h3.objs.size {s2 with heap:=h3,toks:=s2.toks} (upd H2 Da (.lst [])) fp pins) [] H' b:=λhn b hb=>by
   obtain⟨⟨f0,f1,f2',f3,f4,f5⟩,lt⟩:=hf3 b hb;refine⟨hn b hb,jc lt,λhs=>?_,.inl hb,λy d e=>f4 y d (m9 e λ_ h=>by simp at h),λp' hp'=>f5 p' (by simpa using hp')⟩;rcases afH I3 hs with z|z
   .exact f1 z
   .exact f2' z
  by_cases hlt:i<src.items.length
  .refine qy (T.item (rH X xs scope h3.objs.size {s2 with heap:=h3,toks:=s2.toks} (upd H2 Da (.lst [])) fp pins) rfl rfl rfl (λh=>h) (λ_ h=>h) i [] s' (nn xs σ) H' (λ_ _=>False) J (fpX fr) st (sgo i hlt)) ?_ λ_ _ z=>z.elim;rintro r s5 ⟨u,hr,h5⟩;subst hr
   obtain⟨d0,ys,hd0,ey,aRD⟩:∃d ys,src.items[i]?=aj d/\dv d=aj ys/\tc (ys.map aj++ρ) G' λb G2=>if b=ak then te (ys.map aj++ρ) G2 λy G3=>G3 Da=aj (.lst ds)/\P (i+1) (ds++[y]) (aH G3 Da (.lst (ds++[y])))else P (i+1) ds G2:=by
    have hd:src.items[i]?=aj src.items[i]:=gV hlt;obtain⟨ys,e,z⟩:=pst i _ ds G' hd p;exact⟨_,ys,hd,e,z⟩
   show dg _ _ (a1v tgt (.ref it) u) _ _ s5;refine qy h5 ?_ λ_ _ z=>z.elim;rintro _ s6 ⟨vx,H6,I6,r6,y6,st6,fr6⟩;obtain⟨sm,d,hd,rd⟩:=aRB i vx H6 hlt y6;have g':=g'.same sm;have ts:=ts.trans (.same sm);obtain rfl:d0=d:=jf.inj (hd0.symm.trans hd);have I6':=I6.pinned (fpX fr6) (T.obj _ _ st6);refine qy (hT _ _ _ _ _ _ _ s6 H6 vx u _ _ I6' r6 rd ey) ?_ λ_ _ z=>z.elim;rintro _ s7 ⟨vs,rvs,I7⟩;have lv:vs.length=xs.length:=by rw[←rvs.length];exact hdv _ _ ey
   have au5:∀{s'':cu}{σ'':St}{H'':Hp},Inv (rH X xs scope h3.objs.size {s2 with heap:=h3,toks:=s2.toks} (upd H2 Da (.lst [])) fp pins) ([]++a6E fp s6.heap) σ'' H'' s''->tn (i+1) s''.heap/\∀b∈fp,H'' b=au:=λI''=>by
    refine⟨T.keep _ _ _ st6 λb hb o e=>(I''.pin (b,o) (qz _ (qz _ (xJ hb e)))).1,λb hb=>?_⟩;obtain⟨o,e,_⟩:=T.obj _ _ st6 b hb;exact(I''.pin (b,o) (qz _ (qz _ (xJ hb e)))).2.1
   have down:∀{s'':cu}{H'':Hp},Inv (rH X xs scope h3.objs.size {s2 with heap:=h3,toks:=s2.toks} (upd H2 Da (.lst [])) fp pins) ([]++a6E fp s6.heap) (vs.map aj++σ) H'' s''->Inv (rH X xs scope h3.objs.size {s2 with heap:=h3,toks:=s2.toks} (upd H2 Da (.lst [])) fp pins) [] (nn xs σ) H'' s'':=λI'' =>
    I''.a4T.weak (by simp[nn,lv]) λj v e=>by
     obtain⟨j',rfl,e'⟩:=au2 e;rw[←lv,show vs.length=(vs.map aj).length by simp,anR];exact e'
   have sr7:SR X.K H6 (ys.map aj++ρ) (vs.map aj++σ):=au3 (sr.mono (t1.trans ts)) rvs
   refine qy (hc _ _ _ _ _ _ s7 (vs.map aj++σ) H6 (λb H8=>Ts H6 H8/\∃G8,HR X.K H8 G8/\(if b=ak then te (ys.map aj++ρ) G8 λy G3=>G3 Da=aj (.lst ds)/\P (i+1) (ds++[y]) (aH G3 Da (.lst (ds++[y])))else P (i+1) ds G8)) I7
    ⟨ys.map aj++ρ,G',_,sr7,g',aRD,λb H8 G8 t8 g8 q8=>⟨t8,G8,g8,q8⟩⟩) (λb s8 ⟨H8,I8,t8,G8,g8,q8⟩=>?_) λ_ _ z=>z.elim
   cases b with
   |false =>
    rw[if_neg (by decide)];have q8':P (i+1) ds G8:=by simpa using q8
    obtain⟨a1,a2⟩:=au5 I8;exact⟨src.items.length - (i+1),by omega,i+1,ds,H8,G8,down I8,a1,a2,g8,q8',hlt,rfl,ts.trans t8⟩
   |true =>
    rw[if_pos rfl];have q8':te (ys.map aj++ρ) G8 λy G3=>G3 Da=aj (.lst ds)/\P (i+1) (ds++[y]) (aH G3 Da (.lst (ds++[y]))):=by simpa using q8
    refine qy (he _ _ _ _ _ _ s8 (vs.map aj++σ) H8 (λvy H9=>Ts H8 H9/\∃y G9,RD X.K H9 y vy/\HR X.K H9 G9/\G9 Da=aj (.lst ds)/\P (i+1) (ds++[y]) (aH G9 Da (.lst (ds++[y])))) I8 ⟨ys.map aj++ρ,G8,_,sr7.mono t8,g8,q8',λvy H9 y G9 t9 r9 g9 q9=>⟨t9,y,G9,r9,g9,q9⟩⟩) ?_ λ_ _ z=>z.elim;rintro uy s9 ⟨vy,H9,I9,ry,t9,y,G9,ryd,g9,hG9,q9⟩;obtain⟨ws,hH9,rws⟩:=g9 Da _ hG9;have aMN:ws.length<dh:=by rw[←rws.length];omega
    refine qy (adG (X:=rH X xs scope h3.objs.size {s2 with heap:=h3,toks:=s2.toks} (upd H2 Da (.lst [])) fp pins) _ s9 (vs.map aj++σ) H9 (.ref Da) [vy] (.ref Da) [uy] (λ_ H10=>H10=upd H9 Da (.lst (ws++[vy]))) I9 rfl (.cons ry .nil) ⟨Da,ws,vy,rfl,rfl,hH9,aMN,rfl⟩) ?_ λ_ _ z=>z.elim;rintro _ s10 ⟨_,H10,I10,_,e10⟩;subst e10;obtain⟨a1,a2⟩:=au5 I10;have tt:Ts H9 (upd H9 Da (.lst (ws++[vy]))):=.turn hH9 (λ_ z=>nomatch z) (λ_ _ z=>nomatch z);exact⟨src.items.length - (i+1),by omega,i+1,ds++[y],_,_,down I10,a1,a2,g9.turn (u:=.lst (ds++[y])) tt ⟨_,aM,(rws.append (.cons ryd .nil)).mono tt⟩,q9,hlt,rfl,((ts.trans t8).trans t9).trans tt⟩
  .have ein:i=src.items.length:=by omega
   subst ein;refine qy (T.done (rH X xs scope h3.objs.size {s2 with heap:=h3,toks:=s2.toks} (upd H2 Da (.lst [])) fp pins) rfl rfl rfl (λh=>h) (λ_ h=>h) _ [] s' (nn xs σ) H' (λ_ _=>False) J (fpX fr) st aML) ?_ λ_ _ z=>z.elim;rintro r s5 ⟨hr,J5⟩;subst hr;obtain⟨m5,hn5,_⟩:=id J5.loc;obtain⟨G0,l0,q0⟩:=pend ds G' p;have I5:Inv X pins σ H' s5:=azQ (tk:=s5.toks) I3 rfl hf3 J5 (ni.refl _ _);refine hRR Da _ s5 H' G0 I5 ⟨⟨m5,hn5⟩,J5.free,a1n I3.lt,I3.sz,λy d e z=>?_,λp hp z=>?_⟩ (t1.trans ts) (g'.le l0) q0
   .obtain⟨w,o,ho,_⟩:=I3.cell y d e;rw[z]at ho;exact absurd (gw ho) (vq _)
   .have:=(I3.pin p hp).1;rw[z]at this;exact absurd (gw this) (vq _)
 exact codeAny_compStart_list (loop _ J0 st1) (T.self X.A 0 _ _ _ st1 (loop _ J0 st1))
abbrev a4X(dv:D->Option (List D))(ti:TI3)(tc:TT3)(te:cJ):cJ:=λρ G R=>ti ρ G λsrc G1=>src.items.length<dh/\∀p,G1 p=au->∃P:Nat->List D->Gp->Prop,P 0 [] (aH G1 p (.lst [])) /\
 (∀k ds G,k<=src.items.length->P k ds G->src.ok G/\G p=aj (.lst ds)/\ds.length<=k) /\
 (∀k d ds G,src.items[k]?=aj d->P k ds G->∃ys,dv d=aj ys/\tc (ys.map aj++ρ) G λb G2=>if b=ak then te (ys.map aj++ρ) G2 λy G3=>G3 p=aj (.lst ds)/\P (k+1) (ds++[y]) (aH G3 p (.lst (ds++[y])))else P (k+1) ds G2) /\
 ∀ds G,P src.items.length ds G->∃G0,Le G0 G/\R (.ref p) G0
abbrev afI(d:D):Option (List D):=some [d]
@[simp]def qL(ti:TI3)(tc:TT3)(te:cJ):cJ:=a4X afI ti tc te
def ahY(d:D)(ds:List D)(h:afI d=aj ds):ds.length=[x].length:=by
 unfold afI at h;cases h;rfl
def au6(c:a00 X xs scope)(hnd:X.N.Nodup):(xs++X.N).Nodup:=vo.mpr ⟨c.nd,hnd,λa ha b hb e=>c.out a ha (e ▸ hb)⟩
def au7(c:a00 X [x] scope)(hnd:X.N.Nodup):azU (rH X [x] scope C s H fp pins) (.Name x px) [x] afI σ:=by
 intro a4R s' H' v u d ds I r rd e;unfold afI at e;cases e;have pgn:PG (rH X [x] scope C s H fp pins) (.Name x px) (anD 0):=aeV (au6 c hnd) rfl (.inl (lookup_relabel_local (c.var x (by simp)))) (.inr (lookup_relabel_local (c.var x (by simp))));refine qy (pgn a4R s' (nn [x] σ) H' v u (λσ' H2=>σ'=[v].map aj++σ/\H2=H') I r ⟨rfl,rfl⟩) ?_ λ_ _ z=>z;rintro _ s2 ⟨σ2,H2,I2,e2,e3⟩;subst e2;subst e3;exact⟨[v],.cons rd .nil,I2⟩
def anS(c:a00 X xs scope)(hT:∀C s H fp pins σ,azU (rH X xs scope C s H fp pins) tgt xs dv σ)(hdv:∀d ds,dv d=aj ds->ds.length=xs.length)(hi:PI3 X tgt iter ti)(hc:∀C s H fp pins,aqS (rH X xs scope C s H fp pins) ifs tc)(he:∀C s H fp pins,cO (rH X xs scope C s H fp pins) elt te)
  (hs:∀y,a1j iter X.env y=pure y):cO X (.ListComp elt [⟨tgt,iter,ifs,0⟩] scope pos) (a4X dv ti tc te):=by
 intro pins s σ H Q I h;obtain⟨ρ,G,R,sr,g,q,kk⟩:=h;rw[eval_ListComp];refine wpAny_comprehension_free (use:=none) rfl hs (wB λy hy hf=>I.ok.has y.1 (c.frees y hy hf)) c.kind c.locs ?_
 refine dZ (hi pins s σ H (λJ H1=>Ts H H1/\∃src G1,HR X.K H1 G1/\a9Y X.K H1 src J/\(src.items.length<dh/\∀p,G1 p=au->∃P:Nat->List D->Gp->Prop,P 0 [] (aH G1 p (.lst [])) /\
   (∀k ds G,k<=src.items.length->P k ds G->src.ok G/\G p=aj (.lst ds)/\ds.length<=k) /\
   (∀k d ds G,src.items[k]?=aj d->P k ds G->∃ys,dv d=aj ys/\tc (ys.map aj++ρ) G λb G2=>if b=ak then te (ys.map aj++ρ) G2 λy G3=>G3 p=aj (.lst ds)/\P (k+1) (ds++[y]) (aH G3 p (.lst (ds++[y])))else P (k+1) ds G2) /\
   ∀ds G,P src.items.length ds G->∃G0,Le G0 G/\R (.ref p) G0)) I ⟨ρ,G,_,sr,g,q,λsrc J H' G' t1 g1 sj q1=>⟨t1,src,G',g1,sj,q1⟩⟩) λv s1 h1=>dZ h1 λitv s2 hz=>?_
 obtain⟨it,fp,tn,J,H2,e,I2,T,st2,f2,t1,src,G1,g1,sj,hlen,body⟩:=hz;subst e
 exact adS (RR:=λacc C=>compPost (dw X.prog X.w) X.A X.xe au (EP X pins σ Q) acc C) c hT hdv hc he sr I2 T st2 f2 t1 g1 sj hlen body λDa C s5 H' G0 I5 o ts g0 q0=>by
  obtain⟨m,hn⟩:=o.ns;exact⟨m,hn,λh' hs'=>⟨.ref Da,H',o.turn I5 hs',rfl,kk _ H' _ G0 ts (.ref Da) g0 q0⟩⟩
private theorem azV{i:Nat}(c:a00 X xs scope)(hT:∀C s H fp pins σ,azU (rH X xs scope C s H fp pins) tgt xs dv σ)(hdv:∀d ds,dv d=aj ds->ds.length=xs.length)(hnd:X.N.Nodup)(hy:X.N[i]?=aj y)(hl:Loc X.env.scope y)(hf:X.fn y=ak)(hi:PI3 X tgt iter ti)(hc:∀C s H fp pins,aqS (rH X xs scope C s H fp pins) ifs tc)(he:∀C s H fp pins,cO (rH X xs scope C s H fp pins) elt te)
  (hs:∀y,a1j iter X.env y=pure y):PS3 X (.Assign [.Name y py] (.ListComp elt [⟨tgt,iter,ifs,0⟩] scope pos) spos) (cD i (a4X dv ti tc te)):=by
 have hsw:∃b,a0h (.ListComp elt [⟨tgt,iter,ifs,0⟩] scope pos) (aj (.Name y py)) spos.line X.env=pure b:=⟨_,rfl⟩;obtain⟨b,hsw⟩:=hsw;cases b with
 |false=>exact aD4 hnd hy hl (anS c hT hdv hi hc he hs) hsw (.inl hf)
 |true =>
  intro pins s σ H F I h;obtain⟨ρ,G,E,sr,g,q,d⟩:=h;rw[exec_Assign_Name_used _ _ _ _ hsw];refine bh (wpAny_standAt (bh ?_));show dg _ X.A (do let _ ←comprehension (.ListComp elt [⟨tgt,iter,ifs,0⟩] scope pos) scope X.env _ (newList []) ao (eval iter X.env) (aj (assign (.Name y py) X.env))) _ _ s;refine bh (qy (wpAny_comprehension_free (use:=some (assign (.Name y py) X.env)) (Q:=λ_ s'=>SP X pins F .next s') rfl hs (wB λy hy hf=>I.ok.has y.1 (c.frees y hy hf)) c.kind c.locs ?_) (λ_ s' hq=>cj (cj hq)) λ_ _ e=>e)
  refine dZ (hi pins s σ H (λJ H1=>Ts H H1/\∃src G1,HR X.K H1 G1/\a9Y X.K H1 src J/\(src.items.length<dh/\∀p,G1 p=au->∃P:Nat->List D->Gp->Prop,P 0 [] (aH G1 p (.lst [])) /\
    (∀k ds G,k<=src.items.length->P k ds G->src.ok G/\G p=aj (.lst ds)/\ds.length<=k) /\
    (∀k d ds G,src.items[k]?=aj d->P k ds G->∃ys,dv d=aj ys/\tc (ys.map aj++ρ) G λb G2=>if b=ak then te (ys.map aj++ρ) G2 λy G3=>G3 p=aj (.lst ds)/\P (k+1) (ds++[y]) (aH G3 p (.lst (ds++[y])))else P (k+1) ds G2) /\
    ∀ds G,P src.items.length ds G->∃G0,Le G0 G/\E.nx (a1Y ρ i (.ref p)) G0)) I ⟨ρ,G,_,sr,g,q,λsrc J H' G' t1 g1 sj q1=>⟨t1,src,G',g1,sj,q1⟩⟩) λv s1 h1=>dZ h1 λitv s2 hz=>?_
  obtain⟨it,fp,tn,J,H2,e,I2,T,st2,f2,t1,src,G1,g1,sj,hlen,body⟩:=hz;subst e;refine adS (R:=λz G0=>E.nx (a1Y ρ i z) G0) (RR:=λacc C=>compPost (dw X.prog X.w) X.A X.xe (aj (assign (.Name y py) X.env)) (λ_ s'=>SP X pins F .next s') acc C) c hT hdv hc he sr I2 T st2 f2 t1 g1 sj hlen body λDa C s5 H' G0 I5 o ts g0 q0=>?_;show dg _ X.A (assign (.Name y py) X.env (.ref Da)) _ _ s5;refine wpAny_assign_Name (ad9 (v:=.ref Da) I5 hnd hy hl rfl ?_ (.inl hf));rintro s6 I6 ⟨a,hsb,ha⟩;obtain⟨m,hn⟩:=o.ns
  have hCa:C≠a:=by
   rcases ha with rfl|ha
   .exact o.loc
   .exact λz=>o.cells y a ha z.symm
  have o6:azT X pins H' C s6.heap:=⟨⟨m,hn.sameBut hsb hCa⟩,o.free,o.loc,o.young,o.cells,o.pins⟩;refine⟨m,hn.sameBut hsb hCa,λh' hs'=>⟨_,H',o6.turn I6 hs',d.nx _ G0 _ H' ((sr.mono ts).set (.ref Da) i) g0 q0⟩⟩
end
end
variable{ds:List D}
section
@[simp]def TG3:=D->aP->(aP->Prop)->Prop
abbrev upG(K:Fg)(t:TG3):TG:=λv σ H Q=>∃ρ d R,SR K H ρ σ/\RD K H d v/\t d ρ R/\∀ρ' σ',SR K H ρ' σ'->R ρ'->Q σ' H
@[simp]def PG3(X:Cx)(tg:jq)(t:TG3):Prop:=PG X tg (upG X.K t)
abbrev a01(i:Nat):TG3:=λd ρ Q=>Q (a1Y ρ i d)
abbrev a7S:aP->List Nat->List D->aP
 |ρ,i::is,d::ds=>a7S (a1Y ρ i d) is ds
 |ρ,_,_=>ρ
abbrev adT(is:List Nat):TG3:=λd ρ Q=>match d with
 |.tup ds=>ds.length=is.length/\Q (a7S ρ is ds)
 |_=>False
abbrev au8:St->List Nat->List V->St
 |σ,i::is,v::vs=>au8 (σ.set i (aj v)) is vs
 |σ,_,_=>σ
def SR.sets{K:Fg}:∀{is:List Nat}{ds:List D}{vs:List V}{ρ:aP}{σ:St},dB K H ds vs->SR K H ρ σ->SR K H (a7S ρ is ds) (au8 σ is vs)
 |[],_,_,_,_,_,s=>s
 |_::_,_,_,_,_,.nil,s=>s
 |i::is,_,_,_,_,.cons h r,s=>SR.sets (is:=is) r (s.set h i)
section
variable{X:Cx}
def PG.imp{t:TG}(h:PG X e t)(k:∀v σ H Q,t' v σ H Q->t v σ H Q):PG X e t':=λpins s σ H v u Q I r q=>h pins s σ H v u Q I r (k _ _ _ _ q)
def aGK{i:Nat}{x:Str}(hN:X.N.Nodup)(hi:X.N[i]?=aj x)(hx:Loc X.env.scope x)(hf:X.fn x=ak∨X.env.scope.names.lookup x=aj .local):PG3 X (.Name x pos) (a01 i) :=
 PG.imp (aeV hN hi hx hf) λv σ H Q h=>by
 obtain⟨ρ,d,R,s,r,q,k⟩:=h;exact k _ _ (s.set r i) q
structure aGL(X:Cx)(e:jq)(i:Nat):Prop where
 ex:∃x pos,e=.Name x pos/\X.N[i]?=aj x/\Loc X.env.scope x/\(X.fn x=ak∨X.env.scope.names.lookup x=aj .local)
abbrev aGM:List Nat->TGs
 |[]=>aKS
 |i::is=>aCY (anD i) (aGM is)
def anT:∀{is:List Nat}{vs:List V}{σ:St}{H:Hp}{Q:St->Hp->Prop},vs.length=is.length->Q (au8 σ is vs) H->aGM is vs σ H Q
 |[],[],_,_,_,_,q=>⟨rfl,q⟩
 |[],_::_,_,_,_,h,_=>by simp at h
 |_::_,[],_,_,_,h,_=>by simp at h
 |i::is,v::vs,σ,H,Q,h,q=>⟨v,vs,rfl,anT (is:=is) (by simpa using h) q⟩
def adU(hN:X.N.Nodup):∀{es:List jq}{is:List Nat},Two (aGL X) es is->PGs X es (aGM is)/\(a0e es X.env).length=is.length/\(a0e es X.env).findIdx? (·.1)=au
 |_,_,.nil=>⟨ayL,rfl,rfl⟩
 |_,_,.cons (a:=e) (b:=i) h r=>by
  obtain⟨x,pos,rfl,h1,h2,h3⟩:=h.ex;obtain⟨a1,a2,a3⟩:=adU hN r;refine⟨asO (aeV hN h1 h2 h3) a1 rfl,?_,?_⟩
  .show(a0e _ X.env).length+1=_;rw[a2];rfl
  .show((ao,assign (.Name x pos) X.env)::a0e _ X.env).findIdx? (·.1)=au;rw[List.findIdx?_cons];simp[a3]
def aD9{k:Nat}(hN:X.N.Nodup)(hc:X.calm=ak)(h:Two (aGL X) es is):PG3 X (.Tuple es k pos) (adT is):=by
 obtain⟨a1,a2,a3⟩:=adU hN h;refine PG.imp (aEQ hc a1 a2 a3) λv σ H Q h=>?_;obtain⟨ρ,d,R,s,r,q,k⟩:=h;cases r with
 |@tup a vs ds hq rv =>
  have q':ds.length=is.length/\R (a7S ρ is ds):=q;exact⟨a,vs,rfl,hq,by rw[←rv.length];exact q'.1,anT (by rw[←rv.length];exact q'.1) (k _ _ (SR.sets rv s) q'.2)⟩
 |_=>exact False.elim q
abbrev alI(K:Fg)(src:Src)(J:It):Prop:=∀H2 G2,HR K H2 G2->src.ok G2 ->
 (∀i,i<src.items.length->J.go i H2)/\(∀i v H',i<src.items.length->J.yld i H2 v H'->Same H2 H'/\∃d,src.items[i]?=aj d/\RD K H' d v)/\J.stop src.items.length H2
abbrev aRF(K:Fg)(t:TI3):TI:=λσ H Q=>∃ρ G R,SR K H ρ σ/\HR K H G/\t ρ G R/\∀src J H' G',Ts H H'->HR K H' G'->alI K src J->R src G'->Q J H'
@[simp]def PIS(X:Cx)(tg iter:jq)(t:TI3):Prop:=PI X tg iter (aRF X.K t)
abbrev au9(te:cJ):TI3:=λρ G R=>te ρ G λx G1=>match x with
 |.ref p=>(match bH G1 p with
  |some xs=>R (.lst p xs) G1
  |none=>False)
 |.str z=>R (.imm (signs z)) G1
 |.tup xs=>xs.all scD=ak/\∀a,(G1 a=au∨G1 a=aj (.tpl xs))->R (.tpl a xs) (aH G1 a (.tpl xs))
 |_=>False
def aMQ{K:Fg}{v:V}(h:scD d=ak)(r:RD K H d v)(r':RD K H d' v):d'=d:=by
 cases r with
 |non=>cases r';rfl
 |bl b=>cases r';rfl
 |int i=>cases r';rfl
 |str x=>cases r';rfl
 |_=>exact Bool.noConfusion (show ao=ak from h)
def auA{K:Fg}:∀{ds ds':List D}{vs:List V},ds.all scD=ak->dB K H ds vs->dB K H ds' vs->ds'=ds
 |_,_,_,_,.nil,.nil=>rfl
 |d::ds,d'::ds',_,h,.cons r rr,.cons r' rr'=>by
  rw[zj,bx]at h;rw[aMQ h.1 r r',auA h.2 rr rr']
def auB{o:GO}(I:Inv X pins σ H s)(g:HR X.K H G)(hq:SqT X.K H a xs)(e:G a=aj o):∃ds,o=.tpl ds/\dB X.K H ds xs:=by
 have no:∀u,H a=aj u->(∀ys,u≠.tup ys)->(∀ob ys,u≠.jD ob (.tup ys))->False:=λu hu h1 h2=>by
  rcases hq with(q|⟨ob,q⟩)|⟨ob,_,_,q,_⟩
  .rw[hu]at q;exact h1 _ (jf.inj q)
  .rw[hu]at q;exact h2 _ _ (jf.inj q)
  .have:=qX I a ob q;rw[hu]at this;cases this
 have z:=g a o e;cases o with
 |lst ds=>obtain⟨_,q,_⟩:=z;exact(no _ q (λ_ w=>nomatch w) (λ_ _ w=>nomatch w)).elim
 |rol ds =>
  obtain⟨_,q,_⟩:=z;obtain⟨_,_,⟨o1,n1,e1,c1,_⟩,_⟩:=I.list q;obtain⟨_,_,⟨o2,e2,c2,_⟩,_⟩:=I.tuple hq;rw[e1]at e2;cases e2;rw[c1]at c2;exact absurd c2 (by decide)
 |cF t kvs=>rcases z with⟨_,_,q,_⟩|⟨_,_,q,_⟩<;>exact(no _ q (λ_ w=>nomatch w) (λ_ _ w=>nomatch w)).elim
 |ins C fs=>obtain⟨_,_,q,_⟩:=z;exact(no _ q (λ_ w=>nomatch w) (λ_ _ w=>nomatch w)).elim
 |exn C=>obtain⟨_,_,q,_⟩:=z;exact(no _ q (λ_ w=>nomatch w) (λ_ _ w=>nomatch w)).elim
 |nU kvs=>obtain⟨_,q,e⟩:=z;exact(no _ q e.no.1 λ_ _ w=>e.no.2.1 _ _ w).elim
 |rnm ob kvs=>obtain⟨_,q,e⟩:=z;exact(no _ q (λ_ w=>nomatch w) λ_ _ w=>e.no.1 _ (HO.jD.inj w).2).elim
 |rdc ob t kvs=>rcases z with⟨_,_,q,_⟩|⟨_,_,q,_⟩<;>exact(no _ q (λ_ w=>nomatch w) (λ_ _ w=>nomatch w)).elim
 |tpl ds=>obtain⟨ys,q,r⟩:=z;exact⟨ds,rfl,by rw[←I.a1E q hq];exact r⟩
def azW(I:Inv X pins σ H s)(g:HR X.K H G)(hq:SqT X.K H a xs)(rv:dB X.K H ds xs)(sc:ds.all scD=ak) :
  (G a=au∨G a=aj (.tpl ds))/\HR X.K H (aH G a (.tpl ds)):=by
 refine⟨?_,λb o e=>?_⟩
 .cases e:G a with
  |none=>exact .inl rfl
  |some o=>obtain⟨ds',rfl,r⟩:=auB I g hq e;exact .inr (by rw[auA sc rv r])
 .by_cases hb:b=a
  .subst hb;rw[aD]at e;cases e;exact⟨xs,hq,rv⟩
  .rw[aW hb]at e;exact g b o e
def auC{K:Fg}:alI K (.tpl p xs) (Itt K p):=λH2 G2 g ok=>by
 obtain⟨vs,hq,rv⟩:=g p _ ok;exact ahW hq rv H2 G2 (.refl _) g trivial
def aqU{K:Fg}:alI K (.lst p xs) (Itl K p):=λH2 G2 g ok=>adR (H1:=H2) H2 G2 (.refl _) g ok
def ahZ{K:Fg}:alI K (.imm (signs z)) (Its z):=λH2 G2 g ok=>a9Z (H1:=H2) H2 G2 (.refl _) g ok
def auD{K:Fg}:alI K (.imm ((kj n).map λ(i:Nat)=>.int (lo+(i:Int)))) (Itr lo n):=λH2 G2 g ok=>ahX (H1:=H2) H2 G2 (.refl _) g ok
private theorem aGN(hl:cO X l te):PIS X tg l (au9 te):=by
 intro pins s σ H R I h;obtain⟨ρ,G,R3,sr,g,q,k⟩:=h
 refine dZ (hl pins s σ H (λv H1=>Ts H H1/\∃x G1,RD X.K H1 x v/\HR X.K H1 G1/\(match x with
  |.ref p=>(match bH G1 p with
   |some xs=>R3 (.lst p xs) G1
   |none=>False)
  |.str z=>R3 (.imm (signs z)) G1
  |.tup xs=>xs.all scD=ak/\∀a,(G1 a=au∨G1 a=aj (.tpl xs))->R3 (.tpl a xs) (aH G1 a (.tpl xs))
  |_=>False)) I ⟨ρ,G,_,sr,g,q,λv H1 x G1 t1 r g1 q1=>⟨t1,x,G1,r,g1,q1⟩⟩) λv s1 ⟨x,H1,I1,r1,t1,d,G1,rd,g1,q1⟩=>?_
 cases rd with
 |ref a =>
  have q1':(match bH G1 a with
   |some xs=>R3 (.lst a xs) G1
   |none=>False):=q1
  split at q1'
  .rename_i xs e;cases r1;obtain⟨vs,hq,rv⟩:=cC g1 e;obtain⟨its,rv',p,hz⟩:=I1.list hq;refine a2f p.isList ?_;refine⟨s1.heap.objs.size,[s1.heap.objs.size],_,_,H1,rfl,I1.kept (t':=s1.toks) λb o e=>cg _ e,adA a _,⟨_,iw _ rfl,rfl,rfl⟩,λb hb=>?_,k _ _ H1 G1 t1 g1 aqU q1'⟩;have e:b=s1.heap.objs.size:=by simpa using hb
   subst e;exact I1.a8G (dz _) (I1.hok.fresh (dz _))
  .exact q1'.elim
 |str z =>
  obtain⟨t,rfl⟩:=r1;cases ha:z.cps.all (· <128)
  .refine wpAny_pyIter_wide ha ?_;refine⟨s1.heap.objs.size,[s1.heap.objs.size],_,_,H1,rfl,I1.kept (t':=s1.toks) λb o e=>cg _ e,adQ _ z t,?_,λb hb=>?_,k _ _ H1 G1 t1 g1 ahZ q1⟩
   .rw[Nat.zero_min];exact⟨_,iw _ rfl,rfl,rfl⟩
   .have e:b=s1.heap.objs.size:=by simpa using hb
    subst e;exact I1.a8G (dz _) (I1.hok.fresh (dz _))
  .refine wpAny_pyIter_ascii ha ?_;refine⟨s1.heap.objs.size,[s1.heap.objs.size],_,_,H1,rfl,I1.kept (t':=s1.toks) λb o e=>cg _ e,adP _ z t,?_,λb hb=>?_,k _ _ H1 G1 t1 g1 ahZ q1⟩
   .rw[Nat.zero_min];exact⟨_,iw _ rfl,rfl,rfl⟩
   .have e:b=s1.heap.objs.size:=by simpa using hb
    subst e;exact I1.a8G (dz _) (I1.hok.fresh (dz _))
 |@tup a vs xs hq rv =>
  cases r1;obtain⟨its,rv',p,hz⟩:=I1.tuple hq;obtain⟨sc,q1⟩:=q1;obtain⟨hG,g2⟩:=azW I1 g1 hq rv sc;refine wpAny_pyIter_tuple (show s1.heap.IsTuple a its.toArray from p) ?_;refine⟨s1.heap.objs.size,[s1.heap.objs.size],_,_,H1,rfl,I1.kept (t':=s1.toks) λb o e=>cg _ e,a9I a _,⟨_,iw _ rfl,rfl,rfl⟩,λb hb=>?_,k _ _ H1 _ t1 g2 auC (q1 a hG)⟩;have e:b=s1.heap.objs.size:=by simpa using hb
  subst e;exact I1.a8G (dz _) (I1.hok.fresh (dz _))
 |_=>exact q1.elim
def azX{a:jq}{p:Pos}(hg:Gl X "range")(hm:X.mg "range"=au)(ha:PA3 X [a] ta)(hs:ji [a] X.env=[(ao,eval a X.env)]):PIS X tg (.Call (.Name "range" p) [a] [] pos) (a3S ta) :=
 PI.imp (adB hg hm ha hs) λσ H Q h=>by
 obtain⟨ρ,G,R,s,g,q,k⟩:=h;refine⟨ρ,G,_,s,g,q,λvs H1 ds G1 t1 r g1 h1=>?_⟩;cases r with
 |nil=>exact h1.elim
 |cons r rr =>
  cases rr with
  |cons _ _=>cases r<;>exact False.elim h1
  |nil =>
   cases r with
   |int j =>
    obtain⟨l1,l2,h1⟩:=h1;refine⟨j,rfl,l1,l2,k _ _ H1 G1 t1 g1 ?_ h1⟩;unfold acA;rw[show(j - 0).toNat=j.toNat by omega];exact auD
   |_=>exact False.elim h1
abbrev a3T(ti:TI3)(tg:TG3)(tb:bJ):bJ:=λF ρ G=>ti ρ G λsrc G1=>∃P:Nat->aP->Gp->Prop,P 0 ρ G1/\(∀k ρ G,k<=src.items.length->P k ρ G->src.ok G) /\
 (∀k d ρ G,src.items[k]?=aj d->P k ρ G->tg d ρ λρ2=>tb {F with nx:=P (k+1),ct:=P (k+1),bk:=F.nx} ρ2 G)/\∀ρ G,P src.items.length ρ G->F.nx ρ G
def aGO{ti:TI3}{tg:TG3}(hp:PassesOwn (dw X.prog X.w) X.A X.env X.xe)(hi:PIS X tgt iter ti)(hg:PG3 X tgt tg)(hb:a8I X body tb)
  (hs:∀x,a1j iter X.env x=pure x):PS3 X (.For tgt iter body [] pos) (a3T ti tg tb):=PS.imp (aET hp hi hg hb hs) λF σ H h=>by
 obtain⟨ρ,G,E,s,g,q,d⟩:=h
 refine⟨ρ,G,λsrc G1=>∃P:Nat->aP->Gp->Prop,P 0 ρ G1/\(∀k ρ G,k<=src.items.length->P k ρ G->src.ok G) /\
  (∀k d ρ G,src.items[k]?=aj d->P k ρ G->tg d ρ λρ2=>tb {E with nx:=P (k+1),ct:=P (k+1),bk:=E.nx} ρ2 G)/\∀ρ G,P src.items.length ρ G->E.nx ρ G,s,g,q,λsrc J H1 G1 t1 g1 sj ⟨P,p0,pok,pst,pend⟩=>?_⟩
 refine atO (K:=X.K) (n:=src.items.length) (λk σ2 H2=>∃ρ' G',SR X.K H2 ρ' σ2/\HR X.K H2 G'/\P k ρ' G') ⟨ρ,G1,s.mono t1,g1,p0⟩ (λσ2 H2 ⟨ρ',G',s2,g2,p⟩=>?_) (λk σ2 H2 hk ⟨ρ',G',s2,g2,p⟩=>?_) (λk y σ2 H2 H3 hk ⟨ρ',G',s2,g2,p⟩ hy=>?_)
  (λσ2 H2 ⟨ρ',G',s2,g2,p⟩=>d.nx ρ' G' σ2 H2 s2 g2 (pend ρ' G' p))
 .exact(sj H2 G' g2 (pok _ ρ' G' (dz _) p)).2.2
 .exact(sj H2 G' g2 (pok _ ρ' G' (xu hk) p)).1 k hk
 .obtain⟨sm,dk,e1,e2⟩:=(sj H2 G' g2 (pok _ ρ' G' (xu hk) p)).2.1 k y H3 hk hy;refine⟨ρ',dk,_,s2.mono (.same sm),e2,pst k dk ρ' G' e1 p,λρ2 σ3 s3 q3=>?_⟩;exact⟨ρ2,G',_,s3,g2.same sm,q3,⟨λρ4 G4 σ4 H4 s4 g4 q4=>⟨ρ4,G4,s4,g4,q4⟩,d.rt,d.nx,λρ4 G4 σ4 H4 s4 g4 q4=>⟨ρ4,G4,s4,g4,q4⟩⟩⟩
end
end
section
abbrev auE:D->Bool
 |.bl _=>ak
 |_=>ao
abbrev auF:D->Bool
 |.bl b=>b
 |_=>ao
abbrev trN(ds:List D)(i:Nat):Bool:=match ds[i]? with
 |some d=>auF d
 |none=>ao
section
variable{X:Cx}
def aqV{K:Fg}(r:dB K H ds vs)(v:Vals vs us)(hb:ds.all auE=ak){i:Nat}(e:us[i]?=aj u):u=.bool (trN ds i):=by
 obtain⟨d,x,h1,h2,h3⟩:=Vals.ahR r v e;have hd:auE d=ak:=jy.mp hb d (jz h1);unfold trN;rw[h1];cases h2 with
 |bl b=>exact h3
 |_=>cases hd
abbrev on2(xs:List D)(f:Int->Int->Prop):Prop:=match xs with
 |[.int i,.int j]=>f i j
 |_=>False
abbrev aDA:List D->Gp->iB->Prop:=λxs G R=>on2 xs λi j=>R (.int (if j<i then j else i)) G
abbrev aDB:List D->Gp->iB->Prop:=λxs G R=>on2 xs λi j=>R (.int (if i<j then j else i)) G
private theorem ai0{K:Fg}(r:dB K H xs vs)(h:on2 xs f):∃i j,xs=[.int i,.int j]/\vs=[.int i,.int j]/\f i j:=by
 unfold on2 at h;split at h
 .rename_i i j;cases r with
  |cons r1 r =>
  cases r with
  |cons r2 r =>
  cases r;cases r1;cases r2;exact⟨i,j,rfl,rfl,h⟩
 .exact h.elim
def aMR(hc:X.calm=ak):cX X (.builtin "min") aDA:=cX.of (aq5 hc) λH xs vs G R Q rx g q k=>by
 obtain⟨i,j,rfl,rfl,q'⟩:=ai0 (f:=λi j=>R (.int (if j<i then j else i)) G) rx q;exact⟨i,j,rfl,λ_=>k _ H _ G (.refl H) (.int _) g q'⟩
def aMS(hc:X.calm=ak):cX X (.builtin "max") aDB:=cX.of (aq4 hc) λH xs vs G R Q rx g q k=>by
 obtain⟨i,j,rfl,rfl,q'⟩:=ai0 (f:=λi j=>R (.int (if i<j then j else i)) G) rx q;exact⟨i,j,rfl,λ_=>k _ H _ G (.refl H) (.int _) g q'⟩
end
end
variable{zs:List (Int×Tok)}{ns:List Int}
section
section
variable{X:Cx}{pos:Pos}
abbrev aa2(is:List Nat)(te:cJ):bJ:=λF ρ G=>te ρ G λd G1=>adT is d ρ λρ2=>F.nx ρ2 G1
def aGQ{k:Nat}{tp:Pos}(hg:PG3 X (.Tuple es k tp) (adT is))(he:cO X e te)(hs:swapsWithSole [.Tuple es k tp] e pos.line X.env=pure ao)(hw:swappedStores [.Tuple es k tp] e X.env=pure au)
  (h1:(a0e [.Tuple es k tp] X.env).map (·.2)=[assign (.Tuple es k tp) X.env]):PS3 X (.Assign [.Tuple es k tp] e pos) (aa2 is te):=PS.imp (aER he hg hs hw h1) λF σ H h=>by
 obtain⟨ρ,G,E,s,g,q,d⟩:=h;exact⟨ρ,G,_,s,g,q,λv H' x G' t1 r g1 h=>⟨ρ,x,_,s.mono t1,r,h,λρ' σ' s' q'=>d.nx ρ' G' σ' H' s' g1 q'⟩⟩
end
def ints_of{K:Fg}:∀{ns:List Int}{vs:List V}{us:List aq},dB K H (ns.map D.int) vs->Vals vs us->∃ys:List (Int×Tok),us=ys.map (λp=>aq.int p.1 p.2)/\ys.map (·.1)=ns
 |[],_,_,r,v=>by cases r;cases v;exact⟨[],rfl,rfl⟩
 |n::ns,_,_,r,v=>by
  cases r with
  |cons h r =>
   cases h with
   |int i =>
    cases v with
    |cons hu v =>
     obtain⟨t,rfl⟩:=hu;obtain⟨ys,e1,e2⟩:=ints_of r v;exact⟨(n,t)::ys,by rw[e1];rfl,by rw[iz,e2]⟩
abbrev azY(xs:List D)(G:Gp)(P:List D->Prop)(O:Prop):Prop:=match xs with
 |[.ref q]=>(match bH G q with
  |some ds=>P ds
  |none=>False)
 |_=>O
abbrev anU:List D->Gp->iB->Prop:=λxs G R=>azY xs G (λds=>∃ns:List Int,ds=ns.map D.int/\R (.int ns.sum) G) False
variable{s:cu}
section
variable{X:Cx}
private theorem aGR(I:Inv X pins σ H s)(rx:dB X.K H xs vs)(rv:Vals vs us)(g:HR X.K H G)
  (h:azY xs G P O):(∃a ds ys its,us=[.ref a]/\dB X.K H ds ys/\Vals ys its/\s.heap.IsList a its.toArray/\P ds)∨O:=by
 cases rx with
 |nil=>exact .inr h
 |cons r1 rr =>
  cases rr with
  |cons _ _=>cases r1<;>exact .inr h
  |nil =>
   cases r1 with
   |ref a =>
    obtain⟨u,rfl,ru⟩:=vals1 rv;cases ru
    have q':(match bH G a with
     |some ds=>P ds
     |none=>False):=h
    split at q'
    .rename_i ds e1;obtain⟨ys,hq,r1⟩:=cC g e1;obtain⟨its,rv',p,hz⟩:=I.list hq;exact .inl ⟨a,ds,ys,its,rfl,r1,rv',p.isList,q'⟩
    .exact q'.elim
   |_=>exact .inr h
def int_list(p:s.heap.IsList a (zs.map λp=>aq.int p.1 p.2).toArray):s.heap.IsList a (intItems zs.toArray):=by
 have:intItems zs.toArray=(zs.map λp=>aq.int p.1 p.2).toArray:=by simp[intItems]
 rw[this];exact p
def aMT(hc:X.calm=ak):cX X (.builtin "sum") anU:=by
 intro pins s σ H xs vs us G R Q I rx rv g q k;rcases aGR I rx rv g q with⟨a,ds,ys,its,rfl,r1,rv',p,ns,rfl,q'⟩|z
 .obtain⟨zs,rfl,e2⟩:=ints_of r1 rv';refine sum_intListG (I.ok.hd hc) (int_list p) λh' tk t' kk=>?_
  have e3:preSum (numAt zs.toArray) zs.toArray.size=ns.sum:=by
   rw[preSum_eq,List.take_of_length_le (by simp)];rw[←e2]
  rw[e3];exact⟨.int _,H,I.kept kk,⟨t',rfl⟩,k _ H _ G (.refl H) (.int _) g q'⟩
 .exact z.elim
abbrev afJ:List D->Gp->iB->Prop:=λxs G R=>azY xs G (λds=>∃ns:List Int,ds=ns.map D.int/\ns≠[]/\∀M,M∈ns->(∀a∈ns,a<=M)->R (.int M) G) (aDB xs G R)
abbrev afK:List D->Gp->iB->Prop:=λxs G R=>azY xs G (λds=>∃ns:List Int,ds=ns.map D.int/\ns≠[]/\∀M,M∈ns->(∀a∈ns,M<=a)->R (.int M) G) (aDA xs G R)
def auG(e2:zs.map (·.1)=ns)(h:j<zs.toArray.size):numAt zs.toArray j∈ns:=by
 rw[numAt_eq,←e2];exact getD_mem (by simpa using h)
def auH(e2:zs.map (·.1)=ns){a:Int}(h:a∈ns):∃j,j<zs.toArray.size/\numAt zs.toArray j=a:=by
 rw[←e2]at h;obtain⟨j,hj,rfl⟩:=mem_getD h;exact⟨j,by simpa using hj,by rw[numAt_eq]⟩
def aGS(hc:X.calm=ak):cX X (.builtin "max") afJ:=by
 intro pins s σ H xs vs us G R Q I rx rv g q k;rcases aGR I rx rv g q with⟨a,ds,ys,its,rfl,r1,rv',p,ns,rfl,hne,q'⟩|z
 .obtain⟨zs,rfl,e2⟩:=ints_of r1 rv'
  have hsz:0<zs.toArray.size:=by
   cases zs with
   |nil=>exact absurd e2.symm hne
   |cons _ _=>simp
  refine max_intList (I.ok.hd hc) (int_list p) hsz λv h' tk hv kk=>?_;obtain⟨t,rfl⟩:=intItems_at hv;obtain⟨h1,h2⟩:=argBest_gt (numAt zs.toArray) (zs.toArray.size - 1);refine⟨.int _,H,I.kept kk,⟨t,rfl⟩,k _ H _ G (.refl H) (.int _) g (q' _ (auG e2 (by omega)) λa ha=>?_)⟩;obtain⟨j,hj,rfl⟩:=auH e2 ha;exact h2 j (by omega)
 .exact aMS hc pins s σ H _ vs us G R Q I rx rv g z k
def aGT(hc:X.calm=ak):cX X (.builtin "min") afK:=by
 intro pins s σ H xs vs us G R Q I rx rv g q k;rcases aGR I rx rv g q with⟨a,ds,ys,its,rfl,r1,rv',p,ns,rfl,hne,q'⟩|z
 .obtain⟨zs,rfl,e2⟩:=ints_of r1 rv'
  have hsz:0<zs.toArray.size:=by
   cases zs with
   |nil=>exact absurd e2.symm hne
   |cons _ _=>simp
  refine min_intList (I.ok.hd hc) (int_list p) hsz λv h' tk hv kk=>?_;obtain⟨t,rfl⟩:=intItems_at hv;obtain⟨h1,h2⟩:=argBest_lt (numAt zs.toArray) (zs.toArray.size - 1);refine⟨.int _,H,I.kept kk,⟨t,rfl⟩,k _ H _ G (.refl H) (.int _) g (q' _ (auG e2 (by omega)) λa ha=>?_)⟩;obtain⟨j,hj,rfl⟩:=auH e2 ha;exact h2 j (by omega)
 .exact aMR hc pins s σ H _ vs us G R Q I rx rv g z k
end
end
variable{v:aq}{neg:Bool}
section
abbrev a02(f:D->D->Bool):List D->List D->Bool
 |x::xs,y::ys=>f x y&&a02 f xs ys
 |_,_=>ak
abbrev pN(f:D->D->Bool):List D->List D->Bool
 |[],[]=>ak
 |x::xs,y::ys=>f x y&&pN f xs ys
 |_,_=>ao
abbrev okN(G:Gp):Nat->D->D->Bool
 |0,x,y=>aV 10 x&&aV 10 y
 |n+1,x,y=>match x,y with
  |.ref p,.ref q=>(match bH G p,bH G q with
   |some xs,aj ys=>a02 (okN G n) xs ys
   |_,_=>ao)
  |.tup xs,.tup ys=>a02 (okN G n) xs ys
  |x,y=>aV 10 x&&aV 10 y
abbrev eqN(G:Gp):Nat->D->D->Bool
 |0,x,y=>eqP x y
 |n+1,x,y=>match x,y with
  |.ref p,.ref q=>(match bH G p,bH G q with
   |some xs,aj ys=>pN (eqN G n) xs ys
   |_,_=>ao)
  |.tup xs,.tup ys=>pN (eqN G n) xs ys
  |x,y=>eqP x y
@[simp]def ok2(G:Gp)(x y:D):Bool:=okN G 4 x y
@[simp]def eq2(G:Gp)(x y:D):Bool:=eqN G 4 x y
@[simp]def azZ(G:Gp)(xs ys:List D):Bool:=a02 (okN G 4) xs ys
@[simp]def alJ(G:Gp)(xs ys:List D):Bool:=pN (eqN G 4) xs ys
abbrev a6M(f:D->D->Bool)(xs ys:List D)(j:Nat):Bool:=match xs[j]?,ys[j]? with
 |some a,aj b=>f a b
 |_,_=>ao
def jF(f:D->D->Bool):∀(xs ys:List D),pN f xs ys=((kj (min xs.length ys.length)).all (a6M f xs ys)&&xs.length==ys.length)
 |[],[]=>rfl
 |[],y::ys=>by simp[pN]
 |x::xs,[]=>by simp[pN]
 |x::xs,y::ys=>by
  have ih:=jF f xs ys;have e:min (x::xs).length (y::ys).length=min xs.length ys.length+1:=by simp only[qb];omega
  rw[pN,ih,e,zU];have e0:a6M f (x::xs) (y::ys) 0=f x y:=rfl
  have e1:(λj=>a6M f (x::xs) (y::ys) (j+1))=a6M f xs ys:=by
   funext j;simp[a6M]
  have e2:((x::xs).length==(y::ys).length)=(xs.length==ys.length):=by
   simp only[qb];by_cases h:xs.length=ys.length
   .simp[h]
   .have h':¬ (xs.length+1=ys.length+1):=by omega
    simp[h,h']
  rw[e0,e1,e2,Bool.and_assoc]
def a1J:∀{xs ys:List D}{j:Nat}{x y:D},a02 f xs ys=ak->xs[j]?=aj x->ys[j]?=aj y->f x y=ak
 |[],_,_,_,_,_,h,_=>by simp at h
 |_::_,[],_,_,_,_,_,h=>by simp at h
 |a::xs,b::ys,0,x,y,h,e1,e2=>by
  rw[a02,bx]at h;simp at e1 e2;subst e1;subst e2;exact h.1
 |a::xs,b::ys,j+1,x,y,h,e1,e2=>by
  rw[a02,bx]at h;exact a1J h.2 (by simpa using e1) (by simpa using e2)
def a1K{g:D->D->Bool}(h:∀x,f x x=ak->g x x=ak):∀{xs:List D},a02 f xs xs=ak->pN g xs xs=ak
 |[],_=>rfl
 |x::xs,q=>by
  rw[a02,bx]at q;rw[pN,h x q.1,a1K h q.2];rfl
def a03:∀(n:Nat)(x:D),okN G n x x=ak->eqN G n x x=ak
 |0,x,h=>sU (n:=10) (by have:(aV 10 x&&aV 10 x)=ak:=h;rwa [Bool.and_self]at this)
 |n+1,x,h=>by
  cases x with
  |ref p =>
   replace h:(match bH G p,bH G p with
    |some xs,aj ys=>a02 (okN G n) xs ys
    |_,_=>ao)=ak:=h
   show(match bH G p,bH G p with
    |some xs,aj ys=>pN (eqN G n) xs ys
    |_,_=>ao)=ak
   cases e:bH G p with
   |none=>rw[e]at h;cases h
   |some xs=>rw[e]at h;exact a1K (a03 n) h
  |tup xs=>exact a1K (a03 n) (show a02 (okN G n) xs xs=ak from h)
  |non=>rfl
  |bl b=>cases b<;>rfl
  |int i=>exact sU (n:=10) rfl
  |str z=>exact sU (n:=10) rfl
  |ty m=>cases h
variable{x:D}
section
variable{X:Cx}
def a95{K:Fg}{us ws:List aq}(rx:dB K H xs vx)(ry:dB K H ys vy)(vx':Vals vx us)(vy':Vals vy ws)
  (ih:∀(j:Nat)(x y:D),xs[j]?=aj x->ys[j]?=aj y->∀(v w:V)(u t:aq),RD K H x v->RD K H y w->RelV v u->RelV w t->SeqAt.EqAt A s u t (f x y)) :
  ∀j (h1:j<us.toArray.size) (h2:j<ws.toArray.size),SeqAt.EqAt A s us.toArray[j] ws.toArray[j] (a6M f xs ys j):=by
 intro j h1 h2;have e1:us[j]?=aj us.toArray[j]:=by simp[gV (show j<us.length by simpa using h1)]
 have e2:ws[j]?=aj ws.toArray[j]:=by simp[gV (show j<ws.length by simpa using h2)]
 obtain⟨d,x,f1,f2,f3⟩:=Vals.ahR rx vx' e1;obtain⟨d',y,g1,g2,g3⟩:=Vals.ahR ry vy' e2;have e:a6M f xs ys j=f d d':=by simp[a6M,f1,g1]
 rw[e];exact ih j d d' f1 g1 x y _ _ f2 g2 f3 g3
private theorem auI(I:Inv X pins σ H s):∀(n:Nat){x y:D}{v:V},okN G n x y=ak->RD X.K H x v->RD X.K H y v->eqN G n x y=ak:=by
 have base:∀{x y:D}{v:V},(aV 10 x&&aV 10 y)=ak->RD X.K H x v->RD X.K H y v->eqP x y=ak:=λh rx ry=>by
  rw[bx]at h;rw[RD.inj I h.1 h.2 rx ry];exact sU h.2
 have lists:∀(n:Nat),(∀{x y:D}{v:V},okN G n x y=ak->RD X.K H x v->RD X.K H y v->eqN G n x y=ak)->∀{xs ys:List D}{vs:List V},a02 (okN G n) xs ys=ak->dB X.K H xs vs->dB X.K H ys vs->pN (eqN G n) xs ys=ak:=λn ih {xs ys vs} h r1 r2=>by
  rw[jF,r1.length,r2.length];simp only[Nat.min_self,beq_self_eq_true,Bool.and_true,jy,yc];intro j hj;obtain⟨d,e1,q1⟩:=r1.aqI (gV hj);obtain⟨d',e2,q2⟩:=r2.aqI (gV hj);unfold a6M;rw[e1,e2];exact ih (a1J h e1 e2) q1 q2
 intro n
 induction n with
 |zero=>exact λh rx ry=>base h rx ry
 |succ n ih =>
  intro x y v h rx ry;unfold okN at h;unfold eqN;split at h
  .rename_i p q;cases rx;cases ry;split at h
   .rename_i xs ys e1 e2;rw[e1]at e2;cases e2;exact a1K (a03 n) h
   .cases h
  .rename_i xs ys;cases rx with
   |@tup a vs _ h1 r1 _ =>
   cases ry with
   |@tup _ ws _ h2 r2 _ =>
   obtain rfl:=I.a1E h1 h2;exact lists n ih h r1 r2
  .rename_i n1 n2;exact base h rx ry
private theorem aGU(I:Inv X pins σ H s)(g:HR X.K H G):∀(n:Nat)(A:jx){x y:D}{vx vy:V}{u v:aq},A.units+12+n<jr->okN G n x y=ak->RD X.K H x vx->RD X.K H y vy->RelV vx u->RelV vy v->SeqAt.EqAt A s u v (eqN G n x y):=by
 intro n
 induction n with
 |zero =>
  intro A x y vx vy u v hu h rx ry ru rv;have h':(aV 10 x&&aV 10 y)=ak:=h;rw[bx]at h';exact a3Q I 10 A x y vx vy u v (by omega) h'.1 h'.2 rx ry ru rv
 |succ n ih =>
  intro A x y vx vy u v hu h rx ry ru rv;have all:=h
  have hu1:A.in1.units+12+n<jr:=by
   show A.units+1+12+n<jr;omega
  unfold okN at h;split at h
  .rename_i p q;split at h
   .rename_i xs ys e1 e2;cases rx;cases ry;cases ru;cases rv;by_cases hpq:p=q
    .subst hpq;rw[auI I _ all (.ref p) (.ref p)];exact SeqAt.EqAt.same _
    .have e:eqN G (n+1) (.ref p) (.ref q)=pN (eqN G n) xs ys:=by
      show(match bH G p,bH G q with
       |some xs,aj ys=>pN (eqN G n) xs ys
       |_,_=>ao)=_
      rw[e1,e2]
     rw[e];obtain⟨v1,h1,r1⟩:=cC g e1;obtain⟨v2,h2,r2⟩:=cC g e2;obtain⟨its,vv,q1,_⟩:=I.list h1;obtain⟨jts,ww,q2,_⟩:=I.list h2;have pts:=a95 (f:=eqN G n) r1 r2 vv ww λj x y e1 e2 v w u t q1 q2 q3 q4=>ih A.in1 hu1 (a1J h e1 e2) q1 q2 q3 q4;have s1:its.toArray.size=xs.length:=by rw[fj,←vv.length,←r1.length]
     have s2:jts.toArray.size=ys.length:=by rw[fj,←ww.length,←r2.length]
     refine SeqAt.EqAt.of_refs hpq ?_;by_cases hl:xs.length=ys.length
     .have z:=SeqAt.RcAt.lists q1.isList q2.isList (show its.toArray.size=jts.toArray.size by rw[s1,s2];exact hl) (by omega) pts
      have e:(kj its.toArray.size).all (a6M (eqN G n) xs ys)=pN (eqN G n) xs ys:=by
       rw[jF,s1,hl];simp
      rw[e]at z;exact z
     .rw[jF,show(xs.length==ys.length)=ao by simpa using hl,Bool.and_false];exact SeqAt.RcAt.lists_lengths q1.isList q2.isList (by rw[s1,s2];simpa using hl) (by omega)
   .cases h
  .rename_i xs ys;cases rx with
   |@tup a1 xs1 _ h1 r1 c1 =>
   cases ry with
   |@tup a2 xs2 _ h2 r2 c2 =>
   cases ru;cases rv;by_cases hpq:a1=a2
   .subst hpq;rw[auI I _ all (.tup h1 r1 c1) (.tup h2 r2 c2)];exact SeqAt.EqAt.same _
   .obtain⟨its,vv,px,_⟩:=I.tuple h1;obtain⟨jts,ww,py,_⟩:=I.tuple h2;have pts:=a95 (f:=eqN G n) r1 r2 vv ww λj x y e1 e2 v w u t q1 q2 q3 q4=>ih A.in1 hu1 (a1J h e1 e2) q1 q2 q3 q4;have z:=SeqAt.RcAt.tuples (show s.heap.IsTuple a1 its.toArray from px) (show s.heap.IsTuple a2 jts.toArray from py) (by omega) pts
    have e:((kj (min its.toArray.size jts.toArray.size)).all (a6M (eqN G n) xs ys)&&its.toArray.size==jts.toArray.size)=eqN G (n+1) (.tup xs) (.tup ys):=by
     show _=pN (eqN G n) xs ys;rw[jF,fj,fj,←vv.length,←ww.length,←r1.length,←r2.length]
    rw[e]at z;exact SeqAt.EqAt.of_refs hpq z
  .rename_i n1 n2;rw[bx]at h;have b:=a3Q I 10 A x y vx vy u v (by omega) h.1 h.2 rx ry ru rv;unfold eqN;split
   ·exact(n1 _ _ rfl rfl).elim
   .exact(n2 _ _ rfl rfl).elim
   .exact b
def auJ(I:Inv X pins σ H s)(g:HR X.K H G)(hu:A.units+20<jr)(h:ok2 G x y=ak)(rx:RD X.K H x vx)(ry:RD X.K H y vy)(ru:RelV vx u)(rv:RelV vy v):SeqAt.EqAt A s u v (eq2 G x y):=aGU I g 4 A (by omega) h rx ry ru rv
abbrev aqW(G:Gp)(x y:D)(k:Bool->Prop):Prop:=match x,y with
 |.tup xs,.tup ys=>azZ G xs ys=ak/\k (alJ G xs ys)
 |.ref a,.ref b=>(match bH G a,bH G b with
  |some xs,aj ys=>azZ G xs ys=ak/\k (alJ G xs ys)
  |_,_=>False)
 |_,_=>False
abbrev a7T:R3:=λx y G R=>aqW G x y λb=>R (.bl b) G
abbrev ai1:R3:=λx y G R=>aqW G x y λb=>R (.bl (!b)) G
private theorem ai2(hu:X.A.units+64<jr)(hop:op=if neg then .NotEq else .Eq){k:Bool->Prop}{Q:VK}(I:Inv X pins σ H s)(rx:RD X.K H x vx)(ry:RD X.K H y vy)(ru:RelV vx u)(rv:RelV vy v)(g:HR X.K H G)
  (h:aqW G x y k)(hk:∀b,k b->EP X pins σ Q (.bool (neg ^^ b)) s):dg (dw X.prog X.w) X.A (jg op u v) (EP X pins σ Q) X.xe s:=by
 have fin:∀{b:Bool},(if neg then SeqAt.RcNeAt X.A s u v (!b)else SeqAt.RcAt X.A s u v b)->k b->dg (dw X.prog X.w) X.A (jg op u v) (EP X pins σ Q) X.xe s:=λ{b} z kb=>by
  have e:=hk b kb;cases neg with
  |true =>
   subst hop;rw[Bool.true_xor]at e;exact z X.prog X.w X.xe _ e
  |false =>
   subst hop;rw[a2z]at e;exact z X.prog X.w X.xe _ e
 have hu0:X.A.units<jr:=by omega
 have hu1:X.A.in1.units+20<jr:=by
  show X.A.units+1+20<jr;omega
 unfold aqW at h;split at h
 .rename_i ds es;obtain⟨ok,kk⟩:=h;cases rx with
  |@tup a1 xs1 _ h1 r1 =>
   cases ry with
   |@tup a2 xs2 _ h2 r2 =>
    cases ru;cases rv;obtain⟨its,vv,px,_⟩:=I.tuple h1;obtain⟨jts,ww,py,_⟩:=I.tuple h2;have pts:=a95 (f:=eq2 G) r1 r2 vv ww λj x y e1 e2 v w u t q1 q2 q3 q4=>auJ (A:=X.A.in1) I g hu1 (a1J ok e1 e2) q1 q2 q3 q4
    have e:((kj (min its.toArray.size jts.toArray.size)).all (a6M (eq2 G) ds es)&&its.toArray.size==jts.toArray.size)=pN (eq2 G) ds es:=by
     rw[jF,fj,fj,←vv.length,←ww.length,←r1.length,←r2.length]
    refine fin (b:=pN (eq2 G) ds es) ?_ kk;cases neg with
    |true =>
     have z:=SeqAt.RcNeAt.tuples (show s.heap.IsTuple a1 its.toArray from px) (show s.heap.IsTuple a2 jts.toArray from py) hu0 pts;rw[e]at z;exact z
    |false =>
     have z:=SeqAt.RcAt.tuples (show s.heap.IsTuple a1 its.toArray from px) (show s.heap.IsTuple a2 jts.toArray from py) hu0 pts;rw[e]at z;exact z
 .rename_i a b;split at h
  .rename_i ds es e1 e2;obtain⟨ok,kk⟩:=h;cases rx;cases ry;cases ru;cases rv;obtain⟨v1,h1,r1⟩:=cC g e1;obtain⟨v2,h2,r2⟩:=cC g e2;obtain⟨its,vv,q1,_⟩:=I.list h1;obtain⟨jts,ww,q2,_⟩:=I.list h2;have p1:=q1.isList;have p2:=q2.isList;have pts:=a95 (f:=eq2 G) r1 r2 vv ww λj x y e1 e2 v w u t q1 q2 q3 q4=>auJ (A:=X.A.in1) I g hu1 (a1J ok e1 e2) q1 q2 q3 q4;have s1:its.toArray.size=ds.length:=by rw[fj,←vv.length,←r1.length]
   have s2:jts.toArray.size=es.length:=by rw[fj,←ww.length,←r2.length]
   refine fin (b:=pN (eq2 G) ds es) ?_ kk;by_cases hl:ds.length=es.length
   .have hsz:its.toArray.size=jts.toArray.size:=by rw[s1,s2];exact hl
    have e:(kj its.toArray.size).all (a6M (eq2 G) ds es)=pN (eq2 G) ds es:=by
     rw[jF,s1,hl];simp
    cases neg with
    |true =>
     have z:=SeqAt.RcNeAt.lists p1 p2 hsz hu0 pts;rw[e]at z;exact z
    |false =>
     have z:=SeqAt.RcAt.lists p1 p2 hsz hu0 pts;rw[e]at z;exact z
   .have hne:(its.toArray.size !=jts.toArray.size)=ak:=by rw[s1,s2];simpa using hl
    have e:pN (eq2 G) ds es=ao:=by
     rw[jF];have:(ds.length==es.length)=ao:=by simpa using hl
     rw[this,Bool.and_false]
    rw[e];cases neg with
    |true=>exact SeqAt.RcNeAt.lists_lengths p1 p2 hne hu0
    |false=>exact SeqAt.RcAt.lists_lengths p1 p2 hne hu0
  .exact h.elim
 .exact h.elim
def aMU(hu:X.A.units+64<jr):nH X (jg .Eq) a7T:=zX λpins s σ H x y vx vy u v G R Q I rx ry ru rv g q k =>
 ai2 (neg:=false) hu rfl I rx ry ru rv g q λb kb=>⟨.bl b,H,I,by rw[a2z];rfl,k _ H (.bl b) G (.refl H) (.bl b) g kb⟩
def aDC(hu:X.A.units+64<jr):nH X (jg .NotEq) ai1:=zX λpins s σ H x y vx vy u v G R Q I rx ry ru rv g q k =>
 ai2 (neg:=true) hu rfl I rx ry ru rv g q λb kb=>⟨.bl (!b),H,I,by rw[Bool.true_xor];rfl,k _ H (.bl (!b)) G (.refl H) (.bl (!b)) g kb⟩
abbrev auK(x:D)(G:Gp)(f:bw->List D->Prop):Prop:=match x with
 |.ref p=>(match G p with
  |some (.lst ds)=>f p ds
  |_=>False)
 |_=>False
private theorem auL{K:Fg}(rx:RD K H x vx)(g:HR K H G)(h:auK x G f):∃p ds xs,x=.ref p/\vx=.ref p/\G p=aj (.lst ds)/\H p=aj (.lst xs)/\dB K H ds xs/\f p ds:=by
 unfold auK at h;split at h
 .rename_i p;split at h
  .rename_i ds e;cases rx;obtain⟨xs,e1,r⟩:=g p _ e;exact⟨p,ds,xs,rfl,rfl,e,e1,r,h⟩
  .exact h.elim
 .exact h.elim
abbrev aDD:RM3:=λx xs G R=>match xs with
 |[]=>auK x G λp ds=>match ds[ds.length - 1]? with
  |some d=>R d (aH G p (.lst ds.dropLast))
  |none=>False
 |_=>False
def a4Z{K:Fg}:∀{ds:List D}{xs:List V},dB K H ds xs->dB K H ds.dropLast xs.dropLast
 |_,_,.nil=>.nil
 |_,_,.cons h .nil=>.nil
 |_,_,.cons h (.cons h' r)=>.cons h (a4Z (.cons h' r))
private theorem aDE:a8K X "list.pop" aDD:=a8K.of aFH λH x xs vx vs G R Q rx rs g q k=>by
 cases rs with
 |cons _ _=>exact False.elim q
 |nil =>
  obtain⟨p,ds,ys,rfl,rfl,e,e1,r,q'⟩:=auL rx g q;split at q'
  .rename_i d ed;obtain⟨v,ev,rv⟩:=r.get ed;have hl:ds.length=ys.length:=r.length;refine⟨p,ys,v,rfl,rfl,e1,by rw[←hl];exact ev,λ_=>?_⟩;have tt:Ts H (upd H p (.lst ys.dropLast)):=.turn e1 (λ_ z=>nomatch z) (λ_ _ z=>nomatch z);exact k _ _ _ _ tt (rv.mono tt) (g.turn (u:=.lst ds.dropLast) tt ⟨_,aM,(a4Z r).mono tt⟩) q'
  .exact q'.elim
end
end
section
variable{s:cu}
section
variable{X:Cx}{C:bw}{bmB bmN:List aq}{B Bn newId nid initId inN:String}{x:Str}{t:xG}
abbrev auM(C:bw)(t:xG):cJ:=λρ G R=>t ρ G λds G1=>ds.length<=dh/\∀x,G1 x=au->R (.ref x) (aH G1 x (.exn C))
def auN{x:bw}(I:Inv X pins σ H s)(hm:a2w s.heap h' x (.ref C) us) :
  ∃o vs,H x=au/\Inv X pins σ (upd H x (.jD o (.ext (a2N C x)))) {s with heap:=h' }/\o.data=.fields vs/\vs[2]?=aj .none:=by
 obtain⟨t,e1,_,_⟩:=hm.there;have nxH:H x=au:=ahO I.hok hm.new;refine⟨{cls:=.ref C,data:=.fields #[.ref t,.none,.none,.none,.bool ao,.none]},#[.ref t,.none,.none,.none,.bool ao,.none],nxH,?_,rfl,rfl⟩;generalize ho:({cls:=.ref C,data:=.fields #[.ref t,.none,.none,.none,.bool ao,.none]}:Obj)=o at e1;have sn:Same H (upd H x (.jD o (.ext (a2N C x)))):=bO nxH;have nst:∀b u,s.heap.get? b=aj u->b≠x:=λb u e z=>by subst z;rw[hm.new]at e;cases e
 refine I.call' (ch:=[]) (s':={s with heap:=h' }) rfl ⟨λb u e n _ _=>hm.keeps b u e,λb u e n _ _=>⟨u.slots,hm.keeps b u e⟩,λb u e n _=>by rw[bA (nst b u e)];exact n,λb u e _=>⟨u,hm.keeps b u e⟩,λb xs z=>sn _ _ z,λb u v z=>sn _ _ z,λb ps z=>⟨#[],by rw[Array.append_empty];exact sn _ _ z⟩⟩ (λb u e=>?_) I.bare λb z=>absurd z (by simp);by_cases hb:b=x
 .subst hb;rw[aM]at e;cases e;exact⟨e1,⟨o,_,e1,by rw[←ho],by rw[←ho]⟩,⟨o,e1⟩,λh1 h2 ⟨o1,w1,e1,e2,e3⟩ k=>⟨o1,w1,k _ e1,e2,e3⟩⟩
 .rw[bA hb]at e;exact((I.hok.kept hm.keeps) b u e).stay (λ_ _ _ z=>z) (λc z=>sn _ _ z) λc xs z=>sn _ _ z
def ai3{σ:St}{H:Hp}{us:List aq}{G:Gp}{R:iB}{Q:VK}(Fn:a0w Bn newId inN bmN)(hBn:bmB.contains (.type Bn)=ak)(FB:a0w B nid initId bmB)(hq:yx X.K C bmB newId=ak)(I:Inv X pins σ H s)(g:HR X.K H G)(hl:us.length<=dh)(q:∀x,G x=au->R (.ref x) (aH G x (.exn C)))
  (k:∀v H' d G',Ts H H'->RD X.K H' d v->HR X.K H' G'->R d G'->Q v H'):dg (dw X.prog X.w) X.A (call (.ref C) us) (EP X pins σ Q) X.xe s:=by
 obtain⟨tl,N,nm,q',bs,hdct,sn,sub,ab,col,dd',k0,k1,k2,k3,k5,mN,hC,hN,hni,T⟩:=a93 I.mod.kin hq;obtain⟨h,g0,d0,t0,os0⟩:=s;refine wpAny_call_exc_subU (hrest:=hl) Fn hBn FB (T.keeps I.bk) (I.bk _ _ hC) (hN.keeps I.bk) hni λh' x hm=>?_;obtain⟨o,vs,nx,J,d1,d2⟩:=auN I hm;have sn:Same H (upd H x (.jD o (.ext (a2N C x)))):=bO nx;exact⟨.ref x,_,J,rfl,k _ _ _ _ (.same sn) (.ref x) (g.put (u:=.exn C) nx ⟨o,vs,aM,d1,d2⟩) (q x (jE (K:=X.K) g nx (qX (X:=X) J)))⟩
def aMV(Fn:a0w Bn newId inN bmN)(hBn:bmB.contains (.type Bn)=ak)(FB:a0w B nid initId bmB)(hg:Gl X x)(hm:X.mg x=aj (.ref C))(hq:yx X.K C bmB newId=ak)(ha:PA3 X (e::es) t)(hd:(x==("__debug__":Str))=ao)
  (he:ji (e::es) X.env=(ao,eval e X.env)::ji es X.env)(hpl:(tu cpos (ji es X.env)).any (·.1)=ao):cO X (.Call (.Name x np) (e::es) [] cpos) (auM C t):=by
 intro pins s σ H Q I h;obtain⟨ρ,G,R,sr,g,q,kk⟩:=h;obtain⟨tl,N,nm,q',bs,hdct,sn,sub,ab,col,dd',k0,k1,k2,k3,k5,mN,hC,hN,hni,T⟩:=a93 I.mod.kin hq;refine wpAny_Call_ofName (rD I hg hm ?_ hd);unfold callWith;have hA:=ha cpos pins s σ H (λvs H1=>Ts H H1/\∃ds G1,dB X.K H1 ds vs/\HR X.K H1 G1/\ds.length<=dh/\∀x,G1 x=au->R (.ref x) (aH G1 x (.exn C))) I ⟨ρ,G,_,sr,g,q,λvs H1 ds G1 t1 r1 g1 q1=>⟨t1,ds,G1,r1,g1,q1.1,q1.2⟩⟩;have hp2:(tu cpos (ji (e::es) X.env)).any (·.1)=ao:=by rw[he];show(ao||(tu cpos (ji es X.env)).any (·.1))=ao;rw[hpl];rfl
 rw[he]at hA hp2 ⊢;refine bh (qp (Calls.evalArgs_plain (dZ hA λus s2 ⟨vs,H2,I2,r2,t1,ds,G1,r1,g1,hl,q1⟩=>bh (wpAny_standAt ?_))));have hl2:us.length<=dh:=by rw[←r2.length,←r1.length];exact hl
 simp only[hp2];obtain⟨h0,g0,d0,t0,os0⟩:=s2;refine bh (wpAny_keeperOf_exc (I2.bk _ _ hC) ?_);refine bh (dZ (ai3 Fn hBn FB hq I2 g1 hl2 q1 λv H' d G' t3=>kk v H' d G' (t1.trans t3)) λv s3 q3=>bh (qp (wpAny_point (cj q3))))
def aGV(Fn:a0w Bn newId inN bmN)(hBn:bmB.contains (.type Bn)=ak)(FB:a0w B nid initId bmB)(hg:Gl X x)(hm:X.mg x=aj (.ref C))(hq:yx X.K C bmB newId=ak)(hd:(x==("__debug__":Str))=ao):cO X (.Call (.Name x np) [] [] cpos) (auM C aF):=by
 intro pins s σ H Q I h;obtain⟨ρ,G,R,sr,g,⟨hl,q⟩,kk⟩:=h;obtain⟨tl,N,nm,q',bs,hdct,sn,sub,ab,col,dd',k0,k1,k2,k3,k5,mN,hC,hN,hni,T⟩:=a93 I.mod.kin hq;refine wpAny_Call_ofName (rD I hg hm ?_ hd);unfold callWith;refine bh (qp (PySem.evalArgs_none (bh (wpAny_standAt ?_))));obtain⟨h0,g0,d0,t0,os0⟩:=s;refine bh (wpAny_keeperOf_exc (I.bk _ _ hC) ?_);refine bh (dZ (ai3 (us:=[]) Fn hBn FB hq I g (ur _) q kk) λv s3 q3=>bh (qp (wpAny_point (cj q3))))
end
end
section
abbrev auO(C:bw)(f:Str)(x:D)(G:Gp)(R:iB):Prop:=match x with
 |.ref a=>(match G a with
  |some (.ins C' fs)=>C'=C/\(match fs.lookup f with
   |some d=>R d G
   |none=>False)
  |_=>False)
 |_=>False
abbrev lA(C:bw)(ta:cJ)(f:Str):cJ:=λρ G R=>ta ρ G λx G1=>auO C f x G1 R
private theorem aa3{K:Fg}:∀{fs:List (Str×D)}{vs:List (Str×V)}{d:D},Two (λp q=>p.1=q.1/\RD K H p.2 q.2) fs vs->fs.lookup f=aj d->∃v,vs.lookup f=aj v/\RD K H d v
 |_,_,_,.nil,e=>by cases e
 |(g,x)::fs,(g',y)::vs,d,.cons h r,e=>by
  obtain⟨rfl,h2⟩:=h;unfold yd at e ⊢;split at e
  .rename_i q;rw[q];cases e;exact⟨y,rfl,h2⟩
  .rename_i q;rw[q];exact aa3 r e
abbrev ai4(f:Str)(d:D):List (Str×D)->List (Str×D)
 |[]=>[(f,d)]
 |(g,x)::r=>if g=f then(g,d)::r else(g,x)::ai4 f d r
def anV{K:Fg}{v:V}(h:RD K H d v):∀{fs:List (Str×D)}{vs:List (Str×V)},Two (λp q=>p.1=q.1/\RD K H p.2 q.2) fs vs->Two (λp q=>p.1=q.1/\RD K H p.2 q.2) (ai4 f d fs) (xK f v vs)
 |_,_,.nil=>.cons ⟨rfl,h⟩ .nil
 |(g,x)::fs,(g',y)::vs,.cons q r=>by
  obtain⟨rfl,q2⟩:=q;unfold ai4 xK;by_cases c:g=f
  .rw[if_pos c,if_pos c];exact .cons ⟨rfl,h⟩ r
  .rw[if_neg c,if_neg c];exact .cons ⟨rfl,q2⟩ (anV h r)
section
variable{X:Cx}{o:jq}{f:Str}{C:bw}{pos:Pos}{ta tv:cJ}
private theorem aMW(he:cO X e ta)(c:Cls X.K C)(n:nT X.K C f)(hb:uh e f X.env (eval e X.env)=eval e X.env):cO X (.Attribute e f pos) (lA C ta f):=by
 refine PE.imp (aF4 he hb) λσ H Q h=>?_;obtain⟨ρ,G,R,s,g,t,k⟩:=h;refine⟨ρ,G,_,s,g,t,λv H1 x G1 t1 rx g1 t'=>?_⟩;unfold auO at t';split at t'
 .rename_i a;split at t'
  .rename_i C' fs e1;obtain⟨rfl,t'⟩:=t';split at t'
   .rename_i d e2;obtain⟨dx,vs,e3,r⟩:=g1 a _ e1;obtain⟨w,e4,rw⟩:=aa3 r e2;cases rx;exact⟨a,_,dx,vs,w,rfl,e3,c,n,e4,k w H1 d G1 t1 rw g1 t'⟩
   .exact t'.elim
  .exact t'.elim
 .exact t'.elim
abbrev ai5(C:bw)(f:Str)(x y:D)(F:gJ)(ρ:aP)(G:Gp):Prop:=match x with
 |.ref a=>(match G a with
  |some (.ins C' fs)=>C'=C/\fs.length<1000/\F.nx ρ (aH G a (.ins C (ai4 f y fs)))
  |_=>False)
 |_=>False
abbrev a6N(C:bw)(ta tv:cJ)(f:Str):bJ:=λF ρ G=>tv ρ G λy G1=>ta ρ G1 λx G2=>ai5 C f x y F ρ G2
private theorem aGW(ha:cO X o ta)(hv:cO X value tv)(c:Cls X.K C)(n:nT X.K C f)(hs:a0h value (aj (.Attribute o f pos')) pos.line X.env=pure ao):PS3 X (.Assign [.Attribute o f pos'] value pos) (a6N C ta tv f):=by
 refine PS.imp (aF5 ha hv hs) λF σ H h=>?_;obtain⟨ρ,G,E,s,g,t,u⟩:=h;refine⟨ρ,G,_,s,g,t,λy H1 d G1 t1 ry g1 t'=>?_⟩;refine⟨ρ,G1,_,s.mono t1,g1,t',λv H2 x G2 t2 rx g2 t''=>?_⟩;unfold ai5 at t'';split at t''
 .rename_i a;split at t''
  .rename_i C' fs e1;obtain⟨rfl,hl,t''⟩:=t'';obtain⟨dx,vs,e3,r⟩:=g2 a _ e1;have ry2:=ry.mono t2;have tt:Ts H2 (upd H2 a (.ins C' dx (xK f y vs))):=Ts.turn e3 (λ_ z=>by cases z) (λ_ _ z=>by cases z);cases rx;refine⟨a,_,dx,vs,rfl,e3,c,n,by rw[←r.length];exact hl,u.nx ρ _ σ _ ((s.mono t1).mono t2 |>.mono tt) (HR.turn g2 tt ?_) t''⟩;exact⟨dx,_,aM,(anV ry2 r).imp λ_ _ q=>⟨q.1,q.2.mono tt⟩⟩
  .exact t''.elim
 .exact t''.elim
end
variable{Q:VK}
section
variable{X:Cx}{qt:Bool}{k:Nat}{f C:bw}{fd:jw}{ps:List Str}{sp:qK}{EX:aP->aZ}{x m:Str}{p pos apos:Pos}{o:jq}{t:xG}{ta:cJ}{dd:List D}{dvs:List V}{ds:List aq}
private theorem ai6{Q':VK}(F:cH qt X.prog X.w X.K X.mg X.base (lX X.prog X.w) k f fd ps (d8 X.K sp))(hr:lW qt k X.A)(hb:Binds X.K fd ps ds)(hd:Vals dvs ds)
  (hx:∀e s',lX X.prog X.w X.stack H s E e s'->X.xe e s')
  (I:Inv X pins σ H s)(r:Vals vs us)(h:d8 X.K sp (vs++dvs) H Q E)(hQ:∀v H',Ts H H'->Q v H'->Q' v H'):dg (dw X.prog X.w) X.A (call (.ref f) us) (EP X pins σ Q') X.xe s:=by
 have hl:(us++ds).length=ps.length:=by rw[←(r.append hd).length];exact F.len _ _ _ _ h
 refine wpAny_call (codeAny_mono (F.run X.A X.stack s H ⟨us,[]⟩ (us++ds) (vs++dvs) Q E hr I.env0 (hb s us I.kIn hl) (r.append hd) h) λr s' hq=>?_);cases r with
 |error e=>exact hx e s' hq
 |ok fl =>
  cases fl with
  |ret u =>
   obtain⟨v,H',os,bare,un,hok,r,q⟩:=hq;exact⟨v,H',I.call' (ch:=[]) os un hok bare (λb z=>absurd z (by simp)),r,hQ v H' ⟨un.tups,un.mQ⟩ q⟩
  |next=>exact False.elim hq
  |brk=>exact False.elim hq
  |cont=>exact False.elim hq
abbrev ai7(C:bw)(m:Str)(x:D)(G:Gp):Prop:=∃a fs,x=.ref a/\G a=aj (.ins C fs)/\fs.lookup m=au
abbrev gB(C:bw)(m:Str)(sp:qK)(dd:List D)(EX:aP->aZ)(ta:cJ)(t:xG):cJ:=λρ G R=>ta ρ G λx G1=>ai7 C m x G1/\t ρ G1 λds G2=>sp (x::(ds++dd)) G2 R (EX ρ)
private theorem aa4{K:Fg}{f:Str}:∀{fs:List (Str×D)}{vs:List (Str×V)},Two (λp q=>p.1=q.1/\RD K H p.2 q.2) fs vs->fs.lookup f=au->vs.lookup f=au
 |_,_,.nil,e=>rfl
 |(g,x)::fs,(g',y)::vs,.cons h r,e=>by
  obtain⟨rfl,h2⟩:=h;unfold yd at e ⊢;split at e
  .cases e
  .rename_i q;rw[q];exact aa4 r e
def aA1(ho:cO X o ta)(c:Cls X.K C)(hm:Meth X.K C m f)(F:cH qt X.prog X.w X.K X.mg X.base (lX X.prog X.w) k f fd ps (d8 X.K sp))(hr:lW qt k X.A)(hb:Binds X.K fd ps ds)(hd:Vals dvs ds)(hdd:∀H,dB X.K H dd dvs)(hx:Cat X EX)
  (ha:PA3 X (e::es) t)(hst:ji (e::es) X.env=(ao,eval e X.env)::ji es X.env)(hpl:(tu pos (ji es X.env)).any (·.1)=ao)
  (ht:eval (.Call (.Attribute o m apos) (e::es) [] pos) X.env=(do
   let ov ←eval o X.env
   standAt apos.atName
   let(f,first) ←holding [ov] (getMethod ov m pl)
   callWith pos f first (tu pos (ji (e::es) X.env)) (backToKw pos (a0f [] X.env)))) :
  cO X (.Call (.Attribute o m apos) (e::es) [] pos) (gB C m sp dd EX ta t):=by
 intro pins s σ H Q I h;obtain⟨ρ,G,R,sr,g,q,kk⟩:=h;refine PySem.W.methodCall_KW (pl:=pl) (dZ (ho pins s σ H (λv H1=>∃d G1,Ts H H1/\RD X.K H1 d v/\HR X.K H1 G1/\ai7 C m d G1/\t ρ G1 λds G2=>sp (d::(ds++dd)) G2 R (EX ρ)) I ⟨ρ,G,_,sr,g,q,λv H1 d G1 t1 r1 g1 q1=>⟨d,G1,t1,r1,g1,q1⟩⟩) ?_) ht;rintro u s1 ⟨x,H1,I1,rx,d,G1,t1,r1,g1,⟨a,fs,ed,ea,el⟩,q1⟩;subst ed;cases r1;obtain rfl:u=aq.ref a:=rx;obtain⟨dx,vs,e3,r⟩:=g1 a _ ea;refine a9K I1 e3 c hm (aa4 r el) ?_;refine a2K (first:=[.ref a]) (h₀:=X.base) I.ok.mod.kin hm.kp (dZ (ha pos pins s1 σ H1 (λvs H2=>Ts H1 H2/\∃ds G2,dB X.K H2 ds vs/\HR X.K H2 G2/\sp (.ref a::(ds++dd)) G2 R (EX ρ)) I1 ⟨ρ,G1,_,sr.mono t1,g1,q1,λvs H2 ds G2 t2 r2 g2 q2=>⟨t2,ds,G2,r2,g2,q2⟩⟩) λus s2 ⟨vs,H2,I2,r,t2,vH,G2,r2,g2,q2⟩=>⟨I2.kIn,?_⟩) hst hpl;refine ai6 (us:=.ref a::us) (vs:=.ref a::vs) (E:=a2P X.K (EX ρ)) F hr hb hd (λe s' c=>hx.ahJ pins σ H2 s2 ρ e s' I2 ((sr.mono t1).mono t2) c) I2 (.cons rfl r) (Q:=λv H'=>∃d G',RD X.K H' d v/\HR X.K H' G'/\R d G') ⟨.ref a::(vH++dd),G2,R,EX ρ,.cons (.ref a) (r2.append (hdd H2)),g2,q2,λv H' d G' r3 g3 q3=>⟨d,G',r3,g3,q3⟩,λC H' G' g' q'=>⟨C,G',rfl,g',q'⟩⟩ (by rintro v H' t3 ⟨d,G',r3,g3,q3⟩;exact kk v H' d G' ((t1.trans t2).trans t3) r3 g3 q3)
def auP(ho:cO X o ta)(c:Cls X.K C)(hm:Meth X.K C m f)(F:cH qt X.prog X.w X.K X.mg X.base (lX X.prog X.w) k f fd ps (d8 X.K sp))(hr:lW qt k X.A)(hb:Binds X.K fd ps ds)(hd:Vals dvs ds)(hdd:∀H,dB X.K H dd dvs)(hx:Cat X EX)
  (ht:eval (.Call (.Attribute o m apos) [] [] pos) X.env=(do
   let ov ←eval o X.env
   standAt apos.atName
   let(f,first) ←holding [ov] (getMethod ov m pl)
   callWith pos f first (tu pos (ji [] X.env)) (backToKw pos (a0f [] X.env)))) :
  cO X (.Call (.Attribute o m apos) [] [] pos) (gB C m sp dd EX ta aF):=by
 intro pins s σ H Q I h;obtain⟨ρ,G,R,sr,g,q,kk⟩:=h;refine PySem.W.methodCall_KW (pl:=pl) (dZ (ho pins s σ H (λv H1=>∃d G1,Ts H H1/\RD X.K H1 d v/\HR X.K H1 G1/\ai7 C m d G1/\aF ρ G1 λds G2=>sp (d::(ds++dd)) G2 R (EX ρ)) I ⟨ρ,G,_,sr,g,q,λv H1 d G1 t1 r1 g1 q1=>⟨d,G1,t1,r1,g1,q1⟩⟩) ?_) ht;rintro u s1 ⟨x,H1,I1,rx,d,G1,t1,r1,g1,⟨a,fs,ed,ea,el⟩,q1⟩;subst ed;cases r1;obtain rfl:u=aq.ref a:=rx;obtain⟨dx,vs,e3,r⟩:=g1 a _ ea;refine a9K I1 e3 c hm (aa4 r el) ?_;refine a2v (first:=[.ref a]) I1.kIn hm.kp ?_;refine ai6 (us:=[.ref a]) (vs:=[.ref a]) (E:=a2P X.K (EX ρ)) F hr hb hd (λe s' c=>hx.ahJ pins σ H1 s1 ρ e s' I1 (sr.mono t1) c) I1 (.cons rfl .nil) (Q:=λv H'=>∃d G',RD X.K H' d v/\HR X.K H' G'/\R d G') ⟨.ref a::dd,G1,R,EX ρ,.cons (.ref a) (hdd H1),g1,q1,λv H' d G' r3 g3 q3=>⟨d,G',r3,g3,q3⟩,λC H' G' g' q'=>⟨C,G',rfl,g',q'⟩⟩ (by rintro v H' t3 ⟨d,G',r3,g3,q3⟩;exact kk v H' d G' (t1.trans t3) r3 g3 q3)
abbrev a6O(C:bw)(sp:qK)(dd:List D)(EX:aP->aZ)(t:xG):cJ:=λρ G R=>t ρ G λds G1=>∀x,G1 x=au->sp (.ref x::(ds++dd)) (aH G1 x (.ins C [])) (λv G2=>v=.non/\R (.ref x) G2) (EX ρ)
private theorem adV{σ:St}{H:Hp}{s:cu}{G:Gp}{R:iB}{us:List aq}{vs:List V}{vH:List D}{ρ:aP}(M:Mk X.K C f)(F:cH qt X.prog X.w X.K X.mg X.base (lX X.prog X.w) k f fd ps (d8 X.K sp))(hr:lW qt (k+1) X.A)(hb:Binds X.K fd ps ds)(hd:Vals dvs ds)(hdd:∀H,dB X.K H dd dvs)(hx:Cat X EX)
  (I:Inv X pins σ H s)(sr:SR X.K H ρ σ)(g:HR X.K H G)(r:Vals vs us)(r2:dB X.K H vH vs)(h:∀x,G x=au->sp (.ref x::(vH++dd)) (aH G x (.ins C [])) (λv G2=>v=.non/\R (.ref x) G2) (EX ρ))
  (hQ:∀v H' d G',Ts H H'->RD X.K H' d v->HR X.K H' G'->R d G'->Q v H'):dg (dw X.prog X.w) X.A (call (.ref C) us) (EP X pins σ Q) X.xe s:=by
 have n1:H (s.heap.objs.size+1)=au:=I.hok.fresh (a0r _);have n0:H s.heap.objs.size=au:=I.hok.fresh (dz _);have ne:s.heap.objs.size+1≠s.heap.objs.size:=Nat.succ_ne_self _;have I2:=Inv.made (C:=C) I
 have kl:X.K.lookup (s.heap.objs.size+1)=au:=by
  cases q:X.K.lookup (s.heap.objs.size+1)with
  |none=>rfl
  |some u=>have:=qX I2 _ u q;rw[aM]at this;cases this
 have gn:G (s.heap.objs.size+1)=au:=jE (o:=.ins C s.heap.objs.size []) g n1 λb u e=>by
  by_cases c:b=s.heap.objs.size+1
  .subst c;rw[kl]at e;cases e
  .rw[bA c];exact qX I b u e
 have t1:Ts H (upd H s.heap.objs.size (.own (s.heap.objs.size+1))):=.same (bO n0);have n1':upd H s.heap.objs.size (.own (s.heap.objs.size+1)) (s.heap.objs.size+1)=au:=by rw[bA ne];exact n1
 have t2:Ts (upd H s.heap.objs.size (.own (s.heap.objs.size+1))) (upd (upd H s.heap.objs.size (.own (s.heap.objs.size+1))) (s.heap.objs.size+1) (.ins C s.heap.objs.size [])):=.same (bO n1');have g1:HR X.K (upd H s.heap.objs.size (.own (s.heap.objs.size+1))) G:=g.same (bO n0);have g2:HR X.K (upd (upd H s.heap.objs.size (.own (s.heap.objs.size+1))) (s.heap.objs.size+1) (.ins C s.heap.objs.size [])) (aH G (s.heap.objs.size+1) (.ins C [])):=g1.put n1' ⟨s.heap.objs.size,[],aM,.nil⟩
 have hq:d8 X.K sp (V.ref (s.heap.objs.size+1)::(vs++dvs)) (upd (upd H s.heap.objs.size (.own (s.heap.objs.size+1))) (s.heap.objs.size+1) (.ins C s.heap.objs.size [])) (λv H'=>v=.non/\∃G',HR X.K H' G'/\R (.ref (s.heap.objs.size+1)) G') (a2P X.K (EX ρ)) :=
  ⟨.ref (s.heap.objs.size+1)::(vH++dd),_,_,EX ρ,.cons (.ref _) (((r2.mono t1).mono t2).append (hdd _)),g2,h _ gn,λv H' d G' r3 g3 q3=>by
   obtain⟨rfl,q3⟩:=q3;cases r3;exact⟨rfl,G',g3,q3⟩,λC H' G' g' q'=>⟨C,G',rfl,g',q'⟩⟩
 have rr:Vals (V.ref (s.heap.objs.size+1)::(vs++dvs)) (aq.ref (s.heap.objs.size+1)::(us++ds)):=.cons rfl (r.append hd)
 have hl:(aq.ref (s.heap.objs.size+1)::us++ds).length=ps.length:=by
  have e:=rr.length;rw[F.len _ _ _ _ hq]at e;exact e.symm
 refine wpAny_call (asW (f:=f) I.kIn M.makes M.init (beq_iff_eq.mp M.fn) (codeAny_mono (F.run _ X.stack _ _ ⟨aq.ref (s.heap.objs.size+1)::us,[]⟩ (aq.ref (s.heap.objs.size+1)::(us++ds)) _ _ _ (hr.make C us [])
  (I2.env0.make C us []) (hb _ (aq.ref (s.heap.objs.size+1)::us) I2.kIn hl) rr hq) λr s' hq'=>?_))
 cases r with
 |error e=>exact hx.ahJ pins σ _ _ ρ e s' I2 ((sr.mono t1).mono t2) hq'
 |ok fl =>
  cases fl with
  |ret u =>
   obtain⟨v,H',os,bare,un,hok,rv,ev,G',g3,q3⟩:=hq';subst ev;exact⟨rv,⟨V.ref (s.heap.objs.size+1),H',I2.call' (ch:=[]) os un hok bare (λb z=>absurd z (by simp)),rfl,hQ _ H' (.ref _) G' ((t1.trans t2).trans ⟨un.tups,un.mQ⟩) (.ref _) g3 q3⟩⟩
  |next=>exact False.elim hq'
  |brk=>exact False.elim hq'
  |cont=>exact False.elim hq'
def aA2(M:Mk X.K C f)(F:cH qt X.prog X.w X.K X.mg X.base (lX X.prog X.w) k f fd ps (d8 X.K sp))(hr:lW qt (k+1) X.A)(hg:Gl X x)(hm:X.mg x=aj (.ref C))(hb:Binds X.K fd ps ds)(hd:Vals dvs ds)(hdd:∀H,dB X.K H dd dvs)(hx:Cat X EX)
  (ha:PA3 X (e::es) t)(hdb:(x==("__debug__":Str))=ao)(he:ji (e::es) X.env=(ao,eval e X.env)::ji es X.env)(hpl:(tu pos (ji es X.env)).any (·.1)=ao) :
  cO X (.Call (.Name x p) (e::es) [] pos) (a6O C sp dd EX t):=by
 intro pins s σ H Q I h;obtain⟨ρ,G,R,sr,g,q,kk⟩:=h;refine xg (rD I hg hm ?_ hdb);refine a2K (h₀:=X.base) I.ok.mod.kin M.kp (dZ (ha pos pins s σ H (λvs H1=>Ts H H1/\∃ds G1,dB X.K H1 ds vs/\HR X.K H1 G1/\∀x,G1 x=au->sp (.ref x::(ds++dd)) (aH G1 x (.ins C [])) (λv G2=>v=.non/\R (.ref x) G2) (EX ρ)) I ⟨ρ,G,_,sr,g,q,λvs H1 ds G1 t1 r1 g1 q1=>⟨t1,ds,G1,r1,g1,q1⟩⟩) λus s1 ⟨vs,H1,I1,r,t1,ds,G1,r1,g1,q1⟩=>⟨I1.kIn,?_⟩) he hpl;exact adV M F hr hb hd hdd hx I1 (sr.mono t1) g1 r r1 q1 λv H' d G' t2=>kk v H' d G' (t1.trans t2)
def auQ(M:Mk X.K C f)(F:cH qt X.prog X.w X.K X.mg X.base (lX X.prog X.w) k f fd ps (d8 X.K sp))(hr:lW qt (k+1) X.A)(hg:Gl X x)(hm:X.mg x=aj (.ref C))(hb:Binds X.K fd ps ds)(hd:Vals dvs ds)(hdd:∀H,dB X.K H dd dvs)(hx:Cat X EX)
  (hdb:(x==("__debug__":Str))=ao):cO X (.Call (.Name x p) [] [] pos) (a6O C sp dd EX aF):=by
 intro pins s σ H Q I h;obtain⟨ρ,G,R,sr,g,q,kk⟩:=h;refine xg (rD I hg hm ?_ hdb);exact a2v I.kIn M.kp (adV (us:=[]) (vs:=[]) (vH:=[]) M F hr hb hd hdd hx I sr g .nil .nil q λv H' d G' t2=>kk v H' d G' t2)
end
end
section
section
end
section
end
section
end
section
end
end
section
abbrev auR:D->Option Key
 |.int i=>aj (.inl i)
 |.str x=>aj (.inr x)
 |_=>au
abbrev a6P:List D->Option (List Key)
 |[]=>aj []
 |d::r=>match auR d,a6P r with
  |some k,aj ks=>aj (k::ks)
  |_,_=>au
abbrev a1Z:D->Option DK
 |.int i=>aj (.inl (.inl i))
 |.str x=>aj (.inl (.inr x))
 |.tup ds=>(match a6P ds with
  |some ks=>aj (.inr ks)
  |none=>au)
 |_=>au
abbrev uF:DK->Bool
 |.inl _=>ao
 |.inr _=>ak
section
variable{κ:Type}[DecidableEq κ]{α:Type}
abbrev aL:List (κ×α)->κ->Option α
 |[],_=>au
 |p::r,k=>if p.1=k then aj p.2 else aL r k
abbrev cP(kvs:List (κ×α))(k:κ)(v:α):List (κ×α):=if(aL kvs k).isSome=ak then kvs.map (λkv=>if kv.1=k then(kv.1,v)else kv)else kvs++[(k,v)]
abbrev bT(kvs:List (κ×α))(k:κ):List (κ×α):=kvs.filter λkv=>!decide (kv.1=k)
end
variable{v:V}
def anW{K:Fg}{k:Key}(r:RD K H d v)(e:auR d=aj k):v=kV k:=by
 cases r<;>first
  |(cases e;rfl)
  |cases e
private theorem aa5{K:Fg}:∀{ds:List D}{vs:List V}{ks:List Key},dB K H ds vs->a6P ds=aj ks->vs=ks.map kV
 |_,_,_,.nil,e=>by cases e;rfl
 |d::ds,v::vs,ks,.cons h r,e=>by
  unfold a6P at e;split at e
  .rename_i k ks' e1 e2;cases e;rw[anW h e1,aa5 r e2];rfl
  .cases e
@[simp]def vI{κ:Type}(K:Fg)(H:Hp)(f:κ->DK):List (DK×D)->List (κ×V)->Prop:=Two λp q=>p.1=f q.1/\RD K H p.2 q.2
section
variable{κ:Type}[DecidableEq κ]{K:Fg}
def val_two(hf:∀a b,f a=f b->a=b){k:κ}:∀{kvs:List (DK×D)}{xs:List (κ×V)},vI K H f kvs xs->(∀d,aL kvs (f k)=aj d->∃v,zN xs k=aj v/\RD K H d v)/\(aL kvs (f k)=au->zN xs k=au)
 |_,_,.nil=>⟨λd e=>(nomatch e),λ_=>rfl⟩
 |p::kvs,q::xs,.cons h r=>by
  obtain⟨h1,h2⟩:=h;by_cases c:q.1=k
  .have c2:p.1=f k:=by rw[h1,c]
   unfold aL;rw[if_pos c2,zP c];exact⟨λd e=>by cases e;exact⟨_,rfl,h2⟩,λe=>(nomatch e)⟩
  .have c2:¬ p.1=f k:=λz=>c (hf _ _ (h1.symm.trans z));unfold aL;rw[if_neg c2,zQ c];exact val_two hf r
def auS(hf:∀a b,f a=f b->a=b){k:κ}(t:vI K H f kvs xs):(aL kvs (f k)).isSome=(zN xs k).isSome:=by
 have z:=val_two hf (k:=k) t;cases e:aL kvs (f k)with
 |none=>rw[z.2 e];rfl
 |some d=>obtain⟨v,e2,_⟩:=z.1 d e;rw[e2];rfl
def anY{g:DK×D->DK×D}{h:κ×V->κ×V}(gh:∀p q,p.1=f q.1/\RD K H p.2 q.2->(g p).1=f (h q).1/\RD K H (g p).2 (h q).2):∀{kvs:List (DK×D)}{xs:List (κ×V)},vI K H f kvs xs->vI K H f (kvs.map g) (xs.map h)
 |_,_,.nil=>.nil
 |_,_,.cons z r=>.cons (gh _ _ z) (anY gh r)
def ai8{p:DK×D}{q:κ×V}(z:p.1=f q.1/\RD K H p.2 q.2):∀{kvs:List (DK×D)}{xs:List (κ×V)},vI K H f kvs xs->vI K H f (kvs++[p]) (xs++[q])
 |_,_,.nil=>.cons z .nil
 |_,_,.cons y r=>.cons y (ai8 z r)
def a5A(hf:∀a b,f a=f b->a=b){k:κ}(rd:RD K H d v)(t:vI K H f kvs xs):vI K H f (cP kvs (f k) d) (putK xs k v):=by
 unfold cP putK;rw[a9L,auS hf t];split
 ·refine anY ?_ t;rintro p q ⟨h1,h2⟩;by_cases c:q.1=k
  .rw[if_pos (show p.1=f k by rw[h1,c]),if_pos c];exact⟨h1,rd⟩
  .rw[if_neg (show ¬ p.1=f k from λz=>c (hf _ _ (h1.symm.trans z))),if_neg c];exact⟨h1,h2⟩
 .exact ai8 (p:=(f k,d)) (q:=(k,v)) ⟨rfl,rd⟩ t
end
def p8(a b:Key)(h:(Sum.inl a:DK)=.inl b):a=b:=by cases h;rfl
def mU(a b:List Key)(h:(Sum.inr a:DK)=.inr b):a=b:=by cases h;rfl
abbrev wC(x y:D)(G:Gp)(P:bw->Bool->List (DK×D)->DK->Prop):Prop:=match x with
 |.ref a=>(match G a,a1Z y with
  |some (.cF t kvs),aj k=>uF k=t/\P a t kvs k
  |_,_=>False)
 |_=>False
abbrev aa6(K:Fg)(H:Hp)(a:bw)(vy:V)(kvs:List (DK×D))(k:DK):Prop :=
 (∃k' xs,k=.inl k'/\H a=aj (.dK xs)/\vI K H .inl kvs xs/\vy=kV k')∨∃ks xs b,k=.inr ks/\H a=aj (.dT xs)/\vI K H .inr kvs xs/\vy=.ref b/\H b=aj (.tup (ks.map kV))
private theorem afL{K:Fg}{k:DK}(ry:RD K H y vy)(e:a1Z y=aj k):(∃k',k=.inl k'/\vy=kV k')∨∃ks b,k=.inr ks/\vy=.ref b/\H b=aj (.tup (ks.map kV)):=by
 cases ry with
 |int i=>cases e;exact .inl ⟨_,rfl,rfl⟩
 |str x=>cases e;exact .inl ⟨_,rfl,rfl⟩
 |@tup a xs ds hq r e0 =>
  have e':(match a6P ds with
   |some ks=>aj (Sum.inr ks:DK)
   |none=>au)=aj k:=e
  split at e'
  .rename_i ks e1;cases e';have:=aa5 r e1;subst this;exact .inr ⟨ks,a,rfl,rfl,e0⟩
  .cases e'
 |_=>cases e
variable{x:D}
private theorem wD{K:Fg}(rx:RD K H x vx)(ry:RD K H y vy)(g:HR K H G)(h:wC x y G P) :
  ∃a kvs k,x=.ref a/\vx=.ref a/\G a=aj (.cF (uF k) kvs)/\a1Z y=aj k/\P a (uF k) kvs k/\aa6 K H a vy kvs k:=by
 unfold wC at h;split at h
 .rename_i a;split at h
  .rename_i t kvs k e1 e2;obtain⟨rfl,h⟩:=h;cases rx;refine⟨a,kvs,k,rfl,rfl,e1,e2,h,?_⟩;rcases g a _ e1 with⟨z,xs,e3,r⟩|⟨z,xs,e3,r⟩
   .rcases afL ry e2 with⟨k',rfl,rfl⟩|⟨ks,b,rfl,_⟩
    .exact .inl ⟨k',xs,rfl,e3,r,rfl⟩
    .cases z
   .rcases afL ry e2 with⟨k',rfl,rfl⟩|⟨ks,b,rfl,rfl,eb⟩
    .cases z
    .exact .inr ⟨ks,xs,b,rfl,e3,r,rfl,eb⟩
  .exact h.elim
 .exact h.elim
def aa6.get{K:Fg}{k:DK}(h:aa6 K H a vy kvs k):(∀d,aL kvs k=aj d->∃v,a3N H a vy (aj v)/\RD K H d v)/\(aL kvs k=au->a3N H a vy au):=by
 rcases h with⟨k',xs,rfl,e,r,rfl⟩|⟨ks,xs,b,rfl,e,r,rfl,eb⟩
 .have z:=val_two p8 (k:=k') r;exact⟨λd e2=>(z.1 d e2).elim λv q=>⟨v,by rw[←q.1];exact .k e,q.2⟩,λe2=>by rw[←z.2 e2];exact .k e⟩
 .have z:=val_two mU (k:=ks) r;exact⟨λd e2=>(z.1 d e2).elim λv q=>⟨v,by rw[←q.1];exact .t e eb,q.2⟩,λe2=>by rw[←z.2 e2];exact .t e eb⟩
def aa6.any{K:Fg}{k:DK}(h:aa6 K H a vy kvs k):∃o,a3N H a vy o/\o.isSome=(aL kvs k).isSome/\∀d v,RD K H d v->RD K H ((aL kvs k).getD d) (o.getD v):=by
 have z:=h.get;cases e:aL kvs k with
 |none=>exact⟨au,z.2 e,rfl,λd v r=>r⟩
 |some d=>obtain⟨v,g,r⟩:=z.1 d e;exact⟨aj v,g,rfl,λ_ _ _=>r⟩
def aa6.put{K:Fg}{kvs:List (DK×D)}{k:DK}(g:HR K H G)(h:aa6 K H a vy kvs k)(rv:RD K H d v)(hl:kvs.length<dh):∃H',al3 H a vy v H'/\Ts H H'/\HR K H' (aH G a (.cF (uF k) (cP kvs k d))):=by
 rcases h with⟨k',xs,rfl,e,r,rfl⟩|⟨ks,xs,b,rfl,e,r,rfl,eb⟩
 .have tt:Ts H (upd H a (.dK (putK xs k' v))):=.turn e (λ_ z=>nomatch z) (λ_ _ z=>nomatch z);exact⟨_,.k e (by rw[←r.length];exact hl),tt,g.turn (u:=.cF ao _) tt (.inl ⟨rfl,_,aM,(a5A p8 rv r).imp λ_ _ q=>⟨q.1,q.2.mono tt⟩⟩)⟩
 .have tt:Ts H (upd H a (.dT (putK xs ks v))):=.turn e (λ_ z=>nomatch z) (λ_ _ z=>nomatch z);exact⟨_,.t e eb (by rw[←r.length];exact hl),tt,g.turn (u:=.cF ak _) tt (.inr ⟨rfl,_,aM,(a5A mU rv r).imp λ_ _ q=>⟨q.1,q.2.mono tt⟩⟩)⟩
abbrev a5B(G:Gp)(a:bw):Option (Bool×List (DK×D)):=match G a with
 |some (.cF t kvs)=>aj (t,kvs)
 |some (.rdc _ t kvs)=>aj (t,kvs)
 |_=>au
private theorem auT{K:Fg}{t:Bool}(g:HR K H G)(e:a5B G a=aj (t,kvs)) :
  (t=ao/\∃xs:List (Key×V),Rd H a (.dK xs)/\vI K H .inl kvs xs)∨(t=ak/\∃xs:List (List Key×V),Rd H a (.dT xs)/\vI K H .inr kvs xs):=by
 unfold a5B at e;split at e
 .rename_i t' kvs' q;cases e;rcases g a _ q with⟨z,xs,e2,tw⟩|⟨z,xs,e2,tw⟩
  .exact .inl ⟨z,xs,.inl e2,tw⟩
  .exact .inr ⟨z,xs,.inl e2,tw⟩
 .rename_i o t' kvs' q;cases e;rcases g a _ q with⟨z,xs,e2,tw⟩|⟨z,xs,e2,tw⟩
  .exact .inl ⟨z,xs,.inr ⟨o,e2⟩,tw⟩
  .exact .inr ⟨z,xs,.inr ⟨o,e2⟩,tw⟩
 .cases e
abbrev aa7(x y:D)(G:Gp)(P:List (DK×D)->DK->Prop):Prop:=match x with
 |.ref a=>(match a5B G a,a1Z y with
  |some (t,kvs),aj k=>uF k=t/\P kvs k
  |_,_=>False)
 |_=>False
private theorem aqX{K:Fg}(rx:RD K H x vx)(ry:RD K H y vy)(g:HR K H G)(h:aa7 x y G P) :
  ∃a kvs k,x=.ref a/\vx=.ref a/\P kvs k/\∀d,aL kvs k=aj d->∃v,a3N H a vy (aj v)/\RD K H d v:=by
 unfold aa7 at h;split at h
 .rename_i a;split at h
  .rename_i t kvs k e1 e2;obtain⟨rfl,h⟩:=h;cases rx;refine⟨a,kvs,k,rfl,rfl,h,λd ed=>?_⟩;rcases auT g e1 with⟨z,xs,e3,r⟩|⟨z,xs,e3,r⟩
   .rcases afL ry e2 with⟨k',rfl,rfl⟩|⟨ks,b,rfl,_⟩
    .obtain⟨v,e4,rv⟩:=(val_two p8 (k:=k') r).1 d ed;exact⟨v,.inl ⟨xs,k',e3,rfl,e4.symm⟩,rv⟩
    .cases z
   .rcases afL ry e2 with⟨k',rfl,rfl⟩|⟨ks,b,rfl,rfl,eb⟩
    .cases z
    .obtain⟨v,e4,rv⟩:=(val_two mU (k:=ks) r).1 d ed;exact⟨v,.inr ⟨xs,ks,b,e3,rfl,eb,e4.symm⟩,rv⟩
  .exact h.elim
 .exact h.elim
abbrev sW:R3:=λx y G R=>aa7 x y G λkvs k=>match aL kvs k with
 |some d=>R d G
 |none=>False
abbrev ai9:R3:=λx y G R=>wC y x G λ_ _ kvs k=>R (.bl (aL kvs k).isSome) G
abbrev auU:R3:=λx y G R=>wC y x G λ_ _ kvs k=>R (.bl (!(aL kvs k).isSome)) G
section
variable{X:Cx}{o:jq}{to ti tv te tf:cJ}{pos:Pos}
private theorem aMX(hu:X.A.units+64<jr)(ho:cO X o to)(hi:cO X i ti)(hs:ayV i):cO X (.Subscript o i pos) (aG sW to ti):=by
 refine PE.imp (ayW (by omega) ho hi hs) λσ H Q h=>?_;obtain⟨ρ,G,R,s,g,t,k⟩:=h;refine⟨ρ,G,_,s,g,t,λvx H1 x G1 t1 rx g1 t'=>?_⟩;refine⟨ρ,G1,_,s.mono t1,g1,t',λvy H2 y G2 t2 ry g2 t''=>?_⟩;obtain⟨a,kvs,kk,rfl,rfl,q,dd⟩:=aqX (rx.mono t2) ry g2 t'';split at q
 .rename_i d e2;obtain⟨v,gg,rv⟩:=dd d e2;exact⟨a,v,rfl,gg,k v H2 d G2 (t1.trans t2) rv g2 q⟩
 .exact q.elim
def aMY(hu:X.A.units+64<jr):nH X (jg .In) ai9:=zX λpins s σ H x y vx vy u v G R Q I rx ry ru rv g q k=>by
 obtain⟨a,kvs,kk,rfl,rfl,e1,_,q,dd⟩:=wD ry rx g q;obtain⟨o,gg,eo,_⟩:=dd.any;obtain rfl:v=aq.ref a:=rv;exact aQ3 (by omega) I gg ru λs' I'=>⟨.bl o.isSome,H,I',rfl,k _ H (.bl _) G (.refl H) (.bl _) g (by rw[eo];exact q)⟩
def aGX(hu:X.A.units+64<jr):nH X (jg .NotIn) auU:=zX λpins s σ H x y vx vy u v G R Q I rx ry ru rv g q k=>by
 obtain⟨a,kvs,kk,rfl,rfl,e1,_,q,dd⟩:=wD ry rx g q;obtain⟨o,gg,eo,_⟩:=dd.any;obtain rfl:v=aq.ref a:=rv;exact ayU (by omega) I gg ru λs' I'=>⟨.bl (!o.isSome),H,I',rfl,k _ H (.bl _) G (.refl H) (.bl _) g (by rw[eo];exact q)⟩
abbrev anZ(x y v:D)(F:gJ)(ρ:aP)(G:Gp):Prop:=wC x y G λa t kvs k=>kvs.length<dh/\F.nx ρ (aH G a (.cF t (cP kvs k v)))
abbrev aa8(to ti tv:cJ):bJ:=λF ρ G=>tv ρ G λv G1=>to ρ G1 λx G2=>ti ρ G2 λy G3=>anZ x y v F ρ G3
def aGY(hu:X.A.units+64<jr)(ho:cO X o to)(hi:cO X i ti)(hv:cO X value tv)(hs:a0h value (aj (.Subscript o i pos')) pos.line X.env=pure ao):PS3 X (.Assign [.Subscript o i pos'] value pos) (aa8 to ti tv):=by
 refine PS.imp (ayX (by omega) ho hi hv hs) λF σ H h=>?_;obtain⟨ρ,G,E,s,g,t,u⟩:=h;refine⟨ρ,G,_,s,g,t,λv H1 d G1 t1 rv g1 t'=>?_⟩;refine⟨ρ,G1,_,s.mono t1,g1,t',λvx H2 x G2 t2 rx g2 t''=>?_⟩;refine⟨ρ,G2,_,s.mono (t1.trans t2),g2,t'',λvy H3 y G3 t3 ry g3 t4=>?_⟩;obtain⟨a,kvs,kk,rfl,rfl,e1,_,⟨hl,q⟩,dd⟩:=wD (rx.mono t3) ry g3 t4;obtain⟨H4,pp,tt,g4⟩:=dd.put g3 (rv.mono (t2.trans t3)) hl;exact⟨a,H4,rfl,pp,u.nx ρ _ σ _ (s.mono (((t1.trans t2).trans t3).trans tt)) g4 q⟩
abbrev vJ(x:D)(G:Gp):Prop:=match x with
 |.ref a=>(match G a with
  |some (.cF _ _)=>True
  |_=>False)
 |_=>False
private theorem adW{K:Fg}(rx:RD K H x vx)(g:HR K H G)(h:vJ x G):∃a,x=.ref a/\vx=.ref a/\IsD H a:=by
 unfold vJ at h;split at h
 .rename_i a;split at h
  .rename_i t kvs e;cases rx;rcases g a _ e with⟨_,xs,e2,_⟩|⟨_,xs,e2,_⟩
   .exact⟨a,rfl,rfl,.inl ⟨xs,.inl e2⟩⟩
   .exact⟨a,rfl,rfl,.inr ⟨xs,.inl e2⟩⟩
  .exact h.elim
 .exact h.elim
abbrev uG(to te tf:cJ):cJ:=λρ G R=>to ρ G λx G1=>vJ x G1/\te ρ G1 λy G2=>tf ρ G2 λz G3=>wC x y G3 λ_ _ kvs k=>R ((aL kvs k).getD z) G3
def aA3(hu:X.A.units+64<jr)(ho:cO X o to)(he:cO X e te)(hf:cO X f tf)(m:M2 X o "get" apos e f cpos):cO X (.Call (.Attribute o "get" apos) [e,f] [] cpos) (uG to te tf):=by
 refine PE.imp (at6 (by omega) ho he hf m) λσ H Q h=>?_;obtain⟨ρ,G,R,s,g,t,k⟩:=h;refine⟨ρ,G,_,s,g,t,λvx H1 x G1 t1 rx g1 t'=>?_⟩;obtain⟨isd,t'⟩:=t';obtain⟨a,rfl,rfl,ia⟩:=adW rx g1 isd;refine⟨a,rfl,ia,?_⟩;refine⟨ρ,G1,_,s.mono t1,g1,t',λvy H2 y G2 t2 ry g2 t''=>?_⟩;refine⟨ρ,G2,_,s.mono (t1.trans t2),g2,t'',λvz H3 z G3 t3 rz g3 t4=>?_⟩;obtain⟨a',kvs,kk,e,_,e1,_,q,dd⟩:=wD (rx.mono (t2.trans t3)) (ry.mono t3) g3 t4;cases e;obtain⟨o,gg,eo,hd⟩:=dd.any;exact⟨o,gg,k _ H3 _ G3 ((t1.trans t2).trans t3) (hd z vz rz) g3 q⟩
end
end
variable{o:Obj}
section
variable{p:bw×aq}
section
variable{prog:jt}{w:jj}{K:Type}[DecidableEq K]{knd:HeapKind prog w K}{A:jx}{s:cu}{a:bw}{k:K}{xs:List (K×bw×aq)}
def aGZ{xs:List (K×bw×aq)}{es ep}(hkey:knd.is s.heap k a)(ho:s.heap.get? d=aj o)(hc:o.ExactDict)(hd:o.data=.dict es ep)(he:es.toList=xs.map (entryOfKey knd))(his:∀x∈xs,knd.is s.heap x.1 x.2.1)(hn:(xs.map (·.1)).Nodup)(hno:∀(j:Nat)(p:bw×aq),xs[j]?≠aj (k,p)) :
  (s.heap.update d (Obj.mapDictKeys (·.push ⟨knd.hash k,.ref a,v⟩))).DictOfH knd d (a0j xs k a v):=by
 have nk:k∉xs.map (·.1):=not_mem_keys_of_get hno;refine⟨_,_,ep+1,a1k _ ho (Obj.isFreed_of_dict (Obj.data_mapDictKeys hd _)),hc.mapDictKeys _,Obj.data_mapDictKeys hd _,?_,?_,?_⟩<;>rw[storedH_new (atKey_none_of_get hno)]
 .simp[he,entryOfKey]
 .intro x hx;rcases uo.mp hx with hx|hx
  .exact knd.keeps (his x hx) ho hd (ni.update ..)
  .rw[qj]at hx;subst hx;exact knd.keeps hkey ho hd (ni.update ..)
 .rw[ql,vo];refine⟨hn,by simp,λx hx y hy e=>?_⟩;rw[List.map_singleton,qj]at hy;exact nk (by rw[←show y=k from hy,←e];exact hx)
def aH0(hu:knd.room A)(hkey:knd.is s.heap k a)(hm:s.heap.DictOfH knd d xs)(hsz:xs.length<=dh)
  (h1:∀p,atKey xs k=aj p->Q p.2 {s with toks:=s.toks+knd.draws k})
  (h2:atKey xs k=au->∀h',h'.DictOfH knd d (a0j xs k a v)->ni d s.heap h'->Q v {s with heap:=h',toks:=s.toks+knd.draws k}):dg (dw prog w) A (dictSetDefault d (.ref a) v) Q E s:=by
 obtain⟨o,es,ep,ho,hc,hd,he,his,hn⟩:=hm;unfold dictSetDefault;refine qp (bh (knd.pyHash hu hkey (bh (wpAny_dictFind_heap (s:={s with toks:=s.toks+knd.draws k}) hu hkey ho hd he his hn ?_ ?_))))
 .intro hno;refine bh (zq (bh (wpAny_updateDictKeys (s:={s with toks:=s.toks+knd.draws k}) ho hd (cj (h2 (atKey_none_of_get hno) _ (aGZ hkey ho hc hd he his hn hno) (ni.update ..))) (hz:=by have e:=size_of_entries he;omega))))
 .intro j p hj;refine bh (vp (s:={s with toks:=s.toks+knd.draws k}) ho hd ?_);rw[entry_at he j,hj];exact bh (zq (cj (h1 p (atKey_of_get hn hj))))
def acB(hu:knd.room A.in1)(hkey:knd.is s.heap k a)(hs:(d==qd)=ao)(hm:s.heap.DictOfH knd d xs)(hsz:xs.length<=dh)
  (h1:∀p,atKey xs k=aj p->Q p.2 {s with toks:=s.toks+knd.draws k})
  (h2:atKey xs k=au->∀h',h'.DictOfH knd d (a0j xs k a v)->ni d s.heap h'->Q v {s with heap:=h',toks:=s.toks+knd.draws k}):dg (dw prog w) A (call (.builtin "dict.setdefault") [.ref d,.ref a,v]) Q E s:=by
 refine call_meetsIn (S:=λA' R s'=>knd.room A'.in1/\s'=s/\(∀p,atKey xs k=aj p->R (.ok (.ret p.2)) {s with toks:=s.toks+knd.draws k})/\(atKey xs k=au->∀h',h'.DictOfH knd d (a0j xs k a v)->ni d s.heap h'->R (.ok (.ret v)) {s with heap:=h',toks:=s.toks+knd.draws k})) PySem.F.slot_dict_setdefault hm.typeIs PySem.F.entry_dict_setdefault (PySem.F.args_dict_setdefault_3 _ _ _) (.of_wp ?_) ⟨hu,rfl,h1,h2⟩;rintro A' R s' ⟨hu',e,g1,g2⟩;subst e;unfold Builtin.«dict.setdefault»;refine bh ?_;unfold Builtin.Dict.keyAndDefault;refine bh (wpAny_notOrdered_dict hm.typeIs ?_);show dg _ _ (pure (d,aq.ref a,aj v)) _ _ _;refine cj ?_;show dg _ _ (if(d==qd)=ak then _ else(dictSetDefault d (.ref a) v >>= _)) _ _ _;rw[if_neg (by rw[hs];exact qw)];exact bh (aH0 hu' hkey hm hsz (λp hp=>cj ⟨p.2,rfl,g1 p hp⟩) λhn h' hm' hs'=>cj ⟨v,rfl,g2 hn h' hm' hs'⟩)
abbrev pO(xs:List (K×bw×aq))(k:K):List (K×bw×aq):=xs.filter λx=>decide (x.1≠k)
def aiA{xs:List (K×bw×aq)}(hn:(xs.map (·.1)).Nodup)(hj:xs[j]?=aj (k,p)):pO xs k=xs.eraseIdx j:=by
 induction xs generalizing j with
 |nil=>simp at hj
 |cons x r ih =>
  rw[iz,wj]at hn;cases j with
  |zero =>
   simp at hj;subst hj
   have:∀y∈r,decide (y.1≠k)=ak:=λy hy=>by
    simp only[decide_eq_true_eq];intro e;exact hn.1 (ig.mpr ⟨y,hy,e⟩)
   rw[pO,zp,if_neg (by simp),List.filter_eq_self.mpr this];rfl
  |succ j =>
   have hj':r[j]?=aj (k,p):=by simpa using hj
   have ne:x.1≠k:=λe=>hn.1 (by rw[e];exact ig.mpr ⟨(k,p),jz hj',rfl⟩);have:=ih hn.2 hj';simp[pO,zp,ne]at this ⊢;exact this
def aA4(hu:knd.room A)(hkey:knd.is s.heap k a)(hm:s.heap.DictOfH knd d xs)(hsz:xs.length<=dh)(hp:atKey xs k=aj p)
  (h:∀h' e,e.key=.ref p.1->e.val=p.2->h'.DictOfH knd d (pO xs k)->ni d s.heap h'->Q (aj e) {s with heap:=h',toks:=s.toks+knd.draws k}):dg (dw prog w) A (Builtin.Dict.takeOut d (.ref a)) Q E s:=by
 obtain⟨o,es,ep,ho,hc,hd,he,his,hn⟩:=hm;unfold Builtin.Dict.takeOut;refine qp (bh (knd.pyHash hu hkey (bh (wpAny_dictFind_heap (s:={s with toks:=s.toks+knd.draws k}) hu hkey ho hd he his hn ?_ ?_))))
 .intro hno;rw[atKey_none_of_get hno]at hp;cases hp
 .intro j q hj;rw[atKey_of_get hn hj]at hp;cases hp;refine bh (vp (s:={s with toks:=s.toks+knd.draws k}) ho hd ?_);rw[entry_at he j,hj];refine bh (wpAny_updateDictKeys (s:={s with toks:=s.toks+knd.draws k}) ho hd (cj (h _ _ rfl rfl ⟨_,_,ep+1,a1k _ ho (Obj.isFreed_of_dict (Obj.data_mapDictKeys hd _)),hc.mapDictKeys _,Obj.data_mapDictKeys hd _,?_,?_,?_⟩ (ni.update ..))) (hz:=by have e:=size_of_entries he;omega) (hf:=?_))
  .rw[aiA hn hj];have hjl:j<es.size:=by rw[size_of_entries he];exact(jk.mp hj).1
   have em:∀(l:List (K×bw×aq))(j:Nat),(l.map (entryOfKey knd)).eraseIdx j=(l.eraseIdx j).map (entryOfKey knd):=by
    intro l
    induction l with
    |nil=>intro j;rfl
    |cons x r ih=>intro j;cases j with
     |zero=>rfl
     |succ j=>simp[ih]
   simp[Array.eraseIdxIfInBounds,hjl,he,em]
  .intro x hx;exact knd.keeps (his x (nj.mp hx).1) ho hd (ni.update ..)
  .exact(a1u.map _).nodup hn
  .show(es.eraseIdxIfInBounds j).size<=es.size+1;unfold Array.eraseIdxIfInBounds;split<;>simp<;>omega
def aH1(hu:knd.room A.in1)(hkey:knd.is s.heap k a)(hm:s.heap.DictOfH knd d xs)(hsz:xs.length<=dh)(hp:atKey xs k=aj p)
  (h:∀h',h'.DictOfH knd d (pO xs k)->ni d s.heap h'->Q p.2 {s with heap:=h',toks:=s.toks+knd.draws k}):dg (dw prog w) A (call (.builtin "dict.pop") [.ref d,.ref a]) Q E s:=by
 refine call_meetsIn (S:=λA' R s'=>knd.room A'.in1/\s'=s/\∀h',h'.DictOfH knd d (pO xs k)->ni d s.heap h'->R (.ok (.ret p.2)) {s with heap:=h',toks:=s.toks+knd.draws k}) PySem.F.slot_dict_pop hm.typeIs PySem.F.entry_dict_pop (PySem.F.args_dict_pop_2 _ _) (.of_wp ?_) ⟨hu,rfl,h⟩;rintro A' R s' ⟨hu',e,g⟩;subst e;have hne:xs≠[]:=λe=>by subst e;cases hp
 obtain⟨o,es,ep,ho,hc,hd,he,his,hn⟩:=id hm;unfold Builtin.«dict.pop»;refine bh ?_;unfold Builtin.Dict.keyAndDefault;refine bh (wpAny_notOrdered_dict hm.typeIs ?_);show dg _ _ (pure (d,aq.ref a,au)) _ _ _;refine cj ?_
 have e0:es.isEmpty=ao:=by
  have:=size_of_entries he;rw[Array.isEmpty_eq_false_iff];intro z;subst z;exact hne (List.length_eq_zero_iff.mp this.symm)
 show dg _ _ (dictEntries d >>= _) _ _ _;refine bh (vp ho hd ?_);rw[e0];refine bh (cj ?_);show dg _ _ (Builtin.Dict.takeOut d (aq.ref a) >>= _) _ _ _;refine bh (aA4 hu' hkey hm hsz hp λh' e e1 e2 dd hs=>?_);refine bh (wpAny_letGo (cj ⟨_,rfl,?_⟩));rw[e2];exact g h' dd hs
end
def KT.drop(r:KT H kvs xs)(k:List Key):KT H (zO kvs k) (pO xs k):=by
 unfold zO pO
 induction r with
 |nil=>exact .nil
 |@cons p q ps qs h t ih =>
  rw[zp,zp];by_cases e:p.1=k
  .rw[if_neg (by simp[e]),if_neg (by simp[h.1.symm.trans e])];exact ih
  .rw[if_pos (by simp[e]),if_pos (by simp;exact λz=>e (h.1.trans z))];exact .cons h ih
def a5C{κ:Type}[DecidableEq κ]{K:Fg}{f:κ->DK}(hf:∀a b,f a=f b->a=b){k:κ}:∀{kvs:List (DK×D)}{xs:List (κ×V)},vI K H f kvs xs->vI K H f (bT kvs (f k)) (zO xs k)
 |_,_,.nil=>.nil
 |p::kvs,q::xs,.cons h r=>by
  unfold bT zO;rw[zp,zp];by_cases c:q.1=k
  .rw[if_neg (by simp[show p.1=f k by rw[h.1,c]]),if_neg (by simp[c])];exact a5C hf r
  .rw[if_pos (by simp;exact λz=>c (hf _ _ (h.1.symm.trans z))),if_pos (by simp[c])];exact .cons h (a5C hf r)
abbrev alK(r:RM3)(to:cJ)(t:xG):cJ:=λρ G R=>to ρ G λx G1=>vJ x G1/\t ρ G1 λxs G2=>r x xs G2 R
section
variable{X:Cx}
def aMZ{o:jq}{t:xG}{apos cpos:Pos}{id:String}{r3:RM3}(slot:Slot "dict" name id)(hty:typeOf (.builtin id)=pure (.type "method_descriptor"))(hm:a8K X id r3)(ho:cO X o to)(ha:PA3 X (e::es) t)
  (hbase:uh o name X.env (eval o X.env)=eval o X.env)
  (hfew:((tu cpos (ji (e::es) X.env)).all (λx=>!x.1)&&(backToKw cpos (a0f [] X.env)).all (λx=>x.1.isSome)
   &&decide ((e::es).length+([]:List a0k).length+(if([]:List a0k).isEmpty then 0 else 1)<30))=ak)
  (hline:(apos.endLine==cpos.line)=ak)(hs:ji (e::es) X.env=(ao,eval e X.env)::ji es X.env)(hplain:(tu cpos (ji es X.env)).any (·.1)=ao) :
  cO X (.Call (.Attribute o name apos) (e::es) [] cpos) (alK r3 to t):=by
 intro pins s σ H Q I h;obtain⟨ρ,G,R,sr,g,q,kk⟩:=h;refine wpAny_Call_method_late hbase hfew hline rfl (dZ (ho pins s σ H (λvx H1=>Ts H H1/\∃x G1,RD X.K H1 x vx/\HR X.K H1 G1/\vJ x G1/\t ρ G1 λxs G2=>r3 x xs G2 R) I ⟨ρ,G,_,sr,g,q,λv H1 x G1 t1 r1 g1 q1=>⟨t1,x,G1,r1,g1,q1⟩⟩) ?_);rintro v s1 ⟨vx,H1,I1,r1,t1,x,G1,rx,g1,ty,q1⟩;obtain⟨a,rfl,rfl,ia⟩:=adW rx g1 ty;obtain rfl:v=aq.ref a:=r1;obtain⟨h1,h2,_⟩:=a9N I1 ia;refine⟨"dict",id,PySem.F.plainAttrs_dict,slot,hty,h1,h2,?_⟩;have hA:=ha cpos pins s1 σ H1 (λvs H2=>Ts H1 H2/\∃xs G2,dB X.K H2 xs vs/\HR X.K H2 G2/\r3 (.ref a) xs G2 R) I1 ⟨ρ,G1,_,sr.mono t1,g1,q1,λvs H2 xs G2 t2 r2 g2 q2=>⟨t2,xs,G2,r2,g2,q2⟩⟩;rw[hs]at hA ⊢;refine Calls.callWith_builtin (by show(ao||(tu cpos (ji es X.env)).any (·.1))=ao;rw[hplain]<;>rfl) (Calls.evalArgs_plain ?_);exact dZ hA (by rintro us s2 ⟨vs,H2,I2,r2,t2,xs,G2,rs,g2,q2⟩;exact hm pins s2 σ H2 (.ref a) xs (.ref a) vs (.ref a) us G2 R Q I2 (.ref a) rs rfl r2 g2 q2 λv H' d G' t3=>kk v H' d G' ((t1.trans t2).trans t3))
abbrev a7U:RM3:=λx xs G R=>match xs with
 |[y,z]=>wC x y G λa t kvs k=>t=ak/\kvs.length<dh/\(match aL kvs k with
  |some d=>R d G
  |none=>R z (aH G a (.cF t (cP kvs k z))))
 |_=>False
private theorem aN0(hu:X.A.units+64<jr):a8K X "dict.setdefault" a7U:=by
 intro pins s σ H x xs vx vs u us G R Q I rx rs ru rv g q k;unfold a7U at q;split at q
 case h_2=>exact q.elim
 case h_1 y z =>
  cases rs with
  |cons ry rs =>
  cases rs with
  |@cons _ vz _ _ rz rs =>
  cases rs;cases rv with
  |cons rvy rv =>
  cases rv with
  |cons rvz rv =>
  cases rv;obtain⟨a,kvs,kk,rfl,rfl,e1,_,⟨ht,hl,q⟩,dd⟩:=wD rx ry g q;obtain rfl:u=aq.ref a:=ru;rcases dd with⟨k',ys,rfl,_⟩|⟨ks,ys,b,rfl,e,r,rfl,eb⟩
  .cases ht
  .cases rvy;obtain⟨z1,hd,ws,rel,dc⟩:=ah9 I.hok e;have hw:=val_two mU (k:=ks) r;have hv:=rel.val ks;have lw:ws.length<=dh:=by rw[←Paired.length rel];exact z1
   refine acB (yt (by omega)) (xM I.hok eb) hd dc lw (λp hp=>?_) λhn h' dc' hs=>?_
   .rw[hp]at hv;cases e2:aL kvs (.inr ks)with
    |none=>rw[hw.2 e2]at hv;exact(show False from hv).elim
    |some d =>
     rw[e2]at q;obtain⟨v,e3,rd⟩:=hw.1 d e2;rw[e3]at hv;exact⟨v,H,I.tok _,hv,k v H d G (.refl H) rd g q⟩
   .rw[hn]at hv;cases e2:aL kvs (.inr ks)with
    |some d =>
     obtain⟨v,e3,rd⟩:=hw.1 d e2;rw[e3]at hv;exact(show False from hv).elim
    |none =>
     rw[e2]at q;have tt:Ts H (upd H a (.dT (putK ys ks vz))):=.turn e (λ_ z=>nomatch z) (λ_ _ z=>nomatch z);obtain⟨q0,es,ep,hq,g2,g3,g4,_,g5⟩:=dc';have hl2:∀v:V,(putK ys ks v).length<=dh:=λv=>by have:=zR ys ks v;rw[←r.length]at this;omega
     refine⟨_,_,a1G (t':=_) (ob:=.dT (putK ys ks vz)) I (by rw[e];exact True.intro) hs ⟨q0,hq⟩ ⟨hl2 _,hd,_,(rel.put ks eb rvz).keeps λc zs ec=>?_,q0,es,ep,hq,g2,g3,g4,g5⟩,rvz,k _ _ z _ tt (rz.mono tt) (g.turn (u:=.cF ak _) tt (.inr ⟨rfl,_,aM,(a5A mU rz r).imp λ_ _ q=>⟨q.1,q.2.mono tt⟩⟩)) q⟩;rw[bA (asI ec e (λz=>nomatch z))];exact ec
abbrev a6Q:RM3:=λx xs G R=>match xs with
 |[y]=>wC x y G λa t kvs k=>(match aL kvs k with
  |some d=>R d (aH G a (.cF t (bT kvs k)))
  |none=>False)
 |_=>False
private theorem aH2(hu:X.A.units+64<jr):a8K X "dict.pop" a6Q:=by
 intro pins s σ H x xs vx vs u us G R Q I rx rs ru rv g q k
 match xs,rs,q with
 |[],_,q=>exact q.elim
 |_::_::_,_,q=>exact q.elim
 |[y],.cons ry .nil,q =>
  cases rv with
  |cons rvy rv =>
  cases rv;obtain⟨a,kvs,kk,rfl,rfl,e1,_,q,dd⟩:=wD rx ry g q;obtain rfl:u=aq.ref a:=ru;split at q
  .rename_i d e2;rcases dd with⟨k',ys,rfl,e,r,rfl⟩|⟨ks,ys,b,rfl,e,r,rfl,eb⟩
   .obtain⟨v,e3,rd⟩:=(val_two p8 (k:=k') r).1 d e2;have tt:Ts H (upd H a (.dK (zO ys k'))):=.turn e (λ_ z=>nomatch z) (λ_ _ z=>nomatch z);exact aL6 I e rvy e3 (.inl rfl) λw' s' I' rw'=>⟨v,_,I',rw',k v _ d _ tt (rd.mono tt) (g.turn (u:=.cF ao _) tt (.inl ⟨rfl,_,aM,(a5C p8 r).imp λ_ _ q=>⟨q.1,q.2.mono tt⟩⟩)) q⟩
   .obtain⟨v,e3,rd⟩:=(val_two mU (k:=ks) r).1 d e2;cases rvy;obtain⟨z1,hd,ws,rel,dc⟩:=ah9 I.hok e;have hv:=rel.val ks;rw[e3]at hv;have lw:ws.length<=dh:=by rw[←Paired.length rel];exact z1
    cases hp:atKey ws ks with
    |none=>rw[hp]at hv;exact(show False from hv).elim
    |some p =>
     rw[hp]at hv;have tt:Ts H (upd H a (.dT (zO ys ks))):=.turn e (λ_ z=>nomatch z) (λ_ _ z=>nomatch z);refine aH1 (yt (by omega)) (xM I.hok eb) dc lw hp λh' dc' hs=>?_;obtain⟨q0,es,ep,hq,g2,g3,g4,_,g5⟩:=dc';refine⟨v,_,a1G (t':=_) (ob:=.dT (zO ys ks)) I (by rw[e];exact True.intro) hs ⟨q0,hq⟩ ⟨qu (ah8 ys ks) z1,hd,_,(rel.drop ks).keeps λc zs ec=>?_,q0,es,ep,hq,g2,g3,g4,g5⟩,hv,k v _ d _ tt (rd.mono tt) (g.turn (u:=.cF ak _) tt (.inr ⟨rfl,_,aM,(a5C mU r).imp λ_ _ q=>⟨q.1,q.2.mono tt⟩⟩)) q⟩;rw[bA (asI ec e (λz=>nomatch z))];exact ec
  .exact q.elim
abbrev a6R:List D->Gp->iB->Prop:=λxs G R=>match xs with
 |[.ref a]=>(match G a with
  |some (.cF ao kvs)=>R (.int kvs.length) G
  |_=>False)
 |_=>False
private theorem aH3:cX X (.builtin "len") a6R:=by
 intro pins s σ H xs vs us G R Q I rx rv g q k;unfold a6R at q;split at q
 .rename_i a;split at q
  .rename_i kvs e1;cases rx with
   |cons r1 rr =>
   cases rr;cases r1;cases rv with
   |cons rv rr =>
   cases rr;cases rv;rcases g a _ e1 with⟨_,ys,e,r⟩|⟨z,_⟩
   .refine aL7 I (.inl e) λt s' I'=>⟨.int ys.length,H,I',⟨t,rfl⟩,k _ H (.int kvs.length) G (.refl H) (by rw[r.length];exact .int _) g q⟩
   .cases z
  .exact q.elim
 .exact q.elim
end
end
variable{q:Array Nat}{B:Int}
section
open PySem.W
variable{p:Array Nat}{i:Nat}
section
variable{cmp:Nat->Nat->(Bool->cu->Prop)->cu->Prop}{I:cu->Prop}{kf:Nat->Int}
abbrev ky(kf:Nat->Int)(p:Array Nat)(i:Nat):Int:=kf (p.getD i 0)
abbrev Up(kf:Nat->Int)(p:Array Nat)(k:Nat):Prop:=∀i j,i<=j->j<k->ky kf p i<=ky kf p j
abbrev Down(kf:Nat->Int)(p:Array Nat)(k:Nat):Prop:=∀i j,i<j->j<k->ky kf p j<ky kf p i
abbrev Asks(cmp:Nat->Nat->(Bool->cu->Prop)->cu->Prop)(I:cu->Prop)(kf:Nat->Int)(n:Nat):Prop:=∀i j C s,i<n->j<n->I s->(∀s',I s'->C (decide (kf i<kf j)) s')->cmp i j C s
structure Pm(n:Nat)(p:Array Nat):Prop where
 size:p.size=n
 perm:p.toList.Perm (kj n)
def Pm.lt(h:Pm n p)(hi:i<n):p.getD i 0<n:=by
 have hs:i<p.size:=by rw[h.size];exact hi
 have e:p.getD i 0=p[i]:=by simp[Array.getD,hs]
 rw[e];exact yc.mp (h.perm.mem_iff.mp (by simp))
def Pm.inj(h:Pm n p)(hi:i<n)(hj:j<n)(e:p.getD i 0=p.getD j 0):i=j:=by
 have hs:i<p.size:=by rw[h.size];exact hi
 have ht:j<p.size:=by rw[h.size];exact hj
 have nd:p.toList.Nodup:=(h.perm.nodup_iff).mpr List.nodup_range;have e1:p.getD i 0=p[i]:=by simp[Array.getD,hs]
 have e2:p.getD j 0=p[j]:=by simp[Array.getD,ht]
 rw[e1,e2]at e;have key:=yp.mp nd;have hs':i<p.toList.length:=by simpa using hs
 have ht':j<p.toList.length:=by simpa using ht
 rcases zy i j with c|c|c
 .exact absurd (by simpa using e) (key i j hs' ht' c)
 .exact c
 .exact absurd (by simpa using e.symm) (key j i ht' hs' c)
def a96(h:p[i]?=q[j]?):p.getD i 0=q.getD j 0:=by
 rw[Array.getD_eq_getD_getElem?,Array.getD_eq_getD_getElem?,h]
def auW{k:Nat}(hn:n<=p.size)(hk:k<n):ky kf (kas_rev p 0 n) k=ky kf p (n - 1 - k):=by
 unfold ky kas_rev;have e:=getElem?_mirror_all (xs:=p) (i:=0) (j:=n) hn k;rw[if_pos ⟨ur _,hk⟩,Nat.zero_add]at e;rw[a96 e]
def Pm.rev{m:Nat}(h:Pm n p):Pm n (kas_rev p 0 m):=⟨by rw[kas_rev_size];exact h.size,((mirror_perm p 0 m _).toList).trans h.perm⟩
def Down.up(hn:n<=p.size)(h:Down kf p n):Up kf (kas_rev p 0 n) n:=λi j hij hj=>by
 rw[auW hn (by omega),auW hn hj];by_cases c:i=j
 .subst c;exact a1t _
 .exact Int.le_of_lt (h (n - 1 - j) (n - 1 - i) (by omega) (by omega))
def alL{n:Nat}(hc:Asks cmp I kf n){p:Array Nat}(P:Pm n p):∀(f a:Nat)(s:cu),1<=a->a+f<=n->Up kf p a->I s->(∀m s',a<=m->m<=a+f->Up kf p m->(m<a+f->ky kf p m<ky kf p (m - 1))->I s'->Q m s')->(kas_asc p f a).kasWp cmp Q s
 |0,a,s,h1,h2,u,i,h=>h a s (dz _) (dz _) u (λz=>absurd z (vq _)) i
 |f+1,a,s,h1,h2,u,i,h=>by
  show cmp (p.getD a 0) (p.getD (a - 1) 0) _ s;refine hc _ _ _ s (P.lt (by omega)) (P.lt (by omega)) i λs' i'=>?_;by_cases c:kf (p.getD a 0)<kf (p.getD (a - 1) 0)
  .rw[decide_eq_true c];dsimp only;rw[if_pos rfl];exact h a s' (dz _) (by omega) u (λ_=>c) i'
  .rw[decide_eq_false c];dsimp only;rw[if_neg (by decide)];refine alL hc P f (a+1) s' (by omega) (by omega) (λx y hxy hy=>?_) i' λm s2 l1 l2 u2 l3 i2=>h m s2 (by omega) (by omega) u2 (λz=>l3 (by omega)) i2;by_cases cy:y<a
   .exact u x y hxy cy
   .have ey:y=a:=by omega
    subst ey;by_cases cx:x=y
    .subst cx;exact a1t _
    .have:=u x (y - 1) (by omega) (by omega);have c':ky kf p (y - 1)<=ky kf p y:=by unfold ky;omega
     omega
def ao0{n:Nat}(hc:Asks cmp I kf n)(hd:∀i j,i<n->j<n->kf i=kf j->i=j){p:Array Nat}(P:Pm n p):∀(f a:Nat)(s:cu),2<=a->a+f<=n->Down kf p a->I s->(∀m s',a<=m->m<=a+f->Down kf p m->I s'->Q (p,m,0) s')->(kas_desc f p a 0).kasWp cmp Q s
 |0,a,s,h1,h2,u,i,h=>h a s (dz _) (dz _) u i
 |f+1,a,s,h1,h2,u,i,h=>by
  show cmp (p.getD a 0) (p.getD (a - 1) 0) _ s;refine hc _ _ _ s (P.lt (by omega)) (P.lt (by omega)) i λs' i'=>?_;by_cases c:kf (p.getD a 0)<kf (p.getD (a - 1) 0)
  .rw[decide_eq_true c];dsimp only;rw[if_pos rfl,if_neg (by omega)];refine ao0 hc hd P f (a+1) s' (by omega) (by omega) (λx y hxy hy=>?_) i' λm s2 l1 l2 u2 i2=>h m s2 (by omega) (by omega) u2 i2;by_cases cy:y<a
   .exact u x y hxy cy
   .have ey:y=a:=by omega
    subst ey;have c':ky kf p y<ky kf p (y - 1):=c;by_cases cx:x=y - 1
    .subst cx;exact c'
    .have:=u x (y - 1) (by omega) (by omega);omega
  .rw[decide_eq_false c];dsimp only;rw[if_neg (by decide)];show cmp (p.getD (a - 1) 0) (p.getD a 0) _ s';refine hc _ _ _ s' (P.lt (by omega)) (P.lt (by omega)) i' λs2 i2=>?_
   have ne:kf (p.getD a 0)≠kf (p.getD (a - 1) 0):=λz=>by
    have:=P.inj (i:=a) (j:=a - 1) (by omega) (by omega) (hd _ _ (P.lt (by omega)) (P.lt (by omega)) z);omega
   rw[decide_eq_true (show kf (p.getD (a - 1) 0)<kf (p.getD a 0) by omega)];dsimp only;rw[if_pos rfl];exact h a s2 (dz _) (by omega) u i2
def auX(hc:Asks cmp I kf n)(hd:∀i j,i<n->j<n->kf i=kf j->i=j)(h2:2<=n)(P:Pm n p)(i:I s)(h:∀m q s',1<=m->m<=n->Pm n q->Up kf q m->I s'->Q (m,q) s'):(kas_count n p).kasWp cmp Q s:=by
 unfold kas_count;rw[KasT.kasWp_bind];refine alL hc P (n - 1) 1 s (dz _) (by omega) (λx y hxy hy=>by have:x=y:=(by omega);subst this;exact a1t _) i λm s' l1 l2 u l3 i'=>?_;by_cases c:m=n
 .subst c;rw[if_pos (by simp)];exact h m p s' l1 (by omega) P u i'
 .rw[if_neg (by simpa using c)];by_cases c1:m>1
  .rw[if_pos c1];show cmp (p.getD 0 0) (p.getD (m - 1) 0) _ s';refine hc _ _ _ s' (P.lt (by omega)) (P.lt (by omega)) i' λs2 i2=>?_
   have ne:kf (p.getD 0 0)≠kf (p.getD (m - 1) 0):=λz=>by
    have:=P.inj (i:=0) (j:=m - 1) (by omega) (by omega) (hd _ _ (P.lt (by omega)) (P.lt (by omega)) z);omega
   have le:ky kf p 0<=ky kf p (m - 1):=u 0 (m - 1) (by omega) (by omega);unfold ky at le;rw[decide_eq_true (show kf (p.getD 0 0)<kf (p.getD (m - 1) 0) by omega)];dsimp only;rw[if_pos rfl];exact h m p s2 l1 (by omega) P u i2
  .rw[if_neg c1];have e1:m=1:=by omega
   subst e1;unfold kas_descPart;rw[KasT.kasWp_bind];refine ao0 hc hd P (n - (1+1)) (1+1) s' (by omega) (by omega) (λx y hxy hy=>?_) i' λm s2 k1 k2 dn i2=>?_
   .have ex:x=0:=by omega
    have ey:y=1:=by omega
    subst ex;subst ey;exact l3 (by omega)
   .dsimp only;rw[if_neg (by omega)];unfold kas_tail3;rw[KasT.kasWp_bind];refine alL hc (P.rev (m:=m)) (n - m) m s2 (by omega) (by omega) (dn.up (by rw[P.size];omega)) i2 λk s3 q1 q2 u3 _ i3=>h k _ s3 (by omega) (by omega) P.rev u3 i3
def aa9{n:Nat}(hc:Asks cmp I kf n){p:Array Nat}(P:Pm n p){k:Nat}(hk:k<n)(u:Up kf p k):∀(f l r:Nat)(s:cu),l<=r->r<=k->r - l<=f->(∀x,x<l->ky kf p x<=ky kf p k)->(∀x,r<=x->x<k->ky kf p k<ky kf p x)->I s ->
   (∀m s',m<=k->(∀x,x<m->ky kf p x<=ky kf p k)->(∀x,m<=x->x<k->ky kf p k<ky kf p x)->I s'->Q m s')->(kas_place p k f l r).kasWp cmp Q s
 |0,l,r,s,h1,h2,h3,a,b,i,h=>h l s (by omega) a (λx hx=>b x (by omega)) i
 |f+1,l,r,s,h1,h2,h3,a,b,i,h=>by
  unfold kas_place;by_cases c0:l≥r
  .rw[if_pos c0];exact h l s (by omega) a (λx hx=>b x (by omega)) i
  .rw[if_neg c0];show cmp (p.getD k 0) (p.getD ((l+r) / 2) 0) _ s;refine hc _ _ _ s (P.lt (by omega)) (P.lt (by omega)) i λs' i'=>?_;by_cases c:kf (p.getD k 0)<kf (p.getD ((l+r) / 2) 0)
   .rw[decide_eq_true c];dsimp only;rw[if_pos rfl];refine aa9 hc P hk u f l ((l+r) / 2) s' (by omega) (by omega) (by omega) a (λx hx hxk=>?_) i' h;have:=u ((l+r) / 2) x hx hxk;have c':ky kf p k<ky kf p ((l+r) / 2):=c;omega
   .rw[decide_eq_false c];dsimp only;rw[if_neg (by decide)];refine aa9 hc P hk u f ((l+r) / 2+1) r s' (by omega) (by omega) (by omega) (λx hx=>?_) b i' h;have:=u x ((l+r) / 2) (by omega) (by omega);have c':ky kf p ((l+r) / 2)<=ky kf p k:=by unfold ky;omega
    omega
def auY{n:Nat}(hc:Asks cmp I kf n):∀(f k:Nat)(p:Array Nat)(s:cu),Pm n p->1<=k->k+f=n->Up kf p k->I s->(∀q s',Pm n q->Up kf q n->I s'->Q q s')->(kas_bin f p k).kasWp cmp Q s
 |0,k,p,s,P,h1,h2,u,i,h=>h p s P (by rw[←h2];exact u) i
 |f+1,k,p,s,P,h1,h2,u,i,h=>by
  unfold kas_bin;rw[KasT.kasWp_bind];refine aa9 hc P (by omega) u k 0 k s (ur _) (dz _) (by omega) (λx hx=>absurd hx (Nat.not_lt_zero _)) (λx hx hk=>absurd hx (by omega)) i λm s' l1 a b i'=>?_;have hs:k<p.size:=by rw[P.size];omega
  refine auY hc f (k+1) _ s' ⟨by rw[bubble_size];exact P.size,((bubble_perm p k _).toList).trans P.perm⟩ (by omega) (by omega) (λx y hxy hy=>?_) i' h
  have e:∀z,ky kf (bubble p k (k - m)) z=if z=m then ky kf p k else if m<z/\z<=k then ky kf p (z - 1)else ky kf p z:=λz=>by
   have e:=getElem?_bubble hs (k - m) (by omega) z;rw[show k - (k - m)=m by omega]at e;by_cases c:z=m
   .rw[if_pos c]at e ⊢;exact congrArg kf (a96 e)
   .rw[if_neg c]at e ⊢;by_cases c2:m<z/\z<=k
    .rw[if_pos c2]at e ⊢;exact congrArg kf (a96 e)
    .rw[if_neg c2]at e ⊢;exact congrArg kf (a96 e)
  have e1:ky kf (bubble p k (k - m)) m=ky kf p k:=by rw[e,if_pos rfl]
  have e2:∀z,m<z->z<=k->ky kf (bubble p k (k - m)) z=ky kf p (z - 1):=λz h1 h2=>by rw[e,if_neg (by omega),if_pos ⟨h1,h2⟩]
  have e3:∀z,z<m->ky kf (bubble p k (k - m)) z=ky kf p z:=λz h1=>by rw[e,if_neg (by omega),if_neg (by omega)]
  rcases zy x m with c|c|c
  .rw[e3 x c];rcases zy y m with d|d|d
   .rw[e3 y d];exact u x y hxy (by omega)
   .rw[d,e1];exact a x c
   .rw[e2 y d (by omega)];exact u x (y - 1) (by omega) (by omega)
  .rw[c,e1];by_cases d:y=m
   .rw[d,e1];exact a1t _
   .rw[e2 y (by omega) (by omega)];exact Int.le_of_lt (b (y - 1) (by omega) (by omega))
  .rw[e2 x c (by omega),e2 y (by omega) (by omega)];exact u (x - 1) (y - 1) (by omega) (by omega)
def aA5(hc:Asks cmp I kf n)(hd:∀i j,i<n->j<n->kf i=kf j->i=j)(h2:2<=n)(i:I s)(h:∀q s',Pm n q->Up kf q n->I s'->Q q s'):(kas_sort n).kasWp cmp Q s:=by
 unfold kas_sort;rw[KasT.kasWp_bind];refine auX hc hd h2 ⟨by simp,by simp⟩ i λm q s' l1 l2 P u i'=>?_;dsimp only;by_cases c:m<n
 .rw[if_pos c];have e:max m 1=m:=by omega
  rw[e];exact auY hc (n - m) m q s' P l1 (by omega) u i' h
 .rw[if_neg c];have:m=n:=by omega
  subst this;exact h q s' P u i'
end
variable{vs:List aq}
section
variable{prog:jt}{w:jj}{A:jx}{s:cu}
abbrev aiB(prog:jt)(w:jj)(A:jx)(s:cu)(kf:Nat->Int)(vs:List aq)(h':jm):Prop :=
 ∃κ,(∀Q:SortKind->cu->Prop,Q κ {s with heap:=h' }->dg (dw prog w) A (keyKind' vs.toArray) Q (λ_ _=>False) {s with heap:=h' })/\∀i j (C:Bool->cu->Prop),i<vs.length->j<vs.length->C (decide (kf i<kf j)) {s with heap:=h' }->kas_ask prog w A κ vs i j C {s with heap:=h' }
def aqY{l:List aq}(h:l.length<2):(l.toArray.zip l.toArray).map (·.2)=((kj l.length).toArray.toList.map λi=>l.getD i aq.none).toArray:=by
 cases l with
 |nil=>simp
 |cons v r =>
  cases r with
  |nil=>simp
  |cons _ _=>simp at h;omega
def aaA{kf:Nat->Int}(ho:s.heap.get? a=aj (oh "list" vs.toArray n))(h64:vs.length<64)(hd:∀i j,i<vs.length->j<vs.length->kf i=kf j->i=j)
  (hk:2<=vs.length->∀h':jm,(∀b o,b≠a->s.heap.get? b=aj o->h'.get? b=aj o)->aiB prog w A s kf vs h')
  (h:∀q,Pm vs.length q->Up kf q vs.length->P (.done (.ret .none)) {s with heap:=sortedHeap s.heap a vs (q.toList.map λi=>vs.getD i aq.none).toArray}):dg (dw prog w) A (Builtin.«list.sort» ⟨[.ref a],[]⟩) P E s:=by
 have big:1000<dh:=by decide
 have la:a<s.heap.objs.size:=gw ho;rw[list_sort_plain];refine bh (listItems_at ho rfl (bh (listUpdate_at ho rfl ?_ (by rw[fj];omega) (ur _))));obtain⟨e1,ho1⟩:∃e1,(s.heap.update a (Obj.mapSeq λ_=>(#[]:Array aq))).get? a=aj (oh "list" #[] e1):=⟨_,a1x ho λ_=>#[]⟩;refine bh (seqEpoch_at ho1 rfl (bh (wpAny_newTuple ?_ (by show vs.length<=_;omega))));refine bh (wpAny_newList ?_ (ur _));refine qp ?_;have s0:=ni.update s.heap a (Obj.mapSeq λ_=>(#[]:Array aq));have kp:∀b o,b≠a->s.heap.get? b=aj o->(((s.heap.update a (Obj.mapSeq λ_=>(#[]:Array aq))).push (oh "tuple" vs.toArray 0)).push (oh "list" #[] 0)).get? b=aj o:=λb o hb e=>cg _ (cg _ ((s0.2 b hb).trans e));have ho6:(((s.heap.update a (Obj.mapSeq λ_=>(#[]:Array aq))).push (oh "tuple" vs.toArray 0)).push (oh "list" #[] 0)).get? a=aj (oh "list" #[] e1):=cg _ (cg _ ho1);show dg (dw prog w) A _ P E {s with heap:=((s.heap.update a (Obj.mapSeq λ_=>(#[]:Array aq))).push (oh "tuple" vs.toArray 0)).push (oh "list" #[] 0)};dsimp only;by_cases c2:vs.toArray.size<2
 .rw[if_pos c2,if_pos c2];refine bh (cj ?_);rw[StateT.run_pure];refine bh (cj ?_);dsimp only;have c3:vs.length<2:=by simpa using c2
  have eo:(arrOf (SortSt.mk' general' (vs.toArray.zip vs.toArray) #[] 7 au)).map (·.2)=((kj vs.length).toArray.toList.map λi=>vs.getD i aq.none).toArray:=by
   show(vs.toArray.zip vs.toArray).map (·.2)=_;exact aqY c3
  refine bh (seqEpoch_at ho6 rfl ?_);rw[eo];refine bh (listUpdate_at ho6 rfl ?_ (ur _) (by simp;omega));simp only[bne_self_eq_false,qe,if_false];exact cj (h (kj vs.length).toArray ⟨by rw[fj,List.length_range],.refl _⟩ λi j hij hj=>by have:i=j:=(by omega);subst this;exact a1t _)
 .rw[if_neg c2,if_neg c2];have l2:2<=vs.length:=by rw[fj]at c2;omega
  obtain⟨κ,k1,k2⟩:=hk l2 _ kp;refine bh (qy (k1 (λκ' s'=>κ'=κ/\s'={s with heap:=((s.heap.update a (Obj.mapSeq λ_=>(#[]:Array aq))).push (oh "tuple" vs.toArray 0)).push (oh "list" #[] 0)}) ⟨rfl,rfl⟩) (λκ' s' ⟨q1,q2⟩=>?_) λ_ _ z=>z.elim);subst q1;subst q2
  refine bh (qy (kat_run (Q:=λst' s'=>s'={s with heap:=((s.heap.update a (Obj.mapSeq λ_=>(#[]:Array aq))).push (oh "tuple" vs.toArray 0)).push (oh "list" #[] 0)}/\failedOf st'=au/\∃q,Pm vs.length q/\Up kf q vs.length/\arrOf st'=q.map (kas_item (vs.toArray.zip vs.toArray)))
   (G:=λq s'=>s'={s with heap:=((s.heap.update a (Obj.mapSeq λ_=>(#[]:Array aq))).push (oh "tuple" vs.toArray 0)).push (oh "list" #[] 0)}/\Pm vs.length q/\Up kf q vs.length) rfl l2 h64 (λp st' s' a1 a2 a3 a4=>⟨a4.1,a3,p,a4.2.1,a4.2.2,a2⟩)
   (aA5 (I:=λs'=>s'={s with heap:=((s.heap.update a (Obj.mapSeq λ_=>(#[]:Array aq))).push (oh "tuple" vs.toArray 0)).push (oh "list" #[] 0)}) (λi j C s' hi hj es hC=>by subst es;exact k2 i j C hi hj (hC _ rfl)) hd l2 rfl λq s' P u es=>⟨es,P,u⟩)) ?_ λ_ _ e=>e)
  rintro⟨⟨⟩,st'⟩ s' ⟨es,hf,q,P,u,har⟩;subst es;dsimp only;refine bh (seqEpoch_at ho6 rfl ?_);rw[kat_snds rfl har];refine bh (listUpdate_at ho6 rfl ?_ (ur _) (by rw[fj,gk,vf,P.size];omega));rw[hf];simp only[bne_self_eq_false,qe,if_false];exact cj (h q P u)
def aiC{kf:Nat->Int}(hl:s.heap.IsList l vs.toArray)(h64:vs.length<64)(hd:∀i j,i<vs.length->j<vs.length->kf i=kf j->i=j)
  (hk:2<=vs.length->∀h':jm,(∀b o,s.heap.get? b=aj o->h'.get? b=aj o)->aiB prog w A.in1.in1 s kf vs h')
  (h:∀q,Pm vs.length q->Up kf q vs.length->Q (.ref (s.heap.objs.size+1)) {s with heap:=sortedAll s.heap vs (q.toList.map λi=>vs.getD i aq.none).toArray}):dg (dw prog w) A (call (.builtin "sorted") [.ref l]) Q E s:=by
 have big:1000<dh:=by decide
 refine Calls.call_function_entry kind_sorted plain_sorted entry_sorted (args_sorted1 _) ?_;unfold Builtin.«sorted»;refine bh (m:=checkCount "sorted" 1 1 _) (cj (bh (collect_list hl (bh (wpAny_newList ?_ (by omega))) (by omega))));have sz:((s.heap.push (oh "list" #[] 0)).update s.heap.objs.size (Obj.mapSeq (·++vs.toArray))).objs.size=s.heap.objs.size+1:=by rw[Heap.size_update,size_push']
 have oL:(((s.heap.push (oh "list" #[] 0)).update s.heap.objs.size (Obj.mapSeq (·++vs.toArray))).push (oh "list" vs.toArray 0)).get? (s.heap.objs.size+1)=aj (oh "list" vs.toArray 0):=by rw[←sz];exact iw _ rfl
 have kp:∀b o,s.heap.get? b=aj o->(((s.heap.push (oh "list" #[] 0)).update s.heap.objs.size (Obj.mapSeq (·++vs.toArray))).push (oh "list" vs.toArray 0)).get? b=aj o:=λb o e=>cg _ (((ni.update (s.heap.push (oh "list" #[] 0)) s.heap.objs.size (Obj.mapSeq (·++vs.toArray))).2 b (jc (gw e))).trans (cg _ e));show dg _ _ _ _ _ {s with heap:=((s.heap.push (oh "list" #[] 0)).update s.heap.objs.size (Obj.mapSeq (·++vs.toArray))).push (oh "list" vs.toArray 0)};rw[sz];refine bh (qp (xq slot_list_sort ⟨_,oL,rfl⟩ entry_list_sort (aaA (kf:=kf) oL h64 hd (λl2 h' k'=>?_) λq P u=>⟨_,rfl,cj ⟨_,rfl,h q P u⟩⟩) (args_list_sort _)));exact hk l2 h' λb o e=>k' b o (jc (a1i (gw e))) (kp b o e)
end
abbrev u6(a b:Int×Int):Prop:=a.1<b.1∨(a.1=b.1/\a.2<b.2)
instance (a b:Int×Int):Decidable (u6 a b):=by unfold u6;infer_instance
abbrev fK:List (Int×Int)->Prop:=a1c u6
abbrev enc(M:Int)(a:Int×Int):Int:=a.1*M+a.2
variable{M:Int}
def vK(hM:2*B<M){a b:Int×Int}(ha:-B<=a.2/\a.2<=B)(hb:-B<=b.2/\b.2<=B):enc M a<enc M b↔u6 a b:=by
 unfold enc u6;have m0:0<=M:=by omega
 rcases Int.lt_trichotomy a.1 b.1 with c|c|c
 .have:a.1*M<=(b.1 - 1)*M:=Int.mul_le_mul_of_nonneg_right (by omega) m0;rw[Int.sub_mul,Int.one_mul]at this;exact⟨λ_=>.inl c,λ_=>by omega⟩
 .rw[c];exact⟨λ_=>.inr ⟨rfl,by omega⟩,λh=>by rcases h with h|h<;>omega⟩
 .have:b.1*M<=(a.1 - 1)*M:=Int.mul_le_mul_of_nonneg_right (by omega) m0;rw[Int.sub_mul,Int.one_mul]at this;exact⟨λ_=>by omega,λh=>by rcases h with h|h<;>omega⟩
def a5D:∀ps:List (Int×Int),∃B:Int,0<=B/\∀p∈ps,-B<=p.2/\p.2<=B
 |[]=>⟨0,a1t _,λp h=>by cases h⟩
 |p::r=>by
  obtain⟨B,b0,h⟩:=a5D r;refine⟨B+p.2.natAbs,by omega,λq hq=>?_⟩;rcases jd.mp hq with rfl|hq
  .omega
  .have:=h q hq;omega
section
variable{prog:jt}{w:jj}{A:jx}
abbrev a5E(h:jm)(ps:List (Int×Int))(vs:List aq):Prop:=vs.length=ps.length/\∀(i:Nat)(p:Int×Int),ps[i]?=aj p->∃(a:bw)(o:Obj)(n:Nat)(x y:Tok),vs[i]?=aj (aq.ref a)/\h.get? a=aj o/\o.cls=aq.type "tuple"/\o.data=.seq #[.int p.1 x,.int p.2 y] n
def a5E.firsts{h:jm}:∀{ps:List (Int×Int)}{vs:List aq},a5E h ps vs->∃fs:List aq,KatTups h vs fs/\fs.length=ps.length/\∀v∈fs,∃i t,v=.int i t
 |[],[],_=>⟨[],trivial,rfl,λv h=>by cases h⟩
 |[],_::_,H=>absurd H.1 (by simp)
 |_::_,[],H=>absurd H.1 (by simp)
 |p::ps,v::vs,H=>by
  obtain⟨a,o,n,x,y,e1,e2,e3,e4⟩:=H.2 0 p rfl;obtain⟨fs,k1,k2,k3⟩:=a5E.firsts (h:=h) (ps:=ps) (vs:=vs) ⟨by simpa using H.1,λi q hq=>by simpa using H.2 (i+1) q (by simpa using hq)⟩;have e1':v=.ref a:=by simpa using e1
  subst e1';refine⟨.int p.1 x::fs,KatTups.cons e2 e3 e4 rfl k1,by simp[k2],λu hu=>?_⟩;rcases jd.mp hu with rfl|hu
  .exact⟨_,_,rfl⟩
  .exact k3 u hu
def a6S{ps:List (Int×Int)}(hM:2*B<M)(hB:∀p∈ps,-B<=p.2/\p.2<=B)(l2:2<=vs.length)(hp:a5E h' ps vs):aiB prog w A s (λi=>enc M (ps.getD i (0,0))) vs h':=by
 obtain⟨fs,k1,k2,k3⟩:=hp.firsts;have len:=hp.1;refine⟨tuples' (aq.type "int"!=aq.type "tuple"),λQ hQ=>kat_kind (s:={s with heap:=h' }) k1 (by omega) (λv hv=>?_) (by simp) hQ,λi j C hi hj hC=>?_⟩
 .obtain⟨i,t,rfl⟩:=k3 v hv;exact .now
 .obtain⟨p,ep⟩:∃p,ps[i]?=aj p:=⟨_,gV (by omega)⟩;obtain⟨q,eq⟩:∃q,ps[j]?=aj q:=⟨_,gV (by omega)⟩;obtain⟨a,o,n,x,y,a1,a2,a3,a4⟩:=hp.2 i p ep;obtain⟨b,o',n',x',y',b1,b2,b3,b4⟩:=hp.2 j q eq;have ga:vs.getD i aq.none=.ref a:=by simp[su,a1]
  have gb:vs.getD j aq.none=.ref b:=by simp[su,b1]
  have gp:ps.getD i (0,0)=p:=by simp[su,ep]
  have gq:ps.getD j (0,0)=q:=by simp[su,eq]
  have key:=vK hM (hB p (jz ep)) (hB q (jz eq))
  have hC:C (decide (enc M p<enc M q)) {s with heap:=h' }:=by
   have e:decide (enc M (ps.getD i (0,0))<enc M (ps.getD j (0,0)))=decide (enc M p<enc M q):=by rw[decide_eq_decide,gp,gq]
   rw[←e];exact hC
  unfold kas_ask;rw[ga,gb];refine kat_lt (s:={s with heap:=h' }) a2 a4 b2 b4 ?_;refine kat_cons (wpAny_eqBool_int ?_);refine kat_go (λe=>kat_yes (kat_cons (wpAny_eqBool_int (kat_go (λe2=>kat_yes (kat_nil ?_)) λe2=>kat_no (kat_one _ _ ?_))))) λe=>kat_no (oneLt_int ?_)
  .have c1:p.1=q.1:=by simpa using e
   have c2:p.2=q.2:=by simpa using e2
   rw[decide_eq_false (show ¬ enc M p<enc M q from λz=>by rcases key.mp z with z|z<;>omega)]at hC;exact hC
  .have c1:p.1=q.1:=by simpa using e
   have c2:p.2≠q.2:=by simpa using e2
   refine CmpOf.ints_lt (prog:=prog) (w:=w) (A:=A) (P:=λi v=>∃t,v=.int (if i=0 then p.2 else q.2) t) (λi=>if i=0 then p.2 else q.2) (λi v h=>h) 0 1 _ _ _ _ _ ⟨y,rfl⟩ ⟨y',rfl⟩ ?_
   have:decide (enc M p<enc M q)=decide ((if(0:Nat)=0 then p.2 else q.2)<(if(1:Nat)=0 then p.2 else q.2)):=by
    rw[decide_eq_decide,key,if_pos rfl,if_neg (by decide)];unfold u6;omega
   rw[this]at hC;exact(show PySem.W.BoolBack C (.bool _) _ from hC)
  .have c1:p.1≠q.1:=by simpa using e
   have:decide (enc M p<enc M q)=decide (p.1<q.1):=by
    rw[decide_eq_decide,key];unfold u6;omega
   rw[this]at hC;exact hC
end
end
section
open PySem.W
def getD_at{α:Type}{l:List α}{i:Nat}{d:α}(h:i<l.length):l.getD i d=l[i]:=by simp[su,h]
@[simp]def dR(q:Int×Int):D:=.tup [.int q.1,.int q.2]
def ao1{h:jm}{out:Array aq}(e:h.get? b=aj u):(sortedAll h vs out).get? b=aj u:=by
 have lb:b<h.objs.size:=gw e;have n0:b≠h.objs.size:=jc lb;have n1:b≠h.objs.size+1:=jc (a1i lb);unfold sortedAll sortedHeap;rw[(ni.update _ _ _).2 b n1];refine cg _ (cg _ ?_);rw[(ni.update _ _ _).2 b n1];refine cg _ ?_;rw[(ni.update _ _ _).2 b n0];exact cg _ e
def auZ{h:jm}{out:Array aq}:∃c,(sortedAll h vs out).get? (h.objs.size+1)=aj (oh "list" out c):=by
 have sz:((h.push (oh "list" #[] 0)).update h.objs.size (Obj.mapSeq (·++vs.toArray))).objs.size=h.objs.size+1:=by rw[Heap.size_update,size_push']
 have oL:(((h.push (oh "list" #[] 0)).update h.objs.size (Obj.mapSeq (·++vs.toArray))).push (oh "list" vs.toArray 0)).get? (h.objs.size+1)=aj (oh "list" vs.toArray 0):=by rw[←sz];exact iw _ rfl
 unfold sortedAll sortedHeap;obtain⟨c1,e1⟩:∃c,((((h.push (oh "list" #[] 0)).update h.objs.size (Obj.mapSeq (·++vs.toArray))).push (oh "list" vs.toArray 0)).update (h.objs.size+1) (Obj.mapSeq λ_=>#[])).get? (h.objs.size+1)=aj (oh "list" #[] c):=⟨_,a1x oL λ_=>#[]⟩;exact⟨_,a1x (cg _ (cg _ e1)) λ_=>out⟩
variable{s:cu}{ps:List (Int×Int)}{M:Int}
section
variable{X:Cx}
def pairs_at(I:Inv X pins σ H s)(r:dB X.K H (ps.map dR) xs)(rv:Vals xs us):a5E s.heap ps us:=by
 refine⟨by rw[←rv.length,←r.length,gk],λi p hp=>?_⟩;obtain⟨v,e1,rd⟩:=r.get (i:=i) (d:=dR p) (by rw[vm,hp];rfl);obtain⟨u,e2,ru⟩:=rv.get e1;cases rd with
 |@tup a zs _ hq rz _ =>
  obtain rfl:u=aq.ref a:=ru;obtain⟨its,vi,⟨o,h1,h2,n,h3⟩,_⟩:=I.tuple hq;cases rz with
  |cons ra rb =>
  cases rb with
  |cons rb rc =>
  cases rc;cases ra;cases rb;cases vi with
  |cons va vb =>
  cases vb with
  |cons vb vc =>
  cases vc;obtain⟨x,rfl⟩:=va;obtain⟨y,rfl⟩:=vb;exact⟨a,o,n,x,y,e2,h1,h2,h3⟩
def a6T(hM:2*B<M)(hB:∀p∈ps,-B<=p.2/\p.2<=B)(nd:ps.Nodup)(P:Pm ps.length q)(u:Up (λi=>enc M (ps.getD i (0,0))) q ps.length):(q.toList.map λi=>ps.getD i (0,0)).Perm ps/\fK (q.toList.map λi=>ps.getD i (0,0)):=by
 have id0:(kj ps.length).map (λi=>ps.getD i (0,0))=ps:=by
  apply List.ext_getElem (by simp);intro i h1 h2;simp[h2]
 refine⟨by have:=P.perm.map λi=>ps.getD i (0,0);rw[id0]at this;exact this,?_⟩;unfold fK;rw[a0a,yp];intro i j hi hj hij;have li:i<q.size:=by simpa using hi
 have lj:j<q.size:=by simpa using hj
 have gi:q.toList[i]=q.getD i 0:=by simp[Array.getD,li]
 have gj:q.toList[j]=q.getD j 0:=by simp[Array.getD,lj]
 rw[gi,gj];have bi:=P.lt (i:=i) (by rw[←P.size];exact li);have bj:=P.lt (i:=j) (by rw[←P.size];exact lj);have le:enc M (ps.getD (q.getD i 0) (0,0))<=enc M (ps.getD (q.getD j 0) (0,0)):=u i j (xu hij) (by rw[←P.size];exact lj);have mi:ps.getD (q.getD i 0) (0,0)∈ps:=by rw[getD_at bi];exact ux _
 have mj:ps.getD (q.getD j 0) (0,0)∈ps:=by rw[getD_at bj];exact ux _
 have k1:=vK hM (hB _ mi) (hB _ mj);have k2:=vK hM (hB _ mj) (hB _ mi);refine k1.mp ?_;rcases Int.lt_or_eq_of_le le with z|z
 .exact z
 .exfalso
  have e:ps.getD (q.getD i 0) (0,0)=ps.getD (q.getD j 0) (0,0):=by
   have n1:¬ u6 (ps.getD (q.getD i 0) (0,0)) (ps.getD (q.getD j 0) (0,0)):=λw=>absurd (k1.mpr w) (by omega);have n2:¬ u6 (ps.getD (q.getD j 0) (0,0)) (ps.getD (q.getD i 0) (0,0)):=λw=>absurd (k2.mpr w) (by omega);unfold u6 at n1 n2;exact Prod.ext (by omega) (by omega)
  have e2:ps[q.getD i 0]=ps[q.getD j 0]:=by rw[getD_at bi,getD_at bj]at e;exact e
  have key:=yp.mp nd;rcases zy (q.getD i 0) (q.getD j 0)with w|w|w
  .exact key _ _ bi bj w e2
  .have:=P.inj (by rw[←P.size];exact li) (by rw[←P.size];exact lj) w;omega
  .exact key _ _ bj bi w e2.symm
def aaB{K:Fg}{ps:List (Int×Int)}{xs:List V}(r:dB K H (ps.map dR) xs):∀{l:List Nat},(∀i∈l,i<ps.length)->dB K H ((l.map λi=>ps.getD i (0,0)).map dR) (l.map λi=>xs.getD i .non)
 |[],_=>.nil
 |i::l,h=>by
  obtain⟨v,e1,rd⟩:=r.get (i:=i) (d:=dR (ps.getD i (0,0))) (by have:=h i (by simp);simp[su,this]);have:xs.getD i .non=v:=by simp[su,e1]
  refine .cons ?_ (aaB r λj hj=>h j (by simp[hj]));show RD K H (dR (ps.getD i (0,0))) (xs.getD i .non);rw[this];exact rd
def a1L{xs:List V}{us:List aq}(r:Vals xs us):∀{l:List Nat},(∀i∈l,i<xs.length)->Vals (l.map λi=>xs.getD i .non) (l.map λi=>us.getD i aq.none)
 |[],_=>.nil
 |i::l,h=>by
  have hi:=h i (by simp);obtain⟨u,e1,ru⟩:=r.get (gV hi);have e2:xs.getD i .non=xs[i]:=by simp[su,hi]
  have e3:us.getD i aq.none=u:=by simp[su,e1]
  refine .cons ?_ (a1L r λj hj=>h j (by simp[hj]));show RelV (xs.getD i .non) (us.getD i aq.none);rw[e2,e3];exact ru
abbrev aDF(ds:List D)(G:Gp)(R:iB):Prop:=∃ps:List (Int×Int),ds=ps.map dR/\ps.Nodup/\ps.length<64/\∀qs:List (Int×Int),qs.Perm ps->fK qs->∀r,G r=au->R (.ref r) (aH G r (.lst (qs.map dR)))
abbrev xQ:List D->Gp->iB->Prop:=λxs G R=>match xs with
 |[.ref a]=>(match bH G a with
  |some ds=>aDF ds G R
  |none=>False)
 |_=>False
def aA6{σ:St}{H:Hp}(I:Inv X pins σ H s){G:Gp}{R:iB}{Q:VK}(g:HR X.K H G){xs:List V}{us:List aq}(r:dB X.K H (ps.map dR) xs)(rv:Vals xs us)(nd:ps.Nodup)(h64:ps.length<64)(hM:2*B<M)(hB:∀p∈ps,-B<=p.2/\p.2<=B)
  (k:∀v H' d G',Ts H H'->RD X.K H' d v->HR X.K H' G'->R d G'->Q v H')(h:∀qs:List (Int×Int),qs.Perm ps->fK qs->∀r,G r=au->R (.ref r) (aH G r (.lst (qs.map dR))))(P:Pm us.length q)(u:Up (λi=>enc M (ps.getD i (0,0))) q us.length):EP X pins σ Q (.ref (s.heap.objs.size+1)) {s with heap:=sortedAll s.heap us (q.toList.map λi=>us.getD i aq.none).toArray}:=by
 have big:1000<dh:=by decide
 have l1:us.length=ps.length:=by rw[←rv.length,←r.length,gk]
 have l2:xs.length=ps.length:=by rw[←r.length,gk]
 rw[l1]at P u;obtain⟨p1,p2⟩:=a6T hM hB nd P u;have hin:∀i∈q.toList,i<ps.length:=λi hi=>yc.mp (P.perm.mem_iff.mp hi);have fr:H (s.heap.objs.size+1)=au:=I.hok.fresh (a0r _);have sn:Same H (upd H (s.heap.objs.size+1) (.lst (q.toList.map λi=>xs.getD i .non))):=bO fr;obtain⟨c,hc⟩:=auZ (h:=s.heap) (vs:=us) (out:=(q.toList.map λi=>us.getD i aq.none).toArray)
 have J:Inv X pins σ (upd H (s.heap.objs.size+1) (.lst (q.toList.map λi=>xs.getD i .non))) {s with heap:=sortedAll s.heap us (q.toList.map λi=>us.getD i aq.none).toArray} :=
  I.laid (t':=s.toks) (λb o e=>ao1 e) (a0r _) ⟨by rw[gk,vf,P.size];omega,_,c,a1L rv λi hi=>by rw[l2];exact hin i hi,hc⟩
 have kf:=qX J;exact⟨.ref (s.heap.objs.size+1),_,J,rfl,k _ _ (.ref _) _ (.same sn) (.ref _) (g.put (u:=.lst _) fr ⟨_,aM,(aaB r hin).mono (.same sn)⟩) (h _ p1 p2 _ (jE g fr kf))⟩
private theorem aA7:cX X (.builtin "sorted") xQ:=by
 intro pins s σ H xs vs us G R Q I rx rv g q k;unfold xQ at q;split at q
 .rename_i a;split at q
  .rename_i ds e1;obtain⟨ps,rfl,nd,h64,h⟩:=q;cases rx with
   |cons r1 rr =>
   cases rr;cases r1;cases rv with
   |cons rv rr =>
   cases rr;cases rv;obtain⟨zs,hq,r⟩:=cC g e1;obtain⟨its,vi,pl,_⟩:=I.list hq;obtain⟨B,b0,hB⟩:=a5D ps;have hp:=pairs_at I r vi;have hM:2*B<2*B+1:=by omega
   refine aiC (kf:=λi=>enc (2*B+1) (ps.getD i (0,0))) pl.isList (by rw[hp.1];exact h64) (λi j hi hj e=>?_) (λl2 h' kp=>a6S hM hB l2 ⟨hp.1,λi p ei=>?_⟩) λq P u=>aA6 I g r vi nd h64 hM hB k h P u
   .rw[hp.1]at hi hj;have mi:ps.getD i (0,0)∈ps:=by simp[su,hi]
    have mj:ps.getD j (0,0)∈ps:=by simp[su,hj]
    have k1:=vK hM (hB _ mi) (hB _ mj);have k2:=vK hM (hB _ mj) (hB _ mi);have e':enc (2*B+1) (ps.getD i (0,0))=enc (2*B+1) (ps.getD j (0,0)):=e
    have ee:ps.getD i (0,0)=ps.getD j (0,0):=by
     have n1:¬ u6 (ps.getD i (0,0)) (ps.getD j (0,0)):=λw=>absurd (k1.mpr w) (by omega);have n2:¬ u6 (ps.getD j (0,0)) (ps.getD i (0,0)):=λw=>absurd (k2.mpr w) (by omega);unfold u6 at n1 n2;exact Prod.ext (by omega) (by omega)
    have e2:ps[i]=ps[j]:=by simpa[su,hi,hj]using ee
    have key:=yp.mp nd;rcases zy i j with w|w|w
    .exact absurd e2 (key _ _ hi hj w)
    .exact w
    .exact absurd e2.symm (key _ _ hj hi w)
   .obtain⟨a,o,n,x,y,z1,z2,z3,z4⟩:=hp.2 i p ei;exact⟨a,o,n,x,y,z1,kp _ _ z2,z3,z4⟩
  .exact q.elim
 .exact q.elim
end
end
variable{h':jm}
section
open PySem.W
abbrev qZ(h:jm)(d:bw)(es:Array a0q)(ep:Nat):Prop:=∃o,h.get? d=aj o/\o.ExactDict/\o.data=.dict es ep
section
variable{prog:jt}{w:jj}{A:jx}{s:cu}{es:Array a0q}{ep i:Nat}
def qZ.typeIs(hm:qZ s.heap d es ep):s.TypeIs (.ref d) "dict":=let⟨o,ho,hc,_⟩:=hm;⟨o,ho,hc.1⟩
def qZ.lt{h:jm}(hm:qZ h d es ep):d<h.objs.size:=let⟨_,ho,_⟩:=hm;gw ho
def qZ.at{h:jm}(hm:qZ h d es ep)(k:∀o,h.get? d=aj o->h'.get? d=aj o):qZ h' d es ep:=let⟨o,ho,r⟩:=hm;⟨o,k o ho,r⟩
def afM(hd:(d==qd)=ao)(hm:qZ s.heap d es ep)(hQ:Q (.ref s.heap.objs.size) {s with heap:=s.heap.push {cls:=.type "dict_keyiterator",data:=.fields #[.ref d,.int 0 0,.int es.size 0,.int ep 0]}}):dg (dw prog w) A (pyIter (.ref d)) Q E s:=by
 have T:=hm.typeIs;obtain⟨o,ho,hc,hdat⟩:=hm;refine wpAny_pyIter_slot T F.slot_dict_iter (xq F.slot_dict_iter T F.entry_dict_iter ?_ (F.args_dict_iter_1 _));unfold Builtin.«dict.__iter__»;refine bh ?_;unfold Builtin.Dict.dictSlotNone;refine bh (wpAny_notOrdered_dict T ?_);show dg _ _ (pure (aq.ref d)) _ _ s;refine cj ?_;show dg _ _ (Builtin.Dict.showsAll d >>= _) _ _ s;unfold Builtin.Dict.showsAll;rw[if_neg (by rw[hd];exact qw)];refine bh (cj (bh (vp ho hdat (bh (wpAny_dictEpoch ho hdat (bh (zx (cj ⟨_,rfl,"dict_keyiterator",_,⟨_,iw _ rfl,rfl⟩,F.slot_dict_keyiterator_next.lookup,?_⟩))))))));simpa[a1l]using hQ
def a97{e:a0q}(hit:s.heap.IsKeyIter it d i es.size ep)(hm:qZ s.heap d es ep)(hx:es[i]?=aj e)
  (hQ:∀h',h'.IsKeyIter it d (i+1) es.size ep->ni it s.heap h'->Q (aj e.key) {s with heap:=h' }):dg (dw prog w) A (a0g (.ref it)) Q E s:=by
 obtain⟨o,ho,hc,hd⟩:=id hit;obtain⟨od,hod,hcd,hdd⟩:=hm;have lt:i<es.size:=(a0m.mp hx).1;unfold a0g;refine bh (wpAny_attempt (a2c (name:=Str.ofString "__next__") hit.typeIs F.slot_dict_keyiterator_next (xq F.slot_dict_keyiterator_next hit.typeIs F.entry_dict_keyiterator_next ?_ (F.args_dict_keyiterator_next_1 _))));refine bh (cj ?_);refine bh ?_;refine bh ?_
 (first|refine bh (a0b hit.typeIs (cj ?_))|refine bh (a0x hit.typeIs (cj ?_)));refine bh (wpAny_fieldsOf ho hd ?_)
 have own:Builtin.Dict_items.ownsTuple "dict_keyiterator"=ao:=by decide
 simp only[own,qe,if_false];show dg _ _ (if(aq.ref d==aq.none)=ak then _ else _) _ _ s;rw[if_neg (show ¬ ((aq.ref d==aq.none)=ak)from qw)];refine bh (cj (bh (vp hod hdd ?_)));rw[if_neg (by simp)];refine bh (cj (bh (wpAny_dictEpoch hod hdd ?_)));rw[if_neg (by simp)];refine cj ?_;simp only[show ¬ ((i:Int)<0)from by omega,if_false,a0n,hx];refine bh ?_
 (first|refine bh (a0b hit.typeIs (cj ?_))|refine bh (a0x hit.typeIs (cj ?_)));refine bh (wpAny_isOneOf_keyiter hit.typeIs ?_)
 show dg _ _ (setField (.ref it) 1 (a1l ((i:Int)+1)) >>= _) _ _ s;refine bh (za ho hd (by simp) ?_);have hit':(s.heap.update it (Obj.mapFields (·.setIfInBounds 1 (a1l ((i:Int)+1))))).IsKeyIter it d (i+1) es.size ep:=⟨_,a1k _ ho (Obj.isFreed_of_fields (Obj.data_mapFields hd _)),(Obj.cls_mapFields ..).trans hc,by rw[Obj.data_mapFields hd];simp[a1l]⟩;refine bh (qp (bh (wpAny_isOneOf_keyiter (s:={s with heap:=s.heap.update it (Obj.mapFields (·.setIfInBounds 1 (a1l ((i:Int)+1))))}) hit'.typeIs ?_)));show dg _ _ (pure e.key) _ _ _;exact cj (cj ⟨_,rfl,cj (hQ _ hit' (ni.update ..))⟩)
def afN(hh:A.handled=au)(hit:s.heap.IsKeyIter it d i es.size ep)(hm:qZ s.heap d es ep)(hx:es.size<=i)(hQ:∀h',a2g it s.heap h'->Q au {s with heap:=h' }):dg (dw prog w) A (a0g (.ref it)) Q E s:=by
 obtain⟨o,ho,hc,hd⟩:=id hit;obtain⟨od,hod,hcd,hdd⟩:=hm;unfold a0g;refine bh (wpAny_attempt (a2c (name:=Str.ofString "__next__") hit.typeIs F.slot_dict_keyiterator_next (xq F.slot_dict_keyiterator_next hit.typeIs F.entry_dict_keyiterator_next ?_ (F.args_dict_keyiterator_next_1 _))));refine bh (cj ?_);refine bh ?_;refine bh ?_
 (first|refine bh (a0b hit.typeIs (cj ?_))|refine bh (a0x hit.typeIs (cj ?_)));refine bh (wpAny_fieldsOf ho hd ?_)
 have own:Builtin.Dict_items.ownsTuple "dict_keyiterator"=ao:=by decide
 simp only[own,qe,if_false];show dg _ _ (if(aq.ref d==aq.none)=ak then _ else _) _ _ s;rw[if_neg (show ¬ ((aq.ref d==aq.none)=ak)from qw)];refine bh (cj (bh (vp hod hdd ?_)));rw[if_neg (by simp)];refine bh (cj (bh (wpAny_dictEpoch hod hdd ?_)));rw[if_neg (by simp)];refine cj ?_;simp only[show ¬ ((i:Int)<0)from by omega,if_false,a0n,Array.getElem?_eq_none hx];refine bh ?_
 (first|refine bh (a0b hit.typeIs (cj ?_))|refine bh (a0x hit.typeIs (cj ?_)));show dg _ _ (setField (.ref it) 0 .none >>= _) _ _ s
 refine bh (za ho hd (by simp) ?_);show dg _ _ (newExc (.type "StopIteration") [] >>= _) _ _ _;refine bh ?_;simp only[newExc,newTuple];refine bh (zx ?_ (by size_fits));refine bh (m:=firstArgMember _ _) (wpAny_of_eq (a:=Value.none) (by first|rfl|(simp only[firstArgMember];rfl)) (zx ?_ (by size_fits)));simp only[raiseNew];refine bh (wpAny_handled ?_);rw[show A.in1.handled=au from hh];refine bh (cj (wpAny_throw ?_));refine bh (wpAny_isInstance (T:="StopIteration") (b:=true) ⟨_,iw _ rfl,rfl⟩ isSubtype_stop ?_);refine cj (hQ _ λb o' hb e=>?_);exact cg _ (cg _ (((ni.update _ _ _).2 b hb).trans e))
def av0(hh:A.handled=au)(I:bw)(hne:d≠I):Walks prog w A I [I,d] [I] es.size (λi v=>∃e,es[i]?=aj e/\v=e.key) (λi h=>h.IsKeyIter I d i es.size ep/\qZ h d es ep) where
 sub:=λb hb=>by simp at hb;simp[hb]
 frame:=λ_ _ _ st hk=>⟨st.1.at λo e=>hk I (by simp) o e,st.2.at λo e=>hk d (by simp) o e⟩
 item:=λi s Q E hi st hQ=>by
  have hx:es[i]?=aj es[i]:=a1y hi;exact a97 st.1 st.2 hx λh' hit' hs'=>hQ _ h' s.toks ⟨_,hx,rfl⟩ ⟨hit',st.2.at λo e=>hs'.extBut _ o hne e⟩ λb o hb e=>hs'.extBut b o (λh=>hb (by simp[h])) e
 done:=λs Q E st hQ=>afN hh st.1 st.2 (dz _) λh' he'=>hQ h' s.toks λb o hb e=>he' b o (λh=>hb (by simp[h])) e
 self:=λ_ _ _ _ st hQ=>wpAny_pyIter_keyiter st.1 hQ
def aH4(lo:(d==qd)=ao):KdlSrc prog w "dict" d d es.size (λi v=>∃e,es[i]?=aj e/\v=e.key) (λh=>qZ h d es ep) where
 type:=λ_ hm=>hm.typeIs
 there:=λ_ hm=>⟨hm.lt,hm.lt⟩
 keep:=λ_ _ hm hk=>hm.at λo e=>hk d (.inl rfl) o e
 notList:=by decide
 notTuple:=by decide
 hint:=λ_ _ _ _ hm hq=>kdl_hint_dict hm.typeIs hq
 iter:=λ_ s hh hm=>⟨_,_,(λ_ _ hq=>afM lo hm hq),av0 hh _ (jc hm.lt),⟨⟨_,iw _ rfl,rfl,rfl⟩,hm.at λo e=>cg _ e⟩⟩
end
end
section
open PySem.W
section
end
section
end
end
variable{x:List Key×bw×aq}{its:Array aq}
section
open PySem.W
def aA8:typeLookup (.type "list") "keys"=pure au:=by rw[typeLookup_type,builtinLookup_eq_fast];nofun
variable{ps:List (List Key×bw×aq)}
section
variable{prog:jt}{w:jj}{A:jx}{s:cu}
def ao2{k:Nat} 
  (hx:s.heap.get? a=aj o)(hc:o.cls=.type "list")(hdat:o.data=.seq xs k)(hd:o.dict=au)(hA:A.handled=au)
  (h:∀h' tk,(∀b o,s.heap.get? b=aj o->h'.get? b=aj o)->Q au {s with heap:=h',toks:=tk}) :
  dg (dw prog w) A (getAttr? (.ref a) "keys") Q E s:=by
 obtain⟨c,dct,dat,sl⟩:=o;simp only at hc hdat hd;subst hc hdat hd;obtain⟨hp,g,d,tk,os⟩:=s;have hT:∀tk',(⟨hp,g,d,tk',os⟩:cu).TypeIs (.ref a) "list":=λ_=>⟨_,hx,rfl⟩;have f1:=sub_AttributeError;have f3:=F.slot_list_getattribute.lookup;have f4:=F.slot_list_getattribute.bind (.ref a);have f5:=am_list_getattr_none;unfold getAttr? getAttrBy? getAttrBy
 repeat (any_goals (first|assumption|exact hT _|((with_reducible show dg _ _ (call (aq.builtin "list.__getattribute__") _ _) _ _ _);refine call_meets F.slot_list_getattribute (hT _) am_entry_list_getattribute (F.args_list_getattribute_2 _ _) (meets_getattribute_miss_list a xs k sl "keys" _ aA8 (by decide) (by decide)) ⟨hx,hA,λh' tk' e hx'=>?_⟩)|wp_step))
 obtain⟨t',u',he⟩:=hx'.there;show dg _ _ (getattributeRaised _ _ _ _ _ _ _) _ _ _;unfold getattributeRaised
 repeat (any_goals (first|assumption|wp_step))
 exact h _ _ hx'.keeps
def a5F:entryFor table "dict.update.loop"=aj Builtin.«dict.update.loop» :=entryFor_of_fast (by nofun)
def pP:plainId "dict.update.loop"=ak:=by decide+kernel
@[simp]def TK(prog:jt)(w:jj):=tupleKind (aK prog w)
abbrev aA9(prog:jt)(w:jj)(h:jm)(v:aq)(x:List Key×bw×aq):Prop:=∃p o n,v=.ref p/\h.get? p=aj o/\o.cls=.type "tuple"/\o.data=.seq #[.ref x.2.1,x.2.2] n/\(TK prog w).is h x.1 x.2.1
abbrev adX(xs ps:List (List Key×bw×aq)):List (List Key×bw×aq):=ps.foldl (λacc x=>a0j acc x.1 x.2.1 x.2.2) xs
def afO{h:jm}{ks:List Key}(x:(TK prog w).is h ks a)(k:∀o,h.get? a=aj o->h'.get? a=aj o):(TK prog w).is h' ks a:=by
 obtain⟨o,its,n,h1,r⟩:=x;exact⟨o,its,n,k _ h1,r⟩
def a7V(xs:List (List Key×bw×aq))(k:List Key)(a:bw)(v:aq):(a0j xs k a v).length<=xs.length+1:=by
 unfold a0j;split<;>simp
def aiD{k:List Key}{y:List Key×bw×aq}(h:y∈a0j xs k a v):y.2.1=a∨∃x∈xs,y.2.1=x.2.1:=by
 unfold a0j at h;split at h
 .obtain⟨x,hx,e⟩:=ig.mp h;refine .inr ⟨x,hx,?_⟩;subst e;unfold putAt;split<;>rfl
 .rcases uo.mp h with h|h
  .exact .inr ⟨y,h,rfl⟩
  .rw[qj]at h;subst h;exact .inl rfl
def afP{h:jm}(hm:h.DictOfH (TK prog w) d xs)(kd:∀o,h.get? d=aj o->h'.get? d=aj o)(kx:∀x∈xs,∀o,h.get? x.2.1=aj o->h'.get? x.2.1=aj o):h'.DictOfH (TK prog w) d xs:=by
 obtain⟨o,es,ep,h1,h2,h3,h4,h5,h6⟩:=hm;exact⟨o,es,ep,kd _ h1,h2,h3,h4,λx hx=>afO (h5 x hx) (kx x hx),h6⟩
abbrev alM(prog:jt)(w:jj)(I d:bw)(h:jm)(v:aq)(x:List Key×bw×aq):Prop:=∃p o n,v=.ref p/\h.get? p=aj o/\o.cls=.type "tuple"/\o.data=.seq #[.ref x.2.1,x.2.2] n/\(TK prog w).is h x.1 x.2.1/\p≠I/\p≠d/\x.2.1≠I/\x.2.1≠d
def alM.keep{h:jm}(q:alM prog w I d h v x)(k:∀b o,b≠d->b≠I->h.get? b=aj o->h'.get? b=aj o):alM prog w I d h' v x:=by
 obtain⟨p,o,n,e,h1,h2,h3,h4,h5,h6,h7,h8⟩:=q;exact⟨p,o,n,e,k _ _ h6 h5 h1,h2,h3,afO h4 λo e=>k _ _ h8 h7 e,h5,h6,h7,h8⟩
def aAA(q:alM prog w I d s.heap v x)(h:Q [.ref x.2.1,x.2.2] s):dg (dw prog w) A (Builtin.Dict.pairItems v) Q E s:=by
 obtain⟨p,o,n,rfl,h1,h2,h3,h4,_⟩:=q;unfold Builtin.Dict.pairItems;refine bh (wpAny_typeOf (T:="tuple") ⟨o,h1,h2⟩ ?_);rw[if_pos (by decide)];refine bh (a1m h1 h3 ?_);exact cj h
def aAB(hh:A.handled=au)(hu:A.units+1<jr)(hdI:d≠I)(hlI:l≠I)(cZ:l≠d)(hlen:its.size=ps.length) :
  ∀(k i:Nat)(s:cu)(xs:List (List Key×bw×aq))(j:Int)(t:Tok),ps.length - i=k->i<=ps.length->s.heap.IsListIter I l i->s.heap.IsList l its->s.heap.DictOfH (TK prog w) d xs->xs.length+(ps.length - i)<=dh ->
   (∀x∈xs,x.2.1≠I)->(∀(i:Nat)(v:aq)(x:List Key×bw×aq),its[i]?=aj v->ps[i]?=aj x->alM prog w I d s.heap v x) ->
   (∀h' tk,h'.DictOfH (TK prog w) d (adX xs (ps.drop i))->(∀b o,b≠d->b≠I->s.heap.get? b=aj o->h'.get? b=aj o)->R (.ok (.ret .none)) {s with heap:=h',toks:=tk}) ->
   a0X (dw prog w) A (.builtin "dict.update.loop" ⟨[.ref d,.ref I,.int j t,.none],[]⟩) R s:=by
 intro k
 induction k with
 |zero =>
  intro i s xs j t hk hi hst hl hd hz hx hp hR;have hin:i=ps.length:=by omega
  refine a1e a5F ?_;rw[jx.under_plainId pP _];show dg _ A.in1 (a0g (.ref I) >>= _) _ _ s;have W:=Walks.list (prog:=prog) (w:=w) (A:=A.in1) hh I l hlI its;refine bh (W.done s _ _ (by rw[hlen,←hin];exact⟨hst,hl⟩) λh' tk kk=>?_);have hd':h'.DictOfH (TK prog w) d xs:=afP hd (λo e=>kk _ _ (by simpa using hdI) e) λx m o e=>kk _ _ (by simpa using hx x m) e;show dg _ A.in1 (Builtin.Dict.addKeywords d [] >>= _) _ _ _;refine bh (cj (cj ?_));refine hR h' tk (by rw[hin,List.drop_length];exact hd') λb o h1 h2 e=>kk b o (by simpa using h2) e
 |succ k ih =>
  intro i s xs j t hk hi hst hl hd hz hx hp hR;have hlt:i<ps.length:=by omega
  refine a1e a5F ?_;rw[jx.under_plainId pP _];show dg _ A.in1 (a0g (.ref I) >>= _) _ _ s;have W:=Walks.list (prog:=prog) (w:=w) (A:=A.in1) hh I l hlI its;refine bh (W.item i s _ _ (by omega) ⟨hst,hl⟩ λv h' tk hP hst' kk=>?_);obtain⟨x,hxi⟩:∃x,ps[i]?=aj x:=⟨_,gV hlt⟩;have k1:∀b o,b≠d->b≠I->s.heap.get? b=aj o->h'.get? b=aj o:=λb o _ h2 e=>kk b o (by simpa using h2) e;have hp1:∀(i:Nat)(v:aq)(x:List Key×bw×aq),its[i]?=aj v->ps[i]?=aj x->alM prog w I d h' v x:=λi v x e1 e2=>(hp i v x e1 e2).keep k1;have hd':h'.DictOfH (TK prog w) d xs:=afP hd (λo e=>kk _ _ (by simpa using hdI) e) λx m o e=>kk _ _ (by simpa using hx x m) e;have pv:=hp1 i v x hP hxi;obtain⟨p,o,n,_,_,_,_,hkey,_,_,h7,h8⟩:=id pv;refine bh (qp (bh (wpAny_tryCatch (aAA (s:={s with heap:=h',toks:=tk}) pv ?_))));show dg _ A.in1 (holding [aq.ref x.2.1,x.2.2] (dictSet d (.ref x.2.1) x.2.2)) _ _ _;refine qp (wpAny_dictSet_heap (s:={s with heap:=h',toks:=tk}) (yt hu) hkey hd' (λh2 hd2 hs2=>?_) (by omega));have k2:∀b o,b≠d->b≠I->s.heap.get? b=aj o->h2.get? b=aj o:=λb o h1 hI e=>(hs2.2 b h1).trans (k1 b o h1 hI e);refine cj ⟨plainId_quiet pP _,ih (i+1) _ (a0j xs x.1 x.2.1 x.2.2) _ _ (by omega) hlt (hst'.1.at λo e=>(hs2.2 I (Ne.symm hdI)).trans e) (hst'.2.at λo e=>(hs2.2 l cZ).trans e) hd2 (by have:=a7V xs x.1 x.2.1 x.2.2;omega) (λy hy=>?_) (λi v x e1 e2=>(hp i v x e1 e2).keep k2) λh3 tk3 hd3 k3=>?_⟩
  .rcases aiD hy with e|⟨z,hz',e⟩
   .rw[e];exact h7
   .rw[e];exact hx z hz'
  .refine hR h3 tk3 ?_ λb o h1 hI e=>k3 b o h1 hI (k2 b o h1 hI e)
   have:ps.drop i=x::ps.drop (i+1):=by
    rw[a1z hlt];rw[gV hlt]at hxi;cases hxi;rfl
   rw[this];exact hd3
def aA9.ok{h:jm}(q:aA9 prog w h v x)(hI:h.objs.size<=I)(hd:h.objs.size<=d)(k:∀b o,h.get? b=aj o->h'.get? b=aj o):alM prog w I d h' v x:=by
 obtain⟨p,o,n,e,h1,h2,h3,h4⟩:=q;have l1:=gw h1
 have l2:x.2.1<h.objs.size:=by
  obtain⟨o2,its,n2,z,_⟩:=id h4;exact gw z
 exact⟨p,o,n,e,k _ _ h1,h2,h3,afO h4 λo e=>k _ _ e,jc (jo l1 hI),jc (jo l1 hd),jc (jo l2 hI),jc (jo l2 hd)⟩
def aAD(hh:A.handled=au)(hu:A.units+4<jr)(hl:s.heap.get? l=aj o)(hc:o.cls=.type "list")(hdat:o.data=.seq its n)(hdn:o.dict=au)(hlen:its.size=ps.length)(hz:ps.length<=dh)
  (hp:∀(i:Nat)(v:aq)(x:List Key×bw×aq),its[i]?=aj v->ps[i]?=aj x->aA9 prog w s.heap v x)
  (h:∀h' tk,h'.DictOfH (TK prog w) s.heap.objs.size (adX [] ps)->(∀b o,s.heap.get? b=aj o->h'.get? b=aj o)->Q (.ref s.heap.objs.size) {s with heap:=h',toks:=tk}) :
  dg (dw prog w) A (call (.type "dict") [.ref l]) Q E s:=by
 refine callType_codes (Q₁:=λobj s₁=>obj=.ref s.heap.objs.size/\s₁={s with heap:=s.heap.push {cls:=.type "dict",data:=.dict #[]}}) F.kt_called_dict (F.kt_typeCall_dict_1 _) F.entry_dict_init (kt_code_dict_new _ ⟨rfl,rfl⟩) ?_;rintro obj s₁ ⟨rfl,rfl⟩;have kp:∀b o,s.heap.get? b=aj o->(s.heap.push {cls:=.type "dict",data:=.dict #[]}).get? b=aj o:=λb o e=>cg _ e;have hnew:(s.heap.push {cls:=.type "dict",data:=.dict #[]}).DictOfH (TK prog w) s.heap.objs.size []:=Heap.DictOfH.new s.heap;have hdl:l≠s.heap.objs.size:=jc (gw hl);refine⟨hnew.typeIs,F.args_dict_init_2 _ _,?_⟩;unfold Builtin.«dict.__init__»;refine bh ?_;unfold Builtin.Dict.selfAndRest;refine bh (wpAny_notOrdered_dict hnew.typeIs ?_);show dg _ _ (pure (s.heap.objs.size,[aq.ref l])) _ _ _;refine cj ?_;show dg _ _ (Builtin.Dict.updateFrom "dict.__init__" s.heap.objs.size (.ref l) [] .none) _ _ _;unfold Builtin.Dict.updateFrom;refine bh (wpAny_typeOf (T:="list") ⟨o,kp _ _ hl,hc⟩ ?_);rw[if_pos (by decide)];refine bh (ao2 (kp _ _ hl) hc hdat hdn hh λh' tk k1=>?_);rw[if_pos (by rfl)];refine bh (zq ?_);have hl1:h'.IsList l its:=⟨o,k1 _ _ (kp _ _ hl),hc,n,hdat⟩;refine bh (a2f (s:={s with heap:=h',toks:=tk}) hl1 ?_);have k2:∀b o,s.heap.get? b=aj o->(h'.push {cls:=.type "list_iterator",data:=.fields #[.ref l,a1l 0]}).get? b=aj o:=λb o e=>cg _ (k1 _ _ (kp _ _ e));have sz1:s.heap.objs.size<h'.objs.size:=gw (k1 s.heap.objs.size _ (iw _ rfl));refine cj ⟨plainId_quiet pP _,aAB (A:=A.in1) (its:=its) (ps:=ps) hh (by show A.units+1+1<jr;omega) (jc sz1) (jc (gw hl1.choose_spec.1)) hdl hlen ps.length 0 _ [] _ _ rfl (ur _) ⟨_,iw _ rfl,rfl,rfl⟩ (hl1.at λo e=>cg _ e) (afP hnew (λo e=>cg _ (k1 _ _ e)) λx hx=>by simp at hx) (by simp;omega) (λx hx=>by simp at hx) (λi v x e1 e2=>(hp i v x e1 e2).ok (xu sz1) (dz _) k2) λh3 tk3 hd3 k3=>?_⟩;exact⟨rfl,h h3 tk3 hd3 λb o e=>k3 b o (jc (gw e)) (jc (Nat.lt_trans (gw e) sz1)) (k2 b o e)⟩
end
end
section
open PySem.W
abbrev pairD:D->Option (List Key×D)
 |.tup [.tup ds,z]=>(match a6P ds with
  |some ks=>aj (ks,z)
  |none=>au)
 |_=>au
abbrev a6U:List D->Option (List (List Key×D))
 |[]=>aj []
 |d::r=>match pairD d,a6U r with
  |some p,aj ps=>aj (p::ps)
  |_,_=>au
abbrev ao3(kvs:List (DK×D))(ps:List (List Key×D)):List (DK×D):=ps.foldl (λacc p=>cP acc (.inr p.1) p.2) kvs
inductive Prs(K:Fg)(H:Hp):List (List Key×D)->List (List Key×bw×aq)->Prop where
 |nil:Prs K H [] []
 |cons {ks:List Key} {b:bw} {vz:V} {u:aq} {d:D} {kvs:List (List Key×D)} {ps:List (List Key×bw×aq)}:H b=aj (.tup (ks.map kV))->RD K H d vz->RelV vz u->Prs K H kvs ps->Prs K H ((ks,d)::kvs) ((ks,b,u)::ps)
def aqZ(ps:List (List Key×bw×aq)):∀xs,(adX xs ps).length<=xs.length+ps.length:=by
 induction ps with
 |nil=>intro xs;simp[adX]
 |cons p r ih =>
  intro xs;have:=ih (a0j xs p.1 p.2.1 p.2.2);have:=a7V xs p.1 p.2.1 p.2.2;simp only[adX,a1D,qb]at *;omega
def Prs.fold{K:Fg}(h:Prs K H kvs ps):∀{k0:List (DK×D)}{y0:List (List Key×V)}{p0:List (List Key×bw×aq)},KT H y0 p0->vI K H .inr k0 y0->∃ys,KT H ys (adX p0 ps)/\vI K H .inr (ao3 k0 kvs) ys:=by
 induction h with
 |nil=>intro k0 y0 p0 a b;exact⟨y0,a,b⟩
 |@cons ks b vz u d kvs ps e rd rv _ ih =>
  intro k0 y0 p0 a c;exact ih (KT.put a ks e rv) (a5A mU rd c)
section
variable{X:Cx}
private theorem av1{pins:List (bw×Obj)}{s:cu}(I:Inv X pins σ H s):∀{ds:List D}{zs:List V}{its:List aq}{kvs:List (List Key×D)},dB X.K H ds zs->Vals zs its->a6U ds=aj kvs ->
  ∃ps,Prs X.K H kvs ps/\its.length=ps.length/\∀(i:Nat)(v:aq)(x:List Key×bw×aq),its[i]?=aj v->ps[i]?=aj x->aA9 X.prog X.w s.heap v x
 |_,_,_,_,.nil,.nil,e=>by cases e;exact⟨[],.nil,rfl,λi v x e=>by simp at e⟩
 |d::ds,z::zs,u::its,kvs,.cons r rs,.cons v vs,e=>by
  unfold a6U at e;split at e
  .rename_i p ps' e1 e2;cases e;obtain⟨ps,hp,hl,hq⟩:=av1 I rs vs e2;unfold pairD at e1;split at e1
   .rename_i ds' z';split at e1
    .rename_i ks e3;cases e1;cases r with
     |@tup a xs _ sq rr _ =>
     obtain rfl:u=aq.ref a:=v;cases rr with
     |cons r1 rr =>
     cases rr with
     |@cons _ vz _ _ r2 rr =>
     cases rr;cases r1 with
     |@tup b ys _ sb rb eb =>
     have:=aa5 rb e3;subst this;obtain⟨i2,vi,⟨o,h1,h2,n,h3⟩,_⟩:=I.tuple sq;cases vi with
     |cons va vi =>
     cases vi with
     |@cons _ uz _ _ vb vi =>
     cases vi;cases va;refine⟨(ks,b,uz)::ps,.cons eb r2 vb hp,by simp[hl],λi v x e1 e2=>?_⟩;cases i with
     |zero =>
      simp at e1 e2;subst e1 e2;exact⟨a,o,n,rfl,h1,h2,by simpa using h3,xM I.hok eb⟩
     |succ i=>exact hq i v x (by simpa using e1) (by simpa using e2)
    .cases e1
   .cases e1
  .cases e
abbrev a1M:List D->Gp->iB->Prop:=λxs G R=>match xs with
 |[.ref a]=>(match bH G a with
  |some ds=>(match a6U ds with
   |some kvs=>∀r,G r=au->R (.ref r) (aH G r (.cF ak (ao3 [] kvs)))
   |none=>False)
  |none=>False)
 |_=>False
private theorem aAE(hc:X.calm=ak)(hu:X.A.units+64<jr):cX X (.type "dict") a1M:=by
 intro pins s σ H xs vs us G R Q I rx rv g q k;unfold a1M at q;split at q
 .rename_i a;split at q
  .rename_i ds e1;split at q
   .rename_i kvs e2;cases rx with
    |cons r1 rr =>
    cases rr;cases r1;cases rv with
    |cons rv rr =>
    cases rr;cases rv;obtain⟨zs,hq,r⟩:=cC g e1;obtain⟨its,vi,⟨o,n,h1,h2,h3,h4⟩,hz⟩:=I.list hq;obtain⟨ps,hp,hl,hat⟩:=av1 I r vi e2;have hpz:ps.length<=dh:=by rw[←hl,←vi.length];exact hz
    refine aAD (I.ok.hd hc) (by omega) h1 h2 h4 h3 (by simpa using hl) hpz (λi v x e1 e2=>hat i v x (by simpa using e1) e2) λh' tk hd kk=>?_;obtain⟨ys,kt,tw⟩:=hp.fold (k0:=[]) (y0:=[]) (p0:=[]) .nil .nil;have fr:H s.heap.objs.size=au:=I.hok.fresh (dz _);have sn:Same H (upd H s.heap.objs.size (.dT ys)):=bO fr;obtain⟨q0,es,ep,g1,g2,g3,g4,_,g5⟩:=hd;have hys:ys.length<=dh:=by rw[Paired.length kt];have:=aqZ ps [];simp at this;omega
    have J:Inv X pins σ (upd H s.heap.objs.size (.dT ys)) {s with heap:=h',toks:=tk}:=I.laid (t':=tk) (o:=.dT ys) kk (dz _) ⟨hys,(by have:=I.big;simp;exact a1n this),_,kt.keeps λb zs e=>sn _ _ e,q0,es,ep,g1,g2,g3,g4,g5⟩;exact⟨.ref s.heap.objs.size,_,J,rfl,k _ _ (.ref _) _ (.same sn) (.ref _) (g.put (u:=.cF ak _) fr (.inr ⟨rfl,ys,aM,tw.imp λ_ _ z=>⟨z.1,z.2.mono (.same sn)⟩⟩)) (q _ (jE g fr (qX J)))⟩
   .exact q.elim
  .exact q.elim
 .exact q.elim
def a6V{K:Fg}:∀(ks:List Key),dB K H (ks.map kD) (ks.map kV)
 |[]=>.nil
 |.inl i::r=>.cons (.int i) (a6V r)
 |.inr x::r=>.cons (.str x) (a6V r)
def aiE{K:Fg}:∀{kvs:List (DK×D)}{ys:List (List Key×V)}{ws:List (List Key×bw×aq)},vI K H .inr kvs ys->KT H ys ws->dB K H (kvs.map λp=>dkD p.1) (ws.map λx=>.ref x.2.1)
 |_,_,_,.nil,.nil=>.nil
 |p::kvs,q::ys,x::ws,.cons h r,.cons h' r'=>by
  refine .cons ?_ (aiE r r');show RD K H (dkD p.1) (.ref x.2.1);rw[h.1];have e:=h'.2.1;exact .tup (SqT.of e) (a6V _) (aqH e)
end
end
section
section
end
end
variable{c:Nat}{r:bw}{h1:jm}
section
open PySem.W
variable{vs:List aq}
section
variable{prog:jt}{w:jj}{A:jx}{s:cu}
def ao4{h:jm}{out:Array aq}(e:h.get? b=aj u):(sortedHeap (h.push (oh "list" vs.toArray 0)) h.objs.size vs out).get? b=aj u:=by
 have n0:b≠h.objs.size:=jc (gw e);unfold sortedHeap;rw[(ni.update _ _ _).2 b n0];refine cg _ (cg _ ?_);rw[(ni.update _ _ _).2 b n0];exact cg _ e
def av2{h:jm}{out:Array aq}:∃c,(sortedHeap (h.push (oh "list" vs.toArray 0)) h.objs.size vs out).get? h.objs.size=aj (oh "list" out c):=by
 have oL:(h.push (oh "list" vs.toArray 0)).get? h.objs.size=aj (oh "list" vs.toArray 0):=iw _ rfl;unfold sortedHeap;obtain⟨c1,e1⟩:∃c,((h.push (oh "list" vs.toArray 0)).update h.objs.size (Obj.mapSeq λ_=>#[])).get? h.objs.size=aj (oh "list" #[] c):=⟨_,a1x oL λ_=>#[]⟩;exact⟨_,a1x (cg _ (cg _ e1)) λ_=>out⟩
def aAF{kf:Nat->Int} 
  (aH6:∀(R:List aq->cu->Prop)(E:aq->cu->Prop),(∀h' tk,(∀b o,s.heap.get? b=aj o->h'.get? b=aj o)->R vs {s with heap:=h',toks:=tk})->dg (dw prog w) A.in1 (collect (.ref r)) R E s)
  (h64:vs.length<64)(hd:∀i j,i<vs.length->j<vs.length->kf i=kf j->i=j)
  (hk:2<=vs.length->∀(s':cu)(h':jm),(∀b o,s.heap.get? b=aj o->h'.get? b=aj o)->aiB prog w A.in1.in1 s' kf vs h')
  (h:∀(q:Array Nat)(h1:jm)(tk:Nat)(h':jm)(c:Nat),Pm vs.length q->Up kf q vs.length->(∀b o,s.heap.get? b=aj o->h1.get? b=aj o)->(∀b o,h1.get? b=aj o->h'.get? b=aj o)->h'.get? h1.objs.size=aj (oh "list" (q.toList.map λi=>vs.getD i aq.none).toArray c)->Q (.ref h1.objs.size) {s with heap:=h',toks:=tk}):dg (dw prog w) A (call (.builtin "sorted") [.ref r]) Q E s:=by
 have big:1000<dh:=by decide
 refine Calls.call_function_entry kind_sorted plain_sorted entry_sorted (args_sorted1 _) ?_;unfold Builtin.«sorted»;refine bh (m:=checkCount "sorted" 1 1 _) (cj (bh (aH6 _ _ λh1 tk k1=>bh (wpAny_newList ?_ (by omega)))));have oL:(h1.push (oh "list" vs.toArray 0)).get? h1.objs.size=aj (oh "list" vs.toArray 0):=iw _ rfl;have kp:∀b o,s.heap.get? b=aj o->(h1.push (oh "list" vs.toArray 0)).get? b=aj o:=λb o e=>cg _ (k1 b o e);refine bh (qp (xq (s:={s with heap:=h1.push (oh "list" vs.toArray 0),toks:=tk}) slot_list_sort ⟨_,oL,rfl⟩ entry_list_sort (aaA (kf:=kf) (s:={s with heap:=h1.push (oh "list" vs.toArray 0),toks:=tk}) oL h64 hd (λl2 h' k'=>?_) λq P u=>⟨_,rfl,cj ⟨_,rfl,?_⟩⟩) (args_list_sort _)))
 .exact hk l2 _ h' λb o e=>k' b o (jc (gw (k1 b o e))) (kp b o e)
 .obtain⟨c,hc⟩:=av2 (h:=h1) (vs:=vs) (out:=(q.toList.map λi=>vs.getD i aq.none).toArray);exact h q h1 tk _ c P u k1 (λb o e=>ao4 e) hc
end
variable{s:cu}{ps:List (Int×Int)}{M:Int}
section
variable{X:Cx}
def aiF{σ:St}{H:Hp}(I:Inv X pins σ H s){G:Gp}{R:iB}{Q:VK}(g:HR X.K H G){xs:List V}{us:List aq}(r:dB X.K H (ps.map dR) xs)(rv:Vals xs us)(nd:ps.Nodup)(h64:ps.length<64)(hM:2*B<M)(hB:∀p∈ps,-B<=p.2/\p.2<=B)
  (k:∀v H' d G',Ts H H'->RD X.K H' d v->HR X.K H' G'->R d G'->Q v H')(h:∀qs:List (Int×Int),qs.Perm ps->fK qs->∀r,G r=au->R (.ref r) (aH G r (.lst (qs.map dR))))(P:Pm us.length q)(u:Up (λi=>enc M (ps.getD i (0,0))) q us.length)(k1:∀b o,s.heap.get? b=aj o->h1.get? b=aj o)(k2:∀b o,h1.get? b=aj o->h'.get? b=aj o)(ho:h'.get? h1.objs.size=aj (oh "list" (q.toList.map λi=>us.getD i aq.none).toArray c)):EP X pins σ Q (.ref h1.objs.size) {s with heap:=h',toks:=tk}:=by
 have big:1000<dh:=by decide
 have l1:us.length=ps.length:=by rw[←rv.length,←r.length,gk]
 have l2:xs.length=ps.length:=by rw[←r.length,gk]
 rw[l1]at P u;obtain⟨p1,p2⟩:=a6T hM hB nd P u;have hin:∀i∈q.toList,i<ps.length:=λi hi=>yc.mp (P.perm.mem_iff.mp hi);have I1:Inv X pins σ H {s with heap:=h1,toks:=tk}:=I.kept (t':=tk) k1;have fr:H h1.objs.size=au:=I1.hok.fresh (dz _);have sn:Same H (upd H h1.objs.size (.lst (q.toList.map λi=>xs.getD i .non))):=bO fr
 have J:Inv X pins σ (upd H h1.objs.size (.lst (q.toList.map λi=>xs.getD i .non))) {s with heap:=h',toks:=tk} :=
  I1.laid (t':=tk) (λb o e=>k2 b o e) (dz _) ⟨by rw[gk,vf,P.size];omega,_,c,a1L rv λi hi=>by rw[l2];exact hin i hi,ho⟩
 have kf:=qX J;exact⟨.ref h1.objs.size,_,J,rfl,k _ _ (.ref _) _ (.same sn) (.ref _) (g.put (u:=.lst _) fr ⟨_,aM,(aaB r hin).mono (.same sn)⟩) (h _ p1 p2 _ (jE g fr kf))⟩
def ao5(nd:ps.Nodup)(hM:2*B<M)(hB:∀p∈ps,-B<=p.2/\p.2<=B):∀i j,i<ps.length->j<ps.length->enc M (ps.getD i (0,0))=enc M (ps.getD j (0,0))->i=j:=λi j hi hj e'=>by
 have mi:ps.getD i (0,0)∈ps:=by simp[su,hi]
 have mj:ps.getD j (0,0)∈ps:=by simp[su,hj]
 have k1:=vK hM (hB _ mi) (hB _ mj);have k2:=vK hM (hB _ mj) (hB _ mi)
 have ee:ps.getD i (0,0)=ps.getD j (0,0):=by
  have n1:¬ u6 (ps.getD i (0,0)) (ps.getD j (0,0)):=λw=>absurd (k1.mpr w) (by omega);have n2:¬ u6 (ps.getD j (0,0)) (ps.getD i (0,0)):=λw=>absurd (k2.mpr w) (by omega);unfold u6 at n1 n2;exact Prod.ext (by omega) (by omega)
 have e2:ps[i]=ps[j]:=by simpa[su,hi,hj]using ee
 have key:=yp.mp nd;rcases zy i j with w|w|w
 .exact absurd e2 (key _ _ hi hj w)
 .exact w
 .exact absurd e2.symm (key _ _ hj hi w)
def aAG(I:Inv X pins σ H s)(e:H a=aj (.dT ys)):∃(es:Array a0q)(ep:Nat)(ws:List (List Key×bw×aq)),(a==qd)=ao/\qZ s.heap a es ep/\es.size<=dh/\KT H ys ws/\∀acc:Array aq,ItemsOf (λi v=>∃e,es[i]?=aj e/\v=e.key) acc es.size->acc.toList=ws.map λx=>aq.ref x.2.1:=by
 obtain⟨z1,hd,ws,rel,o,es,ep,ho,hcl,hdat,he,his,hn⟩:=ah9 I.hok e;have lw:es.size=ws.length:=size_of_entries he;have lw2:ws.length=ys.length:=(Paired.length rel).symm;refine⟨es,ep,ws,hd,⟨o,ho,hcl,hdat⟩,by omega,rel,λacc hacc=>?_⟩;apply List.ext_getElem?;intro i;by_cases hi:i<ws.length
 .have hi2:i<acc.size:=by rw[hacc.1,lw];exact hi
  obtain⟨en,e1,e2⟩:=hacc.2 i acc[i] (a1y hi2);have e3:es.toList[i]?=aj en:=by rw[a0l];exact e1
  rw[he,vm,gV hi]at e3;have e4:entryOfKey (a1f (aK X.prog X.w)) ws[i]=en:=by simpa using e3
  rw[a0l,a1y hi2,e2,←e4,vm,gV hi];rfl
 .rw[List.getElem?_eq_none (by rw[vf,hacc.1,lw];omega),List.getElem?_eq_none (by simp;omega)]
def adY:∀l:List (List Key×bw×aq),Vals (l.map λx=>V.ref x.2.1) (l.map λx=>aq.ref x.2.1)
 |[]=>.nil
 |_::r=>.cons rfl (adY r)
abbrev rJ:List D->Gp->iB->Prop:=λxs G R=>match xs with
 |[.ref a]=>(match G a with
  |some (.cF ak kvs)=>aDF (kvs.map λp=>dkD p.1) G R
  |_=>False)
 |_=>False
private theorem aAH(hc:X.calm=ak):cX X (.builtin "sorted") rJ:=by
 intro pins s σ H xs vs us G R Q I rx rv g q k;unfold rJ at q;split at q
 .rename_i a;split at q
  .rename_i kvs e1;obtain⟨ps,ep,nd,h64,h⟩:=q;cases rx with
   |cons r1 rr =>
   cases rr;cases r1;cases rv with
   |cons rv rr =>
   cases rr;cases rv;rcases g a _ e1 with⟨z,_⟩|⟨_,ys,e,r⟩
   .cases z
   .obtain⟨es,epo,ws,hsm,raw,hz,rel,hall⟩:=aAG I e;have rds:=aiE r rel;rw[ep]at rds;have vi:=adY ws;obtain⟨B,b0,hB⟩:=a5D ps;have hp:=pairs_at I rds vi;have hM:2*B<2*B+1:=by omega
    refine aAF (kf:=λi=>enc (2*B+1) (ps.getD i (0,0))) (vs:=ws.map λx=>aq.ref x.2.1) (λR' E' hR=>kdu_collect (aH4 hsm) (I.ok.hd hc) raw hz λh' tk acc kk hacc=>?_) (by rw[hp.1];exact h64) (λi j hi hj e=>?_) (λl2 s' h' kp=>a6S hM hB l2 ⟨hp.1,λi p ei=>?_⟩) λq h1 tk h' c P u k1 k2 ho=>aiF I g rds vi nd h64 hM hB k h P u k1 k2 ho
    .rw[hall acc hacc];exact hR h' tk kk
    .rw[hp.1]at hi hj;exact ao5 nd hM hB i j hi hj e
    .obtain⟨a,o,n,x,y,z1,z2,z3,z4⟩:=hp.2 i p ei;exact⟨a,o,n,x,y,z1,kp _ _ z2,z3,z4⟩
  .exact q.elim
 .exact q.elim
end
end
section
open Builtin.Str
section
end
section
abbrev aDH:List D->Gp->iB->Prop:=λxs G R=>match xs with
 |[.int i]=>i.natAbs.log2<1920/\R (.str (toString i)) G
 |[.str z]=>R (.str z) G
 |_=>False
def afQ:vZ X (.type "str") (λxs H Q=>(∃i,xs=[.int i]/\i.natAbs.log2<1920/\Q (.str (toString i)) H)∨∃z,xs=[.str z]/\Q (.str z) H):=by
 intro pins s σ H xs us Q I r h;rcases h with⟨i,rfl,hz,q⟩|⟨z,rfl,q⟩
 .obtain⟨u,rfl,t,rfl⟩:=vals1 r;exact PySem.P.str_of_int hz ⟨.str _,H,I.tok _,⟨_,rfl⟩,q⟩
 .obtain⟨u,rfl,t,rfl⟩:=vals1 r;exact PySem.P.str_of_str ⟨.str _,H,I,⟨_,rfl⟩,q⟩
def aN1:cX X (.type "str") aDH:=cX.of afQ λH xs vs G R Q rx g q k=>by
 cases rx with
 |nil=>exact False.elim q
 |cons r rr =>
  cases rr with
  |cons _ _=>cases r<;>exact False.elim q
  |nil =>
   cases r with
   |int i=>exact .inl ⟨i,rfl,q.1,λ_=>k _ H _ G (.refl H) (.str _) g q.2⟩
   |str z=>exact .inr ⟨z,rfl,λ_=>k _ H _ G (.refl H) (.str _) g q⟩
   |_=>exact False.elim q
abbrev ao6:List D->Gp->iB->Prop:=λxs G R=>match xs with
 |[.ref q]=>(match bH G q with
  |some ds=>R (.tup ds) G
  |none=>False)
 |_=>False
private theorem aAI:cX X (.type "tuple") ao6:=cX.of ac3 λH xs vs G R Q rx g q k=>by
 cases rx with
 |nil=>exact False.elim q
 |cons r rr =>
  cases rr with
  |cons _ _=>cases r<;>exact False.elim q
  |nil =>
   cases r with
   |ref a =>
    have q':(match bH G a with
     |some ds=>R (.tup ds) G
     |none=>False):=q
    split at q'
    .rename_i ds e1;obtain⟨xs,h1,r1⟩:=cC g e1;refine⟨a,xs,rfl,.inl ⟨h1,λl hl kf=>?_⟩⟩;have sn:Same H (upd H l (.tup xs)):=bO hl;exact k _ _ _ _ (.same sn) (.tup (SqT.of aM) (r1.mono (.same sn)) (aqH aM)) (g.same sn) q'
    .exact q'.elim
   |_=>exact False.elim q
end
end
section
section
end
end
section
open PySem.W
variable{x:Key×aq}
section
variable{prog:jt}{w:jj}{A:jx}{s:cu}
abbrev adZ(xs ps:List (Key×aq)):List (Key×aq):=ps.foldl (λacc x=>stored acc x.1 x.2) xs
def afR{h:jm}(hm:h.DictOf (aK prog w) d xs)(k:∀o,h.get? d=aj o->h'.get? d=aj o):h'.DictOf (aK prog w) d xs:=by
 obtain⟨o,es,ep,h1,r⟩:=hm;exact⟨o,es,ep,k _ h1,r⟩
abbrev av3(prog:jt)(w:jj)(I d:bw)(h:jm)(v:aq)(x:Key×aq):Prop:=∃p o n key,v=.ref p/\h.get? p=aj o/\o.cls=.type "tuple"/\o.data=.seq #[key,x.2] n/\(aK prog w).is x.1 key=ak/\p≠I/\p≠d
def av3.keep{h:jm}(q:av3 prog w I d h v x)(k:∀b o,b≠d->b≠I->h.get? b=aj o->h'.get? b=aj o):av3 prog w I d h' v x:=by
 obtain⟨p,o,n,key,e,h1,h2,h3,h4,h5,h6⟩:=q;exact⟨p,o,n,key,e,k _ _ h6 h5 h1,h2,h3,h4,h5,h6⟩
variable{ps:List (Key×aq)}
def av4(hh:A.handled=au)(hdI:d≠I)(hlI:l≠I)(cZ:l≠d)(hlen:its.size=ps.length) :
  ∀(k i:Nat)(s:cu)(xs:List (Key×aq))(j:Int)(t:Tok),ps.length - i=k->i<=ps.length->s.heap.IsListIter I l i->s.heap.IsList l its->s.heap.DictOf (aK prog w) d xs->xs.length+(ps.length - i)<=dh ->
   (∀(i:Nat)(v:aq)(x:Key×aq),its[i]?=aj v->ps[i]?=aj x->av3 prog w I d s.heap v x) ->
   (∀h' tk,h'.DictOf (aK prog w) d (adZ xs (ps.drop i))->(∀b o,b≠d->b≠I->s.heap.get? b=aj o->h'.get? b=aj o)->R (.ok (.ret .none)) {s with heap:=h',toks:=tk}) ->
   a0X (dw prog w) A (.builtin "dict.update.loop" ⟨[.ref d,.ref I,.int j t,.none],[]⟩) R s:=by
 intro k
 induction k with
 |zero =>
  intro i s xs j t hk hi hst hl hd hz hp hR;have hin:i=ps.length:=by omega
  refine a1e a5F ?_;rw[jx.under_plainId pP _];show dg _ A.in1 (a0g (.ref I) >>= _) _ _ s;have W:=Walks.list (prog:=prog) (w:=w) (A:=A.in1) hh I l hlI its;refine bh (W.done s _ _ (by rw[hlen,←hin];exact⟨hst,hl⟩) λh' tk kk=>?_);have hd':h'.DictOf (aK prog w) d xs:=afR hd (λo e=>kk _ _ (by simpa using hdI) e);show dg _ A.in1 (Builtin.Dict.addKeywords d [] >>= _) _ _ _;refine bh (cj (cj ?_));refine hR h' tk (by rw[hin,List.drop_length];exact hd') λb o h1 h2 e=>kk b o (by simpa using h2) e
 |succ k ih =>
  intro i s xs j t hk hi hst hl hd hz hp hR;have hlt:i<ps.length:=by omega
  refine a1e a5F ?_;rw[jx.under_plainId pP _];show dg _ A.in1 (a0g (.ref I) >>= _) _ _ s;have W:=Walks.list (prog:=prog) (w:=w) (A:=A.in1) hh I l hlI its;refine bh (W.item i s _ _ (by omega) ⟨hst,hl⟩ λv h' tk hP hst' kk=>?_);obtain⟨x,hxi⟩:∃x,ps[i]?=aj x:=⟨_,gV hlt⟩;have k1:∀b o,b≠d->b≠I->s.heap.get? b=aj o->h'.get? b=aj o:=λb o _ h2 e=>kk b o (by simpa using h2) e;have hd':h'.DictOf (aK prog w) d xs:=afR hd (λo e=>kk _ _ (by simpa using hdI) e);obtain⟨p,o,n,key,rfl,q1,q2,q3,hkey,_,_⟩:=(hp i v x hP hxi).keep k1;refine bh (qp (bh (wpAny_tryCatch ?_)));unfold Builtin.Dict.pairItems;refine bh (wpAny_typeOf (s:={s with heap:=h',toks:=tk}) (T:="tuple") ⟨o,q1,q2⟩ ?_);rw[if_pos (by decide)];refine bh (a1m (s:={s with heap:=h',toks:=tk}) q1 q3 (cj ?_));show dg _ A.in1 (holding [key,x.2] (dictSet d key x.2)) _ _ _;refine qp (wpAny_dictSet_pairs (s:={s with heap:=h',toks:=tk}) hkey hd' (λh2 hd2 hs2=>?_) (by omega));have k2:∀b o,b≠d->b≠I->s.heap.get? b=aj o->h2.get? b=aj o:=λb o h1 hI e=>(hs2.2 b h1).trans (k1 b o h1 hI e);refine cj ⟨plainId_quiet pP _,ih (i+1) _ (stored xs x.1 x.2) _ _ (by omega) hlt (hst'.1.at λo e=>(hs2.2 I (Ne.symm hdI)).trans e) (hst'.2.at λo e=>(hs2.2 l cZ).trans e) hd2 (by have:=stored_length_le xs x.1 x.2;omega) (λi v x e1 e2=>(hp i v x e1 e2).keep k2) λh3 tk3 hd3 k3=>?_⟩;refine hR h3 tk3 ?_ λb o h1 hI e=>k3 b o h1 hI (k2 b o h1 hI e)
  have:ps.drop i=x::ps.drop (i+1):=by
   rw[a1z hlt];rw[gV hlt]at hxi;cases hxi;rfl
  rw[this];exact hd3
abbrev aAJ(prog:jt)(w:jj)(h:jm)(v:aq)(x:Key×aq):Prop:=∃p o n key,v=.ref p/\h.get? p=aj o/\o.cls=.type "tuple"/\o.data=.seq #[key,x.2] n/\(aK prog w).is x.1 key=ak
def aAJ.ok{h:jm}(q:aAJ prog w h v x)(hI:h.objs.size<=I)(hd:h.objs.size<=d)(k:∀b o,h.get? b=aj o->h'.get? b=aj o):av3 prog w I d h' v x:=by
 obtain⟨p,o,n,key,e,h1,h2,h3,h4⟩:=q;have l1:=gw h1;exact⟨p,o,n,key,e,k _ _ h1,h2,h3,h4,jc (jo l1 hI),jc (jo l1 hd)⟩
def av5(hh:A.handled=au)(hl:s.heap.get? l=aj o)(hc:o.cls=.type "list")(hdat:o.data=.seq its n)(hdn:o.dict=au)(hlen:its.size=ps.length)(hz:ps.length<=dh)
  (hp:∀(i:Nat)(v:aq)(x:Key×aq),its[i]?=aj v->ps[i]?=aj x->aAJ prog w s.heap v x)
  (h:∀h' tk,h'.DictOf (aK prog w) s.heap.objs.size (adZ [] ps)->(∀b o,s.heap.get? b=aj o->h'.get? b=aj o)->Q (.ref s.heap.objs.size) {s with heap:=h',toks:=tk}) :
  dg (dw prog w) A (call (.type "dict") [.ref l]) Q E s:=by
 refine callType_codes (Q₁:=λobj s₁=>obj=.ref s.heap.objs.size/\s₁={s with heap:=s.heap.push {cls:=.type "dict",data:=.dict #[]}}) F.kt_called_dict (F.kt_typeCall_dict_1 _) F.entry_dict_init (kt_code_dict_new _ ⟨rfl,rfl⟩) ?_;rintro obj s₁ ⟨rfl,rfl⟩;have kp:∀b o,s.heap.get? b=aj o->(s.heap.push {cls:=.type "dict",data:=.dict #[]}).get? b=aj o:=λb o e=>cg _ e;have hnew:(s.heap.push {cls:=.type "dict",data:=.dict #[]}).DictOf (aK prog w) s.heap.objs.size []:=Heap.DictOf.new s.heap;have hdl:l≠s.heap.objs.size:=jc (gw hl);refine⟨hnew.typeIs,F.args_dict_init_2 _ _,?_⟩;unfold Builtin.«dict.__init__»;refine bh ?_;unfold Builtin.Dict.selfAndRest;refine bh (wpAny_notOrdered_dict hnew.typeIs ?_);show dg _ _ (pure (s.heap.objs.size,[aq.ref l])) _ _ _;refine cj ?_;show dg _ _ (Builtin.Dict.updateFrom "dict.__init__" s.heap.objs.size (.ref l) [] .none) _ _ _;unfold Builtin.Dict.updateFrom;refine bh (wpAny_typeOf (T:="list") ⟨o,kp _ _ hl,hc⟩ ?_);rw[if_pos (by decide)];refine bh (ao2 (kp _ _ hl) hc hdat hdn hh λh' tk k1=>?_);rw[if_pos (by rfl)];refine bh (zq ?_);have hl1:h'.IsList l its:=⟨o,k1 _ _ (kp _ _ hl),hc,n,hdat⟩;refine bh (a2f (s:={s with heap:=h',toks:=tk}) hl1 ?_);have k2:∀b o,s.heap.get? b=aj o->(h'.push {cls:=.type "list_iterator",data:=.fields #[.ref l,a1l 0]}).get? b=aj o:=λb o e=>cg _ (k1 _ _ (kp _ _ e));have sz1:s.heap.objs.size<h'.objs.size:=gw (k1 s.heap.objs.size _ (iw _ rfl));refine cj ⟨plainId_quiet pP _,av4 (A:=A.in1) (its:=its) (ps:=ps) hh (jc sz1) (jc (gw hl1.choose_spec.1)) hdl hlen ps.length 0 _ [] _ _ rfl (ur _) ⟨_,iw _ rfl,rfl,rfl⟩ (hl1.at λo e=>cg _ e) (afR hnew (λo e=>cg _ (k1 _ _ e))) (by simp;omega) (λi v x e1 e2=>(hp i v x e1 e2).ok (xu sz1) (dz _) k2) λh3 tk3 hd3 k3=>?_⟩;exact⟨rfl,h h3 tk3 hd3 λb o e=>k3 b o (jc (gw e)) (jc (Nat.lt_trans (gw e) sz1)) (k2 b o e)⟩
end
abbrev aDI:D->Option (Key×D)
 |.tup [y,z]=>(match auR y with
  |some k=>aj (k,z)
  |none=>au)
 |_=>au
abbrev a6W:List D->Option (List (Key×D))
 |[]=>aj []
 |d::r=>match aDI d,a6W r with
  |some p,aj ps=>aj (p::ps)
  |_,_=>au
abbrev aaC(kvs:List (DK×D))(ps:List (Key×D)):List (DK×D):=ps.foldl (λacc p=>cP acc (.inl p.1) p.2) kvs
inductive ar0(K:Fg)(H:Hp):List (Key×D)->List (Key×aq)->Prop where
 |nil:ar0 K H [] []
 |cons {k:Key} {vz:V} {u:aq} {d:D} {kvs:List (Key×D)} {ps:List (Key×aq)}:RD K H d vz->RelV vz u->ar0 K H kvs ps->ar0 K H ((k,d)::kvs) ((k,u)::ps)
def ar3(ps:List (Key×aq)):∀xs,(adZ xs ps).length<=xs.length+ps.length:=by
 induction ps with
 |nil=>intro xs;simp[adZ]
 |cons p r ih =>
  intro xs;have:=ih (stored xs p.1 p.2);have:=stored_length_le xs p.1 p.2;simp only[adZ,a1D,qb]at *;omega
def ar0.fold{K:Fg}(h:ar0 K H kvs ps):∀{k0:List (DK×D)}{y0:List (Key×V)}{p0:List (Key×aq)},KV y0 p0->vI K H .inl k0 y0->∃ys,KV ys (adZ p0 ps)/\vI K H .inl (aaC k0 kvs) ys:=by
 induction h with
 |nil=>intro k0 y0 p0 a b;exact⟨y0,a,b⟩
 |@cons k vz u d kvs ps rd rv _ ih =>
  intro k0 y0 p0 a c;exact ih (KV.put a k rv) (a5A p8 rd c)
section
variable{X:Cx}
private theorem ao7{pins:List (bw×Obj)}{s:cu}(I:Inv X pins σ H s):∀{ds:List D}{zs:List V}{its:List aq}{kvs:List (Key×D)},dB X.K H ds zs->Vals zs its->a6W ds=aj kvs ->
  ∃ps,ar0 X.K H kvs ps/\its.length=ps.length/\∀(i:Nat)(v:aq)(x:Key×aq),its[i]?=aj v->ps[i]?=aj x->aAJ X.prog X.w s.heap v x
 |_,_,_,_,.nil,.nil,e=>by cases e;exact⟨[],.nil,rfl,λi v x e=>by simp at e⟩
 |d::ds,z::zs,u::its,kvs,.cons r rs,.cons v vs,e=>by
  unfold a6W at e;split at e
  .rename_i p ps' e1 e2;cases e;obtain⟨ps,hp,hl,hq⟩:=ao7 I rs vs e2;unfold aDI at e1;split at e1
   .rename_i y z';split at e1
    .rename_i k e3;cases e1;cases r with
     |@tup a xs _ sq rr _ =>
     obtain rfl:u=aq.ref a:=v;cases rr with
     |cons r1 rr =>
     cases rr with
     |@cons _ vz _ _ r2 rr =>
     cases rr;have ek:=anW r1 e3;subst ek;obtain⟨i2,vi,⟨o,h1,h2,n,h3⟩,_⟩:=I.tuple sq;cases vi with
     |@cons _ uk _ _ va vi =>
     cases vi with
     |@cons _ uz _ _ vb vi =>
     cases vi;refine⟨(k,uz)::ps,.cons r2 vb hp,by simp[hl],λi v x e1 e2=>?_⟩;cases i with
     |zero =>
      simp at e1 e2;subst e1 e2;exact⟨a,o,n,uk,rfl,h1,h2,by simpa using h3,a7R va⟩
     |succ i=>exact hq i v x (by simpa using e1) (by simpa using e2)
    .cases e1
   .cases e1
  .cases e
abbrev xR:List D->Gp->iB->Prop:=λxs G R=>match xs with
 |[.ref a]=>(match bH G a with
  |some ds=>(match a6W ds with
   |some kvs=>∀r,G r=au->R (.ref r) (aH G r (.cF ao (aaC [] kvs)))
   |none=>False)
  |none=>False)
 |_=>False
private theorem aAK(hc:X.calm=ak):cX X (.type "dict") xR:=by
 intro pins s σ H xs vs us G R Q I rx rv g q k;unfold xR at q;split at q
 .rename_i a;split at q
  .rename_i ds e1;split at q
   .rename_i kvs e2;cases rx with
    |cons r1 rr =>
    cases rr;cases r1;cases rv with
    |cons rv rr =>
    cases rr;cases rv;obtain⟨zs,hq,r⟩:=cC g e1;obtain⟨its,vi,⟨o,n,h1,h2,h3,h4⟩,hz⟩:=I.list hq;obtain⟨ps,hp,hl,hat⟩:=ao7 I r vi e2;have hpz:ps.length<=dh:=by rw[←hl,←vi.length];exact hz
    refine av5 (I.ok.hd hc) h1 h2 h4 h3 (by simpa using hl) hpz (λi v x e1 e2=>hat i v x (by simpa using e1) e2) λh' tk hd kk=>?_;obtain⟨ys,kt,tw⟩:=hp.fold (k0:=[]) (y0:=[]) (p0:=[]) .nil .nil;have fr:H s.heap.objs.size=au:=I.hok.fresh (dz _);have sn:Same H (upd H s.heap.objs.size (.dK ys)):=bO fr;have hys:ys.length<=dh:=by rw[KV.length kt];have:=ar3 ps [];simp at this;omega
    have J:Inv X pins σ (upd H s.heap.objs.size (.dK ys)) {s with heap:=h',toks:=tk}:=I.laid (t':=tk) (o:=.dK ys) kk (dz _) ⟨hys,(by have:=I.big;simp;exact a1n this),_,kt,hd⟩;exact⟨.ref s.heap.objs.size,_,J,rfl,k _ _ (.ref _) _ (.same sn) (.ref _) (g.put (u:=.cF ao _) fr (.inl ⟨rfl,ys,aM,tw.imp λ_ _ z=>⟨z.1,z.2.mono (.same sn)⟩⟩)) (q _ (jE g fr (qX J)))⟩
   .exact q.elim
  .exact q.elim
 .exact q.elim
end
end
section
open PySem.W
section
end
section
end
end
variable{us:Nat->List aq}{as:List bw}
section
open PySem.W
section
variable{prog:jt}{w:jj}{A:jx}{E:aq->cu->Prop}{s:cu}
def av6{CV:List aq->jm->Prop}{Q:aq->cu->Prop}
  (aH6:∀(R:List aq->cu->Prop)(E:aq->cu->Prop),(∀vs h' tk,(∀b o,s.heap.get? b=aj o->h'.get? b=aj o)->CV vs h'->R vs {s with heap:=h',toks:=tk})->dg (dw prog w) A.in1 (collect (.ref r)) R E s)
  (hm:∀vs h1 tk,(∀b o,s.heap.get? b=aj o->h1.get? b=aj o)->CV vs h1->vs.length<64/\∃kf:Nat->Int,(∀i j,i<vs.length->j<vs.length->kf i=kf j->i=j) /\
   (2<=vs.length->∀(s':cu)(h':jm),(∀b o,h1.get? b=aj o->h'.get? b=aj o)->aiB prog w A.in1.in1 s' kf vs h') /\
   ∀(q:Array Nat)(h':jm)(c:Nat),Pm vs.length q->Up kf q vs.length->(∀b o,h1.get? b=aj o->h'.get? b=aj o)->h'.get? h1.objs.size=aj (oh "list" (q.toList.map λi=>vs.getD i aq.none).toArray c)->Q (.ref h1.objs.size) {s with heap:=h',toks:=tk}):dg (dw prog w) A (call (.builtin "sorted") [.ref r]) Q E s:=by
 have big:1000<dh:=by decide
 refine Calls.call_function_entry kind_sorted plain_sorted entry_sorted (args_sorted1 _) ?_;unfold Builtin.«sorted»;refine bh (m:=checkCount "sorted" 1 1 _) (cj (bh (aH6 _ _ λvs h1 tk k1 cv=>?_)));obtain⟨h64,kf,hd,hk,h⟩:=hm vs h1 tk k1 cv;refine bh (wpAny_newList ?_ (by omega));have oL:(h1.push (oh "list" vs.toArray 0)).get? h1.objs.size=aj (oh "list" vs.toArray 0):=iw _ rfl;refine bh (qp (xq (s:={s with heap:=h1.push (oh "list" vs.toArray 0),toks:=tk}) slot_list_sort ⟨_,oL,rfl⟩ entry_list_sort (aaA (kf:=kf) (s:={s with heap:=h1.push (oh "list" vs.toArray 0),toks:=tk}) oL h64 hd (λl2 h' k'=>?_) λq P u=>⟨_,rfl,cj ⟨_,rfl,?_⟩⟩) (args_list_sort _)))
 .exact hk l2 _ h' λb o e=>k' b o (jc (gw e)) (cg _ e)
 .obtain⟨c,hc⟩:=av2 (h:=h1) (vs:=vs) (out:=(q.toList.map λi=>vs.getD i aq.none).toArray);exact h q _ c P u (λb o e=>ao4 e) hc
end
variable{s:cu}{x:Str}{o:jq}
section
variable{X:Cx}
def Inv.grown{t':Nat}(I:Inv X pins σ H s)(k:∀b u,s.heap.get? b=aj u->h'.get? b=aj u)(hs:Same H H')(hn:∀b u,H' b=aj u->H b=aj u∨(s.heap.objs.size<=b/\gZ X.prog X.w H' h' b u)):Inv X pins σ H' {s with heap:=h',toks:=t' }:=by
 refine I.un ⟨λb ob q _ _ _=>k b ob q,λb ob q _ _ _=>⟨ob.slots,k b ob q⟩,λb ob q n _=>?_,λb ob q _=>⟨ob,k b ob q⟩,λb xs q=>hs _ _ q,λb o u q=>hs _ _ q,λb ps q=>⟨#[],by rw[hs _ _ q];simp⟩⟩ λa o e=>?_
 .cases z:H' b with
  |none=>rfl
  |some u =>
   rcases hn b u z with w|⟨w,_⟩
   .rw[n]at w;cases w
   .exact absurd (gw q) (Nat.not_lt.mpr w)
 .rcases hn a o e with w|⟨_,w⟩
  .exact(I.hok a o w).stay (λc v _ q=>k c v q) (λc q=>hs _ _ q) λc xs q=>hs _ _ q
  .exact w
variable{σ:St}
def ar4{H:Hp}(I:Inv X pins σ H s)(k:∀b u,s.heap.get? b=aj u->h1.get? b=aj u){ys:Nat->List V}(nd:as.Nodup)(hi:∀a∈as,s.heap.objs.size<=a)
  (ht:∀j a,as[j]?=aj a->Vals (ys j) (us j)/\(ys j).length<=dh/\IsTup h1 a (us j).toArray):∃H1,Inv X pins σ H1 {s with heap:=h1,toks:=tk}/\Same H H1/\∀j a,as[j]?=aj a->H1 a=aj (.tup (ys j)):=by
 have fr:∀a∈as,H a=au:=λa ha=>I.hok.fresh (hi a ha)
 let H1:Hp:=λb=>if b∈as then aj (.tup (ys (as.idxOf b)))else H b
 have sm:Same H H1:=λb o e=>by
  show(if b∈as then _ else _)=_;rw[if_neg]
  .exact e
  .intro z;rw[fr b z]at e;cases e
 have at1:∀j a,as[j]?=aj a->H1 a=aj (.tup (ys j)):=λj a e=>by
  obtain⟨hj,e2⟩:=jk.mp e;show(if a∈as then _ else _)=_;rw[if_pos (jz e),←e2,nd.idxOf_getElem]
 refine⟨H1,I.grown k sm λb u e=>?_,sm,at1⟩;by_cases z:b∈as
 .right;refine⟨hi b z,?_⟩;obtain⟨j,hj⟩:=List.mem_iff_getElem?.mp z;have e3:=at1 j b hj;rw[e3]at e;cases e;obtain⟨t1,t2,t3⟩:=ht j b hj;exact⟨t2,us j,t1,t3⟩
 .left;have e':(if b∈as then aj (.tup (ys (as.idxOf b)))else H b)=aj u:=e;rw[if_neg z]at e';exact e'
abbrev rK(p:Int×Int):DK×D:=(.inl (.inl p.1),.int p.2)
def aaD{K:Fg}:∀{ps:List (Int×Int)}{ys:List (Key×V)},vI K H .inl (ps.map rK) ys->ys=ps.map λp=>(.inl p.1,.int p.2)
 |[],_,.nil=>rfl
 |p::ps,y::ys,.cons h r=>by
  obtain⟨k,v⟩:=y;obtain⟨h1,h2⟩:=h
  have e1:(Sum.inl p.1:Key)=k:=by
   have:(Sum.inl (Sum.inl p.1):DK)=.inl k:=h1;exact p8 _ _ this
  cases h2;rw[aaD r,←e1];rfl
def a5G:∀{ps:List (Int×Int)}{vs:List (Key×aq)},KV (ps.map λp=>((.inl p.1:Key),V.int p.2)) vs->vs.length=ps.length/\vs.map (·.1)=ps.map (λp=>(.inl p.1:Key))/\∀(j:Nat)(p:Int×Int),ps[j]?=aj p->∃t,vs[j]?=aj (.inl p.1,aq.int p.2 t)
 |[],_,.nil=>⟨rfl,rfl,λj p e=>by simp at e⟩
 |p::ps,v::vs,.cons h r=>by
  obtain⟨a1,a2,a3⟩:=a5G r;obtain⟨k,u⟩:=v;obtain⟨h1,t,h2⟩:=h;cases h1;cases h2;refine⟨by simp[a1],by simp[a2],λj q e=>?_⟩;cases j with
  |zero=>simp at e;subst e;exact⟨t,rfl⟩
  |succ j=>exact a3 j q (by simpa using e)
def aaE{K:Fg}:∀{ps:List (Int×Int)}{as:List bw},as.length=ps.length->(∀(j:Nat)(a:bw)(p:Int×Int),as[j]?=aj a->ps[j]?=aj p->H a=aj (.tup [.int p.1,.int p.2]))->dB K H (ps.map dR) (as.map V.ref)
 |[],[],_,_=>.nil
 |p::ps,a::as,hl,h=>by
  have e:=h 0 a p rfl rfl;exact .cons (.tup (.inl (.of e)) (.cons (.int _) (.cons (.int _) .nil)) (aqH e)) (aaE (by simpa using hl) λj b q e1 e2=>h (j+1) b q (by simpa using e1) (by simpa using e2))
def afS:∀as:List bw,Vals (as.map V.ref) (as.map aq.ref)
 |[]=>.nil
 |_::r=>.cons rfl (afS r)
def alN{H:Hp}{G:Gp}{R:iB}{Q:VK}(hc:X.calm=ak)(I:Inv X pins σ H s)(g:HR X.K H G){ps:List (Int×Int)}(e:G a=aj (.cF ao (ps.map rK)))(h64:ps.length<64)(hv:s.heap.IsItemsView r a)
  (h:∀qs:List (Int×Int),qs.Perm ps->fK qs->∀r,G r=au->R (.ref r) (aH G r (.lst (qs.map dR))))(k:∀v H' d G',Ts H H'->RD X.K H' d v->HR X.K H' G'->R d G'->Q v H'):dg (dw X.prog X.w) X.A (call (.builtin "sorted") [.ref r]) (EP X pins σ Q) X.xe s:=by
 have big:1000<dh:=by decide
 rcases g a _ e with⟨_,ys,e1,tw⟩|⟨z,_⟩
 .have ey:=aaD tw;subst ey;obtain⟨z1,hsm,vs,kv,hd⟩:=a9M I.hok e1;obtain⟨l1,l2,l3⟩:=a5G kv;obtain⟨o,es,ep,q1,q2,q3,q4,q5,q6⟩:=hd;have hat:s.heap.DictAt (aK X.prog X.w) a vs ep:=⟨o,es,q1,q2,q3,q4,q5,q6⟩;have nk:(ps.map λp=>(.inl p.1:Key)).Nodup:=by rw[←l2];exact q6
  have nd:ps.Nodup:=(a0a.mp nk).imp λh z=>h (by rw[z]);refine av6 (CV:=λus h'=>∃as:List bw,us=as.map aq.ref/\as.length=ps.length/\KdxG (aK X.prog X.w) vs s.heap.objs.size h' as) (λR' E' hR=>kdx_collect (I.ok.hd hc) hv hat (by omega) λh' tk as kk hl hG=>hR _ h' tk kk ⟨as,rfl,hl.trans l1,hG⟩) λus h1 tk k1 cv=>?_;obtain⟨as,rfl,hl,hG⟩:=cv
  have ex:∀j:Nat,∃uu:List aq,∀b,as[j]?=aj b->Vals [V.int (ps.getD j (0,0)).1,V.int (ps.getD j (0,0)).2] uu/\IsTup h1 b uu.toArray:=λj=>by
   cases ea:as[j]? with
   |none=>exact⟨[],λb z=>by cases z⟩
   |some b =>
    obtain⟨key,kk,x,p1,p2,p3⟩:=hG.pairs j b ea;have hj:j<ps.length:=by rw[←hl];exact(jk.mp ea).1
    obtain⟨t,p4⟩:=l3 j ps[j] (gV hj);rw[p4]at p1;cases p1;have gd:ps.getD j (0,0)=ps[j]:=getD_at hj;refine⟨[key,aq.int ps[j].2 t],λb' z=>?_⟩;cases z;rw[gd];refine⟨.cons ?_ (.cons ⟨t,rfl⟩ .nil),⟨_,p3,rfl,_,rfl⟩⟩;rcases d9 (show a4Q (Sum.inl ps[j].1) key=ak from p2)with⟨i,t',e1,e2⟩|⟨i,t',e1,e2⟩
    .cases e1;exact⟨t',e2⟩
    .cases e1
  obtain⟨us,hus⟩:=Classical.axiomOfChoice ex;obtain⟨H1,I1,sm,at1⟩:=ar4 (tk:=tk) I k1 (as:=as) (ys:=λj=>[V.int (ps.getD j (0,0)).1,V.int (ps.getD j (0,0)).2]) (us:=us) (hG.rise.imp jc) (λb hb=>xu (hG.above b hb)) λj b e=>⟨(hus j b e).1,by show 2<=dh;omega,(hus j b e).2⟩
  have rds:dB X.K H1 (ps.map dR) (as.map V.ref):=aaE hl λj b p e1 e2=>by
   have z:=at1 j b e1;obtain⟨hj,e3⟩:=jk.mp e2;rw[getD_at hj,e3]at z;exact z
  have vi:=afS as;obtain⟨B,b0,hB⟩:=a5D ps;have hp:=pairs_at I1 rds vi;have hM:2*B<2*B+1:=by omega
  have g1:HR X.K H1 G:=g.same sm;refine⟨by rw[hp.1];exact h64,λi=>enc (2*B+1) (ps.getD i (0,0)),λi j hi hj e=>?_,λl2 s' h' kp=>a6S hM hB l2 ⟨hp.1,λi p ei=>?_⟩,λq h' c P u k2 ho=>?_⟩
  .rw[hp.1]at hi hj;exact ao5 nd hM hB i j hi hj e
  .obtain⟨a,o,n,x,y,z1,z2,z3,z4⟩:=hp.2 i p ei;exact⟨a,o,n,x,y,z1,kp _ _ z2,z3,z4⟩
  .exact aiF (s:={s with heap:=h1,toks:=tk}) (h1:=h1) (tk:=tk) I1 g1 rds vi nd h64 hM hB (λv H' d G' t=>k v H' d G' ((Ts.same sm).trans t)) h P u (λ_ _ z=>z) k2 ho
 .cases z
abbrev uH(x:D)(G:Gp)(R:iB):Prop:=match x with
 |.ref a=>(match G a with
  |some (.cF ao kvs)=>∃ps:List (Int×Int),kvs=ps.map rK/\ps.length<64/\∀qs:List (Int×Int),qs.Perm ps->fK qs->∀r,G r=au->R (.ref r) (aH G r (.lst (qs.map dR)))
  |_=>False)
 |_=>False
private theorem alO{x:D}(h:uH x G R):∃a,∃ps:List (Int×Int),x=.ref a/\G a=aj (.cF ao (ps.map rK))/\ps.length<64/\∀qs:List (Int×Int),qs.Perm ps->fK qs->∀r,G r=au->R (.ref r) (aH G r (.lst (qs.map dR))):=by
 unfold uH at h;split at h
 .split at h
  .rename_i e;obtain⟨ps,rfl,h1,h2⟩:=h;exact⟨_,ps,rfl,e,h1,h2⟩
  .exact h.elim
 .exact h.elim
abbrev a5H(to:cJ):cJ:=λρ G R=>to ρ G λx G1=>uH x G1 R
def ao8{K:Fg}(g:HR K H G)(e:G a=aj (.cF ao kvs)):IsD H a:=by
 rcases g a _ e with⟨_,ys,e1,_⟩|⟨z,_⟩
 .exact .inl ⟨ys,.of e1⟩
 .cases z
def aAL{apos cpos p:Pos}(hc:X.calm=ak)(ho:cO X o to)(hg:Gl X x)(hm:X.mg x=au)(hv:mz x=aj (.builtin "sorted"))(hn:x≠"__name__")(hdb:(x==("__debug__":Str))=ao)
  (hbase:uh o "items" X.env (eval o X.env)=eval o X.env)(hline:(apos.endLine==cpos.line)=ak) :
  cO X (.Call (.Name x p) [.Call (.Attribute o "items" apos) [] [] cpos] [] pos) (a5H to):=by
 intro pins s σ H Q I h;obtain⟨ρ,G,R,sr,g,q,kk⟩:=h;refine xg (a3M I hg hm hv ?_ hn hdb);refine PyProof.Rows.callWith_builtin1 (Calls.spliced_cons ?_);refine a0y hbase hline (dZ (ho pins s σ H (λvx H1=>Ts H H1/\∃x G1,RD X.K H1 x vx/\HR X.K H1 G1/\uH x G1 R) I ⟨ρ,G,_,sr,g,q,λv H1 x G1 t1 r1 g1 q1=>⟨t1,x,G1,r1,g1,q1⟩⟩) ?_);rintro v s1 ⟨vx,H1,I1,r1,t1,x1,G1,rx,g1,q1⟩;obtain⟨a,ps,rfl,e1,h64,hq⟩:=alO q1;cases rx;obtain rfl:v=aq.ref a:=r1;obtain⟨h1,h2,h3⟩:=a9N I1 (ao8 g1 e1);refine⟨"dict","dict.items",PySem.F.plainAttrs_dict,PySem.F.slot_dict_items,PySem.F.type_dict_items,h1,h2,Calls.callWith_builtin rfl (PySem.evalArgs_none ?_)⟩;rcases g1 a _ e1 with⟨_,ys,e2,tw⟩|⟨z,_⟩
 .obtain⟨z1,hsm,vs,kv,hd⟩:=a9M I1.hok e2;refine call_meetsIn PySem.F.slot_dict_items h1 PySem.F.entry_dict_items (PySem.F.args_dict_items_1 _) (meets_dict_items (aK X.prog X.w) a hsm) ⟨⟨vs,hd⟩,?_⟩;refine Calls.spliced_nil ?_;have I2:Inv X pins σ H1 {s1 with heap:=s1.heap.push {cls:=.type "dict_items",data:=.fields #[.ref a]},toks:=s1.toks}:=I1.kept λb o e=>cg _ e;exact alN (s:={s1 with heap:=s1.heap.push {cls:=.type "dict_items",data:=.fields #[.ref a]}}) hc I2 g1 e1 h64 ⟨_,iw _ rfl,rfl,rfl⟩ hq λv H' d G' t=>kk v H' d G' (t1.trans t)
 .cases z
def aiG:∀l:List Int,preSum (λi=>l.getD i 0) l.length=l.sum
 |[]=>rfl
 |x::l=>by
  rw[qb,kdu_shift,List.sum_cons,←aiG l];rfl
abbrev a04(x:D)(G:Gp)(R:iB):Prop:=match x with
 |.ref a=>(match G a with
  |some (.cF ao kvs)=>∃ps:List (Int×Int),kvs=ps.map rK/\R (.int (ps.map (·.2)).sum) G
  |_=>False)
 |_=>False
private theorem ar5{x:D}(h:a04 x G R):∃a,∃ps:List (Int×Int),x=.ref a/\G a=aj (.cF ao (ps.map rK))/\R (.int (ps.map (·.2)).sum) G:=by
 unfold a04 at h;split at h
 .split at h
  .rename_i e;obtain⟨ps,rfl,h1⟩:=h;exact⟨_,ps,rfl,e,h1⟩
  .exact h.elim
 .exact h.elim
abbrev afT(to:cJ):cJ:=λρ G R=>to ρ G λx G1=>a04 x G1 R
def aH7{apos cpos p:Pos}(hc:X.calm=ak)(ho:cO X o to)(hg:Gl X x)(hm:X.mg x=au)(hv:mz x=aj (.builtin "sum"))(hn:x≠"__name__")(hdb:(x==("__debug__":Str))=ao)
  (hbase:uh o "values" X.env (eval o X.env)=eval o X.env)(hline:(apos.endLine==cpos.line)=ak) :
  cO X (.Call (.Name x p) [.Call (.Attribute o "values" apos) [] [] cpos] [] pos) (afT to):=by
 intro pins s σ H Q I h;obtain⟨ρ,G,R,sr,g,q,kk⟩:=h;refine xg (a3M I hg hm hv ?_ hn hdb);refine PyProof.Rows.callWith_builtin1 (Calls.spliced_cons ?_);refine a0y hbase hline (dZ (ho pins s σ H (λvx H1=>Ts H H1/\∃x G1,RD X.K H1 x vx/\HR X.K H1 G1/\a04 x G1 R) I ⟨ρ,G,_,sr,g,q,λv H1 x G1 t1 r1 g1 q1=>⟨t1,x,G1,r1,g1,q1⟩⟩) ?_);rintro v s1 ⟨vx,H1,I1,r1,t1,x1,G1,rx,g1,q1⟩;obtain⟨a,ps,rfl,e1,hq⟩:=ar5 q1;cases rx;obtain rfl:v=aq.ref a:=r1;obtain⟨h1,h2,h3⟩:=a9N I1 (ao8 g1 e1);refine⟨"dict","dict.values",PySem.F.plainAttrs_dict,PySem.F.slot_dict_values,PySem.F.type_dict_values,h1,h2,Calls.callWith_builtin rfl (PySem.evalArgs_none ?_)⟩;rcases g1 a _ e1 with⟨_,ys,e2,tw⟩|⟨z,_⟩
 .have ey:=aaD tw;subst ey;obtain⟨z1,hsm,vs,kv,hd⟩:=a9M I1.hok e2;obtain⟨l1,l2,l3⟩:=a5G kv;refine call_meetsIn PySem.F.slot_dict_values h1 PySem.F.entry_dict_values (PySem.F.args_dict_values_1 _) (meets_dict_values (aK X.prog X.w) a hsm) ⟨⟨vs,hd⟩,?_⟩;refine Calls.spliced_nil ?_;obtain⟨o,es,ep,q1,q2,q3,q4,q5,q6⟩:=hd
  let oV:Obj:={cls:=.type "dict_values",data:=.fields #[.ref a]}
  have hat:(s1.heap.push oV).DictAt (aK X.prog X.w) a vs ep:=⟨o,es,cg _ q1,q2,q3,q4,q5,q6⟩;have hvw:(s1.heap.push oV).IsValuesView s1.heap.objs.size a:=⟨_,iw _ rfl,rfl,rfl⟩;refine call_sum_walkAnyS ?_;have KS:=kdl_values (prog:=X.prog) (w:=X.w) (knd:=aK X.prog X.w) (r:=s1.heap.objs.size) (d:=a) (kvs:=vs) (ep:=ep);obtain⟨oI,St,hit,W,st⟩:=KS.iter X.A.in1 {s1 with heap:=s1.heap.push oV} (I1.ok.hd hc) ⟨hvw,hat⟩;refine hit _ _ ⟨(s1.heap.push oV).objs.size,_,_,_,vs.length,_,_,(λi=>(ps.map (·.2)).getD i 0),rfl,W.toS,st,λb hb=>?_,?_,λs' t' hm=>?_⟩
  .show b<((s1.heap.push oV).push oI).objs.size;rw[size_push'];rcases jd.mp hb with e|hb
   .rw[e];exact Nat.lt_succ_self _
   .rw[qj.mp hb];exact a1i (KS.there _ ⟨hvw,hat⟩).2
  .intro i v hP;obtain⟨k,hk⟩:=hP;have hi:i<ps.length:=by rw[←l1];exact(jk.mp hk).1
   obtain⟨t,p4⟩:=l3 i ps[i] (gV hi);rw[p4]at hk;cases hk;refine⟨t,?_⟩;have:(ps.map (·.2)).getD i 0=ps[i].2:=by simp[su,hi]
   show aq.int ps[i].2 t=aq.int ((ps.map (·.2)).getD i 0) t;rw[this]
  .have hk:∀b o,s1.heap.get? b=aj o->s'.heap.get? b=aj o:=λb o e =>
    hm.heap b o (λhI=>absurd (gw e) (by have z:=qj.mp hI;rw[z];show ¬ (s1.heap.push oV).objs.size<_;rw[size_push'];exact Nat.not_lt.mpr (a0r _))) (cg _ (cg _ e))
   rw[Moved.eq_with hm];have e5:vs.length=(ps.map (·.2)).length:=by rw[gk,l1]
   rw[e5,aiG];exact⟨.int _,H1,I1.kept hk,⟨t',rfl⟩,kk _ H1 _ G1 t1 (.int _) g1 hq⟩
 .cases z
end
end
variable{M:List (List Key×bw)}
section
open PySem.W
variable{ps:List (Int×Int)}{r:Bool}
section
variable{prog:jt}{w:jj}{A:jx}{E:aq->cu->Prop}{s:cu}
abbrev aAM(prog:jt)(w:jj)(A:jx)(s:cu)(x y:aq)(b:Bool):Prop:=∀(E:aq->cu->Prop)(Q:Bool->cu->Prop),Q b s->dg (dw prog w) A (eqBool x y) Q E s
abbrev eqM(ps qs:List (Int×Int)):Bool:=ps.length==qs.length&&ps.all λp=>aL qs p.1==aj p.2
def ao9{i:Int}:∀qs:List (Int×Int),zN (qs.map λp=>((.inl p.1:Key),V.int p.2)) (.inl i)=(aL qs i).map V.int
 |[]=>rfl
 |q::qs=>by
  rw[iz];by_cases c:q.1=i
  .rw[zP (by rw[c])];show _=(if q.1=i then aj q.2 else aL qs i).map V.int;rw[if_pos c];rfl
  .rw[zQ (λz=>c (by simpa using z)),ao9 qs];show _=(if q.1=i then aj q.2 else aL qs i).map V.int;rw[if_neg c]
def a98{qs:List (Int×Int)}(hb:KV (qs.map λp=>((.inl p.1:Key),V.int p.2)) kb):∀{ps:List (Int×Int)}{ka:List (Key×aq)},KV (ps.map λp=>((.inl p.1:Key),V.int p.2)) ka->KeqHits A s kb ka (ps.all λp=>aL qs p.1==aj p.2)
 |[],_,.nil=>.nil
 |p::ps,v::ka,.cons h r=>by
  obtain⟨k,u⟩:=v;obtain⟨h1,t,h2⟩:=h;cases h1;cases h2;have ih:=a98 hb r;have vl:=KV.val hb (.inl p.1);rw[ao9]at vl;rw[zj];cases e:aL qs p.1 with
  |none =>
   rw[e]at vl
   have e2:valueAt kb (.inl p.1)=au:=by
    cases z:valueAt kb (.inl p.1)with
    |none=>rfl
    |some y=>rw[z]at vl;exact vl.elim
   exact .miss e2
  |some y =>
   rw[e]at vl;cases z:valueAt kb (.inl p.1)with
   |none=>rw[z]at vl;exact vl.elim
   |some u =>
    rw[z]at vl;obtain⟨t',e3⟩:∃t',u=aq.int y t':=vl;subst e3
    have eb:((aj y:Option Int)==aj p.2)=(p.2==y):=by
     show(y==p.2)=_;exact a2o.mpr ⟨λz=>beq_iff_eq.mpr (beq_iff_eq.mp z).symm,λz=>beq_iff_eq.mpr (beq_iff_eq.mp z).symm⟩
    rw[eb];exact .hit z ((MeetsSeq.EqGives.int _ _ _ _).at _ _) ih
def aAN{qs:List (Int×Int)}(ha:(a==qd)=ao)(hb:(b==qd)=ao)(da:s.heap.DictOf (aK prog w) a ka)(db:s.heap.DictOf (aK prog w) b kb)(va:KV (ps.map λp=>((.inl p.1:Key),V.int p.2)) ka)(vb:KV (qs.map λp=>((.inl p.1:Key),V.int p.2)) kb)(hu:A.units<jr)(sm:a=b->eqM ps qs=ak):aAM prog w A s (.ref a) (.ref b) (eqM ps qs):=by
 intro E Q hq;unfold eqBool;refine qp ?_;show dg _ _ (if(aq.ref a==aq.ref b)=ak then _ else _) Q E s;by_cases c:(aq.ref a==aq.ref b)=ak
 .rw[if_pos c];have e:a=b:=by have:=eq_of_beq c;injection this
  rw[sm e]at hq;exact bh (zq (cj hq))
 .rw[if_neg c];refine bh (show dg _ _ (jg .Eq (.ref a) (.ref b)) _ _ _ from keq_eq ha hb da db hu (λ_=>a98 vb va) ?_);have l1:=(a5G va).1;have l2:=(a5G vb).1;rw[l1,l2];exact yg hq
section
variable{κ:Type}[DecidableEq κ]{knd:HeapKind prog w κ}
inductive yR(prog:jt)(w:jj)(A:jx)(s:cu)(xb:List (κ×bw×aq)):List (κ×bw×aq)->Bool->Prop
 |nil:yR prog w A s xb [] ak
 |miss {k:κ} {p:bw×aq} {r:List (κ×bw×aq)}:atKey xb k=au->yR prog w A s xb ((k,p)::r) ao
 |hit {k:κ} {p q:bw×aq} {r:List (κ×bw×aq)} {e b:Bool}:atKey xb k=aj q->aAM prog w A s p.2 q.2 e->yR prog w A s xb r b->yR prog w A s xb ((k,p)::r) (e&&b)
def yR.inv{k:κ}{p:bw×aq}{r:List (κ×bw×aq)}{b:Bool}(h:yR prog w A s xb ((k,p)::r) b) :
  (atKey xb k=au/\b=ao)∨∃q e b',atKey xb k=aj q/\aAM prog w A s p.2 q.2 e/\yR prog w A s xb r b'/\b=(e&&b'):=by
 cases h with
 |miss z=>exact .inl ⟨z,rfl⟩
 |hit z y x=>exact .inr ⟨_,_,_,z,y,x,rfl⟩
private theorem aiH{nm:String}{xa xb:List (κ×bw×aq)}(na:(a==qd)=ao)(nb:(b==qd)=ao)(da:s.heap.DictOfH knd a xa)(db:s.heap.DictOfH knd b xb)(hu:knd.room A)
  (hits:xa.length=xb.length->yR prog w A s xb xa r)(h:Q (xa.length==xb.length&&r) s):dg (dw prog w) A (Builtin.Dict.samePairs nm a b) Q E s:=by
 obtain⟨o1,es,ep,g1,_,g3,g4,g5,g6⟩:=da;obtain⟨o2,fs,fp,f1,_,f3,f4,f5,f6⟩:=db;have la:xa.length=es.size:=(size_of_entries g4).symm;have lb:xb.length=fs.size:=(size_of_entries f4).symm;rw[la,lb]at h;unfold Builtin.Dict.samePairs Builtin.Dict.showsAll;rw[if_neg (by rw[na];decide),if_neg (by rw[nb];decide)];refine bh (cj (bh (cj (bh (vp g1 g3 ?_)))));dsimp only;refine bh (vp f1 f3 ?_);by_cases sz:es.size=fs.size
 case neg =>
  rw[if_pos (by simpa using sz)];rw[show(es.size==fs.size)=ao by simpa using sz,Bool.false_and]at h;exact bh (zq (cj h))
 case pos =>
  have hr:Q r s:=by simpa[sz]using h
  have ht:=hits (by rw[la,lb];exact sz);rw[if_neg (by rw[sz];simp)];refine bh (wpAny_dictEpoch g1 g3 (bh ?_));rw[Std.Legacy.Range.forIn_eq_forIn_range'];simp only[Std.Legacy.Range.size,Nat.sub_zero,Nat.add_sub_cancel,Nat.div_one];refine wpAny_forIn_list _ (λrest q s'=>s'=s/\q=(au,())/\∃i,rest=List.range' i (es.size - i)/\i<=es.size/\yR prog w A s xb (xa.drop i) r) _ ?_ ?_ _ _ ⟨rfl,rfl,0,by simp,ur _,ht⟩
  .rintro x rest q s' ⟨rfl,rfl,i,e1,i1,pre⟩
   have lt:i<es.size:=by
    rcases Nat.lt_or_ge i es.size with z|z
    .exact z
    .rw[Nat.sub_eq_zero_of_le z]at e1;simp at e1
   obtain⟨rfl,e2⟩:x=i/\rest=List.range' (i+1) (es.size - (i+1)):=by
    rw[show es.size - i=(es.size - (i+1))+1 by omega,List.range'_succ]at e1;injection e1 with z1 z2;exact⟨z1,z2⟩
   refine bh (vp g1 g3 ?_);have lx:x<xa.length:=by rw[la];exact lt
   have en:es[x]?=aj (entryOfKey knd xa[x]):=by rw[entry_at g4 x,gV lx];rfl
   rw[en];obtain⟨k,p,kp⟩:∃k p,xa[x]=(k,p):=⟨_,_,rfl⟩;have dr:xa.drop x=(k,p)::xa.drop (x+1):=by rw[←kp];exact a1z lx
   have hk:knd.is s'.heap k p.1:=by have:=g5 xa[x] (ux lx);rw[kp]at this;exact this
   rw[dr]at pre;rw[kp];show dg _ _ (holding [aq.ref p.1,p.2] _ >>= _) _ _ _;refine bh (qp (bh ?_));refine wpAny_dictFind_heap hu hk f1 f3 f4 f5 f6 (λno=>?_) λj q2 hj=>?_
   .have z:=atKey_none_of_get no;rcases pre.inv with⟨_,er⟩|⟨_,_,_,hy,_⟩
    .rw[er]at hr;refine cj ?_;show dg _ _ (if(!false)=ak then _ else _) _ _ _;rw[if_pos (by decide)];exact cj (cj hr)
    .rw[z]at hy;cases hy
   .have z:=atKey_of_get f6 hj;refine bh (vp f1 f3 ?_);rw[entry_at f4 j,hj];rcases pre.inv with⟨hn,_⟩|⟨q3,e,b',hy,he,hrr,er⟩
    .rw[z]at hn;cases hn
    .rw[z]at hy;cases hy;refine qp (he _ _ ?_);cases e with
     |false =>
      rw[er,Bool.false_and]at hr;show dg _ _ (if(!false)=ak then _ else _) _ _ _;rw[if_pos (by decide)];exact cj (cj hr)
     |true =>
      rw[Bool.true_and]at er;rw[←er]at hrr;show dg _ _ (if(!true)=ak then _ else _) _ _ _;rw[if_neg (by decide)];refine bh (wpAny_dictEpoch g1 g3 ?_);rw[if_neg (by simp)];exact cj ⟨rfl,rfl,x+1,e2,lt,hrr⟩
  .rintro q s' ⟨rfl,rfl,i,e1,i1,pre⟩
   have en:i=es.size:=by
    rcases Nat.lt_or_ge i es.size with z|z
    .rw[show es.size - i=(es.size - (i+1))+1 by omega,List.range'_succ]at e1;cases e1
    .exact Nat.le_antisymm i1 z
   refine cj ?_;rw[en,←la,List.drop_length]at pre;cases pre;exact hr
def gC(h:s.heap.DictOfH knd d xs):s.TypeIs (.ref d) "dict":=let⟨o,_,_,h1,h2,_⟩:=h;⟨o,h1,h2.1⟩
def aH8{xa xb:List (κ×bw×aq)}(na:(a==qd)=ao)(nb:(b==qd)=ao)(da:s.heap.DictOfH knd a xa)(db:s.heap.DictOfH knd b xb)(hu:A.units<jr)(hr:knd.room A.in1)
  (hits:xa.length=xb.length->yR prog w A.in1 s xb xa r)(h:Q (.bool (xa.length==xb.length&&r)) s):dg (dw prog w) A (jg .Eq (.ref a) (.ref b)) Q E s:=by
 refine wpAny_richCompare_same_room (op:=.Eq) (gC da) (gC db) PySem.F.slot_dict_eq (xq PySem.F.slot_dict_eq (gC da) PySem.F.entry_dict_eq ?_ (PySem.F.args_dict_eq_2 _ _)) hu;show dg _ _ (Builtin.Dict.dictSlotArgs "__eq__" ⟨[.ref a,.ref b],[]⟩ >>= _) _ _ s;refine bh ?_;unfold Builtin.Dict.dictSlotArgs;refine bh (wpAny_notOrdered_dict (gC da) ?_);show dg _ _ (pure (aq.ref a,aq.ref b)) _ _ s;refine cj (bh (wpAny_isInstance (T:="dict") (gC db) PySem.F.sub_dict_dict ?_));simp only[a1d,qe,if_false];refine bh (cj (bh (cj (bh (aiH na nb da db hr hits (cj ⟨_,rfl,(λx=>nomatch x),?_⟩))))));simpa using h
def tup_ne{xa xb:List (κ×bw×aq)}(na:(a==qd)=ao)(nb:(b==qd)=ao)(da:s.heap.DictOfH knd a xa)(db:s.heap.DictOfH knd b xb)(hu:A.units<jr)(hr:knd.room A.in1)
  (hits:xa.length=xb.length->yR prog w A.in1 s xb xa r)(h:Q (.bool (!(xa.length==xb.length&&r))) s):dg (dw prog w) A (jg .NotEq (.ref a) (.ref b)) Q E s:=by
 refine wpAny_richCompare_same_room (op:=.NotEq) (gC da) (gC db) PySem.F.slot_dict_ne (xq PySem.F.slot_dict_ne (gC da) PySem.F.entry_dict_ne ?_ (PySem.F.args_dict_ne_2 _ _)) hu;show dg _ _ (Builtin.Dict.dictSlotArgs "__ne__" ⟨[.ref a,.ref b],[]⟩ >>= _) _ _ s;refine bh ?_;unfold Builtin.Dict.dictSlotArgs;refine bh (wpAny_notOrdered_dict (gC da) ?_);show dg _ _ (pure (aq.ref a,aq.ref b)) _ _ s;refine cj (bh (wpAny_isInstance (T:="dict") (gC db) PySem.F.sub_dict_dict ?_));simp only[a1d,qe,if_false];refine bh (cj (bh (cj (bh (aiH na nb da db hr hits (cj ⟨_,rfl,(λx=>nomatch x),?_⟩))))));simpa using h
end
end
def ar6(nd:(ps.map (·.1)).Nodup):∀p∈ps,aL ps p.1=aj p.2:=by
 induction ps with
 |nil=>intro p hp;cases hp
 |cons q ps ih =>
  intro p hp;rw[iz,wj]at nd;show(if q.1=p.1 then aj q.2 else aL ps p.1)=_;rcases jd.mp hp with rfl|hp
  .rw[if_pos rfl]
  .rw[if_neg]
   .exact ih nd.2 p hp
   .intro e;exact nd.1 (by rw[e];exact List.mem_map_of_mem hp)
def av8(nd:(ps.map (·.1)).Nodup):eqM ps ps=ak:=by
 unfold eqM;rw[beq_self_eq_true,Bool.true_and,jy];intro p hp;rw[ar6 nd p hp];exact beq_self_eq_true _
abbrev ktD(z:List Key×bw):DK×D:=(.inr z.1,.ref z.2)
abbrev eqT(c:bw->List (Int×Int))(M N:List (List Key×bw)):Bool:=M.length==N.length&&M.all λz=>match aL N z.1 with
 |some y=>eqM (c z.2) (c y)
 |none=>ao
def av9{K:Fg}:∀{M:List (List Key×bw)}{ys:List (List Key×V)},vI K H .inr (M.map ktD) ys->ys=M.map λz=>(z.1,.ref z.2)
 |[],_,.nil=>rfl
 |z::M,y::ys,.cons h r=>by
  obtain⟨k,v⟩:=y;obtain⟨h1,h2⟩:=h
  have e1:z.1=k:=by
   have:(Sum.inr z.1:DK)=.inr k:=h1;exact mU _ _ this
  cases h2;rw[av9 r,←e1];rfl
def kt_len:∀{M:List (List Key×bw)}{xs:List (List Key×bw×aq)},KT H (M.map λz=>(z.1,V.ref z.2)) xs->xs.length=M.length
 |[],_,.nil=>rfl
 |_::_,_::_,.cons _ r=>by rw[qb,qb,kt_len r]
def kt_at{k:List Key}:∀{M:List (List Key×bw)}{xs:List (List Key×bw×aq)},KT H (M.map λz=>(z.1,V.ref z.2)) xs->(match aL M k with
  |some y=>∃b,atKey xs k=aj (b,aq.ref y)
  |none=>atKey xs k=au)
 |[],_,.nil=>rfl
 |z::M,x::xs,.cons h r=>by
  obtain⟨k2,b,u⟩:=x;obtain⟨h1,_,h3⟩:=h;cases h1;obtain rfl:u=aq.ref z.2:=h3;have ih:=kt_at (k:=k) r;unfold aL;by_cases c:z.1=k
  .rw[if_pos c];exact⟨b,by simp[atKey,c]⟩
  .rw[if_neg c];have e:atKey ((z.1,b,aq.ref z.2)::xs) k=atKey xs k:=by simp[atKey,a0i,c]
   rw[e];exact ih
def aoA{prog:jt}{w:jj}{A:jx}{s:cu}{H:Hp}{c:bw->List (Int×Int)}{N:List (List Key×bw)}{xb:List (List Key×bw×aq)}(hb:KT H (N.map λz=>(z.1,V.ref z.2)) xb)  :
  ∀{M:List (List Key×bw)}{xa:List (List Key×bw×aq)},KT H (M.map λz=>(z.1,V.ref z.2)) xa->(∀z∈M,∀y,aL N z.1=aj y->aAM prog w A s (.ref z.2) (.ref y) (eqM (c z.2) (c y)))->yR prog w A s xb xa (M.all λz=>match aL N z.1 with
   |some y=>eqM (c z.2) (c y)
   |none=>ao)
 |[],_,.nil,_=>.nil
 |z::M,x::xa,.cons h r,he=>by
  obtain⟨k2,b,u⟩:=x;obtain⟨h1,_,h3⟩:=h;cases h1;obtain rfl:u=aq.ref z.2:=h3;have ih:=aoA hb r λz hz=>he z (ou _ hz);have at1:=kt_at (k:=z.1) hb;have e0:=he z (wu ..);rw[zj];cases e:aL N z.1 with
  |none=>rw[e]at at1;exact .miss at1
  |some y =>
   rw[e]at at1;obtain⟨b2,at2⟩:=at1;exact .hit at2 (e0 y e) ih
def aiI{k:List Key}(h:aL M k=aj y):(k,y)∈M:=by
 induction M with
 |nil=>cases h
 |cons z M ih =>
  unfold aL at h;by_cases c:z.1=k
  .rw[if_pos c]at h;cases h;rw[←c];exact wu ..
  .rw[if_neg c]at h;exact ou _ (ih h)
variable{s:cu}
section
variable{X:Cx}
def aoB(I:Inv X pins σ H s)(g:HR X.K H G)(e:G a=aj (.cF ao (ps.map rK))):(a==qd)=ao/\(ps.map (·.1)).Nodup/\∃ka,KV (ps.map λp=>((.inl p.1:Key),V.int p.2)) ka/\s.heap.DictOf (aK X.prog X.w) a ka:=by
 rcases g a _ e with⟨_,ys,e1,tw⟩|⟨z,_⟩
 .have ey:=aaD tw;subst ey;obtain⟨z1,hsm,vs,kv,hd⟩:=a9M I.hok e1;refine⟨hsm,?_,vs,kv,hd⟩;have l2:=(a5G kv).2.1;obtain⟨o,es,ep,q1,q2,q3,q4,q5,q6⟩:=hd;rw[l2]at q6;exact a0a.mpr ((a0a.mp q6).imp λh z=>h (by rw[z]))
 .cases z
def aoC(I:Inv X pins σ H s)(g:HR X.K H G)(e:G a=aj (.cF ak (M.map ktD))):(a==qd)=ao/\∃xa,KT H (M.map λz=>(z.1,V.ref z.2)) xa/\s.heap.DictOfH (a1f (aK X.prog X.w)) a xa:=by
 rcases g a _ e with⟨z,_⟩|⟨_,ys,e1,tw⟩
 .cases z
 .have ey:=av9 tw;subst ey;obtain⟨z1,hsm,xs,kt,hd⟩:=ah9 I.hok e1;exact⟨hsm,xs,kt,hd⟩
abbrev aDJ(neg:Bool):R3:=λx y G R =>
 (∃a b,∃ps qs:List (Int×Int),x=.ref a/\y=.ref b/\G a=aj (.cF ao (ps.map rK))/\G b=aj (.cF ao (qs.map rK))/\R (.bl (neg ^^ eqM ps qs)) G) ∨
 ∃a b,∃M N:List (List Key×bw),∃c:bw->List (Int×Int),x=.ref a/\y=.ref b/\G a=aj (.cF ak (M.map ktD))/\G b=aj (.cF ak (N.map ktD))/\(∀z∈M++N,G z.2=aj (.cF ao ((c z.2).map rK)))/\R (.bl (neg ^^ eqT c M N)) G
def aN2(hu:X.A.units+64<jr):nH X (jg (if neg then .NotEq else .Eq)) (aDJ neg):=zX λpins s σ H x y vx vy u v G R Q I rx ry ru rv g q k=>by
 have in1:X.A.in1.units=X.A.units+1:=rfl;rcases q with⟨a,b,ps,qs,rfl,rfl,e1,e2,q⟩|⟨a,b,M,N,c,rfl,rfl,e1,e2,hc,q⟩
 .cases rx;cases ry;obtain rfl:u=aq.ref a:=ru;obtain rfl:v=aq.ref b:=rv;obtain⟨n1,_,ka,va,da⟩:=aoB I g e1;obtain⟨n2,_,kb,vb,db⟩:=aoB I g e2;have l1:=(a5G va).1;have l2:=(a5G vb).1;have fin:∀bb:Bool,bb=(neg ^^ eqM ps qs)->EP X pins σ Q (.bool bb) s:=λbb eb=>⟨.bl bb,H,I,rfl,k _ H (.bl bb) G (.refl H) (.bl _) g (by rw[eb];exact q)⟩;cases neg with
  |false=>exact keq_eq n1 n2 da db (by omega) (λ_=>a98 vb va) (fin _ (by rw[l1,l2];simp[eqM]))
  |true=>exact keq_ne n1 n2 da db (by omega) (λ_=>a98 vb va) (fin _ (by rw[l1,l2];simp[eqM]))
 .cases rx;cases ry;obtain rfl:u=aq.ref a:=ru;obtain rfl:v=aq.ref b:=rv;obtain⟨n1,xa,va,da⟩:=aoC I g e1;obtain⟨n2,xb,vb,db⟩:=aoC I g e2;have l1:=kt_len va;have l2:=kt_len vb;have fin:∀bb:Bool,bb=(neg ^^ eqT c M N)->EP X pins σ Q (.bool bb) s:=λbb eb=>⟨.bl bb,H,I,rfl,k _ H (.bl bb) G (.refl H) (.bl _) g (by rw[eb];exact q)⟩
  have hits:=aoA (prog:=X.prog) (w:=X.w) (A:=X.A.in1) (s:=s) (c:=c) vb va λz hz y hy=>by
   obtain⟨m1,nd1,k1,w1,d1⟩:=aoB I g (hc z (a1p _ hz));obtain⟨m2,nd2,k2,w2,d2⟩:=aoB I g (hc _ (qz _ (aiI hy)));exact aAN m1 m2 d1 d2 w1 w2 (by omega) λe=>by rw[e];exact av8 nd2
  cases neg with
  |false=>exact aH8 n1 n2 da db (by omega) (show X.A.in1.units<jr by omega) (λ_=>hits) (fin _ (by rw[l1,l2];simp[eqT]))
  |true=>exact tup_ne n1 n2 da db (by omega) (show X.A.in1.units<jr by omega) (λ_=>hits) (fin _ (by rw[l1,l2];simp[eqT]))
end
end
section
open PySem.W
section
abbrev wF:RM3:=λx xs G R=>match x,xs with
 |.ref q,[.bl b]=>(match bH G q with
  |some ds=>ds.all auE=ak/\∃j:Nat,ds[j]?=aj (.bl b)/\(∀m,m<j->ds[m]?≠aj (.bl b))/\R (.int j) G
  |none=>False)
 |_,_=>False
private theorem aiJ:a8K X "list.index" wF:=λpins s σ H x xs vx vs u us G R Q I rx rs ru rv g q k=>by
 have big:dh<2^62:=by decide
 unfold wF at q;split at q
 .rename_i a b;split at q
  .rename_i ds e1;obtain⟨ab,j,h1,h2,q⟩:=q;cases rx;obtain rfl:u=aq.ref a:=ru;cases rs with
   |cons r1 rr =>
   cases rr;cases r1;obtain⟨u2,rfl,ru2⟩:=vals1 rv;obtain rfl:u2=aq.bool b:=ru2;obtain⟨ws,hq,r1⟩:=cC g e1;obtain⟨its,rv',pl,hz⟩:=I.list hq;have len:its.length=ds.length:=by rw[←rv'.length,←r1.length]
   have lw:ds.length=ws.length:=r1.length;have jl:j<ds.length:=(jk.mp h1).1;have at1:∀m (hm:m<its.toArray.size),its.toArray[m]=aq.bool (trN ds m):=λm hm=>aqV r1 rv' ab (i:=m) (by rw[gV (by simpa using hm)];simp)
   have tr:∀m,m<ds.length->(trN ds m=b↔ds[m]?=aj (.bl b)):=λm hm=>by
    have hb:auE ds[m]=ak:=jy.mp ab _ (ux hm);unfold trN;rw[gV hm];cases z:ds[m]with
    |bl c=>simp[auF]
    |_=>rw[z]at hb;cases hb
   obtain⟨o,n,p1,p2,p3,p4⟩:=pl;have hT:s.TypeIs (.ref a) "list":=⟨o,p1,p2⟩;have hobj:s.heap.get? a=aj {cls:=.type "list",dict:=o.dict,data:=.seq its.toArray n,slots:=o.slots}:=by rw[p1];cases o;simp_all
   refine call_meets PySem.F.slot_list_index hT PySem.F.entry_list_index (PySem.F.args_list_index_2 _ _) (SeqAt.list_indexAt a its.toArray n o.dict o.slots (.bool b) (λv=>match v with|.bool c=>PyData.eqv (.bool c) (.bool b)|_=>ao) j (by simpa[len]using jl) (by omega) ?_ ?_) ⟨hobj,?_,⟨.int j,H,I.tok _,⟨_,rfl⟩,k _ H _ G (.refl H) (.int _) g q⟩⟩
   .rw[at1 j (by simpa[len]using jl),(tr j jl).mpr h1];cases b<;>rfl
   .intro m hm hlt;have hm2:m<ds.length:=by rw[←len];simpa using hm
    rw[at1 m hm];have ne:trN ds m≠b:=λz=>h2 m hlt ((tr m hm2).mp z);cases c:trN ds m<;>cases b<;>first|rfl|exact absurd c ne
   .intro y hy;obtain⟨m,hm,rfl⟩:=Array.mem_iff_getElem.mp hy;rw[at1 m hm];exact keq_flat (PyProof.V.Flat.bool _) (PyProof.V.Flat.bool _)
  .exact q.elim
 .exact q.elim
end
end
variable{es en:Array a0q}{ep:Nat}{al:Bool}
section
open PySem.W
structure Fz(X:Cx)(p:bw):Prop where
 free:∀ob,X.s₀.heap.get? p=aj ob->X.H₀ p=au->p∈X.ex
 tup:∀xs,X.H₀ p≠aj (.tup xs)
 jD:∀o w,X.H₀ p≠aj (.jD o w)
 tbl:∀ps,X.H₀ p≠aj (.tbl ps)
section
variable{pins:List (bw×Obj)}
def Fz.of(I:Inv X pins σ H s)(hu:H p=aj u)(h1:∀xs,u≠.tup xs)(h2:∀ob w,u≠.jD ob w)(h3:∀ps,u≠.tbl ps):Fz X p:=by
 refine⟨λob q n=>?_,λxs q=>?_,λo w q=>?_,λps q=>?_⟩
 .apply Classical.byContradiction;intro hx;have:=I.base.free p ob q n hx;rw[hu]at this;cases this
 .have:=I.base.tups p xs q;rw[hu]at this;exact h1 xs (jf.inj this)
 .have:=I.base.mQ p o w q;rw[hu]at this;exact h2 o w (jf.inj this)
 .obtain⟨more,this⟩:=I.base.zJ p ps q;rw[hu]at this;exact h3 _ (jf.inj this)
end
section
variable{X:Cx}{pins:List (bw×Obj)}{s:cu}
def Inv.freeze(I:Inv X pins σ H s)(hu:H a=aj u)(h1:∀xs,u≠.tup xs)(h2:∀ob w,u≠.jD ob w)(h3:∀ps,u≠.tbl ps)(h4:∀x,u≠.own x)(ho:s.heap.get? a=aj o):Inv X pins σ (upd H a (.jD o u)) s:=by
 have ne:∀{b:bw}{v:HO},H b=aj v->v≠u->b≠a:=λe n z=>by subst z;rw[hu]at e;exact n (jf.inj e).symm
 have no:∀{b:bw},H b=au->upd H a (.jD o u) b=au:=λ{b} e=>by
  rw[bA];exact e;intro z;subst z;rw[hu]at e;cases e
 have kt:∀b xs,H b=aj (.tup xs)->upd H a (.jD o u) b=aj (.tup xs):=λb xs q=>by rw[bA (ne q λz=>h1 xs z.symm)];exact q
 have kf:∀b ob w,H b=aj (.jD ob w)->upd H a (.jD o u) b=aj (.jD ob w):=λb ob w q=>by rw[bA (ne q λz=>h2 ob w z.symm)];exact q
 have ko:∀b x,H b=aj (.own x)->upd H a (.jD o u) b=aj (.own x):=λb x q=>by rw[bA (ne q λz=>h4 x z.symm)];exact q
 refine⟨I.ok,I.os,I.bare,⟨I.base.keep,I.base.slot,λb ob q n hx=>no (I.base.free b ob q n hx),I.base.there,λb xs q=>kt b xs (I.base.tups b xs q),λb ob w q=>kf b ob w (I.base.mQ b ob w q),λb ps q=>?_⟩,I.loc,I.cell,no I.free,λx c e=>no (I.pL x c e),λp hp=>?_,λb v e=>?_,I.len,I.hnd.mono kf,λp hp=>kt _ _ (I.tup p hp)⟩
 .obtain⟨more,e⟩:=I.base.zJ b ps q;exact⟨more,by rw[bA (ne e λz=>h3 _ z.symm)];exact e⟩
 .obtain⟨z1,z2,z3⟩:=I.pin p hp;exact⟨z1,no z2,z3⟩
 .by_cases hb:b=a
  .subst hb;rw[aM]at e;obtain rfl:=jf.inj e;exact⟨ho,(I.hok b u hu).stay (λ_ _ _ q=>q) (λc q=>ko c _ q) λc xs q=>kt c xs q⟩
  .rw[bA hb]at e;exact(I.hok b v e).stay (λ_ _ _ q=>q) (λc q=>ko c _ q) λc xs q=>kt c xs q
def aH9(r:KV ys vs):∀{i:Nat}{k:Key}{y:V},ys[i]?=aj (k,y)->∃u,vs[i]?=aj (k,u)/\RelV y u:=by
 induction r with
 |nil=>intro i k y e;simp at e
 |@cons p q _ _ h _ ih =>
  intro i k y e;cases i with
  |zero =>
   simp only[a0c,jf.injEq]at e;subst e;obtain⟨q1,q2⟩:=q;obtain⟨h1,h2⟩:=h;exact⟨q2,by simp only[a0c];rw[show q1=k from h1.symm],h2⟩
  |succ i=>simpa using ih (by simpa using e)
def aAO{k:Key}{key:aq}(h:a4Q k key=ak):RelV (kV k) key:=by
 rcases d9 h with⟨i,t,e1,e2⟩|⟨i,t,e1,e2⟩
 .subst e1;exact⟨t,e2⟩
 .subst e1;exact⟨t,e2⟩
def avA{od:Obj}(I:Inv X pins σ H s)(hd:od.data=.dict es ep)(hq:H a=aj (.jD od (.dK ys))) :
  ∃vs,KV ys vs/\s.heap.DictAt (aK X.prog X.w) a vs ep/\vs.length=es.size/\(a==qd)=ao:=by
 obtain⟨hod,_⟩:=(show s.heap.get? a=aj od/\_ from I.hok a _ hq);obtain⟨_,hsm,vs,kv,o1,es1,ep1,g1,g2,g3,g4,g5,g6⟩:=a2L I.hok (.inr ⟨od,hq⟩);rw[hod]at g1;obtain rfl:=jf.inj g1;rw[hd]at g3;injection g3 with e1 e2;subst e1 e2;exact⟨vs,kv,⟨od,es,hod,g2,hd,g4,g5,g6⟩,by rw[←g5.length];simp,hsm⟩
end
def avB{K:Fg}:∀k:Key,RD K H (kD k) (kV k)
 |.inl i=>.int i
 |.inr x=>.str x
def aiK{K:Fg}:∀ks:List Key,dB K H (ks.map kD) (ks.map kV)
 |[]=>.nil
 |k::ks=>.cons (avB k) (aiK ks)
def aoD{α β:Type}{P:α->β->Prop}{as:List α}{bs:List β}(t:Two P as bs):∀{i:Nat}{b:β},bs[i]?=aj b->∃a,as[i]?=aj a/\P a b:=by
 induction t with
 |nil=>intro i b e;simp at e
 |@cons a b _ _ h _ ih =>
  intro i c e;cases i with
  |zero=>simp only[a0c,jf.injEq]at e;subst e;exact⟨a,rfl,h⟩
  |succ i=>simpa using ih (by simpa using e)
section
end
abbrev Itk(a:bw)(od:Obj):It :=
 ⟨λi H=>∃ys:List (Key×V),H a=aj (.jD od (.dK ys))/\i<ys.length,
  λi H v H'=>H'=H/\∀ys,H a=aj (.jD od (.dK ys))->∃k y,ys[i]?=aj (k,y)/\v=kV k,
  λi H=>∃ys:List (Key×V),H a=aj (.jD od (.dK ys))/\ys.length<=i⟩
abbrev Itq(a:bw)(od:Obj):It :=
 ⟨λi H=>∃ys:List (List Key×V),H a=aj (.jD od (.dT ys))/\i<ys.length,
  λi H v H'=>H'=H/\∀ys,H a=aj (.jD od (.dT ys))->∃ks y q,ys[i]?=aj (ks,y)/\v=.ref q/\H q=aj (.tup (ks.map kV)),
  λi H=>∃ys:List (List Key×V),H a=aj (.jD od (.dT ys))/\ys.length<=i⟩
section
variable{pins:List (bw×Obj)}{s:cu}
variable{od:Obj}
def aiL{ys:List (Key×V)}(I:Inv X pins σ H s)(hd:od.data=.dict es ep)(hq:H a=aj (.jD od (.dK ys))) :
  qZ s.heap a es ep/\es.size=ys.length/\∀(i:Nat)(k:Key)(y:V),ys[i]?=aj (k,y)->∃e:a0q,es[i]?=aj e/\RelV (kV k) e.key:=by
 obtain⟨vs,kv,hm,hn,_⟩:=avA I hd hq;obtain⟨od',es',h1,h2,h3,h4,h5,h6⟩:=hm;obtain⟨hod,_⟩:=(show s.heap.get? a=aj od/\_ from I.hok a _ hq);rw[hod]at h1;obtain rfl:=jf.inj h1;rw[hd]at h3;injection h3 with e1 e2;subst e1;refine⟨⟨od,hod,h2,hd⟩,by rw[←hn];exact(Paired.length kv).symm,λi k y e=>?_⟩;obtain⟨u,hu,_⟩:=aH9 kv e;have lt:i<es.size:=by rw[←hn];exact(jk.mp hu).1
 obtain⟨hkey,_⟩:=h5.get? (e:=es[i]) (by simp[lt]) hu;exact⟨es[i],by simp[lt],aAO hkey⟩
def aHA(r:KT H ys xs):∀{i:Nat}{ks:List Key}{y:V},ys[i]?=aj (ks,y)->∃q u,xs[i]?=aj (ks,q,u)/\H q=aj (.tup (ks.map kV)):=by
 induction r with
 |nil=>intro i k y e;simp at e
 |@cons p q _ _ h _ ih =>
  intro i ks y e;cases i with
  |zero =>
   simp only[a0c,jf.injEq]at e;subst e;obtain⟨q1,q2,q3⟩:=q;obtain⟨h1,h2,h3⟩:=h;obtain rfl:ks=q1:=h1;exact⟨q2,q3,rfl,h2⟩
  |succ i=>simpa using ih (by simpa using e)
def ae0{ys:List (List Key×V)}(I:Inv X pins σ H s)(hd:od.data=.dict es ep)(hq:H a=aj (.jD od (.dT ys))) :
  qZ s.heap a es ep/\es.size=ys.length/\∀(i:Nat)(ks:List Key)(y:V),ys[i]?=aj (ks,y)->∃(e:a0q)(q:bw),es[i]?=aj e/\e.key=aq.ref q/\H q=aj (.tup (ks.map kV)):=by
 obtain⟨hod,_⟩:=(show s.heap.get? a=aj od/\_ from I.hok a _ hq);obtain⟨_,hsm,xs,kt,o1,es1,ep1,g1,g2,g3,g4,g5⟩:=a2M I.hok (.inr ⟨od,hq⟩);rw[hod]at g1;obtain rfl:=jf.inj g1;rw[hd]at g3;injection g3 with e1 e2;subst e1;have hl:es.size=xs.length:=by rw[←vf,g4,gk]
 refine⟨⟨od,hod,g2,hd⟩,by rw[hl];exact(Paired.length kt).symm,λi ks y e=>?_⟩;obtain⟨q,u,hx,hh⟩:=aHA kt e;refine⟨entryOfKey (a1f (aK X.prog X.w)) (ks,q,u),q,?_,rfl,hh⟩;rw[←a0l,g4,vm,hx];rfl
end
def ar7(aHB:cm=ak){w:jj}{K:Fg}{od:Obj}(hd:od.data=.dict en ep) :
  Turn cm tl P w K tg (Itk a od) [it] it (λi h=>h.IsKeyIter it a i en.size ep) where
 mem:=by simp
 obj:=λi h st b hb=>by
  have e:b=it:=by simpa using hb
  subst e;obtain⟨o,e,c,d⟩:=st;exact⟨o,e,λv z=>by rw[d]at z;cases z⟩
 keep:=λi h h' st k=>st.at λo e=>k it (by simp) o e
 item:=by
  intro X hP hw hK hcm ht i pins s σ H E I hf st hg;subst hP hw hK;obtain⟨ys,hq,hi⟩:=hg;obtain⟨hm,hn,hk⟩:=aiL I hd hq;have hx:ys[i]?=aj (ys[i].1,ys[i].2):=gV hi;obtain⟨e,he,rk⟩:=hk i _ _ hx;obtain⟨f0,f1,f2,f3,f4,f5⟩:=hf it (by simp);refine a97 st hm he λh' st' sb=>?_;have I1:Inv X pins σ H {s with heap:=h' }:=I.turned (t':=s.toks) (λb o hb e=>(sb.2 b hb).trans e) f0 f1 f3 f4 f5;obtain⟨o,e,c,d⟩:=id st';exact⟨_,rfl,a7O (s:={s with heap:=h' }) e c d (by decide) ⟨kV ys[i].1,H,I1,rk,⟨rfl,λzs z=>by rw[hq]at z;cases z;exact⟨_,_,hx,rfl⟩⟩,st',λb hb=>(hf b hb).1⟩⟩
 done:=by
  intro X hP hw hK hcm ht i pins s σ H E I hf st hg;subst hP hw hK;obtain⟨ys,hq,hi⟩:=hg;obtain⟨hm,hn,hk⟩:=aiL I hd hq;obtain⟨f0,f1,f2,f3,f4,f5⟩:=hf it (by simp);exact afN (I.ok.hd (hcm aHB)) st hm (by omega) λh' eb=>⟨rfl,I.turned (t':=s.toks) (λb o hb e=>eb b o hb e) f0 f1 f3 f4 f5⟩
 self:=λ_ _ _ _ _ st h=>wpAny_pyIter_keyiter st h
def alP(aHB:cm=ak){w:jj}{K:Fg}{od:Obj}(hd:od.data=.dict en ep) :
  Turn cm tl P w K tg (Itq a od) [it] it (λi h=>h.IsKeyIter it a i en.size ep) where
 mem:=by simp
 obj:=λi h st b hb=>by
  have e:b=it:=by simpa using hb
  subst e;obtain⟨o,e,c,d⟩:=st;exact⟨o,e,λv z=>by rw[d]at z;cases z⟩
 keep:=λi h h' st k=>st.at λo e=>k it (by simp) o e
 item:=by
  intro X hP hw hK hcm ht i pins s σ H E I hf st hg;subst hP hw hK;obtain⟨ys,hq,hi⟩:=hg;obtain⟨hm,hn,hk⟩:=ae0 I hd hq;have hx:ys[i]?=aj (ys[i].1,ys[i].2):=gV hi;obtain⟨e,q,he,ek,hh⟩:=hk i _ _ hx;obtain⟨f0,f1,f2,f3,f4,f5⟩:=hf it (by simp);refine a97 st hm he λh' st' sb=>?_;have I1:Inv X pins σ H {s with heap:=h' }:=I.turned (t':=s.toks) (λb o hb e=>(sb.2 b hb).trans e) f0 f1 f3 f4 f5;obtain⟨o,e',c,d⟩:=id st';exact⟨_,rfl,a7O (s:={s with heap:=h' }) e' c d (by decide) ⟨.ref q,H,I1,ek,⟨rfl,λzs z=>by rw[hq]at z;cases z;exact⟨_,_,q,hx,rfl,hh⟩⟩,st',λb hb=>(hf b hb).1⟩⟩
 done:=by
  intro X hP hw hK hcm ht i pins s σ H E I hf st hg;subst hP hw hK;obtain⟨ys,hq,hi⟩:=hg;obtain⟨hm,hn,hk⟩:=ae0 I hd hq;obtain⟨f0,f1,f2,f3,f4,f5⟩:=hf it (by simp);exact afN (I.ok.hd (hcm aHB)) st hm (by omega) λh' eb=>⟨rfl,I.turned (t':=s.toks) (λb o hb e=>eb b o hb e) f0 f1 f3 f4 f5⟩
 self:=λ_ _ _ _ _ st h=>wpAny_pyIter_keyiter st h
abbrev ItK(a:bw)(od:Obj):Bool->It
 |false=>Itk a od
 |true=>Itq a od
def aiM{K:Fg}{t:Bool}:a9Y K H1 (.key p od t kvs) (ItK p od t):=λH2 G2 t' g ok=>by
 have ok':G2 p=aj (.rdc od t kvs):=ok;rcases g p _ ok' with⟨rfl,ys,e,tw⟩|⟨rfl,ys,e,tw⟩
 .have hl:(Src.key p od ao kvs).items.length=ys.length:=by simp[Src.items,tw.length]
  refine⟨λi hi=>⟨ys,e,by rw[hl]at hi;exact hi⟩,λi v H' hi hy=>?_,⟨ys,e,by rw[hl];exact dz _⟩⟩;obtain⟨rfl,hy⟩:=hy;obtain⟨k,y,e1,rfl⟩:=hy ys e;obtain⟨⟨dk,d⟩,e2,r1,r2⟩:=aoD tw e1;have r1:dk=.inl k:=r1;subst r1;exact⟨.refl _,kD k,by simp[Src.items,e2,dkD],avB k⟩
 .have hl:(Src.key p od ak kvs).items.length=ys.length:=by simp[Src.items,tw.length]
  refine⟨λi hi=>⟨ys,e,by rw[hl]at hi;exact hi⟩,λi v H' hi hy=>?_,⟨ys,e,by rw[hl];exact dz _⟩⟩;obtain⟨rfl,hy⟩:=hy;obtain⟨ks,y,q,e1,rfl,hh⟩:=hy ys e;obtain⟨⟨dk,d⟩,e2,r1,r2⟩:=aoD tw e1;have r1:dk=.inr ks:=r1;subst r1;exact⟨.refl _,.tup (ks.map kD),by simp[Src.items,e2,dkD],.tup (SqT.of hh) (aiK ks) (aqH hh)⟩
def avC{K:Fg}{t:Bool}:alI K (.key p od t kvs) (ItK p od t):=λH2 G2 g ok=>aiM (H1:=H2) H2 G2 (.refl _) g ok
abbrev aaF(al:Bool)(x:D)(G1:Gp)(R:Src->Gp->Prop):Prop:=match x with
 |.ref p=>(match G1 p with
  |some (.cF t kvs)=>∀od,R (.key p od t kvs) (aH G1 p (.rdc od t kvs))
  |some (.rdc od t kvs)=>al=ak/\R (.key p od t kvs) G1
  |_=>False)
 |_=>False
abbrev a3U(al:Bool)(te:cJ):TI3:=λρ G R=>te ρ G λx G1=>aaF al x G1 R
private theorem avD{x:D}(h:aaF al x G1 R):∃p t kvs,x=.ref p/\((G1 p=aj (.cF t kvs)/\∀od,R (.key p od t kvs) (aH G1 p (.rdc od t kvs)))∨∃od,G1 p=aj (.rdc od t kvs)/\al=ak/\R (.key p od t kvs) G1):=by
 unfold aaF at h;split at h
 .rename_i p;split at h
  .rename_i t kvs e;exact⟨p,t,kvs,rfl,.inl ⟨e,h⟩⟩
  .rename_i od t kvs e;exact⟨p,t,kvs,rfl,.inr ⟨od,e,h⟩⟩
  .exact h.elim
 .exact h.elim
section
variable{X:Cx}{pins:List (bw×Obj)}{σ:St}{H:Hp}{s:cu}
def aiN(I:Inv X pins σ H s)(d:IsD H a):∃od en ep,s.heap.get? a=aj od/\od.ExactDict/\od.data=.dict en ep/\(a==qd)=ao:=by
 rcases d with⟨kvs,e⟩|⟨kvs,e⟩
 .obtain⟨_,hd,vs,_,od,en,ep,h1,h2,h3,_⟩:=a2L I.hok e;exact⟨od,en,ep,h1,h2,h3,hd⟩
 .obtain⟨_,hd,vs,_,od,en,ep,h1,h2,h3,_⟩:=a2M I.hok e;exact⟨od,en,ep,h1,h2,h3,hd⟩
def aoE{K:Fg}{t:Bool}(g:HR K H G)(e:G a=aj (.cF t kvs))(od:Obj) :
  ∃u,H a=aj u/\(∀xs,u≠.tup xs)/\(∀ob w,u≠.jD ob w)/\(∀ps,u≠.tbl ps)/\(∀x,u≠.own x)/\Ts H (upd H a (.jD od u))/\HR K (upd H a (.jD od u)) (aH G a (.rdc od t kvs)):=by
 rcases g a _ e with⟨z,ys,e2,tw⟩|⟨z,ys,e2,tw⟩
 .have tt:Ts H (upd H a (.jD od (.dK ys))):=Ts.turn e2 (λxs z=>nomatch z) (λob w z=>nomatch z);exact⟨_,e2,(λxs z=>nomatch z),(λob w z=>nomatch z),(λps z=>nomatch z),(λx z=>nomatch z),tt,g.turn tt (.inl ⟨z,ys,aM,tw.imp λ_ _ q=>⟨q.1,q.2.mono tt⟩⟩)⟩
 .have tt:Ts H (upd H a (.jD od (.dT ys))):=Ts.turn e2 (λxs z=>nomatch z) (λob w z=>nomatch z);exact⟨_,e2,(λxs z=>nomatch z),(λob w z=>nomatch z),(λps z=>nomatch z),(λx z=>nomatch z),tt,g.turn tt (.inr ⟨z,ys,aM,tw.imp λ_ _ q=>⟨q.1,q.2.mono tt⟩⟩)⟩
def avE{K:Fg}{t:Bool}(g:HR K H G)(e:G a=aj (.cF t kvs)):IsD H a:=by
 rcases g a _ e with⟨_,ys,e2,_⟩|⟨_,ys,e2,_⟩
 .exact .inl ⟨ys,.inl e2⟩
 .exact .inr ⟨ys,.inl e2⟩
def aAQ{K:Fg}{t:Bool}(g:HR K H G)(e:G a=aj (.rdc od t kvs)):IsD H a:=by
 rcases g a _ e with⟨_,ys,e2,_⟩|⟨_,ys,e2,_⟩
 .exact .inl ⟨ys,.inr ⟨od,e2⟩⟩
 .exact .inr ⟨ys,.inr ⟨od,e2⟩⟩
def avF{w:jj}{K:Fg}{od:Obj}(t:Bool)(hd:od.data=.dict en ep) :
  Turn ak tl P w K tg (ItK a od t) [it] it (λi h=>h.IsKeyIter it a i en.size ep):=by
 cases t with
 |false=>exact ar7 rfl hd
 |true=>exact alP rfl hd
def aoF{SJ:Hp->Src->It->Prop}{e tg:jq}{te:cJ}(hc:X.calm=ak)(he:cO X e te)(hSJ:∀H p od t kvs,(al=ao->Fz X p)->SJ H (.key p od t kvs) (ItK p od t)) :
  PI X tg e (λσ H Q=>∃ρ G R,SR X.K H ρ σ/\HR X.K H G/\a3U al te ρ G R/\∀src J H' G',Ts H H'->HR X.K H' G'->SJ H' src J->R src G'->Q J H'):=by
 intro pins s σ H Q I h;obtain⟨ρ,G,R,sr,g,q,kk⟩:=h;refine dZ (he pins s σ H (λvx H1=>Ts H H1/\∃x G1,RD X.K H1 x vx/\HR X.K H1 G1/\aaF al x G1 R) I ⟨ρ,G,_,sr,g,q,λv H1 x G1 t1 r1 g1 q1=>⟨t1,x,G1,r1,g1,q1⟩⟩) ?_;rintro v s1 ⟨vx,H1,I1,r1,t1,x1,G1,rx,g1,q1⟩;obtain⟨a,t,kvs,rfl,q2⟩:=avD q1;cases rx;obtain rfl:v=aq.ref a:=r1
 have isd:IsD H1 a:=by
  rcases q2 with⟨e1,_⟩|⟨od,e1,_⟩
  .exact avE g1 e1
  .exact aAQ g1 e1
 obtain⟨od,en,ep,o1,o2,o3,hsm⟩:=aiN I1 isd;refine afM hsm ⟨od,o1,o2,o3⟩ ?_;have I3:Inv X pins σ H1 {s1 with heap:=s1.heap.push {cls:=.type "dict_keyiterator",data:=.fields #[.ref a,.int 0 0,.int en.size 0,.int ep 0]},toks:=s1.toks}:=I1.kept λb o e=>cg _ e;have od3:(s1.heap.push {cls:=.type "dict_keyiterator",data:=.fields #[.ref a,.int 0 0,.int en.size 0,.int ep 0]}).get? a=aj od:=cg _ o1;have hit:(s1.heap.push {cls:=.type "dict_keyiterator",data:=.fields #[.ref a,.int 0 0,.int en.size 0,.int ep 0]}).IsKeyIter s1.heap.objs.size a 0 en.size ep:=⟨_,iw _ rfl,rfl,rfl⟩;have fr1:H1 s1.heap.objs.size=au:=I1.hok.fresh (dz _);rcases q2 with⟨e1,q3⟩|⟨od',e1,ha,q3⟩
 .obtain⟨u,hu,u1,u2,u3,u4,tt,g4⟩:=aoE g1 e1 od;have I4:=I3.freeze hu u1 u2 u3 u4 od3;have na:s1.heap.objs.size≠a:=a1n (gw o1);refine⟨s1.heap.objs.size,[s1.heap.objs.size],_,ItK a od t,_,rfl,I4,(show Turn X.calm X.tp X.prog X.w X.K tg _ _ _ _ from hc ▸ avF t o3),hit,λb hb=>?_,kk _ _ _ _ (t1.trans tt) g4 (hSJ _ a od t kvs λ_=>Fz.of I1 hu u1 u2 u3) (q3 od)⟩;have e:b=s1.heap.objs.size:=by simpa using hb
  subst e;exact I1.a8G (dz _) (by rw[bA na];exact fr1)
 .have od4:s1.heap.get? a=aj od':=by
   rcases g1 a _ e1 with⟨_,zs,e2,_⟩|⟨_,zs,e2,_⟩
   .exact(show s1.heap.get? a=aj od'/\_ from I1.hok a _ e2).1
   .exact(show s1.heap.get? a=aj od'/\_ from I1.hok a _ e2).1
  rw[o1]at od4;obtain rfl:=jf.inj od4;refine⟨s1.heap.objs.size,[s1.heap.objs.size],_,ItK a od t,_,rfl,I3,(show Turn X.calm X.tp X.prog X.w X.K tg _ _ _ _ from hc ▸ avF t o3),hit,λb hb=>?_,kk _ _ _ _ t1 g1 (hSJ _ a od t kvs λz=>by rw[ha]at z;cases z) q3⟩;have e:b=s1.heap.objs.size:=by simpa using hb
  subst e;exact I1.a8G (dz _) fr1
def aHC(hc:X.calm=ak)(he:cO X e te):PI3 X tg e (a3U ak te):=aoF (SJ:=a9Y X.K) hc he λ_ _ _ _ _ _=>aiM
def aAR(hc:X.calm=ak)(he:cO X e te):PIS X tg e (a3U ak te):=aoF (SJ:=λ_=>alI X.K) hc he λ_ _ _ _ _ _=>avC
end
end
section
open PySem.W
structure Tt(H H':Hp):Prop where
 tups:∀a xs,H a=aj (.tup xs)->H' a=aj (.tup xs)
 aRH:∀a o xs,H a=aj (.jD o (.tup xs))->H' a=aj (.jD o (.tup xs))
def Tt.sqT{K:Fg}(t:Tt H H')(h:SqT K H a xs):SqT K H' a xs:=by
 rcases h with(h|⟨o,h⟩)|h
 .exact .inl (.inl (t.tups _ _ h))
 .exact .inl (.inr ⟨o,t.aRH _ _ _ h⟩)
 .exact .inr h
def ahF.lG(t:Tt H H')(h:ahF H a xs):ahF H' a xs:=t.tups _ _ h
mutual
theorem RD.lG{K:Fg}{H H':Hp}(t:Tt H H'):∀{d:D}{v:V},RD K H d v->RD K H' d v
 |_,_,.non=>.non
 |_,_,.bl b=>.bl b
 |_,_,.int i=>.int i
 |_,_,.str x=>.str x
 |_,_,.ty n=>.ty n
 |_,_,.ref a=>.ref a
 |_,_,.tup h r e=>.tup (t.sqT h) (dB.lG t r) (e.lG t)
theorem dB.lG{K:Fg}{H H':Hp}(t:Tt H H'):∀{ds:List D}{vs:List V},dB K H ds vs->dB K H' ds vs
 |_,_,.nil=>.nil
 |_,_,.cons h r=>.cons (RD.lG t h) (dB.lG t r)
end
def OR.aDK{K:Fg}{o:GO}(t:Tt H H')(h:OR K H a o)(k:∀u,H a=aj u->H' a=aj u):OR K H' a o:=by
 cases o with
 |lst ds=>obtain⟨xs,e,r⟩:=h;exact⟨xs,k _ e,r.lG t⟩
 |rol ds =>
  obtain⟨xs,e,r⟩:=h;refine⟨xs,?_,r.lG t⟩;rcases e with(e|⟨o,e⟩)|e
  .exact .inl (.inl (k _ e))
  .exact .inl (.inr ⟨o,k _ e⟩)
  .exact .inr e
 |cF b kvs =>
  rcases h with⟨z,xs,e,r⟩|⟨z,xs,e,r⟩
  .exact .inl ⟨z,xs,k _ e,r.imp λ_ _ q=>⟨q.1,q.2.lG t⟩⟩
  .exact .inr ⟨z,xs,k _ e,r.imp λ_ _ q=>⟨q.1,q.2.lG t⟩⟩
 |ins C fs=>obtain⟨dx,vs,e,r⟩:=h;exact⟨dx,vs,k _ e,r.imp λ_ _ q=>⟨q.1,q.2.lG t⟩⟩
 |rdc ob b kvs =>
  rcases h with⟨z,xs,e,r⟩|⟨z,xs,e,r⟩
  .exact .inl ⟨z,xs,k _ e,r.imp λ_ _ q=>⟨q.1,q.2.lG t⟩⟩
  .exact .inr ⟨z,xs,k _ e,r.imp λ_ _ q=>⟨q.1,q.2.lG t⟩⟩
 |exn C=>obtain⟨o,vs,e,r⟩:=h;exact⟨o,vs,k _ e,r⟩
 |tpl ds=>obtain⟨xs,e,r⟩:=h;exact⟨xs,t.sqT e,r.lG t⟩
 |nU kvs=>obtain⟨o,e,r⟩:=h;exact⟨o,k _ e,r.imp λ_ _ z=>z.lG t⟩
 |rnm ob kvs=>obtain⟨o,e,r⟩:=h;exact⟨o,k _ e,r.imp λ_ _ z=>z.lG t⟩
def avG{K:Fg}{t:Bool}(g:HR K H G)(e:G p=aj (.rdc od t kvs)) :
  ∃u,H p=aj (.jD od u)/\(∀xs,u≠.tup xs)/\(∀ob w,u≠.jD ob w)/\IsD H p/\Tt H (upd H p u)/\HR K (upd H p u) (aH G p (.cF t kvs)):=by
 have key:∀u,H p=aj (.jD od u)->(∀xs,u≠.tup xs)->Tt H (upd H p u):=λu hu h1=>by
  refine⟨λa xs q=>?_,λa o xs q=>?_⟩
  .rw[bA];exact q;intro z;subst z;rw[hu]at q;cases q
  .rw[bA];exact q;intro z;subst z;rw[hu]at q;cases q;exact h1 xs rfl
 have rest:∀u,Tt H (upd H p u)->OR K (upd H p u) p (.cF t kvs)->HR K (upd H p u) (aH G p (.cF t kvs)):=λu tt new a v q=>by
  by_cases z:a=p
  .subst z;rw[aD]at q;obtain rfl:=jf.inj q;exact new
  .rw[aW z]at q;exact(g a v q).aDK tt λw y=>by rw[bA z];exact y
 rcases g p _ e with⟨z,xs,e2,tw⟩|⟨z,xs,e2,tw⟩
 .have tt:=key _ e2 (λxs z=>nomatch z);exact⟨_,e2,(λxs z=>nomatch z),(λob w z=>nomatch z),.inl ⟨xs,.inr ⟨od,e2⟩⟩,tt,rest _ tt (.inl ⟨z,xs,aM,tw.imp λ_ _ q=>⟨q.1,q.2.lG tt⟩⟩)⟩
 .have tt:=key _ e2 (λxs z=>nomatch z);exact⟨_,e2,(λxs z=>nomatch z),(λob w z=>nomatch z),.inr ⟨xs,.inr ⟨od,e2⟩⟩,tt,rest _ tt (.inr ⟨z,xs,aM,tw.imp λ_ _ q=>⟨q.1,q.2.lG tt⟩⟩)⟩
variable{od:Obj}
section
variable{pins:List (bw×Obj)}
def aHD(I:Inv X pins σ H s)(isd:IsD H p)(hu:H p=aj (.jD od u)):∃en ep,od.data=.dict en ep:=by
 obtain⟨od',en,ep,o1,_,o3,_⟩:=aiN I isd;have e:=(show s.heap.get? p=aj od/\_ from I.hok p _ hu).1;rw[e]at o1;cases o1;exact⟨en,ep,o3⟩
def Inv.aN3(I:Inv X pins σ H s)(fz:Fz X p)(hu:H p=aj (.jD od u))(h1:∀xs,u≠.tup xs)(isd:∃en ep,od.data=.dict en ep):Inv X pins σ (upd H p u) s:=by
 have ne:∀{b:bw}{v:HO},H b=aj v->v≠.jD od u->b≠p:=λe n z=>by subst z;rw[hu]at e;exact n (jf.inj e).symm
 have no:∀{b:bw},H b=au->upd H p u b=au:=λ{b} e=>by
  rw[bA];exact e;intro z;subst z;rw[hu]at e;cases e
 have kt:∀b xs,H b=aj (.tup xs)->upd H p u b=aj (.tup xs):=λb xs q=>by rw[bA (ne q λz=>nomatch z)];exact q
 have ko:∀b x,H b=aj (.own x)->upd H p u b=aj (.own x):=λb x q=>by rw[bA (ne q λz=>nomatch z)];exact q
 obtain⟨ho,hok⟩:=(show s.heap.get? p=aj od/\gZ X.prog X.w H s.heap p u from I.hok p _ hu);refine⟨I.ok,I.os,I.bare,⟨I.base.keep,I.base.slot,λb ob q n hx=>?_,I.base.there,λb xs q=>kt b xs (I.base.tups b xs q),λb ob w q=>?_,λb ps q=>?_⟩,I.loc,I.cell,no I.free,λx c e=>no (I.pL x c e),λq hq=>?_,λb v e=>?_,I.len,?_,λq hq=>kt _ _ (I.tup q hq)⟩
 .exact no (I.base.free b ob q n hx)
 .have:=I.base.mQ b ob w q;rw[bA];exact this;intro z;subst z;exact fz.jD ob w q
 .obtain⟨more,e⟩:=I.base.zJ b ps q;exact⟨more,by rw[bA (ne e λz=>nomatch z)];exact e⟩
 .obtain⟨z1,z2,z3⟩:=I.pin q hq;exact⟨z1,no z2,z3⟩
 .by_cases hb:b=p
  .subst hb;rw[aM]at e;obtain rfl:=jf.inj e;exact hok.stay (λ_ _ _ q=>q) (λc q=>ko c _ q) λc xs q=>kt c xs q
  .rw[bA hb]at e;exact(I.hok b v e).stay (λ_ _ _ q=>q) (λc q=>ko c _ q) λc xs q=>kt c xs q
 .rcases I.hnd with z|⟨x,o,w,vs,a,b,c,d⟩
  .exact .inl z
  .refine .inr ⟨x,o,w,vs,a,?_,c,d⟩;rw[bA];exact b;intro z;subst z;rw[hu]at b;cases b;obtain⟨en,ep,o3⟩:=isd;rw[o3]at c;cases c
end
section
end
section
end
end
section
open PySem.W
section
end
end
section
section
open AutoSeq1 (wpAny_loadPart')
end
section
end
section
end
section
open PySem.SeqAt
open PySem.AutoSeq1 (wpAny_loadPart')
open PySem.MeetsSeq PySem.MeetsSeq2 PySem.MeetsSeq3
end
end
section
section
def a6X{K:Fg}:∀{ns:List Int}{vs:List V},dB K H (ns.map D.int) vs->vs=ns.map V.int
 |[],_,.nil=>rfl
 |n::ns,_,.cons r rr=>by cases r;rw[a6X rr];rfl
def ae1:∀(ns ms:List Int),sS (ns.map D.int) (ms.map D.int)=decide (ns=ms)
 |[],[]=>rfl
 |[],_::_=>rfl
 |_::_,[]=>rfl
 |n::ns,m::ms=>by
  show(eqP (.int n) (.int m)&&sS (ns.map D.int) (ms.map D.int))=_;rw[ae1 ns ms];have:eqP (.int n) (.int m)=decide (n=m):=by rw[eqP];exact a2o.mpr (by simp)
  rw[this];simp[Bool.decide_and]
def ae2(n:Nat)(ns:List Int):aV (n+1) (.tup (ns.map D.int))=ak:=by
 simp only[aV,jy,ig];rintro x ⟨i,_,rfl⟩;cases n<;>rfl
end
end
section
section
open Classical in
end
end
section
open PySem.W
section
end
section
end
end
section
open PySem.W
abbrev putN(kvs:List (NK×Int))(k:NK)(n:Int):List (NK×Int):=if(kvs.lookup k).isSome then kvs.map (λp=>if p.1=k then(p.1,n)else p)else kvs++[(k,n)]
section
variable{K:Fg}{k:NK}{kvs:List (NK×Int)}
def avH(r:Paired (ahG K H) kvs xs):(kvs.lookup k=au/\atKey xs k=au)∨∃n p,kvs.lookup k=aj n/\atKey xs k=aj p/\∃t,p.2=aq.int n t:=by
 induction r with
 |nil=>exact .inl ⟨rfl,rfl⟩
 |@cons p x kvs xs h r ih =>
  obtain⟨m,d⟩:=p;obtain⟨h1,h2,h3⟩:=h;unfold atKey at ih ⊢;by_cases c:k=m
  .subst c;refine .inr ⟨d,x.2,by rw[ud,beq_self_eq_true],?_,h3⟩;rw[List.find?_cons_of_pos (by rw[h1];exact decide_eq_true rfl)];rfl
  .have c2:¬ x.1=k:=λe=>c (e.symm.trans h1);rw[List.find?_cons_of_neg (by simpa using c2),ud,show(k==m)=ao from beq_eq_false_iff_ne.mpr c];exact ih
def aHE(r:Paired (ahG K H) kvs xs):∀x∈xs,RD K H (nkD x.1) (.ref x.2.1):=by
 induction r with
 |nil=>exact λx hx=>nomatch hx
 |cons h r ih =>
  intro x hx;rcases jd.mp hx with rfl|hx
  .rw[h.1];exact h.2.1
  .exact ih x hx
def aHF{n:Int}{t:Tok}(r:Paired (ahG K H) kvs xs)(sq:RD K H (nkD k) (.ref b)):Paired (ahG K H) (putN kvs k n) (a0j xs k b (.int n t)):=by
 unfold putN;rcases avH (k:=k) r with⟨z1,z2⟩|⟨d',p,z1,z2,_⟩
 .rw[z1,storedH_new z2];exact Paired.snoc r ⟨rfl,sq,t,rfl⟩
 .rw[z1,storedH_old z2];clear z1 z2;show Paired (ahG K H) (kvs.map λp=>if p.1=k then(p.1,n)else p) _
  induction r with
  |nil=>exact .nil
  |@cons p x kvs xs h r ih =>
   rw[iz,iz];refine .cons ?_ ih;obtain⟨h1,h2,h3⟩:=h;by_cases c:p.1=k
   .rw[if_pos c];unfold putAt;rw[if_pos (by rw[h1];exact c)];exact⟨h1,h2,t,rfl⟩
   .rw[if_neg c];unfold putAt;rw[if_neg (by rw[h1];exact c)];exact⟨h1,h2,h3⟩
end
section
variable{X:Cx}{pins:List (bw×Obj)}{s:cu}
def aoG{k:NK}(I:Inv X pins σ H s)(r:RD X.K H (nkD k) (.ref a)):a9Q s.heap k a:=by
 unfold nkD at r;cases r with
 |@tup _ zs _ hq rz _ =>
  cases rz with
  |cons ra rb =>
  cases rb with
  |cons rb rn =>
  cases rn;cases rb;cases ra with
  |@tup b ys _ hb rbs _ =>
  have e:ys=k.1.map V.int:=a6X rbs;subst e;obtain⟨its,r,⟨o,h1,h2,n,h3⟩,_⟩:=I.tuple hq;obtain⟨jts,r2,⟨o2,g1,g2,n2,g3⟩,_⟩:=I.tuple hb;cases r with
  |cons ra r =>
  cases r with
  |cons rb r =>
  cases r;cases ra;obtain⟨t,rfl⟩:=rb;refine⟨o,b,t,n,h1,h2,h3,λP w=>⟨o2,jts.toArray,n2,g1,g2,g3,?_⟩⟩;have e:k.1.map V.int=(k.1.map (Sum.inl:Int->Key)).map kV:=by rw[kh];rfl
  rw[e]at r2;simpa using a6G r2
def aHG{w:jj}{x:NK×bw×aq}:entryOfKey (xO P w) x=entryOfKey (xO P' w') x:=by
 have e:(x.1.1.map (Sum.inl:Int->Key)).map (aK P w).hash=(x.1.1.map (Sum.inl:Int->Key)).map (aK P' w').hash:=by
  rw[kh,kh];rfl
 show(⟨reduceHash (Builtin.Tuple.tupleHashOf [reduceHash (Builtin.Tuple.tupleHashOf ((x.1.1.map (Sum.inl:Int->Key)).map (aK P w).hash)),(aK P w).hash (.inl x.1.2)]),_,_⟩:a0q)=⟨reduceHash (Builtin.Tuple.tupleHashOf [reduceHash (Builtin.Tuple.tupleHashOf ((x.1.1.map (Sum.inl:Int->Key)).map (aK P' w').hash)),(aK P' w').hash (.inl x.1.2)]),_,_⟩;rw[e];rfl
def ae3{o:HO}(I:Inv X pins σ H s)(hr:Rd H a o)(r:NOk X.K H a kvs o):∃xs,Paired (ahG X.K H) kvs xs/\(a==qd)=ao/\s.heap.DictOfH (xO X.prog X.w) a xs:=by
 rcases r with⟨rfl,rfl⟩|⟨P,w,xs,rfl,r⟩
 .obtain⟨_,hd,ws,rel,o,es,ep,h1,h2,h3,h4,_⟩:=a2M I.hok hr;cases rel;exact⟨[],.nil,hd,⟨o,es,ep,h1,h2,h3,h4,(λx hx=>nomatch hx),a0u⟩⟩
 .have z:gZ X.prog X.w H s.heap a (.ext (azA P w a xs)):=by
   rcases hr with e|⟨o,e⟩
   .exact I.hok a _ e
   .exact(show s.heap.get? a=aj o/\_ from I.hok a _ e).2
  obtain⟨⟨hd,o,es,ep,h1,h2,h3,h4,h5⟩,_⟩:=z;have al:=aHE r;exact⟨xs,r,hd,⟨o,es,ep,h1,h2,h3,by rw[h4];exact vg λx hx=>aHG,λx hx=>aoG I (al x hx),h5⟩⟩
abbrev nmG(G:Gp)(a:bw)(kvs:List (NK×Int)):Prop:=G a=aj (.nU kvs)∨∃od,G a=aj (.rnm od kvs)
def alQ(I:Inv X pins σ H s)(g:HR X.K H G)(h:nmG G a kvs):∃xs,Paired (ahG X.K H) kvs xs/\(a==qd)=ao/\s.heap.DictOfH (xO X.prog X.w) a xs:=by
 rcases h with e|⟨od,e⟩
 .obtain⟨o,e2,r⟩:=g a _ e;exact ae3 I (.inl e2) r
 .obtain⟨o,e2,r⟩:=g a _ e;exact ae3 I (.inr ⟨od,e2⟩) r
def alR{k:NK}{v:V}(r:RD X.K H (nkD k) v):∃a,v=.ref a:=by
 unfold nkD at r;cases r;exact⟨_,rfl⟩
end
section
variable{X:Cx}{o:jq}{to ti tv te tf:cJ}{pos:Pos}
abbrev a5I:cJ:=λ_ G R=>∀p,G p=au->R (.ref p) (aH G p (.nU []))
def aAS:cO X (.Dict [] [] pos) a5I:=PE.imp (PE.kf ahC) λσ H Q h=>by
 obtain⟨ρ,G,R,sr,g,q,k⟩:=h;intro p hp kf;exact k _ _ (.ref p) _ (.same (bO hp)) (.ref p) (g.put (u:=.nU []) hp ⟨_,aM,.inl ⟨rfl,rfl⟩⟩) (q p (jE g hp kf))
abbrev sX:R3:=λx y G R=>match x with
 |.ref a=>∃k kvs n,y=nkD k/\nmG G a kvs/\kvs.lookup k=aj n/\R (.int n) G
 |_=>False
def aN4(hu:X.A.units+64<jr)(ho:cO X o to)(hi:cO X i ti)(hs:ayV i):cO X (.Subscript o i pos) (aG sX to ti):=by
 intro pins s σ H Q I h;obtain⟨ρ,G,R,sr,g,t,k⟩:=h
 refine anE PySem.F.slot_dict_getitem.lookup hs (dZ (ho pins s σ H (λv H1=>Ts H H1/\∃x G1,RD X.K H1 x v/\HR X.K H1 G1/\ti ρ G1 λy G2=>sX x y G2 R) I ⟨ρ,G,_,sr,g,t,λv H1 d G1 t1 r1 g1 q1=>⟨t1,d,G1,r1,g1,q1⟩⟩) λu s1 ⟨vx,H1,I1,rx,t1,x,G1,rdx,g1,q1⟩ =>
  dZ (hi pins s1 σ H1 (λv H2=>Ts H1 H2/\∃y G2,RD X.K H2 y v/\HR X.K H2 G2/\sX x y G2 R) I1 ⟨ρ,G1,_,sr.mono t1,g1,q1,λv H2 d G2 t2 r2 g2 q2=>⟨t2,d,G2,r2,g2,q2⟩⟩) λiv s2 ⟨vy,H2,I2,ry,t2,y,G2,rdy,g2,q2⟩=>?_)
 cases x with
 |ref ad =>
  obtain⟨kk,kvs,n,rfl,e1,e2,q2⟩:=q2;cases rdx;obtain rfl:u=aq.ref ad:=rx;obtain⟨b,rfl⟩:=alR rdy;obtain rfl:iv=aq.ref b:=ry;obtain⟨xs,r,hd,dd⟩:=alQ I2 g2 e1;rcases avH (k:=kk) r with⟨z,_⟩|⟨n',p,z1,z2,t',z3⟩
  .rw[z]at e2;cases e2
  .rw[z1]at e2;cases e2;exact⟨dd.typeIs,wpAny_getItem_heap (knd:=xO X.prog X.w) (by show X.A.units+1+8<jr;omega) (aoG I2 rdy) dd z2 ⟨.int n,H2,I2.tok _,⟨t',z3⟩,k (.int n) H2 (.int n) G2 (t1.trans t2) (.int _) g2 q2⟩⟩
 |_=>exact q2.elim
abbrev ar8(x y z:D)(G:Gp)(R:iB):Prop:=match x with
 |.ref a=>∃k kvs m,y=nkD k/\z=.int m/\G a=aj (.nU kvs)/\R (.int ((kvs.lookup k).getD m)) G
 |_=>False
abbrev isNm(x:D)(G:Gp):Prop:=match x with
 |.ref a=>∃kvs,G a=aj (.nU kvs)
 |_=>False
abbrev a6Y(to te tf:cJ):cJ:=λρ G R=>to ρ G λx G1=>isNm x G1/\te ρ G1 λy G2=>tf ρ G2 λz G3=>ar8 x y z G3 R
def aHH(hu:X.A.units+64<jr)(ho:cO X o to)(he:cO X e te)(hf:cO X f tf)(m:M2 X o "get" apos e f cpos):cO X (.Call (.Attribute o "get" apos) [e,f] [] cpos) (a6Y to te tf):=by
 intro pins s σ H Q I h;obtain⟨ρ,G,R,sr,g,t,k⟩:=h;refine wpAny_Call_method m.base m.few m.line PySem.F.plainAttrs_dict PySem.F.slot_dict_get PySem.F.type_dict_get (dZ (ho pins s σ H (λv H1=>Ts H H1/\∃x G1,RD X.K H1 x v/\HR X.K H1 G1/\isNm x G1/\te ρ G1 λy G2=>tf ρ G2 λz G3=>ar8 x y z G3 R) I ⟨ρ,G,_,sr,g,t,λv H1 d G1 t1 r1 g1 q1=>⟨t1,d,G1,r1,g1,q1⟩⟩) ?_);rintro u s1 ⟨vx,H1,I1,rx,t1,x,G1,rdx,g1,isn,q1⟩;cases x with
 |ref a =>
  obtain⟨kv1,e1⟩:=isn;cases rdx;obtain rfl:u=aq.ref a:=rx;obtain⟨xs1,r1,hd,dd1⟩:=alQ I1 g1 (.inl e1);have ty:=dd1.typeIs;refine⟨ty,?_,?_⟩
  .intro a1 ea;cases ea;obtain⟨o1,es,ep,h1,h2,_⟩:=dd1;exact⟨o1,h1,h2.2.1⟩
  rw[m.trees]
  refine Calls.callWith_builtin rfl (Calls.evalArgs_plain (Calls.spliced_cons (dZ (he pins s1 σ H1 (λv H2=>Ts H1 H2/\∃y G2,RD X.K H2 y v/\HR X.K H2 G2/\tf ρ G2 λz G3=>ar8 (.ref a) y z G3 R) I1 ⟨ρ,G1,_,sr.mono t1,g1,q1,λv H2 d G2 t2 r2 g2 q2=>⟨t2,d,G2,r2,g2,q2⟩⟩) λiv s2 ⟨vy,H2,I2,ry,t2,y,G2,rdy,g2,q2⟩ =>
   Calls.spliced_cons (dZ (hf pins s2 σ H2 (λv H3=>Ts H2 H3/\∃z G3,RD X.K H3 z v/\HR X.K H3 G3/\ar8 (.ref a) y z G3 R) I2 ⟨ρ,G2,_,sr.mono (t1.trans t2),g2,q2,λv H3 d G3 t3 r3 g3 q3=>⟨t3,d,G3,r3,g3,q3⟩⟩) λfv s3 ⟨vz,H3,I3,rz,t3,z,G3,rdz,g3,q3⟩=>Calls.spliced_nil ?_))))
  obtain⟨kk,kvs,mm,rfl,rfl,e3,q3⟩:=q3;have rk:=rdy.mono t3;obtain⟨b,rfl⟩:=alR rk;obtain rfl:iv=aq.ref b:=ry;cases rdz;obtain⟨tz,rfl⟩:=rz;obtain⟨xs,r,hd3,dd⟩:=alQ I3 g3 (.inl e3);refine call_meetsIn PySem.F.slot_dict_get dd.typeIs PySem.F.entry_dict_get (PySem.F.args_dict_get_3 _ _ _) (meetsH_dict_get_default (xO X.prog X.w) a b hd3 _) ⟨by show X.A.units+1+8<jr;omega,kk,xs,aoG I3 rk,dd,?_⟩;rcases avH (k:=kk) r with⟨z1,z2⟩|⟨n',p,z1,z2,t',z3⟩
  .rw[z2];rw[z1]at q3;exact⟨.int mm,H3,I3.tok _,⟨tz,rfl⟩,k (.int mm) H3 (.int mm) G3 ((t1.trans t2).trans t3) (.int _) g3 q3⟩
  .rw[z2];rw[z1]at q3;exact⟨.int n',H3,I3.tok _,⟨t',z3⟩,k (.int n') H3 (.int n') G3 ((t1.trans t2).trans t3) (.int _) g3 q3⟩
 |_=>exact isn.elim
abbrev ar9(x y d:D)(F:gJ)(ρ:aP)(G:Gp):Prop:=match x with
 |.ref a=>∃k kvs n,y=nkD k/\d=.int n/\G a=aj (.nU kvs)/\kvs.length<1000000/\F.nx ρ (aH G a (.nU (putN kvs k n)))
 |_=>False
abbrev aaG(to ti tv:cJ):bJ:=λF ρ G=>tv ρ G λv G1=>to ρ G1 λx G2=>ti ρ G2 λy G3=>ar9 x y v F ρ G3
def aHI(hu:X.A.units+64<jr)(ho:cO X o to)(hi:cO X i ti)(hv:cO X value tv)(hs:a0h value (aj (.Subscript o i pos')) pos.line X.env=pure ao):PS3 X (.Assign [.Subscript o i pos'] value pos) (aaG to ti tv):=by
 intro pins s σ H D I h;obtain⟨ρ,G,F,sr,g,t,up⟩:=h;have big:1000000<dh:=by decide
 refine wpAny_Assign_Subscript (dZ (hv pins s σ H (λv H1=>Ts H H1/\∃d G1,RD X.K H1 d v/\HR X.K H1 G1/\to ρ G1 λx G2=>ti ρ G2 λy G3=>ar9 x y d F ρ G3) I ⟨ρ,G,_,sr,g,t,λv H1 d G1 t1 r1 g1 q1=>⟨t1,d,G1,r1,g1,q1⟩⟩) λr s1 ⟨v,H1,I1,rv,t1,d,G1,rd,g1,q1⟩ =>
  dZ (ho pins s1 σ H1 (λv H2=>Ts H1 H2/\∃x G2,RD X.K H2 x v/\HR X.K H2 G2/\ti ρ G2 λy G3=>ar9 x y d F ρ G3) I1 ⟨ρ,G1,_,sr.mono t1,g1,q1,λv H2 d G2 t2 r2 g2 q2=>⟨t2,d,G2,r2,g2,q2⟩⟩) λu s2 ⟨vx,H2,I2,rx,t2,x,G2,rdx,g2,q2⟩ =>
  dZ (hi pins s2 σ H2 (λv H3=>Ts H2 H3/\∃y G3,RD X.K H3 y v/\HR X.K H3 G3/\ar9 x y d F ρ G3) I2 ⟨ρ,G2,_,sr.mono (t1.trans t2),g2,q2,λv H3 d G3 t3 r3 g3 q3=>⟨t3,d,G3,r3,g3,q3⟩⟩) λiv s3 ⟨vy,H3,I3,ry,t3,y,G3,rdy,g3,q3⟩=>?_) hs
 cases x with
 |ref a =>
  obtain⟨kk,kvs,n,rfl,rfl,e1,lk,q3⟩:=q3;cases rdx;cases rd;obtain rfl:u=aq.ref a:=rx;obtain⟨tv',rfl⟩:=rv;obtain⟨b,rfl⟩:=alR rdy;obtain rfl:iv=aq.ref b:=ry;obtain⟨o3,eo,ok⟩:=g3 a _ e1;obtain⟨xs,r0,hd,dd⟩:=ae3 I3 (.inl eo) ok;have no:=ok.no;have mu:Mut (aj o3):=by rcases ok with⟨_,rfl⟩|⟨_,_,_,rfl,_⟩<;>exact True.intro
  have lx:xs.length=kvs.length:=(Paired.length r0).symm;refine wpAny_setItem_heap (knd:=xO X.prog X.w) (by show X.A.units+1+8<jr;omega) (aoG I3 rdy) dd (λh' dd' hs'=>?_) (by omega);have rp:=aHF (n:=n) (t:=tv') r0 rdy;generalize a0j xs kk b (aq.int n tv')=ys at dd' rp;obtain⟨q0,es,ep,z1,z2,z3,z4,_,z5⟩:=dd';have tt:Ts H3 (upd H3 a (.ext (azA X.prog X.w a ys))):=.turn eo no.1 no.2.1;refine⟨σ,_,a1G (t':=_) (ob:=.ext (azA X.prog X.w a ys)) I3 (by rw[eo];exact mu) hs' ⟨q0,z1⟩ ⟨⟨hd,q0,es,ep,z1,z2,z3,z4,z5⟩,⟨q0,z1⟩,λh1 h2 z kp=>?_⟩,up.nx ρ _ σ _ (sr.mono (((t1.trans t2).trans t3).trans tt)) (g3.turn (u:=.nU (putN kvs kk n)) tt ⟨_,aM,.inr ⟨X.prog,X.w,ys,rfl,Paired.aeS rp λ_ _ z=>⟨z.1,z.2.1.mono tt,z.2.2⟩⟩⟩) q3⟩;obtain⟨y0,o1,es1,ep1,y1,y2⟩:=z;exact⟨y0,o1,es1,ep1,kp _ y1,y2⟩
 |_=>exact q3.elim
end
end
section
open PySem.W
@[simp]def NFz(K:Fg)(H:Hp)(a:bw)(od:Obj)(kvs:List (NK×Int)):Prop:=∃o,H a=aj (.jD od o)/\NOk K H a kvs o
abbrev ItN(K:Fg)(a:bw)(od:Obj)(kvs:List (NK×Int)):It :=
 ⟨λi H=>NFz K H a od kvs/\i<kvs.length,λi H v H'=>H'=H/\∃k n,kvs[i]?=aj (k,n)/\RD K H (nkD k) v,λi H=>NFz K H a od kvs/\kvs.length<=i⟩
def alS{α β:Type}{P:α->β->Prop}{as:List α}{bs:List β}(r:Paired P as bs):∀{i:Nat}{a:α},as[i]?=aj a->∃b,bs[i]?=aj b/\P a b:=by
 induction r with
 |nil=>intro i a e;simp at e
 |@cons a b _ _ h _ ih =>
  intro i c e;cases i with
  |zero=>simp only[a0c,jf.injEq]at e;subst e;exact⟨b,rfl,h⟩
  |succ i=>simpa using ih (by simpa using e)
section
variable{X:Cx}{pins:List (bw×Obj)}{s:cu}
def aoH{od:Obj}{kvs:List (NK×Int)}(I:Inv X pins σ H s)(hd:od.data=.dict en ep)(h:NFz X.K H a od kvs) :
  qZ s.heap a en ep/\en.size=kvs.length/\∀(i:Nat)(k:NK)(n:Int),kvs[i]?=aj (k,n)->∃(e:a0q)(q:bw),en[i]?=aj e/\e.key=aq.ref q/\RD X.K H (nkD k) (.ref q):=by
 obtain⟨o,hq,ok⟩:=h;have hod:=(show s.heap.get? a=aj od/\_ from I.hok a _ hq).1;obtain⟨xs,r,_,o1,es1,ep1,g1,g2,g3,g4,_⟩:=ae3 I (.inr ⟨od,hq⟩) ok;rw[hod]at g1;obtain rfl:=jf.inj g1;rw[hd]at g3;injection g3 with e1 e2;subst e1;have hl:en.size=xs.length:=by rw[←vf,g4,gk]
 refine⟨⟨od,hod,g2,hd⟩,by rw[hl];exact(Paired.length r).symm,λi k n e=>?_⟩;obtain⟨⟨k',q,u⟩,hx,h1,h2,_⟩:=alS r e;refine⟨entryOfKey (xO X.prog X.w) (k',q,u),q,?_,rfl,h2⟩;rw[←a0l,g4,vm,hx];rfl
end
def avI{w:jj}{K:Fg}{od:Obj}(hd:od.data=.dict en ep) :
  Turn ak tl P w K tg (ItN K a od kvs) [it] it (λi h=>h.IsKeyIter it a i en.size ep) where
 mem:=by simp
 obj:=λi h st b hb=>by
  have e:b=it:=by simpa using hb
  subst e;obtain⟨o,e,c,d⟩:=st;exact⟨o,e,λv z=>by rw[d]at z;cases z⟩
 keep:=λi h h' st k=>st.at λo e=>k it (by simp) o e
 item:=by
  intro X hP hw hK hcm ht i pins s σ H E I hf st hg;subst hP hw hK;obtain⟨nf,hi⟩:=hg;obtain⟨hm,hn,hk⟩:=aoH I hd nf;have hx:kvs[i]?=aj (kvs[i].1,kvs[i].2):=gV hi;obtain⟨e,q,he,ek,hh⟩:=hk i _ _ hx;obtain⟨f0,f1,f2,f3,f4,f5⟩:=hf it (by simp);refine a97 st hm he λh' st' sb=>?_;have I1:Inv X pins σ H {s with heap:=h' }:=I.turned (t':=s.toks) (λb o hb e=>(sb.2 b hb).trans e) f0 f1 f3 f4 f5;obtain⟨o,e',c,d⟩:=id st';exact⟨_,rfl,a7O (s:={s with heap:=h' }) e' c d (by decide) ⟨.ref q,H,I1,ek,⟨rfl,_,_,hx,hh⟩,st',λb hb=>(hf b hb).1⟩⟩
 done:=by
  intro X hP hw hK hcm ht i pins s σ H E I hf st hg;subst hP hw hK;obtain⟨nf,hi⟩:=hg;obtain⟨hm,hn,hk⟩:=aoH I hd nf;obtain⟨f0,f1,f2,f3,f4,f5⟩:=hf it (by simp);exact afN (I.ok.hd (hcm rfl)) st hm (by omega) λh' eb=>⟨rfl,I.turned (t':=s.toks) (λb o hb e=>eb b o hb e) f0 f1 f3 f4 f5⟩
 self:=λ_ _ _ _ _ st h=>wpAny_pyIter_keyiter st h
def avJ{K:Fg}:a9Y K H1 (.nky p od kvs) (ItN K p od kvs):=λH2 G2 t g ok=>by
 have nf:NFz K H2 p od kvs:=g p _ (show G2 p=aj (.rnm od kvs)from ok);have hl:(Src.nky p od kvs).items.length=kvs.length:=by simp[Src.items]
 refine⟨λi hi=>⟨nf,by rw[hl]at hi;exact hi⟩,λi v H' hi hy=>?_,⟨nf,by rw[hl];exact dz _⟩⟩;obtain⟨rfl,k,n,e,r⟩:=hy;exact⟨.refl _,nkD k,by simp[Src.items,e],r⟩
abbrev aoI(x:D)(G1:Gp)(R:Src->Gp->Prop):Prop:=match x with
 |.ref p=>∃kvs,G1 p=aj (.nU kvs)/\∀od,R (.nky p od kvs) (aH G1 p (.rnm od kvs))
 |_=>False
abbrev pA(te:cJ):TI3:=λρ G R=>te ρ G λx G1=>aoI x G1 R
section
variable{X:Cx}
def aAT(hc:X.calm=ak)(he:cO X e te):PI3 X tg e (pA te):=by
 intro pins s σ H Q I h;obtain⟨ρ,G,R,sr,g,q,kk⟩:=h;refine dZ (he pins s σ H (λvx H1=>Ts H H1/\∃x G1,RD X.K H1 x vx/\HR X.K H1 G1/\aoI x G1 R) I ⟨ρ,G,_,sr,g,q,λv H1 x G1 t1 r1 g1 q1=>⟨t1,x,G1,r1,g1,q1⟩⟩) ?_;rintro v s1 ⟨vx,H1,I1,r1,t1,x1,G1,rx,g1,q1⟩;cases x1 with
 |ref a =>
  obtain⟨kvs,e1,q3⟩:=q1;cases rx;obtain rfl:v=aq.ref a:=r1;obtain⟨u,hu,ok⟩:=g1 a _ e1;obtain⟨xs,_,hsm,od,en,ep,o1,o2,o3,_⟩:=ae3 I1 (.inl hu) ok;obtain⟨u1,u2,u3,u4⟩:=ok.no;refine afM hsm ⟨od,o1,o2,o3⟩ ?_;have I3:Inv X pins σ H1 {s1 with heap:=s1.heap.push {cls:=.type "dict_keyiterator",data:=.fields #[.ref a,.int 0 0,.int en.size 0,.int ep 0]},toks:=s1.toks}:=I1.kept λb o e=>cg _ e;have od3:(s1.heap.push {cls:=.type "dict_keyiterator",data:=.fields #[.ref a,.int 0 0,.int en.size 0,.int ep 0]}).get? a=aj od:=cg _ o1;have hit:(s1.heap.push {cls:=.type "dict_keyiterator",data:=.fields #[.ref a,.int 0 0,.int en.size 0,.int ep 0]}).IsKeyIter s1.heap.objs.size a 0 en.size ep:=⟨_,iw _ rfl,rfl,rfl⟩;have fr1:H1 s1.heap.objs.size=au:=I1.hok.fresh (dz _);have tt:Ts H1 (upd H1 a (.jD od u)):=Ts.turn hu u1 u2;have g4:HR X.K (upd H1 a (.jD od u)) (aH G1 a (.rnm od kvs)):=g1.turn tt ⟨u,aM,ok.imp λ_ _ z=>z.mono tt⟩;have I4:=I3.freeze hu u1 u2 u3 u4 od3;have na:s1.heap.objs.size≠a:=a1n (gw o1);refine⟨s1.heap.objs.size,[s1.heap.objs.size],_,ItN X.K a od kvs,_,rfl,I4,(show Turn X.calm X.tp X.prog X.w X.K tg _ _ _ _ from hc ▸ avI o3),hit,λb hb=>?_,kk _ _ _ _ (t1.trans tt) g4 avJ (q3 od)⟩;have e:b=s1.heap.objs.size:=by simpa using hb
  subst e;exact I1.a8G (dz _) (by rw[bA na];exact fr1)
 |_=>exact q1.elim
end
def aAU{K:Fg}(g:HR K H G)(e:G p=aj (.rnm od kvs)) :
  ∃u,H p=aj (.jD od u)/\(∀xs,u≠.tup xs)/\Tt H (upd H p u)/\HR K (upd H p u) (aH G p (.nU kvs)):=by
 obtain⟨u,hu,ok⟩:=g p _ e
 have tt:Tt H (upd H p u):=by
  refine⟨λa xs q=>?_,λa o xs q=>?_⟩
  .rw[bA];exact q;intro z;subst z;rw[hu]at q;cases q
  .rw[bA];exact q;intro z;subst z;rw[hu]at q;cases q;exact ok.no.1 xs rfl
 refine⟨u,hu,ok.no.1,tt,λa v q=>?_⟩;by_cases z:a=p
 .subst z;rw[aD]at q;obtain rfl:=jf.inj q;exact⟨u,aM,ok.imp λ_ _ z=>z.lG tt⟩
 .rw[aW z]at q;exact(g a v q).aDK tt λw y=>by rw[bA z];exact y
abbrev a7W(i:Nat)(te:cJ):cJ:=λρ G R=>∃p,at3 ρ i=aj (.ref p)/\((∃t kvs,G p=aj (.cF t kvs)/\te ρ G λd G1=>(∃od,G1 p=aj (.rdc od t kvs))/\R d (aH G1 p (.cF t kvs)))∨∃kvs,G p=aj (.nU kvs)/\te ρ G λd G1=>R d G1∨((∃od,G1 p=aj (.rnm od kvs))/\R d (aH G1 p (.nU kvs))))
def aN6{i:Nat}(he:cO X e te):cO X e (a7W i te):=by
 intro pins s σ H Q I h;obtain⟨ρ,G,R,sr,g,⟨p,_,q⟩,kk⟩:=h
 have fin:∀{H1:Hp}{u:HO},(∀o w,H p≠aj (.jD o w))->Ts H H1->Tt H1 (upd H1 p u)->Ts H (upd H1 p u):=λnf t1 tt=>⟨λa xs z=>tt.tups _ _ (t1.tups _ _ z),λa o w z=>by
  rw[bA];exact t1.mQ _ _ _ z;intro c;subst c;exact nf _ _ z⟩
 rcases q with⟨t,kvs,hp,q⟩|⟨kvs,hp,q⟩
 .obtain⟨w0,hw0,w1,w2,w3,_⟩:=aoE g hp default;have fz:Fz X p:=Fz.of I hw0 w1 w2 w3;refine dZ (he pins s σ H (λv H1=>Ts H H1/\∃d G1,RD X.K H1 d v/\HR X.K H1 G1/\(∃od,G1 p=aj (.rdc od t kvs))/\R d (aH G1 p (.cF t kvs))) I ⟨ρ,G,_,sr,g,q,λv H1 d G1 t1 r1 g1 q1=>⟨t1,d,G1,r1,g1,q1.1,q1.2⟩⟩) ?_;rintro u s1 ⟨v,H1,I1,r1,t1,d,G1,rd,g1,⟨od,e1⟩,q1⟩;obtain⟨w,hw,v1,v2,isd,tt,g'⟩:=avG g1 e1;exact⟨v,_,I1.aN3 fz hw v1 (aHD I1 isd hw),r1,kk v _ d _ (fin (λo x z=>by rw[hw0]at z;exact w2 _ _ (jf.inj z)) t1 tt) (rd.lG tt) g' q1⟩
 .obtain⟨w0,hw0,ok⟩:=g p _ hp;obtain⟨w1,w2,w3,w4⟩:=ok.no;have fz:Fz X p:=Fz.of I hw0 w1 w2 w3;refine dZ (he pins s σ H (λv H1=>Ts H H1/\∃d G1,RD X.K H1 d v/\HR X.K H1 G1/\(R d G1∨((∃od,G1 p=aj (.rnm od kvs))/\R d (aH G1 p (.nU kvs))))) I ⟨ρ,G,_,sr,g,q,λv H1 d G1 t1 r1 g1 q1=>⟨t1,d,G1,r1,g1,q1⟩⟩) ?_;rintro u s1 ⟨v,H1,I1,r1,t1,d,G1,rd,g1,q1⟩;rcases q1 with q1|⟨⟨od,e1⟩,q1⟩
  .exact⟨v,H1,I1,r1,kk v _ d _ t1 rd g1 q1⟩
  obtain⟨w,hw,v1,tt,g'⟩:=aAU g1 e1
  have isd:∃en ep,od.data=.dict en ep:=by
   obtain⟨o,hq,ok'⟩:=g1 p _ e1;have hod:=(show s1.heap.get? p=aj od/\_ from I1.hok p _ hq).1;obtain⟨xs,_,_,o1,es1,ep1,g1',_,g3,_⟩:=ae3 I1 (.inr ⟨od,hq⟩) ok';rw[hod]at g1';cases g1';exact⟨_,_,g3⟩
  exact⟨v,_,I1.aN3 fz hw v1 isd,r1,kk v _ d _ (fin (λo x z=>by rw[hw0]at z;exact w2 _ _ (jf.inj z)) t1 tt) (rd.lG tt) g' q1⟩
end
section
open PySem.W
abbrev ltN(a b:NK):Bool:=if a.1=b.1 then decide (a.2<b.2)else HT.lexLt a.1 b.1
section
variable{X:Cx}{pins:List (bw×Obj)}{s:cu}
def aaH(I:Inv X pins σ H s){k:NK}{v:V}(r:RD X.K H (nkD k) v)(rv:RelV v u):∃a o n b t,u=.ref a/\s.heap.get? a=aj o/\o.cls=aq.type "tuple"/\o.data=.seq #[.ref b,.int k.2 t] n/\RD X.K H (.tup (k.1.map D.int)) (.ref b):=by
 unfold nkD at r;cases r with
 |@tup a zs _ hq rz _ =>
  obtain rfl:u=aq.ref a:=rv;obtain⟨its,vi,⟨o,h1,h2,n,h3⟩,_⟩:=I.tuple hq;cases rz with
  |cons ra rb =>
  cases rb with
  |cons rb rn =>
  cases rn;cases rb;cases vi with
  |cons va vb =>
  cases vb with
  |cons vb vn =>
  cases vn;obtain⟨t,rfl⟩:=vb;cases ra with
  |@tup b ys _ hb rbs eb =>
  cases va;exact⟨a,o,n,b,t,rfl,h1,h2,h3,.tup hb rbs eb⟩
def aoJ(I:Inv X pins σ H s)(r:RD X.K H (.tup (ns.map D.int)) (.ref b)):∃its,IsTup s.heap b its/\a1b its.toList ns:=by
 cases r with
 |@tup _ ys _ hb rbs eb =>
  obtain⟨its,vi,p,_⟩:=I.tuple hb;have e:ys=ns.map V.int:=a6X rbs;subst e;exact⟨its.toArray,p,by simpa using intsAre_of vi⟩
def ae4(I:Inv X pins σ H s):∀{ks:List NK}{xs:List V}{us:List aq},dB X.K H (ks.map nkD) xs->Vals xs us->∃fs:List aq,KatTups s.heap us fs/\fs.length=ks.length/\∀v∈fs,∃b o,v=.ref b/\s.heap.get? b=aj o/\o.cls=aq.type "tuple"
 |[],_,_,.nil,.nil=>⟨[],trivial,rfl,λv h=>by cases h⟩
 |k::ks,_,_,.cons r rs,.cons v vs=>by
  obtain⟨fs,k1,k2,k3⟩:=ae4 I rs vs;obtain⟨a,o,n,b,t,rfl,h1,h2,h3,rb⟩:=aaH I r v;refine⟨.ref b::fs,KatTups.cons h1 h2 h3 rfl k1,by simp[k2],λu hu=>?_⟩;rcases jd.mp hu with rfl|hu
  .cases rb with
   |@tup _ ys _ hb rbs eb =>
    obtain⟨its,vi,⟨o2,q1,q2,_⟩,_⟩:=I.tuple hb;exact⟨b,o2,rfl,q1,q2⟩
  .exact k3 u hu
def aHJ(I:Inv X pins σ H s)(hu:A.units+32<jr){ks:List NK}{us:List aq}(r:dB X.K H (ks.map nkD) xs)(rv:Vals xs us)(l2:2<=us.length){kf:Nat->Int}(hkf:∀i j a b,ks[i]?=aj a->ks[j]?=aj b->ltN a b=decide (kf i<kf j)) :
  ∃κ,(∀Q:SortKind->cu->Prop,Q κ s->dg (dw X.prog X.w) A (keyKind' us.toArray) Q (λ_ _=>False) s)/\∀i j (C:Bool->cu->Prop),i<us.length->j<us.length->C (decide (kf i<kf j)) s->kas_ask X.prog X.w A κ us i j C s:=by
 obtain⟨fs,k1,k2,k3⟩:=ae4 I r rv;have lx:xs.length=ks.length:=by rw[←r.length,gk]
 have len:us.length=ks.length:=by rw[←rv.length,lx]
 refine⟨tuples' (aq.type "tuple"!=aq.type "tuple"),λQ hQ=>kat_kind k1 (by omega) (λv hv=>?_) (by simp) hQ,λi j C hi hj hC=>?_⟩
 .obtain⟨b,o,rfl,q1,q2⟩:=k3 v hv;rw[←q2];exact(Looks.ld q1).andThen .now
 .have get:∀i,i<us.length->∃k v,ks[i]?=aj k/\RD X.K H (nkD k) v/\RelV v (us.getD i aq.none):=λi hi=>by
   obtain⟨v,e1,rd⟩:=r.get (i:=i) (d:=nkD (ks[i]'(by omega))) (by simp[vm,gV (show i<ks.length by omega)]);obtain⟨u,e2,ru⟩:=rv.get e1;exact⟨_,v,gV (by omega),rd,by simpa[su,e2]using ru⟩
  obtain⟨ka,va,ea,ra,ua⟩:=get i hi;obtain⟨kb,vb,eb,rb,ub⟩:=get j hj;obtain⟨a,o,n,b,t,ga,h1,h2,h3,rb1⟩:=aaH I ra ua;obtain⟨a',o',n',b',t',gb,g1,g2,g3,rb2⟩:=aaH I rb ub;rw[←hkf i j ka kb ea eb]at hC;unfold kas_ask;rw[ga,gb,show(aq.type "tuple"!=aq.type "tuple")=ao by simp];obtain⟨i1,p1,q1⟩:=aoJ I rb1;obtain⟨i2,p2,q2⟩:=aoJ I rb2;refine kat_lt h1 h3 g1 g3 ?_;show KatLex X.prog X.w A ao _ C [(.ref b,.ref b'),(.int ka.2 t,.int kb.2 t')] 0 s;unfold ltN at hC;have E1:=a3Q I 8 A _ _ _ _ (.ref b) (.ref b') (by omega) (ae2 7 ka.1) (ae2 7 kb.1) rb1 rb2 rfl rfl;rw[eqP,ae1]at E1;refine kat_cons (E1 _ _ _ _ (kat_go (λe=>kat_yes (kat_cons (wpAny_eqBool_int (kat_go (λe3=>kat_yes (kat_nil ?_)) λe3=>kat_no (kat_one _ _ ?_))))) λe=>kat_no (kat_one _ _ (HT.al6 p1 p2 q1 q2 (by omega) ?_))))
  .rw[if_pos (of_decide_eq_true e)]at hC;have:ka.2=kb.2:=by simpa using e3
   rw[this]at hC;simpa using hC
  .rw[if_pos (of_decide_eq_true e)]at hC;exact HT.ahD _ _ _ _ _ _ _ _ _ _ hC
  .rw[if_neg (of_decide_eq_false e)]at hC;exact hC
end
section
variable{X:Cx}
abbrev aN7(ds:List D)(G:Gp)(R:iB):Prop:=∃(ks:List NK)(kf:Nat->Int),ds=ks.map nkD/\ks.length<64/\(∀i j a b,ks[i]?=aj a->ks[j]?=aj b->ltN a b=decide (kf i<kf j))/\(∀i j,i<ks.length->j<ks.length->kf i=kf j->i=j)/\∀q:Array Nat,Pm ks.length q->Up kf q ks.length->∀r,G r=au->R (.ref r) (aH G r (.lst (q.toList.map λi=>ds.getD i .non)))
abbrev a5J:List D->Gp->iB->Prop:=λxs G R=>match xs with
 |[.ref a]=>∃ds,bH G a=aj ds/\aN7 ds G R
 |_=>False
def ae5{K:Fg}{ds:List D}{xs:List V}(r:dB K H ds xs):∀{l:List Nat},(∀i∈l,i<ds.length)->dB K H (l.map λi=>ds.getD i .non) (l.map λi=>xs.getD i .non)
 |[],_=>.nil
 |i::l,h=>by
  have hi:=h i (by simp);obtain⟨v,e1,rd⟩:=r.get (gV hi);have e2:ds.getD i .non=ds[i]:=by simp[su,hi]
  have e3:xs.getD i .non=v:=by simp[su,e1]
  refine .cons ?_ (ae5 r λj hj=>h j (by simp[hj]));show RD K H (ds.getD i .non) (xs.getD i .non);rw[e2,e3];exact rd
private theorem aAV(hu:X.A.units+64<jr):cX X (.builtin "sorted") a5J:=by
 intro pins s σ H xs vs us G R Q I rx rv g q k;have big:1000<dh:=by decide
 unfold a5J at q;split at q
 .rename_i a;obtain⟨ds,e1,ks,kf,rfl,h64,hkf,hd,h⟩:=q;cases rx with
  |cons r1 rr =>
  cases rr;cases r1;cases rv with
  |cons rv rr =>
  cases rr;cases rv;obtain⟨zs,hq,r⟩:=cC g e1;obtain⟨its,vi,pl,_⟩:=I.list hq;have lz:zs.length=ks.length:=by rw[←r.length,gk]
  have li:its.length=ks.length:=by rw[←vi.length,lz]
  refine aiC (kf:=kf) pl.isList (by omega) (λi j hi hj e=>hd i j (by omega) (by omega) e) (λl2 h' kp=>aHJ (s:={s with heap:=h' }) (I.kept (t':=s.toks) kp) (by show X.A.units+1+1+32<jr;omega) r vi l2 hkf) λq P u=>?_;rw[li]at P u;have hin:∀i∈q.toList,i<ks.length:=λi hi=>yc.mp (P.perm.mem_iff.mp hi);have fr:H (s.heap.objs.size+1)=au:=I.hok.fresh (a0r _);have sn:Same H (upd H (s.heap.objs.size+1) (.lst (q.toList.map λi=>zs.getD i .non))):=bO fr;obtain⟨c,hc⟩:=auZ (h:=s.heap) (vs:=its) (out:=(q.toList.map λi=>its.getD i aq.none).toArray)
  have J:Inv X pins σ (upd H (s.heap.objs.size+1) (.lst (q.toList.map λi=>zs.getD i .non))) {s with heap:=sortedAll s.heap its (q.toList.map λi=>its.getD i aq.none).toArray} :=
   I.laid (t':=s.toks) (λb o e=>ao1 e) (a0r _) ⟨by rw[gk,vf,P.size];omega,_,c,a1L vi λi hi=>by rw[lz];exact hin i hi,hc⟩
  exact⟨.ref (s.heap.objs.size+1),_,J,rfl,k _ _ (.ref _) _ (.same sn) (.ref _) (g.put (u:=.lst _) fr ⟨_,aM,(ae5 r λi hi=>by rw[gk];exact hin i hi).mono (.same sn)⟩) (h q P u _ (jE g fr (qX J)))⟩
 .exact q.elim
end
end
section
open PySem.W
section
variable{X:Cx}
def alT{σ:St}{H:Hp}{s:cu}(I:Inv X pins σ H s)(k:∀b u,s.heap.get? b=aj u->h1.get? b=aj u){ys:Nat->List V}(nd:as.Nodup)(hi:∀a∈as,s.heap.objs.size<a)
  (ht:∀j a,as[j]?=aj a->Vals (ys j) (us j)/\(ys j).length<=dh/\IsTup h1 a (us j).toArray)(hl:as.length<=dh)(hS:h1.get? s.heap.objs.size=aj (oh "list" (as.map aq.ref).toArray c)) :
  ∃H1,Inv X pins σ H1 {s with heap:=h1,toks:=tk}/\Same H H1/\H1 s.heap.objs.size=aj (.lst (as.map V.ref))/\∀j a,as[j]?=aj a->H1 a=aj (.tup (ys j)):=by
 have fr:∀a∈as,H a=au:=λa ha=>I.hok.fresh (xu (hi a ha));have f0:H s.heap.objs.size=au:=I.hok.fresh (dz _)
 let H1:Hp:=λb=>if b=s.heap.objs.size then aj (.lst (as.map V.ref))else if b∈as then aj (.tup (ys (as.idxOf b)))else H b
 have e0:H1 s.heap.objs.size=aj (.lst (as.map V.ref)):=if_pos rfl;have e1:∀{b},b≠s.heap.objs.size->H1 b=if b∈as then aj (.tup (ys (as.idxOf b)))else H b:=λn=>if_neg n
 have sm:Same H H1:=λb o e=>by
  rw[e1 (λz=>by rw[z,f0]at e;cases e),if_neg (λz=>by rw[fr b z]at e;cases e)];exact e
 have at1:∀j a,as[j]?=aj a->H1 a=aj (.tup (ys j)):=λj a e=>by
  obtain⟨hj,e2⟩:=jk.mp e;have ma:=jz e;rw[e1 (a1n (hi a ma)),if_pos ma,←e2,nd.idxOf_getElem]
 refine⟨H1,I.grown k sm λb u e=>?_,sm,e0,at1⟩;by_cases y:b=s.heap.objs.size
 .subst y;rw[e0]at e;cases e;exact .inr ⟨dz _,by rw[gk];exact hl,_,c,afS as,hS⟩
 .by_cases z:b∈as
  .right;refine⟨xu (hi b z),?_⟩;obtain⟨j,hj⟩:=List.mem_iff_getElem?.mp z;rw[at1 j b hj]at e;cases e;obtain⟨t1,t2,t3⟩:=ht j b hj;exact⟨t2,us j,t1,t3⟩
  .left;rw[e1 y,if_neg z]at e;exact e
abbrev a99(x:D)(G:Gp)(R:iB):Prop:=match x with
 |.ref a=>∃ps:List (Int×Int),G a=aj (.cF ao (ps.map rK))/\ps.length<1000000/\∀l,G l=au->R (.ref l) (aH G l (.lst (ps.map dR)))
 |_=>False
abbrev a9A(to:cJ):cJ:=λρ G R=>to ρ G λx G1=>a99 x G1 R
def aAW{o:jq}{x:Str}{apos cpos p:Pos}(hc:X.calm=ak)(ho:cO X o to)(hg:Gl X x)(hm:X.mg x=au)(hv:mz x=aj (.type "list"))(hn:x≠"__name__")(hdb:(x==("__debug__":Str))=ao)
  (hbase:uh o "items" X.env (eval o X.env)=eval o X.env)(hline:(apos.endLine==cpos.line)=ak) :
  cO X (.Call (.Name x p) [.Call (.Attribute o "items" apos) [] [] cpos] [] pos) (a9A to):=by
 intro pins s σ H Q I h;have big:1000000<dh:=by decide
 obtain⟨ρ,G,R,sr,g,q,kk⟩:=h;refine xg (a3M I hg hm hv ?_ hn hdb);refine PyProof.Rows.callWith_type1 (Calls.spliced_cons ?_);refine a0y hbase hline (dZ (ho pins s σ H (λvx H1=>Ts H H1/\∃x G1,RD X.K H1 x vx/\HR X.K H1 G1/\a99 x G1 R) I ⟨ρ,G,_,sr,g,q,λv H1 x G1 t1 r1 g1 q1=>⟨t1,x,G1,r1,g1,q1⟩⟩) ?_);rintro v s1 ⟨vx,H1,I1,r1,t1,x1,G1,rx,g1,q1⟩;cases x1 with
 |ref a =>
  obtain⟨ps,e1,pl,hq⟩:=q1;cases rx;obtain rfl:v=aq.ref a:=r1;rcases g1 a _ e1 with⟨_,ys,ed,tw⟩|⟨z,_⟩
  .have ey:=aaD tw;subst ey;obtain⟨h1,h2,h3⟩:=a9N I1 (.inl ⟨_,.inl ed⟩);refine⟨"dict","dict.items",PySem.F.plainAttrs_dict,PySem.F.slot_dict_items,PySem.F.type_dict_items,h1,h2,Calls.callWith_builtin rfl (PySem.evalArgs_none ?_)⟩;obtain⟨z1,hsm,vs,kv,hd⟩:=a9M I1.hok ed;refine call_meetsIn PySem.F.slot_dict_items h1 PySem.F.entry_dict_items (PySem.F.args_dict_items_1 _) (meets_dict_items (aK X.prog X.w) a hsm) ⟨⟨vs,hd⟩,?_⟩;refine Calls.spliced_nil ?_;obtain⟨l1,l2,l3⟩:=a5G kv;obtain⟨o,es,ep,q1,q2,q3,q4,q5,q6⟩:=hd;have I2:Inv X pins σ H1 {s1 with heap:=s1.heap.push {cls:=.type "dict_items",data:=.fields #[.ref a]},toks:=s1.toks}:=I1.kept λb o e=>cg _ e;have hat:(s1.heap.push {cls:=.type "dict_items",data:=.fields #[.ref a]}).DictAt (aK X.prog X.w) a vs ep:=⟨o,es,cg _ q1,q2,q3,q4,q5,q6⟩;have hvw:(s1.heap.push {cls:=.type "dict_items",data:=.fields #[.ref a]}).IsItemsView s1.heap.objs.size a:=⟨_,iw _ rfl,rfl,rfl⟩;generalize s1.heap.push {cls:=.type "dict_items",data:=.fields #[.ref a]}=hp at *;refine kdx_call (s:={s1 with heap:=hp}) (knd:=aK X.prog X.w) (I1.ok.hd hc) hvw hat (by omega) λh' tk acc c as k2 hS hl hG hacc=>?_
   have ex:∀j:Nat,∃uu:List aq,∀b,as[j]?=aj b->Vals [V.int (ps.getD j (0,0)).1,V.int (ps.getD j (0,0)).2] uu/\IsTup h' b uu.toArray:=λj=>by
    cases ea:as[j]? with
    |none=>exact⟨[],λb z=>by cases z⟩
    |some b =>
     obtain⟨key,kk,x,p1,p2,p3⟩:=hG.pairs j b ea;have hj:j<ps.length:=by rw[←l1,←hl];exact(jk.mp ea).1
     obtain⟨t,p4⟩:=l3 j ps[j] (gV hj);rw[p4]at p1;cases p1;have gd:ps.getD j (0,0)=ps[j]:=getD_at hj;refine⟨[key,aq.int ps[j].2 t],λb' z=>?_⟩;cases z;rw[gd];refine⟨.cons ?_ (.cons ⟨t,rfl⟩ .nil),⟨_,p3,rfl,_,rfl⟩⟩;rcases d9 (show a4Q (Sum.inl ps[j].1) key=ak from p2)with⟨i,t',e1,e2⟩|⟨i,t',e1,e2⟩
     .cases e1;exact⟨t',e2⟩
     .cases e1
   obtain⟨us,hus⟩:=Classical.axiomOfChoice ex;have la:as.length=ps.length:=hl.trans l1;have hS2:h'.get? hp.objs.size=aj (oh "list" (as.map aq.ref).toArray c):=by rw[←hacc];simpa using hS
   obtain⟨H2,J,sm,e0,at1⟩:=alT (tk:=tk) (c:=c) I2 k2 (as:=as) (ys:=λj=>[V.int (ps.getD j (0,0)).1,V.int (ps.getD j (0,0)).2]) (us:=us) (hG.rise.imp jc) (λb hb=>hG.above b hb) (λj b e=>⟨(hus j b e).1,by show 2<=dh;omega,(hus j b e).2⟩) (by omega) hS2
   have rds:dB X.K H2 (ps.map dR) (as.map V.ref):=aaE la λj b p e1 e2=>by
    have z:=at1 j b e1;obtain⟨hj,e3⟩:=jk.mp e2;rw[getD_at hj,e3]at z;exact z
   have fr:H1 hp.objs.size=au:=I2.hok.fresh (dz _);refine⟨.ref hp.objs.size,_,J,rfl,kk _ _ (.ref _) _ (t1.trans (.same sm)) (.ref _) (λb u e=>?_) (hq _ (jE (o:=.lst []) g1 fr λb o e=>by rw[bA (λz=>by have:=qX J b o e;rw[z,e0]at this;cases this)];exact qX I2 b o e))⟩;by_cases y:b=hp.objs.size
   .subst y;rw[aD]at e;cases e;exact⟨_,e0,rds⟩
   .rw[aW y]at e;exact(g1 b u e).keep (.same sm) λw z=>sm b w z
  .cases z
 |_=>exact q1.elim
end
end
section
open PySem.W
section
variable{X:Cx}
abbrev aaI:R3:=λx y G R=>ai1 x y G R∨aDJ ak x y G R
def aHK(hu:X.A.units+64<jr):nH X (jg .NotEq) aaI:=zX λpins s σ H x y vx vy u v G R Q I rx ry ru rv g q k=>by
 have go:∀{r3:R3},nH X (jg .NotEq) r3->r3 x y G R->dg (dw X.prog X.w) X.A (jg .NotEq u v) (EP X pins σ Q) X.xe s:=λo z=>by
  obtain⟨r,h1,h2⟩:=o;exact h1 pins s σ H vx vy u v Q I ru rv (h2 H x y vx vy G R Q rx ry g z k)
 rcases q with q|q
 .exact go (aDC hu) q
 .exact go (aN2 (neg:=true) hu) q
end
end
end L2
namespace L4
open PySem PySem.Spec PyProof.Rows L2
inductive BF where
 |len|isi|min|max|sum|aiO|a7X|avK|ae6|aiP|aoK
 deriving DecidableEq
inductive MK where
 |append|pop|a6Z
 deriving DecidableEq
inductive DM where
 |sdf|pop
 deriving DecidableEq
inductive GT where
 |con (d:D)|cls (a:bw)|fn (sp:qK) (n:Nat) (qt:Bool)|bf (b:BF)|bt (n:String)|kl (C:bw) (sp:qK) (dd:List D)|me (C:bw) (m:Str) (sp:qK) (dd:List D)|fl (C:bw) (f:Str)
structure SI where
 N:List Str
 fl:List Bool
 lc:List Bool
 ce:List Bool
 gl:List (Str×GT)
 gv:List Bool
 calm:Bool
mutual
inductive CE where
 |var (i:Nat)|con (d:D)|glo (k:Nat)|neg (a:CE)|aAY (a:CE)|bin (o:Operator) (a b:CE)|cmp (o:vh) (a b:CE)|chain (o o':vh) (a b c:CE)
 |avL (es:CEs)|tup (es:CEs)|lst (es:CEs)|dct|ix (a b:CE)|call (k:Nat) (es:CEs)|meth (m:MK) (o:CE) (es:CEs)
 |comp (fl gv:List Bool) (ci:CI) (cc:CC) (e:CE)|eqd (neg:Bool) (a b:CE)|fld (k:Nat) (o:CE)|mD (k:Nat) (o:CE) (es:CEs)|dix (a b:CE)|din (neg:Bool) (a b:CE)|dgt (o e f:CE)|arA|dm (m:DM) (o e:CE) (es:CEs)|sortI (k:Nat) (o:CE)|aB0 (k:Nat) (o:CE)|avM|nix (a b:CE)|ngt (o e f:CE)|thw (i:Nat) (a:CE)|listI (k:Nat) (o:CE)
inductive CEs where
 |nil|cons (e:CE) (r:CEs)
inductive CT where
 |cmp (o:vh) (a b:CE)|chain (o o':vh) (a b c:CE)|not (t:CT)|and (ts:CTs)|or (ts:CTs)|val (e:CE)|eqd (neg:Bool) (a b:CE)|din (neg:Bool) (a b:CE)|nld (a b:CE)
inductive CTs where
 |nil|cons (t:CT) (r:CTs)
inductive CO where
 |none|some (e:CE)
inductive CI where
 |any (e:CE)|alU (e:CE)|keys (e:CE)|a2Q (e:CE)
inductive CC where
 |none|some (t:CT)
end
@[simp]def SI.cmp(S:SI)(xs:List Str)(fl gv:List Bool):SI:=⟨xs++S.N,xs.map (λ_=>ak)++fl,xs.map (λ_=>ak)++S.N.map (λ_=>ao),xs.map (λ_=>ao)++fl,S.gl,gv,S.calm⟩
abbrev alV:cJ:=λ_ _ _=>False
abbrev aDP:TT3:=λ_ _ _=>False
abbrev NoX:aP->aZ:=λ_ _ _=>False
abbrev aDQ:Operator->R3
 |.Add=>eX
 |.Sub=>adJ
 |.Mult=>yQ
 |.FloorDiv=>eO
 |.Mod=>cN
 |.Pow=>adK
 |_=>λ_ _ _ _=>False
abbrev aaJ:vh->R3
 |.Eq=>lE
 |.NotEq=>zK
 |.Lt=>aqL
 |.LtE=>atH
 |.Gt=>ac7
 |.GtE=>aM3
 |.Is=>aFP
 |.IsNot=>atL
 |.In=>aMI
 |.NotIn=>anP
abbrev avN:Bool->R3
 |true=>ai1
 |false=>a7T
abbrev aN8(K:Fg):BF->List D->Gp->iB->Prop
 |.len=>zY
 |.isi=>aJ K
 |.min=>afK
 |.max=>afJ
 |.sum=>anU
 |.aiO=>a1M
 |.a7X=>xQ
 |.avK=>a6R
 |.ae6=>rJ
 |.aiP=>xR
 |.aoK=>a5J
abbrev aHM(n:String):List D->Gp->iB->Prop:=if n="int" then ahS else if n="list" then a9V else if n="str" then aDH else if n="tuple" then ao6 else λ_ _ _=>False
abbrev dmN:DM->Str
 |.sdf=>"setdefault"
 |.pop=>"pop"
abbrev dmR:DM->RM3
 |.sdf=>a7U
 |.pop=>a6Q
abbrev mkT:MK->String
 |.append=>"list"
 |.pop=>"list"
 |.a6Z=>"list"
abbrev mkR:MK->RM3
 |.append=>wA
 |.pop=>aDD
 |.a6Z=>wF
abbrev mkN:MK->Str
 |.append=>"append"
 |.pop=>"pop"
 |.a6Z=>"index"
abbrev aHN(T:List (Str×GT))(k:Nat):cJ:=match T[k]? with
 |some (_,.con d)=>aY d
 |some (_,.cls a)=>aY (.ref a)
 |some (_,.bt n)=>aY (.ty n)
 |_=>alV
abbrev aHO(T:List (Str×GT))(K:Fg)(ex:aP->aZ)(k:Nat)(t:xG):cJ:=match T[k]? with
 |some (_,.fn sp _ _)=>aR sp ex t
 |some (_,.cls a)=>auM a t
 |some (_,.bf b)=>iW (aN8 K b) t
 |some (_,.bt n)=>iW (aHM n) t
 |some (_,.kl C sp dd)=>a6O C sp dd ex t
 |_=>alV
abbrev aHP(T:List (Str×GT))(k:Nat)(t:cJ):cJ:=match T[k]? with
 |some (_,.fl C f)=>lA C t f
 |_=>alV
abbrev aHQ(T:List (Str×GT))(ex:aP->aZ)(k:Nat)(to:cJ)(t:xG):cJ:=match T[k]? with
 |some (_,.me C m sp dd)=>gB C m sp dd ex to t
 |_=>alV
abbrev aHR:Bool->R3
 |true=>auU
 |false=>ai9
mutual
noncomputable def mE(T:List (Str×GT))(K:Fg)(ex:aP->aZ):CE->cJ
 |.var i=>aB i
 |.con d=>aY d
 |.glo k=>aHN T k
 |.neg a=>ahP (mE T K ex a)
 |.aAY a=>afB (mE T K ex a)
 |.bin o a b=>aG (aDQ o) (mE T K ex a) (mE T K ex b)
 |.cmp o a b=>aG (aaJ o) (mE T K ex a) (mE T K ex b)
 |.chain o o' a b c=>uE (aaJ o) (aaJ o') (mE T K ex a) (mE T K ex b) (mE T K ex c)
 |.avL es=>aHS T K ex es
 |.tup es=>fM (mA T K ex es)
 |.lst es=>mR (mA T K ex es)
 |.dct=>a3R
 |.ix a b=>aG cW (mE T K ex a) (mE T K ex b)
 |.call k es=>aHO T K ex k (mA T K ex es)
 |.meth m o .nil=>aGA (mkT m) (mkR m) (mE T K ex o)
 |.meth m o (.cons e r)=>tM3 (mkT m) (mkR m) (mE T K ex o) (aA (mE T K ex e) (mA T K ex r))
 |.comp _ _ ci cc e=>qL (mI T K ex ci) (mC T K cc) (mE T K NoX e)
 |.eqd neg a b=>aG (avN neg) (mE T K ex a) (mE T K ex b)
 |.fld k o=>aHP T k (mE T K ex o)
 |.mD k o es=>aHQ T ex k (mE T K ex o) (mA T K ex es)
 |.dix a b=>aG sW (mE T K ex a) (mE T K ex b)
 |.din neg a b=>aG (aHR neg) (mE T K ex a) (mE T K ex b)
 |.dgt o e f=>uG (mE T K ex o) (mE T K ex e) (mE T K ex f)
 |.arA=>a1I
 |.dm m o e es=>alK (dmR m) (mE T K ex o) (aA (mE T K ex e) (mA T K ex es))
 |.sortI _ o=>a5H (mE T K ex o)
 |.aB0 _ o=>afT (mE T K ex o)
 |.avM=>a5I
 |.nix a b=>aG sX (mE T K ex a) (mE T K ex b)
 |.ngt o e f=>a6Y (mE T K ex o) (mE T K ex e) (mE T K ex f)
 |.thw i a=>a7W i (mE T K ex a)
 |.listI _ o=>a9A (mE T K ex o)
noncomputable def mA(T:List (Str×GT))(K:Fg)(ex:aP->aZ):CEs->xG
 |.nil=>aF
 |.cons e r=>aA (mE T K ex e) (mA T K ex r)
noncomputable def aHS(T:List (Str×GT))(K:Fg)(ex:aP->aZ):CEs->cJ
 |.nil=>alV
 |.cons e .nil=>mE T K ex e
 |.cons e (.cons e' r)=>a3O (mE T K ex e) (aHS T K ex (.cons e' r))
noncomputable def mOr(T:List (Str×GT))(K:Fg)(ex:aP->aZ):CEs->cJ
 |.nil=>alV
 |.cons e .nil=>mE T K ex e
 |.cons e (.cons e' r)=>aD2 (mE T K ex e) (mOr T K ex (.cons e' r))
noncomputable def mT(T:List (Str×GT))(K:Fg)(ex:aP->aZ):CT->TT3
 |.cmp o a b=>aQ (aG (aaJ o) (mE T K ex a) (mE T K ex b))
 |.chain o o' a b c=>aQ (uE (aaJ o) (aaJ o') (mE T K ex a) (mE T K ex b) (mE T K ex c))
 |.not t=>qY (mT T K ex t)
 |.and ts=>avO T K ex ts
 |.or ts=>aHT T K ex ts
 |.val e=>aQ (mE T K ex e)
 |.eqd neg a b=>aQ (aG (avN neg) (mE T K ex a) (mE T K ex b))
 |.din neg a b=>aQ (aG (aHR neg) (mE T K ex a) (mE T K ex b))
 |.nld a b=>aQ (aG aaI (mE T K ex a) (mE T K ex b))
noncomputable def avO(T:List (Str×GT))(K:Fg)(ex:aP->aZ):CTs->TT3
 |.nil=>aDP
 |.cons e .nil=>mT T K ex e
 |.cons e (.cons e' r)=>yP (mT T K ex e) (avO T K ex (.cons e' r))
noncomputable def aHT(T:List (Str×GT))(K:Fg)(ex:aP->aZ):CTs->TT3
 |.nil=>aDP
 |.cons e .nil=>mT T K ex e
 |.cons e (.cons e' r)=>afA (mT T K ex e) (aHT T K ex (.cons e' r))
noncomputable def mO(T:List (Str×GT))(K:Fg)(ex:aP->aZ):CO->TO3
 |.none=>ahI
 |.some e=>atN (mE T K ex e)
noncomputable def mI(T:List (Str×GT))(K:Fg)(ex:aP->aZ):CI->TI3
 |.any e=>a6K (mE T K ex e)
 |.alU e=>a3S (aA (mE T K ex e) aF)
 |.keys e=>a3U ak (mE T K ex e)
 |.a2Q e=>pA (mE T K ex e)
noncomputable def mC(T:List (Str×GT))(K:Fg):CC->TT3
 |.none=>aa1
 |.some t=>mT T K NoX t
end
abbrev isStar:jq->Bool
 |.Starred ..=>ak
 |_=>ao
abbrev isSlice:jq->Bool
 |.Slice ..=>ak
 |_=>ao
abbrev bV:jq->Bool
 |.Call (.Name id _) [] [] _=>id !=("super":Str)
 |_=>ak
abbrev isSet:jq->Bool
 |.Set ..=>ak
 |_=>ao
abbrev aHU:BF->String
 |.len=>"len"
 |.isi=>"isinstance"
 |.min=>"min"
 |.max=>"max"
 |.sum=>"sum"
 |.aiO=>"dict"
 |.a7X=>"sorted"
 |.avK=>"len"
 |.ae6=>"sorted"
 |.aiP=>"dict"
 |.aoK=>"sorted"
abbrev avP:BF->aq
 |.aiO=>.type "dict"
 |.aiP=>.type "dict"
 |b=>.builtin (aHU b)
abbrev alW:BF->Bool
 |.len=>ak
 |.isi=>ak
 |.avK=>ak
 |.a7X=>ak
 |_=>ao
abbrev a5K(S:SI):Bool:=(kj S.gl.length).any λk=>S.gv[k]?==aj ak&&match S.gl[k]? with
 |some (y,.bt n)=>y==("range":Str)&&n=="range"
 |_=>ao
abbrev aHV(S:SI)(y:Str):Bool:=(kj S.N.length).any λi=>S.N[i]?==aj y&&S.ce[i]?==aj ak
abbrev afU:List Str->Bool
 |[]=>ak
 |x::r=>!r.contains x&&afU r
abbrev a7Y(S:SI)(xs:List Str)(scope:zc)(fl gv:List Bool):Bool :=
 scope.kind==.function&&scope.names.all (λy=>y.2 !=.cell&&(y.2 !=.local||scope.names.lookup y.1==aj .local)&&(y.2 !=.free||aHV S y.1)) &&
 xs.all (λx=>scope.names.lookup x==aj .local&&!S.N.contains x&&x !=("__debug__":Str)&&x !=("__classdict__":Str))&&afU xs &&
 S.N.all (λy=>scope.names.lookup y !=aj .local) &&
 (kj S.N.length).all (λi=>fl[i]? !=aj ak||(S.fl[i]?==aj ak&&match S.N[i]? with
  |some y=>scope.names.lookup y==aj .free
  |none=>ao)) &&
 (kj S.gl.length).all (λk=>gv[k]? !=aj ak||match S.gl[k]? with
  |some (y,_)=>scope.names.lookup y==aj .globalImplicit
  |none=>ao)
abbrev aDR:D->Const->Bool
 |.int i,.int j=>i==j
 |.str s,.str t=>s==t
 |.bl b,.bool c=>b==c
 |.non,.none=>ak
 |_,_=>ao
abbrev plainT:jq->Bool
 |.UnaryOp .Not _ _=>ao
 |.BoolOp ..=>ao
 |.IfExp ..=>ao
 |.Compare ..=>ao
 |_=>ak
abbrev avQ(S:SI)(k:Nat)(x:Str):Bool:=match S.gl[k]? with
 |some (y,.con _)=>y==x
 |some (y,.cls _)=>y==x
 |some (y,.bt _)=>y==x
 |_=>ao
abbrev aoL(S:SI)(k:Nat)(x:Str)(e:Bool):Bool:=match S.gl[k]? with
 |some (y,.fn _ _ qt)=>y==x&&(qt||S.calm)
 |some (y,.cls _)=>y==x
 |some (y,.bf b)=>y==x&&e&&(S.calm||alW b)
 |some (y,.bt _)=>y==x&&e
 |some (y,.kl _ _ _)=>y==x&&S.calm
 |_=>ao
abbrev arB(S:SI)(k:Nat)(x:Str):Bool:=match S.gl[k]? with
 |some (_,.fl _ f)=>f==x
 |_=>ao
abbrev aB1(S:SI)(k:Nat)(x:Str):Bool:=match S.gl[k]? with
 |some (_,.me _ m _ _)=>m==x
 |_=>ao
abbrev arC(S:SI)(k:Nat)(x:Str)(nm:String):Bool:=match S.gl[k]? with
 |some (y,.bf b)=>y==x&&avP b==.builtin nm
 |_=>ao
abbrev aB2(S:SI)(k:Nat)(x:Str)(nm:String):Bool:=match S.gl[k]? with
 |some (y,.bt n)=>y==x&&n==nm
 |_=>ao
abbrev a05:jq->Option (jq×Str×Bool)
 |.Call (.Attribute y n ap) [] [] cp=>aj (y,n,ap.endLine==cp.line)
 |_=>au
mutual
noncomputable def kE(S:SI):CE->jq->Bool
 |.var i,.Name x _=>S.N[i]?==aj x&&S.fl[i]?==aj ak
 |.con d,.Constant c _ _=>aDR d c
 |.glo k,.Name x _=>S.gv[k]?==aj ak&&avQ S k x
 |.neg a,.UnaryOp .USub e _=>kE S a e
 |.aAY a,.UnaryOp .Not e _=>kE S a e
 |.bin o a b,.BinOp x o' y _=>o==o'&&kE S a x&&kE S b y
 |.cmp o a b,.Compare x [o'] [y] _=>o==o'&&!behindInMarks o' y&&kE S a x&&kE S b y
 |.chain o o' a b c,.Compare x [p,p'] [y,z] _=>o==p&&o'==p'&&!lastMarks [p,p'] [y,z]&&kE S a x&&kE S b y&&kE S c z
 |.avL es,.BoolOp .And xs _=>vX S es xs
 |.tup es,.Tuple xs _ _=>vX S es xs
 |.lst es,.List xs _=>vX S es xs
 |.dct,.Dict [] [] _=>ak
 |.ix a b,.Subscript x y _=>!isSlice y&&kE S a x&&kE S b y
 |.call k es,.Call (.Name x _) xs [] _=>vX S es xs&&S.gv[k]?==aj ak&&aoL S k x (!xs.isEmpty)
 |.meth m o es,.Call (.Attribute y n ap) xs [] cp=>n==mkN m&&bV y&&ap.endLine==cp.line&&decide (xs.length<30)&&kE S o y&&vX S es xs
 |.comp fl gv ci cc e,.ListComp elt [⟨.Name x _,iter,ifs,a⟩] scope _=>a==0&&a7Y S [x] scope fl gv&&!isSet iter&&kI S ao ci iter&&kC (S.cmp [x] fl gv) cc ifs&&kE (S.cmp [x] fl gv) e elt
 |.eqd neg a b,.Compare x [o'] [y] _=>o'==(if neg then vh.NotEq else vh.Eq)&&kE S a x&&kE S b y
 |.fld k o,.Attribute y n _=>arB S k n&&bV y&&kE S o y
 |.mD k o es,.Call (.Attribute y n ap) xs [] cp=>aB1 S k n&&S.calm&&bV y&&ap.endLine==cp.line&&decide (xs.length<30)&&kE S o y&&vX S es xs
 |.dix a b,.Subscript x y _=>!isSlice y&&kE S a x&&kE S b y
 |.din neg a b,.Compare x [o'] [y] _=>o'==(if neg then vh.NotIn else vh.In)&&!behindInMarks o' y&&kE S a x&&kE S b y
 |.dgt o e f,.Call (.Attribute y n ap) [x,z] [] cp=>n==("get":Str)&&bV y&&ap.endLine==cp.line&&!isStar x&&!isStar z&&kE S o y&&kE S e x&&kE S f z
 |.arA,.Dict [] [] _=>ak
 |.dm m o e es,.Call (.Attribute y n ap) (x::xs) [] cp=>n==dmN m&&bV y&&ap.endLine==cp.line&&decide ((x::xs).length<30)&&kE S o y&&!isStar x&&kE S e x&&vX S es xs
 |.sortI k o,.Call (.Name x _) [w] [] _=>S.calm&&S.gv[k]?==aj ak&&arC S k x "sorted"&&(match a05 w with
  |some (y,n,l)=>l&&n==("items":Str)&&bV y&&kE S o y
  |none=>ao)
 |.aB0 k o,.Call (.Name x _) [w] [] _=>S.calm&&S.gv[k]?==aj ak&&arC S k x "sum"&&(match a05 w with
  |some (y,n,l)=>l&&n==("values":Str)&&bV y&&kE S o y
  |none=>ao)
 |.avM,.Dict [] [] _=>ak
 |.nix a b,.Subscript x y _=>!isSlice y&&kE S a x&&kE S b y
 |.ngt o e f,.Call (.Attribute y n ap) [x,z] [] cp=>n==("get":Str)&&bV y&&ap.endLine==cp.line&&!isStar x&&!isStar z&&kE S o y&&kE S e x&&kE S f z
 |.thw _ a,x=>kE S a x
 |.listI k o,.Call (.Name x _) [w] [] _=>S.calm&&S.gv[k]?==aj ak&&aB2 S k x "list"&&(match a05 w with
  |some (y,n,l)=>l&&n==("items":Str)&&bV y&&kE S o y
  |none=>ao)
 |_,_=>ao
noncomputable def vX(S:SI):CEs->List jq->Bool
 |.nil,[]=>ak
 |.cons e r,x::xs=>!isStar x&&kE S e x&&vX S r xs
 |_,_=>ao
noncomputable def kT(S:SI):CT->jq->Bool
 |.cmp o a b,.Compare x [o'] [y] _=>o==o'&&!behindInMarks o' y&&kE S a x&&kE S b y
 |.chain o o' a b c,.Compare x [p,p'] [y,z] _=>o==p&&o'==p'&&!lastMarks [p,p'] [y,z]&&kE S a x&&kE S b y&&kE S c z
 |.not t,.UnaryOp .Not e _=>kT S t e
 |.and ts,.BoolOp .And xs _=>kTs S ts xs
 |.or ts,.BoolOp .Or xs _=>kTs S ts xs
 |.eqd neg a b,.Compare x [o'] [y] _=>o'==(if neg then vh.NotEq else vh.Eq)&&kE S a x&&kE S b y
 |.din neg a b,.Compare x [o'] [y] _=>o'==(if neg then vh.NotIn else vh.In)&&!behindInMarks o' y&&kE S a x&&kE S b y
 |.nld a b,.Compare x [o'] [y] _=>o'==vh.NotEq&&kE S a x&&kE S b y
 |.val e,x=>plainT x&&kE S e x
 |_,_=>ao
noncomputable def kTs(S:SI):CTs->List jq->Bool
 |.nil,[]=>ak
 |.cons e r,x::xs=>kT S e x&&kTs S r xs
 |_,_=>ao
noncomputable def kO(S:SI):CO->Option jq->Bool
 |.none,au=>ak
 |.some e,aj x=>kE S e x
 |_,_=>ao
noncomputable def kI(S:SI)(tt:Bool):CI->jq->Bool
 |.any e,x=>kE S e x
 |.alU e,.Call (.Name r _) [y] [] _=>r==("range":Str)&&a5K S&&!isStar y&&kE S e y
 |.keys e,x=>S.calm&&kE S e x
 |.a2Q e,x=>S.calm&&kE S e x
 |_,_=>ao
noncomputable def kC(S:SI):CC->List jq->Bool
 |.none,[]=>ak
 |.some t,[x]=>kT S t x
 |_,_=>ao
end
end L4
namespace L4
open PySem PySem.Spec PyProof.Rows L2
variable{env:Env}
def bG(h:isStar e=ao):ji (e::es) env=(ao,eval e env)::ji es env:=by
 cases e<;>first|rfl|(exact absurd (show ak=ao from h) (by decide))
def sY{env:Env}{pos:Pos}:∀{cs:CEs}{xs:List jq},vX S cs xs=ak->(tu pos (ji xs env)).any (·.1)=ao
 |.nil,[],_=>rfl
 |.nil,_::_,h=>absurd (show ao=ak from h) (by decide)
 |.cons _ _,[],h=>absurd (show ao=ak from h) (by decide)
 |.cons e r,x::xs,h=>by
  have h':(!isStar x&&kE S e x&&vX S r xs)=ak:=h;simp only[bx,iu]at h';rw[bG h'.1.1];show(ao||(tu pos (ji xs env)).any (·.1))=ao;rw[sY h'.2];rfl
def iG{o:jq}{n:Str}(h:bV o=ak):uh o n env (eval o env)=eval o env:=by
 cases o with
 |Call f args kws pos =>
  cases f with
  |Name id p =>
   cases args with
   |nil =>
    cases kws with
    |nil =>
     have h':(id !=("super":Str))=ak:=h;unfold uh;simp only[h',Bool.true_or,if_true]
    |cons _ _=>rfl
   |cons _ _=>cases kws<;>rfl
  |_=>rfl
 |_=>rfl
@[simp]def BMv:List aq:=[.type "ValueError",.type "Exception",.type "BaseException",.type "object"]
abbrev aNA(X:Cx)(cm:Bool)(x:Str):GT->Prop
 |.con d=>∃u v,X.mg x=aj u/\RelV v u/\∀H,RD X.K H d v
 |.cls a=>X.mg x=aj (.ref a)/\yx X.K a BMv "ValueError.__new__"=ak
 |.fn sp n qt=>(qt=ak∨cm=ak)->∃k f fd ps,cH qt X.prog X.w X.K X.mg X.base (lX X.prog X.w) k f fd ps (d8 X.K sp)/\lW qt k X.A/\X.mg x=aj (.ref f)/\uf X.K (.ref f)=ak/\Binds X.K fd ps []
 |.bf b=>X.mg x=au/\mz x=aj (avP b)
 |.bt n=>X.mg x=au/\mz x=aj (.type n)
 |.kl C sp dd=>cm=ak->∃k f fd ps ds dvs,Mk X.K C f/\cH ao X.prog X.w X.K X.mg X.base (lX X.prog X.w) k f fd ps (d8 X.K sp)/\lW ao (k+1) X.A/\X.mg x=aj (.ref C)/\Binds X.K fd ps ds/\Vals dvs ds/\∀H,dB X.K H dd dvs
 |.me C m sp dd=>cm=ak->∃k f fd ps ds dvs,Cls X.K C/\Meth X.K C m f/\cH ao X.prog X.w X.K X.mg X.base (lX X.prog X.w) k f fd ps (d8 X.K sp)/\lW ao k X.A/\Binds X.K fd ps ds/\Vals dvs ds/\∀H,dB X.K H dd dvs
 |.fl C f=>Cls X.K C/\nT X.K C f
structure rM(X:Cx)(S:SI)(ex:aP->aZ):Prop where
 N:X.N=S.N
 nd:X.N.Nodup
 vis:∀(i:Nat)(x:Str),S.N[i]?=aj x->S.fl[i]?=aj ak->Vis X.env.scope x/\(x==("__debug__":Str))=ao/\(x==("__classdict__":Str))=ao
 ce:∀(i:Nat)(x:Str),S.N[i]?=aj x->S.ce[i]?=aj ak->X.env.kindOf x=aj .cell∨X.env.kindOf x=aj .free
 gm:∀(k:Nat)(x:Str)(g:GT),S.gl[k]?=aj (x,g)->(S.gv[k]?=aj ak->Gl X x)/\(x==("__debug__":Str))=ao/\x≠"__name__"/\aNA X S.calm x g
 hu:X.A.units+64<jr
 cm:S.calm=ak->X.calm=ak
 cat:Cat X ex
def rM.gl{S:SI}{ex:aP->aZ}(Q:rM X S ex)(k:Nat)(x:Str)(g:GT)(h:S.gl[k]?=aj (x,g))(hv:S.gv[k]?=aj ak):Gl X x/\(x==("__debug__":Str))=ao/\x≠"__name__"/\aNA X S.calm x g :=
 ⟨(Q.gm k x g h).1 hv,(Q.gm k x g h).2⟩
section
variable{X:Cx}{ex:aP->aZ}
def avR:cO X e alV:=λ_ _ _ _ _ _ ⟨_,_,_,_,_,z,_⟩=>z.elim
def aB3{o:Operator}:a9S X (xr o) (aDQ o):=by
 have no:∀{f:aq->aq->Sem aq},a9S X f (λ_ _ _ _=>False):=λ{f}=>⟨λ_ _ _ _=>False,λ_ _ _ _ _ _ _ _ _ _ _ _ h=>h.elim,λ_ _ _ _ _ _ _ _ _ _ _ h _=>h.elim⟩;exact match o with
 |.Add=>aM4
 |.Sub=>aLZ
 |.Mult=>aM0
 |.FloorDiv=>aFO
 |.Mod=>aM1
 |.Pow=>aM2
 |.MatMult=>no
 |.Div=>no
 |.LShift=>no
 |.RShift=>no
 |.BitOr=>no
 |.BitXor=>no
 |.BitAnd=>no
def a1N{o:vh}(hu:X.A.units+64<jr):nH X (jg o) (aaJ o):=by
 exact match o with
 |.Eq=>aR4 hu
 |.NotEq=>aR5 hu
 |.Lt=>aQE
 |.LtE=>aQH
 |.Gt=>aQF
 |.GtE=>aQG
 |.Is=>aQI
 |.IsNot=>aFQ
 |.In=>aR7 hu
 |.NotIn=>azN hu
private theorem aNB{n:String}:cX X (.type n) (aHM n):=by
 unfold aHM;split
 ·rename_i h;subst h;exact aMG
 .split
  ·rename_i h;subst h;exact aG5
  .split
   ·rename_i h;subst h;exact aN1
   .split
    ·rename_i h;subst h;exact aAI
    .exact λ_ _ _ _ _ _ _ _ _ _ _ _ _ _ h _=>h.elim
def avS{qt:Bool}{k:Nat}{x:Str}{p pos:Pos}(F:cH qt X.prog X.w X.K X.mg X.base (lX X.prog X.w) k f fd ps (d8 X.K sp))(hr:lW qt k X.A)(hg:Gl X x)(hm:X.mg x=aj (.ref f))(hk:uf X.K (.ref f)=ak)(hb:Binds X.K fd ps [])(hx:Cat X ex)
  (hdb:(x==("__debug__":Str))=ao):cO X (.Call (.Name x p) [] [] pos) (aR sp ex aF):=by
 intro pins s σ H Q I h;obtain⟨ρ,G,R,sr,g,q,kk⟩:=h;refine xg (rD I hg hm ?_ hdb);refine a2v I.kIn hk ?_;exact anM (E:=a2P X.K (ex ρ)) F hr hb (λe s' c=>hx.ahJ pins σ H s ρ e s' I sr c) I .nil (Q:=λv H'=>∃d G',RD X.K H' d v/\HR X.K H' G'/\R d G') ⟨[],G,R,ex ρ,.nil,g,q,λv H' d G' r2 g2 q2=>⟨d,G',r2,g2,q2⟩,λC H' G' g' q'=>⟨C,G',rfl,g',q'⟩⟩ (by rintro v H' t2 ⟨d,G',r2,g2,q2⟩;exact kk v H' d G' t2 r2 g2 q2)
def a06{xs:List jq}{cs:CEs}(h:vX S cs xs=ak)(hl:xs.length<30):((tu cp (ji xs X.env)).all (λx=>!x.1)&&(backToKw cp (a0f [] X.env)).all (λx=>x.1.isSome)
   &&decide (xs.length+([]:List a0k).length+(if([]:List a0k).isEmpty then 0 else 1)<30))=ak:=by
 have h1:(tu cp (ji xs X.env)).all (λx=>!x.1)=ak:=by
  rw[jy];intro y hy;have:=sY (env:=X.env) (pos:=cp) h;rw[List.any_eq_false]at this;have:=this y hy;simpa using this
 have h2:(decide (xs.length+([]:List a0k).length+(if([]:List a0k).isEmpty then 0 else 1)<30))=ak:=decide_eq_true (by simpa using hl);rw[h1,h2];rfl
end
end L4
namespace L4
open PySem PySem.Spec PyProof.Rows L2
variable{j:Nat}{pos p ap cp:Pos}{x:Str}{m:MK}{o:jq}{cs:CEs}{env:Env}{neg:Bool}
section
variable{X:Cx}{S:SI}{ex:aP->aZ}
def aHW{c:Const}(h:aDR d c=ak):cO X (.Constant c j pos) (aY d):=by
 cases d<;>cases c<;>first|exact absurd (show ao=ak from h) (by decide)|skip
 .exact aLL
 .have:=beq_iff_eq.mp h;subst this;exact aQA
 .have:=beq_iff_eq.mp h;subst this;exact aLK
 .have:=beq_iff_eq.mp h;subst this;exact aLM
def aHX{e:jq}(h:plainT e=ak):∀whole,isTrue e X.env whole=(do let v ←whole;standAt e.pos;holding [v] (truthy v)):=by
 cases e with
 |UnaryOp op x p=>cases op<;>first|exact absurd (show ao=ak from h) (by decide)|(intro _;rfl)
 |BoolOp _ _ _=>exact absurd (show ao=ak from h) (by decide)
 |IfExp _ _ _ _=>exact absurd (show ao=ak from h) (by decide)
 |Compare _ _ _ _=>exact absurd (show ao=ak from h) (by decide)
 |_=>intro _;rfl
def avT(h:isSlice e=ao):af0 e:=by
 cases e with
 |Slice _ _ _ _=>exact absurd (show ak=ao from h) (by decide)
 |_=>intro _ _;rfl
def aNC(Q:rM X S ex){k:Nat}{b:BF}(hk:S.gl[k]?=aj (x,.bf b))(hv:S.gv[k]?=aj ak)(hc:(S.calm||alW b)=ak){t:xG}(ha:PA3 X (e::es) t)(he:isStar e=ao)(hp:(tu pos (ji es X.env)).any (·.1)=ao):cO X (.Call (.Name x p) (e::es) [] pos) (iW (aN8 X.K b) t):=by
 obtain⟨h1,h2,h3,h4⟩:=Q.gl _ _ _ hk hv
 have cm:alW b=ao->X.calm=ak:=λz=>by
  rw[z,Bool.or_false]at hc;exact Q.cm hc
 cases b with
 |len=>exact rE aMF h1 h4.1 h4.2 ha h3 h2 (bG he) hp
 |isi=>exact rE afE h1 h4.1 h4.2 ha h3 h2 (bG he) hp
 |min=>exact rE (aGT (cm rfl)) h1 h4.1 h4.2 ha h3 h2 (bG he) hp
 |max=>exact rE (aGS (cm rfl)) h1 h4.1 h4.2 ha h3 h2 (bG he) hp
 |sum=>exact rE (aMT (cm rfl)) h1 h4.1 h4.2 ha h3 h2 (bG he) hp
 |aiO=>exact a9U (aAE (cm rfl) Q.hu) h1 h4.1 h4.2 ha h3 h2 (bG he) hp
 |a7X=>exact rE aA7 h1 h4.1 h4.2 ha h3 h2 (bG he) hp
 |avK=>exact rE aH3 h1 h4.1 h4.2 ha h3 h2 (bG he) hp
 |ae6=>exact rE (aAH (cm rfl)) h1 h4.1 h4.2 ha h3 h2 (bG he) hp
 |aiP=>exact a9U (aAK (cm rfl)) h1 h4.1 h4.2 ha h3 h2 (bG he) hp
 |aoK=>exact rE (aAV Q.hu) h1 h4.1 h4.2 ha h3 h2 (bG he) hp
def aB4(ho:cO X o to)(hb:bV o=ak)(hl:(ap.endLine==cp.line)=ak):cO X (.Call (.Attribute o (mkN m) ap) [] [] cp) (aGA (mkT m) (mkR m) to):=by
 cases m with
 |append=>exact atZ PySem.F.plainAttrs_list PySem.F.slot_list_append PySem.F.type_list_append ahU ho (iG hb) hl
 |pop=>exact atZ PySem.F.plainAttrs_list PySem.F.slot_list_pop PySem.F.type_list_pop aDE ho (iG hb) hl
 |a6Z=>exact atZ PySem.F.plainAttrs_list PySem.F.slot_list_index PySem.F.type_list_index aiJ ho (iG hb) hl
def avU{t:xG}(ho:cO X o to)(ha:PA3 X (e::es) t)(hb:bV o=ak)(hl:(ap.endLine==cp.line)=ak)(hk:vX S cs (e::es)=ak)(hn:(e::es).length<30) :
  cO X (.Call (.Attribute o (mkN m) ap) (e::es) [] cp) (tM3 (mkT m) (mkR m) to t):=by
 have he:isStar e=ao:=by
  cases cs with
  |nil=>exact absurd (show ao=ak from hk) (by decide)
  |cons c r =>
   have h':(!isStar e&&kE S c e&&vX S r es)=ak:=hk;simp only[bx,iu]at h';exact h'.1.1
 have hp:(tu cp (ji es X.env)).any (·.1)=ao:=by
  have:=sY (env:=X.env) (pos:=cp) hk;rw[bG he]at this;have z:(ao||(tu cp (ji es X.env)).any (·.1))=ao:=this;simpa using z
 cases m with
 |append=>exact aGB PySem.F.plainAttrs_list PySem.F.slot_list_append PySem.F.type_list_append ahU ho ha (iG hb) (a06 hk hn) hl (bG he) hp
 |pop=>exact aGB PySem.F.plainAttrs_list PySem.F.slot_list_pop PySem.F.type_list_pop aDE ho ha (iG hb) (a06 hk hn) hl (bG he) hp
 |a6Z=>exact aGB PySem.F.plainAttrs_list PySem.F.slot_list_index PySem.F.type_list_index aiJ ho ha (iG hb) (a06 hk hn) hl (bG he) hp
def aND{m:DM}{t:xG}(hu:X.A.units+64<jr)(ho:cO X o to)(ha:PA3 X (e::es) t)(hb:bV o=ak)(hl:(ap.endLine==cp.line)=ak)(hk:vX S cs (e::es)=ak)(hn:(e::es).length<30) :
  cO X (.Call (.Attribute o (dmN m) ap) (e::es) [] cp) (alK (dmR m) to t):=by
 have he:isStar e=ao:=by
  cases cs with
  |nil=>exact absurd (show ao=ak from hk) (by decide)
  |cons c r =>
   have h':(!isStar e&&kE S c e&&vX S r es)=ak:=hk;simp only[bx,iu]at h';exact h'.1.1
 have hp:(tu cp (ji es X.env)).any (·.1)=ao:=by
  have:=sY (env:=X.env) (pos:=cp) hk;rw[bG he]at this;have z:(ao||(tu cp (ji es X.env)).any (·.1))=ao:=this;simpa using z
 cases m with
 |sdf=>exact aMZ PySem.F.slot_dict_setdefault PySem.F.type_dict_setdefault (aN0 hu) ho ha (iG hb) (a06 hk hn) hl (bG he) hp
 |pop=>exact aMZ PySem.F.slot_dict_pop PySem.F.type_dict_pop (aH2 hu) ho ha (iG hb) (a06 hk hn) hl (bG he) hp
local macro_rules| `(tactic| walk_at "off")=>`(tactic| exact absurd (show ao=ak from by assumption) (by decide))
private theorem aHY(Q:rM X S ex){k:Nat}(h:kE S (.glo k) (.Name x p)=ak):cO X (.Name x p) (aHN S.gl k):=by
 have h':(S.gv[k]?==aj ak&&avQ S k x)=ak:=h;rw[bx]at h';obtain⟨hv,h⟩:=h';have hv:=beq_iff_eq.mp hv;unfold avQ at h;unfold aHN;split at h
 .rename_i y d hk;have:=beq_iff_eq.mp h;subst this;obtain⟨h1,h2,h3,u,v,h4,h5,h6⟩:=Q.gl _ _ _ hk hv;exact atE h1 h4 h5 h6 h2
 .rename_i y d hk;have:=beq_iff_eq.mp h;subst this;obtain⟨h1,h2,h3,h4⟩:=Q.gl _ _ _ hk hv;exact atE h1 h4.1 (v:=.ref d) rfl (λ_=>.ref _) h2
 .rename_i y d hk;have:=beq_iff_eq.mp h;subst this;obtain⟨h1,h2,h3,h4⟩:=Q.gl _ _ _ hk hv;exact aFK h1 h4.1 h4.2 h3 h2
 .exact absurd h (by decide)
private theorem aB5(Q:rM X S ex){k:Nat}{xs:List jq}(ha:PA3 X xs (mA S.gl X.K ex es))(hk:vX S es xs=ak)(hv:S.gv[k]?=aj ak)(h:aoL S k x (!xs.isEmpty)=ak):cO X (.Call (.Name x p) xs [] pos) (aHO S.gl X.K ex k (mA S.gl X.K ex es)):=by
 unfold aoL at h;unfold aHO
 have one:∀{e:jq}{r:List jq},xs=e::r->isStar e=ao/\(tu pos (ji r X.env)).any (·.1)=ao:=λ{e r} z=>by
  subst z;cases es with
  |nil=>exact absurd (show ao=ak from hk) (by decide)
  |cons c cr =>
   have h':(!isStar e&&kE S c e&&vX S cr r)=ak:=hk;simp only[bx,iu]at h';exact⟨h'.1.1,sY h'.2⟩
 split at h
 .rename_i y sp n qt hg;rw[bx]at h;obtain⟨h,hc⟩:=h;have:=beq_iff_eq.mp h;subst this;obtain⟨h1,h2,h3,h4⟩:=Q.gl _ _ _ hg hv;obtain⟨j,f,fd,ps,F,hr,hm,hkp,hb⟩:=h4 (a2q _ _ |>.mp hc);cases xs with
  |nil =>
   cases es with
   |nil=>exact avS F hr h1 hm hkp hb Q.cat h2
   |cons _ _=>exact absurd (show ao=ak from hk) (by decide)
  |cons e r=>exact azI F hr h1 hm hkp hb Q.cat ha h2 (bG (one rfl).1) (one rfl).2
 .rename_i y a hg;have:=beq_iff_eq.mp h;subst this;obtain⟨h1,h2,h3,h4,h5⟩:=Q.gl _ _ _ hg hv;cases xs with
  |nil =>
   cases es with
   |nil=>exact aGV PySem.F.excBase_ValueError (by decide) PySem.F.excBase_ValueError h1 h4 h5 h2
   |cons _ _=>exact absurd (show ao=ak from hk) (by decide)
  |cons e r=>exact aMV PySem.F.excBase_ValueError (by decide) PySem.F.excBase_ValueError h1 h4 h5 ha h2 (bG (one rfl).1) (one rfl).2
 .rename_i y b hg;rw[bx,bx]at h;obtain⟨⟨h,hc⟩,hcm⟩:=h;have:=beq_iff_eq.mp h;subst this;cases xs with
  |nil=>exact absurd (show ao=ak from hc) (by decide)
  |cons e r=>exact aNC Q hg hv hcm ha (one rfl).1 (one rfl).2
 .rename_i y n hg;rw[bx]at h;obtain⟨h,hc⟩:=h;have:=beq_iff_eq.mp h;subst this;obtain⟨h1,h2,h3,h4⟩:=Q.gl _ _ _ hg hv;cases xs with
  |nil=>exact absurd (show ao=ak from hc) (by decide)
  |cons e r=>exact a9U aNB h1 h4.1 h4.2 ha h3 h2 (bG (one rfl).1) (one rfl).2
 .rename_i y C sp dd hg;rw[bx]at h;obtain⟨h,hc⟩:=h;have:=beq_iff_eq.mp h;subst this;obtain⟨h1,h2,h3,h4⟩:=Q.gl _ _ _ hg hv;obtain⟨kk,f,fd,ps,ds,dvs,q1,q2,q3,q4,q5,q6,q7⟩:=h4 hc;cases xs with
  |nil =>
   cases es with
   |nil=>exact auQ q1 q2 q3 h1 q4 q5 q6 q7 Q.cat h2
   |cons _ _=>exact absurd (show ao=ak from hk) (by decide)
  |cons e r=>exact aA2 q1 q2 q3 h1 q4 q5 q6 q7 Q.cat ha h2 (bG (one rfl).1) (one rfl).2
 .exact absurd h (by decide)
def sZ{names:List (Str×uw)}{k:uw}(h:names.lookup y=aj k) :
  (names.map λ(n,k)=>if(k==.free&&env.scope.kind==.function&&env.kindOf n==aj .cell)then(n,.cell)else(n,k)).lookup y=aj k ∨
  (k=.free/\(names.map λ(n,k)=>if(k==.free&&env.scope.kind==.function&&env.kindOf n==aj .cell)then(n,.cell)else(n,k)).lookup y=aj .cell):=by
 induction names with
 |nil=>simp at h
 |cons p r ih =>
  obtain⟨n,kd⟩:=p;rw[ud]at h;show yd y ((if(kd==.free&&env.scope.kind==.function&&env.kindOf n==aj .cell)=ak then(n,uw.cell)else(n,kd))::_)=aj k∨(k=.free/\yd y ((if(kd==.free&&env.scope.kind==.function&&env.kindOf n==aj .cell)=ak then(n,uw.cell)else(n,kd))::_)=aj .cell);cases hx:y==n with
  |true =>
   rw[hx]at h;have hkd:kd=k:=by simpa using h
   subst hkd;by_cases hc:(kd==.free&&env.scope.kind==.function&&env.kindOf n==aj .cell)=ak
   .rw[if_pos hc,ud,hx];refine .inr ⟨?_,rfl⟩;simp only[bx,beq_iff_eq]at hc;exact hc.1.1
   .rw[if_neg hc,ud,hx];exact .inl rfl
  |false =>
   rw[hx]at h;have z:=ih h;by_cases hc:(kd==.free&&env.scope.kind==.function&&env.kindOf n==aj .cell)=ak
   .rw[if_pos hc,ud,hx];exact z
   .rw[if_neg hc,ud,hx];exact z
def ae7:∀{xs:List Str},afU xs=ak->xs.Nodup
 |[],_=>a0u
 |x::r,h=>by
  have h':(!r.contains x&&afU r)=ak:=h;rw[bx]at h';exact wj.mpr ⟨by simpa using h'.1,ae7 h'.2⟩
def a7Z{xs:List Str}{scope:zc}{fl gv:List Bool}(h:a7Y S xs scope fl gv=ak) :
  scope.kind=.function/\(∀y∈scope.names,y.2≠.cell/\(y.2=.local->scope.names.lookup y.1=aj .local)/\(y.2=.free->aHV S y.1=ak)) /\
  (∀x∈xs,scope.names.lookup x=aj .local/\x∉S.N/\(x==("__debug__":Str))=ao/\(x==("__classdict__":Str))=ao)/\xs.Nodup/\(∀y∈S.N,scope.names.lookup y≠aj .local) /\
  (∀(i:Nat)(y:Str),S.N[i]?=aj y->fl[i]?=aj ak->S.fl[i]?=aj ak/\scope.names.lookup y=aj .free) /\
  ∀(k:Nat)(y:Str)(g:GT),S.gl[k]?=aj (y,g)->gv[k]?=aj ak->scope.names.lookup y=aj .globalImplicit:=by
 unfold a7Y at h;simp only[bx]at h;obtain⟨⟨⟨⟨⟨⟨h1,h2⟩,h3⟩,h4⟩,h5⟩,h8⟩,h9⟩:=h;refine⟨beq_iff_eq.mp h1,λy hy=>?_,λx hx=>?_,ae7 h4,λy hy=>?_,λi y e1 e2=>?_,λk y g e1 e2=>?_⟩
 .have z:=jy.mp h2 y hy;simp only[bx,bne_iff_ne,ne_eq,a2q,beq_iff_eq]at z;obtain⟨⟨z1,z2⟩,z3⟩:=z;exact⟨z1,λe=>z2.resolve_left λn=>n e,λe=>z3.resolve_left λn=>n e⟩
 .have z:=jy.mp h3 x hx;simp only[bx]at z;obtain⟨⟨⟨z1,z2⟩,z3⟩,z4⟩:=z;exact⟨beq_iff_eq.mp z1,by simpa using z2,by simpa using z3,by simpa using z4⟩
 .have z:=jy.mp h5 y hy;simpa using z
 .have z:=jy.mp h8 i (yc.mpr (jk.mp e1).1);rw[e2,e1]at z;simpa using z
 .have z:=jy.mp h9 k (yc.mpr (jk.mp e1).1);rw[e2,e1]at z;simpa using z
def wG(Q:rM X S ex){fl gv:List Bool}(h:a7Y S xs scope fl gv=ak):a00 X xs scope:=by
 obtain⟨h1,h2,h3,h4,h5,h8,h9⟩:=a7Z h;refine⟨h1,λy hy=>(h2 y hy).1,λy hy=>(h2 y hy).2.1,λx hx=>(h3 x hx).1,λy hy e=>?_,λx hx=>by rw[Q.N];exact(h3 x hx).2.1,h4,by rw[Q.N];exact h5⟩;have z:=(h2 y hy).2.2 e;unfold aHV at z;obtain⟨i,_,z⟩:=List.any_eq_true.mp z;rw[bx]at z;exact Q.ce i y.1 (beq_iff_eq.mp z.1) (beq_iff_eq.mp z.2)
def avV{X:Cx}:Cat X NoX:=⟨by rintro _ _ _ _ _ _ _ _ _ ⟨_,_,_,_,_,_,_,_,_,_,_,_,_,_,_,_,z⟩;exact z.elim⟩
def ae8{α:Type}{xs ys:List α}{i:Nat}{y:α}(h:(xs++ys)[i]?=aj y):(i<xs.length/\y∈xs)∨∃j,i=xs.length+j/\ys[j]?=aj y:=by
 by_cases c:i<xs.length
 .rw[a0p c]at h;exact .inl ⟨c,jz h⟩
 .rw[zf (by omega)]at h;exact .inr ⟨i - xs.length,by omega,h⟩
def aoM{α β:Type}{xs:List α}{f:α->β}{ys:List β}:(xs.map f++ys)[xs.length+j]?=ys[j]?:=by
 rw[zf (by simp)];congr 1;simp
def rM.cmp(Q:rM X S ex){fl gv:List Bool}(h:a7Y S xs scope fl gv=ak)(C:bw)(s:cu)(H:Hp)(fp:List bw)(pins:List (bw×Obj)):rM (rH X xs scope C s H fp pins) (S.cmp xs fl gv) NoX:=by
 obtain⟨h1,h2,h3,h4,h5,h8,h9⟩:=a7Z h;refine⟨by show xs++X.N=xs++S.N;rw[Q.N],au6 (wG Q h) Q.nd,λi y e1 e2=>?_,λi y e1 e2=>?_,λk y g e1=>?_,Q.hu,Q.cm,avV⟩
 .rcases ae8 e1 with⟨_,m⟩|⟨j,rfl,e1'⟩
  .obtain⟨a1,a2,a3,a4⟩:=h3 y m;exact⟨.inl (lookup_relabel_local a1),a3,a4⟩
  .have e2':fl[j]?=aj ak:=aoM.symm.trans e2;obtain⟨a1,a2⟩:=h8 j y e1' e2';obtain⟨_,b2,b3⟩:=Q.vis j y e1' a1;refine⟨?_,b2,b3⟩;rcases sZ (env:=X.env) a2 with z|⟨_,z⟩
   .exact .inr (.inr z)
   .exact .inr (.inl z)
 .rcases ae8 e1 with⟨c,m⟩|⟨j,rfl,e1'⟩
  .have e2':(xs.map (λ_=>ao)++fl)[i]?=aj ak:=e2;rw[a0p (by simpa using c)]at e2';simp at e2'
  .have e2':fl[j]?=aj ak:=aoM.symm.trans e2;obtain⟨a1,a2⟩:=h8 j y e1' e2';rcases sZ (env:=X.env) a2 with z|⟨_,z⟩
   .exact .inr z
   .exact .inl z
 .obtain⟨b1,b2,b3,b4⟩:=Q.gm k y g e1;refine⟨λe2=>?_,b2,b3,?_⟩
  .rcases sZ (env:=X.env) (h9 k y g e1 e2)with z|⟨z,_⟩
   .exact z
   .cases z
  .cases g<;>exact b4
def aoN{o:vh}(hu:X.A.units+64<jr)(h:(o==(if neg then vh.NotEq else vh.Eq))=ak):nH X (jg o) (avN neg):=by
 have:=beq_iff_eq.mp h;subst this;cases neg with
 |true=>exact aDC hu
 |false=>exact aMU hu
private theorem aiQ(Q:rM X S ex)(h:a5K S=ak):Gl X "range"/\X.mg "range"=au:=by
 unfold a5K at h;obtain⟨k,_,h⟩:=List.any_eq_true.mp h;rw[bx]at h;obtain⟨hv,h⟩:=h;split at h
 .rename_i y n e;rw[bx]at h;have:=beq_iff_eq.mp h.1;subst this;obtain⟨g1,g2,g3,g4⟩:=Q.gl _ _ _ e (beq_iff_eq.mp hv);exact⟨g1,g4.1⟩
 .exact absurd h (by decide)
private theorem aoO{k:Nat}(h:arB S k x=ak):∃y C,S.gl[k]?=aj (y,.fl C x):=by
 unfold arB at h;split at h
 .rename_i y C f e;have:=beq_iff_eq.mp h;subst this;exact⟨y,C,e⟩
 .exact absurd h (by decide)
private theorem aB6{k:Nat}(h:aB1 S k x=ak):∃y C sp dd,S.gl[k]?=aj (y,.me C x sp dd):=by
 unfold aB1 at h;split at h
 .rename_i y C m sp dd e;have:=beq_iff_eq.mp h;subst this;exact⟨y,C,sp,dd,e⟩
 .exact absurd h (by decide)
def avW{o:vh}(hu:X.A.units+64<jr)(h:(o==(if neg then vh.NotIn else vh.In))=ak):nH X (jg o) (aHR neg):=by
 have:=beq_iff_eq.mp h;subst this;cases neg with
 |true=>exact aGX hu
 |false=>exact aMY hu
def aB7{m:Str}{args:List jq}(hb:uh o m env (eval o env)=eval o env)(hf:((tu cp (ji args env)).all (λx=>!x.1)&&(backToKw cp (a0f [] env)).all (λx=>x.1.isSome)
   &&decide (args.length+([]:List a0k).length+(if([]:List a0k).isEmpty then 0 else 1)<30))=ak)(hl:(ap.endLine==cp.line)=ak):∃pl:Sem Bool,eval (.Call (.Attribute o m ap) args [] cp) env=(do
   let ov ←eval o env
   standAt ap.atName
   let(f,first) ←holding [ov] (getMethod ov m pl)
   callWith cp f first (tu cp (ji args env)) (backToKw cp (a0f [] env))):=by
 rw[arm_eval_Call,hb];have hform:methodCallForm (args.length+([]:List a0k).length) (tu cp (ji args env)) (backToKw cp (a0f [] env))=ak:=hf;have hpos:methodCallPos ak o env ap cp=pure cp:=by unfold methodCallPos;simp[hl]
 refine⟨?_,?_⟩
 rotate_left
 .unfold methodCall;rw[hform];simp only[hpos,pure_bind];rfl
private theorem aoP(Q:rM X S ex){k:Nat}{nm:String}(h:arC S k x nm=ak)(hv:S.gv[k]?=aj ak):Gl X x/\X.mg x=au/\mz x=aj (.builtin nm)/\x≠"__name__"/\(x==("__debug__":Str))=ao:=by
 unfold arC at h;split at h
 .rename_i y b e;rw[bx]at h;have e1:=beq_iff_eq.mp h.1;have e2:=beq_iff_eq.mp h.2;subst e1;obtain⟨g1,g2,g3,g4⟩:=Q.gl _ _ _ e hv;exact⟨g1,g4.1,by rw[←e2];exact g4.2,g3,g2⟩
 .exact absurd h (by decide)
private theorem aB8(Q:rM X S ex){k:Nat}{nm:String}(h:aB2 S k x nm=ak)(hv:S.gv[k]?=aj ak):Gl X x/\X.mg x=au/\mz x=aj (.type nm)/\x≠"__name__"/\(x==("__debug__":Str))=ao:=by
 unfold aB2 at h;split at h
 .rename_i y b e;rw[bx]at h;have e1:=beq_iff_eq.mp h.1;have e2:=beq_iff_eq.mp h.2;subst e1;obtain⟨g1,g2,g3,g4⟩:=Q.gl _ _ _ e hv;exact⟨g1,g4.1,by rw[←e2];exact g4.2,g3,g2⟩
 .exact absurd h (by decide)
def aaK{w:jq}{n:Str}{l:Bool}(h:a05 w=aj (y,n,l)):∃ap cp,w=.Call (.Attribute y n ap) [] [] cp/\l=(ap.endLine==cp.line):=by
 unfold a05 at h;split at h
 .cases h;exact⟨_,_,rfl,rfl⟩
 .cases h
def avX(h:isSet e=ao):∀x,a1j e env x=pure x:=by
 cases e<;>first|(intro _;rfl)|exact absurd (show ak=ao from h) (by decide)
end
end L4
namespace L4
open PySem PySem.Spec PyProof.Rows L2
def aX{P:Prop}(h:ao=ak):P:=absurd h (by decide)
mutual
theorem iV{X:Cx}{S:SI}{ex:aP->aZ}(Q:rM X S ex):∀(c:CE)(e:jq),kE S c e=ak->cO X e (mE S.gl X.K ex c)
 |.var i,e,h=>by
  cases e with
  |Name x p =>
   have h':(S.N[i]?==aj x&&S.fl[i]?==aj ak)=ak:=h;rw[bx]at h';have e1:=beq_iff_eq.mp h'.1;obtain⟨v1,v2,v3⟩:=Q.vis i x e1 (beq_iff_eq.mp h'.2);exact aLJ i (by rw[Q.N];exact e1) v1 v2 v3
  |_=>exact aX h
 |.con d,e,h=>by
  cases e with
  |Constant c j p=>exact aHW h
  |_=>exact aX h
 |.glo k,e,h=>by
  cases e with
  |Name x p=>exact aHY Q h
  |_=>exact aX h
 |.neg a,e,h=>by
  cases e with
  |UnaryOp op x p =>
   cases op with
   |USub=>exact aMD (iV Q a x h)
   |_=>exact aX h
  |_=>exact aX h
 |.aAY a,e,h=>by
  cases e with
  |UnaryOp op x p =>
   cases op with
   |Not=>exact aLU (iV Q a x h)
   |_=>exact aX h
  |_=>exact aX h
 |.bin o a b,e,h=>by
  cases e with
  |BinOp x o' y p =>
   have h':(o==o'&&kE S a x&&kE S b y)=ak:=h;simp only[bx]at h';have:=beq_iff_eq.mp h'.1.1;subst this;exact aQB aB3 (iV Q a x h'.1.2) (iV Q b y h'.2)
  |_=>exact aX h
 |.cmp o a b,e,h=>by
  cases e with
  |Compare x ops ys p =>
   match ops,ys,h with
   |[o'],[y],h =>
    have h':(o==o'&&!behindInMarks o' y&&kE S a x&&kE S b y)=ak:=h;simp only[bx,iu]at h';have:=beq_iff_eq.mp h'.1.1.1;subst this;exact atF (a1N Q.hu) (iV Q a x h'.1.2) (iV Q b y h'.2) h'.1.1.2
   |[],_,h=>exact aX h
   |_::_::_,_,h=>exact aX h
   |[_],[],h=>exact aX h
   |[_],_::_::_,h=>exact aX h
  |_=>exact aX h
 |.chain o o' a b c,e,h=>by
  cases e with
  |Compare x ops ys p =>
   match ops,ys,h with
   |[p1,p2],[y,z],h =>
    have h':(o==p1&&o'==p2&&!lastMarks [p1,p2] [y,z]&&kE S a x&&kE S b y&&kE S c z)=ak:=h;simp only[bx,iu]at h';have e1:=beq_iff_eq.mp h'.1.1.1.1.1;have e2:=beq_iff_eq.mp h'.1.1.1.1.2;subst e1;subst e2;exact azC (a1N Q.hu) (a1N Q.hu) (iV Q a x h'.1.1.2) (iV Q b y h'.1.2) (iV Q c z h'.2) h'.1.1.1.2
   |[],_,h=>exact aX h
   |[_],_,h=>exact aX h
   |_::_::_::_,_,h=>exact aX h
   |[_,_],[],h=>exact aX h
   |[_,_],[_],h=>exact aX h
   |[_,_],_::_::_::_,h=>exact aX h
  |_=>exact aX h
 |.avL es,e,h=>by
  cases e with
  |BoolOp op xs p =>
   cases op with
   |And=>exact aDS Q es xs p h
   |Or=>exact aX h
  |_=>exact aX h
 |.tup es,e,h=>by
  cases e with
  |Tuple xs j p=>exact aLV (okA Q es xs h)
  |_=>exact aX h
 |.lst es,e,h=>by
  cases e with
  |List xs p=>exact aLW (okA Q es xs h)
  |_=>exact aX h
 |.dct,e,h=>by
  cases e with
  |Dict ks vs p =>
   match ks,vs,h with
   |[],[],_=>exact aGC
   |_::_,_,h=>exact aX h
   |[],_::_,h=>exact aX h
  |_=>exact aX h
 |.ix a b,e,h=>by
  cases e with
  |Subscript x y p =>
   have h':(!isSlice y&&kE S a x&&kE S b y)=ak:=h;simp only[bx,iu]at h';exact aQJ (iV Q a x h'.1.2) (iV Q b y h'.2) (avT h'.1.1)
  |_=>exact aX h
 |.call k es,e,h=>by
  cases e with
  |Call f xs kws p =>
   cases f with
   |Name x q =>
    cases kws with
    |nil =>
     have h':(vX S es xs&&S.gv[k]?==aj ak&&aoL S k x (!xs.isEmpty))=ak:=h;simp only[bx]at h';exact aB5 Q (okA Q es xs h'.1.1) h'.1.1 (beq_iff_eq.mp h'.1.2) h'.2
    |cons _ _=>exact aX h
   |_=>exact aX h
  |_=>exact aX h
 |.meth m o .nil,e,h=>by
  cases e with
  |Call f xs kws p =>
   cases f with
   |Attribute y n ap =>
    cases kws with
    |nil =>
     have h':(n==mkN m&&bV y&&ap.endLine==p.line&&decide (xs.length<30)&&kE S o y&&vX S .nil xs)=ak:=h;simp only[bx]at h';obtain⟨⟨⟨⟨⟨h1,h2⟩,h3⟩,h4⟩,h5⟩,h6⟩:=h';have:=beq_iff_eq.mp h1;subst this;cases xs with
     |nil=>exact aB4 (iV Q o y h5) h2 h3
     |cons _ _=>exact aX h6
    |cons _ _=>exact aX h
   |_=>exact aX h
  |_=>exact aX h
 |.meth m o (.cons c r),e,h=>by
  cases e with
  |Call f xs kws p =>
   cases f with
   |Attribute y n ap =>
    cases kws with
    |nil =>
     have h':(n==mkN m&&bV y&&ap.endLine==p.line&&decide (xs.length<30)&&kE S o y&&vX S (.cons c r) xs)=ak:=h;simp only[bx]at h';obtain⟨⟨⟨⟨⟨h1,h2⟩,h3⟩,h4⟩,h5⟩,h6⟩:=h';have:=beq_iff_eq.mp h1;subst this;cases xs with
     |nil=>exact aX h6
     |cons x xs =>
      have h7:(!isStar x&&kE S c x&&vX S r xs)=ak:=h6;simp only[bx,iu]at h7;exact avU (iV Q o y h5) (a3P (iV Q c x h7.1.2) (okA Q r xs h7.2) (bG h7.1.1)) h2 h3 h6 (of_decide_eq_true h4)
    |cons _ _=>exact aX h
   |_=>exact aX h
  |_=>exact aX h
 |.comp fl gv ci cc c,e,h=>by
  cases e with
  |ListComp elt gens scope p =>
   cases gens with
   |nil=>exact aX h
   |cons g gr =>
    cases gr with
    |cons _ _=>obtain⟨tg,it,ifs,a⟩:=g;cases tg<;>exact aX h
    |nil =>
     obtain⟨tg,it,ifs,a⟩:=g;cases tg with
     |Name x px =>
      have h':(a==0&&a7Y S [x] scope fl gv&&!isSet it&&kI S ao ci it&&kC (S.cmp [x] fl gv) cc ifs&&kE (S.cmp [x] fl gv) c elt)=ak:=h;simp only[bx,iu]at h';obtain⟨⟨⟨⟨⟨h2,h3⟩,h4⟩,h5⟩,h6⟩,h7⟩:=h';have:=beq_iff_eq.mp h2;subst this;exact anS (wG Q h3) (λC s H fp pins σ=>au7 (wG Q h3) Q.nd) ahY (okI (tt:=false) Q (λz=>nomatch z) ci it h5) (λC s H fp pins=>okC (Q.cmp h3 C s H fp pins) cc ifs h6) (λC s H fp pins=>iV (Q.cmp h3 C s H fp pins) c elt h7) (avX h4)
     |_=>exact aX h
  |_=>exact aX h
 |.fld k c,e,h=>by
  cases e with
  |Attribute y n p =>
   have h':(arB S k n&&bV y&&kE S c y)=ak:=h;simp only[bx]at h';obtain⟨z,C,hg⟩:=aoO h'.1.1;obtain⟨_,_,_,g⟩:=Q.gm _ _ _ hg;show cO X _ (aHP S.gl k _);unfold aHP;rw[hg];exact aMW (iV Q c y h'.2) g.1 g.2 (iG h'.1.2)
  |_=>exact aX h
 |.mD k c cs,e,h=>by
  cases e with
  |Call f as ks p =>
   cases f with
   |Attribute y n ap =>
    cases ks with
    |cons _ _=>exact aX h
    |nil =>
     have h':(aB1 S k n&&S.calm&&bV y&&ap.endLine==p.line&&decide (as.length<30)&&kE S c y&&vX S cs as)=ak:=h;simp only[bx]at h';obtain⟨⟨⟨⟨⟨⟨h1,h2⟩,h3⟩,h4⟩,h5⟩,h6⟩,h7⟩:=h';obtain⟨z,C,sp,dd,hg⟩:=aB6 h1;obtain⟨_,_,_,g⟩:=Q.gm _ _ _ hg;obtain⟨kk,f,fd,ps,ds,dvs,q1,q2,q3,q4,q5,q6,q7⟩:=g h2;obtain⟨pl,ht⟩:=aB7 (env:=X.env) (m:=n) (iG h3) (a06 (X:=X) (cp:=p) h7 (of_decide_eq_true h5)) h4;show cO X _ (aHQ S.gl ex k _ _);unfold aHQ;rw[hg];cases cs with
     |nil =>
      cases as with
      |cons _ _=>exact aX h7
      |nil=>exact auP (iV Q c y h6) q1 q2 q3 q4 q5 q6 q7 Q.cat ht
     |cons c1 cr =>
      cases as with
      |nil=>exact aX h7
      |cons a1 ar =>
       have h8:(!isStar a1&&kE S c1 a1&&vX S cr ar)=ak:=h7;simp only[bx,iu]at h8;exact aA1 (iV Q c y h6) q1 q2 q3 q4 q5 q6 q7 Q.cat (a3P (iV Q c1 a1 h8.1.2) (okA Q cr ar h8.2) (bG h8.1.1)) (bG h8.1.1) (sY h8.2) ht
   |_=>exact aX h
  |_=>exact aX h
 |.dix a b,e,h=>by
  cases e with
  |Subscript x y p =>
   have h':(!isSlice y&&kE S a x&&kE S b y)=ak:=h;simp only[bx,iu]at h';exact aMX Q.hu (iV Q a x h'.1.2) (iV Q b y h'.2) (avT h'.1.1)
  |_=>exact aX h
 |.din neg a b,e,h=>by
  cases e with
  |Compare x ops ys p =>
   match ops,ys,h with
   |[o'],[y],h =>
    have h':(o'==(if neg then vh.NotIn else vh.In)&&!behindInMarks o' y&&kE S a x&&kE S b y)=ak:=h;simp only[bx,iu]at h';exact atF (avW Q.hu h'.1.1.1) (iV Q a x h'.1.2) (iV Q b y h'.2) h'.1.1.2
   |[],_,h=>exact aX h
   |_::_::_,_,h=>exact aX h
   |[_],[],h=>exact aX h
   |[_],_::_::_,h=>exact aX h
  |_=>exact aX h
 |.dgt c d f,e,h=>by
  cases e with
  |Call g as ks p =>
   cases g with
   |Attribute y n ap =>
    match as,ks,h with
    |[],_,h=>exact aX h
    |[_],_,h=>exact aX h
    |_::_::_::_,_,h=>exact aX h
    |[_,_],_::_,h=>exact aX h
    |[x,z],[],h =>
     have h':(n==("get":Str)&&bV y&&ap.endLine==p.line&&!isStar x&&!isStar z&&kE S c y&&kE S d x&&kE S f z)=ak:=h;simp only[bx,iu]at h';obtain⟨⟨⟨⟨⟨⟨⟨h0,h1⟩,h2⟩,h3⟩,h4⟩,h5⟩,h6⟩,h7⟩:=h';have:=beq_iff_eq.mp h0;subst this
     have k2:vX S (.cons d (.cons f .nil)) [x,z]=ak:=by
      show(!isStar x&&kE S d x&&(!isStar z&&kE S f z&&ak))=ak;rw[h3,h4,h6,h7];rfl
     exact aA3 Q.hu (iV Q c y h5) (iV Q d x h6) (iV Q f z h7) ⟨iG h1,a06 (X:=X) (cp:=p) k2 (show 2<30 by decide),h2,by rw[bG h3,bG h4];rfl⟩
   |_=>exact aX h
  |_=>exact aX h
 |.avM,e,h=>by
  cases e with
  |Dict ks vs p =>
   match ks,vs,h with
   |[],[],_=>exact aAS
   |_::_,_,h=>exact aX h
   |[],_::_,h=>exact aX h
  |_=>exact aX h
 |.nix a b,e,h=>by
  cases e with
  |Subscript x y p =>
   have h':(!isSlice y&&kE S a x&&kE S b y)=ak:=h;simp only[bx,iu]at h';exact aN4 Q.hu (iV Q a x h'.1.2) (iV Q b y h'.2) (avT h'.1.1)
  |_=>exact aX h
 |.ngt c d f,e,h=>by
  cases e with
  |Call g as ks p =>
   cases g with
   |Attribute y n ap =>
    match as,ks,h with
    |[],_,h=>exact aX h
    |[_],_,h=>exact aX h
    |_::_::_::_,_,h=>exact aX h
    |[_,_],_::_,h=>exact aX h
    |[x,z],[],h =>
     have h':(n==("get":Str)&&bV y&&ap.endLine==p.line&&!isStar x&&!isStar z&&kE S c y&&kE S d x&&kE S f z)=ak:=h;simp only[bx,iu]at h';obtain⟨⟨⟨⟨⟨⟨⟨h0,h1⟩,h2⟩,h3⟩,h4⟩,h5⟩,h6⟩,h7⟩:=h';have:=beq_iff_eq.mp h0;subst this
     have k2:vX S (.cons d (.cons f .nil)) [x,z]=ak:=by
      show(!isStar x&&kE S d x&&(!isStar z&&kE S f z&&ak))=ak;rw[h3,h4,h6,h7];rfl
     exact aHH Q.hu (iV Q c y h5) (iV Q d x h6) (iV Q f z h7) ⟨iG h1,a06 (X:=X) (cp:=p) k2 (show 2<30 by decide),h2,by rw[bG h3,bG h4];rfl⟩
   |_=>exact aX h
  |_=>exact aX h
 |.listI k c,e,h=>by
  cases e with
  |Call f as ks p =>
   cases f with
   |Name x q =>
    match as,ks,h with
    |[],_,h=>exact aX h
    |_::_::_,_,h=>exact aX h
    |[_],_::_,h=>exact aX h
    |[w],[],h =>
     have h':(S.calm&&S.gv[k]?==aj ak&&aB2 S k x "list"&&(match a05 w with
      |some (y,n,l)=>l&&n==("items":Str)&&bV y&&kE S c y
      |none=>ao))=ak:=h
     simp only[bx]at h';obtain⟨⟨⟨h1,h2⟩,h3⟩,h4⟩:=h';cases q2:a05 w with
     |none=>rw[q2]at h4;exact aX h4
     |some z =>
      obtain⟨y,n,l⟩:=z;rw[q2]at h4;simp only[bx]at h4;obtain⟨⟨⟨h5,h6⟩,h7⟩,h8⟩:=h4;have e6:=beq_iff_eq.mp h6;subst e6;obtain⟨ap,cp,rfl,rfl⟩:=aaK q2;obtain⟨g1,g2,g3,g4,g5⟩:=aB8 Q h3 (beq_iff_eq.mp h2);exact aAW (Q.cm h1) (iV Q c y h8) g1 g2 g3 g4 g5 (iG h7) h5
   |_=>exact aX h
  |_=>exact aX h
 |.thw i c,e,h=>aN6 (iV Q c e h)
 |.arA,e,h=>by
  cases e with
  |Dict ks vs p =>
   match ks,vs,h with
   |[],[],_=>exact azO
   |_::_,_,h=>exact aX h
   |[],_::_,h=>exact aX h
  |_=>exact aX h
 |.dm m o c r,e,h=>by
  cases e with
  |Call f xs kws p =>
   cases f with
   |Attribute y n ap =>
    match xs,kws,h with
    |[],_,h=>exact aX h
    |_::_,_::_,h=>exact aX h
    |x::xs,[],h =>
     have h':(n==dmN m&&bV y&&ap.endLine==p.line&&decide ((x::xs).length<30)&&kE S o y&&!isStar x&&kE S c x&&vX S r xs)=ak:=h;simp only[bx]at h';obtain⟨⟨⟨⟨⟨⟨⟨h1,h2⟩,h3⟩,h4⟩,h5⟩,h6⟩,h7⟩,h8⟩:=h';have:=beq_iff_eq.mp h1;subst this
     have hk:vX S (.cons c r) (x::xs)=ak:=by
      show(!isStar x&&kE S c x&&vX S r xs)=ak;rw[h6,h7,h8];rfl
     simp only[iu]at h6;exact aND Q.hu (iV Q o y h5) (a3P (iV Q c x h7) (okA Q r xs h8) (bG h6)) h2 h3 hk (of_decide_eq_true h4)
   |_=>exact aX h
  |_=>exact aX h
 |.sortI k c,e,h=>by
  cases e with
  |Call f as ks p =>
   cases f with
   |Name x q =>
    match as,ks,h with
    |[],_,h=>exact aX h
    |_::_::_,_,h=>exact aX h
    |[_],_::_,h=>exact aX h
    |[w],[],h =>
     have h':(S.calm&&S.gv[k]?==aj ak&&arC S k x "sorted"&&(match a05 w with
      |some (y,n,l)=>l&&n==("items":Str)&&bV y&&kE S c y
      |none=>ao))=ak:=h
     simp only[bx]at h';obtain⟨⟨⟨h1,h2⟩,h3⟩,h4⟩:=h';cases q2:a05 w with
     |none=>rw[q2]at h4;exact aX h4
     |some z =>
      obtain⟨y,n,l⟩:=z;rw[q2]at h4;simp only[bx]at h4;obtain⟨⟨⟨h5,h6⟩,h7⟩,h8⟩:=h4;have e6:=beq_iff_eq.mp h6;subst e6;obtain⟨ap,cp,rfl,rfl⟩:=aaK q2;obtain⟨g1,g2,g3,g4,g5⟩:=aoP Q h3 (beq_iff_eq.mp h2);exact aAL (Q.cm h1) (iV Q c y h8) g1 g2 g3 g4 g5 (iG h7) h5
   |_=>exact aX h
  |_=>exact aX h
 |.aB0 k c,e,h=>by
  cases e with
  |Call f as ks p =>
   cases f with
   |Name x q =>
    match as,ks,h with
    |[],_,h=>exact aX h
    |_::_::_,_,h=>exact aX h
    |[_],_::_,h=>exact aX h
    |[w],[],h =>
     have h':(S.calm&&S.gv[k]?==aj ak&&arC S k x "sum"&&(match a05 w with
      |some (y,n,l)=>l&&n==("values":Str)&&bV y&&kE S c y
      |none=>ao))=ak:=h
     simp only[bx]at h';obtain⟨⟨⟨h1,h2⟩,h3⟩,h4⟩:=h';cases q2:a05 w with
     |none=>rw[q2]at h4;exact aX h4
     |some z =>
      obtain⟨y,n,l⟩:=z;rw[q2]at h4;simp only[bx]at h4;obtain⟨⟨⟨h5,h6⟩,h7⟩,h8⟩:=h4;have e6:=beq_iff_eq.mp h6;subst e6;obtain⟨ap,cp,rfl,rfl⟩:=aaK q2;obtain⟨g1,g2,g3,g4,g5⟩:=aoP Q h3 (beq_iff_eq.mp h2);exact aH7 (Q.cm h1) (iV Q c y h8) g1 g2 g3 g4 g5 (iG h7) h5
   |_=>exact aX h
  |_=>exact aX h
 |.eqd neg a b,e,h=>by
  cases e with
  |Compare x ops ys p =>
   match ops,ys,h with
   |[o'],[y],h =>
    have h':(o'==(if neg then vh.NotEq else vh.Eq)&&kE S a x&&kE S b y)=ak:=h;simp only[bx]at h'
    have hb:yw o' y=ao:=by
     have:=beq_iff_eq.mp h'.1.1;subst this;exact a9H _ (by cases neg<;>decide) (by cases neg<;>decide)
    exact atF (aoN Q.hu h'.1.1) (iV Q a x h'.1.2) (iV Q b y h'.2) hb
   |[],_,h=>exact aX h
   |_::_::_,_,h=>exact aX h
   |[_],[],h=>exact aX h
   |[_],_::_::_,h=>exact aX h
  |_=>exact aX h
theorem okA{X:Cx}{S:SI}{ex:aP->aZ}(Q:rM X S ex):∀(c:CEs)(es:List jq),vX S c es=ak->PA3 X es (mA S.gl X.K ex c)
 |.nil,es,h=>by
  cases es with
  |nil=>exact atG
  |cons _ _=>exact aX h
 |.cons c r,es,h=>by
  cases es with
  |nil=>exact aX h
  |cons x xs =>
   have h7:(!isStar x&&kE S c x&&vX S r xs)=ak:=h;simp only[bx,iu]at h7;exact a3P (iV Q c x h7.1.2) (okA Q r xs h7.2) (bG h7.1.1)
theorem aDS{X:Cx}{S:SI}{ex:aP->aZ}(Q:rM X S ex):∀(c:CEs)(es:List jq)(p:Pos),vX S c es=ak->cO X (.BoolOp .And es p) (aHS S.gl X.K ex c)
 |.nil,es,p,h=>avR
 |.cons c .nil,es,p,h=>by
  match es,h with
  |[],h=>exact aX h
  |[x],h =>
   have h7:(!isStar x&&kE S c x&&vX S .nil [])=ak:=h;simp only[bx,iu]at h7;exact aD3 (iV Q c x h7.1.2)
  |x::y::ys,h =>
   have h7:(!isStar x&&kE S c x&&vX S .nil (y::ys))=ak:=h;simp only[bx,iu]at h7;exact aX h7.2
 |.cons c (.cons c' r),es,p,h=>by
  match es,h with
  |[],h=>exact aX h
  |[x],h =>
   have h7:(!isStar x&&kE S c x&&vX S (.cons c' r) [])=ak:=h;simp only[bx,iu]at h7;exact aX h7.2
  |x::y::ys,h =>
   have h7:(!isStar x&&kE S c x&&vX S (.cons c' r) (y::ys))=ak:=h;simp only[bx,iu]at h7;exact aLT (iV Q c x h7.1.2) (aDS Q (.cons c' r) (y::ys) p h7.2)
theorem aRK{X:Cx}{S:SI}{ex:aP->aZ}(Q:rM X S ex):∀(c:CEs)(es:List jq)(p:Pos),vX S c es=ak->cO X (.BoolOp .Or es p) (mOr S.gl X.K ex c)
 |.nil,es,p,h=>avR
 |.cons c .nil,es,p,h=>by
  match es,h with
  |[],h=>exact aX h
  |[x],h =>
   have h7:(!isStar x&&kE S c x&&vX S .nil [])=ak:=h;simp only[bx,iu]at h7;exact aD3 (iV Q c x h7.1.2)
  |x::y::ys,h =>
   have h7:(!isStar x&&kE S c x&&vX S .nil (y::ys))=ak:=h;simp only[bx,iu]at h7;exact aX h7.2
 |.cons c (.cons c' r),es,p,h=>by
  match es,h with
  |[],h=>exact aX h
  |[x],h =>
   have h7:(!isStar x&&kE S c x&&vX S (.cons c' r) [])=ak:=h;simp only[bx,iu]at h7;exact aX h7.2
  |x::y::ys,h =>
   have h7:(!isStar x&&kE S c x&&vX S (.cons c' r) (y::ys))=ak:=h;simp only[bx,iu]at h7;exact aQD (iV Q c x h7.1.2) (aRK Q (.cons c' r) (y::ys) p h7.2)
theorem okT{X:Cx}{S:SI}{ex:aP->aZ}(Q:rM X S ex):∀(c:CT)(e:jq),kT S c e=ak->PT3 X e (mT S.gl X.K ex c)
 |.cmp o a b,e,h=>by
  cases e with
  |Compare x ops ys p =>
   match ops,ys,h with
   |[o'],[y],h =>
    have h':(o==o'&&!behindInMarks o' y&&kE S a x&&kE S b y)=ak:=h;simp only[bx,iu]at h';have:=beq_iff_eq.mp h'.1.1.1;subst this;exact anJ (a1N Q.hu) (iV Q a x h'.1.2) (iV Q b y h'.2) h'.1.1.2
   |[],_,h=>exact aX h
   |_::_::_,_,h=>exact aX h
   |[_],[],h=>exact aX h
   |[_],_::_::_,h=>exact aX h
  |_=>exact aX h
 |.chain o o' a b c,e,h=>by
  cases e with
  |Compare x ops ys p =>
   match ops,ys,h with
   |[p1,p2],[y,z],h =>
    have h':(o==p1&&o'==p2&&!lastMarks [p1,p2] [y,z]&&kE S a x&&kE S b y&&kE S c z)=ak:=h;simp only[bx,iu]at h';have e1:=beq_iff_eq.mp h'.1.1.1.1.1;have e2:=beq_iff_eq.mp h'.1.1.1.1.2;subst e1;subst e2;exact azD (a1N Q.hu) (a1N Q.hu) (iV Q a x h'.1.1.2) (iV Q b y h'.1.2) (iV Q c z h'.2) h'.1.1.1.2
   |[],_,h=>exact aX h
   |[_],_,h=>exact aX h
   |_::_::_::_,_,h=>exact aX h
   |[_,_],[],h=>exact aX h
   |[_,_],[_],h=>exact aX h
   |[_,_],_::_::_::_,h=>exact aX h
  |_=>exact aX h
 |.not t,e,h=>by
  cases e with
  |UnaryOp op x p =>
   cases op with
   |Not=>exact aLS (okT Q t x h)
   |_=>exact aX h
  |_=>exact aX h
 |.and ts,e,h=>by
  cases e with
  |BoolOp op xs p =>
   cases op with
   |And=>exact PW.pt (avY Q ts xs p h)
   |Or=>exact aX h
  |_=>exact aX h
 |.or ts,e,h=>by
  cases e with
  |BoolOp op xs p =>
   cases op with
   |Or=>exact PW.pt (aDU Q ts xs p h)
   |And=>exact aX h
  |_=>exact aX h
 |.din neg a b,e,h=>by
  cases e with
  |Compare x ops ys p =>
   match ops,ys,h with
   |[o'],[y],h =>
    have h':(o'==(if neg then vh.NotIn else vh.In)&&!behindInMarks o' y&&kE S a x&&kE S b y)=ak:=h;simp only[bx,iu]at h';exact anJ (avW Q.hu h'.1.1.1) (iV Q a x h'.1.2) (iV Q b y h'.2) h'.1.1.2
   |[],_,h=>exact aX h
   |_::_::_,_,h=>exact aX h
   |[_],[],h=>exact aX h
   |[_],_::_::_,h=>exact aX h
  |_=>exact aX h
 |.eqd neg a b,e,h=>by
  cases e with
  |Compare x ops ys p =>
   match ops,ys,h with
   |[o'],[y],h =>
    have h':(o'==(if neg then vh.NotEq else vh.Eq)&&kE S a x&&kE S b y)=ak:=h;simp only[bx]at h'
    have hb:yw o' y=ao:=by
     have:=beq_iff_eq.mp h'.1.1;subst this;exact a9H _ (by cases neg<;>decide) (by cases neg<;>decide)
    exact anJ (aoN Q.hu h'.1.1) (iV Q a x h'.1.2) (iV Q b y h'.2) hb
   |[],_,h=>exact aX h
   |_::_::_,_,h=>exact aX h
   |[_],[],h=>exact aX h
   |[_],_::_::_,h=>exact aX h
  |_=>exact aX h
 |.nld a b,e,h=>by
  cases e with
  |Compare x ops ys p =>
   match ops,ys,h with
   |[o'],[y],h =>
    have h':(o'==vh.NotEq&&kE S a x&&kE S b y)=ak:=h;simp only[bx]at h'
    have hb:yw o' y=ao:=by
     have:=beq_iff_eq.mp h'.1.1;subst this;exact a9H _ (by decide) (by decide)
    obtain rfl:=beq_iff_eq.mp h'.1.1;exact anJ (aHK Q.hu) (iV Q a x h'.1.2) (iV Q b y h'.2) hb
   |[],_,h=>exact aX h
   |_::_::_,_,h=>exact aX h
   |[_],[],h=>exact aX h
   |[_],_::_::_,h=>exact aX h
  |_=>exact aX h
 |.val c,e,h=>by
  have h':(plainT e&&kE S c e)=ak:=h;rw[bx]at h';exact aLO (iV Q c e h'.2) (aHX h'.1)
theorem avY{X:Cx}{S:SI}{ex:aP->aZ}(Q:rM X S ex):∀(c:CTs)(es:List jq)(p:Pos),kTs S c es=ak->PW3 X (.BoolOp .And es p) (avO S.gl X.K ex c)
 |.nil,es,p,h=>λ_ _ _ _ _ _ _ ⟨_,_,_,_,_,z,_⟩=>z.elim
 |.cons c .nil,es,p,h=>by
  match es,h with
  |[],h=>exact aX h
  |[x],h =>
   have h7:(kT S c x&&kTs S .nil [])=ak:=h;simp only[bx]at h7;exact aFM (okT Q c x h7.1)
  |x::y::ys,h =>
   have h7:(kT S c x&&kTs S .nil (y::ys))=ak:=h;simp only[bx]at h7;exact aX h7.2
 |.cons c (.cons c' r),es,p,h=>by
  match es,h with
  |[],h=>exact aX h
  |[x],h =>
   have h7:(kT S c x&&kTs S (.cons c' r) [])=ak:=h;simp only[bx]at h7;exact aX h7.2
  |x::y::ys,h =>
   have h7:(kT S c x&&kTs S (.cons c' r) (y::ys))=ak:=h;simp only[bx]at h7;exact aLR (okT Q c x h7.1) (avY Q (.cons c' r) (y::ys) p h7.2)
theorem aDU{X:Cx}{S:SI}{ex:aP->aZ}(Q:rM X S ex):∀(c:CTs)(es:List jq)(p:Pos),kTs S c es=ak->PW3 X (.BoolOp .Or es p) (aHT S.gl X.K ex c)
 |.nil,es,p,h=>λ_ _ _ _ _ _ _ ⟨_,_,_,_,_,z,_⟩=>z.elim
 |.cons c .nil,es,p,h=>by
  match es,h with
  |[],h=>exact aX h
  |[x],h =>
   have h7:(kT S c x&&kTs S .nil [])=ak:=h;simp only[bx]at h7;exact aLQ (okT Q c x h7.1)
  |x::y::ys,h =>
   have h7:(kT S c x&&kTs S .nil (y::ys))=ak:=h;simp only[bx]at h7;exact aX h7.2
 |.cons c (.cons c' r),es,p,h=>by
  match es,h with
  |[],h=>exact aX h
  |[x],h =>
   have h7:(kT S c x&&kTs S (.cons c' r) [])=ak:=h;simp only[bx]at h7;exact aX h7.2
  |x::y::ys,h =>
   have h7:(kT S c x&&kTs S (.cons c' r) (y::ys))=ak:=h;simp only[bx]at h7;exact aQC (okT Q c x h7.1) (aDU Q (.cons c' r) (y::ys) p h7.2)
theorem okO{X:Cx}{S:SI}{ex:aP->aZ}(Q:rM X S ex):∀(c:CO)(e:Option jq),kO S c e=ak->PO3 X e (mO S.gl X.K ex c)
 |.none,e,h=>by
  cases e with
  |none=>exact aFR
  |some _=>exact aX h
 |.some c,e,h=>by
  cases e with
  |none=>exact aX h
  |some x=>exact aFS (iV Q c x h)
theorem okI{X:Cx}{S:SI}{ex:aP->aZ}(Q:rM X S ex){tg:jq}{tt:Bool}(htt:tt=ak->X.calm=ak/\∃es kt pt,tg=.Tuple es kt pt):∀(c:CI)(e:jq),kI S tt c e=ak->PI3 X tg e (mI S.gl X.K ex c)
 |.any c,e,h=>aMJ (iV Q c e h)
 |.alU c,e,h=>by
  cases e with
  |Call f as ks p =>
   cases f with
   |Name r q =>
    cases as with
    |nil=>exact aX h
    |cons y yr =>
     cases yr with
     |cons _ _=>exact aX h
     |nil =>
      cases ks with
      |cons _ _=>exact aX h
      |nil =>
       have h':(r==("range":Str)&&a5K S&&!isStar y&&kE S c y)=ak:=h;simp only[bx,iu]at h';obtain⟨⟨⟨h1,h2⟩,h3⟩,h4⟩:=h';have:=beq_iff_eq.mp h1;subst this;obtain⟨g1,g2⟩:=aiQ Q h2;exact aGH g1 g2 (a3P (iV Q c y h4) atG (bG h3)) (bG h3)
   |_=>exact aX h
  |_=>exact aX h
 |.keys c,e,h=>by
  have h':(S.calm&&kE S c e)=ak:=h;rw[bx]at h';exact aHC (Q.cm h'.1) (iV Q c e h'.2)
 |.a2Q c,e,h=>by
  have h':(S.calm&&kE S c e)=ak:=h;rw[bx]at h';exact aAT (Q.cm h'.1) (iV Q c e h'.2)
theorem okC{X:Cx}{S:SI}(Q:rM X S NoX):∀(c:CC)(es:List jq),kC S c es=ak->aqS X es (mC S.gl X.K c)
 |.none,es,h=>by
  cases es with
  |nil=>exact azR
  |cons _ _=>exact aX h
 |.some t,es,h=>by
  match es,h with
  |[],h=>exact aX h
  |[x],h=>exact azS (okT Q t x h)
  |_::_::_,h=>exact aX h
end
end L4
namespace L4
open PySem PySem.Spec PyProof.Rows L2
inductive CTg where
 |nm (i:Nat)|tup (is:List Nat)
mutual
inductive CS where
 |ret (e:CE)|expr (e:CE)|ifs (t:CT) (a b:CB)|set (i:Nat) (e:CE)
 |raise (k:Nat) (e:CE) (es:CEs)|aB9 (k i:Nat) (b h:CB)|pass
 |setC (i:Nat) (fl gv:List Bool) (ci:CI) (cc:CC) (e:CE)|alX (ci:CI) (tg:CTg) (b:CB)
 |avZ (is:List Nat) (e:CE)|arE (k:Nat) (o e:CE)|aw0 (o i e:CE)|setM (o i e:CE)
inductive CB where
 |nil|cons (s:CS) (r:CB)
end
abbrev aw1:bJ:=λ_ _ _=>False
@[simp]def SI.han(S:SI):SI:={S with calm:=false}
abbrev mIS(T:List (Str×GT))(K:Fg)(ex:aP->aZ):CI->TI3
 |.any e=>au9 (mE T K ex e)
 |.alU e=>a3S (aA (mE T K ex e) aF)
 |.keys e=>a3U ak (mE T K ex e)
 |.a2Q _=>λ_ _ _=>False
abbrev mG:CTg->TG3
 |.nm i=>a01 i
 |.tup is=>adT is
abbrev aBA(T:List (Str×GT))(ex:aP->aZ)(k:Nat)(t:xG):bJ:=match T[k]? with
 |some (_,.cls a)=>oZ ex a t
 |_=>aw1
abbrev aBB(T:List (Str×GT))(K:Fg)(k i:Nat)(tb:(aP->aZ)->bJ)(th:bJ):bJ:=match T[k]? with
 |some (_,.cls a)=>ahN K a i tb th
 |_=>aw1
abbrev aI0(T:List (Str×GT))(k:Nat)(to te:cJ):bJ:=match T[k]? with
 |some (_,.fl C f)=>a6N C to te f
 |_=>aw1
abbrev ae9(S:SI)(k:Nat)(x:Str):Bool:=match S.gl[k]? with
 |some (z,.cls _)=>z==x
 |_=>ao
mutual
noncomputable def mS(T:List (Str×GT))(K:Fg)(ex:aP->aZ):CS->bJ
 |.ret e=>bU (mE T K ex e)
 |.expr e=>cB (mE T K ex e)
 |.ifs t a b=>dG (mT T K ex t) (mB T K ex a) (mB T K ex b)
 |.set i e=>cD i (mE T K ex e)
 |.raise k e es=>aBA T ex k (aA (mE T K ex e) (mA T K ex es))
 |.aB9 k i b h=>aBB T K k i (λEX2=>mB T K EX2 b) (mB T K NoX h)
 |.setC i _ _ ci cc e=>cD i (qL (mI T K ex ci) (mC T K cc) (mE T K NoX e))
 |.alX ci tg b=>a3T (mIS T K ex ci) (mG tg) (mB T K ex b)
 |.avZ is e=>aa2 is (mE T K ex e)
 |.arE k o e=>aI0 T k (mE T K ex o) (mE T K ex e)
 |.aw0 o i e=>aa8 (mE T K ex o) (mE T K ex i) (mE T K ex e)
 |.setM o i e=>aaG (mE T K ex o) (mE T K ex i) (mE T K ex e)
 |.pass=>bL
noncomputable def mB(T:List (Str×GT))(K:Fg)(ex:aP->aZ):CB->bJ
 |.nil=>bL
 |.cons s .nil=>mS T K ex s
 |.cons s (.cons s' r)=>aN (mS T K ex s) (mB T K ex (.cons s' r))
end
abbrev isTup:jq->Bool
 |.Tuple ..=>ak
 |_=>ao
abbrev nY:jq->Bool
 |.ListComp ..=>ak
 |.SetComp ..=>ak
 |.DictComp ..=>ak
 |_=>ao
abbrev kTg(S:SI):CTg->jq->Bool
 |.nm i,.Name x _=>S.N[i]?==aj x&&S.fl[i]?==aj ak
 |.tup is,.Tuple es _ _=>kNs S is es
 |_,_=>ao
where
 kNs (S:SI):List Nat->List jq->Bool
 |[],[]=>ak
 |i::is,.Name x _::es=>S.N[i]?==aj x&&S.fl[i]?==aj ak&&kNs S is es
 |_,_=>ao
abbrev aI2(S:SI):CTg->Bool
 |.nm _=>ak
 |.tup _=>S.calm
mutual
noncomputable def kS(S:SI)(lv:Nat):CS->qm->Bool
 |.ret e,.Return (aj x) _=>kE S e x
 |.expr e,.Expr x _=>!nY x&&kE S e x
 |.ifs t a b,.If x y z _=>kT S t x&&kB S lv a y&&kB S lv b z
 |.set i e,.Assign [.Name x _] y _=>S.N[i]?==aj x&&S.fl[i]?==aj ak&&!nY y&&kE S e y
 |.raise k e es,.Raise (aj (.Call (.Name x _) (y::ys) [] _)) au _=>lv==0&&S.calm&&!isStar y&&kE S e y&&vX S es ys&&S.gv[k]?==aj ak&&ae9 S k x
 |.aB9 k i b h,.Try y [.ExceptHandler (aj (.Name x _)) (aj n) (z::zs) _] [] [] _=>lv==0&&S.calm&&S.N[i]?==aj n&&S.lc[i]?==aj ak&&kB S 1 b y&&kB S.han 2 h (z::zs)&&S.gv[k]?==aj ak&&ae9 S k x
 |.setC i fl gv ci cc e,.Assign [.Name y _] (.ListComp elt [⟨.Name x _,iter,ifs,a⟩] scope _) _=>S.N[i]?==aj y&&S.fl[i]?==aj ak&&a==0&&a7Y S [x] scope fl gv&&!isSet iter&&kI S ao ci iter&&kC (S.cmp [x] fl gv) cc ifs&&kE (S.cmp [x] fl gv) e elt
 |.avZ is e,.Assign [.Tuple es _ _] y _=>S.calm&&!isTup y&&!nY y&&kTg.kNs S is es&&kE S e y
 |.arE k o e,.Assign [.Attribute x n _] z _=>arB S k n&&!nY z&&kE S o x&&kE S e z
 |.aw0 o i e,.Assign [.Subscript x y _] z _=>!isSlice y&&!nY z&&kE S o x&&kE S i y&&kE S e z
 |.setM o i e,.Assign [.Subscript x y _] z _=>!isSlice y&&!nY z&&kE S o x&&kE S i y&&kE S e z
 |.alX ci tg b,.For tgt iter body [] _=>lv !=1&&aI2 S tg&&!isSet iter&&kTg S tg tgt&&kI S (isTup tgt&&S.calm) ci iter&&kB S lv b body
 |.pass,.Pass _=>ak
 |_,_=>ao
noncomputable def kB(S:SI)(lv:Nat):CB->List qm->Bool
 |.nil,[]=>ak
 |.cons s r,x::xs=>kS S lv s x&&kB S lv r xs
 |_,_=>ao
end
structure aaL(X:Cx)(S:SI)(ex:aP->aZ)(lv:Nat):Prop where
 si:rM X S ex
 loc:∀(i:Nat)(x:Str),S.N[i]?=aj x->S.fl[i]?=aj ak->Loc X.env.scope x
 lcl:∀(i:Nat)(x:Str),S.N[i]?=aj x->S.lc[i]?=aj ak->X.env.kindOf x=aj .local
 fn:∀x,X.fn x=ak
 cls:∀(k:Nat)(x:Str)(a:bw),S.gl[k]?=aj (x,.cls a)->S.gv[k]?=aj ak->yx X.K a BMv "ValueError.__new__"=ak/\(wg X.K a).isSome=ak/\a0t X.K (.ref a)=aj (.type "type")/\um X.K (.ref a) (.type "BaseException")=aj ak
 l0:lv≠1->PassesOwn (dw X.prog X.w) X.A X.env X.xe
 rz:lv=0->S.calm=ak->Thr X ex
 stk:X.stack=X.env::X.outer
 frm:X.env.frame=aj X.env.locals
variable{env:Env}
def aeA{t:Option jq}{n:Nat}(h:nY e=ao):a0h e t n env=pure ao:=by
 cases e<;>first|rfl|exact absurd (show ak=ao from h) (by decide)
def aI3{k:Nat}{tp:Pos}(h:isTup e=ao):swappedStores [.Tuple es k tp] e env=pure au:=by
 cases e<;>first|rfl|exact absurd (show ak=ao from h) (by decide)
variable{ex:aP->aZ}{lv:Nat}
def aaL.tr(Q:aaL X S ex lv)(pn:List (bw×Obj))(EX:aP->aZ):aaL (azK X pn EX) S EX 1 where
 si:=⟨Q.si.N,Q.si.nd,Q.si.vis,Q.si.ce,λk x g h=>by
  obtain⟨h1,h2,h3,h4⟩:=Q.si.gm k x g h;refine⟨h1,h2,h3,?_⟩;cases g<;>exact h4,Q.si.hu,Q.si.cm,aQQ pn EX⟩
 loc:=Q.loc
 lcl:=Q.lcl
 fn:=Q.fn
 cls:=Q.cls
 l0:=λz=>absurd rfl z
 rz:=λz=>absurd z (by decide)
 stk:=Q.stk
 frm:=Q.frm
def aaL.ha{S:SI}(Q:aaL X S ex lv)(x:bw):aaL (aqO X x) S.han NoX 2 where
 si:=⟨Q.si.N,Q.si.nd,Q.si.vis,Q.si.ce,λk y g h=>by
  obtain⟨h1,h2,h3,h4⟩:=Q.si.gm k y g h;refine⟨h1,h2,h3,?_⟩;cases g with
  |fn sp n qt =>
   intro z;have hq:qt=ak:=z.resolve_right (show ¬ (ao=ak) by decide);subst hq;obtain⟨k,f,fd,ps,F,hr,r⟩:=h4 (.inl rfl);exact⟨k,f,fd,ps,F,⟨(λz=>nomatch z),hr.dp,hr.un⟩,r⟩
  |kl C sp dd=>exact λz=>nomatch z
  |me C m sp dd=>exact λz=>nomatch z
  |_=>exact h4,Q.si.hu,λz=>absurd (show ao=ak from z) (by decide),avV⟩
 loc:=Q.loc
 lcl:=Q.lcl
 fn:=Q.fn
 cls:=Q.cls
 l0:=λ_=>PassesOwn.never
 rz:=λz=>absurd z (by decide)
 stk:=Q.stk
 frm:=Q.frm
variable{x:Str}
private theorem aiR{S:SI}{k:Nat}(h:ae9 S k x=ak):∃a,S.gl[k]?=aj (x,.cls a):=by
 unfold ae9 at h;split at h
 .rename_i z a hg;have:=beq_iff_eq.mp h;subst this;exact⟨a,hg⟩
 .exact aX h
variable{a:bw}
def aBC{k:Nat}{t:xG}(h:T[k]?=aj (x,.cls a)):aBA T ex k t=oZ ex a t:=by unfold aBA;rw[h]
def aBD{K:Fg}{k i:Nat}(h:T[k]?=aj (x,.cls a)):aBB T K k i tb th=ahN K a i tb th:=by unfold aBB;rw[h]
def aw2{X:Cx}{S:SI}(Q:aaL X S ex lv){k:Nat}{pos:Pos}(h:kS S lv (.raise k e es) (.Raise (aj (.Call (.Name x np) (y::ys) [] cp)) au pos)=ak) :
  PS3 X (.Raise (aj (.Call (.Name x np) (y::ys) [] cp)) au pos) (aBA S.gl ex k (aA (mE S.gl X.K ex e) (mA S.gl X.K ex es))):=by
 have h':(lv==0&&S.calm&&!isStar y&&kE S e y&&vX S es ys&&S.gv[k]?==aj ak&&ae9 S k x)=ak:=h;simp only[bx,iu]at h';obtain⟨⟨⟨⟨⟨⟨h0,hcm⟩,h1⟩,h2⟩,h3⟩,hv⟩,h⟩:=h';have hv:=beq_iff_eq.mp hv;obtain⟨a,hg⟩:=aiR h;rw[aBC hg];have l1:=Q.si.cm hcm;have l2:=Q.rz (beq_iff_eq.mp h0) hcm;obtain⟨g1,g2,g3,g4,g5⟩:=Q.si.gl _ _ _ hg hv;exact azJ l1 PySem.F.excBase_ValueError (by decide) PySem.F.excBase_ValueError g1 g4 (Q.cls _ _ _ hg hv).1 l2 (a3P (iV Q.si e y h2) (okA Q.si es ys h3) (bG h1)) g2 (bG h1) (sY h3)
def alY{ex:aP->aZ}{lv:Nat}(Q:aaL X S ex lv):∀{is:List Nat}{es:List jq},kTg.kNs S is es=ak->Two (aGL X) es is
 |[],[],_=>.nil
 |[],_::_,h=>by exact aX h
 |_::_,[],h=>by exact aX h
 |i::is,e::es,h=>by
  cases e with
  |Name x p =>
   have h':(S.N[i]?==aj x&&S.fl[i]?==aj ak&&kTg.kNs S is es)=ak:=h;simp only[bx]at h';have e1:=beq_iff_eq.mp h'.1.1;exact .cons ⟨x,p,rfl,by rw[Q.si.N];exact e1,Q.loc i x e1 (beq_iff_eq.mp h'.1.2),.inl (Q.fn x)⟩ (alY Q h'.2)
  |_=>exact aX h
def aNG(Q:aaL X S ex lv):∀{c:CTg}{e:jq},aI2 S c=ak->kTg S c e=ak->PG3 X e (mG c)
 |.nm i,e,_,h=>by
  cases e with
  |Name x p =>
   have h':(S.N[i]?==aj x&&S.fl[i]?==aj ak)=ak:=h;simp only[bx]at h';have e1:=beq_iff_eq.mp h'.1;exact aGK Q.si.nd (by rw[Q.si.N];exact e1) (Q.loc i x e1 (beq_iff_eq.mp h'.2)) (.inl (Q.fn x))
  |_=>exact aX h
 |.tup is,e,hc,h=>by
  cases e with
  |Tuple es k p=>exact aD9 Q.si.nd (Q.si.cm hc) (alY Q h)
  |_=>exact aX h
def aRL{X:Cx}{S:SI}(Q:rM X S ex){tt:Bool}(htt:tt=ak->X.calm=ak/\∃es kt pt,tg=.Tuple es kt pt):∀(c:CI)(e:jq),kI S tt c e=ak->PIS X tg e (mIS S.gl X.K ex c)
 |.any c,e,h=>aGN (iV Q c e h)
 |.alU c,e,h=>by
  cases e with
  |Call f as ks p =>
   cases f with
   |Name r q =>
    cases as with
    |nil=>exact aX h
    |cons y yr =>
     cases yr with
     |cons _ _=>exact aX h
     |nil =>
      cases ks with
      |cons _ _=>exact aX h
      |nil =>
       have h':(r==("range":Str)&&a5K S&&!isStar y&&kE S c y)=ak:=h;simp only[bx,iu]at h';obtain⟨⟨⟨h1,h2⟩,h3⟩,h4⟩:=h';have:=beq_iff_eq.mp h1;subst this;obtain⟨g1,g2⟩:=aiQ Q h2;exact azX g1 g2 (a3P (iV Q c y h4) atG (bG h3)) (bG h3)
   |_=>exact aX h
  |_=>exact aX h
 |.keys c,e,h=>by
  have h':(S.calm&&kE S c e)=ak:=h;rw[bx]at h';exact aAR (Q.cm h'.1) (iV Q c e h'.2)
 |.a2Q c,e,h=>λ_ _ _ _ _ _ ⟨_,_,_,_,_,z,_⟩=>z.elim
def aw3(h:isTup e=ak):∃es kt pt,e=.Tuple es kt pt:=by
 cases e<;>first|exact⟨_,_,_,rfl⟩|exact aX h
set_option tactic.hygienic true in
mutual
theorem okS:∀(c:CS){X:Cx}{S:SI}{ex:aP->aZ}{lv:Nat},aaL X S ex lv->∀(st:qm),kS S lv c st=ak->PS3 X st (mS S.gl X.K ex c)
 |.ret e,X,S,ex,lv,Q,st,h=>by
  cases st with
  |Return v p =>
   cases v with
   |some x=>exact aM8 (iV Q.si e x h)
   |none=>exact aX h
  |_=>exact aX h
 |.expr e,X,S,ex,lv,Q,st,h=>by
  cases st with
  |Expr x p =>
   have h':(!nY x&&kE S e x)=ak:=h;simp only[bx,iu]at h';exact aFW (iV Q.si e x h'.2) (aeA h'.1)
  |_=>exact aX h
 |.ifs t a b,X,S,ex,lv,Q,st,h=>by
  cases st with
  |If x y z p =>
   have h':(kT S t x&&kB S lv a y&&kB S lv b z)=ak:=h;simp only[bx]at h';exact aQL (okT Q.si t x h'.1.1) (okB a Q y h'.1.2) (okB b Q z h'.2)
  |_=>exact aX h
 |.set i e,X,S,ex,lv,Q,st,h=>by
  cases st with
  |Assign ts y p =>
   cases ts with
   |nil=>exact aX h
   |cons t r =>
    cases r with
    |cons _ _=>cases t<;>exact aX h
    |nil =>
     cases t with
     |Name x q =>
      have h':(S.N[i]?==aj x&&S.fl[i]?==aj ak&&!nY y&&kE S e y)=ak:=h;simp only[bx,iu]at h';have e1:=beq_iff_eq.mp h'.1.1.1;exact aD4 (i:=i) Q.si.nd (by rw[Q.si.N];exact e1) (Q.loc i x e1 (beq_iff_eq.mp h'.1.1.2)) (iV Q.si e y h'.2) (aeA h'.1.2) (.inl (Q.fn x))
     |_=>exact aX h
  |_=>exact aX h
 |.arE k o e,X,S,ex,lv,Q,st,h=>by
  cases st with
  |Assign ts z p =>
   cases ts with
   |nil=>exact aX h
   |cons t r =>
    cases r with
    |cons _ _=>cases t<;>exact aX h
    |nil =>
     cases t with
     |Attribute x n q =>
      have h':(arB S k n&&!nY z&&kE S o x&&kE S e z)=ak:=h;simp only[bx,iu]at h';obtain⟨y,C,hg⟩:=aoO h'.1.1.1;obtain⟨_,_,_,g⟩:=Q.si.gm _ _ _ hg;show PS3 X _ (aI0 S.gl k _ _);unfold aI0;rw[hg];exact aGW (iV Q.si o x h'.1.2) (iV Q.si e z h'.2) g.1 g.2 (aeA h'.1.1.2)
     |_=>exact aX h
  |_=>exact aX h
 |.setM o i e,X,S,ex,lv,Q,st,h=>by
  cases st with
  |Assign ts z p =>
   cases ts with
   |nil=>exact aX h
   |cons t r =>
    cases r with
    |cons _ _=>cases t<;>exact aX h
    |nil =>
     cases t with
     |Subscript x y q =>
      have h':(!isSlice y&&!nY z&&kE S o x&&kE S i y&&kE S e z)=ak:=h;simp only[bx,iu]at h';exact aHI Q.si.hu (iV Q.si o x h'.1.1.2) (iV Q.si i y h'.1.2) (iV Q.si e z h'.2) (aeA h'.1.1.1.2)
     |_=>exact aX h
  |_=>exact aX h
 |.aw0 o i e,X,S,ex,lv,Q,st,h=>by
  cases st with
  |Assign ts z p =>
   cases ts with
   |nil=>exact aX h
   |cons t r =>
    cases r with
    |cons _ _=>cases t<;>exact aX h
    |nil =>
     cases t with
     |Subscript x y q =>
      have h':(!isSlice y&&!nY z&&kE S o x&&kE S i y&&kE S e z)=ak:=h;simp only[bx,iu]at h';exact aGY Q.si.hu (iV Q.si o x h'.1.1.2) (iV Q.si i y h'.1.2) (iV Q.si e z h'.2) (aeA h'.1.1.1.2)
     |_=>exact aX h
  |_=>exact aX h
 |.raise k e es,X,S,ex,lv,Q,st,h=>by
  cases st with
  |Raise a b p =>
   cases a with
   |none=>exact aX h
   |some a =>
    cases a with
    |Call f as ks q =>
     cases f with
     |Name x np =>
      cases as with
      |nil=>exact aX h
      |cons y ys =>
       cases ks with
       |cons _ _=>exact aX h
       |nil =>
        cases b with
        |some _=>exact aX h
        |none=>exact aw2 Q h
     |_=>exact aX h
    |_=>exact aX h
  |_=>exact aX h
 |.aB9 k i b hb,X,S,ex,lv,Q,st,h=>by
  cases st with
  |Try y hs el fin p =>
   cases hs with
   |nil=>exact aX h
   |cons hd tl =>
    obtain⟨ty,nm,suite,hp⟩:=hd;cases tl with
    |cons _ _=>cases ty<;>first|exact aX h|(rename_i ty;cases ty<;>cases nm<;>cases suite<;>exact aX h)
    |nil =>
     cases ty with
     |none=>exact aX h
     |some ty =>
      cases ty with
      |Name x cp =>
       cases nm with
       |none=>exact aX h
       |some n =>
        cases suite with
        |nil=>exact aX h
        |cons z zs =>
         cases el with
         |cons _ _=>exact aX h
         |nil =>
          cases fin with
          |cons _ _=>exact aX h
          |nil =>
           have h':(lv==0&&S.calm&&S.N[i]?==aj n&&S.lc[i]?==aj ak&&kB S 1 b y&&kB S.han 2 hb (z::zs)&&S.gv[k]?==aj ak&&ae9 S k x)=ak:=h;simp only[bx]at h';obtain⟨⟨⟨⟨⟨⟨⟨h0,hcm⟩,h1⟩,h2⟩,h3⟩,h4⟩,hv⟩,h⟩:=h';have hv:=beq_iff_eq.mp hv;obtain⟨a,hg⟩:=aiR h;show PS3 X _ (aBB S.gl X.K k i (λEX2=>mB S.gl X.K EX2 b) (mB S.gl X.K NoX hb));rw[aBD hg];have e1:=beq_iff_eq.mp h1;obtain⟨g1,g2,g3,g4,g5⟩:=Q.si.gl _ _ _ hg hv;obtain⟨c1,c2,c3,c4⟩:=Q.cls _ _ _ hg hv;exact aMB (i:=i) (Q.si.cm hcm) Q.si.nd (by rw[Q.si.N];exact e1) (Q.lcl i n e1 (beq_iff_eq.mp h2)) Q.stk Q.frm g1 g4 c2 c3 c4 (λpn EX=>okB b (Q.tr pn EX) y h3) (λxx=>okB hb (Q.ha xx) (z::zs) h4) g2
      |_=>exact aX h
  |_=>exact aX h
 |.setC i fl gv ci cc c,X,S,ex,lv,Q,st,h=>by
  cases st with
  |Assign ts z p =>
   cases ts with
   |nil=>exact aX h
   |cons t r =>
    cases r with
    |cons _ _=>cases t<;>exact aX h
    |nil =>
     cases t with
     |Name y q =>
      cases z with
      |ListComp elt gens scope pp =>
       cases gens with
       |nil=>exact aX h
       |cons g gr =>
        cases gr with
        |cons _ _=>obtain⟨tg,it,ifs,a⟩:=g;cases tg<;>exact aX h
        |nil =>
         obtain⟨tg,it,ifs,a⟩:=g;cases tg with
         |Name x px =>
          have h':(S.N[i]?==aj y&&S.fl[i]?==aj ak&&a==0&&a7Y S [x] scope fl gv&&!isSet it&&kI S ao ci it&&kC (S.cmp [x] fl gv) cc ifs&&kE (S.cmp [x] fl gv) c elt)=ak:=h;simp only[bx,iu]at h';obtain⟨⟨⟨⟨⟨⟨⟨hy,hy2⟩,h2⟩,h3⟩,h4⟩,h5⟩,h6⟩,h7⟩:=h';have:=beq_iff_eq.mp h2;subst this;have e1:=beq_iff_eq.mp hy;exact azV (i:=i) (wG Q.si h3) (λC s H fp pins σ=>au7 (wG Q.si h3) Q.si.nd) ahY Q.si.nd (by rw[Q.si.N];exact e1) (Q.loc i y e1 (beq_iff_eq.mp hy2)) (Q.fn y) (okI (tt:=false) Q.si (λz=>nomatch z) ci it h5) (λC s H fp pins=>okC (Q.si.cmp h3 C s H fp pins) cc ifs h6) (λC s H fp pins=>iV (Q.si.cmp h3 C s H fp pins) c elt h7) (avX h4)
         |_=>exact aX h
      |_=>exact aX h
     |_=>exact aX h
  |_=>exact aX h
 |.avZ is e,X,S,ex,lv,Q,st,h=>by
  cases st with
  |Assign ts y p =>
   cases ts with
   |nil=>exact aX h
   |cons t r =>
    cases r with
    |cons _ _=>cases t<;>exact aX h
    |nil =>
     cases t with
     |Tuple es k tp =>
      have h':(S.calm&&!isTup y&&!nY y&&kTg.kNs S is es&&kE S e y)=ak:=h;simp only[bx,iu]at h';obtain⟨⟨⟨⟨h1,h2⟩,h3⟩,h4⟩,h5⟩:=h';exact aGQ (aD9 Q.si.nd (Q.si.cm h1) (alY Q h4)) (iV Q.si e y h5) (show a0h y (aj (.Tuple es k tp)) p.line X.env=pure ao from aeA h3) (aI3 h2) rfl
     |_=>exact aX h
  |_=>exact aX h
 |.alX ci tg b,X,S,ex,lv,Q,st,h=>by
  cases st with
  |For tgt it body el p =>
   cases el with
   |cons _ _=>exact aX h
   |nil =>
    have h':(lv !=1&&aI2 S tg&&!isSet it&&kTg S tg tgt&&kI S (isTup tgt&&S.calm) ci it&&kB S lv b body)=ak:=h;simp only[bx,iu]at h';obtain⟨⟨⟨⟨⟨h1,hg⟩,h2⟩,h3⟩,h4⟩,h5⟩:=h';exact aGO (Q.l0 (bne_iff_ne.mp h1)) (aRL Q.si (λz=>by rw[bx]at z;exact⟨Q.si.cm z.2,aw3 z.1⟩) ci it h4) (aNG Q hg h3) (okB b Q body h5) (avX h2)
  |_=>exact aX h
 |.pass,X,S,ex,lv,Q,st,h=>by
  cases st with
  |Pass _=>exact aFV
  |_=>exact aX h
theorem okB:∀(c:CB){X:Cx}{S:SI}{ex:aP->aZ}{lv:Nat},aaL X S ex lv->∀(st:List qm),kB S lv c st=ak->a8I X st (mB S.gl X.K ex c)
 |.nil,X,S,ex,lv,Q,st,h=>by
  cases st with
  |nil=>exact aM6
  |cons _ _=>exact aX h
 |.cons s .nil,X,S,ex,lv,Q,st,h=>by
  match st,h with
  |[],h=>exact aX h
  |[x],h =>
   have h':(kS S lv s x&&kB S lv .nil [])=ak:=h;rw[bx]at h';exact aM7 (okS s Q x h'.1)
  |x::y::ys,h =>
   have h':(kS S lv s x&&kB S lv .nil (y::ys))=ak:=h;rw[bx]at h';exact aX h'.2
 |.cons s (.cons s' r),X,S,ex,lv,Q,st,h=>by
  match st,h with
  |[],h=>exact aX h
  |x::ys,h =>
   have h':(kS S lv s x&&kB S lv (.cons s' r) ys)=ak:=h;rw[bx]at h';exact aFU (okS s Q x h'.1) (okB (.cons s' r) Q ys h'.2)
end
end L4
namespace L4
open PySem PySem.Spec PyProof.Rows L2
abbrev bB(R:iB):iB:=λd G'=>∃G0,Le G0 G'/\R d G0
abbrev yS(EX:aZ):aZ:=λC G'=>∃G0,Le G0 G'/\EX C G0
abbrev zL(n m:Nat)(tb:aZ->bJ):qK:=λds G R EX=>ds.length=m/\tb (yS EX) ⟨λ_ G'=>bB R .non G',bB R,λ_ _=>False,λ_ _=>False⟩ (af7 n ds) G
def bB.here(h:R d G):bB R d G:=⟨G,.refl G,h⟩
def yS.here(h:R d G):yS R d G:=⟨G,.refl G,h⟩
def aw4{K:Fg}(h:UpX K EX E):UpX K (yS EX) E:=λC H' G' g ⟨G0,l,q⟩=>h C H' G0 (g.le l) q
variable{qt:Bool}{P:jt}{mg:Str->Option aq}{base:jm}{x qual:Str}{st:qm}{f:bw}{fd:jw}{ps:List Str}
def aBE{w:jj}{K:Fg}{N:List Str}{k:Nat}{tb:aZ->bJ}(F:Fun K x qual st f fd)(S:bF N ps (bI st))
  (hbody:∀(cdv:aq)(A:jx)(outer:List Env)(s:cu)(H:Hp)(E:XK)(EX:aZ),lW qt k (A.deeper (envOfC qual (bI st) s.heap.objs.size f cdv))->UpX K EX E ->
   a8I (cx1 qt P w K mg base N qual (bI st) f cdv A outer s H E) (cV st) (tb EX)):cH qt P w K mg base (lX P w) (k+1) f fd ps (d8 K (zL N.length ps.length tb)):=by
 refine(aFX F S hbody).imp ?_;rintro vs H Q E ⟨ds,G,R,EX,r,g,⟨hl,q⟩,kk,hE⟩;exact⟨ds,G,bB R,yS EX,r,g,⟨hl,q⟩,(by rintro v H' d G' r1 g1 ⟨G0,l,q⟩;exact kk v H' d G0 r1 (g1.le l) q),aw4 hE⟩
abbrev GTs(P:jt)(w:jj)(K:Fg)(mg:Str->Option aq)(base:jm)(k:Nat)(x:Str):GT->Prop
 |.con d=>∃u v,mg x=aj u/\RelV v u/\∀H,RD K H d v
 |.cls a=>mg x=aj (.ref a)/\yx K a BMv "ValueError.__new__"=ak/\(wg K a).isSome=ak/\a0t K (.ref a)=aj (.type "type")/\um K (.ref a) (.type "BaseException")=aj ak
 |.fn sp n qt=>∃f fd ps,cH qt P w K mg base (lX P w) k f fd ps (d8 K sp)/\mg x=aj (.ref f)/\uf K (.ref f)=ak/\Binds K fd ps []
 |.bf b=>mg x=au/\mz x=aj (avP b)
 |.bt n=>mg x=au/\mz x=aj (.type n)
 |.kl C sp dd=>∃j f fd ps ds dvs,j+1=k/\Mk K C f/\cH ao P w K mg base (lX P w) j f fd ps (d8 K sp)/\mg x=aj (.ref C)/\Binds K fd ps ds/\Vals dvs ds/\∀H,dB K H dd dvs
 |.me C m sp dd=>∃f fd ps ds dvs,Cls K C/\Meth K C m f/\cH ao P w K mg base (lX P w) k f fd ps (d8 K sp)/\Binds K fd ps ds/\Vals dvs ds/\∀H,dB K H dd dvs
 |.fl C f=>Cls K C/\nT K C f
abbrev aI5(sc:zc)(x:Str):Bool:=match sc.names.lookup x with
 |some .local=>ak
 |some .cell=>ak
 |_=>ao
abbrev aI6(sc:zc)(x:Str):Bool:=match sc.names.lookup x with
 |some .local=>ak
 |_=>ao
abbrev aI7(sc:zc)(x:Str):Bool:=match sc.names.lookup x with
 |some .globalImplicit=>ak
 |_=>ao
abbrev aI8(sc:zc)(x:Str):Bool:=match sc.names.lookup x with
 |some .cell=>ak
 |_=>ao
private theorem aBF{sc:zc}(h:aI8 sc x=ak):sc.names.lookup x=aj .cell:=by
 unfold aI8 at h;split at h
 .rename_i e;exact e
 .exact aX h
abbrev aeB(S:SI)(sc:zc):Bool:=(kj S.N.length).all (λi=>match S.N[i]? with
  |none=>ao
  |some x=>x !=("__debug__":Str)&&x !=("__classdict__":Str)&&(S.fl[i]? !=aj ak||aI5 sc x)&&(S.lc[i]? !=aj ak||aI6 sc x)&&(S.ce[i]? !=aj ak||aI8 sc x)) &&
 (kj S.gl.length).all (λk=>match S.gl[k]? with
  |none=>ao
  |some (y,_)=>(S.gv[k]? !=aj ak||aI7 sc y)&&y !=("__debug__":Str)&&y !=("__name__":Str))
private theorem aBG(h:aI5 sc x=ak):Loc sc x:=by
 unfold aI5 at h;split at h
 .rename_i e;exact .inl e
 .rename_i e;exact .inr e
 .exact aX h
def aBH(h:Loc sc x):Vis sc x:=h.elim .inl λz=>.inr (.inl z)
private theorem aBI{sc:zc}(h:aI6 sc x=ak):sc.names.lookup x=aj .local:=by
 unfold aI6 at h;split at h
 .rename_i e;exact e
 .exact aX h
private theorem aBJ{sc:zc}(h:aI7 sc x=ak):sc.names.lookup x=aj .globalImplicit:=by
 unfold aI7 at h;split at h
 .rename_i e;exact e
 .exact aX h
variable{S:SI}
def a9B{sc:zc}(h:aeB S sc=ak){i:Nat}(e:S.N[i]?=aj x) :
  (x==("__debug__":Str))=ao/\(x==("__classdict__":Str))=ao/\(S.fl[i]?=aj ak->Loc sc x)/\(S.lc[i]?=aj ak->sc.names.lookup x=aj .local)/\(S.ce[i]?=aj ak->sc.names.lookup x=aj .cell):=by
 unfold aeB at h;rw[bx]at h;have hi:i<S.N.length:=(jk.mp e).1;have q:=jy.mp h.1 i (yc.mpr hi);rw[e]at q;simp only[bx,bne_iff_ne,ne_eq,a2q]at q;obtain⟨⟨⟨⟨q1,q2⟩,q3⟩,q4⟩,q5⟩:=q;refine⟨beq_eq_false_iff_ne.mpr q1,beq_eq_false_iff_ne.mpr q2,λz=>?_,λz=>?_,λz=>?_⟩
 .rcases q3 with q|q
  .exact absurd z q
  .exact aBG q
 .rcases q4 with q|q
  .exact absurd z q
  .exact aBI q
 .rcases q5 with q|q
  .exact absurd z q
  .exact aBF q
def aBK{sc:zc}(h:aeB S sc=ak){k:Nat}{g:GT}(e:S.gl[k]?=aj (x,g)):(S.gv[k]?=aj ak->sc.names.lookup x=aj .globalImplicit)/\(x==("__debug__":Str))=ao/\x≠"__name__":=by
 unfold aeB at h;rw[bx]at h;have q:=jy.mp h.2 k (yc.mpr (jk.mp e).1);rw[e]at q;simp only[bx,bne_iff_ne,ne_eq,a2q]at q;exact⟨λz=>aBJ (q.1.1.resolve_left λn=>n z),beq_eq_false_iff_ne.mpr q.1.2,q.2⟩
def aw5{w:jj}{K:Fg}{k:Nat}{c:CB}(F:Fun K x qual st f fd)(hS:bF S.N ps (bI st))
  (hc:S.calm=!qt)(hv:aeB S (bI st)=ak)(hk:kB S 0 c (cV st)=ak)(hg:∀(j:Nat)(y:Str)(g:GT),S.gl[j]?=aj (y,g)->GTs P w K mg base k y g) :
  cH qt P w K mg base (lX P w) (k+1) f fd ps (d8 K (zL S.N.length ps.length λEX=>mB S.gl K (λ_=>EX) c)):=by
 refine aBE F hS λcdv A outer s H E EX hr hE=>?_;refine okB c (X:=cx1 qt P w K mg base S.N qual (bI st) f cdv A outer s H E) (S:=S) (ex:=λ_=>EX) (lv:=0) ?_ (cV st) hk;refine⟨⟨rfl,hS.nd,λi y e1 e2=>?_,λi y e1 e2=>.inl ((a9B hv e1).2.2.2.2 e2),λj y g e=>?_,hr.units,λz=>hc.symm.trans z,aQO hE⟩,λi y e1 e2=>?_,λi y e1 e2=>?_,λ_=>rfl,λj y a e _=>?_,λ_=>own1,λ_ _=>aQP hE,rfl,rfl⟩
 .obtain⟨a1,a2,a3,a4⟩:=a9B hv e1;exact⟨aBH (a3 e2),a1,a2⟩
 .obtain⟨a1,a2,a3⟩:=aBK hv e;have z:=hg j y g e;refine⟨a1,a2,a3,?_⟩;cases g with
  |con d=>exact z
  |cls a=>exact⟨z.1,z.2.1⟩
  |fn sp n q2 =>
   intro hz;obtain⟨f',fd',ps',F',m',k',b'⟩:=z;refine⟨k,f',fd',ps',F',⟨λe=>hr.hd ?_,hr.dp,hr.un⟩,m',k',b'⟩;have hs:S.calm=ak:=hz.resolve_left (by rw[e];decide);rw[hc]at hs;simpa using hs
  |bf b=>exact z
  |bt n=>exact z
  |kl C sp dd =>
   intro hs;obtain⟨j',f',fd',ps',ds,dvs,rfl,q1,q2,q3,q4,q5,q6⟩:=z;rw[hc]at hs;exact⟨j',f',fd',ps',ds,dvs,q1,q2,⟨λ_=>hr.hd (by simpa using hs),hr.dp,hr.un⟩,q3,q4,q5,q6⟩
  |me C m sp dd =>
   intro hs;obtain⟨f',fd',ps',ds,dvs,q1,q2,q3,q4,q5,q6⟩:=z;rw[hc]at hs;exact⟨k,f',fd',ps',ds,dvs,q1,q2,q3,⟨λ_=>hr.hd (by simpa using hs),hr.dp,hr.un⟩,q4,q5,q6⟩
  |fl C f=>exact z
 .exact(a9B hv e1).2.2.1 e2
 .exact(a9B hv e1).2.2.2.1 e2
 .have z:=hg j y _ e;exact z.2
end L4
namespace L4
open PySem PySem.Spec PyProof.Rows L2
def gln{P:Str->GT->Prop}:∀(j:Nat)(y:Str)(g:GT),([]:List (Str×GT))[j]?=aj (y,g)->P y g:=λj y g h=>by simp at h
def c7{P:Str->GT->Prop}{x:Str}{g:GT}{l:List (Str×GT)}(h:P x g)(r:∀(j:Nat)(y:Str)(g:GT),l[j]?=aj (y,g)->P y g):∀(j:Nat)(y:Str)(g':GT),((x,g)::l)[j]?=aj (y,g')->P y g'
 |0,y,g',e=>by simp at e;obtain⟨e1,e2⟩:=e;subst e1;subst e2;exact h
 |j+1,y,g',e=>r j y g' (by simpa using e)
section
variable{w:jj}{K:Fg}{mg:Str->Option aq}{base:jm}{k:Nat}{x:Str}
def gcI{z:Int}(h:∃t,mg x=aj (.int z t)):GTs P w K mg base k x (.con (.int z)):=by
 obtain⟨t,h⟩:=h;exact⟨_,.int z,h,⟨t,rfl⟩,λ_=>.int z⟩
end
def aiS:mz "range"=aj (.type "range"):=by decide+kernel
end L4
namespace L4
open PySem PySem.Spec PyProof.Rows L2
variable{ps:List Str}
def aoQ{K:Fg}(h:∀us:List aq,us.length=ps.length->uc fd ⟨us,[]⟩=pure (ps.zip us)):Binds K fd ps []:=Binds.all h
variable{fd:jw}{n:Nat}
def aBM{K:Fg}(e:K.lookup T=aj ⟨oc,od,.seq #[u] n,sl⟩)
  (h:∀us:List aq,us.length=ps.length->∃k:Option (Array aq)->Sem (List (Str×aq)),fd.defaults=.ref T/\uc fd ⟨us,[]⟩=seqItems? fd.defaults >>= k/\k (aj #[u])=pure (ps.zip us)):Binds K fd ps []:=λs us hK hl=>by
 rw[a1g]at hl ⊢;obtain⟨k,h0,h1,h2⟩:=h us hl;exact PySem.W.binds_K hK h0 e rfl h1 h2
def aBN{K:Fg}(e:K.lookup T=aj ⟨oc,od,.seq #[u] n,sl⟩)
  (h:∀us:List aq,us.length+1=ps.length->∃k:Option (Array aq)->Sem (List (Str×aq)),fd.defaults=.ref T/\uc fd ⟨us,[]⟩=seqItems? fd.defaults >>= k/\k (aj #[u])=pure (ps.zip (us++[u]))):Binds K fd ps [u]:=λs us hK hl=>by
 obtain⟨k,h0,h1,h2⟩:=h us (by simpa using hl);exact PySem.W.binds_K hK h0 e rfl h1 h2
end L4
namespace L5
open PySem PySem.Spec PyProof.Rows L2 L4
abbrev onB(x:D)(f:Bool->Prop):Prop:=match x with
 |.bl k=>f k
 |_=>False
abbrev onI(x:D)(f:Int->Prop):Prop:=match x with
 |.int k=>f k
 |_=>False
def aI9{k:Bool}:onB (.bl k) f=f k:=rfl
def aBO{k:Int}:onI (.int k) f=f k:=rfl
abbrev a5L(xs:List D):Prop:=xs.length<=dh
def aIA:a5L []=True:=eq_true (show 0<=dh by decide)
variable{a0:D}
def aIB:a5L [a0]=True:=eq_true (show 1<=dh by decide)
variable{a1:D}
def aIC:a5L [a0,a1]=True:=eq_true (show 2<=dh by decide)
def aID:a5L [a0,a1,a2]=True:=eq_true (show 3<=dh by decide)
def aIE:a5L [a0,a1,a2,a3]=True:=eq_true (show 4<=dh by decide)
def aIF:a5L [a0,a1,a2,a3,a4]=True:=eq_true (show 5<=dh by decide)
variable{o:Option D}{n:Nat}{r:R3}{T:String}{p:bw}{ds:List D}{b:Bool}
section
variable{t:bJ}{F:gJ}{G:Gp}{R:iB}{tt tt':TT3}{K:Fg}
def aDW:aN t u F ρ G=t {F with nx:=u F} ρ G:=rfl
def aIG:bL F ρ G=F.nx ρ G:=rfl
def aIH:cB te F ρ G=te ρ G λ_ G1=>F.nx ρ G1:=rfl
def aNJ:bU te F ρ G=te ρ G F.rt:=rfl
def aNK:dG tt t u F ρ G=tt ρ G λb G1=>if b=ak then t F ρ G1 else u F ρ G1:=rfl
def aDX{i:Nat}:cD i te F ρ G=te ρ G λx G1=>F.nx (a1Y ρ i x) G1:=rfl
def x_raise:oZ EX C tA F ρ G=tA ρ G λds G1=>a5L ds/\EX ρ C G1:=rfl
def aNL{i:Nat}:ahN K C i bd t F ρ G=bd (λρ1 C' G1=>um K (.ref C') (.ref C)=aj ak/\∀x,G1 x=au->t {nx:=λρ2 G2=>F.nx (a9T ρ2 i) G2,rt:=F.rt,bk:=λρ2 G2=>F.bk (a9T ρ2 i) G2,ct:=λρ2 G2=>F.ct (a9T ρ2 i) G2} (a1Y ρ1 i (.ref x)) (aH G1 x (.exn C'))) F ρ G:=rfl
def x_c:aY d ρ G R=R d G:=rfl
def aw6:aB 0 (aj d::ρ) G R=R d G:=rfl
def aw7:aB (n+1) (o::ρ) G R=aB n ρ G R:=rfl
def aw8:a1Y (o::ρ) 0 d=aj d::ρ:=rfl
def aw9:a1Y (o::ρ) (n+1) d=o::a1Y ρ n d:=rfl
def awA:a9T (o::ρ) 0=au::ρ:=rfl
def awB:a9T (o::ρ) (n+1)=o::a9T ρ n:=rfl
def aNM:aG r ta tb ρ G R=ta ρ G λx G1=>tb ρ G1 λy G2=>r x y G2 R:=rfl
def aII:aQ te ρ G Q=te ρ G λx G1=>onB x λk=>Q k G1:=rfl
def aBP{r':R3}:uE r r' ta tb tc ρ G R=ta ρ G λx G1=>tb ρ G1 λy G2=>r x y G2 λz G3=>onB z λk=>if k=ak then tc ρ G3 λw G4=>r' y w G4 R else R (.bl ao) G3:=by
 unfold uE;congr 1;funext x G1;congr 1;funext y G2;congr 1;funext z G3;cases z with
 |bl k=>cases k<;>rfl
 |_=>rfl
def aDY:yP tt tt' ρ G Q=tt ρ G λc G1=>if c=ak then tt' ρ G1 Q else Q ao G1:=rfl
def aRM:afA tt tt' ρ G Q=tt ρ G λc G1=>if c=ak then Q ak G1 else tt' ρ G1 Q:=rfl
def aNN:qY tt ρ G Q=tt ρ G λc G1=>Q (!c) G1:=rfl
def aIJ:a3O ta tb ρ G R=ta ρ G λx G1=>onB x λk=>if k=ak then tb ρ G1 R else R (.bl ao) G1:=by
 unfold a3O;congr 1;funext x G1;cases x with
 |bl k=>cases k<;>rfl
 |_=>rfl
def aIK:afB ta ρ G R=ta ρ G λx G1=>onB x λk=>R (.bl (!k)) G1:=rfl
def aNO:ahP ta ρ G R=ta ρ G λx G1=>onI x λk=>R (.int (-k)) G1:=rfl
def aNP:aF ρ G Q=Q [] G:=rfl
def awC:aA te tA ρ G Q=te ρ G λx G1=>tA ρ G1 λxs G2=>Q (x::xs) G2:=rfl
def aDZ:fM tA ρ G R=tA ρ G λxs G1=>a5L xs/\R (.tup xs) G1:=rfl
def aNQ:mR tA ρ G R=tA ρ G λxs G1=>a5L xs/\∀p,G1 p=au->R (.ref p) (aH G1 p (.lst xs)):=rfl
def aNR:a3R ρ G R=∀p,G p=au->R (.ref p) (aH G p (.cF ao [])):=rfl
def x_call{ex:aP->aZ}:aR sp ex tA ρ G R=tA ρ G λds G1=>sp ds G1 R (ex ρ):=rfl
def aRN{r:List D->Gp->iB->Prop}:iW r tA ρ G R=tA ρ G λxs G1=>r xs G1 R:=rfl
def x_m{r:RM3}:tM3 T r te tA ρ G R=te ρ G λx G1=>afF T G1 x/\tA ρ G1 λxs G2=>r x xs G2 R:=rfl
def aoR:afF "list" G (.ref p)=((bH G p).isSome=ak):=by unfold afF;simp
def awD{i j:Int}:eX (.int i) (.int j) G R=R (.int (i+j)) G:=rfl
def aNS{i j:Int}:adJ (.int i) (.int j) G R=R (.int (i - j)) G:=rfl
def aE0{i j:Int}:yQ (.int i) (.int j) G R=(asR i j/\R (.int (i*j)) G):=rfl
def aIL{i j:Int}:eO (.int i) (.int j) G R=(aEV i j/\R (.int (i / j)) G):=rfl
def aNT{i j:Int}:cN (.int i) (.int j) G R=(0<j/\R (.int (i%j)) G):=rfl
def aNU{i j:Int}:adK (.int i) (.int j) G R=(aEW i j/\R (.int (i^j.toNat)) G):=rfl
def x_lt{i j:Int}:aqL (.int i) (.int j) G R=R (.bl (decide (i<j))) G:=rfl
def aRO{i j:Int}:ac7 (.int i) (.int j) G R=R (.bl (decide (j<i))) G:=rfl
def aRP{i j:Int}:atH (.int i) (.int j) G R=R (.bl (decide (i<=j))) G:=rfl
def aBQ{i j:Int}:lE (.int i) (.int j) G R=R (.bl (i==j)) G:=by
 show(aV 20 (.int i)=ak/\aV 20 (.int j)=ak/\_)=_;simp[aV,eqP]
def aBR{i j:Int}:zK (.int i) (.int j) G R=R (.bl (!(i==j))) G:=by
 show(aV 20 (.int i)=ak/\aV 20 (.int j)=ak/\_)=_;simp[aV,eqP]
def aBS:lE (.str i) (.str j) G R=R (.bl (i==j)) G:=by
 show(aV 20 (.str i)=ak/\aV 20 (.str j)=ak/\_)=_;simp[aV,eqP]
def aBT:zK (.str i) (.str j) G R=R (.bl (!(i==j))) G:=by
 show(aV 20 (.str i)=ak/\aV 20 (.str j)=ak/\_)=_;simp[aV,eqP]
def aBU:lE (.tup xs) (.tup ys) G R=(aV 20 (.tup xs)=ak/\aV 20 (.tup ys)=ak/\R (.bl (eqP (.tup xs) (.tup ys))) G):=rfl
def aoS:zK (.tup xs) (.tup ys) G R=(aV 20 (.tup xs)=ak/\aV 20 (.tup ys)=ak/\R (.bl (!eqP (.tup xs) (.tup ys))) G):=rfl
def aBV{z:Str}:zY [.str z] G R=(z.length<=dh/\R (.int z.length) G):=rfl
def aBW:zY [.tup ds] G R=R (.int ds.length) G:=rfl
def afV(h:bH G q=aj ds):zY [.ref q] G R=R (.int ds.length) G:=by unfold zY;simp only[h]
def aBX:ahS [.bl b] G R=R (.int (if b then 1 else 0)) G:=rfl
def afW{i:Int}(h:atI xs i=aj d):cW (.tup xs) (.int i) G R=R d G:=by unfold cW;simp only[h]
def nZ{i:Int}(e:bH G p=aj xs)(h:atI xs i=aj d):cW (.ref p) (.int i) G R=R d G:=by unfold cW;simp only[e,h]
def aiT:aJ K [.non,.ty "int"] G R=R (.bl ao) G:=by
 show("int"∈jC/\R (.bl (L2.subB "NoneType" "int")) G)=_;rw[show L2.subB "NoneType" "int"=ao from by decide];simp[jC]
def afX:aJ K [.non,.ty "bool"] G R=R (.bl ao) G:=by
 show("bool"∈jC/\R (.bl (L2.subB "NoneType" "bool")) G)=_;rw[show L2.subB "NoneType" "bool"=ao from by decide];simp[jC]
def acC:aJ K [.non,.ty "tuple"] G R=R (.bl ao) G:=by
 show("tuple"∈jC/\R (.bl (L2.subB "NoneType" "tuple")) G)=_;rw[show L2.subB "NoneType" "tuple"=ao from by decide];simp[jC]
def alZ:aJ K [(.bl b),.ty "int"] G R=R (.bl ak) G:=by
 show("int"∈jC/\R (.bl (L2.subB "bool" "int")) G)=_;rw[show L2.subB "bool" "int"=ak from by decide];simp[jC]
def aiU:aJ K [(.bl b),.ty "bool"] G R=R (.bl ak) G:=by
 show("bool"∈jC/\R (.bl (L2.subB "bool" "bool")) G)=_;rw[show L2.subB "bool" "bool"=ak from by decide];simp[jC]
def afY:aJ K [(.bl b),.ty "tuple"] G R=R (.bl ao) G:=by
 show("tuple"∈jC/\R (.bl (L2.subB "bool" "tuple")) G)=_;rw[show L2.subB "bool" "tuple"=ao from by decide];simp[jC]
def aiV{i:Int}:aJ K [(.int i),.ty "int"] G R=R (.bl ak) G:=by
 show("int"∈jC/\R (.bl (L2.subB "int" "int")) G)=_;rw[show L2.subB "int" "int"=ak from by decide];simp[jC]
def afZ{i:Int}:aJ K [(.int i),.ty "bool"] G R=R (.bl ao) G:=by
 show("bool"∈jC/\R (.bl (L2.subB "int" "bool")) G)=_;rw[show L2.subB "int" "bool"=ao from by decide];simp[jC]
def acD{i:Int}:aJ K [(.int i),.ty "tuple"] G R=R (.bl ao) G:=by
 show("tuple"∈jC/\R (.bl (L2.subB "int" "tuple")) G)=_;rw[show L2.subB "int" "tuple"=ao from by decide];simp[jC]
def aiW:aJ K [(.str z),.ty "int"] G R=R (.bl ao) G:=by
 show("int"∈jC/\R (.bl (L2.subB "str" "int")) G)=_;rw[show L2.subB "str" "int"=ao from by decide];simp[jC]
def ag0:aJ K [(.str z),.ty "bool"] G R=R (.bl ao) G:=by
 show("bool"∈jC/\R (.bl (L2.subB "str" "bool")) G)=_;rw[show L2.subB "str" "bool"=ao from by decide];simp[jC]
def acE:aJ K [(.str z),.ty "tuple"] G R=R (.bl ao) G:=by
 show("tuple"∈jC/\R (.bl (L2.subB "str" "tuple")) G)=_;rw[show L2.subB "str" "tuple"=ao from by decide];simp[jC]
def aiX:aJ K [(.tup xs),.ty "int"] G R=R (.bl ao) G:=by
 show("int"∈jC/\R (.bl (L2.subB "tuple" "int")) G)=_;rw[show L2.subB "tuple" "int"=ao from by decide];simp[jC]
def ag1:aJ K [(.tup xs),.ty "bool"] G R=R (.bl ao) G:=by
 show("bool"∈jC/\R (.bl (L2.subB "tuple" "bool")) G)=_;rw[show L2.subB "tuple" "bool"=ao from by decide];simp[jC]
def acF:aJ K [(.tup xs),.ty "tuple"] G R=R (.bl ak) G:=by
 show("tuple"∈jC/\R (.bl (L2.subB "tuple" "tuple")) G)=_;rw[show L2.subB "tuple" "tuple"=ak from by decide];simp[jC]
def rG{q C C':bw}(h:G q=aj (.exn C))(e:ExC K C)(k:iy K (.ref C) (.ref C')=aj b)(z:R (.bl b) G):aJ K [.ref q,.ref C'] G R:=by
 unfold aJ;simp only[exD,h];exact⟨b,e,k,z⟩
def aBY{n:String}(h:G q=aj (.exn C))(e:ExC K C)(k:iy K (.ref C) (.type n)=aj b)(z:R (.bl b) G):aJ K [.ref q,.ty n] G R:=by
 unfold aJ;simp only[exD,tyD,h];exact⟨b,e,k,z⟩
end
def a5M(h:G p=aj (.lst xs)):bH G p=aj xs:=by unfold bH;rw[h]
def a07(h:G p=aj (.rol xs)):bH G p=aj xs:=by unfold bH;rw[h]
def cQ:bH (aH G p (.lst xs)) p=aj xs:=a5M aD
def aBZ(h:R d G)(l:Le G G'):bB R d G':=⟨G,l,h⟩
def ag2{P Q:Prop}(h1:b=ak->P)(h2:b=ao->Q):if b=ak then P else Q:=by
 cases b
 .exact h2 rfl
 .exact h1 rfl
abbrev kn(G:Gp)(d:D):Prop:=(tyD G d).isSome=ak
def awE(h:kn G (.ref q)):tyD G (.ref q)=aj "list" ∨ tyD G (.ref q)=aj "dict":=by
 unfold kn at h
 have e:tyD G (.ref q)=(match G q with
  |some (.lst _)=>aj "list"
  |some (.rol _)=>aj "list"
  |some (.cF _ _)=>aj "dict"
  |_=>au):=rfl
 rw[e]at h ⊢;split at h
 .exact .inl rfl
 .exact .inl rfl
 .exact .inr rfl
 .simp at h
def awF{b:List D}:kn G (.tup b):=rfl
variable{a:D}
section
variable{K:Fg}
def am0{x:D}{n:String}(e:tyD G x=aj T)(hn:n∈jC):aJ K [x,.ty n] G R=R (.bl (L2.subB T n)) G:=by
 show(match tyD G x with
  |some T=>n∈jC/\R (.bl (L2.subB T n)) G
  |none=>_)=_
 rw[e];exact propext ⟨λh=>h.2,λh=>⟨hn,h⟩⟩
def am1(h:kn G (.ref q)):aJ K [.ref q,.ty "int"] G R=R (.bl ao) G:=by
 rcases awE h with e|e<;>rw[am0 e (by decide)]<;>rfl
def a5N(h:kn G (.ref q)):aJ K [.ref q,.ty "tuple"] G R=R (.bl ao) G:=by
 rcases awE h with e|e<;>rw[am0 e (by decide)]<;>rfl
def at0{α:Type}{a:α}{xs:List α}:atI (a::xs) 0=aj a:=by
 unfold atI ixN;simp
def atS{α:Type}{a:α}{xs:List α}:atI (a::xs) ((n+1:Nat):Int)=atI xs (n:Int):=by
 unfold atI ixN;have h0:(0:Int)<=((n+1:Nat):Int):=by omega
 have h1:(0:Int)<=(n:Int):=by omega
 rw[if_pos h0,if_pos h1];by_cases h:n<xs.length
 .have a1:((n+1:Nat):Int)<((a::xs).length:Int):=by simp;omega
  have a2:(n:Int)<(xs.length:Int):=by omega
  rw[if_pos a1,if_pos a2];simp
 .have a1:¬ ((n+1:Nat):Int)<((a::xs).length:Int):=by simp;omega
  have a2:¬ (n:Int)<(xs.length:Int):=by omega
  rw[if_neg a1,if_neg a2];rfl
def aaM{α:Type}{xs:List α}:atI xs (n:Int)=xs[n]?:=by
 unfold atI ixN;rw[if_pos (by omega)];by_cases h:n<xs.length
 .rw[if_pos (by omega)];simp
 .rw[if_neg (by omega)];simp at h;simp[h]
def aoT:cW (.tup (a::xs)) (.int 0) G R=R a G:=afW at0
variable{b:D}
def aoU:cW (.tup (a::b::xs)) (.int 1) G R=R b G:=afW (i:=((1:Nat):Int)) (by rw[atS,aaM];rfl)
def aC0{c:D}:cW (.tup (a::b::c::xs)) (.int 2) G R=R c G:=afW (i:=((2:Nat):Int)) (by rw[atS,aaM];rfl)
end
section
end
variable{xs:List D}
section
def aaN{a b:bw}{ys:List D}(h1:bH G a=aj xs)(h2:bH G b=aj ys)(s1:xs.all (aV 20)=ak)(s2:ys.all (aV 20)=ak):lE (.ref a) (.ref b) G R=R (.bl (sS xs ys)) G:=by
 show eqG G (.ref a) (.ref b) (λb=>R (.bl b) G)=_;unfold eqG;simp only[h1,h2,s1,s2,true_and]
end
section
variable{i j:Int}
def aIM(h:-18446744073709551616<i/\i<18446744073709551616):yQ (.int i) (.int j) G R=R (.int (i*j)) G:=by
 rw[aE0];exact propext ⟨λz=>z.2,λz=>⟨.inl ⟨by have:=h.1;omega,by have:=h.2;omega⟩,z⟩⟩
def aIN(h:-18446744073709551616<j/\j<18446744073709551616):yQ (.int i) (.int j) G R=R (.int (i*j)) G:=by
 rw[aE0];exact propext ⟨λz=>z.2,λz=>⟨.inr ⟨by have:=h.1;omega,by have:=h.2;omega⟩,z⟩⟩
def aoV(h:0<j/\j<1073741824):eO (.int i) (.int j) G R=R (.int (i / j)) G:=by
 rw[aIL];exact propext ⟨λz=>z.2,λz=>⟨h,z⟩⟩
def awG(h:0<j):cN (.int i) (.int j) G R=R (.int (i%j)) G:=by
 rw[aNT];exact propext ⟨λz=>z.2,λz=>⟨h,z⟩⟩
def aIO(h:0<=j/\j<=1000000/\i.natAbs<18446744073709551616):adK (.int i) (.int j) G R=R (.int (i^j.toNat)) G:=by
 rw[aNU];exact propext ⟨λz=>z.2,λz=>⟨⟨h.1,h.2.1,h.2.2⟩,z⟩⟩
end
section
variable{i:Int}
def awH{α:Type}{xs:List α}{i:Int}(h0:0<=i)(h1:i<(xs.length:Int)):∃d,atI xs i=aj d/\d∈xs:=by
 obtain⟨n,rfl⟩:=Int.eq_ofNat_of_zero_le h0;have hn:n<xs.length:=by omega
 exact⟨xs[n],by rw[aaM];simp[hn],ux hn⟩
def xT(e:bH G p=aj xs)(h0:0<=i)(h1:i<(xs.length:Int))(h:∀d∈xs,R d G):cW (.ref p) (.int i) G R:=by
 obtain⟨d,h2,h3⟩:=awH h0 h1;rw[nZ e h2];exact h d h3
variable{P:D->Prop}
def all_nil:∀d∈([]:List D),P d:=λ_ h=>by simp at h
def all_cons{r:List D}(h1:P a)(h2:∀d∈r,P d):∀d∈a::r,P d:=λd h=>by
 rcases jd.mp h with rfl|h
 .exact h1
 .exact h2 d h
end
section
variable{b:Bool}{α:Type}{a:α}{l:List α}
def am2:(True/\P)=P:=true_and P
def awI:((!b)=ak)=(b=ao):=by cases b<;>simp
def arF:(if True then P else Q)=P:=if_true ..
def am3:(if False then P else Q)=Q:=if_false ..
def aNV:(ao=ak)=False:=by simp
def aNW:(ak=ao)=False:=by simp
def am4:(a::l).length=l.length+1:=qb
def arG:([]:List α).length=0:=rfl
def arH{β:Type}{f:α->β}:(l.map f).length=l.length:=gk ..
end
end L5
namespace L6
open PySem PySem.Spec PyProof.Rows L2 L4 L5
abbrev aIP(x:D)(G:Gp)(Q:Src->Gp->Prop):Prop:=match x with
 |.ref p=>(match bH G p with
  |some xs=>Q (.lst p xs) G
  |none=>False)
 |.tup xs=>Q (.imm xs) G
 |.str z=>Q (.imm (signs z)) G
 |_=>False
abbrev awJ(x:D)(G:Gp)(Q:Src->Gp->Prop):Prop:=match x with
 |.ref p=>(match bH G p with
  |some xs=>Q (.lst p xs) G
  |none=>False)
 |.str z=>Q (.imm (signs z)) G
 |.tup xs=>xs.all scD=ak/\∀a,(G a=au∨G a=aj (.tpl xs))->Q (.tpl a xs) (aH G a (.tpl xs))
 |_=>False
abbrev aE1(xs:List D)(G:Gp)(Q:Src->Gp->Prop):Prop:=match xs with
 |[.int j]=>-(2^62)<=j/\j<2^62/\Q (.imm (acA 0 j)) G
 |_=>False
section
variable{p:bw}{j:Int}
def aC1:a6K te ρ G Q=te ρ G λx G1=>aIP x G1 Q:=rfl
def aNX:au9 te ρ G Q=te ρ G λx G1=>awJ x G1 Q:=rfl
def aIQ:a3S ta ρ G Q=ta ρ G λxs G1=>aE1 xs G1 Q:=rfl
def aaO(h:bH G p=aj xs):aIP (.ref p) G Q=Q (.lst p xs) G:=by unfold aIP;simp only[h]
def aeC(h:bH G p=aj xs):awJ (.ref p) G Q=Q (.lst p xs) G:=by unfold awJ;simp only[h]
def aC2(h:-4611686018427387904<=j/\j<4611686018427387904):aE1 [.int j] G Q=Q (.imm (acA 0 j)) G:=by
 show(_/\_/\_)=_;exact propext ⟨λz=>z.2.2,λz=>⟨by omega,by omega,z⟩⟩
end
abbrev aiY(dv:D->Option (List D))(src:Src)(tc:TT3)(te:cJ)(ρ:aP)(G1:Gp)(R:iB):Prop:=src.items.length<dh/\∀p,G1 p=au->∃P:Nat->List D->Gp->Prop,P 0 [] (aH G1 p (.lst [])) /\
 (∀k ds G,k<=src.items.length->P k ds G->src.ok G/\G p=aj (.lst ds)/\ds.length<=k) /\
 (∀k d ds G,src.items[k]?=aj d->P k ds G->∃ys,dv d=aj ys/\tc (ys.map aj++ρ) G λb G2=>if b=ak then te (ys.map aj++ρ) G2 λy G3=>G3 p=aj (.lst ds)/\P (k+1) (ds++[y]) (aH G3 p (.lst (ds++[y])))else P (k+1) ds G2) /\
 ∀ds G,P src.items.length ds G->∃G0,Le G0 G/\R (.ref p) G0
variable{ti:TI3}{tc:TT3}
def awK{dv:D->Option (List D)}:a4X dv ti tc te ρ G R=ti ρ G λsrc G1=>aiY dv src tc te ρ G1 R:=rfl
variable{p:bw}
private theorem a1P(l:Le G G')(h:bH G p=aj xs):bH G' p=aj xs:=by
 unfold bH at h ⊢;split at h
 .rename_i e;rw[l _ _ e];exact h
 .rename_i e;rw[l _ _ e];exact h
 .cases h
variable{src:Src}
def aE2(l:Le G G')(h:src.ok G):src.ok G':=by
 cases src with
 |lst p xs=>exact a1P l h
 |imm xs=>trivial
 |zip p q xs ys=>exact⟨a1P l h.1,a1P l h.2⟩
 |itm p o kvs=>exact l _ _ h
 |key p o t kvs=>exact l _ _ h
 |tpl p xs=>exact l _ _ h
 |enu p xs=>exact l _ _ h
 |nky p o kvs=>exact l _ _ h
def awL{o:GO}(l:Le (aH G p o) G'):Le (aH G p o') (aH G' p o'):=λa u e=>by
 by_cases h:a=p
 .subst h;rw[aD]at e ⊢;exact e
 .rw[aW h]at e ⊢;exact l a u (by rw[aW h];exact e)
def awM{dv:D->Option (List D)}(v:D->List D)(c:D->Bool)(f:D->D)(hl:src.items.length<dh)(hok:src.ok G)(hv:∀d∈src.items,dv d=aj (v d))
  (hc:∀d∈src.items,∀G',Le G G'->∀Q:Bool->Gp->Prop,(∀G'',Le G' G''->Q (c d) G'')->tc ((v d).map aj++ρ) G' Q)
  (he:∀d∈src.items,c d=ak->∀G',Le G G'->∀Q:D->Gp->Prop,(∀G'',Le G' G''->Q (f d) G'')->te ((v d).map aj++ρ) G' Q)
  (h:∀p,G p=au->R (.ref p) (aH G p (.lst ((src.items.filter c).map f)))):aiY dv src tc te ρ G R:=by
 refine⟨hl,λp hp=>⟨λk ds G'=>ds=((src.items.take k).filter c).map f/\Le (aH G p (.lst ds)) G',⟨rfl,.refl _⟩,λk ds G' hk ⟨e,l⟩=>?_,λk d ds G' hd ⟨e,l⟩=>?_,λds G' ⟨e,l⟩=>?_⟩⟩
 .refine⟨aE2 ((Le.new hp).trans l) hok,l p _ aD,?_⟩;rw[e,gk];exact qu (yq _ _) (by rw[a2j];omega)
 .have hm:d∈src.items:=jz hd
  have ht:src.items.take (k+1)=src.items.take k++[d]:=by
   rw[a2b,hd];rfl
  refine⟨v d,hv d hm,hc d hm G' ((Le.new hp).trans l) _ λG2 l2=>?_⟩;cases hcd:c d with
  |true =>
   rw[if_pos rfl];refine he d hm hcd G2 (((Le.new hp).trans l).trans l2) _ λG3 l3=>?_;have l4:=(l.trans l2).trans l3;refine⟨l4 p _ aD,?_,awL l4⟩;rw[ht,List.filter_append,ql,←e];simp[hcd]
  |false =>
   rw[if_neg (by decide)];refine⟨?_,l.trans l2⟩;rw[ht,List.filter_append,ql,←e];simp[hcd]
 .rw[a1r]at e;subst e;exact⟨_,l,h p hp⟩
def a9C(c:D->Bool)(f:D->D)(hl:src.items.length<dh)(hok:src.ok G)
  (hc:∀d∈src.items,∀G',Le G G'->∀Q:Bool->Gp->Prop,(∀G'',Le G' G''->Q (c d) G'')->tc (aj d::ρ) G' Q)
  (he:∀d∈src.items,c d=ak->∀G',Le G G'->∀Q:D->Gp->Prop,(∀G'',Le G' G''->Q (f d) G'')->te (aj d::ρ) G' Q)
  (h:∀p,G p=au->R (.ref p) (aH G p (.lst ((src.items.filter c).map f)))):aiY afI src tc te ρ G R:=awM (λd=>[d]) c f hl hok (λ_ _=>rfl) hc he h
abbrev aoW(src:Src)(tg:TG3)(tb:bJ)(F:gJ)(ρ:aP)(G1:Gp):Prop:=∃P:Nat->aP->Gp->Prop,P 0 ρ G1/\(∀k ρ G,k<=src.items.length->P k ρ G->src.ok G) /\
 (∀k d ρ G,src.items[k]?=aj d->P k ρ G->tg d ρ λρ2=>tb {F with nx:=P (k+1),ct:=P (k+1),bk:=F.nx} ρ2 G)/\∀ρ G,P src.items.length ρ G->F.nx ρ G
variable{tg:TG3}{F:gJ}
def aIR:a3T ti tg tb F ρ G=ti ρ G λsrc G1=>aoW src tg tb F ρ G1:=rfl
variable{i:Nat}
def aC3:a01 i d ρ Q=Q (a1Y ρ i d):=rfl
def a3V{is:List Nat}{ds:List D}(h:ds.length=is.length):adT is (.tup ds) ρ Q=Q (a7S ρ is ds):=propext ⟨λz=>z.2,λz=>⟨h,z⟩⟩
def aC4:a7S ρ is []=ρ:=by cases is<;>rfl
def aoX:a7S ρ (i::is) (d::ds)=a7S (a1Y ρ i d) is ds:=rfl
variable{j:Int}
def aiZ(P:Nat->aP->Gp->Prop)(h0:P 0 ρ G)
  (hb:∀(k:Nat) ρ G,(k:Int)<j->P k ρ G->tg (.int k) ρ λρ2=>tb {F with nx:=P (k+1),ct:=P (k+1),bk:=F.nx} ρ2 G)(he:∀ρ G,P j.toNat ρ G->F.nx ρ G):aoW (.imm (acA 0 j)) tg tb F ρ G:=by
 have hlen:(Src.imm (acA 0 j)).items.length=j.toNat:=by simp[Src.items,acA]
 refine⟨P,h0,λ_ _ _ _ _=>trivial,λk d ρ G hd p=>?_,λρ G p=>he ρ G (hlen ▸ p)⟩;have hk:k<j.toNat:=by rw[←hlen];exact(jk.mp hd).1
 have e:d=.int k:=by
  have:(acA 0 j)[k]?=aj d:=hd;unfold acA at this;rw[vm,List.getElem?_range (by omega)]at this;simp at this;exact this.symm
 subst e;exact hb k ρ G (by omega) p
def aj0{xs:List D}(P:Nat->aP->Gp->Prop)(h0:P 0 ρ G)(hs:∀k ρ G,P k ρ G->bH G q=aj xs)
  (hb:∀k d ρ G,xs[k]?=aj d->P k ρ G->tg d ρ λρ2=>tb {F with nx:=P (k+1),ct:=P (k+1),bk:=F.nx} ρ2 G)(he:∀ρ G,P xs.length ρ G->F.nx ρ G):aoW (.lst q xs) tg tb F ρ G :=
 ⟨P,h0,λk ρ G _ p=>hs k ρ G p,hb,he⟩
section
variable{i:Int}
def aNY:afK [.int i,.int j] G R=R (.int (if j<i then j else i)) G:=rfl
def aNZ:afJ [.int i,.int j] G R=R (.int (if i<j then j else i)) G:=rfl
def aj1{ds:List D}(h:G p=aj (.lst ds))(hl:ds.length<dh):wA (.ref p) [d] G R=R .non (aH G p (.lst (ds++[d]))):=by
 unfold wA;simp only[h,hl,true_and]
def aO0{b:bw}{ds es:List D}(h:G p=aj (.lst ds))(h2:G b=aj (.lst es))(hl:ds.length+es.length<=dh):eX (.ref p) (.ref b) G R=∀q,G q=au->R (.ref q) (aH G q (.lst (ds++es))):=by
 unfold eX;simp only[h,h2,hl,true_and]
def awN(h:bH G q=aj ds):a9V [.ref q] G R=∀l,G l=au->R (.ref l) (aH G l (.lst ds)):=by
 unfold a9V;simp only[h]
end
section
variable{F:gJ}
def aIS:aa2 is te F ρ G=te ρ G λd G1=>adT is d ρ λρ2=>F.nx ρ2 G1:=rfl
def aj2:∀ns ms:List Int,ns.map D.int=ms.map D.int->ns=ms
 |[],[],_=>rfl
 |[],_::_,e=>by cases e
 |_::_,[],e=>by cases e
 |n::ns,m::ms,e=>by
  simp only[iz,List.cons.injEq]at e;obtain⟨e1,e2⟩:=e;cases e1;rw[aj2 ns ms e2]
def aO1{ns:List Int}(h:bH G q=aj (ns.map D.int)):anU [.ref q] G R=R (.int ns.sum) G:=by
 refine propext ⟨λz=>?_,λz=>?_⟩
 .have z':(match bH G q with
   |some ds=>∃ns:List Int,ds=ns.map D.int/\R (.int ns.sum) G
   |none=>False):=z
  rw[h]at z';obtain⟨ms,e,r⟩:=z';rw[aj2 ns ms e];exact r
 .show(match bH G q with
   |some ds=>∃ns:List Int,ds=ns.map D.int/\R (.int ns.sum) G
   |none=>False)
  rw[h];exact⟨ns,rfl,z⟩
def aoY(h1:bH G p=aj xs)(h2:bH G q=aj ys):a7T (.ref p) (.ref q) G R=(azZ G xs ys=ak/\R (.bl (alJ G xs ys)) G):=by
 unfold a7T aqW;simp only[h1,h2]
def aC5(h1:bH G p=aj xs)(h2:bH G q=aj ys):ai1 (.ref p) (.ref q) G R=(azZ G xs ys=ak/\R (.bl (!alJ G xs ys)) G):=by
 unfold ai1 aqW;simp only[h1,h2]
end
end L6
namespace L7
open PySem PySem.Spec PyProof.Rows L2 L4 L5 L6
variable{r:Int×Int}{M:List (Int×Int)}
section
variable{F:gJ}{p:bw}
def aIT:a1I ρ G R=∀p,G p=au->R (.ref p) (aH G p (.cF ak [])):=rfl
def aIU:aa8 to ti tv F ρ G=tv ρ G λv G1=>to ρ G1 λx G2=>ti ρ G2 λy G3=>anZ x y v F ρ G3:=rfl
@[simp]def prK(q:Int×Int):DK:=.inr [.inl q.1,.inl q.2]
abbrev ent(q:Int×Int):DK×D:=(prK q,.bl ak)
abbrev setG(M:List (Int×Int)):GO:=.cF ak (M.map ent)
abbrev a2A(M:List (Int×Int))(q:Int×Int):List (Int×Int):=if q∈M then M else M++[q]
def aC7(h:prK q=prK r):q=r:=by
 have h:(Sum.inr [.inl q.1,.inl q.2]:DK)=.inr [.inl r.1,.inl r.2]:=h;simp only[Sum.inr.injEq,List.cons.injEq,Sum.inl.injEq,and_true]at h;exact Prod.ext h.1 h.2
def aoZ:∀{M:List (Int×Int)},(aL (M.map ent) (prK q)).isSome=decide (q∈M)
 |[]=>rfl
 |r::M=>by
  rw[iz];unfold aL;by_cases c:r=q
  .subst c;rw[if_pos (show(ent r).1=prK r from rfl)];simp
  .rw[if_neg (show ¬ (ent r).1=prK q from λz=>c (aC7 z)),aoZ];have:q≠r:=λz=>c z.symm;simp[this]
def aC8:cP (M.map ent) (prK q) (.bl ak)=(a2A M q).map ent:=by
 unfold cP a2A;rw[aoZ];by_cases c:q∈M
 .rw[if_pos c,if_pos (by simpa using c),kh];apply vg;intro r _;show(if(ent r).1=prK q then((ent r).1,D.bl ak)else ent r)=ent r;split<;>rfl
 .rw[if_neg c,if_neg (by simpa using c),ql];rfl
def aeD:∀{M:List (Int×Int)},a6U (M.map λq=>.tup [.tup [.int q.1,.int q.2],.bl ak])=aj (M.map λq=>([.inl q.1,.inl q.2],.bl ak))
 |[]=>rfl
 |q::M=>by
  rw[iz];unfold L2.a6U;rw[aeD];rfl
def aj3:∀{M N:List (Int×Int)},ao3 (N.map ent) (M.map λq=>([.inl q.1,.inl q.2],.bl ak))=(M.foldl a2A N).map ent
 |[],N=>rfl
 |q::M,N=>by
  rw[iz,a1D];show ao3 (cP (N.map ent) (prK q) (.bl ak)) _=_;rw[aC8,aj3]
def arI(h:bH G p=aj (M.map λq=>.tup [.tup [.int q.1,.int q.2],.bl ak])):a1M [.ref p] G R=∀r,G r=au->R (.ref r) (aH G r (setG (M.foldl a2A []))):=by
 unfold L2.a1M;simp only[h,aeD];have:=aj3 (M:=M) (N:=[]);simp only[a2n]at this;rw[this];rfl
private theorem awO:r∈a2A M q↔r∈M∨r=q:=by
 unfold a2A;split
 ·rename_i h;exact⟨.inl,λz=>z.elim id λe=>e ▸ h⟩
 .simp
def aj4{r:Int×Int}:∀{M N:List (Int×Int)},r∈M.foldl a2A N↔r∈N∨r∈M
 |[],N=>by simp
 |q::M,N=>by
  rw[a1D,aj4,awO,jd];exact⟨λz=>z.elim (λz=>z.elim .inl λe=>.inr (.inl e)) λz=>.inr (.inr z),λz=>z.elim (λz=>.inl (.inl z)) λz=>z.elim (λe=>.inl (.inr e)) .inr⟩
def awP(M:List (Int×Int))(q:Int×Int):(a2A M q).length<=M.length+1:=by
 unfold a2A;split<;>simp
private theorem am5(h:M.Nodup):(a2A M q).Nodup:=by
 unfold a2A;split
 ·exact h
 .rename_i c;rw[vo];refine⟨h,by simp,λa ha b hb e=>?_⟩;rw[qj]at hb;subst hb e;exact c ha
end
end L7
namespace L8
open PySem PySem.Spec PyProof.Rows L2 L4 L5 L6 L7
section
variable{F:gJ}{p:bw}{m:Str}{fs:List (Str×D)}
def aO2:lA C ta f ρ G R=ta ρ G λx G1=>auO C f x G1 R:=rfl
def iH(h:G p=aj (.ins C fs))(e:fs.lookup f=aj d):auO C f (.ref p) G R=R d G:=by
 unfold L2.auO;simp only[h,e];exact propext ⟨λz=>z.2,λz=>⟨trivial,z⟩⟩
def aIV:a6N C ta tv f F ρ G=tv ρ G λy G1=>ta ρ G1 λx G2=>ai5 C f x y F ρ G2:=rfl
def ag3(h:G p=aj (.ins C fs))(hl:fs.length<1000):ai5 C f (.ref p) y F ρ G=F.nx ρ (aH G p (.ins C (ai4 f y fs))):=by
 unfold L2.ai5;simp only[h];exact propext ⟨λz=>z.2.2,λz=>⟨trivial,hl,z⟩⟩
def fO(h:G p=aj (.ins C fs))(e:fs.lookup m=au):ai7 C m (.ref p) G=True:=eq_true ⟨p,fs,rfl,h,e⟩
def aC9{t:xG}:gB C m sp dd EX ta t ρ G R=ta ρ G λx G1=>ai7 C m x G1/\t ρ G1 λds G2=>sp (x::(ds++dd)) G2 R (EX ρ):=rfl
def aCA{t:xG}:a6O C sp dd EX t ρ G R=t ρ G λds G1=>∀x,G1 x=au->sp (.ref x::(ds++dd)) (aH G1 x (.ins C [])) (λv G2=>v=.non/\R (.ref x) G2) (EX ρ):=rfl
def aRQ{r:RM3}{t:xG}:alK r to t ρ G R=to ρ G λx G1=>vJ x G1/\t ρ G1 λxs G2=>r x xs G2 R:=rfl
def aCB:uG to te tf ρ G R=to ρ G λx G1=>vJ x G1/\te ρ G1 λy G2=>tf ρ G2 λz G3=>wC x y G3 λ_ _ kvs k=>R ((aL kvs k).getD z) G3:=rfl
def lH{t:Bool}(h:G p=aj (.cF t kvs)):vJ (.ref p) G=True:=by
 unfold L2.vJ;simp only[h]
def pQ{t:Bool}{k:DK}(h:G p=aj (.cF t kvs))(hk:a1Z y=aj k)(ht:uF k=t):wC (.ref p) y G P=P p t kvs k:=by
 unfold L2.wC;simp only[h,hk];exact propext ⟨λz=>z.2,λz=>⟨ht,z⟩⟩
def arJ{t:Bool}{k:DK}(h:a5B G p=aj (t,kvs))(hk:a1Z y=aj k)(ht:uF k=t):aa7 (.ref p) y G P=P kvs k:=by
 unfold L2.aa7;simp only[h,hk,ht,true_and]
def arK{t:Bool}(h:G p=aj (.cF t kvs)):a5B G p=aj (t,kvs):=by unfold L2.a5B;rw[h]
def arL{o:Obj}{t:Bool}(h:G p=aj (.rdc o t kvs)):a5B G p=aj (t,kvs):=by unfold L2.a5B;rw[h]
def aj5{t:Bool}{k:DK}(h:a5B G p=aj (t,kvs))(hk:a1Z y=aj k)(ht:uF k=t)(e:aL kvs k=aj d):sW (.ref p) y G R=R d G:=by
 unfold L2.sW;rw[arJ h hk ht];simp only[e]
def a5O{t:Bool}{k:DK}(h:G p=aj (.cF t kvs))(hk:a1Z y=aj k)(ht:uF k=t)(e:aL kvs k=aj d):sW (.ref p) y G R=R d G:=aj5 (arK h) hk ht e
def ap0{kvs:List (DK×D)}(h:G p=aj (.cF ao kvs)):a6R [.ref p] G R=R (.int kvs.length) G:=by
 unfold L2.a6R;simp only[h]
end
end L8
namespace L9
open PySem PySem.Spec PyProof.Rows L2 L4 L5 L6 L7 L8
variable{i:Int}{ps:List (Int×Int)}
section
variable{F:gJ}{p:bw}
@[simp]def ky(a p:Int):List Key:=[.inl a,.inl p]
def aCC:a5H to ρ G R=to ρ G λx G1=>uH x G1 R:=rfl
def aIW:afT to ρ G R=to ρ G λx G1=>a04 x G1 R:=rfl
def rN{a q:Int}:a1Z (.tup [.int a,.int q])=aj (.inr (ky a q)):=rfl
def tD:a1Z (.int i)=aj (.inl (.inl i)):=rfl
def rO{k:List Key}:∀{M:List (List Key×bw)},aL (M.map ktD) (.inr k)=(aL M k).map D.ref
 |[]=>rfl
 |z::M=>by
  rw[iz];unfold aL;by_cases c:z.1=k
  .rw[if_pos c,if_pos (by show(Sum.inr z.1:DK)=_;rw[c])];rfl
  .rw[if_neg c,if_neg (show ¬ (ktD z).1=Sum.inr k from λe=>c (mU _ _ e))];exact rO
def uI{i:Int}:∀{ps:List (Int×Int)},aL (ps.map rK) (.inl (.inl i))=(aL ps i).map D.int
 |[]=>rfl
 |z::M=>by
  rw[iz];unfold aL;by_cases c:z.1=i
  .rw[if_pos c,if_pos (by show(Sum.inl (Sum.inl z.1):DK)=_;rw[c])];rfl
  .rw[if_neg c,if_neg (show ¬ (rK z).1=Sum.inl (Sum.inl i)from λe=>c (by have:=p8 _ _ e;injection this))];exact uI
def ap1{v:Int}:cP (ps.map rK) (.inl (.inl i)) (.int v)=(cP ps i v).map rK:=by
 unfold cP;rw[uI,a2e];split
 ·rw[kh,kh];refine vg λz _=>?_;show(if(Sum.inl (Sum.inl z.1):DK)=_ then _ else _)=rK (if z.1=i then(z.1,v)else z);by_cases c:z.1=i
  .rw[if_pos c,if_pos (by rw[c])];rfl
  .rw[if_neg c,if_neg (λe=>c (by have:=p8 _ _ e;injection this))]
 .rw[ql];rfl
def awQ:bT (ps.map rK) (.inl (.inl i))=(bT ps i).map rK:=by
 unfold bT;rw[a2r];congr 1;refine List.filter_congr λz _=>?_;show(!decide ((Sum.inl (Sum.inl z.1):DK)=.inl (.inl i)))=_;by_cases c:z.1=i
 .rw[c];simp
 .rw[decide_eq_false c,decide_eq_false (λe=>c (by have:=p8 _ _ e;injection this))]
def awR{k:List Key}{M:List (List Key×bw)}:bT (M.map ktD) (.inr k)=(bT M k).map ktD:=by
 unfold bT;rw[a2r];congr 1;refine List.filter_congr λz _=>?_;show(!decide ((Sum.inr z.1:DK)=.inr k))=_;by_cases c:z.1=k
 .rw[c];simp
 .rw[decide_eq_false c,decide_eq_false (λe=>c (mU _ _ e))]
def awS{κ α:Type}[DecidableEq κ]{kvs:List (κ×α)}{k:κ}{v:α}(h:aL kvs k=au):cP kvs k v=kvs++[(k,v)]:=by
 unfold cP;rw[h];rfl
def aCD{k:DK}{kvs:List (DK×D)}(h:G p=aj (.cF ak kvs))(hk:a1Z y=aj k)(ht:uF k=ak)(hl:kvs.length<dh)(e:aL kvs k=au):a7U (.ref p) [y,z] G R=R z (aH G p (.cF ak (kvs++[(k,z)]))):=by
 unfold L2.a7U;simp only;rw[pQ h hk ht];simp only[e,awS e];exact propext ⟨λw=>w.2.2,λw=>⟨trivial,hl,w⟩⟩
def aCE{k:DK}{kvs:List (DK×D)}(h:G p=aj (.cF ak kvs))(hk:a1Z y=aj k)(ht:uF k=ak)(hl:kvs.length<dh)(e:aL kvs k=aj d):a7U (.ref p) [y,z] G R=R d G:=by
 unfold L2.a7U;simp only;rw[pQ h hk ht];simp only[e];exact propext ⟨λw=>w.2.2,λw=>⟨trivial,hl,w⟩⟩
def ap2{t:Bool}{k:DK}(h:G p=aj (.cF t kvs))(hk:a1Z y=aj k)(ht:uF k=t)(e:aL kvs k=aj d):a6Q (.ref p) [y] G R=R d (aH G p (.cF t (bT kvs k))):=by
 unfold L2.a6Q;simp only;rw[pQ h hk ht];simp only[e]
def ap3{t:Bool}{v:D}{k:DK}{kvs:List (DK×D)}(h:G p=aj (.cF t kvs))(hk:a1Z y=aj k)(ht:uF k=t)(hl:kvs.length<dh):anZ (.ref p) y v F ρ G=F.nx ρ (aH G p (.cF t (cP kvs k v))):=by
 unfold L2.anZ;rw[pQ h hk ht];exact propext ⟨λw=>w.2,λw=>⟨hl,w⟩⟩
def aIX{t:Bool}{k:DK}(h:G p=aj (.cF t kvs))(hk:a1Z y=aj k)(ht:uF k=t):ai9 y (.ref p) G R=R (.bl (aL kvs k).isSome) G:=by
 unfold L2.ai9;rw[pQ h hk ht]
def aj6(h:G p=aj (.cF ao (ps.map rK)))(hl:ps.length<64)(k:∀qs:List (Int×Int),qs.Perm ps->fK qs->∀r,G r=au->R (.ref r) (aH G r (.lst (qs.map dR)))):uH (.ref p) G R:=by
 unfold L2.uH;simp only[h];exact⟨ps,rfl,hl,k⟩
def aCF(h:G p=aj (.cF ao (ps.map rK)))(k:R (.int (ps.map (·.2)).sum) G):a04 (.ref p) G R:=by
 unfold L2.a04;simp only[h];exact⟨ps,rfl,k⟩
def aj7{kvs:List (DK×D)}(h:G p=aj (.cF ak kvs))(e:(kvs.map λq=>dkD q.1)=ps.map dR)(nd:ps.Nodup)(hl:ps.length<64)(k:∀qs:List (Int×Int),qs.Perm ps->fK qs->∀r,G r=au->R (.ref r) (aH G r (.lst (qs.map dR)))):rJ [.ref p] G R:=by
 unfold L2.rJ;simp only[h];exact⟨ps,e,nd,hl,k⟩
def arM{ds:List D}{b:Bool}(h:bH G q=aj ds)(ha:ds.all auE=ak)(j:Nat)(hj:ds[j]?=aj (.bl b))(hn:∀m,m<j->ds[m]?≠aj (.bl b))(k:R (.int j) G):wF (.ref q) [.bl b] G R:=by
 unfold L2.wF;simp only[h];exact⟨ha,j,hj,hn,k⟩
end
end L9
namespace L10
open PySem PySem.Spec PyProof.Rows L2 L4 L5 L6
section
variable{p:bw}{al t:Bool}
def awT:a3U al te ρ G Q=te ρ G λx G1=>aaF al x G1 Q:=rfl
def aCG(h:G p=aj (.cF t kvs)):aaF al (.ref p) G Q=∀od,Q (.key p od t kvs) (aH G p (.rdc od t kvs)):=by
 unfold L2.aaF;simp only[h]
def awU{α β:Type}{f:α->β}{l:List α}{k:Nat}{d:β}(h:(l.map f)[k]?=aj d):∃q,l[k]?=aj q/\f q=d:=by
 rw[vm]at h;cases e:l[k]? with
 |none=>rw[e]at h;cases h
 |some q=>rw[e]at h;exact⟨q,rfl,jf.inj h⟩
end
end L10
namespace L11
open PySem PySem.Spec PyProof.Rows L2 L4 L5 L6
section
end
end L11
namespace L12
open PySem PySem.Spec PyProof.Rows L2 L4 L5 L6
section
end
end L12
namespace L15
open PySem PySem.Spec PyProof.Rows L2 L4 L5 L6
variable{F:gJ}
def aIZ:a5I ρ G R=∀p,G p=au->R (.ref p) (aH G p (.nU [])):=rfl
def aeE:pA te ρ G Q=te ρ G λx G1=>aoI x G1 Q:=rfl
def aJ0:a6Y to te tf ρ G R=to ρ G λx G1=>isNm x G1/\te ρ G1 λy G2=>tf ρ G2 λz G3=>ar8 x y z G3 R:=rfl
def aJ1:aaG to ti tv F ρ G=tv ρ G λv G1=>to ρ G1 λx G2=>ti ρ G2 λy G3=>ar9 x y v F ρ G3:=rfl
def aCH:a9A to ρ G R=to ρ G λx G1=>a99 x G1 R:=rfl
variable{p:bw}
def awV{i:Nat}(h1:at3 ρ i=aj (.ref p))(h2:G p=aj (.nU kvs))(h:te ρ G λd G1=>R d G1∨((∃od,G1 p=aj (.rnm od kvs))/\R d (aH G1 p (.nU kvs)))):a7W i te ρ G R:=⟨p,h1,.inr ⟨kvs,h2,h⟩⟩
def awW{ps:List (Int×Int)}(h:G p=aj (.cF ao (ps.map rK)))(hl:ps.length<1000000)(k:∀l,G l=au->R (.ref l) (aH G l (.lst (ps.map dR)))):a99 (.ref p) G R:=⟨ps,h,hl,k⟩
end L15
namespace Law
open PySem PySem.Spec PyProof.Rows L2 L4
abbrev top(i:Nat):qm:=PySem.Challenge.pw_depot_k22_deeds_on_shelves.main.body.getD i (.Pass ⟨0,0,0,0⟩)
@[simp]def aaP:qm:=top 12
@[simp]def aeF:qm:=top 13
@[simp]def a80:qm:=top 14
@[simp]def aeG:qm:=top 17
@[simp]def a81:qm:=top 18
@[simp]def aj8:qm:=top 19
@[simp]def aaQ:qm:=top 21
@[simp]def aaR:qm:=top 22
@[simp]def a2R:qm:=top 23
@[simp]def aj9:qm:=top 26
@[simp]def aaS:qm:=top 27
@[simp]def eY:qm:=inClass (top 28) 0
@[simp]def wH:qm:=inClass (top 28) 6
@[simp]def rA:qm:=inClass (top 28) 10
@[simp]def a2S:qm:=inClass (top 28) 1
@[simp]def wI:qm:=inClass (top 28) 4
@[simp]def pR:qm:=inClass (top 28) 9
@[simp]def a08:qm:=inClass (top 28) 2
@[simp]def yU:qm:=inClass (top 28) 3
@[simp]def a09:qm:=inClass (top 28) 5
@[simp]def wJ:qm:=inClass (top 28) 7
@[simp]def yV:qm:=inClass (top 28) 8
@[simp]def a0A:qm:=top 30
@[simp]def a82:qm:=top 31
@[simp]def a2T:qm:=top 32
@[simp]def a2U:qm:=top 33
@[simp]def aeH:qm:=top 34
@[simp]def a83:qm:=top 35
@[simp]def a5P:qm:=top 36
@[simp]def a84:qm:=top 37
@[simp]def a5Q:qm:=top 38
@[simp]def a5R:qm:=top 39
@[simp]def a2V:qm:=top 40
@[simp]def ajA:qm:=top 41
set_option genInjectivity false in
structure bC where
 aaT:bw
 xU:jw
 aeI:bw
 a1Q:jw
 a85:bw
 uJ:jw
 aeJ:bw
 a1R:jw
 a86:bw
 uK:jw
 ajB:bw
 a5S:jw
 aaU:bw
 xV:jw
 aaV:bw
 xW:jw
 a2W:bw
 pB:jw
 ajC:bw
 a5T:jw
 aaW:bw
 xX:jw
 bK:bw
 iI:jw
 gM:bw
 gO:jw
 dW:bw
 dX:jw
 lJ:bw
 lK:jw
 gP:bw
 gQ:jw
 dI:bw
 dJ:jw
 jG:bw
 jH:jw
 iY:bw
 iZ:jw
 jJ:bw
 jK:jw
 gR:bw
 gU:jw
 j4:bw
 j5:jw
 a0B:bw
 mV:jw
 a87:bw
 uL:jw
 a2X:bw
 pC:jw
 a2Y:bw
 pD:jw
 aeK:bw
 a1S:jw
 a88:bw
 uM:jw
 a5U:bw
 rP:jw
 a89:bw
 uN:jw
 a5V:bw
 rQ:jw
 a5W:bw
 rR:jw
 a2Z:bw
 pF:jw
 aaX:bw
 aE3:jw
 mW:bw
 mX:bw
 rT:bw
 rW:bw
 iJ:bw
 cA:bw
 bD:bw
 aC:bw
abbrev xY(K:Fg)(A:bC)(ex:aP->aZ):bJ :=
  (bU (a3O (iW (aJ K) (aA (aB 0) (aA (aY (.ty "int")) aF))) (a3O (afB (iW (aJ K) (aA (aB 0) (aA (aY (.ty "bool")) aF)))) (uE atH atH (aB 1) (aB 0) (aB 2)))))
abbrev cR(K:Fg)(A:bC):qK:=zL 3 3 λEX=>xY K A (λ_=>EX)
abbrev am6:CB:=(.cons (.ret (.avL (.cons (.call 1 (.cons (.var 0) (.cons (.glo 0) .nil))) (.cons (.aAY (.call 1 (.cons (.var 0) (.cons (.glo 2) .nil)))) (.cons (.chain .LtE .LtE (.var 1) (.var 0) (.var 2)) .nil))))) .nil)
abbrev am7(K:Fg)(A:bC):SI:=⟨["thing","least","most"],[ak,ak,ak],[ak,ak,ak],[ao,ao,ao],[("int",.bt "int"),("isinstance",.bf .isi),("bool",.bt "bool")],[ak,ak,ak],ak⟩
abbrev a8A(K:Fg)(A:bC)(ex:aP->aZ):bJ :=
  (bU (a3O (aR (cR K A) ex (aA (aG cW (aB 0) (aY (.int 0))) (aA (aY (.int 0)) (aA (aG adJ (aB 1) (aY (.int 1))) aF)))) (aR (cR K A) ex (aA (aG cW (aB 0) (aY (.int 1))) (aA (aB 2) (aA (aB 3) aF))))))
abbrev wK(K:Fg)(A:bC)(ex:aP->aZ):bJ :=
  aN (dG (afA (qY (aQ (iW (aJ K) (aA (aB 0) (aA (aY (.ty "tuple")) aF))))) (aQ (aG zK (iW zY (aA (aB 0) aF)) (aY (.int 2))))) (bU (aY (.bl ao))) bL) (a8A K A ex)
abbrev xZ(K:Fg)(A:bC):qK:=zL 4 4 λEX=>wK K A (λ_=>EX)
abbrev arN:CB:=(.cons (.ifs (.or (.cons (.not (.val (.call 1 (.cons (.var 0) (.cons (.glo 0) .nil))))) (.cons (.cmp .NotEq (.call 2 (.cons (.var 0) .nil)) (.con (.int 2))) .nil))) (.cons (.ret (.con (.bl ao))) .nil) .nil) (.cons (.ret (.avL (.cons (.call 3 (.cons (.ix (.var 0) (.con (.int 0))) (.cons (.con (.int 0)) (.cons (.bin .Sub (.var 1) (.con (.int 1))) .nil)))) (.cons (.call 3 (.cons (.ix (.var 0) (.con (.int 1))) (.cons (.var 2) (.cons (.var 3) .nil)))) .nil)))) .nil))
abbrev arO(K:Fg)(A:bC):SI:=⟨["thing","aisles","first","last"],[ak,ak,ak,ak],[ak,ak,ak,ak],[ao,ao,ao,ao],[("tuple",.bt "tuple"),("isinstance",.bf .isi),("len",.bf .len),("is_whole",.fn (cR K A) 3 ao)],[ak,ak,ak,ak],ak⟩
abbrev a0C(K:Fg)(A:bC)(ex:aP->aZ):bJ :=
  (bU (aR (cR K A) ex (aA (aB 0) (aA (aY (.int 1)) (aA (aY (.int 1000000)) aF)))))
abbrev rY(K:Fg)(A:bC):qK:=zL 1 1 λEX=>a0C K A (λ_=>EX)
abbrev ajD:CB:=(.cons (.ret (.call 1 (.cons (.var 0) (.cons (.con (.int 1)) (.cons (.glo 0) .nil))))) .nil)
abbrev ajE(K:Fg)(A:bC):SI:=⟨["thing"],[ak],[ak],[ao],[("MOST_AMOUNT",.con (.int 1000000)),("is_whole",.fn (cR K A) 3 ao)],[ak,ak],ak⟩
abbrev a8B(K:Fg)(A:bC)(ex:aP->aZ):bJ :=
  (bU (aR (cR K A) ex (aA (aG cW (aB 0) (aY (.int 2))) (aA (aY (.int 1)) (aA (aY (.int 20)) aF)))))
abbrev a8C(K:Fg)(A:bC)(ex:aP->aZ):bJ :=
  aN (dG (afA (qY (aQ (aR (cR K A) ex (aA (aG cW (aB 0) (aY (.int 0))) (aA (aY (.int 1)) (aA (aY (.int 26)) aF)))))) (qY (aQ (aR (cR K A) ex (aA (aG cW (aB 0) (aY (.int 1))) (aA (aY (.int 1)) (aA (aY (.int 99)) aF))))))) (bU (aY (.bl ao))) bL) (a8B K A ex)
abbrev wL(K:Fg)(A:bC)(ex:aP->aZ):bJ :=
  aN (dG (afA (qY (aQ (iW (aJ K) (aA (aB 0) (aA (aY (.ty "tuple")) aF))))) (aQ (aG zK (iW zY (aA (aB 0) aF)) (aY (.int 3))))) (bU (aY (.bl ao))) bL) (a8C K A ex)
abbrev yC(K:Fg)(A:bC):qK:=zL 1 1 λEX=>wL K A (λ_=>EX)
abbrev arP:CB:=(.cons (.ifs (.or (.cons (.not (.val (.call 1 (.cons (.var 0) (.cons (.glo 0) .nil))))) (.cons (.cmp .NotEq (.call 2 (.cons (.var 0) .nil)) (.con (.int 3))) .nil))) (.cons (.ret (.con (.bl ao))) .nil) .nil) (.cons (.ifs (.or (.cons (.not (.val (.call 4 (.cons (.ix (.var 0) (.con (.int 0))) (.cons (.con (.int 1)) (.cons (.glo 3) .nil)))))) (.cons (.not (.val (.call 4 (.cons (.ix (.var 0) (.con (.int 1))) (.cons (.con (.int 1)) (.cons (.glo 5) .nil)))))) .nil))) (.cons (.ret (.con (.bl ao))) .nil) .nil) (.cons (.ret (.call 4 (.cons (.ix (.var 0) (.con (.int 2))) (.cons (.con (.int 1)) (.cons (.glo 6) .nil))))) .nil)))
abbrev arQ(K:Fg)(A:bC):SI:=⟨["thing"],[ak],[ak],[ao],[("tuple",.bt "tuple"),("isinstance",.bf .isi),("len",.bf .len),("MOST_AISLES",.con (.int 26)),("is_whole",.fn (cR K A) 3 ao),("MOST_PLACES",.con (.int 99)),("MOST_GAP",.con (.int 20))],[ak,ak,ak,ak,ak,ak,ak],ak⟩
abbrev a0D(K:Fg)(A:bC)(ex:aP->aZ):bJ :=
  (dG (qY (aQ (aR (yC K A) ex (aA (aB 0) aF)))) (oZ ex A.mX (aA (aY (.str "a tuple of 1 to 26 aisles, 1 to 99 places and a gap from 1 to 20 is wanted")) aF)) bL)
abbrev iK(K:Fg)(A:bC):qK:=zL 1 1 λEX=>a0D K A (λ_=>EX)
abbrev ajF:CB:=(.cons (.ifs (.not (.val (.call 0 (.cons (.var 0) .nil)))) (.cons (.raise 1 (.con (.str "a tuple of 1 to 26 aisles, 1 to 99 places and a gap from 1 to 20 is wanted")) .nil) .nil) .nil) .nil)
abbrev ajG(K:Fg)(A:bC):SI:=⟨["plan"],[ak],[ak],[ao],[("is_plan",.fn (yC K A) 1 ao),("NoPlan",.cls A.mX)],[ak,ak],ak⟩
abbrev aaY(K:Fg)(A:bC)(ex:aP->aZ):bJ :=
  (bU (aR (xZ K A) ex (aA (aB 1) (aA (aG cW (aB 0) (aY (.int 0))) (aA (aY (.int 1)) (aA (aG cW (aB 0) (aY (.int 1))) aF))))))
abbrev aaZ(K:Fg)(A:bC)(ex:aP->aZ):bJ :=
  aN (cB (aR (iK K A) ex (aA (aB 0) aF))) (aaY K A ex)
abbrev a1T(K:Fg)(A:bC):qK:=zL 2 2 λEX=>aaZ K A (λ_=>EX)
abbrev awX:CB:=(.cons (.expr (.call 0 (.cons (.var 0) .nil))) (.cons (.ret (.call 1 (.cons (.var 1) (.cons (.ix (.var 0) (.con (.int 0))) (.cons (.con (.int 1)) (.cons (.ix (.var 0) (.con (.int 1))) .nil)))))) .nil))
abbrev awY(K:Fg)(A:bC):SI:=⟨["plan","thing"],[ak,ak],[ak,ak],[ao,ao],[("need_plan",.fn (iK K A) 1 ao),("is_pair",.fn (xZ K A) 4 ao)],[ak,ak],ak⟩
abbrev a3W(K:Fg)(A:bC)(ex:aP->aZ):bJ :=
  (dG (qY (aQ (aR (cR K A) ex (aA (aB 0) (aA (aY (.int 0)) (aA (aG adJ (aB 1) (aY (.int 1))) aF)))))) (oZ ex A.rW (aA (aY (.str "there is no lot of that number")) aF)) bL)
abbrev cT(K:Fg)(A:bC):qK:=zL 2 2 λEX=>a3W K A (λ_=>EX)
abbrev am8:CB:=(.cons (.ifs (.not (.val (.call 0 (.cons (.var 0) (.cons (.con (.int 0)) (.cons (.bin .Sub (.var 1) (.con (.int 1))) .nil)))))) (.cons (.raise 1 (.con (.str "there is no lot of that number")) .nil) .nil) .nil) .nil)
abbrev am9(K:Fg)(A:bC):SI:=⟨["thing","lots"],[ak,ak],[ak,ak],[ao,ao],[("is_whole",.fn (cR K A) 3 ao),("NoLot",.cls A.rW)],[ak,ak],ak⟩
abbrev a3X(K:Fg)(A:bC)(ex:aP->aZ):bJ :=
  (dG (qY (aQ (aR (a1T K A) ex (aA (aB 0) (aA (aB 1) aF))))) (oZ ex A.rT (aA (aY (.str "a bin of the plan is wanted")) aF)) bL)
abbrev bN(K:Fg)(A:bC):qK:=zL 2 2 λEX=>a3X K A (λ_=>EX)
abbrev amA:CB:=(.cons (.ifs (.not (.val (.call 0 (.cons (.var 0) (.cons (.var 1) .nil))))) (.cons (.raise 1 (.con (.str "a bin of the plan is wanted")) .nil) .nil) .nil) .nil)
abbrev amB(K:Fg)(A:bC):SI:=⟨["plan","thing"],[ak,ak],[ak,ak],[ao,ao],[("is_bin",.fn (a1T K A) 2 ao),("NoBin",.cls A.rT)],[ak,ak],ak⟩
abbrev vL(K:Fg)(A:bC)(ex:aP->aZ):bJ :=
  (dG (qY (aQ (aR (rY K A) ex (aA (aB 0) aF)))) (oZ ex A.iJ (aA (aY (.str "a whole number from 1 to 10 ** 6 is wanted")) aF)) bL)
abbrev bW(K:Fg)(A:bC):qK:=zL 1 1 λEX=>vL K A (λ_=>EX)
abbrev acG:CB:=(.cons (.ifs (.not (.val (.call 0 (.cons (.var 0) .nil)))) (.cons (.raise 1 (.con (.str "a whole number from 1 to 10 ** 6 is wanted")) .nil) .nil) .nil) .nil)
abbrev acH(K:Fg)(A:bC):SI:=⟨["thing"],[ak],[ak],[ao],[("is_amount",.fn (rY K A) 1 ao),("NoAmount",.cls A.iJ)],[ak,ak],ak⟩
abbrev yD(K:Fg)(A:bC)(ex:aP->aZ):bJ :=
  (dG (aQ (aG lE (iW a6R (aA (aB 4) aF)) (aY (.int 0)))) (cB (alK a6Q (aB 0) (aA (aB 1) aF))) bL)
abbrev ab0(K:Fg)(A:bC)(ex:aP->aZ):bJ :=
  aN (dG (aQ (aG lE (aG sW (aB 4) (aB 2)) (aY (.int 0)))) (cB (alK a6Q (aB 4) (aA (aB 2) aF))) bL) (yD K A ex)
abbrev a3Y(K:Fg)(A:bC)(ex:aP->aZ):bJ :=
  aN (aa8 (aB 4) (aB 2) (aG eX (uG (aB 4) (aB 2) (aY (.int 0))) (aB 3))) (ab0 K A ex)
abbrev a0E(K:Fg)(A:bC)(ex:aP->aZ):bJ :=
  aN (cD 4 (alK a7U (aB 0) (aA (aB 1) (aA a3R aF)))) (a3Y K A ex)
abbrev eU(K:Fg)(A:bC):qK:=zL 5 4 λEX=>a0E K A (λ_=>EX)
abbrev awZ:CB:=(.cons (.set 4 (.dm .sdf (.var 0) (.var 1) (.cons .dct .nil))) (.cons (.aw0 (.var 4) (.var 2) (.bin .Add (.dgt (.var 4) (.var 2) (.con (.int 0))) (.var 3))) (.cons (.ifs (.cmp .Eq (.dix (.var 4) (.var 2)) (.con (.int 0))) (.cons (.expr (.dm .pop (.var 4) (.var 2) .nil)) .nil) .nil) (.cons (.ifs (.cmp .Eq (.call 0 (.cons (.var 4) .nil)) (.con (.int 0))) (.cons (.expr (.dm .pop (.var 0) (.var 1) .nil)) .nil) .nil) .nil))))
abbrev ax0(K:Fg)(A:bC):SI:=⟨["stacks","spot","lot","more","held"],[ak,ak,ak,ak,ak],[ak,ak,ak,ak,ak],[ao,ao,ao,ao,ao],[("len",.bf .avK)],[ak],ak⟩
abbrev a3A(K:Fg)(A:bC)(ex:aP->aZ):bJ :=
  (aa8 (aB 1) (aB 2) (iW xR (aA (a5H (aG sW (aB 0) (aB 2))) aF)))
abbrev a5X(K:Fg)(A:bC)(ex:aP->aZ):bJ :=
  (bU (aB 1))
abbrev a5Y(K:Fg)(A:bC)(ex:aP->aZ):bJ :=
  aN (a3T (au9 (iW rJ (aA (aB 0) aF))) (a01 2) (a3A K A ex)) (a5X K A ex)
abbrev a3Z(K:Fg)(A:bC)(ex:aP->aZ):bJ :=
  aN (cD 1 a1I) (a5Y K A ex)
abbrev a0F(K:Fg)(A:bC):qK:=zL 3 1 λEX=>a3Z K A (λ_=>EX)
abbrev amC:CB:=(.cons (.set 1 .arA) (.cons (.alX (.any (.call 0 (.cons (.var 0) .nil))) (.nm 2) (.cons (.aw0 (.var 1) (.var 2) (.call 2 (.cons (.sortI 1 (.dix (.var 0) (.var 2))) .nil))) .nil)) (.cons (.ret (.var 1)) .nil)))
abbrev amD(K:Fg)(A:bC):SI:=⟨["stacks","told","spot"],[ak,ak,ak],[ak,ak,ak],[ao,ao,ao],[("sorted",.bf .ae6),("sorted",.bf .a7X),("dict",.bf .aiP)],[ak,ak,ak],ak⟩
abbrev pU(K:Fg)(A:bC)(ex:aP->aZ):bJ :=
  (a6N A.aC (aB 0) a1I "stacks")
abbrev pW(K:Fg)(A:bC)(ex:aP->aZ):bJ :=
  aN (a6N A.aC (aB 0) (aB 2) "room") (pU K A ex)
abbrev pX(K:Fg)(A:bC)(ex:aP->aZ):bJ :=
  aN (a6N A.aC (aB 0) (aB 1) "layout") (pW K A ex)
abbrev pY(K:Fg)(A:bC)(ex:aP->aZ):bJ :=
  aN (cB (aR (bW K A) ex (aA (aB 2) aF))) (pX K A ex)
abbrev lY(K:Fg)(A:bC)(ex:aP->aZ):bJ :=
  aN (cB (aR (iK K A) ex (aA (aB 1) aF))) (pY K A ex)
abbrev dY(K:Fg)(A:bC):qK:=zL 3 3 λEX=>lY K A (λ_=>EX)
abbrev eZ:CB:=(.cons (.expr (.call 0 (.cons (.var 1) .nil))) (.cons (.expr (.call 1 (.cons (.var 2) .nil))) (.cons (.arE 2 (.var 0) (.var 1)) (.cons (.arE 3 (.var 0) (.var 2)) (.cons (.arE 4 (.var 0) .arA) .nil)))))
abbrev a4A(K:Fg)(A:bC):SI:=⟨["self","plan","room"],[ak,ak,ak],[ak,ak,ak],[ao,ao,ao],[("need_plan",.fn (iK K A) 1 ao),("need_amount",.fn (bW K A) 1 ao),("Shelves.layout",.fl A.aC "layout"),("Shelves.room",.fl A.aC "room"),("Shelves.stacks",.fl A.aC "stacks")],[ak,ak,ao,ao,ao],ak⟩
abbrev tE(K:Fg)(A:bC)(ex:aP->aZ):bJ :=
  (bU (afT (uG (lA A.aC (aB 0) "stacks") (aB 1) a3R)))
abbrev o7(K:Fg)(A:bC)(ex:aP->aZ):bJ :=
  aN (cB (aR (bN K A) ex (aA (lA A.aC (aB 0) "layout") (aA (aB 1) aF)))) (tE K A ex)
abbrev dN(K:Fg)(A:bC):qK:=zL 2 2 λEX=>o7 K A (λ_=>EX)
abbrev a70:CB:=(.cons (.expr (.call 1 (.cons (.fld 0 (.var 0)) (.cons (.var 1) .nil)))) (.cons (.ret (.aB0 2 (.dgt (.fld 3 (.var 0)) (.var 1) .dct))) .nil))
abbrev a71(K:Fg)(A:bC):SI:=⟨["self","spot"],[ak,ak],[ak,ak],[ao,ao],[("Shelves.layout",.fl A.aC "layout"),("need_bin",.fn (bN K A) 2 ao),("sum",.bf .sum),("Shelves.stacks",.fl A.aC "stacks")],[ao,ak,ak,ao],ak⟩
abbrev lB(K:Fg)(A:bC)(ex:aP->aZ):bJ :=
  (dG (aQ (aG ac7 (aG eX (gB A.aC "filled" (dN K A) [] ex (aB 0) (aA (aB 1) aF)) (aB 2)) (lA A.aC (aB 0) "room"))) (oZ ex A.cA (aA (aY (.str "the bin would have more than its room")) aF)) bL)
abbrev cU(K:Fg)(A:bC):qK:=zL 3 3 λEX=>lB K A (λ_=>EX)
abbrev a2B:CB:=(.cons (.ifs (.cmp .Gt (.bin .Add (.mD 0 (.var 0) (.cons (.var 1) .nil)) (.var 2)) (.fld 1 (.var 0))) (.cons (.raise 2 (.con (.str "the bin would have more than its room")) .nil) .nil) .nil) .nil)
abbrev a2C(K:Fg)(A:bC):SI:=⟨["self","spot","amount"],[ak,ak,ak],[ak,ak,ak],[ao,ao,ao],[("Shelves.filled#1",.me A.aC "filled" (dN K A) []),("Shelves.room",.fl A.aC "room"),("NoRoom",.cls A.cA)],[ao,ao,ak],ak⟩
abbrev yW(K:Fg)(A:bC)(ex:aP->aZ):bJ :=
  (cB (aR (eU K A) ex (aA (lA A.aC (aB 0) "stacks") (aA (aB 2) (aA (aB 1) (aA (aB 3) aF))))))
abbrev yX(K:Fg)(A:bC)(ex:aP->aZ):bJ :=
  aN (cB (gB A.aC "need_room" (cU K A) [] ex (aB 0) (aA (aB 2) (aA (aB 3) aF)))) (yW K A ex)
abbrev yZ(K:Fg)(A:bC)(ex:aP->aZ):bJ :=
  aN (cB (aR (bW K A) ex (aA (aB 3) aF))) (yX K A ex)
abbrev z6(K:Fg)(A:bC)(ex:aP->aZ):bJ :=
  aN (cB (aR (bN K A) ex (aA (lA A.aC (aB 0) "layout") (aA (aB 2) aF)))) (yZ K A ex)
abbrev vM(K:Fg)(A:bC)(ex:aP->aZ):bJ :=
  aN (cB (aR (cT K A) ex (aA (aB 1) (aA (aY (.int 1000)) aF)))) (z6 K A ex)
abbrev jL(K:Fg)(A:bC):qK:=zL 4 4 λEX=>vM K A (λ_=>EX)
abbrev acI:CB:=(.cons (.expr (.call 1 (.cons (.var 1) (.cons (.glo 0) .nil)))) (.cons (.expr (.call 3 (.cons (.fld 2 (.var 0)) (.cons (.var 2) .nil)))) (.cons (.expr (.call 4 (.cons (.var 3) .nil))) (.cons (.expr (.mD 5 (.var 0) (.cons (.var 2) (.cons (.var 3) .nil)))) (.cons (.expr (.call 7 (.cons (.fld 6 (.var 0)) (.cons (.var 2) (.cons (.var 1) (.cons (.var 3) .nil)))))) .nil)))))
abbrev acJ(K:Fg)(A:bC):SI:=⟨["self","lot","spot","amount"],[ak,ak,ak,ak],[ak,ak,ak,ak],[ao,ao,ao,ao],[("MOST_LOTS",.con (.int 1000)),("need_lot",.fn (cT K A) 2 ao),("Shelves.layout",.fl A.aC "layout"),("need_bin",.fn (bN K A) 2 ao),("need_amount",.fn (bW K A) 1 ao),("Shelves.need_room#2",.me A.aC "need_room" (cU K A) []),("Shelves.stacks",.fl A.aC "stacks"),("change",.fn (eU K A) 4 ao)],[ak,ak,ao,ak,ak,ao,ao,ak],ak⟩
abbrev tG(K:Fg)(A:bC)(ex:aP->aZ):bJ :=
  (bU (uG (uG (lA A.aC (aB 0) "stacks") (aB 2) a3R) (aB 1) (aY (.int 0))))
abbrev tH(K:Fg)(A:bC)(ex:aP->aZ):bJ :=
  aN (cB (aR (bN K A) ex (aA (lA A.aC (aB 0) "layout") (aA (aB 2) aF)))) (tG K A ex)
abbrev o8(K:Fg)(A:bC)(ex:aP->aZ):bJ :=
  aN (cB (aR (cT K A) ex (aA (aB 1) (aA (aY (.int 1000)) aF)))) (tH K A ex)
abbrev dO(K:Fg)(A:bC):qK:=zL 3 3 λEX=>o8 K A (λ_=>EX)
abbrev a72:CB:=(.cons (.expr (.call 1 (.cons (.var 1) (.cons (.glo 0) .nil)))) (.cons (.expr (.call 3 (.cons (.fld 2 (.var 0)) (.cons (.var 2) .nil)))) (.cons (.ret (.dgt (.dgt (.fld 4 (.var 0)) (.var 2) .dct) (.var 1) (.con (.int 0)))) .nil)))
abbrev a73(K:Fg)(A:bC):SI:=⟨["self","lot","spot"],[ak,ak,ak],[ak,ak,ak],[ao,ao,ao],[("MOST_LOTS",.con (.int 1000)),("need_lot",.fn (cT K A) 2 ao),("Shelves.layout",.fl A.aC "layout"),("need_bin",.fn (bN K A) 2 ao),("Shelves.stacks",.fl A.aC "stacks")],[ak,ak,ao,ak,ao],ak⟩
abbrev jM(K:Fg)(A:bC)(ex:aP->aZ):bJ :=
  (dG (aQ (aG aqL (gB A.aC "amount" (dO K A) [] ex (aB 0) (aA (aB 1) (aA (aB 2) aF))) (aB 3))) (oZ ex A.bD (aA (aY (.str "less of the lot lies in the bin")) aF)) bL)
abbrev cG(K:Fg)(A:bC):qK:=zL 4 4 λEX=>jM K A (λ_=>EX)
abbrev a0G:CB:=(.cons (.ifs (.cmp .Lt (.mD 0 (.var 0) (.cons (.var 1) (.cons (.var 2) .nil))) (.var 3)) (.cons (.raise 1 (.con (.str "less of the lot lies in the bin")) .nil) .nil) .nil) .nil)
abbrev a0H(K:Fg)(A:bC):SI:=⟨["self","lot","spot","amount"],[ak,ak,ak,ak],[ak,ak,ak,ak],[ao,ao,ao,ao],[("Shelves.amount#2",.me A.aC "amount" (dO K A) []),("TooLittle",.cls A.bD)],[ao,ak],ak⟩
abbrev wM(K:Fg)(A:bC)(ex:aP->aZ):bJ :=
  (cB (aR (eU K A) ex (aA (lA A.aC (aB 0) "stacks") (aA (aB 2) (aA (aB 1) (aA (ahP (aB 3)) aF))))))
abbrev wO(K:Fg)(A:bC)(ex:aP->aZ):bJ :=
  aN (cB (gB A.aC "need_there" (cG K A) [] ex (aB 0) (aA (aB 1) (aA (aB 2) (aA (aB 3) aF))))) (wM K A ex)
abbrev wQ(K:Fg)(A:bC)(ex:aP->aZ):bJ :=
  aN (cB (aR (bW K A) ex (aA (aB 3) aF))) (wO K A ex)
abbrev wR(K:Fg)(A:bC)(ex:aP->aZ):bJ :=
  aN (cB (aR (bN K A) ex (aA (lA A.aC (aB 0) "layout") (aA (aB 2) aF)))) (wQ K A ex)
abbrev tK(K:Fg)(A:bC)(ex:aP->aZ):bJ :=
  aN (cB (aR (cT K A) ex (aA (aB 1) (aA (aY (.int 1000)) aF)))) (wR K A ex)
abbrev j6(K:Fg)(A:bC):qK:=zL 4 4 λEX=>tK K A (λ_=>EX)
abbrev ab1:CB:=(.cons (.expr (.call 1 (.cons (.var 1) (.cons (.glo 0) .nil)))) (.cons (.expr (.call 3 (.cons (.fld 2 (.var 0)) (.cons (.var 2) .nil)))) (.cons (.expr (.call 4 (.cons (.var 3) .nil))) (.cons (.expr (.mD 5 (.var 0) (.cons (.var 1) (.cons (.var 2) (.cons (.var 3) .nil))))) (.cons (.expr (.call 7 (.cons (.fld 6 (.var 0)) (.cons (.var 2) (.cons (.var 1) (.cons (.neg (.var 3)) .nil)))))) .nil)))))
abbrev ab2(K:Fg)(A:bC):SI:=⟨["self","lot","spot","amount"],[ak,ak,ak,ak],[ak,ak,ak,ak],[ao,ao,ao,ao],[("MOST_LOTS",.con (.int 1000)),("need_lot",.fn (cT K A) 2 ao),("Shelves.layout",.fl A.aC "layout"),("need_bin",.fn (bN K A) 2 ao),("need_amount",.fn (bW K A) 1 ao),("Shelves.need_there#3",.me A.aC "need_there" (cG K A) []),("Shelves.stacks",.fl A.aC "stacks"),("change",.fn (eU K A) 4 ao)],[ak,ak,ao,ak,ak,ao,ao,ak],ak⟩
abbrev pZ(K:Fg)(A:bC)(ex:aP->aZ):bJ :=
  (cB (aR (eU K A) ex (aA (lA A.aC (aB 0) "stacks") (aA (aB 3) (aA (aB 1) (aA (aB 4) aF))))))
abbrev qC(K:Fg)(A:bC)(ex:aP->aZ):bJ :=
  aN (cB (aR (eU K A) ex (aA (lA A.aC (aB 0) "stacks") (aA (aB 2) (aA (aB 1) (aA (ahP (aB 4)) aF)))))) (pZ K A ex)
abbrev uO(K:Fg)(A:bC)(ex:aP->aZ):bJ :=
  (dG (aQ (aG zK (aB 2) (aB 3))) (aN (cB (gB A.aC "need_room" (cU K A) [] ex (aB 0) (aA (aB 3) (aA (aB 4) aF)))) (qC K A ex)) bL)
abbrev uP(K:Fg)(A:bC)(ex:aP->aZ):bJ :=
  aN (cB (gB A.aC "need_there" (cG K A) [] ex (aB 0) (aA (aB 1) (aA (aB 2) (aA (aB 4) aF))))) (uO K A ex)
abbrev uQ(K:Fg)(A:bC)(ex:aP->aZ):bJ :=
  aN (cB (aR (bW K A) ex (aA (aB 4) aF))) (uP K A ex)
abbrev uR(K:Fg)(A:bC)(ex:aP->aZ):bJ :=
  aN (cB (aR (bN K A) ex (aA (lA A.aC (aB 0) "layout") (aA (aB 3) aF)))) (uQ K A ex)
abbrev uT(K:Fg)(A:bC)(ex:aP->aZ):bJ :=
  aN (cB (aR (bN K A) ex (aA (lA A.aC (aB 0) "layout") (aA (aB 2) aF)))) (uR K A ex)
abbrev qM(K:Fg)(A:bC)(ex:aP->aZ):bJ :=
  aN (cB (aR (cT K A) ex (aA (aB 1) (aA (aY (.int 1000)) aF)))) (uT K A ex)
abbrev jX(K:Fg)(A:bC):qK:=zL 5 5 λEX=>qM K A (λ_=>EX)
abbrev a8M:CB:=(.cons (.expr (.call 1 (.cons (.var 1) (.cons (.glo 0) .nil)))) (.cons (.expr (.call 3 (.cons (.fld 2 (.var 0)) (.cons (.var 2) .nil)))) (.cons (.expr (.call 3 (.cons (.fld 2 (.var 0)) (.cons (.var 3) .nil)))) (.cons (.expr (.call 4 (.cons (.var 4) .nil))) (.cons (.expr (.mD 5 (.var 0) (.cons (.var 1) (.cons (.var 2) (.cons (.var 4) .nil))))) (.cons (.ifs (.cmp .NotEq (.var 2) (.var 3)) (.cons (.expr (.mD 6 (.var 0) (.cons (.var 3) (.cons (.var 4) .nil)))) (.cons (.expr (.call 8 (.cons (.fld 7 (.var 0)) (.cons (.var 2) (.cons (.var 1) (.cons (.neg (.var 4)) .nil)))))) (.cons (.expr (.call 8 (.cons (.fld 7 (.var 0)) (.cons (.var 3) (.cons (.var 1) (.cons (.var 4) .nil)))))) .nil))) .nil) .nil))))))
abbrev a8N(K:Fg)(A:bC):SI:=⟨["self","lot","one","other","amount"],[ak,ak,ak,ak,ak],[ak,ak,ak,ak,ak],[ao,ao,ao,ao,ao],[("MOST_LOTS",.con (.int 1000)),("need_lot",.fn (cT K A) 2 ao),("Shelves.layout",.fl A.aC "layout"),("need_bin",.fn (bN K A) 2 ao),("need_amount",.fn (bW K A) 1 ao),("Shelves.need_there#3",.me A.aC "need_there" (cG K A) []),("Shelves.need_room#2",.me A.aC "need_room" (cU K A) []),("Shelves.stacks",.fl A.aC "stacks"),("change",.fn (eU K A) 4 ao)],[ak,ak,ao,ak,ak,ao,ao,ao,ak],ak⟩
abbrev wU(K:Fg)(A:bC)(ex:aP->aZ):bJ :=
  (bU (a5H (uG (lA A.aC (aB 0) "stacks") (aB 1) a3R)))
abbrev tL(K:Fg)(A:bC)(ex:aP->aZ):bJ :=
  aN (cB (aR (bN K A) ex (aA (lA A.aC (aB 0) "layout") (aA (aB 1) aF)))) (wU K A ex)
abbrev dU(K:Fg)(A:bC):qK:=zL 2 2 λEX=>tL K A (λ_=>EX)
abbrev ab3:CB:=(.cons (.expr (.call 1 (.cons (.fld 0 (.var 0)) (.cons (.var 1) .nil)))) (.cons (.ret (.sortI 2 (.dgt (.fld 3 (.var 0)) (.var 1) .dct))) .nil))
abbrev ab4(K:Fg)(A:bC):SI:=⟨["self","spot"],[ak,ak],[ak,ak],[ao,ao],[("Shelves.layout",.fl A.aC "layout"),("need_bin",.fn (bN K A) 2 ao),("sorted",.bf .a7X),("Shelves.stacks",.fl A.aC "stacks")],[ao,ak,ak,ao],ak⟩
abbrev tM(K:Fg)(A:bC)(ex:aP->aZ):bJ :=
  (bU (qL (a6K (iW rJ (aA (lA A.aC (aB 0) "stacks") aF))) (aQ (aG ai9 (aB 2) (aG sW (lA A.aC (aB 1) "stacks") (aB 0)))) (fM (aA (aB 0) (aA (aG sW (aG sW (lA A.aC (aB 1) "stacks") (aB 0)) (aB 2)) aF)))))
abbrev o9(K:Fg)(A:bC)(ex:aP->aZ):bJ :=
  aN (cB (aR (cT K A) ex (aA (aB 1) (aA (aY (.int 1000)) aF)))) (tM K A ex)
abbrev fQ(K:Fg)(A:bC):qK:=zL 2 2 λEX=>o9 K A (λ_=>EX)
abbrev a74:CB:=(.cons (.expr (.call 1 (.cons (.var 1) (.cons (.glo 0) .nil)))) (.cons (.ret (.comp [ak,ak] [ao,ao,ao,ao] (.any (.call 3 (.cons (.fld 2 (.var 0)) .nil))) (.some (.din ao (.var 2) (.dix (.fld 2 (.var 1)) (.var 0)))) (.tup (.cons (.var 0) (.cons (.dix (.dix (.fld 2 (.var 1)) (.var 0)) (.var 2)) .nil))))) .nil))
abbrev a75(K:Fg)(A:bC):SI:=⟨["self","lot"],[ak,ak],[ao,ao],[ak,ak],[("MOST_LOTS",.con (.int 1000)),("need_lot",.fn (cT K A) 2 ao),("Shelves.stacks",.fl A.aC "stacks"),("sorted",.bf .ae6)],[ak,ak,ao,ak],ak⟩
abbrev qN(K:Fg)(A:bC)(ex:aP->aZ):bJ :=
  (bU (aR (a0F K A) ex (aA (lA A.aC (aB 0) "stacks") aF)))
abbrev eV(K:Fg)(A:bC):qK:=zL 1 1 λEX=>qN K A (λ_=>EX)
abbrev a8O:CB:=(.cons (.ret (.call 1 (.cons (.fld 0 (.var 0)) .nil))) .nil)
abbrev a8P(K:Fg)(A:bC):SI:=⟨["self"],[ak],[ak],[ao],[("Shelves.stacks",.fl A.aC "stacks"),("in_order",.fn (a0F K A) 1 ao)],[ao,ak],ak⟩
abbrev wV(K:Fg)(A:bC)(ex:aP->aZ):bJ :=
  (bU (aG cN (aG eX (aG yQ (aB 2) (aB 2)) (aG yQ (aY (.int 48271)) (aB 1))) (aY (.int 2147483629))))
abbrev wW(K:Fg)(A:bC)(ex:aP->aZ):bJ :=
  aN (cD 2 (aG cN (aG eX (aG yQ (aG cW (aB 0) (aG cN (aB 1) (iW zY (aA (aB 0) aF)))) (aY (.int 48271))) (aG yQ (aB 1) (aY (.int 104729)))) (aY (.int 2147483647)))) (wV K A ex)
abbrev wX(K:Fg)(A:bC)(ex:aP->aZ):bJ :=
  aN (dG (aQ (aG lE (aB 0) (mR aF))) (bU (aY (.int 0))) bL) (wW K A ex)
abbrev tO(K:Fg)(A:bC)(ex:aP->aZ):bJ :=
  aN (dG (aQ (aG aqL (aB 1) (iW zY (aA (aB 0) aF)))) (bU (aG cW (aB 0) (aB 1))) bL) (wX K A ex)
abbrev aU(K:Fg)(A:bC):qK:=zL 3 2 λEX=>tO K A (λ_=>EX)
abbrev ab5:CB:=(.cons (.ifs (.cmp .Lt (.var 1) (.call 0 (.cons (.var 0) .nil))) (.cons (.ret (.ix (.var 0) (.var 1))) .nil) .nil) (.cons (.ifs (.cmp .Eq (.var 0) (.lst .nil)) (.cons (.ret (.con (.int 0))) .nil) .nil) (.cons (.set 2 (.bin .Mod (.bin .Add (.bin .Mult (.ix (.var 0) (.bin .Mod (.var 1) (.call 0 (.cons (.var 0) .nil)))) (.con (.int 48271))) (.bin .Mult (.var 1) (.con (.int 104729)))) (.con (.int 2147483647)))) (.cons (.ret (.bin .Mod (.bin .Add (.bin .Mult (.var 2) (.var 2)) (.bin .Mult (.con (.int 48271)) (.var 1))) (.con (.int 2147483629)))) .nil))))
abbrev ab6(K:Fg)(A:bC):SI:=⟨["_law_script","_law_k","_law_mixed"],[ak,ak,ak],[ak,ak,ak],[ao,ao,ao],[("len",.bf .len)],[ak],ak⟩
abbrev a3B(K:Fg)(A:bC)(ex:aP->aZ):bJ :=
  (bU (fM (aA (aB 4) (aA (aB 5) (aA (aG eX (aY (.int 1)) (aG cN (aG eO (aB 2) (aY (.int 104))) (aY (.int 20)))) aF)))))
abbrev a3C(K:Fg)(A:bC)(ex:aP->aZ):bJ :=
  aN (cD 5 (aG cW (mR (aA (aG eX (aY (.int 1)) (aG cN (aB 3) (aY (.int 6)))) (aA (aG eX (aY (.int 1)) (aG cN (aB 3) (aY (.int 99)))) aF))) (iW ahS (aA (aG lE (aG cN (aG eO (aB 3) (aY (.int 99))) (aY (.int 4))) (aY (.int 1))) aF)))) (a3B K A ex)
abbrev a3D(K:Fg)(A:bC)(ex:aP->aZ):bJ :=
  aN (cD 4 (aG cW (mR (aA (aG eX (aY (.int 1)) (aG cN (aB 2) (aY (.int 4)))) (aA (aG eX (aY (.int 1)) (aG cN (aB 2) (aY (.int 26)))) aF))) (iW ahS (aA (aG lE (aG cN (aG eO (aB 2) (aY (.int 26))) (aY (.int 4))) (aY (.int 1))) aF)))) (a3C K A ex)
abbrev a3E(K:Fg)(A:bC)(ex:aP->aZ):bJ :=
  aN (cD 3 (aR (aU K A) ex (aA (aB 0) (aA (aG eX (aB 1) (aY (.int 1))) aF)))) (a3D K A ex)
abbrev a0I(K:Fg)(A:bC)(ex:aP->aZ):bJ :=
  aN (cD 2 (aR (aU K A) ex (aA (aB 0) (aA (aB 1) aF)))) (a3E K A ex)
abbrev rZ(K:Fg)(A:bC):qK:=zL 6 2 λEX=>a0I K A (λ_=>EX)
abbrev ajH:CB:=(.cons (.set 2 (.call 0 (.cons (.var 0) (.cons (.var 1) .nil)))) (.cons (.set 3 (.call 0 (.cons (.var 0) (.cons (.bin .Add (.var 1) (.con (.int 1))) .nil)))) (.cons (.set 4 (.ix (.lst (.cons (.bin .Add (.con (.int 1)) (.bin .Mod (.var 2) (.con (.int 4)))) (.cons (.bin .Add (.con (.int 1)) (.bin .Mod (.var 2) (.con (.int 26)))) .nil))) (.call 1 (.cons (.cmp .Eq (.bin .Mod (.bin .FloorDiv (.var 2) (.con (.int 26))) (.con (.int 4))) (.con (.int 1))) .nil)))) (.cons (.set 5 (.ix (.lst (.cons (.bin .Add (.con (.int 1)) (.bin .Mod (.var 3) (.con (.int 6)))) (.cons (.bin .Add (.con (.int 1)) (.bin .Mod (.var 3) (.con (.int 99)))) .nil))) (.call 1 (.cons (.cmp .Eq (.bin .Mod (.bin .FloorDiv (.var 3) (.con (.int 99))) (.con (.int 4))) (.con (.int 1))) .nil)))) (.cons (.ret (.tup (.cons (.var 4) (.cons (.var 5) (.cons (.bin .Add (.con (.int 1)) (.bin .Mod (.bin .FloorDiv (.var 2) (.con (.int 104))) (.con (.int 20)))) .nil))))) .nil)))))
abbrev ajI(K:Fg)(A:bC):SI:=⟨["_law_script","_law_k","_law_cell","_law_other","_law_aisles","_law_places"],[ak,ak,ak,ak,ak,ak],[ak,ak,ak,ak,ak,ak],[ao,ao,ao,ao,ao,ao],[("_law_cell_at",.fn (aU K A) 2 ao),("int",.bt "int")],[ak,ak],ak⟩
abbrev z7(K:Fg)(A:bC)(ex:aP->aZ):bJ :=
  (bU (fM (aA (aY (.str "refused")) (aA (tM3 "list" wF (aB 1) (aA (aY (.bl ak)) aF)) aF))))
abbrev z8(K:Fg)(A:bC)(ex:aP->aZ):bJ :=
  aN (dG (afA (qY (aQ (iW (aJ K) (aA (aB 0) (aA (aY (.ty "ValueError")) aF))))) (aQ (aG zK (iW zY (aA (qL (a6K (aB 1)) (aQ (aB 0)) (aB 0)) aF)) (aY (.int 1))))) (bU (fM (aA (aY (.str "other")) (aA (aY (.int 7)) aF)))) bL) (z7 K A ex)
abbrev z9(K:Fg)(A:bC)(ex:aP->aZ):bJ :=
  aN (cD 1 (aG eX (aB 1) (mR (aA (iW (aJ K) (aA (aB 0) (aA (aY (.ref A.bD)) aF))) (aA (iW (aJ K) (aA (aB 0) (aA (aY (.ref A.cA)) aF))) aF))))) (z8 K A ex)
abbrev vN(K:Fg)(A:bC)(ex:aP->aZ):bJ :=
  aN (cD 1 (mR (aA (iW (aJ K) (aA (aB 0) (aA (aY (.ref A.mX)) aF))) (aA (iW (aJ K) (aA (aB 0) (aA (aY (.ref A.rW)) aF))) (aA (iW (aJ K) (aA (aB 0) (aA (aY (.ref A.rT)) aF))) (aA (iW (aJ K) (aA (aB 0) (aA (aY (.ref A.iJ)) aF))) aF)))))) (z9 K A ex)
abbrev gW(K:Fg)(A:bC):qK:=zL 2 1 λEX=>vN K A (λ_=>EX)
abbrev acK:CB:=(.cons (.set 1 (.lst (.cons (.call 1 (.cons (.var 0) (.cons (.glo 0) .nil))) (.cons (.call 1 (.cons (.var 0) (.cons (.glo 2) .nil))) (.cons (.call 1 (.cons (.var 0) (.cons (.glo 3) .nil))) (.cons (.call 1 (.cons (.var 0) (.cons (.glo 4) .nil))) .nil)))))) (.cons (.set 1 (.bin .Add (.var 1) (.lst (.cons (.call 1 (.cons (.var 0) (.cons (.glo 5) .nil))) (.cons (.call 1 (.cons (.var 0) (.cons (.glo 6) .nil))) .nil))))) (.cons (.ifs (.or (.cons (.not (.val (.call 1 (.cons (.var 0) (.cons (.glo 7) .nil))))) (.cons (.cmp .NotEq (.call 8 (.cons (.comp [ao,ao] [ao,ao,ao,ao,ao,ao,ao,ao,ao] (.any (.var 1)) (.some (.val (.var 0))) (.var 0)) .nil)) (.con (.int 1))) .nil))) (.cons (.ret (.tup (.cons (.con (.str "other")) (.cons (.con (.int 7)) .nil)))) .nil) .nil) (.cons (.ret (.tup (.cons (.con (.str "refused")) (.cons (.meth .a6Z (.var 1) (.cons (.con (.bl ak)) .nil)) .nil)))) .nil))))
abbrev acL(K:Fg)(A:bC):SI:=⟨["_law_e","_law_marks"],[ak,ak],[ak,ak],[ao,ao],[("NoPlan",.cls A.mX),("isinstance",.bf .isi),("NoLot",.cls A.rW),("NoBin",.cls A.rT),("NoAmount",.cls A.iJ),("TooLittle",.cls A.bD),("NoRoom",.cls A.cA),("ValueError",.bt "ValueError"),("len",.bf .len)],[ak,ak,ak,ak,ak,ak,ak,ak,ak],ao⟩
abbrev vO(K:Fg)(A:bC)(ex:aP->aZ):bJ :=
  (bU (iW anU (aA (a7W 0 (qL (pA (aB 0)) (aQ (aG lE (aG cW (aB 0) (aY (.int 0))) (aB 2))) (aG sX (aB 1) (aB 0)))) aF)))
abbrev gY(K:Fg)(A:bC):qK:=zL 2 2 λEX=>vO K A (λ_=>EX)
abbrev acM:CB:=(.cons (.ret (.call 0 (.cons (.thw 0 (.comp [ak,ak] [ao] (.a2Q (.var 0)) (.some (.cmp .Eq (.ix (.var 0) (.con (.int 0))) (.var 2))) (.nix (.var 1) (.var 0)))) .nil))) .nil)
abbrev acN(K:Fg)(A:bC):SI:=⟨["_law_model","_law_spot"],[ak,ak],[ao,ao],[ak,ak],[("sum",.bf .sum)],[ak],ak⟩
abbrev sE(K:Fg)(A:bC)(ex:aP->aZ):bJ :=
  (bU (aY .non))
abbrev uU(K:Fg)(A:bC)(ex:aP->aZ):bJ :=
  aN (dG (aQ (aG zK (aB 3) (aY (.str "take")))) (aaG (aB 0) (fM (aA (aB 9) (aA (aB 4) aF))) (aG eX (a6Y (aB 0) (fM (aA (aB 9) (aA (aB 4) aF))) (aY (.int 0))) (aB 7))) bL) (sE K A ex)
abbrev uV(K:Fg)(A:bC)(ex:aP->aZ):bJ :=
  aN (dG (aQ (aG zK (aB 3) (aY (.str "put")))) (aaG (aB 0) (fM (aA (aB 5) (aA (aB 4) aF))) (aG adJ (aB 8) (aB 7))) bL) (uU K A ex)
abbrev uW(K:Fg)(A:bC)(ex:aP->aZ):bJ :=
  aN (dG (yP (aQ (aG zK (aB 3) (aY (.str "take")))) (aQ (aG ac7 (aG eX (aR (gY K A) ex (aA (aB 0) (aA (aB 9) aF))) (aB 7)) (aB 1)))) (bU (fM (aA (aY (.str "refused")) (aA (aY (.int 5)) aF)))) bL) (uV K A ex)
abbrev uX(K:Fg)(A:bC)(ex:aP->aZ):bJ :=
  aN (dG (yP (aQ (aG lE (aB 3) (aY (.str "shift")))) (aQ (aG lE (aB 5) (aB 6)))) (bU (aY .non)) bL) (uW K A ex)
abbrev uY(K:Fg)(A:bC)(ex:aP->aZ):bJ :=
  aN (dG (aQ (aG lE (aB 3) (aY (.str "shift")))) (cD 9 (aB 6)) bL) (uX K A ex)
abbrev uZ(K:Fg)(A:bC)(ex:aP->aZ):bJ :=
  aN (cD 9 (aB 5)) (uY K A ex)
abbrev v7(K:Fg)(A:bC)(ex:aP->aZ):bJ :=
  aN (dG (yP (aQ (aG zK (aB 3) (aY (.str "put")))) (aQ (aG aqL (aB 8) (aB 7)))) (bU (fM (aA (aY (.str "refused")) (aA (aY (.int 4)) aF)))) bL) (uZ K A ex)
abbrev v8(K:Fg)(A:bC)(ex:aP->aZ):bJ :=
  aN (cD 8 (a6Y (aB 0) (fM (aA (aB 5) (aA (aB 4) aF))) (aY (.int 0)))) (v7 K A ex)
abbrev oA(K:Fg)(A:bC)(ex:aP->aZ):bJ :=
  aN (aa2 [3,4,5,6,7] (aB 2)) (v8 K A ex)
abbrev jN(K:Fg)(A:bC):qK:=zL 10 3 λEX=>oA K A (λ_=>EX)
abbrev arR:CB:=(.cons (.avZ [3,4,5,6,7] (.var 2)) (.cons (.set 8 (.ngt (.var 0) (.tup (.cons (.var 5) (.cons (.var 4) .nil))) (.con (.int 0)))) (.cons (.ifs (.and (.cons (.cmp .NotEq (.var 3) (.con (.str "put"))) (.cons (.cmp .Lt (.var 8) (.var 7)) .nil))) (.cons (.ret (.tup (.cons (.con (.str "refused")) (.cons (.con (.int 4)) .nil)))) .nil) .nil) (.cons (.set 9 (.var 5)) (.cons (.ifs (.cmp .Eq (.var 3) (.con (.str "shift"))) (.cons (.set 9 (.var 6)) .nil) .nil) (.cons (.ifs (.and (.cons (.cmp .Eq (.var 3) (.con (.str "shift"))) (.cons (.cmp .Eq (.var 5) (.var 6)) .nil))) (.cons (.ret (.con .non)) .nil) .nil) (.cons (.ifs (.and (.cons (.cmp .NotEq (.var 3) (.con (.str "take"))) (.cons (.cmp .Gt (.bin .Add (.call 0 (.cons (.var 0) (.cons (.var 9) .nil))) (.var 7)) (.var 1)) .nil))) (.cons (.ret (.tup (.cons (.con (.str "refused")) (.cons (.con (.int 5)) .nil)))) .nil) .nil) (.cons (.ifs (.cmp .NotEq (.var 3) (.con (.str "put"))) (.cons (.setM (.var 0) (.tup (.cons (.var 5) (.cons (.var 4) .nil))) (.bin .Sub (.var 8) (.var 7))) .nil) .nil) (.cons (.ifs (.cmp .NotEq (.var 3) (.con (.str "take"))) (.cons (.setM (.var 0) (.tup (.cons (.var 9) (.cons (.var 4) .nil))) (.bin .Add (.ngt (.var 0) (.tup (.cons (.var 9) (.cons (.var 4) .nil))) (.con (.int 0))) (.var 7))) .nil) .nil) (.cons (.ret (.con .non)) .nil))))))))))
abbrev arS(K:Fg)(A:bC):SI:=⟨["_law_model","_law_room","_law_deed_here","_law_word","_law_lot","_law_one","_law_other","_law_amount","_law_there","_law_goal"],[ak,ak,ak,ak,ak,ak,ak,ak,ak,ak],[ak,ak,ak,ak,ak,ak,ak,ak,ak,ak],[ao,ao,ao,ao,ao,ao,ao,ao,ao,ao],[("_law_filled",.fn (gY K A) 2 ao)],[ak],ak⟩
abbrev wY(K:Fg)(A:bC)(ex:aP->aZ):bJ :=
  (bU (gB A.aC "shift" (jX K A) [] ex (aB 0) (aA (aB 3) (aA (aB 4) (aA (aB 5) (aA (aB 6) aF))))))
abbrev oE(K:Fg)(A:bC)(ex:aP->aZ):bJ :=
  aN (dG (aQ (aG lE (aB 2) (aY (.str "take")))) (bU (gB A.aC "take" (j6 K A) [] ex (aB 0) (aA (aB 3) (aA (aB 4) (aA (aB 6) aF))))) bL) (wY K A ex)
abbrev pG(K:Fg)(A:bC)(ex:aP->aZ):bJ :=
  (ahN K A.mW 7 (λEX2=>aN (dG (aQ (aG lE (aB 2) (aY (.str "put")))) (bU (gB A.aC "put" (jL K A) [] EX2 (aB 0) (aA (aB 3) (aA (aB 4) (aA (aB 6) aF))))) bL) (oE K A EX2)) (bU (aR (gW K A) NoX (aA (aB 7) aF))))
abbrev jO(K:Fg)(A:bC)(ex:aP->aZ):bJ :=
  aN (aa2 [2,3,4,5,6] (aB 1)) (pG K A ex)
abbrev fU(K:Fg)(A:bC):qK:=zL 8 2 λEX=>jO K A (λ_=>EX)
abbrev ajJ:CB:=(.cons (.avZ [2,3,4,5,6] (.var 1)) (.cons (.aB9 0 7 (.cons (.ifs (.cmp .Eq (.var 2) (.con (.str "put"))) (.cons (.ret (.mD 1 (.var 0) (.cons (.var 3) (.cons (.var 4) (.cons (.var 6) .nil))))) .nil) .nil) (.cons (.ifs (.cmp .Eq (.var 2) (.con (.str "take"))) (.cons (.ret (.mD 2 (.var 0) (.cons (.var 3) (.cons (.var 4) (.cons (.var 6) .nil))))) .nil) .nil) (.cons (.ret (.mD 3 (.var 0) (.cons (.var 3) (.cons (.var 4) (.cons (.var 5) (.cons (.var 6) .nil)))))) .nil))) (.cons (.ret (.call 4 (.cons (.var 7) .nil))) .nil)) .nil))
abbrev ajK(K:Fg)(A:bC):SI:=⟨["_law_shelves","_law_deed_here","_law_word","_law_lot","_law_one","_law_other","_law_amount","_law_e"],[ak,ak,ak,ak,ak,ak,ak,ak],[ak,ak,ak,ak,ak,ak,ak,ak],[ao,ao,ao,ao,ao,ao,ao,ao],[("DepotError",.cls A.mW),("Shelves.put#3",.me A.aC "put" (jL K A) []),("Shelves.take#3",.me A.aC "take" (j6 K A) []),("Shelves.shift#4",.me A.aC "shift" (jX K A) []),("_law_raised",.fn (gW K A) 1 ak)],[ak,ao,ao,ao,ak],ak⟩
abbrev a0J(K:Fg)(A:bC)(ex:aP->aZ):bJ :=
  (bU (mR (aA (aB 3) (aA (aB 4) (aA (aB 5) (aA (fM (aA (aG cN (aG eO (aB 2) (aY (.int 7))) (aG cW (aB 1) (aY (.int 0)))) (aA (aG eX (aY (.int 1)) (aG cN (aG eO (aB 2) (aY (.int 11))) (aG cW (aB 1) (aY (.int 1))))) aF))) aF))))))
abbrev a0K(K:Fg)(A:bC)(ex:aP->aZ):bJ :=
  aN (cD 5 (fM (aA (aG cN (aG eO (aB 2) (aY (.int 260000))) (aG cW (aB 1) (aY (.int 0)))) (aA (aG cW (aB 3) (aY (.int 1))) aF)))) (a0J K A ex)
abbrev a0L(K:Fg)(A:bC)(ex:aP->aZ):bJ :=
  aN (cD 4 (fM (aA (aG cW (aB 3) (aY (.int 0))) (aA (aG eX (aY (.int 1)) (aG cN (aG eO (aB 2) (aY (.int 2600))) (aG cW (aB 1) (aY (.int 1))))) aF)))) (a0K K A ex)
abbrev a0M(K:Fg)(A:bC)(ex:aP->aZ):bJ :=
  aN (cD 3 (fM (aA (aG cN (aB 2) (aG cW (aB 1) (aY (.int 0)))) (aA (aG eX (aY (.int 1)) (aG cN (aG eO (aB 2) (aY (.int 26))) (aG cW (aB 1) (aY (.int 1))))) aF)))) (a0L K A ex)
abbrev yE(K:Fg)(A:bC)(ex:aP->aZ):bJ :=
  aN (cD 2 (aR (aU K A) ex (aA (aB 0) (aA (aY (.int 3)) aF)))) (a0M K A ex)
abbrev pH(K:Fg)(A:bC):qK:=zL 6 2 λEX=>yE K A (λ_=>EX)
abbrev ag4:CB:=(.cons (.set 2 (.call 0 (.cons (.var 0) (.cons (.con (.int 3)) .nil)))) (.cons (.set 3 (.tup (.cons (.bin .Mod (.var 2) (.ix (.var 1) (.con (.int 0)))) (.cons (.bin .Add (.con (.int 1)) (.bin .Mod (.bin .FloorDiv (.var 2) (.con (.int 26))) (.ix (.var 1) (.con (.int 1))))) .nil)))) (.cons (.set 4 (.tup (.cons (.ix (.var 3) (.con (.int 0))) (.cons (.bin .Add (.con (.int 1)) (.bin .Mod (.bin .FloorDiv (.var 2) (.con (.int 2600))) (.ix (.var 1) (.con (.int 1))))) .nil)))) (.cons (.set 5 (.tup (.cons (.bin .Mod (.bin .FloorDiv (.var 2) (.con (.int 260000))) (.ix (.var 1) (.con (.int 0)))) (.cons (.ix (.var 3) (.con (.int 1))) .nil)))) (.cons (.ret (.lst (.cons (.var 3) (.cons (.var 4) (.cons (.var 5) (.cons (.tup (.cons (.bin .Mod (.bin .FloorDiv (.var 2) (.con (.int 7))) (.ix (.var 1) (.con (.int 0)))) (.cons (.bin .Add (.con (.int 1)) (.bin .Mod (.bin .FloorDiv (.var 2) (.con (.int 11))) (.ix (.var 1) (.con (.int 1))))) .nil))) .nil)))))) .nil)))))
abbrev ag5(K:Fg)(A:bC):SI:=⟨["_law_script","_law_plan_here","_law_cell","_law_one","_law_other","_law_third"],[ak,ak,ak,ak,ak,ak],[ak,ak,ak,ak,ak,ak],[ao,ao,ao,ao,ao,ao],[("_law_cell_at",.fn (aU K A) 2 ao)],[ak],ak⟩
abbrev a3F(K:Fg)(A:bC)(ex:aP->aZ):bJ :=
  (bU (fM (aA (aB 6) (aA (aG cW (aB 7) (aG cN (aG eO (aB 4) (aY (.int 5))) (aY (.int 5)))) (aA (aG cW (aB 2) (aG cN (aG eO (aB 4) (aY (.int 25))) (aY (.int 4)))) (aA (aG cW (aB 2) (aG cN (aG eO (aB 4) (aY (.int 100))) (aY (.int 4)))) (aA (iW afK (aA (aB 8) (aA (aG adK (aY (.int 10)) (aY (.int 6))) aF))) aF)))))))
abbrev a3G(K:Fg)(A:bC)(ex:aP->aZ):bJ :=
  aN (cD 8 (aG cW (mR (aA (aG eX (aY (.int 1)) (aG cN (aG eO (aB 5) (aY (.int 7))) (iW afJ (aA (aY (.int 1)) (aA (aG eO (aB 3) (aY (.int 2))) aF))))) (aA (aG eX (aY (.int 1)) (aG cN (aG eO (aB 5) (aY (.int 7))) (aB 3))) (aA (aY (.int 1)) (aA (aB 3) aF))))) (aG cN (aB 5) (aY (.int 4))))) (a3F K A ex)
abbrev a3H(K:Fg)(A:bC)(ex:aP->aZ):bJ :=
  aN (cD 7 (mR (aA (aG cN (aR (aU K A) ex (aA (aB 0) (aA (aY (.int 4)) aF))) (aY (.int 1000))) (aA (aG cN (aR (aU K A) ex (aA (aB 0) (aA (aY (.int 5)) aF))) (aY (.int 1000))) (aA (aY (.int 0)) (aA (aY (.int 999)) (aA (aY (.int 7)) aF))))))) (a3G K A ex)
abbrev a3I(K:Fg)(A:bC)(ex:aP->aZ):bJ :=
  aN (cD 6 (aG cW (mR (aA (aY (.str "put")) (aA (aY (.str "put")) (aA (aY (.str "take")) (aA (aY (.str "shift")) (aA (aY (.str "shift")) aF)))))) (aG cN (aB 4) (aY (.int 5))))) (a3H K A ex)
abbrev a3J(K:Fg)(A:bC)(ex:aP->aZ):bJ :=
  aN (cD 5 (aR (aU K A) ex (aA (aB 0) (aA (aG eX (aY (.int 11)) (aG yQ (aY (.int 2)) (aB 1))) aF)))) (a3I K A ex)
abbrev a0N(K:Fg)(A:bC)(ex:aP->aZ):bJ :=
  aN (cD 4 (aR (aU K A) ex (aA (aB 0) (aA (aG eX (aY (.int 10)) (aG yQ (aY (.int 2)) (aB 1))) aF)))) (a3J K A ex)
abbrev sG(K:Fg)(A:bC):qK:=zL 9 4 λEX=>a0N K A (λ_=>EX)
abbrev ajL:CB:=(.cons (.set 4 (.call 0 (.cons (.var 0) (.cons (.bin .Add (.con (.int 10)) (.bin .Mult (.con (.int 2)) (.var 1))) .nil)))) (.cons (.set 5 (.call 0 (.cons (.var 0) (.cons (.bin .Add (.con (.int 11)) (.bin .Mult (.con (.int 2)) (.var 1))) .nil)))) (.cons (.set 6 (.ix (.lst (.cons (.con (.str "put")) (.cons (.con (.str "put")) (.cons (.con (.str "take")) (.cons (.con (.str "shift")) (.cons (.con (.str "shift")) .nil)))))) (.bin .Mod (.var 4) (.con (.int 5))))) (.cons (.set 7 (.lst (.cons (.bin .Mod (.call 0 (.cons (.var 0) (.cons (.con (.int 4)) .nil))) (.con (.int 1000))) (.cons (.bin .Mod (.call 0 (.cons (.var 0) (.cons (.con (.int 5)) .nil))) (.con (.int 1000))) (.cons (.con (.int 0)) (.cons (.con (.int 999)) (.cons (.con (.int 7)) .nil))))))) (.cons (.set 8 (.ix (.lst (.cons (.bin .Add (.con (.int 1)) (.bin .Mod (.bin .FloorDiv (.var 5) (.con (.int 7))) (.call 1 (.cons (.con (.int 1)) (.cons (.bin .FloorDiv (.var 3) (.con (.int 2))) .nil))))) (.cons (.bin .Add (.con (.int 1)) (.bin .Mod (.bin .FloorDiv (.var 5) (.con (.int 7))) (.var 3))) (.cons (.con (.int 1)) (.cons (.var 3) .nil))))) (.bin .Mod (.var 5) (.con (.int 4))))) (.cons (.ret (.tup (.cons (.var 6) (.cons (.ix (.var 7) (.bin .Mod (.bin .FloorDiv (.var 4) (.con (.int 5))) (.con (.int 5)))) (.cons (.ix (.var 2) (.bin .Mod (.bin .FloorDiv (.var 4) (.con (.int 25))) (.con (.int 4)))) (.cons (.ix (.var 2) (.bin .Mod (.bin .FloorDiv (.var 4) (.con (.int 100))) (.con (.int 4)))) (.cons (.call 2 (.cons (.var 8) (.cons (.bin .Pow (.con (.int 10)) (.con (.int 6))) .nil))) .nil))))))) .nil))))))
abbrev ajM(K:Fg)(A:bC):SI:=⟨["_law_script","_law_k","_law_spots_here","_law_room","_law_cell","_law_more","_law_word","_law_lots","_law_amount"],[ak,ak,ak,ak,ak,ak,ak,ak,ak],[ak,ak,ak,ak,ak,ak,ak,ak,ak],[ao,ao,ao,ao,ao,ao,ao,ao,ao],[("_law_cell_at",.fn (aU K A) 2 ao),("max",.bf .max),("min",.bf .min)],[ak,ak,ak],ak⟩
abbrev lU(K:Fg)(A:bC)(ex:aP->aZ):bJ :=
  (cB (tM3 "list" wA (aB 1) (aA (fM (aA (aB 2) (aA (iW xQ (aA (a7W 0 (qL (pA (aB 0)) (yP (aQ (aG lE (aG cW (aB 0) (aY (.int 0))) (aB 3))) (aQ (aG ac7 (aG sX (aB 1) (aB 0)) (aY (.int 0))))) (fM (aA (aG cW (aB 0) (aY (.int 1))) (aA (aG sX (aB 1) (aB 0)) aF))))) aF)) aF))) aF)))
abbrev a0O(K:Fg)(A:bC)(ex:aP->aZ):bJ :=
  (bU (aB 1))
abbrev a0P(K:Fg)(A:bC)(ex:aP->aZ):bJ :=
  aN (a3T (au9 (iW rJ (aA (iW a1M (aA (a7W 0 (qL (pA (aB 0)) (aQ (aG ac7 (aG sX (aB 1) (aB 0)) (aY (.int 0)))) (fM (aA (aG cW (aB 0) (aY (.int 0))) (aA (aY (.bl ak)) aF))))) aF)) aF))) (a01 2) (lU K A ex)) (a0O K A ex)
abbrev yF(K:Fg)(A:bC)(ex:aP->aZ):bJ :=
  aN (cD 1 (mR aF)) (a0P K A ex)
abbrev pI(K:Fg)(A:bC):qK:=zL 3 1 λEX=>yF K A (λ_=>EX)
abbrev ag6:CB:=(.cons (.set 1 (.lst .nil)) (.cons (.alX (.any (.call 1 (.cons (.call 0 (.cons (.thw 0 (.comp [ak,ao,ao] [ao,ao,ao] (.a2Q (.var 0)) (.some (.cmp .Gt (.nix (.var 1) (.var 0)) (.con (.int 0)))) (.tup (.cons (.ix (.var 0) (.con (.int 0))) (.cons (.con (.bl ak)) .nil))))) .nil)) .nil))) (.nm 2) (.cons (.expr (.meth .append (.var 1) (.cons (.tup (.cons (.var 2) (.cons (.call 2 (.cons (.thw 0 (.comp [ak,ao,ak] [ao,ao,ao] (.a2Q (.var 0)) (.some (.and (.cons (.cmp .Eq (.ix (.var 0) (.con (.int 0))) (.var 3)) (.cons (.cmp .Gt (.nix (.var 1) (.var 0)) (.con (.int 0))) .nil)))) (.tup (.cons (.ix (.var 0) (.con (.int 1))) (.cons (.nix (.var 1) (.var 0)) .nil))))) .nil)) .nil))) .nil))) .nil)) (.cons (.ret (.var 1)) .nil)))
abbrev ag7(K:Fg)(A:bC):SI:=⟨["_law_model","_law_found","_law_spot"],[ak,ak,ak],[ao,ak,ao],[ak,ao,ak],[("dict",.bf .aiO),("sorted",.bf .ae6),("sorted",.bf .a7X)],[ak,ak,ak],ak⟩
abbrev v9(K:Fg)(A:bC)(ex:aP->aZ):bJ :=
  (bU (aG a7T (gB A.aC "held" (dU K A) [] ex (aB 0) (aA (aB 3) aF)) (iW xQ (aA (aB 5) aF))))
abbrev vA(K:Fg)(A:bC)(ex:aP->aZ):bJ :=
  (bU (aG a7T (gB A.aC "places" (fQ K A) [] ex (aB 0) (aA (aB 2) aF)) (iW a5J (aA (aB 5) aF))))
abbrev a0Q(K:Fg)(A:bC)(ex:aP->aZ):bJ :=
  (bU (aG a7T (aB 7) (aR (pI K A) ex (aA (aB 1) aF))))
abbrev a0R(K:Fg)(A:bC)(ex:aP->aZ):bJ :=
  aN (cD 7 (qL (a3U ak (aB 6)) aa1 (fM (aA (aB 0) (aA (a9A (aG sW (aB 7) (aB 0))) aF))))) (a0Q K A ex)
abbrev a0S(K:Fg)(A:bC)(ex:aP->aZ):bJ :=
  aN (dG (qY (aQ (iW (aJ K) (aA (aB 6) (aA (aY (.ty "dict")) aF))))) (bU (aY (.bl ao))) bL) (a0R K A ex)
abbrev a0T(K:Fg)(A:bC)(ex:aP->aZ):bJ :=
  aN (cD 6 (gB A.aC "lying" (eV K A) [] ex (aB 0) aF)) (a0S K A ex)
abbrev tQ(K:Fg)(A:bC)(ex:aP->aZ):bJ :=
  aN (dG (aQ (aG lE (aB 4) (aY (.int 3)))) (aN (cD 5 (qL (pA (aB 1)) (yP (aQ (aG lE (aG cW (aB 0) (aY (.int 1))) (aB 3))) (aQ (aG ac7 (aG sX (aB 2) (aB 0)) (aY (.int 0))))) (fM (aA (aG cW (aB 0) (aY (.int 0))) (aA (aG sX (aB 2) (aB 0)) aF))))) (vA K A ex)) bL) (a0T K A ex)
abbrev mY(K:Fg)(A:bC)(ex:aP->aZ):bJ :=
  aN (dG (aQ (aG lE (aB 4) (aY (.int 2)))) (bU (aG lE (gB A.aC "filled" (dN K A) [] ex (aB 0) (aA (aB 3) aF)) (aR (gY K A) ex (aA (aB 1) (aA (aB 3) aF))))) bL) (tQ K A ex)
abbrev jP(K:Fg)(A:bC)(ex:aP->aZ):bJ :=
  aN (dG (aQ (aG lE (aB 4) (aY (.int 1)))) (aN (cD 5 (qL (pA (aB 1)) (yP (aQ (aG lE (aG cW (aB 0) (aY (.int 0))) (aB 4))) (aQ (aG ac7 (aG sX (aB 2) (aB 0)) (aY (.int 0))))) (fM (aA (aG cW (aB 0) (aY (.int 1))) (aA (aG sX (aB 2) (aB 0)) aF))))) (v9 K A ex)) bL) (mY K A ex)
abbrev cL(K:Fg)(A:bC)(ex:aP->aZ):bJ :=
  aN (dG (aQ (aG lE (aB 4) (aY (.int 0)))) (bU (aG lE (gB A.aC "amount" (dO K A) [] ex (aB 0) (aA (aB 2) (aA (aB 3) aF))) (a6Y (aB 1) (fM (aA (aB 3) (aA (aB 2) aF))) (aY (.int 0))))) bL) (jP K A ex)
abbrev pJ(K:Fg)(A:bC):qK:=zL 8 5 λEX=>cL K A (λ_=>EX)
abbrev ag8:CB:=(.cons (.ifs (.cmp .Eq (.var 4) (.con (.int 0))) (.cons (.ret (.cmp .Eq (.mD 0 (.var 0) (.cons (.var 2) (.cons (.var 3) .nil))) (.ngt (.var 1) (.tup (.cons (.var 3) (.cons (.var 2) .nil))) (.con (.int 0))))) .nil) .nil) (.cons (.ifs (.cmp .Eq (.var 4) (.con (.int 1))) (.cons (.setC 5 [ao,ak,ao,ak,ao,ao,ao,ao] [ao,ao,ao,ao,ao,ao,ao,ao,ao,ao,ao,ao] (.a2Q (.var 1)) (.some (.and (.cons (.cmp .Eq (.ix (.var 0) (.con (.int 0))) (.var 4)) (.cons (.cmp .Gt (.nix (.var 2) (.var 0)) (.con (.int 0))) .nil)))) (.tup (.cons (.ix (.var 0) (.con (.int 1))) (.cons (.nix (.var 2) (.var 0)) .nil)))) (.cons (.ret (.eqd ao (.mD 1 (.var 0) (.cons (.var 3) .nil)) (.call 2 (.cons (.var 5) .nil)))) .nil)) .nil) (.cons (.ifs (.cmp .Eq (.var 4) (.con (.int 2))) (.cons (.ret (.cmp .Eq (.mD 3 (.var 0) (.cons (.var 3) .nil)) (.call 4 (.cons (.var 1) (.cons (.var 3) .nil))))) .nil) .nil) (.cons (.ifs (.cmp .Eq (.var 4) (.con (.int 3))) (.cons (.setC 5 [ao,ak,ak,ao,ao,ao,ao,ao] [ao,ao,ao,ao,ao,ao,ao,ao,ao,ao,ao,ao] (.a2Q (.var 1)) (.some (.and (.cons (.cmp .Eq (.ix (.var 0) (.con (.int 1))) (.var 3)) (.cons (.cmp .Gt (.nix (.var 2) (.var 0)) (.con (.int 0))) .nil)))) (.tup (.cons (.ix (.var 0) (.con (.int 0))) (.cons (.nix (.var 2) (.var 0)) .nil)))) (.cons (.ret (.eqd ao (.mD 5 (.var 0) (.cons (.var 2) .nil)) (.call 6 (.cons (.var 5) .nil)))) .nil)) .nil) (.cons (.set 6 (.mD 7 (.var 0) .nil)) (.cons (.ifs (.not (.val (.call 9 (.cons (.var 6) (.cons (.glo 8) .nil))))) (.cons (.ret (.con (.bl ao))) .nil) .nil) (.cons (.setC 7 [ao,ao,ao,ao,ao,ao,ak,ao] [ao,ao,ao,ao,ao,ao,ao,ao,ao,ao,ak,ao] (.keys (.var 6)) .none (.tup (.cons (.var 0) (.cons (.listI 10 (.dix (.var 7) (.var 0))) .nil)))) (.cons (.ret (.eqd ao (.var 7) (.call 11 (.cons (.var 1) .nil)))) .nil))))))))
abbrev ag9(K:Fg)(A:bC):SI:=⟨["_law_shelves","_law_model","_law_lot","_law_spot","_law_way","_law_there","_law_found","_law_told"],[ak,ak,ak,ak,ak,ak,ak,ak],[ak,ao,ao,ao,ak,ak,ao,ak],[ao,ak,ak,ak,ao,ao,ak,ao],[("Shelves.amount#2",.me A.aC "amount" (dO K A) []),("Shelves.held#1",.me A.aC "held" (dU K A) []),("sorted",.bf .a7X),("Shelves.filled#1",.me A.aC "filled" (dN K A) []),("_law_filled",.fn (gY K A) 2 ao),("Shelves.places#1",.me A.aC "places" (fQ K A) []),("sorted",.bf .aoK),("Shelves.lying#0",.me A.aC "lying" (eV K A) []),("dict",.bt "dict"),("isinstance",.bf .isi),("list",.bt "list"),("_law_lying",.fn (pI K A) 1 ao)],[ao,ao,ak,ao,ak,ao,ak,ao,ak,ak,ao,ak],ak⟩
abbrev tR(K:Fg)(A:bC)(ex:aP->aZ):bJ :=
  (dG (qY (aQ (a7W 1 (aR (pJ K A) ex (aA (aB 0) (aA (aB 1) (aA (aG cW (aB 6) (aG cN (aG eO (aB 5) (aY (.int 20))) (aY (.int 5)))) (aA (aG cW (aB 4) (aG cN (aG eO (aB 5) (aY (.int 100))) (aY (.int 4)))) (aA (aB 8) aF))))))))) (bU (aY (.bl ao))) bL)
abbrev wZ(K:Fg)(A:bC)(ex:aP->aZ):bJ :=
  aN (cD 8 (aG cN (aG eX (aB 5) (aG yQ (aB 7) (aG eX (aY (.int 1)) (aG cN (aG eO (aB 5) (aY (.int 5))) (aY (.int 4)))))) (aY (.int 5)))) (tR K A ex)
abbrev zA(K:Fg)(A:bC)(ex:aP->aZ):bJ :=
  (bU (aY (.bl ak)))
abbrev zB(K:Fg)(A:bC)(ex:aP->aZ):bJ :=
  aN (a3T (a3S (aA (aY (.int 5)) aF)) (a01 7) (wZ K A ex)) (zA K A ex)
abbrev zE(K:Fg)(A:bC)(ex:aP->aZ):bJ :=
  aN (cD 6 (mR (aA (aG cN (aR (aU K A) ex (aA (aB 2) (aA (aY (.int 4)) aF))) (aY (.int 1000))) (aA (aG cN (aR (aU K A) ex (aA (aB 2) (aA (aY (.int 5)) aF))) (aY (.int 1000))) (aA (aY (.int 0)) (aA (aY (.int 999)) (aA (aY (.int 7)) aF))))))) (zB K A ex)
abbrev vP(K:Fg)(A:bC)(ex:aP->aZ):bJ :=
  aN (cD 5 (aR (aU K A) ex (aA (aB 2) (aA (aG eX (aY (.int 60)) (aB 3)) aF)))) (zE K A ex)
abbrev jQ(K:Fg)(A:bC):qK:=zL 9 5 λEX=>vP K A (λ_=>EX)
abbrev acO:CB:=(.cons (.set 5 (.call 0 (.cons (.var 2) (.cons (.bin .Add (.con (.int 60)) (.var 3)) .nil)))) (.cons (.set 6 (.lst (.cons (.bin .Mod (.call 0 (.cons (.var 2) (.cons (.con (.int 4)) .nil))) (.con (.int 1000))) (.cons (.bin .Mod (.call 0 (.cons (.var 2) (.cons (.con (.int 5)) .nil))) (.con (.int 1000))) (.cons (.con (.int 0)) (.cons (.con (.int 999)) (.cons (.con (.int 7)) .nil))))))) (.cons (.alX (.alU (.con (.int 5))) (.nm 7) (.cons (.set 8 (.bin .Mod (.bin .Add (.var 5) (.bin .Mult (.var 7) (.bin .Add (.con (.int 1)) (.bin .Mod (.bin .FloorDiv (.var 5) (.con (.int 5))) (.con (.int 4)))))) (.con (.int 5)))) (.cons (.ifs (.not (.val (.thw 1 (.call 2 (.cons (.var 0) (.cons (.var 1) (.cons (.ix (.var 6) (.bin .Mod (.bin .FloorDiv (.var 5) (.con (.int 20))) (.con (.int 5)))) (.cons (.ix (.var 4) (.bin .Mod (.bin .FloorDiv (.var 5) (.con (.int 100))) (.con (.int 4)))) (.cons (.var 8) .nil))))))))) (.cons (.ret (.con (.bl ao))) .nil) .nil) .nil))) (.cons (.ret (.con (.bl ak))) .nil))))
abbrev acP(K:Fg)(A:bC):SI:=⟨["_law_shelves","_law_model","_law_script","_law_k","_law_spots_here","_law_cell","_law_lots","_law_turn","_law_way"],[ak,ak,ak,ak,ak,ak,ak,ak,ak],[ak,ak,ak,ak,ak,ak,ak,ak,ak],[ao,ao,ao,ao,ao,ao,ao,ao,ao],[("_law_cell_at",.fn (aU K A) 2 ao),("range",.bt "range"),("_law_asked",.fn (pJ K A) 5 ao)],[ak,ak,ak],ak⟩
abbrev a3K(K:Fg)(A:bC)(ex:aP->aZ):bJ :=
  (cB (tM3 "list" wA (aB 8) (aA (fM (aA (aB 11) (aA (iW a9V (aA (aB 11) aF)) aF))) aF)))
abbrev a4B(K:Fg)(A:bC)(ex:aP->aZ):bJ :=
  (dG (aQ (aG lE (aG cN (aB 9) (aY (.int 8))) (aY (.int 5)))) (aN (cD 11 (gB A.aC "held" (dU K A) [] ex (aB 5) (aA (aG cW (aB 4) (aY (.int 0))) aF))) (a3K K A ex)) bL)
abbrev a4C(K:Fg)(A:bC)(ex:aP->aZ):bJ :=
  aN (dG (afA (qY (aQ (aR (jQ K A) ex (aA (aB 5) (aA (aG cW (aB 7) (aY (.int 0))) (aA (aB 0) (aA (aB 9) (aA (aB 4) aF)))))))) (qY (aQ (aR (jQ K A) ex (aA (aB 6) (aA (aG cW (aB 7) (aY (.int 1))) (aA (aB 0) (aA (aB 9) (aA (aB 4) aF))))))))) (bU (aY (.bl ao))) bL) (a4B K A ex)
abbrev ab7(K:Fg)(A:bC)(ex:aP->aZ):bJ :=
  aN (dG (yP (aQ (aG lE (aG cN (aB 9) (aY (.int 3))) (aY (.int 1)))) (aQ (aG zK (aR (fU K A) ex (aA (aB 6) (aA (aB 10) aF))) (aR (jN K A) ex (aA (aG cW (aB 7) (aY (.int 1))) (aA (aB 3) (aA (aB 10) aF))))))) (bU (aY (.bl ao))) bL) (a4C K A ex)
abbrev ab8(K:Fg)(A:bC)(ex:aP->aZ):bJ :=
  aN (dG (aQ (aG zK (aR (fU K A) ex (aA (aB 5) (aA (aB 10) aF))) (aR (jN K A) ex (aA (aG cW (aB 7) (aY (.int 0))) (aA (aB 3) (aA (aB 10) aF)))))) (bU (aY (.bl ao))) bL) (ab7 K A ex)
abbrev ab9(K:Fg)(A:bC)(ex:aP->aZ):bJ :=
  aN (cD 10 (aR (sG K A) ex (aA (aB 0) (aA (aB 9) (aA (aB 4) (aA (aB 3) aF)))))) (ab8 K A ex)
abbrev ajN(K:Fg)(A:bC)(ex:aP->aZ):bJ :=
  (bU (aG lE (qL (a6K (aB 8)) (aQ (aG aaI (aG cW (aB 0) (aY (.int 0))) (aG cW (aB 0) (aY (.int 1))))) (aB 0)) (mR aF)))
abbrev ap4(K:Fg)(A:bC)(ex:aP->aZ):bJ :=
  aN (a3T (a3S (aA (aG cN (aR (aU K A) ex (aA (aB 0) (aA (aY (.int 6)) aF))) (aY (.int 25))) aF)) (a01 9) (ab9 K A ex)) (ajN K A ex)
abbrev ap5(K:Fg)(A:bC)(ex:aP->aZ):bJ :=
  aN (cD 8 (mR (aA (fM (aA (gB A.aC "lying" (eV K A) [] ex (aB 5) aF) (aA a1I aF))) (aA (fM (aA (gB A.aC "held" (dU K A) [] ex (aB 5) (aA (aG cW (aB 4) (aY (.int 0))) aF)) (aA (mR aF) aF))) aF)))) (ap4 K A ex)
abbrev ap6(K:Fg)(A:bC)(ex:aP->aZ):bJ :=
  aN (cD 7 (mR (aA a5I (aA a5I aF)))) (ap5 K A ex)
abbrev ap7(K:Fg)(A:bC)(ex:aP->aZ):bJ :=
  aN (cD 6 (a6O A.aC (dY K A) [] ex (aA (aB 1) (aA (aB 3) aF)))) (ap6 K A ex)
abbrev ap8(K:Fg)(A:bC)(ex:aP->aZ):bJ :=
  aN (cD 5 (a6O A.aC (dY K A) [] ex (aA (aB 1) (aA (aB 3) aF)))) (ap7 K A ex)
abbrev ap9(K:Fg)(A:bC)(ex:aP->aZ):bJ :=
  aN (cD 4 (aR (pH K A) ex (aA (aB 0) (aA (aB 1) aF)))) (ap8 K A ex)
abbrev apA(K:Fg)(A:bC)(ex:aP->aZ):bJ :=
  aN (cD 3 (aG cW (mR (aA (aG eX (aY (.int 1)) (aG cN (aG eO (aB 2) (aY (.int 3))) (aY (.int 30)))) (aA (aG eX (aY (.int 1)) (aG cN (aG eO (aB 2) (aY (.int 3))) (aY (.int 30)))) (aA (aG eX (aY (.int 1)) (aG cN (aG eO (aB 2) (aY (.int 3))) (aG adK (aY (.int 10)) (aY (.int 6))))) aF)))) (aG cN (aB 2) (aY (.int 3))))) (ap9 K A ex)
abbrev apB(K:Fg)(A:bC)(ex:aP->aZ):bJ :=
  aN (cD 2 (aR (aU K A) ex (aA (aB 0) (aA (aY (.int 2)) aF)))) (apA K A ex)
abbrev ax1(K:Fg)(A:bC)(ex:aP->aZ):bJ :=
  aN (cD 1 (aR (rZ K A) ex (aA (aB 0) (aA (aY (.int 0)) aF)))) (apB K A ex)
abbrev agA(K:Fg)(A:bC):qK:=zL 12 1 λEX=>ax1 K A (λ_=>EX)
abbrev ajO:CB:=(.cons (.set 1 (.call 0 (.cons (.var 0) (.cons (.con (.int 0)) .nil)))) (.cons (.set 2 (.call 1 (.cons (.var 0) (.cons (.con (.int 2)) .nil)))) (.cons (.set 3 (.ix (.lst (.cons (.bin .Add (.con (.int 1)) (.bin .Mod (.bin .FloorDiv (.var 2) (.con (.int 3))) (.con (.int 30)))) (.cons (.bin .Add (.con (.int 1)) (.bin .Mod (.bin .FloorDiv (.var 2) (.con (.int 3))) (.con (.int 30)))) (.cons (.bin .Add (.con (.int 1)) (.bin .Mod (.bin .FloorDiv (.var 2) (.con (.int 3))) (.bin .Pow (.con (.int 10)) (.con (.int 6))))) .nil)))) (.bin .Mod (.var 2) (.con (.int 3))))) (.cons (.set 4 (.call 2 (.cons (.var 0) (.cons (.var 1) .nil)))) (.cons (.set 5 (.call 3 (.cons (.var 1) (.cons (.var 3) .nil)))) (.cons (.set 6 (.call 3 (.cons (.var 1) (.cons (.var 3) .nil)))) (.cons (.set 7 (.lst (.cons .avM (.cons .avM .nil)))) (.cons (.set 8 (.lst (.cons (.tup (.cons (.mD 4 (.var 5) .nil) (.cons .arA .nil))) (.cons (.tup (.cons (.mD 5 (.var 5) (.cons (.ix (.var 4) (.con (.int 0))) .nil)) (.cons (.lst .nil) .nil))) .nil)))) (.cons (.alX (.alU (.bin .Mod (.call 1 (.cons (.var 0) (.cons (.con (.int 6)) .nil))) (.con (.int 25)))) (.nm 9) (.cons (.set 10 (.call 7 (.cons (.var 0) (.cons (.var 9) (.cons (.var 4) (.cons (.var 3) .nil)))))) (.cons (.ifs (.cmp .NotEq (.call 8 (.cons (.var 5) (.cons (.var 10) .nil))) (.call 9 (.cons (.ix (.var 7) (.con (.int 0))) (.cons (.var 3) (.cons (.var 10) .nil))))) (.cons (.ret (.con (.bl ao))) .nil) .nil) (.cons (.ifs (.and (.cons (.cmp .Eq (.bin .Mod (.var 9) (.con (.int 3))) (.con (.int 1))) (.cons (.cmp .NotEq (.call 8 (.cons (.var 6) (.cons (.var 10) .nil))) (.call 9 (.cons (.ix (.var 7) (.con (.int 1))) (.cons (.var 3) (.cons (.var 10) .nil))))) .nil))) (.cons (.ret (.con (.bl ao))) .nil) .nil) (.cons (.ifs (.or (.cons (.not (.val (.call 10 (.cons (.var 5) (.cons (.ix (.var 7) (.con (.int 0))) (.cons (.var 0) (.cons (.var 9) (.cons (.var 4) .nil)))))))) (.cons (.not (.val (.call 10 (.cons (.var 6) (.cons (.ix (.var 7) (.con (.int 1))) (.cons (.var 0) (.cons (.var 9) (.cons (.var 4) .nil)))))))) .nil))) (.cons (.ret (.con (.bl ao))) .nil) .nil) (.cons (.ifs (.cmp .Eq (.bin .Mod (.var 9) (.con (.int 8))) (.con (.int 5))) (.cons (.set 11 (.mD 5 (.var 5) (.cons (.ix (.var 4) (.con (.int 0))) .nil))) (.cons (.expr (.meth .append (.var 8) (.cons (.tup (.cons (.var 11) (.cons (.call 11 (.cons (.var 11) .nil)) .nil))) .nil))) .nil)) .nil) .nil)))))) (.cons (.ret (.cmp .Eq (.comp [ao,ao,ao,ao,ao,ao,ao,ao,ao,ao,ao,ao] [ao,ao,ao,ao,ao,ao,ao,ao,ao,ao,ao,ao] (.any (.var 8)) (.some (.nld (.ix (.var 0) (.con (.int 0))) (.ix (.var 0) (.con (.int 1))))) (.var 0)) (.lst .nil))) .nil))))))))))
abbrev aO3(K:Fg)(A:bC):SI:=⟨["_law_script","_law_plan_here","_law_cell","_law_room","_law_spots_here","_law_mine","_law_other","_law_models","_law_held","_law_k","_law_deed_here","_law_told"],[ak,ak,ak,ak,ak,ak,ak,ak,ak,ak,ak,ak],[ak,ak,ak,ak,ak,ak,ak,ak,ak,ak,ak,ak],[ao,ao,ao,ao,ao,ao,ao,ao,ao,ao,ao,ao],[("_law_plan",.fn (rZ K A) 2 ao),("_law_cell_at",.fn (aU K A) 2 ao),("_law_spots",.fn (pH K A) 2 ao),("Shelves",.kl A.aC (dY K A) []),("Shelves.lying#0",.me A.aC "lying" (eV K A) []),("Shelves.held#1",.me A.aC "held" (dU K A) []),("range",.bt "range"),("_law_deed",.fn (sG K A) 4 ao),("_law_done",.fn (fU K A) 2 ao),("_law_do",.fn (jN K A) 3 ao),("_law_looked",.fn (jQ K A) 5 ao),("list",.bt "list")],[ak,ak,ak,ak,ao,ao,ak,ak,ak,ak,ak,ak],ak⟩
structure FnT(K:Fg)(mg:Str->Option aq)(x:Str)(st:qm)(f:bw)(d:jw)(ps:List Str):Prop where
 F:Fun K x x st f d
 B:Binds K d ps []
 m:mg x=aj (.ref f)
structure ExT(K:Fg)(mg:Str->Option aq)(x:Str)(c:bw):Prop where
 m:mg x=aj (.ref c)
 x:yx K c BMv "ValueError.__new__"=ak
 cs:(wg K c).isSome=ak
 ty:a0t K (.ref c)=aj (.type "type")
 be:um K (.ref c) (.type "BaseException")=aj ak
structure Txt(K:Fg)(mg:Str->Option aq)(A:bC):Prop where
 iM:FnT K mg "is_whole" aaP A.aaT A.xU ["thing","least","most"]
 sH:FnT K mg "is_pair" aeF A.aeI A.a1Q ["thing","aisles","first","last"]
 mF:FnT K mg "is_amount" a80 A.a85 A.uJ ["thing"]
 sI:FnT K mg "is_plan" aeG A.aeJ A.a1R ["thing"]
 jR:FnT K mg "need_plan" a81 A.a86 A.uK ["plan"]
 xA:FnT K mg "is_bin" aj8 A.ajB A.a5S ["plan","thing"]
 gF:FnT K mg "need_lot" aaQ A.aaU A.xV ["thing","lots"]
 fB:FnT K mg "need_bin" aaR A.aaV A.xW ["plan","thing"]
 dH:FnT K mg "need_amount" a2R A.a2W A.pB ["thing"]
 qD:FnT K mg "change" aj9 A.ajC A.a5T ["stacks","spot","lot","more"]
 oF:FnT K mg "in_order" aaS A.aaW A.xX ["stacks"]
 a4D:Fun K "__init__" "Shelves.__init__" eY A.bK A.iI
 a4E:Binds K A.iI ["self","plan","room"] []
 amE:Meth K A.aC "__init__" A.bK
 amF:∃t,Binds K A.iI ["self","plan","room"] [.int 1000 t]
 oG:Fun K "filled" "Shelves.filled" wH A.gM A.gO
 jY:Binds K A.gO ["self","spot"] []
 xB:Meth K A.aC "filled" A.gM
 lC:Fun K "need_room" "Shelves.need_room" rA A.dW A.dX
 gH:Binds K A.dX ["self","spot","amount"] []
 rB:Meth K A.aC "need_room" A.dW
 vQ:Fun K "put" "Shelves.put" a2S A.lJ A.lK
 vR:Binds K A.lK ["self","lot","spot","amount"] []
 acQ:Meth K A.aC "put" A.lJ
 oH:Fun K "amount" "Shelves.amount" wI A.gP A.gQ
 jZ:Binds K A.gQ ["self","lot","spot"] []
 xC:Meth K A.aC "amount" A.gP
 jT:Fun K "need_there" "Shelves.need_there" pR A.dI A.dJ
 fV:Binds K A.dJ ["self","lot","spot","amount"] []
 qF:Meth K A.aC "need_there" A.dI
 tU:Fun K "take" "Shelves.take" a08 A.jG A.jH
 tV:Binds K A.jH ["self","lot","spot","amount"] []
 abA:Meth K A.aC "take" A.jG
 qO:Fun K "shift" "Shelves.shift" yU A.iY A.iZ
 qP:Binds K A.iZ ["self","lot","one","other","amount"] []
 a8R:Meth K A.aC "shift" A.iY
 tW:Fun K "held" "Shelves.held" a09 A.jJ A.jK
 mZ:Binds K A.jK ["self","spot"] []
 a0U:Meth K A.aC "held" A.jJ
 oJ:Fun K "places" "Shelves.places" wJ A.gR A.gU
 oK:Binds K A.gU ["self","lot"] []
 a76:Meth K A.aC "places" A.gR
 qQ:Fun K "lying" "Shelves.lying" yV A.j4 A.j5
 lV:Binds K A.j5 ["self"] []
 zF:Meth K A.aC "lying" A.j4
 cI:FnT K mg "_law_cell_at" a0A A.a0B A.mV ["_law_script","_law_k"]
 mH:FnT K mg "_law_plan" a82 A.a87 A.uL ["_law_script","_law_k"]
 jA:FnT K mg "_law_raised" a2T A.a2X A.pC ["_law_e"]
 gG:FnT K mg "_law_filled" a2U A.a2Y A.pD ["_law_model","_law_spot"]
 sJ:FnT K mg "_law_do" aeH A.aeK A.a1S ["_law_model","_law_room","_law_deed_here"]
 mJ:FnT K mg "_law_done" a83 A.a88 A.uM ["_law_shelves","_law_deed_here"]
 kJ:FnT K mg "_law_spots" a5P A.a5U A.rP ["_law_script","_law_plan_here"]
 mK:FnT K mg "_law_deed" a84 A.a89 A.uN ["_law_script","_law_k","_law_spots_here","_law_room"]
 kW:FnT K mg "_law_lying" a5Q A.a5V A.rQ ["_law_model"]
 kY:FnT K mg "_law_asked" a5R A.a5W A.rR ["_law_shelves","_law_model","_law_lot","_law_spot","_law_way"]
 jB:FnT K mg "_law_looked" a2V A.a2Z A.pF ["_law_shelves","_law_model","_law_script","_law_k","_law_spots_here"]
 aO4:FnT K mg "law" ajA A.aaX A.aE3 ["_law_script"]
 aO:Cls K A.aC
 amG:Mk K A.aC A.bK
 amH:mg "Shelves"=aj (.ref A.aC)
 cY:nT K A.aC "layout"
 zG:nT K A.aC "room"
 bQ:nT K A.aC "stacks"
 n6:ExT K mg "DepotError" A.mW
 xD:ExT K mg "NoPlan" A.mX
 a1U:ExT K mg "NoBin" A.rT
 a1V:ExT K mg "NoLot" A.rW
 oM:ExT K mg "NoAmount" A.iJ
 qG:ExT K mg "NoRoom" A.cA
 ax2:ExC K A.cA
 xE:iy K (.ref A.cA) (.type "ValueError")=aj ak
 iC:ExT K mg "TooLittle" A.bD
 ajP:ExC K A.bD
 n8:iy K (.ref A.bD) (.type "ValueError")=aj ak
 d7:um K (.ref A.cA) (.ref A.mW)=aj ak
 fW:iy K (.ref A.cA) (.ref A.iJ)=aj ao
 jU:iy K (.ref A.cA) (.ref A.rT)=aj ao
 jV:iy K (.ref A.cA) (.ref A.rW)=aj ao
 j7:iy K (.ref A.cA) (.ref A.mX)=aj ao
 j8:iy K (.ref A.cA) (.ref A.cA)=aj ak
 fC:iy K (.ref A.cA) (.ref A.bD)=aj ao
 bZ:um K (.ref A.bD) (.ref A.mW)=aj ak
 dM:iy K (.ref A.bD) (.ref A.iJ)=aj ao
 fX:iy K (.ref A.bD) (.ref A.rT)=aj ao
 fY:iy K (.ref A.bD) (.ref A.rW)=aj ao
 fD:iy K (.ref A.bD) (.ref A.mX)=aj ao
 fG:iy K (.ref A.bD) (.ref A.cA)=aj ao
 dD:iy K (.ref A.bD) (.ref A.bD)=aj ak
 lM:∃t,mg "MOST_AISLES"=aj (.int 26 t)
 lO:∃t,mg "MOST_PLACES"=aj (.int 99 t)
 lQ:∃t,mg "MOST_AMOUNT"=aj (.int 1000000 t)
 tX:∃t,mg "MOST_GAP"=aj (.int 20 t)
 fZ:∃t,mg "MOST_LOTS"=aj (.int 1000 t)
 agB:mg "ValueError"=au
 aJ2:mg "bool"=au
 amI:mg "dict"=au
 aE4:mg "int"=au
 nA:mg "isinstance"=au
 ajQ:mg "len"=au
 ax3:mg "list"=au
 aO5:mg "max"=au
 aO6:mg "min"=au
 apC:mg "range"=au
 qH:mg "sorted"=au
 aE5:mg "sum"=au
 apD:mg "tuple"=au
end Law
namespace Law
open PySem PySem.Spec PyProof.Rows L2 L4 L5 L6
local macro_rules| `(tactic| walk_at "wp")=>`(tactic| first|(simp(maxSteps:=2000000) (implicitDefEqProofs:=false) (disch:=first|rfl|decide|assumption|omega) only[L5.aDW,L5.aIG,L5.aIH,L5.aNJ,L5.aNK,L5.aDX,L5.x_raise,L5.x_c,L5.aw6,L5.aw7,L5.aNM,L5.aII,L5.aBP,L5.aDY,L5.aRM,L5.aNN,L5.aIJ,L5.aIK,L5.aNO,L5.aNP,L5.awC,L5.aDZ,L5.aNQ,L5.aNR,L5.x_call,L5.aRN,L5.x_m,L5.aNL,L5.aI9,L5.aBO,L5.awD,L5.aNS,L5.aIM,L5.aIN,L5.aoV,L5.awG,L5.aIO,L5.x_lt,L5.aRO,L5.aRP,L5.aBQ,L5.aBR,L5.aBS,L5.aBT,L5.aBU,L5.aoS,L5.aBV,L5.aBW,L5.aBX,L5.cQ,L5.aoT,L5.aoU,L5.aC0,L5.aIA,L5.aIB,L5.aIC,L5.aID,L5.aIE,L5.aIF,L5.aiT,L5.afX,L5.acC,L5.alZ,L5.aiU,L5.afY,L5.aiV,L5.afZ,L5.acD,L5.aiW,L5.ag0,L5.acE,L5.aiX,L5.ag1,L5.acF,L5.am2,L5.awI,L5.arF,L5.am3,L5.aNV,L5.aNW,L5.am4,L5.arG,L5.arH,L6.aC1,L6.aNX,L6.aIQ,L6.aC2,L6.awK,L6.aIR,L6.aC3,L6.a3V,L6.aC4,L6.aNY,L6.aNZ,L6.aIS,L8.aO2,L8.aIV,L8.aC9,L8.aCA,L8.aRQ,L8.aCB,L9.aCC,L9.aIW,L15.aIZ,L15.aeE,L15.aJ0,L15.aJ1,L15.aCH,L10.awT,L7.aIT,L7.aIU,reduceIte,reduceCtorEq];try dsimp only[L5.aw8,L5.aw9,L5.awA,L5.awB,L6.aoX])|dsimp only[L5.aw8,L5.aw9,L5.awA,L5.awB,L6.aoX])
local macro_rules| `(tactic| exists $ls,*)=>`(tactic| (simp(implicitDefEqProofs:=false) only[$[$ls:term],*];repeat (first|(walk_at "wp")|(simp(implicitDefEqProofs:=false) only[$[$ls:term],*]))))
local macro_rules| `(tactic| symm)=>`(tactic| repeat (walk_at "wp"))
variable{a b l lot more room am:Int}{ns:List Int}{n i x:Nat}{p st sh m r hd a0:bw}{F:gJ}{ex:aP->aZ}{M:List (List Key×bw)}{c:bw->List (Int×Int)}{zs:List ((Int×Int)×List (Int×Int))}{o:GO}{tc:TT3}
section
variable{K:Fg}{A:bC}{G:Gp}{mg:Str->Option aq}
open L7 L8 L9 L10 L11 L15
abbrev isW(d:D)(a b:Int):Bool:=match d with
 |.int i=>decide (a<=i)&&decide (i<=b)
 |_=>ao
private theorem lZ(hd:kn G d)(h:R (.bl (isW d a b)) G):cR K A [d,.int a,.int b] G R EX:=by
 refine⟨rfl,?_⟩;replace h:=bB.here h;show xY K A _ _ [aj d,aj (.int a),aj (.int b)] G;cases d
 case ref q=>exists xY,am1 hd;exact h
 case ty n=>simp[kn,tyD]at hd
 all_goals exists xY
 case int i =>
  by_cases c:a<=i
  .simp only[c,decide_true,if_true];simpa[isW,c]using h
  .simp only[c,decide_false,qe,if_false];simpa[isW,c]using h
 all_goals exact h
abbrev cellAt(ns:List Int)(k:Nat):Int:=if k<ns.length then ns.getD k 0 else if ns=[]then 0 else
 let m:=(ns.getD (k%ns.length) 0*48271+k*104729)%2147483647
 (m*m+48271*k)%2147483629
def qR{a:bw}(hG:G a=aj (.rol (ns.map D.int))){k:Nat}(hk:k<1000)(h:R (.int (cellAt ns k)) G):aU K A [.ref a,.int (k:Int)] G R EX:=by
 refine⟨rfl,?_⟩;replace h:=bB.here h;show tO K A _ _ [aj (.ref a),aj (.int k),au] G;exists tO,afV (a07 hG);by_cases c:k<ns.length
 .rw[if_pos (decide_eq_true (by omega))];have e:atI (ns.map D.int) (k:Int)=aj (.int (ns.getD k 0)):=by rw[aaM];simp[c,su]
  rw[nZ (a07 hG) e];rw[show cellAt ns k=ns.getD k 0 by unfold cellAt;rw[if_pos c]]at h;exact h
 .rw[if_neg (by simp;omega)];exists wX;intro p hp;rw[aaN (a07 (fL hG hp)) cQ (by simp[aV]) rfl];obtain⟨G0,l,h⟩:=h;by_cases hn:ns=[]
  .subst hn;rw[show cellAt [] k=0 by unfold cellAt;simp]at h;simp only[a2n,sS];symm;exact⟨G0,l.trans (.new hp),h⟩
  .have e0:sS (ns.map D.int) []=ao:=by cases ns with
    |nil=>exact absurd rfl hn
    |cons n r=>rfl
   have h0:0<(ns.length:Int):=by cases ns with
    |nil=>exact absurd rfl hn
    |cons n r=>simp
   simp only[e0];exists wW,afV (a07 (fL hG hp));have hm:k%ns.length<ns.length:=Nat.mod_lt _ (by omega)
   have e2:atI (ns.map D.int) ((k:Int)%(ns.length:Int))=aj (.int (ns.getD (k%ns.length) 0)):=by
    rw[←Int.natCast_emod,aaM];simp[hm,su]
   rw[nZ (a07 (fL hG hp)) e2];exists wV;refine⟨G0,l.trans (.new hp),?_⟩
   have ec:cellAt ns k=((ns.getD (k%ns.length) 0*48271+(k:Int)*104729)%2147483647*((ns.getD (k%ns.length) 0*48271+(k:Int)*104729)%2147483647)+48271*(k:Int))%2147483629:=by
    unfold cellAt;rw[if_neg c,if_neg hn]
   rw[←ec];exact h
abbrev isP(d:D)(n a b:Int):Bool:=match d with
 |.tup [x,y]=>isW x 0 (n - 1)&&isW y a b
 |_=>ao
private theorem arT{n:Int}(hd:kn G d)(hc:∀x y,d=.tup [x,y]->kn G x/\kn G y)(h:R (.bl (isP d n a b)) G):xZ K A [d,.int n,.int a,.int b] G R EX:=by
 refine⟨rfl,?_⟩;replace h:=bB.here h;show wK K A _ _ [aj d,aj (.int n),aj (.int a),aj (.int b)] G;cases d
 case ref q=>exists wK,a5N hd;exact h
 case ty n=>simp[kn,tyD]at hd
 case tup xs =>
  exists wK
  match xs,h,hc with
  |[],h,_=>exact h
  |[x],h,_=>exact h
  |x::y::z::r,h,_ =>
   have e:((((x::y::z::r).length:Nat):Int)==2)=ao:=by simp;omega
   simp only[e];exact h
  |[x,y],h,hc =>
   obtain⟨h1,h2⟩:=hc x y rfl;exists a8A;refine lZ h1 ?_;symm;refine ag2 (λe=>lZ h2 ?_) λe=>?_
   .simpa[isP,e]using h
   .simpa[isP,e]using h
 all_goals exists wK
 all_goals exact h
def aJ4{i j n:Int}:isP (.tup [.int i,.int j]) n a b=(decide (0<=i)&&decide (i<=n - 1)&&(decide (a<=j)&&decide (j<=b))):=rfl
abbrev ajR(d:D):Bool:=match d with
 |.tup [x,y,z]=>isW x 1 26&&(isW y 1 99&&isW z 1 20)
 |_=>ao
private theorem arU(hd:kn G d)(hc:∀x y z,d=.tup [x,y,z]->kn G x/\kn G y/\kn G z)(h:R (.bl (ajR d)) G):yC K A [d] G R EX:=by
 refine⟨rfl,?_⟩;replace h:=bB.here h;show wL K A _ _ [aj d] G;cases d
 case ref q=>exists wL,a5N hd;exact h
 case ty n=>simp[kn,tyD]at hd
 case tup xs =>
  exists wL
  match xs,h,hc with
  |[],h,_=>exact h
  |[x],h,_=>exact h
  |[x,y],h,_=>exact h
  |x::y::z::w::r,h,_ =>
   have e:((((x::y::z::w::r).length:Nat):Int)==3)=ao:=by simp;omega
   simp only[e];exact h
  |[x,y,z],h,hc =>
   obtain⟨h1,h2,h3⟩:=hc x y z rfl;exists a8C;refine lZ h1 ?_;symm;refine alA (λe=>?_) λe=>?_
   .simpa[ajR,e]using h
   .have e:isW x 1 26=ak:=by simpa using e
    refine lZ h2 ?_;symm;refine alA (λe2=>?_) λe2=>?_
    .simpa[ajR,e2]using h
    .have e2:isW y 1 99=ak:=by simpa using e2
     exists a8B;refine lZ h3 ?_;simpa[ajR,e,e2]using h
 all_goals exists wL
 all_goals exact h
def ajS(hd:kn G d)(hc:∀x y z,d=.tup [x,y,z]->kn G x/\kn G y/\kn G z)(h0:ajR d=ao->EX A.mX G)(h1:ajR d=ak->R .non G):iK K A [d] G R EX:=by
 refine⟨rfl,?_⟩;show a0D K A _ _ [aj d] G;exists a0D;refine arU hd hc ?_;symm;exact alA (λe=>yS.here (h0 e)) λe=>bB.here (h1 (by simpa using e))
abbrev plD(x y g:Nat):D:=.tup [.int x,.int y,.int g]
structure OkP(x y g:Nat):Prop where
 x0:1<=x
 x1:x<=26
 y0:1<=y
 y1:y<=99
 g0:1<=g
 g1:g<=20
def aCI{y g:Nat}(o:OkP x y g):ajR (plD x y g)=ak:=by
 obtain⟨_,_,_,_,_,_⟩:=o;simp[ajR,plD,isW];omega
def aeM{y g:Nat}(o:OkP x y g)(h:R .non G):iK K A [plD x y g] G R EX :=
 ajS awF (λa b c e=>by cases e;exact⟨rfl,rfl,rfl⟩) (λe=>by rw[aCI o]at e;cases e) λ_=>h
def amJ(hd:kn G d)(h0:isW d 0 999=ao->EX A.rW G)(h1:isW d 0 999=ak->R .non G):cT K A [d,.int 1000] G R EX:=by
 refine⟨rfl,?_⟩;show a3W K A _ _ [aj d,aj (.int 1000)] G;exists a3W;refine lZ hd ?_;symm;exact alA (λe=>yS.here (h0 e)) λe=>bB.here (h1 (by simpa using e))
def ajT(hd:kn G d)(h:R (.bl (isW d 1 1000000)) G):rY K A [d] G R EX:=by
 refine⟨rfl,?_⟩;show a0C K A _ _ [aj d] G;exists a0C;exact lZ hd (bB.here h)
def acR(hd:kn G d)(h0:isW d 1 1000000=ao->EX A.iJ G)(h1:isW d 1 1000000=ak->R .non G):bW K A [d] G R EX:=by
 refine⟨rfl,?_⟩;show vL K A _ _ [aj d] G;exists vL;refine ajT hd ?_;symm;exact alA (λe=>yS.here (h0 e)) λe=>bB.here (h1 (by simpa using e))
def ax4{y g:Nat}(o:OkP x y g)(hd:kn G d)(hc:∀x y,d=.tup [x,y]->kn G x/\kn G y)(h:R (.bl (isP d x 1 y)) G):a1T K A [plD x y g,d] G R EX:=by
 refine⟨rfl,?_⟩;show aaZ K A _ _ [aj (plD x y g),aj d] G;exists aaZ;refine aeM o ?_;unfold plD;exists aaY;exact arT hd hc (bB.here h)
def amK{y g:Nat}(o:OkP x y g)(hd:kn G d)(hc:∀x y,d=.tup [x,y]->kn G x/\kn G y)(h0:isP d x 1 y=ao->EX A.rT G)(h1:isP d x 1 y=ak->R .non G):bN K A [plD x y g,d] G R EX:=by
 refine⟨rfl,?_⟩;show a3X K A _ _ [aj (plD x y g),aj d] G;exists a3X;refine ax4 o hd hc ?_;symm;exact alA (λe=>yS.here (h0 e)) λe=>bB.here (h1 (by simpa using e))
structure OkB(x y:Nat)(a p:Int):Prop where
 a0:0<=a
 a1:a<x
 p0:1<=p
 p1:p<=y
def a0W(hl:0<=l/\l<=999)(h:R .non G):cT K A [.int l,.int 1000] G R EX:=amJ rfl (λe=>by simp[isW]at e;omega) λ_=>h
def a5Z(hl:1<=l/\l<=1000000)(h:R .non G):bW K A [.int l] G R EX:=acR rfl (λe=>by simp[isW]at e;omega) λ_=>h
def tY{y g:Nat}(o:OkP x y g){p:Int}(b:OkB x y a p)(h:R .non G):bN K A [plD x y g,.tup [.int a,.int p]] G R EX:=by
 obtain⟨b1,b2,b3,b4⟩:=b;refine amK o awF (λx y e=>by cases e;exact⟨rfl,rfl⟩) (λe=>?_) λ_=>h;rw[aJ4]at e;simp at e;omega
def a65{i v:Int}:∀{ps:List (Int×Int)},(aL ps i).isSome=ak->aL (ps.map λkv=>if kv.1=i then(kv.1,v)else kv) i=aj v
 |[],h=>by cases h
 |z::ps,h=>by
  rw[iz];by_cases c:z.1=i
  .rw[if_pos c];unfold aL;rw[if_pos c]
  .rw[if_neg c];unfold aL at h ⊢;rw[if_neg c]at h ⊢;exact a65 h
def aeN{i v:Int}:∀{ps:List (Int×Int)},aL ps i=au->aL (ps++[(i,v)]) i=aj v
 |[],_=>by show(if i=i then aj v else au)=_;rw[if_pos rfl]
 |z::ps,h=>by
  rw[a1s];unfold aL at h ⊢;by_cases c:z.1=i
  .rw[if_pos c]at h;cases h
  .rw[if_neg c]at h ⊢;exact aeN h
private theorem abB{i v:Int}:aL (cP ps i v) i=aj v:=by
 unfold cP;split
 ·rename_i h;exact a65 h
 .rename_i h;exact aeN (by simpa using h)
def aCJ{ps:List (Int×Int)}{i v:Int}:(cP ps i v).length<=ps.length+1:=by
 unfold cP;split
 ·rw[gk];omega
 .rw[wz];exact dz _
def ax5{i v:Int}:cP ps i v≠[]:=λe=>by
 have:=abB (ps:=ps) (i:=i) (v:=v);rw[e]at this;cases this
def ajU{p:Int}{ps:List (Int×Int)}(he:G e=aj (.cF ao (ps.map rK)))(hl:ps.length<1000)
  (h1:(aL ps lot).getD 0+more≠0->∀G',G' e=aj (.cF ao ((cP ps lot ((aL ps lot).getD 0+more)).map rK))->(∀q u,q≠e->G q=aj u->G' q=aj u)->F.nx [aj (.ref st),aj (.tup [.int a,.int p]),aj (.int lot),aj (.int more),aj (.ref e)] G')
  (h2:(aL ps lot).getD 0+more=0->∀G',G' e=aj (.cF ao ((bT (cP ps lot 0) lot).map rK))->(∀q u,q≠e->G q=aj u->G' q=aj u)->yD K A ex F [aj (.ref st),aj (.tup [.int a,.int p]),aj (.int lot),aj (.int more),aj (.ref e)] G') :
  a3Y K A ex F [aj (.ref st),aj (.tup [.int a,.int p]),aj (.int lot),aj (.int more),aj (.ref e)] G:=by
 have big:10000<dh:=by decide
 exists a3Y,lH he;rw[pQ he tD rfl]
 have eg:(aL (ps.map rK) (.inl (.inl lot))).getD (.int 0)=.int ((aL ps lot).getD 0):=by
  rw[uI];cases aL ps lot<;>rfl
 rw[eg];generalize hv:(aL ps lot).getD 0+more=v at h1 h2;symm;rw[hv,ap3 he tD rfl (by rw[gk];omega),ap1];generalize hG1:aH G e _=G1;have e1:G1 e=aj (.cF ao ((cP ps lot v).map rK)):=by rw[←hG1,aD]
 have k1:∀q u,q≠e->G q=aj u->G1 q=aj u:=λq u n z=>by rw[←hG1,aW n];exact z
 have lp:=aCJ (ps:=ps) (i:=lot) (v:=v);exists ab0,lH e1;rw[a5O e1 tD rfl (by rw[uI,abB];rfl)];symm;by_cases c:v=0
 .rw[if_pos (by rw[c];rfl)];rw[ap2 e1 tD rfl (by rw[uI,abB];rfl),awQ];refine⟨by rw[lH e1];trivial,?_⟩;refine h2 c (aH G1 e (.cF ao ((bT (cP ps lot v) lot).map rK))) (by rw[aD,c]) λq u n z=>?_;rw[aW n];exact k1 q u n z
 .rw[if_neg (by simpa using c)];exists yD;rw[ap0 e1];symm;rw[if_neg]
  .exact h1 c G1 e1 k1
  .simpa using ax5 (ps:=ps) (i:=lot) (v:=v)
def agC{p:Int}(hs:G st=aj (.cF ak (M.map ktD)))(hl:M.length<1000)(hk:aL M (ky a p)=au)(hm:more≠0)
  (h:∀e G',G e=au->G' st=aj (.cF ak ((M++[(ky a p,e)]).map ktD))->G' e=aj (.cF ao ([(lot,more)].map rK))->(∀q u,q≠st->G q=aj u->G' q=aj u)->R .non G'):eU K A [.ref st,.tup [.int a,.int p],.int lot,.int more] G R EX:=by
 have big:10000<dh:=by decide
 refine⟨rfl,?_⟩;have h':∀e G',G e=au->G' st=aj (.cF ak ((M++[(ky a p,e)]).map ktD))->G' e=aj (.cF ao ([(lot,more)].map rK))->(∀q u,q≠st->G q=aj u->G' q=aj u)->bB R .non G':=λe G' a b c d=>bB.here (h e G' a b c d);clear h;show a0E K A _ _ [aj (.ref st),aj (.tup [.int a,.int p]),aj (.int lot),aj (.int more),au] G;exists a0E,lH hs;intro e he;have ne:e≠st:=λz=>by rw[z,hs]at he;cases he
 have hs1:aH G e (.cF ao []) st=aj (.cF ak (M.map ktD)):=fL hs he;rw[aCD hs1 rN rfl (by rw[gk];omega) (by rw[rO,hk];rfl)];generalize hG1:aH (aH G e (.cF ao [])) st _=G1;have e1:G1 e=aj (.cF ao (([]:List (Int×Int)).map rK)):=by rw[←hG1,aW ne,aD];rfl
 have s1:G1 st=aj (.cF ak ((M++[(ky a p,e)]).map ktD)):=by rw[←hG1,aD,ql];rfl
 have k1:∀q u,q≠st->G q=aj u->G1 q=aj u:=λq u n z=>by
  rw[←hG1,aW n];exact fL z he
 refine ajU e1 (by simp) (λ_ G2 e2 k2=>?_) λz=>?_
 .refine h' e G2 he (k2 _ _ (Ne.symm ne) s1) (by rw[e2];show aj (GO.cF ao ([(lot,0+more)].map rK))=_;rw[Int.zero_add]) λq u n z=>k2 q u (λw=>by rw[w,he]at z;cases z) (k1 q u n z)
 .exact absurd z (by show(0:Int)+more≠0;rw[Int.zero_add];exact hm)
def agD{ps:List (Int×Int)}{p:Int}(hs:G st=aj (.cF ak (M.map ktD)))(hl:M.length<1000)(hk:aL M (ky a p)=aj d)(hd:G d=aj (.cF ao (ps.map rK)))(hp:ps.length<1000)
  (h1:(aL ps lot).getD 0+more≠0->∀G',G' d=aj (.cF ao ((cP ps lot ((aL ps lot).getD 0+more)).map rK))->(∀q u,q≠d->G q=aj u->G' q=aj u)->R .non G')
  (h2:(aL ps lot).getD 0+more=0->bT (cP ps lot 0) lot=[]->∀G',G' st=aj (.cF ak ((bT M (ky a p)).map ktD))->(∀q u,q≠d->q≠st->G q=aj u->G' q=aj u)->R .non G')
  (h3:(aL ps lot).getD 0+more=0->bT (cP ps lot 0) lot≠[]->∀G',G' d=aj (.cF ao ((bT (cP ps lot 0) lot).map rK))->(∀q u,q≠d->G q=aj u->G' q=aj u)->R .non G'):eU K A [.ref st,.tup [.int a,.int p],.int lot,.int more] G R EX:=by
 have big:10000<dh:=by decide
 refine⟨rfl,?_⟩;show a0E K A _ _ [aj (.ref st),aj (.tup [.int a,.int p]),aj (.int lot),aj (.int more),au] G;exists a0E,lH hs;intro e he;have ne:st≠d:=λz=>by rw[z,hd]at hs;cases hs
 have hs1:aH G e (.cF ao []) st=aj (.cF ak (M.map ktD)):=fL hs he;have hd1:aH G e (.cF ao []) d=aj (.cF ao (ps.map rK)):=fL hd he;rw[aCE hs1 rN rfl (by rw[gk];omega) (by rw[rO,hk];rfl)];refine ajU hd1 hp (λc G2 e2 k2=>bB.here (h1 c G2 e2 λq u n z=>k2 q u n (fL z he))) λc G2 e2 k2=>?_;exists yD;rw[ap0 e2];symm;by_cases c2:bT (cP ps lot 0) lot=[]
 .rw[c2,if_pos (by simp)];have s2:=k2 _ _ ne hs1;exists lH s2;rw[ap2 s2 rN rfl (by rw[rO,hk];rfl),awR];refine bB.here (h2 c c2 _ aD λq u n n2 z=>?_);rw[aW n2];exact k2 q u n (fL z he)
 .rw[if_neg]
  .exact bB.here (h3 c c2 G2 e2 λq u n z=>k2 q u n (fL z he))
  .have:=List.length_pos_iff.mpr c2;simp;omega
@[simp]def shG(A:bC)(x y g:Nat)(room:Int)(st:bw):GO:=.ins A.aC [("layout",plD x y g),("room",.int room),("stacks",.ref st)]
abbrev cZ(M:List (List Key×bw))(c:bw->List (Int×Int))(k:List Key):List (Int×Int):=match aL M k with
 |some d=>c d
 |none=>[]
structure SH(A:bC)(sh:bw)(x y g:Nat)(room:Int)(st:bw)(M:List (List Key×bw))(c:bw->List (Int×Int))(G:Gp):Prop where
 o:OkP x y g
 sh:G sh=aj (shG A x y g room st)
 st:G st=aj (.cF ak (M.map ktD))
 ins:∀z∈M,G z.2=aj (.cF ao ((c z.2).map rK))
def SH.le{y g:Nat}(s:SH A sh x y g room st M c G)(l:Le G G'):SH A sh x y g room st M c G':=⟨s.o,l _ _ s.sh,l _ _ s.st,λz hz=>l _ _ (s.ins z hz)⟩
def SH.get{F:D->Gp->Prop}{y g:Nat}(s:SH A sh x y g room st M c G){p:Int}(h:∀d G',Le G G'->G' d=aj (.cF ao ((cZ M c (ky a p)).map rK))->F (.ref d) G'):∀e,G e=au->wC (.ref st) (.tup [.int a,.int p]) (aH G e (.cF ao [])) λ_ _ kvs k=>F ((aL kvs k).getD (.ref e)) (aH G e (.cF ao [])):=by
 intro e he;have l:Le G (aH G e (.cF ao [])):=.new he;rw[pQ (l _ _ s.st) rN rfl,rO];unfold cZ at h;cases hv:aL M (ky a p)with
 |none=>rw[hv]at h;exact h e _ l aD
 |some d=>rw[hv]at h;exact h d _ l (l _ _ (s.ins _ (aiI hv)))
def ajV{y g:Nat}(s:SH A sh x y g room st M c G){p:Int}(hl:0<=lot/\lot<=999)(b:OkB x y a p)(h:∀G',Le G G'->R (.int ((aL (cZ M c (ky a p)) lot).getD 0)) G'):dO K A [.ref sh,.int lot,.tup [.int a,.int p]] G R EX:=by
 refine⟨rfl,?_⟩;have h':∀G',Le G G'->bB R (.int ((aL (cZ M c (ky a p)) lot).getD 0)) G':=λG' l=>bB.here (h G' l);clear h;show o8 K A _ _ [aj (.ref sh),aj (.int lot),aj (.tup [.int a,.int p])] G;exists o8;refine a0W hl ?_;exists tH;rw[iH s.sh rfl];symm;refine tY s.o b ?_;exists tG;rw[iH s.sh rfl];exists lH s.st;refine s.get (F:=λd G'=>vJ d G'/\wC d (.int lot) G' λ_ _ kvs k=>bB R ((aL kvs k).getD (.int 0)) G') λd G1 l e1=>⟨by rw[lH e1];trivial,?_⟩;rw[pQ e1 tD rfl,uI];have eg:((aL (cZ M c (ky a p)) lot).map D.int).getD (.int 0)=.int ((aL (cZ M c (ky a p)) lot).getD 0):=by cases aL (cZ M c (ky a p)) lot<;>rfl
 rw[eg];exact h' G1 l
def ajW{y g:Nat}(s:SH A sh x y g room st M c G){p:Int}(b:OkB x y a p)(h:∀G',Le G G'->R (.int ((cZ M c (ky a p)).map (·.2)).sum) G'):dN K A [.ref sh,.tup [.int a,.int p]] G R EX:=by
 refine⟨rfl,?_⟩;have h':∀G',Le G G'->bB R (.int ((cZ M c (ky a p)).map (·.2)).sum) G':=λG' l=>bB.here (h G' l);clear h;show o7 K A _ _ [aj (.ref sh),aj (.tup [.int a,.int p])] G;exists o7;rw[iH s.sh rfl];symm;refine tY s.o b ?_;exists tE;rw[iH s.sh rfl];exists lH s.st;refine s.get (F:=λd G'=>a04 d G' (bB R)) λd G1 l e1=>?_;exact aCF e1 (h' G1 l)
def a8D{y g:Nat}(s:SH A sh x y g room st M c G){p:Int}(b:OkB x y a p)(h0:room<((cZ M c (ky a p)).map (·.2)).sum+am->EX A.cA G)(h1:((cZ M c (ky a p)).map (·.2)).sum+am<=room->∀G',Le G G'->R .non G'):cU K A [.ref sh,.tup [.int a,.int p],.int am] G R EX:=by
 refine⟨rfl,?_⟩;show lB K A _ _ [aj (.ref sh),aj (.tup [.int a,.int p]),aj (.int am)] G;exists lB,fO s.sh (m:="filled") rfl;refine ajW s b λG1 l=>?_;generalize ((cZ M c (ky a p)).map (·.2)).sum=f at *;symm;rw[iH (l _ _ s.sh) rfl];symm;refine ag2 (λe=>?_) λe=>?_
 .exact⟨G,l,h0 (by simpa using e)⟩
 .exact bB.here (h1 (by simpa using e) G1 l)
def a66{y g:Nat}(s:SH A sh x y g room st M c G){p:Int}(hl:0<=lot/\lot<=999)(b:OkB x y a p)(h0:(aL (cZ M c (ky a p)) lot).getD 0<am->EX A.bD G)(h1:am<=(aL (cZ M c (ky a p)) lot).getD 0->∀G',Le G G'->R .non G'):cG K A [.ref sh,.int lot,.tup [.int a,.int p],.int am] G R EX:=by
 refine⟨rfl,?_⟩;show jM K A _ _ [aj (.ref sh),aj (.int lot),aj (.tup [.int a,.int p]),aj (.int am)] G;exists jM,fO s.sh (m:="amount") rfl;refine ajV s hl b λG1 l=>?_;generalize (aL (cZ M c (ky a p)) lot).getD 0=f at *;symm;refine ag2 (λe=>?_) λe=>?_
 .exact⟨G,l,h0 (by simpa using e)⟩
 .exact bB.here (h1 (by simpa using e) G1 l)
def aO7{y g:Nat}(s:SH A sh x y g room st M c G){p:Int}(hl:0<=lot/\lot<=999)(b:OkB x y a p)(ha:1<=am/\am<=1000000)(h0:room<((cZ M c (ky a p)).map (·.2)).sum+am->EX A.cA G)
  (h1:((cZ M c (ky a p)).map (·.2)).sum+am<=room->∀(G1:Gp)(R':iB)(EX':aZ),Le G G1->(∀G2,R .non G2->R' .non G2)->eU K A [.ref st,.tup [.int a,.int p],.int lot,.int am] G1 R' EX'):jL K A [.ref sh,.int lot,.tup [.int a,.int p],.int am] G R EX:=by
 refine⟨rfl,?_⟩;show vM K A _ _ [aj (.ref sh),aj (.int lot),aj (.tup [.int a,.int p]),aj (.int am)] G;exists vM;refine a0W hl ?_;exists z6;rw[iH s.sh rfl];symm;refine tY s.o b ?_;exists yZ;refine a5Z ha ?_;exists yX,fO s.sh (m:="need_room") rfl;refine a8D s b (λe=>yS.here (h0 e)) λe G1 l=>?_;exists yW;rw[iH (l _ _ s.sh) rfl];symm;exact h1 e G1 _ _ l λG2 z=>bB.here z
def aJ5{y g:Nat}(s:SH A sh x y g room st M c G){p:Int}(hl:0<=lot/\lot<=999)(b:OkB x y a p)(ha:1<=am/\am<=1000000)(h0:(aL (cZ M c (ky a p)) lot).getD 0<am->EX A.bD G)
  (h1:am<=(aL (cZ M c (ky a p)) lot).getD 0->∀(G1:Gp)(R':iB)(EX':aZ),Le G G1->(∀G2,R .non G2->R' .non G2)->eU K A [.ref st,.tup [.int a,.int p],.int lot,.int (-am)] G1 R' EX'):j6 K A [.ref sh,.int lot,.tup [.int a,.int p],.int am] G R EX:=by
 refine⟨rfl,?_⟩;show tK K A _ _ [aj (.ref sh),aj (.int lot),aj (.tup [.int a,.int p]),aj (.int am)] G;exists tK;refine a0W hl ?_;exists wR;rw[iH s.sh rfl];symm;refine tY s.o b ?_;exists wQ;refine a5Z ha ?_;exists wO,fO s.sh (m:="need_there") rfl;refine a66 s hl b (λe=>yS.here (h0 e)) λe G1 l=>?_;exists wM;rw[iH (l _ _ s.sh) rfl];symm;exact h1 e G1 _ _ l λG2 z=>bB.here z
abbrev bR(ps:List (Int×Int))(l:Int):Int:=(aL ps l).getD 0
abbrev u9(ps:List (Int×Int)):Int:=(ps.map (·.2)).sum
def tZ:bR [] l=0:=rfl
def dF{q:Int×Int}:bR (q::ps) l=if q.1=l then q.2 else bR ps l:=by
 unfold bR;rw[aL];split<;>rfl
def gA{q:Int×Int}:u9 (q::ps)=q.2+u9 ps:=by simp[u9]
def aCK:u9 (ps++qs)=u9 ps+u9 qs:=by simp[u9]
def lR{κ α:Type}[DecidableEq κ]{k:κ}:∀{l:List (κ×α)},aL l k=au↔k∉l.map (·.1)
 |[]=>by simp[aL]
 |z::r=>by
  rw[aL];by_cases c:z.1=k
  .simp[c]
  .have:¬ k=z.1:=λe=>c e.symm;simp[c,this,lR (l:=r)]
def nC{κ α:Type}[DecidableEq κ]{z:κ×α}:∀{l:List (κ×α)},(l.map (·.1)).Nodup->z∈l->aL l z.1=aj z.2
 |[],_,h=>by cases h
 |y::r,nd,h=>by
  rw[iz,wj]at nd;rw[aL];rcases jd.mp h with e|h
  .rw[if_pos (by rw[e]),e]
  .rw[if_neg (λc=>nd.1 (by rw[c];exact ig.mpr ⟨z,h,rfl⟩))];exact nC nd.2 h
private theorem kZ{κ α:Type}[DecidableEq κ]{k:κ}{v:α}:∀{l:List (κ×α)},aL l k=aj v->(k,v)∈l
 |[],h=>by cases h
 |z::r,h=>by
  rw[aL]at h;split at h
  .rename_i c;cases h;rw[←c];exact .head _
  .exact ou _ (kZ h)
def map_put{ps:List (Int×Int)}{w:Int}(nd:(ps.map (·.1)).Nodup):(∀l',bR (ps.map λkv=>if kv.1=l then(kv.1,w)else kv) l'=if l'=l/\l∈ps.map (·.1)then w else bR ps l')/\u9 (ps.map λkv=>if kv.1=l then(kv.1,w)else kv)=u9 ps+(if l∈ps.map (·.1)then w - bR ps l else 0):=by
 induction ps with
 |nil=>exact⟨λl'=>by simp[tZ],by simp[u9]⟩
 |cons q r ih =>
  rw[iz,wj]at nd;obtain⟨i1,i2⟩:=ih nd.2;by_cases c:q.1=l
  .have nl:l∉r.map (·.1):=c ▸ nd.1
   have er:(r.map λkv=>if kv.1=l then(kv.1,w)else kv)=r:=by
    conv=>rhs;rw[←List.map_id r]
    refine vg λz hz=>?_;rw[if_neg (λe=>nl (by rw[←e];exact ig.mpr ⟨z,hz,rfl⟩))];rfl
   refine⟨λl'=>?_,?_⟩
   .rw[iz,er,dF,dF,if_pos c];by_cases e:l'=l
    .subst e;simp[c]
    .have:¬ l=l':=λz=>e z.symm;simp[c,e,this]
   .rw[iz,er,gA,gA,if_pos c,dF,if_pos c];simp[c];omega
  .refine⟨λl'=>?_,?_⟩
   .rw[iz,if_neg c,dF,dF,i1];by_cases e:q.1=l'
    .subst e;simp[c]
    .have:¬ l=q.1:=λz=>c z.symm;rw[if_neg e,if_neg e];simp only[iz,jd,this,false_or]
   .rw[iz,if_neg c,gA,gA,i2,dF,if_neg c];have:¬ l=q.1:=λz=>c z.symm;simp only[iz,jd,this,false_or];omega
def ajX{ps:List (Int×Int)}(h:l∉ps.map (·.1)):bR ps l=0:=by unfold bR;rw[lR.mpr h];rfl
private theorem agE{ps:List (Int×Int)}{w:Int}(nd:(ps.map (·.1)).Nodup):(∀l',bR (cP ps l w) l'=if l'=l then w else bR ps l')/\u9 (cP ps l w)=u9 ps+w - bR ps l/\((cP ps l w).map (·.1)).Nodup/\(∀q∈cP ps l w,q∈ps∨q=(l,w))/\(cP ps l w).length<=ps.length+1:=by
 have key:(aL ps l).isSome=ak↔l∈ps.map (·.1):=by
  cases q:aL ps l with
  |none=>simp only[Option.isSome_none,qe,false_iff];exact lR.mp q
  |some v=>simp only[Option.isSome_some,true_iff];exact ig.mpr ⟨_,kZ q,rfl⟩
 unfold cP;split
 ·rename_i h;have hm:=key.mp h;obtain⟨m1,m2⟩:=map_put (w:=w) (l:=l) nd;refine⟨λl'=>by rw[m1];simp only[hm,and_true],by rw[m2,if_pos hm];omega,?_,λq hq=>?_,by simp⟩
  .have:(ps.map λkv=>if kv.1=l then(kv.1,w)else kv).map (·.1)=ps.map (·.1):=by
    rw[kh];refine vg λz _=>?_;simp only[Function.comp];split<;>rfl
   rw[this];exact nd
  .obtain⟨z,hz,rfl⟩:=ig.mp hq;split
   ·rename_i c;exact .inr (by rw[c])
   .exact .inl hz
 .rename_i h;have hm:l∉ps.map (·.1):=λz=>h (key.mpr z);refine⟨λl'=>?_,by rw[aCK,ajX hm];simp[u9],?_,λq hq=>?_,by simp⟩
  .have:∀qs:List (Int×Int),l∉qs.map (·.1)->bR (qs++[(l,w)]) l'=if l'=l then w else bR qs l':=by
    intro qs
    induction qs with
    |nil =>
     intro _;rw[List.nil_append,dF];by_cases e:l'=l
     .subst e;simp
     .have:¬ l=l':=λz=>e z.symm;simp[e,this]
    |cons q r ih =>
     intro hn;simp only[iz,jd,not_or]at hn;rw[a1s,dF,dF,ih hn.2];by_cases e:q.1=l'
     .subst e;have:¬ q.1=l:=λz=>hn.1 z.symm;simp[this]
     .simp[e]
   exact this ps hm
  .rw[ql,vo];refine⟨nd,by simp,λa ha b hb e=>?_⟩;simp at hb;exact hm (by rw[←hb,←e];exact ha)
  .rcases uo.mp hq with hq|hq
   .exact .inl hq
   .exact .inr (qj.mp hq)
def ajY{ps:List (Int×Int)}(nd:(ps.map (·.1)).Nodup):(∀l',bR (bT ps l) l'=if l'=l then 0 else bR ps l')/\u9 (bT ps l)=u9 ps - bR ps l/\((bT ps l).map (·.1)).Nodup/\(∀q∈bT ps l,q∈ps/\q.1≠l)/\(bT ps l).length<=ps.length:=by
 have sub:∀q∈bT ps l,q∈ps/\q.1≠l:=λq hq=>by
  obtain⟨a,b⟩:=nj.mp hq;exact⟨a,by simpa using b⟩
 have both:(∀l',bR (bT ps l) l'=if l'=l then 0 else bR ps l')/\u9 (bT ps l)=u9 ps - bR ps l:=by
  clear sub
  induction ps with
  |nil=>exact⟨λl'=>by simp[bT,tZ],by simp[bT,u9,tZ]⟩
  |cons q r ih =>
   rw[iz,wj]at nd;obtain⟨i1,i2⟩:=ih nd.2;by_cases c:q.1=l
   .have e:bT (q::r) l=bT r l:=by simp[bT,c]
    have nl:l∉r.map (·.1):=c ▸ nd.1;refine⟨λl'=>?_,?_⟩
    .rw[e,i1,dF];by_cases z:l'=l
     .simp[z]
     .have:¬ l=l':=λw=>z w.symm;simp[z,c,this]
    .rw[e,i2,gA,dF,if_pos c,ajX nl];omega
   .have e:bT (q::r) l=q::bT r l:=by simp[bT,c]
    refine⟨λl'=>?_,?_⟩
    .rw[e,dF,dF,i1];by_cases z:q.1=l'
     .subst z;simp[c]
     .simp[z]
    .rw[e,gA,gA,i2,dF,if_neg c];omega
 refine⟨both.1,both.2,?_,sub,yq _ _⟩;exact nd.sublist ((a1u).map _)
def a67(h:∀q∈ps,1<=q.2):0<=bR ps l:=by
 unfold bR;cases q:aL ps l with
 |none=>exact a1t _
 |some v=>have:=h _ (kZ q);simp only at this;show 0<=v;omega
structure Bin(room:Int)(ps:List (Int×Int)):Prop where
 ne:ps≠[]
 nd:(ps.map (·.1)).Nodup
 pos:∀q∈ps,1<=q.2
 sm:u9 ps<=room
structure Shv(room:Int)(n:Nat)(M:List (List Key×bw))(c:bw->List (Int×Int)):Prop where
 kn:(M.map (·.1)).Nodup
 an:(M.map (·.2)).Nodup
 bn:∀z∈M,Bin room (c z.2)/\(c z.2).length<=n
 ks:∀z∈M,∃a p:Int,z.1=ky a p
 len:M.length<=n
def Shv.nil:Shv room 0 [] c:=⟨by simp,by simp,(λz hz=>by cases hz),(λz hz=>by cases hz),by simp⟩
def Shv.up{m:Nat}(h:Shv room n M c)(l:n<=m):Shv room m M c:=⟨h.kn,h.an,λz hz=>⟨(h.bn z hz).1,qu (h.bn z hz).2 l⟩,h.ks,qu h.len l⟩
abbrev setC(c:bw->List (Int×Int))(d:bw)(ps:List (Int×Int)):bw->List (Int×Int):=λq=>if q=d then ps else c q
def oN:setC c d ps d=ps:=if_pos rfl
def yG(h:q≠d):setC c d ps q=c q:=if_neg h
variable{sh:bw}{x y g:Nat}{room:Int}{st:bw}{M:List (List Key×bw)}{c:bw->List (Int×Int)}
def apE{k:List Key}(n:k≠k'):∀{M:List (List Key×bw)},aL (M++[(k',e)]) k=aL M k
 |[]=>by
  show(if k'=k then aj e else au)=au;rw[if_neg (Ne.symm n)]
 |z::r=>by
  rw[a1s,aL,aL,apE n]
def abC{k:List Key}(n:k≠k'):∀{M:List (List Key×bw)},aL (bT M k') k=aL M k
 |[]=>rfl
 |z::r=>by
  by_cases e:z.1=k'
  .have er:bT (z::r) k'=bT r k':=by simp[bT,e]
   rw[er,abC n,aL,if_neg (by rw[e];exact Ne.symm n)]
  .have er:bT (z::r) k'=z::bT r k':=by simp[bT,e]
   rw[er,aL,aL,abC n]
def agF{z y:List Key×bw}:∀{M:List (List Key×bw)},(M.map (·.2)).Nodup->z∈M->y∈M->z.2=y.2->z=y
 |[],_,h,_,_=>by cases h
 |w::r,nd,h1,h2,e=>by
  rw[iz,wj]at nd;rcases jd.mp h1 with a|a<;>rcases jd.mp h2 with b|b
  .rw[a,b]
  .exact absurd (by rw[←a,e];exact ig.mpr ⟨_,b,rfl⟩) nd.1
  .exact absurd (by rw[←b,←e];exact ig.mpr ⟨_,a,rfl⟩) nd.1
  .exact agF nd.2 a b e
abbrev Kp(st:bw)(M M':List (List Key×bw))(G G':Gp):Prop:=(∀q u,q≠st->q∉M.map (·.2)->G q=aj u->G' q=aj u)/\∀q∈M'.map (·.2),q∈M.map (·.2)∨G q=au
def Kp.trans{M1 M2:List (List Key×bw)}(h:Kp st M M1 G G1)(h2:Kp st M1 M2 G1 G2)(hs:G1 st≠au):Kp st M M2 G G2:=by
 refine⟨λq u n1 n2 e=>?_,λq hq=>?_⟩
 .refine h2.1 q u n1 (λz=>?_) (h.1 q u n1 n2 e);rcases h.2 q z with z|z
  .exact n2 z
  .rw[z]at e;cases e
 .rcases h2.2 q hq with z|z
  .exact h.2 q z
  .by_cases c:q∈M.map (·.2)
   .exact .inl c
   .right;cases e:G q with
    |none=>rfl
    |some u =>
     have n1:q≠st:=λw=>hs (w ▸ z);have:=h.1 q u n1 c e;rw[z]at this;cases this
def Kp.le{M1:List (List Key×bw)}(l:Le G0 G)(h:Kp st M M1 G G1):Kp st M M1 G0 G1:=⟨λq u n1 n2 e=>h.1 q u n1 n2 (l _ _ e),λq hq=>by
 rcases h.2 q hq with z|z
 .exact .inl z
 .right;cases e:G0 q with
  |none=>rfl
  |some u=>rw[l _ _ e]at z;cases z⟩
def amM{z:List Key×bw}(kn:(M.map (·.1)).Nodup)(h:z∈M):cZ M c z.1=c z.2:=by
 unfold cZ;rw[nC kn h]
def pK{k:List Key}(hr:0<=room)(v:Shv room n M c):((cZ M c k).map (·.1)).Nodup/\(∀q∈cZ M c k,1<=q.2)/\u9 (cZ M c k)<=room/\(cZ M c k).length<=n:=by
 unfold cZ;cases e:aL M k with
 |none=>exact⟨a0u,(λq hq=>by cases hq),hr,ur _⟩
 |some d =>
  obtain⟨b,l⟩:=v.bn _ (kZ e);exact⟨b.nd,b.pos,b.sm,l⟩
def aJ6(v:Int):bR [(lot,v)] l=if l=lot then v else 0:=by
 rw[dF];by_cases e:l=lot
 .rw[if_pos e.symm,if_pos e]
 .rw[if_neg (Ne.symm e),if_neg e];rfl
abbrev Chg(M:List (List Key×bw))(c:bw->List (Int×Int))(M':List (List Key×bw))(c':bw->List (Int×Int))(k:List Key)(lot more:Int):Prop:=(∀l,bR (cZ M' c' k) l=bR (cZ M c k) l+if l=lot then more else 0)/\u9 (cZ M' c' k)=u9 (cZ M c k)+more
def apF(s:SH A sh x y g room st M c G)(v:Shv room n M c){k:List Key}(hk:aL M k=aj d){ps:List (Int×Int)}(b:Bin room ps)(hl:ps.length<=n+1)(hv:∀l,bR ps l=bR (c d) l+if l=lot then more else 0)(hsm:u9 ps=u9 (c d)+more)(e:G' d=aj (.cF ao (ps.map rK)))(hk2:∀q u,q≠d->G q=aj u->G' q=aj u) :
  SH A sh x y g room st M (setC c d ps) G'/\Shv room (n+1) M (setC c d ps)/\Chg M c M (setC c d ps) k lot more/\(∀k',k'≠k->cZ M (setC c d ps) k'=cZ M c k')/\Kp st M M G G':=by
 have hm:=kZ hk;have hd:=s.ins _ hm;have ne:sh≠d:=λz=>by have:=s.sh;rw[z,hd]at this;cases this
 have ne2:st≠d:=λz=>by have:=s.st;rw[z,hd]at this;cases this
 refine⟨⟨s.o,hk2 _ _ ne s.sh,hk2 _ _ ne2 s.st,λz hz=>?_⟩,⟨v.kn,v.an,λz hz=>?_,v.ks,a0o v.len⟩,?_,λk' n'=>?_,λq u n1 n2 w=>hk2 q u (λz=>n2 (by rw[z];exact ig.mpr ⟨_,hm,rfl⟩)) w,λq hq=>.inl hq⟩
 .by_cases w:z.2=d
  .rw[w,oN];exact e
  .rw[yG w];exact hk2 _ _ w (s.ins z hz)
 .by_cases w:z.2=d
  .rw[w,oN];exact⟨b,hl⟩
  .rw[yG w];exact⟨(v.bn z hz).1,a0o (v.bn z hz).2⟩
 .have e1:cZ M c k=c d:=by unfold cZ;rw[hk]
  have e2:cZ M (setC c d ps) k=ps:=by unfold cZ;rw[hk];exact oN
  unfold Chg;rw[e1,e2];exact⟨hv,hsm⟩
 .unfold cZ;cases e':aL M k' with
  |none=>rfl
  |some d' =>
   have:d'≠d:=λw=>n' (by have:=agF v.an (kZ e') hm w;exact congrArg (·.1) this);exact yG this
def apG(s:SH A sh x y g room st M c G)(v:Shv room n M c)(hn:n<900){p:Int}(hm:more≠0)(h0:0<=bR (cZ M c (ky a p)) lot+more)(hr:u9 (cZ M c (ky a p))+more<=room)
  (h:∀M' c' G',SH A sh x y g room st M' c' G'->Shv room (n+1) M' c'->Chg M c M' c' (ky a p) lot more->(∀k',k'≠ky a p->cZ M' c' k'=cZ M c k')->Kp st M M' G G'->R .non G'):eU K A [.ref st,.tup [.int a,.int p],.int lot,.int more] G R EX:=by
 have ne3:sh≠st:=λz=>by have:=s.sh;rw[z,s.st]at this;cases this
 have nst:∀z∈M,z.2≠st:=λz hz w=>by have:=s.ins z hz;rw[w,s.st]at this;cases this
 cases hk:aL M (ky a p)with
 |none =>
  have eh:cZ M c (ky a p)=[]:=by unfold cZ;rw[hk]
  rw[eh]at h0 hr;have h0':0<=more:=by simpa[tZ]using h0
  have hr':more<=room:=by simpa[u9]using hr
  refine agC s.st (by have:=v.len;omega) hk hm λe G' he s2 d2 k2=>?_;have nin:∀z∈M,z.2≠e:=λz hz w=>by have:=s.ins z hz;rw[w,he]at this;cases this
  have nm:e∉M.map (·.2):=λw=>by obtain⟨z,hz,w⟩:=ig.mp w;exact nin z hz w
  refine h (M++[(ky a p,e)]) (setC c e [(lot,more)]) G' ⟨s.o,k2 _ _ ne3 s.sh,s2,λz hz=>?_⟩ ⟨?_,?_,λz hz=>?_,λz hz=>?_,?_⟩ ?_ (λk' n'=>?_) ⟨λq u n1 _ w=>k2 q u n1 w,λq hq=>?_⟩
  .rcases uo.mp hz with hz|hz
   .rw[yG (nin z hz)];exact k2 _ _ (nst z hz) (s.ins z hz)
   .cases qj.mp hz;rw[show setC c e [(lot,more)] (ky a p,e).2=[(lot,more)]from oN];exact d2
  .rw[ql,vo];refine⟨v.kn,by simp,λu hu w hw z=>?_⟩;simp at hw;exact lR.mp hk (by rw[←hw,←z];exact hu)
  .rw[ql,vo];refine⟨v.an,by simp,λu hu w hw z=>?_⟩;simp at hw;exact nm (by rw[←hw,←z];exact hu)
  .rcases uo.mp hz with hz|hz
   .rw[yG (nin z hz)];exact⟨(v.bn z hz).1,a0o (v.bn z hz).2⟩
   .cases qj.mp hz;rw[show setC c e [(lot,more)] (ky a p,e).2=[(lot,more)]from oN];refine⟨⟨by simp,by simp,λq hq=>?_,?_⟩,by simp⟩
    .cases qj.mp hq;show 1<=more;omega
    .rw[gA];show more+0<=room;omega
  .rcases uo.mp hz with hz|hz
   .exact v.ks z hz
   .cases qj.mp hz;exact⟨a,p,rfl⟩
  .have:=v.len;rw[wz];exact Nat.add_le_add_right this 1
  .have e1:aL (M++[(ky a p,e)]) (ky a p)=aj e:=nC (z:=(ky a p,e)) (by
    rw[ql,vo];refine⟨v.kn,by simp,λu hu w hw z=>?_⟩;simp at hw;exact lR.mp hk (by rw[←hw,←z];exact hu)) (by simp)
   have e2:cZ (M++[(ky a p,e)]) (setC c e [(lot,more)]) (ky a p)=[(lot,more)]:=by unfold cZ;rw[e1];exact oN
   unfold Chg;rw[e2,eh];refine⟨λl=>?_,?_⟩
   .rw[aJ6,tZ];omega
   .simp[u9]
  .unfold cZ;rw[apE n'];cases e':aL M k' with
   |none=>rfl
   |some d'=>exact yG (nin _ (kZ e'))
  .rw[ql]at hq;rcases uo.mp hq with hq|hq
   .exact .inl hq
   .simp at hq;rw[hq];exact .inr he
 |some d =>
  have hmm:=kZ hk;have hd:=s.ins _ hmm;obtain⟨b,bl⟩:Bin room (c d)/\(c d).length<=n:=v.bn _ hmm;have eh:cZ M c (ky a p)=c d:=by unfold cZ;rw[hk]
  rw[eh]at h0 hr;have bl':(c d).length<=n:=bl;refine agD s.st (by have:=v.len;omega) hk hd (by show(c d).length<1000;omega) (λw G' e k2=>?_) (λw wd G' e k2=>?_) λw wd G' e k2=>?_
  .obtain⟨q1,q2,q3,q4,q5⟩:=agE (l:=lot) (w:=(aL (c d) lot).getD 0+more) b.nd;have ev:(aL (c d) lot).getD 0=bR (c d) lot:=rfl;have e:G' d=aj (.cF ao ((cP (c d) lot ((aL (c d) lot).getD 0+more)).map rK)):=e;rw[ev]at w e q1 q2 q3 q4 q5
   have hp:∀q∈cP (c d) lot (bR (c d) lot+more),1<=q.2:=λq hq=>by
    rcases q4 q hq with z|z
    .exact b.pos q z
    .rw[z];show 1<=bR (c d) lot+more;omega
   have hv:∀l,bR (cP (c d) lot (bR (c d) lot+more)) l=bR (c d) l+if l=lot then more else 0:=λl=>by
    rw[q1];by_cases z:l=lot
    .rw[if_pos z,if_pos z,z]
    .rw[if_neg z,if_neg z];omega
   obtain⟨z1,z2,z3,z4,z5⟩:=apF s v hk (lot:=lot) (more:=more) ⟨ax5,q3,hp,by rw[q2];omega⟩ (qu q5 (Nat.succ_le_succ bl')) hv (by rw[q2];omega) e k2;exact h _ _ G' z1 z2 z3 z4 z5
  .obtain⟨q1,q2,q3,q4,q5⟩:=agE (l:=lot) (w:=0) b.nd;obtain⟨t1,t2,t3,t4,t5⟩:=ajY (l:=lot) q3;have wd':bT (cP (c d) lot 0) lot=[]:=wd;rw[wd']at t1 t2;have w':bR (c d) lot+more=0:=w
   have hv:∀l,bR (c d) l=-(if l=lot then more else 0:Int):=λl=>by
    have:=t1 l;rw[q1,tZ]at this;by_cases z:l=lot
    .rw[if_pos z,z];omega
    .rw[if_neg z,if_neg z]at this;rw[if_neg z];omega
   have sub:∀z∈bT M (ky a p),z∈M:=λz hz=>(nj.mp hz).1;have sl:List.Sublist (bT M (ky a p)) M:=a1u;refine h (bT M (ky a p)) c G' ⟨s.o,k2 _ _ (λz=>by have:=s.sh;rw[z,hd]at this;cases this) ne3 s.sh,e,λz hz=>?_⟩ ⟨v.kn.sublist (sl.map _),v.an.sublist (sl.map _),λz hz=>⟨(v.bn z (sub z hz)).1,a0o (v.bn z (sub z hz)).2⟩,λz hz=>v.ks z (sub z hz),a0o (qu sl.length_le v.len)⟩ ?_ (λk' n'=>?_) ⟨λq u n1 n2 w=>k2 q u (λz=>n2 (by rw[z];exact ig.mpr ⟨_,hmm,rfl⟩)) n1 w,λq hq=>?_⟩
   .refine k2 _ _ (λw=>?_) (nst z (sub z hz)) (s.ins z (sub z hz));have:=agF v.an (sub z hz) hmm w;have h3:=(nj.mp hz).2;rw[this]at h3;simp at h3
   .have e1:aL (bT M (ky a p)) (ky a p)=au:=lR.mpr λw=>by
     obtain⟨z,hz,w⟩:=ig.mp w;have h3:=(nj.mp hz).2;rw[w]at h3;simp at h3
    have e2:cZ (bT M (ky a p)) c (ky a p)=[]:=by unfold cZ;rw[e1]
    unfold Chg;rw[e2,eh];refine⟨λl=>?_,?_⟩
    .rw[hv,tZ];omega
    .have:u9 []=0:=rfl;rw[q2,q1,if_pos rfl]at t2;omega
   .unfold cZ;rw[abC n']
   .obtain⟨z,hz,rfl⟩:=ig.mp hq;exact .inl (ig.mpr ⟨z,sub z hz,rfl⟩)
  .obtain⟨q1,q2,q3,q4,q5⟩:=agE (l:=lot) (w:=0) b.nd;obtain⟨t1,t2,t3,t4,t5⟩:=ajY (l:=lot) q3;have w':bR (c d) lot+more=0:=w;have v0:=a67 (l:=lot) b.pos
   have hp:∀q∈bT (cP (c d) lot 0) lot,1<=q.2:=λq hq=>by
    obtain⟨m1,m2⟩:=t4 q hq;rcases q4 q m1 with z|z
    .exact b.pos q z
    .exact absurd (by rw[z]) m2
   have hv:∀l,bR (bT (cP (c d) lot 0) lot) l=bR (c d) l+if l=lot then more else 0:=λl=>by
    rw[t1,q1];by_cases z:l=lot
    .rw[if_pos z,if_pos z,z];omega
    .rw[if_neg z,if_neg z,if_neg z];omega
   obtain⟨z1,z2,z3,z4,z5⟩:=apF s v hk (lot:=lot) (more:=more) ⟨wd,t3,hp,by rw[t2,q2,q1,if_pos rfl];omega⟩ (qu t5 (qu q5 (Nat.succ_le_succ bl'))) hv (by rw[t2,q2,q1,if_pos rfl];omega) e k2;exact h _ _ G' z1 z2 z3 z4 z5
def apH{κ α:Type}[DecidableEq κ]{k:κ}{v:α}{l:List (κ×α)}(h:k∉l.map (·.1)):cP l k v=l++[(k,v)]:=by
 unfold cP;rw[lR.mpr h];rfl
def aeO:∀qs:List (Int×Int),a6W (qs.map dR)=aj (qs.map λq=>(.inl q.1,.int q.2))
 |[]=>rfl
 |q::r=>by
  rw[iz,a6W,aeO r];rfl
def fold_all:∀(qs ds:List (Int×Int)),((ds++qs).map (·.1)).Nodup->aaC (ds.map rK) (qs.map λq=>(.inl q.1,.int q.2))=(ds++qs).map rK
 |[],ds,_=>by rw[a1g];rfl
 |q::r,ds,nd=>by
  have hn:q.1∉ds.map (·.1):=λh=>by
   rw[ql,vo]at nd;exact nd.2.2 q.1 h q.1 (by simp) rfl
  show aaC (cP (ds.map rK) (.inl (.inl q.1)) (.int q.2)) (r.map λq=>(.inl q.1,.int q.2))=_;rw[ap1,apH hn,fold_all r (ds++[(q.1,q.2)]) (by rw[List.append_assoc];exact nd),List.append_assoc];rfl
def arV{qs:List (Int×Int)}(h:bH G r=aj (qs.map dR))(nd:(qs.map (·.1)).Nodup):xR [.ref r] G R=∀e,G e=au->R (.ref e) (aH G e (.cF ao (qs.map rK))):=by
 unfold L2.xR;simp only[h,aeO];rw[show aaC [] (qs.map λq=>(.inl q.1,.int q.2))=qs.map rK from fold_all qs [] nd]
@[simp]def kq(q:Int×Int):List Key:=ky q.1 q.2
def apI:∀{M:List (List Key×bw)},(∀z∈M,∃a p:Int,z.1=ky a p)->∃ps:List (Int×Int),M.map (·.1)=ps.map kq
 |[],_=>⟨[],rfl⟩
 |z::r,h=>by
  obtain⟨a,p,e⟩:=h z (.head _);obtain⟨ps,e2⟩:=apI (M:=r) λy hy=>h y (.tail _ hy);exact⟨(a,p)::ps,by rw[iz,iz,e,e2]⟩
def sort_keys(h:G st=aj (.cF ak (M.map ktD)))(kn:(M.map (·.1)).Nodup)(ks:∀z∈M,∃a p:Int,z.1=ky a p)(hl:M.length<64)(k:∀(qs:List (Int×Int))(r:bw),(qs.map kq).Perm (M.map (·.1))->fK qs->G r=au->R (.ref r) (aH G r (.lst (qs.map dR)))):rJ [.ref st] G R:=by
 obtain⟨ps,e⟩:=apI ks;have nd:ps.Nodup:=a1c.of_map kq (λa b h e=>h (by rw[e])) (e ▸ kn);have len:ps.length=M.length:=by have:=congrArg a2h e;simpa using this.symm
 refine aj7 (ps:=ps) h ?_ nd (by omega) λqs p1 p2 r hr=>k qs r (e ▸ p1.map kq) p2 hr;rw[kh,show(λq:DK×D=>dkD q.1)∘ktD=(λks=>dkD (.inr ks))∘(λz:List Key×bw=>z.1)from rfl,←kh,e,kh];rfl
structure Lyg(M:List (List Key×bw))(c:bw->List (Int×Int))(G:Gp)(t:bw)(qs:List (Int×Int))(N:List (List Key×bw))(c':bw->List (Int×Int))(G':Gp):Prop where
 t0:G t=au
 tt:G' t=aj (.cF ak (N.map ktD))
 ri:fK qs
 kq:N.map (·.1)=qs.map kq
 ke:(N.map (·.1)).Perm (M.map (·.1))
 ins:∀z∈N,G' z.2=aj (.cF ao ((c' z.2).map rK))/\(c' z.2).Perm (cZ M c z.1)/\fK (c' z.2)/\G z.2=au
def apJ(s:SH A sh x y g room st M c G)(v:Shv room n M c)(hn:n<64)(h:∀t qs N c' G',Le G G'->Lyg M c G t qs N c' G'->R (.ref t) G'):eV K A [.ref sh] G R EX:=by
 have big:10000<dh:=by decide
 refine⟨rfl,?_⟩;show qN K A _ _ [aj (.ref sh)] G;exists qN;rw[iH s.sh rfl];symm;refine⟨rfl,?_⟩;show a3Z K A _ _ [aj (.ref st),au,au] G;exists a3Z;intro t ht;have l1:Le G (aH G t (.cF ak [])):=.new ht;exists a5Y;refine sort_keys (l1 _ _ s.st) v.kn v.ks (yu v.len hn) λqs r pq ri hr=>?_;have l2:Le (aH G t (.cF ak [])) (aH (aH G t (.cF ak [])) r (.lst (qs.map dR))):=.new hr;have nr:r≠t:=λz=>by rw[z]at hr;rw[aD]at hr;cases hr
 have qn:(qs.map kq).Nodup:=pq.nodup_iff.mpr v.kn;rw[aeC cQ];refine aj0 (λk ρ G'=>bH G' r=aj (qs.map dR)/\∃r2 N c',ρ=[aj (.ref st),aj (.ref t),r2]/\Le G G'/\G' t=aj (.cF ak (N.map ktD))/\N.map (·.1)=(qs.take k).map kq/\∀z∈N,G' z.2=aj (.cF ao ((c' z.2).map rK))/\(c' z.2).Perm (cZ M c z.1)/\fK (c' z.2)/\G z.2=au) ⟨cQ,_,[],c,rfl,l1.trans l2,l2 _ _ aD,rfl,λz hz=>nomatch hz⟩ (λk ρ G' h=>h.1) (λk d' ρ G' hd' hh=>?_) λρ G' hh=>?_
 .obtain⟨hl,r2,N,c',rfl,l3,tt,ek,hi⟩:=hh;obtain⟨q,eq,rfl⟩:=awU hd';obtain⟨a,p⟩:=q;have hm:kq (a,p)∈M.map (·.1):=pq.mem_iff.mp (ig.mpr ⟨_,jz eq,rfl⟩);obtain⟨⟨kk,d⟩,hz,e1⟩:=ig.mp hm;have e1:kk=ky a p:=e1;subst e1;have vd:=nC v.kn hz;have hz':=hz;have hd:=s.ins _ hz;obtain⟨bn,bl⟩:Bin room (c d)/\(c d).length<=n:=v.bn _ hz;exists a3A;rw[show dR (a,p)=.tup [.int a,.int p]from rfl];rw[a5O (l3 _ _ s.st) rN rfl (by rw[rO,vd];rfl)];symm;refine aj6 (ps:=c d) (l3 _ _ hd) (yu bl hn) λps p1 p2 r3 h3=>?_;symm;have lr:Le G' (aH G' r3 (.lst (ps.map dR))):=.new h3;refine(show xR [.ref r3] (aH G' r3 (.lst (ps.map dR))) _ from ?_);rw[arV cQ ((p1.map _).nodup_iff.mpr bn.nd)];intro e he;have le:Le _ (aH (aH G' r3 (.lst (ps.map dR))) e (.cF ao (ps.map rK))):=.new he;symm;have t3:=le _ _ (lr _ _ tt);have ne:e≠t:=λz=>by rw[z]at he;rw[lr _ _ tt]at he;cases he
  have nN:ky a p∉N.map (·.1):=by
   rw[ek];intro w;have nd2:((qs.take (k+1)).map kq).Nodup:=qn.sublist ((List.take_sublist _ _).map _);rw[a2b,eq,ql,vo]at nd2;exact nd2.2.2 _ w _ (by simp) rfl
  have lN:N.length<=k:=by
   have:=congrArg a2h ek;simp at this;omega
  have lk:k<64:=by
   have h1:k<qs.length:=(jk.mp eq).1;have h2:=pq.length_eq;simp at h2;have:=v.len;omega
  rw[ap3 t3 rN rfl (by rw[gk];omega)]
  have ep:cP (N.map ktD) (.inr (ky a p)) (.ref e)=(N++[(ky a p,e)]).map ktD:=by
   rw[apH,ql]
   .rfl
   .intro w;obtain⟨z,hz,e2⟩:=ig.mp w;obtain⟨y,hy,rfl⟩:=ig.mp hz;exact nN (ig.mpr ⟨y,hy,Sum.inr.inj e2⟩)
  rw[ep]
  have ge:∀z∈N,z.2≠e:=λz hz w=>by
   have:=lr _ _ (hi z hz).1;rw[w,he]at this;cases this
  have gt:∀z∈N,z.2≠t:=λz hz w=>by
   have:=(hi z hz).1;rw[w,tt]at this;cases this
  refine⟨?_,_,N++[(ky a p,e)],setC c' e ps,rfl,λq u z=>?_,aD,?_,λz hz=>?_⟩
  .have z:=a1P le (a1P lr hl);unfold L2.bH at z ⊢;rw[aW nr];exact z
  .have nq:q≠t:=λw=>by rw[w,ht]at z;cases z
   rw[aW nq];exact le _ _ (lr _ _ (l3 _ _ z))
  .rw[ql,ek,a2b,eq,ql];rfl
  .rcases uo.mp hz with hz|hz
   .obtain⟨i1,i2,i4,i3⟩:=hi z hz;rw[yG (ge z hz),aW (gt z hz)];exact⟨le _ _ (lr _ _ i1),i2,i4,i3⟩
   .cases qj.mp hz;rw[show setC c' e ps (ky a p,e).2=ps from oN,show(ky a p,e).2=e from rfl,aW ne];refine⟨aD,?_,p2,?_⟩
    .rw[show cZ M c (ky a p,e).1=c d from amM (z:=(ky a p,d)) v.kn hz'];exact p1
    .cases ge:G e with
     |none=>rfl
     |some u =>
      have:=lr _ _ (l3 _ _ ge);rw[he]at this;cases this
 .obtain⟨_,r2,N,c',rfl,l,tt,ek,hi⟩:=hh;exists a5X;refine bB.here (bB.here (h t qs N c' G' l ⟨ht,tt,ri,?_,?_,hi⟩))
  .rw[ek,gk,a1r]
  .rw[ek,gk,a1r];exact pq
abbrev dv(d:D):List Key:=match a1Z d with
 |some (.inr k)=>k
 |_=>[]
abbrev pcE(q:(Int×Int)×Int):D:=.tup [dR q.1,.int q.2]
def ax6(s:SH A sh x y g room st M c G)(v:Shv room n M c)(hn:n<64)(hl:0<=lot/\lot<=999)(h:∀(qs:List (Int×Int)) r G',Le G G'->(qs.map kq).Perm (M.map (·.1))->fK qs->G r=au->G' r=aj (.lst (((qs.filter λq=>(aL (cZ M c (kq q)) lot).isSome).map λq=>(q,bR (cZ M c (kq q)) lot)).map pcE))->R (.ref r) G'):fQ K A [.ref sh,.int lot] G R EX:=by
 have big:10000<dh:=by decide
 refine⟨rfl,?_⟩;show o9 K A _ _ [aj (.ref sh),aj (.int lot)] G;exists o9;refine a0W hl ?_;exists tM;rw[iH s.sh rfl];symm;refine sort_keys s.st v.kn v.ks (yu v.len hn) λqs r pq ri hr=>?_;rw[aaO cQ];have l0:Le G (aH G r (.lst (qs.map dR))):=.new hr
 have lq:qs.length<64:=by
  have h2:=pq.length_eq;simp at h2;have:=v.len;omega
 have get:∀z∈qs.map dR,∃a p d,z=.tup [.int a,.int p]/\dv z=ky a p/\aL M (ky a p)=aj d/\cZ M c (ky a p)=c d/\G d=aj (.cF ao ((c d).map rK)):=λz hz=>by
  obtain⟨⟨a,p⟩,hq,rfl⟩:=ig.mp hz;have hm:kq (a,p)∈M.map (·.1):=pq.mem_iff.mp (ig.mpr ⟨_,hq,rfl⟩);obtain⟨⟨kk,d⟩,hz,e1⟩:=ig.mp hm;have e1:kk=ky a p:=e1;subst e1;exact⟨a,p,d,rfl,rfl,nC v.kn hz,amM v.kn hz,s.ins _ hz⟩
 refine a9C (λz=>(aL (cZ M c (dv z)) lot).isSome) (λz=>.tup [z,.int (bR (cZ M c (dv z)) lot)]) (by show(qs.map dR).length<dh;rw[gk];omega) cQ (λz hz G' l Q hQ=>?_) (λz hz hf G' l Q hQ=>?_) λq hq=>?_
 .obtain⟨a,p,d,rfl,ed,ev,eh,hd⟩:=get z hz;have l2:=l0.trans l;symm;rw[iH (l2 _ _ s.sh) rfl,a5O (l2 _ _ s.st) rN rfl (by rw[rO,ev];rfl),aIX (l2 _ _ hd) tD rfl,uI];simp only[ed,eh]at hQ;symm;cases e:aL (c d) lot with
  |none=>rw[e]at hQ;exact hQ _ (.refl _)
  |some w=>rw[e]at hQ;exact hQ _ (.refl _)
 .obtain⟨a,p,d,rfl,ed,ev,eh,hd⟩:=get z hz;have l2:=l0.trans l;simp only[ed,eh]at hf hQ;obtain⟨w,ew⟩:=a0v.mp hf;have e0:bR (c d) lot=w:=by unfold bR;rw[ew];rfl
  rw[e0]at hQ;symm;rw[iH (l2 _ _ s.sh) rfl,a5O (l2 _ _ s.st) rN rfl (by rw[rO,ev];rfl),a5O (l2 _ _ hd) tD rfl (by rw[uI,ew];rfl)];symm;exact hQ _ (.refl _)
 .refine bB.here (h qs q _ (l0.trans (.new hq)) pq ri (by cases e:G q with|none=>rfl|some u=>rw[l0 _ _ e]at hq;cases hq) ?_);rw[aD];show aj (GO.lst (((qs.map dR).filter _).map _))=_;rw[a2r,kh,kh];rfl
@[simp]def Wk:=((Int×Int)×Int)×Int
abbrev nk(k:(Int×Int)×Int):NK:=([k.1.1,k.1.2],k.2)
@[simp]def wN(W:List Wk):List (NK×Int):=W.map λz=>(nk z.1,z.2)
def a9R{k:(Int×Int)×Int}(h:nk j=nk k):j=k:=by
 obtain⟨⟨a,p⟩,l⟩:=j;obtain⟨⟨b,q⟩,m⟩:=k;simp[nk]at h;simp[h]
def apK{k:(Int×Int)×Int}:∀W:List Wk,(wN W).lookup (nk k)=aL W k
 |[]=>rfl
 |z::W=>by
  show yd (nk k) ((nk z.1,z.2)::wN W)=_;rw[ud];unfold aL;by_cases c:z.1=k
  .rw[if_pos c,c,beq_self_eq_true]
  .rw[if_neg c,show(nk k==nk z.1)=ao from beq_eq_false_iff_ne.mpr λe=>c (a9R e.symm)];exact apK W
def aJ7{W:List Wk}{k:(Int×Int)×Int}{n:Int}:putN (wN W) (nk k) n=wN (cP W k n):=by
 unfold putN cP;rw[apK];split
 ·show(W.map _).map _=(W.map _).map _;rw[kh,kh];refine vg λz _=>?_;show(if nk z.1=nk k then(nk z.1,n)else(nk z.1,z.2))=(nk (if z.1=k then(z.1,n)else z).1,(if z.1=k then(z.1,n)else z).2);by_cases c:z.1=k
  .rw[if_pos c,if_pos (by rw[c])]
  .rw[if_neg c,if_neg λe=>c (a9R e)]
 .show _=(W++[(k,n)]).map _;rw[ql];rfl
structure Rl(M:List (List Key×bw))(c:bw->List (Int×Int))(W:List Wk):Prop where
 nd:(W.map (·.1)).Nodup
 pos:∀z∈W,1<=z.2
 va:∀a p l,bR (cZ M c (ky a p)) l=(aL W ((a,p),l)).getD 0
def Rl.mem{W:List Wk}(r:Rl M c W)(v:Shv room n M c)(hr:0<=room){w:Int}:(l,w)∈cZ M c (kq q)↔((q,l),w)∈W:=by
 obtain⟨nd,ps,_,_⟩:=pK (k:=kq q) hr v;have e:bR (cZ M c (kq q)) l=(aL W (q,l)).getD 0:=r.va q.1 q.2 l;constructor
 .intro h;have e1:=nC nd h;have p1:1<=w:=ps _ h;have e2:bR (cZ M c (kq q)) l=w:=by unfold bR;rw[show aL (cZ M c (kq q)) l=aj w from e1];rfl
  rw[e2]at e;cases z:aL W (q,l)with
  |none=>rw[z]at e;simp at e;omega
  |some u =>
   rw[z]at e;have:w=u:=e;rw[this];exact kZ z
 .intro h;have e1:=nC r.nd h;have p1:1<=w:=r.pos _ h;rw[show aL W (q,l)=aj w from e1]at e;have e:bR (cZ M c (kq q)) l=w:=e;unfold bR at e;cases z:aL (cZ M c (kq q)) l with
  |none=>rw[z]at e;simp at e;omega
  |some u =>
   rw[z]at e;have:u=w:=e;rw[←this];exact kZ z
def apL{α:Type}{r:α->α->Prop}(as:∀a b,r a b->r b a->False):∀{xs ys:List α},xs.Pairwise r->ys.Pairwise r->(∀z,z∈xs↔z∈ys)->xs=ys
 |[],[],_,_,_=>rfl
 |[],y::ys,_,_,h=>absurd ((h y).mpr (.head _)) (by simp)
 |x::xs,[],_,_,h=>absurd ((h x).mp (.head _)) (by simp)
 |x::xs,y::ys,hx,hy,h=>by
  rw[List.pairwise_cons]at hx hy
  have e:x=y:=by
   rcases jd.mp ((h x).mp (.head _))with e|m
   .exact e
   .rcases jd.mp ((h y).mpr (.head _))with e|m2
    .exact e.symm
    .exact(as _ _ (hy.1 _ m) (hx.1 _ m2)).elim
  subst e;have i:∀z,r x z->z≠x:=λz q e=>by rw[e]at q;exact as _ _ q q
  rw[apL as hx.2 hy.2 λz=>⟨λm=>?_,λm=>?_⟩]
  .exact(jd.mp ((h z).mp (.tail _ m))).resolve_left (i z (hx.1 z m))
  .exact(jd.mp ((h z).mpr (.tail _ m))).resolve_left (i z (hy.1 z m))
def ax7(a b:Int×Int)(h:u6 a b)(h2:u6 b a):False:=by
 unfold u6 at h h2;omega
abbrev IsH(W:List Wk)(s:Int×Int)(qs:List (Int×Int)):Prop:=fK qs/\∀l v,(l,v)∈qs↔((s,l),v)∈W
abbrev IsP(W:List Wk)(l:Int)(ws:List ((Int×Int)×Int)):Prop:=ws.Pairwise (λa b=>u6 a.1 b.1)/\∀s v,(s,v)∈ws↔((s,l),v)∈W
abbrev IsL(W:List Wk)(zs:List ((Int×Int)×List (Int×Int))):Prop:=fK (zs.map (·.1))/\(∀z∈zs,z.2≠[]/\IsH W z.1 z.2)/\∀s l v,((s,l),v)∈W->s∈zs.map (·.1)
def IsH.eq{W:List Wk}(h:IsH W s xs)(h2:IsH W s ys):xs=ys:=apL ax7 h.1 h2.1 λz=>(h.2 z.1 z.2).trans (h2.2 z.1 z.2).symm
def IsP.eq{W:List Wk}(h:IsP W l xs)(h2:IsP W l ys):xs=ys:=apL (λa b=>ax7 a.1 b.1) h.1 h2.1 λz=>(h.2 z.1 z.2).trans (h2.2 z.1 z.2).symm
def IsL.keys{W:List Wk}(h:IsL W zs):s∈zs.map (·.1)↔∃l v,((s,l),v)∈W:=by
 constructor
 .intro m;obtain⟨z,hz,rfl⟩:=ig.mp m;obtain⟨n,i⟩:=h.2.1 z hz;obtain⟨q,r,e⟩:=List.exists_cons_of_ne_nil n;exact⟨q.1,q.2,(i.2 q.1 q.2).mp (by rw[e];exact .head _)⟩
 .rintro⟨l,v,m⟩;exact h.2.2 s l v m
def IsL.eq{W:List Wk}(h:IsL W xs)(h2:IsL W ys):xs=ys:=by
 have e:xs.map (·.1)=ys.map (·.1):=apL ax7 h.1 h2.1 λz=>h.keys.trans h2.keys.symm;have el:xs.length=ys.length:=by have:=congrArg a2h e;simpa using this
 refine List.ext_getElem el λi h1 h3=>?_
 have e1:xs[i].1=ys[i].1:=by
  have:=congrArg (·[i]?) e;simpa[h1,h3]using this
 have a:=(h.2.1 _ (ux h1)).2;have b:=(h2.2.1 _ (ux h3)).2;rw[e1]at a;exact Prod.ext e1 (a.eq b)
abbrev rmG(G:Gp)(p:bw):Gp:=λq=>if q=p then au else G q
def abD:Le (rmG G p) G:=λq u e=>by
 unfold rmG at e;split at e
 .cases e
 .exact e
def a69(n:q≠p)(h:G q=aj u):rmG G p q=aj u:=by
 unfold rmG;rw[if_neg n];exact h
def agG(l:Le G G'):Le (rmG G p) (rmG G' p):=λq u e=>by
 by_cases z:q=p
 .unfold rmG at e;rw[if_pos z]at e;cases e
 .exact a69 z (l _ _ (abD _ _ e))
def aJ8:Le (rmG G p) (aH G p o):=λq u e=>by
 by_cases z:q=p
 .unfold rmG at e;rw[if_pos z]at e;cases e
 .rw[aW z];exact abD _ _ e
def le_none(l:Le G G')(h:G' r=au):G r=au:=by
 cases e:G r with
 |none=>rfl
 |some u=>rw[l _ _ e]at h;cases h
inductive Ask where
 |h (s:Int×Int)|p (l:Int)|a
def aeP{α:Type}{r:α->D->Prop}{g:D->D->Bool}(h:∀z d e,r z d->r z e->f d e=ak/\g d e=ak):∀{zs:List α}{xs ys:List D},Paired r zs xs->Paired r zs ys->a02 f xs ys=ak/\pN g xs ys=ak
 |[],_,_,.nil,.nil=>⟨rfl,rfl⟩
 |_::_,_::_,_::_,.cons a r,.cons b t=>by
  obtain⟨e1,e2⟩:=h _ _ _ a b;obtain⟨e3,e4⟩:=aeP h r t;rw[a02,pN,e1,e2,e3,e4];exact⟨rfl,rfl⟩
def a9D{n:Nat}:∀{xs:List D},(∀x∈xs,okN G n x x=ak)->a02 (okN G n) xs xs=ak/\pN (eqN G n) xs xs=ak
 |[],_=>⟨rfl,rfl⟩
 |x::xs,h=>by
  obtain⟨a,b⟩:=a9D λy hy=>h y (.tail _ hy);have c:=h x (.head _);rw[a02,pN,a,b,c,a03 n x c];exact⟨rfl,rfl⟩
def aJ9(e1:G r=aj (.lst xs))(e2:G s=aj (.lst ys))(h:a02 (okN G n) xs ys=ak/\pN (eqN G n) xs ys=ak):okN G (n+1) (.ref r) (.ref s)=ak/\eqN G (n+1) (.ref r) (.ref s)=ak:=by
 have l1:bH G r=aj xs:=by unfold L2.bH;rw[e1]
 have l2:bH G s=aj ys:=by unfold L2.bH;rw[e2]
 unfold okN eqN;simp only[l1,l2];exact h
def abE{α β:Type}{r:α->β->Prop}{xs xs':List α}{ys ys':List β}(h:Paired r xs ys)(h2:Paired r xs' ys'):Paired r (xs++xs') (ys++ys'):=by
 induction h with
 |nil=>exact h2
 |cons a _ ih=>exact .cons a ih
def aCL(a b:Int×Int)(h:dR a=dR b):a=b:=by
 unfold dR at h;simp at h;exact Prod.ext h.1 h.2
def aCM{src:Src}(P:D->D->Gp->Prop)(hm:∀d y G G',Le G G'->P d y G->P d y G')(hl:src.items.length<dh)(hok:src.ok G)
  (he:∀d∈src.items,∀G',Le G G'->∀Q:D->Gp->Prop,(∀y G'',Le G' G''->(∀p,G' p≠au->P d y (rmG G'' p))->Q y G'')->te (aj d::ρ) G' Q)
  (h:∀p ys G',Le G G'->G p=au->G' p=aj (.lst ys)->Paired (λd y=>P d y (rmG G' p)) src.items ys->R (.ref p) G'):aiY afI src aa1 te ρ G R:=by
 refine⟨hl,λp hp=>⟨λk ds G'=>Paired (λd y=>P d y (rmG G' p)) (src.items.take k) ds/\Le (aH G p (.lst ds)) G',⟨.nil,.refl _⟩,λk ds G' hk ⟨e,l⟩=>?_,λk d ds G' hd ⟨e,l⟩=>?_,λds G' ⟨e,l⟩=>?_⟩⟩
 .refine⟨aE2 ((Le.new hp).trans l) hok,l p _ aD,?_⟩;rw[←Paired.length e,a2j];omega
 .refine⟨[d],rfl,?_⟩;unfold L2.aa1;dsimp only;rw[if_pos rfl];refine he d (jz hd) G' ((Le.new hp).trans l) _ λy G3 l3 hP=>?_;have l4:=l.trans l3;refine⟨l4 p _ aD,?_,awL l4⟩
  have ht:src.items.take (k+1)=src.items.take k++[d]:=by
   rw[a2b,hd];rfl
  have lu:Le (rmG G3 p) (rmG (aH G3 p (.lst (ds++[y]))) p):=λq u e=>by
   by_cases z:q=p
   .unfold rmG at e;rw[if_pos z]at e;cases e
   .exact a69 z (aJ8 _ _ e)
  rw[ht];exact abE (Paired.aeS e λ_ _ z=>hm _ _ _ _ ((agG l3).trans lu) z) (.cons (hm _ _ _ _ lu (hP p (by rw[l p _ aD];simp))) .nil)
 .rw[a1r]at e;exact⟨G',.refl _,h p ds G' ((Le.new hp).trans l) hp (l p _ aD) e⟩
def agH{W:List Wk}(s:SH A sh x y g room st M c G)(v:Shv room n M c)(hn:n<64)(hr:0<=room)(r:Rl M c W){q:Int×Int}(b:OkB x y q.1 q.2)(h:∀rr qs G',Le G G'->G rr=au->G' rr=aj (.lst (qs.map dR))->IsH W q qs->qs.length<64->R (.ref rr) G'):dU K A [.ref sh,dR q] G R EX:=by
 refine⟨rfl,?_⟩;show tL K A _ _ [aj (.ref sh),aj (.tup [.int q.1,.int q.2])] G;exists tL;rw[iH s.sh rfl];symm;refine tY s.o b ?_;exists wU;rw[iH s.sh rfl];exists lH s.st;refine s.get (F:=λd G'=>uH d G' (bB R)) λd G1 l e1=>?_;have hb:=pK (k:=kq q) hr v;exact aj6 e1 (yu hb.2.2.2 hn) λqs p1 p2 rr hrr=>bB.here (h rr qs _ (l.trans (.new hrr)) (le_none l hrr) aD ⟨p2,λl v'=>p1.mem_iff.trans (r.mem v hr)⟩ (by rw[p1.length_eq];exact yu hb.2.2.2 hn))
def ax8{W:List Wk}(v:Shv room n M c)(hr:0<=room)(r:Rl M c W):kq s∈M.map (·.1)↔∃l w,((s,l),w)∈W:=by
 constructor
 .intro m;obtain⟨z,hz,e⟩:=ig.mp m;have eh:cZ M c (kq s)=c z.2:=by rw[←e];exact amM v.kn hz
  obtain⟨q,t,e2⟩:=List.exists_cons_of_ne_nil (v.bn z hz).1.ne;exact⟨q.1,q.2,(r.mem v hr).mp (by rw[eh,e2];exact .head _)⟩
 .rintro⟨l,w,m⟩;have m2:=(r.mem v hr).mpr m;refine Classical.byContradiction λz=>?_;have:cZ M c (kq s)=[]:=by unfold cZ;rw[lR.mpr z]
  rw[this]at m2;cases m2
def amN{a b:Int×Int}(h:kq a=kq b):a=b:=by
 have:a.1=b.1/\a.2=b.2:=by simpa[L9.ky]using h
 exact Prod.ext this.1 this.2
def ax9{qs:List (Int×Int)}:kq s∈qs.map kq↔s∈qs:=⟨λh=>by obtain⟨z,hz,e⟩:=ig.mp h;rw[←amN e];exact hz,λh=>ig.mpr ⟨s,h,rfl⟩⟩
def arX{W:List Wk}(s:SH A sh x y g room st M c G)(v:Shv room n M c)(hn:n<64)(hr:0<=room)(r:Rl M c W)(hl:0<=lot/\lot<=999)(h:∀rr ws G',Le G G'->G rr=au->G' rr=aj (.lst (ws.map pcE))->IsP W lot ws->ws.length<64->R (.ref rr) G'):fQ K A [.ref sh,.int lot] G R EX:=by
 refine ax6 s v hn hl λqs rr G' l pq ri f e=>h rr _ G' l f e ⟨?_,λq w=>?_⟩ (by
  have e1:=pq.length_eq;have e2:=v.len;have e3:=yq (λq=>(aL (cZ M c (kq q)) lot).isSome) qs;rw[gk,gk]at e1;rw[gk];omega)
 .rw[a0a];exact a1c.filter _ ri
 .constructor
  .intro m;obtain⟨q',hq,e⟩:=ig.mp m;cases e;obtain⟨w,ew⟩:=a0v.mp (nj.mp hq).2;have e0:bR (cZ M c (kq q)) lot=w:=by unfold bR;rw[ew];rfl
   rw[e0];exact(r.mem v hr).mp (kZ ew)
  .intro m;have m2:=(r.mem v hr).mpr m;have ew:aL (cZ M c (kq q)) lot=aj w:=nC (pK (k:=kq q) hr v).1 m2;have e0:bR (cZ M c (kq q)) lot=w:=by unfold bR;rw[ew];rfl
   refine ig.mpr ⟨q,nj.mpr ⟨ax9.mp (pq.mem_iff.mpr ((ax8 v hr r).mpr ⟨_,_,m⟩)),by rw[ew];rfl⟩,by rw[e0]⟩
def IsL.mk'{W:List Wk}(ri:fK qs)(hq:∀s,s∈qs↔∃l w,((s,l),w)∈W)(e:zs.map (·.1)=qs)(h:∀z∈zs,IsH W z.1 z.2):IsL W zs:=by
 refine⟨by rw[e];exact ri,λz hz=>⟨λn=>?_,h z hz⟩,λs l w m=>by rw[e];exact(hq s).mpr ⟨l,w,m⟩⟩;obtain⟨l,w,m⟩:=(hq z.1).mp (by rw[←e];exact ig.mpr ⟨z,hz,rfl⟩);have:=((h z hz).2 l w).mpr m;rw[n]at this;cases this
def aE6{W:List Wk}{G:Gp}:∀{qs:List (Int×Int)}{es:List D},Paired (λd y=>∃q hs r,d=dR q/\y=.tup [dR q,.ref r]/\G r=aj (.lst (hs.map dR))/\IsH W q hs) (qs.map dR) es->∃zs:List ((Int×Int)×List (Int×Int)),zs.map (·.1)=qs/\(∀z∈zs,IsH W z.1 z.2)/\Paired (λz e=>∃q,e=.tup [dR z.1,.ref q]/\G q=aj (.lst (z.2.map dR))) zs es
 |[],_,.nil=>⟨[],rfl,(λz hz=>nomatch hz),.nil⟩
 |q::qs,_,.cons ⟨q',hs,r,e1,e2,e3,e4⟩ t=>by
  obtain⟨zs,z1,z2,z3⟩:=aE6 t;obtain rfl:=aCL _ _ e1;refine⟨(q,hs)::zs,by rw[iz,z1],λz hz=>?_,.cons ⟨r,e2,e3⟩ z3⟩;rcases jd.mp hz with rfl|hz
  .exact e4
  .exact z2 z hz
def aCN(l:Le G G')(h:G p=au):Le G (aH G' p o):=λq u e=>by
 have n:q≠p:=λz=>by rw[z,h]at e;cases e
 rw[aW n];exact l _ _ e
def amO{N:List (List Key×bw)}{qs:List (Int×Int)}{t:bw}(e:N.map (·.1)=qs.map kq):(Src.key t od ak (N.map ktD)).items=qs.map dR:=by
 show(N.map ktD).map (λq:DK×D=>dkD q.1)=_;rw[kh,show(λq:DK×D=>dkD q.1)∘ktD=(λks=>dkD (.inr ks))∘(λz:List Key×bw=>z.1)from rfl,←kh,e,kh];rfl
abbrev dn(d:D):(Int×Int)×Int:=match d with
 |.tup [.tup [.int a,.int p],.int l]=>((a,p),l)
 |_=>((0,0),0)
variable{z:Wk}
def amP{W:List Wk}(nd:(W.map (·.1)).Nodup)(hz:z∈W)(h:nmG G p (wN W))(k:R (.int z.2) G):sX (.ref p) (.tup [.tup [.int z.1.1.1,.int z.1.1.2],.int z.1.2]) G R:=⟨nk z.1,wN W,z.2,rfl,h,by rw[apK];exact nC nd hz,k⟩
def amQ{a' b':Int}:eqP (.tup [.int a,.int b]) (.tup [.int a',.int b'])=decide ((a,b)=(a',b')):=by
 show(decide (a=a')&&(decide (b=b')&&ak))=_;simp
def amR{α β γ:Type}{W:List α}{f:α->β}{g:α->γ}{c:α->Bool}(nd:(W.map f).Nodup)(h:∀a∈W,∀b∈W,c a=ak->c b=ak->g a=g b->f a=f b):((W.filter c).map g).Nodup:=by
 rw[List.Nodup,a0a]at nd ⊢;refine a1c.imp_of_mem ?_ (a1c.filter c nd);intro a b ha hb n e;obtain⟨a1,a2⟩:=nj.mp ha;obtain⟨b1,b2⟩:=nj.mp hb;exact n (h a a1 b b1 a2 b2 e)
def aOA{W:List Wk}(nd:(W.map (·.1)).Nodup)(hl:W.length<64)(hq:bH G q=aj ((W.filter λz=>decide (z.1.1=s)).map λz=>dR (z.1.2,z.2)))(h:∀qs r,G r=au->IsH W s qs->R (.ref r) (aH G r (.lst (qs.map dR)))):xQ [.ref q] G R:=by
 unfold L2.xQ;simp only[hq];refine⟨(W.filter λz=>decide (z.1.1=s)).map λz=>(z.1.2,z.2),by rw[kh];rfl,?_,?_,λqs p1 p2 r hr=>h qs r hr ⟨p2,λl w=>p1.mem_iff.trans ?_⟩⟩
 .refine amR nd λa _ b _ ha hb e=>?_;have ha:=of_decide_eq_true ha;have hb:=of_decide_eq_true hb;exact Prod.ext (ha.trans hb.symm) (congrArg (·.1) e)
 .rw[gk];exact yu (yq _ _) hl
 .constructor
  .intro m;obtain⟨z,hz,e⟩:=ig.mp m;obtain⟨h1,h2⟩:=nj.mp hz;have h2:=of_decide_eq_true h2;cases e;rw[←h2];exact h1
  .intro m;exact ig.mpr ⟨_,nj.mpr ⟨m,decide_eq_true rfl⟩,rfl⟩
def aRT{W:List Wk}(nd:(W.map (·.1)).Nodup)(hl:W.length<64)(hb:∀z∈W,-1000<=z.1.1.2/\z.1.1.2<=1000)(hq:bH G q=aj ((W.filter λz=>decide (z.1.2=l)).map λz=>pcE (z.1.1,z.2)))(h:∀ws r,G r=au->IsP W l ws->R (.ref r) (aH G r (.lst (ws.map pcE)))):a5J [.ref q] G R:=by
 obtain⟨us,eu⟩:∃us,us=(W.filter λz=>decide (z.1.2=l)).map λz=>(z.1.1,z.2):=⟨_,rfl⟩
 have em:∀s w,(s,w)∈us↔((s,l),w)∈W:=λs w=>by
  rw[eu];constructor
  .intro m;obtain⟨z,hz,e⟩:=ig.mp m;obtain⟨h1,h2⟩:=nj.mp hz;have h2:=of_decide_eq_true h2;cases e;rw[←h2];exact h1
  .intro m;exact ig.mpr ⟨_,nj.mpr ⟨m,decide_eq_true rfl⟩,rfl⟩
 have ed:((W.filter λz=>decide (z.1.2=l)).map λz=>pcE (z.1.1,z.2))=us.map pcE:=by rw[eu,kh];rfl
 have hn:(us.map (·.1)).Nodup:=by
  rw[eu,kh];refine amR nd λa _ b _ ha hb e=>?_;have ha:=of_decide_eq_true ha;have hb:=of_decide_eq_true hb;exact Prod.ext e (ha.trans hb.symm)
 have lu:us.length<64:=by
  rw[eu,gk];exact yu (yq _ _) hl
 have hB:∀p∈us.map (·.1),-1000<=p.2/\p.2<=1000:=λp hp=>by
  obtain⟨u,hu,rfl⟩:=ig.mp hp;exact hb _ ((em u.1 u.2).mp hu)
 rw[ed]at hq;clear ed eu;refine⟨_,hq,us.map (λu=>([u.1.1,u.1.2],u.2)),λi=>enc 3000 ((us.map (·.1)).getD i (0,0)),by rw[kh];rfl,by rw[gk];exact lu,λi j a b ha hb'=>?_,λi j hi hj e=>?_,λqa P u r hr=>?_⟩
 .rw[vm]at ha hb';obtain⟨ua,ea,rfl⟩:=a1h.mp ha;obtain⟨ub,eb,rfl⟩:=a1h.mp hb';have ga:(us.map (·.1)).getD i (0,0)=ua.1:=by simp[su,ea]
  have gb:(us.map (·.1)).getD j (0,0)=ub.1:=by simp[su,eb]
  show _=decide (enc 3000 ((us.map (·.1)).getD i (0,0))<enc 3000 ((us.map (·.1)).getD j (0,0)));rw[ga,gb,a2o,decide_eq_true_iff,vK (M:=3000) (B:=1000) (by omega) (hB ua.1 (ig.mpr ⟨_,jz ea,rfl⟩)) (hB ub.1 (ig.mpr ⟨_,jz eb,rfl⟩))];have ma:=jz ea;have mb:=jz eb;obtain⟨⟨a1,a2⟩,a3⟩:=ua;obtain⟨⟨b1,b2⟩,b3⟩:=ub;unfold ltN u6;by_cases c1:a1=b1
  .by_cases c2:a2=b2
   .subst c1;subst c2;have f1:aL us (a1,a2)=aj a3:=nC hn ma;have f2:aL us (a1,a2)=aj b3:=nC hn mb;have e3:a3=b3:=jf.inj (f1.symm.trans f2);subst e3;rw[if_pos rfl];simp
   .subst c1;rw[if_neg (by simp[c2])];show(if a1=a1 then(if a2=b2 then ao else decide (a2<b2))else decide (a1<a1))=ak↔_;rw[if_pos rfl,if_neg c2];simp
  .rw[if_neg (by simp[c1])];show(if a1=b1 then(if a2=b2 then ao else decide (a2<b2))else decide (a1<b1))=ak↔_;rw[if_neg c1];simp[c1]
 .rw[gk]at hi hj;have hi':i<(us.map (·.1)).length:=by rw[gk];exact hi
  have hj':j<(us.map (·.1)).length:=by rw[gk];exact hj
  have e:enc 3000 ((us.map (·.1)).getD i (0,0))=enc 3000 ((us.map (·.1)).getD j (0,0)):=e;rw[getD_at hi',getD_at hj']at e;have k1:=vK (M:=3000) (B:=1000) (by omega) (hB _ (ux hi')) (hB _ (ux hj'));have k2:=vK (M:=3000) (B:=1000) (by omega) (hB _ (ux hj')) (hB _ (ux hi'))
  have e2:(us.map (·.1))[i]=(us.map (·.1))[j]:=by
   have n1:=mt k1.mpr (by omega);have n2:=mt k2.mpr (by omega);unfold u6 at n1 n2;exact Prod.ext (by omega) (by omega)
  have key:=yp.mp hn;rcases zy i j with w|w|w
  .exact absurd e2 (key _ _ hi' hj' w)
  .exact w
  .exact absurd e2.symm (key _ _ hj' hi' w)
 .rw[gk]at P u;have P':Pm (us.map (·.1)).length qa:=by rw[gk];exact P
  obtain⟨r1,r2⟩:=a6T (M:=3000) (B:=1000) (by omega) hB hn P' (by rw[gk];exact u);have hin:∀i∈qa.toList,i<us.length:=λi hi=>yc.mp (P.perm.mem_iff.mp hi)
  have e1:(qa.toList.map λi=>(us.map pcE).getD i .non)=(qa.toList.map λi=>us.getD i ((0,0),0)).map pcE:=by
   rw[kh];refine vg λi hi=>?_;have:=hin i hi;simp[su,this]
  rw[e1]
  have e2:(qa.toList.map λi=>us.getD i ((0,0),0)).map (·.1)=qa.toList.map λi=>(us.map (·.1)).getD i (0,0):=by
   rw[kh];refine vg λi hi=>?_;have:=hin i hi;simp[su,this]
  have pm:(qa.toList.map λi=>us.getD i ((0,0),0)).Perm us:=by
   have:=P.perm.map λi=>us.getD i ((0,0),0)
   have id0:(kj us.length).map (λi=>us.getD i ((0,0),0))=us:=by
    apply List.ext_getElem (by simp);intro i h1 h2;simp[h2]
   rw[id0]at this;exact this
  refine h _ r hr ⟨?_,λs w=>pm.mem_iff.trans (em s w)⟩;rw[←e2]at r2;exact a0a.mp r2
structure Gr{κ:Type}(rel:Gp->κ->D->Prop)(G0:Gp)(hd:bw)(ks:List κ)(ds:List D)(G:Gp):Prop where
 le:Le G0 (rmG G hd)
 at':G hd=aj (.lst ds)
 pr:Paired (rel (rmG G hd)) ks ds
def apM:rmG (aH G p o) p=rmG G p:=by
 funext q;unfold rmG;by_cases z:q=p
 .rw[if_pos z,if_pos z]
 .rw[if_neg z,if_neg z,aW z]
def Gr.app{κ:Type}{rel:Gp->κ->D->Prop}(hm:∀G G' k d,Le G G'->rel G k d->rel G' k d){ks:List κ}(h:Gr rel G0 hd ks ds G)(l:Le G G'){k:κ}{y:D}(r:rel (rmG G' hd) k y):Gr rel G0 hd (ks++[k]) (ds++[y]) (aH G' hd (.lst (ds++[y]))):=by
 refine⟨?_,aD,?_⟩
 .rw[apM];exact h.le.trans (agG l)
 .rw[apM];exact abE (Paired.aeS h.pr λ_ _ z=>hm _ _ _ _ (agG l) z) (.cons r .nil)
def Gr.len{κ:Type}{rel:Gp->κ->D->Prop}{ks:List κ}{ds:List D}(h:Gr rel G0 hd ks ds G):ds.length=ks.length:=(Paired.length h.pr).symm
def Gr.all{κ:Type}{rel:Gp->κ->D->Prop}{ks:List κ}(h:Gr rel G0 hd ks ds G):Le G0 G:=h.le.trans abD
def agI(o':GO)(hq:G q=au)(hr:aH G q o r=au):Le G (aH (aH G q o) r o')/\G r=au:=⟨(Le.new hq).trans (.new hr),le_none (.new hq) hr⟩
def aOB(h:G p=aj (.lst ds)):afF "list" G (.ref p):=by
 rw[aoR];unfold L2.bH;rw[h];rfl
abbrev aJA(W:List Wk)(G:Gp)(q:Int×Int)(e:D):Prop:=∃hs r,e=.tup [dR q,.ref r]/\G r=aj (.lst (hs.map dR))/\IsH W q hs
def axA{W:List Wk}{G:Gp}:∀{qs:List (Int×Int)}{es:List D},Paired (aJA W G) qs es->∃zs:List ((Int×Int)×List (Int×Int)),zs.map (·.1)=qs/\(∀z∈zs,IsH W z.1 z.2)/\Paired (λz e=>∃q,e=.tup [dR z.1,.ref q]/\G q=aj (.lst (z.2.map dR))) zs es
 |[],_,.nil=>⟨[],rfl,(λz hz=>nomatch hz),.nil⟩
 |q::qs,_,.cons ⟨hs,r,e2,e3,e4⟩ t=>by
  obtain⟨zs,z1,z2,z3⟩:=axA t;refine⟨(q,hs)::zs,by rw[iz,z1],λz hz=>?_,.cons ⟨r,e2,e3⟩ z3⟩;rcases jd.mp hz with rfl|hz
  .exact e4
  .exact z2 z hz
def a77:∀{M N:List (Int×Int)},(M.foldl a2A N).length<=N.length+M.length
 |[],N=>dz _
 |q::M,N=>by
  rw[a1D,qb];have h1:=a77 (M:=M) (N:=a2A N q);have h2:=awP N q;omega
def ajZ:∀{M N:List (Int×Int)},N.Nodup->(M.foldl a2A N).Nodup
 |[],_,h=>h
 |q::M,_,h=>ajZ (M:=M) (am5 h)
def cM(h:G p=aj (.lst ds)):bH G p=aj ds:=by
 unfold L2.bH;rw[h]
def aRU{κ α:Type}[DecidableEq κ]{k k':κ}{n:α}{W:List (κ×α)}:aL (cP W k n) k'=if k'=k then aj n else aL W k':=by
 have mp:∀W:List (κ×α),aL (W.map λkv=>if kv.1=k then(kv.1,n)else kv) k'=if k'=k/\(aL W k).isSome=ak then aj n else aL W k':=by
  intro W
  induction W with
  |nil=>simp[aL]
  |cons z W ih =>
   rw[iz];unfold aL;by_cases c1:z.1=k
   .simp only[c1,if_true];by_cases c2:k=k'
    .simp[c2]
    .rw[if_neg c2,ih,if_neg c2];simp[Ne.symm c2]
   .simp only[if_neg c1];by_cases c2:z.1=k'
    .rw[if_pos c2,if_pos c2,if_neg λw=>c1 (c2.trans w.1)]
    .rw[if_neg c2,if_neg c2,ih]
 have ap:∀W:List (κ×α),aL W k=au->aL (W++[(k,n)]) k'=if k'=k then aj n else aL W k':=by
  intro W h
  induction W with
  |nil =>
   show(if k=k' then aj n else au)=_;by_cases c:k=k'
   .simp[c]
   .simp[c,Ne.symm c,aL]
  |cons z W ih =>
   rw[a1s];unfold aL at h ⊢;by_cases c1:z.1=k
   .rw[if_pos c1]at h;cases h
   .rw[if_neg c1]at h;by_cases c2:z.1=k'
    .rw[if_pos c2,if_pos c2,if_neg λw=>c1 (c2.trans w)]
    .rw[if_neg c2,if_neg c2,ih h]
 unfold cP;by_cases c:(aL W k).isSome=ak
 .rw[if_pos c,mp];simp[c]
 .rw[if_neg c];exact ap W (by simpa using c)
private theorem axB{κ α:Type}[DecidableEq κ]{k:κ}{n:α}{W:List (κ×α)}(nd:(W.map (·.1)).Nodup):((cP W k n).map (·.1)).Nodup/\(cP W k n).length<=W.length+1:=by
 unfold cP;split
 ·rw[kh,gk];refine⟨?_,a0r _⟩
  have:((λx:κ×α=>x.1)∘λkv=>if kv.1=k then(kv.1,n)else kv)=λx=>x.1:=by
   funext z;show(if z.1=k then(z.1,n)else z).1=z.1;split<;>rfl
  rw[this];exact nd
 .rename_i c;rw[ql,vo,wz];refine⟨⟨nd,by simp,λu hu w hw z=>?_⟩,dz _⟩;simp at hw;exact lR.mp (show aL W k=au by simpa using c) (by rw[←hw,←z];exact hu)
def aJB{κ α:Type}[DecidableEq κ]{k:κ}{n:α}{W:List (κ×α)}{z:κ×α}(h:z∈cP W k n):z∈W∨z=(k,n):=by
 unfold cP at h;split at h
 .obtain⟨y,hy,e⟩:=ig.mp h;by_cases c:y.1=k
  .rw[if_pos c]at e;exact .inr (by rw[←e,c])
  .rw[if_neg c]at e;exact .inl (by rw[←e];exact hy)
 .rcases uo.mp h with h|h
  .exact .inl h
  .exact .inr (qj.mp h)
abbrev vW(W:List Wk)(k:(Int×Int)×Int):Int:=(aL W k).getD 0
abbrev PW(W:List Wk):List Wk:=W.filter λz=>decide (0<z.2)
abbrev a4F(W:List Wk)(s:Int×Int):Int:=((W.filter λz=>decide (z.1.1=s)).map (·.2)).sum
structure Ro(M:List (List Key×bw))(c:bw->List (Int×Int))(W:List Wk):Prop where
 nd:(W.map (·.1)).Nodup
 va:∀a p l,bR (cZ M c (ky a p)) l=vW W ((a,p),l)
def Ro.at{W:List Wk}(r:Ro M c W)(h:z∈W):vW W z.1=z.2:=by
 unfold vW;rw[nC r.nd h];rfl
def Ro.nn{W:List Wk}(r:Ro M c W)(v:Shv room n M c)(hr:0<=room)(h:z∈W):0<=z.2:=by
 rw[←r.at h,←r.va z.1.1.1 z.1.1.2 z.1.2];exact a67 (pK hr v).2.1
def apO{W:List Wk}(nd:(W.map (·.1)).Nodup):((PW W).map (·.1)).Nodup:=nd.sublist ((a1u).map _)
def agJ{W:List Wk}(h:W.length<n):(PW W).length<n:=yu (yq _ _) h
def Ro.rl{W:List Wk}(r:Ro M c W)(v:Shv room n M c)(hr:0<=room):Rl M c (PW W):=by
 refine⟨apO r.nd,λz hz=>?_,λa p l=>?_⟩
 .have:=of_decide_eq_true (nj.mp hz).2;omega
 .rw[r.va];show vW W ((a,p),l)=vW (PW W) ((a,p),l);cases e:aL (PW W) ((a,p),l)with
  |some u =>
   have m:=(nj.mp (kZ e)).1;have e1:vW (PW W) ((a,p),l)=u:=by unfold vW;rw[e];rfl
   rw[e1];exact r.at m
  |none =>
   have e1:vW (PW W) ((a,p),l)=0:=by unfold vW;rw[e];rfl
   rw[e1];cases e2:aL W ((a,p),l)with
   |none=>unfold vW;rw[e2];rfl
   |some u =>
    have m:=kZ e2;have e3:vW W ((a,p),l)=u:=r.at m;have:=r.nn v hr m;rw[e3];refine Classical.byContradiction λnz=>?_;have:(((a,p),l),u)∈PW W:=nj.mpr ⟨m,decide_eq_true (by show 0<u;have:0<=u:=this;omega)⟩;exact lR.mp e (ig.mpr ⟨_,this,rfl⟩)
def axC:∀{W:List Wk},(∀z∈W,0<=z.2)->a4F (PW W) s=a4F W s
 |[],_=>rfl
 |z::W,h=>by
  have ih:=axC (s:=s) λy hy=>h y (.tail _ hy);have hz:=h z (.head _);unfold a4F PW at ih ⊢;by_cases c:0<z.2
  .rw[a0z (by simpa using c)];by_cases d:z.1.1=s
   .rw[a0z (by simpa using d),a0z (by simpa using d),iz,iz,List.sum_cons,List.sum_cons,ih]
   .rw[a0V (by simpa using d),a0V (by simpa using d),ih]
  .rw[a0V (by simpa using c),ih];by_cases d:z.1.1=s
   .rw[a0z (by simpa using d),iz,List.sum_cons];omega
   .rw[a0V (by simpa using d)]
def axD{xs:List (Int×Int)}(h:xs.Perm ys):u9 xs=u9 ys:=by
 induction h with
 |nil=>rfl
 |cons z _ ih=>rw[gA,gA,ih]
 |swap a b l=>rw[gA,gA,gA,gA];omega
 |trans _ _ a b=>rw[a,b]
def Ro.sum{W:List Wk}(r:Ro M c W)(v:Shv room n M c)(hr:0<=room)(s:Int×Int):u9 (cZ M c (kq s))=a4F W s:=by
 have rl:=r.rl v hr;rw[←axC λz hz=>r.nn v hr hz]
 have e:a4F (PW W) s=u9 (((PW W).filter λz=>decide (z.1.1=s)).map λz=>(z.1.2,z.2)):=by
  unfold a4F u9;rw[kh];rfl
 rw[e];refine axD ((List.perm_ext_iff_of_nodup ?_ ?_).mpr λq=>?_)
 .exact a1c.of_map (·.1) (λa b h e=>h (by rw[e])) (pK (k:=kq s) hr v).1
 .refine amR rl.nd λa _ b _ ha hb e=>?_;have ha:=of_decide_eq_true ha;have hb:=of_decide_eq_true hb;exact Prod.ext (ha.trans hb.symm) (congrArg (·.1) e)
 .refine(rl.mem v hr (q:=s) (l:=q.1) (w:=q.2)).trans ⟨λm=>ig.mpr ⟨_,nj.mpr ⟨m,decide_eq_true rfl⟩,rfl⟩,λm=>?_⟩;obtain⟨z,hz,e⟩:=ig.mp m;obtain⟨h1,h2⟩:=nj.mp hz;have h2:z.1.1=s:=of_decide_eq_true h2;rw[←e,←h2];exact h1
abbrev Dlt(M:List (List Key×bw))(c:bw->List (Int×Int))(M':List (List Key×bw))(c':bw->List (Int×Int))(dlo:(Int×Int)×Int->Int):Prop:=∀a p l,bR (cZ M' c' (ky a p)) l=bR (cZ M c (ky a p)) l+dlo ((a,p),l)
abbrev d1(k:(Int×Int)×Int)(more:Int)(j:(Int×Int)×Int):Int:=if j=k then more else 0
abbrev d2(q q2:Int×Int)(lot am:Int)(j:(Int×Int)×Int):Int:=if q=q2 then 0 else d1 (q,lot) (-am) j+d1 (q2,lot) am j
def agK(h:Chg M c M' c' (kq q) lot more)(o:∀k',k'≠kq q->cZ M' c' k'=cZ M c k'):Dlt M c M' c' (d1 (q,lot) more):=λa p l=>by
 unfold d1;by_cases e:(a,p)=q
 .subst e;rw[h.1 l];by_cases e2:l=lot
  .rw[if_pos e2,if_pos (by rw[e2])]
  .rw[if_neg e2,if_neg λw=>e2 (congrArg (·.2) w)]
 .rw[o _ λw=>e (amN (a:=(a,p)) w),if_neg λw=>e (congrArg (·.1) w)];exact(Int.add_zero _).symm
def Ro.step{W W':List Wk}(r:Ro M c W)(h:Dlt M c M' c' dlo)(nd:(W'.map (·.1)).Nodup)(hv:∀k,vW W' k=vW W k+dlo k):Ro M' c' W':=⟨nd,λa p l=>by rw[h,r.va,hv]⟩
structure WW(W W':List Wk)(q q2:Int×Int)(dlo:(Int×Int)×Int->Int):Prop where
 nd:(W'.map (·.1)).Nodup
 len:W'.length<=W.length+2
 va:∀k,vW W' k=vW W k+dlo k
 ks:∀z∈W',z∈W∨z.1.1=q∨z.1.1=q2
def agL{W:List Wk}{k:(Int×Int)×Int}{n:Int}:vW (cP W k n) j=if j=k then n else vW W j:=by
 unfold vW;rw[aRU];by_cases e:j=k
 .rw[if_pos e,if_pos e];rfl
 .rw[if_neg e,if_neg e]
def axE{W:List Wk}(nd:(W.map (·.1)).Nodup):WW W (cP W (q,lot) (vW W (q,lot)+more)) q q2 (d1 (q,lot) more):=by
 refine⟨(axB nd).1,a0o (axB nd).2,λk=>?_,λz hz=>?_⟩
 .rw[agL];unfold d1;by_cases e:k=(q,lot)
  .rw[if_pos e,if_pos e,e]
  .rw[if_neg e,if_neg e];omega
 .rcases aJB hz with hz|rfl
  .exact .inl hz
  .exact .inr (.inl rfl)
def aJC{W:List Wk}(nd:(W.map (·.1)).Nodup)(ne:q≠q2):WW W (cP (cP W (q,lot) (vW W (q,lot) - am)) (q2,lot) (vW (cP W (q,lot) (vW W (q,lot) - am)) (q2,lot)+am)) q q2 (d2 q q2 lot am):=by
 obtain⟨n1,l1⟩:=axB (k:=(q,lot)) (n:=vW W (q,lot) - am) nd;obtain⟨n2,l2⟩:=axB (k:=(q2,lot)) (n:=vW (cP W (q,lot) (vW W (q,lot) - am)) (q2,lot)+am) n1;refine⟨n2,qu l2 (Nat.succ_le_succ l1),λk=>?_,λz hz=>?_⟩
 .unfold d2 d1;rw[if_neg ne,agL,agL,agL];by_cases e:k=(q2,lot)
  .have e2:¬ k=(q,lot):=λw=>ne (congrArg (·.1) (w.symm.trans e));have e3:¬ (q2,lot)=(q,lot):=λw=>ne (congrArg (·.1) w).symm;rw[if_pos e,if_neg e3,if_neg e2,if_pos e,e];omega
  .rw[if_neg e,if_neg e];by_cases e2:k=(q,lot)
   .rw[if_pos e2,if_pos e2,e2];omega
   .rw[if_neg e2,if_neg e2];omega
 .rcases aJB hz with hz|rfl
  .rcases aJB hz with hz|rfl
   .exact .inl hz
   .exact .inr (.inl rfl)
  .exact .inr (.inr rfl)
def aCO{W:List Wk}(nd:(W.map (·.1)).Nodup)(e:q=q2):WW W W q q2 (d2 q q2 lot am):=⟨nd,Nat.le_add_right _ _,λk=>by unfold d2;rw[if_pos e];omega,λz hz=>.inl hz⟩
@[simp]def zD(k:(Int×Int)×Int):D:=.tup [.tup [.int k.1.1,.int k.1.2],.int k.2]
def aJD{W:List Wk}(hp:G p=aj (.nU (wN W)))(nd:(W.map (·.1)).Nodup)(hl:W.length<64)(cc:Wk->Bool)(f:Wk->D)
  (hc:∀z∈W,∀G',nmG G' p (wN W)->∀Q:Bool->Gp->Prop,Q (cc z) G'->tc (aj (zD z.1)::ρ) G' Q)
  (he:∀z∈W,cc z=ak->∀G',nmG G' p (wN W)->∀Q:D->Gp->Prop,Q (f z) G'->te (aj (zD z.1)::ρ) G' Q)
  (h:∀od q,G q=au->q≠p->R (.ref q) (aH (aH G p (.rnm od (wN W))) q (.lst ((W.filter cc).map f)))):aoI (.ref p) G λsrc G1=>aiY afI src tc te ρ G1 R:=by
 have big:10000<dh:=by decide
 refine⟨wN W,hp,λod=>?_⟩
 have it:(Src.nky p od (wN W)).items=W.map λz=>zD z.1:=by
  show(wN W).map _=_;rw[kh];rfl
 have od1:∀G',Le (aH G p (.rnm od (wN W))) G'->nmG G' p (wN W):=λG' l=>.inr ⟨od,l _ _ aD⟩;have ev:∀z∈W,(z.1,(aL W z.1).getD 0)=z:=λz hz=>by rw[nC nd hz];rfl
 refine a9C (λd=>cc (dn d,(aL W (dn d)).getD 0)) (λd=>f (dn d,(aL W (dn d)).getD 0)) (by rw[it,gk];omega) aD (λd hd G' l Q hQ=>?_) (λd hd hf G' l Q hQ=>?_) λq hq=>?_
 .rw[it]at hd;obtain⟨z,hz,rfl⟩:=ig.mp hd;have hQ':Q (cc (z.1,(aL W z.1).getD 0)) G':=hQ G' (.refl _);rw[ev z hz]at hQ';exact hc z hz G' (od1 G' l) Q hQ'
 .rw[it]at hd;obtain⟨z,hz,rfl⟩:=ig.mp hd;have hQ':Q (f (z.1,(aL W z.1).getD 0)) G':=hQ G' (.refl _);have hf':cc (z.1,(aL W z.1).getD 0)=ak:=hf;rw[ev z hz]at hQ' hf';exact he z hz hf' G' (od1 G' l) Q hQ'
 .have nq:q≠p:=λz=>by rw[z,aD]at hq;cases hq
  rw[aW nq]at hq
  have e1:((Src.nky p od (wN W)).items.filter λd=>cc (dn d,(aL W (dn d)).getD 0)).map (λd=>f (dn d,(aL W (dn d)).getD 0))=(W.filter cc).map f:=by
   rw[it,a2r,kh]
   have e2:W.filter ((λd=>cc (dn d,(aL W (dn d)).getD 0))∘λz:Wk=>zD z.1)=W.filter cc:=List.filter_congr λz hz=>by
    show cc (z.1,(aL W z.1).getD 0)=cc z;rw[ev z hz]
   rw[e2];refine vg λz hz=>?_;show f (z.1,(aL W z.1).getD 0)=f z;rw[ev z (nj.mp hz).1]
  rw[e1];exact h od q hq nq
def aJE{W:List Wk}(h1:at3 ρ i=aj (.ref p))(hp:G p=aj (.nU (wN W)))(nd:(W.map (·.1)).Nodup)(hl:W.length<64)(cc:Wk->Bool)(f:Wk->D)
  (hc:∀z∈W,∀G',nmG G' p (wN W)->∀Q:Bool->Gp->Prop,Q (cc z) G'->tc (aj (zD z.1)::ρ) G' Q)
  (he:∀z∈W,cc z=ak->∀G',nmG G' p (wN W)->∀Q:D->Gp->Prop,Q (f z) G'->te (aj (zD z.1)::ρ) G' Q)
  (h:∀q,G q=au->R (.ref q) (aH G q (.lst ((W.filter cc).map f)))):a7W i (qL (pA (aB i)) tc te) ρ G R:=by
 refine awV h1 hp ?_;show a4X afI (pA (aB i)) tc te ρ G _;rw[awK,aeE];unfold L2.aB;rw[h1];refine aJD hp nd hl cc f hc he λod q hq nq=>.inr ⟨⟨od,by rw[aW (Ne.symm nq),aD]⟩,?_⟩
 have e2:aH (aH (aH G p (.rnm od (wN W))) q (.lst ((W.filter cc).map f))) p (.nU (wN W))=aH G q (.lst ((W.filter cc).map f)):=by
  funext a;by_cases c1:a=p
  .rw[c1,aD,aW (Ne.symm nq),hp]
  .rw[aW c1];by_cases c2:a=q
   .rw[c2,aD,aD]
   .rw[aW c2,aW c2,aW c1]
 rw[e2];exact h q hq
def fH{W:List Wk}:(W.filter λz=>decide (z.1.1=s)&&decide (0<z.2))=(PW W).filter λz=>decide (z.1.1=s):=by
 unfold PW;rw[List.filter_filter]
def fP{W:List Wk}:(W.filter λz=>decide (z.1.2=l)&&decide (0<z.2))=(PW W).filter λz=>decide (z.1.2=l):=by
 unfold PW;rw[List.filter_filter]
def axF{c d:Bool}{tt tt':TT3}(h1:∀Q:Bool->Gp->Prop,Q c G->tt ρ G Q)(h2:∀Q:Bool->Gp->Prop,Q d G->tt' ρ G Q)(h:Q (c&&d) G):yP tt tt' ρ G Q:=by
 rw[aDY];refine h1 _ ?_;cases c with
 |false=>rw[if_neg (by decide)];exact h
 |true=>rw[if_pos rfl];exact h2 _ h
def aCP{W:List Wk}(nd:(W.map (·.1)).Nodup)(hz:z∈W)(h1:at3 ρ i=aj (.ref p))(hg:nmG G p (wN W))(h:Q (decide (0<z.2)) G):aQ (aG ac7 (aG sX (aB (i+1)) (aB 0)) (aY (.int 0))) (aj (zD z.1)::ρ) G Q:=by
 symm;unfold L2.aB;rw[h1];refine amP nd hz hg ?_;symm;exact h
def axG{k:Nat}(h5:at3 ρ k=aj (dR s))(h:Q (decide (z.1.1=s)) G):aQ (aG lE (aG cW (aB 0) (aY (.int 0))) (aB (k+1))) (aj (zD z.1)::ρ) G Q:=by
 symm;unfold L2.aB;rw[h5];refine⟨rfl,rfl,?_⟩;show Q (eqP (.tup [.int z.1.1.1,.int z.1.1.2]) (.tup [.int s.1,.int s.2])) G;rw[amQ];exact h
def aOC{k:Nat}(h5:at3 ρ k=aj (.int l))(h:Q (decide (z.1.2=l)) G):aQ (aG lE (aG cW (aB 0) (aY (.int 1))) (aB (k+1))) (aj (zD z.1)::ρ) G Q:=by
 symm;unfold L2.aB;rw[h5];show lE (.int z.1.2) (.int l) G _;symm;exact h
def aJF{W:List Wk}{j:Int}(nd:(W.map (·.1)).Nodup)(hz:z∈W)(h1:at3 ρ i=aj (.ref p))(hg:nmG G p (wN W))(hj:atI [.tup [.int z.1.1.1,.int z.1.1.2],.int z.1.2] j=aj d)(h:R (.tup [d,.int z.2]) G):fM (aA (aG cW (aB 0) (aY (.int j))) (aA (aG sX (aB (i+1)) (aB 0)) aF)) (aj (zD z.1)::ρ) G R:=by
 symm;rw[afW hj];symm;unfold L2.aB;rw[h1];refine amP nd hz hg ?_;symm;exact h
def agM{W:List Wk}(hm:G m=aj (.nU (wN W)))(nd:(W.map (·.1)).Nodup)(hl:W.length<64)(h:∀G',Le G G'->R (.int (a4F W s)) G'):gY K A [.ref m,dR s] G R EX:=by
 refine⟨rfl,?_⟩;have h':∀G',Le G G'->bB R (.int (a4F W s)) G':=λG' l=>bB.here (h G' l);clear h;show vO K A _ _ [aj (.ref m),aj (dR s)] G;exists vO;refine aJE (i:=0) rfl hm nd hl (λz=>decide (z.1.1=s)) (λz=>.int z.2) (λz hz G' hg Q hQ=>axG (k:=1) rfl hQ) (λz hz _ G' hg Q hQ=>?_) λq hq=>?_
 .symm;exact amP nd hz hg hQ
 .rw[aO1 (ns:=(W.filter λz=>decide (z.1.1=s)).map (·.2)) (by rw[cQ,kh];rfl)];exact h' _ (.new hq)
def nJ:(Str.ofString "take"==Str.ofString "put")=ao:=by decide
def nO:(Str.ofString "shift"==Str.ofString "put")=ao:=by decide
def oO:(Str.ofString "put"==Str.ofString "shift")=ao:=by decide
def oR:(Str.ofString "take"==Str.ofString "shift")=ao:=by decide
def oU:(Str.ofString "put"==Str.ofString "take")=ao:=by decide
def nP:(Str.ofString "shift"==Str.ofString "take")=ao:=by decide
def a1W{W:List Wk}{k:(Int×Int)×Int}(hm:G m=aj (.nU (wN W)))(h:R (.int (vW W k)) G):isNm (.ref m) G/\ar8 (.ref m) (zD k) (.int 0) G R:=⟨⟨_,hm⟩,nk k,wN W,0,rfl,rfl,hm,by rw[apK];exact h⟩
def a9E{W:List Wk}{k:(Int×Int)×Int}{n:Int}(hm:G m=aj (.nU (wN W)))(hl:W.length<1000)(h:F.nx ρ (aH G m (.nU (wN (cP W k n))))):ar9 (.ref m) (zD k) (.int n) F ρ G:=by
 have big:10000<dh:=by decide
 refine⟨nk k,wN W,n,rfl,rfl,hm,by rw[gk];omega,?_⟩;rw[aJ7];exact h
@[simp]def deD(wd:Str)(lot:Int)(q q2:Int×Int)(am:Int):D:=.tup [.str wd,.int lot,.tup [.int q.1,.int q.2],.tup [.int q2.1,.int q2.2],.int am]
def axH{W:List Wk}(hm:G m=aj (.nU (wN W)))(nd:(W.map (·.1)).Nodup)(hl:W.length<62)
  (h0:room<a4F W q+am->∀G',Le G G'->R (.tup [.str "refused",.int 5]) G')
  (h1:a4F W q+am<=room->∀W' G',WW W W' q q2 (d1 (q,lot) am)->G' m=aj (.nU (wN W'))->(∀a u,a≠m->G a=aj u->G' a=aj u)->R .non G'):jN K A [.ref m,.int room,deD "put" lot q q2 am] G R EX:=by
 refine⟨rfl,?_⟩;show oA K A _ _ [aj (.ref m),aj (.int room),aj (deD "put" lot q q2 am),au,au,au,au,au,au,au] G;exists oA;rw[a3V rfl];exists v8,nJ,nO,oO,oR,oU,nP;refine a1W (k:=(q,lot)) hm ?_;exists v7,nJ,nO,oO,oR,oU,nP;exists uZ,nJ,nO,oO,oR,oU,nP;exists uY,nJ,nO,oO,oR,oU,nP;exists uX,nJ,nO,oO,oR,oU,nP;exists uW,nJ,nO,oO,oR,oU,nP;refine agM (s:=q) hm nd (by omega) λG1 l1=>?_;symm;by_cases c:room<a4F W q+am
 .rw[if_pos (decide_eq_true c)];exact bB.here (h0 c G1 l1)
 .rw[if_neg (by simpa using c)];exists uV,nJ,nO,oO,oR,oU,nP;exists uU,nJ,nO,oO,oR,oU,nP;refine a1W (k:=(q,lot)) (l1 _ _ hm) ?_;symm;refine a9E (k:=(q,lot)) (l1 _ _ hm) (by omega) ?_;exists sE,nJ,nO,oO,oR,oU,nP;exact bB.here (h1 (by omega) _ _ (axE nd) aD λa u n e=>by rw[aW n];exact l1 _ _ e)
def apP{W:List Wk}(hm:G m=aj (.nU (wN W)))(nd:(W.map (·.1)).Nodup)(hl:W.length<62)
  (h0:vW W (q,lot)<am->R (.tup [.str "refused",.int 4]) G)
  (h1:am<=vW W (q,lot)->∀W' G',WW W W' q q2 (d1 (q,lot) (-am))->G' m=aj (.nU (wN W'))->(∀a u,a≠m->G a=aj u->G' a=aj u)->R .non G'):jN K A [.ref m,.int room,deD "take" lot q q2 am] G R EX:=by
 refine⟨rfl,?_⟩;show oA K A _ _ [aj (.ref m),aj (.int room),aj (deD "take" lot q q2 am),au,au,au,au,au,au,au] G;exists oA;rw[a3V rfl];exists v8,nJ,nO,oO,oR,oU,nP;refine a1W (k:=(q,lot)) hm ?_;exists v7,nJ,nO,oO,oR,oU,nP;by_cases c:vW W (q,lot)<am
 .rw[if_pos (decide_eq_true c)];exact bB.here (h0 c)
 .rw[if_neg (by simpa using c)];exists uZ,nJ,nO,oO,oR,oU,nP;exists uY,nJ,nO,oO,oR,oU,nP;exists uX,nJ,nO,oO,oR,oU,nP;exists uW,nJ,nO,oO,oR,oU,nP;exists uV,nJ,nO,oO,oR,oU,nP;refine a9E (k:=(q,lot)) hm (by omega) ?_;exists uU,nJ,nO,oO,oR,oU,nP;exists sE,nJ,nO,oO,oR,oU,nP;refine bB.here (h1 (by omega) _ _ (axE nd) (by rw[aD];rfl) λa u n e=>by rw[aW n];exact e)
def abF{W:List Wk}(hm:G m=aj (.nU (wN W)))(nd:(W.map (·.1)).Nodup)(hl:W.length<62)
  (h0:vW W (q,lot)<am->R (.tup [.str "refused",.int 4]) G)
  (h0':am<=vW W (q,lot)->q≠q2->room<a4F W q2+am->∀G',Le G G'->R (.tup [.str "refused",.int 5]) G')
  (h1:am<=vW W (q,lot)->(q≠q2->a4F W q2+am<=room)->∀W' G',WW W W' q q2 (d2 q q2 lot am)->G' m=aj (.nU (wN W'))->(∀a u,a≠m->G a=aj u->G' a=aj u)->R .non G'):jN K A [.ref m,.int room,deD "shift" lot q q2 am] G R EX:=by
 refine⟨rfl,?_⟩;show oA K A _ _ [aj (.ref m),aj (.int room),aj (deD "shift" lot q q2 am),au,au,au,au,au,au,au] G;exists oA;rw[a3V rfl];exists v8,nJ,nO,oO,oR,oU,nP;refine a1W (k:=(q,lot)) hm ?_;exists v7,nJ,nO,oO,oR,oU,nP;by_cases c:vW W (q,lot)<am
 .rw[if_pos (decide_eq_true c)];exact bB.here (h0 c)
 .rw[if_neg (by simpa using c)];exists uZ,nJ,nO,oO,oR,oU,nP;exists uY,nJ,nO,oO,oR,oU,nP;exists uX,nJ,nO,oO,oR,oU,nP;refine⟨rfl,rfl,?_⟩;rw[amQ];by_cases e:q=q2
  .rw[if_pos (decide_eq_true e)];exact bB.here (h1 (by omega) (λn=>absurd e n) W G (aCO nd e) hm λa u _ z=>z)
  .rw[if_neg (by rw[decide_eq_true_iff];exact e)];exists uW,nJ,nO,oO,oR,oU,nP;refine agM (s:=q2) hm nd (by omega) λG1 l1=>?_;symm;by_cases c2:room<a4F W q2+am
   .rw[if_pos (decide_eq_true c2)];exact bB.here (h0' (by omega) e c2 G1 l1)
   .rw[if_neg (by simpa using c2)];exists uV,nJ,nO,oO,oR,oU,nP;refine a9E (k:=(q,lot)) (l1 _ _ hm) (by omega) ?_;exists uU,nJ,nO,oO,oR,oU,nP;refine a1W (k:=(q2,lot)) aD ?_;symm;refine a9E (k:=(q2,lot)) aD (by have:=(axB (k:=(q,lot)) (n:=vW W (q,lot) - am) nd).2;omega) ?_;exists sE,nJ,nO,oO,oR,oU,nP;exact bB.here (h1 (by omega) (λ_=>by omega) _ _ (aJC nd e) aD λa u n z=>by rw[aW n,aW n];exact l1 _ _ z)
def abG{b0 b1 b2 b3 b4 b5:Bool}{j:Nat}(he:G e=aj (.exn C))(ec:ExC K C)(kv:iy K (.ref C) (.type "ValueError")=aj ak)(k0:iy K (.ref C) (.ref A.mX)=aj b0)(k1:iy K (.ref C) (.ref A.rW)=aj b1)(k2:iy K (.ref C) (.ref A.rT)=aj b2)(k3:iy K (.ref C) (.ref A.iJ)=aj b3)(k4:iy K (.ref C) (.ref A.bD)=aj b4)(k5:iy K (.ref C) (.ref A.cA)=aj b5)
  (h1:(([D.bl b0,.bl b1,.bl b2,.bl b3]++[D.bl b4,.bl b5]).filter auF).length=1)(hj:([D.bl b0,.bl b1,.bl b2,.bl b3]++[.bl b4,.bl b5])[j]?=aj (.bl ak))(hn:∀m,m<j->([D.bl b0,.bl b1,.bl b2,.bl b3]++[.bl b4,.bl b5])[m]?≠aj (.bl ak))(h:∀G',Le G G'->R (.tup [.str "refused",.int j]) G'):gW K A [.ref e] G R EX:=by
 have big:10000<dh:=by decide
 refine⟨rfl,?_⟩;have h':∀G',Le G G'->bB R (.tup [.str "refused",.int j]) G':=λG' l=>bB.here (h G' l);clear h;show vN K A _ _ [aj (.ref e),au] G;exists vN;refine rG he ec k0 ?_;symm;refine rG he ec k1 ?_;symm;refine rG he ec k2 ?_;symm;refine rG he ec k3 ?_;symm;intro p hp;have l1:Le G (aH G p (.lst [.bl b0,.bl b1,.bl b2,.bl b3])):=.new hp;exists z9;refine rG (l1 _ _ he) ec k4 ?_;symm;refine rG (l1 _ _ he) ec k5 ?_;symm;intro q hq;have l2:=l1.trans (Le.new (o:=.lst [.bl b4,.bl b5]) hq);rw[aO0 (fL aD hq) aD (by show 4+2<=dh;omega)];intro r hr;have l3:=l2.trans (Le.new (o:=.lst ([.bl b0,.bl b1,.bl b2,.bl b3]++[.bl b4,.bl b5])) hr);exists z8;refine aBY (l3 _ _ he) ec kv ?_;symm;rw[aaO cQ];refine a9C auF (λd=>d) (by show 6<dh;omega) cQ (λd hd G' l Q hQ=>?_) (λd hd _ G' l Q hQ=>?_) λs hs=>?_
 .have hb:∃b,d=.bl b:=by
   have hd:d∈[D.bl b0,.bl b1,.bl b2,.bl b3]++[.bl b4,.bl b5]:=hd;simp only[a1s,List.nil_append,jd,a0d,or_false]at hd;rcases hd with rfl|rfl|rfl|rfl|rfl|rfl<;>exact⟨_,rfl⟩
  obtain⟨b,rfl⟩:=hb;symm;exact hQ _ (.refl _)
 .symm;exact hQ _ (.refl _)
 .rw[afV cQ];symm;rw[if_neg (by rw[show(Src.items (.lst r ([D.bl b0,.bl b1,.bl b2,.bl b3]++[.bl b4,.bl b5])))=[D.bl b0,.bl b1,.bl b2,.bl b3]++[.bl b4,.bl b5]from rfl,h1];decide)];exists z7;have l4:=Le.new (o:=.lst (((Src.items (.lst r ([D.bl b0,.bl b1,.bl b2,.bl b3]++[.bl b4,.bl b5]))).filter auF).map λd=>d)) hs;have lr:=a1P l4 (cQ (xs:=[D.bl b0,.bl b1,.bl b2,.bl b3]++[.bl b4,.bl b5]));rw[aoR,lr];refine⟨rfl,?_⟩;refine arM lr rfl j hj hn ?_;symm;exact h' _ (l3.trans l4)
def a8E(T:Txt K mg A)(he:G e=aj (.exn A.cA))(h:∀G',Le G G'->R (.tup [.str "refused",.int 5]) G'):gW K A [.ref e] G R EX :=
 abG (j:=5) he T.ax2 T.xE T.j7 T.jV T.jU T.fW T.fC T.j8 rfl rfl (by intro m hm;match m,hm with|0,_=>simp|1,_=>simp|2,_=>simp|3,_=>simp|4,_=>simp) h
def a3L(T:Txt K mg A)(he:G e=aj (.exn A.bD))(h:∀G',Le G G'->R (.tup [.str "refused",.int 4]) G'):gW K A [.ref e] G R EX :=
 abG (j:=4) he T.ajP T.n8 T.fD T.fY T.fX T.dM T.dD T.fG rfl rfl (by intro m hm;match m,hm with|0,_=>simp|1,_=>simp|2,_=>simp|3,_=>simp) h
abbrev Dn(A:bC)(sh:bw)(x y g:Nat)(room:Int)(st:bw)(n:Nat)(M:List (List Key×bw))(c:bw->List (Int×Int))(G:Gp)(dlo:(Int×Int)×Int->Int)(M':List (List Key×bw))(c':bw->List (Int×Int))(G':Gp):Prop:=SH A sh x y g room st M' c' G'/\Shv room (n+2) M' c'/\Dlt M c M' c' dlo/\Kp st M M' G G'
section
variable{n:Nat}{q q2:Int×Int}{lot am:Int}
def aOD(s:SH A sh x y g room st M c G)(v:Shv room n M c)(hn:n<800)(hl:0<=lot/\lot<=999)(b:OkB x y q.1 q.2)(ha:1<=am/\am<=1000000)(hr:0<=room)(h0:room<u9 (cZ M c (kq q))+am->EX A.cA G)
  (h1:u9 (cZ M c (kq q))+am<=room->∀M' c' G',Dn A sh x y g room st n M c G (d1 (q,lot) am) M' c' G'->R .non G'):jL K A [.ref sh,.int lot,.tup [.int q.1,.int q.2],.int am] G R EX:=by
 refine aO7 s hl b ha h0 λe G1 R' EX' l hR=>?_;obtain⟨_,b2,_,_⟩:=pK (k:=kq q) hr v;exact apG (s.le l) v (by omega) (by omega) (show 0<=bR (cZ M c (kq q)) lot+am by have:=a67 (l:=lot) b2;omega) e λM' c' G' s' v' t' o' k'=>hR _ (h1 e M' c' G' ⟨s',v'.up (a0r _),agK (q:=q) t' o',k'.le l⟩)
def aJG(s:SH A sh x y g room st M c G)(v:Shv room n M c)(hn:n<800)(hl:0<=lot/\lot<=999)(b:OkB x y q.1 q.2)(ha:1<=am/\am<=1000000)(hr:0<=room)(h0:bR (cZ M c (kq q)) lot<am->EX A.bD G)
  (h1:am<=bR (cZ M c (kq q)) lot->∀M' c' G',Dn A sh x y g room st n M c G (d1 (q,lot) (-am)) M' c' G'->R .non G'):j6 K A [.ref sh,.int lot,.tup [.int q.1,.int q.2],.int am] G R EX:=by
 refine aJ5 s hl b ha h0 λe G1 R' EX' l hR=>?_;obtain⟨_,b2,b3,_⟩:=pK (k:=kq q) hr v;have e':am<=bR (cZ M c (kq q)) lot:=e;exact apG (s.le l) v (by omega) (by omega) (show 0<=bR (cZ M c (kq q)) lot+-am by omega) (show u9 (cZ M c (kq q))+-am<=room by omega) λM' c' G' s' v' t' o' k'=>hR _ (h1 e' M' c' G' ⟨s',v'.up (a0r _),agK (q:=q) t' o',k'.le l⟩)
def aCQ(s:SH A sh x y g room st M c G)(v:Shv room n M c)(hn:n<800)(hl:0<=lot/\lot<=999)(b:OkB x y q.1 q.2)(b2:OkB x y q2.1 q2.2)(ha:1<=am/\am<=1000000)(hr:0<=room)(h0:bR (cZ M c (kq q)) lot<am->EX A.bD G)(h0':am<=bR (cZ M c (kq q)) lot->q≠q2->room<u9 (cZ M c (kq q2))+am->EX A.cA G)
  (h1:am<=bR (cZ M c (kq q)) lot->(q≠q2->u9 (cZ M c (kq q2))+am<=room)->∀M' c' G',Dn A sh x y g room st n M c G (d2 q q2 lot am) M' c' G'->R .non G'):jX K A [.ref sh,.int lot,.tup [.int q.1,.int q.2],.tup [.int q2.1,.int q2.2],.int am] G R EX:=by
 refine⟨rfl,?_⟩;replace h1:am<=bR (cZ M c (kq q)) lot->(q≠q2->u9 (cZ M c (kq q2))+am<=room)->∀M' c' G',Dn A sh x y g room st n M c G (d2 q q2 lot am) M' c' G'->bB R .non G':=λa b M' c' G' z=>bB.here (h1 a b M' c' G' z);show qM K A _ _ [aj (.ref sh),aj (.int lot),aj (.tup [.int q.1,.int q.2]),aj (.tup [.int q2.1,.int q2.2]),aj (.int am)] G;exists qM;refine a0W hl ?_;exists uT;rw[iH s.sh rfl];symm;refine tY s.o b ?_;exists uR;rw[iH s.sh rfl];symm;refine tY s.o b2 ?_;exists uQ;refine a5Z ha ?_;exists uP,fO s.sh (m:="need_there") rfl;refine a66 s hl b (λz=>yS.here (h0 z)) λe G1 l=>?_;have e':am<=bR (cZ M c (kq q)) lot:=e;have s1:=s.le l;exists uO;refine⟨rfl,rfl,?_⟩;rw[amQ];by_cases eq:q=q2
 .rw[if_neg (by simp[eq])];exact h1 e' (λn=>absurd eq n) M c G1 ⟨s1,v.up (Nat.le_add_right _ _),(λa p l'=>by unfold d2;rw[if_pos eq];omega),(λq u _ _ w=>l _ _ w),λq hq=>.inl hq⟩
 .rw[if_pos (decide_eq_false eq)];have ne:kq q2≠kq q:=λw=>eq (amN w).symm;refine⟨by rw[fO s1.sh (m:="need_room") rfl];trivial,?_⟩;refine a8D s1 b2 (λz=>⟨_,l,h0' e' eq z⟩) λer G2 l2=>?_;have s2:=s1.le l2;exists qC;rw[iH s2.sh rfl];symm;obtain⟨_,p1,p3,_⟩:=pK (k:=kq q) hr v;refine apG s2 v (by omega) (by omega) (show 0<=bR (cZ M c (kq q)) lot+-am by omega) (show u9 (cZ M c (kq q))+-am<=room by omega) λM1 c1 G3 s3 v3 t3 o3 k3=>?_;exists pZ;rw[iH s3.sh rfl];symm;obtain⟨_,p4,p5,_⟩:=pK (k:=kq q2) hr v;have p6:=a67 (l:=lot) p4;have p7:u9 (cZ M c (kq q2))+am<=room:=er;refine apG s3 v3 (by omega) (by omega) (by rw[show cZ M1 c1 (ky q2.1 q2.2)=cZ M c (kq q2)from o3 _ ne];omega) (by rw[show cZ M1 c1 (ky q2.1 q2.2)=cZ M c (kq q2)from o3 _ ne];exact p7) λM2 c2 G4 s4 v4 t4 o4 k4=>h1 e' (λ_=>p7) M2 c2 G4 ⟨s4,v4,λa p l'=>?_,(k3.trans k4 (by rw[s3.st];simp)).le (l.trans l2)⟩;rw[agK (q:=q2) t4 o4,agK (q:=q) t3 o3];unfold d2;rw[if_neg eq];omega
def axI(T:Txt K mg A)(s:SH A sh x y g room st M c G)(v:Shv room n M c)(hn:n<800)(hl:0<=lot/\lot<=999)(b:OkB x y q.1 q.2)(ha:1<=am/\am<=1000000)(hr:0<=room)
  (h0:room<u9 (cZ M c (kq q))+am->∀G',Le G G'->R (.tup [.str "refused",.int 5]) G')
  (h1:u9 (cZ M c (kq q))+am<=room->∀M' c' G',Dn A sh x y g room st n M c G (d1 (q,lot) am) M' c' G'->R .non G'):fU K A [.ref sh,deD "put" lot q q2 am] G R EX:=by
 refine⟨rfl,?_⟩;show jO K A _ _ [aj (.ref sh),aj (deD "put" lot q q2 am),au,au,au,au,au,au] G;exists jO;rw[a3V rfl];exists pG,fO s.sh (m:="put") rfl;refine aOD s v hn hl b ha hr (λz=>⟨T.d7,λx hx=>?_⟩) λz M' c' G' d=>bB.here (h1 z M' c' G' d);symm;exact a8E T aD λG' l=>bB.here (h0 z G' ((Le.new hx).trans l))
def arZ(T:Txt K mg A)(s:SH A sh x y g room st M c G)(v:Shv room n M c)(hn:n<800)(hl:0<=lot/\lot<=999)(b:OkB x y q.1 q.2)(ha:1<=am/\am<=1000000)(hr:0<=room)
  (h0:bR (cZ M c (kq q)) lot<am->∀G',Le G G'->R (.tup [.str "refused",.int 4]) G')
  (h1:am<=bR (cZ M c (kq q)) lot->∀M' c' G',Dn A sh x y g room st n M c G (d1 (q,lot) (-am)) M' c' G'->R .non G'):fU K A [.ref sh,deD "take" lot q q2 am] G R EX:=by
 refine⟨rfl,?_⟩;show jO K A _ _ [aj (.ref sh),aj (deD "take" lot q q2 am),au,au,au,au,au,au] G;exists jO;rw[a3V rfl];exists pG,oE,nJ,fO s.sh (m:="take") rfl;refine aJG s v hn hl b ha hr (λz=>⟨T.bZ,λx hx=>?_⟩) λz M' c' G' d=>bB.here (h1 z M' c' G' d);symm;exact a3L T aD λG' l=>bB.here (h0 z G' ((Le.new hx).trans l))
def amS(T:Txt K mg A)(s:SH A sh x y g room st M c G)(v:Shv room n M c)(hn:n<800)(hl:0<=lot/\lot<=999)(b:OkB x y q.1 q.2)(b2:OkB x y q2.1 q2.2)(ha:1<=am/\am<=1000000)(hr:0<=room)
  (h0:bR (cZ M c (kq q)) lot<am->∀G',Le G G'->R (.tup [.str "refused",.int 4]) G')
  (h0':am<=bR (cZ M c (kq q)) lot->q≠q2->room<u9 (cZ M c (kq q2))+am->∀G',Le G G'->R (.tup [.str "refused",.int 5]) G')
  (h1:am<=bR (cZ M c (kq q)) lot->(q≠q2->u9 (cZ M c (kq q2))+am<=room)->∀M' c' G',Dn A sh x y g room st n M c G (d2 q q2 lot am) M' c' G'->R .non G'):fU K A [.ref sh,deD "shift" lot q q2 am] G R EX:=by
 refine⟨rfl,?_⟩;show jO K A _ _ [aj (.ref sh),aj (deD "shift" lot q q2 am),au,au,au,au,au,au] G;exists jO;rw[a3V rfl];exists pG,oE,wY,nO,nP,fO s.sh (m:="shift") rfl;refine aCQ s v hn hl b b2 ha hr (λz=>⟨T.bZ,λx hx=>?_⟩) (λz1 z2 z3=>⟨T.d7,λx hx=>?_⟩) λz z2 M' c' G' d=>bB.here (h1 z z2 M' c' G' d)
 .symm;exact a3L T aD λG' l=>bB.here (h0 z G' ((Le.new hx).trans l))
 .symm;exact a8E T aD λG' l=>bB.here (h0' z1 z2 z3 G' ((Le.new hx).trans l))
end
structure Sf where
 sh:bw
 st:bw
 m:bw
 n:Nat
 M:List (List Key×bw)
 c:bw->List (Int×Int)
 W:List Wk
abbrev Sf.ow(s:Sf):List bw:=s.st::s.m::s.M.map (·.2)
structure Sw(A:bC)(x y g:Nat)(room:Int)(s:Sf)(G:Gp):Prop where
 h:SH A s.sh x y g room s.st s.M s.c G
 v:Shv room s.n s.M s.c
 hm:G s.m=aj (.nU (wN s.W))
 r:Ro s.M s.c s.W
 wk:∀z∈s.W,-1000<=z.1.1.2/\z.1.1.2<=1000
 wl:s.W.length<=s.n
def Sw.le(o:Sw A x y g room s G)(l:Le G G'):Sw A x y g room s G':=⟨o.h.le l,o.v,l _ _ o.hm,o.r,o.wk,o.wl⟩
def Sw.up{s:Sf}{k:Nat}(o:Sw A x y g room s G)(l:s.n<=k):Sw A x y g room {s with n:=k} G:=⟨o.h,o.v.up l,o.hm,o.r,o.wk,qu o.wl l⟩
def Sw.out{s:Sf}(o:Sw A x y g room s G)(h:G q=aj u)(n1:∀t kvs,u≠.cF t kvs)(n2:∀kvs,u≠.nU kvs):q∉s.ow:=λm=>by
 rcases jd.mp m with rfl|m
 .rw[o.h.st]at h;exact n1 _ _ (jf.inj h).symm
 rcases jd.mp m with rfl|m
 .rw[o.hm]at h;exact n2 _ (jf.inj h).symm
 .obtain⟨z,hz,rfl⟩:=ig.mp m;rw[o.h.ins z hz]at h;exact n1 _ _ (jf.inj h).symm
def Sw.has{s:Sf}(o:Sw A x y g room s G)(m:q∈s.ow):G q≠au:=λh=>by
 rcases jd.mp m with rfl|m
 .rw[o.h.st]at h;cases h
 rcases jd.mp m with rfl|m
 .rw[o.hm]at h;cases h
 .obtain⟨z,hz,rfl⟩:=ig.mp m;rw[o.h.ins z hz]at h;cases h
structure K2(s s':Sf)(G G':Gp):Prop where
 k:∀q u,q∉s.ow->G q=aj u->G' q=aj u
 w:∀q∈s'.ow,q∈s.ow∨G q=au
 sh:s'.sh=s.sh
 m:s'.m=s.m
 n:s'.n=s.n+2
def Sw.off{s t:Sf}(o:Sw A x y g room s G)(d:∀q∈s.ow,q∉t.ow)(p:Sw A x y g room t G)(k:K2 t t' G G'):Sw A x y g room s G':=by
 have mm:∀z∈s.M,z.2∈s.ow:=λz hz=>.tail _ (.tail _ (ig.mpr ⟨z,hz,rfl⟩));exact⟨⟨o.h.o,k.k _ _ (p.out o.h.sh (λ_ _ z=>nomatch z) λ_ z=>nomatch z) o.h.sh,k.k _ _ (d _ (.head _)) o.h.st,λz hz=>k.k _ _ (d _ (mm z hz)) (o.h.ins z hz)⟩,o.v,k.k _ _ (d _ (.tail _ (.head _))) o.hm,o.r,o.wk,o.wl⟩
def K2.dj{s t t':Sf}(o:Sw A x y g room s G)(d:∀q∈s.ow,q∉t.ow)(k:K2 t t' G G'):∀q∈s.ow,q∉t'.ow:=λq hq m=>by
 rcases k.w q m with z|z
 .exact d q hq z
 .exact o.has hq z
def Sw.did{s:Sf}{q q2:Int×Int}(o:Sw A x y g room s G)(d:Dn A s.sh x y g room s.st s.n s.M s.c G dlo M' c' G1)(ww:WW s.W W' q q2 dlo)(hm:G2 s.m=aj (.nU (wN W')))(k2:∀a u,a≠s.m->G1 a=aj u->G2 a=aj u)(b:OkB x y q.1 q.2)(b2:OkB x y q2.1 q2.2)(hy:y<=99) :
  ∃s':Sf,Sw A x y g room s' G2/\K2 s s' G G2:=by
 obtain⟨e1,e2,e3,e4⟩:=d;have ns:s.sh≠s.m:=λz=>by have:=o.h.sh;rw[z,o.hm]at this;cases this
 have nt:s.st≠s.m:=λz=>by have:=o.h.st;rw[z,o.hm]at this;cases this
 have sm1:G1 s.m=aj (.nU (wN s.W)):=e4.1 _ _ (Ne.symm nt) (λz=>by obtain⟨y,hy,e⟩:=ig.mp z;have:=o.h.ins y hy;rw[e,o.hm]at this;cases this) o.hm;have nM:∀z∈M',z.2≠s.m:=λz hz w=>by have:=e1.ins z hz;rw[w,sm1]at this;cases this
 refine⟨⟨s.sh,s.st,s.m,s.n+2,M',c',W'⟩,⟨⟨e1.o,k2 _ _ ns e1.sh,k2 _ _ nt e1.st,λz hz=>k2 _ _ (nM z hz) (e1.ins z hz)⟩,e2,hm,o.r.step e3 ww.nd ww.va,λz hz=>?_,qu ww.len (Nat.add_le_add_right o.wl 2)⟩,⟨λa u n e=>?_,λa ha=>?_,rfl,rfl,rfl⟩⟩
 .have y9:(y:Int)<=99:=by omega
  obtain⟨_,_,b3,b4⟩:=b;obtain⟨_,_,b5,b6⟩:=b2;rcases ww.ks z hz with w|w|w
  .exact o.wk z w
  .rw[w];omega
  .rw[w];omega
 .exact k2 _ _ (λz=>n (by rw[z];exact .tail _ (.head _))) (e4.1 _ _ (λz=>n (by rw[z];exact .head _)) (λz=>n (.tail _ (.tail _ z))) e)
 .rcases jd.mp ha with rfl|ha
  .exact .inl (.head _)
  rcases jd.mp ha with rfl|ha
  .exact .inl (.tail _ (.head _))
  .rcases e4.2 a ha with z|z
   .exact .inl (.tail _ (.tail _ z))
   .exact .inr z
def K2.of_le{s:Sf}(o:Sw A x y g room s G)(l:Le G G'):Sw A x y g room {s with n:=s.n+2} G'/\K2 s {s with n:=s.n+2} G G':=⟨(o.le l).up (Nat.le_add_right _ _),λq u _ e=>l _ _ e,(λq h=>.inl h),rfl,rfl,rfl⟩
abbrev aCR(wd:Str):Prop:=wd="put" ∨ wd="take" ∨ wd="shift"
def amT(h:Q (.bl ao) G):zK .non .non G Q:=⟨rfl,rfl,h⟩
def agN{j:Int}(h:Q (.bl ao) G):zK (.tup [.str "refused",.int j]) (.tup [.str "refused",.int j]) G Q:=by
 rw[aoS];refine⟨rfl,rfl,?_⟩;rw[sU (n:=20) rfl];exact h
section
variable{s:Sf}{i:Int}{q q2:Int×Int}{lot am:Int}
def both(T:Txt K mg A)(o:Sw A x y g room s G)(hn:s.n<62)(hr:1<=room)(hw:aCR wd)(hl:0<=lot/\lot<=999)(b:OkB x y q.1 q.2)(b2:OkB x y q2.1 q2.2)(ha:1<=am/\am<=1000000)(hlm:G lm=aj (.lst ms))(hi:atI ms i=aj (.ref s.m))
  (h:∀s' G',Sw A x y g room s' G'->K2 s s' G G'->Q (.bl ao) G') :
  fU K A [.ref s.sh,deD wd lot q q2 am] G (λd G1=>cW (.ref lm) (.int i) G1 λmm G2=>jN K A [mm,.int room,deD wd lot q q2 am] G2 (λe G3=>zK d e G3 Q) EX2) EX:=by
 have hy:y<=99:=o.h.o.y1;have hr0:0<=room:=by omega
 have wl:=o.wl;have nm:s.m∉s.M.map (·.2):=λz=>by obtain⟨y,hy,e⟩:=ig.mp z;have:=o.h.ins y hy;rw[e,o.hm]at this;cases this
 have nt:s.m≠s.st:=λz=>by have:=o.h.st;rw[←z,o.hm]at this;cases this
 have ol:=o.out hlm (λ_ _ z=>nomatch z) λ_ z=>nomatch z;have lk:∀{M':List (List Key×bw)}{c':bw->List (Int×Int)}{G1:Gp}{dlo:(Int×Int)×Int->Int},Dn A s.sh x y g room s.st s.n s.M s.c G dlo M' c' G1->G1 lm=aj (.lst ms)/\G1 s.m=aj (.nU (wN s.W)):=λd=>⟨d.2.2.2.1 _ _ (λz=>ol (by rw[z];exact .head _)) (λz=>ol (.tail _ (.tail _ z))) hlm,d.2.2.2.1 _ _ nt nm o.hm⟩;have ev:∀k:(Int×Int)×Int,bR (cZ s.M s.c (kq k.1)) k.2=vW s.W k:=λk=>o.r.va k.1.1 k.1.2 k.2;rcases hw with rfl|rfl|rfl
 .refine axI T o.h o.v (by omega) hl b ha hr0 (λz G1 l1=>?_) λz M' c' G1 d=>?_
  .rw[o.r.sum o.v hr0]at z;rw[nZ (cM (l1 _ _ hlm)) hi];refine axH (l1 _ _ o.hm) o.r.nd (by omega) (λ_ G2 l2=>agN ?_) (λw=>by omega);obtain⟨a1,a2⟩:=K2.of_le o (l1.trans l2);exact h _ G2 a1 a2
  .rw[o.r.sum o.v hr0]at z;obtain⟨d1,d2⟩:=lk d;rw[nZ (cM d1) hi];refine axH d2 o.r.nd (by omega) (λw=>by omega) λ_ W' G2 ww hm2 k2=>amT ?_;obtain⟨s',o',k'⟩:=o.did d ww hm2 k2 b b2 hy;exact h s' G2 o' k'
 .refine arZ T o.h o.v (by omega) hl b ha hr0 (λz G1 l1=>?_) λz M' c' G1 d=>?_
  .rw[ev (q,lot)]at z;rw[nZ (cM (l1 _ _ hlm)) hi];refine apP (l1 _ _ o.hm) o.r.nd (by omega) (λ_=>agN ?_) (λw=>by omega);obtain⟨a1,a2⟩:=K2.of_le o l1;exact h _ G1 a1 a2
  .rw[ev (q,lot)]at z;obtain⟨d1,d2⟩:=lk d;rw[nZ (cM d1) hi];refine apP d2 o.r.nd (by omega) (λw=>by omega) λ_ W' G2 ww hm2 k2=>amT ?_;obtain⟨s',o',k'⟩:=o.did d ww hm2 k2 b b2 hy;exact h s' G2 o' k'
 .refine amS T o.h o.v (by omega) hl b b2 ha hr0 (λz G1 l1=>?_) (λz z2 z3 G1 l1=>?_) λz z2 M' c' G1 d=>?_
  .rw[ev (q,lot)]at z;rw[nZ (cM (l1 _ _ hlm)) hi];refine abF (l1 _ _ o.hm) o.r.nd (by omega) (λ_=>agN ?_) (λw=>by omega) (λw=>by omega);obtain⟨a1,a2⟩:=K2.of_le o l1;exact h _ G1 a1 a2
  .rw[ev (q,lot)]at z;rw[o.r.sum o.v hr0]at z3;rw[nZ (cM (l1 _ _ hlm)) hi];refine abF (l1 _ _ o.hm) o.r.nd (by omega) (λw=>by omega) (λ_ _ _ G2 l2=>agN ?_) (λ_ w=>absurd (w z2) (by omega));obtain⟨a1,a2⟩:=K2.of_le o (l1.trans l2);exact h _ G2 a1 a2
  .rw[ev (q,lot)]at z;rw[o.r.sum o.v hr0]at z2;obtain⟨d1,d2⟩:=lk d;rw[nZ (cM d1) hi];refine abF d2 o.r.nd (by omega) (λw=>by omega) (λ_ n w=>absurd (z2 n) (by omega)) λ_ _ W' G2 ww hm2 k2=>amT ?_;obtain⟨s',o',k'⟩:=o.did d ww hm2 k2 b b2 hy;exact h s' G2 o' k'
end
def aJH{W:List Wk}{ds:List D}(hm:G m=aj (.nU (wN W)))(nd:(W.map (·.1)).Nodup)(hl:W.length<64)(hh:G hd=aj (.lst ds))(hn:ds.length<1000)
  (h:∀r qs G',Le G G'->G r=au->G' r=aj (.lst (qs.map dR))->IsH (PW W) s qs->F.nx [aj (.ref m),aj (.ref hd),aj (dR s)] (aH G' hd (.lst (ds++[.tup [dR s,.ref r]])))):lU K A ex F [aj (.ref m),aj (.ref hd),aj (dR s)] G:=by
 have big:10000<dh:=by decide
 exists lU;refine⟨aOB hh,?_⟩;refine aJE (i:=0) rfl hm nd hl (λz=>decide (z.1.1=s)&&decide (0<z.2)) (λz=>dR (z.1.2,z.2)) (λz hz G' hg Q hQ=>axF (λQ hQ=>axG (k:=2) rfl hQ) (λQ hQ=>aCP (i:=0) nd hz rfl hg hQ) hQ) (λz hz _ G' hg Q hQ=>aJF (i:=0) nd hz rfl hg rfl hQ) λq hq=>?_;rw[fH];refine aOA (W:=PW W) (apO nd) (agJ hl) cQ λqs r hr ih=>?_;obtain⟨l2,f2⟩:=agI (.lst (qs.map dR)) hq hr;symm;rw[aj1 (l2 _ _ hh) (by omega)];exact h r qs _ l2 f2 aD ih
def aOE{W:List Wk}{qs:List (Int×Int)}(hm:G m=aj (.nU (wN W)))(nd:(W.map (·.1)).Nodup)(hl:W.length<64)(hly:G ly=aj (.lst []))(hr:G r=aj (.lst (qs.map dR)))(rl:r≠ly)(lq:qs.length<64)
  (h:∀es G' r2,Gr (aJA (PW W)) (rmG G ly) ly qs es G'->F.nx [aj (.ref m),aj (.ref ly),r2] G'):aoW (.lst r (qs.map dR)) (a01 2) (lU K A ex) F [aj (.ref m),aj (.ref ly),r2] G:=by
 have ml:m≠ly:=λz=>by rw[z,hly]at hm;cases hm
 refine aj0 (λk ρ G'=>∃r2 ds,ρ=[aj (.ref m),aj (.ref ly),r2]/\Gr (aJA (PW W)) (rmG G ly) ly (qs.take k) ds G') ⟨r2,[],rfl,.refl _,hly,.nil⟩ (λk ρ G' ⟨r2,ds,_,g⟩=>cM (g.all _ _ (a69 rl hr))) (λk d ρ G' hd' hh=>?_) λρ G1 hh=>?_
 .obtain⟨r2,ds,rfl,gr⟩:=hh;obtain⟨q,eq,rfl⟩:=awU hd';symm;refine aJH (gr.all _ _ (a69 ml hm)) nd hl gr.at' (by have:=gr.len;simp at this;omega) λr qs' G2 l2 f2 g2 ih=>⟨_,ds++[.tup [dR q,.ref r]],rfl,?_⟩;have ht:qs.take (k+1)=qs.take k++[q]:=by rw[a2b,eq];rfl
  rw[ht];exact gr.app (λ_ _ _ _ l ⟨hs,r,e1,e2,e3⟩=>⟨hs,r,e1,l _ _ e2,e3⟩) l2 ⟨qs',r,rfl,a69 (λz=>by rw[z,gr.at']at f2;cases f2) g2,ih⟩
 .obtain⟨r2,ds,rfl,gr⟩:=hh;rw[gk,a1r]at gr;exact h ds G1 r2 gr
def aOF{W:List Wk}(hm:G m=aj (.nU (wN W)))(nd:(W.map (·.1)).Nodup)(hl:W.length<64)
  (h:∀ly zs es G',Le G G'->G' ly=aj (.lst es)->IsL (PW W) zs->Paired (λz e=>∃q,e=.tup [dR z.1,.ref q]/\G' q=aj (.lst (z.2.map dR))) zs es->R (.ref ly) G'):pI K A [.ref m] G R EX:=by
 have big:10000<dh:=by decide
 refine⟨rfl,?_⟩;show yF K A _ _ [aj (.ref m),au,au] G;exists yF;intro ly f3;have l3:Le G (aH G ly (.lst [])):=.new f3;exists a0P;refine aJE (i:=0) rfl (l3 _ _ hm) nd hl (λz=>decide (0<z.2)) (λz=>.tup [.tup [.int z.1.1.1,.int z.1.1.2],.bl ak]) (λz hz G' hg Q hQ=>aCP (i:=0) nd hz rfl hg hQ) (λz hz hf G' hg Q hQ=>?_) λq hq=>?_
 .symm;exact hQ
 have eF:((W.filter λz=>decide (0<z.2)).map λz:Wk=>D.tup [.tup [.int z.1.1.1,.int z.1.1.2],.bl ak])=((PW W).map (·.1.1)).map λq=>.tup [.tup [.int q.1,.int q.2],.bl ak]:=by rw[kh];rfl
 rw[eF,arI cQ];intro t ht;have lp:=agJ hl;obtain⟨l4,_⟩:=agI (setG (((PW W).map (·.1.1)).foldl a2A [])) hq ht;refine aj7 (ps:=((PW W).map (·.1.1)).foldl a2A []) aD (by rw[kh];rfl) (ajZ a0u) (by have:=a77 (M:=(PW W).map (·.1.1)) (N:=[]);simp at this;omega) λqs p1 p2 r hr=>?_;have l5:=l4.trans (Le.new (o:=.lst (qs.map dR)) hr);rw[aeC cQ]
 have nly:r≠ly:=λz=>by
  have:=l4 _ _ (show aH G ly (.lst []) ly=_ from aD);rw[z,this]at hr;cases hr
 have lq:qs.length<64:=by
  have e1:=p1.length_eq;have:=a77 (M:=(PW W).map (·.1.1)) (N:=[]);simp at this;omega
 refine aOE (l5 _ _ (l3 _ _ hm)) nd hl (l5 _ _ aD) aD nly lq λes G6 r2' gr3=>?_;have l6:Le G (rmG G6 ly):=λa u e=>gr3.le _ _ (a69 (λz=>by rw[z,f3]at e;cases e) (l5 _ _ (l3 _ _ e)));exists a0O;obtain⟨zs,z1,z2,z3⟩:=axA gr3.pr
 have isl:IsL (PW W) zs:=IsL.mk' p2 (λs=>p1.mem_iff.trans (aj4.trans ⟨λw=>by
  rcases w with w|w
  .cases w
  .obtain⟨z,hz,e⟩:=ig.mp w;exact⟨z.1.2,z.2,by rw[←e];exact hz⟩,λ⟨l,w,m⟩=>.inr (ig.mpr ⟨_,m,rfl⟩)⟩)) z1 z2
 exact bB.here (h ly zs es G6 (l6.trans abD) gr3.at' isl (Paired.aeS z3 (by rintro _ _ ⟨q,e,z⟩;exact⟨q,e,abD _ _ z⟩)))
def Sw.rm{s:Sf}(o:Sw A x y g room s G):SH A s.sh x y g room s.st s.M s.c (rmG G s.m):=by
 have n:∀q u,G q=aj u->(∀kvs,u≠.nU kvs)->rmG G s.m q=aj u:=λq u e nu=>a69 (λz=>by rw[z,o.hm]at e;exact nu _ (jf.inj e).symm) e;exact⟨o.h.o,n _ _ o.h.sh (λ_ z=>nomatch z),n _ _ o.h.st (λ_ z=>nomatch z),λz hz=>n _ _ (o.h.ins z hz) (λ_ z=>nomatch z)⟩
def apQ{W:List Wk}(hm:G m=aj (.nU (wN W)))(l:Le (rmG G m) G1):Le G (aH G1 m (.nU (wN W))):=λq u e=>by
 by_cases z:q=m
 .rw[z,aD,←e,z,hm]
 .rw[aW z];exact l _ _ (a69 z e)
def axJ{qs:List (Int×Int)}:∀x∈qs.map dR,okN G (n+1) x x=ak:=λx hx=>by
 obtain⟨q,_,rfl⟩:=ig.mp hx;cases n<;>rfl
def aOG{qs:List ((Int×Int)×Int)}:∀x∈qs.map pcE,okN G (n+2) x x=ak:=λx hx=>by
 obtain⟨q,_,rfl⟩:=ig.mp hx;cases n<;>rfl
def ak0(h1:G p=aj (.lst xs))(h2:G r=aj (.lst xs))(ok:∀x∈xs,okN G 4 x x=ak)(h:R (.bl ak) G):a7T (.ref p) (.ref r) G R:=by
 rw[aoY (cM h1) (cM h2)];obtain⟨a,b⟩:=a9D ok;refine⟨a,?_⟩;rw[show alJ G xs xs=ak from b];exact h
section
variable{s:Sf}{q:Int×Int}{lot:Int}
@[simp]def Aft(s:Sf)(G G':Gp):Prop:=Le G G'∨((∃od,G' s.m=aj (.rnm od (wN s.W)))/\Le G (aH G' s.m (.nU (wN s.W))))
def apR(o:Sw A x y g room s G)(hp:G p=au)(np:p≠s.m):∃G1,G1=aH (aH G s.m (.rnm od (wN s.W))) p (.lst xs)/\Le (rmG G s.m) G1/\G1 s.m=aj (.rnm od (wN s.W))/\G1 p=aj (.lst xs):=by
 refine⟨_,rfl,λa u e=>?_,by rw[aW (Ne.symm np),aD],aD⟩;have e1:=abD _ _ e;rw[aW (λz=>by rw[z,hp]at e1;cases e1),aW (λz=>by rw[z]at e;unfold rmG at e;rw[if_pos rfl]at e;cases e)];exact e1
def aOH(o:Sw A x y g room s G)(hl:0<=lot/\lot<=999)(b:OkB x y q.1 q.2)(h:∀G',Aft s G G'->F.rt (.bl ak) G'):cL K A ex F [aj (.ref s.sh),aj (.ref s.m),aj (.int lot),aj (dR q),aj (.int 0),au,au,au] G:=by
 exists cL;refine⟨by rw[fO o.h.sh (m:="amount") rfl];trivial,?_⟩;refine ajV o.h hl b λG1 l1=>?_;refine a1W (k:=(q,lot)) (l1 _ _ o.hm) ?_;symm;rw[show(aL (cZ s.M s.c (ky q.1 q.2)) lot).getD 0=vW s.W (q,lot)from o.r.va q.1 q.2 lot,beq_self_eq_true];exact h G1 (.inl l1)
def aOI(o:Sw A x y g room s G)(hn:s.n<64)(hr:0<=room)(b:OkB x y q.1 q.2)(h:∀G',Aft s G G'->F.rt (.bl ak) G'):cL K A ex F [aj (.ref s.sh),aj (.ref s.m),aj (.int lot),aj (dR q),aj (.int 2),au,au,au] G:=by
 have wl:=o.wl;exists cL;exists jP;exists mY;refine⟨by rw[fO o.h.sh (m:="filled") rfl];trivial,?_⟩;refine ajW o.h b λG1 l1=>?_;symm;refine agM (l1 _ _ o.hm) o.r.nd (by omega) λG2 l2=>?_;symm;rw[show((cZ s.M s.c (ky q.1 q.2)).map (·.2)).sum=a4F s.W q from o.r.sum o.v hr q,beq_self_eq_true];exact h G2 (.inl (l1.trans l2))
def aOJ(o:Sw A x y g room s G)(hn:s.n<64)(hr:0<=room)(b:OkB x y q.1 q.2)(h:∀G',Aft s G G'->F.rt (.bl ak) G'):cL K A ex F [aj (.ref s.sh),aj (.ref s.m),aj (.int lot),aj (dR q),aj (.int 1),au,au,au] G:=by
 have wl:=o.wl;have nd:=o.r.nd;exists cL;exists jP;refine aJD o.hm nd (by omega) (λz=>decide (z.1.1=q)&&decide (0<z.2)) (λz=>dR (z.1.2,z.2)) (λz hz G' hg Q hQ=>axF (λQ hQ=>axG (k:=3) rfl hQ) (λQ hQ=>aCP (i:=1) nd hz rfl hg hQ) hQ) (λz hz _ G' hg Q hQ=>aJF (i:=1) nd hz rfl hg rfl hQ) λod p hp np=>?_;rw[fH];obtain⟨G1,eG,l1,m1,g1⟩:=apR o (od:=od) (xs:=((PW s.W).filter λz=>decide (z.1.1=q)).map λz=>dR (z.1.2,z.2)) hp np;rw[←eG];clear eG;have s1:=o.rm.le l1;exists v9;refine⟨by rw[fO s1.sh (m:="held") rfl];trivial,?_⟩;refine agH s1 o.v hn hr (o.r.rl o.v hr) b λrr qs G2 l2 f2 g2 i2 _=>?_;symm;refine aOA (W:=PW s.W) (apO nd) (agJ (by omega)) (cM (l2 _ _ g1)) λqs2 r3 hr3 ih=>?_;rw[ih.eq i2];have l3:Le G2 (aH G2 r3 (.lst (qs.map dR))):=.new hr3;refine ak0 (l3 _ _ g2) aD axJ (h _ (.inr ⟨⟨od,l3 _ _ (l2 _ _ m1)⟩,apQ o.hm (l1.trans (l2.trans l3))⟩))
def aOK(o:Sw A x y g room s G)(hn:s.n<64)(hr:0<=room)(hl:0<=lot/\lot<=999)(h:∀G',Aft s G G'->F.rt (.bl ak) G'):cL K A ex F [aj (.ref s.sh),aj (.ref s.m),aj (.int lot),aj (dR q),aj (.int 3),au,au,au] G:=by
 have wl:=o.wl;have nd:=o.r.nd;exists cL;exists jP;exists mY;exists tQ;refine aJD o.hm nd (by omega) (λz=>decide (z.1.2=lot)&&decide (0<z.2)) (λz=>pcE (z.1.1,z.2)) (λz hz G' hg Q hQ=>axF (λQ hQ=>aOC (k:=2) rfl hQ) (λQ hQ=>aCP (i:=1) nd hz rfl hg hQ) hQ) (λz hz _ G' hg Q hQ=>aJF (i:=1) nd hz rfl hg rfl hQ) λod p hp np=>?_;rw[fP];obtain⟨G1,eG,l1,m1,g1⟩:=apR o (od:=od) (xs:=((PW s.W).filter λz=>decide (z.1.2=lot)).map λz=>pcE (z.1.1,z.2)) hp np;rw[←eG];clear eG;have s1:=o.rm.le l1;exists vA;refine⟨by rw[fO s1.sh (m:="places") rfl];trivial,?_⟩;refine arX s1 o.v hn hr (o.r.rl o.v hr) hl λrr qs G2 l2 f2 g2 i2 _=>?_;symm;refine aRT (W:=PW s.W) (apO nd) (agJ (by omega)) (λz hz=>o.wk z (nj.mp hz).1) (cM (l2 _ _ g1)) λqs2 r3 hr3 ih=>?_;rw[ih.eq i2];have l3:Le G2 (aH G2 r3 (.lst (qs.map pcE))):=.new hr3;refine ak0 (l3 _ _ g2) aD aOG (h _ (.inr ⟨⟨od,l3 _ _ (l2 _ _ m1)⟩,apQ o.hm (l1.trans (l2.trans l3))⟩))
end
section
variable{s:Sf}{q:Int×Int}{lot:Int}
def aOL(o:Sw A x y g room s G)(hn:s.n<64)(hr:0<=room)(h:∀G',Aft s G G'->F.rt (.bl ak) G'):cL K A ex F [aj (.ref s.sh),aj (.ref s.m),aj (.int lot),aj (dR q),aj (.int 4),au,au,au] G:=by
 have big:10000<dh:=by decide
 have wl:=o.wl;have nd:=o.r.nd;have rl:=o.r.rl o.v hr;exists cL;exists jP;exists mY;exists tQ;exists a0T;refine⟨by rw[fO o.h.sh (m:="lying") rfl];trivial,?_⟩;refine apJ o.h o.v hn λt qs N c' G4 l4 ly=>?_;exists a0S;rw[am0 (T:="dict") (by show(match G4 t with|some (.lst _)=>aj "list"|some (.rol _)=>aj "list"|some (.cF _ _)=>aj "dict"|_=>au)=aj "dict";rw[ly.tt]) (by decide)];rw[show L2.subB "dict" "dict"=ak from rfl];symm;exists a0R;rw[aCG ly.tt];intro od;have l5:=aCN (o:=.rdc od ak (N.map ktD)) l4 ly.t0;have it:=amO (t:=t) (od:=od) ly.kq
 have lq:qs.length<64:=by
  have e1:=congrArg a2h ly.kq;have e2:=ly.ke.length_eq;simp at e1 e2;have:=o.v.len;omega
 have iN:∀z∈N,aH G4 t (.rdc od ak (N.map ktD)) z.2=aj (.cF ao ((c' z.2).map rK)):=λz hz=>by
  rw[aW λw=>by have:=(ly.ins z hz).1;rw[w,ly.tt]at this;cases this];exact(ly.ins z hz).1
 refine aCM (λd y G=>∃q hs r,d=dR q/\y=.tup [dR q,.ref r]/\G r=aj (.lst (hs.map dR))/\IsH (PW s.W) q hs) (by rintro d y G5 G' l ⟨q,hs,r,e1,e2,e3,e4⟩;exact⟨q,hs,r,e1,e2,l _ _ e3,e4⟩) (by rw[it,gk];omega) aD (λd hd G6 l6 Q hQ=>?_) λp5 es G8 l8 f8 g8 P8=>?_
 .rw[it]at hd;obtain⟨q,hq,rfl⟩:=ig.mp hd;symm;have mq:kq q∈N.map (·.1):=by rw[ly.kq];exact ig.mpr ⟨q,hq,rfl⟩
  obtain⟨z,hz,ez⟩:=ig.mp mq;have vd:aL N (kq q)=aj z.2:=by rw[←ez];exact nC (ly.ke.nodup_iff.mpr o.v.kn) hz
  obtain⟨_,i2,i3,_⟩:=ly.ins z hz;rw[ez]at i2;rw[show dR q=.tup [.int q.1,.int q.2]from rfl,aj5 (arL (l6 _ _ aD)) rN rfl (by rw[rO,vd];rfl)];symm;refine awW (l6 _ _ (iN z hz)) (by rw[i2.length_eq];have:=(pK (k:=kq q) hr o.v).2.2.2;omega) λl hl=>?_;symm;exact hQ (.tup [dR q,.ref l]) _ (.new hl) λp hp=>⟨q,c' z.2,l,rfl,rfl,a69 (λz=>hp (by rw[←z];exact hl)) aD,i3,λl' w=>i2.mem_iff.trans (rl.mem o.v hr)⟩
 rw[it]at P8;obtain⟨zs,z1,z2,z3⟩:=aE6 P8;have isl:IsL (PW s.W) zs:=IsL.mk' ly.ri (λq=>ax9.symm.trans ((ly.kq ▸ ly.ke.mem_iff).trans (ax8 o.v hr rl))) z1 z2;have la:=l5.trans l8;exists a0Q;refine aOF (la _ _ o.hm) nd (by omega) λly2 zs2 es2 G9 l9 g9 aRZ P9=>?_;rw[aRZ.eq isl]at P9;rw[aoY (cM (l9 _ _ g8)) (cM g9)]
 obtain⟨a,b⟩:=aeP (f:=okN G9 4) (g:=eqN G9 4) (λz d e ⟨q,ed,gd⟩ ⟨q2,ee,ge⟩=>by
  obtain⟨a,b⟩:=aJ9 (n:=2) gd ge (a9D axJ);rw[ed,ee];constructor
  .show(okN G9 3 (dR z.1) (dR z.1)&&(okN G9 3 (.ref q) (.ref q2)&&ak))=ak;rw[a];rfl
  .show(eqN G9 3 (dR z.1) (dR z.1)&&(eqN G9 3 (.ref q) (.ref q2)&&ak))=ak;rw[b,a03 3 (dR z.1) rfl];rfl) (Paired.aeS z3 λ_ _ ⟨q,e,z⟩=>⟨q,e,l9 _ _ (abD _ _ z)⟩) P9
 refine⟨a,?_⟩;rw[show alJ G9 es es2=ak from b];exact h G9 (.inl (la.trans l9))
def aCS(o:Sw A x y g room s G)(hn:s.n<64)(hr:0<=room)(hl:0<=lot/\lot<=999)(b:OkB x y q.1 q.2){w:Int}(hw:0<=w/\w<5)(h:∀G',Aft s G G'->R (.bl ak) G'):pJ K A [.ref s.sh,.ref s.m,.int lot,dR q,.int w] G R EX:=by
 refine⟨rfl,?_⟩;have h':∀G',Aft s G G'->bB R (.bl ak) G':=λG' l=>bB.here (h G' l);show cL K A _ _ [aj (.ref s.sh),aj (.ref s.m),aj (.int lot),aj (dR q),aj (.int w),au,au,au] G;have c:w=0∨w=1∨w=2∨w=3∨w=4:=by omega
 rcases c with rfl|rfl|rfl|rfl|rfl
 .exact aOH o hl b h'
 .exact aOJ o hn hr b h'
 .exact aOI o hn hr b h'
 .exact aOK o hn hr hl h'
 .exact aOL o hn hr h'
def ak1{a:bw}{ss:List (Int×Int)}{k:Nat}(hk:k<100)(o:Sw A x y g room s G)(hn:s.n<64)(hr:0<=room)(hG:G a=aj (.rol (ns.map D.int)))(hs:G r=aj (.lst (ss.map dR)))(ls:ss.length=4)(bs:∀q∈ss,OkB x y q.1 q.2)(h:∀G',Le G G'->R (.bl ak) G'):jQ K A [.ref s.sh,.ref s.m,.ref a,.int (k:Int),.ref r] G R EX:=by
 refine⟨rfl,?_⟩;have h':∀G',Le G G'->bB R (.bl ak) G':=λG' l=>bB.here (h G' l);clear h;show vP K A _ _ [aj (.ref s.sh),aj (.ref s.m),aj (.ref a),aj (.int k),aj (.ref r),au,au,au,au] G;exists vP;rw[show(60:Int)+(k:Int)=((60+k:Nat):Int) by omega];refine qR (k:=60+k) hG (by omega) ?_;generalize cellAt ns (60+k)=cc;exists zE;refine qR (k:=4) hG (by omega) ?_;generalize cellAt ns 4=c4;symm;refine qR (k:=5) hG (by omega) ?_;generalize cellAt ns 5=c5;symm;intro lp f1;have l1:Le G (aH G lp (.lst [.int (c4%1000),.int (c5%1000),.int 0,.int 999,.int 7])):=.new f1;have g1:aH G lp (.lst [.int (c4%1000),.int (c5%1000),.int 0,.int 999,.int 7]) lp=aj (.lst ([c4%1000,c5%1000,0,999,7].map D.int)):=aD;generalize aH G lp _=G1 at l1 g1 ⊢
 have bl:∀l∈[c4%1000,c5%1000,0,999,7],0<=l/\l<=999:=λl hl=>by
  simp only[jd,a0d,or_false]at hl;omega
 exists zB;refine aiZ (λk' ρ G'=>∃r7 r8,ρ=[aj (.ref s.sh),aj (.ref s.m),aj (.ref a),aj (.int k),aj (.ref r),aj (.int cc),aj (.ref lp),r7,r8]/\Le G1 G') ⟨_,_,rfl,.refl _⟩ (λk' ρ G' hk' z=>?_) λρ G' z=>?_
 .obtain⟨r7,r8,rfl,l2⟩:=z;symm;have lm:-18446744073709551616<(k':Int)/\(k':Int)<18446744073709551616:=by omega
  exists wZ;obtain⟨w,ew⟩:∃w,w=(cc+(k':Int)*(1+cc / 5%4))%5:=⟨_,rfl⟩;have hw:0<=w/\w<5:=by omega
  rw[←ew];clear ew;exists tR;have o2:=o.le (l1.trans l2);refine awV (i:=1) rfl o2.hm ?_;symm;refine xT (cM (l2 _ _ g1)) (by omega) (by show cc / 20%5<5;omega) λd hd=>?_;obtain⟨lot,aS0,rfl⟩:=ig.mp hd;symm;refine xT (cM (l2 _ _ (l1 _ _ hs))) (by omega) (by rw[gk,ls];show cc / 100%4<4;omega) λd hd=>?_;obtain⟨q,hq,rfl⟩:=ig.mp hd;symm;refine aCS o2 hn hr (bl lot aS0) (bs q hq) hw λG3 a3=>?_;rcases a3 with l3|⟨od,l3⟩
  .left;symm;exact⟨_,_,rfl,l2.trans l3⟩
  .right;refine⟨od,?_⟩;symm;exact⟨_,_,rfl,l2.trans l3⟩
 .obtain⟨r7,r8,rfl,l2⟩:=z;exists zA;exact h' _ (l1.trans l2)
end
structure Spo(x y:Nat)(ss:List (Int×Int)):Prop where
 n:ss.length=4
 b:∀q∈ss,OkB x y q.1 q.2
def aCT{y g:Nat}(o:OkP x y g)(hG:G a0=aj (.rol (ns.map D.int)))(h:∀ss r G',Spo x y ss->Le G G'->G' r=aj (.lst (ss.map dR))->R (.ref r) G'):pH K A [.ref a0,plD x y g] G R EX:=by
 refine⟨rfl,?_⟩;have h':∀ss r G',Spo x y ss->Le G G'->G' r=aj (.lst (ss.map dR))->bB R (.ref r) G':=λds r G' a b c=>bB.here (h ds r G' a b c);clear h;have o1:=o.x0;have o2:=o.y0;show yE K A _ _ [aj (.ref a0),aj (plD x y g),au,au,au,au] G;exists yE;refine qR (k:=3) hG (by omega) ?_;generalize cellAt ns 3=c;have x0:0<(x:Int):=by omega
 have y0:0<(y:Int):=by omega
 have mx:∀i:Int,0<=i%(x:Int)/\i%(x:Int)<x:=λi=>⟨a2s i (by omega),Int.emod_lt_of_pos i (by omega)⟩;have my:∀i:Int,0<=i%(y:Int)/\i%(y:Int)<y:=λi=>⟨a2s i (by omega),Int.emod_lt_of_pos i (by omega)⟩;have ok:∀i j:Int,OkB x y (i%(x:Int)) (1+j%(y:Int)):=λi j=>⟨(mx i).1,(mx i).2,by have:=(my j).1;omega,by have:=(my j).2;omega⟩;unfold plD;obtain⟨a1,ea1⟩:∃a1,a1=c%(x:Int):=⟨_,rfl⟩;obtain⟨p1,ep1⟩:∃p1,p1=1+c / 26%(y:Int):=⟨_,rfl⟩;obtain⟨p2,ep2⟩:∃p1,p1=1+c / 2600%(y:Int):=⟨_,rfl⟩;obtain⟨N,eN,hN⟩:∃N:Int,N=260000/\0<N/\N<1073741824:=⟨_,rfl,by omega,by omega⟩;obtain⟨a3,ea3⟩:∃a1,a1=c / N%(x:Int):=⟨_,rfl⟩;obtain⟨a4,ea4⟩:∃a1,a1=c / 7%(x:Int):=⟨_,rfl⟩;obtain⟨p4,ep4⟩:∃p1,p1=1+c / 11%(y:Int):=⟨_,rfl⟩;have b1:OkB x y a1 p1:=by rw[ea1,ep1];exact ok _ _
 have b2:OkB x y a1 p2:=by rw[ea1,ep2];exact ok _ _
 have b3:OkB x y a3 p1:=by rw[ea3,ep1];exact ok _ _
 have b4:OkB x y a4 p4:=by rw[ea4,ep4];exact ok _ _
 exists a0M;rw[←ea1,←ep1];exists a0L;rw[←ep2];simp only[a0K];rw[←eN];simp(implicitDefEqProofs:=false) only[L5.aDW,L5.aDX,L5.aDZ,L5.awC,L5.aNM,L5.aw6,L5.aw7,L5.x_c];rw[aoV hN,aoT,awG x0,aoU,←ea3];clear ea3 hN eN;symm;exists a0J;rw[←ea4,←ep4];intro r hr;refine h' [(a1,p1),(a1,p2),(a3,p1),(a4,p4)] r _ ⟨rfl,λq hq=>?_⟩ (.new hr) aD;simp only[jd,a0d,or_false]at hq;rcases hq with rfl|rfl|rfl|rfl
 .exact b1
 .exact b2
 .exact b3
 .exact b4
def aJJ{y:Nat}{ss:List (Int×Int)}{k:Nat}(hk:k<100)(hr:1<=room/\room<=1000000)(hG:G a0=aj (.rol (ns.map D.int)))(sp:Spo x y ss)(hs:G r=aj (.lst (ss.map dR)))
  (h:∀wd lot q q2 am G',Le G G'->aCR wd->0<=lot/\lot<=999->OkB x y q.1 q.2->OkB x y q2.1 q2.2->1<=am/\am<=1000000->R (deD wd lot q q2 am) G'):sG K A [.ref a0,.int (k:Int),.ref r,.int room] G R EX:=by
 have big:10000<dh:=by decide
 refine⟨rfl,?_⟩;have h':∀wd lot q q2 am G',Le G G'->aCR wd->0<=lot/\lot<=999->OkB x y q.1 q.2->OkB x y q2.1 q2.2->1<=am/\am<=1000000->bB R (deD wd lot q q2 am) G':=λ_ _ _ _ _ _ a b c d e f=>bB.here (h _ _ _ _ _ _ a b c d e f);clear h;show a0N K A _ _ [aj (.ref a0),aj (.int k),aj (.ref r),aj (.int room),au,au,au,au,au] G;exists a0N;rw[show(10:Int)+2*(k:Int)=((10+2*k:Nat):Int) by omega];refine qR (k:=10+2*k) hG (by omega) ?_;generalize cellAt ns (10+2*k)=c;exists a3J;rw[show(11:Int)+2*(k:Int)=((11+2*k:Nat):Int) by omega];refine qR (k:=11+2*k) hG (by omega) ?_;generalize cellAt ns (11+2*k)=c2;exists a3I;intro q1 n1;refine xT cQ (by omega) (by show c%5<5;omega) λwd hwd=>?_;have l1:=Le.new (o:=.lst [D.str "put",.str "put",.str "take",.str "shift",.str "shift"]) n1;generalize hG1:aH G q1 _=G1 at l1 ⊢
 obtain⟨ws,rfl,hW⟩:∃ws:Str,wd=.str ws/\aCR ws:=by
  simp only[jd,a0d,or_false]at hwd;rcases hwd with rfl|rfl|rfl|rfl|rfl
  .exact⟨_,rfl,.inl rfl⟩
  .exact⟨_,rfl,.inl rfl⟩
  .exact⟨_,rfl,.inr (.inl rfl)⟩
  .exact⟨_,rfl,.inr (.inr rfl)⟩
  .exact⟨_,rfl,.inr (.inr rfl)⟩
 exists a3H;refine qR (k:=4) (l1 _ _ hG) (by omega) ?_;generalize cellAt ns 4=c4;symm;refine qR (k:=5) (l1 _ _ hG) (by omega) ?_;generalize cellAt ns 5=c5;symm;intro q2 n2;have l2:=l1.trans (Le.new (o:=.lst [.int (c4%1000),.int (c5%1000),.int 0,.int 999,.int 7]) n2);have aOM:aH G1 q2 (.lst [.int (c4%1000),.int (c5%1000),.int 0,.int 999,.int 7]) q2=aj (.lst [.int (c4%1000),.int (c5%1000),.int 0,.int 999,.int 7]):=aD;generalize aH G1 q2 _=G2 at l2 aOM ⊢;exists a3G;intro q3 n3;have l3:=l2.trans (Le.new (o:=.lst [D.int (1+c2 / 7%if 1<room / 2 then room / 2 else 1),.int (1+c2 / 7%room),.int 1,.int room]) n3);refine xT cQ (by omega) (by show c2%4<4;omega) λz hz=>?_
 obtain⟨t,rfl,ht⟩:∃t:Int,z=.int t/\1<=t:=by
  simp only[jd,a0d,or_false]at hz;rcases hz with rfl|rfl|rfl|rfl
  .exact⟨_,rfl,by have:=a2s (c2 / 7) (show(if 1<room / 2 then room / 2 else 1:Int)≠0 by split<;>omega);omega⟩
  .exact⟨_,rfl,by have:=a2s (c2 / 7) (show room≠0 by omega);omega⟩
  .exact⟨_,rfl,by omega⟩
  .exact⟨_,rfl,by omega⟩
 have hq2:=(Le.new (o:=.lst [D.int (1+c2 / 7%if 1<room / 2 then room / 2 else 1),.int (1+c2 / 7%room),.int 1,.int room]) n3) _ _ aOM;generalize aH _ q3 _=G3 at l3 hq2 ⊢;have hs3:=l3 _ _ hs;have e6:(10:Int)^Int.toNat 6=1000000:=by decide
 exists a3F;refine xT (a5M hq2) (by omega) (by show c / 5%5<5;omega) λz hz=>?_
 obtain⟨lot,rfl,hl⟩:∃t:Int,z=.int t/\0<=t/\t<=999:=by
  simp only[jd,a0d,or_false]at hz;rcases hz with rfl|rfl|rfl|rfl|rfl
  .exact⟨_,rfl,by omega⟩
  .exact⟨_,rfl,by omega⟩
  .exact⟨_,rfl,by omega⟩
  .exact⟨_,rfl,by omega⟩
  .exact⟨_,rfl,by omega⟩
 symm;refine xT (a5M hs3) (by omega) (by rw[gk,sp.n];show c / 25%4<4;omega) λz hz=>?_;obtain⟨q,hq,rfl⟩:=ig.mp hz;symm;refine xT (a5M hs3) (by omega) (by rw[gk,sp.n];show c / 100%4<4;omega) λz hz=>?_;obtain⟨q2,aS3,rfl⟩:=ig.mp hz;symm;rw[e6];exact h' _ _ _ _ _ _ l3 hW hl (sp.b q hq) (sp.b q2 aS3) (by split<;>omega)
def ix0{r:List D}(h:G p=aj (.lst (d::r))):cW (.ref p) (.int 0) G R=R d G:=nZ (cM h) at0
abbrev Hd(hp:bw)(s1 s2:Sf)(G:Gp)(d:D):Prop:=∃p q,d=.tup [.ref p,.ref q]/\((∃qs:List (Int×Int),G p=aj (.lst (qs.map dR))/\G q=aj (.lst (qs.map dR))/\p≠hp/\q≠hp)∨(G p=aj (.cF ak [])/\G q=aj (.cF ak [])/\(p∉s1.ow/\p∉s2.ow)/\q∉s1.ow/\q∉s2.ow))
structure L22(A:bC)(a:bw)(ns:List Int)(r:bw)(ss:List (Int×Int))(lm:bw)(ms:List D)(i1 i2:Int)(x y g:Nat)(room:Int)(sh1 sh2:bw)(s1 s2:Sf)(hp:bw)(hs:List D)(G:Gp):Prop where
 hG:G a=aj (.rol (ns.map D.int))
 hr:G r=aj (.lst (ss.map dR))
 hm:G lm=aj (.lst ms)
 m1:atI ms i1=aj (.ref s1.m)
 m2:atI ms i2=aj (.ref s2.m)
 e1:s1.sh=sh1
 e2:s2.sh=sh2
 o1:Sw A x y g room s1 G
 o2:Sw A x y g room s2 G
 dj:∀q∈s1.ow,q∉s2.ow
 hh:G hp=aj (.lst hs)
 hk:∀d∈hs,Hd hp s1 s2 G d
section
variable{a r:bw}{ns:List Int}{hs:List D}{i1 i2:Int}{s1 s2:Sf}
def L22.le(w:L22 A a ns r ss lm ms i1 i2 x y g room sh1 sh2 s1 s2 hp hs G)(l:Le G G'):L22 A a ns r ss lm ms i1 i2 x y g room sh1 sh2 s1 s2 hp hs G':=⟨l _ _ w.hG,l _ _ w.hr,l _ _ w.hm,w.m1,w.m2,w.e1,w.e2,w.o1.le l,w.o2.le l,w.dj,l _ _ w.hh,λd hd=>by
 obtain⟨p,q,e,z|z⟩:=w.hk d hd
 .obtain⟨qs,z1,z2,z3⟩:=z;exact⟨p,q,e,.inl ⟨qs,l _ _ z1,l _ _ z2,z3⟩⟩
 .exact⟨p,q,e,.inr ⟨l _ _ z.1,l _ _ z.2.1,z.2.2⟩⟩⟩
def L22.swap(w:L22 A a ns r ss lm ms i1 i2 x y g room sh1 sh2 s1 s2 hp hs G):L22 A a ns r ss lm ms i2 i1 x y g room sh2 sh1 s2 s1 hp hs G:=⟨w.hG,w.hr,w.hm,w.m2,w.m1,w.e2,w.e1,w.o2,w.o1,λq h1 h2=>w.dj q h2 h1,w.hh,λd hd=>by
 obtain⟨p,q,e,z|z⟩:=w.hk d hd
 .exact⟨p,q,e,.inl z⟩
 .exact⟨p,q,e,.inr ⟨z.1,z.2.1,z.2.2.1.symm,z.2.2.2.symm⟩⟩⟩
def L22.chg(w:L22 A a ns r ss lm ms i1 i2 x y g room sh1 sh2 s1 s2 hp hs G)(o:Sw A x y g room s1' G')(k:K2 s1 s1' G G'):L22 A a ns r ss lm ms i1 i2 x y g room sh1 sh2 s1' s2 hp hs G':=by
 have dj':∀q∈s2.ow,q∉s1.ow:=λq h1 h2=>w.dj q h2 h1;have kl:∀q ds,G q=aj (.lst ds)->G' q=aj (.lst ds):=λq ds e=>k.k _ _ (w.o1.out e (λ_ _ z=>nomatch z) λ_ z=>nomatch z) e
 have no:∀q u,G q=aj u->q∉s1.ow->q∉s1'.ow:=λq u e n m=>by
  rcases k.w q m with z|z
  .exact n z
  .rw[e]at z;cases z
 refine⟨k.k _ _ (w.o1.out w.hG (λ_ _ z=>nomatch z) λ_ z=>nomatch z) w.hG,kl _ _ w.hr,kl _ _ w.hm,by rw[k.m];exact w.m1,w.m2,by rw[k.sh];exact w.e1,w.e2,o,w.o2.off dj' w.o1 k,λq h1 h2=>k.dj w.o2 dj' q h2 h1,kl _ _ w.hh,λd hd=>?_⟩;obtain⟨p,q,e,z|z⟩:=w.hk d hd
 .obtain⟨qs,z1,z2,z3⟩:=z;exact⟨p,q,e,.inl ⟨qs,kl _ _ z1,kl _ _ z2,z3⟩⟩
 .obtain⟨z1,z2,z3,z4⟩:=z;exact⟨p,q,e,.inr ⟨k.k _ _ z3.1 z1,k.k _ _ z4.1 z2,⟨no _ _ z1 z3.1,z3.2⟩,no _ _ z2 z4.1,z4.2⟩⟩
def L22.app(w:L22 A a ns r ss lm ms i1 i2 x y g room sh1 sh2 s1 s2 hp hs G)(na:r≠hp/\lm≠hp)(hd:Hd hp s1 s2 G d):L22 A a ns r ss lm ms i1 i2 x y g room sh1 sh2 s1 s2 hp (hs++[d]) (aH G hp (.lst (hs++[d]))):=by
 have o:∀q u,q≠hp->G q=aj u->aH G hp (.lst (hs++[d])) q=aj u:=λq u n e=>by rw[aW n];exact e
 have nd:∀q u,G q=aj u->(∀ds,u≠.lst ds)->aH G hp (.lst (hs++[d])) q=aj u:=λq u e n=>o q u (λz=>by rw[z,w.hh]at e;exact n _ (jf.inj e).symm) e;have sw:∀{s:Sf},Sw A x y g room s G->Sw A x y g room s (aH G hp (.lst (hs++[d]))):=λp=>⟨⟨p.h.o,nd _ _ p.h.sh (λ_ z=>nomatch z),nd _ _ p.h.st (λ_ z=>nomatch z),λz hz=>nd _ _ (p.h.ins z hz) (λ_ z=>nomatch z)⟩,p.v,nd _ _ p.hm (λ_ z=>nomatch z),p.r,p.wk,p.wl⟩
 have hd':∀e,Hd hp s1 s2 G e->Hd hp s1 s2 (aH G hp (.lst (hs++[d]))) e:=λe z=>by
  obtain⟨p,q,e,z|z⟩:=z
  .obtain⟨qs,z1,z2,z3,z4⟩:=z;exact⟨p,q,e,.inl ⟨qs,o _ _ z3 z1,o _ _ z4 z2,z3,z4⟩⟩
  .exact⟨p,q,e,.inr ⟨nd _ _ z.1 (λ_ z=>nomatch z),nd _ _ z.2.1 (λ_ z=>nomatch z),z.2.2⟩⟩
 refine⟨nd _ _ w.hG (λ_ z=>nomatch z),o _ _ na.1 w.hr,o _ _ na.2 w.hm,w.m1,w.m2,w.e1,w.e2,sw w.o1,sw w.o2,w.dj,aD,λe he=>?_⟩;rcases uo.mp he with he|he
 .exact hd' e (w.hk e he)
 .rw[qj.mp he];exact hd' d hd
variable{F:gJ}{ex:aP->aZ}{j:Nat}
def aJK(hj:j<25)(w:L22 A a ns r ss lm ms i1 i2 x y g room sh1 sh2 s1 s2 hp hs G)(na:r≠hp/\lm≠hp)(hn:s1.n<64)(hr:0<=room)(sp:Spo x y ss)(hl:hs.length<=2+j)
  (h:∀G' r11 hs',L22 A a ns r ss lm ms i1 i2 x y g room sh1 sh2 s1 s2 hp hs' G'->hs'.length<=2+(j+1)->F.nx [aj (.ref a),r1,r2,aj (.int room),aj (.ref r),aj (.ref sh1),aj (.ref sh2),aj (.ref lm),aj (.ref hp),aj (.int j),r10,r11] G') :
  a4B K A ex F [aj (.ref a),r1,r2,aj (.int room),aj (.ref r),aj (.ref sh1),aj (.ref sh2),aj (.ref lm),aj (.ref hp),aj (.int j),r10,r11] G:=by
 have big:10000<dh:=by decide
 have w':=w
 obtain⟨q0,ss',rfl⟩:∃q0 ss',ss=q0::ss':=by
  cases ss with
  |nil=>have:=sp.n;cases this
  |cons q s=>exact⟨q,s,rfl⟩
 exists a4B;refine alA (λ_=>?_) λ_=>h G _ hs w (by omega);have s0:=w.o1.h;rw[w.e1]at s0;refine⟨by rw[fO s0.sh (m:="held") rfl];trivial,?_⟩;rw[ix0 w.hr];refine agH s0 w.o1.v hn hr (w.o1.r.rl w.o1.v hr) (sp.b _ (.head _)) λrr qs G1 l1 f1 g1 i1 lq=>?_;have w1:=w.le l1;exists a3K;refine⟨aOB w1.hh,?_⟩;rw[awN (cM g1)];intro l f2;have l2:Le G1 (aH G1 l (.lst (qs.map dR))):=.new f2;have w2:=w1.le l2;symm;rw[aj1 w2.hh (by omega)];exact h _ _ _ (w2.app na ⟨rr,l,rfl,.inl ⟨qs,l2 _ _ g1,aD,(λz=>by rw[z,w.hh]at f1;cases f1),λz=>by rw[z,w1.hh]at f2;cases f2⟩⟩) (by rw[wz];simp;omega)
def axK(hj:j<25)(w:L22 A a ns r ss lm ms 0 1 x y g room sh1 sh2 s1 s2 hp hs G)(na:r≠hp/\lm≠hp)(hn:s1.n<64)(hn2:s2.n<64)(hr:0<=room)(sp:Spo x y ss)(hl:hs.length<=2+j)
  (h:∀G' r11 hs',L22 A a ns r ss lm ms 0 1 x y g room sh1 sh2 s1 s2 hp hs' G'->hs'.length<=2+(j+1)->F.nx [aj (.ref a),r1,r2,aj (.int room),aj (.ref r),aj (.ref sh1),aj (.ref sh2),aj (.ref lm),aj (.ref hp),aj (.int j),r10,r11] G') :
  a4C K A ex F [aj (.ref a),r1,r2,aj (.int room),aj (.ref r),aj (.ref sh1),aj (.ref sh2),aj (.ref lm),aj (.ref hp),aj (.int j),r10,r11] G:=by
 exists a4C;rw[nZ (cM w.hm) w.m1,←w.e1];refine ak1 (k:=j) (by omega) w.o1 hn hr w.hG w.hr sp.n sp.b λG1 l1=>?_;have w1:=w.le l1;symm;rw[nZ (cM w1.hm) w1.m2,←w.e2];refine ak1 (k:=j) (by omega) w1.o2 hn2 hr w1.hG w1.hr sp.n sp.b λG2 l2=>?_;symm;have w2:=w1.le l2;rw[w.e1,w.e2];exact aJK hj w2 na hn hr sp hl h
def axL(T:Txt K mg A)(hj:j<25)(w:L22 A a ns r ss lm ms 0 1 x y g room sh1 sh2 s1 s2 hp hs G)(na:r≠hp/\lm≠hp)(hn:s1.n<=2*j)(hn2:s2.n<=2*j)(hr:1<=room/\room<=1000000)(sp:Spo x y ss)(hl:hs.length<=2+j)
  (h:∀G' r10 r11 s1' s2' hs',L22 A a ns r ss lm ms 0 1 x y g room sh1 sh2 s1' s2' hp hs' G'->s1'.n<=2*(j+1)->s2'.n<=2*(j+1)->hs'.length<=2+(j+1)->F.nx [aj (.ref a),r1,r2,aj (.int room),aj (.ref r),aj (.ref sh1),aj (.ref sh2),aj (.ref lm),aj (.ref hp),aj (.int j),r10,r11] G') :
  ab9 K A ex F [aj (.ref a),r1,r2,aj (.int room),aj (.ref r),aj (.ref sh1),aj (.ref sh2),aj (.ref lm),aj (.ref hp),aj (.int j),r10,r11] G:=by
 exists ab9;refine aJJ (k:=j) (by omega) hr w.hG sp w.hr λwd lot q q2 am G1 l1 hw hlo b b2 ha=>?_;have w1:=w.le l1;exists ab8;rw[←w.e1];refine both T w1.o1 (by omega) hr.1 hw hlo b b2 ha w1.hm w1.m1 λs1' G2 o2 k2=>?_;have w2:=w1.chg o2 k2;have n1:s1'.n<=2*(j+1):=by have:=k2.n;omega
 symm;rw[w.e1];exists ab7;by_cases c:((j:Int)%3==1)=ak
 .rw[if_pos c];symm;rw[←w.e2];refine both T w2.o2 (by omega) hr.1 hw hlo b b2 ha w2.hm w2.m2 λs2' G3 o3 k3=>?_;have w3:=(w2.swap.chg o3 k3).swap;have n2:s2'.n<=2*(j+1):=by have:=k3.n;omega
  symm;rw[w.e2];exact axK hj w3 na (by omega) (by omega) (by omega) sp hl λG' r11 hs' w' l'=>h G' _ r11 s1' s2' hs' w' n1 n2 l'
 .rw[if_neg c];symm;exact axK hj w2 na (by omega) (by omega) (by omega) sp hl λG' r11 hs' w' l'=>h G' _ r11 s1' s2 hs' w' n1 (by omega) l'
end
def aON{i j:Int}{b:Bool}(h:∀k,(k=i∨k=j)->R (.int k) (aH G p (.lst [.int i,.int j]))):cW (.ref p) (.int (if b=ak then 1 else 0)) (aH G p (.lst [.int i,.int j])) R:=by
 refine xT cQ (by split<;>decide) (by simp;split<;>decide) ?_;exact all_cons (h _ (.inl rfl)) (all_cons (h _ (.inr rfl)) all_nil)
def aJL{a:bw}(hG:G a=aj (.rol (ns.map D.int))){k:Nat}(hk:k<900)(h:∀x y g:Nat,OkP x y g->R (plD x y g) G):rZ K A [.ref a,.int (k:Int)] G R EX:=by
 refine⟨rfl,?_⟩;show a0I K A _ _ [aj (.ref a),aj (.int k),au,au,au,au] G;exists a0I;refine qR (k:=k) hG (by omega) ?_;exists a3E;rw[show(k:Int)+1=((k+1:Nat):Int) by omega];refine qR (k:=k+1) hG (by omega) ?_;generalize cellAt ns k=c;generalize cellAt ns (k+1)=c2;exists a3D;intro p hp;refine aON λx hx=>?_;exists a3C;intro p2 hp2;refine aON λy hy=>?_;exists a3B;have z:=aBZ (h x.toNat y.toNat (1+c / 104%20).toNat ⟨by omega,by omega,by omega,by omega,by omega,by omega⟩) ((Le.new (o:=.lst [D.int (1+c%4),D.int (1+c%26)]) hp).trans (.new (o:=.lst [D.int (1+c2%6),D.int (1+c2%99)]) hp2));unfold plD at z;rw[Int.toNat_of_nonneg (by omega),Int.toNat_of_nonneg (by omega),Int.toNat_of_nonneg (by omega)]at z;exact z
def apS{y g:Nat}(o:OkP x y g)(hr:1<=room/\room<=1000000)(h0:G sh=aj (.ins A.aC []))(h:∀st G',G' sh=aj (shG A x y g room st)->G' st=aj (.cF ak [])->G st=au->(∀q u,q≠sh->G q=aj u->G' q=aj u)->R .non G'):dY K A [.ref sh,plD x y g,.int room] G R EX:=by
 refine⟨rfl,?_⟩;show lY K A _ _ [aj (.ref sh),aj (plD x y g),aj (.int room)] G;exists lY;refine aeM o ?_;exists pY;refine a5Z hr ?_;exists pX;rw[ag3 h0 (by decide)];generalize hG1:aH G sh _=G1;have s1:G1 sh=aj (.ins A.aC [("layout",plD x y g)]):=by rw[←hG1,aD];rfl
 exists pW;rw[ag3 s1 (by show 1<1000;decide)];generalize hG2:aH G1 sh _=G2;have s2:G2 sh=aj (.ins A.aC [("layout",plD x y g),("room",.int room)]):=by rw[←hG2,aD];rfl
 exists pU;intro st hst;have ne:st≠sh:=λz=>by rw[z,s2]at hst;cases hst
 rw[ag3 (fL s2 hst) (by show 2<1000;decide)];refine bB.here (h st _ (by rw[aD];rfl) (by rw[aW ne,aD]) (by rw[←hG2,aW ne,←hG1,aW ne]at hst;exact hst) λq u n z=>?_);rw[aW n];refine fL ?_ hst;rw[←hG2,aW n,←hG1,aW n];exact z
def aJM{qs:List (Int×Int)}(h1:G p=aj (.lst (qs.map dR)))(h2:G q=aj (.lst (qs.map dR)))(h:R (.bl ao) G):aaI (.ref p) (.ref q) G R:=by
 refine .inl ?_;rw[aC5 (cM h1) (cM h2)];obtain⟨a,b⟩:=a9D (n:=4) (axJ (G:=G) (n:=3) (qs:=qs));refine⟨a,?_⟩;rw[show alJ G (qs.map dR) (qs.map dR)=ak from b];exact h
def aJN(h1:G p=aj (.cF ak []))(h2:G q=aj (.cF ak []))(h:R (.bl ao) G):aaI (.ref p) (.ref q) G R:=.inr (.inr ⟨p,q,[],[],λ_=>[],rfl,rfl,h1,h2,(λz hz=>nomatch hz),h⟩)
def axM(o:OkP x y g)(h1:G sh=aj (shG A x y g room st))(h2:G st=aj (.cF ak []))(h3:G m=aj (.nU [])):Sw A x y g room ⟨sh,st,m,0,[],λ_=>[],[]⟩ G:=⟨⟨o,h1,h2,λz hz=>nomatch hz⟩,Shv.nil,h3,⟨a0u,λa p l=>rfl⟩,(λz hz=>nomatch hz),dz _⟩
def aOO(T:Txt K mg A){a:bw}(hG:G a=aj (.rol (ns.map D.int)))(h:∀G',R (.bl ak) G'):agA K A [.ref a] G R EX:=by
 have big:10000<dh:=by decide
 refine⟨rfl,?_⟩;have h':∀G',bB R (.bl ak) G':=λG'=>bB.here (h G');clear h;show ax1 K A _ _ [aj (.ref a),au,au,au,au,au,au,au,au,au,au,au] G;exists ax1;refine aJL (k:=0) hG (by omega) λx y g o=>?_;exists apB;refine qR (k:=2) hG (by omega) ?_;generalize cellAt ns 2=c2;have e6:(10:Int)^Int.toNat 6=1000000:=by decide
 exists apA;rw[e6];intro q hq;have l1:∀o,Le G (aH G q o):=λo=>.new hq;refine xT cQ (by omega) (by show c2%3<3;omega) λz hz=>?_
 obtain⟨room,rfl,hr⟩:∃t:Int,z=.int t/\1<=t/\t<=1000000:=by
  simp only[jd,a0d,or_false]at hz;rcases hz with rfl|rfl|rfl
  .exact⟨_,rfl,by omega⟩
  .exact⟨_,rfl,by omega⟩
  .exact⟨_,rfl,by omega⟩
 have hG1:=l1 (.lst [.int (1+c2 / 3%30),.int (1+c2 / 3%30),.int (1+c2 / 3%1000000)]) _ _ hG;generalize aH G q _=G1 at hG1 ⊢;exists ap9;refine aCT o hG1 λss r G2 sp l2 hrr=>?_;have hG2:=l2 _ _ hG1;exists ap8;intro sh hsh;have n0:a≠sh:=λz=>by rw[←z,hG2]at hsh;cases hsh
 have n1:r≠sh:=λz=>by rw[←z,hrr]at hsh;cases hsh
 refine apS o hr aD λst G3 s3 d3 _ k3=>⟨rfl,?_⟩;have hG3:=k3 _ _ n0 ((Le.new hsh) _ _ hG2);have hr3:=k3 _ _ n1 ((Le.new hsh) _ _ hrr);exists ap7;intro sh2 a8S;have m0:a≠sh2:=λz=>by rw[←z,hG3]at a8S;cases a8S
 have m1:r≠sh2:=λz=>by rw[←z,hr3]at a8S;cases a8S
 have m3:sh≠sh2:=λz=>by rw[←z,s3]at a8S;cases a8S
 have m4:st≠sh2:=λz=>by rw[←z,d3]at a8S;cases a8S
 refine apS o hr aD λst2 G4 s4 d4 ns4 k4=>⟨rfl,?_⟩;have ne:st≠st2:=λz=>by rw[←z,aW m4,d3]at ns4;cases ns4
 have hG4:=k4 _ _ m0 ((Le.new a8S) _ _ hG3);have hr4:=k4 _ _ m1 ((Le.new a8S) _ _ hr3);have s5:=k4 _ _ m3 ((Le.new a8S) _ _ s3);have d5:=k4 _ _ m4 ((Le.new a8S) _ _ d3);exists ap6;intro m fm m2 fm2;obtain⟨l5,fm3⟩:=agI (.nU []) fm fm2;have nm:m≠m2:=λz=>by rw[←z,aD]at fm2;cases fm2
 have hm5:aH (aH G4 m (.nU [])) m2 (.nU []) m=aj (.nU []):=by rw[aW nm,aD]
 have hm6:aH (aH G4 m (.nU [])) m2 (.nU []) m2=aj (.nU []):=aD;generalize aH (aH G4 m (.nU [])) m2 _=G5 at l5 hm5 hm6 ⊢;symm;intro lm flm;have l6:Le G5 (aH G5 lm (.lst [.ref m,.ref m2])):=.new flm;have hlm:aH G5 lm (.lst [.ref m,.ref m2]) lm=aj (.lst [.ref m,.ref m2]):=aD;have o1:Sw A x y g room ⟨sh,st,m,0,[],λ_=>[],[]⟩ (aH G5 lm (.lst [.ref m,.ref m2])):=axM o (l6 _ _ (l5 _ _ s5)) (l6 _ _ (l5 _ _ d5)) (l6 _ _ hm5);have o2:Sw A x y g room ⟨sh2,st2,m2,0,[],λ_=>[],[]⟩ (aH G5 lm (.lst [.ref m,.ref m2])):=axM o (l6 _ _ (l5 _ _ s4)) (l6 _ _ (l5 _ _ d4)) (l6 _ _ hm6);have hG6:=l6 _ _ (l5 _ _ hG4);have hr6:=l6 _ _ (l5 _ _ hr4);have st5:=l5 _ _ d5;have st6:=l5 _ _ d4
 have dj:∀q∈Sf.ow ⟨sh,st,m,0,[],λ_=>[],[]⟩,q∉Sf.ow ⟨sh2,st2,m2,0,[],λ_=>[],[]⟩:=λq h1 h2=>by
  have a1:q=st∨q=m:=by simpa[Sf.ow]using h1
  have a2:q=st2∨q=m2:=by simpa[Sf.ow]using h2
  rcases a1 with rfl|rfl<;>rcases a2 with e|e
  .exact ne e
  .rw[e,hm6]at st5;cases st5
  .rw[←e,hm5]at st6;cases st6
  .exact nm e
 generalize aH G5 lm _=G6 at l6 hlm o1 o2 hG6 hr6 ⊢
 obtain⟨q0,ss',rfl⟩:∃q0 ss',ss=q0::ss':=by
  cases ss with
  |nil=>have:=sp.n;cases this
  |cons q s=>exact⟨q,s,rfl⟩
 exists ap5;refine⟨by rw[fO o1.h.sh (m:="lying") rfl];trivial,?_⟩;refine apJ o1.h Shv.nil (by omega) λt qs N c' G7 l7 ly=>?_;have eN:N=[]:=List.length_eq_zero_iff.mp (by have:=ly.ke.length_eq;simpa using this);subst eN;intro e fe;have l8:=Le.new (o:=.cF ak []) fe;have t8:=l8 _ _ ly.tt;have oo:=o1.le (l7.trans l8);have ht:t∉Sf.ow ⟨sh,st,m,0,[],λ_=>[],[]⟩/\t∉Sf.ow ⟨sh2,st2,m2,0,[],λ_=>[],[]⟩:=⟨λz=>o1.has z ly.t0,λz=>o2.has z ly.t0⟩;have he:e∉Sf.ow ⟨sh,st,m,0,[],λ_=>[],[]⟩/\e∉Sf.ow ⟨sh2,st2,m2,0,[],λ_=>[],[]⟩:=⟨λz=>(o1.le l7).has z fe,λz=>(o2.le l7).has z fe⟩;have e8:aH G7 e (.cF ak []) e=aj (.cF ak []):=aD;generalize aH G7 e _=G8 at l8 t8 oo e8 ⊢;symm;refine⟨by rw[fO oo.h.sh (m:="held") rfl];trivial,?_⟩;rw[ix0 (l8 _ _ (l7 _ _ hr6))];refine agH (W:=[]) oo.h Shv.nil (by omega) (by omega) ⟨a0u,(λz hz=>nomatch hz),λa p l=>rfl⟩ (sp.b _ (.head _)) λrr qs2 G9 l9 f9 g9 i9 _=>?_;have eq:qs2=[]:=List.eq_nil_iff_forall_not_mem.mpr λz hz=>by have:=(i9.2 z.1 z.2).mp hz;cases this
 subst eq;intro b fb;have l10:=Le.new (o:=.lst []) fb;have b10:aH G9 b (.lst []) b=aj (.lst []):=aD;generalize aH G9 b _=Gb at l10 b10 ⊢;symm;intro hp fh;have l11:Le Gb (aH Gb hp (.lst [.tup [.ref t,.ref e],.tup [.ref rr,.ref b]])):=.new fh;have lz:=(l7.trans l8).trans ((l9.trans l10).trans l11)
 have w0:L22 A a ns r (q0::ss') lm [.ref m,.ref m2] 0 1 x y g room sh sh2 ⟨sh,st,m,0,[],λ_=>[],[]⟩ ⟨sh2,st2,m2,0,[],λ_=>[],[]⟩ hp [.tup [.ref t,.ref e],.tup [.ref rr,.ref b]] (aH Gb hp (.lst [.tup [.ref t,.ref e],.tup [.ref rr,.ref b]])):=by
  refine⟨lz _ _ hG6,lz _ _ hr6,lz _ _ hlm,rfl,rfl,rfl,rfl,o1.le lz,o2.le lz,dj,aD,λd hd=>?_⟩;rcases jd.mp hd with rfl|hd
  .exact⟨t,e,rfl,.inr ⟨l11 _ _ (l10 _ _ (l9 _ _ t8)),l11 _ _ (l10 _ _ (l9 _ _ e8)),ht,he⟩⟩
  .cases qj.mp hd;exact⟨rr,b,rfl,.inl ⟨[],l11 _ _ (l10 _ _ g9),l11 _ _ b10,(λz=>by have:=l10 _ _ g9;rw[z,fh]at this;cases this),λz=>by rw[z,fh]at b10;cases b10⟩⟩
 have na:r≠hp/\lm≠hp:=⟨(λz=>by have:=l10 _ _ (l9 _ _ (l8 _ _ (l7 _ _ hr6)));rw[z,fh]at this;cases this),λz=>by have:=l10 _ _ (l9 _ _ (l8 _ _ (l7 _ _ hlm)));rw[z,fh]at this;cases this⟩;generalize aH Gb hp _=Gc at w0 ⊢;exists ap4;refine qR (k:=6) w0.hG (by omega) ?_;generalize cellAt ns 6=c6;symm;refine aiZ (λk ρ G'=>∃r9 r10 r11 s1 s2 hs,ρ=[aj (.ref a),aj (plD x y g),aj (.int c2),aj (.int room),aj (.ref r),aj (.ref sh),aj (.ref sh2),aj (.ref lm),aj (.ref hp),r9,r10,r11]/\L22 A a ns r (q0::ss') lm [.ref m,.ref m2] 0 1 x y g room sh sh2 s1 s2 hp hs G'/\s1.n<=2*k/\s2.n<=2*k/\hs.length<=2+k) ⟨_,_,_,_,_,_,rfl,w0,dz _,dz _,dz _⟩ (λk ρ G' hk z=>?_) λρ G' z=>?_
 .obtain⟨r9,r10,r11,s1,s2,hs,rfl,w,z1,z2,z3⟩:=z;have hk2:k<25:=by omega
  symm;exact axL T hk2 w na z1 z2 hr sp z3 λG' r10 r11 s1' s2' hs' w' y1 y2 y3=>⟨_,_,_,_,_,_,rfl,w',y1,y2,y3⟩
 obtain⟨r9,r10,r11,s1,s2,hs,rfl,w,z1,z2,z3⟩:=z;exists ajN;rw[aaO (cM w.hh)];have lh:hs.length<dh:=by omega
 refine a9C (λ_=>ao) (λd=>d) lh (cM w.hh) (λd hd G1 l1 Q hQ=>?_) (λd hd hf=>nomatch hf) λp hp'=>?_
 .obtain⟨p,q,rfl,z|z⟩:=w.hk d hd
  .obtain⟨qs,a1,a2,_⟩:=z;symm;refine aJM (l1 _ _ a1) (l1 _ _ a2) ?_;symm;exact hQ _ (.refl _)
  .symm;refine aJN (l1 _ _ z.1) (l1 _ _ z.2.1) ?_;symm;exact hQ _ (.refl _)
 .have e0:((Src.items (.lst hp hs)).filter λ_=>ao).map (λd=>d)=[]:=by simp
  rw[e0];intro b fb;rw[aaN (xs:=[]) (ys:=[]) (cM ((Le.new fb) _ _ aD)) cQ rfl rfl];exact h' _
def main(T:Txt K mg A)(a:bw)(ns:List Int)(hl:ns.length<=63)(G:Gp)(hG:G a=aj (.rol (ns.map D.int))):agA K A [.ref a] G (λd _=>d=.bl ak) (λ_ _=>False):=aOO T hG λ_=>rfl
end
end Law
namespace Law
open PySem PySem.Spec PyProof.Rows L2 L4
variable{qt:Bool}{x:Str}{st:qm}{f c:bw}{ps:List Str}
section
variable{P:jt}{w:jj}{K:Fg}{mg:Str->Option aq}{base:jm}{A:bC}
local macro_rules| `(tactic| walk_at "sc")=>`(tactic| exact⟨rfl,rfl,rfl,by decide+kernel,rfl,by decide+kernel,by decide+kernel⟩)
def uD{j k:Nat}{d:jw}{sp:qK}{n:Nat}(h:cH qt P w K mg base (lX P w) j f d ps (d8 K sp))(t:FnT K mg x st f d ps)(hj:j<=k:=by decide):GTs P w K mg base k x (.fn sp n qt):=⟨_,_,_,h.mono hj,t.m,t.F.kp,t.B⟩
def ExT.g{k:Nat}(t:ExT K mg x c):GTs P w K mg base k x (.cls c):=⟨t.m,t.x,t.cs,t.ty,t.be⟩
def dc{qual:Str}{fd:jw}{k:Nat}{S:SI}{c:CB}{tb:aZ->bJ}(F:Fun K x qual st f fd)(hS:bF S.N ps (bI st))(hc:S.calm=!qt)(hv:aeB S (bI st)=ak)(hk:kB S 0 c (cV st)=ak)(he:(λEX=>mB S.gl K (λ_=>EX) c)=tb)(hg:∀(j:Nat)(y:Str)(g:GT),S.gl[j]?=aj (y,g)->GTs P w K mg base k y g):cH qt P w K mg base (lX P w) (k+1) f fd ps (d8 K (zL S.N.length ps.length tb)):=by
 rw[←he];exact aw5 F hS hc hv hk hg
def vB(T:Txt K mg A):cH ao P w K mg base (lX P w) 1 A.aaT A.xU ["thing","least","most"] (d8 K (cR K A)) :=
 dc (S:=am7 K A) (c:=am6) T.iM.F (show bF ["thing","least","most"] ["thing","least","most"] _ from by walk_at "sc") rfl (by nofun) (by nofun) (by nofun) (c7 ⟨T.aE4,au1⟩ (c7 ⟨T.nA,lF⟩ (c7 ⟨T.aJ2,azP⟩ gln)))
def amU(T:Txt K mg A):cH ao P w K mg base (lX P w) 2 A.aeI A.a1Q ["thing","aisles","first","last"] (d8 K (xZ K A)) :=
 dc (S:=arO K A) (c:=arN) T.sH.F (show bF ["thing","aisles","first","last"] ["thing","aisles","first","last"] _ from by walk_at "sc") rfl (by nofun) (by nofun) (by nofun) (c7 ⟨T.apD,ahV⟩ (c7 ⟨T.nA,lF⟩ (c7 ⟨T.ajQ,a9X⟩ (c7 (uD (vB T) T.iM) gln))))
def agO(T:Txt K mg A):cH ao P w K mg base (lX P w) 2 A.a85 A.uJ ["thing"] (d8 K (rY K A)) :=
 dc (S:=ajE K A) (c:=ajD) T.mF.F (show bF ["thing"] ["thing"] _ from by walk_at "sc") rfl (by nofun) (by nofun) (by nofun) (c7 (gcI T.lQ) (c7 (uD (vB T) T.iM) gln))
def amV(T:Txt K mg A):cH ao P w K mg base (lX P w) 2 A.aeJ A.a1R ["thing"] (d8 K (yC K A)) :=
 dc (S:=arQ K A) (c:=arP) T.sI.F (show bF ["thing"] ["thing"] _ from by walk_at "sc") rfl (by nofun) (by nofun) (by nofun) (c7 ⟨T.apD,ahV⟩ (c7 ⟨T.nA,lF⟩ (c7 ⟨T.ajQ,a9X⟩ (c7 (gcI T.lM) (c7 (uD (vB T) T.iM) (c7 (gcI T.lO) (c7 (gcI T.tX) gln)))))))
def a6A(T:Txt K mg A):cH ao P w K mg base (lX P w) 3 A.a86 A.uK ["plan"] (d8 K (iK K A)) :=
 dc (S:=ajG K A) (c:=ajF) T.jR.F (show bF ["plan"] ["plan"] _ from by walk_at "sc") rfl (by nofun) (by nofun) (by nofun) (c7 (uD (amV T) T.sI) (c7 T.xD.g gln))
def as3(T:Txt K mg A):cH ao P w K mg base (lX P w) 4 A.ajB A.a5S ["plan","thing"] (d8 K (a1T K A)) :=
 dc (S:=awY K A) (c:=awX) T.xA.F (show bF ["plan","thing"] ["plan","thing"] _ from by walk_at "sc") rfl (by nofun) (by nofun) (by nofun) (c7 (uD (a6A T) T.jR) (c7 (uD (amU T) T.sH) gln))
def qI(T:Txt K mg A):cH ao P w K mg base (lX P w) 2 A.aaU A.xV ["thing","lots"] (d8 K (cT K A)) :=
 dc (S:=am9 K A) (c:=am8) T.gF.F (show bF ["thing","lots"] ["thing","lots"] _ from by walk_at "sc") rfl (by nofun) (by nofun) (by nofun) (c7 (uD (vB T) T.iM) (c7 T.a1V.g gln))
def mL(T:Txt K mg A):cH ao P w K mg base (lX P w) 5 A.aaV A.xW ["plan","thing"] (d8 K (bN K A)) :=
 dc (S:=amB K A) (c:=amA) T.fB.F (show bF ["plan","thing"] ["plan","thing"] _ from by walk_at "sc") rfl (by nofun) (by nofun) (by nofun) (c7 (uD (as3 T) T.xA) (c7 T.a1U.g gln))
def nD(T:Txt K mg A):cH ao P w K mg base (lX P w) 3 A.a2W A.pB ["thing"] (d8 K (bW K A)) :=
 dc (S:=acH K A) (c:=acG) T.dH.F (show bF ["thing"] ["thing"] _ from by walk_at "sc") rfl (by nofun) (by nofun) (by nofun) (c7 (uD (agO T) T.mF) (c7 T.oM.g gln))
def a78(T:Txt K mg A):cH ao P w K mg base (lX P w) 1 A.ajC A.a5T ["stacks","spot","lot","more"] (d8 K (eU K A)) :=
 dc (S:=ax0 K A) (c:=awZ) T.qD.F (show bF ["stacks","spot","lot","more","held"] ["stacks","spot","lot","more"] _ from by walk_at "sc") rfl (by nofun) (by nofun) (by nofun) (c7 ⟨T.ajQ,a9X⟩ gln)
def ak2(T:Txt K mg A):cH ao P w K mg base (lX P w) 1 A.aaW A.xX ["stacks"] (d8 K (a0F K A)) :=
 dc (S:=amD K A) (c:=amC) T.oF.F (show bF ["stacks","told","spot"] ["stacks"] _ from by walk_at "sc") rfl (by nofun) (by nofun) (by nofun) (c7 ⟨T.qH,m8⟩ (c7 ⟨T.qH,m8⟩ (c7 ⟨T.amI,afG⟩ gln)))
def a2D(T:Txt K mg A):cH ao P w K mg base (lX P w) 4 A.bK A.iI ["self","plan","room"] (d8 K (dY K A)) :=
 dc (S:=a4A K A) (c:=eZ) T.a4D (show bF ["self","plan","room"] ["self","plan","room"] _ from by walk_at "sc") rfl (by nofun) (by nofun) (by nofun) (c7 (uD (a6A T) T.jR) (c7 (uD (nD T) T.dH) (c7 ⟨T.aO,T.cY⟩ (c7 ⟨T.aO,T.zG⟩ (c7 ⟨T.aO,T.bQ⟩ gln)))))
def vC(T:Txt K mg A):cH ao P w K mg base (lX P w) 6 A.gM A.gO ["self","spot"] (d8 K (dN K A)) :=
 dc (S:=a71 K A) (c:=a70) T.oG (show bF ["self","spot"] ["self","spot"] _ from by walk_at "sc") rfl (by nofun) (by nofun) (by nofun) (c7 ⟨T.aO,T.cY⟩ (c7 (uD (mL T) T.fB) (c7 ⟨T.aE5,au0⟩ (c7 ⟨T.aO,T.bQ⟩ gln))))
def qJ(T:Txt K mg A):cH ao P w K mg base (lX P w) 7 A.dW A.dX ["self","spot","amount"] (d8 K (cU K A)) :=
 dc (S:=a2C K A) (c:=a2B) T.lC (show bF ["self","spot","amount"] ["self","spot","amount"] _ from by walk_at "sc") rfl (by nofun) (by nofun) (by nofun) (c7 (⟨_,_,_,[],[],T.aO,T.xB,(vC T).mono (by decide),T.jY,.nil,λ_=>.nil⟩) (c7 ⟨T.aO,T.zG⟩ (c7 T.qG.g gln)))
def abH(T:Txt K mg A):cH ao P w K mg base (lX P w) 8 A.lJ A.lK ["self","lot","spot","amount"] (d8 K (jL K A)) :=
 dc (S:=acJ K A) (c:=acI) T.vQ (show bF ["self","lot","spot","amount"] ["self","lot","spot","amount"] _ from by walk_at "sc") rfl (by nofun) (by nofun) (by nofun) (c7 (gcI T.fZ) (c7 (uD (qI T) T.gF) (c7 ⟨T.aO,T.cY⟩ (c7 (uD (mL T) T.fB) (c7 (uD (nD T) T.dH) (c7 (⟨_,_,_,[],[],T.aO,T.rB,(qJ T).mono (by decide),T.gH,.nil,λ_=>.nil⟩) (c7 ⟨T.aO,T.bQ⟩ (c7 (uD (a78 T) T.qD) gln))))))))
def vD(T:Txt K mg A):cH ao P w K mg base (lX P w) 6 A.gP A.gQ ["self","lot","spot"] (d8 K (dO K A)) :=
 dc (S:=a73 K A) (c:=a72) T.oH (show bF ["self","lot","spot"] ["self","lot","spot"] _ from by walk_at "sc") rfl (by nofun) (by nofun) (by nofun) (c7 (gcI T.fZ) (c7 (uD (qI T) T.gF) (c7 ⟨T.aO,T.cY⟩ (c7 (uD (mL T) T.fB) (c7 ⟨T.aO,T.bQ⟩ gln)))))
def nQ(T:Txt K mg A):cH ao P w K mg base (lX P w) 7 A.dI A.dJ ["self","lot","spot","amount"] (d8 K (cG K A)) :=
 dc (S:=a0H K A) (c:=a0G) T.jT (show bF ["self","lot","spot","amount"] ["self","lot","spot","amount"] _ from by walk_at "sc") rfl (by nofun) (by nofun) (by nofun) (c7 (⟨_,_,_,[],[],T.aO,T.xC,(vD T).mono (by decide),T.jZ,.nil,λ_=>.nil⟩) (c7 T.iC.g gln))
def a8T(T:Txt K mg A):cH ao P w K mg base (lX P w) 8 A.jG A.jH ["self","lot","spot","amount"] (d8 K (j6 K A)) :=
 dc (S:=ab2 K A) (c:=ab1) T.tU (show bF ["self","lot","spot","amount"] ["self","lot","spot","amount"] _ from by walk_at "sc") rfl (by nofun) (by nofun) (by nofun) (c7 (gcI T.fZ) (c7 (uD (qI T) T.gF) (c7 ⟨T.aO,T.cY⟩ (c7 (uD (mL T) T.fB) (c7 (uD (nD T) T.dH) (c7 (⟨_,_,_,[],[],T.aO,T.qF,(nQ T).mono (by decide),T.fV,.nil,λ_=>.nil⟩) (c7 ⟨T.aO,T.bQ⟩ (c7 (uD (a78 T) T.qD) gln))))))))
def a79(T:Txt K mg A):cH ao P w K mg base (lX P w) 8 A.iY A.iZ ["self","lot","one","other","amount"] (d8 K (jX K A)) :=
 dc (S:=a8N K A) (c:=a8M) T.qO (show bF ["self","lot","one","other","amount"] ["self","lot","one","other","amount"] _ from by walk_at "sc") rfl (by nofun) (by nofun) (by nofun) (c7 (gcI T.fZ) (c7 (uD (qI T) T.gF) (c7 ⟨T.aO,T.cY⟩ (c7 (uD (mL T) T.fB) (c7 (uD (nD T) T.dH) (c7 (⟨_,_,_,[],[],T.aO,T.qF,(nQ T).mono (by decide),T.fV,.nil,λ_=>.nil⟩) (c7 (⟨_,_,_,[],[],T.aO,T.rB,(qJ T).mono (by decide),T.gH,.nil,λ_=>.nil⟩) (c7 ⟨T.aO,T.bQ⟩ (c7 (uD (a78 T) T.qD) gln)))))))))
def zH(T:Txt K mg A):cH ao P w K mg base (lX P w) 6 A.jJ A.jK ["self","spot"] (d8 K (dU K A)) :=
 dc (S:=ab4 K A) (c:=ab3) T.tW (show bF ["self","spot"] ["self","spot"] _ from by walk_at "sc") rfl (by nofun) (by nofun) (by nofun) (c7 ⟨T.aO,T.cY⟩ (c7 (uD (mL T) T.fB) (c7 ⟨T.qH,m8⟩ (c7 ⟨T.aO,T.bQ⟩ gln))))
def a6B(T:Txt K mg A):cH ao P w K mg base (lX P w) 3 A.gR A.gU ["self","lot"] (d8 K (fQ K A)) :=
 dc (S:=a75 K A) (c:=a74) T.oJ (show bF ["self","lot"] ["self","lot"] _ from by walk_at "sc") rfl (by nofun) (by nofun) (by nofun) (c7 (gcI T.fZ) (c7 (uD (qI T) T.gF) (c7 ⟨T.aO,T.bQ⟩ (c7 ⟨T.qH,m8⟩ gln))))
def xF(T:Txt K mg A):cH ao P w K mg base (lX P w) 2 A.j4 A.j5 ["self"] (d8 K (eV K A)) :=
 dc (S:=a8P K A) (c:=a8O) T.qQ (show bF ["self"] ["self"] _ from by walk_at "sc") rfl (by nofun) (by nofun) (by nofun) (c7 ⟨T.aO,T.bQ⟩ (c7 (uD (ak2 T) T.oF) gln))
def j9(T:Txt K mg A):cH ao P w K mg base (lX P w) 1 A.a0B A.mV ["_law_script","_law_k"] (d8 K (aU K A)) :=
 dc (S:=ab6 K A) (c:=ab5) T.cI.F (show bF ["_law_script","_law_k","_law_mixed"] ["_law_script","_law_k"] _ from by walk_at "sc") rfl (by nofun) (by nofun) (by nofun) (c7 ⟨T.ajQ,a9X⟩ gln)
def agP(T:Txt K mg A):cH ao P w K mg base (lX P w) 2 A.a87 A.uL ["_law_script","_law_k"] (d8 K (rZ K A)) :=
 dc (S:=ajI K A) (c:=ajH) T.mH.F (show bF ["_law_script","_law_k","_law_cell","_law_other","_law_aisles","_law_places"] ["_law_script","_law_k"] _ from by walk_at "sc") rfl (by nofun) (by nofun) (by nofun) (c7 (uD (j9 T) T.cI) (c7 ⟨T.aE4,au1⟩ gln))
def abI(T:Txt K mg A):cH ak P w K mg base (lX P w) 1 A.a2X A.pC ["_law_e"] (d8 K (gW K A)) :=
 dc (S:=acL K A) (c:=acK) T.jA.F (show bF ["_law_e","_law_marks"] ["_law_e"] _ from by walk_at "sc") rfl (by nofun) (by nofun) (by nofun) (c7 T.xD.g (c7 ⟨T.nA,lF⟩ (c7 T.a1V.g (c7 T.a1U.g (c7 T.oM.g (c7 T.iC.g (c7 T.qG.g (c7 ⟨T.agB,ac9⟩ (c7 ⟨T.ajQ,a9X⟩ gln)))))))))
def a0Y(T:Txt K mg A):cH ao P w K mg base (lX P w) 1 A.a2Y A.pD ["_law_model","_law_spot"] (d8 K (gY K A)) :=
 dc (S:=acN K A) (c:=acM) T.gG.F (show bF ["_law_model","_law_spot"] ["_law_model","_law_spot"] _ from by walk_at "sc") rfl (by nofun) (by nofun) (by nofun) (c7 ⟨T.aE5,au0⟩ gln)
def amW(T:Txt K mg A):cH ao P w K mg base (lX P w) 2 A.aeK A.a1S ["_law_model","_law_room","_law_deed_here"] (d8 K (jN K A)) :=
 dc (S:=arS K A) (c:=arR) T.sJ.F (show bF ["_law_model","_law_room","_law_deed_here","_law_word","_law_lot","_law_one","_law_other","_law_amount","_law_there","_law_goal"] ["_law_model","_law_room","_law_deed_here"] _ from by walk_at "sc") rfl (by nofun) (by nofun) (by nofun) (c7 (uD (a0Y T) T.gG) gln)
def agQ(T:Txt K mg A):cH ao P w K mg base (lX P w) 9 A.a88 A.uM ["_law_shelves","_law_deed_here"] (d8 K (fU K A)) :=
 dc (S:=ajK K A) (c:=ajJ) T.mJ.F (show bF ["_law_shelves","_law_deed_here","_law_word","_law_lot","_law_one","_law_other","_law_amount","_law_e"] ["_law_shelves","_law_deed_here"] _ from by walk_at "sc") rfl (by nofun) (by nofun) (by nofun) (c7 T.n6.g (c7 (⟨_,_,_,[],[],T.aO,T.acQ,(abH T).mono (by decide),T.vR,.nil,λ_=>.nil⟩) (c7 (⟨_,_,_,[],[],T.aO,T.abA,(a8T T).mono (by decide),T.tV,.nil,λ_=>.nil⟩) (c7 (⟨_,_,_,[],[],T.aO,T.a8R,(a79 T).mono (by decide),T.qP,.nil,λ_=>.nil⟩) (c7 (uD (abI T) T.jA) gln)))))
def acS(T:Txt K mg A):cH ao P w K mg base (lX P w) 2 A.a5U A.rP ["_law_script","_law_plan_here"] (d8 K (pH K A)) :=
 dc (S:=ag5 K A) (c:=ag4) T.kJ.F (show bF ["_law_script","_law_plan_here","_law_cell","_law_one","_law_other","_law_third"] ["_law_script","_law_plan_here"] _ from by walk_at "sc") rfl (by nofun) (by nofun) (by nofun) (c7 (uD (j9 T) T.cI) gln)
def agR(T:Txt K mg A):cH ao P w K mg base (lX P w) 2 A.a89 A.uN ["_law_script","_law_k","_law_spots_here","_law_room"] (d8 K (sG K A)) :=
 dc (S:=ajM K A) (c:=ajL) T.mK.F (show bF ["_law_script","_law_k","_law_spots_here","_law_room","_law_cell","_law_more","_law_word","_law_lots","_law_amount"] ["_law_script","_law_k","_law_spots_here","_law_room"] _ from by walk_at "sc") rfl (by nofun) (by nofun) (by nofun) (c7 (uD (j9 T) T.cI) (c7 ⟨T.aO5,aGE⟩ (c7 ⟨T.aO6,aGD⟩ gln)))
def acT(T:Txt K mg A):cH ao P w K mg base (lX P w) 1 A.a5V A.rQ ["_law_model"] (d8 K (pI K A)) :=
 dc (S:=ag7 K A) (c:=ag6) T.kW.F (show bF ["_law_model","_law_found","_law_spot"] ["_law_model"] _ from by walk_at "sc") rfl (by nofun) (by nofun) (by nofun) (c7 ⟨T.amI,afG⟩ (c7 ⟨T.qH,m8⟩ (c7 ⟨T.qH,m8⟩ gln)))
def acU(T:Txt K mg A):cH ao P w K mg base (lX P w) 7 A.a5W A.rR ["_law_shelves","_law_model","_law_lot","_law_spot","_law_way"] (d8 K (pJ K A)) :=
 dc (S:=ag9 K A) (c:=ag8) T.kY.F (show bF ["_law_shelves","_law_model","_law_lot","_law_spot","_law_way","_law_there","_law_found","_law_told"] ["_law_shelves","_law_model","_law_lot","_law_spot","_law_way"] _ from by walk_at "sc") rfl (by nofun) (by nofun) (by nofun) (c7 (⟨_,_,_,[],[],T.aO,T.xC,(vD T).mono (by decide),T.jZ,.nil,λ_=>.nil⟩) (c7 (⟨_,_,_,[],[],T.aO,T.a0U,(zH T).mono (by decide),T.mZ,.nil,λ_=>.nil⟩) (c7 ⟨T.qH,m8⟩ (c7 (⟨_,_,_,[],[],T.aO,T.xB,(vC T).mono (by decide),T.jY,.nil,λ_=>.nil⟩) (c7 (uD (a0Y T) T.gG) (c7 (⟨_,_,_,[],[],T.aO,T.a76,(a6B T).mono (by decide),T.oK,.nil,λ_=>.nil⟩) (c7 ⟨T.qH,m8⟩ (c7 (⟨_,_,_,[],[],T.aO,T.zF,(xF T).mono (by decide),T.lV,.nil,λ_=>.nil⟩) (c7 ⟨T.amI,afG⟩ (c7 ⟨T.nA,lF⟩ (c7 ⟨T.ax3,anQ⟩ (c7 (uD (acT T) T.kW) gln))))))))))))
def abJ(T:Txt K mg A):cH ao P w K mg base (lX P w) 8 A.a2Z A.pF ["_law_shelves","_law_model","_law_script","_law_k","_law_spots_here"] (d8 K (jQ K A)) :=
 dc (S:=acP K A) (c:=acO) T.jB.F (show bF ["_law_shelves","_law_model","_law_script","_law_k","_law_spots_here","_law_cell","_law_lots","_law_turn","_law_way"] ["_law_shelves","_law_model","_law_script","_law_k","_law_spots_here"] _ from by walk_at "sc") rfl (by nofun) (by nofun) (by nofun) (c7 (uD (j9 T) T.cI) (c7 ⟨T.apC,aiS⟩ (c7 (uD (acU T) T.kY) gln)))
def aJO(T:Txt K mg A):cH ao P w K mg base (lX P w) 10 A.aaX A.aE3 ["_law_script"] (d8 K (agA K A)) :=
 dc (S:=aO3 K A) (c:=ajO) T.aO4.F (show bF ["_law_script","_law_plan_here","_law_cell","_law_room","_law_spots_here","_law_mine","_law_other","_law_models","_law_held","_law_k","_law_deed_here","_law_told"] ["_law_script"] _ from by walk_at "sc") rfl (by nofun) (by nofun) (by nofun) (c7 (uD (agP T) T.mH) (c7 (uD (j9 T) T.cI) (c7 (uD (acS T) T.kJ) (c7 (⟨_,_,_,_,[],[],rfl,T.amG,(a2D T).mono (by decide),T.amH,T.a4E,.nil,λ_=>.nil⟩) (c7 (⟨_,_,_,[],[],T.aO,T.zF,(xF T).mono (by decide),T.lV,.nil,λ_=>.nil⟩) (c7 (⟨_,_,_,[],[],T.aO,T.a0U,(zH T).mono (by decide),T.mZ,.nil,λ_=>.nil⟩) (c7 ⟨T.apC,aiS⟩ (c7 (uD (agR T) T.mK) (c7 (uD (agQ T) T.mJ) (c7 (uD (amW T) T.sJ) (c7 (uD (abJ T) T.jB) (c7 ⟨T.ax3,anQ⟩ gln))))))))))))
end
abbrev apT(K:Fg):Sp:=λvs H Q _=>∃(a:bw)(ns:List Int),vs=[.ref a]/\SqL K H a (ns.map V.int)/\ns.length<=63/\∀H',Q (.bl ak) H'
variable{mg:Str->Option aq}
def aCU{K:Fg}{A:bC}(T:Txt K mg A):∀vs H Q E,apT K vs H Q E->d8 K (agA K A) vs H Q E:=by
 rintro vs H Q E ⟨a,ns,rfl,hS,hl,k⟩;refine⟨[.ref a],λb=>if b=a then aj (.rol (ns.map D.int))else au,λd _=>d=.bl ak,λ_ _=>False,.cons (.ref a) .nil,λb o e=>?_,main T a ns hl _ (if_pos rfl),λv H' d G' r g e=>?_,λC H' G' g z=>z.elim⟩
 .have e2:(if b=a then aj (GO.rol (ns.map D.int))else au)=aj o:=e;by_cases hb:b=a
  .subst hb;rw[if_pos rfl]at e2;cases e2;exact⟨_,hS,dB.ints ns⟩
  .rw[if_neg hb]at e2;cases e2
 .subst e;cases r;exact k H'
abbrev Cb(K:Fg)(x q:Str)(st:qm)(f:bw):Prop:=∃oc kV dc pm cd ct od an sl,K.lookup f=aj ⟨oc,od,.func (qx x q (eE st) (cV st) (bI st) .none kV dc pm an cd ct),sl⟩/\a1o K cd q=ak/\uf K (.ref f)=ak
def Cb.get{K:Fg}{q:Str}(b:Cb K x q st f)(ps:List Str)(h:∀kV dc pm an cd ct,∀us:List aq,us.length=ps.length->uc (qx x q (eE st) (cV st) (bI st) .none kV dc pm an cd ct) ⟨us,[]⟩=pure (ps.zip us)):∃d,Fun K x q st f d/\Binds K d ps []/\uf K (.ref f)=ak:=by
 obtain⟨oc,kV,dc,pm,cd,ct,od,an,sl,l,c,k⟩:=b;exact⟨_,al9 (st:=st) l c k,aoQ (h _ _ _ _ _ _),k⟩
abbrev Fb(K:Fg)(x:Str)(st:qm)(f:bw):Prop:=qg K ju x=aj (aj (.ref f))/\Cb K x x st f
variable{us:List aq}
def aS7(h:us.length=1)(k:∀a,uc fd ⟨[a],[]⟩=pure (ps.zip [a])):uc fd ⟨us,[]⟩=pure (ps.zip us):=match us,h with|[a],_=>k a
def aJP(h:us.length=2)(k:∀a b,uc fd ⟨[a,b],[]⟩=pure (ps.zip [a,b])):uc fd ⟨us,[]⟩=pure (ps.zip us):=match us,h with|[a,b],_=>k a b
def aOQ(h:us.length=3)(k:∀a b c,uc fd ⟨[a,b,c],[]⟩=pure (ps.zip [a,b,c])):uc fd ⟨us,[]⟩=pure (ps.zip us):=match us,h with|[a,b,c],_=>k a b c
def aJQ(h:us.length=4)(k:∀a b c d,uc fd ⟨[a,b,c,d],[]⟩=pure (ps.zip [a,b,c,d])):uc fd ⟨us,[]⟩=pure (ps.zip us):=match us,h with|[a,b,c,d],_=>k a b c d
def aS8(h:us.length=5)(k:∀a b c d e,uc fd ⟨[a,b,c,d,e],[]⟩=pure (ps.zip [a,b,c,d,e])):uc fd ⟨us,[]⟩=pure (ps.zip us):=match us,h with|[a,b,c,d,e],_=>k a b c d e
def len1{q:Str}(k:∀kV dc pm an cd ct a,uc (qx q q (eE st) (cV st) (bI st) .none kV dc pm an cd ct) ⟨[a],[]⟩=pure (ps.zip [a])):∀kV dc pm an cd ct,∀us:List aq,us.length=1->uc (qx q q (eE st) (cV st) (bI st) .none kV dc pm an cd ct) ⟨us,[]⟩=pure (ps.zip us):=λ_ _ _ _ _ _ us h=>by
 rcases us with _|⟨a,_|⟨_,_⟩⟩<;>first|exact k _ _ _ _ _ _ a|simp at h
def len2{q:Str}(k:∀kV dc pm an cd ct a b,uc (qx q q (eE st) (cV st) (bI st) .none kV dc pm an cd ct) ⟨[a,b],[]⟩=pure (ps.zip [a,b])):∀kV dc pm an cd ct,∀us:List aq,us.length=2->uc (qx q q (eE st) (cV st) (bI st) .none kV dc pm an cd ct) ⟨us,[]⟩=pure (ps.zip us):=λ_ _ _ _ _ _ us h=>by
 rcases us with _|⟨a,_|⟨b,_|⟨_,_⟩⟩⟩<;>first|exact k _ _ _ _ _ _ a b|simp at h
def aOR{q:Str}(k:∀kV dc pm an cd ct a b c,uc (qx q q (eE st) (cV st) (bI st) .none kV dc pm an cd ct) ⟨[a,b,c],[]⟩=pure (ps.zip [a,b,c])):∀kV dc pm an cd ct,∀us:List aq,us.length=3->uc (qx q q (eE st) (cV st) (bI st) .none kV dc pm an cd ct) ⟨us,[]⟩=pure (ps.zip us):=λ_ _ _ _ _ _ us h=>by
 rcases us with _|⟨a,_|⟨b,_|⟨c,_|⟨_,_⟩⟩⟩⟩<;>first|exact k _ _ _ _ _ _ a b c|simp at h
def aJR{q:Str}(k:∀kV dc pm an cd ct a b c d,uc (qx q q (eE st) (cV st) (bI st) .none kV dc pm an cd ct) ⟨[a,b,c,d],[]⟩=pure (ps.zip [a,b,c,d])):∀kV dc pm an cd ct,∀us:List aq,us.length=4->uc (qx q q (eE st) (cV st) (bI st) .none kV dc pm an cd ct) ⟨us,[]⟩=pure (ps.zip us):=λ_ _ _ _ _ _ us h=>by
 rcases us with _|⟨a,_|⟨b,_|⟨c,_|⟨d,_|⟨_,_⟩⟩⟩⟩⟩<;>first|exact k _ _ _ _ _ _ a b c d|simp at h
def aOS(k:∀kV dc pm an cd ct a b c d e,uc (qx q q (eE st) (cV st) (bI st) .none kV dc pm an cd ct) ⟨[a,b,c,d,e],[]⟩=pure (ps.zip [a,b,c,d,e])):∀kV dc pm an cd ct,∀us:List aq,us.length=5->uc (qx q q (eE st) (cV st) (bI st) .none kV dc pm an cd ct) ⟨us,[]⟩=pure (ps.zip us):=λ_ _ _ _ _ _ us h=>by
 rcases us with _|⟨a,_|⟨b,_|⟨c,_|⟨d,_|⟨e,_|⟨_,_⟩⟩⟩⟩⟩⟩<;>first|exact k _ _ _ _ _ _ a b c d e|simp at h
def Fb.get{K:Fg}{q:Str}{st:qm}{f:bw}{h:jm}{mg:Str->Option aq}(b:Fb K q st f)(XK:K.In h)(GG:h.Ns ju mg)(ps:List Str)(h:∀kV dc pm an cd ct,∀us:List aq,us.length=ps.length->uc (qx q q (eE st) (cV st) (bI st) .none kV dc pm an cd ct) ⟨us,[]⟩=pure (ps.zip us)):∃d,FnT K mg q st f d ps:=by
 obtain⟨d,F,B,_⟩:=b.2.get ps h;exact⟨d,F,B,zm XK GG b.1⟩
abbrev Mb(K:Fg)(c:bw)(x q:Str)(st:qm)(f:bw):Prop:=lg K (.ref c) x=aj (aj (.ref f))/\a1O K (.ref f)=ak/\Cb K x q st f
def Mb.get{K:Fg}{c:bw}{x q:Str}{st:qm}{f:bw}(b:Mb K c x q st f)(ps:List Str)(h:∀kV dc pm an cd ct,∀us:List aq,us.length=ps.length->uc (qx x q (eE st) (cV st) (bI st) .none kV dc pm an cd ct) ⟨us,[]⟩=pure (ps.zip us)):∃d,Fun K x q st f d/\Binds K d ps []/\lg K (.ref c) x=aj (aj (.ref f))/\a1O K (.ref f)=ak/\uf K (.ref f)=ak:=by
 obtain⟨d,F,B,k⟩:=b.2.2.get ps h;exact⟨d,F,B,b.1,b.2.1,k⟩
structure Eb(K:Fg)(x:Str)(c:bw):Prop where
 b:qg K ju x=aj (aj (.ref c))
 x:yx K c [.type "ValueError",.type "Exception",.type "BaseException",.type "object"] "ValueError.__new__"=ak
 cs:(wg K c).isSome=ak
 ty:a0t K (.ref c)=aj (.type "type")
 be:um K (.ref c) (.type "BaseException")=aj ak
def Eb.gt{K:Fg}{h:jm}(e:Eb K x c)(XK:K.In h)(GG:h.Ns ju mg):ExT K mg x c:=⟨zm XK GG e.b,e.x,e.cs,e.ty,e.be⟩
variable{l:PySem.W.OpenLaw}
def all_mk{w:jj}{K:Fg}{h:jm}{fa:bw}(XK:K.In h)(GG:h.Ns ju mg)(hfa:mg "law"=aj (.ref fa))
  (iM:Fb K "is_whole" aaP amX)
  (sH:Fb K "is_pair" aeF as4)
  (mF:Fb K "is_amount" a80 ak3)
  (sI:Fb K "is_plan" aeG as5)
  (jR:Fb K "need_plan" a81 ak4)
  (xA:Fb K "is_bin" aj8 axN)
  (gF:Fb K "need_lot" aaQ amY)
  (fB:Fb K "need_bin" aaR amZ)
  (dH:Fb K "need_amount" a2R acV)
  (qD:Fb K "change" aj9 axO)
  (oF:Fb K "in_order" aaS an0)
  (bK:lg K (.ref bM) "__init__"=aj (aj (.ref iQ)))
  (iR:a1O K (.ref iQ)=ak)
  (m6:K.lookup iQ=aj ⟨akF,akG,.func (qx "__init__" "Shelves.__init__" (eE eY) (cV eY) (bI eY) (.ref a2E) akH akI akJ akK a2F akL),akM⟩)
  (eZ:a1o K a2F "Shelves.__init__"=ak)
  (iT:uf K (.ref iQ)=ak)
  (iU:K.lookup a2E=aj ⟨akN,akO,.seq #[.int 1000 a2G] akP,akQ⟩)
  (oW:Mb K bM "filled" "Shelves.filled" wH a7A)
  (lD:Mb K bM "need_room" "Shelves.need_room" rA a2H)
  (vU:Mb K bM "put" "Shelves.put" a2S acW)
  (oX:Mb K bM "amount" "Shelves.amount" wI a7B)
  (jW:Mb K bM "need_there" "Shelves.need_there" pR a0Z)
  (u0:Mb K bM "take" "Shelves.take" a08 abK)
  (qT:Mb K bM "shift" "Shelves.shift" yU a8U)
  (u5:Mb K bM "held" "Shelves.held" a09 abL)
  (oY:Mb K bM "places" "Shelves.places" wJ a7C)
  (qU:Mb K bM "lying" "Shelves.lying" yV a8V)
  (cI:Fb K "_law_cell_at" a0A abM)
  (mH:Fb K "_law_plan" a82 ak5)
  (jA:Fb K "_law_raised" a2T acX)
  (gG:Fb K "_law_filled" a2U acY)
  (sJ:Fb K "_law_do" aeH as6)
  (mJ:Fb K "_law_done" a83 ak6)
  (kJ:Fb K "_law_spots" a5P agS)
  (mK:Fb K "_law_deed" a84 ak7)
  (kW:Fb K "_law_lying" a5Q agT)
  (kY:Fb K "_law_asked" a5R agU)
  (jB:Fb K "_law_looked" a2V acZ)
  (aaX:qg K ju "law"=aj (aj (.ref axP)))
  (axQ:K.lookup axP=aj ⟨aS9,aSA,.func (qx "law" "law" (eE ajA) (cV ajA) (bI ajA) .none aSB aSC aSD aSE aJS aSF),aSG⟩)
  (ajO:a1o K aJS "law"=ak)
  (axR:uf K (.ref axP)=ak)
  (a4G:qg K ju "Shelves"=aj (aj (.ref bM)))
  (a4H:a1q K bM Str.empty=ak)
  (a4I:a2d K bM=ak)
  (a4J:PySem.W.plainOver K bM=ak)
  (a4K:lg K (.ref bM) "__setattr__"=aj (aj (.builtin "object.__setattr__")))
  (a4L:PySem.W.makesIn K bM=ak)
  (a4M:uf K (.ref bM)=ak)
  (nF:lg K (.ref bM) "layout"=aj au)
  (qW:lg K (.ref bM) "room"=aj au)
  (nG:lg K (.ref bM) "stacks"=aj au)
  (n6:Eb K "DepotError" yH)
  (xD:Eb K "NoPlan" abN)
  (a1U:Eb K "NoBin" agV)
  (a1V:Eb K "NoLot" agW)
  (oM:Eb K "NoAmount" a4N)
  (qG:Eb K "NoRoom" fJ)
  (a7D:lg K (.ref fJ) "__getattribute__"=aj (aj (.builtin "BaseException.__getattribute__")))
  (a7E:lg K (.ref fJ) "__getattr__"=aj au)
  (a7F:lg K (.ref fJ) "__class__"=aj (aj (.builtin "object.__class__")))
  (a7G:PySem.W.mroIn K fJ (.type "object")=aj ak)
  (xE:iy K (.ref fJ) (.type "ValueError")=aj ak)
  (iC:Eb K "TooLittle" bY)
  (yI:lg K (.ref bY) "__getattribute__"=aj (aj (.builtin "BaseException.__getattribute__")))
  (yJ:lg K (.ref bY) "__getattr__"=aj au)
  (yK:lg K (.ref bY) "__class__"=aj (aj (.builtin "object.__class__")))
  (yL:PySem.W.mroIn K bY (.type "object")=aj ak)
  (n8:iy K (.ref bY) (.type "ValueError")=aj ak)
  (d7:um K (.ref fJ) (.ref yH)=aj ak)
  (fW:iy K (.ref fJ) (.ref a4N)=aj ao)
  (jU:iy K (.ref fJ) (.ref agV)=aj ao)
  (jV:iy K (.ref fJ) (.ref agW)=aj ao)
  (j7:iy K (.ref fJ) (.ref abN)=aj ao)
  (j8:iy K (.ref fJ) (.ref fJ)=aj ak)
  (fC:iy K (.ref fJ) (.ref bY)=aj ao)
  (bZ:um K (.ref bY) (.ref yH)=aj ak)
  (dM:iy K (.ref bY) (.ref a4N)=aj ao)
  (fX:iy K (.ref bY) (.ref agV)=aj ao)
  (fY:iy K (.ref bY) (.ref agW)=aj ao)
  (fD:iy K (.ref bY) (.ref abN)=aj ao)
  (fG:iy K (.ref bY) (.ref fJ)=aj ao)
  (dD:iy K (.ref bY) (.ref bY)=aj ak)
  (lM:qg K ju "MOST_AISLES"=aj (aj (.int 26 ad0)))
  (lO:qg K ju "MOST_PLACES"=aj (aj (.int 99 ad1)))
  (lQ:qg K ju "MOST_AMOUNT"=aj (aj (.int 1000000 ad2)))
  (tX:qg K ju "MOST_GAP"=aj (aj (.int 20 an1)))
  (fZ:qg K ju "MOST_LOTS"=aj (aj (.int 1000 ak8)))
  (yM:qg K ju "ValueError"=aj au)
  (an2:qg K ju "bool"=aj au)
  (an3:qg K ju "dict"=aj au)
  (axS:qg K ju "int"=aj au)
  (yN:qg K ju "isinstance"=aj au)
  (axT:qg K ju "len"=aj au)
  (an4:qg K ju "list"=aj au)
  (axU:qg K ju "max"=aj au)
  (axV:qg K ju "min"=aj au)
  (agX:qg K ju "range"=aj au)
  (abO:qg K ju "sorted"=aj au)
  (axW:qg K ju "sum"=aj au)
  (agY:qg K ju "tuple"=aj au) :
  ∃fd:jw,(∀(s:cu)(v:aq),BindsTo s fd ⟨[v],[]⟩ [("_law_script",v)])/\∀base:jm,K.In base->base.Ns ju mg->cH ao l.prog w K mg base (lX l.prog w) 10 fa fd ["_law_script"] (apT K):=by
 have e:=hfa.symm.trans (zm XK GG aaX);cases e;obtain⟨xU,an5⟩:=iM.get XK GG ["thing","least","most"] (aOR λ_ _ _ _ _ _ _ _ _=>rfl);obtain⟨a1Q,as7⟩:=sH.get XK GG ["thing","aisles","first","last"] (aJR λ_ _ _ _ _ _ _ _ _ _=>rfl);obtain⟨uJ,ak9⟩:=mF.get XK GG ["thing"] (len1 λ_ _ _ _ _ _ _=>rfl);obtain⟨a1R,as8⟩:=sI.get XK GG ["thing"] (len1 λ_ _ _ _ _ _ _=>rfl);obtain⟨uK,akA⟩:=jR.get XK GG ["plan"] (len1 λ_ _ _ _ _ _ _=>rfl);obtain⟨a5S,axX⟩:=xA.get XK GG ["plan","thing"] (len2 λ_ _ _ _ _ _ _ _=>rfl);obtain⟨xV,an6⟩:=gF.get XK GG ["thing","lots"] (len2 λ_ _ _ _ _ _ _ _=>rfl);obtain⟨xW,an7⟩:=fB.get XK GG ["plan","thing"] (len2 λ_ _ _ _ _ _ _ _=>rfl);obtain⟨pB,ad3⟩:=dH.get XK GG ["thing"] (len1 λ_ _ _ _ _ _ _=>rfl);obtain⟨a5T,axY⟩:=qD.get XK GG ["stacks","spot","lot","more"] (aJR λ_ _ _ _ _ _ _ _ _ _=>rfl);obtain⟨xX,an8⟩:=oF.get XK GG ["stacks"] (len1 λ_ _ _ _ _ _ _=>rfl);obtain⟨gO,oG,jY,gM,a7H,a7I⟩:=oW.get ["self","spot"] λ_ _ _ _ _ _ us hl=>aJP hl λ_ _=>rfl;obtain⟨dX,lC,gH,dW,a2I,a2J⟩:=lD.get ["self","spot","amount"] λ_ _ _ _ _ _ us hl=>aOQ hl λ_ _ _=>rfl;obtain⟨lK,vQ,vR,lJ,ad4,ad5⟩:=vU.get ["self","lot","spot","amount"] λ_ _ _ _ _ _ us hl=>aJQ hl λ_ _ _ _=>rfl;obtain⟨gQ,oH,jZ,gP,a7J,a7K⟩:=oX.get ["self","lot","spot"] λ_ _ _ _ _ _ us hl=>aOQ hl λ_ _ _=>rfl;obtain⟨dJ,jT,fV,dI,a1A,a1B⟩:=jW.get ["self","lot","spot","amount"] λ_ _ _ _ _ _ us hl=>aJQ hl λ_ _ _ _=>rfl;obtain⟨jH,tU,tV,jG,abP,abQ⟩:=u0.get ["self","lot","spot","amount"] λ_ _ _ _ _ _ us hl=>aJQ hl λ_ _ _ _=>rfl;obtain⟨iZ,qO,qP,iY,a8W,a8X⟩:=qT.get ["self","lot","one","other","amount"] λ_ _ _ _ _ _ us hl=>aS8 hl λ_ _ _ _ _=>rfl;obtain⟨jK,tW,mZ,jJ,abR,abS⟩:=u5.get ["self","spot"] λ_ _ _ _ _ _ us hl=>aJP hl λ_ _=>rfl;obtain⟨gU,oJ,oK,gR,a7L,a7M⟩:=oY.get ["self","lot"] λ_ _ _ _ _ _ us hl=>aJP hl λ_ _=>rfl;obtain⟨j5,qQ,lV,j4,a8Y,a8Z⟩:=qU.get ["self"] λ_ _ _ _ _ _ us hl=>aS7 hl λ_=>rfl;obtain⟨mV,abT⟩:=cI.get XK GG ["_law_script","_law_k"] (len2 λ_ _ _ _ _ _ _ _=>rfl);obtain⟨uL,akB⟩:=mH.get XK GG ["_law_script","_law_k"] (len2 λ_ _ _ _ _ _ _ _=>rfl);obtain⟨pC,ad6⟩:=jA.get XK GG ["_law_e"] (len1 λ_ _ _ _ _ _ _=>rfl);obtain⟨pD,ad7⟩:=gG.get XK GG ["_law_model","_law_spot"] (len2 λ_ _ _ _ _ _ _ _=>rfl);obtain⟨a1S,as9⟩:=sJ.get XK GG ["_law_model","_law_room","_law_deed_here"] (aOR λ_ _ _ _ _ _ _ _ _=>rfl);obtain⟨uM,akC⟩:=mJ.get XK GG ["_law_shelves","_law_deed_here"] (len2 λ_ _ _ _ _ _ _ _=>rfl);obtain⟨rP,agZ⟩:=kJ.get XK GG ["_law_script","_law_plan_here"] (len2 λ_ _ _ _ _ _ _ _=>rfl);obtain⟨uN,akD⟩:=mK.get XK GG ["_law_script","_law_k","_law_spots_here","_law_room"] (aJR λ_ _ _ _ _ _ _ _ _ _=>rfl);obtain⟨rQ,ah0⟩:=kW.get XK GG ["_law_model"] (len1 λ_ _ _ _ _ _ _=>rfl);obtain⟨rR,ah1⟩:=kY.get XK GG ["_law_shelves","_law_model","_law_lot","_law_spot","_law_way"] (aOS λ_ _ _ _ _ _ _ _ _ _ _=>rfl);obtain⟨pF,ad8⟩:=jB.get XK GG ["_law_shelves","_law_model","_law_script","_law_k","_law_spots_here"] (aOS λ_ _ _ _ _ _ _ _ _ _ _=>rfl);have Z:=λ{x:Str}(h:qg K ju x=aj au)=>PySem.W.mg_none_of XK GG h;have T:Txt K mg ⟨amX,xU,as4,a1Q,ak3,uJ,as5,a1R,ak4,uK,axN,a5S,amY,xV,amZ,xW,acV,pB,axO,a5T,an0,xX,iQ,_,a7A,gO,a2H,dX,acW,lK,a7B,gQ,a0Z,dJ,abK,jH,a8U,iZ,abL,jK,a7C,gU,a8V,j5,abM,mV,ak5,uL,acX,pC,acY,pD,as6,a1S,ak6,uM,agS,rP,ak7,uN,agT,rQ,agU,rR,acZ,pF,axP,_,yH,abN,agV,agW,a4N,fJ,bY,bM⟩:=⟨an5,as7,ak9,as8,akA,axX,an6,an7,ad3,axY,an8,al9 (st:=eY) m6 eZ iT,aBM (ps:=["self","plan","room"]) iU (λus hl=>match us,hl with|[_,_,_],_=>⟨_,rfl,rfl,rfl⟩),⟨bK,iR,iT⟩,⟨a2G,aBN (ps:=["self","plan","room"]) iU (λus hl=>match us,hl with|[_,_],_=>⟨_,rfl,rfl,rfl⟩)⟩,oG,jY,⟨gM,a7H,a7I⟩,lC,gH,⟨dW,a2I,a2J⟩,vQ,vR,⟨lJ,ad4,ad5⟩,oH,jZ,⟨gP,a7J,a7K⟩,jT,fV,⟨dI,a1A,a1B⟩,tU,tV,⟨jG,abP,abQ⟩,qO,qP,⟨iY,a8W,a8X⟩,tW,mZ,⟨jJ,abR,abS⟩,oJ,oK,⟨gR,a7L,a7M⟩,qQ,lV,⟨j4,a8Y,a8Z⟩,abT,akB,ad6,ad7,as9,akC,agZ,akD,ah0,ah1,ad8,⟨al9 (st:=ajA) axQ ajO axR,aoQ (ps:=["_law_script"]) (λus hl=>match us,hl with|[_],_=>rfl),zm XK GG aaX⟩,⟨a4H,a4I,a4J,a4K⟩,⟨a4L,bK,iR,a4M⟩,zm XK GG a4G,nF,qW,nG,n6.gt XK GG,xD.gt XK GG,a1U.gt XK GG,a1V.gt XK GG,oM.gt XK GG,qG.gt XK GG,⟨a7D,a7E,a7F,qG.be,a7G,qG.cs⟩,xE,iC.gt XK GG,⟨yI,yJ,yK,iC.be,yL,iC.cs⟩,n8,d7,fW,jU,jV,j7,j8,fC,bZ,dM,fX,fY,fD,fG,dD,⟨ad0,zm XK GG lM⟩,⟨ad1,zm XK GG lO⟩,⟨ad2,zm XK GG lQ⟩,⟨an1,zm XK GG tX⟩,⟨ak8,zm XK GG fZ⟩,Z yM,Z an2,Z an3,Z axS,Z yN,Z axT,Z an4,Z axU,Z axV,Z agX,Z abO,Z axW,Z agY⟩;exact⟨_,λs v=>.of_eq rfl,λbase _ _=>(aJO T).imp (aCU T)⟩
def walk{d:DefRec}{K:Params->je}(hn:l.most=aj 63)(hdf:d.params.defaults=[])
  (hY:∀(w:jj)(h:jm),YP w h->(K w.params).In h)
  (F:∀(w:jj)(mg:Str->Option aq)(fa:bw)(h:jm),(K w.params).In h->h.Ns ju mg->mg d.name=aj (.ref fa) ->
   ∃fd:jw,(∀(s:cu)(u:aq),BindsTo s fd ⟨[u],[]⟩ [("_law_script",u)])/\∀base:jm,(K w.params).In base->base.Ns ju mg->cH ao l.prog w (K w.params) mg base (lX l.prog w) 10 fa fd ["_law_script"] (apT (K w.params))) :
  PySem.W.WalkO q loose XP YP l.row.toRowW d [] (λf vs=>PySem.call f vs) :=
 L2.az8 (n:=63) (k:=10) (x:="_law_script") (CX:=λw=>lX l.prog w) (sp:=λw=>apT (K w.params)) hn (by decide) hdf ⟨λ_=>rfl,by decide,by decide⟩ hY F (λ_ _ a ns hl _ hS=>⟨a,ns,rfl,hS,hl,λ_=>rfl⟩) (by rintro _ _ _ _ _ ⟨_,_,_,_,_,_,_,_,_,_,_,_,z⟩;exact z)
end Law
open PySem PySem.W PyProof.Rows
set_option tactic.hygienic true in
theorem PySem.Challenge.cw_depot_k22_deeds_on_shelves_holds : PySem.Challenge.rw_depot_k22_deeds_on_shelves.Holds := by
 w_on;refine PySem.W.holds_law Law.frW λsaid=>?_;o_head (PySem.W.kHook Law.frK.heap_1 Law.frA Law.frE)
 case hl=>exact Law.frL
 case hw=>w_witness2
 k_fill
 refine Law.walk (l:=PySem.Challenge.rw_depot_k22_deeds_on_shelves) rfl rfl (λw h Y=>PySem.W.kIn_of Y) ?F
 case F =>
  intro w mg fa h KX G hmg;refine' Law.all_mk KX G hmg ?iM ?sH ?mF ?sI ?jR ?xA ?gF ?fB ?dH ?qD ?oF ?bK ?iR ?m6 ?eZ ?iT ?iU ?oW ?lD ?vU ?oX ?jW ?u0 ?qT ?u5 ?oY ?qU ?cI ?mH ?jA ?gG ?sJ ?mJ ?kJ ?mK ?kW ?kY ?jB ?aaX ?axQ ?ajO ?axR ?a4G ?a4H ?a4I ?a4J ?a4K ?a4L ?a4M ?nF ?qW ?nG ?n6 ?xD ?a1U ?a1V ?oM ?qG ?a7D ?a7E ?a7F ?a7G ?xE ?iC ?yI ?yJ ?yK ?yL ?n8 ?d7 ?fW ?jU ?jV ?j7 ?j8 ?fC ?bZ ?dM ?fX ?fY ?fD ?fG ?dD ?lM ?lO ?lQ ?tX ?fZ ?yM ?an2 ?an3 ?axS ?yN ?axT ?an4 ?axU ?axV ?agX ?abO ?axW ?agY
  case a4G=>k_is
  case iM|sH|mF|sI|jR|xA|gF|fB|dH|qD|oF=>exact⟨by k_is,_,_,_,_,_,_,_,_,_,by k_is,by k_is,by k_is⟩
  case n6|xD|a1U|a1V|oM|qG|iC=>exact⟨by k_is,by k_exc,by nofun,by k_is,by k_is⟩
  case oW|lD|vU|oX|jW|u0|qT|u5|oY|qU=>exact⟨by k_is,by k_is,_,_,_,_,_,_,_,_,_,by k_is,by k_is,by k_is⟩
  case cI|mH|jA|gG|sJ|mJ|kJ|mK|kW|kY|jB=>exact⟨by k_is,_,_,_,_,_,_,_,_,_,by k_is,by k_is,by k_is⟩
  case bK|iR|m6|eZ|iT|iU|aaX|axQ|ajO|axR|a4H|a4I|a4J|a4K|a4L|a4M|nF|qW|nG|a7D|a7E|a7F|a7G|yI|yJ|yK|yL|d7|bZ|lM|lO|lQ|tX|fZ|yM|an2|an3|axS|yN|axT|an4|axU|axV|agX|abO|axW|agY=>k_is
  case xE|n8|fW|jU|jV|j7|j8|fC|dM|fX|fY|fD|fG|dD=>kit_is
