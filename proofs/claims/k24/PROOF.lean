import PyProof.Rows.All
import Wide.All
import OpenK.KLine
import OpenK.KOwn
import Wide.FinOn
import Lean
import PyProof.EqAt
import PyProof.EqKinds
import PyProof.TupleCall
import KE.KMinKey
import KE.KSortTup
import KE.KRevSl
import KE.KStateDown
import PyProof.Rows.Range3
import KE.KDictOf
import PyProof.AttrMissSeq
import KE.KRevIter
import KE.KItemsList
import KE.KEqDict
import KE.KDictSum
import KE.RegKIsAll
import PySem.Challenge.RW_depot_k24_wrong_deeds
set_option Elab.async false
set_option linter.all false
set_option maxRecDepth 100000
set_option maxHeartbeats 4000000
namespace Law
open PySem PySem.W PyProof.Rows
def frT (n:Nat):Stmt:=PySem.Challenge.pw_depot_k24_wrong_deeds.main.body.getD n (.Pass ⟨0,0,0,0⟩)
def frQ:Program:={ PySem.Challenge.pw_depot_k24_wrong_deeds with main:={ PySem.Challenge.pw_depot_k24_wrong_deeds.main with body:=[frT 1,frT 2,frT 3,frT 4,frT 5,frT 6,frT 7,frT 9,frT 10,frT 11,frT 12,frT 13,frT 14,frT 16,frT 17,frT 18,frT 19,frT 21,frT 22,frT 23,frT 25,frT 26,frT 27,frT 28,frT 30,frT 31,frT 32,frT 33,frT 34,frT 35,frT 36,frT 37,frT 38] } }
theorem frB {p q:Program} {loose:List Str} {Xt:Shared→Bool} {α:Type} {Yf:Shared→α} {Ya:World→α} {N:Nat} {g0:Bool}
    (e:opening p=plainProg p.main.scope.names) (hN:Nat.ble 600 N=true) (f:∀ s,fenceModules? p s=some s)
    (h:∀ (w:World) (os:OsState),(topFrom treeTable p w N ⟨boot_heap w.params,#[],boot_drawn,boot_toks,os⟩).map (fun s=>(openSeen q loose (importedModules p.main.body) Xt g0 s,Yf s))=some (openGood q loose,Ya w)) :
    LeftO p q loose Xt Yf Ya N g0:=fun w=>by
  obtain ⟨⟨h1,gs,d,k,os⟩,e1,e'⟩:=Option.map_eq_some_iff.mp (boot_open e hN f w)
  obtain ⟨rfl,rfl,rfl,rfl⟩:h1=boot_heap w.params∧gs=#[]∧d=boot_drawn∧k=boot_toks:=by simpa using e'
  unfold openEnds
  rw [e1]
  exact h w os
abbrev frX:Shared→Bool:=fun s=>xlAt frQ [] s&&recOk (RowW.records (OpenRow.toRowW (OpenLaw.row PySem.Challenge.rw_depot_k24_wrong_deeds))) s
end Law
local macro_rules
  | `(tactic| o_head $H)=>`(tactic| refine PySem.W.holds_open (q:=Law.frQ) (loose:=[]) (Xt:=Law.frX) (XP:=PySem.W.XL Law.frQ []) (Yf:=PySem.W.Hook.obs $H) (Ya:=PySem.W.Hook.val $H)
      (YP:=PySem.W.Hook.says $H) (N:=5612) ?hl (PySem.W.Hook.of $H) (PySem.W.Hook.keeps $H) (fun s e=>PySem.W.xl_of s (Bool.and_eq_true_iff.mp e).1) PySem.W.XL.keeps (by rfl) (by rfl) (by rfl)
      (fun s e=>PySem.W.recFacts_of (Bool.and_eq_true_iff.mp e).2) (by rfl) (by first | assumption | decide +kernel) (by decide +kernel) ⟨rfl,rfl,rfl,rfl,rfl,by decide +kernel⟩ ?hw ?hc)
open PySem PySem.W in
theorem Law.frK (h0:∀ {α:Type} (Yf:Shared→α) (Ya:World→α),LeftO (OpenLaw.row PySem.Challenge.rw_depot_k24_wrong_deeds).prog Law.frQ [] Law.frX Yf Ya 5612)
    (h1:∀ YP d,WalkO Law.frQ [] (XL Law.frQ []) YP (OpenRow.toRowW (OpenLaw.row PySem.Challenge.rw_depot_k24_wrong_deeds)) d [] (fun f vs=>PySem.call f vs)):OpenLaw.Holds PySem.Challenge.rw_depot_k24_wrong_deeds:=by
  w_on;o_law;k_head
  case hl=>exact h0 _ _
  case hw=>w_witness2
  exact h1 _ _
abbrev Law.frA:List Nat:=[2,3,15,22,23,24,25,28,35,36,37,40,47,48,49,52,59,60,61,64,71,72,73,76,83,84,85,88,95,96,97,100,102,103,105,106,107,109,110,112,113,114,116,117,119,120,121,123,124,126,127,128,130,131,133,134,135,137,138,140,141,142,144,145,147,148,149,151,152,154,155,156,158,159,161,162,163,165,166,168,169,170,172,173,175,176,184,185,187,188,190,191,192,194,195,197,198,199,201,202,204,205,206,208,209,211,212,213,215,216,218,219,220,222,223,225,226,227,229,230,232,233,234,237,238,239,241,242,244,245,246,248,249,251,252,253,255,256,258,259,260,261,262,263,264,267,269,270,272,273,274,276,277,279,280,281,284,285,286,288,289,291,292,293,295,296,298,299,300,302,303,305,306,307,309,310,312,313,314,316,317,319,320,321,323,324,326,327]
theorem Law.frE:∀ P,Law.frA=(Law.frK.heap_39 P).map (·.1):=fun _=>by kernel_rfl
open PySem PySem.W in
theorem Law.frL:LeftO (OpenLaw.row PySem.Challenge.rw_depot_k24_wrong_deeds).prog Law.frQ [] Law.frX (Hook.obs (kHook Law.frK.heap_39 Law.frA Law.frE)) (Hook.val (kHook Law.frK.heap_39 Law.frA Law.frE)) 5612 :=
  Law.frB (by kernel_rfl) (by kernel_rfl) (fun s=>by kernel_rfl) (fun w os=>by kernel_rfl)
namespace L2
open PySem PySem.Spec PyProof.Rows
section
structure Tr (B:Heap) (x:Addr) (C fl:Value) (h:Heap):Prop where
  ex:∃ (o:Obj) (vs:Array Value) (T:Addr) (oT:Obj) (ts:Array Value),h.get? x=some o∧o.cls=C∧o.data = .fields vs∧vs[1]?=some (.ref T)∧vs[2]?=some .none∧B.get? T=none∧T≠x∧h.get? T=some oT∧oT.data = .fields ts∧ts[3]?=some fl
structure aoL (B:Heap) (l:List Env) (x:Addr) (C fl:Value) (h:Heap):Prop where
  stays:B.StaysIn h
  new:B.get? x=none
  aM3:h.FunFrames B l
  tr:Tr B x C fl h
abbrev Fly (B:Heap) (l:List Env) (x:Addr) (C:Value) (h:Heap):Prop:=aoL B l x C .none h
section
variable {M:Model} {A:Around} {E:Value→Shared→Prop} {s:Shared} {B:Heap} {l:List Env} {env:Env} {outer:List Env} {L x:Addr} {C fl:Value}
theorem aoL.fld {h:Heap} (f:aoL B l x C fl h):∃ o vs,h.get? x=some o∧o.cls=C∧o.data = .fields vs∧vs[2]?=some .none:=by
  obtain ⟨o,vs,_,_,_,h1,h2,h3,_,h5,_⟩:=f.tr.ex
  exact ⟨o,vs,h1,h2,h3,h5⟩
theorem a03 {h:Heap} {a:Addr} {o:Obj} {vs:Array Value} {i:Nat} {v:Value} (e:h.get? a=some o) (d:o.data = .fields vs) :
    (h.update a (Obj.mapFields (·.setIfInBounds i v))).get? a=some (Obj.mapFields (·.setIfInBounds i v) o)∧(Obj.mapFields (·.setIfInBounds i v) o).data = .fields (vs.setIfInBounds i v)∧(Obj.mapFields (·.setIfInBounds i v) o).cls=o.cls ∧
    (∀ b,b≠a→(h.update a (Obj.mapFields (·.setIfInBounds i v))).get? b=h.get? b):=by
  have d':=Obj.data_mapFields d (·.setIfInBounds i v)
  exact ⟨Heap.get?_update_self _ e (Obj.isFreed_of_fields d'),d',Obj.cls_mapFields _ _,fun b hb=>Heap.get?_update_other _ _ (Ne.symm hb)⟩
theorem aaV {h:Heap} {a b:Addr} {o u:Obj} {vs:Array Value} (e:h.get? a=some o) (d:o.data = .fields vs) (e2:h.get? b=some u) (n:∀ ws,u.data ≠ .fields ws):b≠a:=fun q=>by
  subst q
  rw [e] at e2
  cases e2
  exact n vs d
theorem ajE {Q:Unit→Shared→Prop} (f:aoL B l x C fl s.heap) (h:∀ h',Fly B l x C h'→s.heap.UpToSlots h'→Q () { s with heap:=h' }):wpAny M A (setFlight (.ref x) none) Q E s:=by
  obtain ⟨st,nw,fu,⟨o,vs,T,oT,ts,e1,e2,e3,e4,e5,e6,e7,e8,e9,e10⟩⟩:=f
  unfold setFlight
  refine wpAny_bind (wpAny_field e1 e3 e4 ?_)
  rw [if_pos (by simp)]
  have l3:3 < ts.size:=(Array.getElem?_eq_some_iff.mp e10).1
  obtain ⟨u1,u2,u3,u4⟩:=a03 (i:=3) (v:=(none:Option Addr).elim Value.none fun f=>rawInt f) e8 e9
  refine wpAny_setField e8 e9 l3 (h _ ⟨fun b u q=>?_,nw,fu.of_keeps fun b u q n=>⟨u,(u4 b (aaV e8 e9 q n)).trans q,rfl⟩,⟨o,vs,T,_,_,(u4 x (Ne.symm e7)).trans e1,e2,e3,e4,e5,e6,e7,u1,u2,?_⟩⟩ fun b u q n=>⟨u.slots,(u4 b (aaV e8 e9 q n)).trans q⟩)
  · exact (u4 b fun z=>by subst z;rw [e6] at q;cases q).trans (st b u q)
  · simp [l3]
theorem arG {Q:Unit→Shared→Prop} {head:Value} {hadNext:Bool} {o:Obj} {vs:Array Value} (hfr:A.frames=some (env :: outer)) (hf:env.frame=some L) (st:B.StaysIn s.heap) (nw:B.get? x=none) (fu:s.heap.FunFrames B (env :: outer)) (e1:s.heap.get? x=some o) (e2:o.cls=C) (e3:o.data = .fields vs) (e4:1 < vs.size) (e5:vs[2]?=some .none)
    (h:∀ h',aoL B (env :: outer) x C (rawInt L) h'→s.heap.UpToSlots h'→Q () { s with heap:=h' }) :
    wpAny M A (do let a ← frameOf env;let pl ← entryPlaceOf L hadNext;let b ← EntryCells.newEntry head a .none (rawInt L) .none pl;setField (.ref x) 1 b) Q E s:=by
  have nf:x ∉ (env :: outer).filterMap (·.frame):=fun m=>by
    obtain ⟨_,u,hu,hn⟩:=fu.mem m
    rw [e1] at hu;cases hu
    exact hn vs e3
  refine wpAny_bind (wpAny_frameOf_fun hfr fu hf fun k so=>wpAny_bind (wpAny_entryPlaceOf fun pl hpl=>?_))
  unfold EntryCells.newEntry newFields
  refine wpAny_bind (wpAny_newObj_type ?_ (hpl.sizeOk5 _ _ _ _ _))
  have k1:k.get? x=some o:=(so.2.1 x nf).trans e1
  have tne:k.objs.size≠x:=fun z=>absurd (Heap.lt_size k1) (by rw [z];exact Nat.lt_irrefl _)
  have kB:∀ b u,B.get? b=some u→k.get? b=some u:=fun b u q=>(so.2.1 b fun m=>by rw [(fu.mem m).1] at q;cases q).trans (st b u q)
  generalize hT:({ cls := .type "traceback",dict:=none,data := .fields ([head,.ref L,.none,rawInt L,.none]++(if pl.isEmpty then List.replicate 6 Value.none else pl)).toArray }:Obj)=oT
  have p1:(k.push oT).get? x=some o:=Heap.get?_push_of_some _ k1
  obtain ⟨u1,u2,u3,u4⟩:=a03 (i:=1) (v := .ref k.objs.size) p1 e3
  have keep:∀ b u,b≠x→k.get? b=some u→((k.push oT).update x (Obj.mapFields (·.setIfInBounds 1 (.ref k.objs.size)))).get? b=some u:=fun b u n q=>(u4 b n).trans (Heap.get?_push_of_some _ q)
  have pT:(k.push oT).get? k.objs.size=some oT:=by
    subst hT
    exact Heap.get?_push_size k rfl
  refine wpAny_setField p1 e3 e4 (h _ ⟨fun b u q=>keep b u (fun z=>by subst z;rw [nw] at q;cases q) (kB b u q),nw,fu.of_keeps fun b u q n=>?_,⟨_,_,k.objs.size,oT,_,u1,u3.trans e2,u2,?_,?_,?_,tne,(u4 _ tne).trans pT,by rw [← hT],?_⟩⟩ fun b u q n=>?_)
  · obtain ⟨sl,z⟩:=so.2.2 b u q
    exact ⟨_,keep b _ (aaV e1 e3 q n) z,rfl⟩
  · simp [e4]
  · rw [Array.getElem?_setIfInBounds_ne (by decide)];exact e5
  · cases q:B.get? k.objs.size with
    | none=>rfl
    | some u=>exact absurd (Heap.lt_size (kB _ u q)) (Nat.lt_irrefl _)
  · first | (simp;done) | (rcases hpl with rfl | ⟨_,_,_,_,_,_,_,rfl⟩ <;> simp)
  · obtain ⟨sl,z⟩:=so.2.2 b u q
    exact ⟨sl,keep b _ (aaV e1 e3 q n) z⟩
theorem axE {Q:Unit→Shared→Prop} (hfr:A.frames=some (env :: outer)) (hf:env.frame=some L) (f:Fly B (env :: outer) x C s.heap) (h:∀ h',aoL B (env :: outer) x C (rawInt L) h'→s.heap.UpToSlots h'→Q () { s with heap:=h' }):wpAny M A (noteFrame (.ref x) env) Q E s:=by
  obtain ⟨st,nw,fu,⟨o,vs,T,oT,ts,e1,e2,e3,e4,e5,e6,e7,e8,e9,e10⟩⟩:=f
  unfold noteFrame
  simp only [hf]
  refine wpAny_bind (wpAny_field e1 e3 e4 ?_)
  rw [if_pos (by simp)]
  refine wpAny_bind (wpAny_field e8 e9 e10 ?_)
  rw [if_neg (by simp [rawInt])]
  have l3:3 < ts.size:=(Array.getElem?_eq_some_iff.mp e10).1
  obtain ⟨u1,u2,u3,u4⟩:=a03 (i:=3) (v := .none) e8 e9
  refine wpAny_bind (wpAny_setField e8 e9 l3 ?_)
  refine arG hfr hf (fun b u q=>(u4 b fun z=>by subst z;rw [e6] at q;cases q).trans (st b u q)) nw (fu.of_keeps fun b u q n=>⟨u,(u4 b (aaV e8 e9 q n)).trans q,rfl⟩) ((u4 x (Ne.symm e7)).trans e1) e2 e3 (Array.getElem?_eq_some_iff.mp e4).1 e5 fun h' f' up=>h h' f' ?_
  exact fun b u q n=>up b u ((u4 b (aaV e8 e9 q n)).trans q) n
theorem aoL.tail {h:Heap} (f:aoL B (env :: outer) x C fl h):aoL B outer x C fl h:=by
  obtain ⟨st,nw,⟨_,_,fu⟩,tr⟩:=f
  exact ⟨st,nw,fu,tr⟩
theorem aB5 {Q:Unit→Shared→Prop} (hfr:A.frames=some (env :: outer)) (hf:env.frame=some L) (f:Fly B (env :: outer) x C s.heap) (h:∀ h',Fly B outer x C h'→s.heap.UpToSlots h'→Q () { s with heap:=h' }):wpAny M A (leaving env (.ref x)) Q E s:=by
  unfold leaving
  refine wpAny_bind (axE hfr hf f fun h1 f1 up1=>ajE f1 fun h2 f2 up2=>?_)
  exact h h2 f2.tail (up1.trans up2)
theorem av8 {Q:Unit→Shared→Prop} {h0:Heap} {us:List Value} (hfr:A.frames=some (env :: outer)) (hf:env.frame=some L) (st:B.StaysIn h0) (fu:h0.FunFrames B (env :: outer)) (hm:Heap.MadeExcOf h0 s.heap x C us) (h:∀ h',Fly B outer x C h'→s.heap.UpToSlots h'→Q () { s with heap:=h' }):wpAny M A (leaving env (.ref x)) Q E s:=by
  obtain ⟨t,e1,_,_⟩:=hm.there
  unfold leaving noteFrame
  simp only [hf]
  refine wpAny_bind (wpAny_bind (wpAny_field (vs:=#[.ref t,.none,.none,.none,.bool false,.none]) (i:=1) e1 rfl rfl ?_))
  rw [if_neg (by simp)]
  have nw:B.get? x=none:=by
    cases q:B.get? x with
    | none=>rfl
    | some u=>have:=st x u q;rw [hm.new] at this;cases this
  refine arG hfr hf (fun b u q=>hm.keeps b u (st b u q)) nw (fu.of_keeps fun b u q _=>⟨u,hm.keeps b u q,rfl⟩) e1 rfl rfl (by simp) rfl fun h1 f1 up1=>ajE f1 fun h2 f2 up2=>?_
  exact h h2 f2.tail (up1.trans up2)
end
def amF (A:Around) (h:Heap):Prop:=A.handled=none∨∃ x o vs,A.handled=some (.ref x)∧h.get? x=some o∧o.data = .fields vs∧vs[2]?=some .none
theorem amG:entryFor table "proto.unchain" = some Builtin.«proto.unchain» := entryFor_of_fast (by kernel_rfl)
section
variable {prog:Program} {w:World} {A:Around} {E:Value→Shared→Prop} {s:Shared}
theorem az1 {α:Type} {Q:α→Shared→Prop} {a:Addr} {oa:Obj} {ws:Array Value} (hq:amF A s.heap) (ea:s.heap.get? a=some oa) (da:oa.data = .fields ws) (la:2 < ws.size) (na:∀ x,A.handled=some (.ref x)→x≠a)
    (h:∀ h',(∀ b,b≠a→h'.get? b=s.heap.get? b)→(∃ o,h'.get? a=some o∧o.cls=oa.cls)→E (.ref a) { s with heap:=h' }):wpAny (model prog w) A (raiseNew (.ref a):Sem α) Q E s:=by
  unfold raiseNew
  refine wpAny_bind (wpAny_handled ?_)
  rcases hq with hn | ⟨x,o,vs,hx,ex,dx,vx⟩
  · rw [hn]
    exact wpAny_bind (wpAny_pure (wpAny_throw (h s.heap (fun _ _=>rfl) ⟨oa,ea,rfl⟩)))
  · rw [hx]
    have ne:=na x hx
    show wpAny (model prog w) _ (if ((Value.ref x) != (Value.ref a))=true then _ else _) _ _ _
    rw [if_pos (by simpa using ne)]
    refine wpAny_bind (wpAny_holding (wpAny_runValue (codeAny_builtin amG ?_)))
    show wpAny (model prog w) _ (field (.ref x) 2 >>= _) _ _ _
    refine wpAny_bind (wpAny_field ex dx vx ?_)
    show wpAny (model prog w) _ (if ((Value.none:Value) == Value.none)=true then _ else _) _ _ _
    rw [if_pos (by decide)]
    refine wpAny_bind (wpAny_pure (wpAny_pure ?_))
    obtain ⟨u1,u2,u3,u4⟩:=a03 (i:=2) (v := .ref x) ea da
    show wpAny (model prog w) _ (setField (.ref a) 2 (.ref x) >>= _) _ _ _
    exact wpAny_bind (wpAny_setField ea da la (wpAny_throw (h _ u4 ⟨_,u1,u3⟩)))
theorem a0L {α:Type} {Q:α→Shared→Prop} (hq:amF A s.heap) (h:∀ a h',(∀ b o,s.heap.get? b=some o→h'.get? b=some o)→(∃ o,h'.get? a=some o∧o.cls = .type "StopIteration")→E (.ref a) { s with heap:=h' }) :
    wpAny (model prog w) A (newExc (.type "StopIteration") [] >>= fun e=>(raiseNew e:Sem α)) Q E s:=by
  refine wpAny_bind ?_
  unfold newExc newTuple
  refine wpAny_bind (wpAny_newObj_type (wpAny_bind (wpAny_of_eq (a:=Value.none) (by simp only [firstArgMember];rfl) (wpAny_newObj_type ?_ (by size_fits)))) (by size_fits))
  generalize hh:s.heap.push { cls := .type "tuple",data := .seq ([]:List Value).toArray }=h1
  generalize ho:({ cls := .type "StopIteration",data := .fields (#[.ref s.heap.objs.size,.none,.none,.none,.bool false,.none]++ownMembersOf (.type "StopIteration") []) }:Obj)=o1
  have k1:∀ b o,s.heap.get? b=some o→(h1.push o1).get? b=some o:=fun b o e=>Heap.get?_push_of_some _ (hh ▸ Heap.get?_push_of_some _ e)
  have ea:(h1.push o1).get? h1.objs.size=some o1:=by
    subst ho
    exact Heap.get?_push_size h1 rfl
  have old:∀ b o,s.heap.get? b=some o→b≠h1.objs.size:=fun b o e z=>by
    have l1:b < h1.objs.size:=by
      rw [← hh,Heap.size_push]
      exact Nat.lt_succ_of_lt (Heap.lt_size e)
    exact absurd l1 (by rw [z];exact Nat.lt_irrefl _)
  refine az1 (ws:=#[.ref s.heap.objs.size,.none,.none,.none,.bool false,.none]++ownMembersOf (.type "StopIteration") []) ?_ ea (by rw [← ho]) (by simp [ownMembersOf]) (fun x hx=>?_) fun h' k c=>h h1.objs.size h' (fun b o e=>(k b (old b o e)).trans (k1 b o e)) ?_
  · rcases hq with z | ⟨x,o,vs,a1,a2,a3⟩
    · exact .inl z
    · exact .inr ⟨x,o,vs,a1,k1 _ _ a2,a3⟩
  · rcases hq with z | ⟨x',o,vs,a1,a2,a3⟩
    · rw [z] at hx;cases hx
    · rw [a1] at hx;cases hx
      exact old _ _ a2
  · obtain ⟨o,e,c⟩:=c
    exact ⟨o,e,by rw [c,← ho]⟩
theorem a4R {T id:String} {b:Builtin} {it:Addr} {Q:Option Value→Shared→Prop} (slot:Slot T (Str.ofString "__next__") id) (entry:entryFor table id=some b) (hT:s.TypeIs (.ref it) T) (args:argsOk id ⟨[.ref it],[]⟩)
    (hb:wpAny (model prog w) A.in1 (b ⟨[.ref it],[]⟩) (fun _ _=>False) (fun e s'=>∃ a o,e = .ref a∧s'.heap.get? a=some o∧o.cls = .type "StopIteration" ∧ Q none s') s):wpAny (model prog w) A (pyNext (.ref it)) Q E s:=by
  unfold pyNext
  refine wpAny_bind (wpAny_attempt (wpAny_callSpecial?_slot hT slot (wpAny_call_entry slot hT entry (wpAny_mono hb (fun _ _ z=>z.elim) fun e s' z=>?_) args)))
  obtain ⟨a,o,rfl,e1,e2,q⟩:=z
  exact wpAny_bind (wpAny_isInstance (T := "StopIteration") (b:=true) ⟨o,e1,e2⟩ isSubtype_stop (wpAny_pure q))
theorem ajF {it:Addr} {o:Obj} {vs:Array Value} {i:Nat} {v:Value} (hq:amF A s.heap) (e:s.heap.get? it=some o) (d:o.data = .fields vs) (l:vs[2]?≠some .none):amF A (s.heap.update it (Obj.mapFields (·.setIfInBounds i v))):=by
  rcases hq with z | ⟨x,ox,ws,a1,a2,a3,a4⟩
  · exact .inl z
  · refine .inr ⟨x,ox,ws,a1,?_,a3,a4⟩
    have ne:x≠it:=fun z=>by
      subst z
      rw [e] at a2
      cases a2
      rw [d] at a3
      cases a3
      exact l a4
    exact ((a03 e d).2.2.2 x ne).trans a2
theorem az2 {it l:Addr} {i:Nat} {items:Array Value} {Q:Option Value→Shared→Prop} (hq:amF A s.heap) (hit:s.heap.IsListIter it l i) (hl:s.heap.IsList l items) (hx:items[i]?=none)
    (h:∀ h',Heap.ExtBut it s.heap h'→Q none { s with heap:=h' }):wpAny (model prog w) A (pyNext (.ref it)) Q E s:=by
  obtain ⟨o,e1,c1,d1⟩:=id hit
  obtain ⟨ol,e2,_,nl,d2⟩:=hl
  refine a4R slot_listiter_next entry_listiter_next hit.typeIs (args_listiter_next _) ?_
  show wpAny (model prog w) _ (field (.ref it) 0 >>= _) _ _ s
  refine wpAny_bind (wpAny_field e1 d1 (x := .ref l) rfl ?_)
  show wpAny (model prog w) _ (field (.ref it) 1 >>= _) _ _ s
  refine wpAny_bind (wpAny_field e1 d1 (x := .int i 0) rfl ?_)
  show wpAny (model prog w) _ (seqItems? (.ref l) >>= _) _ _ s
  refine wpAny_bind (wpAny_seqItems e2 d2 ?_)
  simp only [hx,Int.toNat_natCast]
  refine wpAny_bind (wpAny_rule (wpAny_bind (wpAny_setField e1 d1 (by simp) ?_)))
  refine a0L (A:=A.in1) (ajF hq e1 d1 (by simp)) fun a h' k c=>?_
  obtain ⟨oa,ea,ca⟩:=c
  exact ⟨a,oa,rfl,ea,ca,h h' fun b ob n e=>k b ob (((a03 e1 d1).2.2.2 b n).trans e)⟩
theorem aB6 {it l:Addr} {i:Nat} {items:Array Value} {Q:Option Value→Shared→Prop} (hq:amF A s.heap) (hit:s.heap.IsTupleIter it l i) (hl:s.heap.IsTuple l items) (hx:items[i]?=none)
    (h:∀ h',Heap.ExtBut it s.heap h'→Q none { s with heap:=h' }):wpAny (model prog w) A (pyNext (.ref it)) Q E s:=by
  obtain ⟨o,e1,c1,d1⟩:=id hit
  obtain ⟨ol,e2,_,nl,d2⟩:=hl
  refine a4R F.slot_tuple_iterator_next F.entry_tuple_iterator_next hit.typeIs (F.args_tuple_iterator_next_1 _) ?_
  show wpAny (model prog w) _ (field (.ref it) 0 >>= _) _ _ s
  refine wpAny_bind (wpAny_field e1 d1 (x := .ref l) rfl ?_)
  show wpAny (model prog w) _ (field (.ref it) 1 >>= _) _ _ s
  refine wpAny_bind (wpAny_field e1 d1 (x := .int i 0) rfl ?_)
  show wpAny (model prog w) _ (seqItems? (.ref l) >>= _) _ _ s
  refine wpAny_bind (wpAny_seqItems e2 d2 ?_)
  simp only [hx,Int.toNat_natCast]
  refine wpAny_bind (wpAny_rule (wpAny_bind (wpAny_setField e1 d1 (by simp) ?_)))
  refine a0L (A:=A.in1) (ajF hq e1 d1 (by simp)) fun a h' k c=>?_
  obtain ⟨oa,ea,ca⟩:=c
  exact ⟨a,oa,rfl,ea,ca,h h' fun b ob n e=>k b ob (((a03 e1 d1).2.2.2 b n).trans e)⟩
theorem aB7 {it:Addr} {x left step:Int} {Q:Option Value→Shared→Prop} (hq:amF A s.heap) (hit:IsRangeIter s.heap it x left step) (hleft:left≤0)
    (h:∀ h',Heap.ExtBut it s.heap h'→Q none { s with heap:=h' }):wpAny (model prog w) A (pyNext (.ref it)) Q E s:=by
  refine a4R F.slot_range_iterator_next F.entry_range_iterator_next ⟨_,hit,rfl⟩ (F.args_range_iterator_next_1 _) ?_
  show wpAny (model prog w) _ (field (.ref it) 0 >>= _) _ _ s
  refine wpAny_bind (wpAny_field hit rfl (i:=0) rfl ?_)
  show wpAny (model prog w) _ (field (.ref it) 1 >>= _) _ _ s
  refine wpAny_bind (wpAny_field hit rfl (i:=1) rfl ?_)
  show wpAny (model prog w) _ (field (.ref it) 2 >>= _) _ _ s
  refine wpAny_bind (wpAny_field hit rfl (i:=2) rfl ?_)
  show wpAny (model prog w) _ (if left≤0 then _ else _) _ _ s
  rw [if_pos hleft]
  refine wpAny_bind (wpAny_rule (wpAny_bind ?_))
  refine a0L (A:=A.in1) hq fun a h' k c=>?_
  obtain ⟨oa,ea,ca⟩:=c
  exact ⟨a,oa,rfl,ea,ca,h h' fun b ob n e=>k b ob e⟩
theorem az3 {it:Addr} {x:Str} {t:Tok} {i:Nat} {Q:Option Value→Shared→Prop} (hq:amF A s.heap) (hit:s.heap.IsStrIter it "str_ascii_iterator" x t i) (hx:x.cps[i]?=none)
    (h:∀ h',Heap.ExtBut it s.heap h'→Q none { s with heap:=h' }):wpAny (model prog w) A (pyNext (.ref it)) Q E s:=by
  obtain ⟨o,e1,c1,d1⟩:=id hit
  refine a4R F.slot_str_ascii_iterator_next F.entry_str_ascii_iterator_next hit.typeIs (F.args_str_ascii_iterator_next_1 _) ?_
  show wpAny (model prog w) _ (field (.ref it) 0 >>= _) _ _ s
  refine wpAny_bind (wpAny_field e1 d1 (x := .str x t) rfl ?_)
  show wpAny (model prog w) _ (field (.ref it) 1 >>= _) _ _ s
  refine wpAny_bind (wpAny_field e1 d1 (x := .int i 0) rfl ?_)
  simp only [hx,Int.toNat_natCast]
  refine wpAny_bind (wpAny_rule (wpAny_bind (wpAny_setField e1 d1 (by simp) (wpAny_bind (wpAny_letGo ?_)))))
  refine a0L (A:=A.in1) (ajF hq e1 d1 (by simp)) fun a h' k c=>?_
  obtain ⟨oa,ea,ca⟩:=c
  exact ⟨a,oa,rfl,ea,ca,h h' fun b ob n e=>k b ob (((a03 e1 d1).2.2.2 b n).trans e)⟩
theorem az4 {it:Addr} {x:Str} {t:Tok} {i:Nat} {Q:Option Value→Shared→Prop} (hq:amF A s.heap) (hit:s.heap.IsStrIter it "str_iterator" x t i) (hx:x.cps[i]?=none)
    (h:∀ h',Heap.ExtBut it s.heap h'→Q none { s with heap:=h' }):wpAny (model prog w) A (pyNext (.ref it)) Q E s:=by
  obtain ⟨o,e1,c1,d1⟩:=id hit
  refine a4R F.slot_str_iterator_next F.entry_str_iterator_next hit.typeIs (F.args_str_iterator_next_1 _) ?_
  show wpAny (model prog w) _ (field (.ref it) 0 >>= _) _ _ s
  refine wpAny_bind (wpAny_field e1 d1 (x := .str x t) rfl ?_)
  show wpAny (model prog w) _ (field (.ref it) 1 >>= _) _ _ s
  refine wpAny_bind (wpAny_field e1 d1 (x := .int i 0) rfl ?_)
  simp only [hx,Int.toNat_natCast]
  refine wpAny_bind (wpAny_rule (wpAny_bind (wpAny_setField e1 d1 (by simp) (wpAny_bind (wpAny_letGo ?_)))))
  refine a0L (A:=A.in1) (ajF hq e1 d1 (by simp)) fun a h' k c=>?_
  obtain ⟨oa,ea,ca⟩:=c
  exact ⟨a,oa,rfl,ea,ca,h h' fun b ob n e=>k b ob (((a03 e1 d1).2.2.2 b n).trans e)⟩
end
end
section
abbrev Key:=Sum Int Str
def ajO:Key→Value→Bool
  | .inl k,v=>Value.isInt k v
  | .inr x,v=>Value.isStrOf x v
def aXO (w:World):Key→Int
  | .inl k=>hashInt k
  | .inr x=>hashStr w x
theorem jE:∀ {k:Key} {v:Value},ajO k v=true→(∃ i t,k=Sum.inl i∧v=Value.int i t)∨(∃ x t,k=Sum.inr x∧v=Value.str x t)
  | .inl i,v,h=>by
    obtain ⟨t,e⟩:=Value.isInt_shape (k:=i) (v:=v) h
    exact .inl ⟨i,t,rfl,e⟩
  | .inr x,v,h=>by
    obtain ⟨t,e⟩:=Value.isStrOf_shape (x:=x) (v:=v) h
    exact .inr ⟨x,t,rfl,e⟩
theorem az5 (i:Int) (t:Tok):ajO (.inl i) (.int i t)=true:=by simp [ajO,Value.isInt]
theorem az6 (x:Str) (t:Tok):ajO (.inr x) (.str x t)=true:=by simp [ajO,Value.isStrOf]
theorem aM4 (a b:Int):decide ((Sum.inl a:Key)=Sum.inl b)=(a == b):=by
  by_cases e:a=b
  · subst e;simp
  · have h:¬ (Sum.inl a:Key)=Sum.inl b:=fun q=>e (Sum.inl.inj q)
    rw [decide_eq_false h]
    exact (beq_eq_false_iff_ne.mpr e).symm
theorem aM5 (a b:Str):decide ((Sum.inr a:Key)=Sum.inr b)=decide (a=b):=by
  by_cases e:a=b
  · subst e;simp
  · have h:¬ (Sum.inr a:Key)=Sum.inr b:=fun q=>e (Sum.inr.inj q)
    rw [decide_eq_false h,decide_eq_false e]
theorem aM6 (a:Int) (b:Str):decide ((Sum.inl a:Key)=Sum.inr b)=false:=decide_eq_false (fun q=>nomatch q)
theorem aM7 (a:Str) (b:Int):decide ((Sum.inr a:Key)=Sum.inl b)=false:=decide_eq_false (fun q=>nomatch q)
def bH (prog:Program) (w:World):PySem.KeyKind prog w Key where
  is:=ajO
  hash:=aXO w
  inj:=fun v a b ha hb=>by
    rcases jE ha with ⟨i,t,rfl,rfl⟩ | ⟨x,t,rfl,rfl⟩
    · rcases jE hb with ⟨j,u,rfl,e⟩ | ⟨y,u,rfl,e⟩
      · injection e with e1 _;rw [e1]
      · exact nomatch e
    · rcases jE hb with ⟨j,u,rfl,e⟩ | ⟨y,u,rfl,e⟩
      · exact nomatch e
      · injection e with e1 _;rw [e1]
  byValue:=fun k v h=>by
    rcases jE h with ⟨i,t,rfl,rfl⟩ | ⟨x,t,rfl,rfl⟩ <;> rfl
  pyHash:=fun hv h=>by
    rcases jE hv with ⟨i,t,rfl,rfl⟩ | ⟨x,t,rfl,rfl⟩
    · exact wpAny_pyHash_int h
    · exact wpAny_pyHash_str h
  eqBool:=fun hu hv h=>by
    rcases jE hu with ⟨i,t,rfl,rfl⟩ | ⟨x,t,rfl,rfl⟩
    · rcases jE hv with ⟨j,u,rfl,rfl⟩ | ⟨y,u,rfl,rfl⟩
      · rw [aM4] at h;exact wpAny_eqBool_int h
      · rw [aM6] at h;exact SeqAt.EqAt.int_str i t y u _ _ _ _ h
    · rcases jE hv with ⟨j,u,rfl,rfl⟩ | ⟨y,u,rfl,rfl⟩
      · rw [aM7] at h;exact SeqAt.EqAt.str_int x t j u _ _ _ _ h
      · rw [aM5] at h;exact wpAny_eqBool_str h
  «strs» := fun k x t v h=>by
    rcases jE h with ⟨i,u,rfl,e⟩ | ⟨y,u,rfl,e⟩
    · exact nomatch e
    · injection e with e1 _
      subst e1
      cases v <;> rfl
theorem arH (prog:Program) (w:World) (i:Int) (t:Tok):(bH prog w).is (.inl i) (.int i t)=true:=az5 i t
theorem arI (prog:Program) (w:World) (x:Str) (t:Tok):(bH prog w).is (.inr x) (.str x t)=true:=az6 x t
end
section
inductive V where
  | non | bl (b:Bool) | int (i:Int) | str (x:Str) | byt (b:Array UInt8) | flt (b:UInt64) | ref (a:Addr) | ty (n:String)
  deriving DecidableEq
def RelV:V→Value→Prop
  | .non,u=>u=Value.none
  | .bl b,u=>u=Value.bool b
  | .int i,u=>∃ t,u=Value.int i t
  | .str x,u=>∃ t,u=Value.str x t
  | .byt b,u=>∃ t,u=Value.bytes b t
  | .flt b,u=>∃ t,u=Value.float b t
  | .ref a,u=>u=Value.ref a
  | .ty n,u=>u=Value.type n
abbrev Vals:List V→List Value→Prop:=Paired RelV
theorem Vals.length {xs:List V} {us:List Value} (r:Vals xs us):xs.length=us.length:=Paired.length r
theorem Vals.get:∀ {xs:List V} {us:List Value} {i:Nat} {x:V},Vals xs us→xs[i]?=some x→∃ u,us[i]?=some u∧RelV x u
  | _,_,_,_,.nil,e=>by simp at e
  | _,_,0,_,.cons r _,e=>by simp at e;subst e;exact ⟨_,rfl,r⟩
  | _,_,i+1,x,.cons _ t,e=>by
    obtain ⟨u,h1,h2⟩:=Vals.get (i:=i) (x:=x) t (by simpa using e)
    exact ⟨u,by simpa using h1,h2⟩
theorem Vals.set {x:V} {u:Value} (r:RelV x u):∀ {xs:List V} {us:List Value} (i:Nat),Vals xs us→Vals (xs.set i x) (us.set i u)
  | _,_,_,.nil => .nil
  | _,_,0,.cons _ t => .cons r t
  | _,_,i+1,.cons q t => .cons q (Vals.set r i t)
theorem Vals.append:∀ {xs ys:List V} {us ws:List Value},Vals xs us→Vals ys ws→Vals (xs++ys) (us++ws)
  | _,_,_,_,.nil,s=>s
  | _,_,_,_,.cons r t,s => .cons r (Vals.append t s)
theorem Vals.take:∀ {xs:List V} {us:List Value} (n:Nat),Vals xs us→Vals (xs.take n) (us.take n)
  | _,_,0,_ => .nil
  | _,_,_+1,.nil => .nil
  | _,_,n+1,.cons r t => .cons r (Vals.take n t)
theorem Vals.drop:∀ {xs:List V} {us:List Value} (n:Nat),Vals xs us→Vals (xs.drop n) (us.drop n)
  | _,_,0,r=>r
  | _,_,_+1,.nil => .nil
  | _,_,n+1,.cons _ t=>Vals.drop n t
theorem Vals.none_of:∀ {xs:List V} {us:List Value} {i:Nat},Vals xs us→xs[i]?=none→us[i]?=none:=fun {xs us i} r e=>by
  have h1:=r.length
  have h2:xs.length≤i:=List.getElem?_eq_none_iff.mp e
  exact List.getElem?_eq_none_iff.mpr (by omega)
def a65:Option V→Option Value→Prop
  | some v,some u=>RelV v u
  | none,none=>True
  | _,_=>False
def KV {κ:Type}:List (κ×V)→List (κ×Value)→Prop:=Paired fun (p:κ×V) (q:κ×Value)=>p.1=q.1∧RelV p.2 q.2
def kV:Key→V
  | .inl i => .int i
  | .inr x => .str x
inductive HO where
  | lst (xs:List V)
  | tup (xs:List V)
  | dK (kvs:List (Key×V)) | dT (kvs:List (List Key×V))
  | set (S:Int→Bool) (n:Nat)
  | ins (C dx:Addr) (fs:List (Str×V))
  | own (x:Addr)
  | xd (fs:List (Str×V))
  | met (f x:Addr)
  | rng (lo hi:Int)
  | frz (o:Obj) (u:HO)
  | tbl (ps:Array Value)
  | ext (φ:Heap→Prop)
abbrev Hp:=Addr→Option HO
def upd (H:Hp) (a:Addr) (o:HO):Hp:=fun b=>if b=a then some o else H b
theorem aU {H:Hp} {a:Addr} {o:HO}:upd H a o a=some o:=by unfold upd;rw [if_pos rfl]
theorem eE {H:Hp} {a b:Addr} {o:HO} (h:b≠a):upd H a o b=H b:=by unfold upd;rw [if_neg h]
theorem axF {H:Hp} {a b:Addr} {o u:HO} (h:H a=some o) (h':H b=some u) (d:o≠u):a≠b:=by
  intro e;subst e;rw [h] at h';exact d (Option.some.inj h')
theorem wA {H:Hp} {a b:Addr} {o:HO} (h:H a=some o) (h':H b=none):a≠b:=by
  intro e;subst e;rw [h] at h';cases h'
section
variable (P:Program) (w:World)
def pW (H:Hp) (h:Heap) (a:Addr):HO→Prop
  | .lst xs=>xs.length≤sizeLine∧∃ (its:List Value) (n:Nat),Vals xs its∧h.get? a=some { cls := .type "list",data := .seq its.toArray n }
  | .tup xs=>xs.length≤sizeLine∧∃ its:List Value,Vals xs its∧IsTup h a its.toArray
  | .dK kvs=>kvs.length≤sizeLine∧(a == sysModules)=false∧∃ vs,KV kvs vs∧h.DictOf (bH P w) a vs
  | .dT kvs=>kvs.length≤sizeLine∧(a == sysModules)=false∧∃ xs:List (List Key×Addr×Value),
      Paired (fun (p:List Key×V) (q:List Key×Addr×Value)=>p.1=q.1∧H q.2.1=some (.tup (p.1.map kV))∧RelV p.2 q.2.2) kvs xs ∧
      ∃ o es ep,h.get? a=some o∧o.ExactDict∧o.data = .dict es ep∧es.toList=xs.map (entryOfKey (tupleKind (bH P w)))∧(xs.map (·.1)).Nodup
  | .set S n=>h.SetOf (intKind P w) a S n
  | .ins C dx fs=>H dx=some (.own a)∧fs.length≤1000∧dx≠a∧h.get? a=some (PySem.W.instObj C dx) ∧
      ∃ mA,h.Ns1 dx mA∧(∀ f,a65 (fs.lookup f) (mA f))∧PySem.Within mA (fs.map (·.1))
  | .own _=>∃ o,h.get? a=some o
  | .xd fs=>∃ mA,h.Ns1 a mA∧∀ f,a65 (fs.lookup f) (mA f)
  | .rng lo hi=>∃ t u v,h.get? a=some { cls := .type "range",data := .fields #[.int lo t,.int hi u,.int 1 v] }
  | .frz o u=>h.get? a=some o∧pW H h a u
  | .tbl ps=>h.get? a=some { cls := .none,data := .fields ps }
  | .met f x=>h.get? a=some (PySem.W.methodObj (.ref f) (.ref x))
  | .ext φ=>φ h∧(∃ o,h.get? a=some o)∧∀ h1 h2:Heap,φ h1→(∀ o,h1.get? a=some o→h2.get? a=some o)→φ h2
def HOk (H:Hp) (h:Heap):Prop:=∀ a o,H a=some o→pW P w H h a o
end
section
variable {P:Program} {w:World} {H H':Hp} {h h':Heap} {a:Addr} {o:HO}
theorem pW.lt (x:pW P w H h a o):a < h.objs.size:=by
  cases o with
  | lst xs=>obtain ⟨_,_,_,_,e⟩:=x;exact Heap.lt_size e
  | tup xs=>obtain ⟨_,_,_,p⟩:=x;exact p.lt
  | dK kvs=>obtain ⟨_,_,_,_,o,_,_,e,_⟩:=x;exact Heap.lt_size e
  | dT kvs=>obtain ⟨_,_,_,_,o,_,_,e,_⟩:=x;exact Heap.lt_size e
  | set S n=>obtain ⟨o,_,_,_,e,_⟩:=x;exact Heap.lt_size e
  | ins C dx fs=>obtain ⟨_,_,_,e,_⟩:=x;exact Heap.lt_size e
  | own y=>obtain ⟨_,e⟩:=x;exact Heap.lt_size e
  | xd fs=>obtain ⟨_,⟨_,_,_,e,_⟩,_⟩:=x;exact Heap.lt_size e
  | rng lo hi=>obtain ⟨_,_,_,e⟩:=x;exact Heap.lt_size e
  | frz ob u=>obtain ⟨e,_⟩:=x;exact Heap.lt_size e
  | tbl ps=>exact Heap.lt_size (show h.get? a=some _ from x)
  | met f y=>exact Heap.lt_size (show h.get? a=some _ from x)
  | ext φ=>obtain ⟨_,⟨_,e⟩,_⟩:=x;exact Heap.lt_size e
theorem Paired.aM8 {α β:Type} {F G:α→β→Prop}:∀ {l₁:List α} {l₂:List β},Paired F l₁ l₂→(∀ a b,F a b→G a b)→Paired G l₁ l₂
  | _,_,.nil,_ => .nil
  | _,_,.cons r t,f => .cons (f _ _ r) (Paired.aM8 t f)
theorem pW.stay (x:pW P w H h a o) (k:∀ b u,(b=a∨H b=some (.own a))→h.get? b=some u→h'.get? b=some u)
    (ho:∀ b,H b=some (.own a)→H' b=some (.own a)) (ht:∀ b xs,H b=some (.tup xs)→H' b=some (.tup xs)):pW P w H' h' a o:=by
  induction o with
  | lst xs=>obtain ⟨z,its,n,r,e⟩:=x;exact ⟨z,its,n,r,k _ _ (.inl rfl) e⟩
  | tup xs=>obtain ⟨z,its,r,ob,e,c⟩:=x;exact ⟨z,its,r,ob,k _ _ (.inl rfl) e,c⟩
  | dK kvs=>obtain ⟨z,y,vs,r,ob,es,ep,e,c⟩:=x;exact ⟨z,y,vs,r,ob,es,ep,k _ _ (.inl rfl) e,c⟩
  | dT kvs =>
    obtain ⟨z,y,xs,r,ob,es,ep,e,c⟩:=x
    exact ⟨z,y,xs,Paired.aM8 r fun p q z=>⟨z.1,ht _ _ z.2.1,z.2.2⟩,ob,es,ep,k _ _ (.inl rfl) e,c⟩
  | set S n=>obtain ⟨ob,es,ep,t,e,c⟩:=x;exact ⟨ob,es,ep,t,k _ _ (.inl rfl) e,c⟩
  | ins C dx fs =>
    obtain ⟨d,z,ne,e,mA,⟨od,es,ep,e2,c⟩,r⟩:=x
    exact ⟨ho _ d,z,ne,k _ _ (.inl rfl) e,mA,⟨od,es,ep,k _ _ (.inr d) e2,c⟩,r⟩
  | own y=>obtain ⟨ob,e⟩:=x;exact ⟨ob,k _ _ (.inl rfl) e⟩
  | xd fs=>obtain ⟨mA,⟨od,es,ep,e,c⟩,r⟩:=x;exact ⟨mA,⟨od,es,ep,k _ _ (.inl rfl) e,c⟩,r⟩
  | rng lo hi=>obtain ⟨t,u,v,e⟩:=x;exact ⟨t,u,v,k _ _ (.inl rfl) e⟩
  | frz ob u ih=>obtain ⟨e,q⟩:=x;exact ⟨k _ _ (.inl rfl) e,ih q⟩
  | tbl ps =>
    have e:h.get? a=some { cls := .none,data := .fields ps }:=x
    show h'.get? a=some { cls := .none,data := .fields ps }
    exact k a _ (.inl rfl) e
  | met f y =>
    have e:h.get? a=some (PySem.W.methodObj (.ref f) (.ref y)):=x
    show h'.get? a=some (PySem.W.methodObj (.ref f) (.ref y))
    exact k a _ (.inl rfl) e
  | ext φ=>obtain ⟨p,⟨o,e⟩,st⟩:=x;exact ⟨st _ _ p fun o q=>k _ _ (.inl rfl) q,⟨o,k _ _ (.inl rfl) e⟩,st⟩
theorem HOk.lt (x:HOk P w H h) (e:H a=some o):a < h.objs.size:=(x a o e).lt
theorem HOk.fresh (x:HOk P w H h) (e:h.objs.size≤a):H a=none:=by
  cases q:H a with
  | none=>rfl
  | some u=>exact absurd (Nat.lt_of_lt_of_le (x.lt q) e) (Nat.lt_irrefl _)
theorem HOk.kept (x:HOk P w H h) (k:∀ b u,h.get? b=some u→h'.get? b=some u):HOk P w H h':=fun a o e =>
  (x a o e).stay (fun b u _ q=>k b u q) (fun _ q=>q) fun _ _ q=>q
theorem HOk.laid (x:HOk P w H h) (k:∀ b u,h.get? b=some u→h'.get? b=some u) (hp:h.objs.size≤a) (new:pW P w (upd H a o) h' a o):HOk P w (upd H a o) h':=fun b u e=>by
  have hn:=x.fresh hp
  by_cases hb:b=a
  · subst hb;rw [aU] at e;cases e;exact new
  · rw [eE hb] at e
    exact (x b u e).stay (fun c v _ q=>k c v q) (fun c q=>by rw [eE (wA q hn)];exact q) fun c xs q=>by rw [eE (wA q hn)];exact q
end
def Rd (H:Hp) (a:Addr) (u:HO):Prop:=H a=some u∨∃ o,H a=some (.frz o u)
theorem Rd.of {H:Hp} {a:Addr} {u:HO} (h:H a=some u):Rd H a u := .inl h
theorem Rd.ok {P:Program} {w:World} {H:Hp} {h:Heap} {a:Addr} {u:HO} (r:Rd H a u) (x:HOk P w H h):pW P w H h a u:=by
  rcases r with r | ⟨o,r⟩
  · exact x a u r
  · obtain ⟨_,q⟩:=x a _ r
    exact q
def Mut:Option HO→Prop
  | some (.lst _)=>True
  | some (.dK _)=>True
  | some (.dT _)=>True
  | some (.set _ _)=>True
  | some (.ins _ _ _)=>True
  | some (.ext _)=>True
  | _=>False
section
variable {P:Program} {w:World} {H:Hp} {h h':Heap} {x e:Addr} {o':HO}
theorem HOk.write (ok:HOk P w H h) (mu:Mut (H x)) (he:e=x∨H e=some (.own x)) (k:∀ b u,b≠e→h.get? b=some u→h'.get? b=some u) (heo:∃ u,h'.get? e=some u)
    (new:pW P w (upd H x o') h' x o'):HOk P w (upd H x o') h':=fun b u q=>by
  have aSA:∀ c y,H c=some (.own y)→c≠x:=fun c y r z=>by subst z;rw [r] at mu;exact mu
  have aXP:∀ c xs,H c=some (.tup xs)→c≠x:=fun c xs r z=>by subst z;rw [r] at mu;exact mu
  by_cases hb:b=x
  · subst hb;rw [aU] at q;cases q;exact new
  · rw [eE hb] at q
    by_cases hbe:b=e
    · have q':H b=some (.own x):=by
        rcases he with z | z
        · exact absurd (hbe.trans z) hb
        · rw [hbe];exact z
      rw [q] at q';cases q'
      obtain ⟨v,hv⟩:=heo
      exact ⟨v,by rw [hbe];exact hv⟩
    · refine (ok b u q).stay (fun c v hc r=>k c v ?_ r) (fun c r=>by rw [eE (aSA c b r)];exact r) fun c xs r=>by rw [eE (aXP c xs r)];exact r
      rcases hc with rfl | hc
      · exact hbe
      · rintro rfl
        rcases he with z | z
        · exact aSA c b hc z
        · rw [hc] at z;cases z;exact hb rfl
end
structure Un (fs ex:List Addr) (H H':Hp) (h h':Heap):Prop where
  keep:∀ b o,h.get? b=some o→H b=none→b ∉ fs→b ∉ ex→h'.get? b=some o
  slot:∀ b o,h.get? b=some o→H b=none→b∈fs→b ∉ ex→∃ sl,h'.get? b=some { o with slots:=sl }
  free:∀ b o,h.get? b=some o→H b=none→b ∉ ex→H' b=none
  there:∀ b o,h.get? b=some o→b ∉ ex→∃ o',h'.get? b=some o'
  tups:∀ b xs,H b=some (.tup xs)→H' b=some (.tup xs)
  uV:∀ b o u,H b=some (.frz o u)→H' b=some (.frz o u)
  a66:∀ b ps,H b=some (.tbl ps)→∃ more,H' b=some (.tbl (ps++more))
section
variable {fs fs' ex ex':List Addr} {H H1 H2:Hp} {h h1 h2 h':Heap} {a x e:Addr} {o:HO}
theorem Un.any (u:Un fs ex H H1 h h1) {b:Addr} {ob:Obj} (q:h.get? b=some ob) (n:H b=none) (hx:b ∉ ex):∃ sl,h1.get? b=some { ob with slots:=sl }:=by
  by_cases hb:b∈fs
  · exact u.slot b ob q n hb hx
  · exact ⟨ob.slots,u.keep b ob q n hb hx⟩
theorem Un.trans (a:Un fs ex H H1 h h1) (b:Un fs ex H1 H2 h1 h2):Un fs ex H H2 h h2 where
  keep:=fun c ob q n hc hx=>b.keep c ob (a.keep c ob q n hc hx) (a.free c ob q n hx) hc hx
  slot:=fun c ob q n hc hx=>by
    obtain ⟨sl,e1⟩:=a.slot c ob q n hc hx
    obtain ⟨sl',e2⟩:=b.slot c _ e1 (a.free c ob q n hx) hc hx
    exact ⟨sl',e2⟩
  free:=fun c ob q n hx=>by
    obtain ⟨o',e1⟩:=a.there c ob q hx
    exact b.free c o' e1 (a.free c ob q n hx) hx
  there:=fun c ob q hx=>by
    obtain ⟨o',e1⟩:=a.there c ob q hx
    exact b.there c o' e1 hx
  tups:=fun c xs q=>b.tups c xs (a.tups c xs q)
  uV:=fun c ob xs q=>b.uV c ob xs (a.uV c ob xs q)
  a66:=fun c ps q=>by
    obtain ⟨m1,e1⟩:=a.a66 c ps q
    obtain ⟨m2,e2⟩:=b.a66 c _ e1
    exact ⟨m1++m2,by rw [e2,Array.append_assoc]⟩
theorem Un.kept (k:∀ b u,h.get? b=some u→h'.get? b=some u):Un fs ex H H h h' :=
  ⟨fun b ob q _ _ _=>k b ob q,fun b ob q _ _ _=>⟨ob.slots,k b ob q⟩,fun _ _ _ n _=>n,fun b ob q _=>⟨ob,k b ob q⟩,fun _ _ q=>q,fun _ _ _ q=>q,fun _ ps q=>⟨#[],by rw [q];simp⟩⟩
theorem Un.refl:Un fs ex H H h h:=Un.kept fun _ _ q=>q
theorem Un.laid (k:∀ b u,h.get? b=some u→h'.get? b=some u) (hp:h.objs.size≤a) (hn:H a=none):Un fs ex H (upd H a o) h h' where
  keep:=fun b u q _ _ _=>k b u q
  slot:=fun b u q _ _ _=>⟨u.slots,k b u q⟩
  free:=fun b u q n _=>by rw [eE (Nat.ne_of_lt (Nat.lt_of_lt_of_le (Heap.lt_size q) hp))];exact n
  there:=fun b u q _=>⟨u,k b u q⟩
  tups:=fun b xs q=>by rw [eE (wA q hn)];exact q
  uV:=fun b u xs q=>by rw [eE (wA q hn)];exact q
  a66:=fun b ps q=>⟨#[],by rw [eE (wA q hn),q];simp⟩
theorem Un.write (mu:Mut (H x)) (he:e=x∨H e=some (.own x)) (k:∀ b u,b≠e→h.get? b=some u→h'.get? b=some u) (heo:∃ u,h'.get? e=some u):Un fs ex H (upd H x o) h h':=by
  have hx:∀ b,H b=none→b≠x:=fun b n z=>by subst z;rw [n] at mu;exact mu
  have hb:∀ b,H b=none→b≠e:=fun b n z=>by
    subst z
    rcases he with r | r
    · exact hx b n r
    · rw [n] at r;cases r
  have hm:∀ b u,H b=some u→¬ Mut (some u)→b≠x:=fun b u q nm z=>by subst z;rw [q] at mu;exact nm mu
  refine ⟨fun b u q n _ _=>k b u (hb b n) q,fun b u q n _ _=>⟨u.slots,k b u (hb b n) q⟩,fun b u q n _=>by rw [eE (hx b n)];exact n,fun b u q _=>?_,
    fun b xs q=>by rw [eE (hm b _ q fun z=>z)];exact q,fun b u xs q=>by rw [eE (hm b _ q fun z=>z)];exact q,fun b ps q=>⟨#[],by rw [eE (hm b _ q fun z=>z),q];simp⟩⟩
  by_cases hbe:b=e
  · subst hbe;exact heo
  · exact ⟨u,k b u hbe q⟩
theorem Un.mono (u:Un fs ex H H1 h h1) (hs:∀ b∈fs,b∈fs') (hx:∀ b∈ex,b∈ex'):Un fs' ex' H H1 h h1 :=
  ⟨fun b ob q n hb he=>u.keep b ob q n (fun z=>hb (hs b z)) fun z=>he (hx b z),fun _ _ q n _ he=>u.any q n fun z=>he (hx _ z),fun b ob q n he=>u.free b ob q n fun z=>he (hx b z),fun b ob q he=>u.there b ob q fun z=>he (hx b z),u.tups,u.uV,u.a66⟩
end
def trk (h:Heap) (H:Hp):List Addr:=(List.range h.objs.size).filter fun a=>(H a).isSome
def aoM (h:Heap) (H:Hp):Heap:=PySem.W.hideAll h (trk h H)
theorem az7 (h:Heap) (H:Hp):(aoM h H).objs.size=h.objs.size:=PySem.W.hideAll_size _ _
theorem aB8 {h:Heap} {H:Hp} {b:Addr} {o:Obj} (e:h.get? b=some o) (n:H b=none):(aoM h H).get? b=some o :=
  PySem.W.hideAll_get _ e fun hm=>by
    have q:(H b).isSome=true:=(List.mem_filter.mp hm).2
    rw [n] at q;simp at q
theorem aFK {h:Heap} {H:Hp} {b:Addr} {o:Obj} (e:(aoM h H).get? b=some o):h.get? b=some o∧H b=none:=by
  have e':h.get? b=some o:=PySem.W.of_hideAll (trk h H) e
  refine ⟨e',?_⟩
  cases q:H b with
  | none=>rfl
  | some x =>
    have hm:b∈trk h H:=List.mem_filter.mpr ⟨List.mem_range.mpr (Heap.lt_size e'),by simp [q]⟩
    have z:(aoM h H).get? b=none:=PySem.W.hideAll_none (trk h H) hm
    rw [z] at e;cases e
def aFL (g h:Heap) (L:Addr):List (Addr×Obj):=(List.range h.objs.size).filterMap fun a=>if a=L∨(g.get? a).isSome=true then none else (h.get? a).map fun o=>(a,o)
def rest (g h:Heap) (L d:Addr):List (Addr×Obj):=(aFL g h L).filter fun p=>decide (p.1≠d)
end
section
structure Mod (K:PySem.W.Frag) (mg:Str→Option Value) (base:Heap):Prop where
  kin:K.In base
  glob:base.Ns mainGlobals mg
  blt:∃ mb,base.Ns builtinsNs mb∧∀ x:Str,x ≠ "__name__" → mb x=bootBuiltins x
  nolimit:base.NoLimit
structure Cx where
  prog:Program
  w:World
  K:PySem.W.Frag
  mg:Str→Option Value
  base:Heap
  A:Around
  N:List Str
  s₀:Shared
  H₀:Hp
  env:Env
  outer:List Env
  stack:List Env
  ex:List Addr
  fn:Str→Bool
  calm:Bool
  pn:List (Addr×Obj)
  tp:List (Addr×List V)
  xe:Value→Shared→Prop
def frs (l:List Env):List Addr:=l.filterMap (·.frame)
abbrev Cx.fs (X:Cx):List Addr:=frs X.outer
def Vis (sc:Scope) (x:Str):Prop:=sc.names.lookup x=some .local∨sc.names.lookup x=some .cell∨sc.names.lookup x=some .free
def Loc (sc:Scope) (x:Str):Prop:=sc.names.lookup x=some .local∨sc.names.lookup x=some .cell
def Look (env:Env) (h:Heap) (m:Str→Option Value) (x:Str) (u:Value):Prop :=
  (env.kindOf x=some .local∧m x=some u)∨((env.kindOf x=some .cell∨env.kindOf x=some .free)∧∃ c,env.cells.lookup x=some c∧h.IsCell c (some u))
structure Cx.Ok (X:Cx):Prop where
  mod:Mod X.K X.mg X.base
  kind:X.env.scope.kind = .function
  glob:X.env.globals=mainGlobals
  blt:X.env.builtins=builtinsNs
  above:X.s₀.heap.objs.size≤X.env.locals
  inj:∀ x y c,X.env.cells.lookup x=some c→X.env.cells.lookup y=some c→x=y
  has:∀ x,(X.env.kindOf x=some .cell∨X.env.kindOf x=some .free)→∃ c,X.env.cells.lookup x=some c
  cab:∀ x c,X.fn x=true→X.env.cells.lookup x=some c→X.s₀.heap.objs.size≤c
  hd:X.calm=true→X.A.handled=none
  frames:X.A.frames=some X.stack
  stk:X.stack=X.outer∨(X.stack=X.env :: X.outer∧X.env.frame=some X.env.locals)
  exf:∀ b∈X.ex,b≠X.env.locals∧∀ x c,X.env.cells.lookup x=some c→c≠b
  bs:∀ b o,X.base.get? b=some o→X.s₀.heap.get? b=some o∧X.H₀ b=none
  bsz:X.base.objs.size≤X.s₀.heap.objs.size
  amH:∀ b o,X.base.get? b=some o→b ∉ X.ex
  aoN:∀ b∈X.ex,b ∉ X.fs
  a67:X.s₀.heap.FunFrames X.base X.outer
  frf:∀ b∈X.fs,X.H₀ b=none
def Hnd (A:Around) (H:Hp):Prop:=A.handled=none∨∃ x o u vs,A.handled=some (.ref x)∧H x=some (.frz o u)∧o.data = .fields vs∧vs[2]?=some .none
theorem Hnd.mono {A:Around} {H H':Hp} (h:Hnd A H) (f:∀ b o u,H b=some (.frz o u)→H' b=some (.frz o u)):Hnd A H':=by
  rcases h with z | ⟨x,o,u,vs,a,b,c⟩
  · exact .inl z
  · exact .inr ⟨x,o,u,vs,a,f _ _ _ b,c⟩
theorem Hnd.heap {P:Program} {w:World} {A:Around} {H:Hp} {h:Heap} (q:Hnd A H) (hok:HOk P w H h):amF A h:=by
  rcases q with z | ⟨x,o,u,vs,a,b,c⟩
  · exact .inl z
  · exact .inr ⟨x,o,vs,a,(hok x _ b).1,c⟩
structure Inv (X:Cx) (pins:List (Addr×Obj)) (σ:List (Option V)) (H:Hp) (s:Shared):Prop where
  ok:X.Ok
  os:s.os=X.s₀.os
  bare:AllBare s.gens
  base:Un X.fs X.ex X.H₀ H X.s₀.heap s.heap
  loc:∃ m,s.heap.Ns X.env.locals m∧∀ (i:Nat) (x:Str) (v:V),X.N[i]?=some x→σ[i]?=some (some v)→Vis X.env.scope x→∃ u,RelV v u∧Look X.env s.heap m x u
  cell:∀ x c,X.env.cells.lookup x=some c→∃ v,s.heap.IsCell c v
  free:H X.env.locals=none
  xZ:∀ x c,X.env.cells.lookup x=some c→H c=none
  pin:∀ p∈X.pn++pins,s.heap.get? p.1=some p.2∧H p.1=none∧p.1≠X.env.locals∧p.1 ∉ X.fs∧∀ v,p.2.data ≠ .cell v
  hok:HOk X.prog X.w H s.heap
  len:σ.length=X.N.length
  hnd:Hnd X.A H
  tup:∀ p∈X.tp,H p.1=some (.tup p.2)
section
variable {X:Cx} {pins:List (Addr×Obj)} {σ:List (Option V)} {H H':Hp} {s:Shared} {h':Heap}
theorem Cx.Ok.aXQ (ok:X.Ok) {b:Addr} {o:Obj} (e:X.base.get? b=some o):b ∉ X.fs:=fun hb=>by
  have:=(ok.a67.mem hb).1
  rw [e] at this;cases this
theorem Inv.bs (I:Inv X pins σ H s):∀ b o,X.base.get? b=some o→s.heap.get? b=some o∧H b=none:=fun b o e =>
  ⟨I.base.keep b o (I.ok.bs b o e).1 (I.ok.bs b o e).2 (I.ok.aXQ e) (I.ok.amH b o e),I.base.free b o (I.ok.bs b o e).1 (I.ok.bs b o e).2 (I.ok.amH b o e)⟩
theorem Inv.bk (I:Inv X pins σ H s):∀ b o,X.base.get? b=some o→s.heap.get? b=some o:=fun b o e=>(I.bs b o e).1
theorem Inv.mod (I:Inv X pins σ H s):Mod X.K X.mg X.base:=I.ok.mod
theorem Inv.kIn (I:Inv X pins σ H s):X.K.In s.heap:=I.ok.mod.kin.keeps I.bk
theorem Inv.nolimit (I:Inv X pins σ H s):s.heap.NoLimit:=I.ok.mod.nolimit.keeps I.bk
theorem Inv.fr (I:Inv X pins σ H s):∃ m,Fr X.base X.env.locals s.heap m :=
  let ⟨m,hn,_⟩:=I.loc
  ⟨m,hn,I.bk,Nat.le_trans I.ok.bsz I.ok.above⟩
theorem Inv.lt (I:Inv X pins σ H s):X.env.locals < s.heap.objs.size:=let ⟨_,hn,_⟩:=I.loc;hn.lt
theorem Inv.sz (I:Inv X pins σ H s):X.s₀.heap.objs.size≤s.heap.objs.size:=Nat.le_trans I.ok.above (Nat.le_of_lt I.lt)
theorem Inv.aXR (I:Inv X pins σ H s) {a:Addr} (h:s.heap.objs.size≤a):a ∉ X.fs:=fun hb=>by
  obtain ⟨_,o,ho,_⟩:=I.ok.a67.mem hb
  exact absurd (Nat.lt_of_lt_of_le (Heap.lt_size ho) (Nat.le_trans I.sz h)) (Nat.lt_irrefl _)
theorem Inv.cne (I:Inv X pins σ H s):∀ x c,X.env.cells.lookup x=some c→c≠X.env.locals:=fun x c e z=>by
  obtain ⟨v,o,ho,hd⟩:=I.cell x c e
  obtain ⟨m,⟨o',es,ep,ho',hd',_⟩,_⟩:=I.loc
  rw [z,ho'] at ho;cases ho;rw [hd'] at hd;cases hd
theorem Inv.a67 (I:Inv X pins σ H s):s.heap.FunFrames X.base X.outer:=by
  have all:∀ (l:List Env),(∀ b∈frs l,b∈X.fs)→X.s₀.heap.FunFrames X.base l→s.heap.FunFrames X.base l:=by
    intro l
    induction l with
    | nil=>intro _ _;trivial
    | cons env r ih =>
      intro hs hl
      obtain ⟨hk,⟨L,o,hf,hn,ho,hd⟩,hr⟩:=hl
      have hL:L∈X.fs:=hs L (by unfold frs;rw [List.filterMap_cons,hf];exact List.mem_cons_self)
      obtain ⟨sl,e⟩:=I.base.slot L o ho (I.ok.frf L hL) hL fun z=>I.ok.aoN L z hL
      exact ⟨hk,⟨L,_,hf,hn,e,hd⟩,ih (fun b hb=>hs b (by unfold frs;rw [List.filterMap_cons,hf];exact List.mem_cons_of_mem _ hb)) hr⟩
  exact all X.outer (fun _ hb=>hb) I.ok.a67
theorem Inv.stack (I:Inv X pins σ H s):s.heap.FunFrames X.base X.stack:=by
  rcases I.ok.stk with e | ⟨e,hf⟩
  · rw [e];exact I.a67
  · rw [e]
    obtain ⟨m,hn,_⟩:=I.loc
    refine .cons (by rw [I.ok.kind];decide) hf hn ?_ I.a67
    exact Heap.get?_none_of_le (Nat.le_trans I.ok.bsz I.ok.above)
theorem Inv.av9 (I:Inv X pins σ H s):∀ b∈frs X.stack,b∈X.env.locals :: X.fs:=fun b hb=>by
  rcases I.ok.stk with e | ⟨e,hf⟩
  · rw [e] at hb;exact List.mem_cons_of_mem _ hb
  · rw [e] at hb
    unfold frs at hb
    rw [List.filterMap_cons,hf] at hb
    exact hb
theorem Inv.aoO (I:Inv X pins σ H s):∀ b∈frs X.stack,H b=none:=fun b hb=>by
  rcases List.mem_cons.mp (I.av9 b hb) with e | hb
  · rw [e];exact I.free
  · obtain ⟨_,o,ho,_⟩:=I.ok.a67.mem hb
    exact I.base.free b o ho (I.ok.frf b hb) fun z=>I.ok.aoN b z hb
theorem Inv.step {g':Array GenState} {t':Nat} {d':Drawn} {ch:List Addr} (I:Inv X pins σ H s)
    (hch:∀ b∈ch,(b∈X.ex∨X.s₀.heap.objs.size≤b)∧b≠X.env.locals∧(∀ x c,X.env.cells.lookup x=some c→c≠b)∧∀ p∈X.pn++pins,p.1≠b)
    (keep:∀ b o,b≠X.env.locals→b ∉ X.fs→b ∉ ch→s.heap.get? b=some o→H b=none→h'.get? b=some o)
    (slot:∀ b o,b≠X.env.locals→b∈X.fs→b ∉ ch→s.heap.get? b=some o→H b=none→∃ sl,h'.get? b=some { o with slots:=sl }) (free:∀ b o,b ∉ ch→s.heap.get? b=some o→H b=none→H' b=none)
    (there:∀ b o,b ∉ ch→s.heap.get? b=some o→∃ o',h'.get? b=some o')
    (tups:∀ b xs,H b=some (.tup xs)→H' b=some (.tup xs)) (uV:∀ b o u,H b=some (.frz o u)→H' b=some (.frz o u)) (a66:∀ b ps,H b=some (.tbl ps)→∃ more,H' b=some (.tbl (ps++more)))
    (ns:∀ m,s.heap.Ns X.env.locals m→h'.Ns X.env.locals m) (hok:HOk X.prog X.w H' h') (hg:AllBare g') :
    Inv X pins σ H' { s with heap:=h',gens:=g',drawn:=d',toks:=t' }:=by
  have neL:∀ b o,X.s₀.heap.get? b=some o→b≠X.env.locals:=fun b o e=>Nat.ne_of_lt (Nat.lt_of_lt_of_le (Heap.lt_size e) I.ok.above)
  have neC:∀ b o,X.s₀.heap.get? b=some o→b ∉ X.ex→b ∉ ch:=fun b o e hx hb=>by
    rcases (hch b hb).1 with z | z
    · exact hx z
    · exact absurd (Nat.lt_of_lt_of_le (Heap.lt_size e) z) (Nat.lt_irrefl _)
  have cellK:∀ x c,X.env.cells.lookup x=some c→∀ v,s.heap.IsCell c v→h'.IsCell c v:=fun x c e v ⟨o,ho,hd⟩=>by
    have nch:c ∉ ch:=fun z=>(hch c z).2.2.1 x c e rfl
    by_cases hc:c∈X.fs
    · obtain ⟨sl,q⟩:=slot c o (I.cne x c e) hc nch ho (I.xZ x c e)
      exact ⟨_,q,hd⟩
    · exact ⟨o,keep c o (I.cne x c e) hc nch ho (I.xZ x c e),hd⟩
  refine ⟨I.ok,I.os,hg,⟨fun b o e n hb hx=>?_,fun b o e n hb hx=>?_,fun b o e n hx=>?_,fun b o e hx=>?_,fun b xs e=>tups b xs (I.base.tups b xs e),fun b o xs e=>uV b o xs (I.base.uV b o xs e),fun b ps e=>?_⟩,?_,fun x c e=>?_,?_,fun x c e=>?_,fun p hp=>?_,hok,I.len,I.hnd.mono uV,fun p hp=>tups _ _ (I.tup p hp)⟩
  · exact keep b o (neL b o e) hb (neC b o e hx) (I.base.keep b o e n hb hx) (I.base.free b o e n hx)
  · obtain ⟨sl,e1⟩:=I.base.slot b o e n hb hx
    obtain ⟨sl',e2⟩:=slot b _ (neL b o e) hb (neC b o e hx) e1 (I.base.free b o e n hx)
    exact ⟨sl',e2⟩
  · obtain ⟨o',e1⟩:=I.base.there b o e hx
    exact free b o' (neC b o e hx) e1 (I.base.free b o e n hx)
  · obtain ⟨o',e1⟩:=I.base.there b o e hx
    exact there b o' (neC b o e hx) e1
  · obtain ⟨m1,e1⟩:=I.base.a66 b ps e
    obtain ⟨m2,e2⟩:=a66 b _ e1
    exact ⟨m1++m2,by rw [e2,Array.append_assoc]⟩
  · obtain ⟨m,hn,hl⟩:=I.loc
    refine ⟨m,ns m hn,fun i x v e1 e2 e3=>?_⟩
    obtain ⟨u,r,l⟩:=hl i x v e1 e2 e3
    refine ⟨u,r,?_⟩
    rcases l with l | ⟨k,c,e,z⟩
    · exact .inl l
    · exact .inr ⟨k,c,e,cellK x c e _ z⟩
  · obtain ⟨v,z⟩:=I.cell x c e
    exact ⟨v,cellK x c e v z⟩
  · obtain ⟨m,⟨o,_,_,ho,_⟩,_⟩:=I.loc
    exact free _ o (fun z=>(hch _ z).2.1 rfl) ho I.free
  · obtain ⟨v,o,ho,hd⟩:=I.cell x c e
    exact free c o (fun z=>(hch c z).2.2.1 x c e rfl) ho (I.xZ x c e)
  · obtain ⟨e,n,ne,nf,d⟩:=I.pin p hp
    have nch:p.1 ∉ ch:=fun z=>(hch p.1 z).2.2.2 p hp rfl
    exact ⟨keep p.1 p.2 ne nf nch e n,free p.1 p.2 nch e n,ne,nf,d⟩
theorem Inv.un {t':Nat} (I:Inv X pins σ H s) (u:Un X.fs [] H H' s.heap h') (hok:HOk X.prog X.w H' h'):Inv X pins σ H' { s with heap:=h',toks:=t' }:=by
  obtain ⟨m,⟨o,es,ep,ho,r⟩,_⟩:=id I.loc
  obtain ⟨sl,hL⟩:=u.any ho I.free (by simp)
  exact I.step (g':=s.gens) (d':=s.drawn) (ch:=[]) (fun _ z=>nomatch z) (fun b o _ hb _ e n=>u.keep b o e n hb (by simp)) (fun b o _ hb _ e n=>u.slot b o e n hb (by simp)) (fun b o _ e n=>u.free b o e n (by simp)) (fun b o _ e=>u.there b o e (by simp)) u.tups u.uV u.a66 (fun m' hm=>by
    obtain ⟨o',es',ep',ho',r'⟩:=hm
    rw [ho] at ho';cases ho'
    exact ⟨_,es',ep',hL,r'⟩) hok I.bare
theorem Inv.call {g':Array GenState} {t':Nat} {d':Drawn} {ch:List Addr} (I:Inv X pins σ H s) (u:Un (frs X.stack) ch H H' s.heap h') (hok:HOk X.prog X.w H' h') (hg:AllBare g')
    (hch:∀ b∈ch,(b∈X.ex∨X.s₀.heap.objs.size≤b)∧b≠X.env.locals∧(∀ x c,X.env.cells.lookup x=some c→c≠b)∧∀ p∈X.pn++pins,p.1≠b) :
    Inv X pins σ H' { s with heap:=h',gens:=g',drawn:=d',toks:=t' }:=by
  obtain ⟨m,⟨o,es,ep,ho,r⟩,_⟩:=id I.loc
  obtain ⟨sl,hL⟩:=u.any ho I.free fun z=>(hch _ z).2.1 rfl
  exact I.step (ch:=ch) hch (fun b o hL hb hc e n=>u.keep b o e n (fun z=>(List.mem_cons.mp (I.av9 b z)).elim hL hb) hc) (fun b o _ _ hc e n=>u.any e n hc) (fun b o hc e n=>u.free b o e n hc) (fun b o hc e=>u.there b o e hc) u.tups u.uV u.a66 (fun m' hm=>by
    obtain ⟨o',es',ep',ho',r'⟩:=hm
    rw [ho] at ho';cases ho'
    exact ⟨_,es',ep',hL,r'⟩) hok hg
theorem Inv.turned {t':Nat} {it:Addr} (I:Inv X pins σ H s) (k:∀ b o,b≠it→s.heap.get? b=some o→h'.get? b=some o) (hn:H it=none) (hL:it≠X.env.locals)
    (h1:it∈X.ex∨X.s₀.heap.objs.size≤it) (h2:∀ x c,X.env.cells.lookup x=some c→c≠it) (h3:∀ p∈X.pn++pins,p.1≠it):Inv X pins σ H { s with heap:=h',toks:=t' }:=by
  have nit:∀ b u,H b=some u→b≠it:=fun b u e z=>by rw [z,hn] at e;cases e
  refine I.step (g':=s.gens) (d':=s.drawn) (ch:=[it]) (fun b hb=>?_) (fun b o _ _ hc e _=>k b o (fun z=>hc (by simp [z])) e) (fun b o _ _ hc e _=>⟨o.slots,k b o (fun z=>hc (by simp [z])) e⟩) (fun _ _ _ _ n=>n)
    (fun b o hc e=>⟨o,k b o (fun z=>hc (by simp [z])) e⟩) (fun _ _ e=>e) (fun _ _ _ e=>e) (fun b ps e=>⟨#[],by rw [e];simp⟩) (fun m hm=>?_) (fun b u e=>?_) I.bare
  · have e:b=it:=by simpa using hb
    subst e
    exact ⟨h1,hL,h2,h3⟩
  · obtain ⟨o,es,ep,ho,r⟩:=hm
    exact ⟨o,es,ep,k _ o (Ne.symm hL) ho,r⟩
  · refine (I.hok b u e).stay (fun c v hc q=>k c v ?_ q) (fun _ q=>q) fun _ _ q=>q
    rcases hc with z | z
    · rw [z];exact nit b u e
    · exact nit c _ z
theorem Inv.tok (I:Inv X pins σ H s) (t:Nat):Inv X pins σ H { s with toks:=t }:=I.un (h':=s.heap) (t':=t) Un.refl I.hok
theorem Inv.kept {t':Nat} (I:Inv X pins σ H s) (k:∀ b u,s.heap.get? b=some u→h'.get? b=some u):Inv X pins σ H { s with heap:=h',toks:=t' }:=I.un (Un.kept k) (I.hok.kept k)
theorem Inv.laid {a:Addr} {o:HO} {t':Nat} (I:Inv X pins σ H s) (k:∀ b u,s.heap.get? b=some u→h'.get? b=some u) (hp:s.heap.objs.size≤a) (new:pW X.prog X.w (upd H a o) h' a o) :
    Inv X pins σ (upd H a o) { s with heap:=h',toks:=t' }:=I.un (Un.laid k hp (I.hok.fresh hp)) (I.hok.laid k hp new)
theorem Inv.write {x e:Addr} {o:HO} {t':Nat} (I:Inv X pins σ H s) (mu:Mut (H x)) (he:e=x∨H e=some (.own x)) (k:∀ b u,b≠e→s.heap.get? b=some u→h'.get? b=some u) (heo:∃ u,h'.get? e=some u)
    (new:pW X.prog X.w (upd H x o) h' x o):Inv X pins σ (upd H x o) { s with heap:=h',toks:=t' }:=I.un (Un.write mu he k heo) (I.hok.write mu he k heo new)
theorem Inv.weak {σ':List (Option V)} (I:Inv X pins σ H s) (hl:σ'.length=σ.length) (w:∀ (i:Nat) v,σ'[i]?=some (some v)→σ[i]?=some (some v)):Inv X pins σ' H s :=
  ⟨I.ok,I.os,I.bare,I.base,let ⟨m,hn,hl'⟩:=I.loc;⟨m,hn,fun i x v e1 e2 e3=>hl' i x v e1 (w i v e2) e3⟩,I.cell,I.free,I.xZ,I.pin,I.hok,hl.trans I.len,I.hnd,I.tup⟩
theorem Inv.axG {adE:List (Addr×Obj)} (I:Inv X pins σ H s) (h:∀ p∈adE,s.heap.get? p.1=some p.2∧H p.1=none∧p.1≠X.env.locals∧p.1 ∉ X.fs∧∀ v,p.2.data ≠ .cell v):Inv X adE σ H s :=
  ⟨I.ok,I.os,I.bare,I.base,I.loc,I.cell,I.free,I.xZ,fun p hp=>(List.mem_append.mp hp).elim (fun z=>I.pin p (List.mem_append_left _ z)) (h p),I.hok,I.len,I.hnd,I.tup⟩
theorem ajP {N:List Str} (hN:N.Nodup) {i j:Nat} {x:Str} (a:N[i]?=some x) (b:N[j]?=some x):i=j:=by
  obtain ⟨h1,e1⟩:=List.getElem?_eq_some_iff.mp a
  obtain ⟨h2,e2⟩:=List.getElem?_eq_some_iff.mp b
  exact (List.getElem_inj hN).mp (e1.trans e2.symm)
theorem az9 {M:Model} {A:Around} {E:Value→Shared→Prop} {i:Nat} {x:Str} {v:V} {u:Value} {Q:Unit→Shared→Prop} (I:Inv X pins σ H s) (hN:X.N.Nodup) (hi:X.N[i]?=some x) (hx:Loc X.env.scope x) (r:RelV v u)
    (h:∀ s',Inv X pins (σ.set i (some v)) H s'→(∃ a,Heap.SameBut a s.heap s'.heap∧(a=X.env.locals∨X.env.cells.lookup x=some a))→Q () s') (hf:X.fn x=true∨X.env.scope.names.lookup x=some .local:=by first | exact .inl rfl | exact .inr rfl | assumption):wpAny M A (storeName X.env x u) Q E s:=by
  obtain ⟨m,hn,hl⟩:=id I.loc
  have hcls:(X.env.scope.kind == .class || (X.env.scope.kind == .module&&X.env.locals != X.env.globals))=false:=by rw [I.ok.kind];rfl
  have hiσ:i < σ.length:=by rw [I.len];exact (List.getElem?_eq_some_iff.mp hi).1
  have cne:=I.cne
  have tracked:∀ {a:Addr} {h':Heap},(∃ o,s.heap.get? a=some o∧H a=none)→Heap.SameBut a s.heap h'→HOk X.prog X.w H h':=fun {a h'} ha hs b ob e=>by
    obtain ⟨_,_,hfree⟩:=ha
    refine (I.hok b ob e).stay (fun c w' hc q=>(hs.2 c ?_).trans q) (fun _ q=>q) fun _ _ q=>q
    rintro rfl
    rcases hc with rfl | hc
    · rw [hfree] at e;cases e
    · rw [hfree] at hc;cases hc
  rcases hx with hk | hk
  · refine wpAny_storeName_local hk hn (fun h' hn' hs=>?_) hcls
    obtain ⟨oL,_,_,hoL,_⟩:=id hn
    refine h _ ⟨I.ok,I.os,I.bare,⟨fun b o e n hb hx=>?_,fun b o e n hb hx=>?_,I.base.free,fun b o e hx=>?_,I.base.tups,I.base.uV,I.base.a66⟩,⟨_,hn',fun j y v' e1 e2 e3=>?_⟩,fun y c e=>?_,I.free,I.xZ,fun p hp=>?_,tracked ⟨oL,hoL,I.free⟩ hs,by simpa using I.len,I.hnd,I.tup⟩ ⟨_,hs,.inl rfl⟩
    · exact (hs.2 b (Nat.ne_of_lt (Nat.lt_of_lt_of_le (Heap.lt_size e) I.ok.above))).trans (I.base.keep b o e n hb hx)
    · obtain ⟨sl,e1⟩:=I.base.slot b o e n hb hx
      exact ⟨sl,(hs.2 b (Nat.ne_of_lt (Nat.lt_of_lt_of_le (Heap.lt_size e) I.ok.above))).trans e1⟩
    · obtain ⟨o',e1⟩:=I.base.there b o e hx
      exact ⟨o',(hs.2 b (Nat.ne_of_lt (Nat.lt_of_lt_of_le (Heap.lt_size e) I.ok.above))).trans e1⟩
    · by_cases hj:j=i
      · subst hj
        rw [hi] at e1;cases e1
        rw [List.getElem?_set_self hiσ] at e2
        cases e2
        exact ⟨u,r,.inl ⟨hk,by simp⟩⟩
      · rw [List.getElem?_set_ne (Ne.symm hj)] at e2
        obtain ⟨u',r',q⟩:=hl j y v' e1 e2 e3
        refine ⟨u',r',?_⟩
        rcases q with ⟨k,e⟩ | ⟨k,c,e,z⟩
        · refine .inl ⟨k,?_⟩
          have:y≠x:=fun e=>hj (ajP hN e1 (e ▸ hi))
          simp [this,e]
        · exact .inr ⟨k,c,e,z.sameBut hs (cne y c e)⟩
    · obtain ⟨w',z⟩:=I.cell y c e
      exact ⟨w',z.sameBut hs (cne y c e)⟩
    · obtain ⟨e,n,ne,nf,d⟩:=I.pin p hp
      exact ⟨(hs.2 p.1 ne).trans e,n,ne,nf,d⟩
  · have hfn:X.fn x=true:=by
      rcases hf with z | z
      · exact z
      · rw [z] at hk;cases hk
    obtain ⟨c,hc⟩:=I.ok.has x (.inl hk)
    obtain ⟨w',z⟩:=I.cell x c hc
    refine wpAny_storeName_cell I.ok.kind hk hc z (fun h' hc' hs=>?_)
    obtain ⟨oc,hoc,aXS⟩:=id z
    refine h { s with heap:=h' } ⟨I.ok,I.os,I.bare,⟨fun b o e n hb hx=>?_,fun b o e n hb hx=>?_,I.base.free,fun b o e hx=>?_,I.base.tups,I.base.uV,I.base.a66⟩,⟨m,hn.sameBut hs (Ne.symm (cne x c hc)),fun j y v' e1 e2 e3=>?_⟩,fun y c' e=>?_,I.free,I.xZ,fun p hp=>?_,tracked ⟨oc,hoc,I.xZ x c hc⟩ hs,by simpa using I.len,I.hnd,I.tup⟩ ⟨c,hs,.inr hc⟩
    · exact (hs.2 b (Nat.ne_of_lt (Nat.lt_of_lt_of_le (Heap.lt_size e) (I.ok.cab x c hfn hc)))).trans (I.base.keep b o e n hb hx)
    · obtain ⟨sl,e1⟩:=I.base.slot b o e n hb hx
      exact ⟨sl,(hs.2 b (Nat.ne_of_lt (Nat.lt_of_lt_of_le (Heap.lt_size e) (I.ok.cab x c hfn hc)))).trans e1⟩
    · obtain ⟨o',e1⟩:=I.base.there b o e hx
      exact ⟨o',(hs.2 b (Nat.ne_of_lt (Nat.lt_of_lt_of_le (Heap.lt_size e) (I.ok.cab x c hfn hc)))).trans e1⟩
    · by_cases hj:j=i
      · subst hj
        rw [hi] at e1;cases e1
        rw [List.getElem?_set_self hiσ] at e2
        cases e2
        exact ⟨u,r,.inr ⟨.inl hk,c,hc,hc'⟩⟩
      · rw [List.getElem?_set_ne (Ne.symm hj)] at e2
        obtain ⟨u',r',q⟩:=hl j y v' e1 e2 e3
        refine ⟨u',r',?_⟩
        rcases q with q | ⟨k,c',e,z'⟩
        · exact .inl q
        · refine .inr ⟨k,c',e,z'.sameBut hs ?_⟩
          rintro rfl
          exact hj (ajP hN e1 (I.ok.inj _ _ _ e hc ▸ hi))
    · by_cases hcc:c'=c
      · subst hcc;exact ⟨_,hc'⟩
      · obtain ⟨w2,z2⟩:=I.cell y c' e
        exact ⟨w2,z2.sameBut hs hcc⟩
    · obtain ⟨e,n,ne,nf,d⟩:=I.pin p hp
      refine ⟨(hs.2 p.1 ?_).trans e,n,ne,nf,d⟩
      intro q
      rw [q,hoc] at e
      have q':oc=p.2:=Option.some.inj e
      exact d w' (by rw [← q'];exact aXS)
theorem ajQ {M:Model} {A:Around} {E:Value→Shared→Prop} {i:Nat} {x:Str} {v:V} {u:Value} {Q:Unit→Shared→Prop} (I:Inv X pins σ H s) (hN:X.N.Nodup) (hi:X.N[i]?=some x) (hx:Loc X.env.scope x) (r:RelV v u)
    (h:∀ s',Inv X pins (σ.set i (some v)) H s'→Q () s') (hf:X.fn x=true∨X.env.scope.names.lookup x=some .local:=by first | exact .inl rfl | exact .inr rfl | assumption):wpAny M A (storeName X.env x u) Q E s :=
  az9 I hN hi hx r (fun s' I' _=>h s' I') hf
theorem Inv.call' {s':Shared} {ch:List Addr} (I:Inv X pins σ H s) (ho:s'.os=s.os) (u:Un (frs X.stack) ch H H' s.heap s'.heap) (hok:HOk X.prog X.w H' s'.heap) (hg:AllBare s'.gens)
    (hch:∀ b∈ch,(b∈X.ex∨X.s₀.heap.objs.size≤b)∧b≠X.env.locals∧(∀ x c,X.env.cells.lookup x=some c→c≠b)∧∀ p∈X.pn++pins,p.1≠b):Inv X pins σ H' s':=by
  obtain ⟨h',g',d',t',o'⟩:=s'
  have e:o'=s.os:=ho
  subst e
  exact I.call (g':=g') (t':=t') (d':=d') u hok hg hch
end
abbrev XK:=Value→Option Addr→Hp→Prop
abbrev St:=List (Option V)
abbrev VK:=V→Hp→Prop
abbrev TE:=St→Hp→VK→Prop
abbrev TT:=St→Hp→(Bool→Hp→Prop)→Prop
abbrev TA:=St→Hp→(List V→Hp→Prop)→Prop
structure Ends where
  nx:St→Hp→Prop
  rt:VK
  bk:St→Hp→Prop:=fun _ _=>False
  ct:St→Hp→Prop:=fun _ _=>False
abbrev TS:=Ends→St→Hp→Prop
def EP (X:Cx) (pins:List (Addr×Obj)) (σ:St) (Q:VK) (u:Value) (s':Shared):Prop:=∃ v H',Inv X pins σ H' s'∧RelV v u∧Q v H'
def TP (X:Cx) (pins:List (Addr×Obj)) (σ:St) (Q:Bool→Hp→Prop) (b:Bool) (s':Shared):Prop:=∃ H',Inv X pins σ H' s'∧Q b H'
def AP (X:Cx) (pins:List (Addr×Obj)) (σ:St) (Q:List V→Hp→Prop) (us:List Value) (s':Shared):Prop:=∃ vs H',Inv X pins σ H' s'∧Vals vs us∧Q vs H'
def SP (X:Cx) (pins:List (Addr×Obj)) (D:Ends) (f:Flow) (s':Shared):Prop :=
  match f with
  | .next=>∃ σ' H',Inv X pins σ' H' s'∧D.nx σ' H'
  | .brk=>∃ σ' H',Inv X pins σ' H' s'∧D.bk σ' H'
  | .cont=>∃ σ' H',Inv X pins σ' H' s'∧D.ct σ' H'
  | .ret u=>∃ v σ' H',Inv X pins σ' H' s'∧RelV v u∧D.rt v H'
def PE (X:Cx) (e:Expr) (t:TE):Prop :=
  ∀ (pins:List (Addr×Obj)) (s:Shared) (σ:St) (H:Hp) (Q:VK),Inv X pins σ H s→t σ H Q→wpAny (model X.prog X.w) X.A (eval e X.env) (EP X pins σ Q) X.xe s
def PT (X:Cx) (e:Expr) (t:TT):Prop :=
  ∀ (pins:List (Addr×Obj)) (s:Shared) (σ:St) (H:Hp) (Q:Bool→Hp→Prop),Inv X pins σ H s→t σ H Q→wpAny (model X.prog X.w) X.A (isTrue e X.env (eval e X.env)) (TP X pins σ Q) X.xe s
def PW (X:Cx) (e:Expr) (t:TT):Prop :=
  ∀ (whole:Sem Value) (pins:List (Addr×Obj)) (s:Shared) (σ:St) (H:Hp) (Q:Bool→Hp→Prop),Inv X pins σ H s→t σ H Q→wpAny (model X.prog X.w) X.A (isTrue e X.env whole) (TP X pins σ Q) X.xe s
theorem PW.pt {X:Cx} {e:Expr} {t:TT} (h:PW X e t):PT X e t:=h _
def PA (X:Cx) (es:List Expr) (t:TA):Prop :=
  ∀ (pos:Pos) (pins:List (Addr×Obj)) (s:Shared) (σ:St) (H:Hp) (Q:List V→Hp→Prop),Inv X pins σ H s→t σ H Q→wpAny (model X.prog X.w) X.A (spliced (backTo pos (starEach es X.env))) (AP X pins σ Q) X.xe s
def PS (X:Cx) (st:Stmt) (t:TS):Prop :=
  ∀ (pins:List (Addr×Obj)) (s:Shared) (σ:St) (H:Hp) (D:Ends),Inv X pins σ H s→t D σ H→wpAny (model X.prog X.w) X.A (exec st X.env) (SP X pins D) X.xe s
def PSs (X:Cx) (st:List Stmt) (t:TS):Prop :=
  ∀ (pins:List (Addr×Obj)) (s:Shared) (σ:St) (H:Hp) (D:Ends),Inv X pins σ H s→t D σ H→wpAny (model X.prog X.w) X.A (execs st X.env) (SP X pins D) X.xe s
theorem jU {α:Type} {t:Sem α} {Q Q':α→Shared→Prop} {M:Model} {A:Around} {E:Value→Shared→Prop} {s:Shared} (h:wpAny M A t Q E s) (hQ:∀ a s,Q a s→Q' a s):wpAny M A t Q' E s:=wpAny_mono h hQ fun _ _ x=>x
end
section
section
variable {X:Cx}
theorem bin {a b:Expr} {ta tb:TE} (ha:PE X a ta) (hb:PE X b tb) {pins:List (Addr×Obj)} {s:Shared} {σ:St} {H:Hp} {R:V→V→Hp→Prop} (I:Inv X pins σ H s) (h:ta σ H fun x H1=>tb σ H1 fun y H2=>R x y H2)
    {α:Type} {Q:α→Shared→Prop} {f:Value→Value→Sem α}
    (hf:∀ v u s2 x y H2,Inv X pins σ H2 s2→RelV x v→RelV y u→R x y H2→wpAny (model X.prog X.w) X.A (f v u) Q X.xe s2) :
    wpAny (model X.prog X.w) X.A (eval a X.env) (fun v s₁=>wpAny (model X.prog X.w) X.A (eval b X.env) (fun u s₂=>wpAny (model X.prog X.w) X.A (f v u) Q X.xe s₂) X.xe s₁) X.xe s:=by
  refine jU (ha pins s σ H _ I h) fun v s1 ⟨x,H1,I1,r1,q1⟩=>?_
  refine jU (hb pins s1 σ H1 _ I1 q1) fun u s2 ⟨y,H2,I2,r2,q2⟩=>?_
  exact hf v u s2 x y H2 I2 r1 r2 q2
def aSC (i:Nat):TE:=fun σ H Q=>∃ v,σ[i]?=some (some v)∧Q v H
def tC (v:V):TE:=fun _ H Q=>Q v H
theorem aMA {i:Nat} {x:Str} {pos:Pos} (hN:X.N[i]?=some x) (hv:Vis X.env.scope x) (hd:(x == ("__debug__" : Str))=false:=by decide) (hcd:(x == ("__classdict__" : Str))=false:=by decide):PE X (.Name x pos) (aSC i):=by
  intro pins s σ H Q I h
  obtain ⟨v,e,h⟩:=h
  obtain ⟨m,hn,hl⟩:=I.loc
  obtain ⟨u,r,l⟩:=hl i x v hN e hv
  have fin:EP X pins σ Q u s:=⟨v,H,I,r,h⟩
  rcases l with ⟨hk,hm⟩ | ⟨hk,c,hc,hcell⟩
  · exact wpAny_Name (wpAny_loadName_local I.ok.kind hk hn hm fin) hd
  · rcases hk with hk | hk
    · exact wpAny_Name (wpAny_loadName_cell I.ok.kind hk hc hcell fin) hd
    · exact wpAny_Name (wpAny_loadName_free I.ok.kind hk hc hcell fin hcd) hd
theorem aMB {i j pos}:PE X (.Constant (.int i) j pos) (tC (.int i)):=fun _ _ _ H _ I h=>wpAny_Constant_int ⟨.int i,H,I.tok _,⟨_,rfl⟩,h⟩
theorem aSD {b j pos}:PE X (.Constant (.bool b) j pos) (tC (.bl b)):=fun _ _ _ H _ I h=>Constant_bool ⟨.bl b,H,I,rfl,h⟩
theorem aMC {j pos}:PE X (.Constant .none j pos) (tC .non):=fun _ _ _ H _ I h=>Constant_none ⟨.non,H,I,rfl,h⟩
theorem aMD {x j pos}:PE X (.Constant (.str x) j pos) (tC (.str x)):=fun _ _ _ H _ I h=>Calls.Constant_str ⟨.str x,H,I.tok _,⟨_,rfl⟩,h⟩
def Gl (X:Cx) (x:Str):Prop:=X.env.kindOf x=some .globalImplicit
theorem a04 {E:Value→Shared→Prop} {pins:List (Addr×Obj)} {s:Shared} {σ:St} {H:Hp} {x:Str} {u:Value} {pos:Pos} {Q:Value→Shared→Prop} (I:Inv X pins σ H s) (hg:Gl X x) (hm:X.mg x=some u) (h:Q u s)
    (hd:(x == ("__debug__" : Str))=false:=by decide):wpAny (model X.prog X.w) X.A (eval (.Name x pos) X.env) Q E s :=
  Calls.Name_function_global I.ok.kind hg (Calls.loadGlobal_global (by rw [I.ok.glob];exact I.mod.glob.keeps I.bk) hm h) hd
theorem afI {E:Value→Shared→Prop} {pins:List (Addr×Obj)} {s:Shared} {σ:St} {H:Hp} {x:Str} {u:Value} {pos:Pos} {Q:Value→Shared→Prop} (I:Inv X pins σ H s) (hg:Gl X x) (hm:X.mg x=none) (hv:bootBuiltins x=some u) (h:Q u s)
    (hn:x ≠ "__name__" := by decide) (hd:(x == ("__debug__" : Str))=false:=by decide):wpAny (model X.prog X.w) X.A (eval (.Name x pos) X.env) Q E s:=by
  obtain ⟨mb,h1,h2⟩:=I.mod.blt
  exact Calls.Name_function_global I.ok.kind hg (Calls.loadGlobal_builtin (by rw [I.ok.glob];exact I.mod.glob.keeps I.bk) hm (by rw [I.ok.blt];exact h1.keeps I.bk) ((h2 x hn).trans hv) h) hd
theorem aFM {x:Str} {v:V} {u:Value} {pos:Pos} (hg:Gl X x) (hm:X.mg x=some u) (r:RelV v u) (hd:(x == ("__debug__" : Str))=false:=by decide):PE X (.Name x pos) (tC v) :=
  fun _ _ _ H _ I h=>a04 I hg hm ⟨v,H,I,r,h⟩ hd
theorem aFN {x:Str} {v:V} {u:Value} {pos:Pos} (hg:Gl X x) (hm:X.mg x=none) (hv:bootBuiltins x=some u) (r:RelV v u) (hn:x ≠ "__name__" := by decide) (hd:(x == ("__debug__" : Str))=false:=by decide):PE X (.Name x pos) (tC v) :=
  fun _ _ _ H _ I h=>afI I hg hm hv ⟨v,H,I,r,h⟩ hn hd
variable {a b:Expr} {ta tb:TE} {pos:Pos}
def PC (X:Cx) (op:CmpOp) (a b:Expr) (t:TE):Prop :=
  ∀ (pins:List (Addr×Obj)) (s:Shared) (σ:St) (H:Hp) (Q:VK),Inv X pins σ H s→t σ H Q →
    wpAny (model X.prog X.w) X.A (eval a X.env) (fun v s₁=>wpAny (model X.prog X.w) X.A (eval b X.env) (fun u s₂=>wpAny (model X.prog X.w) X.A (compareOp op v u) (EP X pins σ Q) X.xe s₂) X.xe s₁) X.xe s
theorem ajR (b:Expr) {op:CmpOp} (h:op ≠ .In) (h2:op ≠ .NotIn):behindInMarks op b=false:=by
  have e1:(op == CmpOp.In)=false:=by cases op <;> first | rfl | exact absurd rfl h
  have e2:(op == CmpOp.NotIn)=false:=by cases op <;> first | rfl | exact absurd rfl h2
  cases b <;> simp [behindInMarks,e1,e2]
def tB (t:TE):TT:=fun σ H Q=>t σ H fun x H1=>∃ c,x = .bl c∧Q c H1
theorem aXT {op:CmpOp} {t:TE} (h:PC X op a b t) (h1:behindInMarks op b=false:=by first | exact ajR _ (by decide) (by decide) | rfl):PT X (.Compare a [op] [b] pos) (tB t):=by
  intro pins s σ H Q I hw
  refine wpAny_isTrue_Compare1 (jU (h pins s σ H _ I hw) fun v s1 h1=>jU h1 fun u s2 h2=>jU h2 fun c s3 ⟨x,H1,I1,r1,q1⟩=>?_) h1
  obtain ⟨d,rfl,q⟩:=q1
  cases r1
  exact wpAny_truthy_bool ⟨H1,I1,q⟩
theorem aME {e:Expr} {t:TE} (h:PE X e t) (he:∀ whole,isTrue e X.env whole=(do let v ← whole;standAt e.pos;holding [v] (truthy v)):=by intro _;rfl):PT X e (tB t):=by
  intro pins s σ H Q I hw
  refine isTrue_plain (jU (h pins s σ H _ I hw) fun v s1 ⟨x,H1,I1,r1,q1⟩=>?_) (he _)
  obtain ⟨d,rfl,q⟩:=q1
  cases r1
  exact wpAny_truthy_bool ⟨H1,I1,q⟩
variable {tA tB':TT} {rest:List Expr}
def aSE (t u:TT):TT:=fun σ H Q=>t σ H fun c H1=>if c=true then u σ H1 Q else Q false H1
def tOr (t u:TT):TT:=fun σ H Q=>t σ H fun c H1=>if c=true then Q true H1 else u σ H1 Q
def aXU (t:TT):TT:=fun σ H Q=>t σ H fun c H1=>Q (!c) H1
theorem aFO (ha:PT X a tA):PW X (.BoolOp .And [a] pos) tA:=by
  intro wh pins s σ H Q I h
  refine isTrue_and (jU (ha pins s σ H Q I h) fun c s1 e=>?_)
  cases c with
  | true=>exact isTrue_and_nil e
  | false=>exact e
theorem aMF (ha:PT X a tA):PW X (.BoolOp .Or [a] pos) tA:=by
  intro wh pins s σ H Q I h
  refine isTrue_or (jU (ha pins s σ H Q I h) fun c s1 e=>?_)
  cases c with
  | false=>exact isTrue_or_nil e
  | true=>exact e
theorem aMG (ha:PT X a tA) (hb:PW X (.BoolOp .And (b :: rest) pos) tB'):PW X (.BoolOp .And (a :: b :: rest) pos) (aSE tA tB'):=by
  intro wh pins s σ H Q I h
  refine isTrue_and (jU (ha pins s σ H _ I h) fun c s1 ⟨H1,I1,q1⟩=>?_)
  cases c with
  | true=>exact hb wh pins s1 σ H1 Q I1 q1
  | false=>exact ⟨H1,I1,q1⟩
theorem aSF (ha:PT X a tA) (hb:PW X (.BoolOp .Or (b :: rest) pos) tB'):PW X (.BoolOp .Or (a :: b :: rest) pos) (tOr tA tB'):=by
  intro wh pins s σ H Q I h
  refine isTrue_or (jU (ha pins s σ H _ I h) fun c s1 ⟨H1,I1,q1⟩=>?_)
  cases c with
  | true=>exact ⟨H1,I1,q1⟩
  | false=>exact hb wh pins s1 σ H1 Q I1 q1
theorem aMH (ha:PT X a tA):PT X (.UnaryOp .Not a pos) (aXU tA):=by
  intro pins s σ H Q I h
  exact isTrue_not (ha pins s σ H (fun c H1=>Q (!c) H1) I h)
def aSG (ta tb:TE):TE:=fun σ H Q=>ta σ H fun x H1=>∃ c,x = .bl c∧if c=true then tb σ H1 Q else Q (.bl false) H1
def aXV (ta tb:TE):TE:=fun σ H Q=>ta σ H fun x H1=>∃ c,x = .bl c∧if c=true then Q (.bl true) H1 else tb σ H1 Q
def aSH (ta:TE):TE:=fun σ H Q=>ta σ H fun x H1=>∃ c,x = .bl c∧Q (.bl (!c)) H1
theorem aMI {op} {t:TE} (h:PE X a t):PE X (.BoolOp op [a] pos) t:=fun pins s σ H Q I hw=>BoolOp_one (h pins s σ H Q I hw)
theorem aMJ (ha:PE X a ta) (hb:PE X (.BoolOp .And (b :: rest) pos) tb):PE X (.BoolOp .And (a :: b :: rest) pos) (aSG ta tb):=by
  intro pins s σ H Q I h
  refine BoolOp_and (jU (ha pins s σ H _ I h) fun v s1 ⟨x,H1,I1,r1,q1⟩=>?_)
  obtain ⟨c,rfl,q1⟩:=q1
  cases r1
  refine wpAny_truthy_bool ?_
  cases c with
  | true=>exact hb pins s1 σ H1 Q I1 q1
  | false=>exact ⟨.bl false,H1,I1,rfl,q1⟩
theorem aSI (ha:PE X a ta) (hb:PE X (.BoolOp .Or (b :: rest) pos) tb):PE X (.BoolOp .Or (a :: b :: rest) pos) (aXV ta tb):=by
  intro pins s σ H Q I h
  refine BoolOp_or (jU (ha pins s σ H _ I h) fun v s1 ⟨x,H1,I1,r1,q1⟩=>?_)
  obtain ⟨c,rfl,q1⟩:=q1
  cases r1
  refine wpAny_truthy_bool ?_
  cases c with
  | false=>exact hb pins s1 σ H1 Q I1 q1
  | true=>exact ⟨.bl true,H1,I1,rfl,q1⟩
theorem aMK (ha:PE X a ta):PE X (.UnaryOp .Not a pos) (aSH ta):=by
  intro pins s σ H Q I h
  refine UnaryOp_ (jU (ha pins s σ H _ I h) fun v s1 ⟨x,H1,I1,r1,q1⟩=>?_)
  obtain ⟨c,rfl,q1⟩:=q1
  cases r1
  exact not_of (wpAny_truthy_bool ⟨.bl (!c),H1,I1,rfl,q1⟩)
end
end
section
def SqL (K:PySem.W.Frag) (H:Hp) (a:Addr) (xs:List V):Prop :=
  Rd H a (.lst xs) ∨
    ∃ (o:Obj) (its:Array Value) (n:Nat),K.lookup a=some o∧o.cls = .type "list" ∧ o.dict=none∧o.data = .seq its n∧its.size≤sizeLine∧Vals xs its.toList
def SqT (K:PySem.W.Frag) (H:Hp) (a:Addr) (xs:List V):Prop :=
  Rd H a (.tup xs) ∨
    ∃ (o:Obj) (its:Array Value) (n:Nat),K.lookup a=some o∧o.cls = .type "tuple" ∧ o.data = .seq its n∧its.size≤sizeLine∧Vals xs its.toList
def aXW:Value→Option V
  | .none=>some .non
  | .bool b=>some (.bl b)
  | .int i _=>some (.int i)
  | .str x _=>some (.str x)
  | .bytes b _=>some (.byt b)
  | .float b _=>some (.flt b)
  | .ref a=>some (.ref a)
  | .type n=>some (.ty n)
  | _=>none
theorem RelV.abs {x:V} {u:Value} (r:RelV x u):aXW u=some x:=by
  cases x with
  | non=>cases r;rfl
  | bl _=>cases r;rfl
  | int _=>obtain ⟨t,rfl⟩:=r;rfl
  | str _=>obtain ⟨t,rfl⟩:=r;rfl
  | byt _=>obtain ⟨t,rfl⟩:=r;rfl
  | flt _=>obtain ⟨t,rfl⟩:=r;rfl
  | ref _=>cases r;rfl
  | ty _=>cases r;rfl
theorem RelV.inj {x y:V} {u:Value} (r:RelV x u) (q:RelV y u):x=y:=Option.some.inj (r.abs.symm.trans q.abs)
theorem Vals.inj:∀ {xs ys:List V} {us:List Value},Vals xs us→Vals ys us→xs=ys
  | _,_,_,.nil,.nil=>rfl
  | _,_,_,.cons r t,.cons r' t'=>by rw [r.inj r',Vals.inj t t']
section
variable {X:Cx} {pins:List (Addr×Obj)} {σ:St} {H:Hp} {s:Shared} {a:Addr} {xs ys:List V}
theorem SqL.of {K:PySem.W.Frag} (h:H a=some (.lst xs)):SqL K H a xs := .inl (.inl h)
theorem SqT.of {K:PySem.W.Frag} (h:H a=some (.tup xs)):SqT K H a xs := .inl (.inl h)
theorem Inv.list (I:Inv X pins σ H s) (h:SqL X.K H a xs):∃ its:List Value,Vals xs its∧PlainL s.heap a its.toArray∧xs.length≤sizeLine:=by
  rcases h with h | ⟨o,its,n,hk,hc,hd,hs,hz,r⟩
  · obtain ⟨z,its,n,r,e⟩:=h.ok I.hok
    exact ⟨its,r,⟨_,n,e,rfl,rfl,rfl⟩,z⟩
  · refine ⟨its.toList,r,⟨o,n,I.kIn a o hk,hc,hd,by simpa using hs⟩,?_⟩
    have e:=r.length
    simp only [Array.length_toList] at e
    omega
theorem Inv.tuple (I:Inv X pins σ H s) (h:SqT X.K H a xs):∃ its:List Value,Vals xs its∧IsTup s.heap a its.toArray∧xs.length≤sizeLine:=by
  rcases h with h | ⟨o,its,n,hk,hc,hs,hz,r⟩
  · obtain ⟨z,its,r,p⟩:=h.ok I.hok
    exact ⟨its,r,p,z⟩
  · refine ⟨its.toList,r,⟨o,I.kIn a o hk,hc,n,by simpa using hs⟩,?_⟩
    have e:=r.length
    simp only [Array.length_toList] at e
    omega
theorem Inv.aBA (I:Inv X pins σ H s) (h:SqL X.K H a xs) (h':SqL X.K H a ys):xs=ys:=by
  obtain ⟨its,r,⟨o,n,e,_,_,d⟩,_⟩:=I.list h
  obtain ⟨its',r',⟨o',n',e',_,_,d'⟩,_⟩:=I.list h'
  rw [e] at e';cases e'
  rw [d] at d'
  injection d' with d1 _
  have:its=its':=by simpa using congrArg Array.toList d1
  subst this
  exact r.inj r'
theorem Inv.an8 (I:Inv X pins σ H s) (h:SqT X.K H a xs) (h':SqT X.K H a ys):xs=ys:=by
  obtain ⟨its,r,⟨o,e,_,n,d⟩,_⟩:=I.tuple h
  obtain ⟨its',r',⟨o',e',_,n',d'⟩,_⟩:=I.tuple h'
  rw [e] at e';cases e'
  rw [d] at d'
  injection d' with d1 _
  have:its=its':=by simpa using congrArg Array.toList d1
  subst this
  exact r.inj r'
end
abbrev Cx.wish (X:Cx) (E:Value→Shared→Prop):Cx:={ X with xe:=E }
abbrev Cx.nox (X:Cx):Cx:=X.wish fun _ _=>False
theorem Cx.Ok.wish {X:Cx} (ok:X.Ok) (E:Value→Shared→Prop):(X.wish E).Ok :=
  ⟨ok.mod,ok.kind,ok.glob,ok.blt,ok.above,ok.inj,ok.has,ok.cab,ok.hd,ok.frames,ok.stk,ok.exf,ok.bs,ok.bsz,ok.amH,ok.aoN,ok.a67,ok.frf⟩
theorem Cx.Ok.a3U {X:Cx} {E:Value→Shared→Prop} (ok:(X.wish E).Ok):X.Ok :=
  ⟨ok.mod,ok.kind,ok.glob,ok.blt,ok.above,ok.inj,ok.has,ok.cab,ok.hd,ok.frames,ok.stk,ok.exf,ok.bs,ok.bsz,ok.amH,ok.aoN,ok.a67,ok.frf⟩
section
variable {X:Cx} {pins:List (Addr×Obj)} {σ:St} {H:Hp} {s:Shared} {E:Value→Shared→Prop}
theorem Inv.wish (I:Inv X pins σ H s) (E:Value→Shared→Prop):Inv (X.wish E) pins σ H s:=⟨I.ok.wish E,I.os,I.bare,I.base,I.loc,I.cell,I.free,I.xZ,I.pin,I.hok,I.len,I.hnd,I.tup⟩
theorem Inv.a3U (I:Inv (X.wish E) pins σ H s):Inv X pins σ H s:=⟨I.ok.a3U,I.os,I.bare,I.base,I.loc,I.cell,I.free,I.xZ,I.pin,I.hok,I.len,I.hnd,I.tup⟩
theorem SP.a3U {D:Ends} {f:Flow} {s':Shared} (h:SP (X.wish E) pins D f s'):SP X pins D f s':=by
  cases f with
  | next=>obtain ⟨σ',H',I,q⟩:=h;exact ⟨σ',H',I.a3U,q⟩
  | brk=>obtain ⟨σ',H',I,q⟩:=h;exact ⟨σ',H',I.a3U,q⟩
  | cont=>obtain ⟨σ',H',I,q⟩:=h;exact ⟨σ',H',I.a3U,q⟩
  | ret u=>obtain ⟨v,σ',H',I,r,q⟩:=h;exact ⟨v,σ',H',I.a3U,r,q⟩
theorem PE.nox {e:Expr} {t:TE} (h:PE X.nox e t):PE X e t:=fun pins s σ H Q I hw =>
  wpAny_mono (h pins s σ H Q (I.wish _) hw) (fun _ _ ⟨v,H',I',r,q⟩=>⟨v,H',I'.a3U,r,q⟩) fun _ _ z=>False.elim z
theorem PT.nox {e:Expr} {t:TT} (h:PT X.nox e t):PT X e t:=fun pins s σ H Q I hw =>
  wpAny_mono (h pins s σ H Q (I.wish _) hw) (fun _ _ ⟨H',I',q⟩=>⟨H',I'.a3U,q⟩) fun _ _ z=>False.elim z
theorem PSs.nox {st:List Stmt} {t:TS} (h:PSs X.nox st t):PSs X st t:=fun pins s σ H D I hw =>
  wpAny_mono (h pins s σ H D (I.wish _) hw) (fun _ _ q=>q.a3U) fun _ _ z=>False.elim z
end
section
variable {X:Cx} {st:Stmt} {rest:List Stmt} {t u:TS} {e:Expr} {te:TE} {pos:Pos}
def aKT:TS:=fun D σ H=>D.nx σ H
def aSJ (t u:TS):TS:=fun D σ H=>t { D with nx:=u D } σ H
theorem aFP:PSs X [] aKT:=fun _ _ σ H _ I h=>wpAny_execs_nil ⟨σ,H,I,h⟩
theorem aBB (h1:PS X st t) (h2:PSs X rest u):PSs X (st :: rest) (aSJ t u):=by
  intro pins s σ H D I h
  refine wpAny_execs_cons (jU (h1 pins s σ H { D with nx:=u D } I h) fun f s1 q=>?_)
  cases f with
  | next =>
    obtain ⟨σ',H',I',q⟩:=q
    exact h2 pins s1 σ' H' D I' q
  | ret v=>exact q
  | brk=>exact q
  | cont=>exact q
theorem aFQ (h1:PS X st t):PSs X [st] t:=by
  intro pins s σ H D I h
  refine wpAny_execs_cons (jU (h1 pins s σ H D I h) fun f s1 q=>?_)
  cases f with
  | next=>exact wpAny_execs_nil q
  | ret v=>exact q
  | brk=>exact q
  | cont=>exact q
def aSK:TS:=fun D σ H=>D.ct σ H
theorem aFR:PS X (.Pass pos) aKT:=fun _ _ σ H _ I h=>wpAny_Pass ⟨σ,H,I,h⟩
theorem arJ:PS X (.Continue pos) aSK:=fun _ _ σ H _ I h=>wpAny_Continue ⟨σ,H,I,h⟩
theorem Inv.quiet {pins:List (Addr×Obj)} {σ:St} {H:Hp} {s:Shared} (I:Inv X pins σ H s):interactive X.env=false:=by simp [interactive,I.ok.kind]
def aSL (te:TE):TS:=fun D σ H=>te σ H fun _ H1=>D.nx σ H1
theorem aFS (he:PE X e te) (hs:swapsWith e none pos.line X.env=pure false:=by rfl):PS X (.Expr e pos) (aSL te):=by
  intro pins s σ H D I h
  exact wpAny_Expr_any (jU (he pins s σ H _ I h) fun v s1 ⟨x,H1,I1,r1,q1⟩=>⟨σ,H1,I1,q1⟩) I.quiet hs
def aXX (te:TE):TS:=fun D σ H=>te σ H D.rt
theorem aML (he:PE X e te):PS X (.Return (some e) pos) (aXX te):=by
  intro pins s σ H D I h
  exact wpAny_Return_some (jU (he pins s σ H _ I h) fun v s1 ⟨x,H1,I1,r1,q1⟩=>⟨x,σ,H1,I1,r1,q1⟩)
def aXY (c:TT) (t u:TS):TS:=fun D σ H=>c σ H fun b H1=>if b=true then t D σ H1 else u D σ H1
theorem aSM {c:Expr} {a b:List Stmt} {tc:TT} (hc:PT X c tc) (ha:PSs X a t) (hb:PSs X b u):PS X (.If c a b pos) (aXY tc t u):=by
  intro pins s σ H D I h
  refine wpAny_If (jU (hc pins s σ H _ I h) fun d s1 ⟨H1,I1,q1⟩=>?_)
  cases d with
  | true=>exact ha pins s1 σ H1 D I1 q1
  | false=>exact hb pins s1 σ H1 D I1 q1
end
abbrev TG:=V→St→Hp→(St→Hp→Prop)→Prop
abbrev TGs:=List V→St→Hp→(St→Hp→Prop)→Prop
def PG (X:Cx) (target:Expr) (t:TG):Prop :=
  ∀ (pins:List (Addr×Obj)) (s:Shared) (σ:St) (H:Hp) (v:V) (u:Value) (Q:St→Hp→Prop),Inv X pins σ H s→RelV v u→t v σ H Q →
    wpAny (model X.prog X.w) X.A (assign target X.env u) (fun _ s'=>∃ σ' H',Inv X pins σ' H' s'∧Q σ' H') X.xe s
def PGs (X:Cx) (ts:List Expr) (t:TGs):Prop :=
  ∀ (pins:List (Addr×Obj)) (s:Shared) (σ:St) (H:Hp) (vs:List V) (us:List Value) (Q:St→Hp→Prop),Inv X pins σ H s→Vals vs us→t vs σ H Q →
    wpAny (model X.prog X.w) X.A (assignInOrder ((assignEach ts X.env).map (·.2)) us) (fun _ s'=>∃ σ' H',Inv X pins σ' H' s'∧Q σ' H') X.xe s
abbrev aMM:=V→V→V→Hp→(Hp→Prop)→Prop
def aSO (X:Cx) (t:aMM):Prop :=
  ∀ (pins:List (Addr×Obj)) (s:Shared) (σ:St) (H:Hp) (o i v:V) (ov iv u:Value) (Q:Hp→Prop),Inv X pins σ H s→RelV o ov→RelV i iv→RelV v u→t o i v H Q →
    wpAny (model X.prog X.w) X.A (setItem ov iv u) (fun _ s'=>∃ H',Inv X pins σ H' s'∧Q H') X.xe s
section
variable {X:Cx} {pos:Pos}
def axH (i:Nat):TG:=fun v σ H Q=>Q (σ.set i (some v)) H
theorem aoP {i:Nat} {x:Str} (hN:X.N.Nodup) (hi:X.N[i]?=some x) (hx:Loc X.env.scope x) (hf:X.fn x=true∨X.env.scope.names.lookup x=some .local:=by first | exact .inl rfl | exact .inr rfl | assumption):PG X (.Name x pos) (axH i):=by
  intro pins s σ H v u Q I r h
  exact wpAny_assign_Name (ajQ I hN hi hx r (fun s' I'=>⟨_,H,I',h⟩) hf)
def aSP:TGs:=fun vs σ H Q=>vs=[]∧Q σ H
def aKV (t:TG) (u:TGs):TGs:=fun vs σ H Q=>∃ v r,vs=v :: r∧t v σ H fun σ' H'=>u r σ' H' Q
theorem aFT:PGs X [] aSP:=by
  intro pins s σ H vs us Q I r h
  obtain ⟨e,h⟩:=h
  subst e
  cases r
  exact assignInOrder_nil ⟨σ,H,I,h⟩
theorem aBC {e:Expr} {es:List Expr} {t:TG} {u:TGs} (h1:PG X e t) (h2:PGs X es u)
    (hs:(assignEach (e :: es) X.env).map (·.2)=assign e X.env :: (assignEach es X.env).map (·.2):=by rfl):PGs X (e :: es) (aKV t u):=by
  intro pins s σ H vs us Q I r h
  obtain ⟨v,vr,e1,h⟩:=h
  subst e1
  cases r with
  | cons r rr =>
    rw [hs]
    refine assignInOrder_cons (jU (h1 pins s σ H _ _ _ I r h) fun _ s1 ⟨σ1,H1,I1,q1⟩=>?_)
    exact h2 pins s1 σ1 H1 _ _ Q I1 rr q1
def aXZ (K:PySem.W.Frag) (n:Nat) (t:TGs):TG:=fun v σ H Q=>∃ a xs,v = .ref a∧SqT K H a xs∧xs.length=n∧t xs σ H Q
theorem aMN {es:List Expr} {k:Nat} {t:TGs} {n:Nat} (hc:X.calm=true) (h:PGs X es t)
    (hn:(assignEach es X.env).length=n:=by rfl) (hst:(assignEach es X.env).findIdx? (·.1)=none:=by rfl):PG X (.Tuple es k pos) (aXZ X.K n t):=by
  intro pins s σ H v u Q I r hw
  obtain ⟨a,xs,e1,hq,hl,hw⟩:=hw
  subst e1
  cases r
  obtain ⟨its,rv,ht,hz⟩:=I.tuple hq
  refine assign_Tuple_tuple (I.ok.hd hc) ht (by simp [hn,← hl,rv.length]) hst fun h' hx=>?_
  have I1:Inv X pins σ H { s with heap:=h' }:=I.kept (t':=s.toks) fun b o e=>hx b o (Nat.ne_of_lt (Heap.lt_size e)) e
  exact h pins _ σ H xs _ Q I1 (by simpa using rv) hw
def aY0 (to ti:TE) (t:aMM):TG:=fun v σ H Q=>to σ H fun o H1=>ti σ H1 fun i H2=>t o i v H2 fun H3=>Q σ H3
theorem aMO {o i:Expr} {to ti:TE} {t:aMM} (ho:PE X o to) (hi:PE X i ti) (hs:aSO X t)
    (ha:∀ v,assign (.Subscript o i pos) X.env v=(do
      let ov ← holding [v] (eval o X.env)
      let iv ← holding [v,ov] (eval i X.env)
      standAt pos
      holding [v,ov,iv] (setItem ov iv v)
      release [v,ov,iv] []):=by intro _;rfl):PG X (.Subscript o i pos) (aY0 to ti t):=by
  intro pins s σ H v u Q I r h
  rw [ha]
  refine wpAny_bind (wpAny_holding (jU (ho pins s σ H _ I h) fun ov s1 ⟨x,H1,I1,r1,q1⟩=>?_))
  refine wpAny_bind (wpAny_holding (jU (hi pins s1 σ H1 _ I1 q1) fun iv s2 ⟨y,H2,I2,r2,q2⟩=>?_))
  refine wpAny_bind (wpAny_standAt (wpAny_bind (wpAny_holding (jU (hs pins s2 σ H2 x y v ov iv u _ I2 r1 r2 r q2) fun _ s3 ⟨H3,I3,q3⟩=>?_))))
  exact wpAny_release ⟨σ,H3,I3,q3⟩
def aSQ (te:TE) (g:TG):TS:=fun D σ H=>te σ H fun x H1=>g x σ H1 D.nx
theorem aMP {tg e:Expr} {te:TE} {g:TG} (he:PE X e te) (hg:PG X tg g) (hs:swapsWithSole [tg] e pos.line X.env=pure false:=by rfl) (hw:swappedStores [tg] e X.env=pure none:=by rfl)
    (h1:(assignEach [tg] X.env).map (·.2)=[assign tg X.env]:=by rfl):PS X (.Assign [tg] e pos) (aSQ te g):=by
  intro pins s σ H D I h
  refine wpAny_Assign_stores (jU (he pins s σ H _ I h) fun v s1 ⟨x,H1,I1,r1,q1⟩=>?_) hs hw
  rw [h1]
  exact jU (hg pins s1 σ H1 x v _ I1 r1 q1) fun _ s2 q=>q
theorem aMQ {i:Nat} {x:Str} {e:Expr} {te:TE} {pos':Pos} (hN:X.N.Nodup) (hi:X.N[i]?=some x) (hx:Loc X.env.scope x) (he:PE X e te) (hs:swapsWith e (some (.Name x pos')) pos.line X.env=pure false:=by rfl) (hf:X.fn x=true∨X.env.scope.names.lookup x=some .local:=by first | exact .inl rfl | exact .inr rfl | assumption) :
    PS X (.Assign [.Name x pos'] e pos) (aSQ te (axH i)):=by
  intro pins s σ H D I h
  refine wpAny_Assign_Name (jU (he pins s σ H _ I h) fun v s1 ⟨y,H1,I1,r1,q1⟩=>?_) hs
  exact ajQ I1 hN hi hx r1 (fun s2 I2=>⟨_,H1,I2,q1⟩) hf
end
section
variable {X:Cx} {pos:Pos}
end
structure It where
  go:Nat→Hp→Prop
  yld:Nat→Hp→V→Hp→Prop
  stop:Nat→Hp→Prop
def aiR (X:Cx) (pins:List (Addr×Obj)) (H:Hp) (b:Addr):Prop :=
  H b=none∧b≠X.env.locals∧b ∉ X.fs∧(b∈X.ex∨X.s₀.heap.objs.size≤b)∧(∀ x c,X.env.cells.lookup x=some c→c≠b)∧∀ p∈X.pn++pins,p.1≠b
theorem Inv.arK {X:Cx} {pins:List (Addr×Obj)} {σ:St} {H H':Hp} {s:Shared} {b:Addr} (I:Inv X pins σ H s) (hb:s.heap.objs.size≤b) (hn:H' b=none):aiR X pins H' b:=by
  refine ⟨hn,Nat.ne_of_gt (Nat.lt_of_lt_of_le I.lt hb),I.aXR hb,.inr (Nat.le_trans I.sz hb),fun x c e z=>?_,fun p hp z=>?_⟩
  · obtain ⟨v,q⟩:=I.cell x c e
    exact absurd (Nat.lt_of_lt_of_le q.lt (by rw [z];exact hb)) (Nat.lt_irrefl _)
  · exact absurd (Nat.lt_of_lt_of_le (Heap.lt_size (I.pin p hp).1) (by rw [z];exact hb)) (Nat.lt_irrefl _)
structure Turn (cm:Bool) (tl:List (Addr×List V)) (P:Program) (w:World) (K:PySem.W.Frag) (tg:Expr) (J:It) (fp:List Addr) (it:Addr) (tn:Nat→Heap→Prop):Prop where
  mem:it∈fp
  obj:∀ i h,tn i h→∀ b∈fp,∃ o,h.get? b=some o∧∀ v,o.data ≠ .cell v
  keep:∀ i h h',tn i h→(∀ b∈fp,∀ o,h.get? b=some o→h'.get? b=some o)→tn i h'
  item:∀ (X:Cx),X.prog=P→X.w=w→X.K=K→(cm=true→X.calm=true)→(∀ p∈tl,p∈X.tp)→∀ (i:Nat) (pins:List (Addr×Obj)) (s:Shared) (σ:St) (H:Hp) (E:Value→Shared→Prop),Inv X pins σ H s→(∀ b∈fp,aiR X pins H b)→tn i s.heap→J.go i H →
    wpAny (model P w) X.A (pyNext (.ref it)) (fun r s1=>∃ u,r=some u ∧
      wpAny (model P w) X.A (letOwnedTupleGo tg (.ref it) u) (fun _ s2=>∃ x H',Inv X pins σ H' s2∧RelV x u∧J.yld i H x H'∧tn (i+1) s2.heap∧∀ b∈fp,H' b=none) E s1) E s
  done:∀ (X:Cx),X.prog=P→X.w=w→X.K=K→(cm=true→X.calm=true)→(∀ p∈tl,p∈X.tp)→∀ (i:Nat) (pins:List (Addr×Obj)) (s:Shared) (σ:St) (H:Hp) (E:Value→Shared→Prop),Inv X pins σ H s→(∀ b∈fp,aiR X pins H b)→tn i s.heap→J.stop i H →
    wpAny (model P w) X.A (pyNext (.ref it)) (fun r s1=>r=none∧Inv X pins σ H s1) E s
  self:∀ (A:Around) (i:Nat) (s:Shared) (Q:Value→Shared→Prop) (E:Value→Shared→Prop),tn i s.heap→Q (.ref it) s→wpAny (model P w) A (pyIter (.ref it)) Q E s
abbrev TI:=St→Hp→(It→Hp→Prop)→Prop
def PIE (X:Cx) (pins:List (Addr×Obj)) (σ:St) (tg:Expr) (R:It→Hp→Prop) (itv:Value) (s2:Shared):Prop :=
  ∃ (it:Addr) (fp:List Addr) (tn:Nat→Heap→Prop) (J:It) (H':Hp),itv = .ref it∧Inv X pins σ H' s2∧Turn X.calm X.tp X.prog X.w X.K tg J fp it tn∧tn 0 s2.heap∧(∀ b∈fp,aiR X pins H' b)∧R J H'
def PI (X:Cx) (tg iter:Expr) (wi:TI):Prop :=
  ∀ (pins:List (Addr×Obj)) (s:Shared) (σ:St) (H:Hp) (R:It→Hp→Prop),Inv X pins σ H s→wi σ H R →
    wpAny (model X.prog X.w) X.A (eval iter X.env) (fun v s1=>wpAny (model X.prog X.w) X.A (pyIter v) (PIE X pins σ tg R) X.xe s1) X.xe s
theorem arL {M:Model} {A:Around} {E:Value→Shared→Prop} {s:Shared} {tg:Expr} {it:Addr} {u:Value} {o:Obj} {n:String} {vs:Array Value} {Q:Unit→Shared→Prop} (ho:s.heap.get? it=some o) (hc:o.cls = .type n) (hd:o.data = .fields vs)
    (hn:["enumerate", "zip", "dict_itemiterator", "dict_reverseitemiterator", "odict_iterator", "itertools.zip_longest", "itertools.pairwise"].contains n=false) (hQ:Q () s):wpAny M A (letOwnedTupleGo tg (.ref it) u) Q E s:=by
  unfold letOwnedTupleGo
  cases tg <;> first
    | exact wpAny_pure hQ
    | (cases u <;> first
        | exact wpAny_pure hQ
        | (refine wpAny_bind (wpAny_load ho ?_)
           rw [hc,hd]
           show wpAny M A (if (["enumerate", "zip", "dict_itemiterator", "dict_reverseitemiterator", "odict_iterator", "itertools.zip_longest", "itertools.pairwise"].contains n&&vs[0]? == some (rawInt _))=true then _ else _) Q E s
           rw [if_neg (by intro h;rw [hn,Bool.false_and] at h;cases h)]
           exact wpAny_pure hQ))
def Itl (K:PySem.W.Frag) (a:Addr):It :=
  ⟨fun i H=>∃ xs x,SqL K H a xs∧xs[i]?=some x,fun i H x H'=>H'=H∧∀ xs,SqL K H a xs→xs[i]?=some x,fun i H=>∃ xs,SqL K H a xs∧xs.length≤i⟩
def Itt (K:PySem.W.Frag) (a:Addr):It :=
  ⟨fun i H=>∃ xs x,SqT K H a xs∧xs[i]?=some x,fun i H x H'=>H'=H∧∀ xs,SqT K H a xs→xs[i]?=some x,fun i H=>∃ xs,SqT K H a xs∧xs.length≤i⟩
def Itr (lo:Int) (n:Nat):It:=⟨fun i _=>i < n,fun i H x H'=>H'=H∧x = .int (lo+i),fun i _=>n≤i⟩
theorem an9 {cm:Bool} {tl:List (Addr×List V)} {P:Program} {w:World} {K:PySem.W.Frag} {tg:Expr} (a it:Addr):Turn cm tl P w K tg (Itl K a) [it] it (fun i h=>h.IsListIter it a i) where
  mem:=by simp
  obj:=fun i h st b hb=>by
    have e:b=it:=by simpa using hb
    subst e
    obtain ⟨o,e,c,d⟩:=st
    exact ⟨o,e,fun v z=>by rw [d] at z;cases z⟩
  keep:=fun i h h' st k=>st.at fun o e=>k it (by simp) o e
  item:=by
    intro X hP hw hK hc ht i pins s σ H E I hf st hg
    subst hP hw hK
    obtain ⟨xs,x,hq,hx⟩:=hg
    obtain ⟨its,rv,p,hz⟩:=I.list hq
    obtain ⟨u,hu,ru⟩:=rv.get hx
    obtain ⟨f0,f1,f2,f3,f4,f5⟩:=hf it (by simp)
    refine wpAny_pyNext_list_item st p.isList (x:=u) (by simpa using hu) fun h' st' sb=>?_
    have I1:Inv X pins σ H { s with heap:=h' }:=I.turned (t':=s.toks) (fun b o hb e=>(sb.2 b hb).trans e) f0 f1 f3 f4 f5
    obtain ⟨o,e,c,d⟩:=id st'
    exact ⟨u,rfl,arL (s:={ s with heap:=h' }) e c d (by decide) ⟨x,H,I1,ru,⟨rfl,fun ys hy=>by rw [I.aBA hy hq];exact hx⟩,st',fun b hb=>(hf b hb).1⟩⟩
  done:=by
    intro X hP hw hK hc ht i pins s σ H E I hf st hg
    subst hP hw hK
    obtain ⟨xs,hq,hx⟩:=hg
    obtain ⟨its,rv,p,hz⟩:=I.list hq
    obtain ⟨f0,f1,f2,f3,f4,f5⟩:=hf it (by simp)
    have hl:=rv.length
    exact az2 (I.hnd.heap I.hok) st p.isList (by simp;omega) fun h' eb=>⟨rfl,I.turned (t':=s.toks) (fun b o hb e=>eb b o hb e) f0 f1 f3 f4 f5⟩
  self:=fun _ _ _ _ _ st h=>wpAny_pyIter_listiter st h
theorem avA {cm:Bool} {tl:List (Addr×List V)} {P:Program} {w:World} {K:PySem.W.Frag} {tg:Expr} (a it:Addr):Turn cm tl P w K tg (Itt K a) [it] it (fun i h=>h.IsTupleIter it a i) where
  mem:=by simp
  obj:=fun i h st b hb=>by
    have e:b=it:=by simpa using hb
    subst e
    obtain ⟨o,e,c,d⟩:=st
    exact ⟨o,e,fun v z=>by rw [d] at z;cases z⟩
  keep:=fun i h h' st k=>st.at fun o e=>k it (by simp) o e
  item:=by
    intro X hP hw hK hc ht i pins s σ H E I hf st hg
    subst hP hw hK
    obtain ⟨xs,x,hq,hx⟩:=hg
    obtain ⟨its,rv,p,hz⟩:=I.tuple hq
    obtain ⟨u,hu,ru⟩:=rv.get hx
    obtain ⟨f0,f1,f2,f3,f4,f5⟩:=hf it (by simp)
    refine wpAny_pyNext_tuple_item st (show s.heap.IsTuple a its.toArray from p) (x:=u) (by simpa using hu) fun h' st' sb=>?_
    have I1:Inv X pins σ H { s with heap:=h' }:=I.turned (t':=s.toks) (fun b o hb e=>(sb.2 b hb).trans e) f0 f1 f3 f4 f5
    obtain ⟨o,e,c,d⟩:=id st'
    exact ⟨u,rfl,arL (s:={ s with heap:=h' }) e c d (by decide) ⟨x,H,I1,ru,⟨rfl,fun ys hy=>by rw [I.an8 hy hq];exact hx⟩,st',fun b hb=>(hf b hb).1⟩⟩
  done:=by
    intro X hP hw hK hc ht i pins s σ H E I hf st hg
    subst hP hw hK
    obtain ⟨xs,hq,hx⟩:=hg
    obtain ⟨its,rv,p,hz⟩:=I.tuple hq
    obtain ⟨f0,f1,f2,f3,f4,f5⟩:=hf it (by simp)
    have hl:=rv.length
    exact aB6 (I.hnd.heap I.hok) st (show s.heap.IsTuple a its.toArray from p) (by simp;omega) fun h' eb=>⟨rfl,I.turned (t':=s.toks) (fun b o hb e=>eb b o hb e) f0 f1 f3 f4 f5⟩
  self:=fun _ _ _ _ _ st h=>wpAny_pyIter_tupleiter st h
theorem avB {cm:Bool} {tl:List (Addr×List V)} {P:Program} {w:World} {K:PySem.W.Frag} {tg:Expr} (it:Addr) (lo:Int) (n:Nat):Turn cm tl P w K tg (Itr lo n) [it] it (fun i h=>IsRangeIter h it (lo+(i:Nat) * 1) ((n:Int) - (i:Nat)) 1) where
  mem:=by simp
  obj:=fun i h st b hb=>by
    have e:b=it:=by simpa using hb
    subst e
    exact ⟨_,st,fun v z=>by
      have z':Data.fields _=Data.cell v:=z
      cases z'⟩
  keep:=fun i h h' st k=>k it (by simp) _ st
  item:=by
    intro X hP hw hK hc ht i pins s σ H E I hf st hg
    subst hP hw hK
    obtain ⟨f0,f1,f2,f3,f4,f5⟩:=hf it (by simp)
    have hi:i < n:=hg
    refine wpAny_pyNext_range_item st (by omega) fun h' st' kk=>?_
    have I1:Inv X pins σ H { s with heap:=h',toks:=s.toks+1 }:=I.turned (fun b o hb e=>(kk.2 b hb).trans e) f0 f1 f3 f4 f5
    have st2:IsRangeIter h' it (lo+((i+1:Nat):Int) * 1) ((n:Int) - ((i+1:Nat):Int)) 1:=by
      have e1:lo+((i:Nat):Int) * 1+1=lo+((i+1:Nat):Int) * 1:=by omega
      have e2:(n:Int) - ((i:Nat):Int) - 1=(n:Int) - ((i+1:Nat):Int):=by omega
      rw [← e1,← e2];exact st'
    refine ⟨_,rfl,arL (s:={ s with heap:=h',toks:=s.toks+1 }) (n := "range_iterator") st2 rfl rfl (by decide) ⟨.int (lo+i),H,I1,⟨s.toks,?_⟩,⟨rfl,rfl⟩,st2,fun b hb=>(hf b hb).1⟩⟩
    rw [Int.mul_one]
  done:=by
    intro X hP hw hK hc ht i pins s σ H E I hf st hg
    subst hP hw hK
    obtain ⟨f0,f1,f2,f3,f4,f5⟩:=hf it (by simp)
    exact aB7 (I.hnd.heap I.hok) st (by have:n≤i:=hg;omega) fun h' eb=>⟨rfl,I.turned (t':=s.toks) (fun b o hb e=>eb b o hb e) f0 f1 f3 f4 f5⟩
  self:=fun _ _ _ _ _ st h=>wpAny_pyIter_rangeiter st h
end
section
section
variable {X:Cx} {tg:Expr}
theorem aBD {pins:List (Addr×Obj)} {σ:St} {H:Hp} {s:Shared} {R:It→Hp→Prop} {E:Value→Shared→Prop} {lo hi:Int} {t u v:Tok} {tk:Nat} (I:Inv X pins σ H s) (h1:-(2 ^ 62)≤lo) (h2:lo < 2 ^ 62) (h3:-(2 ^ 62)≤hi) (h4:hi < 2 ^ 62)
    (q:R (Itr lo (hi - lo).toNat) H):wpAny (model X.prog X.w) X.A (pyIter (.ref s.heap.objs.size)) (PIE X pins σ tg R) E { s with heap:=s.heap.push { cls := .type "range",data := .fields #[.int lo t,.int hi u,.int 1 v] },toks:=tk }:=by
  refine wpAny_pyIter_range (IsRange.new ..) (small_one h1 h2 h3 h4) ?_
  have I1:Inv X pins σ H { s with heap:=s.heap.push { cls := .type "range",data := .fields #[.int lo t,.int hi u,.int 1 v] },toks:=tk }:=I.kept fun b o e=>Heap.get?_push_of_some _ e
  refine ⟨(s.heap.push { cls := .type "range",data := .fields #[.int lo t,.int hi u,.int 1 v] }).objs.size,[(s.heap.push { cls := .type "range",data := .fields #[.int lo t,.int hi u,.int 1 v] }).objs.size],_,_,H,rfl,
    I1.kept (t':=tk) fun b o e=>Heap.get?_push_of_some _ e,avB _ lo (hi - lo).toNat,?_,fun b hb=>?_,q⟩
  · have e1:lo+((0:Nat):Int) * 1=lo:=by simp
    have e2:(((hi - lo).toNat:Nat):Int) - ((0:Nat):Int)=Builtin.Range.rangeSize lo hi 1:=by rw [rangeSize_one];split <;> omega
    show IsRangeIter _ _ (lo+((0:Nat):Int) * 1) ((((hi - lo).toNat:Nat):Int) - ((0:Nat):Int)) 1
    rw [e1,e2]
    exact Heap.get?_push_size _ rfl
  · have e:b=(s.heap.push { cls := .type "range",data := .fields #[.int lo t,.int hi u,.int 1 v] }).objs.size:=by simpa using hb
    subst e
    exact I1.arK (Nat.le_refl _) (I1.hok.fresh (Nat.le_refl _))
def aSS (ta:TA):TI:=fun σ H R=>ta σ H fun vs H1=>∃ j:Int,vs=[.int j]∧-(2 ^ 62)≤j∧j < 2 ^ 62∧R (Itr 0 j.toNat) H1
theorem anA {a:Expr} {ta:TA} {p pos:Pos} (hg:Gl X "range") (hm:X.mg "range" = none) (ha:PA X [a] ta) (hs:starEach [a] X.env=[(false,eval a X.env)]:=by rfl):PI X tg (.Call (.Name "range" p) [a] [] pos) (aSS ta):=by
  intro pins s σ H R I h
  refine Call_ (afI I hg hm boot_range (PyProof.Rows.callWith_type1 (jU (ha pos pins s σ H _ I h) fun us s1 ⟨vs,H1,I1,r1,q1⟩=>?_) hs rfl))
  obtain ⟨j,e,q1,q2,q⟩:=q1
  subst e
  cases r1 with
  | cons r rr =>
    cases rr
    obtain ⟨t,rfl⟩:=r
    exact call_range_1 (aBD I1 (by omega) (by omega) q1 q2 (by simpa using q))
def aY2 (wi:TI) (g:TG) (tb:TS):TS:=fun D σ H=>wi σ H fun J H1=>∃ W:Nat→Nat→St→Hp→Prop,(∃ m,W 0 m σ H1)∧∀ i m σ H,W i m σ H →
  (J.stop i H∧D.nx σ H)∨(J.go i H∧∃ N:St→Hp→Prop,(∀ σ' H',N σ' H'→∃ m',m' < m∧W (i+1) m' σ' H')∧∀ x H',J.yld i H x H'→g x σ H' fun σ2 H2=>tb { D with nx:=N,ct:=N,bk:=D.nx } σ2 H2)
def afJ (fp:List Addr) (h:Heap):List (Addr×Obj):=fp.filterMap fun b=>(h.get? b).map fun o=>(b,o)
theorem a68 {fp:List Addr} {h:Heap} {b:Addr} {o:Obj} (hb:b∈fp) (e:h.get? b=some o):(b,o)∈afJ fp h:=List.mem_filterMap.mpr ⟨b,hb,by rw [e];rfl⟩
theorem azA {fp:List Addr} {h:Heap} {p:Addr×Obj} (hp:p∈afJ fp h):p.1∈fp∧h.get? p.1=some p.2:=by
  obtain ⟨b,hb,e⟩:=List.mem_filterMap.mp hp
  cases q:h.get? b with
  | none=>rw [q] at e;cases e
  | some o =>
    rw [q] at e
    have e':(b,o)=p:=Option.some.inj e
    subst e'
    exact ⟨hb,q⟩
theorem Inv.pinned {pins:List (Addr×Obj)} {σ:St} {H:Hp} {s:Shared} {fp:List Addr} (I:Inv X pins σ H s) (hf:∀ b∈fp,aiR X pins H b) (ho:∀ b∈fp,∃ o,s.heap.get? b=some o∧∀ v,o.data ≠ .cell v):Inv X (pins++afJ fp s.heap) σ H s :=
  I.axG fun p hp=>(List.mem_append.mp hp).elim (fun z=>I.pin p (List.mem_append_right _ z)) fun z=>by
    obtain ⟨hb,e⟩:=azA z
    obtain ⟨f0,f1,f2,_⟩:=hf p.1 hb
    obtain ⟨o,e',d⟩:=ho p.1 hb
    rw [e] at e';cases e'
    exact ⟨e,f0,f1,f2,d⟩
theorem Inv.adF {pins pl:List (Addr×Obj)} {σ:St} {H:Hp} {s:Shared} (I:Inv X (pins++pl) σ H s):Inv X pins σ H s:=I.axG fun p hp=>I.pin p (List.mem_append_right _ (List.mem_append_left _ hp))
theorem aMR {iter:Expr} {body:List Stmt} {wi:TI} {g:TG} {tb:TS} {pos:Pos} (hp:PassesOwn (model X.prog X.w) X.A X.env X.xe) (hi:PI X tg iter wi) (hg:PG X tg g) (hb:PSs X body tb)
    (hs:∀ x,foldedSetIterable iter X.env x=pure x:=by intro _;rfl):PS X (.For tg iter body [] pos) (aY2 wi g tb):=by
  intro pins s σ H D I h
  refine wpAny_For (jU (hi pins s σ H _ I h) fun v s1 h1=>jU h1 fun itv s2 h2=>?_) hs
  obtain ⟨it,fp,tn,J,H2,e,I2,T,st2,f2,W,⟨m0,w0⟩,turn⟩:=h2
  subst e
  have stat:∀ {H':Hp},(∀ b∈fp,H' b=none)→∀ b∈fp,aiR X pins H' b:=fun hn b hb=>⟨hn b hb,(f2 b hb).2⟩
  refine codeAny_forLoop_any (fun n s'=>∃ i σ' H',Inv X pins σ' H' s'∧tn i s'.heap∧(∀ b∈fp,H' b=none)∧W i n σ' H') ?_ m0 ⟨0,σ,H2,I2,st2,fun b hb=>(f2 b hb).1,w0⟩
  rintro n s3 ⟨i,σ3,H3,I3,st3,fr3,w3⟩
  rcases turn i n σ3 H3 w3 with ⟨stop,qn⟩ | ⟨go,N,hN,step⟩
  · refine wpAny_passesOwn hp (jU (T.done X rfl rfl rfl (fun h=>h) (fun _ h=>h) i pins s3 σ3 H3 X.xe I3 (stat fr3) st3 stop) fun r s4 ⟨hr,I4⟩=>?_)
    subst hr
    exact wpAny_execs_nil ⟨σ3,H3,I4,qn⟩
  · refine wpAny_passesOwn hp (jU (T.item X rfl rfl rfl (fun h=>h) (fun _ h=>h) i pins s3 σ3 H3 X.xe I3 (stat fr3) st3 go) fun r s4 ⟨u,hr,h4⟩=>?_)
    subst hr
    refine wpAny_passesOwn hp (jU h4 fun _ s5 ⟨x,H5,I5,r5,y5,st5,fr5⟩=>?_)
    have I5':=I5.pinned (stat fr5) (T.obj _ _ st5)
    refine wpAny_passesOwn hp (jU (hg _ s5 σ3 H5 x u _ I5' r5 (step x H5 y5)) fun _ s6 ⟨σ6,H6,I6,q6⟩=>?_)
    refine wpAny_passesOwn hp (jU (hb _ s6 σ6 H6 _ I6 q6) fun f s7 q7=>?_)
    have again:∀ {σ7:St} {H7:Hp},Inv X (pins++afJ fp s5.heap) σ7 H7 s7→N σ7 H7→∃ m,m < n∧∃ i σ' H',Inv X pins σ' H' s7∧tn i s7.heap∧(∀ b∈fp,H' b=none)∧W i m σ' H':=fun {σ7 H7} I7 n7=>by
      obtain ⟨m',hm,w7⟩:=hN σ7 H7 n7
      refine ⟨m',hm,i+1,σ7,H7,I7.adF,T.keep _ _ _ st5 fun b hb o e=>(I7.pin (b,o) (List.mem_append_right _ (List.mem_append_right _ (a68 hb e)))).1,fun b hb=>?_,w7⟩
      obtain ⟨o,e,d⟩:=T.obj _ _ st5 b hb
      exact (I7.pin (b,o) (List.mem_append_right _ (List.mem_append_right _ (a68 hb e)))).2.1
    cases f with
    | next=>obtain ⟨σ7,H7,I7,n7⟩:=q7;exact again I7 n7
    | cont=>obtain ⟨σ7,H7,I7,n7⟩:=q7;exact again I7 n7
    | brk=>obtain ⟨σ7,H7,I7,q7⟩:=q7;exact ⟨σ7,H7,I7.adF,q7⟩
    | ret v=>obtain ⟨x7,σ7,H7,I7,r7,q7⟩:=q7;exact ⟨x7,σ7,H7,I7.adF,r7,q7⟩
end
end
section
abbrev R2:=V→V→Hp→VK→Prop
def OpR (X:Cx) (f:Value→Value→Sem Value) (r:R2):Prop :=
  ∀ (pins:List (Addr×Obj)) (s:Shared) (σ:St) (H:Hp) (x y:V) (v u:Value) (Q:VK),Inv X pins σ H s→RelV x v→RelV y u→r x y H Q →
    wpAny (model X.prog X.w) X.A (f v u) (EP X pins σ Q) X.xe s
def UnR (X:Cx) (f:Value→Sem Value) (r:V→Hp→VK→Prop):Prop :=
  ∀ (pins:List (Addr×Obj)) (s:Shared) (σ:St) (H:Hp) (x:V) (v:Value) (Q:VK),Inv X pins σ H s→RelV x v→r x H Q →
    wpAny (model X.prog X.w) X.A (f v) (EP X pins σ Q) X.xe s
def a8Q (X:Cx) (f:Value) (r:List V→Hp→VK→Prop):Prop :=
  ∀ (pins:List (Addr×Obj)) (s:Shared) (σ:St) (H:Hp) (xs:List V) (us:List Value) (Q:VK),Inv X pins σ H s→Vals xs us→r xs H Q →
    wpAny (model X.prog X.w) X.A (call f us) (EP X pins σ Q) X.xe s
def tOp (r:R2) (ta tb:TE):TE:=fun σ H Q=>ta σ H fun x H1=>tb σ H1 fun y H2=>r x y H2 Q
def tUn (r:V→Hp→VK→Prop) (ta:TE):TE:=fun σ H Q=>ta σ H fun x H1=>r x H1 Q
def rI (C:Int→Int→Prop) (g:Int→Int→V):R2:=fun x y H Q=>∃ i j,x = .int i∧y = .int j∧C i j∧Q (g i j) H
def rI0 (g:Int→Int→V):R2:=fun x y H Q=>∃ i j,x = .int i∧y = .int j∧Q (g i j) H
def rU (g:Int→V):V→Hp→VK→Prop:=fun x H Q=>∃ i,x = .int i∧Q (g i) H
section
variable {X:Cx} {a b c:Expr} {ta tb tc:TE} {pos:Pos}
theorem aMS (ha:PE X a ta) (hb:PE X b tb) {pins:List (Addr×Obj)} {s:Shared} {σ:St} {H:Hp} {R:V→V→Hp→Prop} (I:Inv X pins σ H s)
    (h:ta σ H fun x H1=>tb σ H1 fun y H2=>R x y H2) {Q:Value→Shared→Prop} {f:Value→Value→Sem Value}
    (hf:∀ v u s2 x y H2,Inv X pins σ H2 s2→RelV x v→RelV y u→R x y H2→wpAny (model X.prog X.w) X.A (f v u) Q X.xe s2) :
    wpAny (model X.prog X.w) X.A (eval a X.env) (fun v s₁=>wpAny (model X.prog X.w) X.A (eval b X.env) (fun u s₂=>wpAny (model X.prog X.w) X.A (f v u) Q X.xe s₂) X.xe s₁) X.xe s:=by
  refine jU (ha pins s σ H _ I h) fun v s1 ⟨x,H1,I1,r1,q1⟩=>?_
  refine jU (hb pins s1 σ H1 _ I1 q1) fun u s2 ⟨y,H2,I2,r2,q2⟩=>?_
  exact hf v u s2 x y H2 I2 r1 r2 q2
theorem aST {op:Operator} {r:R2} (ho:OpR X (binaryOp op) r) (ha:PE X a ta) (hb:PE X b tb):PE X (.BinOp a op b pos) (tOp r ta tb):=by
  intro pins s σ H Q I h
  exact wpAny_BinOp (aMS ha hb I h fun v u s2 x y H2 I2 rx ry q=>ho pins s2 σ H2 x y v u Q I2 rx ry q)
theorem aSU {op:UnaryOp} {r:V→Hp→VK→Prop} (ho:UnR X (unaryOp op) r) (ha:PE X a ta):PE X (.UnaryOp op a pos) (tUn r ta):=by
  intro pins s σ H Q I h
  exact UnaryOp_ (jU (ha pins s σ H _ I h) fun v s1 ⟨x,H1,I1,r1,q1⟩=>ho pins s1 σ H1 x v Q I1 r1 q1)
theorem opI {f:Value→Value→Sem Value} {C:Int→Int→Prop} {g:Int→Int→Int}
    (rule:∀ (i j:Int) (t u:Tok) (s:Shared) (Q:Value→Shared→Prop) (E:Value→Shared→Prop),C i j→Q (.int (g i j) s.toks) { s with toks:=s.toks+1 }→wpAny (model X.prog X.w) X.A (f (.int i t) (.int j u)) Q E s) :
    OpR X f (rI C fun i j => .int (g i j)):=by
  intro pins s σ H x y v u Q I rx ry h
  obtain ⟨i,j,rfl,rfl,hc,q⟩:=h
  obtain ⟨t,rfl⟩:=rx
  obtain ⟨t',rfl⟩:=ry
  exact rule i j t t' s _ _ hc ⟨.int (g i j),H,I.tok _,⟨_,rfl⟩,q⟩
theorem aSV {f:Value→Value→Sem Value} {g:Int→Int→Int}
    (rule:∀ (i j:Int) (t u:Tok) (s:Shared) (Q:Value→Shared→Prop) (E:Value→Shared→Prop),Q (.int (g i j) s.toks) { s with toks:=s.toks+1 }→wpAny (model X.prog X.w) X.A (f (.int i t) (.int j u)) Q E s) :
    OpR X f (rI0 fun i j => .int (g i j)):=by
  intro pins s σ H x y v u Q I rx ry h
  obtain ⟨i,j,rfl,rfl,q⟩:=h
  obtain ⟨t,rfl⟩:=rx
  obtain ⟨t',rfl⟩:=ry
  exact rule i j t t' s _ _ ⟨.int (g i j),H,I.tok _,⟨_,rfl⟩,q⟩
theorem aFU {f:Value→Value→Sem Value} {g:Int→Int→Bool}
    (rule:∀ (i j:Int) (t u:Tok) (s:Shared) (Q:Value→Shared→Prop) (E:Value→Shared→Prop),Q (.bool (g i j)) s→wpAny (model X.prog X.w) X.A (f (.int i t) (.int j u)) Q E s) :
    OpR X f (rI0 fun i j => .bl (g i j)):=by
  intro pins s σ H x y v u Q I rx ry h
  obtain ⟨i,j,rfl,rfl,q⟩:=h
  obtain ⟨t,rfl⟩:=rx
  obtain ⟨t',rfl⟩:=ry
  exact rule i j t t' s _ _ ⟨.bl (g i j),H,I,rfl,q⟩
def aMT (i j:Int):Prop:=0 < j∧j < 1073741824
def aMU (i j:Int):Prop:=0≤j∧j≤1000000∧i.natAbs < 2 ^ 64
def aBE (i j:Int):Prop:=(-(2 ^ 64) < i∧i < 2 ^ 64)∨(-(2 ^ 64) < j∧j < 2 ^ 64)
theorem aBE.ok {i j:Int} (h:aBE i j):IntMulOk i j:=by
  rcases h with ⟨h1,h2⟩ | ⟨h1,h2⟩
  · exact .of_left (intBits_le_64 h1 h2)
  · exact .of_right (intBits_le_64 h1 h2)
theorem aMV:OpR X (binaryOp .Add) (rI0 fun i j => .int (i+j)):=aSV fun _ _ _ _ _ _ _ q=>add_int q
theorem aMW:OpR X (binaryOp .Sub) (rI0 fun i j => .int (i - j)):=aSV fun _ _ _ _ _ _ _ q=>sub_int q
theorem aMX:OpR X (binaryOp .Mult) (rI aBE fun i j => .int (i * j)):=opI fun _ _ _ _ _ _ _ hc q=>mul_int q hc.ok
theorem aFV:OpR X (binaryOp .FloorDiv) (rI aMT fun i j => .int (i / j)):=opI fun i j _ _ _ _ _ hc q=>by
  have h1:(0:Int) < j:=hc.1
  have h2:j < 1073741824:=hc.2
  exact floordiv_int (by omega) (by rw [Int.fdiv_eq_ediv_of_nonneg i (by omega)];exact q) (.inl (PyProof.noPylong_small (by omega)))
theorem aMY:OpR X (binaryOp .Mod) (rI (fun _ j=>0 < j) fun i j => .int (i % j)):=opI fun i j _ _ _ _ _ hc q=>by
  have h1:(0:Int) < j:=hc
  exact mod_int' (by omega) (by rw [Int.fmod_eq_emod_of_nonneg i (by omega)];exact q)
theorem aMZ:OpR X (binaryOp .Pow) (rI aMU fun i j => .int (i ^ j.toNat)):=opI fun _ _ _ _ _ _ _ hc q=>pow_int_small hc.1 hc.2.1 hc.2.2 q
theorem unI {f:Value→Sem Value} {g:Int→Int}
    (rule:∀ (i:Int) (t:Tok) (s:Shared) (Q:Value→Shared→Prop) (E:Value→Shared→Prop),Q (.int (g i) s.toks) { s with toks:=s.toks+1 }→wpAny (model X.prog X.w) X.A (f (.int i t)) Q E s) :
    UnR X f (rU fun i => .int (g i)):=by
  intro pins s σ H x v Q I rx h
  obtain ⟨i,rfl,q⟩:=h
  obtain ⟨t,rfl⟩:=rx
  exact rule i t s _ _ ⟨.int (g i),H,I.tok _,⟨_,rfl⟩,q⟩
theorem aN0:UnR X (unaryOp .USub) (rU fun i => .int (-i)):=unI fun _ _ _ _ _ q=>neg_int q
end
section
variable {X:Cx} {a b c:Expr} {ta tb tc:TE} {pos:Pos}
theorem aoQ {pins:List (Addr×Obj)} {σ:St} {H:Hp} {s:Shared} {Q:VK} {k k':Bool} (I:Inv X pins σ H s) (q:Q (.bl k) H) (e:k=k'):EP X pins σ Q (.bool k') s:=by
  subst e
  exact ⟨.bl k,H,I,rfl,q⟩
theorem aSW:OpR X (compareOp .Lt) (rI0 fun i j => .bl (decide (i < j))):=aFU fun _ _ _ _ _ _ _ q=>lt_int q
theorem aSX:OpR X (compareOp .LtE) (rI0 fun i j => .bl (decide (i≤j))):=aFU fun _ _ _ _ _ _ _ q=>le_int q
theorem aSY:OpR X (compareOp .Gt) (rI0 fun i j => .bl (decide (j < i))):=aFU fun _ _ _ _ _ _ _ q=>gt_int q
theorem aSZ:OpR X (compareOp .GtE) (rI0 fun i j => .bl (decide (j≤i))):=aFU fun _ _ _ _ _ _ _ q=>ge_int q
theorem azB:OpR X (compareOp .In) (fun x y H Q=>∃ i j,x = .str i∧y = .str j∧Q (.bl (!(Builtin.Str.occurrences j i 0 j.length 1).isEmpty)) H):=by
  intro pins s σ H x y v u Q I rx ry h
  obtain ⟨i,j,rfl,rfl,q⟩:=h
  obtain ⟨t,rfl⟩:=rx
  obtain ⟨t',rfl⟩:=ry
  exact in_str (aoQ I q rfl)
theorem aN1:OpR X (compareOp .Is) (fun x y H Q=>y = .non∧Q (.bl (decide (x = .non))) H):=by
  intro pins s σ H x y v u Q I rx ry h
  obtain ⟨rfl,q⟩:=h
  cases ry
  refine is_none_gen (aoQ I q ?_)
  cases x <;> first
    | (cases rx;rfl)
    | (obtain ⟨t,rfl⟩:=rx;rfl)
theorem aFW:OpR X (compareOp .IsNot) (fun x y H Q=>y = .non∧Q (.bl (!decide (x = .non))) H):=by
  intro pins s σ H x y v u Q I rx ry h
  obtain ⟨rfl,q⟩:=h
  cases ry
  refine isnot_none_gen (aoQ I q ?_)
  cases x <;> first
    | (cases rx;rfl)
    | (obtain ⟨t,rfl⟩:=rx;rfl)
theorem aoR:OpR X (compareOp .NotIn) (fun x y H Q=>∃ i j,x = .str i∧y = .str j∧Q (.bl (!(!(Builtin.Str.occurrences j i 0 j.length 1).isEmpty))) H):=by
  intro pins s σ H x y v u Q I rx ry h
  obtain ⟨i,j,rfl,rfl,q⟩:=h
  obtain ⟨t,rfl⟩:=rx
  obtain ⟨t',rfl⟩:=ry
  exact notIn_str (aoQ I q rfl)
theorem OpR.or {f:Value→Value→Sem Value} {r r':R2} (h:OpR X f r) (h':OpR X f r'):OpR X f (fun x y H Q=>r x y H Q∨r' x y H Q):=by
  intro pins s σ H x y v u Q I rx ry q
  rcases q with q | q
  · exact h pins s σ H x y v u Q I rx ry q
  · exact h' pins s σ H x y v u Q I rx ry q
theorem aY5 (b:Expr) {op:CmpOp} (h:op ≠ .In:=by decide) (h2:op ≠ .NotIn:=by decide):behindInMarks op b=false:=by
  have e1:(op == CmpOp.In)=false:=by cases op <;> first | rfl | exact absurd rfl h
  have e2:(op == CmpOp.NotIn)=false:=by cases op <;> first | rfl | exact absurd rfl h2
  cases b <;> simp [behindInMarks,e1,e2]
theorem aFX {op:CmpOp} {r:R2} (ho:OpR X (compareOp op) r) (ha:PE X a ta) (hb:PE X b tb) (hm:behindInMarks op b=false):PE X (.Compare a [op] [b] pos) (tOp r ta tb):=by
  intro pins s σ H Q I h
  exact wpAny_Compare1 (aMS ha hb I h fun v u s2 x y H2 I2 rx ry q=>ho pins s2 σ H2 x y v u Q I2 rx ry q) hm
def aBF (t:TE):TT:=fun σ H Q=>t σ H fun x H'=>∃ k,x = .bl k∧Q k H'
theorem aFY {op:CmpOp} {r:R2} (ho:OpR X (compareOp op) r) (ha:PE X a ta) (hb:PE X b tb) (hm:behindInMarks op b=false):PT X (.Compare a [op] [b] pos) (aBF (tOp r ta tb)):=by
  intro pins s σ H Q I h
  refine wpAny_isTrue_Compare1 (jU (ha pins s σ H _ I h) fun v s1 ⟨x,H1,I1,r1,q1⟩=>jU (hb pins s1 σ H1 _ I1 q1) fun u s2 ⟨y,H2,I2,r2,q2⟩ =>
    jU (ho pins s2 σ H2 x y v u _ I2 r1 r2 q2) fun c s3 ⟨z,H3,I3,r3,k,e,q3⟩=>?_) hm
  subst e
  cases r3
  exact wpAny_truthy_bool ⟨H3,I3,q3⟩
def avC (r r':R2) (ta tb tc:TE):TE:=fun σ H Q=>ta σ H fun x H1=>tb σ H1 fun y H2=>r x y H2 fun z H3=>∃ k,z = .bl k ∧
  (if k=true then tc σ H3 fun w' H4=>r' y w' H4 Q else Q (.bl false) H3)
theorem aBG {op op':CmpOp} {r r':R2} (ho:OpR X (compareOp op) r) (ho':OpR X (compareOp op') r') (ha:PE X a ta) (hb:PE X b tb) (hc:PE X c tc)
    (hm:lastMarks [op,op'] [b,c]=false:=by with_unfolding_all rfl):PE X (.Compare a [op,op'] [b,c] pos) (avC r r' ta tb tc):=by
  intro pins s σ H Q I h
  refine Compare_chain (jU (ha pins s σ H _ I h) fun v s1 ⟨x,H1,I1,r1,q1⟩=>chain_link (jU (hb pins s1 σ H1 _ I1 q1) fun u s2 ⟨y,H2,I2,r2,q2⟩ =>
    jU (ho pins s2 σ H2 x y v u _ I2 r1 r2 q2) fun d s3 ⟨z,H3,I3,r3,k,e,q3⟩=>?_)) hm
  subst e
  cases r3
  refine wpAny_truthy_bool ?_
  cases k with
  | false=>exact ite_ff ⟨.bl false,H3,I3,rfl,q3⟩
  | true=>exact ite_tt (chain_last (jU (hc pins s3 σ H3 _ I3 q3) fun w' s4 ⟨z',H4,I4,r4,q4⟩=>ho' pins s4 σ H4 y z' u w' Q I4 r2 r4 q4))
theorem aBH {op op':CmpOp} {r r':R2} (ho:OpR X (compareOp op) r) (ho':OpR X (compareOp op') r') (ha:PE X a ta) (hb:PE X b tb) (hc:PE X c tc)
    (hm:lastMarks [op,op'] [b,c]=false:=by with_unfolding_all rfl):PT X (.Compare a [op,op'] [b,c] pos) (aBF (avC r r' ta tb tc)):=by
  intro pins s σ H Q I h
  refine isTrue_chain (jU (ha pins s σ H _ I h) fun v s1 ⟨x,H1,I1,r1,q1⟩=>test_link (jU (hb pins s1 σ H1 _ I1 q1) fun u s2 ⟨y,H2,I2,r2,q2⟩ =>
    jU (ho pins s2 σ H2 x y v u _ I2 r1 r2 q2) fun d s3 ⟨z,H3,I3,r3,k,e,q3⟩=>?_)) hm
  subst e
  cases r3
  refine wpAny_truthy_bool ?_
  cases k with
  | false =>
    obtain ⟨k',e',q'⟩:=q3
    cases e'
    exact ite_ff ⟨H3,I3,q'⟩
  | true =>
    refine ite_tt (test_last (jU (hc pins s3 σ H3 _ I3 q3) fun w' s4 ⟨z',H4,I4,r4,q4⟩=>jU (ho' pins s4 σ H4 y z' u w' _ I4 r2 r4 q4) fun d' s5 ⟨z2,H5,I5,r5,k2,e2,q5⟩=>?_))
    subst e2
    cases r5
    exact wpAny_truthy_bool ⟨H5,I5,q5⟩
theorem afK:(sizeLine:Nat) < 2 ^ 63:=by rw [sizeLine_eq];decide
theorem avD:OpR X (binaryOp .Add) (fun x y H Q=>∃ i j,x = .str i∧y = .str j∧i.length+j.length≤sizeLine∧Q (.str (i++j)) H):=by
  intro pins s σ H x y v u Q I rx ry h
  obtain ⟨i,j,rfl,rfl,hz,q⟩:=h
  obtain ⟨t,rfl⟩:=rx
  obtain ⟨t',rfl⟩:=ry
  exact add_str (fun t' tk=>⟨.str (i++j),H,I.tok _,⟨_,rfl⟩,q⟩) hz
theorem vals1 {x:V} {us:List Value} (r:Vals [x] us):∃ u,us=[u]∧RelV x u:=by
  cases r with
  | cons r1 r2=>cases r2;exact ⟨_,rfl,r1⟩
theorem vals2 {x y:V} {us:List Value} (r:Vals [x,y] us):∃ u w',us=[u,w']∧RelV x u∧RelV y w':=by
  cases r with
  | cons r1 r2 =>
    cases r2 with
    | cons r3 r4=>cases r4;exact ⟨_,_,rfl,r1,r3⟩
theorem azC:a8Q X (.type "int") (fun xs H Q=>(∃ i,xs=[.int i]∧Q (.int i) H)∨∃ k,xs=[.bl k]∧Q (.int (if k then 1 else 0)) H):=by
  intro pins s σ H xs us Q I r h
  rcases h with ⟨i,rfl,q⟩ | ⟨k,rfl,q⟩
  · obtain ⟨u,rfl,t,rfl⟩:=vals1 r
    exact call_int_int ⟨.int i,H,I,⟨_,rfl⟩,q⟩
  · obtain ⟨u,rfl,r1⟩:=vals1 r
    cases r1
    exact call_int_bool ⟨.int (if k then 1 else 0),H,I.tok _,⟨_,rfl⟩,q⟩
end
end
section
structure avE (h:Heap) (x dx C:Addr) (mA:Str→Option Value):Prop where
  obj:h.get? x=some (PySem.W.instObj C dx)
  ns:h.Ns1 dx mA
  ne:dx≠x
theorem azD {h:Heap} {dx:Addr} {mA:Str→Option Value} (n:h.Ns1 dx mA):∃ od,h.get? dx=some od∧∀ name,PySem.W.lookIn name od=some (mA name):=by
  obtain ⟨o,es,ep,ho,hd,hk,_,hm⟩:=n
  refine ⟨o,ho,fun name=>?_⟩
  have e:=hm name
  unfold nsFind findBy at e
  rw [← Array.find?_toList] at e
  unfold PySem.W.lookIn
  rw [hd]
  dsimp only
  split
  · rename_i y q
    rw [q] at e
    exact congrArg some e
  · rename_i q
    rw [q] at e
    have a:es.toList.any (·.refKey)=false:=by
      rw [List.any_eq_false]
      intro y hy
      obtain ⟨z,t,hkey⟩:=hk y (Array.mem_toList_iff.mp hy)
      simp [DictEntry.refKey,hkey]
    have a':¬ es.toList.any (·.refKey)=true:=by rw [a];exact Bool.false_ne_true
    rw [if_neg a']
    exact congrArg some e
theorem avE.look {h:Heap} {x dx C:Addr} {mA:Str→Option Value} (I:avE h x dx C mA):∃ od,PySem.W.InstAt h x (PySem.W.instObj C dx) C (some od)∧∀ name,PySem.W.lookIn name od=some (mA name) :=
  let ⟨od,ho,hl⟩:=azD I.ns
  ⟨od,⟨I.obj,rfl,rfl,ho⟩,hl⟩
section
variable {prog:Program} {w:World} {A:Around} {E:Value→Shared→Prop} {s:Shared} {K:PySem.W.Frag} {x dx C f:Addr} {mA:Str→Option Value} {name:Str} {v:Value}
theorem get_map {expr:Bool} {Q:Value→Shared→Prop} (X:K.In s.heap) (I:avE s.heap x dx C mA) (hg:PySem.W.plainGet K C name=true) (hh:PySem.W.hasDictIn K C=true)
    (ha:PySem.W.findIn K (.ref C) name=some none) (hv:mA name=some v) (hv':PySem.W.handedIn v=true) (h:Q v { s with toks:=s.toks+1 }) :
    wpAny (model prog w) A (getAttr (.ref x) name expr) Q E s:=by
  obtain ⟨od,J,hl⟩:=I.look
  exact PySem.W.get_value X J (PySem.W.plainGet_of hg).1 (PySem.W.findObj_own hh ha rfl (by rw [hl,hv])) hv' h
theorem aBI {pl:Sem Bool} {Q:Value×List Value→Shared→Prop} (X:K.In s.heap) (I:avE s.heap x dx C mA) (hg:PySem.W.plainGet K C name=true)
    (hf:PySem.W.findIn K (.ref C) name=some (some (.ref f))) (ht:PySem.W.isFn K (.ref f)=true) (hv:mA name=none) (h:Q (.ref f,[.ref x]) s) :
    wpAny (model prog w) A (getMethod (.ref x) name pl) Q E s:=by
  obtain ⟨od,J,hl⟩:=I.look
  exact PySem.W.method_fn X J (PySem.W.plainGet_of hg).1 (PySem.W.plainGet_of hg).2 hf (beq_iff_eq.mp ht) (by show (PySem.W.lookIn name od).map (·.isSome)=some false;rw [hl,hv];rfl) h
theorem aFZ {ns:List Str} {Q:Unit→Shared→Prop} (X:K.In s.heap) (I:avE s.heap x dx C mA)
    (hs:PySem.W.findIn K (.ref C) "__setattr__" = some (some (.builtin "object.__setattr__"))) (hp:PySem.W.plainOver K C=true) (ht:PySem.W.takerIn K C name=some none) (hh:PySem.W.hasDictIn K C=true)
    (hw:PySem.Within mA ns) (hsz:ns.length≤sizeLine)
    (h:∀ h',avE h' x dx C (fun y=>if y=name then some v else mA y)→Heap.SameBut dx s.heap h'→Q () { s with heap:=h',toks:=s.toks+2 }) :
    wpAny (model prog w) A (setAttr (.ref x) name v) Q E s:=by
  obtain ⟨od,J,hl⟩:=I.look
  refine PySem.W.set_plain X J hs (PySem.W.osa_open (s:={ s with toks:=s.toks+1 }) (r:=none) X J hp ht fun b=>?_)
  obtain ⟨cd,hc,hd'⟩:=PySem.W.any_some hh
  have hx:s.heap.get? x=some ⟨.ref C,some dx,.plain,#[]⟩:=I.obj
  refine wpAny_bind (wpAny_pure (wpAny_bind (wpAny_bind (wpAny_loadPart hx (wpAny_bind (PySem.W.Looks.here (s:={ s with toks:=s.toks+1 }) (PySem.W.looks_clsIn X hc) ?_))))))
  rw [hd']
  refine wpAny_pure (a:=some dx) (wpAny_bind (wpAny_pure (wpAny_bind ?_)))
  refine wpAny_nsSet1 (s:={ s with toks:=s.toks+1 }) I.ns fun h' hn2 hs2=>?_
  obtain ⟨oD,esD,epD,hoD,hdD,hcD⟩:=hn2.count (PySem.Within.cons name v hw)
  refine wpAny_bind (wpAny_lookBehind hoD (by rw [hdD];exact pastItsLine_dict (Nat.le_trans hcD (by rw [List.length_cons];omega))) ?_)
  exact wpAny_pure (h _ ⟨(hs2.2 _ (Ne.symm I.ne)).trans I.obj,hn2,I.ne⟩ hs2)
theorem aBJ {R:Result→Shared→Prop} {vs:List Value} {kw:List (Str×Value)} (X:K.In s.heap) (hm:PySem.W.makesIn K C=true)
    (hi:PySem.W.findIn K (.ref C) "__init__" = some (some (.ref f))) (hf:PySem.W.typeIn K (.ref f)=some (.type "function"))
    (h:codeAny (model prog w) (A.under (.builtin "type.__call__" ⟨.ref C :: vs,kw⟩)) (.call (.ref f) ⟨.ref (s.heap.objs.size+1) :: vs,kw⟩) (PySem.W.InitBack (s.heap.objs.size+1) R)
      { s with heap:=(s.heap.push PySem.W.emptyDict).push (PySem.W.instObj C s.heap.objs.size) }) :
    codeAny (model prog w) A (.call (.ref C) ⟨vs,kw⟩) R s:=by
  obtain ⟨hh,g,d,t,os⟩:=s
  exact PySem.W.make_core (PySem.W.makes_of X hm) (PySem.W.looks_findIn X hi) (fun self=>PySem.W.bind_fn X self hf) (.inl rfl) h
end
def a69 (f:Str) (v:V):List (Str×V)→List (Str×V)
  | []=>[(f,v)]
  | (g,x) :: r=>if g=f then (g,v) :: r else (g,x) :: a69 f v r
theorem ah4 (f g:Str) (v:V):∀ fs:List (Str×V),(a69 f v fs).lookup g=if g=f then some v else fs.lookup g
  | []=>by
    show List.lookup g [(f,v)]=_
    by_cases h:g=f
    · have hb:(g == f)=true:=beq_iff_eq.mpr h
      simp only [List.lookup,hb,if_pos h]
    · have hb:(g == f)=false:=beq_eq_false_iff_ne.mpr h
      simp only [List.lookup,hb,if_neg h]
  | (k,x) :: r=>by
    have ih:=ah4 f g v r
    rw [show a69 f v ((k,x) :: r)=(if k=f then (k,v) :: r else (k,x) :: a69 f v r) from rfl]
    by_cases hk:k=f
    · rw [if_pos hk]
      by_cases h:g=k
      · have hb:(g == k)=true:=beq_iff_eq.mpr h
        simp only [List.lookup,hb,if_pos (h.trans hk)]
      · have hb:(g == k)=false:=beq_eq_false_iff_ne.mpr h
        simp only [List.lookup,hb,if_neg (fun e:g=f=>h (e.trans hk.symm))]
    · rw [if_neg hk]
      by_cases h:g=k
      · have hb:(g == k)=true:=beq_iff_eq.mpr h
        simp only [List.lookup,hb,if_neg (fun e:g=f=>hk (h.symm.trans e))]
      · have hb:(g == k)=false:=beq_eq_false_iff_ne.mpr h
        simp only [List.lookup,hb]
        exact ih
theorem afL (f:Str) (v:V):∀ fs:List (Str×V),f∈(a69 f v fs).map (·.1)∧∀ g,g∈fs.map (·.1)→g∈(a69 f v fs).map (·.1)
  | []=>⟨by simp [a69],fun g h=>by simp at h⟩
  | (k,x) :: r=>by
    obtain ⟨i1,i2⟩:=afL f v r
    rw [show a69 f v ((k,x) :: r)=(if k=f then (k,v) :: r else (k,x) :: a69 f v r) from rfl]
    by_cases hk:k=f
    · rw [if_pos hk]
      subst hk
      exact ⟨by simp,fun g h=>by simpa using h⟩
    · rw [if_neg hk]
      refine ⟨?_,fun g h=>?_⟩
      · rw [List.map_cons]
        exact List.mem_cons_of_mem _ i1
      · rw [List.map_cons] at h ⊢
        rcases List.mem_cons.mp h with e | e
        · exact List.mem_cons.mpr (.inl e)
        · exact List.mem_cons_of_mem _ (i2 g e)
theorem ah5 (f:Str) (v:V):∀ fs:List (Str×V),(a69 f v fs).length≤fs.length+1
  | []=>by simp [a69]
  | (k,x) :: r=>by
    have ih:=ah5 f v r
    rw [show a69 f v ((k,x) :: r)=(if k=f then (k,v) :: r else (k,x) :: a69 f v r) from rfl]
    by_cases hk:k=f
    · rw [if_pos hk,List.length_cons,List.length_cons];omega
    · rw [if_neg hk,List.length_cons,List.length_cons];omega
theorem a65.some_of {v:V} {o:Option Value} (r:a65 (some v) o):∃ u,o=some u∧RelV v u:=by
  cases o with
  | none=>exact (show False from r).elim
  | some u=>exact ⟨u,rfl,r⟩
theorem a65.none_of {o:Option Value} (r:a65 none o):o=none:=by
  cases o with
  | none=>rfl
  | some u=>exact (show False from r).elim
theorem azE {v:V} {u:Value} (r:RelV v u):PySem.W.handedIn u=true:=by
  cases v with
  | non=>cases (show u=Value.none from r);rfl
  | bl b=>cases (show u=Value.bool b from r);rfl
  | int i=>obtain ⟨t,e⟩:=(show ∃ t,u=Value.int i t from r);cases e;rfl
  | str x=>obtain ⟨t,e⟩:=(show ∃ t,u=Value.str x t from r);cases e;rfl
  | byt b=>obtain ⟨t,e⟩:=(show ∃ t,u=Value.bytes b t from r);cases e;rfl
  | flt b=>obtain ⟨t,e⟩:=(show ∃ t,u=Value.float b t from r);cases e;rfl
  | ref a=>cases (show u=Value.ref a from r);rfl
  | ty n=>cases (show u=Value.type n from r);rfl
section
variable {P:Program} {w:World} {H H':Hp} {h h':Heap} {a C dx:Addr} {fs fs':List (Str×V)}
theorem aoS (hok:HOk P w H h) (e:H a=some (.ins C dx fs)):∃ mA,avE h a dx C mA∧(∀ f,a65 (fs.lookup f) (mA f))∧PySem.Within mA (fs.map (·.1))∧fs.length≤1000∧H dx=some (.own a):=by
  obtain ⟨d,z,ne,ob,mA,n,r,q⟩:=(show pW P w H h a (.ins C dx fs) from hok a _ e)
  exact ⟨mA,⟨ob,n,ne⟩,r,q,z,d⟩
end
structure Cls (K:PySem.W.Frag) (C:Addr):Prop where
  pg:PySem.W.plainGet K C Str.empty=true
  hd:PySem.W.hasDictIn K C=true
  po:PySem.W.plainOver K C=true
  sa:PySem.W.findIn K (.ref C) "__setattr__" = some (some (.builtin "object.__setattr__"))
theorem Cls.get {K:PySem.W.Frag} {C:Addr} (c:Cls K C) (f:Str):PySem.W.plainGet K C f=true:=c.pg
def wB (K:PySem.W.Frag) (C:Addr) (f:Str):Prop:=PySem.W.findIn K (.ref C) f=some none
theorem wB.taker {K:PySem.W.Frag} {C:Addr} {f:Str} (n:wB K C f):PySem.W.takerIn K C f=some none:=by
  unfold PySem.W.takerIn
  rw [show PySem.W.findIn K (.ref C) f=some none from n]
  rfl
structure Meth (K:PySem.W.Frag) (C:Addr) (m:Str) (f:Addr):Prop where
  at_:PySem.W.findIn K (.ref C) m=some (some (.ref f))
  fn:PySem.W.isFn K (.ref f)=true
  kp:PySem.W.keepIn K (.ref f)=true
section
variable {X:Cx} {pins:List (Addr×Obj)} {σ:St} {H:Hp} {s:Shared} {a C dx:Addr} {fs:List (Str×V)} {f:Str} {v:V} {A:Around} {E:Value→Shared→Prop}
theorem avF {b:Bool} {Q:Value→Shared→Prop} (I:Inv X pins σ H s) (e:H a=some (.ins C dx fs)) (c:Cls X.K C) (n:wB X.K C f) (l:fs.lookup f=some v)
    (h:∀ u s',Inv X pins σ H s'→RelV v u→Q u s'):wpAny (model X.prog X.w) A (getAttr (.ref a) f b) Q E s:=by
  obtain ⟨mA,O,r,_,_,_⟩:=aoS I.hok e
  obtain ⟨u,hu,ru⟩:=a65.some_of (v:=v) (o:=mA f) (by rw [← l];exact r f)
  exact get_map I.kIn O (c.get f) c.hd n hu (azE ru) (h u _ (I.tok _) ru)
theorem ajS {m:Str} {g:Addr} {pl:Sem Bool} {Q:Value×List Value→Shared→Prop} (I:Inv X pins σ H s) (e:H a=some (.ins C dx fs)) (c:Cls X.K C) (k:Meth X.K C m g) (l:fs.lookup m=none)
    (h:Q (.ref g,[.ref a]) s):wpAny (model X.prog X.w) A (getMethod (.ref a) m pl) Q E s:=by
  obtain ⟨mA,O,r,_,_,_⟩:=aoS I.hok e
  have hn:mA m=none:=a65.none_of (by rw [← l];exact r m)
  exact aBI I.kIn O (c.get m) k.at_ k.fn hn h
theorem avG {y:V} {u:Value} {Q:Unit→Shared→Prop} (I:Inv X pins σ H s) (e:H a=some (.ins C dx fs)) (c:Cls X.K C) (n:wB X.K C f) (hl:fs.length < 1000) (ry:RelV y u)
    (h:∀ s',Inv X pins σ (upd H a (.ins C dx (a69 f y fs))) s'→Q () s'):wpAny (model X.prog X.w) A (setAttr (.ref a) f u) Q E s:=by
  obtain ⟨mA,O,r,wi,_,ho⟩:=aoS I.hok e
  have hz:(fs.map (·.1)).length≤sizeLine:=by rw [List.length_map,sizeLine_eq];omega
  refine aFZ I.kIn O c.sa c.po n.taker c.hd wi hz fun h' O' sb=>h _ ?_
  have hd:∃ o,h'.get? dx=some o:=let ⟨o,_,_,e',_⟩:=O'.ns;⟨o,e'⟩
  refine I.write (x:=a) (e:=dx) (by rw [e];exact True.intro) (.inr ho) (fun b q hb z=>(sb.2 b hb).trans z) hd ?_
  refine ⟨by rw [eE O.ne];exact ho,?_,O.ne,O'.obj,_,O'.ns,fun g=>?_,fun g hg=>?_⟩
  · have:=ah5 f y fs;omega
  · show a65 ((a69 f y fs).lookup g) (if g=f then some u else mA g)
    rw [ah4]
    by_cases q:g=f
    · rw [if_pos q,if_pos q];exact ry
    · rw [if_neg q,if_neg q];exact r g
  · by_cases q:g=f
    · rw [q];exact (afL f y fs).1
    · refine (afL f y fs).2 g (wi g fun z=>hg ?_)
      show (if g=f then some u else mA g)=none
      rw [if_neg q];exact z
theorem Inv.made (I:Inv X pins σ H s):Inv X pins σ (upd (upd H s.heap.objs.size (.own (s.heap.objs.size+1))) (s.heap.objs.size+1) (.ins C s.heap.objs.size []))
    { s with heap:=(s.heap.push PySem.W.emptyDict).push (PySem.W.instObj C s.heap.objs.size) }:=by
  have e1:(s.heap.push PySem.W.emptyDict).get? s.heap.objs.size=some PySem.W.emptyDict:=Heap.get?_push_size s.heap rfl
  have e2:((s.heap.push PySem.W.emptyDict).push (PySem.W.instObj C s.heap.objs.size)).get? (s.heap.objs.size+1)=some (PySem.W.instObj C s.heap.objs.size):=by
    have:=Heap.get?_push_size (s.heap.push PySem.W.emptyDict) (o:=PySem.W.instObj C s.heap.objs.size) rfl
    rwa [Heap.size_push] at this
  have e3:(s.heap.push PySem.W.emptyDict).Ns s.heap.objs.size (fun _=>none):=⟨PySem.W.emptyDict,#[],_,e1,rfl,(fun e he=>absurd he (by simp)),fun _=>rfl⟩
  have I1:=I.laid (a:=s.heap.objs.size) (o := .own (s.heap.objs.size+1)) (h':=s.heap.push PySem.W.emptyDict) (t':=s.toks) (fun b u q=>Heap.get?_push_of_some _ q) (Nat.le_refl _) ⟨_,e1⟩
  refine I1.laid (a:=s.heap.objs.size+1) (o := .ins C s.heap.objs.size []) (t':=s.toks) (fun b u q=>Heap.get?_push_of_some _ q) (Nat.le_of_eq (Heap.size_push _ _)) ?_
  have ne:s.heap.objs.size≠s.heap.objs.size+1:=Nat.ne_of_lt (Nat.lt_succ_self _)
  refine ⟨by rw [eE ne,aU],Nat.zero_le _,ne,e2,fun _=>none,(Heap.Ns1.of_empty e3).at fun o q=>Heap.get?_push_of_some _ q,fun _=>True.intro,fun y hy=>absurd rfl hy⟩
theorem aG0 {prog:Program} {w:World} {env:Env} {e:Expr} {f:Str} {pos:Pos} {s:Shared} {Q:Value→Shared→Prop} (hb:attributeBase e f env (eval e env)=eval e env)
    (h:wpAny (model prog w) A (eval e env) (fun o s₁=>wpAny (model prog w) A (getAttr o f true) Q E s₁) E s):wpAny (model prog w) A (eval (.Attribute e f pos) env) Q E s :=
  Attribute_any_ h (by rw [arm_eval_Attribute,hb])
end
def aY6 (K:PySem.W.Frag) (ta:TE) (f:Str):TE:=fun σ H Q=>ta σ H fun x H1=>∃ a C dx fs v,x = .ref a∧H1 a=some (.ins C dx fs)∧Cls K C∧wB K C f∧fs.lookup f=some v∧Q v H1
def aY7 (K:PySem.W.Frag) (ta tv:TE) (f:Str):TS:=fun D σ H=>tv σ H fun y H1=>ta σ H1 fun x H2=>∃ a C dx fs,x = .ref a∧H2 a=some (.ins C dx fs)∧Cls K C∧wB K C f∧fs.length < 1000 ∧
  D.nx σ (upd H2 a (.ins C dx (a69 f y fs)))
section
variable {X:Cx} {o e value:Expr} {f:Str} {pos pos' tpos:Pos} {ta tv:TE}
theorem aN2 (he:PE X e ta) (hb:attributeBase e f X.env (eval e X.env)=eval e X.env):PE X (.Attribute e f pos) (aY6 X.K ta f):=by
  intro pins s σ H Q I h
  refine aG0 hb (jU (he pins s σ H _ I h) fun u s1 ⟨x,H1,I1,rx,a,C,dx,fs,v,ex,ea,c,n,l,q⟩=>?_)
  subst ex
  obtain rfl:u=Value.ref a:=rx
  exact avF I1 ea c n l fun u' s2 I2 ru=>⟨v,H1,I2,ru,q⟩
theorem aN3 (ha:PE X o ta) (hv:PE X value tv) (hs:swapsWith value (some (.Attribute o f pos')) pos.line X.env=pure false):PS X (.Assign [.Attribute o f pos'] value pos) (aY7 X.K ta tv f):=by
  intro pins s σ H D I h
  refine plainObj_wpAny_Assign_Attribute (jU (hv pins s σ H _ I h) fun u s1 ⟨y,H1,I1,ry,q⟩=>jU (ha pins s1 σ H1 _ I1 q) fun ov s2 ⟨x,H2,I2,rx,a,C,dx,fs,ex,ea,c,n,l,q2⟩=>?_) hs
  subst ex
  obtain rfl:ov=Value.ref a:=rx
  exact avG I2 ea c n l ry fun s3 I3=>⟨σ,_,I3,q2⟩
end
section
variable {X:Cx} {pins:List (Addr×Obj)} {σ:St} {H:Hp} {s:Shared} {A:Around} {E:Value→Shared→Prop} {Q:Value→Shared→Prop} {c:Value} {b:Bool}
end
end
section
structure pY (qt:Bool) (k:Nat) (A:Around):Prop where
  hd:qt=false→A.handled=none
  dp:A.depth+3 * k+5 < recursionLimit
  un:A.units+16 * k+200 < cLine
theorem pY.mono {j k:Nat} {A:Around} (r:pY qt k A) (h:j≤k):pY qt j A:=⟨r.hd,by have:=r.dp;omega,by have:=r.un;omega⟩
theorem pY.deeper {k:Nat} {A:Around} (r:pY qt (k+1) A) (env:Env):pY qt k (A.deeper env) :=
  ⟨r.hd,by have:=r.dp;show A.depth+1+3 * k+5 < _;omega,by have:=r.un;show A.units+3+16 * k+200 < _;omega⟩
theorem pY.in1 {k:Nat} {A:Around} (r:pY qt (k+1) A):pY qt k A.in1 :=
  ⟨r.hd,by have:=r.dp;show A.depth+3 * k+5 < _;omega,by have:=r.un;show A.units+1+16 * k+200 < _;omega⟩
theorem avH {A:Around} {C:Addr} {us:List Value} {kw:List (Str×Value)}:(A.under (.builtin "type.__call__" ⟨.ref C :: us,kw⟩)).depth=A.depth+1:=by
  first | rfl | simp [Around.under,Code.weight,Code.isCreation,Code.isGuard,Code.isCaller,Code.frames,Code.isFrame,guardIds]
theorem avI {A:Around} {C:Addr} {us:List Value} {kw:List (Str×Value)}:(A.under (.builtin "type.__call__" ⟨.ref C :: us,kw⟩)).units=A.units+1:=by
  first | rfl | simp [Around.under,Code.cUnits,Code.frames,Code.isFrame]
theorem pY.make {k:Nat} {A:Around} (r:pY qt (k+1) A) (C:Addr) (us:List Value) (kw:List (Str×Value)):pY qt k (A.under (.builtin "type.__call__" ⟨.ref C :: us,kw⟩)) :=
  ⟨r.hd,by have:=r.dp;rw [avH];omega,by have:=r.un;rw [avI];omega⟩
theorem pY.depth {k:Nat} {A:Around} (r:pY qt k A):A.depth < recursionLimit:=by have:=r.dp;omega
theorem pY.units {k:Nat} {A:Around} (r:pY qt k A):A.units+64 < cLine:=by have:=r.un;omega
def aY8:TA:=fun _ H Q=>Q [] H
def aT0 (ta:TE) (tr:TA):TA:=fun σ H Q=>ta σ H fun x H1=>tr σ H1 fun xs H2=>Q (x :: xs) H2
section
variable {X:Cx} {e:Expr} {es:List Expr} {te:TE} {t:TA} {pos:Pos}
theorem aN4:PA X [] aY8:=fun _ _ _ _ H Q I h=>Calls.spliced_nil ⟨[],H,I,.nil,h⟩
theorem aG1 (ha:PE X e te) (hr:PA X es t) (hs:starEach (e :: es) X.env=(false,eval e X.env) :: starEach es X.env:=by rfl):PA X (e :: es) (aT0 te t):=by
  intro pos pins s σ H Q I h
  rw [hs]
  show wpAny _ _ (spliced ((false,eval e X.env) :: backTo pos (starEach es X.env))) _ _ s
  refine Calls.spliced_cons (jU (ha pins s σ H _ I h) fun u s1 ⟨x,H1,I1,r1,q1⟩=>?_)
  exact jU (hr pos pins s1 σ H1 _ I1 q1) fun us s2 ⟨xs,H2,I2,r2,q2⟩=>⟨x :: xs,H2,I2,.cons r1 r2,q2⟩
def aY9 (t:TA):TE:=fun σ H Q=>t σ H fun xs H1=>xs.length≤sizeLine∧∀ p,H1 p=none→Q (.ref p) (upd H1 p (.tup xs))
def aYA (t:TA):TE:=fun σ H Q=>t σ H fun xs H1=>xs.length≤sizeLine∧∀ p,H1 p=none→Q (.ref p) (upd H1 p (.lst xs))
theorem aN5 {x1} (h:PA X es t):PE X (.Tuple es x1 pos) (aY9 t):=by
  intro pins s σ H Q I hq
  refine wpAny_Tuple_spliced (jU (h pos pins s σ H _ I hq) fun us s1 ⟨xs,H1,I1,r,z,q⟩=>⟨by rw [← r.length];exact z,?_⟩)
  have hf:H1 s1.heap.objs.size=none:=I1.hok.fresh (Nat.le_refl _)
  refine ⟨.ref s1.heap.objs.size,upd H1 s1.heap.objs.size (.tup xs),I1.laid (t':=s1.toks) (fun b u e=>Heap.get?_push_of_some _ e) (Nat.le_refl _) ?_,rfl,q _ hf⟩
  exact ⟨z,us,r,⟨_,Heap.get?_push_size _ rfl,rfl,_,rfl⟩⟩
theorem aN6 (h:PA X es t):PE X (.List es pos) (aYA t):=by
  intro pins s σ H Q I hq
  refine wpAny_List_spliced (jU (h pos pins s σ H _ I hq) fun us s1 ⟨xs,H1,I1,r,z,q⟩=>⟨by rw [← r.length];exact z,?_⟩)
  have hf:H1 s1.heap.objs.size=none:=I1.hok.fresh (Nat.le_refl _)
  refine ⟨.ref s1.heap.objs.size,upd H1 s1.heap.objs.size (.lst xs),I1.laid (t':=s1.toks) (fun b u e=>Heap.get?_push_of_some _ e) (Nat.le_refl _) ?_,rfl,q _ hf⟩
  exact ⟨z,us,0,r,Heap.get?_push_size _ rfl⟩
end
abbrev Sp:=List V→Hp→VK→XK→Prop
abbrev CXT:=List Env→Hp→Shared→XK→Value→Shared→Prop
structure amI (P:Program) (w:World) (K:PySem.W.Frag) (mg:Str→Option Value) (base:Heap) (A:Around) (outer:List Env) (s:Shared) (H:Hp):Prop where
  frames:A.frames=some outer
  mod:Mod K mg base
  bs:∀ b o,base.get? b=some o→s.heap.get? b=some o∧H b=none
  bsz:base.objs.size≤s.heap.objs.size
  a67:s.heap.FunFrames base outer
  frf:∀ b∈frs outer,H b=none
  hok:HOk P w H s.heap
  bare:AllBare s.gens
  hnd:Hnd A H
def CE (outer:List Env) (P:Program) (w:World) (H:Hp) (s:Shared) (Q:VK) (u:Value) (s':Shared):Prop :=
  ∃ v H',s'.os=s.os∧AllBare s'.gens∧Un (frs outer) [] H H' s.heap s'.heap∧HOk P w H' s'.heap∧RelV v u∧Q v H'
def CR (CX:CXT) (outer:List Env) (P:Program) (w:World) (H:Hp) (s:Shared) (Q:VK) (E:XK) (r:Result) (s':Shared):Prop :=
  match r with
  | .ok (.ret u)=>CE outer P w H s Q u s'
  | .ok _=>False
  | .error e=>CX outer H s E e s'
structure fC (qt:Bool) (P:Program) (w:World) (K:PySem.W.Frag) (mg:Str→Option Value) (base:Heap) (CX:CXT) (k:Nat) (f:Addr) (fd:FuncData) (ps:List Str) (sp:Sp):Prop where
  len:∀ vs H Q E,sp vs H Q E→vs.length=ps.length
  run:∀ (A:Around) (outer:List Env) (s:Shared) (H:Hp) (args:Args) (us:List Value) (vs:List V) (Q:VK) (E:XK),pY qt k A→amI P w K mg base A outer s H→BindsTo s fd args (ps.zip us)→Vals vs us→sp vs H Q E →
    codeAny (model P w) A (.call (.ref f) args) (CR CX outer P w H s Q E) s
theorem fC.mono {P:Program} {w:World} {K:PySem.W.Frag} {mg:Str→Option Value} {base:Heap} {CX:CXT} {j k:Nat} {f:Addr} {fd:FuncData} {ps:List Str} {sp:Sp} (F:fC qt P w K mg base CX j f fd ps sp) (h:j≤k) :
    fC qt P w K mg base CX k f fd ps sp:=⟨F.len,fun A outer s H args us vs Q E hr=>F.run A outer s H args us vs Q E (hr.mono h)⟩
theorem fC.imp {P:Program} {w:World} {K:PySem.W.Frag} {mg:Str→Option Value} {base:Heap} {CX:CXT} {k:Nat} {f:Addr} {fd:FuncData} {ps:List Str} {sp sp':Sp} (F:fC qt P w K mg base CX k f fd ps sp)
    (h:∀ vs H Q E,sp' vs H Q E→sp vs H Q E):fC qt P w K mg base CX k f fd ps sp' :=
  ⟨fun vs H Q E q=>F.len vs H Q E (h _ _ _ _ q),fun A outer s H args us vs Q E hr he hb hv hs=>F.run A outer s H args us vs Q E hr he hb hv (h _ _ _ _ hs)⟩
theorem amI.make {P:Program} {w:World} {K:PySem.W.Frag} {mg:Str→Option Value} {base:Heap} {A:Around} {outer:List Env} {s:Shared} {H:Hp} (e:amI P w K mg base A outer s H) (C:Addr) (us:List Value) (kw:List (Str×Value)) :
    amI P w K mg base (A.under (.builtin "type.__call__" ⟨.ref C :: us,kw⟩)) outer s H:=⟨by first | exact e.frames | (simpa [Around.under,Code.envs,Code.isFrame,pushEnvs] using e.frames),e.mod,e.bs,e.bsz,e.a67,e.frf,e.hok,e.bare,e.hnd⟩
theorem amI.in1 {P:Program} {w:World} {K:PySem.W.Frag} {mg:Str→Option Value} {base:Heap} {A:Around} {outer:List Env} {s:Shared} {H:Hp} (e:amI P w K mg base A outer s H) :
    amI P w K mg base A.in1 outer s H:=⟨e.frames,e.mod,e.bs,e.bsz,e.a67,e.frf,e.hok,e.bare,e.hnd⟩
section
variable {X:Cx} {pins:List (Addr×Obj)} {σ:St} {H:Hp} {s s':Shared}
theorem Inv.env0 (I:Inv X pins σ H s):amI X.prog X.w X.K X.mg X.base X.A X.stack s H :=
  ⟨I.ok.frames,I.ok.mod,I.bs,Nat.le_trans I.ok.bsz I.sz,I.stack,I.aoO,I.hok,I.bare,I.hnd⟩
theorem Inv.after {Q:VK} {u:Value} (I:Inv X pins σ H s) (h:CE X.stack X.prog X.w H s Q u s'):EP X pins σ Q u s':=by
  obtain ⟨v,H',os,bare,un,hok,r,q⟩:=h
  obtain ⟨hh,g,d,t,os'⟩:=s'
  obtain rfl:os'=s.os:=os
  exact ⟨v,H',I.call (h':=hh) (g':=g) (d':=d) (t':=t) (ch:=[]) un hok bare (fun b z=>absurd z (by simp)),r,q⟩
end
def Binds (K:PySem.W.Frag) (fd:FuncData) (ps:List Str) (ds:List Value):Prop :=
  ∀ (s:Shared) (us:List Value),K.In s.heap→(us++ds).length=ps.length→BindsTo s fd ⟨us,[]⟩ (ps.zip (us++ds))
theorem Binds.all {K:PySem.W.Frag} {fd:FuncData} {ps:List Str} (h:∀ us:List Value,us.length=ps.length→bindArgs fd ⟨us,[]⟩=pure (ps.zip us)):Binds K fd ps []:=fun s us _ hl=>by
  rw [List.append_nil] at hl ⊢
  exact .of_eq (h us hl)
section
variable {X:Cx} {CX:CXT} {k:Nat} {f C:Addr} {fd:FuncData} {ps:List Str} {sp:Sp} {dvs:List V} {ds:List Value} {E:XK} {x m:Str} {p pos apos:Pos} {e o:Expr} {es:List Expr} {ta:TE} {t:TA}
structure Mk (K:PySem.W.Frag) (C f:Addr):Prop where
  makes:PySem.W.makesIn K C=true
  init:PySem.W.findIn K (.ref C) "__init__" = some (some (.ref f))
  fn:PySem.W.isFn K (.ref f)=true
  kp:PySem.W.keepIn K (.ref C)=true
end
section
variable {X:Cx} {CX:CXT} {k:Nat} {f C:Addr} {fd:FuncData} {ps ks:List Str} {sp:Sp} {E:XK} {x m:Str} {p pos apos kpos:Pos} {e o:Expr} {es:List Expr} {kws:List Keyword} {te ta:TE} {t tk:TA} {nm:Option Str}
variable {g:List Value→List Value→List Value} {gV:List V→List V→List V}
end
structure bQ (N P:List Str) (sc:Scope):Prop where
  kind:sc.kind = .function
  co:sc.isCoroutine=false
  gen:sc.isGenerator=false
  nd:N.Nodup
  pre:N.take P.length=P
  par:∀ x∈P,sc.names.lookup x=some .local∨sc.names.lookup x=some .cell
  aN7:∀ y∈sc.names,y.2 ≠ .free
theorem anB {kindOf:Str→Option NameKind} {x:Str}:∀ {binds:List (Str×Value)} {m:Str→Option Value},(∀ v,(x,v) ∉ binds)→bindL kindOf binds m x=m x
  | [],_,_=>rfl
  | (n,v) :: r,m,h=>by
    unfold bindL
    rw [anB fun w hw=>h w (List.mem_cons_of_mem _ hw)]
    split
    · have:x≠n:=by rintro rfl;exact h v List.mem_cons_self
      simp [this]
    · rfl
theorem anC {kindOf:Str→Option NameKind} {x:Str}:∀ {binds:List (Str×Value)} {m:Str→Option Value},(∀ v,(x,v) ∉ binds)→bindC kindOf binds m x=m x
  | [],_,_=>rfl
  | (n,v) :: r,m,h=>by
    unfold bindC
    rw [anC fun w hw=>h w (List.mem_cons_of_mem _ hw)]
    split
    · rfl
    · have:x≠n:=by rintro rfl;exact h v List.mem_cons_self
      simp [this]
theorem anD {kindOf:Str→Option NameKind} {x:Str} {v:Value}:∀ {P:List Str} {vs:List Value} {i:Nat} {m:Str→Option Value},P.Nodup→P[i]?=some x→vs[i]?=some v→kindOf x=some .local →
    bindL kindOf (P.zip vs) m x=some v
  | [],_,_,_,_,h,_,_=>by simp at h
  | _ :: _,[],_,_,_,_,h,_=>by simp at h
  | p :: P,w :: vs,0,m,nd,h1,h2,hk=>by
    simp at h1 h2;subst h1;subst h2
    show bindL kindOf ((p,w) :: P.zip vs) m p=_
    unfold bindL
    rw [anB fun v hv=>(List.nodup_cons.mp nd).1 (List.of_mem_zip hv).1,if_pos hk]
    simp
  | p :: P,w :: vs,i+1,m,nd,h1,h2,hk=>by
    show bindL kindOf ((p,w) :: P.zip vs) m x=_
    unfold bindL
    exact anD (i:=i) (List.nodup_cons.mp nd).2 (by simpa using h1) (by simpa using h2) hk
theorem anE {kindOf:Str→Option NameKind} {x:Str} {v:Value}:∀ {P:List Str} {vs:List Value} {i:Nat} {m:Str→Option Value},P.Nodup→P[i]?=some x→vs[i]?=some v→kindOf x≠some .local →
    bindC kindOf (P.zip vs) m x=some v
  | [],_,_,_,_,h,_,_=>by simp at h
  | _ :: _,[],_,_,_,_,h,_=>by simp at h
  | p :: P,w :: vs,0,m,nd,h1,h2,hk=>by
    simp at h1 h2;subst h1;subst h2
    show bindC kindOf ((p,w) :: P.zip vs) m p=_
    unfold bindC
    rw [anC fun v hv=>(List.nodup_cons.mp nd).1 (List.of_mem_zip hv).1,if_neg hk]
    simp
  | p :: P,w :: vs,i+1,m,nd,h1,h2,hk=>by
    show bindC kindOf ((p,w) :: P.zip vs) m x=_
    unfold bindC
    exact anE (i:=i) (List.nodup_cons.mp nd).2 (by simpa using h1) (by simpa using h2) hk
def start (N:List Str) (vs:List V):St:=vs.map some++List.replicate (N.length - vs.length) none
def a2F (qt:Bool) (CX:CXT) (P:Program) (w:World) (K:PySem.W.Frag) (mg:Str→Option Value) (base:Heap) (N:List Str) (qual:Str) (scope:Scope) (f:Addr) (cd:Value) (A:Around) (outer:List Env) (s:Shared) (H:Hp) (E:XK):Cx where
  prog:=P
  w:=w
  K:=K
  mg:=mg
  base:=base
  A:=A.deeper (envOfC qual scope s.heap.objs.size f cd)
  N:=N
  s₀:=s
  H₀:=H
  env:=envOfC qual scope s.heap.objs.size f cd
  outer:=outer
  stack:=envOfC qual scope s.heap.objs.size f cd :: outer
  ex:=[]
  calm:=!qt
  fn:=fun _=>true
  pn:=[]
  tp:=[]
  xe:=fun e s'=>wpAny (model P w) (A.deeper (envOfC qual scope s.heap.objs.size f cd)) (leaving (envOfC qual scope s.heap.objs.size f cd) e) (fun _ s''=>CX outer H s E e s'') (fun e' s''=>CX outer H s E e' s'') s'
theorem arM {sc:Scope} {n:Nat} {x:Str} (h:sc.names.lookup x=some .cell):∃ c,(cellsFrom n sc.names []).lookup x=some c:=by
  have q:=PySem.W.cellsFrom_some sc.names n [] (.inl h)
  exact Option.isSome_iff_exists.mp q
theorem azF {CX:CXT} {P:Program} {w:World} {K:PySem.W.Frag} {mg:Str→Option Value} {base:Heap} {N ps:List Str} {qual:Str} {scope:Scope} {f:Addr} {cd:Value} {A:Around} {outer:List Env} {s s1:Shared} {H:Hp} {E:XK} {us:List Value} {vs:List V}
    (S:bQ N ps scope) (hd:qt=false→A.handled=none) (e0:amI P w K mg base A outer s H) (hl:vs.length=ps.length) (r:Vals vs us)
    (x:InCallC s s.heap.objs.size (bindL (envOfC qual scope s.heap.objs.size f cd).kindOf (ps.zip us) fun _=>none) (cellsFrom (s.heap.objs.size+1) scope.names []) (bindC (envOfC qual scope s.heap.objs.size f cd).kindOf (ps.zip us) fun _=>none) s1) :
    Inv (a2F qt CX P w K mg base N qual scope f cd A outer s H E) [] (start N vs) H s1:=by
  have hpl:ps.length≤N.length:=by have:=congrArg List.length S.pre;rw [List.length_take] at this;omega
  obtain ⟨h1,tk,rfl,hk⟩:=x.done
  have noA:∀ b:Addr,b ∉ (a2F qt CX P w K mg base N qual scope f cd A outer s H E).ex:=fun b z=>absurd (show b∈([]:List Addr) from z) (by simp)
  refine ⟨⟨e0.mod,S.kind,rfl,rfl,Nat.le_refl _,fun y z c h1 h2=>?_,fun y hy=>?_,fun y c _ h=>?_,fun z=>hd (by cases qt with | false=>rfl | true=>cases z),Around.frames_deeper e0.frames,.inr ⟨rfl,rfl⟩,fun b z=>absurd z (noA b),e0.bs,e0.bsz,fun b _ _=>noA b,fun b z=>absurd z (noA b),e0.a67,e0.frf⟩,
    rfl,e0.bare,Un.kept hk,⟨_,x.toInCall.ns,fun i y v h1 h2 h3=>?_⟩,fun y c h=>⟨_,x.cell y c h⟩,e0.hok.fresh (Nat.le_refl _),fun y c h=>?_,fun p hp=>absurd (show p∈([]:List (Addr×Obj)) from hp) (by simp),e0.hok.kept hk,?_,e0.hnd,fun p hp=>absurd (show p∈([]:List (Addr×List V)) from hp) (by simp)⟩
  · exact name_of_addr x.apart (PySem.mem_of_lookup h1) (PySem.mem_of_lookup h2)
  · have hy:scope.names.lookup y=some .cell∨scope.names.lookup y=some .free:=hy
    rcases hy with hy | hy
    · exact arM hy
    · exact absurd rfl (S.aN7 _ (PySem.mem_of_lookup hy))
  · exact Nat.le_of_lt (x.above y c (PySem.mem_of_lookup h))
  · have hi:i < vs.length:=by
      unfold start at h2
      by_cases hi:i < vs.length
      · exact hi
      · rw [List.getElem?_append_right (by simpa using hi)] at h2
        rw [List.getElem?_replicate] at h2
        split at h2 <;> cases h2
    have ha:vs[i]?=some v:=by
      unfold start at h2
      rw [List.getElem?_append_left (by simpa using hi),List.getElem?_map] at h2
      cases e:vs[i]? with
      | none=>rw [e] at h2;cases h2
      | some a=>rw [e] at h2;cases h2;rfl
    obtain ⟨u,hu,rv⟩:=r.get ha
    have hp:ps[i]?=some y:=by
      rw [← S.pre,List.getElem?_take_of_lt (by omega)];exact h1
    have ndP:ps.Nodup:=by rw [← S.pre];exact S.nd.sublist (List.take_sublist _ _)
    refine ⟨u,rv,?_⟩
    rcases S.par y (List.mem_of_getElem? hp) with k | k
    · exact .inl ⟨k,anD ndP hp hu k⟩
    · obtain ⟨c,e⟩:=arM (n:=s.heap.objs.size+1) k
      refine .inr ⟨.inl k,c,e,?_⟩
      have q:=x.cell y c e
      rw [anE ndP hp hu (by show scope.names.lookup y≠_;rw [k];decide)] at q
      exact q
  · exact e0.hok.fresh (Nat.le_of_lt (x.above y c (PySem.mem_of_lookup h)))
  · unfold start
    show _=N.length
    rw [List.length_append,List.length_map,List.length_replicate]
    omega
theorem aKW {CX:CXT} {P:Program} {w:World} {K:PySem.W.Frag} {mg:Str→Option Value} {base:Heap} {k:Nat} {f:Addr} {name qual:Str} {params:Arguments} {body:List Stmt} {scope:Scope} {dV kV doc pm cdv ct oc:Value} {an od:Option Addr}
    {osl:Array (Option Value)} {N ps:List Str} {sp:Sp} (lk:K.lookup f=some ⟨oc,od,.func (PySem.W.fnOf name qual params body scope dV kV doc pm an cdv ct),osl⟩) (hcd:PySem.W.codeIn K cdv qual=true) (S:bQ N ps scope)
    (len:∀ vs H Q E,sp vs H Q E→vs.length=ps.length)
    (hbody:∀ (A:Around) (outer:List Env) (s:Shared) (H:Hp) (vs:List V) (Q:VK) (E:XK),pY qt k (A.deeper (envOfC qual scope s.heap.objs.size f cdv))→sp vs H Q E →
      ∃ t,PSs (a2F qt CX P w K mg base N qual scope f cdv A outer s H E) body t∧t { nx:=fun _ H'=>Q .non H',rt:=Q } (start N vs) H) :
    fC qt P w K mg base CX (k+1) f (PySem.W.fnOf name qual params body scope dV kV doc pm an cdv ct) ps sp:=by
  refine ⟨len,fun A outer s H args us vs Q E hr e0 hb r hsp=>?_⟩
  have hl:=len _ _ _ _ hsp
  have KX:K.In s.heap:=e0.mod.kin.keeps fun b o e=>(e0.bs b o e).1
  have lim:s.heap.NoLimit:=e0.mod.nolimit.keeps fun b o e=>(e0.bs b o e).1
  have hkind:∀ y∈ps.zip us,scope.names.lookup y.1=some .local∨(scope.names.lookup y.1=some .cell∧((cellsFrom (s.heap.objs.size+1) scope.names []).lookup y.1).isSome=true):=fun ⟨n,v⟩ hy=>by
    rcases S.par n (List.of_mem_zip hy).1 with q | q
    · exact .inl q
    · exact .inr ⟨q,PySem.W.cellsFrom_some _ _ _ (.inl q)⟩
  refine codeAny_call_function hr.depth (KX _ _ lk) rfl S.co S.gen rfl (PySem.W.codeRec_of KX hcd) (hb _ _ _ _ ?_)
  refine wpAny_newFunctionEnv_cells S.kind hkind fun env he s1 x=>?_
  subst he
  refine ⟨lim.keeps x.toInCall.keep,codeAny_func ?_⟩
  obtain ⟨t,ht,hq⟩:=hbody A outer s H vs Q E (hr.deeper _) hsp
  have I:Inv (a2F qt CX P w K mg base N qual scope f cdv A outer s H E) [] (start N vs) H s1:=azF S hr.hd e0 hl r x
  refine wpAny_mono (ht [] s1 (start N vs) H _ I hq) (fun fl s' hs=>?_) fun e s' hs=>hs
  have fin:∀ {σ':St} {H':Hp} {v:V} {u:Value},Inv (a2F qt CX P w K mg base N qual scope f cdv A outer s H E) [] σ' H' s'→RelV v u→Q v H'→CE outer P w H s Q u s' :=
    fun {σ' H' v u} J rv q=>⟨v,H',J.os,J.bare,J.base,J.hok,rv,q⟩
  cases fl with
  | ret u =>
    obtain ⟨v,σ',H',J,rv,q⟩:=hs
    exact fin J rv q
  | next =>
    obtain ⟨σ',H',J,q⟩:=hs
    exact fin (v:=V.non) (u:=Value.none) J rfl q
  | brk =>
    obtain ⟨_,_,_,q⟩:=hs
    exact False.elim q
  | cont =>
    obtain ⟨_,_,_,q⟩:=hs
    exact False.elim q
end
section
section
variable {X:Cx} {x:Str} {p pos:Pos} {e:Expr} {es:List Expr} {t:TA} {id T:String} {r:List V→Hp→VK→Prop}
end
end
section
section
variable {κ:Type} [DecidableEq κ]
def a8K (kvs:List (κ×V)) (k:κ):Option V:=(kvs.find? fun kv=>decide (kv.1=k)).map (·.2)
def putK (kvs:List (κ×V)) (k:κ) (v:V):List (κ×V) :=
  if (kvs.any fun kv=>decide (kv.1=k))=true then kvs.map (fun kv=>if kv.1=k then (kv.1,v) else kv) else kvs++[(k,v)]
def a7P (kvs:List (κ×V)) (k:κ):List (κ×V):=kvs.filter fun kv=>decide (kv.1≠k)
theorem a8R {p:κ×V} {r:List (κ×V)} {k:κ} (e:p.1=k):a8K (p :: r) k=some p.2:=by simp [a8K,List.find?_cons,e]
theorem a8S {p:κ×V} {r:List (κ×V)} {k:κ} (e:¬ p.1=k):a8K (p :: r) k=a8K r k:=by simp [a8K,List.find?_cons,e]
theorem ajT (k:κ):∀ kvs:List (κ×V),(kvs.any fun kv=>decide (kv.1=k))=(a8K kvs k).isSome
  | []=>rfl
  | p :: r=>by
    rw [List.any_cons]
    by_cases e:p.1=k
    · simp only [a8R e,decide_eq_true e,Bool.true_or,Option.isSome_some]
    · rw [a8S e,decide_eq_false e,Bool.false_or];exact ajT k r
theorem yC (kvs:List (κ×V)) (k:κ) (v:V):(putK kvs k v).length≤kvs.length+1:=by
  unfold putK
  split
  · rw [List.length_map];omega
  · rw [List.length_append,List.length_cons,List.length_nil];omega
theorem a65.a0H {o:Option V} {u:Option Value} (r:a65 o u):o.isSome=u.isSome:=by
  cases o with
  | none=>cases u with
    | none=>rfl
    | some _=>exact (show False from r).elim
  | some _=>cases u with
    | none=>exact (show False from r).elim
    | some _=>rfl
theorem a65.getD {o:Option V} {u:Option Value} {d:V} {d':Value} (r:a65 o u) (rd:RelV d d'):RelV (o.getD d) (u.getD d'):=by
  cases o with
  | none=>cases u with
    | none=>exact rd
    | some _=>exact (show False from r).elim
  | some _=>cases u with
    | none=>exact (show False from r).elim
    | some _=>exact r
theorem KV.val {kvs:List (κ×V)} {vs:List (κ×Value)} (r:KV kvs vs) (k:κ):a65 (a8K kvs k) (valueAt vs k):=by
  unfold KV at r
  induction r with
  | nil=>exact True.intro
  | @cons p q ps qs h t ih =>
    obtain ⟨h1,h2⟩:=h
    by_cases e:p.1=k
    · have e':q.1=k:=h1.symm.trans e
      have b:valueAt (q :: qs) k=some q.2:=by simp [valueAt,List.find?_cons,e']
      rw [a8R e,b];exact h2
    · have e':¬ q.1=k:=fun z=>e (h1.trans z)
      have b:valueAt (q :: qs) k=valueAt qs k:=by simp [valueAt,List.find?_cons,e']
      rw [a8S e,b];exact ih
theorem KV.any {kvs:List (κ×V)} {vs:List (κ×Value)} (r:KV kvs vs) (k:κ):(kvs.any fun kv=>decide (kv.1=k))=vs.any fun kv=>decide (kv.1=k):=by
  unfold KV at r
  induction r with
  | nil=>rfl
  | cons h t ih=>rw [List.any_cons,List.any_cons,ih,h.1]
theorem KV.repl {kvs:List (κ×V)} {vs:List (κ×Value)} (r:KV kvs vs) (k:κ) {y:V} {u:Value} (ry:RelV y u) :
    KV (kvs.map fun kv=>if kv.1=k then (kv.1,y) else kv) (vs.map fun kv=>if kv.1=k then (kv.1,u) else kv):=by
  unfold KV at r ⊢
  induction r with
  | nil=>exact .nil
  | @cons p q ps qs h t ih =>
    rw [List.map_cons,List.map_cons]
    refine .cons ?_ ih
    obtain ⟨h1,h2⟩:=h
    by_cases e:p.1=k
    · rw [if_pos e,if_pos (h1.symm.trans e)];exact ⟨h1,ry⟩
    · rw [if_neg e,if_neg (fun z=>e (h1.trans z))];exact ⟨h1,h2⟩
theorem KV.put {kvs:List (κ×V)} {vs:List (κ×Value)} (r:KV kvs vs) (k:κ) {y:V} {u:Value} (ry:RelV y u):KV (putK kvs k y) (stored vs k u):=by
  unfold putK stored
  rw [r.any k]
  by_cases e:(vs.any fun kv=>decide (kv.1=k))=true
  · rw [if_pos e,if_pos e];exact r.repl k ry
  · rw [if_neg e,if_neg e];exact Paired.snoc r ⟨rfl,ry⟩
theorem KV.drop {kvs:List (κ×V)} {vs:List (κ×Value)} (r:KV kvs vs) (k:κ):KV (a7P kvs k) (without vs k):=by
  unfold KV at r ⊢
  unfold a7P without
  induction r with
  | nil=>exact .nil
  | @cons p q ps qs h t ih =>
    obtain ⟨h1,h2⟩:=h
    rw [List.filter_cons,List.filter_cons]
    by_cases e:p.1=k
    · have a:¬ decide (p.1≠k)=true:=by simp [e]
      have b:¬ decide (q.1≠k)=true:=by simp [h1.symm.trans e]
      rw [if_neg a,if_neg b];exact ih
    · have e':¬ q.1=k:=fun z=>e (h1.trans z)
      have a:decide (p.1≠k)=true:=by simp [e]
      have b:decide (q.1≠k)=true:=by simp [e']
      rw [if_pos a,if_pos b];exact .cons ⟨h1,h2⟩ ih
theorem KV.keys {kvs:List (κ×V)} {vs:List (κ×Value)} (r:KV kvs vs):kvs.map (·.1)=vs.map (·.1):=by
  unfold KV at r
  induction r with
  | nil=>rfl
  | cons h t ih=>rw [List.map_cons,List.map_cons,ih,h.1]
theorem KV.length {kvs:List (κ×V)} {vs:List (κ×Value)} (r:KV kvs vs):kvs.length=vs.length:=Paired.length r
theorem ajU (kvs:List (κ×V)) (k:κ):(a7P kvs k).length≤kvs.length:=List.length_filter_le _ _
end
theorem abK {P:Program} {w:World} {k:Key} {u:Value} (r:RelV (kV k) u):(bH P w).is k u=true:=by
  cases k with
  | inl i=>obtain ⟨t,e⟩:=(show ∃ t,u=Value.int i t from r);subst e;exact arH P w i t
  | inr x=>obtain ⟨t,e⟩:=(show ∃ t,u=Value.str x t from r);subst e;exact arI P w x t
theorem anF {P:Program} {w:World}:∀ {ks:List Key} {us:List Value},Vals (ks.map kV) us→ItemsAre (bH P w) ks us
  | [],_,r=>by rw [List.map_nil] at r;cases r;exact .nil
  | k :: ks,_,r=>by
    rw [List.map_cons] at r
    cases r with
    | cons h t=>exact .cons (abK h) (anF t)
abbrev KT (H:Hp):List (List Key×V)→List (List Key×Addr×Value)→Prop:=Paired fun p q=>p.1=q.1∧H q.2.1=some (.tup (p.1.map kV))∧RelV p.2 q.2.2
theorem KT.val {H:Hp} {kvs:List (List Key×V)} {xs:List (List Key×Addr×Value)} (r:KT H kvs xs) (k:List Key):a65 (a8K kvs k) ((atKey xs k).map (·.2)):=by
  induction r with
  | nil=>exact True.intro
  | @cons p q ps qs h t ih =>
    obtain ⟨h1,_,h2⟩:=h
    by_cases e:p.1=k
    · have e':q.1=k:=h1.symm.trans e
      have b:atKey (q :: qs) k=some q.2:=by simp [atKey,List.find?_cons,e']
      rw [a8R e,b];exact h2
    · have e':¬ q.1=k:=fun z=>e (h1.trans z)
      have b:atKey (q :: qs) k=atKey qs k:=by simp [atKey,List.find?_cons,e']
      rw [a8S e,b];exact ih
theorem KT.repl {H:Hp} {kvs:List (List Key×V)} {xs:List (List Key×Addr×Value)} (r:KT H kvs xs) (k:List Key) {y:V} {u:Value} (ry:RelV y u) :
    KT H (kvs.map fun kv=>if kv.1=k then (kv.1,y) else kv) (xs.map (putAt k u)):=by
  induction r with
  | nil=>exact .nil
  | @cons p q ps qs h t ih =>
    rw [List.map_cons,List.map_cons]
    refine .cons ?_ ih
    obtain ⟨h1,h2,h3⟩:=h
    unfold putAt
    by_cases e:p.1=k
    · rw [if_pos e,if_pos (h1.symm.trans e)];exact ⟨h1,h2,ry⟩
    · rw [if_neg e,if_neg (fun z=>e (h1.trans z))];exact ⟨h1,h2,h3⟩
theorem KT.put {H:Hp} {kvs:List (List Key×V)} {xs:List (List Key×Addr×Value)} (r:KT H kvs xs) (k:List Key) {b:Addr} {y:V} {u:Value} (hb:H b=some (.tup (k.map kV))) (ry:RelV y u) :
    KT H (putK kvs k y) (storedH xs k b u):=by
  have e:(kvs.any fun kv=>decide (kv.1=k))=(atKey xs k).isSome:=by
    rw [ajT,(r.val k).a0H,Option.isSome_map]
  unfold putK storedH
  rw [e]
  by_cases q:(atKey xs k).isSome=true
  · rw [if_pos q,if_pos q];exact r.repl k ry
  · rw [if_neg q,if_neg q];exact Paired.snoc r ⟨rfl,hb,ry⟩
theorem KT.keeps {H H':Hp} {kvs:List (List Key×V)} {xs:List (List Key×Addr×Value)} (r:KT H kvs xs) (ht:∀ b ys,H b=some (.tup ys)→H' b=some (.tup ys)):KT H' kvs xs :=
  Paired.aM8 r fun _ _ z=>⟨z.1,ht _ _ z.2.1,z.2.2⟩
section
variable {P:Program} {w:World} {H:Hp} {h:Heap} {a:Addr}
theorem aKX {u:HO} (ok:HOk P w H h) (e:Rd H a u):pW P w H h a u:=e.ok ok
theorem ah6 {kvs:List (Key×V)} (ok:HOk P w H h) (e:Rd H a (.dK kvs)):kvs.length≤sizeLine∧(a == sysModules)=false∧∃ vs,KV kvs vs∧h.DictOf (bH P w) a vs :=
  show pW P w H h a (.dK kvs) from aKX ok e
theorem ah7 {kvs:List (Key×V)} (ok:HOk P w H h) (e:H a=some (.dK kvs)):kvs.length≤sizeLine∧(a == sysModules)=false∧∃ vs,KV kvs vs∧h.DictOf (bH P w) a vs:=ah6 ok (.inl e)
theorem a6A {ks:List Key} (ok:HOk P w H h) (e:H a=some (.tup (ks.map kV))):(tupleKind (bH P w)).is h ks a:=by
  obtain ⟨_,its,r,o,h1,h2,n,h3⟩:=(show pW P w H h a (.tup (ks.map kV)) from ok a _ e)
  exact ⟨o,its.toArray,n,h1,h2,h3,by simpa using anF r⟩
theorem ajV {kvs:List (List Key×V)} (ok:HOk P w H h) (e:Rd H a (.dT kvs)):kvs.length≤sizeLine∧(a == sysModules)=false ∧
    ∃ xs,KT H kvs xs∧h.DictOfH (tupleKind (bH P w)) a xs:=by
  obtain ⟨z,y,xs,r,o,es,ep,h1,h2,h3,h4,h5⟩:=(show pW P w H h a (.dT kvs) from aKX ok e)
  refine ⟨z,y,xs,r,o,es,ep,h1,h2,h3,h4,fun x hx=>?_,h5⟩
  have all:∀ {l:List (List Key×V)} {m:List (List Key×Addr×Value)},KT H l m→∀ x∈m,(tupleKind (bH P w)).is h x.1 x.2.1:=by
    intro l m q
    induction q with
    | nil=>intro x hx;exact nomatch hx
    | @cons p q ps qs hq t ih =>
      intro x hx
      rcases List.mem_cons.mp hx with e | hx
      · subst e
        exact a6A ok (by rw [← hq.1];exact hq.2.1)
      · exact ih x hx
  exact all r x hx
theorem anG {kvs:List (List Key×V)} (ok:HOk P w H h) (e:H a=some (.dT kvs)):kvs.length≤sizeLine∧(a == sysModules)=false ∧
    ∃ xs,KT H kvs xs∧h.DictOfH (tupleKind (bH P w)) a xs:=ajV ok (.inl e)
end
def adG (H:Hp) (a:Addr) (y:V) (r:Option V):Prop :=
  (∃ kvs k,Rd H a (.dK kvs)∧y=kV k∧r=a8K kvs k)∨∃ kvs k b,Rd H a (.dT kvs)∧y = .ref b∧H b=some (.tup (k.map kV))∧r=a8K kvs k
def arN (H:Hp) (a:Addr) (y v:V) (H':Hp):Prop :=
  (∃ kvs k,H a=some (.dK kvs)∧y=kV k∧kvs.length < sizeLine∧H'=upd H a (.dK (putK kvs k v))) ∨
  ∃ kvs k b,H a=some (.dT kvs)∧y = .ref b∧H b=some (.tup (k.map kV))∧kvs.length < sizeLine∧H'=upd H a (.dT (putK kvs k v))
theorem adG.k {H:Hp} {a:Addr} {kvs:List (Key×V)} {k:Key} (e:H a=some (.dK kvs)):adG H a (kV k) (a8K kvs k) := .inl ⟨kvs,k,.inl e,rfl,rfl⟩
theorem adG.t {H:Hp} {a b:Addr} {kvs:List (List Key×V)} {k:List Key} (e:H a=some (.dT kvs)) (eb:H b=some (.tup (k.map kV))):adG H a (.ref b) (a8K kvs k) := .inr ⟨kvs,k,b,.inl e,rfl,eb,rfl⟩
theorem arN.k {H:Hp} {a:Addr} {kvs:List (Key×V)} {k:Key} {v:V} (e:H a=some (.dK kvs)) (hl:kvs.length < sizeLine):arN H a (kV k) v (upd H a (.dK (putK kvs k v))) := .inl ⟨kvs,k,e,rfl,hl,rfl⟩
theorem arN.t {H:Hp} {a b:Addr} {kvs:List (List Key×V)} {k:List Key} {v:V} (e:H a=some (.dT kvs)) (eb:H b=some (.tup (k.map kV))) (hl:kvs.length < sizeLine) :
    arN H a (.ref b) v (upd H a (.dT (putK kvs k v))) := .inr ⟨kvs,k,b,e,rfl,eb,hl,rfl⟩
section
variable {X:Cx} {pins:List (Addr×Obj)} {σ:St} {H:Hp} {s:Shared} {a:Addr} {y v:V} {u r:Value} {o:Option V} {A:Around} {E:Value→Shared→Prop}
theorem Inv.big (I:Inv X pins σ H s):sysModules < s.heap.objs.size:=by
  have h:mainGlobals < s.heap.objs.size:=(I.mod.glob.keeps I.bk).lt
  exact Nat.lt_trans (by decide) h
theorem azG {Q:Value→Shared→Prop} (hu:A.units+1 < cLine) (I:Inv X pins σ H s) (g:adG H a y (some v)) (ry:RelV y u) (h:∀ w' s',Inv X pins σ H s'→RelV v w'→Q w' s') :
    wpAny (model X.prog X.w) A (getItem (.ref a) u) Q E s:=by
  rcases g with ⟨kvs,k,e,ey,l⟩ | ⟨kvs,k,b,e,ey,eb,l⟩
  · subst ey
    obtain ⟨z,hd,vs,rel,dd⟩:=ah6 I.hok e
    obtain ⟨w',hw,rw'⟩:=a65.some_of (v:=v) (o:=valueAt vs k) (by rw [l];exact rel.val k)
    exact wpAny_getItem_of (abK ry) dd.mapOf hw (h w' _ (I.tok _) rw')
  · subst ey
    cases (show u=Value.ref b from ry)
    obtain ⟨z,hd,xs,rel,dd⟩:=ajV I.hok e
    obtain ⟨w',hw,rw'⟩:=a65.some_of (v:=v) (o:=(atKey xs k).map (·.2)) (by rw [l];exact rel.val k)
    obtain ⟨p,hp,hp2⟩:=Option.map_eq_some_iff.mp hw
    refine wpAny_getItem_heap (tupleKind_room_in1 hu) (a6A I.hok eb) dd hp ?_
    rw [hp2]
    exact h w' _ (I.tok _) rw'
theorem aYB {Q:Value→Shared→Prop} (hu:A.units+1 < cLine) (I:Inv X pins σ H s) (g:adG H a y o) (ry:RelV y u) (h:∀ s',Inv X pins σ H s'→Q (.bool o.isSome) s') :
    wpAny (model X.prog X.w) A (compareOp .In u (.ref a)) Q E s:=by
  rcases g with ⟨kvs,k,e,ey,l⟩ | ⟨kvs,k,b,e,ey,eb,l⟩
  · subst ey
    obtain ⟨z,hd,vs,rel,dd⟩:=ah6 I.hok e
    refine wpAny_in_of (abK ry) hd dd.mapOf ?_
    rw [← (rel.val k).a0H,← l]
    exact h _ (I.tok _)
  · subst ey
    cases (show u=Value.ref b from ry)
    obtain ⟨z,hd,xs,rel,dd⟩:=ajV I.hok e
    refine wpAny_in_heap (tupleKind_room_in1 hu) (a6A I.hok eb) hd dd ?_
    have q:=(rel.val k).a0H
    rw [Option.isSome_map] at q
    rw [← q,← l]
    exact h _ (I.tok _)
theorem aG2 {Q:Value→Shared→Prop} (hu:A.units+1 < cLine) (I:Inv X pins σ H s) (g:adG H a y o) (ry:RelV y u) (h:∀ s',Inv X pins σ H s'→Q (.bool (!o.isSome)) s') :
    wpAny (model X.prog X.w) A (compareOp .NotIn u (.ref a)) Q E s:=by
  rcases g with ⟨kvs,k,e,ey,l⟩ | ⟨kvs,k,b,e,ey,eb,l⟩
  · subst ey
    obtain ⟨z,hd,vs,rel,dd⟩:=ah6 I.hok e
    refine wpAny_notIn_of (abK ry) hd dd.mapOf ?_
    rw [← (rel.val k).a0H,← l]
    exact h _ (I.tok _)
  · subst ey
    cases (show u=Value.ref b from ry)
    obtain ⟨z,hd,xs,rel,dd⟩:=ajV I.hok e
    refine wpAny_notIn_heap (tupleKind_room_in1 hu) (a6A I.hok eb) hd dd ?_
    have q:=(rel.val k).a0H
    rw [Option.isSome_map] at q
    rw [← q,← l]
    exact h _ (I.tok _)
theorem a2G {h':Heap} {t':Nat} {ob:HO} (I:Inv X pins σ H s) (mu:Mut (H a)) (hs:Heap.SameBut a s.heap h') (he:∃ q,h'.get? a=some q) (new:pW X.prog X.w (upd H a ob) h' a ob) :
    Inv X pins σ (upd H a ob) { s with heap:=h',toks:=t' } :=
  I.write (x:=a) (e:=a) mu (.inl rfl) (fun b q hb z=>(hs.2 b hb).trans z) he new
theorem aoT {P:Program} {w:World} {H':Hp} {h':Heap} {kvs:List (Key×V)} {vs:List (Key×Value)} (z:kvs.length≤sizeLine) (hd:(a == sysModules)=false) (rel:KV kvs vs) (dd:h'.DictOf (bH P w) a vs) :
    pW P w H' h' a (.dK kvs):=⟨z,hd,vs,rel,dd⟩
theorem azH {H':Hp} {Q:Unit→Shared→Prop} (hu:A.units+1 < cLine) (I:Inv X pins σ H s) (g:arN H a y v H') (ry:RelV y u) (rv:RelV v r) (h:∀ s',Inv X pins σ H' s'→Q () s') :
    wpAny (model X.prog X.w) A (setItem (.ref a) u r) Q E s:=by
  rcases g with ⟨kvs,k,e,ey,l,eH⟩ | ⟨kvs,k,b,e,ey,eb,l,eH⟩
  · subst ey eH
    obtain ⟨z,hd,vs,rel,dd⟩:=ah7 I.hok e
    have hz:vs.length≤sizeLine:=by rw [← rel.length];exact z
    have hl:(putK kvs k v).length≤sizeLine:=by have:=yC kvs k v;omega
    refine wpAny_setItem_pairs (hsz:=hz) (abK ry) dd fun h' dd' hs=>h _ ?_
    have he:∃ q,h'.get? a=some q:=let ⟨q,_,_,hq,_⟩:=dd';⟨q,hq⟩
    exact a2G I (by rw [e];exact True.intro) hs he (aoT hl hd (rel.put k rv) dd')
  · subst ey eH
    cases (show u=Value.ref b from ry)
    obtain ⟨z,hd,xs,rel,dd⟩:=anG I.hok e
    have hz:xs.length≤sizeLine:=by rw [← Paired.length rel];exact z
    have hl:(putK kvs k v).length≤sizeLine:=by have:=yC kvs k v;omega
    refine wpAny_setItem_heap (hsz:=hz) (tupleKind_room_in1 hu) (a6A I.hok eb) dd fun h' dd' hs=>h _ ?_
    obtain ⟨q,es,ep,hq,h2,h3,h4,_,h5⟩:=dd'
    refine a2G I (by rw [e];exact True.intro) hs ⟨q,hq⟩ ⟨hl,hd,_,(rel.put k eb rv).keeps fun c ys ec=>?_,q,es,ep,hq,h2,h3,h4,h5⟩
    rw [eE (axF ec e (fun z=>nomatch z))]
    exact ec
end
section
variable {X:Cx} {pins:List (Addr×Obj)} {σ:St} {H:Hp} {s:Shared} {a:Addr} {kvs:List (Key×V)} {k:Key} {u:Value} {A:Around} {E:Value→Shared→Prop}
theorem aS1 {Q:Unit→Shared→Prop} (I:Inv X pins σ H s) (e:H a=some (.dK kvs)) (ry:RelV (kV k) u) (l:(a8K kvs k).isSome=true) (h:∀ s',Inv X pins σ (upd H a (.dK (a7P kvs k))) s'→Q () s') :
    wpAny (model X.prog X.w) A (delItem (.ref a) u) Q E s:=by
  obtain ⟨z,hd,vs,rel,dd⟩:=ah7 I.hok e
  refine wpAny_delItem_slot dd.typeIs (by decide) PySem.F.slot_dict_delitem
    (call_meetsIn PySem.F.slot_dict_delitem dd.typeIs PySem.F.entry_dict_delitem (PySem.F.args_dict_delitem_2 _ _) (meets_dict_delitem_pairs (bH X.prog X.w) a (abK ry)) ⟨vs,dd,by rw [← rel.length];exact z,by rw [← (rel.val k).a0H];exact l,fun h' dd' hs=>h _ ?_⟩)
  have he:∃ q,h'.get? a=some q:=let ⟨q,_,_,hq,_⟩:=dd';⟨q,hq⟩
  exact a2G I (by rw [e];exact True.intro) hs he (aoT (Nat.le_trans (ajU kvs k) z) hd (rel.drop k) dd')
theorem aT2 {v:V} {more:List Value} {Q:Value→Shared→Prop} (I:Inv X pins σ H s) (e:H a=some (.dK kvs)) (ry:RelV (kV k) u) (l:a8K kvs k=some v) (hm:more=[]∨∃ x,more=[x])
    (h:∀ w' s',Inv X pins σ (upd H a (.dK (a7P kvs k))) s'→RelV v w'→Q w' s'):wpAny (model X.prog X.w) A (call (.builtin "dict.pop") (.ref a :: u :: more)) Q E s:=by
  obtain ⟨z,hd,vs,rel,dd⟩:=ah7 I.hok e
  obtain ⟨w',hw,rw'⟩:=a65.some_of (v:=v) (o:=valueAt vs k) (by rw [← l];exact rel.val k)
  have hp:(keyPart u).isSome=true:=by
    cases k with
    | inl i=>obtain ⟨t,q⟩:=(show ∃ t,u=Value.int i t from ry);subst q;rfl
    | inr x=>obtain ⟨t,q⟩:=(show ∃ t,u=Value.str x t from ry);subst q;rfl
  have ha:argsOk "dict.pop" ⟨.ref a :: u :: more,[]⟩:=by
    rcases hm with q | ⟨x,q⟩
    · subst q;exact PySem.F.args_dict_pop_2 _ _
    · subst q;exact PySem.F.args_dict_pop_3 _ _ _
  refine call_meetsIn PySem.F.slot_dict_pop dd.typeIs PySem.F.entry_dict_pop ha (meets_dict_pop_there (bH X.prog X.w) a (abK ry) more hm hp)
    ⟨vs,w',dd,by rw [← rel.length];exact z,hw,fun h' dd' hs=>h w' _ ?_ rw'⟩
  have he:∃ q,h'.get? a=some q:=let ⟨q,_,_,hq,_⟩:=dd';⟨q,hq⟩
  exact a2G I (by rw [e];exact True.intro) hs he (aoT (Nat.le_trans (ajU kvs k) z) hd (rel.drop k) dd')
theorem aT3 {Q:Value→Shared→Prop} (I:Inv X pins σ H s) (e:Rd H a (.dK kvs)) (h:∀ t s',Inv X pins σ H s'→Q (.int kvs.length t) s'):wpAny (model X.prog X.w) A (call (.builtin "len") [.ref a]) Q E s:=by
  obtain ⟨z,hd,vs,rel,dd⟩:=ah6 I.hok e
  refine call_len_dict hd dd (by rw [← rel.length];rw [sizeLine_eq] at z;omega) ?_
  rw [← rel.length]
  exact h _ _ (I.tok _)
end
def aN8 (i:Expr):Prop:=∀ ov iv,subscripted i false ov iv=operate [ov,iv] (getItem ov iv)
theorem aG3 {prog:Program} {w:World} {A:Around} {E:Value→Shared→Prop} {s:Shared} {env:Env} {value slice:Expr} {pos:Pos} {T id:String} {Q:Value→Shared→Prop}
    (hl:typeLookup (.type T) "__getitem__" = pure (some (.builtin id))) (hs:aN8 slice)
    (h:wpAny (model prog w) A (eval value env) (fun o s₁=>wpAny (model prog w) A (eval slice env) (fun i s₂=>s₂.TypeIs o T∧wpAny (model prog w) A (getItem o i) Q E s₂) E s₁) E s) :
    wpAny (model prog w) A (eval (.Subscript value slice pos) env) Q E s:=by
  refine Subscript_ (wpAny_mono h (fun o s₁ h₁=>wpAny_mono h₁ (fun i s₂ h₂=>?_) fun _ _ x=>x) fun _ _ x=>x)
  obtain ⟨hT,h₂⟩:=h₂
  unfold subscriptTail
  refine wpAny_bind ?_
  rw [getitemInPython_of_ne hT.not_modules]
  refine wpAny_bind (wpAny_specialOf hT hl ?_)
  have fin:wpAny (model prog w) A (subscripted slice false o i) (fun r s₃=>wpAny (model prog w) A (letTemporaryGo value o r >>= fun _=>pure r) Q E s₃) E s₂:=by
    rw [hs o i]
    exact wpAny_operating (wpAny_mono h₂ (fun r s₃ h₃=>wpAny_bind (wpAny_letTemporaryGo (wpAny_pure h₃))) fun _ _ x=>x)
  first
    | exact wpAny_pure (wpAny_bind fin)
    | exact wpAny_bind (wpAny_pure (wpAny_bind fin))
    | exact wpAny_bind fin
theorem arP {X:Cx} {pins:List (Addr×Obj)} {σ:St} {H:Hp} {s:Shared} {a:Addr} {y:V} {o:Option V} (I:Inv X pins σ H s) (g:adG H a y o):s.TypeIs (.ref a) "dict" := by
  rcases g with ⟨kvs,k,e,_,_⟩ | ⟨kvs,k,b,e,_,_,_⟩
  · obtain ⟨_,_,vs,_,dd⟩:=ah6 I.hok e
    exact dd.typeIs
  · obtain ⟨_,_,xs,_,dd⟩:=ajV I.hok e
    exact dd.typeIs
def aT4 (td ty:TE):TE:=fun σ H Q=>td σ H fun x H1=>ty σ H1 fun y H2=>∃ a v,x = .ref a∧adG H2 a y (some v)∧Q v H2
def aT5 (td ty tv:TE):TS:=fun D σ H=>tv σ H fun v H1=>td σ H1 fun x H2=>ty σ H2 fun y H3=>∃ a H4,x = .ref a∧arN H3 a y v H4∧D.nx σ H4
section
variable {X:Cx} {o i e value:Expr} {pos pos' tpos:Pos} {td ty tv:TE}
theorem aG4 (hu:X.A.units+1 < cLine) (ho:PE X o td) (hi:PE X i ty) (hs:aN8 i):PE X (.Subscript o i pos) (aT4 td ty):=by
  intro pins s σ H Q I h
  refine aG3 PySem.F.slot_dict_getitem.lookup hs (jU (ho pins s σ H _ I h) fun u s1 ⟨x,H1,I1,rx,q1⟩=>jU (hi pins s1 σ H1 _ I1 q1) fun iv s2 ⟨y,H2,I2,ry,a,v,ex,g,q2⟩=>?_)
  subst ex
  obtain rfl:u=Value.ref a:=rx
  exact ⟨arP I2 g,azG hu I2 g ry fun w' s3 I3 rw'=>⟨v,H2,I3,rw',q2⟩⟩
theorem aG5 (hu:X.A.units+1 < cLine) (ho:PE X o td) (hi:PE X i ty) (hv:PE X value tv) (hs:swapsWith value (some (.Subscript o i pos')) pos.line X.env=pure false) :
    PS X (.Assign [.Subscript o i pos'] value pos) (aT5 td ty tv):=by
  intro pins s σ H D I h
  refine wpAny_Assign_Subscript (jU (hv pins s σ H _ I h) fun r s1 ⟨v,H1,I1,rv,q1⟩=>jU (ho pins s1 σ H1 _ I1 q1) fun u s2 ⟨x,H2,I2,rx,q2⟩=>jU (hi pins s2 σ H2 _ I2 q2) fun iv s3 ⟨y,H3,I3,ry,a,H4,ex,g,q3⟩=>?_) hs
  subst ex
  obtain rfl:u=Value.ref a:=rx
  exact azH hu I3 g ry rv fun s4 I4=>⟨σ,H4,I4,q3⟩
end
theorem arQ {P:Program} {w:World} {H:Hp} (h:Heap) (hb:sysModules < h.objs.size):pW P w H (h.push { cls := .type "dict",data := .dict #[] }) h.objs.size (.dK []) :=
  ⟨Nat.zero_le _,beq_eq_false_iff_ne.mpr (Ne.symm (Nat.ne_of_lt hb)),[],.nil,Heap.DictOf.new h⟩
theorem arR {P:Program} {w:World} {H:Hp} (h:Heap) (hb:sysModules < h.objs.size):pW P w H (h.push { cls := .type "dict",data := .dict #[] }) h.objs.size (.dT []) :=
  ⟨Nat.zero_le _,beq_eq_false_iff_ne.mpr (Ne.symm (Nat.ne_of_lt hb)),[],.nil,_,#[],0,Heap.get?_push_size _ rfl,⟨rfl,rfl,rfl⟩,rfl,rfl,List.nodup_nil⟩
def aN9:TE:=fun _ H Q=>∀ p,H p=none→Q (.ref p) (upd H p (.dK []))
def aNA:TE:=fun _ H Q=>∀ p,H p=none→Q (.ref p) (upd H p (.dT []))
section
variable {X:Cx} {pos:Pos}
theorem aBK:PE X (.Dict [] [] pos) aN9:=fun pins s σ H Q I h =>
  wpAny_Dict_empty ⟨.ref s.heap.objs.size,_,I.laid (a:=s.heap.objs.size) (o := .dK []) (t':=s.toks) (fun _ _ q=>Heap.get?_push_of_some _ q) (Nat.le_refl _) (arQ s.heap I.big),rfl,h _ (I.hok.fresh (Nat.le_refl _))⟩
theorem aBL:PE X (.Dict [] [] pos) aNA:=fun pins s σ H Q I h =>
  wpAny_Dict_empty ⟨.ref s.heap.objs.size,_,I.laid (a:=s.heap.objs.size) (o := .dT []) (t':=s.toks) (fun _ _ q=>Heap.get?_push_of_some _ q) (Nat.le_refl _) (arR s.heap I.big),rfl,h _ (I.hok.fresh (Nat.le_refl _))⟩
end
structure M2 (X:Cx) (o:Expr) (m:Str) (apos:Pos) (e f:Expr) (cpos:Pos):Prop where
  base:attributeBase o m X.env (eval o X.env)=eval o X.env
  few:((backTo cpos (starEach [e,f] X.env)).all (fun x=>!x.1)&&(backToKw cpos (keywordEach [] X.env)).all (fun x=>x.1.isSome)
    && decide (([e,f]:List Expr).length+([]:List Keyword).length+(if ([]:List Keyword).isEmpty then 0 else 1) < 30))=true
  line:(apos.endLine == cpos.line)=true
  trees:backTo cpos (starEach [e,f] X.env)=[(false,eval e X.env),(false,eval f X.env)]
def IsD (H:Hp) (a:Addr):Prop:=(∃ kvs,Rd H a (.dK kvs))∨∃ kvs,Rd H a (.dT kvs)
theorem aoU {X:Cx} {pins:List (Addr×Obj)} {σ:St} {H:Hp} {s:Shared} {a:Addr} (I:Inv X pins σ H s) (d:IsD H a) :
    s.TypeIs (.ref a) "dict" ∧ (∀ b,Value.ref a = .ref b→∃ ob,s.heap.get? b=some ob∧ob.dict=none)∧(a == sysModules)=false:=by
  rcases d with ⟨kvs,e⟩ | ⟨kvs,e⟩
  · obtain ⟨_,hd,vs,_,dd⟩:=ah6 I.hok e
    refine ⟨dd.typeIs,fun b q=>?_,hd⟩
    cases q
    obtain ⟨ob,_,_,h1,h2,_⟩:=dd
    exact ⟨ob,h1,h2.2.1⟩
  · obtain ⟨_,hd,xs,_,dd⟩:=ajV I.hok e
    refine ⟨dd.typeIs,fun b q=>?_,hd⟩
    cases q
    obtain ⟨ob,_,_,h1,h2,_⟩:=dd
    exact ⟨ob,h1,h2.2.1⟩
section
variable {X:Cx} {pins:List (Addr×Obj)} {σ:St} {H:Hp} {s:Shared} {a:Addr} {y d:V} {u r:Value} {o:Option V} {A:Around} {E:Value→Shared→Prop}
theorem aNB {Q:Value→Shared→Prop} (hu:A.units+1 < cLine) (I:Inv X pins σ H s) (g:adG H a y o) (ry:RelV y u) (rd:RelV d r) (h:∀ w' s',Inv X pins σ H s'→RelV (o.getD d) w'→Q w' s') :
    wpAny (model X.prog X.w) A (call (.builtin "dict.get") [.ref a,u,r]) Q E s:=by
  rcases g with ⟨kvs,k,e,ey,l⟩ | ⟨kvs,k,b,e,ey,eb,l⟩
  · subst ey
    obtain ⟨z,hd,vs,rel,dd⟩:=ah6 I.hok e
    refine call_meetsIn PySem.F.slot_dict_get dd.typeIs PySem.F.entry_dict_get (PySem.F.args_dict_get_3 _ _ _) (meets_dict_get_default (bH X.prog X.w) a (abK ry) hd r) ⟨_,dd.mapOf,h _ _ (I.tok _) ?_⟩
    rw [l]
    exact (rel.val k).getD rd
  · subst ey
    cases (show u=Value.ref b from ry)
    obtain ⟨z,hd,xs,rel,dd⟩:=ajV I.hok e
    refine call_meetsIn PySem.F.slot_dict_get dd.typeIs PySem.F.entry_dict_get (PySem.F.args_dict_get_3 _ _ _) (meetsH_dict_get_default (tupleKind (bH X.prog X.w)) a b hd r) ⟨tupleKind_room_in1 hu,k,xs,a6A I.hok eb,dd,h _ _ (I.tok _) ?_⟩
    rw [l]
    exact (rel.val k).getD rd
end
def aNC (td ty tx:TE):TE:=fun σ H Q=>td σ H fun x H1=>∃ a,x = .ref a∧IsD H1 a∧ty σ H1 fun y H2=>tx σ H2 fun z H3=>∃ o,adG H3 a y o∧Q (o.getD z) H3
section
variable {X:Cx} {o e f:Expr} {apos cpos:Pos} {td ty tx:TE}
theorem aBM (hu:X.A.units+1 < cLine) (ho:PE X o td) (he:PE X e ty) (hf:PE X f tx) (m:M2 X o "get" apos e f cpos):PE X (.Call (.Attribute o "get" apos) [e,f] [] cpos) (aNC td ty tx):=by
  intro pins s σ H Q I h
  refine wpAny_Call_method m.base m.few m.line PySem.F.plainAttrs_dict PySem.F.slot_dict_get PySem.F.type_dict_get (jU (ho pins s σ H _ I h) fun u s1 ⟨x,H1,I1,rx,a,ex,d,q1⟩=>?_)
  subst ex
  obtain rfl:u=Value.ref a:=rx
  obtain ⟨t1,t2,_⟩:=aoU I1 d
  refine ⟨t1,t2,?_⟩
  rw [m.trees]
  refine Calls.callWith_builtin rfl (Calls.evalArgs_plain (Calls.spliced_cons (jU (he pins s1 σ H1 _ I1 q1) fun iv s2 ⟨y,H2,I2,ry,q2⟩ =>
    Calls.spliced_cons (jU (hf pins s2 σ H2 _ I2 q2) fun fv s3 ⟨z,H3,I3,rz,ov,g,q3⟩=>Calls.spliced_nil ?_))))
  exact aNB hu I3 g ry rz fun w' s4 I4 rw'=>⟨_,H3,I4,rw',q3⟩
end
section
variable {X:Cx} {pins:List (Addr×Obj)} {σ:St} {H:Hp} {s:Shared} {a:Addr} {kvs:List (Key×V)} {A:Around} {E:Value→Shared→Prop}
end
section
variable {X:Cx} {pins:List (Addr×Obj)} {σ:St} {H:Hp} {s:Shared} {a:Addr} {y:V} {u:Value} {A:Around} {E:Value→Shared→Prop}
end
end
end L2
namespace HT
open PySem PyProof.Rows
section
open PySem.SeqAt
open PySem.AutoSeq1 (wpAny_loadPart')
open PySem.MeetsSeq PySem.MeetsSeq2 PySem.MeetsSeq3
end
section
variable {prog:Program} {w:World} {A:Around} {E:Value→Shared→Prop} {s:Shared}
theorem aG6 {t b:Addr} {vs ws:List Value} {Q:Value→Shared→Prop} (ht:IsTup s.heap t vs.toArray) (hb:IsTup s.heap b ws.toArray) (hv:vs≠[])
    (h1:ws=[]→Q (.ref t) s) (h2:ws≠[]→Q (.ref s.heap.objs.size) { s with heap:=s.heap.push { cls := .type "tuple",data := .seq (vs++ws).toArray } })
    (hsz:vs.length+ws.length≤sizeLine):wpAny (model prog w) A (binaryOp .Add (.ref t) (.ref b)) Q E s:=by
  obtain ⟨⟨cls,dd,data,sl⟩,ho,hc,n,hd⟩:=id ht
  obtain ⟨⟨cls2,dd2,data2,sl2⟩,ho2,hc2,n2,hd2⟩:=id hb
  simp only at hc hd hc2 hd2
  subst hc hd hc2 hd2
  have e:vs.toArray++ws.toArray=(vs++ws).toArray:=by simp
  by_cases hw:ws=[]
  · exact concat_meets ⟨_,ho,rfl⟩ ⟨_,ho2,rfl⟩ noFill_tuple_add seq_tuple_add PySem.F.slot_tuple_add PySem.F.entry_tuple_add (PySem.F.args_tuple_add_2 _ _)
      (tuple_addW1 t b vs.toArray ws.toArray n n2 dd dd2 sl sl2 (by simpa using hv) (by simp [hw])) ⟨ho,ho2,h1 hw⟩
  · refine concat_meets ⟨_,ho,rfl⟩ ⟨_,ho2,rfl⟩ noFill_tuple_add seq_tuple_add PySem.F.slot_tuple_add PySem.F.entry_tuple_add (PySem.F.args_tuple_add_2 _ _)
      (tuple_addW2 t b vs.toArray ws.toArray n n2 dd dd2 sl sl2 (by simpa using hv) (by simpa using hw) (by rw [List.size_toArray,List.size_toArray];exact hsz)) ⟨ho,ho2,?_⟩
    rw [e]
    exact h2 hw
def uU (n d:Nat):Option Int→Nat
  | none=>d
  | some v=>if v < 0 then (v+(n:Int)).toNat else min v.toNat n
theorem aND (n d:Nat) (hd:d≤n) (o:Option Int):uU n d o≤n:=by
  cases o with
  | none=>exact hd
  | some v =>
    show (if v < 0 then (v+(n:Int)).toNat else min v.toNat n)≤n
    by_cases hv:v < 0
    · rw [if_pos hv];omega
    · rw [if_neg hv];exact Nat.min_le_right _ _
theorem axJ (v:Int) (n d:Nat):(if v < 0 then max (v+(n:Int)) 0 else min v (n:Int))=((uU n d (some v):Nat):Int):=by
  show (if v < 0 then max (v+(n:Int)) 0 else min v (n:Int))=(((if v < 0 then (v+(n:Int)).toNat else min v.toNat n):Nat):Int)
  by_cases hv:v < 0
  · simp only [if_pos hv];omega
  · simp only [if_neg hv];omega
theorem avK (lo hi:Option Int) (n:Nat):Builtin.Slice.sliceAdjust lo hi 1 (n:Int)=(((uU n 0 lo:Nat):Int),((uU n n hi:Nat):Int)):=by
  have h1:¬ ((1:Int) < 0):=by omega
  unfold Builtin.Slice.sliceAdjust
  simp only [h1,if_false]
  refine Prod.ext ?_ ?_
  · cases lo with
    | none=>rfl
    | some v=>exact axJ v n 0
  · cases hi with
    | none=>rfl
    | some v=>exact axJ v n n
theorem avL (i j:Nat):Builtin.Slice.slicePlaces (i:Int) (j:Int) 1=j - i:=by
  unfold Builtin.Slice.slicePlaces
  have h1:(1:Int) > 0:=by omega
  simp only [h1,if_true,Int.ediv_one]
  split <;> omega
theorem ajW {v:Value} {o:Option Int} {Q:Option Int→Shared→Prop} (p:IsPart v o) (h:Q o s):wpAny (model prog w) A (Builtin.Slice.slicePartIndex v) Q E s:=by
  cases p with
  | none=>exact slicePart_none h
  | int i t=>exact slicePart_int h
theorem afM {sl:Addr} {vl vu:Value} {lo hi:Option Int} {n:Nat} {Q:Int×Int×Nat→Shared→Prop} (hs:s.heap.IsSliceOf sl vl vu .none) (pl:IsPart vl lo) (pu:IsPart vu hi)
    (h:Q (((uU n 0 lo:Nat):Int),1,uU n n hi - uU n 0 lo) s):wpAny (model prog w) A (Builtin.Slice.sliceApplied (.ref sl) (pure (n:Int))) Q E s:=by
  obtain ⟨os,hos,hcs,hds⟩:=id hs
  unfold Builtin.Slice.sliceApplied Builtin.Slice.sliceFields
  refine wpAny_bind (wpAny_bind (wpAny_field hos hds (x:=vl) rfl (wpAny_bind (wpAny_field hos hds (x:=vu) rfl (wpAny_bind (wpAny_field hos hds (x := .none) rfl (wpAny_pure ?_)))))))
  refine wpAny_bind (slicePart_none ?_)
  show wpAny _ _ (if ((1:Int) == 0)=true then _ else _) _ _ s
  rw [if_neg (by decide)]
  refine wpAny_bind (ajW pl (wpAny_bind (ajW pu (wpAny_bind (wpAny_pure ?_)))))
  show wpAny _ _ (match Builtin.Slice.sliceAdjust lo hi 1 (n:Int) with | (lo,hi)=>pure (lo,(1:Int),Builtin.Slice.slicePlaces lo hi 1)) _ _ s
  rw [avK lo hi n]
  show wpAny _ _ (pure (((uU n 0 lo:Nat):Int),(1:Int),Builtin.Slice.slicePlaces ((uU n 0 lo:Nat):Int) ((uU n n hi:Nat):Int) 1)) _ _ s
  rw [avL]
  exact wpAny_pure h
theorem aBN (xs:Array Value) (i k:Nat):((List.range k).filterMap fun (m:Nat)=>xs[((i:Int)+(m:Int) * 1).toNat]?).toArray=((xs.toList.drop i).take k).toArray:=by
  have e:(fun (m:Nat)=>xs[((i:Int)+(m:Int) * 1).toNat]?)=fun m=>xs[i+m]?:=by
    funext m
    have:((i:Int)+(m:Int) * 1).toNat=i+m:=by omega
    rw [this]
  rw [e]
  have:=pick_run xs i k
  rw [List.filterMap_map] at this
  have e2:((fun x=>xs[x]?) ∘ fun x=>i+x)=fun m=>xs[i+m]?:=rfl
  rw [e2] at this
  rw [this]
theorem adH {t sl:Addr} {items:Array Value} {vl vu:Value} {lo hi:Option Int} {Q:Value→Shared→Prop} (ht:IsTup s.heap t items) (hs:s.heap.IsSliceOf sl vl vu .none) (pl:IsPart vl lo) (pu:IsPart vu hi)
    (hw:¬ (uU items.size 0 lo=0∧uU items.size items.size hi=items.size))
    (h:Q (.ref s.heap.objs.size) { s with heap:=s.heap.push { cls := .type "tuple",data := .seq ((items.toList.drop (uU items.size 0 lo)).take (uU items.size items.size hi - uU items.size 0 lo)).toArray } })
    (hsz:items.size≤sizeLine):wpAny (model prog w) A (getItem (.ref t) (.ref sl)) Q E s:=by
  have axK:sizeOk (.seq ((items.toList.drop (uU items.size 0 lo)).take (uU items.size items.size hi - uU items.size 0 lo)).toArray):=by
    show ((items.toList.drop (uU items.size 0 lo)).take (uU items.size items.size hi - uU items.size 0 lo)).toArray.size≤sizeLine
    rw [List.size_toArray,List.length_take,List.length_drop,Array.length_toList]
    omega
  have hj:uU items.size items.size hi≤items.size:=aND _ _ (Nat.le_refl _) hi
  obtain ⟨os,hos,hcs,hds⟩:=id hs
  have hTs:s.TypeIs (.ref sl) "slice" := ⟨os,hos,hcs⟩
  unfold getItem
  try with_reducible refine wpAny_holding ?_
  first | refine wpAny_bind (wpAny_pure ?_) | skip
  refine wpAny_bind (wpAny_sequenceKey ht.typeIs (by decide) ?_)
  refine wpAny_bind (wpAny_callSpecial?_slot (name:=Str.ofString "__getitem__") ht.typeIs PyProof.Rows.slot_tuple_getitem
    (wpAny_call_entry PyProof.Rows.slot_tuple_getitem ht.typeIs entry_tuple_getitem ?_ (args_tuple_getitem _ _)))
  show wpAny _ _ (Builtin.Tuple.tupleItemsOf (.ref t) >>= _) _ _ s
  refine wpAny_bind (tupleItemsOf_ ht ?_)
  refine wpAny_bind (wpAny_typeOf hTs ?_)
  rw [if_pos (by decide)]
  refine wpAny_bind (afM hs pl pu ?_)
  have hno:¬ ((((uU items.size 0 lo:Nat):Int) == 0&&(1:Int) == 1&&(uU items.size items.size hi - uU items.size 0 lo) == items.size)=true):=by
    intro q
    rw [Bool.and_eq_true,Bool.and_eq_true] at q
    have q1:((uU items.size 0 lo:Nat):Int)=0:=eq_of_beq q.1.1
    have q2:uU items.size items.size hi - uU items.size 0 lo=items.size:=eq_of_beq q.2
    exact hw ⟨by omega,by omega⟩
  show wpAny _ _ (if (((uU items.size 0 lo:Nat):Int) == 0&&(1:Int) == 1&&(uU items.size items.size hi - uU items.size 0 lo) == items.size)=true then _ else _) _ _ s
  rw [if_neg hno,aBN]
  first
    | exact wpAny_bind (m:=Builtin.Tuple.tupleExact _) (wpAny_newObj_type (wpAny_pure ⟨_,rfl,wpAny_pure h⟩) axK)
    | exact wpAny_bind (m:=Builtin.Tuple.tupleExact _) (wpAny_newObj_type (wpAny_bind (wpAny_pure (wpAny_pure ⟨_,rfl,wpAny_pure h⟩))) axK)
    | exact wpAny_bind (wpAny_bind (m:=Builtin.Tuple.tupleExact _) (wpAny_newObj_type (wpAny_pure (wpAny_pure ⟨_,rfl,wpAny_pure h⟩)) axK))
    | exact wpAny_bind (wpAny_bind (m:=Builtin.Tuple.tupleExact _) (wpAny_newObj_type (wpAny_pure ⟨_,rfl,wpAny_pure h⟩) axK))
end
end HT
namespace L2
open PySem PySem.Spec PyProof.Rows
section
abbrev TO:=St→Hp→(Option Int→Hp→Prop)→Prop
def PO (X:Cx) (e:Option Expr) (t:TO):Prop :=
  ∀ (pins:List (Addr×Obj)) (s:Shared) (σ:St) (H:Hp) (Q:Option Int→Hp→Prop),Inv X pins σ H s→t σ H Q →
    wpAny (model X.prog X.w) X.A (evalPart e X.env) (fun u s'=>∃ o H',Inv X pins σ H' s'∧IsPart u o∧Q o H') X.xe s
def aG7:TO:=fun _ H Q=>Q none H
def aT6 (t:TE):TO:=fun σ H Q=>t σ H fun x H1=>∃ i,x = .int i∧Q (some i) H1
section
variable {X:Cx} {e:Expr} {te:TE} {lo hi:Option Expr} {tl th:TO} {pos p2:Pos}
theorem aG8:PO X none aG7:=by
  intro pins s σ H Q I h
  rw [evalPart_none]
  exact wpAny_pure ⟨none,H,I,.none,h⟩
theorem aG9 (h:PE X e te):PO X (some e) (aT6 te):=by
  intro pins s σ H Q I hw
  rw [evalPart_some]
  refine jU (h pins s σ H _ I hw) fun u s1 ⟨x,H1,I1,r1,q1⟩=>?_
  obtain ⟨i,rfl,q⟩:=q1
  obtain ⟨t,rfl⟩:=r1
  exact ⟨some i,H1,I1,.int i t,q⟩
def SlR (X:Cx) (r:V→Option Int→Option Int→Hp→VK→Prop):Prop :=
  ∀ (pins:List (Addr×Obj)) (s:Shared) (σ:St) (H:Hp) (x:V) (v vl vu:Value) (lo hi:Option Int) (sl:Addr) (Q:VK),Inv X pins σ H s→RelV x v→s.heap.IsSliceOf sl vl vu .none→IsPart vl lo→IsPart vu hi→r x lo hi H Q →
    ∃ T id,typeLookup (.type T) "__getitem__" = pure (some (.builtin id))∧s.TypeIs v T∧wpAny (model X.prog X.w) X.A (getItem v (.ref sl)) (EP X pins σ Q) X.xe s
theorem SlR.or {r r':V→Option Int→Option Int→Hp→VK→Prop} (h:SlR X r) (h':SlR X r'):SlR X (fun x lo hi H Q=>r x lo hi H Q∨r' x lo hi H Q):=by
  intro pins s σ H x v vl vu lo hi sl Q I rx hs pl pu q
  rcases q with q | q
  · exact h pins s σ H x v vl vu lo hi sl Q I rx hs pl pu q
  · exact h' pins s σ H x v vl vu lo hi sl Q I rx hs pl pu q
def tSl (r:V→Option Int→Option Int→Hp→VK→Prop) (te:TE) (tl th:TO):TE:=fun σ H Q=>te σ H fun x H1=>tl σ H1 fun l H2=>th σ H2 fun u H3=>r x l u H3 Q
theorem aBO {r:V→Option Int→Option Int→Hp→VK→Prop} (hr:SlR X r) (he:PE X e te) (hl:PO X lo tl) (hu:PO X hi th):PE X (.Subscript e (.Slice lo hi none p2) pos) (tSl r te tl th):=by
  intro pins s σ H Q I h
  refine Subscript_ (jU (he pins s σ H _ I h) fun v s1 ⟨x,H1,I1,r1,q1⟩=>?_)
  refine wpAny_Slice (jU (hl pins s1 σ H1 _ I1 q1) fun vl s2 ⟨l,H2,I2,pl,q2⟩=>jU (hu pins s2 σ H2 _ I2 q2) fun vu s3 ⟨u,H3,I3,pu,q3⟩=>?_)
  rw [evalPart_none]
  refine wpAny_pure ?_
  have I4:Inv X pins σ H3 { s3 with heap:=s3.heap.push { cls := .type "slice",data := .fields #[vl,vu,.none] } }:=I3.kept (t':=s3.toks) fun b ob q=>Heap.get?_push_of_some _ q
  obtain ⟨T,id,hT,ht,hg⟩:=hr pins { s3 with heap:=s3.heap.push { cls := .type "slice",data := .fields #[vl,vu,.none] } } σ H3 x v vl vu l u s3.heap.objs.size Q I4 r1 (Heap.IsSliceOf.new ..) pl pu q3
  show wpAny (model X.prog X.w) X.A (subscriptTail e (.Slice lo hi none p2) v (.ref s3.heap.objs.size)) (EP X pins σ Q) X.xe { s3 with heap:=s3.heap.push { cls := .type "slice",data := .fields #[vl,vu,.none] } }
  exact tail_any (ops:=[.ref s3.heap.objs.size,v]) ht hT hg (by with_unfolding_all rfl)
def amJ (xs:List V) (lo hi:Option Int):List V:=(xs.drop (HT.uU xs.length 0 lo)).take (HT.uU xs.length xs.length hi - HT.uU xs.length 0 lo)
theorem ah8 (xs:List V) (lo hi:Option Int):(amJ xs lo hi).length≤xs.length:=by
  unfold amJ
  rw [List.length_take,List.length_drop]
  omega
def aYC (K:PySem.W.Frag):V→Option Int→Option Int→Hp→VK→Prop:=fun x lo hi H Q=>∃ a xs,x = .ref a∧SqT K H a xs ∧
  ¬ (HT.uU xs.length 0 lo=0∧HT.uU xs.length xs.length hi=xs.length)∧∀ p,H p=none→Q (.ref p) (upd H p (.tup (amJ xs lo hi)))
theorem aNE:SlR X (aYC X.K):=by
  intro pins s σ H x v vl vu lo hi sl Q I rx hs pl pu h
  obtain ⟨a,xs,rfl,hx,hw,q⟩:=h
  cases rx
  obtain ⟨its,r,ht,hz⟩:=I.tuple hx
  have hlen:its.toArray.size=xs.length:=by rw [List.size_toArray];exact r.length.symm
  refine ⟨"tuple",_,PyProof.Rows.slot_tuple_getitem.lookup,ht.typeIs,?_⟩
  refine HT.adH ht hs pl pu (by rw [hlen];exact hw) ?_ (by rw [hlen];exact hz)
  rw [hlen]
  refine ⟨.ref s.heap.objs.size,_,I.laid (t':=s.toks) (o := .tup (amJ xs lo hi)) (fun b ob q=>Heap.get?_push_of_some _ q) (Nat.le_refl _) ?_,rfl,q _ (I.hok.fresh (Nat.le_refl _))⟩
  exact ⟨Nat.le_trans (ah8 xs lo hi) hz,_,(r.drop (HT.uU xs.length 0 lo)).take (HT.uU xs.length xs.length hi - HT.uU xs.length 0 lo),IsTup.new _ _⟩
def aT7 (K:PySem.W.Frag):R2:=fun x y H Q=>∃ a b xs ys,x = .ref a∧y = .ref b∧SqT K H a xs∧SqT K H b ys∧xs≠[]∧xs.length+ys.length≤sizeLine ∧
  (ys=[]→Q (.ref a) H)∧(ys≠[]→∀ p,H p=none→Q (.ref p) (upd H p (.tup (xs++ys))))
theorem Vals.adI {xs:List V} {us:List Value} (r:Vals xs us):us=[]↔xs=[]:=by
  cases r with
  | nil=>simp
  | cons _ _=>simp
theorem aGA:OpR X (binaryOp .Add) (aT7 X.K):=by
  intro pins s σ H x y v u Q I rx ry h
  obtain ⟨a,b,xs,ys,rfl,rfl,ha,hb,hx,hz,q1,q2⟩:=h
  cases rx
  cases ry
  obtain ⟨its,r1,p1,_⟩:=I.tuple ha
  obtain ⟨its2,r2,p2,_⟩:=I.tuple hb
  refine HT.aG6 p1 p2 (fun z=>hx (r1.adI.mp z)) (fun z=>⟨.ref a,H,I,rfl,q1 (r2.adI.mp z)⟩) (fun z=>?_) (by rw [← r1.length,← r2.length];exact hz)
  refine ⟨.ref s.heap.objs.size,_,I.laid (t':=s.toks) (o := .tup (xs++ys)) (fun b ob q=>Heap.get?_push_of_some _ q) (Nat.le_refl _) ?_,rfl,q2 (fun w=>z (r2.adI.mpr w)) _ (I.hok.fresh (Nat.le_refl _))⟩
  exact ⟨by rw [List.length_append];exact hz,_,r1.append r2,IsTup.new _ _⟩
end
end
section
def ixN (n:Nat) (i:Int):Option Nat:=if 0≤i then (if i < n then some i.toNat else none) else if -(n:Int)≤i then some (i+n).toNat else none
def atI {α:Type} (xs:List α) (i:Int):Option α:=(ixN xs.length i).bind fun j=>xs[j]?
theorem axM {n:Nat} {i:Int} {j:Nat} (h:ixN n i=some j):seqIndex? i n=some j∧j < n∧-(n:Int)≤i∧i < n:=by
  unfold ixN at h
  by_cases h0:0≤i
  · rw [if_pos h0] at h
    by_cases h1:i < n
    · rw [if_pos h1] at h
      have e:i.toNat=j:=Option.some.inj h
      exact ⟨by rw [seqIndex_of h0 h1,e],by omega,by omega,h1⟩
    · rw [if_neg h1] at h;cases h
  · rw [if_neg h0] at h
    by_cases h1:-(n:Int)≤i
    · rw [if_pos h1] at h
      have e:(i+n).toNat=j:=Option.some.inj h
      exact ⟨by rw [seqIndex_neg (by omega) h1,e],by omega,h1,by omega⟩
    · rw [if_neg h1] at h;cases h
theorem aoV {α:Type} {xs:List α} {i:Int} {v:α} (h:atI xs i=some v):∃ j,seqIndex? i xs.length=some j∧xs[j]?=some v∧j < xs.length∧-(xs.length:Int)≤i∧i < xs.length:=by
  unfold atI at h
  cases e:ixN xs.length i with
  | none=>rw [e] at h;cases h
  | some j =>
    rw [e] at h
    obtain ⟨h1,h2,h3,h4⟩:=axM e
    exact ⟨j,h1,h,h2,h3,h4⟩
def aoW (b:Expr):Prop:=∀ o i,subscripted b false o i=operate [o,i] (getItem o i)
def IxR (X:Cx) (r:R2):Prop :=
  ∀ (value slice:Expr) (pins:List (Addr×Obj)) (s:Shared) (σ:St) (H:Hp) (x y:V) (v u:Value) (Q:VK),Inv X pins σ H s→RelV x v→RelV y u→r x y H Q →
    subscripted slice false v u=operate [v,u] (getItem v u)→wpAny (model X.prog X.w) X.A (subscriptTail value slice v u) (EP X pins σ Q) X.xe s
def MtR (X:Cx) (id:String) (r:V→List V→Hp→VK→Prop):Prop :=
  ∀ (pins:List (Addr×Obj)) (s:Shared) (σ:St) (H:Hp) (x:V) (xs:List V) (v:Value) (us:List Value) (Q:VK),Inv X pins σ H s→RelV x v→Vals xs us→r x xs H Q →
    wpAny (model X.prog X.w) X.A (call (.builtin id) (v :: us)) (EP X pins σ Q) X.xe s
section
variable {X:Cx} {a b:Expr} {ta tb:TE} {pos:Pos}
theorem IxR.or {r r':R2} (h:IxR X r) (h':IxR X r'):IxR X (fun x y H Q=>r x y H Q∨r' x y H Q):=by
  intro value slice pins s σ H x y v u Q I rx ry q hs
  rcases q with q | q
  · exact h value slice pins s σ H x y v u Q I rx ry q hs
  · exact h' value slice pins s σ H x y v u Q I rx ry q hs
theorem MtR.or {id:String} {r r':V→List V→Hp→VK→Prop} (h:MtR X id r) (h':MtR X id r'):MtR X id (fun x xs H Q=>r x xs H Q∨r' x xs H Q):=by
  intro pins s σ H x xs v us Q I rx rs q
  rcases q with q | q
  · exact h pins s σ H x xs v us Q I rx rs q
  · exact h' pins s σ H x xs v us Q I rx rs q
theorem aT9 {r:R2} (hr:IxR X r) (ha:PE X a ta) (hb:PE X b tb) (hs:aoW b):PE X (.Subscript a b pos) (tOp r ta tb):=by
  intro pins s σ H Q I h
  exact Subscript_ (aMS ha hb I h fun v u s2 x y H2 I2 rx ry q=>hr a b pins s2 σ H2 x y v u Q I2 rx ry q (hs _ _))
def aTA (K:PySem.W.Frag):R2:=fun x y H Q=>∃ p xs i v,x = .ref p∧y = .int i∧SqL K H p xs∧atI xs i=some v∧Q v H
def aTB (K:PySem.W.Frag):R2:=fun x y H Q=>∃ p xs i v,x = .ref p∧y = .int i∧SqT K H p xs∧atI xs i=some v∧Q v H
def aTC:R2:=fun x y H Q=>∃ z i c,x = .str z∧y = .int i∧z.length≤sizeLine∧atI z.cps.toList i=some c∧Q (.str ⟨#[c]⟩) H
theorem aGC:IxR X (aTA X.K):=by
  intro value slice pins s σ H x y v u Q I rx ry h hs
  obtain ⟨p,xs,i,z,rfl,rfl,hq,he,q⟩:=h
  cases rx
  obtain ⟨t,rfl⟩:=ry
  obtain ⟨its,r,pl,hz⟩:=I.list hq
  obtain ⟨j,h1,h2,h3,h4,h5⟩:=aoV he
  obtain ⟨w,ew,rw'⟩:=r.get h2
  have hl:=r.length
  have hn:=afK
  have fin:EP X pins σ Q w s:=⟨z,H,I,rw',q⟩
  by_cases h0:0≤i
  · have hj:i.toNat=j:=by
      rw [seqIndex_of h0 h5] at h1
      exact Option.some.inj h1
    exact item_listR pl.isList h0 (by omega) (by rw [hj];simpa using ew) fin hs
  · have hj:(i+(its.toArray.size:Int)).toNat=j:=by
      rw [seqIndex_neg (by omega) h4] at h1
      rw [List.size_toArray,← hl]
      exact Option.some.inj h1
    exact subscriptTail_builtinR (x:=w) pl.isList.typeIs slot_list_getitem.lookup
      (wpAny_getItem_list_neg (Q:=fun r s'=>r=w∧EP X pins σ Q r s') pl.isList (by omega) (by rw [List.size_toArray] <;> omega) (by omega) (by rw [hj];simpa using ew) ⟨rfl,fin⟩) hs
theorem aNF:IxR X (aTB X.K):=by
  intro value slice pins s σ H x y v u Q I rx ry h hs
  obtain ⟨p,xs,i,z,rfl,rfl,hq,he,q⟩:=h
  cases rx
  obtain ⟨t,rfl⟩:=ry
  obtain ⟨its,r,pl,hz⟩:=I.tuple hq
  obtain ⟨j,h1,h2,h3,h4,h5⟩:=aoV he
  obtain ⟨w,ew,rw'⟩:=r.get h2
  have hl:=r.length
  have hn:=afK
  have fin:EP X pins σ Q w s:=⟨z,H,I,rw',q⟩
  exact subscriptTail_builtinR (x:=w) pl.typeIs slot_tuple_getitem.lookup
    (getItem_tuple (j:=j) (Q:=fun r s'=>r=w∧EP X pins σ Q r s') pl (by omega) (by omega) (by rw [List.size_toArray,← hl];exact h1) (by simpa using ew) ⟨rfl,fin⟩) hs
theorem aNG:IxR X aTC:=by
  intro value slice pins s σ H x y v u Q I rx ry h hs
  obtain ⟨z,i,c,rfl,rfl,hz,he,q⟩:=h
  obtain ⟨t,rfl⟩:=rx
  obtain ⟨t',rfl⟩:=ry
  obtain ⟨j,h1,h2,h3,h4,h5⟩:=aoV he
  have hl:z.cps.toList.length=z.length:=by simp [Str.length]
  rw [hl] at h1 h4 h5
  have hn:=afK
  exact tail_any (typeIs_str s z t) slot_str_getitem.lookup (getItem_str (c:=c) (by
    have e1:decide (i < -(2 ^ 63:Int))=false:=decide_eq_false (by omega)
    have e2:decide (i≥2 ^ 63)=false:=decide_eq_false (by omega)
    rw [e1,e2,Bool.or_false]) (by rw [h1];simpa using h2) ⟨.str ⟨#[c]⟩,H,I.tok _,⟨_,rfl⟩,q⟩) hs
def rIx (K:PySem.W.Frag):R2:=fun x y H Q=>aTA K x y H Q∨aTB K x y H Q∨aTC x y H Q
theorem aNH:IxR X (rIx X.K):=aGC.or (aNF.or aNG)
theorem avM (its:List Value) (n j:Nat) (u:Value):Obj.mapSeq (·.setIfInBounds j u) { cls := .type "list",data := .seq its.toArray n }={ cls := .type "list",data := .seq (its.set j u).toArray n }:=by
  simp [Obj.mapSeq]
theorem Inv.lst {pins:List (Addr×Obj)} {σ:St} {H:Hp} {s:Shared} {p:Addr} {xs:List V} (I:Inv X pins σ H s) (h:H p=some (.lst xs)) :
    ∃ (its:List Value) (n:Nat),Vals xs its∧s.heap.get? p=some { cls := .type "list",data := .seq its.toArray n }∧xs.length≤sizeLine:=by
  obtain ⟨z,its,n,r,e⟩:=I.hok p _ h
  exact ⟨its,n,r,e,z⟩
theorem Inv.aNI {pins:List (Addr×Obj)} {σ:St} {H:Hp} {s:Shared} {p:Addr} {xs ys:List V} {its its':List Value} {n n':Nat} {f:Obj→Obj} (I:Inv X pins σ H s) (h:H p=some (.lst xs))
    (ho:s.heap.get? p=some { cls := .type "list",data := .seq its.toArray n }) (hf:f { cls := .type "list",data := .seq its.toArray n }={ cls := .type "list",data := .seq its'.toArray n' }) (r:Vals ys its') (hz:ys.length≤sizeLine) (t:Nat) :
    Inv X pins σ (upd H p (.lst ys)) { s with heap:=s.heap.update p f,toks:=t }:=by
  have e:(s.heap.update p f).get? p=some { cls := .type "list",data := .seq its'.toArray n' }:=by
    rw [Heap.get?_update_self f ho (by rw [hf] <;> rfl),hf]
  refine I.write (x:=p) (e:=p) (by rw [h];trivial) (.inl rfl) (fun b u hb q=>(Heap.get?_update_other _ _ (Ne.symm hb)).trans q) ⟨_,e⟩ ?_
  exact ⟨hz,its',n',r,e⟩
def aTD:V→V→V→Hp→(Hp→Prop)→Prop:=fun o i v H Q=>∃ p xs k j,o = .ref p∧i = .int k∧H p=some (.lst xs)∧ixN xs.length k=some j∧Q (upd H p (.lst (xs.set j v)))
theorem set_list:aSO X aTD:=by
  intro pins s σ H o i v ov iv u Q I ro ri rv h
  obtain ⟨p,xs,k,j,rfl,rfl,hp,hj,q⟩:=h
  cases ro
  obtain ⟨t,rfl⟩:=ri
  obtain ⟨its,n,r,ho,hz⟩:=I.lst hp
  obtain ⟨h1,h2,h3,h4⟩:=axM hj
  have hl:=r.length
  have hn:=afK
  have I':Inv X pins σ (upd H p (.lst (xs.set j v))) { s with heap:=s.heap.update p (Obj.mapSeq (·.setIfInBounds j u)) } :=
    I.aNI hp ho (avM its n j u) (r.set rv j) (by rw [List.length_set];exact hz) s.toks
  by_cases h0:0≤k
  · have hk:k.toNat=j:=by
      rw [seqIndex_of h0 h4] at h1
      exact Option.some.inj h1
    exact PySem.W.ki_setAt ho h0 (by omega) (by rw [List.size_toArray,← hl];exact h4) (by rw [hk];exact ⟨_,I',q⟩)
  · have hk:(k+(its.toArray.size:Int)).toNat=j:=by
      rw [seqIndex_neg (by omega) h3] at h1
      rw [List.size_toArray,← hl]
      exact Option.some.inj h1
    exact PySem.W.ki_setBack ho (by omega) (by rw [List.size_toArray,← hl];exact h3) (by omega) (by rw [hk];exact ⟨_,I',q⟩)
theorem aoX (lo hi:Option Int) (n:Nat):(sliceBounds lo hi none n).1=((HT.uU n 0 lo:Nat):Int)∧(sliceBounds lo hi none n).2.1=((HT.uU n n hi:Nat):Int)∧(sliceBounds lo hi none n).2.2=1:=by
  refine ⟨?_,?_,rfl⟩
  · cases lo with
    | none=>simp [sliceBounds,HT.uU]
    | some i =>
      simp only [sliceBounds,HT.uU,Option.getD_none,show (1:Int) > 0 by decide,if_true]
      by_cases h:i < 0
      · simp only [h,if_true] <;> omega
      · simp only [h,if_false] <;> omega
  · cases hi with
    | none=>simp [sliceBounds,HT.uU]
    | some i =>
      simp only [sliceBounds,HT.uU,Option.getD_none,show (1:Int) > 0 by decide,if_true]
      by_cases h:i < 0
      · simp only [h,if_true] <;> omega
      · simp only [h,if_false] <;> omega
theorem amK (its:List Value) (lo hi:Option Int):slicePick its.toArray lo hi none=((its.drop (HT.uU its.length 0 lo)).take (HT.uU its.length its.length hi - HT.uU its.length 0 lo)).toArray:=by
  obtain ⟨h1,h2,h3⟩:=aoX lo hi its.toArray.size
  unfold slicePick
  rw [h1,h2,h3]
  simp only [sliceRange_one,pick_run,List.size_toArray] <;> rfl
def aYD (K:PySem.W.Frag):V→Option Int→Option Int→Hp→VK→Prop:=fun x lo hi H Q=>∃ a xs,x = .ref a∧SqL K H a xs∧∀ p,H p=none→Q (.ref p) (upd H p (.lst (amJ xs lo hi)))
theorem aGD:SlR X (aYD X.K):=by
  intro pins s σ H x v vl vu lo hi sl Q I rx hs pl pu h
  obtain ⟨a,xs,rfl,hx,q⟩:=h
  cases rx
  obtain ⟨its,r,ht,hz⟩:=I.list hx
  have hlen:=r.length
  refine ⟨"list",_,slot_list_getitem.lookup,ht.isList.typeIs,?_⟩
  refine wpAny_getItem_list_slice ht.isList hs pl pu .none (by simp) ?_ (by rw [List.size_toArray] <;> omega)
  rw [amK,← hlen]
  refine ⟨.ref s.heap.objs.size,_,I.laid (t':=s.toks) (o := .lst (amJ xs lo hi)) (fun b ob q=>Heap.get?_push_of_some _ q) (Nat.le_refl _) ?_,rfl,q _ (I.hok.fresh (Nat.le_refl _))⟩
  exact ⟨Nat.le_trans (ah8 xs lo hi) hz,_,0,(r.drop (HT.uU xs.length 0 lo)).take (HT.uU xs.length xs.length hi - HT.uU xs.length 0 lo),Heap.get?_push_size _ rfl⟩
def a7Q:V→Bool
  | .non=>true
  | .bl _=>true
  | .int _=>true
  | .str _=>true
  | _=>false
def eqV:V→V→Bool
  | .non,.non=>true
  | .bl a,.bl b=>a == b
  | .bl a,.int b=>(if a then 1 else 0) == b
  | .int a,.bl b=>a == (if b then 1 else 0)
  | .int a,.int b=>a == b
  | .str a,.str b=>a == b
  | _,_=>false
theorem afN {A:Around} {s:Shared} {y x:V} {u v:Value} (ry:RelV y u) (rx:RelV x v) (fy:a7Q y=true) (fx:a7Q x=true):SeqAt.EqAt A s u v (eqV y x):=by
  cases y with
  | non =>
    cases ry
    cases x with
    | non=>cases rx;exact SeqAt.EqAt.same _
    | bl b=>cases rx;exact SeqAt.EqAt.none_bool b
    | int b=>obtain ⟨t,rfl⟩:=rx;exact SeqAt.EqAt.none_int b t
    | str b=>obtain ⟨t,rfl⟩:=rx;exact SeqAt.EqAt.none_str b t
    | _=>exact absurd (show false=true from fx) Bool.false_ne_true
  | bl a =>
    cases ry
    cases x with
    | non=>cases rx;exact SeqAt.EqAt.bool_none a
    | bl b=>cases rx;exact SeqAt.EqAt.bool_bool a b
    | int b=>obtain ⟨t,rfl⟩:=rx;exact SeqAt.EqAt.bool_int a b t
    | str b=>obtain ⟨t,rfl⟩:=rx;exact SeqAt.EqAt.bool_str a b t
    | _=>exact absurd (show false=true from fx) Bool.false_ne_true
  | int a =>
    obtain ⟨t',rfl⟩:=ry
    cases x with
    | non=>cases rx;exact SeqAt.EqAt.int_none a t'
    | bl b=>cases rx;exact SeqAt.EqAt.int_bool a t' b
    | int b=>obtain ⟨t,rfl⟩:=rx;exact SeqAt.EqAt.int_int a t' b t
    | str b=>obtain ⟨t,rfl⟩:=rx;exact SeqAt.EqAt.int_str a t' b t
    | _=>exact absurd (show false=true from fx) Bool.false_ne_true
  | str a =>
    obtain ⟨t',rfl⟩:=ry
    cases x with
    | non=>cases rx;exact SeqAt.EqAt.str_none a t'
    | bl b=>cases rx;exact SeqAt.EqAt.str_bool a t' b
    | int b=>obtain ⟨t,rfl⟩:=rx;exact SeqAt.EqAt.str_int a t' b t
    | str b=>obtain ⟨t,rfl⟩:=rx;exact SeqAt.EqAt.str_str a t' b t
    | _=>exact absurd (show false=true from fx) Bool.false_ne_true
  | _=>exact absurd (show false=true from fy) Bool.false_ne_true
def eqU (x:V) (u:Value):Bool:=match u with
  | .none=>eqV .non x
  | .bool b=>eqV (.bl b) x
  | .int i _=>eqV (.int i) x
  | .str z _=>eqV (.str z) x
  | _=>false
theorem aBP {x y:V} {u:Value} (r:RelV y u) (f:a7Q y=true):eqU x u=eqV y x:=by
  cases y with
  | non=>cases r;rfl
  | bl b=>cases r;rfl
  | int i=>obtain ⟨t,rfl⟩:=r;rfl
  | str z=>obtain ⟨t,rfl⟩:=r;rfl
  | _=>exact absurd (show false=true from f) Bool.false_ne_true
theorem adJ {x:V}:∀ {xs:List V} {us:List Value},Vals xs us→xs.all a7Q=true→us.any (eqU x)=xs.any fun y=>eqV y x
  | _,_,.nil,_=>rfl
  | y :: xs,u :: us,.cons r t,f=>by
    rw [List.all_cons,Bool.and_eq_true] at f
    rw [List.any_cons,List.any_cons,aBP r f.1,adJ t f.2]
theorem a8T {A:Around} {s:Shared} {x:V} {v:Value} (rx:RelV x v) (fx:a7Q x=true):∀ {xs:List V} {us:List Value},Vals xs us→xs.all a7Q=true→∀ u∈us,SeqAt.EqAt A s u v (eqU x u)
  | _,_,.nil,_=>fun u hu=>by cases hu
  | y :: xs,u :: us,.cons r t,f=>fun u' hu=>by
    rw [List.all_cons,Bool.and_eq_true] at f
    rcases List.mem_cons.mp hu with rfl | hu
    · rw [aBP r f.1];exact afN r rx f.1 fx
    · exact a8T rx fx t f.2 u' hu
def inV (x:V) (xs:List V):Bool:=xs.any fun y=>eqV y x
def rIn (K:PySem.W.Frag) (neg:Bool):R2:=fun x y H Q=>∃ p xs,y = .ref p∧(SqL K H p xs∨SqT K H p xs)∧a7Q x=true∧xs.all a7Q=true∧Q (.bl (if neg then !inV x xs else inV x xs)) H
theorem azI:OpR X (compareOp .In) (rIn X.K false):=by
  intro pins s σ H x y v u Q I rx ry h
  obtain ⟨p,xs,rfl,hq,fx,fs,q⟩:=h
  cases ry
  rcases hq with hq | hq
  · obtain ⟨its,r,pl,hz⟩:=I.list hq
    refine SeqAt.in_listAt (eqU x) pl.isList (fun w hw=>a8T rx fx r fs w (by simpa using hw)) ⟨.bl _,H,I,rfl,?_⟩
    rw [show its.toArray.any (eqU x)=its.any (eqU x) by simp,adJ r fs]
    exact q
  · obtain ⟨its,r,pl,hz⟩:=I.tuple hq
    refine SeqAt.in_tupleAt (eqU x) pl (fun w hw=>a8T rx fx r fs w (by simpa using hw)) ⟨.bl _,H,I,rfl,?_⟩
    rw [show its.toArray.any (eqU x)=its.any (eqU x) by simp,adJ r fs]
    exact q
theorem aoY:OpR X (compareOp .NotIn) (rIn X.K true):=by
  intro pins s σ H x y v u Q I rx ry h
  obtain ⟨p,xs,rfl,hq,fx,fs,q⟩:=h
  cases ry
  rcases hq with hq | hq
  · obtain ⟨its,r,pl,hz⟩:=I.list hq
    refine SeqAt.notIn_listAt (eqU x) pl.isList (fun w hw=>a8T rx fx r fs w (by simpa using hw)) ⟨.bl _,H,I,rfl,?_⟩
    rw [show its.toArray.any (eqU x)=its.any (eqU x) by simp,adJ r fs]
    exact q
  · obtain ⟨its,r,pl,hz⟩:=I.tuple hq
    refine SeqAt.notIn_tupleAt (eqU x) pl (fun w hw=>a8T rx fx r fs w (by simpa using hw)) ⟨.bl _,H,I,rfl,?_⟩
    rw [show its.toArray.any (eqU x)=its.any (eqU x) by simp,adJ r fs]
    exact q
theorem aoZ:a8Q X (.builtin "len") (fun xs H Q=>∃ p ys,xs=[.ref p]∧(SqL X.K H p ys∨SqT X.K H p ys)∧Q (.int ys.length) H):=by
  intro pins s σ H xs us Q I r h
  obtain ⟨p,ys,rfl,hq,q⟩:=h
  obtain ⟨u,rfl,rx⟩:=vals1 r
  cases rx
  have hn:=afK
  rcases hq with hq | hq
  · obtain ⟨its,r',pl,hz⟩:=I.list hq
    have hlen:=r'.length
    exact Calls.call_len_list pl.isList (by simp only [List.size_toArray] <;> omega) ⟨.int ys.length,H,I.tok _,⟨s.toks+1,by rw [List.size_toArray,hlen]⟩,q⟩
  · obtain ⟨its,r',pl,hz⟩:=I.tuple hq
    have hlen:=r'.length
    exact len_tuple pl (by simp only [List.size_toArray] <;> omega) ⟨.int ys.length,H,I.tok _,⟨s.toks+1,by rw [List.size_toArray,hlen]⟩,q⟩
theorem ap0:a8Q X (.builtin "len") (fun xs H Q=>∃ z,xs=[.str z]∧z.length≤sizeLine∧Q (.int z.length) H):=by
  intro pins s σ H xs us Q I r h
  obtain ⟨z,rfl,hz,q⟩:=h
  obtain ⟨u,rfl,t,rfl⟩:=vals1 r
  have hn:=afK
  exact len_str (by omega) ⟨.int z.length,H,I.tok _,⟨_,rfl⟩,q⟩
theorem a8Q.or {f:Value} {r r':List V→Hp→VK→Prop} (h:a8Q X f r) (h':a8Q X f r'):a8Q X f (fun xs H Q=>r xs H Q∨r' xs H Q):=by
  intro pins s σ H xs us Q I rs q
  rcases q with q | q
  · exact h pins s σ H xs us Q I rs q
  · exact h' pins s σ H xs us Q I rs q
theorem ap1:a8Q X (.type "list") (fun xs H Q=>∃ p ys,xs=[.ref p]∧(SqL X.K H p ys∨SqT X.K H p ys)∧∀ l,H l=none→Q (.ref l) (upd H l (.lst ys))):=by
  intro pins s σ H xs us Q I r h
  obtain ⟨p,ys,rfl,hq,q⟩:=h
  obtain ⟨u,rfl,rx⟩:=vals1 r
  cases rx
  have fin:∀ (its:List Value),Vals ys its→ys.length≤sizeLine→∀ (h':Heap) (c':Nat),(∀ b o',s.heap.get? b=some o'→h'.get? b=some o') →
      h'.get? s.heap.objs.size=some { cls := .type "list",dict:=none,data := .seq its.toArray c',slots:=#[] }→EP X pins σ Q (.ref s.heap.objs.size) { s with heap:=h' }:=fun its r' hz h' c' kp e =>
    ⟨.ref s.heap.objs.size,_,I.laid (t':=s.toks) kp (Nat.le_refl _) (show pW X.prog X.w _ h' _ (.lst ys) from ⟨hz,its,c',r',e⟩),rfl,q _ (I.hok.fresh (Nat.le_refl _))⟩
  rcases hq with hq | hq
  · obtain ⟨its,r',pl,hz⟩:=I.list hq
    have hlen:=r'.length
    obtain ⟨o,ho,hc,n,hd⟩:=pl.isList
    exact call_list_seq p (.inl rfl) ho hc hd (fun h' c' kp e=>fin its r' hz h' c' kp e) (by simp only [List.size_toArray] <;> omega)
  · obtain ⟨its,r',pl,hz⟩:=I.tuple hq
    have hlen:=r'.length
    obtain ⟨o,ho,hc,n,hd⟩:=pl
    exact call_list_seq p (.inr rfl) ho hc hd (fun h' c' kp e=>fin its r' hz h' c' kp e) (by simp only [List.size_toArray] <;> omega)
theorem amL:a8Q X (.type "tuple") (fun xs H Q=>∃ p ys,xs=[.ref p]∧((SqL X.K H p ys∧∀ l,H l=none→Q (.ref l) (upd H l (.tup ys)))∨(SqT X.K H p ys∧Q (.ref p) H))):=by
  intro pins s σ H xs us Q I r h
  obtain ⟨p,ys,rfl,h⟩:=h
  obtain ⟨u,rfl,rx⟩:=vals1 r
  cases rx
  rcases h with ⟨hq,q⟩ | ⟨hq,q⟩
  · obtain ⟨its,r',pl,hz⟩:=I.list hq
    have hlen:=r'.length
    refine call_tuple_list pl.isList (fun h' kp=>?_) (by simp only [List.size_toArray] <;> omega)
    have I1:Inv X pins σ H { s with heap:=h' }:=I.kept (t':=s.toks) kp
    have I2:Inv X pins σ (upd H h'.objs.size (.tup ys)) { s with heap:=h'.push { cls := .type "tuple",data := .seq its.toArray } } :=
      I1.laid (t':=s.toks) (fun b o e=>Heap.get?_push_of_some _ e) (Nat.le_refl _) (show pW X.prog X.w _ _ _ (.tup ys) from ⟨hz,its,r',IsTup.new _ _⟩)
    exact ⟨.ref h'.objs.size,_,I2,rfl,q _ (I1.hok.fresh (Nat.le_refl _))⟩
  · obtain ⟨its,r',pl,hz⟩:=I.tuple hq
    exact call_tuple_same pl ⟨.ref p,H,I,rfl,q⟩
def tyV (K:PySem.W.Frag) (T:String) (x:V) (H:Hp):Prop:=match x with
  | .str _=>T = "str"
  | .int _=>T = "int"
  | .ref p=>(T = "list" ∧ ∃ xs,SqL K H p xs)∨(T = "tuple" ∧ ∃ o,K.lookup p=some o∧o.cls = .type "tuple" ∧ o.dict=none) ∨
      (T = "dict" ∧ ((∃ kvs,H p=some (.dK kvs))∨∃ kvs,H p=some (.dT kvs)))∨(T = "set" ∧ ∃ S n,H p=some (.set S n))
  | _=>False
theorem aBQ {pins:List (Addr×Obj)} {σ:St} {H:Hp} {s:Shared} {T:String} {x:V} {v:Value} (I:Inv X pins σ H s) (r:RelV x v) (ty:tyV X.K T x H) :
    s.TypeIs v T∧∀ a,v = .ref a→∃ ob,s.heap.get? a=some ob∧ob.dict=none:=by
  cases x with
  | str z =>
    obtain ⟨t,rfl⟩:=r
    cases (show T = "str" from ty)
    exact ⟨typeIs_str s z t,fun _ e=>nomatch e⟩
  | int i =>
    obtain ⟨t,rfl⟩:=r
    cases (show T = "int" from ty)
    exact ⟨typeIs_int s i t,fun _ e=>nomatch e⟩
  | ref p =>
    cases r
    rcases ty with ⟨rfl,xs,hq⟩ | ⟨rfl,o,hk,hc,hd⟩ | ⟨rfl,hk⟩ | ⟨rfl,S,n,hk⟩
    · obtain ⟨its,_,pl,_⟩:=I.list hq
      refine ⟨pl.isList.typeIs,fun a e=>?_⟩
      cases e
      obtain ⟨o,n,e,c,hd,_⟩:=pl
      exact ⟨o,e,hd⟩
    · refine ⟨⟨o,I.kIn p o hk,hc⟩,fun a e=>?_⟩
      cases e
      exact ⟨o,I.kIn _ o hk,hd⟩
    · have z:∃ o,s.heap.get? p=some o∧o.ExactDict:=by
        rcases hk with ⟨kvs,hk⟩ | ⟨kvs,hk⟩
        · obtain ⟨_,_,_,_,o,_,_,e,ex,_⟩:=I.hok p _ hk
          exact ⟨o,e,ex⟩
        · obtain ⟨_,_,_,_,o,_,_,e,ex,_⟩:=I.hok p _ hk
          exact ⟨o,e,ex⟩
      obtain ⟨o,e,ex⟩:=z
      refine ⟨⟨o,e,ex.1⟩,fun a e2=>?_⟩
      cases e2
      exact ⟨o,e,ex.2.1⟩
    · obtain ⟨o,_,_,_,e,ex,_⟩:=I.hok p _ hk
      refine ⟨⟨o,e,ex.1⟩,fun a e2=>?_⟩
      cases e2
      exact ⟨o,e,ex.2.1⟩
  | _=>exact False.elim ty
variable {o e:Expr} {es:List Expr} {to:TE} {t:TA} {name:Str} {apos cpos:Pos} {T id:String} {r:V→List V→Hp→VK→Prop}
end
end
section
def MtM (X:Cx) (id:String) (r:V→List V→Hp→VK→Prop):Prop :=
  ∀ (pins:List (Addr×Obj)) (s:Shared) (σ:St) (H:Hp) (x:V) (xs:List V) (v:Value) (us:List Value) (Q:VK),Inv X pins σ H s→RelV x v→Vals xs us→r x xs H Q →
    wpAny (model X.prog X.w) X.A (call (.builtin id) (v :: us)) (EP X pins σ Q) X.xe s
theorem Vals.one:∀ {x:V} {us:List Value},Vals [x] us→∃ u,us=[u]∧RelV x u
  | _,_,.cons r .nil=>⟨_,rfl,r⟩
theorem Vals.two:∀ {x y:V} {us:List Value},Vals [x,y] us→∃ u v,us=[u,v]∧RelV x u∧RelV y v
  | _,_,_,.cons r (.cons q .nil)=>⟨_,_,rfl,r,q⟩
theorem Vals.zero:∀ {us:List Value},Vals [] us→us=[]
  | _,.nil=>rfl
theorem Vals.dropLast {xs:List V} {us:List Value} (h:Vals xs us):Vals xs.dropLast us.dropLast:=by
  induction h with
  | nil=>exact .nil
  | cons r t ih =>
    cases t with
    | nil=>exact .nil
    | cons q t'=>exact .cons r ih
theorem Vals.eraseIdx:∀ {xs:List V} {us:List Value} (i:Nat),Vals xs us→Vals (xs.eraseIdx i) (us.eraseIdx i)
  | _,_,_,.nil => .nil
  | _,_,0,.cons _ t=>t
  | _,_,i+1,.cons r t => .cons r (Vals.eraseIdx i t)
theorem Vals.reverse {xs:List V} {us:List Value} (h:Vals xs us):Vals xs.reverse us.reverse:=by
  induction h with
  | nil=>exact .nil
  | cons r t ih=>rw [List.reverse_cons,List.reverse_cons];exact Vals.append ih (.cons r .nil)
theorem avO {α:Type} (l:List α):l.eraseIdx (l.length - 1)=l.dropLast:=by
  induction l with
  | nil=>rfl
  | cons a r ih =>
    cases r with
    | nil=>rfl
    | cons b r =>
      have e:(a :: b :: r).length - 1=((b :: r).length - 1)+1:=by
        have h1:(a :: b :: r).length=r.length+2:=rfl
        have h2:(b :: r).length=r.length+1:=rfl
        omega
      rw [e,List.eraseIdx_cons_succ,ih]
      all_goals rfl
section
variable {X:Cx} {pins:List (Addr×Obj)} {σ:St} {H:Hp} {s:Shared} {l b:Addr} {xs ys zs:List V}
theorem Inv.aNJ {its its':List Value} {n:Nat} {f:Array Value→Array Value} {t':Nat} (I:Inv X pins σ H s) (hH:H l=some (.lst xs))
    (e:s.heap.get? l=some { cls := .type "list",data := .seq its.toArray n }) (hf:f its.toArray=its'.toArray) (hv:Vals ys its') (hz:ys.length≤sizeLine) :
    Inv X pins σ (upd H l (.lst ys)) { s with heap:=s.heap.update l (Obj.mapSeq f),toks:=t' }:=by
  have q:=PySem.IsL.update e f
  rw [hf] at q
  refine I.write (x:=l) (e:=l) (by rw [hH];exact trivial) (.inl rfl) (fun b' u hb hu=>(Heap.get?_update_other s.heap (Obj.mapSeq f) (Ne.symm hb)).trans hu) ⟨_,q⟩ ?_
  exact ⟨hz,its',_,hv,q⟩
theorem Inv.aTE {its:List Value} {t':Nat} (I:Inv X pins σ H s) (hv:Vals ys its) (hz:ys.length≤sizeLine) :
    Inv X pins σ (upd H s.heap.objs.size (.lst ys)) { s with heap:=s.heap.push { cls := .type "list",data := .seq its.toArray },toks:=t' } :=
  I.laid (fun _ _ q=>Heap.get?_push_of_some _ q) (Nat.le_refl _) ⟨hz,its,0,hv,Heap.get?_push_size _ rfl⟩
theorem Inv.fresh (I:Inv X pins σ H s):H s.heap.objs.size=none:=I.hok.fresh (Nat.le_refl _)
theorem Inv.azJ (I:Inv X pins σ H s) (hH:H l=some (.lst xs)):xs.length≤sizeLine∧∃ (its:List Value) (n:Nat),Vals xs its∧xs.length=its.length∧s.heap.get? l=some { cls := .type "list",data := .seq its.toArray n }:=by
  obtain ⟨z,its,n,r,e⟩:=I.hok l _ hH
  exact ⟨z,its,n,r,r.length,e⟩
theorem aBR {n:Nat} (h:n≤sizeLine):Builtin.List.listTooLong n=false:=by
  unfold Builtin.List.listTooLong
  exact decide_eq_false (by omega)
end
section
variable {X:Cx}
def aGE:V→List V→Hp→VK→Prop:=fun x vs H Q=>∃ l xs y,x = .ref l∧vs=[y]∧H l=some (.lst xs)∧xs.length < sizeLine∧Q .non (upd H l (.lst (xs++[y])))
theorem anH:MtM X "list.append" aGE:=by
  intro pins s σ H x vs v us Q I rx rv h
  obtain ⟨l,xs,y,rfl,rfl,hH,hz,q⟩:=h
  cases rx
  obtain ⟨u,rfl,ru⟩:=rv.one
  obtain ⟨z,its,n,r,hl,e⟩:=I.azJ hH
  refine call_meets F.slot_list_append ⟨_,e,rfl⟩ F.entry_list_append (F.args_list_append_2 _ _) (PySem.list_append l its.toArray n u (by rw [List.size_toArray];omega)) ⟨e,?_⟩
  refine ⟨.non,_,I.aNJ (its':=its++[u]) hH e (by simp) (r.append (.cons ru .nil)) ?_,rfl,q⟩
  rw [List.length_append,List.length_singleton]
  omega
def aGF:V→List V→Hp→VK→Prop:=fun x vs H Q=>∃ l b xs zs,x = .ref l∧vs=[.ref b]∧H l=some (.lst xs)∧H b=some (.lst zs)∧xs.length+zs.length≤sizeLine∧Q .non (upd H l (.lst (xs++zs)))
theorem aS2:MtM X "list.extend" aGF:=by
  intro pins s σ H x vs v us Q I rx rv h
  obtain ⟨l,b,xs,zs,rfl,rfl,hH,hB,hz,q⟩:=h
  cases rx
  obtain ⟨u,rfl,ru⟩:=rv.one
  cases ru
  obtain ⟨z,its,n,r,hl,e⟩:=I.azJ hH
  obtain ⟨z2,its2,n2,r2,hl2,e2⟩:=I.azJ hB
  have hsz:its.toArray.size+its2.toArray.size≤sizeLine:=by rw [List.size_toArray,List.size_toArray];omega
  have aTF:¬ (!its.toArray.isEmpty&&Builtin.List.listTooLong (its.toArray.size+its2.toArray.size))=true:=by
    rw [aBR hsz,Bool.and_false]
    exact Bool.false_ne_true
  refine call_meets F.slot_list_extend ⟨_,e,rfl⟩ F.entry_list_extend (F.args_list_extend_2 _ _)
    (AutoSeq1.list_extend_list_list_0 l its.toArray n b its2.toArray n2 aTF (by rw [List.size_toArray];omega) (by omega)) ⟨e,e2,?_⟩
  refine ⟨.non,_,I.aNJ (its':=its++its2) hH e (by simp) (r.append r2) ?_,rfl,q⟩
  rw [List.length_append]
  omega
def aYF:V→List V→Hp→VK→Prop:=fun x vs H Q=>∃ l xs y,x = .ref l∧vs=[]∧H l=some (.lst xs)∧xs[xs.length - 1]?=some y∧Q y (upd H l (.lst xs.dropLast))
theorem aNK:MtM X "list.pop" aYF:=by
  intro pins s σ H x vs v us Q I rx rv h
  obtain ⟨l,xs,y,rfl,rfl,hH,hy,q⟩:=h
  cases rx
  have hus:=rv.zero
  subst hus
  obtain ⟨z,its,n,r,hl,e⟩:=I.azJ hH
  obtain ⟨u,hu,ru⟩:=r.get hy
  have hy':its.toArray[its.toArray.size - 1]?=some u:=by
    show its.toArray[its.length - 1]?=some u
    rw [← Array.getElem?_toList,← hl]
    exact hu
  refine call_meets F.slot_list_pop ⟨_,e,rfl⟩ F.entry_list_pop (F.args_list_pop_1 _) (MeetsSeq.list_pop_last l its.toArray n u hy' (by rw [List.size_toArray];omega)) ⟨e,?_⟩
  refine ⟨y,_,I.aNJ (its':=its.dropLast) hH e ?_ r.dropLast ?_,ru,q⟩
  · show its.toArray.eraseIdxIfInBounds (its.toArray.size - 1)=its.dropLast.toArray
    rw [List.size_toArray,List.eraseIdxIfInBounds_toArray,avO]
  · rw [List.length_dropLast]
    omega
def aYG:R2:=fun x y H Q=>∃ l b xs zs,x = .ref l∧y = .ref b∧H l=some (.lst xs)∧H b=some (.lst zs)∧xs.length+zs.length≤sizeLine∧∀ p,H p=none→Q (.ref p) (upd H p (.lst (xs++zs)))
theorem aNL:OpR X (binaryOp .Add) aYG:=by
  intro pins s σ H x y v u Q I rx ry h
  obtain ⟨l,b,xs,zs,rfl,rfl,hH,hB,hz,q⟩:=h
  cases rx
  cases ry
  obtain ⟨z,its,n,r,hl,e⟩:=I.azJ hH
  obtain ⟨z2,its2,n2,r2,hl2,e2⟩:=I.azJ hB
  refine PySem.P.add_list e e2 ?_ (by rw [List.size_toArray,List.size_toArray];omega)
  have ea:its.toArray++its2.toArray=(its++its2).toArray:=by simp
  rw [ea]
  exact ⟨.ref _,_,I.aTE (t':=s.toks) (r.append r2) (by rw [List.length_append];omega),rfl,q _ I.fresh⟩
end
section
variable {prog:Program} {w:World} {A:Around} {E:Value→Shared→Prop} {s:Shared}
end
section
variable {X:Cx}
end
end
end L2
namespace Att
open PySem PySem.W PySem.Calls PyProof.Rows
theorem aiS {P:Params} {h:Heap}:∀ (ns:List Int) (vs:List Value),WellAll P h vs (ns.map WData.int)→IntsAre vs ns:=by
  intro ns
  induction ns with
  | nil =>
    intro vs w
    rw [List.map_nil] at w
    cases w
    exact .nil
  | cons n ns ih =>
    intro vs w
    rw [List.map_cons] at w
    cases w with
    | cons a b =>
      cases a
      exact .cons _ _ (ih _ b)
theorem azK {l:OpenLaw} {n:Nat} (hn:l.most=some n) {P:Params} {h:Heap} {args:List WData} {vals:List Value}
    (hpre:l.row.toRowW.claim.pre args=true) (hwl:WellAll P h vals args) :
    ∃ a vs ns,vals=[Value.ref a]∧args=[WData.list (ns.map WData.int)]∧h.get? a=some { cls := .type "list",data := .seq vs.toArray }∧IntsAre vs ns∧ns.length≤n:=by
  have hsh:WShape.hasAll [] args [.list .int]=true:=(pre_splitW hpre).1
  have hc:l.pre.holds [] { args:=args }=true:=(pre_splitW hpre).2
  obtain ⟨d,r,rfl,h1,h2⟩:=hasAllW_cons hsh
  obtain rfl:=hasAllW_nil h2
  obtain ⟨xs,rfl,h3⟩:=hasW_list h1
  obtain ⟨ns,rfl⟩:=items_int h3
  have hlen:ns.length≤n:=by
    unfold OpenLaw.pre at hc
    have h4:(WTm.not (.lt (.lit (.int (n:Int))) (.len (.arg 0)))).holds [] { args:=[.list (ns.map .int)] }=true:=by
      have h4:=(holds_andW hc).1
      rw [hn] at h4
      exact h4
    have h5:=condW_of h4 (w_not (w_lt w_lit (w_len_list (w_arg rfl))))
    rw [List.length_map] at h5
    refine Nat.le_of_not_lt fun q=>?_
    have q':(n:Int) < ((ns.length:Nat):Int):=by omega
    first
      | (rw [decide_eq_true q'] at h5;exact absurd h5 (by decide))
      | (simp at h5;omega)
  cases hwl with
  | cons w1 w2 =>
    cases w2
    cases w1 with
    | list ho hall=>exact ⟨_,_,ns,rfl,rfl,ho,aiS ns _ hall,hlen⟩
theorem azL (l:OpenLaw) (args:List WData):l.row.toRowW.claim.post args (.bool true) args=true :=
  postW_of (r:=l.row.toRowW) (X:=(true == true))
    (show WShape.has [] (.bool true) .bool=true by first | rfl | decide | simp [WShape.has,WShape.arms,WShape.armsAll])
    (show (WTm.eq .res (.lit (.bool true))).value [] { args:=args,res:=some (.bool true),after:=args }=some (.bool (true == true)) from w_eq_bool (w_res rfl) w_lit) rfl
theorem arS {l:OpenLaw} {n:Nat} {q:Program} {loose:List Str} {XP:(Str→Option Value)→Heap→Prop} {YP:World→Heap→Prop} {d:DefRec}
    (hn:l.most=some n) (hdf:d.params.defaults=[])
    (call:∀ (w:World) (s₀ s₁:Shared) (mg mb:Str→Option Value) (fa:Addr) (o:Obj) (pm cd doc:Value) (a:Addr) (vs:List Value) (ns:List Int),
      Ground q loose [] XP w s₀ mg mb s₁.heap→YP w s₁.heap →
      s₁.heap.get? fa=some o→o.data = .func (docDef d.name d.params d.body d.scope pm cd doc)→s₁.heap.CodeRec cd d.name→mg d.name=some (.ref fa) →
      s₁.heap.get? a=some { cls := .type "list",data := .seq vs.toArray }→IntsAre vs ns→ns.length≤n→s₁.gens=#[] →
      codeAny (model l.prog w) callerA (.call (.ref fa) ⟨[.ref a],[]⟩) (fun r s'=>r = .ok (.ret (.bool true))∧OldK s₁.heap s'.heap∧s'.os=s₁.os∧AllBare s'.gens) s₁) :
    WalkO q loose XP YP l.row.toRowW d [] (fun f vs=>PySem.call f vs):=by
  intro w s₀ s₁ mg mb G Y fa o pm cd doc dV kV ho hd hcd hD hmg hg args vals as hpre hlay hrd hwl hlo
  obtain rfl:dV = .none:=Dflts.none hD hdf
  obtain rfl:kV = .none:=Dflts.noKw hD
  obtain ⟨a,vs,ns,rfl,rfl,hobj,hints,hlen⟩:=azK hn hpre hwl
  refine enter_call (codeAny_mono (call w s₀ s₁ mg mb fa o pm cd doc a vs ns G Y ho (fd_plain hd) hcd hmg hobj hints hlen hg) fun r s' hq=>?_)
  obtain ⟨rfl,h2,h3,h4⟩:=hq
  exact ⟨.inl ⟨.bool true,.bool true,[],rfl,fun _=>rfl,.bool true,azL l _,fun _=>⟨List.Pairwise.nil,fun _ hm=>(nomatch hm)⟩⟩,h2,h3,h4⟩
section
variable {prog:Program} {w:World} {A:Around} {E:Value→Shared→Prop} {s:Shared} {K:Frag}
def ledger (h:Heap) (L d:Addr):List (Addr×Obj):=(List.range h.objs.size).filterMap fun a=>if a=L∨a=d then none else (h.get? a).map fun o=>(a,o)
end
end Att
namespace L2
open PySem PySem.Spec PyProof.Rows
section
theorem anI:∀ {vs:List Value} {ns:List Int},IntsAre vs ns→Vals (ns.map V.int) vs
  | _,_,.nil => .nil
  | _,_,.cons n t h => .cons ⟨t,rfl⟩ (anI h)
def Only (H:Hp):Prop:=∀ b,H b=none∨∃ o xs,H b=some (.frz o (.lst xs))
theorem aBS {P:Program} {w:World} {K:PySem.W.Frag} {mg mb:Str→Option Value} {CX:CXT} {k:Nat} {fa a:Addr} {fd:FuncData} {x:Str} {sp:Sp} {s₁:Shared} {vs:List Value} {ns:List Int}
    (KX:K.In s₁.heap) (hns:s₁.heap.Ns mainGlobals mg) (hb:s₁.heap.Ns builtinsNs mb) (hbb:∀ x:Str,x ≠ "__name__" → mb x=bootBuiltins x) (hlim:s₁.heap.NoLimit) (hg:s₁.gens=#[])
    (ha:s₁.heap.get? a=some { cls := .type "list",data := .seq vs.toArray }) (hi:IntsAre vs ns) (hl:ns.length≤sizeLine) (hr:pY qt k callerA)
    (F:∀ base:Heap,K.In base→base.Ns mainGlobals mg→fC qt P w K mg base CX k fa fd [x] sp) (hbind:∀ (s:Shared) (u:Value),BindsTo s fd ⟨[u],[]⟩ [(x,u)])
    (hsp:∀ H:Hp,Only H→SqL K H a (ns.map V.int)→sp [.ref a] H (fun v _=>v = .bl true) fun _ _ _=>False)
    (hCX:∀ H e s',CX [] H s₁ (fun _ _ _=>False) e s'→False) :
    codeAny (model P w) callerA (.call (.ref fa) ⟨[.ref a],[]⟩) (fun r s'=>r = .ok (.ret (.bool true))∧OldK s₁.heap s'.heap∧s'.os=s₁.os∧AllBare s'.gens) s₁:=by
  have rv:=anI hi
  have lenV:=hi.length
  have core:∀ H:Hp,Only H→SqL K H a (ns.map V.int)→HOk P w H s₁.heap→(∀ b,H b≠none→b=a)→(H a≠none→K.lookup a=none) →
      codeAny (model P w) callerA (.call (.ref fa) ⟨[.ref a],[]⟩) (fun r s'=>r = .ok (.ret (.bool true))∧OldK s₁.heap s'.heap∧s'.os=s₁.os∧AllBare s'.gens) s₁:=by
    intro H hO hS hok hA hK
    have axN:∀ {b:Addr} {o:Obj},s₁.heap.get? b=some o→H b=none→(aoM s₁.heap H).get? b=some o:=fun e n=>aB8 e n
    have noA:∀ {b:Addr} {o:Obj} {es:Array DictEntry} {ep:Nat},s₁.heap.get? b=some o→o.data = .dict es ep→H b=none:=fun {b o es ep} e d=>by
      cases q:H b with
      | none=>rfl
      | some u =>
        have e':b=a:=hA b (by rw [q];simp)
        subst e'
        rw [ha] at e;cases e
        have d':Data.seq vs.toArray _=Data.dict es ep:=d
        cases d'
    have nsK:∀ {b:Addr} {m:Str→Option Value},s₁.heap.Ns b m→(aoM s₁.heap H).Ns b m:=fun {b m} ⟨o,es,ep,e,d,r⟩=>⟨o,es,ep,axN e (noA e d),d,r⟩
    have hKb:K.In (aoM s₁.heap H):=fun b o e=>axN (KX b o e) (by
      cases q:H b with
      | none=>rfl
      | some u =>
        have e':b=a:=hA b (by rw [q];simp)
        subst e'
        rw [hK (by rw [q];simp)] at e;cases e)
    have hM:Mod K mg (aoM s₁.heap H):=⟨hKb,nsK hns,⟨mb,nsK hb,hbb⟩,let ⟨mc,h1,h2⟩:=hlim;⟨mc,nsK h1,h2⟩⟩
    have e0:amI P w K mg (aoM s₁.heap H) callerA [] s₁ H:=⟨rfl,hM,fun b o e=>aFK e,Nat.le_of_eq (az7 _ _),trivial,fun b hb=>absurd (show b∈([]:List Addr) from hb) (by simp),hok,.of_eq hg,.inl rfl⟩
    refine codeAny_mono ((F _ hKb (nsK hns)).run callerA [] s₁ H ⟨[.ref a],[]⟩ [.ref a] [.ref a] _ _ hr e0 (hbind s₁ (.ref a)) (.cons rfl .nil) (hsp H hO hS)) fun r s' h=>?_
    cases r with
    | error e=>exact (hCX H e s' h).elim
    | ok fl =>
      cases fl with
      | next=>exact False.elim h
      | brk=>exact False.elim h
      | cont=>exact False.elim h
      | ret u =>
        obtain ⟨v,H',os,bare,un,hok',r',q⟩:=h
        have q':v = .bl true:=q
        subst q'
        obtain rfl:u=Value.bool true:=r'
        refine ⟨rfl,OldK.of_keep fun b o e=>?_,os,bare⟩
        cases q:H b with
        | none=>exact un.keep b o e q (by intro z;exact absurd (show b∈([]:List Addr) from z) (by simp)) (by simp)
        | some u =>
          rcases hO b with z | ⟨ob,xs,z⟩
          · rw [q] at z;cases z
          · have z2:=un.uV b ob _ z
            obtain ⟨e1,_⟩:=hok b _ z
            obtain ⟨e2,_⟩:=hok' b _ z2
            rw [e] at e1;cases e1
            exact e2
  cases hk:K.lookup a with
  | some o =>
    have e:=KX a o hk
    rw [ha] at e
    cases e
    refine core (fun _=>none) (fun _ => .inl rfl) (.inr ⟨_,vs.toArray,_,hk,rfl,rfl,rfl,by rw [List.size_toArray,lenV];exact hl,by simpa using rv⟩) (fun b u z=>by have z':(none:Option HO)=some u:=z;cases z') (fun b z=>absurd rfl z) fun z=>absurd rfl z
  | none =>
    refine core (fun b=>if b=a then some (.frz { cls := .type "list",data := .seq vs.toArray } (.lst (ns.map V.int))) else none) (fun b=>?_) (.inl (.inr ⟨{ cls := .type "list",data := .seq vs.toArray },if_pos rfl⟩)) (fun b u z=>?_) (fun b z=>?_) fun _=>hk
    · by_cases hb:b=a
      · exact .inr ⟨_,_,if_pos hb⟩
      · exact .inl (if_neg hb)
    · by_cases hb:b=a
      · have z':=(if_pos hb).symm.trans z
        cases z'
        subst hb
        exact ⟨ha,by rw [List.length_map];exact hl,vs,_,rv,ha⟩
      · have z':=(if_neg hb).symm.trans z
        cases z'
    · by_cases hb:b=a
      · exact hb
      · exact absurd (if_neg hb) z
end
section
theorem aGG {l:PySem.W.OpenLaw} {n k:Nat} {q:Program} {loose:List Str} {XP:(Str→Option Value)→Heap→Prop} {YP:World→Heap→Prop} {d:DefRec} {K:Params→PySem.W.Frag} {CX:World→CXT} {sp:World→Sp} {x:Str}
    (hn:l.most=some n) (hn2:n≤sizeLine) (hdf:d.params.defaults=[]) (hr:pY qt k callerA)
    (hY:∀ (w:World) (h:Heap),YP w h→(K w.params).In h)
    (F:∀ (w:World) (mg:Str→Option Value) (fa:Addr) (h:Heap),(K w.params).In h→h.Ns mainGlobals mg→mg d.name=some (.ref fa) →
      ∃ fd:FuncData,(∀ (s:Shared) (u:Value),BindsTo s fd ⟨[u],[]⟩ [(x,u)]) ∧
        ∀ base:Heap,(K w.params).In base→base.Ns mainGlobals mg→fC qt l.prog w (K w.params) mg base (CX w) k fa fd [x] (sp w))
    (hsp:∀ (w:World) (H:Hp) (a:Addr) (ns:List Int),ns.length≤n→Only H→SqL (K w.params) H a (ns.map V.int)→sp w [.ref a] H (fun v _=>v = .bl true) fun _ _ _=>False)
    (hCX:∀ (w:World) (H:Hp) (s:Shared) (e:Value) (s':Shared),CX w [] H s (fun _ _ _=>False) e s'→False) :
    PySem.W.WalkO q loose XP YP l.row.toRowW d [] (fun f vs=>PySem.call f vs):=by
  refine Att.arS hn hdf fun w s₀ s₁ mg mb fa o pm cd doc a vs ns G Y ho hd hcd hmg hobj hints hlen hg=>?_
  have KX:=hY w _ Y
  obtain ⟨fd,hb,hF⟩:=F w mg fa _ KX G.T.g hmg
  exact aBS KX G.T.g G.T.b G.T.builtins G.T.nolimit hg hobj hints (Nat.le_trans hlen hn2) hr hF hb (fun H hO hS=>hsp w H a ns hlen hO hS) fun H e s'=>hCX w H s₁ e s'
end
section
def inClass (s:Stmt) (j:Nat):Stmt:=match s with
  | .ClassDef _ _ _ body _ _ _ _ _ _ _=>body.getD j (.Pass ⟨0,0,0,0⟩)
  | _ => .Pass ⟨0,0,0,0⟩
def aM (s:Stmt):Arguments:=match s with
  | .FunctionDef _ a _ _ _ _ _ _ _ _=>a
  | _=>{ posonlyargs:=[],args:=[],vararg:=none,kwonlyargs:=[],kw_defaults:=[],kwarg:=none,defaults:=[] }
def aF (s:Stmt):List Stmt:=match s with
  | .FunctionDef _ _ b _ _ _ _ _ _ _=>b
  | _=>[]
def aC (s:Stmt):Scope:=match s with
  | .FunctionDef _ _ _ _ _ _ sc _ _ _=>sc
  | _=>{ kind := .function,names:=[],isGenerator:=false,isCoroutine:=false }
abbrev CX0:CXT:=fun _ _ _ _ _ _=>False
structure Fun (K:PySem.W.Frag) (x qual:Str) (st:Stmt) (f:Addr) (fd:FuncData):Prop where
  ex:∃ (oc:Value) (od:Option Addr) (dV kV doc pm:Value) (an:Option Addr) (cdv ct:Value) (osl:Array (Option Value)),
    fd=PySem.W.fnOf x qual (aM st) (aF st) (aC st) dV kV doc pm an cdv ct∧K.lookup f=some ⟨oc,od,.func fd,osl⟩∧PySem.W.codeIn K cdv qual=true
  kp:PySem.W.keepIn K (.ref f)=true
section
variable {P:Program} {w:World} {K:PySem.W.Frag} {mg:Str→Option Value} {base:Heap}
theorem Fun.ok {x qual:Str} {st:Stmt} {f:Addr} {fd:FuncData} {N ps:List Str} {k:Nat} {sp:Sp} (F:Fun K x qual st f fd) (S:bQ N ps (aC st)) (len:∀ vs H Q E,sp vs H Q E→vs.length=ps.length)
    (hbody:∀ (cdv:Value) (A:Around) (outer:List Env) (s:Shared) (H:Hp) (vs:List V) (Q:VK) (E:XK),pY qt k (A.deeper (envOfC qual (aC st) s.heap.objs.size f cdv))→sp vs H Q E →
      ∃ t,PSs (a2F qt CX0 P w K mg base N qual (aC st) f cdv A outer s H E).nox (aF st) t∧t { nx:=fun _ H'=>Q .non H',rt:=Q } (start N vs) H):fC qt P w K mg base CX0 (k+1) f fd ps sp:=by
  obtain ⟨oc,od,dV,kV,doc,pm,an,cdv,ct,osl,rfl,lk,hcd⟩:=F.ex
  refine aKW lk hcd S len fun A outer s H vs Q E hr hsp=>?_
  obtain ⟨t,h,q⟩:=hbody cdv A outer s H vs Q E hr hsp
  exact ⟨t,h.nox,q⟩
theorem eF {x qual:Str} {st:Stmt} {f:Addr} {oc:Value} {od an:Option Addr} {osl:Array (Option Value)} {dV kV doc pm cdv ct:Value} (l:K.lookup f=some ⟨oc,od,.func (PySem.W.fnOf x qual (aM st) (aF st) (aC st) dV kV doc pm an cdv ct),osl⟩)
    (c:PySem.W.codeIn K cdv qual=true) (k:PySem.W.keepIn K (.ref f)=true):Fun K x qual st f (PySem.W.fnOf x qual (aM st) (aF st) (aC st) dV kV doc pm an cdv ct):=⟨⟨oc,od,dV,kV,doc,pm,an,cdv,ct,osl,rfl,l,c⟩,k⟩
end
section
variable {X:Cx}
end
theorem azM {c A B:Prop} [Decidable c] (h1:c→A) (h2:¬ c→B):if c then A else B:=by
  by_cases h:c
  · rw [if_pos h]
    exact h1 h
  · rw [if_neg h]
    exact h2 h
def Same (H H':Hp):Prop:=∀ b o,H b=some o→H' b=some o
theorem Same.refl (H:Hp):Same H H:=fun _ _ h=>h
theorem Same.trans {H H1 H2:Hp} (a:Same H H1) (b:Same H1 H2):Same H H2:=fun c o h=>b c o (a c o h)
theorem Same.free {H H':Hp} (e:Same H H') {l:Addr} (h:H' l=Option.none):H l=Option.none:=by
  cases q:H l with
  | none=>rfl
  | some o =>
    rw [e l o q] at h
    cases h
theorem Same.seq {K:PySem.W.Frag} {H H':Hp} {a:Addr} {xs:List V} (e:Same H H') (h:SqL K H a xs):SqL K H' a xs:=by
  rcases h with (h | ⟨o,h⟩) | h
  · exact .inl (.inl (e _ _ h))
  · exact .inl (.inr ⟨o,e _ _ h⟩)
  · exact .inr h
section
variable {X:Cx}
end
section
variable {κ:Type} [DecidableEq κ]
end
end
section
inductive D where
  | non | bl (b:Bool) | int (i:Int) | str (x:Str) | tup (xs:List D) | ref (a:Addr) | ty (n:String)
abbrev Fg:=PySem.W.Frag
mutual
inductive RD (K:Fg) (H:Hp):D→V→Prop where
  | non:RD K H .non .non
  | bl (b:Bool):RD K H (.bl b) (.bl b)
  | int (i:Int):RD K H (.int i) (.int i)
  | str (x:Str):RD K H (.str x) (.str x)
  | ty (n:String):RD K H (.ty n) (.ty n)
  | ref (a:Addr):RD K H (.ref a) (.ref a)
  | tup {a:Addr} {xs:List V} {ds:List D}:SqT K H a xs→iJ K H ds xs→H a=some (.tup xs)→RD K H (.tup ds) (.ref a)
inductive iJ (K:Fg) (H:Hp):List D→List V→Prop where
  | nil:iJ K H [] []
  | cons {d:D} {v:V} {ds:List D} {vs:List V}:RD K H d v→iJ K H ds vs→iJ K H (d :: ds) (v :: vs)
end
structure Ts (H H':Hp):Prop where
  tups:∀ a xs,H a=some (.tup xs)→H' a=some (.tup xs)
  uV:∀ a o u,H a=some (.frz o u)→H' a=some (.frz o u)
theorem Ts.refl (H:Hp):Ts H H:=⟨fun _ _ h=>h,fun _ _ _ h=>h⟩
theorem Ts.trans {H H1 H2:Hp} (a:Ts H H1) (b:Ts H1 H2):Ts H H2:=⟨fun c xs h=>b.tups c xs (a.tups c xs h),fun c o u h=>b.uV c o u (a.uV c o u h)⟩
theorem Ts.same {H H':Hp} (s:Same H H'):Ts H H':=⟨fun a _ h=>s a _ h,fun a _ _ h=>s a _ h⟩
theorem Ts.rd {H H':Hp} (t:Ts H H') {a:Addr} {xs:List V} (h:Rd H a (.tup xs)):Rd H' a (.tup xs):=by
  rcases h with h | ⟨o,h⟩
  · exact .inl (t.tups _ _ h)
  · exact .inr ⟨o,t.uV _ _ _ h⟩
theorem Ts.sqT {K:Fg} {H H':Hp} (t:Ts H H') {a:Addr} {xs:List V} (h:SqT K H a xs):SqT K H' a xs:=h.elim (fun q => .inl (t.rd q)) .inr
theorem cR {H:Hp} {p:Addr} {o:HO} (h:H p=none):Same H (upd H p o):=fun b u e=>by
  rw [eE (wA e h)];exact e
mutual
theorem RD.mono {K:Fg} {H H':Hp} (t:Ts H H'):∀ {d:D} {v:V},RD K H d v→RD K H' d v
  | _,_,.non => .non
  | _,_,.bl b => .bl b
  | _,_,.int i => .int i
  | _,_,.str x => .str x
  | _,_,.ty n => .ty n
  | _,_,.ref a => .ref a
  | _,_,.tup h r e => .tup (t.sqT h) (iJ.mono t r) (t.tups _ _ e)
theorem iJ.mono {K:Fg} {H H':Hp} (t:Ts H H'):∀ {ds:List D} {vs:List V},iJ K H ds vs→iJ K H' ds vs
  | _,_,.nil => .nil
  | _,_,.cons h r => .cons (RD.mono t h) (iJ.mono t r)
end
section
variable {K:Fg} {H:Hp}
theorem iJ.length:∀ {ds:List D} {vs:List V},iJ K H ds vs→ds.length=vs.length
  | _,_,.nil=>rfl
  | _,_,.cons _ r=>congrArg (·+1) (iJ.length r)
theorem iJ.append:∀ {ds:List D} {vs:List V} {es:List D} {ws:List V},iJ K H ds vs→iJ K H es ws→iJ K H (ds++es) (vs++ws)
  | _,_,_,_,.nil,s=>s
  | _,_,_,_,.cons h r,s => .cons h (iJ.append r s)
theorem iJ.get:∀ {ds:List D} {vs:List V} {i:Nat} {d:D},iJ K H ds vs→ds[i]?=some d→∃ v,vs[i]?=some v∧RD K H d v
  | _,_,_,_,.nil,e=>by simp at e
  | _,_,0,_,.cons r _,e=>by simp at e;subst e;exact ⟨_,rfl,r⟩
  | _,_,i+1,d,.cons _ t,e=>by
    obtain ⟨u,h1,h2⟩:=iJ.get (i:=i) (d:=d) t (by simpa using e)
    exact ⟨u,by simpa using h1,h2⟩
theorem iJ.aGH:∀ {ds:List D} {vs:List V} {i:Nat} {v:V},iJ K H ds vs→vs[i]?=some v→∃ d,ds[i]?=some d∧RD K H d v
  | _,_,_,_,.nil,e=>by simp at e
  | _,_,0,_,.cons r _,e=>by simp at e;subst e;exact ⟨_,rfl,r⟩
  | _,_,i+1,d,.cons _ t,e=>by
    obtain ⟨u,h1,h2⟩:=iJ.aGH (i:=i) (v:=d) t (by simpa using e)
    exact ⟨u,by simpa using h1,h2⟩
theorem iJ.set {d:D} {v:V} (r:RD K H d v):∀ {ds:List D} {vs:List V} (i:Nat),iJ K H ds vs→iJ K H (ds.set i d) (vs.set i v)
  | _,_,_,.nil => .nil
  | _,_,0,.cons _ t => .cons r t
  | _,_,i+1,.cons q t => .cons q (iJ.set r i t)
theorem iJ.drop:∀ {ds:List D} {vs:List V} (n:Nat),iJ K H ds vs→iJ K H (ds.drop n) (vs.drop n)
  | _,_,0,r=>r
  | _,_,_+1,.nil => .nil
  | _,_,n+1,.cons _ t=>iJ.drop n t
theorem iJ.take:∀ {ds:List D} {vs:List V} (n:Nat),iJ K H ds vs→iJ K H (ds.take n) (vs.take n)
  | _,_,0,_ => .nil
  | _,_,_+1,.nil => .nil
  | _,_,n+1,.cons r t => .cons r (iJ.take n t)
theorem iJ.ints (ns:List Int):iJ K H (ns.map D.int) (ns.map V.int):=by
  induction ns with
  | nil=>exact .nil
  | cons n r ih=>exact .cons (.int n) ih
theorem iJ.adI {ds:List D} {vs:List V} (r:iJ K H ds vs):vs=[]↔ds=[]:=by
  cases r <;> simp
end
abbrev DK:=Key ⊕ List Key
inductive GO where
  | lst (ds:List D) | rol (ds:List D) | eN (t:Bool) (kvs:List (DK×D)) | ins (C:Addr) (fs:List (Str×D)) | exn (C:Addr)
abbrev Gp:=Addr→Option GO
def aQ (G:Gp) (a:Addr) (o:GO):Gp:=fun b=>if b=a then some o else G b
theorem aJ {G:Gp} {a:Addr} {o:GO}:aQ G a o a=some o:=by unfold aQ;rw [if_pos rfl]
theorem cT {G:Gp} {a b:Addr} {o:GO} (h:b≠a):aQ G a o b=G b:=by unfold aQ;rw [if_neg h]
theorem fX {G:Gp} {a b:Addr} {o u:GO} (h:G b=some u) (n:G a=none):aQ G a o b=some u:=by
  rw [cT];exact h
  intro e;subst e;rw [h] at n;cases n
def Le (G G':Gp):Prop:=∀ a o,G a=some o→G' a=some o
theorem Le.refl (G:Gp):Le G G:=fun _ _ h=>h
theorem Le.trans {G G1 G2:Gp} (a:Le G G1) (b:Le G1 G2):Le G G2:=fun c o h=>b c o (a c o h)
theorem Le.new {G:Gp} {a:Addr} {o:GO} (n:G a=none):Le G (aQ G a o):=fun _ _ h=>fX h n
theorem Le.free {G G':Gp} (l:Le G G') {a:Addr} (h:G' a=none):G a=none:=by
  cases q:G a with
  | none=>rfl
  | some o=>have:=l a o q;rw [h] at this;cases this
def kD:Key→D
  | .inl i => .int i
  | .inr x => .str x
inductive Two {α β:Type} (P:α→β→Prop):List α→List β→Prop where
  | nil:Two P [] []
  | cons {a:α} {b:β} {as:List α} {bs:List β}:P a b→Two P as bs→Two P (a :: as) (b :: bs)
theorem Two.imp {α β:Type} {P Q:α→β→Prop} (f:∀ a b,P a b→Q a b):∀ {as:List α} {bs:List β},Two P as bs→Two Q as bs
  | _,_,.nil => .nil
  | _,_,.cons h r => .cons (f _ _ h) (Two.imp f r)
theorem Two.length {α β:Type} {P:α→β→Prop}:∀ {as:List α} {bs:List β},Two P as bs→as.length=bs.length
  | _,_,.nil=>rfl
  | _,_,.cons _ r=>congrArg (·+1) (Two.length r)
def abL (C a:Addr) (h:Heap):Prop:=∃ o vs,h.get? a=some o∧o.cls = .ref C∧o.data = .fields vs
def OR (K:Fg) (H:Hp) (a:Addr):GO→Prop
  | .lst ds=>∃ xs,H a=some (.lst xs)∧iJ K H ds xs
  | .rol ds=>∃ xs,SqL K H a xs∧iJ K H ds xs
  | .eN t kvs=>(t=false∧∃ xs:List (Key×V),H a=some (.dK xs)∧Two (fun p q=>p.1 = .inl q.1∧RD K H p.2 q.2) kvs xs) ∨
      (t=true∧∃ xs:List (List Key×V),H a=some (.dT xs)∧Two (fun p q=>p.1 = .inr q.1∧RD K H p.2 q.2) kvs xs)
  | .ins C fs=>∃ (dx:Addr) (vs:List (Str×V)),H a=some (.ins C dx vs)∧Two (fun p q=>p.1=q.1∧RD K H p.2 q.2) fs vs
  | .exn C=>∃ o vs,H a=some (.frz o (.ext (abL C a)))∧o.data = .fields vs∧vs[2]?=some .none
def HR (K:Fg) (H:Hp) (G:Gp):Prop:=∀ a o,G a=some o→OR K H a o
theorem OR.keep {K:Fg} {H H':Hp} {a:Addr} {o:GO} (t:Ts H H') (h:OR K H a o) (k:∀ u,H a=some u→H' a=some u):OR K H' a o:=by
  cases o with
  | lst ds=>obtain ⟨xs,e,r⟩:=h;exact ⟨xs,k _ e,r.mono t⟩
  | rol ds =>
    obtain ⟨xs,e,r⟩:=h
    refine ⟨xs,?_,r.mono t⟩
    rcases e with (e | ⟨o,e⟩) | e
    · exact .inl (.inl (k _ e))
    · exact .inl (.inr ⟨o,k _ e⟩)
    · exact .inr e
  | eN b kvs =>
    rcases h with ⟨z,xs,e,r⟩ | ⟨z,xs,e,r⟩
    · exact .inl ⟨z,xs,k _ e,r.imp fun _ _ q=>⟨q.1,q.2.mono t⟩⟩
    · exact .inr ⟨z,xs,k _ e,r.imp fun _ _ q=>⟨q.1,q.2.mono t⟩⟩
  | ins C fs=>obtain ⟨dx,vs,e,r⟩:=h;exact ⟨dx,vs,k _ e,r.imp fun _ _ q=>⟨q.1,q.2.mono t⟩⟩
  | exn C=>obtain ⟨o,vs,e,r⟩:=h;exact ⟨o,vs,k _ e,r⟩
theorem HR.same {K:Fg} {H H':Hp} {G:Gp} (h:HR K H G) (s:Same H H'):HR K H' G:=fun a o e=>(h a o e).keep (.same s) fun u q=>s a u q
theorem HR.le {K:Fg} {H:Hp} {G G':Gp} (h:HR K H G') (l:Le G G'):HR K H G:=fun a o e=>h a o (l a o e)
theorem HR.put {K:Fg} {H:Hp} {G:Gp} {p:Addr} {o:HO} {u:GO} (h:HR K H G) (n:H p=none) (new:OR K (upd H p o) p u):HR K (upd H p o) (aQ G p u):=fun a v e=>by
  by_cases q:a=p
  · subst q;rw [aJ] at e;cases e;exact new
  · rw [cT q] at e
    exact (h a v e).keep (.same (cR n)) fun w z=>cR n a w z
theorem HR.turn {K:Fg} {H:Hp} {G:Gp} {p:Addr} {o:HO} {u:GO} (h:HR K H G) (t:Ts H (upd H p o)) (new:OR K (upd H p o) p u):HR K (upd H p o) (aQ G p u):=fun a v e=>by
  by_cases q:a=p
  · subst q;rw [aJ] at e;cases e;exact new
  · rw [cT q] at e
    exact (h a v e).keep t fun w z=>by rw [eE q];exact z
theorem Ts.turn {H:Hp} {p:Addr} {o u:HO} (e:H p=some u) (h1:∀ xs,u ≠ .tup xs) (h2:∀ ob w,u ≠ .frz ob w):Ts H (upd H p o):=by
  refine ⟨fun a xs q=>?_,fun a ob w q=>?_⟩
  · rw [eE];exact q
    intro z;subst z;rw [e] at q;exact h1 xs (Option.some.inj q)
  · rw [eE];exact q
    intro z;subst z;rw [e] at q;exact h2 ob w (Option.some.inj q)
abbrev aW:=List (Option D)
abbrev pX:=D→Gp→Prop
abbrev dZ:=aW→Gp→pX→Prop
abbrev TT3:=aW→Gp→(Bool→Gp→Prop)→Prop
abbrev TA3:=aW→Gp→(List D→Gp→Prop)→Prop
def at3:aW→Nat→Option D
  | [],_=>none
  | x :: _,0=>x
  | _ :: r,n+1=>at3 r n
def a4S:aW→Nat→D→aW
  | [],_,_=>[]
  | _ :: r,0,d=>some d :: r
  | x :: r,n+1,d=>x :: a4S r n d
inductive SR (K:Fg) (H:Hp):aW→St→Prop where
  | nil:SR K H [] []
  | none {ρ:aW} {σ:St} {v:Option V}:SR K H ρ σ→SR K H (Option.none :: ρ) (v :: σ)
  | some {ρ:aW} {σ:St} {d:D} {v:V}:RD K H d v→SR K H ρ σ→SR K H (Option.some d :: ρ) (Option.some v :: σ)
theorem SR.mono {K:Fg} {H H':Hp} (t:Ts H H'):∀ {ρ:aW} {σ:St},SR K H ρ σ→SR K H' ρ σ
  | _,_,.nil => .nil
  | _,_,.none r => .none (SR.mono t r)
  | _,_,.some h r => .some (h.mono t) (SR.mono t r)
theorem SR.get {K:Fg} {H:Hp}:∀ {ρ:aW} {σ:St} {i:Nat} {d:D},SR K H ρ σ→at3 ρ i=Option.some d→∃ v,σ[i]?=Option.some (Option.some v)∧RD K H d v
  | _,_,_,_,.nil,e=>by simp [at3] at e
  | _,_,0,_,.none _,e=>by simp [at3] at e
  | _,_,0,_,.some h _,e=>by simp [at3] at e;subst e;exact ⟨_,rfl,h⟩
  | _,_,i+1,_,.none r,e=>by
    obtain ⟨v,h1,h2⟩:=SR.get (i:=i) r (by simpa [at3] using e)
    exact ⟨v,by simpa using h1,h2⟩
  | _,_,i+1,_,.some _ r,e=>by
    obtain ⟨v,h1,h2⟩:=SR.get (i:=i) r (by simpa [at3] using e)
    exact ⟨v,by simpa using h1,h2⟩
theorem SR.set {K:Fg} {H:Hp} {d:D} {v:V} (q:RD K H d v):∀ {ρ:aW} {σ:St} (i:Nat),SR K H ρ σ→SR K H (a4S ρ i d) (σ.set i (Option.some v))
  | _,_,_,.nil => .nil
  | _,_,0,.none r => .some q r
  | _,_,0,.some _ r => .some q r
  | _,_,i+1,.none r => .none (SR.set q i r)
  | _,_,i+1,.some h r => .some h (SR.set q i r)
theorem SR.len {K:Fg} {H:Hp}:∀ {ρ:aW} {σ:St},SR K H ρ σ→ρ.length=σ.length
  | _,_,.nil=>rfl
  | _,_,.none r=>congrArg (·+1) (SR.len r)
  | _,_,.some _ r=>congrArg (·+1) (SR.len r)
def ap2 (n:Nat) (ds:List D):aW:=ds.map Option.some++List.replicate (n - ds.length) Option.none
theorem SR.nones {K:Fg} {H:Hp}:∀ n:Nat,SR K H (List.replicate n Option.none) (List.replicate n Option.none)
  | 0 => .nil
  | n+1 => .none (SR.nones n)
theorem SR.entry {K:Fg} {H:Hp} {k:Nat}:∀ {ds:List D} {vs:List V},iJ K H ds vs→SR K H (ds.map Option.some++List.replicate k Option.none) (vs.map Option.some++List.replicate k Option.none)
  | _,_,.nil=>SR.nones k
  | _,_,.cons h r => .some h (SR.entry r)
def upE (K:Fg) (t:dZ):TE:=fun σ H Q=>∃ ρ G R,SR K H ρ σ∧HR K H G∧t ρ G R∧∀ v H' d G',Ts H H'→RD K H' d v→HR K H' G'→R d G'→Q v H'
def upT (K:Fg) (t:TT3):TT:=fun σ H Q=>∃ ρ G R,SR K H ρ σ∧HR K H G∧t ρ G R∧∀ b H' G',Ts H H'→HR K H' G'→R b G'→Q b H'
def upA (K:Fg) (t:TA3):TA:=fun σ H Q=>∃ ρ G R,SR K H ρ σ∧HR K H G∧t ρ G R∧∀ vs H' ds G',Ts H H'→iJ K H' ds vs→HR K H' G'→R ds G'→Q vs H'
abbrev gB (X:Cx) (e:Expr) (t:dZ):Prop:=PE X e (upE X.K t)
abbrev PT3 (X:Cx) (e:Expr) (t:TT3):Prop:=PT X e (upT X.K t)
abbrev PW3 (X:Cx) (e:Expr) (t:TT3):Prop:=PW X e (upT X.K t)
abbrev PA3 (X:Cx) (es:List Expr) (t:TA3):Prop:=PA X es (upA X.K t)
structure nA where
  nx:aW→Gp→Prop
  rt:pX
  bk:aW→Gp→Prop:=fun _ _=>False
  ct:aW→Gp→Prop:=fun _ _=>False
abbrev bU:=nA→aW→Gp→Prop
structure UpD (K:Fg) (E:nA) (F:Ends):Prop where
  nx:∀ ρ G σ H',SR K H' ρ σ→HR K H' G→E.nx ρ G→F.nx σ H'
  rt:∀ d G v H',RD K H' d v→HR K H' G→E.rt d G→F.rt v H'
  bk:∀ ρ G σ H',SR K H' ρ σ→HR K H' G→E.bk ρ G→F.bk σ H'
  ct:∀ ρ G σ H',SR K H' ρ σ→HR K H' G→E.ct ρ G→F.ct σ H'
def upS (K:Fg) (t:bU):TS:=fun F σ H=>∃ ρ G E,SR K H ρ σ∧HR K H G∧t E ρ G∧UpD K E F
abbrev PS3 (X:Cx) (st:Stmt) (t:bU):Prop:=PS X st (upS X.K t)
abbrev aiT (X:Cx) (st:List Stmt) (t:bU):Prop:=PSs X st (upS X.K t)
section
variable {X:Cx}
theorem PE.imp {e:Expr} {t t':TE} (h:PE X e t) (k:∀ σ H Q,t' σ H Q→t σ H Q):PE X e t':=fun pins s σ H Q I q=>h pins s σ H Q I (k _ _ _ q)
theorem PT.imp {e:Expr} {t t':TT} (h:PT X e t) (k:∀ σ H Q,t' σ H Q→t σ H Q):PT X e t':=fun pins s σ H Q I q=>h pins s σ H Q I (k _ _ _ q)
theorem PW.imp {e:Expr} {t t':TT} (h:PW X e t) (k:∀ σ H Q,t' σ H Q→t σ H Q):PW X e t':=fun wh pins s σ H Q I q=>h wh pins s σ H Q I (k _ _ _ q)
theorem PA.imp {e:List Expr} {t t':TA} (h:PA X e t) (k:∀ σ H Q,t' σ H Q→t σ H Q):PA X e t':=fun p pins s σ H Q I q=>h p pins s σ H Q I (k _ _ _ q)
theorem PS.imp {e:Stmt} {t t':TS} (h:PS X e t) (k:∀ F σ H,t' F σ H→t F σ H):PS X e t':=fun pins s σ H F I q=>h pins s σ H F I (k _ _ _ q)
def KF (K:Fg) (H:Hp):Prop:=∀ b o,K.lookup b=some o→H b=none
theorem a7R {pins:List (Addr×Obj)} {σ:St} {H:Hp} {s:Shared} (I:Inv X pins σ H s):KF X.K H:=fun b o e=>(I.bs b o (I.ok.mod.kin b o e)).2
theorem PE.kf {e:Expr} {t:TE} (h:PE X e t):PE X e (fun σ H Q=>t σ H fun v H'=>KF X.K H'→Q v H'):=fun pins s σ H Q I q =>
  jU (h pins s σ H _ I q) fun _ _ ⟨v,H',I',r,q'⟩=>⟨v,H',I',r,q' (a7R I')⟩
theorem PSs.imp {e:List Stmt} {t t':TS} (h:PSs X e t) (k:∀ F σ H,t' F σ H→t F σ H):PSs X e t':=fun pins s σ H F I q=>h pins s σ H F I (k _ _ _ q)
end
theorem tK {K:Fg} {H:Hp} {G:Gp} {p:Addr} {o:HO} (g:HR K H G) (n:H p=none) (k:KF K (upd H p o)):G p=none:=by
  have kn:K.lookup p=none:=by
    cases q:K.lookup p with
    | none=>rfl
    | some u=>have:=k p u q;rw [aU] at this;cases this
  cases q:G p with
  | none=>rfl
  | some u =>
    have z:=g p u q
    cases u with
    | lst ds=>obtain ⟨xs,e,_⟩:=z;rw [n] at e;cases e
    | rol ds =>
      obtain ⟨xs,e,_⟩:=z
      rcases e with (e | ⟨o,e⟩) | ⟨o,_,_,e,_⟩
      · rw [n] at e;cases e
      · rw [n] at e;cases e
      · rw [kn] at e;cases e
    | eN tt kvs =>
      rcases z with ⟨_,xs,e,_⟩ | ⟨_,xs,e,_⟩
      · rw [n] at e;cases e
      · rw [n] at e;cases e
    | ins C fs=>obtain ⟨dx,vs,e,_⟩:=z;rw [n] at e;cases e
    | exn C=>obtain ⟨o,vs,e,_⟩:=z;rw [n] at e;cases e
section
variable {X:Cx} {a b c:Expr} {ta tb tc:dZ} {pos:Pos}
def aB (i:Nat):dZ:=fun ρ G R=>match at3 ρ i with
  | some d=>R d G
  | none=>False
def aY (d:D):dZ:=fun _ G R=>R d G
theorem aNM {K:Fg} {i:Nat} {σ:St} {H:Hp} {Q:VK} (h:upE K (aB i) σ H Q):aSC i σ H Q:=by
  obtain ⟨ρ,G,R,s,g,t,k⟩:=h
  unfold aB at t
  split at t
  · rename_i d e
    obtain ⟨v,h1,h2⟩:=s.get e
    exact ⟨v,h1,k v H d G (.refl H) h2 g t⟩
  · exact t.elim
theorem azN {K:Fg} {d:D} {v:V} (r:∀ H,RD K H d v) {σ:St} {H:Hp} {Q:VK} (h:upE K (aY d) σ H Q):tC v σ H Q:=by
  obtain ⟨ρ,G,R,s,g,t,k⟩:=h
  exact k v H d G (.refl H) (r H) g t
theorem aTH (i:Nat) {x:Str} {pos:Pos} (hN:X.N[i]?=some x:=by rfl) (hv:Vis X.env.scope x:=by first | exact Or.inl rfl | exact Or.inr (Or.inl rfl) | exact Or.inr (Or.inr rfl)) (hd:(x == ("__debug__" : Str))=false:=by decide)
    (hcd:(x == ("__classdict__" : Str))=false:=by decide):gB X (.Name x pos) (aB i):=PE.imp (aMA hN hv hd hcd) fun _ _ _ h=>aNM h
theorem aTI {i j pos}:gB X (.Constant (.int i) j pos) (aY (.int i)):=PE.imp aMB fun _ _ _ h=>azN (fun _ => .int i) h
theorem aYI {b j pos}:gB X (.Constant (.bool b) j pos) (aY (.bl b)):=PE.imp aSD fun _ _ _ h=>azN (fun _ => .bl b) h
theorem aTJ {j pos}:gB X (.Constant .none j pos) (aY .non):=PE.imp aMC fun _ _ _ h=>azN (fun _ => .non) h
theorem aTK {x j pos}:gB X (.Constant (.str x) j pos) (aY (.str x)):=PE.imp aMD fun _ _ _ h=>azN (fun _ => .str x) h
theorem aBT {x:Str} {d:D} {v:V} {u:Value} {pos:Pos} (hg:Gl X x) (hm:X.mg x=some u) (r:RelV v u) (rd:∀ H,RD X.K H d v) (hd:(x == ("__debug__" : Str))=false:=by decide):gB X (.Name x pos) (aY d) :=
  PE.imp (aFM hg hm r hd) fun _ _ _ h=>azN rd h
theorem aNN {x:Str} {n:String} {pos:Pos} (hg:Gl X x) (hm:X.mg x=none) (hv:bootBuiltins x=some (.type n)) (hn:x ≠ "__name__" := by decide) (hd:(x == ("__debug__" : Str))=false:=by decide):gB X (.Name x pos) (aY (.ty n)) :=
  PE.imp (aFN hg hm hv (v := .ty n) rfl hn hd) fun _ _ _ h=>azN (fun _ => .ty n) h
abbrev R3:=D→D→Gp→pX→Prop
def OpI (K:Fg) (r:R2) (r3:R3):Prop:=∀ (H:Hp) (x y:D) (vx vy:V) (G:Gp) (R:pX) (Q:VK),RD K H x vx→RD K H y vy→HR K H G→r3 x y G R→(∀ v H' d G',Ts H H'→RD K H' d v→HR K H' G'→R d G'→Q v H')→r vx vy H fun v H'=>KF K H'→Q v H'
def ajX (X:Cx) (f:Value→Value→Sem Value) (r3:R3):Prop:=∃ r,OpR X f r∧OpI X.K r r3
def OpC (K:Fg) (r:R2) (r3:R3):Prop:=∀ (H:Hp) (x y:D) (vx vy:V) (G:Gp) (R:pX) (Q:VK),RD K H x vx→RD K H y vy→HR K H G→r3 x y G R→(∀ v H' d G',Ts H H'→RD K H' d v→HR K H' G'→R d G'→Q v H')→r vx vy H Q
def a05 (X:Cx) (f:Value→Value→Sem Value) (r3:R3):Prop:=∃ r,OpR X f r∧OpC X.K r r3
def aO (r:R3) (ta tb:dZ):dZ:=fun ρ G R=>ta ρ G fun x G1=>tb ρ G1 fun y G2=>r x y G2 R
theorem aTL {K:Fg} {r:R2} {r3:R3} (o:OpI K r r3) {σ:St} {H:Hp} {Q:VK} (h:upE K (aO r3 ta tb) σ H Q):tOp r (upE K ta) (upE K tb) σ H fun v H'=>KF K H'→Q v H':=by
  obtain ⟨ρ,G,R,s,g,t,k⟩:=h
  refine ⟨ρ,G,_,s,g,t,fun vx H1 x G1 t1 rx g1 t'=>?_⟩
  refine ⟨ρ,G1,_,s.mono t1,g1,t',fun vy H2 y G2 t2 ry g2 t''=>?_⟩
  exact o H2 x y vx vy G2 R Q (rx.mono t2) ry g2 t'' fun v H' d G' t3=>k v H' d G' ((t1.trans t2).trans t3)
theorem avP {K:Fg} {r:R2} {r3:R3} (o:OpC K r r3) {σ:St} {H:Hp} {Q:VK} (h:upE K (aO r3 ta tb) σ H Q):tOp r (upE K ta) (upE K tb) σ H Q:=by
  obtain ⟨ρ,G,R,s,g,t,k⟩:=h
  refine ⟨ρ,G,_,s,g,t,fun vx H1 x G1 t1 rx g1 t'=>?_⟩
  refine ⟨ρ,G1,_,s.mono t1,g1,t',fun vy H2 y G2 t2 ry g2 t''=>?_⟩
  exact o H2 x y vx vy G2 R Q (rx.mono t2) ry g2 t'' fun v H' d G' t3=>k v H' d G' ((t1.trans t2).trans t3)
theorem aYJ {op:Operator} {r3:R3} (o:ajX X (binaryOp op) r3) (ha:gB X a ta) (hb:gB X b tb):gB X (.BinOp a op b pos) (aO r3 ta tb):=by
  obtain ⟨r,o1,o2⟩:=o
  exact PE.imp (PE.kf (aST o1 ha hb)) fun _ _ _ h=>aTL o2 h
theorem aBU {op:CmpOp} {r3:R3} (o:a05 X (compareOp op) r3) (ha:gB X a ta) (hb:gB X b tb) (hm:behindInMarks op b=false):gB X (.Compare a [op] [b] pos) (aO r3 ta tb):=by
  obtain ⟨r,o1,o2⟩:=o
  exact PE.imp (aFX o1 ha hb hm) fun _ _ _ h=>avP o2 h
def bJ (t:dZ):TT3:=fun ρ G R=>t ρ G fun x G1=>match x with
  | .bl k=>R k G1
  | _=>False
theorem ap3 {K:Fg} {t:TE} {t3:dZ} (f:∀ σ H Q,upE K t3 σ H Q→t σ H Q) {σ:St} {H:Hp} {Q:Bool→Hp→Prop} (h:upT K (bJ t3) σ H Q):aBF t σ H Q:=by
  obtain ⟨ρ,G,R,s,g,u,k⟩:=h
  refine f _ _ _ ⟨ρ,G,_,s,g,u,fun v H' d G' t1 r g1 q=>?_⟩
  cases r with
  | bl b=>exact ⟨b,rfl,k b H' G' t1 g1 q⟩
  | _=>exact q.elim
theorem aBV {op:CmpOp} {r3:R3} (o:a05 X (compareOp op) r3) (ha:gB X a ta) (hb:gB X b tb) (hm:behindInMarks op b=false):PT3 X (.Compare a [op] [b] pos) (bJ (aO r3 ta tb)):=by
  obtain ⟨r,o1,o2⟩:=o
  exact PT.imp (aFY o1 ha hb hm) fun _ _ _ h=>ap3 (fun _ _ _=>avP o2) h
theorem aTM {e:Expr} {t:dZ} (h:gB X e t) (he:∀ whole,isTrue e X.env whole=(do let v ← whole;standAt e.pos;holding [v] (truthy v)):=by intro _;rfl):PT3 X e (bJ t) :=
  PT.imp (aME h he) fun _ _ _ h=>ap3 (fun _ _ _ q=>q) h
def a2H (r r':R3) (ta tb tc:dZ):dZ:=fun ρ G R=>ta ρ G fun x G1=>tb ρ G1 fun y G2=>r x y G2 fun z G3=>match z with
  | .bl true=>tc ρ G3 fun w G4=>r' y w G4 R
  | .bl false=>R (.bl false) G3
  | _=>False
theorem arT {K:Fg} {r r':R2} {r3 r3':R3} (o:OpC K r r3) (o':OpC K r' r3') {σ:St} {H:Hp} {Q:VK} (h:upE K (a2H r3 r3' ta tb tc) σ H Q):avC r r' (upE K ta) (upE K tb) (upE K tc) σ H Q:=by
  obtain ⟨ρ,G,R,s,g,t,k⟩:=h
  refine ⟨ρ,G,_,s,g,t,fun vx H1 x G1 t1 rx g1 t'=>?_⟩
  refine ⟨ρ,G1,_,s.mono t1,g1,t',fun vy H2 y G2 t2 ry g2 t''=>?_⟩
  refine o H2 x y vx vy G2 _ _ (rx.mono t2) ry g2 t'' fun v H3 d G3 t3 rd g3 q=>?_
  cases rd with
  | bl b =>
    refine ⟨b,rfl,?_⟩
    cases b with
    | true =>
      rw [if_pos rfl]
      refine ⟨ρ,G3,_,s.mono ((t1.trans t2).trans t3),g3,q,fun vw H4 w G4 t4 rw' g4 q'=>?_⟩
      exact o' H4 y w vy vw G4 R Q (ry.mono (t3.trans t4)) rw' g4 q' fun v H' d G' t5=>k v H' d G' (((t1.trans t2).trans t3).trans (t4.trans t5))
    | false =>
      rw [if_neg Bool.false_ne_true]
      exact k _ H3 _ G3 ((t1.trans t2).trans t3) (.bl false) g3 q
  | _=>exact q.elim
theorem aGI {op op':CmpOp} {r3 r3':R3} (o:a05 X (compareOp op) r3) (o':a05 X (compareOp op') r3') (ha:gB X a ta) (hb:gB X b tb) (hc:gB X c tc)
    (hm:lastMarks [op,op'] [b,c]=false:=by with_unfolding_all rfl):gB X (.Compare a [op,op'] [b,c] pos) (a2H r3 r3' ta tb tc):=by
  obtain ⟨r,o1,o2⟩:=o
  obtain ⟨r',o1',o2'⟩:=o'
  exact PE.imp (aBG o1 o1' ha hb hc hm) fun _ _ _ h=>arT o2 o2' h
theorem aGJ {op op':CmpOp} {r3 r3':R3} (o:a05 X (compareOp op) r3) (o':a05 X (compareOp op') r3') (ha:gB X a ta) (hb:gB X b tb) (hc:gB X c tc)
    (hm:lastMarks [op,op'] [b,c]=false:=by with_unfolding_all rfl):PT3 X (.Compare a [op,op'] [b,c] pos) (bJ (a2H r3 r3' ta tb tc)):=by
  obtain ⟨r,o1,o2⟩:=o
  obtain ⟨r',o1',o2'⟩:=o'
  exact PT.imp (aBH o1 o1' ha hb hc hm) fun _ _ _ h=>ap3 (fun _ _ _=>arT o2 o2') h
variable {sa sb:TT3} {rest:List Expr}
def axP (t u:TT3):TT3:=fun ρ G R=>t ρ G fun c G1=>if c=true then u ρ G1 R else R false G1
def ajY (t u:TT3):TT3:=fun ρ G R=>t ρ G fun c G1=>if c=true then R true G1 else u ρ G1 R
def a7S (t:TT3):TT3:=fun ρ G R=>t ρ G fun c G1=>R (!c) G1
theorem aNO {K:Fg} {σ:St} {H:Hp} {Q:Bool→Hp→Prop} (h:upT K (axP sa sb) σ H Q):aSE (upT K sa) (upT K sb) σ H Q:=by
  obtain ⟨ρ,G,R,s,g,t,k⟩:=h
  refine ⟨ρ,G,_,s,g,t,fun c H1 G1 t1 g1 q=>?_⟩
  cases c with
  | true=>exact ⟨ρ,G1,R,s.mono t1,g1,q,fun b H' G' t2=>k b H' G' (t1.trans t2)⟩
  | false=>exact k false H1 G1 t1 g1 q
theorem aTN {K:Fg} {σ:St} {H:Hp} {Q:Bool→Hp→Prop} (h:upT K (ajY sa sb) σ H Q):tOr (upT K sa) (upT K sb) σ H Q:=by
  obtain ⟨ρ,G,R,s,g,t,k⟩:=h
  refine ⟨ρ,G,_,s,g,t,fun c H1 G1 t1 g1 q=>?_⟩
  cases c with
  | false=>exact ⟨ρ,G1,R,s.mono t1,g1,q,fun b H' G' t2=>k b H' G' (t1.trans t2)⟩
  | true=>exact k true H1 G1 t1 g1 q
theorem aNP (ha:PT3 X a sa):PW3 X (.BoolOp .And [a] pos) sa:=aFO ha
theorem aTO (ha:PT3 X a sa):PW3 X (.BoolOp .Or [a] pos) sa:=aMF ha
theorem aTP (ha:PT3 X a sa) (hb:PW3 X (.BoolOp .And (b :: rest) pos) sb):PW3 X (.BoolOp .And (a :: b :: rest) pos) (axP sa sb):=PW.imp (aMG ha hb) fun _ _ _ h=>aNO h
theorem aYK (ha:PT3 X a sa) (hb:PW3 X (.BoolOp .Or (b :: rest) pos) sb):PW3 X (.BoolOp .Or (a :: b :: rest) pos) (ajY sa sb):=PW.imp (aSF ha hb) fun _ _ _ h=>aTN h
theorem aTQ (ha:PT3 X a sa):PT3 X (.UnaryOp .Not a pos) (a7S sa):=PT.imp (aMH ha) fun σ H Q h=>by
  obtain ⟨ρ,G,R,s,g,t,k⟩:=h
  exact ⟨ρ,G,_,s,g,t,fun c H1 G1 t1 g1 q=>k (!c) H1 G1 t1 g1 q⟩
def a8U (ta tb:dZ):dZ:=fun ρ G R=>ta ρ G fun x G1=>match x with
  | .bl true=>tb ρ G1 R
  | .bl false=>R (.bl false) G1
  | _=>False
def axQ (ta tb:dZ):dZ:=fun ρ G R=>ta ρ G fun x G1=>match x with
  | .bl true=>R (.bl true) G1
  | .bl false=>tb ρ G1 R
  | _=>False
def ap4 (ta:dZ):dZ:=fun ρ G R=>ta ρ G fun x G1=>match x with
  | .bl c=>R (.bl (!c)) G1
  | _=>False
theorem aL1 {op} (h:gB X a ta):gB X (.BoolOp op [a] pos) ta:=aMI h
theorem aTR (ha:gB X a ta) (hb:gB X (.BoolOp .And (b :: rest) pos) tb):gB X (.BoolOp .And (a :: b :: rest) pos) (a8U ta tb):=PE.imp (aMJ ha hb) fun σ H Q h=>by
  obtain ⟨ρ,G,R,s,g,t,k⟩:=h
  refine ⟨ρ,G,_,s,g,t,fun v H1 x G1 t1 r g1 q=>?_⟩
  cases r with
  | bl c =>
    refine ⟨c,rfl,?_⟩
    cases c with
    | true=>exact ⟨ρ,G1,R,s.mono t1,g1,q,fun b H' d G' t2=>k b H' d G' (t1.trans t2)⟩
    | false=>exact k _ H1 _ G1 t1 (.bl false) g1 q
  | _=>exact q.elim
theorem aYL (ha:gB X a ta) (hb:gB X (.BoolOp .Or (b :: rest) pos) tb):gB X (.BoolOp .Or (a :: b :: rest) pos) (axQ ta tb):=PE.imp (aSI ha hb) fun σ H Q h=>by
  obtain ⟨ρ,G,R,s,g,t,k⟩:=h
  refine ⟨ρ,G,_,s,g,t,fun v H1 x G1 t1 r g1 q=>?_⟩
  cases r with
  | bl c =>
    refine ⟨c,rfl,?_⟩
    cases c with
    | false=>exact ⟨ρ,G1,R,s.mono t1,g1,q,fun b H' d G' t2=>k b H' d G' (t1.trans t2)⟩
    | true=>exact k _ H1 _ G1 t1 (.bl true) g1 q
  | _=>exact q.elim
theorem aTS (ha:gB X a ta):gB X (.UnaryOp .Not a pos) (ap4 ta):=PE.imp (aMK ha) fun σ H Q h=>by
  obtain ⟨ρ,G,R,s,g,t,k⟩:=h
  refine ⟨ρ,G,_,s,g,t,fun v H1 x G1 t1 r g1 q=>?_⟩
  cases r with
  | bl c=>exact ⟨c,rfl,k _ H1 _ G1 t1 (.bl _) g1 q⟩
  | _=>exact q.elim
def aYM (t:TT3) (ta tb:dZ):dZ:=fun ρ G R=>t ρ G fun c G1=>if c=true then ta ρ G1 R else tb ρ G1 R
end
section
variable {X:Cx} {e:Expr} {es:List Expr} {te:dZ} {t:TA3} {pos:Pos}
def aH:TA3:=fun _ G R=>R [] G
def aA (ta:dZ) (tr:TA3):TA3:=fun ρ G R=>ta ρ G fun x G1=>tr ρ G1 fun xs G2=>R (x :: xs) G2
theorem aBW:PA3 X [] aH:=PA.imp aN4 fun σ H Q h=>by
  obtain ⟨ρ,G,R,s,g,t,k⟩:=h
  exact k [] H [] G (.refl H) .nil g t
theorem ac3 (ha:gB X e te) (hr:PA3 X es t) (hs:starEach (e :: es) X.env=(false,eval e X.env) :: starEach es X.env:=by rfl):PA3 X (e :: es) (aA te t):=PA.imp (aG1 ha hr hs) fun σ H Q h=>by
  obtain ⟨ρ,G,R,s,g,t,k⟩:=h
  refine ⟨ρ,G,_,s,g,t,fun v H1 x G1 t1 r g1 q=>?_⟩
  refine ⟨ρ,G1,_,s.mono t1,g1,q,fun vs H2 xs G2 t2 rs g2 q'=>?_⟩
  exact k (v :: vs) H2 (x :: xs) G2 (t1.trans t2) (.cons (r.mono t2) rs) g2 q'
def pZ (t:TA3):dZ:=fun ρ G R=>t ρ G fun xs G1=>xs.length≤sizeLine∧R (.tup xs) G1
def nC (t:TA3):dZ:=fun ρ G R=>t ρ G fun xs G1=>xs.length≤sizeLine∧∀ p,G1 p=none→R (.ref p) (aQ G1 p (.lst xs))
theorem aTT {x1} (h:PA3 X es t):gB X (.Tuple es x1 pos) (pZ t):=PE.imp (aN5 h) fun σ H Q h=>by
  obtain ⟨ρ,G,R,s,g,t,k⟩:=h
  refine ⟨ρ,G,_,s,g,t,fun vs H1 xs G1 t1 r g1 q=>?_⟩
  refine ⟨by rw [← r.length];exact q.1,fun p hp=>?_⟩
  have sn:Same H1 (upd H1 p (.tup vs)):=cR hp
  exact k (.ref p) _ (.tup xs) G1 (t1.trans (.same sn)) (.tup (SqT.of aU) (r.mono (.same sn)) aU) (g1.same sn) q.2
theorem aTU (h:PA3 X es t):gB X (.List es pos) (nC t):=PE.imp (PE.kf (aN6 h)) fun σ H Q h=>by
  obtain ⟨ρ,G,R,s,g,t,k⟩:=h
  refine ⟨ρ,G,_,s,g,t,fun vs H1 xs G1 t1 r g1 q=>?_⟩
  refine ⟨by rw [← r.length];exact q.1,fun p hp kf=>?_⟩
  have sn:Same H1 (upd H1 p (.lst vs)):=cR hp
  exact k (.ref p) _ (.ref p) _ (t1.trans (.same sn)) (.ref p) (g1.put (u := .lst xs) hp ⟨vs,aU,r.mono (.same sn)⟩) (q.2 p (tK g1 hp kf))
end
end
section
section
variable {X:Cx} {a b c:Expr} {ta tb tc:dZ} {pos:Pos}
def rI3 (C:Int→Int→Prop) (g:Int→Int→Int):R3:=fun x y G R=>match x,y with
  | .int i,.int j=>C i j∧R (.int (g i j)) G
  | _,_=>False
def aTW (g:Int→Int→Int):R3:=fun x y G R=>match x,y with
  | .int i,.int j=>R (.int (g i j)) G
  | _,_=>False
def aGK (g:Int→Int→Bool):R3:=fun x y G R=>match x,y with
  | .int i,.int j=>R (.bl (g i j)) G
  | _,_=>False
theorem axR {f:Value→Value→Sem Value} {C:Int→Int→Prop} {g:Int→Int→Int} (h:OpR X f (rI C fun i j => .int (g i j))):ajX X f (rI3 C g):=by
  refine ⟨_,h,fun H x y vx vy G R Q rx ry gh h k=>?_⟩
  cases rx with
  | int i =>
    cases ry with
    | int j=>exact ⟨i,j,rfl,rfl,h.1,fun _=>k _ H _ G (.refl H) (.int _) gh h.2⟩
    | _=>exact False.elim h
  | _=>exact False.elim h
theorem aNQ {f:Value→Value→Sem Value} {g:Int→Int→Int} (h:OpR X f (rI0 fun i j => .int (g i j))):ajX X f (aTW g):=by
  refine ⟨_,h,fun H x y vx vy G R Q rx ry gh h k=>?_⟩
  cases rx with
  | int i =>
    cases ry with
    | int j=>exact ⟨i,j,rfl,rfl,fun _=>k _ H _ G (.refl H) (.int _) gh h⟩
    | _=>exact False.elim h
  | _=>exact False.elim h
theorem avQ {f:Value→Value→Sem Value} {g:Int→Int→Bool} (h:OpR X f (rI0 fun i j => .bl (g i j))):a05 X f (aGK g):=by
  refine ⟨_,h,fun H x y vx vy G R Q rx ry gh h k=>?_⟩
  cases rx with
  | int i =>
    cases ry with
    | int j=>exact ⟨i,j,rfl,rfl,k _ H _ G (.refl H) (.bl _) gh h⟩
    | _=>exact False.elim h
  | _=>exact False.elim h
def anJ:R3:=aTW fun i j=>i - j
def abM:R3:=rI3 aBE fun i j=>i * j
def uW:R3:=rI3 aMT fun i j=>i / j
def oZ:R3:=rI3 (fun _ j=>0 < j) fun i j=>i % j
def ah9:R3:=rI3 aMU fun i j=>i ^ j.toNat
theorem aTX:ajX X (binaryOp .Sub) anJ:=aNQ aMW
theorem aTY:ajX X (binaryOp .Mult) abM:=axR aMX
theorem aNR:ajX X (binaryOp .FloorDiv) uW:=axR aFV
theorem aTZ:ajX X (binaryOp .Mod) oZ:=axR aMY
theorem aU0:ajX X (binaryOp .Pow) ah9:=axR aMZ
def aBX:R3:=aGK fun i j=>decide (i < j)
def aGL:R3:=aGK fun i j=>decide (j < i)
def aNS:R3:=aGK fun i j=>decide (j≤i)
theorem aYN:a05 X (compareOp .Lt) aBX:=avQ aSW
theorem aYO:a05 X (compareOp .Gt) aGL:=avQ aSY
theorem aYP:a05 X (compareOp .GtE) aNS:=avQ aSZ
def azO:R3:=fun x y G R=>match x,y with
  | .int i,.int j=>R (.bl (decide (i≤j))) G
  | .str i,.str j=>R (.bl (!decide (j.cps.toList < i.cps.toList))) G
  | _,_=>False
theorem azP:OpR X (compareOp .LtE) (fun x y H Q=>∃ i j,x = .str i∧y = .str j∧Q (.bl (!decide (j.cps.toList < i.cps.toList))) H):=by
  intro pins s σ H x y v u Q I rx ry h
  obtain ⟨i,j,rfl,rfl,q⟩:=h
  obtain ⟨t,rfl⟩:=rx
  obtain ⟨t',rfl⟩:=ry
  exact PySem.P.le_str ⟨.bl _,H,I,rfl,q⟩
theorem aYQ:a05 X (compareOp .LtE) azO:=by
  refine ⟨_,aSX.or azP,fun H x y vx vy G R Q rx ry gh h k=>?_⟩
  cases rx with
  | int i =>
    cases ry with
    | int j=>exact .inl ⟨i,j,rfl,rfl,k _ H _ G (.refl H) (.bl _) gh h⟩
    | _=>exact False.elim h
  | str i =>
    cases ry with
    | str j=>exact .inr ⟨i,j,rfl,rfl,k _ H _ G (.refl H) (.bl _) gh h⟩
    | _=>exact False.elim h
  | _=>exact False.elim h
def rT:R3:=fun x y G R=>match x,y with
  | .int i,.int j=>R (.int (i+j)) G
  | .str i,.str j=>i.length+j.length≤sizeLine∧R (.str (i++j)) G
  | .tup xs,.tup ys=>xs.length+ys.length≤sizeLine∧R (.tup (xs++ys)) G
  | .ref l,.ref m=>match G l,G m with
    | some (.lst xs),some (.lst ys)=>xs.length+ys.length≤sizeLine∧∀ p,G p=none→R (.ref p) (aQ G p (.lst (xs++ys)))
    | _,_=>False
  | _,_=>False
theorem aBY:OpR X (binaryOp .Add) (fun x y H Q=>∃ a b ys,x = .ref a∧y = .ref b∧SqT X.K H a []∧SqT X.K H b ys∧Q (.ref b) H):=by
  intro pins s σ H x y v u Q I rx ry h
  obtain ⟨a,b,ys,rfl,rfl,ha,hb,q⟩:=h
  cases rx
  cases ry
  obtain ⟨its,r1,p1,_⟩:=I.tuple ha
  obtain ⟨its2,r2,p2,_⟩:=I.tuple hb
  cases r1
  obtain ⟨⟨cls,dd,data,sl⟩,ho,hc,n,hd⟩:=id p1
  obtain ⟨⟨cls2,dd2,data2,sl2⟩,ho2,hc2,n2,hd2⟩:=id p2
  simp only at hc hd hc2 hd2
  subst hc hd hc2 hd2
  exact concat_meets ⟨_,ho,rfl⟩ ⟨_,ho2,rfl⟩ noFill_tuple_add seq_tuple_add PySem.F.slot_tuple_add PySem.F.entry_tuple_add (PySem.F.args_tuple_add_2 _ _)
      (tuple_addW0 a b #[] its2.toArray n n2 dd dd2 sl sl2 (by simp)) ⟨ho,ho2,⟨.ref b,H,I,rfl,q⟩⟩
theorem aU1:ajX X (binaryOp .Add) rT:=by
  refine ⟨_,aMV.or (avD.or (aGA.or (aBY.or aNL))),fun H x y vx vy G R Q rx ry gh h k=>?_⟩
  cases rx with
  | int i =>
    cases ry with
    | int j=>exact .inl ⟨i,j,rfl,rfl,fun _=>k _ H _ G (.refl H) (.int _) gh h⟩
    | _=>exact False.elim h
  | str i =>
    cases ry with
    | str j=>exact .inr (.inl ⟨i,j,rfl,rfl,h.1,fun _=>k _ H _ G (.refl H) (.str _) gh h.2⟩)
    | _=>exact False.elim h
  | @tup a xs ds ha ra ea =>
    cases ry with
    | @tup b ys es hb rb eb =>
      by_cases hn:ds=[]
      · subst hn
        cases ra
        exact .inr (.inr (.inr (.inl ⟨a,b,ys,rfl,rfl,ha,hb,fun _=>k _ H _ G (.refl H) (.tup hb rb eb) gh h.2⟩)))
      · refine .inr (.inr (.inl ⟨a,b,xs,ys,rfl,rfl,ha,hb,fun z=>hn (ra.adI.mp z),by rw [← ra.length,← rb.length];exact h.1,fun z _=>?_,fun _ p hp _=>?_⟩))
        · subst z
          cases rb
          have h2:=h.2
          rw [List.append_nil] at h2
          exact k _ H _ G (.refl H) (.tup ha ra ea) gh h2
        · have sn:Same H (upd H p (.tup (xs++ys))):=cR hp
          exact k _ _ _ G (.same sn) (.tup (SqT.of aU) ((ra.append rb).mono (.same sn)) aU) (gh.same sn) h.2
    | _=>exact False.elim h
  | ref l =>
    cases ry with
    | ref m =>
      have h':(match G l,G m with
        | some (.lst xs),some (.lst ys)=>xs.length+ys.length≤sizeLine∧∀ p,G p=none→R (.ref p) (aQ G p (.lst (xs++ys)))
        | _,_=>False):=h
      split at h'
      · rename_i xs ys e1 e2
        obtain ⟨xv,f1,r1⟩:=gh l _ e1
        obtain ⟨yv,f2,r2⟩:=gh m _ e2
        refine .inr (.inr (.inr (.inr ⟨l,m,xv,yv,rfl,rfl,f1,f2,by rw [← r1.length,← r2.length];exact h'.1,fun p hp kf=>?_⟩)))
        have sn:Same H (upd H p (.lst (xv++yv))):=cR hp
        exact k _ _ _ _ (.same sn) (.ref p) (gh.put (u := .lst (xs++ys)) hp ⟨_,aU,(r1.append r2).mono (.same sn)⟩) (h'.2 p (tK gh hp kf))
      · exact h'.elim
    | _=>exact False.elim h
  | _=>exact False.elim h
def arU:R3:=fun x y G R=>match x,y with
  | .non,.non=>R (.bl true) G
  | _,.non=>R (.bl false) G
  | .bl i,.bl j=>R (.bl (i == j)) G
  | .int _,.bl _=>R (.bl false) G
  | .str _,.bl _=>R (.bl false) G
  | .non,.bl _=>R (.bl false) G
  | .tup _,.bl _=>R (.bl false) G
  | .ref _,.bl _=>R (.bl false) G
  | _,_=>False
def afO:R3:=fun x y G R=>arU x y G fun d G'=>match d with
  | .bl k=>R (.bl (!k)) G'
  | _=>False
theorem isV (x:V) (v:Value) (k:Bool) (r:RelV x v):(v == .bool k)=decide (x = .bl k):=by
  cases x with
  | non=>cases r;rfl
  | bl b =>
    cases r
    cases b <;> cases k <;> rfl
  | int _=>obtain ⟨t,rfl⟩:=r;rfl
  | str _=>obtain ⟨t,rfl⟩:=r;rfl
  | byt _=>obtain ⟨t,rfl⟩:=r;rfl
  | flt _=>obtain ⟨t,rfl⟩:=r;rfl
  | ref _=>cases r;rfl
  | ty _=>cases r;rfl
theorem anK (x:V) (v:Value) (k:Bool) (r:RelV x v):plainIs v (.bool k)=true:=by
  cases x with
  | non=>cases r;rfl
  | bl b=>cases r;rfl
  | int _=>obtain ⟨t,rfl⟩:=r;rfl
  | str _=>obtain ⟨t,rfl⟩:=r;rfl
  | byt _=>obtain ⟨t,rfl⟩:=r;rfl
  | flt _=>obtain ⟨t,rfl⟩:=r;rfl
  | ref _=>cases r;rfl
  | ty _=>cases r;rfl
theorem aGM:OpR X (compareOp .Is) (fun x y H Q=>∃ k,y = .bl k∧Q (.bl (decide (x = .bl k))) H):=by
  intro pins s σ H x y v u Q I rx ry h
  obtain ⟨k,rfl,q⟩:=h
  cases ry
  exact wpAny_is_plain (anK x v k rx) ⟨.bl _,H,I,by rw [isV x v k rx];rfl,q⟩
theorem azQ:OpR X (compareOp .IsNot) (fun x y H Q=>∃ k,y = .bl k∧Q (.bl (!decide (x = .bl k))) H):=by
  intro pins s σ H x y v u Q I rx ry h
  obtain ⟨k,rfl,q⟩:=h
  cases ry
  exact wpAny_isNot_plain (anK x v k rx) ⟨.bl _,H,I,by rw [isV x v k rx];rfl,q⟩
theorem aYR:a05 X (compareOp .Is) arU:=by
  refine ⟨_,aN1.or aGM,fun H x y vx vy G R Q rx ry gh h k=>?_⟩
  cases ry with
  | non =>
    refine .inl ⟨rfl,?_⟩
    cases rx with
    | non=>exact k _ H _ G (.refl H) (.bl _) gh h
    | _=>exact k _ H _ G (.refl H) (.bl _) gh h
  | bl j =>
    refine .inr ⟨j,rfl,?_⟩
    cases rx with
    | bl i =>
      have e:decide (V.bl i=V.bl j)=(i == j):=by cases i <;> cases j <;> rfl
      rw [e]
      exact k _ H _ G (.refl H) (.bl _) gh h
    | ty n=>exact False.elim h
    | _=>exact k _ H _ G (.refl H) (.bl _) gh h
  | _=>cases rx <;> exact False.elim h
theorem aNT:a05 X (compareOp .IsNot) afO:=by
  refine ⟨_,aFW.or azQ,fun H x y vx vy G R Q rx ry gh h k=>?_⟩
  cases ry with
  | non =>
    refine .inl ⟨rfl,?_⟩
    cases rx with
    | non=>exact k _ H _ G (.refl H) (.bl _) gh h
    | _=>exact k _ H _ G (.refl H) (.bl _) gh h
  | bl j =>
    refine .inr ⟨j,rfl,?_⟩
    cases rx with
    | bl i =>
      have e:decide (V.bl i=V.bl j)=(i == j):=by cases i <;> cases j <;> rfl
      rw [e]
      exact k _ H _ G (.refl H) (.bl _) gh h
    | ty n=>exact False.elim h
    | _=>exact k _ H _ G (.refl H) (.bl _) gh h
  | _=>cases rx <;> exact False.elim h
def cH (G:Gp) (a:Addr):Option (List D):=match G a with
  | some (.lst ds)=>some ds
  | some (.rol ds)=>some ds
  | _=>none
theorem gW {K:Fg} {H:Hp} {G:Gp} (g:HR K H G) {a:Addr} {ds:List D} (e:cH G a=some ds):∃ xs,SqL K H a xs∧iJ K H ds xs:=by
  unfold cH at e
  split at e
  · rename_i ds' q
    cases e
    obtain ⟨xs,h1,h2⟩:=g a _ q
    exact ⟨xs,SqL.of h1,h2⟩
  · rename_i ds' q
    cases e
    exact g a _ q
  · cases e
def nD:R3:=fun x y G R=>match x,y with
  | .tup xs,.int i=>match atI xs i with
    | some d=>R d G
    | none=>False
  | .str z,.int i=>z.length≤sizeLine∧match atI z.cps.toList i with
    | some c=>R (.str ⟨#[c]⟩) G
    | none=>False
  | .ref p,.int i=>match cH G p with
    | some xs=>(match atI xs i with
      | some d=>R d G
      | none=>False)
    | none=>False
  | _,_=>False
theorem aBZ {K:Fg} {H:Hp} {ds:List D} {xs:List V} (r:iJ K H ds xs) {i:Int} {d:D} (e:atI ds i=some d):∃ v,atI xs i=some v∧RD K H d v:=by
  unfold atI at e ⊢
  rw [← r.length]
  cases q:ixN ds.length i with
  | none=>rw [q] at e;cases e
  | some j =>
    rw [q] at e
    exact r.get e
theorem aYS (ha:gB X a ta) (hb:gB X b tb) (hs:aoW b):gB X (.Subscript a b pos) (aO nD ta tb):=by
  refine PE.imp (aT9 aNH ha hb hs) fun _ _ _ h=>avP ?_ h
  intro H x y vx vy G R Q rx ry gh h k
  cases rx with
  | @tup p xs ds hp r =>
    cases ry with
    | int i =>
      have h':(match atI ds i with
        | some d=>R d G
        | none=>False):=h
      split at h'
      · rename_i d e
        obtain ⟨v,e1,e2⟩:=aBZ r e
        exact .inr (.inl ⟨p,xs,i,v,rfl,rfl,hp,e1,k v H d G (.refl H) e2 gh h'⟩)
      · exact h'.elim
    | _=>exact False.elim h
  | str z =>
    cases ry with
    | int i =>
      have h':z.length≤sizeLine∧(match atI z.cps.toList i with
        | some c=>R (.str ⟨#[c]⟩) G
        | none=>False):=h
      obtain ⟨hz,h'⟩:=h'
      split at h'
      · rename_i d e
        exact .inr (.inr ⟨z,i,d,rfl,rfl,hz,e,k _ H _ G (.refl H) (.str _) gh h'⟩)
      · exact h'.elim
    | _=>exact False.elim h
  | ref p =>
    cases ry with
    | int i =>
      have h':(match cH G p with
        | some xs=>(match atI xs i with
          | some d=>R d G
          | none=>False)
        | none=>False):=h
      split at h'
      · rename_i ds e
        obtain ⟨xs,hp,r⟩:=gW gh e
        split at h'
        · rename_i d e'
          obtain ⟨v,e1,e2⟩:=aBZ r e'
          exact .inl ⟨p,xs,i,v,rfl,rfl,hp,e1,k v H d G (.refl H) e2 gh h'⟩
        · exact h'.elim
      · exact h'.elim
    | _=>exact False.elim h
  | _=>exact False.elim h
abbrev TO3:=aW→Gp→(Option Int→Gp→Prop)→Prop
def upO (K:Fg) (t:TO3):TO:=fun σ H Q=>∃ ρ G R,SR K H ρ σ∧HR K H G∧t ρ G R∧∀ i H' G',Ts H H'→HR K H' G'→R i G'→Q i H'
abbrev PO3 (X:Cx) (e:Option Expr) (t:TO3):Prop:=PO X e (upO X.K t)
theorem PO.imp {e:Option Expr} {t t':TO} (h:PO X e t) (k:∀ σ H Q,t' σ H Q→t σ H Q):PO X e t':=fun pins s σ H Q I q=>h pins s σ H Q I (k _ _ _ q)
def adK:TO3:=fun _ G R=>R none G
def ap5 (t:dZ):TO3:=fun ρ G R=>t ρ G fun x G1=>match x with
  | .int i=>R (some i) G1
  | _=>False
theorem aNU:PO3 X none adK:=PO.imp aG8 fun σ H Q h=>by
  obtain ⟨ρ,G,R,s,g,t,k⟩:=h
  exact k none H G (.refl H) g t
theorem aNV {e:Expr} {te:dZ} (h:gB X e te):PO3 X (some e) (ap5 te):=PO.imp (aG9 h) fun σ H Q h=>by
  obtain ⟨ρ,G,R,s,g,t,k⟩:=h
  refine ⟨ρ,G,_,s,g,t,fun v H1 x G1 t1 r g1 q=>?_⟩
  cases r with
  | int i=>exact ⟨i,rfl,k _ H1 G1 t1 g1 q⟩
  | _=>exact False.elim q
def cutD {α:Type} (xs:List α) (lo hi:Option Int):List α:=(xs.drop (HT.uU xs.length 0 lo)).take (HT.uU xs.length xs.length hi - HT.uU xs.length 0 lo)
end
end
section
section
variable {X:Cx} {st:Stmt} {rest:List Stmt} {t u:bU} {e:Expr} {te:dZ} {pos:Pos}
def dB:bU:=fun F ρ G=>F.nx ρ G
def aZ (t u:bU):bU:=fun F ρ G=>t { F with nx:=u F } ρ G
theorem aU3:aiT X [] dB:=PSs.imp aFP fun F σ H h=>by
  obtain ⟨ρ,G,E,s,g,q,d⟩:=h
  exact d.nx ρ G σ H s g q
theorem aNW {K:Fg} {F:Ends} {σ:St} {H:Hp} (h:upS K (aZ t u) F σ H):aSJ (upS K t) (upS K u) F σ H:=by
  obtain ⟨ρ,G,E,s,g,q,d⟩:=h
  exact ⟨ρ,G,_,s,g,q,⟨fun ρ' G' σ' H' s1 g1 h=>⟨ρ',G',E,s1,g1,h,d⟩,d.rt,d.bk,d.ct⟩⟩
theorem aNX (h1:PS3 X st t) (h2:aiT X rest u):aiT X (st :: rest) (aZ t u):=PSs.imp (aBB h1 h2) fun _ _ _ h=>aNW h
theorem aU4 (h1:PS3 X st t):aiT X [st] t:=aFQ h1
def aGN:bU:=fun F ρ G=>F.bk ρ G
def ap6:bU:=fun F ρ G=>F.ct ρ G
theorem aNY:PS3 X (.Pass pos) dB:=PS.imp aFR fun F σ H h=>by
  obtain ⟨ρ,G,E,s,g,q,d⟩:=h
  exact d.nx ρ G σ H s g q
theorem avR:PS3 X (.Continue pos) ap6:=PS.imp arJ fun F σ H h=>by
  obtain ⟨ρ,G,E,s,g,q,d⟩:=h
  exact d.ct ρ G σ H s g q
def dD (te:dZ):bU:=fun F ρ G=>te ρ G fun _ G1=>F.nx ρ G1
theorem aNZ (he:gB X e te) (hs:swapsWith e none pos.line X.env=pure false:=by rfl):PS3 X (.Expr e pos) (dD te):=PS.imp (aFS he hs) fun F σ H h=>by
  obtain ⟨ρ,G,E,s,g,q,d⟩:=h
  exact ⟨ρ,G,_,s,g,q,fun v H' x G' t1 r g1 h=>d.nx ρ G' σ H' (s.mono t1) g1 h⟩
def dR (te:dZ):bU:=fun F ρ G=>te ρ G F.rt
theorem aU5 (he:gB X e te):PS3 X (.Return (some e) pos) (dR te):=PS.imp (aML he) fun F σ H h=>by
  obtain ⟨ρ,G,E,s,g,q,d⟩:=h
  exact ⟨ρ,G,_,s,g,q,fun v H' x G' t1 r g1 h=>d.rt x G' v H' r g1 h⟩
def aO0:bU:=fun F _ G=>F.rt .non G
def jF (c:TT3) (t u:bU):bU:=fun F ρ G=>c ρ G fun b G1=>if b=true then t F ρ G1 else u F ρ G1
theorem aYT {c:Expr} {a b:List Stmt} {tc:TT3} (hc:PT3 X c tc) (ha:aiT X a t) (hb:aiT X b u):PS3 X (.If c a b pos) (jF tc t u):=PS.imp (aSM hc ha hb) fun F σ H h=>by
  obtain ⟨ρ,G,E,s,g,q,d⟩:=h
  refine ⟨ρ,G,_,s,g,q,fun b H' G' t1 g1 h=>?_⟩
  cases b with
  | true=>exact ⟨ρ,G',E,s.mono t1,g1,h,d⟩
  | false=>exact ⟨ρ,G',E,s.mono t1,g1,h,d⟩
def p8 (i:Nat) (te:dZ):bU:=fun F ρ G=>te ρ G fun x G1=>F.nx (a4S ρ i x) G1
theorem aU6 {i:Nat} {x:Str} {pos':Pos} (hN:X.N.Nodup) (hi:X.N[i]?=some x) (hx:Loc X.env.scope x) (he:gB X e te) (hs:swapsWith e (some (.Name x pos')) pos.line X.env=pure false:=by rfl) (hf:X.fn x=true∨X.env.scope.names.lookup x=some .local:=by first | exact .inl rfl | exact .inr rfl | assumption) :
    PS3 X (.Assign [.Name x pos'] e pos) (p8 i te):=PS.imp (aMQ hN hi hx he hs hf) fun F σ H h=>by
  obtain ⟨ρ,G,E,s,g,q,d⟩:=h
  exact ⟨ρ,G,_,s,g,q,fun v H' x G' t1 r g1 h=>d.nx _ G' _ H' ((s.mono t1).set r i) g1 h⟩
def ap7 (to ti te:dZ):bU:=fun F ρ G=>te ρ G fun v G1=>to ρ G1 fun o G2=>ti ρ G2 fun i G3=>match o,i with
  | .ref p,.int k=>(match G3 p with
    | some (.lst xs)=>(match ixN xs.length k with
      | some j=>F.nx ρ (aQ G3 p (.lst (xs.set j v)))
      | none=>False)
    | _=>False)
  | _,_=>False
theorem aO1 {o i:Expr} {to ti:dZ} {pos':Pos} (ho:gB X o to) (hi:gB X i ti) (he:gB X e te)
    (ha:∀ v,assign (.Subscript o i pos') X.env v=(do
      let ov ← holding [v] (eval o X.env)
      let iv ← holding [v,ov] (eval i X.env)
      standAt pos'
      holding [v,ov,iv] (setItem ov iv v)
      release [v,ov,iv] []):=by intro _;rfl)
    (hs:swapsWithSole [.Subscript o i pos'] e pos.line X.env=pure false:=by rfl) (hw:swappedStores [.Subscript o i pos'] e X.env=pure none:=by rfl)
    (h1:(assignEach [.Subscript o i pos'] X.env).map (·.2)=[assign (.Subscript o i pos') X.env]:=by rfl):PS3 X (.Assign [.Subscript o i pos'] e pos) (ap7 to ti te) :=
  PS.imp (aMP he (aMO ho hi set_list ha) hs hw h1) fun F σ H h=>by
  obtain ⟨ρ,G,E,s,g,q,d⟩:=h
  refine ⟨ρ,G,_,s,g,q,fun v H1 x G1 t1 rv g1 q1=>?_⟩
  refine ⟨ρ,G1,_,s.mono t1,g1,q1,fun ov H2 o' G2 t2 ro g2 q2=>?_⟩
  refine ⟨ρ,G2,_,s.mono (t1.trans t2),g2,q2,fun iv H3 i' G3 t3 ri g3 q3=>?_⟩
  cases ro with
  | ref p =>
    cases ri with
    | int k =>
      have q3':(match G3 p with
        | some (.lst xs)=>(match ixN xs.length k with
          | some j=>E.nx ρ (aQ G3 p (.lst (xs.set j x)))
          | none=>False)
        | _=>False):=q3
      split at q3'
      · rename_i xs e1
        split at q3'
        · rename_i j e2
          obtain ⟨ys,f1,r1⟩:=g3 p _ e1
          refine ⟨p,ys,k,j,rfl,rfl,f1,by rw [← r1.length];exact e2,?_⟩
          have tt:Ts H3 (upd H3 p (.lst (ys.set j v))) := .turn f1 (fun _ z=>nomatch z) (fun _ _ z=>nomatch z)
          exact d.nx ρ _ σ _ (s.mono (((t1.trans t2).trans t3).trans tt)) (g3.turn (u := .lst (xs.set j x)) tt ⟨_,aU,((r1.set (rv.mono (t2.trans t3)) j).mono tt)⟩) q3'
        · exact q3'.elim
      · exact q3'.elim
    | _=>exact False.elim q3
  | _=>cases ri <;> exact False.elim q3
end
section
variable {X:Cx} {body:List Stmt} {tb:bU} {e:Expr} {te:dZ} {pos:Pos}
def aU7 (i:Nat) (te:dZ) (tb:bU):bU:=fun F ρ G=>te ρ G fun x G1=>match x with
  | .ref p=>(match cH G1 p with
    | some xs=>∃ P:Nat→aW→Gp→Prop,P 0 ρ G1∧(∀ k ρ G,k≤xs.length→P k ρ G→cH G p=some xs) ∧
        (∀ k d ρ G,xs[k]?=some d→P k ρ G→tb { F with nx:=P (k+1),ct:=P (k+1),bk:=F.nx } (a4S ρ i d) G)∧∀ ρ G,P xs.length ρ G→F.nx ρ G
    | none=>False)
  | _=>False
theorem aC0 {K:Fg} {J:It} {g:TG} {tb:TS} {F:Ends} {σ:St} {H:Hp} {n:Nat} (Pv:Nat→St→Hp→Prop) (h0:Pv 0 σ H)
    (stop:∀ σ H,Pv n σ H→J.stop n H) (go:∀ i σ H,i < n→Pv i σ H→J.go i H)
    (hs:∀ i x σ H H',i < n→Pv i σ H→J.yld i H x H'→g x σ H' fun σ2 H2=>tb { F with nx:=Pv (i+1),ct:=Pv (i+1),bk:=F.nx } σ2 H2) (hd:∀ σ H,Pv n σ H→F.nx σ H) :
    ∃ W:Nat→Nat→St→Hp→Prop,(∃ m,W 0 m σ H)∧∀ i m σ H,W i m σ H →
      (J.stop i H∧F.nx σ H)∨(J.go i H∧∃ N:St→Hp→Prop,(∀ σ' H',N σ' H'→∃ m',m' < m∧W (i+1) m' σ' H')∧∀ x H',J.yld i H x H'→g x σ H' fun σ2 H2=>tb { F with nx:=N,ct:=N,bk:=F.nx } σ2 H2):=by
  refine ⟨fun i m σ H=>m=n - i∧i≤n∧Pv i σ H,⟨n,by simp,Nat.zero_le _,h0⟩,?_⟩
  rintro i m σ H ⟨rfl,hi,p⟩
  by_cases hlt:i < n
  · exact .inr ⟨go i σ H hlt p,Pv (i+1),fun σ' H' p'=>⟨n - (i+1),by omega,rfl,hlt,p'⟩,fun x H' y=>hs i x σ H H' hlt p y⟩
  · have e:i=n:=by omega
    subst e
    exact .inl ⟨stop σ H p,hd σ H p⟩
def aO2 (i:Nat) (ta:TA3) (tb:bU):bU:=fun F ρ G=>ta ρ G fun xs G1=>match xs with
  | [.int j]=>-(2 ^ 62)≤j∧j < 2 ^ 62∧∃ P:Nat→aW→Gp→Prop,P 0 ρ G1∧(∀ k ρ G,k < j.toNat→P k ρ G→tb { F with nx:=P (k+1),ct:=P (k+1),bk:=F.nx } (a4S ρ i (.int k)) G)∧∀ ρ G,P j.toNat ρ G→F.nx ρ G
  | _=>False
end
abbrev bK:=Addr→Gp→Prop
abbrev Sp3:=List D→Gp→pX→bK→Prop
def UpX (K:Fg) (EX:bK) (E:XK):Prop:=∀ C H' G',HR K H' G'→EX C G'→E (.ref C) none H'
def gY (K:Fg) (sp:Sp3):Sp:=fun vs H Q E=>∃ ds G R EX,iJ K H ds vs∧HR K H G∧sp ds G R EX∧(∀ v H' d G',RD K H' d v→HR K H' G'→R d G'→Q v H')∧UpX K EX E
section
variable {X:Cx} {CX:CXT} {k:Nat} {f C:Addr} {fd:FuncData} {ps:List Str} {sp:Sp3} {E:XK} {EX:bK} {x:Str} {p pos:Pos} {e:Expr} {es:List Expr} {t:TA3}
def aYU (n m:Nat) (tb:bK→bU):Sp3:=fun ds G R EX=>ds.length=m∧tb EX ⟨fun _ G'=>R .non G',R,fun _ _=>False,fun _ _=>False⟩ (ap2 n ds) G
end
end
section
def vU (P:Program) (w:World):CXT:=fun outer H s E e s'=>∃ (x C:Addr) (H':Hp) (B:Heap),e = .ref x∧Fly B outer x (.ref C) s'.heap∧HOk P w H' B ∧
  (∀ b o,s.heap.get? b=some o→H b=none→b ∉ frs outer→B.get? b=some o)∧(∀ b o,s.heap.get? b=some o→b ∉ frs outer→∃ o',B.get? b=some o') ∧
  Un (frs outer) [] H H' s.heap s'.heap∧s'.os=s.os∧AllBare s'.gens∧E (.ref C) none H'
theorem axS {l:List Env} {b:Addr} (h:b∈frs l):∃ env∈l,env.frame=some b:=List.mem_filterMap.mp h
theorem ap8 {l:List Env} {b:Addr} {env:Env} (h:env∈l) (e:env.frame=some b):b∈frs l:=List.mem_filterMap.mpr ⟨env,h,e⟩
section
variable {qt:Bool} {P:Program} {w:World} {K:Fg} {mg:Str→Option Value} {base:Heap} {N:List Str} {qual:Str} {scope:Scope} {f:Addr} {cd:Value} {A:Around} {outer:List Env} {s₀:Shared} {H₀:Hp} {E:XK}
abbrev cx1 (qt:Bool) (P:Program) (w:World) (K:Fg) (mg:Str→Option Value) (base:Heap) (N:List Str) (qual:Str) (scope:Scope) (f:Addr) (cd:Value) (A:Around) (outer:List Env) (s₀:Shared) (H₀:Hp) (E:XK):Cx:=a2F qt (vU P w) P w K mg base N qual scope f cd A outer s₀ H₀ E
theorem uJ {X:Cx} {pins:List (Addr×Obj)} {σ:St} {H:Hp} {s:Shared} (I:Inv X pins σ H s) (hst:X.stack=X.env :: X.outer) (hf:X.env.frame=some X.env.locals) {b:Addr} {o:Obj} (e:X.s₀.heap.get? b=some o) (n:b ∉ frs X.outer):b ∉ frs X.stack:=fun hb=>by
  obtain ⟨env,he,hfr⟩:=axS hb
  rw [hst] at he
  rcases List.mem_cons.mp he with rfl | he
  · have z:X.env.locals=b:=Option.some.inj (hf.symm.trans hfr)
    have h1:=I.ok.above
    have h2:=Heap.lt_size e
    rw [z] at h1
    exact absurd (Nat.lt_of_lt_of_le h2 h1) (Nat.lt_irrefl _)
  · exact n (ap8 he hfr)
theorem aGP {pins:List (Addr×Obj)} {σ:St} {H:Hp} {s:Shared} {C e:Addr} {us:List Value} {h':Heap} (I:Inv (cx1 qt P w K mg base N qual scope f cd A outer s₀ H₀ E) pins σ H s) (hm:Heap.MadeExcOf s.heap h' e (.ref C) us) (q:E (.ref C) none H) :
    (cx1 qt P w K mg base N qual scope f cd A outer s₀ H₀ E).xe (.ref e) { s with heap:=h' }:=by
  have hst:(cx1 qt P w K mg base N qual scope f cd A outer s₀ H₀ E).stack=(cx1 qt P w K mg base N qual scope f cd A outer s₀ H₀ E).env :: outer:=rfl
  have hin:∀ env∈(cx1 qt P w K mg base N qual scope f cd A outer s₀ H₀ E).stack,∀ b,env.frame=some b→b∈frs (cx1 qt P w K mg base N qual scope f cd A outer s₀ H₀ E).stack:=fun env he b hb=>ap8 he hb
  have hB:∀ b o,(PySem.W.hideAll s.heap (frs (cx1 qt P w K mg base N qual scope f cd A outer s₀ H₀ E).stack)).get? b=some o→s.heap.get? b=some o:=fun b o e=>PySem.W.of_hideAll _ e
  have toB:∀ b o,s.heap.get? b=some o→b ∉ frs (cx1 qt P w K mg base N qual scope f cd A outer s₀ H₀ E).stack→(PySem.W.hideAll s.heap (frs (cx1 qt P w K mg base N qual scope f cd A outer s₀ H₀ E).stack)).get? b=some o:=fun b o e n=>PySem.W.hideAll_get _ e n
  have fr:=PySem.W.funFrames_hide I.stack hin
  refine av8 (B:=PySem.W.hideAll s.heap (frs (cx1 qt P w K mg base N qual scope f cd A outer s₀ H₀ E).stack)) (h0:=s.heap) I.ok.frames rfl hB fr hm fun h2 k1 k4=>?_
  have up:∀ b o,s.heap.get? b=some o→(∀ vs,o.data ≠ .fields vs)→∃ sl,h2.get? b=some { o with slots:=sl }:=fun b o e nd=>k4 b o (hm.keeps b o e) nd
  have hfd:∀ b∈frs outer,∀ o,s.heap.get? b=some o→∀ vs,o.data ≠ .fields vs:=fun b hb o e=>by
    obtain ⟨_,o',ho',hd⟩:=I.a67.mem hb
    rw [e] at ho';cases ho'
    exact hd
  refine ⟨e,C,H,_,rfl,k1,?_,fun b o eb nb hb=>?_,fun b o eb hb=>?_,⟨fun b o eb nb hb _=>?_,fun b o eb nb hb _=>?_,fun b o eb nb hx=>I.base.free b o eb nb hx,fun b o eb hx=>?_,I.base.tups,I.base.uV,I.base.a66⟩,I.os,I.bare,q⟩
  · intro b o hb
    refine (I.hok b o hb).stay (fun c u hc eu=>toB c u eu fun hz=>?_) (fun _ z=>z) fun _ _ z=>z
    have n:=I.aoO c hz
    rcases hc with rfl | hc
    · rw [hb] at n;cases n
    · rw [hc] at n;cases n
  · exact toB b o (I.base.keep b o eb nb hb (by simp [a2F])) (uJ I hst rfl eb hb)
  · obtain ⟨o',e'⟩:=I.base.there b o eb (by simp [a2F])
    exact ⟨o',toB b o' e' (uJ I hst rfl eb hb)⟩
  · exact k1.stays b o (toB b o (I.base.keep b o eb nb hb (by simp [a2F])) (uJ I hst rfl eb hb))
  · obtain ⟨sl,e1⟩:=I.base.slot b o eb nb hb (by simp [a2F])
    obtain ⟨sl2,e2⟩:=up b _ e1 (hfd b hb _ e1)
    exact ⟨sl2,e2⟩
  · obtain ⟨o',e'⟩:=I.base.there b o eb (by simp [a2F])
    by_cases hb:b∈frs outer
    · obtain ⟨sl,e1⟩:=up b o' e' (hfd b hb o' e')
      exact ⟨_,e1⟩
    · exact ⟨o',k1.stays b o' (toB b o' e' (uJ I hst rfl eb hb))⟩
theorem aGQ {E':XK} (hE:∀ C H',E' C none H'→E C none H') {pins:List (Addr×Obj)} {σ:St} {H:Hp} {s s':Shared} {e:Value} (I:Inv (cx1 qt P w K mg base N qual scope f cd A outer s₀ H₀ E) pins σ H s)
    (c:vU P w (cx1 qt P w K mg base N qual scope f cd A outer s₀ H₀ E).stack H s E' e s'):(cx1 qt P w K mg base N qual scope f cd A outer s₀ H₀ E).xe e s':=by
  obtain ⟨x,C,H',B,rfl,fl,hok,cov,avS,un,os,bare,q⟩:=c
  have hst:(cx1 qt P w K mg base N qual scope f cd A outer s₀ H₀ E).stack=(cx1 qt P w K mg base N qual scope f cd A outer s₀ H₀ E).env :: outer:=rfl
  refine aB5 (B:=B) I.ok.frames rfl fl fun h2 k1 k4=>?_
  have hfs:∀ b∈frs outer,b∈frs (cx1 qt P w K mg base N qual scope f cd A outer s₀ H₀ E).stack:=fun b hb=>by
    obtain ⟨env,he,hf⟩:=axS hb
    exact ap8 (List.mem_cons_of_mem _ he) hf
  have hfd:∀ b∈frs outer,∀ o,s'.heap.get? b=some o→∀ vs,o.data ≠ .fields vs:=fun b hb o e=>by
    obtain ⟨_,o',ho',hd⟩:=fl.aM3.mem (hfs b hb)
    rw [e] at ho';cases ho'
    exact hd
  refine ⟨x,C,H',B,rfl,k1,hok,fun b o eb nb hb=>?_,fun b o eb hb=>?_,⟨fun b o eb nb hb _=>?_,fun b o eb nb hb _=>?_,fun b o eb nb hx=>?_,fun b o eb hx=>?_,fun b xs z=>un.tups b xs (I.base.tups b xs z),fun b o u z=>un.uV b o u (I.base.uV b o u z),fun b ps z=>?_⟩,os.trans I.os,bare,hE _ _ q⟩
  · exact cov b o (I.base.keep b o eb nb hb (by simp [a2F])) (I.base.free b o eb nb (by simp [a2F])) (uJ I hst rfl eb hb)
  · obtain ⟨o',e'⟩:=I.base.there b o eb (by simp [a2F])
    exact avS b o' e' (uJ I hst rfl eb hb)
  · exact k1.stays b o (cov b o (I.base.keep b o eb nb hb (by simp [a2F])) (I.base.free b o eb nb (by simp [a2F])) (uJ I hst rfl eb hb))
  · obtain ⟨sl,e1⟩:=I.base.slot b o eb nb hb (by simp [a2F])
    obtain ⟨sl2,e2⟩:=un.slot b _ e1 (I.base.free b o eb nb (by simp [a2F])) (hfs b hb) (by simp)
    obtain ⟨sl3,e3⟩:=k4 b _ e2 (hfd b hb _ e2)
    exact ⟨sl3,e3⟩
  · obtain ⟨o',e'⟩:=I.base.there b o eb (by simp [a2F])
    exact un.free b o' e' (I.base.free b o eb nb (by simp [a2F])) (by simp)
  · obtain ⟨o',e'⟩:=I.base.there b o eb (by simp [a2F])
    by_cases hb:b∈frs outer
    · obtain ⟨o2,e2⟩:=un.there b o' e' (by simp)
      obtain ⟨sl,e3⟩:=k4 b o2 e2 (hfd b hb o2 e2)
      exact ⟨_,e3⟩
    · obtain ⟨o2,e2⟩:=avS b o' e' (uJ I hst rfl eb hb)
      exact ⟨o2,k1.stays b o2 e2⟩
  · obtain ⟨m1,e1⟩:=I.base.a66 b ps z
    obtain ⟨m2,e2⟩:=un.a66 b _ e1
    exact ⟨m1++m2,by rw [e2,Array.append_assoc]⟩
end
def abN (K:Fg) (EX:bK):XK:=fun C _ H'=>∃ c G',C = .ref c∧HR K H' G'∧EX c G'
structure Cat (X:Cx) (EX:aW→bK):Prop where
  arV:∀ pins σ H s ρ e s',Inv X pins σ H s→SR X.K H ρ σ→vU X.prog X.w X.stack H s (abN X.K (EX ρ)) e s'→X.xe e s'
structure Thr (X:Cx) (EX:aW→bK):Prop where
  made:∀ pins σ H s ρ C e us h',Inv X pins σ H s→SR X.K H ρ σ→Heap.MadeExcOf s.heap h' e (.ref C) us→abN X.K (EX ρ) (.ref C) none H→X.xe (.ref e) { s with heap:=h' }
section
variable {qt:Bool} {P:Program} {w:World} {K:Fg} {mg:Str→Option Value} {base:Heap} {N:List Str} {qual:Str} {scope:Scope} {f:Addr} {cd:Value} {A:Around} {outer:List Env} {s₀:Shared} {H₀:Hp} {E:XK} {EX:bK}
theorem arW (h:UpX K EX E) {C:Value} {H':Hp} (q:abN K EX C none H'):E C none H':=by
  obtain ⟨c,G',rfl,g,q⟩:=q
  exact h c H' G' g q
theorem aYW (h:UpX K EX E):Cat (cx1 qt P w K mg base N qual scope f cd A outer s₀ H₀ E) (fun _=>EX) :=
  ⟨fun pins σ H s ρ e s' I _ c=>aGQ (E':=abN K EX) (fun C H' q=>arW h q) I c⟩
theorem aYX (h:UpX K EX E):Thr (cx1 qt P w K mg base N qual scope f cd A outer s₀ H₀ E) (fun _=>EX) :=
  ⟨fun pins σ H s ρ C e us h' I _ hm q=>aGP I hm (arW h q)⟩
theorem own1:PassesOwn (model P w) (cx1 qt P w K mg base N qual scope f cd A outer s₀ H₀ E).A (cx1 qt P w K mg base N qual scope f cd A outer s₀ H₀ E).env (cx1 qt P w K mg base N qual scope f cd A outer s₀ H₀ E).xe:=PassesOwn.leaving
end
section
variable {X:Cx} {k:Nat} {f C:Addr} {fd:FuncData} {ps:List Str} {sp:Sp3} {EX:aW→bK} {x:Str} {p pos:Pos} {e:Expr} {es:List Expr} {t:TA3}
def bA (sp:Sp3) (EX:aW→bK) (t:TA3):dZ:=fun ρ G R=>t ρ G fun ds G1=>sp ds G1 R (EX ρ)
theorem axT {pins:List (Addr×Obj)} {σ:St} {H:Hp} {s:Shared} {Q Q':VK} {us:List Value} {vs:List V} {E:XK} (F:fC qt X.prog X.w X.K X.mg X.base (vU X.prog X.w) k f fd ps (gY X.K sp)) (hr:pY qt k X.A) (hb:Binds X.K fd ps [])
    (hx:∀ e s',vU X.prog X.w X.stack H s E e s'→X.xe e s')
    (I:Inv X pins σ H s) (r:Vals vs us) (h:gY X.K sp vs H Q E) (hQ:∀ v H',Ts H H'→Q v H'→Q' v H'):wpAny (model X.prog X.w) X.A (call (.ref f) us) (EP X pins σ Q') X.xe s:=by
  have hl:(us++[]).length=ps.length:=by rw [List.append_nil,← r.length];exact F.len _ _ _ _ h
  refine wpAny_call (codeAny_mono (F.run X.A X.stack s H ⟨us,[]⟩ (us++[]) vs Q E hr I.env0 (hb s us I.kIn hl) (by rw [List.append_nil];exact r) h) fun r s' hq=>?_)
  cases r with
  | error e=>exact hx e s' hq
  | ok fl =>
    cases fl with
    | ret u =>
      obtain ⟨v,H',os,bare,un,hok,r,q⟩:=hq
      exact ⟨v,H',I.call' (ch:=[]) os un hok bare (fun b z=>absurd z (by simp)),r,hQ v H' ⟨un.tups,un.uV⟩ q⟩
    | next=>exact False.elim hq
    | brk=>exact False.elim hq
    | cont=>exact False.elim hq
theorem aGR (F:fC qt X.prog X.w X.K X.mg X.base (vU X.prog X.w) k f fd ps (gY X.K sp)) (hr:pY qt k X.A) (hg:Gl X x) (hm:X.mg x=some (.ref f)) (hk:PySem.W.keepIn X.K (.ref f)=true) (hb:Binds X.K fd ps []) (hx:Cat X EX)
    (ha:PA3 X (e :: es) t) (hdb:(x == ("__debug__" : Str))=false:=by decide) (he:starEach (e :: es) X.env=(false,eval e X.env) :: starEach es X.env:=by rfl) (hpl:(backTo pos (starEach es X.env)).any (·.1)=false:=by rfl) :
    gB X (.Call (.Name x p) (e :: es) [] pos) (bA sp EX t):=by
  intro pins s σ H Q I h
  obtain ⟨ρ,G,R,sr,g,q,kk⟩:=h
  refine wpAny_Call_Name_kw (a04 I hg hm ?_ hdb)
  refine PySem.W.callWith_K (h₀:=X.base) I.ok.mod.kin hk (jU (ha pos pins s σ H (fun vs H1=>Ts H H1∧∃ ds G1,iJ X.K H1 ds vs∧HR X.K H1 G1∧sp ds G1 R (EX ρ)) I ⟨ρ,G,_,sr,g,q,fun vs H1 ds G1 t1 r1 g1 q1=>⟨t1,ds,G1,r1,g1,q1⟩⟩) fun us s1 ⟨vs,H1,I1,r,t1,ds,G1,r1,g1,q1⟩=>⟨I1.kIn,?_⟩) he hpl
  refine axT (E:=abN X.K (EX ρ)) F hr hb (fun e s' c=>hx.arV pins σ H1 s1 ρ e s' I1 (sr.mono t1) c) I1 r (Q:=fun v H'=>∃ d G',RD X.K H' d v∧HR X.K H' G'∧R d G') ⟨ds,G1,R,EX ρ,r1,g1,q1,fun v H' d G' r2 g2 q2=>⟨d,G',r2,g2,q2⟩,fun C H' G' g' q'=>⟨C,G',rfl,g',q'⟩⟩ fun v H' t2 ⟨d,G',r2,g2,q2⟩=>kk v H' d G' (t1.trans t2) r2 g2 q2
theorem aO3 {qt:Bool} {P:Program} {w:World} {K:Fg} {mg:Str→Option Value} {base:Heap} {x qual:Str} {st:Stmt} {f:Addr} {fd:FuncData} {N ps:List Str} {k:Nat} {tb:bK→bU} (F:Fun K x qual st f fd) (S:bQ N ps (aC st))
    (hbody:∀ (cdv:Value) (A:Around) (outer:List Env) (s:Shared) (H:Hp) (E:XK) (EX:bK),pY qt k (A.deeper (envOfC qual (aC st) s.heap.objs.size f cdv))→UpX K EX E →
      aiT (cx1 qt P w K mg base N qual (aC st) f cdv A outer s H E) (aF st) (tb EX)):fC qt P w K mg base (vU P w) (k+1) f fd ps (gY K (aYU N.length ps.length tb)):=by
  obtain ⟨oc,od,dV,kV,doc,pm,an,cdv,ct,osl,rfl,lk,hcd⟩:=F.ex
  have hpl:ps.length≤N.length:=by have:=congrArg List.length S.pre;rw [List.length_take] at this;omega
  refine aKW lk hcd S (fun vs H Q E h=>?_) fun A outer s H vs Q E hr hsp=>?_
  · obtain ⟨ds,G,R,EX,r,g,⟨hl,q⟩,_⟩:=h
    rw [← r.length,hl]
  · obtain ⟨ds,G,R,EX,r,g,⟨hl,q⟩,kk,hE⟩:=hsp
    refine ⟨_,hbody cdv A outer s H E EX hr hE,ap2 N.length ds,G,_,?_,g,q,⟨fun ρ G' σ' H' s1 g1 q1=>kk .non H' .non G' .non g1 q1,fun d G' v H' r1 g1 q1=>kk v H' d G' r1 g1 q1,fun _ _ _ _ _ _ z=>z.elim,fun _ _ _ _ _ _ z=>z.elim⟩⟩
    unfold ap2 start
    rw [r.length]
    exact SR.entry r
end
section
variable {X:Cx} {C:Addr} {bmB bmN:List Value} {B Bn newId nid initId inN:String} {EX:aW→bK} {x:Str} {np cpos pos:Pos} {e:Expr} {es:List Expr} {t:TA3}
theorem ajI {K:Fg} {h:Heap} (XK:K.In h) (q:PySem.W.excIn K C bmB newId=true):∃ bm N nm q bs hdct sn sub ab col dd k0 k1 k2 k3 k5 mN,h.get? C=some (excClassObj nm q C N bs bm hdct sn sub ab col dd k0 k1 k2 k3 k5 newId)∧h.Ns N mN∧mN "__init__" = none∧OwnTail h bmB bm:=by
  unfold PySem.W.excIn at q
  split at q
  · rename_i dd cd sl ho
    split at q
    · rename_i C' bm k0 k1 k2 k3 n k5 hm hs
      simp only [Bool.and_eq_true,beq_iff_eq,Bool.not_eq_true'] at q
      obtain ⟨⟨⟨⟨⟨rfl,rfl⟩,hdel⟩,ht⟩,hok⟩,hni⟩:=q
      obtain ⟨nm,bs,mro,ns,qn,hd,sn,sub,ab,col,del⟩:=cd
      dsimp only at hm hdel hok hni
      subst hm hdel
      have hsl:sl=#[k0,k1,k2,k3,some (.builtin n),k5]:=by
        obtain ⟨l⟩:=sl
        simp only at hs
        rw [hs]
      subst hsl
      exact ⟨bm,ns,nm,qn,bs,hd,sn,sub,ab,col,dd,k0,k1,k2,k3,k5,_,XK _ _ ho,.of_isNs (PySem.W.isNs_of_in XK hok),PySem.W.nsMap_none_of_in XK hok hni,PySem.W.tail_of_in XK ht⟩
    · cases q
  · cases q
def xK (EX:aW→bK) (C:Addr) (t:TA3):bU:=fun _ ρ G=>t ρ G fun ds G1=>ds.length≤sizeLine∧EX ρ C G1
theorem aGS (hc:X.calm=true) (Fn:ExcBaseFacts Bn newId inN bmN) (hBn:bmB.contains (.type Bn)=true) (FB:ExcBaseFacts B nid initId bmB) (hg:Gl X x) (hm:X.mg x=some (.ref C)) (hq:PySem.W.excIn X.K C bmB newId=true) (hT:Thr X EX)
    (ha:PA3 X (e :: es) t) (hd:(x == ("__debug__" : Str))=false:=by decide)
    (he:starEach (e :: es) X.env=(false,eval e X.env) :: starEach es X.env:=by rfl) (hplain:(backTo cpos (starEach es X.env)).any (·.1)=false:=by rfl) :
    PS3 X (.Raise (some (.Call (.Name x np) (e :: es) [] cpos)) none pos) (xK EX C t):=by
  intro pins s σ H F I h
  obtain ⟨ρ,G,E3,sr,g,q,dd⟩:=h
  obtain ⟨tl,N,nm,q',bs,hdct,sn,sub,ab,col,dd',k0,k1,k2,k3,k5,mN,hC,hN,hni,T⟩:=ajI I.mod.kin hq
  refine wpAny_Raise_call_subU (C:=C) (nm:=nm) (q:=q') (N:=N) (bs:=bs) (bm:=tl) (hdct:=hdct) (sn:=sn) (sub:=sub) (ab:=ab) (col:=col) (dd:=dd') (k0:=k0) (k1:=k1) (k2:=k2) (k3:=k3) (k5:=k5)
    Fn hBn FB (mN:=mN) (T.hasType FB.hasBase) (I.ok.hd hc) (by rw [he];show (false || (backTo cpos (starEach es X.env)).any (·.1))=false;rw [hplain];rfl) hni (a04 I hg hm ⟨rfl,?_⟩ hd)
  have hA:=ha cpos pins s σ H (fun vs H1=>Ts H H1∧∃ ds G1,iJ X.K H1 ds vs∧HR X.K H1 G1∧ds.length≤sizeLine∧EX ρ C G1) I ⟨ρ,G,_,sr,g,q,fun vs H1 ds G1 t1 r1 g1 q1=>⟨t1,ds,G1,r1,g1,q1.1,q1.2⟩⟩
  rw [he] at hA ⊢
  refine Calls.evalArgs_plain (jU hA fun us s2 ⟨vs,H2,I2,r2,t1,ds,G1,r1,g1,hl,q1⟩=>?_)
  exact ⟨rfl,by rw [← r2.length,← r1.length];exact hl,I2.bk _ _ hC,hN.keeps I2.bk,T.keeps I2.bk,fun h' e' hm'=>hT.made pins σ H2 s2 ρ C e' us h' I2 (sr.mono t1) hm' ⟨C,G1,rfl,g1,q1⟩⟩
end
end
section
def a6B:aW→Nat→aW
  | [],_=>[]
  | _ :: r,0=>none :: r
  | x :: r,n+1=>x :: a6B r n
def afP:St→Nat→St
  | [],_=>[]
  | _ :: r,0=>none :: r
  | x :: r,n+1=>x :: afP r n
theorem SR.clr {K:Fg} {H:Hp}:∀ {ρ:aW} {σ:St} (i:Nat),SR K H ρ σ→SR K H (a6B ρ i) (afP σ i)
  | _,_,_,.nil => .nil
  | _,_,0,.none r => .none r
  | _,_,0,.some _ r => .none r
  | _,_,i+1,.none r => .none (SR.clr i r)
  | _,_,i+1,.some h r => .some h (SR.clr i r)
theorem arX:∀ (σ:St) (i:Nat),(afP σ i).length=σ.length
  | [],_=>rfl
  | _ :: _,0=>rfl
  | _ :: r,i+1=>congrArg (·+1) (arX r i)
theorem arY:∀ (σ:St) (i j:Nat) (v:V),(afP σ i)[j]?=some (some v)→j≠i∧σ[j]?=some (some v)
  | [],_,_,_,h=>by simp [afP] at h
  | _ :: _,0,0,_,h=>by simp [afP] at h
  | _ :: _,0,j+1,_,h=>⟨by omega,by simpa [afP] using h⟩
  | _ :: _,i+1,0,_,h=>⟨by omega,by simpa [afP] using h⟩
  | _ :: r,i+1,j+1,v,h=>by
    obtain ⟨a,b⟩:=arY r i j v (by simpa [afP] using h)
    exact ⟨by omega,by simpa using b⟩
section
variable {X:Cx}
def xeT (X:Cx) (EX:aW→bK):Value→Shared→Prop:=fun e s'=>∃ pins σ H s ρ,Inv X pins σ H s∧SR X.K H ρ σ∧vU X.prog X.w X.stack H s (abN X.K (EX ρ)) e s'
abbrev aGT (X:Cx) (pn:List (Addr×Obj)) (EX:aW→bK):Cx:={ X with pn:=X.pn++pn,xe:=xeT { X with pn:=X.pn++pn } EX }
abbrev azR (X:Cx) (x:Addr):Cx:={ X with A:=X.A.mark (some (.ref x)),calm:=false,xe:=fun _ _=>False }
theorem aU9 (ok:X.Ok) (pn:List (Addr×Obj)) (E:Value→Shared→Prop):({ X with pn:=pn,xe:=E }:Cx).Ok :=
  ⟨ok.mod,ok.kind,ok.glob,ok.blt,ok.above,ok.inj,ok.has,ok.cab,ok.hd,ok.frames,ok.stk,ok.exf,ok.bs,ok.bsz,ok.amH,ok.aoN,ok.a67,ok.frf⟩
theorem aGU {pins:List (Addr×Obj)} {σ:St} {H:Hp} {s:Shared} (I:Inv X pins σ H s) (E:Value→Shared→Prop):Inv ({ X with pn:=X.pn++pins,xe:=E }:Cx) [] σ H s :=
  ⟨aU9 I.ok _ _,I.os,I.bare,I.base,I.loc,I.cell,I.free,I.xZ,fun p hp=>I.pin p (by simpa using hp),I.hok,I.len,I.hnd,I.tup⟩
theorem a4T {pins adE:List (Addr×Obj)} {σ:St} {H:Hp} {s:Shared} {E:Value→Shared→Prop} (I:Inv ({ X with pn:=X.pn++pins,xe:=E }:Cx) adE σ H s):Inv X pins σ H s :=
  ⟨⟨I.ok.mod,I.ok.kind,I.ok.glob,I.ok.blt,I.ok.above,I.ok.inj,I.ok.has,I.ok.cab,I.ok.hd,I.ok.frames,I.ok.stk,I.ok.exf,I.ok.bs,I.ok.bsz,I.ok.amH,I.ok.aoN,I.ok.a67,I.ok.frf⟩,I.os,I.bare,I.base,I.loc,I.cell,I.free,I.xZ,fun p hp=>I.pin p (List.mem_append_left _ hp),I.hok,I.len,I.hnd,I.tup⟩
theorem axU {pins:List (Addr×Obj)} {σ:St} {H:Hp} {s:Shared} (I:Inv X pins σ H s) (x:Addr) (q:Hnd (X.A.mark (some (.ref x))) H):Inv (azR X x) pins σ H s :=
  ⟨⟨I.ok.mod,I.ok.kind,I.ok.glob,I.ok.blt,I.ok.above,I.ok.inj,I.ok.has,I.ok.cab,(fun z=>nomatch z),I.ok.frames,I.ok.stk,I.ok.exf,I.ok.bs,I.ok.bsz,I.ok.amH,I.ok.aoN,I.ok.a67,I.ok.frf⟩,I.os,I.bare,I.base,I.loc,I.cell,I.free,I.xZ,I.pin,I.hok,I.len,q,I.tup⟩
theorem aaY {pins:List (Addr×Obj)} {σ:St} {H:Hp} {s:Shared} {x:Addr} (ok:X.Ok) (hn:X.A.handled=none) (I:Inv (azR X x) pins σ H s):Inv X pins σ H s :=
  ⟨ok,I.os,I.bare,I.base,I.loc,I.cell,I.free,I.xZ,I.pin,I.hok,I.len,.inl hn,I.tup⟩
theorem aYY (pn:List (Addr×Obj)) (EX:aW→bK):Cat (aGT X pn EX) EX:=⟨fun pins σ H s ρ e s' I sr c =>
  ⟨pins,σ,H,s,ρ,⟨⟨I.ok.mod,I.ok.kind,I.ok.glob,I.ok.blt,I.ok.above,I.ok.inj,I.ok.has,I.ok.cab,I.ok.hd,I.ok.frames,I.ok.stk,I.ok.exf,I.ok.bs,I.ok.bsz,I.ok.amH,I.ok.aoN,I.ok.a67,I.ok.frf⟩,I.os,I.bare,I.base,I.loc,I.cell,I.free,I.xZ,I.pin,I.hok,I.len,I.hnd,I.tup⟩,sr,c⟩⟩
theorem aO4 {P:Program} {w:World} {l:List Env} {H H':Hp} {s s':Shared} {h2 B:Heap} {x C:Addr} (fl:Fly B l x (.ref C) s'.heap) (cov:∀ b o,s.heap.get? b=some o→H b=none→b ∉ frs l→B.get? b=some o)
    (avS:∀ b o,s.heap.get? b=some o→b ∉ frs l→∃ o',B.get? b=some o') (un:Un (frs l) [] H H' s.heap s'.heap) (st:B.StaysIn h2) (up:s'.heap.UpToSlots h2):Un (frs l) [] H H' s.heap h2:=by
  have hfd:∀ b∈frs l,∀ o,s'.heap.get? b=some o→∀ vs,o.data ≠ .fields vs:=fun b hb o e=>by
    obtain ⟨_,o',ho',hd⟩:=fl.aM3.mem hb
    rw [e] at ho';cases ho'
    exact hd
  refine ⟨fun b o eb nb hb _=>st b o (cov b o eb nb hb),fun b o eb nb hb hx=>?_,un.free,fun b o eb hx=>?_,un.tups,un.uV,un.a66⟩
  · obtain ⟨sl,e1⟩:=un.slot b o eb nb hb hx
    obtain ⟨sl2,e2⟩:=up b _ e1 (hfd b hb _ e1)
    exact ⟨sl2,e2⟩
  · by_cases hb:b∈frs l
    · obtain ⟨o2,e2⟩:=un.there b o eb hx
      obtain ⟨sl,e3⟩:=up b o2 e2 (hfd b hb o2 e2)
      exact ⟨_,e3⟩
    · obtain ⟨o2,e2⟩:=avS b o eb hb
      exact ⟨o2,st b o2 e2⟩
theorem ajJ {M:Model} {A:Around} {E:Value→Shared→Prop} {pins:List (Addr×Obj)} {σ:St} {H:Hp} {s:Shared} {i:Nat} {n:Str} {pos:Pos} {Q:Unit→Shared→Prop} (I:Inv X pins σ H s) (hN:X.N.Nodup) (hi:X.N[i]?=some n) (hl:X.env.kindOf n=some .local)
    (h:∀ s',Inv X pins (afP σ i) H s'→Q () s'):wpAny M A (do bindName X.env n .none;unbindBehindTheSuite X.env n pos) Q E s:=by
  obtain ⟨m,hn,hlo⟩:=id I.loc
  have cne:=I.cne
  refine wpAny_nameGoes_keeps hl hn (by rw [I.ok.kind];rfl) fun h' v hn' hs=>?_
  obtain ⟨oL,_,_,hoL,_⟩:=id hn
  refine h _ ⟨I.ok,I.os,I.bare,⟨fun b o e n hb hx=>?_,fun b o e n hb hx=>?_,I.base.free,fun b o e hx=>?_,I.base.tups,I.base.uV,I.base.a66⟩,⟨_,hn',fun j y v' e1 e2 e3=>?_⟩,fun y c e=>?_,I.free,I.xZ,fun p hp=>?_,fun b ob e=>?_,(arX σ i).trans I.len,I.hnd,I.tup⟩
  · exact (hs.2 b (Nat.ne_of_lt (Nat.lt_of_lt_of_le (Heap.lt_size e) I.ok.above))).trans (I.base.keep b o e n hb hx)
  · obtain ⟨sl,e1⟩:=I.base.slot b o e n hb hx
    exact ⟨sl,(hs.2 b (Nat.ne_of_lt (Nat.lt_of_lt_of_le (Heap.lt_size e) I.ok.above))).trans e1⟩
  · obtain ⟨o',e1⟩:=I.base.there b o e hx
    exact ⟨o',(hs.2 b (Nat.ne_of_lt (Nat.lt_of_lt_of_le (Heap.lt_size e) I.ok.above))).trans e1⟩
  · obtain ⟨hj,e2'⟩:=arY σ i j v' e2
    obtain ⟨u',r',q⟩:=hlo j y v' e1 e2' e3
    refine ⟨u',r',?_⟩
    rcases q with ⟨k,e⟩ | ⟨k,c,e,z⟩
    · refine .inl ⟨k,?_⟩
      have:y≠n:=fun e=>hj (ajP hN e1 (e ▸ hi))
      simp [this,e]
    · exact .inr ⟨k,c,e,z.sameBut hs (cne y c e)⟩
  · obtain ⟨w',z⟩:=I.cell y c e
    exact ⟨w',z.sameBut hs (cne y c e)⟩
  · obtain ⟨e,n,ne,nf,d⟩:=I.pin p hp
    exact ⟨(hs.2 p.1 ne).trans e,n,ne,nf,d⟩
  · refine (I.hok b ob e).stay (fun c w' hc q=>(hs.2 c ?_).trans q) (fun _ q=>q) fun _ _ q=>q
    rintro rfl
    have hfree:=I.free
    rcases hc with z | hc
    · rw [z,e] at hfree;cases hfree
    · rw [hfree] at hc;cases hc
theorem aYZ {M:Model} {A:Around} {E:Value→Shared→Prop} {K:Fg} {s:Shared} {x C Dc:Addr} {oe:Obj} {b:Bool} {Q:Bool→Shared→Prop} (KX:K.In s.heap) (he:s.heap.get? x=some oe) (hcls:oe.cls = .ref C)
    (hc:(PySem.W.clsIn K Dc).isSome=true) (ht:PySem.W.typeIn K (.ref Dc)=some (.type "type")) (hb:PySem.W.subIn K (.ref Dc) (.type "BaseException")=some true) (hs:PySem.W.subIn K (.ref C) (.ref Dc)=some b) (h:Q b s):wpAny M A (excMatches (.ref x) (.ref Dc)) Q E s:=by
  have l1:PySem.W.Looks M s.heap (typeOf (.ref Dc)) (.type "type"):=PySem.W.looks_typeIn KX ht
  have l2:PySem.W.Looks M s.heap (isSubtype (.ref Dc) (.type "BaseException")) true:=PySem.W.looks_subIn KX hb
  have l3:PySem.W.Looks M s.heap (isSubtype (.ref C) (.ref Dc)) b:=PySem.W.looks_subIn KX hs
  have l4:PySem.W.Looks M s.heap (typeOf (.ref x)) (.ref C):=by
    have z:=(PySem.W.Looks.ld (M:=M) (part:=none) he).andThen (f:=fun o=>pure o.cls) (b := .ref C) (by rw [hcls];exact .now)
    exact z
  have l0:PySem.W.Looks M s.heap (isSubtype (.type "type") (.type "tuple")) false := .of_pure tc_notTuple
  have lt:PySem.W.Looks M s.heap (isType (.ref Dc)) true:=by
    intro A' Q' E' s' k q
    cases eK:PySem.W.clsIn K Dc with
    | none=>rw [eK] at hc;cases hc
    | some cd =>
      unfold PySem.W.clsIn at eK
      split at eK
      · rename_i ho
        unfold isType loadHead
        exact wpAny_bind (wpAny_loadPart (k _ _ (KX _ _ ho)) (wpAny_pure q))
      · cases eK
  unfold excMatches isInstance isExcClass
  repeat (first | with_reducible refine PySem.W.Looks.here l0 ?_ | with_reducible refine PySem.W.Looks.here l1 ?_ | with_reducible refine PySem.W.Looks.here l2 ?_ | with_reducible refine PySem.W.Looks.here l3 ?_ | with_reducible refine PySem.W.Looks.here l4 ?_ | with_reducible refine PySem.W.Looks.here lt ?_ | wp_step)
  cases b <;> (wp_walk;exact h)
def anL (K:Fg) (Dc:Addr) (i:Nat) (tb:(aW→bK)→bU) (th:bU):bU:=fun F ρ G =>
  tb (fun ρ1 C G1=>PySem.W.subIn K (.ref C) (.ref Dc)=some true∧∀ x,G1 x=none→th { nx:=fun ρ2 G2=>F.nx (a6B ρ2 i) G2,rt:=F.rt,bk:=fun ρ2 G2=>F.bk (a6B ρ2 i) G2,ct:=fun ρ2 G2=>F.ct (a6B ρ2 i) G2 } (a4S ρ1 i (.ref x)) (aQ G1 x (.exn C))) F ρ G
theorem aC2 {pins:List (Addr×Obj)} {EX:aW→bK} {F:Ends} {f:Flow} {s:Shared} (h:SP (aGT X pins EX) [] F f s):SP X pins F f s:=by
  cases f with
  | next=>obtain ⟨σ',H',I,q⟩:=h;exact ⟨σ',H',a4T I,q⟩
  | brk=>obtain ⟨σ',H',I,q⟩:=h;exact ⟨σ',H',a4T I,q⟩
  | cont=>obtain ⟨σ',H',I,q⟩:=h;exact ⟨σ',H',a4T I,q⟩
  | ret u=>obtain ⟨v,σ',H',I,r,q⟩:=h;exact ⟨v,σ',H',a4T I,r,q⟩
theorem arZ {P:Program} {w:World} {H:Hp} {B:Heap} {x:Addr} (hok:HOk P w H B) (n:B.get? x=none):H x=none:=by
  cases e0:H x with
  | none=>rfl
  | some o =>
    have lt:=(hok x o e0)
    obtain ⟨o',ho'⟩:∃ o',B.get? x=some o':=by
      cases o with
      | lst xs=>obtain ⟨_,_,_,_,e⟩:=lt;exact ⟨_,e⟩
      | tup xs=>obtain ⟨_,_,_,o,e,_⟩:=lt;exact ⟨_,e⟩
      | dK kvs=>obtain ⟨_,_,_,_,o,_,_,e,_⟩:=lt;exact ⟨_,e⟩
      | dT kvs=>obtain ⟨_,_,_,_,o,_,_,e,_⟩:=lt;exact ⟨_,e⟩
      | set S n=>obtain ⟨o,_,_,_,e,_⟩:=lt;exact ⟨_,e⟩
      | ins C dx fs=>obtain ⟨_,_,_,e,_⟩:=lt;exact ⟨_,e⟩
      | own y=>obtain ⟨_,e⟩:=lt;exact ⟨_,e⟩
      | xd fs=>obtain ⟨_,⟨_,_,_,e,_⟩,_⟩:=lt;exact ⟨_,e⟩
      | rng lo hi=>obtain ⟨_,_,_,e⟩:=lt;exact ⟨_,e⟩
      | frz ob u=>obtain ⟨e,_⟩:=lt;exact ⟨_,e⟩
      | tbl ps=>exact ⟨_,(show B.get? x=some _ from lt)⟩
      | met f y=>exact ⟨_,(show B.get? x=some _ from lt)⟩
      | ext φ=>obtain ⟨_,⟨_,e⟩,_⟩:=lt;exact ⟨_,e⟩
    rw [n] at ho';cases ho'
theorem aUA {body:List Stmt} {b₀:Stmt} {suite:List Stmt} {n cx:Str} {Dc:Addr} {i:Nat} {tb:(aW→bK)→bU} {th:bU} {cp hpos pos:Pos}
    (hcm:X.calm=true) (hN:X.N.Nodup) (hi:X.N[i]?=some n) (hl:X.env.kindOf n=some .local) (hst:X.stack=X.env :: X.outer) (hfn:X.env.frame=some X.env.locals)
    (hg:Gl X cx) (hm:X.mg cx=some (.ref Dc)) (hc:(PySem.W.clsIn X.K Dc).isSome=true) (ht:PySem.W.typeIn X.K (.ref Dc)=some (.type "type")) (hbx:PySem.W.subIn X.K (.ref Dc) (.type "BaseException")=some true)
    (hb:∀ pn EX,aiT (aGT X pn EX) body (tb EX)) (hh:∀ x,aiT (azR X x) (b₀ :: suite) th) (hd:(cx == ("__debug__" : Str))=false:=by decide) :
    PS3 X (.Try body [.ExceptHandler (some (.Name cx cp)) (some n) (b₀ :: suite) hpos] [] [] pos) (anL X.K Dc i tb th):=by
  intro pins s σ H F I h
  obtain ⟨ρ,G,E3,sr,g,q,d⟩:=h
  refine wpAny_Try_except (wpAny_mono (hb pins _ [] s σ H F (aGU I _) ⟨ρ,G,E3,sr,g,q,d⟩) (fun f s1 q1=>?_) fun e s1 q1=>?_)
  · have q2:=aC2 q1
    cases f with
    | next=>exact wpAny_execs_nil q2
    | brk=>exact q2
    | cont=>exact q2
    | ret u=>exact q2
  · obtain ⟨adE,σ1,H1,s0,ρ1,I1,sr1,x,C,H',B,rfl,fl,hok,cov,avS,un,os,bare,c,G',e2,g',hsub,hth⟩:=q1
    cases e2
    have J1:Inv X pins σ1 H1 s0:=a4T I1
    have hn:X.A.handled=none:=I.ok.hd hcm
    have hfr:X.A.frames=some (X.env :: X.outer):=by rw [← hst];exact I.ok.frames
    have fl':Fly B (X.env :: X.outer) x (.ref C) s1.heap:=by rw [← hst];exact fl
    refine axE (B:=B) hfr hfn fl' fun h4 aUB sm4=>?_
    refine ajE aUB fun h5 fl5 sm5=>?_
    have hxB:B.get? x=none:=fl.new
    have nxH:H' x=none:=arZ hok hxB
    have track:∀ (h6:Heap) (oe:Obj) (ws:Array Value),Fly B (X.env :: X.outer) x (.ref C) h6→s1.heap.UpToSlots h6→h6.get? x=some oe→oe.cls = .ref C→oe.data = .fields ws →
        Inv X pins σ1 (upd H' x (.frz oe (.ext (abL C x)))) { s1 with heap:=h6 }∧Ts H1 (upd H' x (.frz oe (.ext (abL C x)))):=by
      intro h6 oe ws fl6 sm azS aC3 anM
      have un6:=aO4 (P:=X.prog) (w:=X.w) fl cov avS un fl6.stays sm
      have nx0:s0.heap.get? x=none:=by
        cases e0:s0.heap.get? x with
        | none=>rfl
        | some o =>
          by_cases hx:x∈frs X.stack
          · obtain ⟨_,o',ho',hd'⟩:=fl6.aM3.mem (by rw [← hst];exact hx)
            rw [azS] at ho';cases ho'
            exact absurd anM (hd' ws)
          · obtain ⟨o',ho'⟩:=avS x o e0 hx
            rw [hxB] at ho';cases ho'
      have sn:Same H' (upd H' x (.frz oe (.ext (abL C x)))):=cR nxH
      have nst:∀ b o,s0.heap.get? b=some o→b≠x:=fun b o e z=>by subst z;rw [nx0] at e;cases e
      have un7:Un (frs X.stack) [] H1 (upd H' x (.frz oe (.ext (abL C x)))) s0.heap h6:=⟨un6.keep,un6.slot,fun b o e n hx=>by rw [eE (nst b o e)];exact un6.free b o e n hx,un6.there,fun b xs z=>sn _ _ (un6.tups b xs z),fun b o u z=>sn _ _ (un6.uV b o u z),fun b ps z=>by
        obtain ⟨m,e⟩:=un6.a66 b ps z
        exact ⟨m,sn _ _ e⟩⟩
      have aZ3:HOk X.prog X.w (upd H' x (.frz oe (.ext (abL C x)))) h6:=fun b o e=>by
        by_cases hb:b=x
        · subst hb
          rw [aU] at e;cases e
          refine ⟨azS,⟨oe,ws,azS,aC3,anM⟩,⟨oe,azS⟩,fun h1 h2 ⟨o1,w1,e1,e2,e3⟩ k=>⟨o1,w1,k _ e1,e2,e3⟩⟩
        · rw [eE hb] at e
          exact ((hok.kept fl6.stays) b o e).stay (fun _ _ _ z=>z) (fun c z=>sn _ _ z) fun c xs z=>sn _ _ z
      exact ⟨J1.call' (ch:=[]) (s':={ s1 with heap:=h6 }) os un7 aZ3 bare (fun b z=>absurd z (by simp)),un7.tups,un7.uV⟩
    obtain ⟨oe,ws5,hoe,hoec,hoed,aZ4⟩:=fl5.fld
    obtain ⟨J5,_⟩:=track h5 oe ws5 fl5 (sm4.trans sm5) hoe hoec hoed
    refine wpAny_handleBy_cons (codeAny_handlers_test ?_) (by intro q;cases q)
    refine a04 (X:=azR X x) (axU J5 x (.inr ⟨x,oe,_,ws5,rfl,aU,hoed,aZ4⟩)) hg hm ?_ hd
    refine aYZ (K:=X.K) J5.kIn hoe hoec hc ht hbx hsub ?_
    refine codeAny_handlers_suite_as ?_
    refine ajE fl5 fun h6 fl6 sm6=>?_
    obtain ⟨oe6,ws,azS,aC3,anM,aL3⟩:=fl6.fld
    obtain ⟨J7,tt⟩:=track h6 oe6 ws fl6 ((sm4.trans sm5).trans sm6) azS aC3 anM
    have gx:G' x=none:=tK (K:=X.K) g' nxH (a7R (X:=X) J7)
    refine ajQ (X:=azR X x) (axU J7 x (.inr ⟨x,oe6,_,ws,rfl,aU,anM,aL3⟩)) hN hi (.inl hl) (v := .ref x) (u := .ref x) rfl (fun s8 J8=>?_) (.inr hl)
    have q8:=hth x gx
    refine wpAny_mono (hh x pins s8 _ _ { nx:=fun σ2 H2=>F.nx (afP σ2 i) H2,rt:=F.rt,bk:=fun σ2 H2=>F.bk (afP σ2 i) H2,ct:=fun σ2 H2=>F.ct (afP σ2 i) H2 } J8
      ⟨a4S ρ1 i (.ref x),aQ G' x (.exn C),_,(sr1.mono tt).set (.ref x) i,g'.put (u := .exn C) nxH ⟨oe6,ws,aU,anM,aL3⟩,q8,⟨fun ρ2 G2 σ2 H2 s2 g2 z=>d.nx _ G2 _ H2 (s2.clr i) g2 z,d.rt,fun ρ2 G2 σ2 H2 s2 g2 z=>d.bk _ G2 _ H2 (s2.clr i) g2 z,fun ρ2 G2 σ2 H2 s2 g2 z=>d.ct _ G2 _ H2 (s2.clr i) g2 z⟩⟩) (fun f s9 q9=>?_) fun _ _ z=>z.elim
    cases f with
    | next=>obtain ⟨σ2,H2,I2,z⟩:=q9;exact ajJ (aaY J7.ok hn I2) hN hi hl fun s10 I10=>⟨_,H2,I10,z⟩
    | brk=>obtain ⟨σ2,H2,I2,z⟩:=q9;exact ajJ (aaY J7.ok hn I2) hN hi hl fun s10 I10=>⟨_,H2,I10,z⟩
    | cont=>obtain ⟨σ2,H2,I2,z⟩:=q9;exact ajJ (aaY J7.ok hn I2) hN hi hl fun s10 I10=>⟨_,H2,I10,z⟩
    | ret u=>obtain ⟨v,σ2,H2,I2,r2,z⟩:=q9;exact ajJ (aaY J7.ok hn I2) hN hi hl fun s10 I10=>⟨v,_,H2,I10,r2,z⟩
end
end
section
section
variable {X:Cx} {a b c:Expr} {ta tb tc:dZ} {pos:Pos}
def ahA (t:dZ):dZ:=fun ρ G R=>t ρ G fun x G1=>match x with
  | .int i=>R (.int (-i)) G1
  | _=>False
theorem aUC (ha:gB X a ta):gB X (.UnaryOp .USub a pos) (ahA ta):=PE.imp (aSU aN0 ha) fun σ H Q h=>by
  obtain ⟨ρ,G,R,s,g,t,k⟩:=h
  refine ⟨ρ,G,_,s,g,t,fun v H1 x G1 t1 r g1 q=>?_⟩
  cases r with
  | int i=>exact ⟨i,rfl,k _ H1 _ G1 t1 (.int _) g1 q⟩
  | _=>exact False.elim q
def aR:Nat→D→Bool
  | 0,.tup _=>false
  | n+1,.tup xs=>xs.all (aR n)
  | _,.ref _=>false
  | _,.ty _=>false
  | _,_=>true
mutual
def eqP:D→D→Bool
  | .non,.non=>true
  | .bl a,.bl b=>a == b
  | .bl a,.int b=>(if a then 1 else 0) == b
  | .int a,.bl b=>a == (if b then 1 else 0)
  | .int a,.int b=>a == b
  | .str a,.str b=>a == b
  | .tup xs,.tup ys=>wC xs ys
  | _,_=>false
def wC:List D→List D→Bool
  | [],[]=>true
  | x :: xs,y :: ys=>eqP x y&&wC xs ys
  | _,_=>false
end
def a6C (xs ys:List D) (j:Nat):Bool:=match xs[j]?,ys[j]? with
  | some a,some b=>eqP a b
  | _,_=>false
theorem ajZ (n:Nat) (e:Nat→Bool):(List.range (n+1)).all e=(e 0&&(List.range n).all fun j=>e (j+1)):=by
  rw [List.range_succ_eq_map,List.all_cons,List.all_map];rfl
theorem wD:∀ (xs ys:List D),wC xs ys=((List.range (min xs.length ys.length)).all (a6C xs ys)&&xs.length == ys.length)
  | [],[]=>rfl
  | [],y :: ys=>by simp [wC]
  | x :: xs,[]=>by simp [wC]
  | x :: xs,y :: ys=>by
    have ih:=wD xs ys
    have e:min (x :: xs).length (y :: ys).length=min xs.length ys.length+1:=by simp only [List.length_cons];omega
    rw [wC,ih,e,ajZ]
    have e0:a6C (x :: xs) (y :: ys) 0=eqP x y:=rfl
    have e1:(fun j=>a6C (x :: xs) (y :: ys) (j+1))=a6C xs ys:=by
      funext j
      simp [a6C]
    have e2:((x :: xs).length == (y :: ys).length)=(xs.length == ys.length):=by
      simp only [List.length_cons]
      by_cases h:xs.length=ys.length
      · simp [h]
      · have h':¬ (xs.length+1=ys.length+1):=by omega
        simp [h,h']
    rw [e0,e1,e2,Bool.and_assoc]
theorem as3 {xs ys:List D} (h:(xs.length != ys.length)=true):wC xs ys=false:=by
  rw [wD]
  have:(xs.length == ys.length)=false:=by simpa using h
  rw [this,Bool.and_false]
theorem anN {xs ys:List D} (h:xs.length=ys.length):wC xs ys=(List.range xs.length).all (a6C xs ys):=by
  rw [wD,h]
  simp
mutual
theorem RD.inj {pins:List (Addr×Obj)} {σ:St} {H:Hp} {s:Shared} (I:Inv X pins σ H s):∀ {n:Nat} {x y:D} {v:V},aR n x=true→aR n y=true→RD X.K H x v→RD X.K H y v→x=y
  | _,_,_,_,_,_,.non,.non=>rfl
  | _,_,_,_,_,_,.bl _,.bl _=>rfl
  | _,_,_,_,_,_,.int _,.int _=>rfl
  | _,_,_,_,_,_,.str _,.str _=>rfl
  | _,_,_,_,hx,_,.ty _,.ty _=>rfl
  | _,_,_,_,_,_,.ref _,.ref _=>rfl
  | n,_,_,_,hx,_,.ref _,.tup _ _ _=>by cases n <;> simp [aR] at hx
  | n,_,_,_,_,hy,.tup _ _ _,.ref _=>by cases n <;> simp [aR] at hy
  | 0,_,_,_,hx,_,.tup _ _ _,.tup _ _ _=>by simp [aR] at hx
  | n+1,_,_,_,hx,hy,.tup h1 r1 _,.tup h2 r2 _=>by
    have e:=I.an8 h1 h2
    subst e
    rw [iJ.inj I (n:=n) (by simpa [aR] using hx) (by simpa [aR] using hy) r1 r2]
theorem iJ.inj {pins:List (Addr×Obj)} {σ:St} {H:Hp} {s:Shared} (I:Inv X pins σ H s):∀ {n:Nat} {xs ys:List D} {vs:List V},(∀ x∈xs,aR n x=true)→(∀ y∈ys,aR n y=true)→iJ X.K H xs vs→iJ X.K H ys vs→xs=ys
  | _,_,_,_,_,_,.nil,.nil=>rfl
  | n,_,_,_,hx,hy,.cons h1 r1,.cons h2 r2=>by
    rw [RD.inj I (hx _ (by simp)) (hy _ (by simp)) h1 h2,iJ.inj I (fun x m=>hx x (by simp [m])) (fun y m=>hy y (by simp [m])) r1 r2]
end
mutual
theorem as4:∀ {n:Nat} {x:D},aR n x=true→eqP x x=true
  | _,.non,_=>rfl
  | _,.bl b,_=>by simp [eqP]
  | _,.int b,_=>by simp [eqP]
  | _,.str b,_=>by simp [eqP]
  | n,.ref _,h=>by cases n <;> simp [aR] at h
  | n,.ty _,h=>by cases n <;> simp [aR] at h
  | 0,.tup _,h=>by simp [aR] at h
  | n+1,.tup xs,h=>by rw [eqP];exact anO (n:=n) (by simpa [aR] using h)
theorem anO:∀ {n:Nat} {xs:List D},(∀ x∈xs,aR n x=true)→wC xs xs=true
  | _,[],_=>rfl
  | n,x :: xs,h=>by rw [wC,as4 (h x (by simp)),anO fun y m=>h y (by simp [m])];rfl
end
theorem Vals.aC4 {K:Fg} {H:Hp} {ds:List D} {xs:List V} {us:List Value} (r:iJ K H ds xs) (v:Vals xs us) {j:Nat} {u:Value} (e:us[j]?=some u):∃ d x,ds[j]?=some d∧RD K H d x∧RelV x u:=by
  have hj:j < us.length:=(List.getElem?_eq_some_iff.mp e).1
  have hj':j < xs.length:=by rw [v.length];exact hj
  have ex:xs[j]?=some xs[j]:=List.getElem?_eq_getElem hj'
  obtain ⟨u',e1,r1⟩:=v.get ex
  rw [e] at e1;cases e1
  obtain ⟨d,e2,r2⟩:=r.aGH ex
  exact ⟨d,_,e2,r2,r1⟩
theorem a8V {A:Around} {s:Shared} {K:Fg} {H:Hp} {n:Nat} {xs ys:List D} {vx vy:List V} {us ws:List Value} (rx:iJ K H xs vx) (ry:iJ K H ys vy) (vx':Vals vx us) (vy':Vals vy ws)
    (ih:∀ x∈xs,∀ y∈ys,∀ (v w:V) (u t:Value),RD K H x v→RD K H y w→RelV v u→RelV w t→SeqAt.EqAt A s u t (eqP x y)) :
    ∀ j (h1:j < us.toArray.size) (h2:j < ws.toArray.size),SeqAt.EqAt A s us.toArray[j] ws.toArray[j] (a6C xs ys j):=by
  intro j h1 h2
  have e1:us[j]?=some us.toArray[j]:=by simp [List.getElem?_eq_getElem (show j < us.length by simpa using h1)]
  have e2:ws[j]?=some ws.toArray[j]:=by simp [List.getElem?_eq_getElem (show j < ws.length by simpa using h2)]
  obtain ⟨d,x,f1,f2,f3⟩:=Vals.aC4 rx vx' e1
  obtain ⟨d',y,g1,g2,g3⟩:=Vals.aC4 ry vy' e2
  have e:a6C xs ys j=eqP d d':=by simp [a6C,f1,g1]
  rw [e]
  exact ih d (List.mem_of_getElem? f1) d' (List.mem_of_getElem? g1) x y _ _ f2 g2 f3 g3
def scD:D→Bool
  | .non=>true
  | .bl _=>true
  | .int _=>true
  | .str _=>true
  | _=>false
theorem aGV {A:Around} {s:Shared} {K:Fg} {H:Hp} {x y:D} {vx vy:V} {u v:Value} (hx:scD x=true) (hy:scD y=true) (rx:RD K H x vx) (ry:RD K H y vy) (ru:RelV vx u) (rv:RelV vy v):SeqAt.EqAt A s u v (eqP x y):=by
  have fx:a7Q vx=true:=by cases rx <;> first | rfl | cases hx
  have fy:a7Q vy=true:=by cases ry <;> first | rfl | cases hy
  have e:eqV vx vy=eqP x y:=by cases rx <;> cases ry <;> first | (simp [eqV,eqP];done) | cases hx | cases hy
  rw [← e]
  exact afN ru rv fx fy
theorem a8W {A:Around} {n:Nat} (h:A.units+(n+1) < cLine):A.in1.units+n < cLine:=by
  show A.units+1+n < cLine
  omega
theorem ap9 {pins:List (Addr×Obj)} {σ:St} {H:Hp} {s:Shared} (I:Inv X pins σ H s):∀ (n:Nat) (A:Around) (x y:D) (vx vy:V) (u v:Value),A.units+n < cLine→aR n x=true→aR n y=true→RD X.K H x vx→RD X.K H y vy→RelV vx u→RelV vy v→SeqAt.EqAt A s u v (eqP x y):=by
  intro n
  induction n with
  | zero =>
    intro A x y vx vy u v hu hx hy rx ry ru rv
    have sx:scD x=true:=by cases x <;> first | rfl | (simp [aR] at hx)
    have sy:scD y=true:=by cases y <;> first | rfl | (simp [aR] at hy)
    exact aGV sx sy rx ry ru rv
  | succ n ih =>
    intro A x y vx vy u v hu hx hy rx ry ru rv
    have hu0:A.units < cLine:=by omega
    cases rx with
    | @tup ax xs ds hax rax eax =>
      cases ru
      obtain ⟨its,vv,px,_⟩:=I.tuple hax
      cases ry with
      | @tup ay ys es hay ray eay =>
        cases rv
        obtain ⟨jts,ww,py,_⟩:=I.tuple hay
        by_cases hab:ax=ay
        · subst hab
          have e:=RD.inj I (n:=n+1) hx hy (.tup hax rax eax) (.tup hay ray eay)
          rw [e,as4 hy]
          exact SeqAt.EqAt.same _
        · refine SeqAt.EqAt.of_refs hab ?_
          have z:=SeqAt.RcAt.tuples (e:=a6C ds es) (show s.heap.IsTuple ax its.toArray from px) (show s.heap.IsTuple ay jts.toArray from py) hu0 (a8V (n:=n) rax ray vv ww fun x mx y my v w u t r1 r2 r3 r4 =>
            ih A.in1 x y v w u t (a8W hu) (List.all_eq_true.mp (by simpa [aR] using hx) x mx) (List.all_eq_true.mp (by simpa [aR] using hy) y my) r1 r2 r3 r4)
          have e:((List.range (min its.toArray.size jts.toArray.size)).all (a6C ds es)&&its.toArray.size == jts.toArray.size)=eqP (.tup ds) (.tup es):=by
            rw [eqP,wD,List.size_toArray,List.size_toArray,← vv.length,← ww.length,← rax.length,← ray.length]
          rw [e] at z
          exact z
      | non=>cases rv;exact SeqAt.EqAt.tuple_none (show s.heap.IsTuple ax its.toArray from px) hu0
      | bl b=>cases rv;exact SeqAt.EqAt.tuple_bool b (show s.heap.IsTuple ax its.toArray from px) hu0
      | int i=>obtain ⟨t,rfl⟩:=rv;exact SeqAt.EqAt.tuple_int i t (show s.heap.IsTuple ax its.toArray from px) hu0
      | str z=>obtain ⟨t,rfl⟩:=rv;exact SeqAt.EqAt.tuple_str z t (show s.heap.IsTuple ax its.toArray from px) hu0
      | ref _=>simp [aR] at hy
      | ty _=>simp [aR] at hy
    | ref _=>simp [aR] at hx
    | ty _=>simp [aR] at hx
    | non =>
      cases ry with
      | @tup ay ys es hay ray =>
        cases rv;cases ru
        obtain ⟨jts,ww,py,_⟩:=I.tuple hay
        exact SeqAt.EqAt.none_tuple (show s.heap.IsTuple ay jts.toArray from py) hu0
      | ref _=>simp [aR] at hy
      | ty _=>simp [aR] at hy
      | _=>exact afN ru rv rfl rfl
    | bl b =>
      cases ry with
      | @tup ay ys es hay ray =>
        cases rv;cases ru
        obtain ⟨jts,ww,py,_⟩:=I.tuple hay
        exact SeqAt.EqAt.bool_tuple b (show s.heap.IsTuple ay jts.toArray from py) hu0
      | ref _=>simp [aR] at hy
      | ty _=>simp [aR] at hy
      | _=>exact afN ru rv rfl rfl
    | int i =>
      cases ry with
      | @tup ay ys es hay ray =>
        cases rv;obtain ⟨t,rfl⟩:=ru
        obtain ⟨jts,ww,py,_⟩:=I.tuple hay
        exact SeqAt.EqAt.int_tuple i t (show s.heap.IsTuple ay jts.toArray from py) hu0
      | ref _=>simp [aR] at hy
      | ty _=>simp [aR] at hy
      | _=>exact afN ru rv rfl rfl
    | str z =>
      cases ry with
      | @tup ay ys es hay ray =>
        cases rv;obtain ⟨t,rfl⟩:=ru
        obtain ⟨jts,ww,py,_⟩:=I.tuple hay
        exact SeqAt.EqAt.str_tuple z t (show s.heap.IsTuple ay jts.toArray from py) hu0
      | ref _=>simp [aR] at hy
      | ty _=>simp [aR] at hy
      | _=>exact afN ru rv rfl rfl
end
end
section
section
variable {X:Cx}
theorem aZ7 {pins:List (Addr×Obj)} {σ:St} {H:Hp} {s:Shared} (I:Inv X pins σ H s) (n:Nat) (A:Around) (x y:D) (vx vy:V) (u v:Value) (hu:A.units+(n+1) < cLine) (hx:aR (n+1) x=true) (hy:aR (n+1) y=true) (rx:RD X.K H x vx) (ry:RD X.K H y vy) (ru:RelV vx u) (rv:RelV vy v):SeqAt.RcAt A s u v (eqP x y):=by
  have hu0:A.units < cLine:=by omega
  cases rx with
  | non =>
    cases ru
    cases ry with
    | non =>
      cases rv
      first | exact SeqAt.RcAt.none_none | (simp only [eqP];exact SeqAt.RcAt.none_none)
    | bl b2 =>
      cases rv
      first | exact SeqAt.RcAt.none_bool b2 | (simp only [eqP];exact SeqAt.RcAt.none_bool b2)
    | int i2 =>
      obtain ⟨t2,rfl⟩:=rv
      first | exact SeqAt.RcAt.none_int i2 t2 | (simp only [eqP];exact SeqAt.RcAt.none_int i2 t2)
    | str z2 =>
      obtain ⟨t2,rfl⟩:=rv
      first | exact SeqAt.RcAt.none_str z2 t2 | (simp only [eqP];exact SeqAt.RcAt.none_str z2 t2)
    | @tup a2 xs2 ds2 h2 r2 =>
      cases rv
      obtain ⟨its2,vv2,p2,_⟩:=I.tuple h2
      first | exact SeqAt.RcAt.none_tuple (show s.heap.IsTuple a2 its2.toArray from p2) hu0 | (simp only [eqP];exact SeqAt.RcAt.none_tuple (show s.heap.IsTuple a2 its2.toArray from p2) hu0)
    | ref _=>simp [aR] at hy
    | ty _=>simp [aR] at hy
  | bl b1 =>
    cases ru
    cases ry with
    | non =>
      cases rv
      first | exact SeqAt.RcAt.bool_none b1 | (simp only [eqP];exact SeqAt.RcAt.bool_none b1)
    | bl b2 =>
      cases rv
      first | exact SeqAt.RcAt.bool_bool b1 b2 | (simp only [eqP];exact SeqAt.RcAt.bool_bool b1 b2)
    | int i2 =>
      obtain ⟨t2,rfl⟩:=rv
      first | exact SeqAt.RcAt.bool_int b1 i2 t2 | (simp only [eqP];exact SeqAt.RcAt.bool_int b1 i2 t2)
    | str z2 =>
      obtain ⟨t2,rfl⟩:=rv
      first | exact SeqAt.RcAt.bool_str b1 z2 t2 | (simp only [eqP];exact SeqAt.RcAt.bool_str b1 z2 t2)
    | @tup a2 xs2 ds2 h2 r2 =>
      cases rv
      obtain ⟨its2,vv2,p2,_⟩:=I.tuple h2
      first | exact SeqAt.RcAt.bool_tuple b1 (show s.heap.IsTuple a2 its2.toArray from p2) hu0 | (simp only [eqP];exact SeqAt.RcAt.bool_tuple b1 (show s.heap.IsTuple a2 its2.toArray from p2) hu0)
    | ref _=>simp [aR] at hy
    | ty _=>simp [aR] at hy
  | int i1 =>
    obtain ⟨t1,rfl⟩:=ru
    cases ry with
    | non =>
      cases rv
      first | exact SeqAt.RcAt.int_none i1 t1 | (simp only [eqP];exact SeqAt.RcAt.int_none i1 t1)
    | bl b2 =>
      cases rv
      first | exact SeqAt.RcAt.int_bool i1 t1 b2 | (simp only [eqP];exact SeqAt.RcAt.int_bool i1 t1 b2)
    | int i2 =>
      obtain ⟨t2,rfl⟩:=rv
      first | exact SeqAt.RcAt.int_int i1 t1 i2 t2 | (simp only [eqP];exact SeqAt.RcAt.int_int i1 t1 i2 t2)
    | str z2 =>
      obtain ⟨t2,rfl⟩:=rv
      first | exact SeqAt.RcAt.int_str i1 t1 z2 t2 | (simp only [eqP];exact SeqAt.RcAt.int_str i1 t1 z2 t2)
    | @tup a2 xs2 ds2 h2 r2 =>
      cases rv
      obtain ⟨its2,vv2,p2,_⟩:=I.tuple h2
      first | exact SeqAt.RcAt.int_tuple i1 t1 (show s.heap.IsTuple a2 its2.toArray from p2) hu0 | (simp only [eqP];exact SeqAt.RcAt.int_tuple i1 t1 (show s.heap.IsTuple a2 its2.toArray from p2) hu0)
    | ref _=>simp [aR] at hy
    | ty _=>simp [aR] at hy
  | str z1 =>
    obtain ⟨t1,rfl⟩:=ru
    cases ry with
    | non =>
      cases rv
      first | exact SeqAt.RcAt.str_none z1 t1 | (simp only [eqP];exact SeqAt.RcAt.str_none z1 t1)
    | bl b2 =>
      cases rv
      first | exact SeqAt.RcAt.str_bool z1 t1 b2 | (simp only [eqP];exact SeqAt.RcAt.str_bool z1 t1 b2)
    | int i2 =>
      obtain ⟨t2,rfl⟩:=rv
      first | exact SeqAt.RcAt.str_int z1 t1 i2 t2 | (simp only [eqP];exact SeqAt.RcAt.str_int z1 t1 i2 t2)
    | str z2 =>
      obtain ⟨t2,rfl⟩:=rv
      first | exact SeqAt.RcAt.str_str z1 t1 z2 t2 | (simp only [eqP];exact SeqAt.RcAt.str_str z1 t1 z2 t2)
    | @tup a2 xs2 ds2 h2 r2 =>
      cases rv
      obtain ⟨its2,vv2,p2,_⟩:=I.tuple h2
      first | exact SeqAt.RcAt.str_tuple z1 t1 (show s.heap.IsTuple a2 its2.toArray from p2) hu0 | (simp only [eqP];exact SeqAt.RcAt.str_tuple z1 t1 (show s.heap.IsTuple a2 its2.toArray from p2) hu0)
    | ref _=>simp [aR] at hy
    | ty _=>simp [aR] at hy
  | @tup a1 xs1 ds1 h1 r1 =>
    cases ru
    obtain ⟨oJ,vv1,p1,_⟩:=I.tuple h1
    cases ry with
    | non =>
      cases rv
      first | exact SeqAt.RcAt.tuple_none (show s.heap.IsTuple a1 oJ.toArray from p1) hu0 | (simp only [eqP];exact SeqAt.RcAt.tuple_none (show s.heap.IsTuple a1 oJ.toArray from p1) hu0)
    | bl b2 =>
      cases rv
      first | exact SeqAt.RcAt.tuple_bool b2 (show s.heap.IsTuple a1 oJ.toArray from p1) hu0 | (simp only [eqP];exact SeqAt.RcAt.tuple_bool b2 (show s.heap.IsTuple a1 oJ.toArray from p1) hu0)
    | int i2 =>
      obtain ⟨t2,rfl⟩:=rv
      first | exact SeqAt.RcAt.tuple_int i2 t2 (show s.heap.IsTuple a1 oJ.toArray from p1) hu0 | (simp only [eqP];exact SeqAt.RcAt.tuple_int i2 t2 (show s.heap.IsTuple a1 oJ.toArray from p1) hu0)
    | str z2 =>
      obtain ⟨t2,rfl⟩:=rv
      first | exact SeqAt.RcAt.tuple_str z2 t2 (show s.heap.IsTuple a1 oJ.toArray from p1) hu0 | (simp only [eqP];exact SeqAt.RcAt.tuple_str z2 t2 (show s.heap.IsTuple a1 oJ.toArray from p1) hu0)
    | @tup a2 xs2 ds2 h2 r2 =>
      cases rv
      obtain ⟨its2,vv2,p2,_⟩:=I.tuple h2
      have z:=SeqAt.RcAt.tuples (e:=a6C ds1 ds2) (show s.heap.IsTuple a1 oJ.toArray from p1) (show s.heap.IsTuple a2 its2.toArray from p2) hu0 (a8V (n:=n) r1 r2 vv1 vv2 fun x mx y my v w u t q1 q2 q3 q4 =>
            ap9 I n A.in1 x y v w u t (a8W hu) (List.all_eq_true.mp (by simpa [aR] using hx) x mx) (List.all_eq_true.mp (by simpa [aR] using hy) y my) q1 q2 q3 q4)
      have e:((List.range (min oJ.toArray.size its2.toArray.size)).all (a6C ds1 ds2)&&oJ.toArray.size == its2.toArray.size)=eqP (.tup ds1) (.tup ds2):=by
        rw [eqP,wD,List.size_toArray,List.size_toArray,← vv1.length,← vv2.length,← r1.length,← r2.length]
      rw [e] at z
      exact z
    | ref _=>simp [aR] at hy
    | ty _=>simp [aR] at hy
  | ref _=>simp [aR] at hx
  | ty _=>simp [aR] at hx
theorem aZ8 {pins:List (Addr×Obj)} {σ:St} {H:Hp} {s:Shared} (I:Inv X pins σ H s) (n:Nat) (A:Around) {a1:Addr} {xs:List V} (hl:SqL X.K H a1 xs) (y:D) (vy:V) (v:Value) (hu0:A.units < cLine) (hy:aR n y=true) (ry:RD X.K H y vy) (rv:RelV vy v):SeqAt.RcAt A s (.ref a1) v false:=by
  obtain ⟨oJ,vv1,pl,_⟩:=I.list hl
  have p1:=pl.isList
  cases ry with
  | non =>
    cases rv
    exact SeqAt.RcAt.list_none p1 hu0
  | bl b2 =>
    cases rv
    exact SeqAt.RcAt.list_bool b2 p1 hu0
  | int i2 =>
    obtain ⟨t2,rfl⟩:=rv
    exact SeqAt.RcAt.list_int i2 t2 p1 hu0
  | str z2 =>
    obtain ⟨t2,rfl⟩:=rv
    exact SeqAt.RcAt.list_str z2 t2 p1 hu0
  | @tup a2 xs2 ds2 h2 r2 =>
    cases rv
    obtain ⟨its2,vv2,p2,_⟩:=I.tuple h2
    exact SeqAt.RcAt.list_tuple (show s.heap.IsList a1 oJ.toArray from p1) (show s.heap.IsTuple a2 its2.toArray from p2) hu0
  | ref _=>cases n <;> simp [aR] at hy
  | ty _=>cases n <;> simp [aR] at hy
theorem aZ9 {pins:List (Addr×Obj)} {σ:St} {H:Hp} {s:Shared} (I:Inv X pins σ H s) (n:Nat) (A:Around) {a2:Addr} {xs:List V} (hl:SqL X.K H a2 xs) (y:D) (vy:V) (v:Value) (hu0:A.units < cLine) (hy:aR n y=true) (ry:RD X.K H y vy) (rv:RelV vy v):SeqAt.RcAt A s v (.ref a2) false:=by
  obtain ⟨its2,vv2,pl,_⟩:=I.list hl
  have p2:=pl.isList
  cases ry with
  | non =>
    cases rv
    exact SeqAt.RcAt.none_list p2 hu0
  | bl b1 =>
    cases rv
    exact SeqAt.RcAt.bool_list b1 p2 hu0
  | int i1 =>
    obtain ⟨t1,rfl⟩:=rv
    exact SeqAt.RcAt.int_list i1 t1 p2 hu0
  | str z1 =>
    obtain ⟨t1,rfl⟩:=rv
    exact SeqAt.RcAt.str_list z1 t1 p2 hu0
  | @tup a1 xs1 ds1 h1 r1 =>
    cases rv
    obtain ⟨oJ,vv1,p1,_⟩:=I.tuple h1
    exact SeqAt.RcAt.tuple_list (show s.heap.IsTuple a1 oJ.toArray from p1) (show s.heap.IsList a2 its2.toArray from p2) hu0
  | ref _=>cases n <;> simp [aR] at hy
  | ty _=>cases n <;> simp [aR] at hy
theorem aZA {pins:List (Addr×Obj)} {σ:St} {H:Hp} {s:Shared} (I:Inv X pins σ H s) (n:Nat) (A:Around) {a1 a2:Addr} {xs1 xs2:List V} {ds1 ds2:List D} (h1:SqL X.K H a1 xs1) (h2:SqL X.K H a2 xs2) (r1:iJ X.K H ds1 xs1) (r2:iJ X.K H ds2 xs2)
    (hu:A.units+(n+1) < cLine) (hx:ds1.all (aR n)=true) (hy:ds2.all (aR n)=true):SeqAt.RcAt A s (.ref a1) (.ref a2) (wC ds1 ds2):=by
  have hu0:A.units < cLine:=by omega
  obtain ⟨oJ,vv1,q1,_⟩:=I.list h1
  obtain ⟨its2,vv2,q2,_⟩:=I.list h2
  have p1:=q1.isList
  have p2:=q2.isList
  by_cases hl:ds1.length=ds2.length
  · have hsz:oJ.toArray.size=its2.toArray.size:=by rw [List.size_toArray,List.size_toArray,← vv1.length,← vv2.length,← r1.length,← r2.length];exact hl
    have z:=SeqAt.RcAt.lists (e:=a6C ds1 ds2) p1 p2 hsz hu0 (a8V (n:=n) r1 r2 vv1 vv2 fun x mx y my v w u t q1 q2 q3 q4 =>
            ap9 I n A.in1 x y v w u t (a8W hu) (List.all_eq_true.mp hx x mx) (List.all_eq_true.mp hy y my) q1 q2 q3 q4)
    have e:(List.range oJ.toArray.size).all (a6C ds1 ds2)=wC ds1 ds2:=by rw [anN hl,List.size_toArray,← vv1.length,← r1.length]
    rw [e] at z
    exact z
  · have hne:(oJ.toArray.size != its2.toArray.size)=true:=by rw [List.size_toArray,List.size_toArray,← vv1.length,← vv2.length,← r1.length,← r2.length];simpa using hl
    have e:wC ds1 ds2=false:=as3 (by simpa using hl)
    rw [e]
    exact SeqAt.RcAt.lists_lengths p1 p2 hne hu0
theorem aO7 {pins:List (Addr×Obj)} {σ:St} {H:Hp} {s:Shared} (I:Inv X pins σ H s) (n:Nat) (A:Around) (x y:D) (vx vy:V) (u v:Value) (hu:A.units+(n+1) < cLine) (hx:aR (n+1) x=true) (hy:aR (n+1) y=true) (rx:RD X.K H x vx) (ry:RD X.K H y vy) (ru:RelV vx u) (rv:RelV vy v):SeqAt.RcNeAt A s u v (!eqP x y):=by
  have hu0:A.units < cLine:=by omega
  cases rx with
  | non =>
    cases ru
    cases ry with
    | non =>
      cases rv
      first | exact SeqAt.RcNeAt.none_none | (simp only [eqP];exact SeqAt.RcNeAt.none_none)
    | bl b2 =>
      cases rv
      first | exact SeqAt.RcNeAt.none_bool b2 | (simp only [eqP];exact SeqAt.RcNeAt.none_bool b2)
    | int i2 =>
      obtain ⟨t2,rfl⟩:=rv
      first | exact SeqAt.RcNeAt.none_int i2 t2 | (simp only [eqP];exact SeqAt.RcNeAt.none_int i2 t2)
    | str z2 =>
      obtain ⟨t2,rfl⟩:=rv
      first | exact SeqAt.RcNeAt.none_str z2 t2 | (simp only [eqP];exact SeqAt.RcNeAt.none_str z2 t2)
    | @tup a2 xs2 ds2 h2 r2 =>
      cases rv
      obtain ⟨its2,vv2,p2,_⟩:=I.tuple h2
      first | exact SeqAt.RcNeAt.none_tuple (show s.heap.IsTuple a2 its2.toArray from p2) hu0 | (simp only [eqP];exact SeqAt.RcNeAt.none_tuple (show s.heap.IsTuple a2 its2.toArray from p2) hu0)
    | ref _=>simp [aR] at hy
    | ty _=>simp [aR] at hy
  | bl b1 =>
    cases ru
    cases ry with
    | non =>
      cases rv
      first | exact SeqAt.RcNeAt.bool_none b1 | (simp only [eqP];exact SeqAt.RcNeAt.bool_none b1)
    | bl b2 =>
      cases rv
      first | exact SeqAt.RcNeAt.bool_bool b1 b2 | (simp only [eqP];exact SeqAt.RcNeAt.bool_bool b1 b2)
    | int i2 =>
      obtain ⟨t2,rfl⟩:=rv
      first | exact SeqAt.RcNeAt.bool_int b1 i2 t2 | (simp only [eqP];exact SeqAt.RcNeAt.bool_int b1 i2 t2)
    | str z2 =>
      obtain ⟨t2,rfl⟩:=rv
      first | exact SeqAt.RcNeAt.bool_str b1 z2 t2 | (simp only [eqP];exact SeqAt.RcNeAt.bool_str b1 z2 t2)
    | @tup a2 xs2 ds2 h2 r2 =>
      cases rv
      obtain ⟨its2,vv2,p2,_⟩:=I.tuple h2
      first | exact SeqAt.RcNeAt.bool_tuple b1 (show s.heap.IsTuple a2 its2.toArray from p2) hu0 | (simp only [eqP];exact SeqAt.RcNeAt.bool_tuple b1 (show s.heap.IsTuple a2 its2.toArray from p2) hu0)
    | ref _=>simp [aR] at hy
    | ty _=>simp [aR] at hy
  | int i1 =>
    obtain ⟨t1,rfl⟩:=ru
    cases ry with
    | non =>
      cases rv
      first | exact SeqAt.RcNeAt.int_none i1 t1 | (simp only [eqP];exact SeqAt.RcNeAt.int_none i1 t1)
    | bl b2 =>
      cases rv
      first | exact SeqAt.RcNeAt.int_bool i1 t1 b2 | (simp only [eqP];exact SeqAt.RcNeAt.int_bool i1 t1 b2)
    | int i2 =>
      obtain ⟨t2,rfl⟩:=rv
      first | exact SeqAt.RcNeAt.int_int i1 t1 i2 t2 | (simp only [eqP];exact SeqAt.RcNeAt.int_int i1 t1 i2 t2)
    | str z2 =>
      obtain ⟨t2,rfl⟩:=rv
      first | exact SeqAt.RcNeAt.int_str i1 t1 z2 t2 | (simp only [eqP];exact SeqAt.RcNeAt.int_str i1 t1 z2 t2)
    | @tup a2 xs2 ds2 h2 r2 =>
      cases rv
      obtain ⟨its2,vv2,p2,_⟩:=I.tuple h2
      first | exact SeqAt.RcNeAt.int_tuple i1 t1 (show s.heap.IsTuple a2 its2.toArray from p2) hu0 | (simp only [eqP];exact SeqAt.RcNeAt.int_tuple i1 t1 (show s.heap.IsTuple a2 its2.toArray from p2) hu0)
    | ref _=>simp [aR] at hy
    | ty _=>simp [aR] at hy
  | str z1 =>
    obtain ⟨t1,rfl⟩:=ru
    cases ry with
    | non =>
      cases rv
      first | exact SeqAt.RcNeAt.str_none z1 t1 | (simp only [eqP];exact SeqAt.RcNeAt.str_none z1 t1)
    | bl b2 =>
      cases rv
      first | exact SeqAt.RcNeAt.str_bool z1 t1 b2 | (simp only [eqP];exact SeqAt.RcNeAt.str_bool z1 t1 b2)
    | int i2 =>
      obtain ⟨t2,rfl⟩:=rv
      first | exact SeqAt.RcNeAt.str_int z1 t1 i2 t2 | (simp only [eqP];exact SeqAt.RcNeAt.str_int z1 t1 i2 t2)
    | str z2 =>
      obtain ⟨t2,rfl⟩:=rv
      first | exact SeqAt.RcNeAt.str_str z1 t1 z2 t2 | (simp only [eqP];exact SeqAt.RcNeAt.str_str z1 t1 z2 t2)
    | @tup a2 xs2 ds2 h2 r2 =>
      cases rv
      obtain ⟨its2,vv2,p2,_⟩:=I.tuple h2
      first | exact SeqAt.RcNeAt.str_tuple z1 t1 (show s.heap.IsTuple a2 its2.toArray from p2) hu0 | (simp only [eqP];exact SeqAt.RcNeAt.str_tuple z1 t1 (show s.heap.IsTuple a2 its2.toArray from p2) hu0)
    | ref _=>simp [aR] at hy
    | ty _=>simp [aR] at hy
  | @tup a1 xs1 ds1 h1 r1 =>
    cases ru
    obtain ⟨oJ,vv1,p1,_⟩:=I.tuple h1
    cases ry with
    | non =>
      cases rv
      first | exact SeqAt.RcNeAt.tuple_none (show s.heap.IsTuple a1 oJ.toArray from p1) hu0 | (simp only [eqP];exact SeqAt.RcNeAt.tuple_none (show s.heap.IsTuple a1 oJ.toArray from p1) hu0)
    | bl b2 =>
      cases rv
      first | exact SeqAt.RcNeAt.tuple_bool b2 (show s.heap.IsTuple a1 oJ.toArray from p1) hu0 | (simp only [eqP];exact SeqAt.RcNeAt.tuple_bool b2 (show s.heap.IsTuple a1 oJ.toArray from p1) hu0)
    | int i2 =>
      obtain ⟨t2,rfl⟩:=rv
      first | exact SeqAt.RcNeAt.tuple_int i2 t2 (show s.heap.IsTuple a1 oJ.toArray from p1) hu0 | (simp only [eqP];exact SeqAt.RcNeAt.tuple_int i2 t2 (show s.heap.IsTuple a1 oJ.toArray from p1) hu0)
    | str z2 =>
      obtain ⟨t2,rfl⟩:=rv
      first | exact SeqAt.RcNeAt.tuple_str z2 t2 (show s.heap.IsTuple a1 oJ.toArray from p1) hu0 | (simp only [eqP];exact SeqAt.RcNeAt.tuple_str z2 t2 (show s.heap.IsTuple a1 oJ.toArray from p1) hu0)
    | @tup a2 xs2 ds2 h2 r2 =>
      cases rv
      obtain ⟨its2,vv2,p2,_⟩:=I.tuple h2
      have z:=SeqAt.RcNeAt.tuples (e:=a6C ds1 ds2) (show s.heap.IsTuple a1 oJ.toArray from p1) (show s.heap.IsTuple a2 its2.toArray from p2) hu0 (a8V (n:=n) r1 r2 vv1 vv2 fun x mx y my v w u t q1 q2 q3 q4 =>
            ap9 I n A.in1 x y v w u t (a8W hu) (List.all_eq_true.mp (by simpa [aR] using hx) x mx) (List.all_eq_true.mp (by simpa [aR] using hy) y my) q1 q2 q3 q4)
      have e:((List.range (min oJ.toArray.size its2.toArray.size)).all (a6C ds1 ds2)&&oJ.toArray.size == its2.toArray.size)=eqP (.tup ds1) (.tup ds2):=by
        rw [eqP,wD,List.size_toArray,List.size_toArray,← vv1.length,← vv2.length,← r1.length,← r2.length]
      rw [e] at z
      exact z
    | ref _=>simp [aR] at hy
    | ty _=>simp [aR] at hy
  | ref _=>simp [aR] at hx
  | ty _=>simp [aR] at hx
theorem aO8 {pins:List (Addr×Obj)} {σ:St} {H:Hp} {s:Shared} (I:Inv X pins σ H s) (n:Nat) (A:Around) {a1:Addr} {xs:List V} (hl:SqL X.K H a1 xs) (y:D) (vy:V) (v:Value) (hu0:A.units < cLine) (hy:aR n y=true) (ry:RD X.K H y vy) (rv:RelV vy v):SeqAt.RcNeAt A s (.ref a1) v true:=by
  obtain ⟨oJ,vv1,pl,_⟩:=I.list hl
  have p1:=pl.isList
  cases ry with
  | non =>
    cases rv
    exact SeqAt.RcNeAt.list_none p1 hu0
  | bl b2 =>
    cases rv
    exact SeqAt.RcNeAt.list_bool b2 p1 hu0
  | int i2 =>
    obtain ⟨t2,rfl⟩:=rv
    exact SeqAt.RcNeAt.list_int i2 t2 p1 hu0
  | str z2 =>
    obtain ⟨t2,rfl⟩:=rv
    exact SeqAt.RcNeAt.list_str z2 t2 p1 hu0
  | @tup a2 xs2 ds2 h2 r2 =>
    cases rv
    obtain ⟨its2,vv2,p2,_⟩:=I.tuple h2
    exact SeqAt.RcNeAt.list_tuple (show s.heap.IsList a1 oJ.toArray from p1) (show s.heap.IsTuple a2 its2.toArray from p2) hu0
  | ref _=>cases n <;> simp [aR] at hy
  | ty _=>cases n <;> simp [aR] at hy
theorem aO9 {pins:List (Addr×Obj)} {σ:St} {H:Hp} {s:Shared} (I:Inv X pins σ H s) (n:Nat) (A:Around) {a2:Addr} {xs:List V} (hl:SqL X.K H a2 xs) (y:D) (vy:V) (v:Value) (hu0:A.units < cLine) (hy:aR n y=true) (ry:RD X.K H y vy) (rv:RelV vy v):SeqAt.RcNeAt A s v (.ref a2) true:=by
  obtain ⟨its2,vv2,pl,_⟩:=I.list hl
  have p2:=pl.isList
  cases ry with
  | non =>
    cases rv
    exact SeqAt.RcNeAt.none_list p2 hu0
  | bl b1 =>
    cases rv
    exact SeqAt.RcNeAt.bool_list b1 p2 hu0
  | int i1 =>
    obtain ⟨t1,rfl⟩:=rv
    exact SeqAt.RcNeAt.int_list i1 t1 p2 hu0
  | str z1 =>
    obtain ⟨t1,rfl⟩:=rv
    exact SeqAt.RcNeAt.str_list z1 t1 p2 hu0
  | @tup a1 xs1 ds1 h1 r1 =>
    cases rv
    obtain ⟨oJ,vv1,p1,_⟩:=I.tuple h1
    exact SeqAt.RcNeAt.tuple_list (show s.heap.IsTuple a1 oJ.toArray from p1) (show s.heap.IsList a2 its2.toArray from p2) hu0
  | ref _=>cases n <;> simp [aR] at hy
  | ty _=>cases n <;> simp [aR] at hy
theorem aOA {pins:List (Addr×Obj)} {σ:St} {H:Hp} {s:Shared} (I:Inv X pins σ H s) (n:Nat) (A:Around) {a1 a2:Addr} {xs1 xs2:List V} {ds1 ds2:List D} (h1:SqL X.K H a1 xs1) (h2:SqL X.K H a2 xs2) (r1:iJ X.K H ds1 xs1) (r2:iJ X.K H ds2 xs2)
    (hu:A.units+(n+1) < cLine) (hx:ds1.all (aR n)=true) (hy:ds2.all (aR n)=true):SeqAt.RcNeAt A s (.ref a1) (.ref a2) (!wC ds1 ds2):=by
  have hu0:A.units < cLine:=by omega
  obtain ⟨oJ,vv1,q1,_⟩:=I.list h1
  obtain ⟨its2,vv2,q2,_⟩:=I.list h2
  have p1:=q1.isList
  have p2:=q2.isList
  by_cases hl:ds1.length=ds2.length
  · have hsz:oJ.toArray.size=its2.toArray.size:=by rw [List.size_toArray,List.size_toArray,← vv1.length,← vv2.length,← r1.length,← r2.length];exact hl
    have z:=SeqAt.RcNeAt.lists (e:=a6C ds1 ds2) p1 p2 hsz hu0 (a8V (n:=n) r1 r2 vv1 vv2 fun x mx y my v w u t q1 q2 q3 q4 =>
            ap9 I n A.in1 x y v w u t (a8W hu) (List.all_eq_true.mp hx x mx) (List.all_eq_true.mp hy y my) q1 q2 q3 q4)
    have e:(List.range oJ.toArray.size).all (a6C ds1 ds2)=wC ds1 ds2:=by rw [anN hl,List.size_toArray,← vv1.length,← r1.length]
    rw [e] at z
    exact z
  · have hne:(oJ.toArray.size != its2.toArray.size)=true:=by rw [List.size_toArray,List.size_toArray,← vv1.length,← vv2.length,← r1.length,← r2.length];simpa using hl
    have e:wC ds1 ds2=false:=as3 (by simpa using hl)
    rw [e]
    exact SeqAt.RcNeAt.lists_lengths p1 p2 hne hu0
def eqG (G:Gp) (x y:D) (k:Bool→Prop):Prop:=match x,y with
  | .ref a,.ref b=>(match cH G a,cH G b with
    | some xs,some ys=>xs.all (aR 20)=true∧ys.all (aR 20)=true∧k (wC xs ys)
    | _,_=>False)
  | .ref a,y=>(match cH G a with
    | some _=>aR 20 y=true∧k false
    | none=>False)
  | x,.ref b=>(match cH G b with
    | some _=>aR 20 x=true∧k false
    | none=>False)
  | x,y=>aR 20 x=true∧aR 20 y=true∧k (eqP x y)
def wF:R3:=fun x y G R=>eqG G x y fun b=>R (.bl b) G
def afR:R3:=fun x y G R=>eqG G x y fun b=>R (.bl (!b)) G
theorem ak0 {f:Value→Value→Sem Value} {r3:R3} (h:∀ (pins:List (Addr×Obj)) (s:Shared) (σ:St) (H:Hp) (x y:D) (vx vy:V) (u v:Value) (G:Gp) (R:pX) (Q:VK),Inv X pins σ H s→RD X.K H x vx→RD X.K H y vy→RelV vx u→RelV vy v→HR X.K H G→r3 x y G R →
      (∀ w H' d G',Ts H H'→RD X.K H' d w→HR X.K H' G'→R d G'→Q w H')→wpAny (model X.prog X.w) X.A (f u v) (EP X pins σ Q) X.xe s):a05 X f r3 :=
  ⟨fun vx vy H Q=>∃ x y G R,RD X.K H x vx∧RD X.K H y vy∧HR X.K H G∧r3 x y G R∧∀ w H' d G',Ts H H'→RD X.K H' d w→HR X.K H' G'→R d G'→Q w H',
    fun pins s σ H vx vy u v Q I ru rv ⟨x,y,G,R,rx,ry,g,q,k⟩=>h pins s σ H x y vx vy u v G R Q I rx ry ru rv g q k,fun H x y vx vy G R Q rx ry g q k=>⟨x,y,G,R,rx,ry,g,q,k⟩⟩
theorem axV (hu:X.A.units+64 < cLine) {neg:Bool} {op:CmpOp} (hop:op=if neg then .NotEq else .Eq) {pins:List (Addr×Obj)} {s:Shared} {σ:St} {H:Hp} {x y:D} {vx vy:V} {u v:Value} {G:Gp} {k:Bool→Prop} {Q:VK} (I:Inv X pins σ H s) (rx:RD X.K H x vx) (ry:RD X.K H y vy) (ru:RelV vx u) (rv:RelV vy v) (g:HR X.K H G)
    (h:eqG G x y k) (hk:∀ b,k b→EP X pins σ Q (.bool (neg ^^ b)) s):wpAny (model X.prog X.w) X.A (compareOp op u v) (EP X pins σ Q) X.xe s:=by
  have fin:∀ {b:Bool},(if neg then SeqAt.RcNeAt X.A s u v (!b) else SeqAt.RcAt X.A s u v b)→k b→wpAny (model X.prog X.w) X.A (compareOp op u v) (EP X pins σ Q) X.xe s:=fun {b} z kb=>by
    have e:=hk b kb
    cases neg with
    | true =>
      subst hop
      rw [Bool.true_xor] at e
      exact z X.prog X.w X.xe _ e
    | false =>
      subst hop
      rw [Bool.false_xor] at e
      exact z X.prog X.w X.xe _ e
  have hu1:X.A.units+(20+1) < cLine:=by omega
  have hu2:X.A.units+(19+1) < cLine:=by omega
  have hu0:X.A.units < cLine:=by omega
  have plain:aR 20 x=true→aR 20 y=true→k (eqP x y)→wpAny (model X.prog X.w) X.A (compareOp op u v) (EP X pins σ Q) X.xe s:=fun hx hy kk=>fin (b:=eqP x y) (by
    cases neg with
    | true=>exact aO7 I 19 X.A x y vx vy u v hu2 hx hy rx ry ru rv
    | false=>exact aZ7 I 19 X.A x y vx vy u v hu2 hx hy rx ry ru rv) kk
  have left:∀ a xs,x = .ref a→cH G a=some xs→aR 20 y=true→k false→wpAny (model X.prog X.w) X.A (compareOp op u v) (EP X pins σ Q) X.xe s:=fun a xs e1 e2 hy kk=>by
    subst e1
    cases rx
    cases ru
    obtain ⟨zs,hz,_⟩:=gW g e2
    refine fin (b:=false) ?_ kk
    cases neg with
    | true=>exact aO8 I 20 X.A hz y vy v hu0 hy ry rv
    | false=>exact aZ8 I 20 X.A hz y vy v hu0 hy ry rv
  have right:∀ a xs,y = .ref a→cH G a=some xs→aR 20 x=true→k false→wpAny (model X.prog X.w) X.A (compareOp op u v) (EP X pins σ Q) X.xe s:=fun a xs e1 e2 hy kk=>by
    subst e1
    cases ry
    cases rv
    obtain ⟨zs,hz,_⟩:=gW g e2
    refine fin (b:=false) ?_ kk
    cases neg with
    | true=>exact aO9 I 20 X.A hz x vx u hu0 hy rx ru
    | false=>exact aZ9 I 20 X.A hz x vx u hu0 hy rx ru
  unfold eqG at h
  split at h
  · rename_i a b
    split at h
    · rename_i xs ys e1 e2
      cases rx;cases ry;cases ru;cases rv
      obtain ⟨zs1,hz1,q1⟩:=gW g e1
      obtain ⟨zs2,hz2,q2⟩:=gW g e2
      refine fin (b:=wC xs ys) ?_ h.2.2
      cases neg with
      | true=>exact aOA I 20 X.A hz1 hz2 q1 q2 hu1 h.1 h.2.1
      | false=>exact aZA I 20 X.A hz1 hz2 q1 q2 hu1 h.1 h.2.1
    · exact h.elim
  · rename_i a _
    split at h
    · rename_i xs e1
      exact left a xs rfl e1 h.1 h.2
    · exact h.elim
  · rename_i b _
    split at h
    · rename_i xs e1
      exact right b xs rfl e1 h.1 h.2
    · exact h.elim
  · exact plain h.1 h.2.1 h.2.2
theorem aZB (hu:X.A.units+64 < cLine):a05 X (compareOp .Eq) wF:=ak0 fun pins s σ H x y vx vy u v G R Q I rx ry ru rv g q k =>
  axV (neg:=false) hu rfl I rx ry ru rv g q fun b kb=>⟨.bl b,H,I,by rw [Bool.false_xor];rfl,k _ H (.bl b) G (.refl H) (.bl b) g kb⟩
theorem aZC (hu:X.A.units+64 < cLine):a05 X (compareOp .NotEq) afR:=ak0 fun pins s σ H x y vx vy u v G R Q I rx ry ru rv g q k =>
  axV (neg:=true) hu rfl I rx ry ru rv g q fun b kb=>⟨.bl (!b),H,I,by rw [Bool.true_xor];rfl,k _ H (.bl (!b)) G (.refl H) (.bl (!b)) g kb⟩
end
end
section
open PySem.W PySem.Calls
open PySem.Builtin PySem.Builtin.ObjectAttr PySem.Builtin.Getset_descriptor
section
variable {prog:Program} {w:World} {A:Around} {E:Value→Shared→Prop} {s:Shared} {K:Fg} {x C:Addr} {o:Obj}
theorem amN {tp:Value} {R:Result→Shared→Prop} (X:K.In s.heap) (hx:s.heap.get? x=some o) (hc:o.cls = .ref C) (hm:mroIn K C (.type "object")=some true)
    (h:R (.ok (.ret (.ref C))) s):codeAny (model prog w) A (.call (.builtin "getset_descriptor.__get__") ⟨[.builtin "object.__class__",.ref x,tp],[]⟩) R s:=by
  obtain ⟨hh,g,dr,t,os⟩:=s
  have L0:Looks (model prog w) hh (typeOf (.ref x)) (.ref C):=hc ▸ (Looks.ld hx).andThen .now
  have L1:=looks_mroIn (M:=model prog w) X hm
  refine codeAny_call_builtin KF.slot_gs.plain KF.entry_gs (KF.slot_gs.check _ _ _ _ _ _ _ _ KF.type_class (KF.args_gs _ _ _) ?_)
  unfold Builtin.«getset_descriptor.__get__» descrGet
  rw [dga_obj]
  refine wpAny_bind (wpAny_pure ?_)
  unfold descrGetter descrCheckInstance descrNameAndClass isInstance
  simp only [KF.owner_class]
  repeat lk
  refine ⟨Code.quiet_builtin _ (by decide +kernel),codeAny_builtin KF.entry_class ?_⟩
  unfold Builtin.«object.__class__» shownTypeOf
  repeat lk
  exact h
theorem azT {Q:Option Value→Shared→Prop} (X:K.In s.heap) (hx:s.heap.get? x=some o) (hc:o.cls = .ref C)
    (hga:findIn K (.ref C) "__getattribute__" = some (some (.builtin "BaseException.__getattribute__"))) (hgn:findIn K (.ref C) "__getattr__" = some none) (ha:findIn K (.ref C) "__class__" = some (some (.builtin "object.__class__")))
    (hb:subIn K (.ref C) (.type "BaseException")=some true) (hm:mroIn K C (.type "object")=some true) (h:Q (some (.ref C)) { s with toks:=s.toks+1 }):wpAny (model prog w) A (getAttr? (.ref x) "__class__") Q E s:=by
  obtain ⟨hh,g,d,t,os⟩:=s
  have L0:Looks (model prog w) hh (typeOf (.ref x)) (.ref C):=hc ▸ (Looks.ld hx).andThen .now
  have L1:=looks_findIn (M:=model prog w) X hga
  have L2':=looks_findIn (M:=model prog w) X hgn
  have L3:=looks_findIn (M:=model prog w) X ha
  have L4:=looks_subIn (M:=model prog w) X hb
  unfold getAttr? getAttrBy? getAttrBy
  refine wpAny_bind (wpAny_mkText (wpAny_bind (wpAny_attempt (wpAny_holding (wpAny_bind (L0.at (wpAny_bind (L1.at ?_))))))))
  have hx2:(Value.builtin "BaseException.__getattribute__" == Value.builtin "object.__getattribute__")=false:=by decide +kernel
  have f3:=PySem.F.attr_ValueError.ga.bind (.ref x)
  have hk:builtinKind "BaseException.__getattribute__" = some .slot:=by decide +kernel
  have hsplit:splitId "BaseException.__getattribute__" = some ("BaseException", "__getattribute__"):=by decide +kernel
  have ha2:=PySem.F.args_bexc_ga (.ref x) (.str "__class__" t)
  repeat (first | with_reducible refine L0.at ?_ | with_reducible refine L1.at ?_ | with_reducible refine L2'.at ?_ | with_reducible refine L3.at ?_ | with_reducible refine L4.at ?_ | wp_step)
  refine codeAny_call_builtin PySem.F.attr_ValueError.ga.plain PySem.F.entry_bexc_ga ?_
  simp only [checkBuiltinCall,hk,hsplit]
  unfold isInstance
  have f5:=PySem.F.typeOf_object_class
  have f6:=PySem.F.slot_gs_get.lookup
  have f7:=PySem.F.slot_gs_set.lookup
  repeat (any_goals (first | assumption | with_reducible refine L0.at ?_ | with_reducible refine L1.at ?_ | with_reducible refine L2'.at ?_ | with_reducible refine L3.at ?_ | with_reducible refine L4.at ?_ | wp_step))
  refine amN X hx hc hm ?_
  repeat (any_goals (first | assumption | wp_step))
end
end
section
section
variable {X:Cx} {x:Str} {p pos:Pos} {e o:Expr} {es:List Expr} {t:TA3} {to:dZ} {id T:String} {r3:List D→Gp→pX→Prop}
def mL (X:Cx) (f:Value) (r3:List D→Gp→pX→Prop):Prop :=
  ∀ (pins:List (Addr×Obj)) (s:Shared) (σ:St) (H:Hp) (xs:List D) (vs:List V) (us:List Value) (G:Gp) (R:pX) (Q:VK),Inv X pins σ H s→iJ X.K H xs vs→Vals vs us→HR X.K H G→r3 xs G R →
    (∀ v H' d G',Ts H H'→RD X.K H' d v→HR X.K H' G'→R d G'→Q v H')→wpAny (model X.prog X.w) X.A (call f us) (EP X pins σ Q) X.xe s
theorem mL.of {f:Value} {r:List V→Hp→VK→Prop} (h:a8Q X f r) (i:∀ (H:Hp) (xs:List D) (vs:List V) (G:Gp) (R:pX) (Q:VK),iJ X.K H xs vs→HR X.K H G→r3 xs G R →
    (∀ v H' d G',Ts H H'→RD X.K H' d v→HR X.K H' G'→R d G'→Q v H')→r vs H fun v H'=>KF X.K H'→Q v H'):mL X f r3:=fun pins s σ H xs vs us G R Q I rx rv g q k =>
  jU (h pins s σ H vs us _ I rv (i H xs vs G R Q rx g q k)) fun _ _ ⟨v,H',I',r,q'⟩=>⟨v,H',I',r,q' (a7R I')⟩
def uT (r3:List D→Gp→pX→Prop) (t:TA3):dZ:=fun ρ G R=>t ρ G fun xs G1=>r3 xs G1 R
theorem aaZ (hc:mL X (.builtin id) r3) (hg:Gl X x) (hm:X.mg x=none) (hv:bootBuiltins x=some (.builtin id)) (ha:PA3 X (e :: es) t) (hn:x ≠ "__name__" := by decide) (hdb:(x == ("__debug__" : Str))=false:=by decide)
    (he:starEach (e :: es) X.env=(false,eval e X.env) :: starEach es X.env:=by rfl) (hpl:(backTo pos (starEach es X.env)).any (·.1)=false:=by rfl):gB X (.Call (.Name x p) (e :: es) [] pos) (uT r3 t):=by
  intro pins s σ H Q I h
  obtain ⟨ρ,G,R,sr,g,q,kk⟩:=h
  refine wpAny_Call_Name_kw (afI I hg hm hv ?_ hn hdb)
  exact PyProof.Rows.callWith_builtin1 (jU (ha pos pins s σ H (fun vs H1=>Ts H H1∧∃ ds G1,iJ X.K H1 ds vs∧HR X.K H1 G1∧r3 ds G1 R) I ⟨ρ,G,_,sr,g,q,fun vs H1 ds G1 t1 r1 g1 q1=>⟨t1,ds,G1,r1,g1,q1⟩⟩) fun us s1 ⟨vs,H1,I1,r,t1,ds,G1,r1,g1,q1⟩ =>
    hc pins s1 σ H1 ds vs us G1 R Q I1 r1 r g1 q1 fun v H' d G' t2=>kk v H' d G' (t1.trans t2)) he hpl
theorem as5 (hc:mL X (.type T) r3) (hg:Gl X x) (hm:X.mg x=none) (hv:bootBuiltins x=some (.type T)) (ha:PA3 X (e :: es) t) (hn:x ≠ "__name__" := by decide) (hdb:(x == ("__debug__" : Str))=false:=by decide)
    (he:starEach (e :: es) X.env=(false,eval e X.env) :: starEach es X.env:=by rfl) (hpl:(backTo pos (starEach es X.env)).any (·.1)=false:=by rfl):gB X (.Call (.Name x p) (e :: es) [] pos) (uT r3 t):=by
  intro pins s σ H Q I h
  obtain ⟨ρ,G,R,sr,g,q,kk⟩:=h
  refine wpAny_Call_Name_kw (afI I hg hm hv ?_ hn hdb)
  exact PyProof.Rows.callWith_type1 (jU (ha pos pins s σ H (fun vs H1=>Ts H H1∧∃ ds G1,iJ X.K H1 ds vs∧HR X.K H1 G1∧r3 ds G1 R) I ⟨ρ,G,_,sr,g,q,fun vs H1 ds G1 t1 r1 g1 q1=>⟨t1,ds,G1,r1,g1,q1⟩⟩) fun us s1 ⟨vs,H1,I1,r,t1,ds,G1,r1,g1,q1⟩ =>
    hc pins s1 σ H1 ds vs us G1 R Q I1 r1 r g1 q1 fun v H' d G' t2=>kk v H' d G' (t1.trans t2)) he hpl
def a8X:List D→Gp→pX→Prop:=fun xs G R=>match xs with
  | [.str z]=>z.length≤sizeLine∧R (.int z.length) G
  | [.tup ds]=>R (.int ds.length) G
  | [.ref q]=>(match cH G q with
    | some ds=>R (.int ds.length) G
    | none=>False)
  | _=>False
theorem aUD:mL X (.builtin "len") a8X:=mL.of (aoZ.or ap0) fun H xs vs G R Q rx g q k=>by
  cases rx with
  | nil=>exact False.elim q
  | cons r rr =>
    cases rr with
    | cons _ _=>cases r <;> exact False.elim q
    | nil =>
      cases r with
      | str z=>exact .inr ⟨z,rfl,q.1,fun _=>k _ H _ G (.refl H) (.int _) g q.2⟩
      | @tup a xs ds ha ra=>exact .inl ⟨a,xs,rfl,.inr ha,fun _=>by rw [← ra.length];exact k _ H _ G (.refl H) (.int _) g q⟩
      | ref a =>
        have q':(match cH G a with
          | some ds=>R (.int ds.length) G
          | none=>False):=q
        split at q'
        · rename_i ds e1
          obtain ⟨xs,h1,r1⟩:=gW g e1
          exact .inl ⟨a,xs,rfl,.inl h1,fun _=>by rw [← r1.length];exact k _ H _ G (.refl H) (.int _) g q'⟩
        · exact q'.elim
      | _=>exact False.elim q
def aUE:List D→Gp→pX→Prop:=fun xs G R=>match xs with
  | [.int i]=>R (.int (if i < 0 then -i else i)) G
  | _=>False
def ak1:List D→Gp→pX→Prop:=fun xs G R=>match xs with
  | [.int i]=>R (.int i) G
  | [.bl b]=>R (.int (if b then 1 else 0)) G
  | _=>False
theorem aUF:mL X (.type "int") ak1:=mL.of azC fun H xs vs G R Q rx g q k=>by
  cases rx with
  | nil=>exact False.elim q
  | cons r rr =>
    cases rr with
    | cons _ _=>cases r <;> exact False.elim q
    | nil =>
      cases r with
      | int i=>exact .inl ⟨i,rfl,fun _=>k _ H _ G (.refl H) (.int _) g q⟩
      | bl b=>exact .inr ⟨b,rfl,fun _=>k _ H _ G (.refl H) (.int _) g q⟩
      | _=>exact False.elim q
def apB:List D→Gp→pX→Prop:=fun xs G R=>match xs with
  | [.tup ds]=>∀ l,G l=none→R (.ref l) (aQ G l (.lst ds))
  | [.ref q]=>(match cH G q with
    | some ds=>∀ l,G l=none→R (.ref l) (aQ G l (.lst ds))
    | none=>False)
  | _=>False
theorem aOB:mL X (.type "list") apB:=mL.of ap1 fun H xs vs G R Q rx g q k=>by
  cases rx with
  | nil=>exact False.elim q
  | cons r rr =>
    cases rr with
    | cons _ _=>cases r <;> exact False.elim q
    | nil =>
      cases r with
      | @tup a xs ds ha ra =>
        refine ⟨a,xs,rfl,.inr ha,fun l hl kf=>?_⟩
        have sn:Same H (upd H l (.lst xs)):=cR hl
        exact k _ _ _ _ (.same sn) (.ref l) (g.put (u := .lst ds) hl ⟨_,aU,ra.mono (.same sn)⟩) (q l (tK g hl kf))
      | ref a =>
        have q':(match cH G a with
          | some ds=>∀ l,G l=none→R (.ref l) (aQ G l (.lst ds))
          | none=>False):=q
        split at q'
        · rename_i ds e1
          obtain ⟨xs,h1,r1⟩:=gW g e1
          refine ⟨a,xs,rfl,.inl h1,fun l hl kf=>?_⟩
          have sn:Same H (upd H l (.lst xs)):=cR hl
          exact k _ _ _ _ (.same sn) (.ref l) (g.put (u := .lst ds) hl ⟨_,aU,r1.mono (.same sn)⟩) (q' l (tK g hl kf))
        · exact q'.elim
      | _=>exact False.elim q
def tyD (G:Gp):D→Option String
  | .non=>some "NoneType"
  | .bl _=>some "bool"
  | .int _=>some "int"
  | .str _=>some "str"
  | .tup _=>some "tuple"
  | .ref q=>(match G q with
    | some (.lst _)=>some "list"
    | some (.rol _)=>some "list"
    | some (.eN _ _)=>some "dict"
    | _=>none)
  | .ty _=>none
def exD (G:Gp):D→Option Addr
  | .ref q=>(match G q with
    | some (.exn C)=>some C
    | _=>none)
  | _=>none
def subB (T n:String):Bool:=T == n || (T == "bool" && n == "int")
def aUG:List String:=["NoneType", "bool", "int", "str", "list", "tuple", "dict"]
def dF:List String:=["int", "bool", "str", "list", "tuple", "dict", "ValueError"]
theorem aOD:∀ T∈aUG,∀ n∈dF,PySem.W.kitOne [] (.type T) (.type n)=some (subB T n):=by decide +kernel
theorem a06 (K:Fg) {T n:String} (h1:T∈aUG) (h2:n∈dF):PySem.W.kitOne K (.type T) (.type n)=some (subB T n):=aOD T h1 n h2
structure ExC (K:Fg) (C:Addr):Prop where
  ga:PySem.W.findIn K (.ref C) "__getattribute__" = some (some (.builtin "BaseException.__getattribute__"))
  gn:PySem.W.findIn K (.ref C) "__getattr__" = some none
  cl:PySem.W.findIn K (.ref C) "__class__" = some (some (.builtin "object.__class__"))
  be:PySem.W.subIn K (.ref C) (.type "BaseException")=some true
  ob:PySem.W.mroIn K C (.type "object")=some true
  cs:(PySem.W.clsIn K C).isSome=true
theorem aC5 {K:Fg} {a C:Addr} (c:ExC K C):PySem.W.KitX K (.ref a) (.ref C) (abL C a) where
  ty:=fun M h X ⟨o,vs,h1,h2,_⟩=>h2 ▸ (PySem.W.Looks.ld h1).andThen .now
  it:=fun M h X _=>by
    intro A' Q' E' s' k q
    cases eK:PySem.W.clsIn K C with
    | none=>have:=c.cs;rw [eK] at this;cases this
    | some cd =>
      unfold PySem.W.clsIn at eK
      split at eK
      · rename_i ho
        unfold isType loadHead
        exact wpAny_bind (wpAny_loadPart (k _ _ (X _ _ ho)) (wpAny_pure q))
      · cases eK
  ne:=fun h tp dd its n sl X htp=>by
    refine Bool.eq_false_iff.mpr fun q=>?_
    have e:C=tp:=Value.ref.inj (beq_iff_eq.mp q)
    subst e
    cases eK:PySem.W.clsIn K C with
    | none=>have:=c.cs;rw [eK] at this;cases this
    | some cd =>
      unfold PySem.W.clsIn at eK
      split at eK
      · rename_i ho
        have z:=(X _ _ ho).symm.trans htp
        cases z
      · cases eK
  ca:=fun X ⟨o,vs,h1,h2,_⟩ k=>azT X h1 h2 c.ga c.gn c.cl c.be c.ob k
def aG (K:Fg):List D→Gp→pX→Prop:=fun xs G R=>match xs with
  | [x,.ty n]=>(match tyD G x with
    | some T=>n∈dF∧R (.bl (subB T n)) G
    | none=>(match exD G x with
      | some C=>∃ b,ExC K C∧PySem.W.kitOne K (.ref C) (.type n)=some b∧R (.bl b) G
      | none=>False))
  | [x,.ref C']=>(match exD G x with
    | some C=>∃ b,ExC K C∧PySem.W.kitOne K (.ref C) (.ref C')=some b∧R (.bl b) G
    | none=>False)
  | _=>False
theorem aC6 {G:Gp} {x:D} {C:Addr} (h:exD G x=some C):∃ a,x = .ref a∧G a=some (.exn C):=by
  cases x with
  | ref q =>
    refine ⟨q,rfl,?_⟩
    have h':(match G q with
      | some (.exn C)=>some C
      | _=>none)=some C:=h
    split at h'
    · rename_i e1;cases h';exact e1
    · cases h'
  | _=>cases h
theorem a07 {pins:List (Addr×Obj)} {s:Shared} {σ:St} {H:Hp} {a C:Addr} {c:Value} {b:Bool} {G:Gp} {R:pX} {Q:VK} (I:Inv X pins σ H s) (g:HR X.K H G) (e:G a=some (.exn C)) (hc:ExC X.K C) (hk:PySem.W.kitOne X.K (.ref C) c=some b) (q:R (.bl b) G)
    (k:∀ v H' d G',Ts H H'→RD X.K H' d v→HR X.K H' G'→R d G'→Q v H'):wpAny (model X.prog X.w) X.A (call (.builtin "isinstance") [.ref a,c]) (EP X pins σ Q) X.xe s:=by
  obtain ⟨o0,vs0,z,_⟩:=g a _ e
  obtain ⟨_,z1,_,_⟩:=I.hok a _ z
  exact PySem.W.kia_one (aC5 hc) I.kIn z1 hk (fun z=>nomatch z) fun tk=>⟨.bl b,H,I.tok tk,rfl,k _ H _ G (.refl H) (.bl b) g q⟩
theorem aOE {pins:List (Addr×Obj)} {s:Shared} {σ:St} {H:Hp} {x:D} {vx:V} {u:Value} {T n:String} {G:Gp} {R:pX} {Q:VK} (I:Inv X pins σ H s) (rx:RD X.K H x vx) (ru:RelV vx u) (g:HR X.K H G) (e:tyD G x=some T) (hn:n∈dF) (q:R (.bl (subB T n)) G)
    (k:∀ v H' d G',Ts H H'→RD X.K H' d v→HR X.K H' G'→R d G'→Q v H'):wpAny (model X.prog X.w) X.A (call (.builtin "isinstance") [u,.type n]) (EP X pins σ Q) X.xe s:=by
  have fin:∀ tk,EP X pins σ Q (.bool (subB T n)) { s with toks:=tk }:=fun tk=>⟨.bl _,H,I.tok tk,rfl,k _ H _ G (.refl H) (.bl _) g q⟩
  cases rx with
  | non=>cases ru;cases e;exact PySem.W.kia_one PySem.W.kitx_none I.kIn True.intro (a06 _ (by decide) hn) (fun z=>nomatch z) fin
  | bl b=>cases ru;cases e;exact PySem.W.kia_one PySem.W.kitx_bool I.kIn True.intro (a06 _ (by decide) hn) (fun z=>nomatch z) fin
  | int i=>obtain ⟨t,rfl⟩:=ru;cases e;exact PySem.W.kia_one PySem.W.kitx_int I.kIn True.intro (a06 _ (by decide) hn) (fun z=>nomatch z) fin
  | str i=>obtain ⟨t,rfl⟩:=ru;cases e;exact PySem.W.kia_one PySem.W.kitx_str I.kIn True.intro (a06 _ (by decide) hn) (fun z=>nomatch z) fin
  | ty n=>cases e
  | @tup a xs ds ha ra =>
    cases ru;cases e
    obtain ⟨its,_,p,_⟩:=I.tuple ha
    obtain ⟨o,h1,h2,_⟩:=p
    exact PySem.W.kia_one PySem.W.kitx_tuple I.kIn ⟨o,h1,h2⟩ (a06 _ (by decide) hn) (fun z=>nomatch z) fin
  | ref a =>
    cases ru
    have e':(match G a with
      | some (.lst _)=>some "list"
      | some (.rol _)=>some "list"
      | some (.eN _ _)=>some "dict"
      | _=>none)=some T:=e
    split at e'
    · rename_i ds e1
      cases e'
      obtain ⟨xs,h1,_⟩:=gW g (show cH G a=some ds by unfold cH;rw [e1])
      obtain ⟨its,_,p,_⟩:=I.list h1
      obtain ⟨o,n',h1,h2,_⟩:=p
      exact PySem.W.kia_one PySem.W.kitx_list I.kIn ⟨o,h1,h2⟩ (a06 _ (by decide) hn) (fun z=>nomatch z) fin
    · rename_i ds e1
      cases e'
      obtain ⟨xs,h1,_⟩:=gW g (show cH G a=some ds by unfold cH;rw [e1])
      obtain ⟨its,_,p,_⟩:=I.list h1
      obtain ⟨o,n',h1,h2,_⟩:=p
      exact PySem.W.kia_one PySem.W.kitx_list I.kIn ⟨o,h1,h2⟩ (a06 _ (by decide) hn) (fun z=>nomatch z) fin
    · rename_i kvs e1
      cases e'
      rcases g a _ e1 with ⟨_,xs,h1,_⟩ | ⟨_,xs,h1,_⟩
      · obtain ⟨_,_,vs,_,o,es,ep,h1,h2,_⟩:=I.hok a _ h1
        exact PySem.W.kia_one PySem.W.kitx_dict I.kIn ⟨o,h1,h2.1⟩ (a06 _ (by decide) hn) (fun z=>nomatch z) fin
      · obtain ⟨_,_,xs,_,o,es,ep,h1,h2,_⟩:=I.hok a _ h1
        exact PySem.W.kia_one PySem.W.kitx_dict I.kIn ⟨o,h1,h2.1⟩ (a06 _ (by decide) hn) (fun z=>nomatch z) fin
    · cases e'
theorem apC:mL X (.builtin "isinstance") (aG X.K):=by
  intro pins s σ H xs vs us G R Q I rx rv g q k
  cases rx with
  | nil=>exact False.elim q
  | @cons x v ds ws r1 rr =>
    cases rr with
    | nil=>cases r1 <;> exact False.elim q
    | @cons y v2 ds2 ws2 r2 rr2 =>
      cases rr2 with
      | cons _ _=>cases r2 <;> exact False.elim q
      | nil =>
        obtain ⟨u1,u2,rfl,ru1,ru2⟩:=vals2 rv
        cases r2 with
        | ty n =>
          cases ru2
          have q':(match tyD G x with
            | some T=>n∈dF∧R (.bl (subB T n)) G
            | none=>(match exD G x with
              | some C=>∃ b,ExC X.K C∧PySem.W.kitOne X.K (.ref C) (.type n)=some b∧R (.bl b) G
              | none=>False)):=q
          split at q'
          · rename_i T eT
            exact aOE I r1 ru1 g eT q'.1 q'.2 k
          · split at q'
            · rename_i C eC
              obtain ⟨a,rfl,ea⟩:=aC6 eC
              obtain ⟨b,hc,hk,q'⟩:=q'
              cases r1;cases ru1
              exact a07 I g ea hc hk q' k
            · exact q'.elim
        | ref C' =>
          cases ru2
          have q':(match exD G x with
            | some C=>∃ b,ExC X.K C∧PySem.W.kitOne X.K (.ref C) (.ref C')=some b∧R (.bl b) G
            | none=>False):=q
          split at q'
          · rename_i C eC
            obtain ⟨a,rfl,ea⟩:=aC6 eC
            obtain ⟨b,hc,hk,q'⟩:=q'
            cases r1;cases ru1
            exact a07 I g ea hc hk q' k
          · exact q'.elim
        | _=>exact False.elim q
end
end
section
theorem ak2 {K:Fg} {H:Hp} {x:D} {vx:V} (hx:scD x=true) (rx:RD K H x vx):∀ {ys:List D} {vs:List V},iJ K H ys vs→ys.all scD=true→vs.any (fun y=>eqV y vx)=ys.any (fun y=>eqP y x)
  | _,_,.nil,_=>rfl
  | _,_,.cons h r,hs=>by
    rw [List.all_cons,Bool.and_eq_true] at hs
    rw [List.any_cons,List.any_cons,ak2 hx rx r hs.2]
    congr 1
    obtain ⟨h1,_⟩:=hs
    cases rx <;> cases h <;> first | (simp [eqV,eqP];done) | cases hx | cases h1
theorem adL {K:Fg} {H:Hp} {x:D} {vx:V} (hx:scD x=true) (rx:RD K H x vx):a7Q vx=true:=by cases rx <;> first | rfl | cases hx
theorem a8Y {K:Fg} {H:Hp}:∀ {ys:List D} {vs:List V},iJ K H ys vs→ys.all scD=true→vs.all a7Q=true
  | _,_,.nil,_=>rfl
  | _,_,.cons h r,hs=>by
    rw [List.all_cons,Bool.and_eq_true] at hs
    rw [List.all_cons,adL hs.1 h,a8Y r hs.2];rfl
def inG (G:Gp) (x y:D) (k:Bool→Prop):Prop:=match x,y with
  | .str i,.str j=>k (!(Builtin.Str.occurrences j i 0 j.length 1).isEmpty)
  | x,.tup ys=>scD x=true∧ys.all scD=true∧k (ys.any fun y=>eqP y x)
  | x,.ref p=>(match cH G p with
    | some ys=>scD x=true∧ys.all scD=true∧k (ys.any fun y=>eqP y x)
    | none=>False)
  | _,_=>False
def aOF:R3:=fun x y G R=>inG G x y fun b=>R (.bl b) G
def apD:R3:=fun x y G R=>inG G x y fun b=>R (.bl (!b)) G
section
variable {X:Cx}
theorem aZE (hu:X.A.units+64 < cLine):a05 X (compareOp .In) aOF:=by
  refine ⟨_,azB.or azI,fun H x y vx vy G R Q rx ry g h k=>?_⟩
  have h':inG G x y fun b=>R (.bl b) G:=h
  unfold inG at h'
  split at h'
  · cases rx;cases ry
    exact .inl ⟨_,_,rfl,rfl,k _ H _ G (.refl H) (.bl _) g h'⟩
  · cases ry with
    | @tup a xs ds ha ra =>
      refine .inr ⟨a,xs,rfl,.inr ha,adL h'.1 rx,a8Y ra h'.2.1,?_⟩
      have e:inV vx xs=_:=ak2 h'.1 rx ra h'.2.1
      simp only [Bool.false_eq_true,if_false]
      rw [e]
      exact k _ H _ G (.refl H) (.bl _) g h'.2.2
  · cases ry
    split at h'
    · rename_i ys e1
      obtain ⟨xs,hq,ra⟩:=gW g e1
      refine .inr ⟨_,xs,rfl,.inl hq,adL h'.1 rx,a8Y ra h'.2.1,?_⟩
      have e:inV vx xs=_:=ak2 h'.1 rx ra h'.2.1
      simp only [Bool.false_eq_true,if_false]
      rw [e]
      exact k _ H _ G (.refl H) (.bl _) g h'.2.2
    · exact h'.elim
  · exact h'.elim
theorem aGW (hu:X.A.units+64 < cLine):a05 X (compareOp .NotIn) apD:=by
  refine ⟨_,aoR.or aoY,fun H x y vx vy G R Q rx ry g h k=>?_⟩
  have h':inG G x y fun b=>R (.bl (!b)) G:=h
  unfold inG at h'
  split at h'
  · cases rx;cases ry
    exact .inl ⟨_,_,rfl,rfl,k _ H _ G (.refl H) (.bl _) g h'⟩
  · cases ry with
    | @tup a xs ds ha ra =>
      refine .inr ⟨a,xs,rfl,.inr ha,adL h'.1 rx,a8Y ra h'.2.1,?_⟩
      have e:inV vx xs=_:=ak2 h'.1 rx ra h'.2.1
      simp only [if_true]
      rw [e]
      exact k _ H _ G (.refl H) (.bl _) g h'.2.2
  · cases ry
    split at h'
    · rename_i ys e1
      obtain ⟨xs,hq,ra⟩:=gW g e1
      refine .inr ⟨_,xs,rfl,.inl hq,adL h'.1 rx,a8Y ra h'.2.1,?_⟩
      have e:inV vx xs=_:=ak2 h'.1 rx ra h'.2.1
      simp only [if_true]
      rw [e]
      exact k _ H _ G (.refl H) (.bl _) g h'.2.2
    · exact h'.elim
  · exact h'.elim
def aOG (x:D) (lo hi:Option Int) (G:Gp) (R:pX):Prop:=match x with
  | .tup xs=>¬ (HT.uU xs.length 0 lo=0∧HT.uU xs.length xs.length hi=xs.length)∧R (.tup (cutD xs lo hi)) G
  | .str z=>z.length≤sizeLine∧R (.str (Txt.slice z lo hi)) G
  | .ref p=>(match cH G p with
    | some xs=>∀ q,G q=none→R (.ref q) (aQ G q (.lst (cutD xs lo hi)))
    | none=>False)
  | _=>False
theorem aOH:SlR X (fun x lo hi H Q=>∃ z,x = .str z∧z.length≤sizeLine∧Q (.str (Txt.slice z lo hi)) H):=by
  intro pins s σ H x v vl vu lo hi sl Q I rx hs pl pu h
  obtain ⟨z,rfl,hz,q⟩:=h
  obtain ⟨t,rfl⟩:=rx
  refine ⟨"str",_,F.slot_str_getitem.lookup,typeIs_str _ _ _,?_⟩
  have fin:∀ t' k,EP X pins σ Q (.str (Txt.slice z lo hi) t') { s with toks:=k }:=fun t' k=>⟨.str _,H,I.tok k,⟨t',rfl⟩,q⟩
  cases pl with
  | none =>
    cases pu with
    | none=>exact wpAny_getItem_str_slice (l:=none) (u:=none) (st:=none) hs rfl (post_val_or_str ⟨Nat.le_trans (Txt.slice_le z _ _) hz,fin⟩)
    | int j uj=>exact wpAny_getItem_str_slice (l:=none) (u:=some (j,uj)) (st:=none) hs rfl (post_val_or_str ⟨Nat.le_trans (Txt.slice_le z _ _) hz,fin⟩)
  | int i ui =>
    cases pu with
    | none=>exact wpAny_getItem_str_slice (l:=some (i,ui)) (u:=none) (st:=none) hs rfl (post_val_or_str ⟨Nat.le_trans (Txt.slice_le z _ _) hz,fin⟩)
    | int j uj=>exact wpAny_getItem_str_slice (l:=some (i,ui)) (u:=some (j,uj)) (st:=none) hs rfl (post_val_or_str ⟨Nat.le_trans (Txt.slice_le z _ _) hz,fin⟩)
theorem aC7 {K:Fg} {H:Hp} {ds:List D} {xs:List V} (r:iJ K H ds xs) (lo hi:Option Int):iJ K H (cutD ds lo hi) (amJ xs lo hi):=by
  unfold cutD amJ
  rw [r.length]
  exact (r.drop _).take _
def ajK (te:dZ) (tl th:TO3):dZ:=fun ρ G R=>te ρ G fun x G1=>tl ρ G1 fun lo G2=>th ρ G2 fun hi G3=>aOG x lo hi G3 R
theorem aGX {e:Expr} {te:dZ} {lo hi:Option Expr} {tl th:TO3} {p2 pos:Pos} (he:gB X e te) (hl:PO3 X lo tl) (hu:PO3 X hi th):gB X (.Subscript e (.Slice lo hi none p2) pos) (ajK te tl th):=by
  refine PE.imp (PE.kf (aBO (aGD.or (aNE.or aOH)) he hl hu)) fun σ H Q h=>?_
  obtain ⟨ρ,G,R,s,g,q,k⟩:=h
  refine ⟨ρ,G,_,s,g,q,fun vx H1 x G1 t1 rx g1 q1=>?_⟩
  refine ⟨ρ,G1,_,s.mono t1,g1,q1,fun l H2 G2 t2 g2 q2=>?_⟩
  refine ⟨ρ,G2,_,s.mono (t1.trans t2),g2,q2,fun u H3 G3 t3 g3 q3=>?_⟩
  have rx3:=rx.mono (t2.trans t3)
  have tt:=(t1.trans t2).trans t3
  cases rx3 with
  | @tup a xs ds ha ra =>
    refine .inr (.inl ⟨a,xs,rfl,ha,by rw [← ra.length];exact q3.1,fun p hp _=>?_⟩)
    have sn:Same H3 (upd H3 p (.tup (amJ xs l u))):=cR hp
    exact k _ _ _ G3 (tt.trans (.same sn)) (.tup (SqT.of aU) ((aC7 ra l u).mono (.same sn)) aU) (g3.same sn) q3.2
  | str z=>exact .inr (.inr ⟨z,rfl,q3.1,fun _=>k _ H3 _ G3 tt (.str _) g3 q3.2⟩)
  | ref p =>
    have q3':(match cH G3 p with
      | some xs=>∀ q,G3 q=none→R (.ref q) (aQ G3 q (.lst (cutD xs l u)))
      | none=>False):=q3
    split at q3'
    · rename_i ds e1
      obtain ⟨xs,hq,ra⟩:=gW g3 e1
      refine .inl ⟨p,xs,rfl,hq,fun b hb kf=>?_⟩
      have sn:Same H3 (upd H3 b (.lst (amJ xs l u))):=cR hb
      exact k _ _ _ _ (tt.trans (.same sn)) (.ref b) (g3.put (u := .lst (cutD ds l u)) hb ⟨_,aU,(aC7 ra l u).mono (.same sn)⟩) (q3' b (tK g3 hb kf))
    · exact q3'.elim
  | _=>exact False.elim q3
def amO (T:String) (G:Gp):D→Prop
  | .str _=>T = "str"
  | .ref p=>T = "list" ∧ (cH G p).isSome=true
  | _=>False
theorem aC8 {K:Fg} {H:Hp} {G:Gp} {T:String} {x:D} {v:V} (g:HR K H G) (r:RD K H x v) (h:amO T G x):tyV K T v H:=by
  cases r with
  | str z=>exact h
  | ref p =>
    obtain ⟨rfl,h⟩:=h
    obtain ⟨ds,e⟩:=Option.isSome_iff_exists.mp h
    obtain ⟨xs,hq,_⟩:=gW g e
    exact .inl ⟨rfl,xs,hq⟩
  | _=>exact False.elim h
abbrev RM3:=D→List D→Gp→pX→Prop
def aiV (X:Cx) (id:String) (r3:RM3):Prop :=
  ∀ (pins:List (Addr×Obj)) (s:Shared) (σ:St) (H:Hp) (x:D) (xs:List D) (vx:V) (vs:List V) (u:Value) (us:List Value) (G:Gp) (R:pX) (Q:VK),Inv X pins σ H s→RD X.K H x vx→iJ X.K H xs vs→RelV vx u→Vals vs us→HR X.K H G→r3 x xs G R →
    (∀ v H' d G',Ts H H'→RD X.K H' d v→HR X.K H' G'→R d G'→Q v H')→wpAny (model X.prog X.w) X.A (call (.builtin id) (u :: us)) (EP X pins σ Q) X.xe s
theorem aiV.of {id:String} {r:V→List V→Hp→VK→Prop} {r3:RM3} (h:MtR X id r) (i:∀ (H:Hp) (x:D) (xs:List D) (vx:V) (vs:List V) (G:Gp) (R:pX) (Q:VK),RD X.K H x vx→iJ X.K H xs vs→HR X.K H G→r3 x xs G R →
    (∀ v H' d G',Ts H H'→RD X.K H' d v→HR X.K H' G'→R d G'→Q v H')→r vx vs H fun v H'=>KF X.K H'→Q v H'):aiV X id r3:=fun pins s σ H x xs vx vs u us G R Q I rx rs ru rv g q k =>
  jU (h pins s σ H vx vs u us _ I ru rv (i H x xs vx vs G R Q rx rs g q k)) fun _ _ ⟨v,H',I',r,q'⟩=>⟨v,H',I',r,q' (a7R I')⟩
def tM3 (T:String) (r:RM3) (to:dZ) (t:TA3):dZ:=fun ρ G R=>to ρ G fun x G1=>amO T G1 x∧t ρ G1 fun xs G2=>r x xs G2 R
def aGY (T:String) (r:RM3) (to:dZ):dZ:=fun ρ G R=>to ρ G fun x G1=>amO T G1 x∧r x [] G1 R
theorem aOI {o e:Expr} {es:List Expr} {to:dZ} {t:TA3} {name:Str} {apos cpos:Pos} {T id:String} {r3:RM3} (pa:PlainAttrs T) (slot:Slot T name id) (hty:typeOf (.builtin id)=pure (.type "method_descriptor")) (hm:aiV X id r3) (ho:gB X o to) (ha:PA3 X (e :: es) t)
    (hbase:attributeBase o name X.env (eval o X.env)=eval o X.env:=by rfl)
    (hfew:((backTo cpos (starEach (e :: es) X.env)).all (fun x=>!x.1)&&(backToKw cpos (keywordEach [] X.env)).all (fun x=>x.1.isSome)
      && decide ((e :: es).length+([]:List Keyword).length+(if ([]:List Keyword).isEmpty then 0 else 1) < 30))=true:=by rfl)
    (hline:(apos.endLine == cpos.line)=true:=by rfl) (hs:starEach (e :: es) X.env=(false,eval e X.env) :: starEach es X.env:=by rfl) (hplain:(backTo cpos (starEach es X.env)).any (·.1)=false:=by rfl) :
    gB X (.Call (.Attribute o name apos) (e :: es) [] cpos) (tM3 T r3 to t):=by
  intro pins s σ H Q I h
  obtain ⟨ρ,G,R,sr,g,q,kk⟩:=h
  refine wpAny_Call_method_late hbase hfew hline rfl (jU (ho pins s σ H (fun vx H1=>Ts H H1∧∃ x G1,RD X.K H1 x vx∧HR X.K H1 G1∧amO T G1 x∧t ρ G1 fun xs G2=>r3 x xs G2 R) I ⟨ρ,G,_,sr,g,q,fun v H1 x G1 t1 r1 g1 q1=>⟨t1,x,G1,r1,g1,q1⟩⟩) fun v s1 ⟨vx,H1,I1,r1,t1,x,G1,rx,g1,ty,q1⟩=>?_)
  obtain ⟨h1,h2⟩:=aBQ I1 r1 (aC8 g1 rx ty)
  refine ⟨T,id,pa,slot,hty,h1,h2,?_⟩
  have hA:=ha cpos pins s1 σ H1 (fun vs H2=>Ts H1 H2∧∃ xs G2,iJ X.K H2 xs vs∧HR X.K H2 G2∧r3 x xs G2 R) I1 ⟨ρ,G1,_,sr.mono t1,g1,q1,fun vs H2 xs G2 t2 r2 g2 q2=>⟨t2,xs,G2,r2,g2,q2⟩⟩
  rw [hs] at hA ⊢
  refine Calls.callWith_builtin (by show (false || (backTo cpos (starEach es X.env)).any (·.1))=false;rw [hplain] <;> rfl) (Calls.evalArgs_plain ?_)
  exact jU hA fun us s2 ⟨vs,H2,I2,r2,t2,xs,G2,rs,g2,q2⟩=>hm pins s2 σ H2 x xs vx vs v us G2 R Q I2 (rx.mono t2) rs r1 r2 g2 q2 fun v H' d G' t3=>kk v H' d G' ((t1.trans t2).trans t3)
theorem aC9 {o:Expr} {to:dZ} {name:Str} {apos cpos:Pos} {T id:String} {r3:RM3} (pa:PlainAttrs T) (slot:Slot T name id) (hty:typeOf (.builtin id)=pure (.type "method_descriptor")) (hm:aiV X id r3) (ho:gB X o to)
    (hbase:attributeBase o name X.env (eval o X.env)=eval o X.env:=by rfl) (hline:(apos.endLine == cpos.line)=true:=by rfl):gB X (.Call (.Attribute o name apos) [] [] cpos) (aGY T r3 to):=by
  intro pins s σ H Q I h
  obtain ⟨ρ,G,R,sr,g,q,kk⟩:=h
  refine wpAny_Call_method0_late hbase hline (jU (ho pins s σ H (fun vx H1=>Ts H H1∧∃ x G1,RD X.K H1 x vx∧HR X.K H1 G1∧amO T G1 x∧r3 x [] G1 R) I ⟨ρ,G,_,sr,g,q,fun v H1 x G1 t1 r1 g1 q1=>⟨t1,x,G1,r1,g1,q1⟩⟩) fun v s1 ⟨vx,H1,I1,r1,t1,x,G1,rx,g1,ty,q1⟩=>?_)
  obtain ⟨h1,h2⟩:=aBQ I1 r1 (aC8 g1 rx ty)
  exact ⟨T,id,pa,slot,hty,h1,h2,Calls.callWith_builtin rfl (PySem.evalArgs_none (hm pins s1 σ H1 x [] vx [] v [] G1 R Q I1 rx .nil r1 .nil g1 q1 fun v H' d G' t3=>kk v H' d G' (t1.trans t3)))⟩
def as7:RM3:=fun x xs G R=>match x,xs with
  | .ref p,[d]=>(match G p with
    | some (.lst ds)=>ds.length < sizeLine∧R .non (aQ G p (.lst (ds++[d])))
    | _=>False)
  | _,_=>False
theorem as8:aiV X "list.append" as7:=aiV.of anH fun H x xs vx vs G R Q rx rs g q k=>by
  cases rx with
  | ref p =>
    cases rs with
    | nil=>exact False.elim q
    | @cons d v ds ws r rr =>
      cases rr with
      | cons _ _=>exact False.elim q
      | nil =>
        have q':(match G p with
          | some (.lst ds)=>ds.length < sizeLine∧R .non (aQ G p (.lst (ds++[d])))
          | _=>False):=q
        split at q'
        · rename_i ds e1
          obtain ⟨ys,f1,r1⟩:=g p _ e1
          refine ⟨p,ys,v,rfl,rfl,f1,by rw [← r1.length];exact q'.1,fun _=>?_⟩
          have tt:Ts H (upd H p (.lst (ys++[v]))) := .turn f1 (fun _ z=>nomatch z) (fun _ _ z=>nomatch z)
          exact k _ _ _ _ tt .non (g.turn (u := .lst (ds++[d])) tt ⟨_,aU,(r1.append (.cons r .nil)).mono tt⟩) q'.2
        · exact q'.elim
  | _=>cases rs <;> exact False.elim q
def a8Z:dZ:=fun _ G R=>∀ p,G p=none→R (.ref p) (aQ G p (.eN false []))
theorem aOJ {pos:Pos}:gB X (.Dict [] [] pos) a8Z:=PE.imp (PE.kf aBK) fun σ H Q h=>by
  obtain ⟨ρ,G,R,s,g,q,k⟩:=h
  intro p hp kf
  have sn:Same H (upd H p (.dK [])):=cR hp
  exact k _ _ _ _ (.same sn) (.ref p) (g.put (u := .eN false []) hp (.inl ⟨rfl,[],aU,.nil⟩)) (q p (tK g hp kf))
def adM:dZ:=fun _ G R=>∀ p,G p=none→R (.ref p) (aQ G p (.eN true []))
theorem aGZ {pos:Pos}:gB X (.Dict [] [] pos) adM:=PE.imp (PE.kf aBL) fun σ H Q h=>by
  obtain ⟨ρ,G,R,s,g,q,k⟩:=h
  intro p hp kf
  have sn:Same H (upd H p (.dT [])):=cR hp
  exact k _ _ _ _ (.same sn) (.ref p) (g.put (u := .eN true []) hp (.inr ⟨rfl,[],aU,.nil⟩)) (q p (tK g hp kf))
end
end
end L2
namespace L2
open PySem
theorem xM:bootBuiltins "isinstance" = some (.builtin "isinstance"):=by decide +kernel
theorem ak3:bootBuiltins "len" = some (.builtin "len"):=by decide +kernel
theorem aOK:bootBuiltins "sum" = some (.builtin "sum"):=by decide +kernel
theorem ab0:bootBuiltins "sorted" = some (.builtin "sorted"):=by decide +kernel
theorem avT:bootBuiltins "int" = some (.type "int"):=by decide +kernel
theorem aH0:bootBuiltins "bool" = some (.type "bool"):=by decide +kernel
theorem as9:bootBuiltins "tuple" = some (.type "tuple"):=by decide +kernel
theorem aH1:bootBuiltins "list" = some (.type "list"):=by decide +kernel
theorem aH2:bootBuiltins "dict" = some (.type "dict"):=by decide +kernel
theorem amP:bootBuiltins "ValueError" = some (.type "ValueError"):=by decide +kernel
end L2
namespace L2
open PySem PySem.Spec PyProof.Rows
section
def Its (x:Str):It:=⟨fun i _=>i < x.cps.size,fun i H v H'=>H'=H∧∃ c,x.cps[i]?=some c∧v = .str ⟨#[c]⟩,fun i _=>x.cps.size≤i⟩
theorem anP {cm:Bool} {tl:List (Addr×List V)} {P:Program} {w:World} {K:PySem.W.Frag} {tg:Expr} (it:Addr) (x:Str) (t:Tok):Turn cm tl P w K tg (Its x) [it] it (fun i h=>h.IsStrIter it "str_ascii_iterator" x t (min i x.cps.size)) where
  mem:=by simp
  obj:=fun i h st b hb=>by
    have e:b=it:=by simpa using hb
    subst e
    obtain ⟨o,e,c,d⟩:=st
    exact ⟨o,e,fun v z=>by rw [d] at z;cases z⟩
  keep:=fun i h h' st k=>let ⟨o,e,r⟩:=st;⟨o,k it (by simp) o e,r⟩
  item:=by
    intro X hP hw hK hcm ht i pins s σ H E I hf st hg
    subst hP hw hK
    obtain ⟨f0,f1,f2,f3,f4,f5⟩:=hf it (by simp)
    have hi:i < x.cps.size:=hg
    rw [Nat.min_eq_left (Nat.le_of_lt hi)] at st
    refine wpAny_pyNext_ascii_item st (c:=x.cps[i]) (by simp [hi]) fun h' st' kk=>?_
    have I1:Inv X pins σ H { s with heap:=h',toks:=s.toks+1 }:=I.turned (fun b o hb e=>(kk.2 b hb).trans e) f0 f1 f3 f4 f5
    obtain ⟨o,e1,c1,d1⟩:=id st'
    refine ⟨_,rfl,arL (s:={ s with heap:=h',toks:=s.toks+1 }) e1 c1 d1 (by decide) ⟨.str ⟨#[x.cps[i]]⟩,H,I1,⟨_,rfl⟩,⟨rfl,x.cps[i],by simp [hi],rfl⟩,?_,fun b hb=>(hf b hb).1⟩⟩
    rw [Nat.min_eq_left hi]
    exact st'
  done:=by
    intro X hP hw hK hcm ht i pins s σ H E I hf st hg
    subst hP hw hK
    obtain ⟨f0,f1,f2,f3,f4,f5⟩:=hf it (by simp)
    have hi:x.cps.size≤i:=hg
    rw [Nat.min_eq_right hi] at st
    exact az3 (I.hnd.heap I.hok) st (by simp) fun h' eb=>⟨rfl,I.turned (t':=s.toks) (fun b o hb e=>eb b o hb e) f0 f1 f3 f4 f5⟩
  self:=fun _ _ _ _ _ st h=>wpAny_pyIter_striter_ascii st h
theorem anQ {cm:Bool} {tl:List (Addr×List V)} {P:Program} {w:World} {K:PySem.W.Frag} {tg:Expr} (it:Addr) (x:Str) (t:Tok):Turn cm tl P w K tg (Its x) [it] it (fun i h=>h.IsStrIter it "str_iterator" x t (min i x.cps.size)) where
  mem:=by simp
  obj:=fun i h st b hb=>by
    have e:b=it:=by simpa using hb
    subst e
    obtain ⟨o,e,c,d⟩:=st
    exact ⟨o,e,fun v z=>by rw [d] at z;cases z⟩
  keep:=fun i h h' st k=>let ⟨o,e,r⟩:=st;⟨o,k it (by simp) o e,r⟩
  item:=by
    intro X hP hw hK hcm ht i pins s σ H E I hf st hg
    subst hP hw hK
    obtain ⟨f0,f1,f2,f3,f4,f5⟩:=hf it (by simp)
    have hi:i < x.cps.size:=hg
    rw [Nat.min_eq_left (Nat.le_of_lt hi)] at st
    refine wpAny_pyNext_wide_item st (c:=x.cps[i]) (by simp [hi]) fun h' st' kk=>?_
    have I1:Inv X pins σ H { s with heap:=h',toks:=s.toks+1 }:=I.turned (fun b o hb e=>(kk.2 b hb).trans e) f0 f1 f3 f4 f5
    obtain ⟨o,e1,c1,d1⟩:=id st'
    refine ⟨_,rfl,arL (s:={ s with heap:=h',toks:=s.toks+1 }) e1 c1 d1 (by decide) ⟨.str ⟨#[x.cps[i]]⟩,H,I1,⟨_,rfl⟩,⟨rfl,x.cps[i],by simp [hi],rfl⟩,?_,fun b hb=>(hf b hb).1⟩⟩
    rw [Nat.min_eq_left hi]
    exact st'
  done:=by
    intro X hP hw hK hcm ht i pins s σ H E I hf st hg
    subst hP hw hK
    obtain ⟨f0,f1,f2,f3,f4,f5⟩:=hf it (by simp)
    have hi:x.cps.size≤i:=hg
    rw [Nat.min_eq_right hi] at st
    exact az4 (I.hnd.heap I.hok) st (by simp) fun h' eb=>⟨rfl,I.turned (t':=s.toks) (fun b o hb e=>eb b o hb e) f0 f1 f3 f4 f5⟩
  self:=fun _ _ _ _ _ st h=>wpAny_pyIter_striter_wide st h
inductive Src where
  | lst (p:Addr) (xs:List D) | imm (xs:List D) | zip (p q:Addr) (xs ys:List D)
def prs (xs ys:List D):List D:=(xs.zip ys).map fun z => .tup [z.1,z.2]
def Src.items:Src→List D
  | .lst _ xs=>xs
  | .imm xs=>xs
  | .zip _ _ xs ys=>prs xs ys
def Src.ok (G:Gp):Src→Prop
  | .lst p xs=>cH G p=some xs
  | .imm _=>True
  | .zip p q xs ys=>cH G p=some xs∧cH G q=some ys
def avU (K:Fg) (H1:Hp) (src:Src) (J:It):Prop:=∀ H2 G2,Ts H1 H2→HR K H2 G2→src.ok G2 →
  (∀ i,i < src.items.length→J.go i H2)∧(∀ i v H',i < src.items.length→J.yld i H2 v H'→Same H2 H'∧∃ d,src.items[i]?=some d∧RD K H' d v)∧J.stop src.items.length H2
abbrev TI3:=aW→Gp→(Src→Gp→Prop)→Prop
def upI (K:Fg) (t:TI3):TI:=fun σ H Q=>∃ ρ G R,SR K H ρ σ∧HR K H G∧t ρ G R∧∀ src J H' G',Ts H H'→HR K H' G'→avU K H' src J→R src G'→Q J H'
abbrev PI3 (X:Cx) (tg iter:Expr) (t:TI3):Prop:=PI X tg iter (upI X.K t)
def signs (z:Str):List D:=z.cps.toList.map fun c => .str ⟨#[c]⟩
def ak4 (te:dZ):TI3:=fun ρ G R=>te ρ G fun x G1=>match x with
  | .ref p=>(match cH G1 p with
    | some xs=>R (.lst p xs) G1
    | none=>False)
  | .tup xs=>R (.imm xs) G1
  | .str z=>R (.imm (signs z)) G1
  | _=>False
theorem anR {K:Fg} {H1:Hp} {p:Addr} {xs:List D}:avU K H1 (.lst p xs) (Itl K p):=fun H2 G2 t g ok=>by
  obtain ⟨vs,hq,rv⟩:=gW g (show cH G2 p=some xs from ok)
  refine ⟨fun i hi=>?_,fun i v H' hi hy=>?_,⟨vs,hq,Nat.le_of_eq rv.length.symm⟩⟩
  · have hi':i < xs.length:=hi
    obtain ⟨y,e1,_⟩:=rv.get (List.getElem?_eq_getElem hi')
    exact ⟨vs,y,hq,e1⟩
  · obtain ⟨rfl,hy⟩:=hy
    obtain ⟨d,e1,e2⟩:=rv.aGH (hy vs hq)
    exact ⟨.refl _,d,e1,e2⟩
theorem aCA {K:Fg} {H1:Hp} {a:Addr} {vs:List V} {xs:List D} (hq:SqT K H1 a vs) (rv:iJ K H1 xs vs):avU K H1 (.imm xs) (Itt K a):=fun H2 G2 t g ok=>by
  have hq2:=t.sqT hq
  have rv2:=rv.mono t
  refine ⟨fun i hi=>?_,fun i v H' hi hy=>?_,⟨vs,hq2,Nat.le_of_eq rv.length.symm⟩⟩
  · have hi':i < xs.length:=hi
    obtain ⟨y,e1,_⟩:=rv2.get (List.getElem?_eq_getElem hi')
    exact ⟨vs,y,hq2,e1⟩
  · obtain ⟨rfl,hy⟩:=hy
    obtain ⟨d,e1,e2⟩:=rv2.aGH (hy vs hq2)
    exact ⟨.refl _,d,e1,e2⟩
theorem ak5 {K:Fg} {H1:Hp} {z:Str}:avU K H1 (.imm (signs z)) (Its z):=fun H2 G2 t g ok=>by
  have hl:(signs z).length=z.cps.size:=by simp [signs]
  refine ⟨fun i hi=>?_,fun i v H' hi hy=>?_,?_⟩
  · have:i < (signs z).length:=hi
    rw [hl] at this
    exact this
  · obtain ⟨rfl,c,hc,rfl⟩:=hy
    exact ⟨.refl _,.str ⟨#[c]⟩,by simp [Src.items,signs,hc],.str _⟩
  · show z.cps.size≤(signs z).length
    rw [hl];exact Nat.le_refl _
theorem asA {K:Fg} {H1:Hp} {lo:Int} {n:Nat}:avU K H1 (.imm ((List.range n).map fun (i:Nat) => .int (lo+(i:Int)))) (Itr lo n):=fun H2 G2 t g ok=>by
  refine ⟨fun i hi=>?_,fun i v H' hi hy=>?_,?_⟩
  · have hi':i < n:=by simpa [Src.items] using hi
    exact hi'
  · obtain ⟨rfl,rfl⟩:=hy
    have hi':i < n:=by simpa [Src.items] using hi
    exact ⟨.refl _,.int (lo+i),by simp [Src.items,hi'],.int _⟩
  · show n≤_
    simp [Src.items]
section
variable {X:Cx} {tg:Expr}
theorem PI.imp {e:Expr} {t t':TI} (h:PI X tg e t) (k:∀ σ H Q,t' σ H Q→t σ H Q):PI X tg e t':=fun pins s σ H Q I q=>h pins s σ H Q I (k _ _ _ q)
theorem aUI {l:Expr} {te:dZ} (hl:gB X l te):PI3 X tg l (ak4 te):=by
  intro pins s σ H R I h
  obtain ⟨ρ,G,R3,sr,g,q,k⟩:=h
  refine jU (hl pins s σ H (fun v H1=>Ts H H1∧∃ x G1,RD X.K H1 x v∧HR X.K H1 G1∧(match x with
    | .ref p=>(match cH G1 p with
      | some xs=>R3 (.lst p xs) G1
      | none=>False)
    | .tup xs=>R3 (.imm xs) G1
    | .str z=>R3 (.imm (signs z)) G1
    | _=>False)) I ⟨ρ,G,_,sr,g,q,fun v H1 x G1 t1 r g1 q1=>⟨t1,x,G1,r,g1,q1⟩⟩) fun v s1 ⟨x,H1,I1,r1,t1,d,G1,rd,g1,q1⟩=>?_
  cases rd with
  | ref a =>
    have q1':(match cH G1 a with
      | some xs=>R3 (.lst a xs) G1
      | none=>False):=q1
    split at q1'
    · rename_i xs e
      cases r1
      obtain ⟨vs,hq,rv⟩:=gW g1 e
      obtain ⟨its,rv',p,hz⟩:=I1.list hq
      refine wpAny_pyIter_list p.isList ?_
      refine ⟨s1.heap.objs.size,[s1.heap.objs.size],_,_,H1,rfl,I1.kept (t':=s1.toks) fun b o e=>Heap.get?_push_of_some _ e,an9 a _,⟨_,Heap.get?_push_size _ rfl,rfl,rfl⟩,fun b hb=>?_,k _ _ H1 G1 t1 g1 anR q1'⟩
      have e:b=s1.heap.objs.size:=by simpa using hb
      subst e
      exact I1.arK (Nat.le_refl _) (I1.hok.fresh (Nat.le_refl _))
    · exact q1'.elim
  | @tup a vs xs hq rv =>
    cases r1
    obtain ⟨its,rv',p,hz⟩:=I1.tuple hq
    refine wpAny_pyIter_tuple (show s1.heap.IsTuple a its.toArray from p) ?_
    refine ⟨s1.heap.objs.size,[s1.heap.objs.size],_,_,H1,rfl,I1.kept (t':=s1.toks) fun b o e=>Heap.get?_push_of_some _ e,avA a _,⟨_,Heap.get?_push_size _ rfl,rfl,rfl⟩,fun b hb=>?_,k _ _ H1 G1 t1 g1 (aCA hq rv) q1⟩
    have e:b=s1.heap.objs.size:=by simpa using hb
    subst e
    exact I1.arK (Nat.le_refl _) (I1.hok.fresh (Nat.le_refl _))
  | str z =>
    obtain ⟨t,rfl⟩:=r1
    cases ha:z.cps.all (· < 128)
    · refine wpAny_pyIter_wide ha ?_
      refine ⟨s1.heap.objs.size,[s1.heap.objs.size],_,_,H1,rfl,I1.kept (t':=s1.toks) fun b o e=>Heap.get?_push_of_some _ e,anQ _ z t,?_,fun b hb=>?_,k _ _ H1 G1 t1 g1 ak5 q1⟩
      · rw [Nat.zero_min];exact ⟨_,Heap.get?_push_size _ rfl,rfl,rfl⟩
      · have e:b=s1.heap.objs.size:=by simpa using hb
        subst e
        exact I1.arK (Nat.le_refl _) (I1.hok.fresh (Nat.le_refl _))
    · refine wpAny_pyIter_ascii ha ?_
      refine ⟨s1.heap.objs.size,[s1.heap.objs.size],_,_,H1,rfl,I1.kept (t':=s1.toks) fun b o e=>Heap.get?_push_of_some _ e,anP _ z t,?_,fun b hb=>?_,k _ _ H1 G1 t1 g1 ak5 q1⟩
      · rw [Nat.zero_min];exact ⟨_,Heap.get?_push_size _ rfl,rfl,rfl⟩
      · have e:b=s1.heap.objs.size:=by simpa using hb
        subst e
        exact I1.arK (Nat.le_refl _) (I1.hok.fresh (Nat.le_refl _))
  | _=>exact q1.elim
def afS (lo hi:Int):List D:=(List.range (hi - lo).toNat).map fun (i:Nat) => .int (lo+(i:Int))
def ac4 (ta:TA3):TI3:=fun ρ G R=>ta ρ G fun xs G1=>match xs with
  | [.int j]=>-(2 ^ 62)≤j∧j < 2 ^ 62∧R (.imm (afS 0 j)) G1
  | _=>False
def aOM (ta:TA3):TI3:=fun ρ G R=>ta ρ G fun xs G1=>match xs with
  | [.int i,.int j]=>(-(2 ^ 62)≤i∧i < 2 ^ 62∧-(2 ^ 62)≤j∧j < 2 ^ 62)∧R (.imm (afS i j)) G1
  | _=>False
theorem aON {a:Expr} {ta:TA3} {p pos:Pos} (hg:Gl X "range") (hm:X.mg "range" = none) (ha:PA3 X [a] ta) (hs:starEach [a] X.env=[(false,eval a X.env)]):PI3 X tg (.Call (.Name "range" p) [a] [] pos) (ac4 ta) :=
  PI.imp (anA hg hm ha hs) fun σ H Q h=>by
  obtain ⟨ρ,G,R,s,g,q,k⟩:=h
  refine ⟨ρ,G,_,s,g,q,fun vs H1 ds G1 t1 r g1 h1=>?_⟩
  cases r with
  | nil=>exact h1.elim
  | cons r rr =>
    cases rr with
    | cons _ _=>cases r <;> exact False.elim h1
    | nil =>
      cases r with
      | int j =>
        obtain ⟨l1,l2,h1⟩:=h1
        refine ⟨j,rfl,l1,l2,k _ _ H1 G1 t1 g1 ?_ h1⟩
        unfold afS
        rw [show (j - 0).toNat=j.toNat by omega]
        exact asA
      | _=>exact False.elim h1
end
end
section
def a0O (cells:List (Str×Addr)):List (Str×NameKind)→List (Str×Addr)→List (Str×Addr)
  | [],cs=>cs
  | (n,k) :: r,cs=>a0O cells r (if k = .free then (match cells.lookup n with
    | some a=>(n,a) :: cs
    | none=>cs) else cs)
theorem afT {scope:Scope} {env:Env} (h:∀ y∈scope.names,y.2 = .free→∃ c,env.cells.lookup y.1=some c):closureFor scope env=pure (a0O env.cells scope.names []):=by
  unfold closureFor
  have all:∀ (l:List (Str×NameKind)) (cs:List (Str×Addr)),(∀ y∈l,y.2 = .free→∃ c,env.cells.lookup y.1=some c) →
      (forIn l cs fun (x:Str×NameKind) (r:List (Str×Addr))=>(if (x.2 == NameKind.free)=true then do
        let a ← cellOf env x.1
        pure (ForInStep.yield ((x.1,a) :: r)) else pure (ForInStep.yield r):Sem (ForInStep (List (Str×Addr)))))=(pure (a0O env.cells l cs):Sem (List (Str×Addr))):=by
    intro l
    induction l with
    | nil=>intro cs _;rfl
    | cons y r ih =>
      intro cs hl
      obtain ⟨n,k⟩:=y
      rw [List.forIn_cons]
      by_cases hk:k = .free
      · subst hk
        obtain ⟨c,hc⟩:=hl (n,.free) (by simp) rfl
        have e:cellOf env n=pure c:=by unfold cellOf;rw [hc]
        simp only [beq_self_eq_true,if_true,e]
        show (forIn r ((n,c) :: cs) _:Sem _)=_
        rw [ih _ fun y hy=>hl y (by simp [hy])]
        simp only [a0O,if_true,hc]
      · have hk':(k == NameKind.free)=false:=by simpa using hk
        simp only [hk',Bool.false_eq_true,if_false]
        show (forIn r cs _:Sem _)=_
        rw [ih _ fun y hy=>hl y (by simp [hy])]
        simp only [a0O,if_neg hk]
  have z:=all scope.names [] h
  exact congrArg (fun m=>m >>= fun cs=>pure cs) z
theorem uK {cells:List (Str×Addr)}:∀ {l:List (Str×NameKind)} {cs:List (Str×Addr)} {y:Str} {c:Addr},(a0O cells l cs).lookup y=some c→(∀ c,cs.lookup y=some c→cells.lookup y=some c)→cells.lookup y=some c
  | [],cs,y,c,h,k=>k c h
  | (n,kd) :: r,cs,y,c,h,k=>by
    unfold a0O at h
    refine uK h fun c' h'=>?_
    by_cases hk:kd = .free
    · rw [if_pos hk] at h'
      split at h'
      · rename_i a ha
        rw [List.lookup_cons] at h'
        split at h'
        · rename_i e
          have e':y=n:=beq_iff_eq.mp e
          subst e'
          rw [ha];exact h'
        · exact k c' h'
      · exact k c' h'
    · rw [if_neg hk] at h'
      exact k c' h'
theorem ak6 {cells:List (Str×Addr)}:∀ {l:List (Str×NameKind)} {cs:List (Str×Addr)} {y:Str},(∃ c,cs.lookup y=some c)→∃ c,(a0O cells l cs).lookup y=some c
  | [],cs,y,h=>h
  | (n,kd) :: r,cs,y,h=>by
    unfold a0O
    refine ak6 ?_
    by_cases hk:kd = .free
    · rw [if_pos hk]
      split
      · rw [List.lookup_cons]
        split
        · exact ⟨_,rfl⟩
        · exact h
      · exact h
    · rw [if_neg hk];exact h
theorem afU {cells:List (Str×Addr)} {y:Str} {c:Addr} (hc:cells.lookup y=some c):∀ {l:List (Str×NameKind)} {cs:List (Str×Addr)},(y,NameKind.free)∈l→∃ c,(a0O cells l cs).lookup y=some c
  | [],cs,h=>by simp at h
  | (n,kd) :: r,cs,h=>by
    unfold a0O
    rcases List.mem_cons.mp h with e | h
    · cases e
      refine ak6 ?_
      rw [if_pos rfl,hc]
      simp
    · exact afU hc h
theorem mem_of_lookup {α:Type}:∀ {l:List (Str×α)} {y:Str} {k:α},l.lookup y=some k→(y,k)∈l
  | [],_,_,h=>by simp at h
  | (n,kd) :: r,y,k,h=>by
    rw [List.lookup_cons] at h
    split at h
    · rename_i e
      have e':y=n:=beq_iff_eq.mp e
      cases h;subst e';simp
    · exact List.mem_cons_of_mem _ (mem_of_lookup h)
structure ac5 (X:Cx) (xs:List Str) (scope:Scope):Prop where
  kind:scope.kind = .function
  avV:∀ y∈scope.names,y.2 ≠ .cell
  locs:∀ y∈scope.names,y.2 = .local→scope.names.lookup y.1=some .local
  var:∀ x∈xs,scope.names.lookup x=some .local
  frees:∀ y∈scope.names,y.2 = .free→X.env.kindOf y.1=some .cell∨X.env.kindOf y.1=some .free
  out:∀ x∈xs,x ∉ X.N
  nd:xs.Nodup
  only:∀ y∈X.N,scope.names.lookup y≠some .local
abbrev a3W (X:Cx) (xs:List Str) (scope:Scope) (C:Addr) (s₃:Shared) (H₃:Hp) (fp:List Addr) (pins:List (Addr×Obj)):Cx :=
  { X with N:=xs++X.N,s₀:=s₃,H₀:=H₃,env:=compEnvC scope (a0O X.env.cells scope.names []) C X.env,outer:=X.stack,stack:=X.stack,ex:=fp,fn:=fun _=>false,pn:=X.pn++pins,xe:=fun _ _=>False }
def nn (xs:List Str) (σ:St):St:=xs.map (fun _=>none)++σ
theorem aCB {xs:List Str} {σ:St} {i:Nat} {v:V} (h:(nn xs σ)[i]?=some (some v)):∃ j,i=xs.length+j∧σ[j]?=some (some v):=by
  unfold nn at h
  by_cases c:i < xs.length
  · rw [List.getElem?_append_left (by simpa using c)] at h
    simp at h
  · rw [List.getElem?_append_right (by simpa using c)] at h
    exact ⟨i - xs.length,by omega,by simpa using h⟩
theorem axW {α:Type} {xs ys:List α} {j:Nat}:(xs++ys)[xs.length+j]?=ys[j]?:=by
  rw [List.getElem?_append_right (by omega)]
  congr 1
  omega
theorem nH {env:Env} {y:Str} {k:NameKind}:∀ {names:List (Str×NameKind)},(names.map fun (n,k)=>if (k == .free&&env.scope.kind == .function&&env.kindOf n == some .cell) then (n,.cell) else (n,k)).lookup y=some k →
    ∃ k',names.lookup y=some k'∧(k=k'∨(k = .cell∧k' = .free))
  | [],h=>by simp at h
  | (n,kd) :: r,h=>by
    rw [List.map_cons] at h
    by_cases hc:(kd == .free&&env.scope.kind == .function&&env.kindOf n == some .cell)=true
    · have h':List.lookup y ((n,NameKind.cell) :: (r.map fun (n,k)=>if (k == .free&&env.scope.kind == .function&&env.kindOf n == some .cell) then (n,.cell) else (n,k)))=some k:=by
        simp only [hc,if_true] at h;exact h
      rw [List.lookup_cons] at h' ⊢
      cases hx:y == n with
      | true =>
        rw [hx] at h'
        cases h'
        refine ⟨kd,rfl,.inr ⟨rfl,?_⟩⟩
        simp only [Bool.and_eq_true,beq_iff_eq] at hc
        exact hc.1.1
      | false =>
        rw [hx] at h'
        exact nH h'
    · have h':List.lookup y ((n,kd) :: (r.map fun (n,k)=>if (k == .free&&env.scope.kind == .function&&env.kindOf n == some .cell) then (n,.cell) else (n,k)))=some k:=by
        simp only [hc,if_false] at h
        exact h
      rw [List.lookup_cons] at h' ⊢
      cases hx:y == n with
      | true =>
        rw [hx] at h'
        cases h'
        exact ⟨_,rfl,.inl rfl⟩
      | false =>
        rw [hx] at h'
        exact nH h'
end
section
section
variable {X:Cx} {xs:List Str} {scope:Scope} {C:Addr} {pins:List (Addr×Obj)} {σ:St} {H H₃:Hp} {s s₃:Shared} {fp:List Addr}
theorem apG (I:Inv X pins σ H s) {b:Addr} (hb:b∈frs X.stack):b=X.env.locals∨b∈X.fs:=List.mem_cons.mp (I.av9 b hb)
theorem aOO (I:Inv X pins σ H s) (c:ac5 X xs scope) (hC:s.heap.objs.size≤C) (hf:∀ b∈fp,aiR X pins H b∧b < s.heap.objs.size):(a3W X xs scope C s H fp pins).Ok where
  mod:=I.ok.mod
  kind:=c.kind
  glob:=I.ok.glob
  blt:=I.ok.blt
  above:=hC
  inj:=fun y z d h1 h2=>I.ok.inj y z d (uK h1 fun _ h=>by simp at h) (uK h2 fun _ h=>by simp at h)
  has:=fun y h=>by
    have hy:(y,NameKind.free)∈scope.names:=by
      rcases h with h | h
      · obtain ⟨k',e,z⟩:=nH (env:=X.env) (names:=scope.names) h
        rcases z with z | ⟨_,z⟩
        · subst z
          exact absurd rfl (c.avV _ (mem_of_lookup e))
        · subst z;exact mem_of_lookup e
      · obtain ⟨k',e,z⟩:=nH (env:=X.env) (names:=scope.names) h
        rcases z with z | ⟨z,_⟩
        · subst z;exact mem_of_lookup e
        · cases z
    obtain ⟨d,hd⟩:=I.ok.has y (c.frees _ hy rfl)
    exact afU hd hy
  cab:=fun _ _ h=>absurd h (by simp)
  hd:=I.ok.hd
  frames:=I.ok.frames
  stk := .inl rfl
  exf:=fun b hb=>by
    obtain ⟨⟨f0,f1,f2,f3,f4,f5⟩,lt⟩:=hf b hb
    exact ⟨Nat.ne_of_lt (Nat.lt_of_lt_of_le lt hC),fun y d h=>f4 y d (uK h fun _ h=>by simp at h)⟩
  bs:=fun b o e=>I.bs b o e
  bsz:=Nat.le_trans I.ok.bsz I.sz
  amH:=fun b o e hb=>by
    obtain ⟨⟨f0,f1,f2,f3,f4,f5⟩,lt⟩:=hf b hb
    rcases f3 with z | z
    · exact I.ok.amH b o e z
    · exact absurd (Nat.lt_of_lt_of_le (Heap.lt_size e) (Nat.le_trans I.ok.bsz z)) (Nat.lt_irrefl _)
  aoN:=fun b hb hs=>by
    obtain ⟨⟨f0,f1,f2,f3,f4,f5⟩,lt⟩:=hf b hb
    rcases apG I hs with z | z
    · exact f1 z
    · exact f2 z
  a67:=I.stack
  frf:=fun b hb=>I.aoO b hb
theorem aOP (I:Inv X pins σ H s) (c:ac5 X xs scope) (hC:s.heap.objs.size=C) (hf:∀ b∈fp,aiR X pins H b∧b < s.heap.objs.size) {h₁:Heap} {m:Str→Option Value} {tk:Nat} (hn:h₁.Ns C m) (hk:∀ b o,s.heap.get? b=some o→h₁.get? b=some o) :
    Inv (a3W X xs scope C s H fp pins) [] (nn xs σ) H { s with heap:=h₁,toks:=tk }:=by
  have lt:∀ b o,s.heap.get? b=some o→b≠C:=fun b o e=>by rw [← hC];exact Nat.ne_of_lt (Heap.lt_size e)
  refine ⟨aOO I c (Nat.le_of_eq hC) hf,rfl,I.bare,Un.kept hk,⟨m,hn,fun i y v e1 e2 e3=>?_⟩,fun y d e=>?_,I.hok.fresh (Nat.le_of_eq hC),fun y d e=>I.xZ y d (uK e fun _ h=>by simp at h),fun p hp=>?_,I.hok.kept hk,by simp [nn,I.len],I.hnd,I.tup⟩
  · obtain ⟨i,rfl,e2'⟩:=aCB e2
    · have e1':X.N[i]?=some y:=axW.symm.trans e1
      have hy:y∈X.N:=List.mem_of_getElem? e1'
      have free:(y,NameKind.free)∈scope.names:=by
        have e3':∃ k,(relabel scope X.env).names.lookup y=some k∧(k = .local∨k = .cell∨k = .free):=by
          rcases e3 with h | h | h
          · exact ⟨_,h,.inl rfl⟩
          · exact ⟨_,h,.inr (.inl rfl)⟩
          · exact ⟨_,h,.inr (.inr rfl)⟩
        obtain ⟨k,h,hk⟩:=e3'
        obtain ⟨k',e,z⟩:=nH (env:=X.env) (names:=scope.names) h
        rcases z with z | ⟨_,z⟩
        · subst z
          rcases hk with rfl | rfl | rfl
          · exact absurd e (c.only y hy)
          · exact absurd rfl (c.avV _ (mem_of_lookup e))
          · exact mem_of_lookup e
        · subst z;exact mem_of_lookup e
      have hkd:=c.frees _ free rfl
      obtain ⟨m',hn',hlo⟩:=I.loc
      have vis:Vis X.env.scope y:=hkd.elim (fun z => .inr (.inl z)) fun z => .inr (.inr z)
      obtain ⟨u,r,l⟩:=hlo i y v e1' e2' vis
      refine ⟨u,r,.inr ⟨?_,?_⟩⟩
      · rcases e3 with h | h | h
        · obtain ⟨k',e,z⟩:=nH (env:=X.env) (names:=scope.names) h
          rcases z with z | ⟨z,_⟩
          · subst z;exact absurd e (c.only y hy)
          · cases z
        · exact .inl h
        · exact .inr h
      · rcases l with ⟨hl,_⟩ | ⟨_,d,hd,hcell⟩
        · rcases hkd with z | z
          · rw [z] at hl;cases hl
          · rw [z] at hl;cases hl
        · obtain ⟨d',hd'⟩:=afU (cells:=X.env.cells) (l:=scope.names) (cs:=[]) hd free
          have:=uK hd' fun _ h=>by simp at h
          rw [hd] at this;cases this
          refine ⟨d,hd',?_⟩
          obtain ⟨o,ho,hod⟩:=hcell
          exact ⟨o,hk _ _ ho,hod⟩
  · obtain ⟨w,o,ho,hod⟩:=I.cell y d (uK e fun _ h=>by simp at h)
    exact ⟨w,o,hk _ _ ho,hod⟩
  · have hp':p∈X.pn++pins:=by simpa using hp
    obtain ⟨e,n,ne,nf,d⟩:=I.pin p hp'
    refine ⟨hk _ _ e,n,lt _ _ e,fun z=>?_,d⟩
    rcases apG I z with z | z
    · exact ne z
    · exact nf z
theorem aH3 (I:Inv X pins σ H s) (hC:s.heap.objs.size=C) (hf:∀ b∈fp,aiR X pins H b∧b < s.heap.objs.size) {adE:List (Addr×Obj)} {σ':St} {H':Hp} {s':Shared} {h':Heap} {tk:Nat} (J:Inv (a3W X xs scope C s H fp pins) adE σ' H' s') (hs:Heap.SameBut C s'.heap h') :
    Inv X pins σ H' { s' with heap:=h',toks:=tk }:=by
  have ne:∀ b o,s.heap.get? b=some o→b≠C:=fun b o e=>by rw [← hC];exact Nat.ne_of_lt (Heap.lt_size e)
  have u:Un (frs X.stack) fp H H' s.heap s'.heap:=J.base
  have hfree:H' C=none:=J.free
  refine I.call' (ch:=fp) J.os ⟨fun b o e n hb hx=>?_,fun b o e n hb hx=>?_,u.free,fun b o e hx=>?_,u.tups,u.uV,u.a66⟩ (fun b o e=>?_) J.bare (fun b hb=>?_)
  · exact (hs.2 b (ne b o e)).trans (u.keep b o e n hb hx)
  · obtain ⟨sl,e1⟩:=u.slot b o e n hb hx
    exact ⟨sl,(hs.2 b (ne b o e)).trans e1⟩
  · obtain ⟨o',e1⟩:=u.there b o e hx
    exact ⟨o',(hs.2 b (ne b o e)).trans e1⟩
  · refine (J.hok b o e).stay (fun d w hd q=>(hs.2 d ?_).trans q) (fun _ q=>q) fun _ _ q=>q
    rintro rfl
    rcases hd with z | z
    · rw [z] at hfree;rw [e] at hfree;cases hfree
    · rw [hfree] at z;cases z
  · obtain ⟨⟨f0,f1,f2,f3,f4,f5⟩,lt⟩:=hf b hb
    exact ⟨f3,f1,f4,f5⟩
end
end
section
def aCC:TT3:=fun _ G R=>R true G
def aCD (X:Cx) (ifs:List Expr) (tc:TT3):Prop :=
  ∀ (pins:List (Addr×Obj)) (s:Shared) (σ:St) (H:Hp) (Q:Bool→Hp→Prop),Inv X pins σ H s→upT X.K tc σ H Q →
    wpAny (model X.prog X.w) X.A (forIn ifs true fun c r=>if r=true then do let ok ← isTrue c X.env (eval c X.env);pure (ForInStep.yield ok) else pure (ForInStep.yield r)) (TP X pins σ Q) X.xe s
theorem aH4 {X:Cx}:aCD X [] aCC:=fun pins s σ H Q I h=>by
  obtain ⟨ρ,G,R,sr,g,q,k⟩:=h
  exact wpAny_pure ⟨H,I,k true H G (.refl H) g q⟩
theorem aH5 {X:Cx} {c:Expr} {tc:TT3} (hc:PT3 X c tc):aCD X [c] tc:=fun pins s σ H Q I h=>by
  rw [List.forIn_cons]
  simp only [if_true]
  refine wpAny_bind (wpAny_bind (jU (hc pins s σ H Q I h) fun b s1 q=>?_))
  exact wpAny_pure (wpAny_pure q)
section
variable {X:Cx} {x:Str} {xs:List Str} {tgt:Expr} {dv:D→Option (List D)} {scope:Scope} {iter elt:Expr} {ifs:List Expr} {px pos:Pos} {ti:TI3} {tc:TT3} {te:dZ}
structure aOQ (X:Cx) (pins:List (Addr×Obj)) (H':Hp) (C:Addr) (h:Heap):Prop where
  ns:∃ m,h.Ns C m
  free:H' C=none
  loc:C≠X.env.locals
  young:X.s₀.heap.objs.size≤C
  cells:∀ y d,X.env.cells.lookup y=some d→d≠C
  pins:∀ p∈X.pn++pins,p.1≠C
theorem aOQ.turn {X:Cx} {pins:List (Addr×Obj)} {σ:St} {H':Hp} {C:Addr} {s:Shared} (o:aOQ X pins H' C s.heap) (I:Inv X pins σ H' s) {h':Heap} (hs:Heap.SameBut C s.heap h'):Inv X pins σ H' { s with heap:=h' } :=
  I.turned (t':=s.toks) (fun b ob hb e=>(hs.2 b hb).trans e) o.free o.loc (.inr o.young) o.cells o.pins
def aOR (Y:Cx) (tgt:Expr) (xs:List Str) (dv:D→Option (List D)) (σ:St):Prop:=∀ (pins:List (Addr×Obj)) (s:Shared) (H:Hp) (v:V) (u:Value) (d:D) (ds:List D),Inv Y pins (nn xs σ) H s→RelV v u→RD Y.K H d v→dv d=some ds →
  wpAny (model Y.prog Y.w) Y.A (assign tgt Y.env u) (fun _ s'=>∃ vs,iJ Y.K H ds vs∧Inv Y pins (vs.map some++σ) H s') Y.xe s
theorem aCE {K:Fg} {H:Hp} {ρ:aW} {σ:St} (s:SR K H ρ σ):∀ {ds:List D} {vs:List V},iJ K H ds vs→SR K H (ds.map some++ρ) (vs.map some++σ)
  | _,_,.nil=>s
  | _,_,.cons h r => .some h (aCE s r)
theorem aCF {prog:Program} {w:World} {A:Around} {R:Result→Shared→Prop} {s:Shared} {elt target iter:Expr} {ifs:List Expr} {scope:Scope} {pos:Pos} {it acc:Value} {env:Env} (J:Nat→Shared→Prop)
    (turn:∀ n s,J n s→wpAny (model prog w) A (pyNext it) (fun r s1=>match r with
      | none=>R (.ok .next) s1
      | some v=>wpAny (model prog w) A (letOwnedTupleGo target it v) (fun _ s1'=>wpAny (model prog w) A (assign target env v) (fun _ s2 =>
          wpAny (model prog w) A (forIn ifs true fun c r=>if r=true then do let ok ← isTrue c env (eval c env);pure (ForInStep.yield ok) else pure (ForInStep.yield r)) (fun ok s3 =>
            if ok=true then wpAny (model prog w) A (eval elt env) (fun x s4 =>
              wpAny (model prog w) A (call (.builtin "list.append") [acc,x]) (fun _ s5=>∃ m,m < n∧J m s5) (notedBy (model prog w) A env fun e s'=>R (.error e) s') s4) (notedBy (model prog w) A env fun e s'=>R (.error e) s') s3
            else ∃ m,m < n∧J m s3) (notedBy (model prog w) A env fun e s'=>R (.error e) s') s2) (notedBy (model prog w) A env fun e s'=>R (.error e) s') s1') (notedBy (model prog w) A env fun e s'=>R (.error e) s') s1) (notedBy (model prog w) A env fun e s'=>R (.error e) s') s)
    (n:Nat) (h:J n s):codeAny (model prog w) A (.compLoop (.ListComp elt [⟨target,iter,ifs,0⟩] scope pos) 0 it acc env) R s:=by
  refine codeAny_loop rfl J (fun n s hJ=>?_) n h
  show wpAny _ A ((compTurn (.ListComp elt [⟨target,iter,ifs,0⟩] scope pos) 0 it acc env).onRaise (fun z=>do noteFrame z env;theTreesLotGoes z)) _ _ s
  refine wpAny_noted ?_
  rw [compTurn_list]
  refine wpAny_bind (wpAny_standAt (wpAny_bind (wpAny_mono (turn n s hJ) (fun r s1 h1=>?_) fun _ _ z=>z)))
  cases r with
  | none=>exact wpAny_pure h1
  | some v =>
    refine wpAny_bind (wpAny_mono h1 (fun _ s1' h1'=>?_) fun _ _ z=>z)
    refine wpAny_bind (wpAny_mono h1' (fun _ s2 h2=>wpAny_bind (wpAny_mono h2 (fun ok s3 h3=>?_) fun _ _ z=>z)) fun _ _ z=>z)
    cases ok with
    | false=>exact wpAny_pure ⟨rfl,h3⟩
    | true=>exact wpAny_bind (wpAny_bind (wpAny_mono h3 (fun x s4 h4=>wpAny_bind (wpAny_mono h4 (fun _ s5 h5=>wpAny_pure (wpAny_pure ⟨rfl,h5⟩)) fun _ _ z=>z)) fun _ _ z=>z))
theorem azU (c:ac5 X xs scope) (hT:∀ C s H fp pins σ,aOR (a3W X xs scope C s H fp pins) tgt xs dv σ) (hdv:∀ d ds,dv d=some ds→ds.length=xs.length) (hc:∀ C s H fp pins,aCD (a3W X xs scope C s H fp pins) ifs tc) (he:∀ C s H fp pins,gB (a3W X xs scope C s H fp pins) elt te)
    {pins:List (Addr×Obj)} {s2:Shared} {σ:St} {H H2:Hp} {ρ:aW} {G1:Gp} {R:pX} {it:Addr} {fp:List Addr} {tn:Nat→Heap→Prop} {J:It} {src:Src} {RR:Value→Addr→Result→Shared→Prop} (sr:SR X.K H ρ σ) (I2:Inv X pins σ H2 s2) (T:Turn X.calm X.tp X.prog X.w X.K tgt J fp it tn) (st2:tn 0 s2.heap) (f2:∀ b∈fp,aiR X pins H2 b) (t1:Ts H H2) (g1:HR X.K H2 G1) (sj:avU X.K H2 src J)
    (hlen:src.items.length < sizeLine) (body:∀ p,G1 p=none→∃ P:Nat→List D→Gp→Prop,P 0 [] (aQ G1 p (.lst [])) ∧
      (∀ k ds G,k≤src.items.length→P k ds G→src.ok G∧G p=some (.lst ds)∧ds.length≤k) ∧
      (∀ k d ds G,src.items[k]?=some d→P k ds G→∃ ys,dv d=some ys∧tc (ys.map some++ρ) G fun b G2=>if b=true then te (ys.map some++ρ) G2 fun y G3=>G3 p=some (.lst ds)∧P (k+1) (ds++[y]) (aQ G3 p (.lst (ds++[y]))) else P (k+1) ds G2) ∧
      ∀ ds G,P src.items.length ds G→∃ G0,Le G0 G∧R (.ref p) G0)
    (hRR:∀ Da C s5 H' G0,Inv X pins σ H' s5→aOQ X pins H' C s5.heap→Ts H H'→HR X.K H' G0→R (.ref Da) G0→RR (.ref Da) C (.ok .next) s5) :
    wpAny (model X.prog X.w) X.A (newList []) (fun acc s₃=>wpAny (model X.prog X.w) X.A (newFunctionEnv scope X.env.globals (a0O X.env.cells scope.names []) [] X.env.qual none .none (some X.env)) (fun cenv s₄ =>
      codeAny (model X.prog X.w) X.A (.compStart (.ListComp elt [⟨tgt,iter,ifs,0⟩] scope pos) 0 (.ref it) acc { cenv with scope:=relabel scope X.env }) (RR acc cenv.locals) s₄) X.xe s₃) X.xe s2:=by
  refine wpAny_newObj_type ?_
  have I3:=I2.aTE (its:=[]) (ys:=[]) (t':=s2.toks) .nil (by decide)
  have hD:H2 s2.heap.objs.size=none:=I2.fresh
  have kf:=a7R I3
  have gD:G1 s2.heap.objs.size=none:=tK g1 hD kf
  obtain ⟨P,p0,pok,pst,pend⟩:=body _ gD
  have ltD:∀ b∈fp,b < s2.heap.objs.size:=fun b hb=>by
    obtain ⟨o,e,_⟩:=T.obj 0 _ st2 b hb
    exact Heap.lt_size e
  have hsz3:(s2.heap.push { cls := .type "list",data := .seq ([]:List Value).toArray }).objs.size=s2.heap.objs.size+1:=Heap.size_push ..
  have hf3:∀ b∈fp,aiR X pins (upd H2 s2.heap.objs.size (.lst [])) b∧b < (s2.heap.push { cls := .type "list",data := .seq ([]:List Value).toArray }).objs.size:=fun b hb=>by
    obtain ⟨f0,fr⟩:=f2 b hb
    exact ⟨⟨by rw [eE (Nat.ne_of_lt (ltD b hb))];exact f0,fr⟩,by rw [hsz3];exact Nat.lt_succ_of_lt (ltD b hb)⟩
  refine wpAny_newFunctionEnv c.avV (by intro y hy;simp at hy) (fun h₁ hns₁ hsb₁=>?_) c.kind
  dsimp only at hns₁ hsb₁ ⊢
  generalize hH3:s2.heap.push { cls := .type "list",data := .seq ([]:List Value).toArray }=h3 at *
  generalize hDe:s2.heap.objs.size=Da at *
  have aL4:∀ b o,h3.get? b=some o→h₁.get? b=some o:=fun b o e=>hsb₁.extBut b o (Nat.ne_of_lt (Heap.lt_size e)) (Heap.get?_push_of_some _ e)
  show codeAny (model X.prog X.w) X.A (Code.compStart (elt.ListComp [{ target:=tgt,iter:=iter,ifs:=ifs,is_async:=0 }] scope pos) 0 (Value.ref it) (Value.ref Da) (compEnvC scope (a0O X.env.cells scope.names []) h3.objs.size X.env))
    (RR (.ref Da) h3.objs.size) { s2 with heap:=h₁,toks:=s2.toks+([]:List (Str×Value)).length }
  have J0:=aOP (tk:=s2.toks+([]:List (Str×Value)).length) I3 c rfl hf3 hns₁ aL4
  have st1:tn 0 h₁:=T.keep _ _ _ st2 fun b hb o e=>aL4 b o (by rw [← hH3];exact Heap.get?_push_of_some _ e)
  have g0:HR X.K (upd H2 Da (.lst [])) (aQ G1 Da (.lst [])):=g1.put (u := .lst []) hD ⟨[],aU,.nil⟩
  have ts0:Ts H2 (upd H2 Da (.lst [])) := .same (cR hD)
  have loop:∀ s₄:Shared,Inv (a3W X xs scope h3.objs.size { s2 with heap:=h3,toks:=s2.toks } (upd H2 Da (.lst [])) fp pins) [] (nn xs σ) (upd H2 Da (.lst [])) s₄→tn 0 s₄.heap →
      codeAny (model X.prog X.w) X.A (.compLoop (.ListComp elt [⟨tgt,iter,ifs,0⟩] scope pos) 0 (.ref it) (.ref Da) (compEnvC scope (a0O X.env.cells scope.names []) h3.objs.size X.env)) (RR (.ref Da) h3.objs.size) s₄:=by
    intro s₄ J4 st4
    refine aCF (fun n s'=>∃ i ds H' G',Inv (a3W X xs scope h3.objs.size { s2 with heap:=h3,toks:=s2.toks } (upd H2 Da (.lst [])) fp pins) [] (nn xs σ) H' s'∧tn i s'.heap∧(∀ b∈fp,H' b=none)∧HR X.K H' G'∧P i ds G'∧i≤src.items.length∧n=src.items.length - i∧Ts H2 H') (fun n s' hI=>?_) src.items.length
      ⟨0,[],_,_,J4,st4,fun b hb=>(hf3 b hb).1.1,g0,p0,Nat.zero_le _,by simp,ts0⟩
    obtain ⟨i,ds,H',G',J,st,fr,g',p,hi',rfl,ts⟩:=hI
    obtain ⟨ok,hDl,hdl⟩:=pok i ds G' hi' p
    obtain ⟨sgo,aZG,aUK⟩:=sj H' G' ts g' ok
    have fpX:∀ {H':Hp},(∀ b∈fp,H' b=none)→∀ b∈fp,aiR (a3W X xs scope h3.objs.size { s2 with heap:=h3,toks:=s2.toks } (upd H2 Da (.lst [])) fp pins) [] H' b:=fun hn b hb=>by
      obtain ⟨⟨f0,f1,f2',f3,f4,f5⟩,lt⟩:=hf3 b hb
      refine ⟨hn b hb,Nat.ne_of_lt lt,fun hs=>?_,.inl hb,fun y d e=>f4 y d (uK e fun _ h=>by simp at h),fun p' hp'=>f5 p' (by simpa using hp')⟩
      rcases apG I3 hs with z | z
      · exact f1 z
      · exact f2' z
    by_cases hlt:i < src.items.length
    · refine wpAny_mono (T.item (a3W X xs scope h3.objs.size { s2 with heap:=h3,toks:=s2.toks } (upd H2 Da (.lst [])) fp pins) rfl rfl rfl (fun h=>h) (fun _ h=>h) i [] s' (nn xs σ) H' (fun _ _=>False) J (fpX fr) st (sgo i hlt)) (fun r s5 ⟨u,hr,h5⟩=>?_) fun _ _ z=>z.elim
      subst hr
      obtain ⟨d0,ys,hd0,ey,aZI⟩:∃ d ys,src.items[i]?=some d∧dv d=some ys∧tc (ys.map some++ρ) G' fun b G2=>if b=true then te (ys.map some++ρ) G2 fun y G3=>G3 Da=some (.lst ds)∧P (i+1) (ds++[y]) (aQ G3 Da (.lst (ds++[y]))) else P (i+1) ds G2:=by
        have hd:src.items[i]?=some src.items[i]:=List.getElem?_eq_getElem hlt
        obtain ⟨ys,e,z⟩:=pst i _ ds G' hd p
        exact ⟨_,ys,hd,e,z⟩
      show wpAny _ _ (letOwnedTupleGo tgt (.ref it) u) _ _ s5
      refine wpAny_mono h5 (fun _ s6 ⟨vx,H6,I6,r6,y6,st6,fr6⟩=>?_) fun _ _ z=>z.elim
      obtain ⟨sm,d,hd,rd⟩:=aZG i vx H6 hlt y6
      have g':=g'.same sm
      have ts:=ts.trans (.same sm)
      obtain rfl:d0=d:=Option.some.inj (hd0.symm.trans hd)
      have I6':=I6.pinned (fpX fr6) (T.obj _ _ st6)
      refine wpAny_mono (hT _ _ _ _ _ _ _ s6 H6 vx u _ _ I6' r6 rd ey) (fun _ s7 ⟨vs,rvs,I7⟩=>?_) fun _ _ z=>z.elim
      have lv:vs.length=xs.length:=by rw [← rvs.length];exact hdv _ _ ey
      have aCG:∀ {s'':Shared} {σ'':St} {H'':Hp},Inv (a3W X xs scope h3.objs.size { s2 with heap:=h3,toks:=s2.toks } (upd H2 Da (.lst [])) fp pins) ([]++afJ fp s6.heap) σ'' H'' s''→tn (i+1) s''.heap∧∀ b∈fp,H'' b=none:=fun I''=>by
        refine ⟨T.keep _ _ _ st6 fun b hb o e=>(I''.pin (b,o) (List.mem_append_right _ (List.mem_append_right _ (a68 hb e)))).1,fun b hb=>?_⟩
        obtain ⟨o,e,_⟩:=T.obj _ _ st6 b hb
        exact (I''.pin (b,o) (List.mem_append_right _ (List.mem_append_right _ (a68 hb e)))).2.1
      have down:∀ {s'':Shared} {H'':Hp},Inv (a3W X xs scope h3.objs.size { s2 with heap:=h3,toks:=s2.toks } (upd H2 Da (.lst [])) fp pins) ([]++afJ fp s6.heap) (vs.map some++σ) H'' s''→Inv (a3W X xs scope h3.objs.size { s2 with heap:=h3,toks:=s2.toks } (upd H2 Da (.lst [])) fp pins) [] (nn xs σ) H'' s'':=fun I'' =>
        I''.adF.weak (by simp [nn,lv]) fun j v e=>by
          obtain ⟨j',rfl,e'⟩:=aCB e
          rw [← lv,show vs.length=(vs.map some).length by simp,axW]
          exact e'
      have sr7:SR X.K H6 (ys.map some++ρ) (vs.map some++σ):=aCE (sr.mono (t1.trans ts)) rvs
      refine wpAny_mono (hc _ _ _ _ _ _ s7 (vs.map some++σ) H6 (fun b H8=>Ts H6 H8∧∃ G8,HR X.K H8 G8∧(if b=true then te (ys.map some++ρ) G8 fun y G3=>G3 Da=some (.lst ds)∧P (i+1) (ds++[y]) (aQ G3 Da (.lst (ds++[y]))) else P (i+1) ds G8)) I7
        ⟨ys.map some++ρ,G',_,sr7,g',aZI,fun b H8 G8 t8 g8 q8=>⟨t8,G8,g8,q8⟩⟩) (fun b s8 ⟨H8,I8,t8,G8,g8,q8⟩=>?_) fun _ _ z=>z.elim
      cases b with
      | false =>
        rw [if_neg (by decide)]
        have q8':P (i+1) ds G8:=by simpa using q8
        obtain ⟨a1,a2⟩:=aCG I8
        exact ⟨src.items.length - (i+1),by omega,i+1,ds,H8,G8,down I8,a1,a2,g8,q8',hlt,rfl,ts.trans t8⟩
      | true =>
        rw [if_pos rfl]
        have q8':te (ys.map some++ρ) G8 fun y G3=>G3 Da=some (.lst ds)∧P (i+1) (ds++[y]) (aQ G3 Da (.lst (ds++[y]))):=by simpa using q8
        refine wpAny_mono (he _ _ _ _ _ _ s8 (vs.map some++σ) H8 (fun vy H9=>Ts H8 H9∧∃ y G9,RD X.K H9 y vy∧HR X.K H9 G9∧G9 Da=some (.lst ds)∧P (i+1) (ds++[y]) (aQ G9 Da (.lst (ds++[y])))) I8 ⟨ys.map some++ρ,G8,_,sr7.mono t8,g8,q8',fun vy H9 y G9 t9 r9 g9 q9=>⟨t9,y,G9,r9,g9,q9⟩⟩) (fun uy s9 ⟨vy,H9,I9,ry,t9,y,G9,ryd,g9,hG9,q9⟩=>?_) fun _ _ z=>z.elim
        obtain ⟨ws,hH9,rws⟩:=g9 Da _ hG9
        have aUM:ws.length < sizeLine:=by rw [← rws.length];omega
        refine wpAny_mono (anH (X:=a3W X xs scope h3.objs.size { s2 with heap:=h3,toks:=s2.toks } (upd H2 Da (.lst [])) fp pins) _ s9 (vs.map some++σ) H9 (.ref Da) [vy] (.ref Da) [uy] (fun _ H10=>H10=upd H9 Da (.lst (ws++[vy]))) I9 rfl (.cons ry .nil) ⟨Da,ws,vy,rfl,rfl,hH9,aUM,rfl⟩) (fun _ s10 ⟨_,H10,I10,_,e10⟩=>?_) fun _ _ z=>z.elim
        subst e10
        obtain ⟨a1,a2⟩:=aCG I10
        have tt:Ts H9 (upd H9 Da (.lst (ws++[vy]))) := .turn hH9 (fun _ z=>nomatch z) (fun _ _ z=>nomatch z)
        exact ⟨src.items.length - (i+1),by omega,i+1,ds++[y],_,_,down I10,a1,a2,g9.turn (u := .lst (ds++[y])) tt ⟨_,aU,(rws.append (.cons ryd .nil)).mono tt⟩,q9,hlt,rfl,((ts.trans t8).trans t9).trans tt⟩
    · have ein:i=src.items.length:=by omega
      subst ein
      refine wpAny_mono (T.done (a3W X xs scope h3.objs.size { s2 with heap:=h3,toks:=s2.toks } (upd H2 Da (.lst [])) fp pins) rfl rfl rfl (fun h=>h) (fun _ h=>h) _ [] s' (nn xs σ) H' (fun _ _=>False) J (fpX fr) st aUK) (fun r s5 ⟨hr,J5⟩=>?_) fun _ _ z=>z.elim
      subst hr
      obtain ⟨m5,hn5,_⟩:=id J5.loc
      obtain ⟨G0,l0,q0⟩:=pend ds G' p
      have I5:Inv X pins σ H' s5:=aH3 (tk:=s5.toks) I3 rfl hf3 J5 (Heap.SameBut.refl _ _)
      refine hRR Da _ s5 H' G0 I5 ⟨⟨m5,hn5⟩,J5.free,Nat.ne_of_gt I3.lt,I3.sz,fun y d e z=>?_,fun p hp z=>?_⟩ (t1.trans ts) (g'.le l0) q0
      · obtain ⟨w,o,ho,_⟩:=I3.cell y d e
        rw [z] at ho
        exact absurd (Heap.lt_size ho) (Nat.lt_irrefl _)
      · have:=(I3.pin p hp).1
        rw [z] at this
        exact absurd (Heap.lt_size this) (Nat.lt_irrefl _)
  exact codeAny_compStart_list (loop _ J0 st1) (T.self X.A 0 _ _ _ st1 (loop _ J0 st1))
def apH (dv:D→Option (List D)) (ti:TI3) (tc:TT3) (te:dZ):dZ:=fun ρ G R=>ti ρ G fun src G1=>src.items.length < sizeLine∧∀ p,G1 p=none→∃ P:Nat→List D→Gp→Prop,P 0 [] (aQ G1 p (.lst [])) ∧
  (∀ k ds G,k≤src.items.length→P k ds G→src.ok G∧G p=some (.lst ds)∧ds.length≤k) ∧
  (∀ k d ds G,src.items[k]?=some d→P k ds G→∃ ys,dv d=some ys∧tc (ys.map some++ρ) G fun b G2=>if b=true then te (ys.map some++ρ) G2 fun y G3=>G3 p=some (.lst ds)∧P (k+1) (ds++[y]) (aQ G3 p (.lst (ds++[y]))) else P (k+1) ds G2) ∧
  ∀ ds G,P src.items.length ds G→∃ G0,Le G0 G∧R (.ref p) G0
def azV (d:D):Option (List D):=some [d]
abbrev avW (ti:TI3) (tc:TT3) (te:dZ):dZ:=apH azV ti tc te
theorem aCH (d:D) (ds:List D) (h:azV d=some ds):ds.length=[x].length:=by
  unfold azV at h;cases h;rfl
theorem aCI {N:List Str} (c:ac5 X xs scope) (hnd:X.N.Nodup):(xs++X.N).Nodup:=List.nodup_append.mpr ⟨c.nd,hnd,fun a ha b hb e=>c.out a ha (e ▸ hb)⟩
theorem aOS (c:ac5 X [x] scope) (hnd:X.N.Nodup) {C:Addr} {s:Shared} {H:Hp} {fp:List Addr} {pins:List (Addr×Obj)} {σ:St}:aOR (a3W X [x] scope C s H fp pins) (.Name x px) [x] azV σ:=by
  intro adE s' H' v u d ds I r rd e
  unfold azV at e
  cases e
  have pgn:PG (a3W X [x] scope C s H fp pins) (.Name x px) (axH 0):=aoP (aCI (N:=X.N) c hnd) rfl (.inl (lookup_relabel_local (c.var x (by simp)))) (.inr (lookup_relabel_local (c.var x (by simp))))
  refine wpAny_mono (pgn adE s' (nn [x] σ) H' v u (fun σ' H2=>σ'=[v].map some++σ∧H2=H') I r ⟨rfl,rfl⟩) (fun _ s2 ⟨σ2,H2,I2,e2,e3⟩=>?_) fun _ _ z=>z
  subst e2;subst e3
  exact ⟨[v],.cons rd .nil,I2⟩
theorem aH6 (c:ac5 X xs scope) (hT:∀ C s H fp pins σ,aOR (a3W X xs scope C s H fp pins) tgt xs dv σ) (hdv:∀ d ds,dv d=some ds→ds.length=xs.length) (hi:PI3 X tgt iter ti) (hc:∀ C s H fp pins,aCD (a3W X xs scope C s H fp pins) ifs tc) (he:∀ C s H fp pins,gB (a3W X xs scope C s H fp pins) elt te)
    (hs:∀ y,foldedSetIterable iter X.env y=pure y):gB X (.ListComp elt [⟨tgt,iter,ifs,0⟩] scope pos) (apH dv ti tc te):=by
  intro pins s σ H Q I h
  obtain ⟨ρ,G,R,sr,g,q,kk⟩:=h
  rw [eval_ListComp]
  refine wpAny_comprehension_free (use:=none) rfl hs (afT fun y hy hf=>I.ok.has y.1 (c.frees y hy hf)) c.kind c.locs ?_
  refine jU (hi pins s σ H (fun J H1=>Ts H H1∧∃ src G1,HR X.K H1 G1∧avU X.K H1 src J∧(src.items.length < sizeLine∧∀ p,G1 p=none→∃ P:Nat→List D→Gp→Prop,P 0 [] (aQ G1 p (.lst [])) ∧
      (∀ k ds G,k≤src.items.length→P k ds G→src.ok G∧G p=some (.lst ds)∧ds.length≤k) ∧
      (∀ k d ds G,src.items[k]?=some d→P k ds G→∃ ys,dv d=some ys∧tc (ys.map some++ρ) G fun b G2=>if b=true then te (ys.map some++ρ) G2 fun y G3=>G3 p=some (.lst ds)∧P (k+1) (ds++[y]) (aQ G3 p (.lst (ds++[y]))) else P (k+1) ds G2) ∧
      ∀ ds G,P src.items.length ds G→∃ G0,Le G0 G∧R (.ref p) G0)) I ⟨ρ,G,_,sr,g,q,fun src J H' G' t1 g1 sj q1=>⟨t1,src,G',g1,sj,q1⟩⟩) fun v s1 h1=>jU h1 fun itv s2 ⟨it,fp,tn,J,H2,e,I2,T,st2,f2,t1,src,G1,g1,sj,hlen,body⟩=>?_
  subst e
  exact azU (RR:=fun acc C=>compPost (model X.prog X.w) X.A X.xe none (EP X pins σ Q) acc C) c hT hdv hc he sr I2 T st2 f2 t1 g1 sj hlen body fun Da C s5 H' G0 I5 o ts g0 q0=>by
    obtain ⟨m,hn⟩:=o.ns
    exact ⟨m,hn,fun h' hs'=>⟨.ref Da,H',o.turn I5 hs',rfl,kk _ H' _ G0 ts (.ref Da) g0 q0⟩⟩
end
end
section
abbrev TG3:=D→aW→(aW→Prop)→Prop
def upG (K:Fg) (t:TG3):TG:=fun v σ H Q=>∃ ρ d R,SR K H ρ σ∧RD K H d v∧t d ρ R∧∀ ρ' σ',SR K H ρ' σ'→R ρ'→Q σ' H
abbrev PG3 (X:Cx) (tg:Expr) (t:TG3):Prop:=PG X tg (upG X.K t)
def ac6 (i:Nat):TG3:=fun d ρ Q=>Q (a4S ρ i d)
def ahB:aW→List Nat→List D→aW
  | ρ,i :: is,d :: ds=>ahB (a4S ρ i d) is ds
  | ρ,_,_=>ρ
def asB (is:List Nat):TG3:=fun d ρ Q=>match d with
  | .tup ds=>ds.length=is.length∧Q (ahB ρ is ds)
  | _=>False
def aCK:St→List Nat→List V→St
  | σ,i :: is,v :: vs=>aCK (σ.set i (some v)) is vs
  | σ,_,_=>σ
theorem SR.sets {K:Fg} {H:Hp}:∀ {is:List Nat} {ds:List D} {vs:List V} {ρ:aW} {σ:St},iJ K H ds vs→SR K H ρ σ→SR K H (ahB ρ is ds) (aCK σ is vs)
  | [],_,_,_,_,_,s=>s
  | _ :: _,_,_,_,_,.nil,s=>s
  | i :: is,_,_,_,_,.cons h r,s=>SR.sets (is:=is) r (s.set h i)
section
variable {X:Cx}
theorem PG.imp {e:Expr} {t t':TG} (h:PG X e t) (k:∀ v σ H Q,t' v σ H Q→t v σ H Q):PG X e t':=fun pins s σ H v u Q I r q=>h pins s σ H v u Q I r (k _ _ _ _ q)
theorem aOT {i:Nat} {x:Str} {pos:Pos} (hN:X.N.Nodup) (hi:X.N[i]?=some x) (hx:Loc X.env.scope x) (hf:X.fn x=true∨X.env.scope.names.lookup x=some .local):PG3 X (.Name x pos) (ac6 i) :=
  PG.imp (aoP hN hi hx hf) fun v σ H Q h=>by
  obtain ⟨ρ,d,R,s,r,q,k⟩:=h
  exact k _ _ (s.set r i) q
structure aOU (X:Cx) (e:Expr) (i:Nat):Prop where
  ex:∃ x pos,e = .Name x pos∧X.N[i]?=some x∧Loc X.env.scope x∧(X.fn x=true∨X.env.scope.names.lookup x=some .local)
def aOV:List Nat→TGs
  | []=>aSP
  | i :: is=>aKV (axH i) (aOV is)
theorem axX:∀ {is:List Nat} {vs:List V} {σ:St} {H:Hp} {Q:St→Hp→Prop},vs.length=is.length→Q (aCK σ is vs) H→aOV is vs σ H Q
  | [],[],_,_,_,_,q=>⟨rfl,q⟩
  | [],_ :: _,_,_,_,h,_=>by simp at h
  | _ :: _,[],_,_,_,h,_=>by simp at h
  | i :: is,v :: vs,σ,H,Q,h,q=>⟨v,vs,rfl,axX (is:=is) (by simpa using h) q⟩
theorem anS (hN:X.N.Nodup):∀ {es:List Expr} {is:List Nat},Two (aOU X) es is→PGs X es (aOV is)∧(assignEach es X.env).length=is.length∧(assignEach es X.env).findIdx? (·.1)=none
  | _,_,.nil=>⟨aFT,rfl,rfl⟩
  | _,_,.cons (a:=e) (b:=i) h r=>by
    obtain ⟨x,pos,rfl,h1,h2,h3⟩:=h.ex
    obtain ⟨a1,a2,a3⟩:=anS hN r
    refine ⟨aBC (aoP hN h1 h2 h3) a1 rfl,?_,?_⟩
    · show (assignEach _ X.env).length+1=_
      rw [a2];rfl
    · show ((false,assign (.Name x pos) X.env) :: assignEach _ X.env).findIdx? (·.1)=none
      rw [List.findIdx?_cons]
      simp [a3]
theorem aUN {es:List Expr} {is:List Nat} {k:Nat} {pos:Pos} (hN:X.N.Nodup) (hc:X.calm=true) (h:Two (aOU X) es is):PG3 X (.Tuple es k pos) (asB is):=by
  obtain ⟨a1,a2,a3⟩:=anS hN h
  refine PG.imp (aMN hc a1 a2 a3) fun v σ H Q h=>?_
  obtain ⟨ρ,d,R,s,r,q,k⟩:=h
  cases r with
  | @tup a vs ds hq rv =>
    have q':ds.length=is.length∧R (ahB ρ is ds):=q
    exact ⟨a,vs,rfl,hq,by rw [← rv.length];exact q'.1,axX (by rw [← rv.length];exact q'.1) (k _ _ (SR.sets rv s) q'.2)⟩
  | _=>exact False.elim q
def aH7 (K:Fg) (src:Src) (J:It):Prop:=∀ H2 G2,HR K H2 G2→src.ok G2 →
  (∀ i,i < src.items.length→J.go i H2)∧(∀ i v H',i < src.items.length→J.yld i H2 v H'→Same H2 H'∧∃ d,src.items[i]?=some d∧RD K H' d v)∧J.stop src.items.length H2
def aZL (K:Fg) (t:TI3):TI:=fun σ H Q=>∃ ρ G R,SR K H ρ σ∧HR K H G∧t ρ G R∧∀ src J H' G',Ts H H'→HR K H' G'→aH7 K src J→R src G'→Q J H'
abbrev PIS (X:Cx) (tg iter:Expr) (t:TI3):Prop:=PI X tg iter (aZL X.K t)
def aCL (te:dZ):TI3:=fun ρ G R=>te ρ G fun x G1=>match x with
  | .ref p=>(match cH G1 p with
    | some xs=>R (.lst p xs) G1
    | none=>False)
  | .str z=>R (.imm (signs z)) G1
  | _=>False
theorem azW {K:Fg} {p:Addr} {xs:List D}:aH7 K (.lst p xs) (Itl K p):=fun H2 G2 g ok=>anR (H1:=H2) H2 G2 (.refl _) g ok
theorem asC {K:Fg} {z:Str}:aH7 K (.imm (signs z)) (Its z):=fun H2 G2 g ok=>ak5 (H1:=H2) H2 G2 (.refl _) g ok
theorem aCM {K:Fg} {lo:Int} {n:Nat}:aH7 K (.imm ((List.range n).map fun (i:Nat) => .int (lo+(i:Int)))) (Itr lo n):=fun H2 G2 g ok=>asA (H1:=H2) H2 G2 (.refl _) g ok
theorem aOW {tg l:Expr} {te:dZ} (hl:gB X l te):PIS X tg l (aCL te):=by
  intro pins s σ H R I h
  obtain ⟨ρ,G,R3,sr,g,q,k⟩:=h
  refine jU (hl pins s σ H (fun v H1=>Ts H H1∧∃ x G1,RD X.K H1 x v∧HR X.K H1 G1∧(match x with
    | .ref p=>(match cH G1 p with
      | some xs=>R3 (.lst p xs) G1
      | none=>False)
    | .str z=>R3 (.imm (signs z)) G1
    | _=>False)) I ⟨ρ,G,_,sr,g,q,fun v H1 x G1 t1 r g1 q1=>⟨t1,x,G1,r,g1,q1⟩⟩) fun v s1 ⟨x,H1,I1,r1,t1,d,G1,rd,g1,q1⟩=>?_
  cases rd with
  | ref a =>
    have q1':(match cH G1 a with
      | some xs=>R3 (.lst a xs) G1
      | none=>False):=q1
    split at q1'
    · rename_i xs e
      cases r1
      obtain ⟨vs,hq,rv⟩:=gW g1 e
      obtain ⟨its,rv',p,hz⟩:=I1.list hq
      refine wpAny_pyIter_list p.isList ?_
      refine ⟨s1.heap.objs.size,[s1.heap.objs.size],_,_,H1,rfl,I1.kept (t':=s1.toks) fun b o e=>Heap.get?_push_of_some _ e,an9 a _,⟨_,Heap.get?_push_size _ rfl,rfl,rfl⟩,fun b hb=>?_,k _ _ H1 G1 t1 g1 azW q1'⟩
      have e:b=s1.heap.objs.size:=by simpa using hb
      subst e
      exact I1.arK (Nat.le_refl _) (I1.hok.fresh (Nat.le_refl _))
    · exact q1'.elim
  | str z =>
    obtain ⟨t,rfl⟩:=r1
    cases ha:z.cps.all (· < 128)
    · refine wpAny_pyIter_wide ha ?_
      refine ⟨s1.heap.objs.size,[s1.heap.objs.size],_,_,H1,rfl,I1.kept (t':=s1.toks) fun b o e=>Heap.get?_push_of_some _ e,anQ _ z t,?_,fun b hb=>?_,k _ _ H1 G1 t1 g1 asC q1⟩
      · rw [Nat.zero_min];exact ⟨_,Heap.get?_push_size _ rfl,rfl,rfl⟩
      · have e:b=s1.heap.objs.size:=by simpa using hb
        subst e
        exact I1.arK (Nat.le_refl _) (I1.hok.fresh (Nat.le_refl _))
    · refine wpAny_pyIter_ascii ha ?_
      refine ⟨s1.heap.objs.size,[s1.heap.objs.size],_,_,H1,rfl,I1.kept (t':=s1.toks) fun b o e=>Heap.get?_push_of_some _ e,anP _ z t,?_,fun b hb=>?_,k _ _ H1 G1 t1 g1 asC q1⟩
      · rw [Nat.zero_min];exact ⟨_,Heap.get?_push_size _ rfl,rfl,rfl⟩
      · have e:b=s1.heap.objs.size:=by simpa using hb
        subst e
        exact I1.arK (Nat.le_refl _) (I1.hok.fresh (Nat.le_refl _))
  | _=>exact q1.elim
theorem aH8 {tg a:Expr} {ta:TA3} {p pos:Pos} (hg:Gl X "range") (hm:X.mg "range" = none) (ha:PA3 X [a] ta) (hs:starEach [a] X.env=[(false,eval a X.env)]):PIS X tg (.Call (.Name "range" p) [a] [] pos) (ac4 ta) :=
  PI.imp (anA hg hm ha hs) fun σ H Q h=>by
  obtain ⟨ρ,G,R,s,g,q,k⟩:=h
  refine ⟨ρ,G,_,s,g,q,fun vs H1 ds G1 t1 r g1 h1=>?_⟩
  cases r with
  | nil=>exact h1.elim
  | cons r rr =>
    cases rr with
    | cons _ _=>cases r <;> exact False.elim h1
    | nil =>
      cases r with
      | int j =>
        obtain ⟨l1,l2,h1⟩:=h1
        refine ⟨j,rfl,l1,l2,k _ _ H1 G1 t1 g1 ?_ h1⟩
        unfold afS
        rw [show (j - 0).toNat=j.toNat by omega]
        exact aCM
      | _=>exact False.elim h1
def ac7 (ti:TI3) (tg:TG3) (tb:bU):bU:=fun F ρ G=>ti ρ G fun src G1=>∃ P:Nat→aW→Gp→Prop,P 0 ρ G1∧(∀ k ρ G,k≤src.items.length→P k ρ G→src.ok G) ∧
  (∀ k d ρ G,src.items[k]?=some d→P k ρ G→tg d ρ fun ρ2=>tb { F with nx:=P (k+1),ct:=P (k+1),bk:=F.nx } ρ2 G)∧∀ ρ G,P src.items.length ρ G→F.nx ρ G
theorem aOX {tgt iter:Expr} {body:List Stmt} {ti:TI3} {tg:TG3} {tb:bU} {pos:Pos} (hp:PassesOwn (model X.prog X.w) X.A X.env X.xe) (hi:PIS X tgt iter ti) (hg:PG3 X tgt tg) (hb:aiT X body tb)
    (hs:∀ x,foldedSetIterable iter X.env x=pure x):PS3 X (.For tgt iter body [] pos) (ac7 ti tg tb):=PS.imp (aMR hp hi hg hb hs) fun F σ H h=>by
  obtain ⟨ρ,G,E,s,g,q,d⟩:=h
  refine ⟨ρ,G,fun src G1=>∃ P:Nat→aW→Gp→Prop,P 0 ρ G1∧(∀ k ρ G,k≤src.items.length→P k ρ G→src.ok G) ∧
    (∀ k d ρ G,src.items[k]?=some d→P k ρ G→tg d ρ fun ρ2=>tb { E with nx:=P (k+1),ct:=P (k+1),bk:=E.nx } ρ2 G)∧∀ ρ G,P src.items.length ρ G→E.nx ρ G,s,g,q,fun src J H1 G1 t1 g1 sj ⟨P,p0,pok,pst,pend⟩=>?_⟩
  refine aC0 (K:=X.K) (n:=src.items.length) (fun k σ2 H2=>∃ ρ' G',SR X.K H2 ρ' σ2∧HR X.K H2 G'∧P k ρ' G') ⟨ρ,G1,s.mono t1,g1,p0⟩ (fun σ2 H2 ⟨ρ',G',s2,g2,p⟩=>?_) (fun k σ2 H2 hk ⟨ρ',G',s2,g2,p⟩=>?_) (fun k y σ2 H2 H3 hk ⟨ρ',G',s2,g2,p⟩ hy=>?_)
    (fun σ2 H2 ⟨ρ',G',s2,g2,p⟩=>d.nx ρ' G' σ2 H2 s2 g2 (pend ρ' G' p))
  · exact (sj H2 G' g2 (pok _ ρ' G' (Nat.le_refl _) p)).2.2
  · exact (sj H2 G' g2 (pok _ ρ' G' (Nat.le_of_lt hk) p)).1 k hk
  · obtain ⟨sm,dk,e1,e2⟩:=(sj H2 G' g2 (pok _ ρ' G' (Nat.le_of_lt hk) p)).2.1 k y H3 hk hy
    refine ⟨ρ',dk,_,s2.mono (.same sm),e2,pst k dk ρ' G' e1 p,fun ρ2 σ3 s3 q3=>?_⟩
    exact ⟨ρ2,G',_,s3,g2.same sm,q3,⟨fun ρ4 G4 σ4 H4 s4 g4 q4=>⟨ρ4,G4,s4,g4,q4⟩,d.rt,d.nx,fun ρ4 G4 σ4 H4 s4 g4 q4=>⟨ρ4,G4,s4,g4,q4⟩⟩⟩
end
end
section
def aCN:D→Bool
  | .bl _=>true
  | _=>false
def aCO:D→Bool
  | .bl b=>b
  | _=>false
def trN (ds:List D) (i:Nat):Bool:=match ds[i]? with
  | some d=>aCO d
  | none=>false
section
variable {X:Cx}
theorem azX {K:Fg} {H:Hp} {ds:List D} {vs:List V} {us:List Value} (r:iJ K H ds vs) (v:Vals vs us) (hb:ds.all aCN=true) {i:Nat} {u:Value} (e:us[i]?=some u):u = .bool (trN ds i):=by
  obtain ⟨d,x,h1,h2,h3⟩:=Vals.aC4 r v e
  have hd:aCN d=true:=List.all_eq_true.mp hb d (List.mem_of_getElem? h1)
  unfold trN
  rw [h1]
  cases h2 with
  | bl b=>exact h3
  | _=>cases hd
def on2 (xs:List D) (f:Int→Int→Prop):Prop:=match xs with
  | [.int i,.int j]=>f i j
  | _=>False
def aUO:List D→Gp→pX→Prop:=fun xs G R=>on2 xs fun i j=>R (.int (if j < i then j else i)) G
def aUP:List D→Gp→pX→Prop:=fun xs G R=>on2 xs fun i j=>R (.int (if i < j then j else i)) G
end
end
section
def onN (x:D) (f:Int→Prop):Prop:=match x with
  | .int k=>f k
  | _=>False
section
variable {X:Cx} {pos:Pos}
def aOZ (is:List Nat) (te:dZ):bU:=fun F ρ G=>te ρ G fun d G1=>asB is d ρ fun ρ2=>F.nx ρ2 G1
def aUR (i:Nat) (f:Int→Int→Int) (te:dZ):bU:=fun F ρ G=>aB i ρ G fun x G0=>onN x fun a=>te ρ G0 fun y G1=>onN y fun b=>F.nx (a4S ρ i (.int (f a b))) G1
end
theorem ints_of {K:Fg} {H:Hp}:∀ {ns:List Int} {vs:List V} {us:List Value},iJ K H (ns.map D.int) vs→Vals vs us→∃ ys:List (Int×Tok),us=ys.map (fun p=>Value.int p.1 p.2)∧ys.map (·.1)=ns
  | [],_,_,r,v=>by cases r;cases v;exact ⟨[],rfl,rfl⟩
  | n :: ns,_,_,r,v=>by
    cases r with
    | cons h r =>
      cases h with
      | int i =>
        cases v with
        | cons hu v =>
          obtain ⟨t,rfl⟩:=hu
          obtain ⟨ys,e1,e2⟩:=ints_of r v
          exact ⟨(n,t) :: ys,by rw [e1];rfl,by rw [List.map_cons,e2]⟩
def aH9 (xs:List D) (G:Gp) (P:List D→Prop) (O:Prop):Prop:=match xs with
  | [.ref q]=>(match cH G q with
    | some ds=>P ds
    | none=>False)
  | _=>O
def aL5:List D→Gp→pX→Prop:=fun xs G R=>aH9 xs G (fun ds=>∃ ns:List Int,ds=ns.map D.int∧R (.int ns.sum) G) False
section
variable {X:Cx}
theorem aZM {H:Hp} {xs:List D} {vs:List V} {us:List Value} {P:List D→Prop} {O:Prop} {pins:List (Addr×Obj)} {s:Shared} {σ:St} {G:Gp} (I:Inv X pins σ H s) (rx:iJ X.K H xs vs) (rv:Vals vs us) (g:HR X.K H G)
    (h:aH9 xs G P O):(∃ a ds ys its,us=[.ref a]∧iJ X.K H ds ys∧Vals ys its∧s.heap.IsList a its.toArray∧P ds)∨O:=by
  cases rx with
  | nil=>exact .inr h
  | cons r1 rr =>
    cases rr with
    | cons _ _=>cases r1 <;> exact .inr h
    | nil =>
      cases r1 with
      | ref a =>
        obtain ⟨u,rfl,ru⟩:=vals1 rv
        cases ru
        have q':(match cH G a with
          | some ds=>P ds
          | none=>False):=h
        split at q'
        · rename_i ds e1
          obtain ⟨ys,hq,r1⟩:=gW g e1
          obtain ⟨its,rv',p,hz⟩:=I.list hq
          exact .inl ⟨a,ds,ys,its,rfl,r1,rv',p.isList,q'⟩
        · exact q'.elim
      | _=>exact .inr h
theorem int_list {s:Shared} {a:Addr} {zs:List (Int×Tok)} (p:s.heap.IsList a (zs.map fun p=>Value.int p.1 p.2).toArray):s.heap.IsList a (intItems zs.toArray):=by
  have:intItems zs.toArray=(zs.map fun p=>Value.int p.1 p.2).toArray:=by simp [intItems]
  rw [this];exact p
theorem aUS (hc:X.calm=true):mL X (.builtin "sum") aL5:=by
  intro pins s σ H xs vs us G R Q I rx rv g q k
  rcases aZM I rx rv g q with ⟨a,ds,ys,its,rfl,r1,rv',p,ns,rfl,q'⟩ | z
  · obtain ⟨zs,rfl,e2⟩:=ints_of r1 rv'
    refine sum_intListG (I.ok.hd hc) (int_list p) fun h' tk t' kk=>?_
    have e3:preSum (numAt zs.toArray) zs.toArray.size=ns.sum:=by
      rw [preSum_eq,List.take_of_length_le (by simp)]
      rw [← e2]
    rw [e3]
    exact ⟨.int _,H,I.kept kk,⟨t',rfl⟩,k _ H _ G (.refl H) (.int _) g q'⟩
  · exact z.elim
def aP0:List D→Gp→pX→Prop:=fun xs G R=>aH9 xs G (fun ds=>∃ ns:List Int,ds=ns.map D.int∧ns≠[]∧∀ M,M∈ns→(∀ a∈ns,a≤M)→R (.int M) G) (aUP xs G R)
def aP1:List D→Gp→pX→Prop:=fun xs G R=>aH9 xs G (fun ds=>∃ ns:List Int,ds=ns.map D.int∧ns≠[]∧∀ M,M∈ns→(∀ a∈ns,M≤a)→R (.int M) G) (aUO xs G R)
end
end
section
def ok2 (G:Gp) (x y:D):Bool:=match x,y with
  | .ref p,.ref q=>(match cH G p,cH G q with
    | some xs,some ys=>xs.all (aR 17)&&ys.all (aR 17)
    | _,_=>false)
  | x,y=>aR 18 x&&aR 18 y
def eq2 (G:Gp) (x y:D):Bool:=match x,y with
  | .ref p,.ref q=>(match cH G p,cH G q with
    | some xs,some ys=>wC xs ys
    | _,_=>false)
  | x,y=>eqP x y
def aCP (G:Gp):List D→List D→Bool
  | x :: xs,y :: ys=>ok2 G x y&&aCP G xs ys
  | _,_=>true
def aCQ (G:Gp):List D→List D→Bool
  | [],[]=>true
  | x :: xs,y :: ys=>eq2 G x y&&aCQ G xs ys
  | _,_=>false
section
variable {X:Cx}
def aUT (G:Gp) (x y:D) (k:Bool→Prop):Prop:=match x,y with
  | .tup xs,.tup ys=>aCP G xs ys=true∧k (aCQ G xs ys)
  | .ref a,.ref b=>(match cH G a,cH G b with
    | some xs,some ys=>aCP G xs ys=true∧k (aCQ G xs ys)
    | _,_=>False)
  | _,_=>False
def aL6:R3:=fun x y G R=>aUT G x y fun b=>R (.bl b) G
def aL7:R3:=fun x y G R=>aUT G x y fun b=>R (.bl (!b)) G
def aCR (x:D) (G:Gp) (f:Addr→List D→Prop):Prop:=match x with
  | .ref p=>(match G p with
    | some (.lst ds)=>f p ds
    | _=>False)
  | _=>False
theorem aCS {K:Fg} {H:Hp} {x:D} {vx:V} {G:Gp} {f:Addr→List D→Prop} (rx:RD K H x vx) (g:HR K H G) (h:aCR x G f):∃ p ds xs,x = .ref p∧vx = .ref p∧G p=some (.lst ds)∧H p=some (.lst xs)∧iJ K H ds xs∧f p ds:=by
  unfold aCR at h
  split at h
  · rename_i p
    split at h
    · rename_i ds e
      cases rx
      obtain ⟨xs,e1,r⟩:=g p _ e
      exact ⟨p,ds,xs,rfl,rfl,e,e1,r,h⟩
    · exact h.elim
  · exact h.elim
def aL8:RM3:=fun x xs G R=>match xs with
  | []=>aCR x G fun p ds=>match ds[ds.length - 1]? with
    | some d=>R d (aQ G p (.lst ds.dropLast))
    | none=>False
  | _=>False
theorem adO {K:Fg} {H:Hp}:∀ {ds:List D} {xs:List V},iJ K H ds xs→iJ K H ds.dropLast xs.dropLast
  | _,_,.nil => .nil
  | _,_,.cons h .nil => .nil
  | _,_,.cons h (.cons h' r) => .cons h (adO (.cons h' r))
theorem aL9:aiV X "list.pop" aL8:=aiV.of aNK fun H x xs vx vs G R Q rx rs g q k=>by
  cases rs with
  | cons _ _=>exact False.elim q
  | nil =>
    obtain ⟨p,ds,ys,rfl,rfl,e,e1,r,q'⟩:=aCS rx g q
    split at q'
    · rename_i d ed
      obtain ⟨v,ev,rv⟩:=r.get ed
      have hl:ds.length=ys.length:=r.length
      refine ⟨p,ys,v,rfl,rfl,e1,by rw [← hl];exact ev,fun _=>?_⟩
      have tt:Ts H (upd H p (.lst ys.dropLast)) := .turn e1 (fun _ z=>nomatch z) (fun _ _ z=>nomatch z)
      exact k _ _ _ _ tt (rv.mono tt) (g.turn (u := .lst ds.dropLast) tt ⟨_,aU,(adO r).mono tt⟩) q'
    · exact q'.elim
end
end
section
section
variable {X:Cx} {C:Addr} {bmB bmN:List Value} {B Bn newId nid initId inN:String} {x:Str} {np cpos:Pos} {e:Expr} {es:List Expr} {t:TA3}
def axY (C:Addr) (t:TA3):dZ:=fun ρ G R=>t ρ G fun ds G1=>ds.length≤sizeLine∧∀ x,G1 x=none→R (.ref x) (aQ G1 x (.exn C))
theorem aCT {pins:List (Addr×Obj)} {σ:St} {H:Hp} {s:Shared} {h':Heap} {x:Addr} {us:List Value} (I:Inv X pins σ H s) (hm:Heap.MadeExcOf s.heap h' x (.ref C) us) :
    ∃ o vs,H x=none∧Inv X pins σ (upd H x (.frz o (.ext (abL C x)))) { s with heap:=h' }∧o.data = .fields vs∧vs[2]?=some .none:=by
  obtain ⟨t,e1,_,_⟩:=hm.there
  have nxH:H x=none:=arZ I.hok hm.new
  refine ⟨{ cls := .ref C,data := .fields #[.ref t,.none,.none,.none,.bool false,.none] },#[.ref t,.none,.none,.none,.bool false,.none],nxH,?_,rfl,rfl⟩
  generalize ho:({ cls := .ref C,data := .fields #[.ref t,.none,.none,.none,.bool false,.none] }:Obj)=o at e1
  have sn:Same H (upd H x (.frz o (.ext (abL C x)))):=cR nxH
  have nst:∀ b u,s.heap.get? b=some u→b≠x:=fun b u e z=>by subst z;rw [hm.new] at e;cases e
  refine I.call' (ch:=[]) (s':={ s with heap:=h' }) rfl ⟨fun b u e n _ _=>hm.keeps b u e,fun b u e n _ _=>⟨u.slots,hm.keeps b u e⟩,fun b u e n _=>by rw [eE (nst b u e)];exact n,fun b u e _=>⟨u,hm.keeps b u e⟩,fun b xs z=>sn _ _ z,fun b u v z=>sn _ _ z,fun b ps z=>⟨#[],by rw [Array.append_empty];exact sn _ _ z⟩⟩ (fun b u e=>?_) I.bare fun b z=>absurd z (by simp)
  by_cases hb:b=x
  · subst hb
    rw [aU] at e;cases e
    exact ⟨e1,⟨o,_,e1,by rw [← ho],by rw [← ho]⟩,⟨o,e1⟩,fun h1 h2 ⟨o1,w1,e1,e2,e3⟩ k=>⟨o1,w1,k _ e1,e2,e3⟩⟩
  · rw [eE hb] at e
    exact ((I.hok.kept hm.keeps) b u e).stay (fun _ _ _ z=>z) (fun c z=>sn _ _ z) fun c xs z=>sn _ _ z
theorem asD {pins:List (Addr×Obj)} {σ:St} {H:Hp} {s:Shared} {us:List Value} {G:Gp} {R:pX} {Q:VK} (Fn:ExcBaseFacts Bn newId inN bmN) (hBn:bmB.contains (.type Bn)=true) (FB:ExcBaseFacts B nid initId bmB) (hq:PySem.W.excIn X.K C bmB newId=true) (I:Inv X pins σ H s) (g:HR X.K H G) (hl:us.length≤sizeLine) (q:∀ x,G x=none→R (.ref x) (aQ G x (.exn C)))
    (k:∀ v H' d G',Ts H H'→RD X.K H' d v→HR X.K H' G'→R d G'→Q v H'):wpAny (model X.prog X.w) X.A (call (.ref C) us) (EP X pins σ Q) X.xe s:=by
  obtain ⟨tl,N,nm,q',bs,hdct,sn,sub,ab,col,dd',k0,k1,k2,k3,k5,mN,hC,hN,hni,T⟩:=ajI I.mod.kin hq
  obtain ⟨h,g0,d0,t0,os0⟩:=s
  refine wpAny_call_exc_subU (hrest:=hl) Fn hBn FB (T.keeps I.bk) (I.bk _ _ hC) (hN.keeps I.bk) hni fun h' x hm=>?_
  obtain ⟨o,vs,nx,J,d1,d2⟩:=aCT I hm
  have sn:Same H (upd H x (.frz o (.ext (abL C x)))):=cR nx
  exact ⟨.ref x,_,J,rfl,k _ _ _ _ (.same sn) (.ref x) (g.put (u := .exn C) nx ⟨o,vs,aU,d1,d2⟩) (q x (tK (K:=X.K) g nx (a7R (X:=X) J)))⟩
theorem aUU (Fn:ExcBaseFacts Bn newId inN bmN) (hBn:bmB.contains (.type Bn)=true) (FB:ExcBaseFacts B nid initId bmB) (hg:Gl X x) (hm:X.mg x=some (.ref C)) (hq:PySem.W.excIn X.K C bmB newId=true) (ha:PA3 X (e :: es) t) (hd:(x == ("__debug__" : Str))=false)
    (he:starEach (e :: es) X.env=(false,eval e X.env) :: starEach es X.env) (hpl:(backTo cpos (starEach es X.env)).any (·.1)=false):gB X (.Call (.Name x np) (e :: es) [] cpos) (axY C t):=by
  intro pins s σ H Q I h
  obtain ⟨ρ,G,R,sr,g,q,kk⟩:=h
  obtain ⟨tl,N,nm,q',bs,hdct,sn,sub,ab,col,dd',k0,k1,k2,k3,k5,mN,hC,hN,hni,T⟩:=ajI I.mod.kin hq
  refine wpAny_Call_ofName (a04 I hg hm ?_ hd)
  unfold callWith
  have hA:=ha cpos pins s σ H (fun vs H1=>Ts H H1∧∃ ds G1,iJ X.K H1 ds vs∧HR X.K H1 G1∧ds.length≤sizeLine∧∀ x,G1 x=none→R (.ref x) (aQ G1 x (.exn C))) I ⟨ρ,G,_,sr,g,q,fun vs H1 ds G1 t1 r1 g1 q1=>⟨t1,ds,G1,r1,g1,q1.1,q1.2⟩⟩
  have hp2:(backTo cpos (starEach (e :: es) X.env)).any (·.1)=false:=by rw [he];show (false || (backTo cpos (starEach es X.env)).any (·.1))=false;rw [hpl];rfl
  rw [he] at hA hp2 ⊢
  refine wpAny_bind (wpAny_holding (Calls.evalArgs_plain (jU hA fun us s2 ⟨vs,H2,I2,r2,t1,ds,G1,r1,g1,hl,q1⟩=>wpAny_bind (wpAny_standAt ?_))))
  have hl2:us.length≤sizeLine:=by rw [← r2.length,← r1.length];exact hl
  simp only [hp2]
  obtain ⟨h0,g0,d0,t0,os0⟩:=s2
  refine wpAny_bind (wpAny_keeperOf_exc (I2.bk _ _ hC) ?_)
  refine wpAny_bind (jU (asD Fn hBn FB hq I2 g1 hl2 q1 fun v H' d G' t3=>kk v H' d G' (t1.trans t3)) fun v s3 q3=>wpAny_bind (wpAny_holding (wpAny_point (wpAny_pure q3))))
theorem aP2 (Fn:ExcBaseFacts Bn newId inN bmN) (hBn:bmB.contains (.type Bn)=true) (FB:ExcBaseFacts B nid initId bmB) (hg:Gl X x) (hm:X.mg x=some (.ref C)) (hq:PySem.W.excIn X.K C bmB newId=true) (hd:(x == ("__debug__" : Str))=false):gB X (.Call (.Name x np) [] [] cpos) (axY C aH):=by
  intro pins s σ H Q I h
  obtain ⟨ρ,G,R,sr,g,⟨hl,q⟩,kk⟩:=h
  obtain ⟨tl,N,nm,q',bs,hdct,sn,sub,ab,col,dd',k0,k1,k2,k3,k5,mN,hC,hN,hni,T⟩:=ajI I.mod.kin hq
  refine wpAny_Call_ofName (a04 I hg hm ?_ hd)
  unfold callWith
  refine wpAny_bind (wpAny_holding (PySem.evalArgs_none (wpAny_bind (wpAny_standAt ?_))))
  obtain ⟨h0,g0,d0,t0,os0⟩:=s
  refine wpAny_bind (wpAny_keeperOf_exc (I.bk _ _ hC) ?_)
  refine wpAny_bind (jU (asD (us:=[]) Fn hBn FB hq I g (Nat.zero_le _) q kk) fun v s3 q3=>wpAny_bind (wpAny_holding (wpAny_point (wpAny_pure q3))))
end
end
section
def aCU (C:Addr) (f:Str) (x:D) (G:Gp) (R:pX):Prop:=match x with
  | .ref a=>(match G a with
    | some (.ins C' fs)=>C'=C∧(match fs.lookup f with
      | some d=>R d G
      | none=>False)
    | _=>False)
  | _=>False
def rW (C:Addr) (ta:dZ) (f:Str):dZ:=fun ρ G R=>ta ρ G fun x G1=>aCU C f x G1 R
theorem ak7 {K:Fg} {H:Hp} {f:Str}:∀ {fs:List (Str×D)} {vs:List (Str×V)} {d:D},Two (fun p q=>p.1=q.1∧RD K H p.2 q.2) fs vs→fs.lookup f=some d→∃ v,vs.lookup f=some v∧RD K H d v
  | _,_,_,.nil,e=>by cases e
  | (g,x) :: fs,(g',y) :: vs,d,.cons h r,e=>by
    obtain ⟨rfl,h2⟩:=h
    unfold List.lookup at e ⊢
    split at e
    · rename_i q
      rw [q]
      cases e
      exact ⟨y,rfl,h2⟩
    · rename_i q
      rw [q]
      exact ak7 r e
def asF (f:Str) (d:D):List (Str×D)→List (Str×D)
  | []=>[(f,d)]
  | (g,x) :: r=>if g=f then (g,d) :: r else (g,x) :: asF f d r
theorem axZ {K:Fg} {H:Hp} {f:Str} {d:D} {v:V} (h:RD K H d v):∀ {fs:List (Str×D)} {vs:List (Str×V)},Two (fun p q=>p.1=q.1∧RD K H p.2 q.2) fs vs→Two (fun p q=>p.1=q.1∧RD K H p.2 q.2) (asF f d fs) (a69 f v vs)
  | _,_,.nil => .cons ⟨rfl,h⟩ .nil
  | (g,x) :: fs,(g',y) :: vs,.cons q r=>by
    obtain ⟨rfl,q2⟩:=q
    unfold asF a69
    by_cases c:g=f
    · rw [if_pos c,if_pos c]
      exact .cons ⟨rfl,h⟩ r
    · rw [if_neg c,if_neg c]
      exact .cons ⟨rfl,q2⟩ (axZ h r)
section
variable {X:Cx} {o e value:Expr} {f:Str} {C:Addr} {pos pos':Pos} {ta tv:dZ}
theorem aUV (he:gB X e ta) (c:Cls X.K C) (n:wB X.K C f) (hb:attributeBase e f X.env (eval e X.env)=eval e X.env):gB X (.Attribute e f pos) (rW C ta f):=by
  refine PE.imp (aN2 he hb) fun σ H Q h=>?_
  obtain ⟨ρ,G,R,s,g,t,k⟩:=h
  refine ⟨ρ,G,_,s,g,t,fun v H1 x G1 t1 rx g1 t'=>?_⟩
  unfold aCU at t'
  split at t'
  · rename_i a
    split at t'
    · rename_i C' fs e1
      obtain ⟨rfl,t'⟩:=t'
      split at t'
      · rename_i d e2
        obtain ⟨dx,vs,e3,r⟩:=g1 a _ e1
        obtain ⟨w,e4,rw⟩:=ak7 r e2
        cases rx
        exact ⟨a,_,dx,vs,w,rfl,e3,c,n,e4,k w H1 d G1 t1 rw g1 t'⟩
      · exact t'.elim
    · exact t'.elim
  · exact t'.elim
def asG (C:Addr) (f:Str) (x y:D) (F:nA) (ρ:aW) (G:Gp):Prop:=match x with
  | .ref a=>(match G a with
    | some (.ins C' fs)=>C'=C∧fs.length < 1000∧F.nx ρ (aQ G a (.ins C (asF f y fs)))
    | _=>False)
  | _=>False
def afV (C:Addr) (ta tv:dZ) (f:Str):bU:=fun F ρ G=>tv ρ G fun y G1=>ta ρ G1 fun x G2=>asG C f x y F ρ G2
theorem aP3 (ha:gB X o ta) (hv:gB X value tv) (c:Cls X.K C) (n:wB X.K C f) (hs:swapsWith value (some (.Attribute o f pos')) pos.line X.env=pure false):PS3 X (.Assign [.Attribute o f pos'] value pos) (afV C ta tv f):=by
  refine PS.imp (aN3 ha hv hs) fun F σ H h=>?_
  obtain ⟨ρ,G,E,s,g,t,u⟩:=h
  refine ⟨ρ,G,_,s,g,t,fun y H1 d G1 t1 ry g1 t'=>?_⟩
  refine ⟨ρ,G1,_,s.mono t1,g1,t',fun v H2 x G2 t2 rx g2 t''=>?_⟩
  unfold asG at t''
  split at t''
  · rename_i a
    split at t''
    · rename_i C' fs e1
      obtain ⟨rfl,hl,t''⟩:=t''
      obtain ⟨dx,vs,e3,r⟩:=g2 a _ e1
      have ry2:=ry.mono t2
      have tt:Ts H2 (upd H2 a (.ins C' dx (a69 f y vs))):=Ts.turn e3 (fun _ z=>by cases z) (fun _ _ z=>by cases z)
      cases rx
      refine ⟨a,_,dx,vs,rfl,e3,c,n,by rw [← r.length];exact hl,u.nx ρ _ σ _ ((s.mono t1).mono t2 |>.mono tt) (HR.turn g2 tt ?_) t''⟩
      exact ⟨dx,_,aU,(axZ ry2 r).imp fun _ _ q=>⟨q.1,q.2.mono tt⟩⟩
    · exact t''.elim
  · exact t''.elim
end
section
variable {X:Cx} {qt:Bool} {k:Nat} {f C:Addr} {fd:FuncData} {ps:List Str} {sp:Sp3} {EX:aW→bK} {x m:Str} {p pos apos:Pos} {o e:Expr} {es:List Expr} {t:TA3} {ta:dZ} {dd:List D} {dvs:List V} {ds:List Value}
theorem asH {pins:List (Addr×Obj)} {σ:St} {H:Hp} {s:Shared} {Q Q':VK} {us:List Value} {vs:List V} {E:XK} (F:fC qt X.prog X.w X.K X.mg X.base (vU X.prog X.w) k f fd ps (gY X.K sp)) (hr:pY qt k X.A) (hb:Binds X.K fd ps ds) (hd:Vals dvs ds)
    (hx:∀ e s',vU X.prog X.w X.stack H s E e s'→X.xe e s')
    (I:Inv X pins σ H s) (r:Vals vs us) (h:gY X.K sp (vs++dvs) H Q E) (hQ:∀ v H',Ts H H'→Q v H'→Q' v H'):wpAny (model X.prog X.w) X.A (call (.ref f) us) (EP X pins σ Q') X.xe s:=by
  have hl:(us++ds).length=ps.length:=by rw [← (r.append hd).length];exact F.len _ _ _ _ h
  refine wpAny_call (codeAny_mono (F.run X.A X.stack s H ⟨us,[]⟩ (us++ds) (vs++dvs) Q E hr I.env0 (hb s us I.kIn hl) (r.append hd) h) fun r s' hq=>?_)
  cases r with
  | error e=>exact hx e s' hq
  | ok fl =>
    cases fl with
    | ret u =>
      obtain ⟨v,H',os,bare,un,hok,r,q⟩:=hq
      exact ⟨v,H',I.call' (ch:=[]) os un hok bare (fun b z=>absurd z (by simp)),r,hQ v H' ⟨un.tups,un.uV⟩ q⟩
    | next=>exact False.elim hq
    | brk=>exact False.elim hq
    | cont=>exact False.elim hq
def asI (C:Addr) (m:Str) (x:D) (G:Gp):Prop:=∃ a fs,x = .ref a∧G a=some (.ins C fs)∧fs.lookup m=none
def jV (C:Addr) (m:Str) (sp:Sp3) (dd:List D) (EX:aW→bK) (ta:dZ) (t:TA3):dZ:=fun ρ G R=>ta ρ G fun x G1=>asI C m x G1∧t ρ G1 fun ds G2=>sp (x :: (ds++dd)) G2 R (EX ρ)
theorem ak8 {K:Fg} {H:Hp} {f:Str}:∀ {fs:List (Str×D)} {vs:List (Str×V)},Two (fun p q=>p.1=q.1∧RD K H p.2 q.2) fs vs→fs.lookup f=none→vs.lookup f=none
  | _,_,.nil,e=>rfl
  | (g,x) :: fs,(g',y) :: vs,.cons h r,e=>by
    obtain ⟨rfl,h2⟩:=h
    unfold List.lookup at e ⊢
    split at e
    · cases e
    · rename_i q
      rw [q]
      exact ak8 r e
theorem aHA {pl:Sem Bool} (ho:gB X o ta) (c:Cls X.K C) (hm:Meth X.K C m f) (F:fC qt X.prog X.w X.K X.mg X.base (vU X.prog X.w) k f fd ps (gY X.K sp)) (hr:pY qt k X.A) (hb:Binds X.K fd ps ds) (hd:Vals dvs ds) (hdd:∀ H,iJ X.K H dd dvs) (hx:Cat X EX)
    (ha:PA3 X (e :: es) t) (hst:starEach (e :: es) X.env=(false,eval e X.env) :: starEach es X.env) (hpl:(backTo pos (starEach es X.env)).any (·.1)=false)
    (ht:eval (.Call (.Attribute o m apos) (e :: es) [] pos) X.env=(do
      let ov ← eval o X.env
      standAt apos.atName
      let (f,first) ← holding [ov] (getMethod ov m pl)
      callWith pos f first (backTo pos (starEach (e :: es) X.env)) (backToKw pos (keywordEach [] X.env)))) :
    gB X (.Call (.Attribute o m apos) (e :: es) [] pos) (jV C m sp dd EX ta t):=by
  intro pins s σ H Q I h
  obtain ⟨ρ,G,R,sr,g,q,kk⟩:=h
  refine PySem.W.methodCall_KW (pl:=pl) (jU (ho pins s σ H (fun v H1=>∃ d G1,Ts H H1∧RD X.K H1 d v∧HR X.K H1 G1∧asI C m d G1∧t ρ G1 fun ds G2=>sp (d :: (ds++dd)) G2 R (EX ρ)) I ⟨ρ,G,_,sr,g,q,fun v H1 d G1 t1 r1 g1 q1=>⟨d,G1,t1,r1,g1,q1⟩⟩) fun u s1 ⟨x,H1,I1,rx,d,G1,t1,r1,g1,⟨a,fs,ed,ea,el⟩,q1⟩=>?_) ht
  subst ed
  cases r1
  obtain rfl:u=Value.ref a:=rx
  obtain ⟨dx,vs,e3,r⟩:=g1 a _ ea
  refine ajS I1 e3 c hm (ak8 r el) ?_
  refine PySem.W.callWith_K (first:=[.ref a]) (h₀:=X.base) I.ok.mod.kin hm.kp (jU (ha pos pins s1 σ H1 (fun vs H2=>Ts H1 H2∧∃ ds G2,iJ X.K H2 ds vs∧HR X.K H2 G2∧sp (.ref a :: (ds++dd)) G2 R (EX ρ)) I1 ⟨ρ,G1,_,sr.mono t1,g1,q1,fun vs H2 ds G2 t2 r2 g2 q2=>⟨t2,ds,G2,r2,g2,q2⟩⟩) fun us s2 ⟨vs,H2,I2,r,t2,ds2,G2,r2,g2,q2⟩=>⟨I2.kIn,?_⟩) hst hpl
  refine asH (us := .ref a :: us) (vs := .ref a :: vs) (E:=abN X.K (EX ρ)) F hr hb hd (fun e s' c=>hx.arV pins σ H2 s2 ρ e s' I2 ((sr.mono t1).mono t2) c) I2 (.cons rfl r) (Q:=fun v H'=>∃ d G',RD X.K H' d v∧HR X.K H' G'∧R d G') ⟨.ref a :: (ds2++dd),G2,R,EX ρ,.cons (.ref a) (r2.append (hdd H2)),g2,q2,fun v H' d G' r3 g3 q3=>⟨d,G',r3,g3,q3⟩,fun C H' G' g' q'=>⟨C,G',rfl,g',q'⟩⟩ fun v H' t3 ⟨d,G',r3,g3,q3⟩=>kk v H' d G' ((t1.trans t2).trans t3) r3 g3 q3
theorem aCV {pl:Sem Bool} (ho:gB X o ta) (c:Cls X.K C) (hm:Meth X.K C m f) (F:fC qt X.prog X.w X.K X.mg X.base (vU X.prog X.w) k f fd ps (gY X.K sp)) (hr:pY qt k X.A) (hb:Binds X.K fd ps ds) (hd:Vals dvs ds) (hdd:∀ H,iJ X.K H dd dvs) (hx:Cat X EX)
    (ht:eval (.Call (.Attribute o m apos) [] [] pos) X.env=(do
      let ov ← eval o X.env
      standAt apos.atName
      let (f,first) ← holding [ov] (getMethod ov m pl)
      callWith pos f first (backTo pos (starEach [] X.env)) (backToKw pos (keywordEach [] X.env)))) :
    gB X (.Call (.Attribute o m apos) [] [] pos) (jV C m sp dd EX ta aH):=by
  intro pins s σ H Q I h
  obtain ⟨ρ,G,R,sr,g,q,kk⟩:=h
  refine PySem.W.methodCall_KW (pl:=pl) (jU (ho pins s σ H (fun v H1=>∃ d G1,Ts H H1∧RD X.K H1 d v∧HR X.K H1 G1∧asI C m d G1∧aH ρ G1 fun ds G2=>sp (d :: (ds++dd)) G2 R (EX ρ)) I ⟨ρ,G,_,sr,g,q,fun v H1 d G1 t1 r1 g1 q1=>⟨d,G1,t1,r1,g1,q1⟩⟩) fun u s1 ⟨x,H1,I1,rx,d,G1,t1,r1,g1,⟨a,fs,ed,ea,el⟩,q1⟩=>?_) ht
  subst ed
  cases r1
  obtain rfl:u=Value.ref a:=rx
  obtain ⟨dx,vs,e3,r⟩:=g1 a _ ea
  refine ajS I1 e3 c hm (ak8 r el) ?_
  refine PySem.W.callWith_K0 (first:=[.ref a]) I1.kIn hm.kp ?_
  refine asH (us:=[.ref a]) (vs:=[.ref a]) (E:=abN X.K (EX ρ)) F hr hb hd (fun e s' c=>hx.arV pins σ H1 s1 ρ e s' I1 (sr.mono t1) c) I1 (.cons rfl .nil) (Q:=fun v H'=>∃ d G',RD X.K H' d v∧HR X.K H' G'∧R d G') ⟨.ref a :: dd,G1,R,EX ρ,.cons (.ref a) (hdd H1),g1,q1,fun v H' d G' r3 g3 q3=>⟨d,G',r3,g3,q3⟩,fun C H' G' g' q'=>⟨C,G',rfl,g',q'⟩⟩ fun v H' t3 ⟨d,G',r3,g3,q3⟩=>kk v H' d G' (t1.trans t3) r3 g3 q3
def afW (C:Addr) (sp:Sp3) (dd:List D) (EX:aW→bK) (t:TA3):dZ:=fun ρ G R=>t ρ G fun ds G1=>∀ x,G1 x=none→sp (.ref x :: (ds++dd)) (aQ G1 x (.ins C [])) (fun v G2=>v = .non∧R (.ref x) G2) (EX ρ)
theorem anT {pins:List (Addr×Obj)} {σ:St} {H:Hp} {s:Shared} {G:Gp} {R:pX} {Q:VK} {us:List Value} {vs:List V} {ds2:List D} {ρ:aW} (M:Mk X.K C f) (F:fC qt X.prog X.w X.K X.mg X.base (vU X.prog X.w) k f fd ps (gY X.K sp)) (hr:pY qt (k+1) X.A) (hb:Binds X.K fd ps ds) (hd:Vals dvs ds) (hdd:∀ H,iJ X.K H dd dvs) (hx:Cat X EX)
    (I:Inv X pins σ H s) (sr:SR X.K H ρ σ) (g:HR X.K H G) (r:Vals vs us) (r2:iJ X.K H ds2 vs) (h:∀ x,G x=none→sp (.ref x :: (ds2++dd)) (aQ G x (.ins C [])) (fun v G2=>v = .non∧R (.ref x) G2) (EX ρ))
    (hQ:∀ v H' d G',Ts H H'→RD X.K H' d v→HR X.K H' G'→R d G'→Q v H'):wpAny (model X.prog X.w) X.A (call (.ref C) us) (EP X pins σ Q) X.xe s:=by
  have n1:H (s.heap.objs.size+1)=none:=I.hok.fresh (Nat.le_succ _)
  have n0:H s.heap.objs.size=none:=I.hok.fresh (Nat.le_refl _)
  have ne:s.heap.objs.size+1≠s.heap.objs.size:=Nat.succ_ne_self _
  have I2:=Inv.made (C:=C) I
  have kl:X.K.lookup (s.heap.objs.size+1)=none:=by
    cases q:X.K.lookup (s.heap.objs.size+1) with
    | none=>rfl
    | some u=>have:=a7R I2 _ u q;rw [aU] at this;cases this
  have gn:G (s.heap.objs.size+1)=none:=tK (o := .ins C s.heap.objs.size []) g n1 fun b u e=>by
    by_cases c:b=s.heap.objs.size+1
    · subst c;rw [kl] at e;cases e
    · rw [eE c];exact a7R I b u e
  have t1:Ts H (upd H s.heap.objs.size (.own (s.heap.objs.size+1))) := .same (cR n0)
  have n1':upd H s.heap.objs.size (.own (s.heap.objs.size+1)) (s.heap.objs.size+1)=none:=by rw [eE ne];exact n1
  have t2:Ts (upd H s.heap.objs.size (.own (s.heap.objs.size+1))) (upd (upd H s.heap.objs.size (.own (s.heap.objs.size+1))) (s.heap.objs.size+1) (.ins C s.heap.objs.size [])) := .same (cR n1')
  have g1:HR X.K (upd H s.heap.objs.size (.own (s.heap.objs.size+1))) G:=g.same (cR n0)
  have g2:HR X.K (upd (upd H s.heap.objs.size (.own (s.heap.objs.size+1))) (s.heap.objs.size+1) (.ins C s.heap.objs.size [])) (aQ G (s.heap.objs.size+1) (.ins C [])):=g1.put n1' ⟨s.heap.objs.size,[],aU,.nil⟩
  have hq:gY X.K sp (V.ref (s.heap.objs.size+1) :: (vs++dvs)) (upd (upd H s.heap.objs.size (.own (s.heap.objs.size+1))) (s.heap.objs.size+1) (.ins C s.heap.objs.size [])) (fun v H'=>v = .non∧∃ G',HR X.K H' G'∧R (.ref (s.heap.objs.size+1)) G') (abN X.K (EX ρ)) :=
    ⟨.ref (s.heap.objs.size+1) :: (ds2++dd),_,_,EX ρ,.cons (.ref _) (((r2.mono t1).mono t2).append (hdd _)),g2,h _ gn,fun v H' d G' r3 g3 q3=>by
      obtain ⟨rfl,q3⟩:=q3
      cases r3
      exact ⟨rfl,G',g3,q3⟩,fun C H' G' g' q'=>⟨C,G',rfl,g',q'⟩⟩
  have rr:Vals (V.ref (s.heap.objs.size+1) :: (vs++dvs)) (Value.ref (s.heap.objs.size+1) :: (us++ds)) := .cons rfl (r.append hd)
  have hl:(Value.ref (s.heap.objs.size+1) :: us++ds).length=ps.length:=by
    have e:=rr.length
    rw [F.len _ _ _ _ hq] at e
    exact e.symm
  refine wpAny_call (aBJ (f:=f) I.kIn M.makes M.init (beq_iff_eq.mp M.fn) (codeAny_mono (F.run _ X.stack _ _ ⟨Value.ref (s.heap.objs.size+1) :: us,[]⟩ (Value.ref (s.heap.objs.size+1) :: (us++ds)) _ _ _ (hr.make C us [])
    (I2.env0.make C us []) (hb _ (Value.ref (s.heap.objs.size+1) :: us) I2.kIn hl) rr hq) fun r s' hq'=>?_))
  cases r with
  | error e=>exact hx.arV pins σ _ _ ρ e s' I2 ((sr.mono t1).mono t2) hq'
  | ok fl =>
    cases fl with
    | ret u =>
      obtain ⟨v,H',os,bare,un,hok,rv,ev,G',g3,q3⟩:=hq'
      subst ev
      exact ⟨rv,⟨V.ref (s.heap.objs.size+1),H',I2.call' (ch:=[]) os un hok bare (fun b z=>absurd z (by simp)),rfl,hQ _ H' (.ref _) G' ((t1.trans t2).trans ⟨un.tups,un.uV⟩) (.ref _) g3 q3⟩⟩
    | next=>exact False.elim hq'
    | brk=>exact False.elim hq'
    | cont=>exact False.elim hq'
theorem aHB (M:Mk X.K C f) (F:fC qt X.prog X.w X.K X.mg X.base (vU X.prog X.w) k f fd ps (gY X.K sp)) (hr:pY qt (k+1) X.A) (hg:Gl X x) (hm:X.mg x=some (.ref C)) (hb:Binds X.K fd ps ds) (hd:Vals dvs ds) (hdd:∀ H,iJ X.K H dd dvs) (hx:Cat X EX)
    (ha:PA3 X (e :: es) t) (hdb:(x == ("__debug__" : Str))=false) (he:starEach (e :: es) X.env=(false,eval e X.env) :: starEach es X.env) (hpl:(backTo pos (starEach es X.env)).any (·.1)=false) :
    gB X (.Call (.Name x p) (e :: es) [] pos) (afW C sp dd EX t):=by
  intro pins s σ H Q I h
  obtain ⟨ρ,G,R,sr,g,q,kk⟩:=h
  refine wpAny_Call_Name_kw (a04 I hg hm ?_ hdb)
  refine PySem.W.callWith_K (h₀:=X.base) I.ok.mod.kin M.kp (jU (ha pos pins s σ H (fun vs H1=>Ts H H1∧∃ ds G1,iJ X.K H1 ds vs∧HR X.K H1 G1∧∀ x,G1 x=none→sp (.ref x :: (ds++dd)) (aQ G1 x (.ins C [])) (fun v G2=>v = .non∧R (.ref x) G2) (EX ρ)) I ⟨ρ,G,_,sr,g,q,fun vs H1 ds G1 t1 r1 g1 q1=>⟨t1,ds,G1,r1,g1,q1⟩⟩) fun us s1 ⟨vs,H1,I1,r,t1,ds,G1,r1,g1,q1⟩=>⟨I1.kIn,?_⟩) he hpl
  exact anT M F hr hb hd hdd hx I1 (sr.mono t1) g1 r r1 q1 fun v H' d G' t2=>kk v H' d G' (t1.trans t2)
theorem aCW (M:Mk X.K C f) (F:fC qt X.prog X.w X.K X.mg X.base (vU X.prog X.w) k f fd ps (gY X.K sp)) (hr:pY qt (k+1) X.A) (hg:Gl X x) (hm:X.mg x=some (.ref C)) (hb:Binds X.K fd ps ds) (hd:Vals dvs ds) (hdd:∀ H,iJ X.K H dd dvs) (hx:Cat X EX)
    (hdb:(x == ("__debug__" : Str))=false):gB X (.Call (.Name x p) [] [] pos) (afW C sp dd EX aH):=by
  intro pins s σ H Q I h
  obtain ⟨ρ,G,R,sr,g,q,kk⟩:=h
  refine wpAny_Call_Name_kw (a04 I hg hm ?_ hdb)
  exact PySem.W.callWith_K0 I.kIn M.kp (anT (us:=[]) (vs:=[]) (ds2:=[]) M F hr hb hd hdd hx I sr g .nil .nil q fun v H' d G' t2=>kk v H' d G' t2)
end
end
section
section
variable {X:Cx} {pins:List (Addr×Obj)} {σ:St} {H:Hp} {s:Shared} {h':Heap}
end
def aUW (ta:TA3):TI3:=fun ρ G R=>ta ρ G fun xs G1=>match xs with
  | [.ref p,.ref q]=>(match cH G1 p,cH G1 q with
    | some xs,some ys=>R (.zip p q xs ys) G1
    | _,_=>False)
  | _=>False
section
variable {X:Cx} {es:List Expr} {kt:Nat} {pt:Pos}
end
section
variable {prog:Program} {w:World} {A:Around} {R:Result→Shared→Prop} {I:Addr} {fp wr:List Addr} {n:Nat} {P:Nat→Value→Prop} {St:Nat→Heap→Prop} {kw:List (Str×Value)}
end
def aCX (x d:D) (G:Gp) (R:pX):Prop:=match x with
  | .ref p=>(match cH G p with
    | some ds=>∃ ns:List Int,ds=ns.map D.int∧(ns=[]→R d G)∧∀ M,M∈ns→(∀ a∈ns,a≤M)→R (.int M) G
    | none=>False)
  | _=>False
def aUX (te td:dZ):dZ:=fun ρ G R=>te ρ G fun x G1=>td ρ G1 fun d G2=>aCX x d G2 R
section
variable {X:Cx} {x:Str} {p pos kp:Pos} {e d:Expr} {te td:dZ}
end
end
section
def aCY:D→Option Key
  | .int i=>some (.inl i)
  | .str x=>some (.inr x)
  | _=>none
def ak9:List D→Option (List Key)
  | []=>some []
  | d :: r=>match aCY d,ak9 r with
    | some k,some ks=>some (k :: ks)
    | _,_=>none
def aiW:D→Option DK
  | .int i=>some (.inl (.inl i))
  | .str x=>some (.inl (.inr x))
  | .tup ds=>(match ak9 ds with
    | some ks=>some (.inr ks)
    | none=>none)
  | _=>none
def a90:DK→Bool
  | .inl _=>false
  | .inr _=>true
section
variable {κ:Type} [DecidableEq κ] {α:Type}
def bB:List (κ×α)→κ→Option α
  | [],_=>none
  | p :: r,k=>if p.1=k then some p.2 else bB r k
def pA (kvs:List (κ×α)) (k:κ) (v:α):List (κ×α):=if (bB kvs k).isSome=true then kvs.map (fun kv=>if kv.1=k then (kv.1,v) else kv) else kvs++[(k,v)]
def uX (kvs:List (κ×α)) (k:κ):List (κ×α):=kvs.filter fun kv=>!decide (kv.1=k)
end
theorem ay0 {K:Fg} {H:Hp} {d:D} {v:V} {k:Key} (r:RD K H d v) (e:aCY d=some k):v=kV k:=by
  cases r <;> first
    | (cases e;rfl)
    | cases e
theorem asJ {K:Fg} {H:Hp}:∀ {ds:List D} {vs:List V} {ks:List Key},iJ K H ds vs→ak9 ds=some ks→vs=ks.map kV
  | _,_,_,.nil,e=>by cases e;rfl
  | d :: ds,v :: vs,ks,.cons h r,e=>by
    unfold ak9 at e
    split at e
    · rename_i k ks' e1 e2
      cases e
      rw [ay0 h e1,asJ r e2]
      rfl
    · cases e
abbrev a6D {κ:Type} (K:Fg) (H:Hp) (f:κ→DK):List (DK×D)→List (κ×V)→Prop:=Two fun p q=>p.1=f q.1∧RD K H p.2 q.2
section
variable {κ:Type} [DecidableEq κ] {K:Fg} {H:Hp} {f:κ→DK}
theorem val_two (hf:∀ a b,f a=f b→a=b) {k:κ}:∀ {kvs:List (DK×D)} {xs:List (κ×V)},a6D K H f kvs xs→(∀ d,bB kvs (f k)=some d→∃ v,a8K xs k=some v∧RD K H d v)∧(bB kvs (f k)=none→a8K xs k=none)
  | _,_,.nil=>⟨fun d e=>(nomatch e),fun _=>rfl⟩
  | p :: kvs,q :: xs,.cons h r=>by
    obtain ⟨h1,h2⟩:=h
    by_cases c:q.1=k
    · have c2:p.1=f k:=by rw [h1,c]
      unfold bB
      rw [if_pos c2,a8R c]
      exact ⟨fun d e=>by cases e;exact ⟨_,rfl,h2⟩,fun e=>(nomatch e)⟩
    · have c2:¬ p.1=f k:=fun z=>c (hf _ _ (h1.symm.trans z))
      unfold bB
      rw [if_neg c2,a8S c]
      exact val_two hf r
theorem aCZ (hf:∀ a b,f a=f b→a=b) {k:κ} {kvs:List (DK×D)} {xs:List (κ×V)} (t:a6D K H f kvs xs):(bB kvs (f k)).isSome=(a8K xs k).isSome:=by
  have z:=val_two hf (k:=k) t
  cases e:bB kvs (f k) with
  | none=>rw [z.2 e];rfl
  | some d=>obtain ⟨v,e2,_⟩:=z.1 d e;rw [e2];rfl
theorem ay1 {g:DK×D→DK×D} {h:κ×V→κ×V} (gh:∀ p q,p.1=f q.1∧RD K H p.2 q.2→(g p).1=f (h q).1∧RD K H (g p).2 (h q).2):∀ {kvs:List (DK×D)} {xs:List (κ×V)},a6D K H f kvs xs→a6D K H f (kvs.map g) (xs.map h)
  | _,_,.nil => .nil
  | _,_,.cons z r => .cons (gh _ _ z) (ay1 gh r)
theorem asK {p:DK×D} {q:κ×V} (z:p.1=f q.1∧RD K H p.2 q.2):∀ {kvs:List (DK×D)} {xs:List (κ×V)},a6D K H f kvs xs→a6D K H f (kvs++[p]) (xs++[q])
  | _,_,.nil => .cons z .nil
  | _,_,.cons y r => .cons y (asK z r)
theorem adP (hf:∀ a b,f a=f b→a=b) {k:κ} {d:D} {v:V} (rd:RD K H d v) {kvs:List (DK×D)} {xs:List (κ×V)} (t:a6D K H f kvs xs):a6D K H f (pA kvs (f k) d) (putK xs k v):=by
  unfold pA putK
  rw [ajT,aCZ hf t]
  split
  · refine ay1 (fun p q ⟨h1,h2⟩=>?_) t
    by_cases c:q.1=k
    · rw [if_pos (show p.1=f k by rw [h1,c]),if_pos c]
      exact ⟨h1,rd⟩
    · rw [if_neg (show ¬ p.1=f k from fun z=>c (hf _ _ (h1.symm.trans z))),if_neg c]
      exact ⟨h1,h2⟩
  · exact asK (p:=(f k,d)) (q:=(k,v)) ⟨rfl,rd⟩ t
end
theorem a08 (a b:Key) (h:(Sum.inl a:DK) = .inl b):a=b:=by cases h;rfl
theorem xO (a b:List Key) (h:(Sum.inr a:DK) = .inr b):a=b:=by cases h;rfl
def vV (x y:D) (G:Gp) (P:Addr→Bool→List (DK×D)→DK→Prop):Prop:=match x with
  | .ref a=>(match G a,aiW y with
    | some (.eN t kvs),some k=>a90 k=t∧P a t kvs k
    | _,_=>False)
  | _=>False
def akA (K:Fg) (H:Hp) (a:Addr) (vy:V) (kvs:List (DK×D)) (k:DK):Prop :=
  (∃ k' xs,k = .inl k'∧H a=some (.dK xs)∧a6D K H .inl kvs xs∧vy=kV k')∨∃ ks xs b,k = .inr ks∧H a=some (.dT xs)∧a6D K H .inr kvs xs∧vy = .ref b∧H b=some (.tup (ks.map kV))
theorem aD0 {K:Fg} {H:Hp} {y:D} {vy:V} {k:DK} (ry:RD K H y vy) (e:aiW y=some k):(∃ k',k = .inl k'∧vy=kV k')∨∃ ks b,k = .inr ks∧vy = .ref b∧H b=some (.tup (ks.map kV)):=by
  cases ry with
  | int i=>cases e;exact .inl ⟨_,rfl,rfl⟩
  | str x=>cases e;exact .inl ⟨_,rfl,rfl⟩
  | @tup a xs ds hq r e0 =>
    have e':(match ak9 ds with
      | some ks=>some (Sum.inr ks:DK)
      | none=>none)=some k:=e
    split at e'
    · rename_i ks e1
      cases e'
      have:=asJ r e1
      subst this
      exact .inr ⟨ks,a,rfl,rfl,e0⟩
    · cases e'
  | _=>cases e
theorem yD {K:Fg} {H:Hp} {x y:D} {vx vy:V} {G:Gp} {P:Addr→Bool→List (DK×D)→DK→Prop} (rx:RD K H x vx) (ry:RD K H y vy) (g:HR K H G) (h:vV x y G P) :
    ∃ a kvs k,x = .ref a∧vx = .ref a∧G a=some (.eN (a90 k) kvs)∧aiW y=some k∧P a (a90 k) kvs k∧akA K H a vy kvs k:=by
  unfold vV at h
  split at h
  · rename_i a
    split at h
    · rename_i t kvs k e1 e2
      obtain ⟨rfl,h⟩:=h
      cases rx
      refine ⟨a,kvs,k,rfl,rfl,e1,e2,h,?_⟩
      rcases g a _ e1 with ⟨z,xs,e3,r⟩ | ⟨z,xs,e3,r⟩
      · rcases aD0 ry e2 with ⟨k',rfl,rfl⟩ | ⟨ks,b,rfl,_⟩
        · exact .inl ⟨k',xs,rfl,e3,r,rfl⟩
        · cases z
      · rcases aD0 ry e2 with ⟨k',rfl,rfl⟩ | ⟨ks,b,rfl,rfl,eb⟩
        · cases z
        · exact .inr ⟨ks,xs,b,rfl,e3,r,rfl,eb⟩
    · exact h.elim
  · exact h.elim
theorem akA.get {K:Fg} {H:Hp} {a:Addr} {vy:V} {kvs:List (DK×D)} {k:DK} (h:akA K H a vy kvs k):(∀ d,bB kvs k=some d→∃ v,adG H a vy (some v)∧RD K H d v)∧(bB kvs k=none→adG H a vy none):=by
  rcases h with ⟨k',xs,rfl,e,r,rfl⟩ | ⟨ks,xs,b,rfl,e,r,rfl,eb⟩
  · have z:=val_two a08 (k:=k') r
    exact ⟨fun d e2=>(z.1 d e2).elim fun v q=>⟨v,by rw [← q.1];exact .k e,q.2⟩,fun e2=>by rw [← z.2 e2];exact .k e⟩
  · have z:=val_two xO (k:=ks) r
    exact ⟨fun d e2=>(z.1 d e2).elim fun v q=>⟨v,by rw [← q.1];exact .t e eb,q.2⟩,fun e2=>by rw [← z.2 e2];exact .t e eb⟩
theorem akA.any {K:Fg} {H:Hp} {a:Addr} {vy:V} {kvs:List (DK×D)} {k:DK} (h:akA K H a vy kvs k):∃ o,adG H a vy o∧o.isSome=(bB kvs k).isSome∧∀ d v,RD K H d v→RD K H ((bB kvs k).getD d) (o.getD v):=by
  have z:=h.get
  cases e:bB kvs k with
  | none=>exact ⟨none,z.2 e,rfl,fun d v r=>r⟩
  | some d=>obtain ⟨v,g,r⟩:=z.1 d e;exact ⟨some v,g,rfl,fun _ _ _=>r⟩
theorem akA.put {K:Fg} {H:Hp} {G:Gp} {a:Addr} {vy v:V} {d:D} {kvs:List (DK×D)} {k:DK} (g:HR K H G) (h:akA K H a vy kvs k) (rv:RD K H d v) (hl:kvs.length < sizeLine):∃ H',arN H a vy v H'∧Ts H H'∧HR K H' (aQ G a (.eN (a90 k) (pA kvs k d))):=by
  rcases h with ⟨k',xs,rfl,e,r,rfl⟩ | ⟨ks,xs,b,rfl,e,r,rfl,eb⟩
  · have tt:Ts H (upd H a (.dK (putK xs k' v))) := .turn e (fun _ z=>nomatch z) (fun _ _ z=>nomatch z)
    exact ⟨_,.k e (by rw [← r.length];exact hl),tt,g.turn (u := .eN false _) tt (.inl ⟨rfl,_,aU,(adP a08 rv r).imp fun _ _ q=>⟨q.1,q.2.mono tt⟩⟩)⟩
  · have tt:Ts H (upd H a (.dT (putK xs ks v))) := .turn e (fun _ z=>nomatch z) (fun _ _ z=>nomatch z)
    exact ⟨_,.t e eb (by rw [← r.length];exact hl),tt,g.turn (u := .eN true _) tt (.inr ⟨rfl,_,aU,(adP xO rv r).imp fun _ _ q=>⟨q.1,q.2.mono tt⟩⟩)⟩
def a6E:R3:=fun x y G R=>vV x y G fun _ _ kvs k=>match bB kvs k with
  | some d=>R d G
  | none=>False
def asL:R3:=fun x y G R=>vV y x G fun _ _ kvs k=>R (.bl (bB kvs k).isSome) G
def aD1:R3:=fun x y G R=>vV y x G fun _ _ kvs k=>R (.bl (!(bB kvs k).isSome)) G
section
variable {X:Cx} {o i value e f:Expr} {to ti tv te tf:dZ} {pos pos' apos cpos:Pos}
theorem aUY (hu:X.A.units+64 < cLine) (ho:gB X o to) (hi:gB X i ti) (hs:aN8 i):gB X (.Subscript o i pos) (aO a6E to ti):=by
  refine PE.imp (aG4 (by omega) ho hi hs) fun σ H Q h=>?_
  obtain ⟨ρ,G,R,s,g,t,k⟩:=h
  refine ⟨ρ,G,_,s,g,t,fun vx H1 x G1 t1 rx g1 t'=>?_⟩
  refine ⟨ρ,G1,_,s.mono t1,g1,t',fun vy H2 y G2 t2 ry g2 t''=>?_⟩
  obtain ⟨a,kvs,kk,rfl,rfl,e1,_,q,dd⟩:=yD (rx.mono t2) ry g2 t''
  split at q
  · rename_i d e2
    obtain ⟨v,gg,rv⟩:=dd.get.1 d e2
    exact ⟨a,v,rfl,gg,k v H2 d G2 (t1.trans t2) rv g2 q⟩
  · exact q.elim
theorem aUZ (hu:X.A.units+64 < cLine):a05 X (compareOp .In) asL:=ak0 fun pins s σ H x y vx vy u v G R Q I rx ry ru rv g q k=>by
  obtain ⟨a,kvs,kk,rfl,rfl,e1,_,q,dd⟩:=yD ry rx g q
  obtain ⟨o,gg,eo,_⟩:=dd.any
  obtain rfl:v=Value.ref a:=rv
  exact aYB (by omega) I gg ru fun s' I'=>⟨.bl o.isSome,H,I',rfl,k _ H (.bl _) G (.refl H) (.bl _) g (by rw [eo];exact q)⟩
theorem aP4 (hu:X.A.units+64 < cLine):a05 X (compareOp .NotIn) aD1:=ak0 fun pins s σ H x y vx vy u v G R Q I rx ry ru rv g q k=>by
  obtain ⟨a,kvs,kk,rfl,rfl,e1,_,q,dd⟩:=yD ry rx g q
  obtain ⟨o,gg,eo,_⟩:=dd.any
  obtain rfl:v=Value.ref a:=rv
  exact aG2 (by omega) I gg ru fun s' I'=>⟨.bl (!o.isSome),H,I',rfl,k _ H (.bl _) G (.refl H) (.bl _) g (by rw [eo];exact q)⟩
def ay2 (x y v:D) (F:nA) (ρ:aW) (G:Gp):Prop:=vV x y G fun a t kvs k=>kvs.length < sizeLine∧F.nx ρ (aQ G a (.eN t (pA kvs k v)))
def akB (to ti tv:dZ):bU:=fun F ρ G=>tv ρ G fun v G1=>to ρ G1 fun x G2=>ti ρ G2 fun y G3=>ay2 x y v F ρ G3
theorem aP5 (hu:X.A.units+64 < cLine) (ho:gB X o to) (hi:gB X i ti) (hv:gB X value tv) (hs:swapsWith value (some (.Subscript o i pos')) pos.line X.env=pure false):PS3 X (.Assign [.Subscript o i pos'] value pos) (akB to ti tv):=by
  refine PS.imp (aG5 (by omega) ho hi hv hs) fun F σ H h=>?_
  obtain ⟨ρ,G,E,s,g,t,u⟩:=h
  refine ⟨ρ,G,_,s,g,t,fun v H1 d G1 t1 rv g1 t'=>?_⟩
  refine ⟨ρ,G1,_,s.mono t1,g1,t',fun vx H2 x G2 t2 rx g2 t''=>?_⟩
  refine ⟨ρ,G2,_,s.mono (t1.trans t2),g2,t'',fun vy H3 y G3 t3 ry g3 t4=>?_⟩
  obtain ⟨a,kvs,kk,rfl,rfl,e1,_,⟨hl,q⟩,dd⟩:=yD (rx.mono t3) ry g3 t4
  obtain ⟨H4,pp,tt,g4⟩:=dd.put g3 (rv.mono (t2.trans t3)) hl
  exact ⟨a,H4,rfl,pp,u.nx ρ _ σ _ (s.mono (((t1.trans t2).trans t3).trans tt)) g4 q⟩
def a3X (x:D) (G:Gp):Prop:=match x with
  | .ref a=>(match G a with
    | some (.eN _ _)=>True
    | _=>False)
  | _=>False
theorem anU {K:Fg} {H:Hp} {G:Gp} {x:D} {vx:V} (rx:RD K H x vx) (g:HR K H G) (h:a3X x G):∃ a,x = .ref a∧vx = .ref a∧IsD H a:=by
  unfold a3X at h
  split at h
  · rename_i a
    split at h
    · rename_i t kvs e
      cases rx
      rcases g a _ e with ⟨_,xs,e2,_⟩ | ⟨_,xs,e2,_⟩
      · exact ⟨a,rfl,rfl,.inl ⟨xs,.inl e2⟩⟩
      · exact ⟨a,rfl,rfl,.inr ⟨xs,.inl e2⟩⟩
    · exact h.elim
  · exact h.elim
def a2I (to te tf:dZ):dZ:=fun ρ G R=>to ρ G fun x G1=>a3X x G1∧te ρ G1 fun y G2=>tf ρ G2 fun z G3=>vV x y G3 fun _ _ kvs k=>R ((bB kvs k).getD z) G3
theorem aHC (hu:X.A.units+64 < cLine) (ho:gB X o to) (he:gB X e te) (hf:gB X f tf) (m:M2 X o "get" apos e f cpos):gB X (.Call (.Attribute o "get" apos) [e,f] [] cpos) (a2I to te tf):=by
  refine PE.imp (aBM (by omega) ho he hf m) fun σ H Q h=>?_
  obtain ⟨ρ,G,R,s,g,t,k⟩:=h
  refine ⟨ρ,G,_,s,g,t,fun vx H1 x G1 t1 rx g1 t'=>?_⟩
  obtain ⟨isd,t'⟩:=t'
  obtain ⟨a,rfl,rfl,ia⟩:=anU rx g1 isd
  refine ⟨a,rfl,ia,?_⟩
  refine ⟨ρ,G1,_,s.mono t1,g1,t',fun vy H2 y G2 t2 ry g2 t''=>?_⟩
  refine ⟨ρ,G2,_,s.mono (t1.trans t2),g2,t'',fun vz H3 z G3 t3 rz g3 t4=>?_⟩
  obtain ⟨a',kvs,kk,e,_,e1,_,q,dd⟩:=yD (rx.mono (t2.trans t3)) (ry.mono t3) g3 t4
  cases e
  obtain ⟨o,gg,eo,hd⟩:=dd.any
  exact ⟨o,gg,k _ H3 _ G3 ((t1.trans t2).trans t3) (hd z vz rz) g3 q⟩
end
end
section
section
variable {prog:Program} {w:World} {K:Type} [DecidableEq K] {knd:HeapKind prog w K} {A:Around} {E:Value→Shared→Prop} {s:Shared} {d a:Addr} {k:K} {xs:List (K×Addr×Value)}
theorem aP6 {xs:List (K×Addr×Value)} {o:Obj} {es ep} {v:Value} (hkey:knd.is s.heap k a) (ho:s.heap.get? d=some o) (hc:o.ExactDict) (hd:o.data = .dict es ep) (he:es.toList=xs.map (entryOfKey knd)) (his:∀ x∈xs,knd.is s.heap x.1 x.2.1) (hn:(xs.map (·.1)).Nodup) (hno:∀ (j:Nat) (p:Addr×Value),xs[j]?≠some (k,p)) :
    (s.heap.update d (Obj.mapDictKeys (·.push ⟨knd.hash k,.ref a,v⟩))).DictOfH knd d (storedH xs k a v):=by
  have nk:k ∉ xs.map (·.1):=not_mem_keys_of_get hno
  refine ⟨_,_,ep+1,Heap.get?_update_self _ ho (Obj.isFreed_of_dict (Obj.data_mapDictKeys hd _)),hc.mapDictKeys _,Obj.data_mapDictKeys hd _,?_,?_,?_⟩ <;> rw [storedH_new (atKey_none_of_get hno)]
  · simp [he,entryOfKey]
  · intro x hx;rcases List.mem_append.mp hx with hx | hx
    · exact knd.keeps (his x hx) ho hd (Heap.SameBut.update ..)
    · rw [List.mem_singleton] at hx;subst hx
      exact knd.keeps hkey ho hd (Heap.SameBut.update ..)
  · rw [List.map_append,List.nodup_append];refine ⟨hn,by simp,fun x hx y hy e=>?_⟩
    rw [List.map_singleton,List.mem_singleton] at hy
    exact nk (by rw [← show y=k from hy,← e];exact hx)
theorem aP7 {v:Value} {Q:Value→Shared→Prop} (hu:knd.room A) (hkey:knd.is s.heap k a) (hm:s.heap.DictOfH knd d xs) (hsz:xs.length≤sizeLine)
    (h1:∀ p,atKey xs k=some p→Q p.2 { s with toks:=s.toks+knd.draws k })
    (h2:atKey xs k=none→∀ h',h'.DictOfH knd d (storedH xs k a v)→Heap.SameBut d s.heap h'→Q v { s with heap:=h',toks:=s.toks+knd.draws k }):wpAny (model prog w) A (dictSetDefault d (.ref a) v) Q E s:=by
  obtain ⟨o,es,ep,ho,hc,hd,he,his,hn⟩:=hm
  unfold dictSetDefault
  refine wpAny_holding (wpAny_bind (knd.pyHash hu hkey (wpAny_bind (wpAny_dictFind_heap (s:={ s with toks:=s.toks+knd.draws k }) hu hkey ho hd he his hn ?_ ?_))))
  · intro hno
    refine wpAny_bind (wpAny_rule (wpAny_bind (wpAny_updateDictKeys (s:={ s with toks:=s.toks+knd.draws k }) ho hd (wpAny_pure (h2 (atKey_none_of_get hno) _ (aP6 hkey ho hc hd he his hn hno) (Heap.SameBut.update ..))) (hz:=by have e:=size_of_entries he;omega))))
  · intro j p hj
    refine wpAny_bind (wpAny_dictEntries (s:={ s with toks:=s.toks+knd.draws k }) ho hd ?_);rw [entry_at he j,hj]
    exact wpAny_bind (wpAny_rule (wpAny_pure (h1 p (atKey_of_get hn hj))))
theorem amQ {v:Value} {Q:Value→Shared→Prop} (hu:knd.room A.in1) (hkey:knd.is s.heap k a) (hs:(d == sysModules)=false) (hm:s.heap.DictOfH knd d xs) (hsz:xs.length≤sizeLine)
    (h1:∀ p,atKey xs k=some p→Q p.2 { s with toks:=s.toks+knd.draws k })
    (h2:atKey xs k=none→∀ h',h'.DictOfH knd d (storedH xs k a v)→Heap.SameBut d s.heap h'→Q v { s with heap:=h',toks:=s.toks+knd.draws k }):wpAny (model prog w) A (call (.builtin "dict.setdefault") [.ref d,.ref a,v]) Q E s:=by
  refine call_meetsIn (S:=fun A' R s'=>knd.room A'.in1∧s'=s∧(∀ p,atKey xs k=some p→R (.ok (.ret p.2)) { s with toks:=s.toks+knd.draws k })∧(atKey xs k=none→∀ h',h'.DictOfH knd d (storedH xs k a v)→Heap.SameBut d s.heap h'→R (.ok (.ret v)) { s with heap:=h',toks:=s.toks+knd.draws k })) PySem.F.slot_dict_setdefault hm.typeIs PySem.F.entry_dict_setdefault (PySem.F.args_dict_setdefault_3 _ _ _) (.of_wp fun A' R s' ⟨hu',e,g1,g2⟩=>?_) ⟨hu,rfl,h1,h2⟩
  subst e
  unfold Builtin.«dict.setdefault»;refine wpAny_bind ?_
  unfold Builtin.Dict.keyAndDefault;refine wpAny_bind (wpAny_notOrdered_dict hm.typeIs ?_)
  show wpAny _ _ (pure (d,Value.ref a,some v)) _ _ _;refine wpAny_pure ?_
  show wpAny _ _ (if (d == sysModules)=true then _ else (dictSetDefault d (.ref a) v >>= _)) _ _ _;rw [if_neg (by rw [hs];exact Bool.false_ne_true)]
  exact wpAny_bind (aP7 hu' hkey hm hsz (fun p hp=>wpAny_pure ⟨p.2,rfl,g1 p hp⟩) fun hn h' hm' hs'=>wpAny_pure ⟨v,rfl,g2 hn h' hm' hs'⟩)
def yE (xs:List (K×Addr×Value)) (k:K):List (K×Addr×Value):=xs.filter fun x=>decide (x.1≠k)
theorem asM {xs:List (K×Addr×Value)} (hn:(xs.map (·.1)).Nodup) {j:Nat} {p:Addr×Value} (hj:xs[j]?=some (k,p)):yE xs k=xs.eraseIdx j:=by
  induction xs generalizing j with
  | nil=>simp at hj
  | cons x r ih =>
    rw [List.map_cons,List.nodup_cons] at hn
    cases j with
    | zero =>
      simp at hj;subst hj
      have:∀ y∈r,decide (y.1≠k)=true:=fun y hy=>by
        simp only [decide_eq_true_eq]
        intro e
        exact hn.1 (List.mem_map.mpr ⟨y,hy,e⟩)
      rw [yE,List.filter_cons,if_neg (by simp),List.filter_eq_self.mpr this]
      rfl
    | succ j =>
      have hj':r[j]?=some (k,p):=by simpa using hj
      have ne:x.1≠k:=fun e=>hn.1 (by rw [e];exact List.mem_map.mpr ⟨(k,p),List.mem_of_getElem? hj',rfl⟩)
      have:=ih hn.2 hj'
      simp [yE,List.filter_cons,ne] at this ⊢
      exact this
theorem aHD {p:Addr×Value} {Q:Option DictEntry→Shared→Prop} (hu:knd.room A) (hkey:knd.is s.heap k a) (hm:s.heap.DictOfH knd d xs) (hsz:xs.length≤sizeLine) (hp:atKey xs k=some p)
    (h:∀ h' e,e.key = .ref p.1→e.val=p.2→h'.DictOfH knd d (yE xs k)→Heap.SameBut d s.heap h'→Q (some e) { s with heap:=h',toks:=s.toks+knd.draws k }):wpAny (model prog w) A (Builtin.Dict.takeOut d (.ref a)) Q E s:=by
  obtain ⟨o,es,ep,ho,hc,hd,he,his,hn⟩:=hm
  unfold Builtin.Dict.takeOut
  refine wpAny_holding (wpAny_bind (knd.pyHash hu hkey (wpAny_bind (wpAny_dictFind_heap (s:={ s with toks:=s.toks+knd.draws k }) hu hkey ho hd he his hn ?_ ?_))))
  · intro hno;rw [atKey_none_of_get hno] at hp;cases hp
  · intro j q hj
    rw [atKey_of_get hn hj] at hp;cases hp
    refine wpAny_bind (wpAny_dictEntries (s:={ s with toks:=s.toks+knd.draws k }) ho hd ?_);rw [entry_at he j,hj]
    refine wpAny_bind (wpAny_updateDictKeys (s:={ s with toks:=s.toks+knd.draws k }) ho hd (wpAny_pure (h _ _ rfl rfl ⟨_,_,ep+1,Heap.get?_update_self _ ho (Obj.isFreed_of_dict (Obj.data_mapDictKeys hd _)),hc.mapDictKeys _,Obj.data_mapDictKeys hd _,?_,?_,?_⟩ (Heap.SameBut.update ..))) (hz:=by have e:=size_of_entries he;omega) (hf:=?_))
    · rw [asM hn hj]
      have hjl:j < es.size:=by rw [size_of_entries he];exact (List.getElem?_eq_some_iff.mp hj).1
      have em:∀ (l:List (K×Addr×Value)) (j:Nat),(l.map (entryOfKey knd)).eraseIdx j=(l.eraseIdx j).map (entryOfKey knd):=by
        intro l
        induction l with
        | nil=>intro j;rfl
        | cons x r ih=>intro j;cases j with
          | zero=>rfl
          | succ j=>simp [ih]
      simp [Array.eraseIdxIfInBounds,hjl,he,em]
    · intro x hx
      exact knd.keeps (his x (List.mem_filter.mp hx).1) ho hd (Heap.SameBut.update ..)
    · exact (List.filter_sublist.map _).nodup hn
    · show (es.eraseIdxIfInBounds j).size≤es.size+1
      unfold Array.eraseIdxIfInBounds
      split <;> simp <;> omega
theorem aP8 {p:Addr×Value} {Q:Value→Shared→Prop} (hu:knd.room A.in1) (hkey:knd.is s.heap k a) (hm:s.heap.DictOfH knd d xs) (hsz:xs.length≤sizeLine) (hp:atKey xs k=some p)
    (h:∀ h',h'.DictOfH knd d (yE xs k)→Heap.SameBut d s.heap h'→Q p.2 { s with heap:=h',toks:=s.toks+knd.draws k }):wpAny (model prog w) A (call (.builtin "dict.pop") [.ref d,.ref a]) Q E s:=by
  refine call_meetsIn (S:=fun A' R s'=>knd.room A'.in1∧s'=s∧∀ h',h'.DictOfH knd d (yE xs k)→Heap.SameBut d s.heap h'→R (.ok (.ret p.2)) { s with heap:=h',toks:=s.toks+knd.draws k }) PySem.F.slot_dict_pop hm.typeIs PySem.F.entry_dict_pop (PySem.F.args_dict_pop_2 _ _) (.of_wp fun A' R s' ⟨hu',e,g⟩=>?_) ⟨hu,rfl,h⟩
  subst e
  have hne:xs≠[]:=fun e=>by subst e;cases hp
  obtain ⟨o,es,ep,ho,hc,hd,he,his,hn⟩:=id hm
  unfold Builtin.«dict.pop»;refine wpAny_bind ?_
  unfold Builtin.Dict.keyAndDefault;refine wpAny_bind (wpAny_notOrdered_dict hm.typeIs ?_)
  show wpAny _ _ (pure (d,Value.ref a,none)) _ _ _;refine wpAny_pure ?_
  have e0:es.isEmpty=false:=by
    have:=size_of_entries he
    rw [Array.isEmpty_eq_false_iff]
    intro z
    subst z
    exact hne (List.length_eq_zero_iff.mp this.symm)
  show wpAny _ _ (dictEntries d >>= _) _ _ _
  refine wpAny_bind (wpAny_dictEntries ho hd ?_)
  rw [e0]
  refine wpAny_bind (wpAny_pure ?_)
  show wpAny _ _ (Builtin.Dict.takeOut d (Value.ref a) >>= _) _ _ _
  refine wpAny_bind (aHD hu' hkey hm hsz hp fun h' e e1 e2 dd hs=>?_)
  refine wpAny_bind (wpAny_letGo (wpAny_pure ⟨_,rfl,?_⟩))
  rw [e2]
  exact g h' dd hs
end
theorem KT.drop {H:Hp} {kvs:List (List Key×V)} {xs:List (List Key×Addr×Value)} (r:KT H kvs xs) (k:List Key):KT H (a7P kvs k) (yE xs k):=by
  unfold a7P yE
  induction r with
  | nil=>exact .nil
  | @cons p q ps qs h t ih =>
    rw [List.filter_cons,List.filter_cons]
    by_cases e:p.1=k
    · rw [if_neg (by simp [e]),if_neg (by simp [h.1.symm.trans e])]
      exact ih
    · rw [if_pos (by simp [e]),if_pos (by simp;exact fun z=>e (h.1.trans z))]
      exact .cons h ih
theorem adQ {κ:Type} [DecidableEq κ] {K:Fg} {H:Hp} {f:κ→DK} (hf:∀ a b,f a=f b→a=b) {k:κ}:∀ {kvs:List (DK×D)} {xs:List (κ×V)},a6D K H f kvs xs→a6D K H f (uX kvs (f k)) (a7P xs k)
  | _,_,.nil => .nil
  | p :: kvs,q :: xs,.cons h r=>by
    unfold uX a7P
    rw [List.filter_cons,List.filter_cons]
    by_cases c:q.1=k
    · rw [if_neg (by simp [show p.1=f k by rw [h.1,c]]),if_neg (by simp [c])]
      exact adQ hf r
    · rw [if_pos (by simp;exact fun z=>c (hf _ _ (h.1.symm.trans z))),if_pos (by simp [c])]
      exact .cons h (adQ hf r)
def avX (r:RM3) (to:dZ) (t:TA3):dZ:=fun ρ G R=>to ρ G fun x G1=>a3X x G1∧t ρ G1 fun xs G2=>r x xs G2 R
section
variable {X:Cx}
theorem aV0 {o e:Expr} {es:List Expr} {to:dZ} {t:TA3} {name:Str} {apos cpos:Pos} {id:String} {r3:RM3} (slot:Slot "dict" name id) (hty:typeOf (.builtin id)=pure (.type "method_descriptor")) (hm:aiV X id r3) (ho:gB X o to) (ha:PA3 X (e :: es) t)
    (hbase:attributeBase o name X.env (eval o X.env)=eval o X.env)
    (hfew:((backTo cpos (starEach (e :: es) X.env)).all (fun x=>!x.1)&&(backToKw cpos (keywordEach [] X.env)).all (fun x=>x.1.isSome)
      && decide ((e :: es).length+([]:List Keyword).length+(if ([]:List Keyword).isEmpty then 0 else 1) < 30))=true)
    (hline:(apos.endLine == cpos.line)=true) (hs:starEach (e :: es) X.env=(false,eval e X.env) :: starEach es X.env) (hplain:(backTo cpos (starEach es X.env)).any (·.1)=false) :
    gB X (.Call (.Attribute o name apos) (e :: es) [] cpos) (avX r3 to t):=by
  intro pins s σ H Q I h
  obtain ⟨ρ,G,R,sr,g,q,kk⟩:=h
  refine wpAny_Call_method_late hbase hfew hline rfl (jU (ho pins s σ H (fun vx H1=>Ts H H1∧∃ x G1,RD X.K H1 x vx∧HR X.K H1 G1∧a3X x G1∧t ρ G1 fun xs G2=>r3 x xs G2 R) I ⟨ρ,G,_,sr,g,q,fun v H1 x G1 t1 r1 g1 q1=>⟨t1,x,G1,r1,g1,q1⟩⟩) fun v s1 ⟨vx,H1,I1,r1,t1,x,G1,rx,g1,ty,q1⟩=>?_)
  obtain ⟨a,rfl,rfl,ia⟩:=anU rx g1 ty
  obtain rfl:v=Value.ref a:=r1
  obtain ⟨h1,h2,_⟩:=aoU I1 ia
  refine ⟨"dict",id,PySem.F.plainAttrs_dict,slot,hty,h1,h2,?_⟩
  have hA:=ha cpos pins s1 σ H1 (fun vs H2=>Ts H1 H2∧∃ xs G2,iJ X.K H2 xs vs∧HR X.K H2 G2∧r3 (.ref a) xs G2 R) I1 ⟨ρ,G1,_,sr.mono t1,g1,q1,fun vs H2 xs G2 t2 r2 g2 q2=>⟨t2,xs,G2,r2,g2,q2⟩⟩
  rw [hs] at hA ⊢
  refine Calls.callWith_builtin (by show (false || (backTo cpos (starEach es X.env)).any (·.1))=false;rw [hplain] <;> rfl) (Calls.evalArgs_plain ?_)
  exact jU hA fun us s2 ⟨vs,H2,I2,r2,t2,xs,G2,rs,g2,q2⟩=>hm pins s2 σ H2 (.ref a) xs (.ref a) vs (.ref a) us G2 R Q I2 (.ref a) rs rfl r2 g2 q2 fun v H' d G' t3=>kk v H' d G' ((t1.trans t2).trans t3)
def akC:RM3:=fun x xs G R=>match xs with
  | [y,z]=>vV x y G fun a t kvs k=>t=true∧kvs.length < sizeLine∧(match bB kvs k with
    | some d=>R d G
    | none=>R z (aQ G a (.eN t (pA kvs k z))))
  | _=>False
theorem aV1 (hu:X.A.units+64 < cLine):aiV X "dict.setdefault" akC:=by
  intro pins s σ H x xs vx vs u us G R Q I rx rs ru rv g q k
  match xs,rs,q with
  | [],_,q=>exact q.elim
  | [_],_,q=>exact q.elim
  | _ :: _ :: _ :: _,_,q=>exact q.elim
  | [y,z],.cons ry (.cons (v:=vz) rz .nil),q =>
    cases rv with
    | cons rvy rv =>
    cases rv with
    | cons rvz rv =>
    cases rv
    obtain ⟨a,kvs,kk,rfl,rfl,e1,_,⟨ht,hl,q⟩,dd⟩:=yD rx ry g q
    obtain rfl:u=Value.ref a:=ru
    rcases dd with ⟨k',ys,rfl,_⟩ | ⟨ks,ys,b,rfl,e,r,rfl,eb⟩
    · cases ht
    · cases rvy
      obtain ⟨z1,hd,ws,rel,dc⟩:=anG I.hok e
      have hw:=val_two xO (k:=ks) r
      have hv:=rel.val ks
      have lw:ws.length≤sizeLine:=by rw [← Paired.length rel];exact z1
      refine amQ (tupleKind_room_in1 (by omega)) (a6A I.hok eb) hd dc lw (fun p hp=>?_) fun hn h' dc' hs=>?_
      · rw [hp] at hv
        cases e2:bB kvs (.inr ks) with
        | none=>rw [hw.2 e2] at hv;exact (show False from hv).elim
        | some d =>
          rw [e2] at q
          obtain ⟨v,e3,rd⟩:=hw.1 d e2
          rw [e3] at hv
          exact ⟨v,H,I.tok _,hv,k v H d G (.refl H) rd g q⟩
      · rw [hn] at hv
        cases e2:bB kvs (.inr ks) with
        | some d =>
          obtain ⟨v,e3,rd⟩:=hw.1 d e2
          rw [e3] at hv;exact (show False from hv).elim
        | none =>
          rw [e2] at q
          have tt:Ts H (upd H a (.dT (putK ys ks vz))) := .turn e (fun _ z=>nomatch z) (fun _ _ z=>nomatch z)
          obtain ⟨q0,es,ep,hq,g2,g3,g4,_,g5⟩:=dc'
          have hl2:∀ v:V,(putK ys ks v).length≤sizeLine:=fun v=>by have:=yC ys ks v;rw [← r.length] at this;omega
          refine ⟨_,_,a2G (t':=_) (ob := .dT (putK ys ks vz)) I (by rw [e];exact True.intro) hs ⟨q0,hq⟩ ⟨hl2 _,hd,_,(rel.put ks eb rvz).keeps fun c zs ec=>?_,q0,es,ep,hq,g2,g3,g4,g5⟩,rvz,k _ _ z _ tt (rz.mono tt) (g.turn (u := .eN true _) tt (.inr ⟨rfl,_,aU,(adP xO rz r).imp fun _ _ q=>⟨q.1,q.2.mono tt⟩⟩)) q⟩
          rw [eE (axF ec e (fun z=>nomatch z))]
          exact ec
def afX:RM3:=fun x xs G R=>match xs with
  | [y]=>vV x y G fun a t kvs k=>(match bB kvs k with
    | some d=>R d (aQ G a (.eN t (uX kvs k)))
    | none=>False)
  | _=>False
theorem aP9 (hu:X.A.units+64 < cLine):aiV X "dict.pop" afX:=by
  intro pins s σ H x xs vx vs u us G R Q I rx rs ru rv g q k
  match xs,rs,q with
  | [],_,q=>exact q.elim
  | _ :: _ :: _,_,q=>exact q.elim
  | [y],.cons ry .nil,q =>
    cases rv with
    | cons rvy rv =>
    cases rv
    obtain ⟨a,kvs,kk,rfl,rfl,e1,_,q,dd⟩:=yD rx ry g q
    obtain rfl:u=Value.ref a:=ru
    split at q
    · rename_i d e2
      rcases dd with ⟨k',ys,rfl,e,r,rfl⟩ | ⟨ks,ys,b,rfl,e,r,rfl,eb⟩
      · obtain ⟨v,e3,rd⟩:=(val_two a08 (k:=k') r).1 d e2
        have tt:Ts H (upd H a (.dK (a7P ys k'))) := .turn e (fun _ z=>nomatch z) (fun _ _ z=>nomatch z)
        exact aT2 I e rvy e3 (.inl rfl) fun w' s' I' rw'=>⟨v,_,I',rw',k v _ d _ tt (rd.mono tt) (g.turn (u := .eN false _) tt (.inl ⟨rfl,_,aU,(adQ a08 r).imp fun _ _ q=>⟨q.1,q.2.mono tt⟩⟩)) q⟩
      · obtain ⟨v,e3,rd⟩:=(val_two xO (k:=ks) r).1 d e2
        cases rvy
        obtain ⟨z1,hd,ws,rel,dc⟩:=anG I.hok e
        have hv:=rel.val ks
        rw [e3] at hv
        have lw:ws.length≤sizeLine:=by rw [← Paired.length rel];exact z1
        cases hp:atKey ws ks with
        | none=>rw [hp] at hv;exact (show False from hv).elim
        | some p =>
          rw [hp] at hv
          have tt:Ts H (upd H a (.dT (a7P ys ks))) := .turn e (fun _ z=>nomatch z) (fun _ _ z=>nomatch z)
          refine aP8 (tupleKind_room_in1 (by omega)) (a6A I.hok eb) dc lw hp fun h' dc' hs=>?_
          obtain ⟨q0,es,ep,hq,g2,g3,g4,_,g5⟩:=dc'
          refine ⟨v,_,a2G (t':=_) (ob := .dT (a7P ys ks)) I (by rw [e];exact True.intro) hs ⟨q0,hq⟩ ⟨Nat.le_trans (ajU ys ks) z1,hd,_,(rel.drop ks).keeps fun c zs ec=>?_,q0,es,ep,hq,g2,g3,g4,g5⟩,hv,k v _ d _ tt (rd.mono tt) (g.turn (u := .eN true _) tt (.inr ⟨rfl,_,aU,(adQ xO r).imp fun _ _ q=>⟨q.1,q.2.mono tt⟩⟩)) q⟩
          rw [eE (axF ec e (fun z=>nomatch z))]
          exact ec
    · exact q.elim
def afY:List D→Gp→pX→Prop:=fun xs G R=>match xs with
  | [.ref a]=>(match G a with
    | some (.eN false kvs)=>R (.int kvs.length) G
    | _=>False)
  | _=>False
theorem aPA:mL X (.builtin "len") afY:=by
  intro pins s σ H xs vs us G R Q I rx rv g q k
  unfold afY at q
  split at q
  · rename_i a
    split at q
    · rename_i kvs e1
      cases rx with
      | cons r1 rr =>
      cases rr;cases r1
      cases rv with
      | cons rv rr =>
      cases rr
      cases rv
      rcases g a _ e1 with ⟨_,ys,e,r⟩ | ⟨z,_⟩
      · refine aT3 I (.inl e) fun t s' I'=>⟨.int ys.length,H,I',⟨t,rfl⟩,k _ H (.int kvs.length) G (.refl H) (by rw [r.length];exact .int _) g q⟩
      · cases z
    · exact q.elim
  · exact q.elim
end
end
section
open PySem.W
theorem aHE (vs:List Value):(vs.toArray.zip vs.toArray).map (·.2)=vs.toArray:=by
  apply Array.ext (by simp)
  intro i h1 h2
  simp
section
variable {prog:Program} {w:World} {A:Around} {E:Value→Shared→Prop} {s:Shared}
theorem asN {a:Addr} {vs:List Value} {n:Nat} {P:PySem.Fin→Shared→Prop} (ho:s.heap.get? a=some (seqObj "list" vs.toArray n)) (h2:vs.length < 2)
    (h:P (.done (.ret .none)) { s with heap:=sortedHeap s.heap a vs vs.toArray }):wpAny (model prog w) A (Builtin.«list.sort» ⟨[.ref a],[]⟩) P E s:=by
  have big:1000 < sizeLine:=by decide
  rw [list_sort_plain];refine wpAny_bind (listItems_at ho rfl (wpAny_bind (listUpdate_at ho rfl ?_ (by rw [List.size_toArray];omega) (Nat.zero_le _))))
  obtain ⟨e1,ho1⟩:∃ e1,(s.heap.update a (Obj.mapSeq fun _=>(#[]:Array Value))).get? a=some (seqObj "list" #[] e1):=⟨_,get?_update_seq ho fun _=>#[]⟩
  refine wpAny_bind (seqEpoch_at ho1 rfl (wpAny_bind (wpAny_newTuple ?_ (by show vs.length≤_;omega))));refine wpAny_bind (wpAny_newList ?_ (Nat.zero_le _));refine wpAny_holding ?_
  have ho6:(((s.heap.update a (Obj.mapSeq fun _=>(#[]:Array Value))).push (seqObj "tuple" vs.toArray 0)).push (seqObj "list" #[] 0)).get? a=some (seqObj "list" #[] e1):=Heap.get?_push_of_some _ (Heap.get?_push_of_some _ ho1)
  show wpAny (model prog w) A _ P E { s with heap:=((s.heap.update a (Obj.mapSeq fun _=>(#[]:Array Value))).push (seqObj "tuple" vs.toArray 0)).push (seqObj "list" #[] 0) };dsimp only
  have c2:vs.toArray.size < 2:=by rw [List.size_toArray];exact h2
  rw [if_pos c2,if_pos c2]
  refine wpAny_bind (wpAny_pure ?_);rw [StateT.run_pure];refine wpAny_bind (wpAny_pure ?_);dsimp only
  refine wpAny_bind (seqEpoch_at ho6 rfl ?_);rw [show (arrOf (SortSt.mk' general' (vs.toArray.zip vs.toArray) #[] 7 none)).map (·.2)=vs.toArray from aHE vs]
  refine wpAny_bind (listUpdate_at ho6 rfl ?_ (Nat.zero_le _) (by rw [List.size_toArray];omega));simp only [bne_self_eq_false,Bool.false_eq_true,if_false]
  exact wpAny_pure h
theorem aD2 {l:Addr} {vs:List Value} {Q:Value→Shared→Prop} (hl:s.heap.IsList l vs.toArray) (h2:vs.length < 2)
    (h:Q (.ref (s.heap.objs.size+1)) { s with heap:=sortedAll s.heap vs vs.toArray }):wpAny (model prog w) A (call (.builtin "sorted") [.ref l]) Q E s:=by
  have big:1000 < sizeLine:=by decide
  refine Calls.call_function_entry kind_sorted plain_sorted entry_sorted (args_sorted1 _) ?_;unfold Builtin.«sorted»
  refine wpAny_bind (m:=checkCount "sorted" 1 1 _) (wpAny_pure (wpAny_bind (collect_list hl (wpAny_bind (wpAny_newList ?_ (by omega))) (by omega))))
  have sz:((s.heap.push (seqObj "list" #[] 0)).update s.heap.objs.size (Obj.mapSeq (·++vs.toArray))).objs.size=s.heap.objs.size+1:=by rw [Heap.size_update,size_push']
  have oL:(((s.heap.push (seqObj "list" #[] 0)).update s.heap.objs.size (Obj.mapSeq (·++vs.toArray))).push (seqObj "list" vs.toArray 0)).get? (s.heap.objs.size+1)=some (seqObj "list" vs.toArray 0):=by rw [← sz];exact Heap.get?_push_size _ rfl
  show wpAny _ _ _ _ _ { s with heap:=((s.heap.push (seqObj "list" #[] 0)).update s.heap.objs.size (Obj.mapSeq (·++vs.toArray))).push (seqObj "list" vs.toArray 0) };rw [sz]
  exact wpAny_bind (wpAny_holding (wpAny_call_entry slot_list_sort ⟨_,oL,rfl⟩ entry_list_sort (asN oL h2 ⟨_,rfl,wpAny_pure ⟨_,rfl,h⟩⟩) (args_list_sort _)))
end
def aPB (a b:Int×Int):Prop:=a.1 < b.1∨(a.1=b.1∧a.2 < b.2)
instance (a b:Int×Int):Decidable (aPB a b):=by unfold aPB;infer_instance
def uY:List (Int×Int)→Prop:=List.Pairwise aPB
end
section
open PySem.W
theorem getD_at {α:Type} {l:List α} {i:Nat} {d:α} (h:i < l.length):l.getD i d=l[i]:=by simp [List.getD,h]
abbrev prV (q:Int×Int):D := .tup [.int q.1,.int q.2]
theorem aHF {h:Heap} {vs:List Value} {out:Array Value} {b:Addr} {u:Obj} (e:h.get? b=some u):(sortedAll h vs out).get? b=some u:=by
  have lb:b < h.objs.size:=Heap.lt_size e
  have n0:b≠h.objs.size:=Nat.ne_of_lt lb
  have n1:b≠h.objs.size+1:=Nat.ne_of_lt (Nat.lt_succ_of_lt lb)
  unfold sortedAll sortedHeap
  rw [(Heap.SameBut.update _ _ _).2 b n1]
  refine Heap.get?_push_of_some _ (Heap.get?_push_of_some _ ?_)
  rw [(Heap.SameBut.update _ _ _).2 b n1]
  refine Heap.get?_push_of_some _ ?_
  rw [(Heap.SameBut.update _ _ _).2 b n0]
  exact Heap.get?_push_of_some _ e
theorem aPC {h:Heap} {vs:List Value} {out:Array Value}:∃ c,(sortedAll h vs out).get? (h.objs.size+1)=some (seqObj "list" out c):=by
  have sz:((h.push (seqObj "list" #[] 0)).update h.objs.size (Obj.mapSeq (·++vs.toArray))).objs.size=h.objs.size+1:=by rw [Heap.size_update,size_push']
  have oL:(((h.push (seqObj "list" #[] 0)).update h.objs.size (Obj.mapSeq (·++vs.toArray))).push (seqObj "list" vs.toArray 0)).get? (h.objs.size+1)=some (seqObj "list" vs.toArray 0):=by rw [← sz];exact Heap.get?_push_size _ rfl
  unfold sortedAll sortedHeap
  obtain ⟨c1,e1⟩:∃ c,((((h.push (seqObj "list" #[] 0)).update h.objs.size (Obj.mapSeq (·++vs.toArray))).push (seqObj "list" vs.toArray 0)).update (h.objs.size+1) (Obj.mapSeq fun _=>#[])).get? (h.objs.size+1)=some (seqObj "list" #[] c):=⟨_,get?_update_seq oL fun _=>#[]⟩
  exact ⟨_,get?_update_seq (Heap.get?_push_of_some _ (Heap.get?_push_of_some _ e1)) fun _=>out⟩
section
variable {X:Cx}
def aLA (ds:List D) (G:Gp) (R:pX):Prop:=∃ ps:List (Int×Int),ds=ps.map prV∧ps.Nodup∧ps.length < 2∧∀ qs:List (Int×Int),qs.Perm ps→uY qs→∀ r,G r=none→R (.ref r) (aQ G r (.lst (qs.map prV)))
def apI:List D→Gp→pX→Prop:=fun xs G R=>match xs with
  | [.ref a]=>(match cH G a with
    | some ds=>aLA ds G R
    | none=>False)
  | _=>False
theorem aV2 {ps:List (Int×Int)} (h:ps.length < 2):uY ps:=by
  unfold uY
  rw [List.pairwise_iff_getElem]
  intro i j hi hj hij
  omega
theorem akD {pins:List (Addr×Obj)} {σ:St} {H:Hp} {s:Shared} (I:Inv X pins σ H s) {G:Gp} {R:pX} {Q:VK} (g:HR X.K H G) {ps:List (Int×Int)} {xs:List V} {us:List Value} (r:iJ X.K H (ps.map prV) xs) (rv:Vals xs us) (h2:ps.length < 2)
    (k:∀ v H' d G',Ts H H'→RD X.K H' d v→HR X.K H' G'→R d G'→Q v H') (h:∀ qs:List (Int×Int),qs.Perm ps→uY qs→∀ r,G r=none→R (.ref r) (aQ G r (.lst (qs.map prV)))) {h':Heap} {a:Addr} {tk c:Nat} (fr:s.heap.objs.size≤a) (k2:∀ b o,s.heap.get? b=some o→h'.get? b=some o) (ho:h'.get? a=some (seqObj "list" us.toArray c)):EP X pins σ Q (.ref a) { s with heap:=h',toks:=tk }:=by
  have big:1000 < sizeLine:=by decide
  have l1:us.length=ps.length:=by rw [← rv.length,← r.length,List.length_map]
  have l2:xs.length=ps.length:=by rw [← r.length,List.length_map]
  have hn:H a=none:=I.hok.fresh fr
  have sn:Same H (upd H a (.lst xs)):=cR hn
  have J:Inv X pins σ (upd H a (.lst xs)) { s with heap:=h',toks:=tk }:=I.laid (t':=tk) (fun b o e=>k2 b o e) fr ⟨by omega,_,c,rv,ho⟩
  have kf:=a7R J
  exact ⟨.ref a,_,J,rfl,k _ _ (.ref _) _ (.same sn) (.ref _) (g.put (u := .lst _) hn ⟨_,aU,r.mono (.same sn)⟩) (h _ (.refl _) (aV2 h2) _ (tK g hn kf))⟩
theorem aHG:mL X (.builtin "sorted") apI:=by
  intro pins s σ H xs vs us G R Q I rx rv g q k
  unfold apI at q
  split at q
  · rename_i a
    split at q
    · rename_i ds e1
      obtain ⟨ps,rfl,nd,h64,h⟩:=q
      cases rx with
      | cons r1 rr =>
      cases rr;cases r1
      cases rv with
      | cons rv rr =>
      cases rr
      cases rv
      obtain ⟨zs,hq,r⟩:=gW g e1
      obtain ⟨its,vi,pl,_⟩:=I.list hq
      obtain ⟨c,hc⟩:=aPC (h:=s.heap) (vs:=its) (out:=its.toArray)
      exact aD2 pl.isList (by rw [← vi.length,← r.length,List.length_map];exact h64) (akD (tk:=s.toks) I g r vi h64 k h (Nat.le_succ _) (fun b o e=>aHF e) hc)
    · exact q.elim
  · exact q.elim
end
end
section
open PySem.W
def a4U (h:Heap) (d:Addr) (es:Array DictEntry) (ep:Nat):Prop:=∃ o,h.get? d=some o∧o.ExactDict∧o.data = .dict es ep
section
variable {prog:Program} {w:World} {A:Around} {E:Value→Shared→Prop} {s:Shared} {d it:Addr} {es:Array DictEntry} {ep i:Nat}
theorem a4U.typeIs (hm:a4U s.heap d es ep):s.TypeIs (.ref d) "dict" := let ⟨o,ho,hc,_⟩:=hm;⟨o,ho,hc.1⟩
theorem a4U.lt {h:Heap} (hm:a4U h d es ep):d < h.objs.size:=let ⟨_,ho,_⟩:=hm;Heap.lt_size ho
theorem a4U.at {h h':Heap} (hm:a4U h d es ep) (k:∀ o,h.get? d=some o→h'.get? d=some o):a4U h' d es ep:=let ⟨o,ho,r⟩:=hm;⟨o,k o ho,r⟩
theorem aHH {Q:Value→Shared→Prop} (hd:(d == sysModules)=false) (hm:a4U s.heap d es ep) (hQ:Q (.ref s.heap.objs.size) { s with heap:=s.heap.push { cls := .type "dict_keyiterator",data := .fields #[.ref d,.int 0 0,.int es.size 0,.int ep 0] } }):wpAny (model prog w) A (pyIter (.ref d)) Q E s:=by
  have T:=hm.typeIs
  obtain ⟨o,ho,hc,hdat⟩:=hm
  refine wpAny_pyIter_slot T F.slot_dict_iter (wpAny_call_entry F.slot_dict_iter T F.entry_dict_iter ?_ (F.args_dict_iter_1 _));unfold Builtin.«dict.__iter__»;refine wpAny_bind ?_
  unfold Builtin.Dict.dictSlotNone;refine wpAny_bind (wpAny_notOrdered_dict T ?_);show wpAny _ _ (pure (Value.ref d)) _ _ s;refine wpAny_pure ?_
  show wpAny _ _ (Builtin.Dict.showsAll d >>= _) _ _ s;unfold Builtin.Dict.showsAll;rw [if_neg (by rw [hd];exact Bool.false_ne_true)]
  refine wpAny_bind (wpAny_pure (wpAny_bind (wpAny_dictEntries ho hdat (wpAny_bind (wpAny_dictEpoch ho hdat (wpAny_bind (wpAny_newObj_type (wpAny_pure ⟨_,rfl, "dict_keyiterator",_,⟨_,Heap.get?_push_size _ rfl,rfl⟩,F.slot_dict_keyiterator_next.lookup,?_⟩))))))))
  simpa [rawInt] using hQ
theorem aHI {e:DictEntry} {Q:Option Value→Shared→Prop} (hit:s.heap.IsKeyIter it d i es.size ep) (hm:a4U s.heap d es ep) (hx:es[i]?=some e)
    (hQ:∀ h',h'.IsKeyIter it d (i+1) es.size ep→Heap.SameBut it s.heap h'→Q (some e.key) { s with heap:=h' }):wpAny (model prog w) A (pyNext (.ref it)) Q E s:=by
  obtain ⟨o,ho,hc,hd⟩:=id hit
  obtain ⟨od,hod,hcd,hdd⟩:=hm
  have lt:i < es.size:=(Array.getElem?_eq_some_iff.mp hx).1
  unfold pyNext;refine wpAny_bind (wpAny_attempt (wpAny_callSpecial?_slot (name:=Str.ofString "__next__") hit.typeIs F.slot_dict_keyiterator_next (wpAny_call_entry F.slot_dict_keyiterator_next hit.typeIs F.entry_dict_keyiterator_next ?_ (F.args_dict_keyiterator_next_1 _))))
  refine wpAny_bind (wpAny_pure ?_);refine wpAny_bind ?_;refine wpAny_bind ?_
  (first | refine wpAny_bind (wpAny_typeNameOfWhole_keyiter hit.typeIs (wpAny_pure ?_)) | refine wpAny_bind (wpAny_typeNameOf_keyiter hit.typeIs (wpAny_pure ?_)));refine wpAny_bind (wpAny_fieldsOf ho hd ?_)
  have own:Builtin.Dict_items.ownsTuple "dict_keyiterator" = false:=by decide
  simp only [own,Bool.false_eq_true,if_false];show wpAny _ _ (if (Value.ref d == Value.none)=true then _ else _) _ _ s;rw [if_neg (show ¬ ((Value.ref d == Value.none)=true) from Bool.false_ne_true)]
  refine wpAny_bind (wpAny_pure (wpAny_bind (wpAny_dictEntries hod hdd ?_)));rw [if_neg (by simp)];refine wpAny_bind (wpAny_pure (wpAny_bind (wpAny_dictEpoch hod hdd ?_)));rw [if_neg (by simp)];refine wpAny_pure ?_
  simp only [show ¬ ((i:Int) < 0) from by omega,if_false,Int.toNat_natCast,hx];refine wpAny_bind ?_
  (first | refine wpAny_bind (wpAny_typeNameOfWhole_keyiter hit.typeIs (wpAny_pure ?_)) | refine wpAny_bind (wpAny_typeNameOf_keyiter hit.typeIs (wpAny_pure ?_)));refine wpAny_bind (wpAny_isOneOf_keyiter hit.typeIs ?_)
  show wpAny _ _ (setField (.ref it) 1 (rawInt ((i:Int)+1)) >>= _) _ _ s;refine wpAny_bind (wpAny_setField ho hd (by simp) ?_)
  have hit':(s.heap.update it (Obj.mapFields (·.setIfInBounds 1 (rawInt ((i:Int)+1))))).IsKeyIter it d (i+1) es.size ep:=⟨_,Heap.get?_update_self _ ho (Obj.isFreed_of_fields (Obj.data_mapFields hd _)),(Obj.cls_mapFields ..).trans hc,by rw [Obj.data_mapFields hd];simp [rawInt]⟩
  refine wpAny_bind (wpAny_holding (wpAny_bind (wpAny_isOneOf_keyiter (s:={ s with heap:=s.heap.update it (Obj.mapFields (·.setIfInBounds 1 (rawInt ((i:Int)+1)))) }) hit'.typeIs ?_)))
  show wpAny _ _ (pure e.key) _ _ _;exact wpAny_pure (wpAny_pure ⟨_,rfl,wpAny_pure (hQ _ hit' (Heap.SameBut.update ..))⟩)
theorem aPD {Q:Option Value→Shared→Prop} (hh:A.handled=none) (hit:s.heap.IsKeyIter it d i es.size ep) (hm:a4U s.heap d es ep) (hx:es.size≤i) (hQ:∀ h',Heap.ExtBut it s.heap h'→Q none { s with heap:=h' }):wpAny (model prog w) A (pyNext (.ref it)) Q E s:=by
  obtain ⟨o,ho,hc,hd⟩:=id hit
  obtain ⟨od,hod,hcd,hdd⟩:=hm
  unfold pyNext;refine wpAny_bind (wpAny_attempt (wpAny_callSpecial?_slot (name:=Str.ofString "__next__") hit.typeIs F.slot_dict_keyiterator_next (wpAny_call_entry F.slot_dict_keyiterator_next hit.typeIs F.entry_dict_keyiterator_next ?_ (F.args_dict_keyiterator_next_1 _))))
  refine wpAny_bind (wpAny_pure ?_);refine wpAny_bind ?_;refine wpAny_bind ?_
  (first | refine wpAny_bind (wpAny_typeNameOfWhole_keyiter hit.typeIs (wpAny_pure ?_)) | refine wpAny_bind (wpAny_typeNameOf_keyiter hit.typeIs (wpAny_pure ?_)));refine wpAny_bind (wpAny_fieldsOf ho hd ?_)
  have own:Builtin.Dict_items.ownsTuple "dict_keyiterator" = false:=by decide
  simp only [own,Bool.false_eq_true,if_false];show wpAny _ _ (if (Value.ref d == Value.none)=true then _ else _) _ _ s;rw [if_neg (show ¬ ((Value.ref d == Value.none)=true) from Bool.false_ne_true)]
  refine wpAny_bind (wpAny_pure (wpAny_bind (wpAny_dictEntries hod hdd ?_)));rw [if_neg (by simp)];refine wpAny_bind (wpAny_pure (wpAny_bind (wpAny_dictEpoch hod hdd ?_)));rw [if_neg (by simp)];refine wpAny_pure ?_
  simp only [show ¬ ((i:Int) < 0) from by omega,if_false,Int.toNat_natCast,Array.getElem?_eq_none hx];refine wpAny_bind ?_
  (first | refine wpAny_bind (wpAny_typeNameOfWhole_keyiter hit.typeIs (wpAny_pure ?_)) | refine wpAny_bind (wpAny_typeNameOf_keyiter hit.typeIs (wpAny_pure ?_)));show wpAny _ _ (setField (.ref it) 0 .none >>= _) _ _ s
  refine wpAny_bind (wpAny_setField ho hd (by simp) ?_);show wpAny _ _ (newExc (.type "StopIteration") [] >>= _) _ _ _;refine wpAny_bind ?_
  simp only [newExc,newTuple];refine wpAny_bind (wpAny_newObj_type ?_ (by size_fits));refine wpAny_bind (m:=firstArgMember _ _) (wpAny_of_eq (a:=Value.none) (by first | rfl | (simp only [firstArgMember];rfl)) (wpAny_newObj_type ?_ (by size_fits)))
  simp only [raiseNew];refine wpAny_bind (wpAny_handled ?_);rw [show A.in1.handled=none from hh]
  refine wpAny_bind (wpAny_pure (wpAny_throw ?_));refine wpAny_bind (wpAny_isInstance (T := "StopIteration") (b:=true) ⟨_,Heap.get?_push_size _ rfl,rfl⟩ isSubtype_stop ?_)
  refine wpAny_pure (hQ _ fun b o' hb e=>?_)
  exact Heap.get?_push_of_some _ (Heap.get?_push_of_some _ (((Heap.SameBut.update _ _ _).2 b hb).trans e))
theorem aD3 (hh:A.handled=none) (I:Addr) (hne:d≠I):Walks prog w A I [I,d] [I] es.size (fun i v=>∃ e,es[i]?=some e∧v=e.key) (fun i h=>h.IsKeyIter I d i es.size ep∧a4U h d es ep) where
  sub:=fun b hb=>by simp at hb;simp [hb]
  frame:=fun _ _ _ st hk=>⟨st.1.at fun o e=>hk I (by simp) o e,st.2.at fun o e=>hk d (by simp) o e⟩
  item:=fun i s Q E hi st hQ=>by
    have hx:es[i]?=some es[i]:=Array.getElem?_eq_getElem hi
    exact aHI st.1 st.2 hx fun h' hit' hs'=>hQ _ h' s.toks ⟨_,hx,rfl⟩ ⟨hit',st.2.at fun o e=>hs'.extBut _ o hne e⟩ fun b o hb e=>hs'.extBut b o (fun h=>hb (by simp [h])) e
  done:=fun s Q E st hQ=>aPD hh st.1 st.2 (Nat.le_refl _) fun h' he'=>hQ h' s.toks fun b o hb e=>he' b o (fun h=>hb (by simp [h])) e
  self:=fun _ _ _ _ st hQ=>wpAny_pyIter_keyiter st.1 hQ
theorem aPE (lo:(d == sysModules)=false):KdlSrc prog w "dict" d d es.size (fun i v=>∃ e,es[i]?=some e∧v=e.key) (fun h=>a4U h d es ep) where
  type:=fun _ hm=>hm.typeIs
  there:=fun _ hm=>⟨hm.lt,hm.lt⟩
  keep:=fun _ _ hm hk=>hm.at fun o e=>hk d (.inl rfl) o e
  notList:=by decide
  notTuple:=by decide
  hint:=fun _ _ _ _ hm hq=>kdl_hint_dict hm.typeIs hq
  iter:=fun _ s hh hm=>⟨_,_,(fun _ _ hq=>aHH lo hm hq),aD3 hh _ (Nat.ne_of_lt hm.lt),⟨⟨_,Heap.get?_push_size _ rfl,rfl,rfl⟩,hm.at fun o e=>Heap.get?_push_of_some _ e⟩⟩
end
end
section
open PySem.W
def aV3 (i j c:Int):Nat:=if c=1 then (j - i).toNat else (i - j).toNat
section
variable {X:Cx} {tg:Expr}
end
def aZN (lo c:Int) (n:Nat):List D:=(List.range n).map fun (i:Nat) => .int (lo+(i:Int) * c)
def aLB (xs:List D) (G:Gp) (R:Src→Gp→Prop):Prop:=match xs with
  | [.int i,.int j,.int c]=>(-(2 ^ 61)≤i∧i < 2 ^ 61∧-(2 ^ 61)≤j∧j < 2 ^ 61)∧(c=1∨c=-1)∧R (.imm (aZN i c (aV3 i j c))) G
  | _=>False
def aPF (ta:TA3):TI3:=fun ρ G R=>ta ρ G fun xs G1=>aLB xs G1 R
section
variable {X:Cx} {tg:Expr}
def aLC (x:D) (G:Gp) (R:pX):Prop:=match x with
  | .ref a=>(match cH G a with
    | some ds=>∀ q,G q=none→R (.ref q) (aQ G q (.lst ds.reverse))
    | none=>False)
  | _=>False
def aV4 (te:dZ) (tk:TO3):dZ:=fun ρ G R=>te ρ G fun x G1=>tk ρ G1 fun o G2=>o=some (-1)∧aLC x G2 R
end
end
section
open PySem.W
theorem aHJ:typeLookup (.type "list") "keys" = pure none:=by rw [typeLookup_type,builtinLookup_eq_fast];kernel_rfl
section
variable {prog:Program} {w:World} {A:Around} {E:Value→Shared→Prop} {s:Shared}
theorem aHK {a:Addr} {o:Obj} {xs:Array Value} {k:Nat} {Q:Option Value→Shared→Prop}
    (hx:s.heap.get? a=some o) (hc:o.cls = .type "list") (hdat:o.data = .seq xs k) (hd:o.dict=none) (hA:A.handled=none)
    (h:∀ h' tk,(∀ b o,s.heap.get? b=some o→h'.get? b=some o)→Q none { s with heap:=h',toks:=tk }) :
    wpAny (model prog w) A (getAttr? (.ref a) "keys") Q E s:=by
  obtain ⟨c,dct,dat,sl⟩:=o
  simp only at hc hdat hd
  subst hc hdat hd
  obtain ⟨hp,g,d,tk,os⟩:=s
  have hT:∀ tk',(⟨hp,g,d,tk',os⟩:Shared).TypeIs (.ref a) "list" := fun _=>⟨_,hx,rfl⟩
  have f1:=sub_AttributeError
  have f3:=F.slot_list_getattribute.lookup
  have f4:=F.slot_list_getattribute.bind (.ref a)
  have f5:=am_list_getattr_none
  unfold getAttr? getAttrBy? getAttrBy
  repeat (any_goals (first | assumption | exact hT _ | ((with_reducible show wpAny _ _ (call (Value.builtin "list.__getattribute__") _ _) _ _ _);refine call_meets F.slot_list_getattribute (hT _) am_entry_list_getattribute (F.args_list_getattribute_2 _ _) (meets_getattribute_miss_list a xs k sl "keys" _ aHJ (by decide) (by decide)) ⟨hx,hA,fun h' tk' e hx'=>?_⟩) | wp_step))
  obtain ⟨t',u',he⟩:=hx'.there
  show wpAny _ _ (getattributeRaised _ _ _ _ _ _ _) _ _ _
  unfold getattributeRaised
  repeat (any_goals (first | assumption | wp_step))
  exact h _ _ hx'.keeps
theorem asO:entryFor table "dict.update.loop" = some Builtin.«dict.update.loop» := entryFor_of_fast (by kernel_rfl)
theorem adR:plainId "dict.update.loop" = true:=by decide +kernel
abbrev TK (prog:Program) (w:World):=tupleKind (bH prog w)
def aV5 (prog:Program) (w:World) (h:Heap) (v:Value) (x:List Key×Addr×Value):Prop:=∃ p o n,v = .ref p∧h.get? p=some o∧o.cls = .type "tuple" ∧ o.data = .seq #[.ref x.2.1,x.2.2] n∧(TK prog w).is h x.1 x.2.1
def aV6 (xs ps:List (List Key×Addr×Value)):List (List Key×Addr×Value):=ps.foldl (fun acc x=>storedH acc x.1 x.2.1 x.2.2) xs
theorem ay4 {h h':Heap} {ks:List Key} {a:Addr} (x:(TK prog w).is h ks a) (k:∀ o,h.get? a=some o→h'.get? a=some o):(TK prog w).is h' ks a:=by
  obtain ⟨o,its,n,h1,r⟩:=x
  exact ⟨o,its,n,k _ h1,r⟩
def aHL (prog:Program) (w:World) (I d:Addr) (h:Heap) (v:Value) (x:List Key×Addr×Value):Prop:=∃ p o n,v = .ref p∧h.get? p=some o∧o.cls = .type "tuple" ∧ o.data = .seq #[.ref x.2.1,x.2.2] n∧(TK prog w).is h x.1 x.2.1∧p≠I∧p≠d∧x.2.1≠I∧x.2.1≠d
theorem aHL.keep {I d:Addr} {h h':Heap} {v:Value} {x:List Key×Addr×Value} (q:aHL prog w I d h v x) (k:∀ b o,b≠d→b≠I→h.get? b=some o→h'.get? b=some o):aHL prog w I d h' v x:=by
  obtain ⟨p,o,n,e,h1,h2,h3,h4,h5,h6,h7,h8⟩:=q
  exact ⟨p,o,n,e,k _ _ h6 h5 h1,h2,h3,ay4 h4 fun o e=>k _ _ h8 h7 e,h5,h6,h7,h8⟩
theorem aV5.ok {I d:Addr} {h h':Heap} {v:Value} {x:List Key×Addr×Value} (q:aV5 prog w h v x) (hI:h.objs.size≤I) (hd:h.objs.size≤d) (k:∀ b o,h.get? b=some o→h'.get? b=some o):aHL prog w I d h' v x:=by
  obtain ⟨p,o,n,e,h1,h2,h3,h4⟩:=q
  have l1:=Heap.lt_size h1
  have l2:x.2.1 < h.objs.size:=by
    obtain ⟨o2,its,n2,z,_⟩:=id h4
    exact Heap.lt_size z
  exact ⟨p,o,n,e,k _ _ h1,h2,h3,ay4 h4 fun o e=>k _ _ e,Nat.ne_of_lt (Nat.lt_of_lt_of_le l1 hI),Nat.ne_of_lt (Nat.lt_of_lt_of_le l1 hd),Nat.ne_of_lt (Nat.lt_of_lt_of_le l2 hI),Nat.ne_of_lt (Nat.lt_of_lt_of_le l2 hd)⟩
end
end
section
open PySem.W
def dkD:DK→D
  | .inl k=>kD k
  | .inr ks => .tup (ks.map kD)
def aV7 (kvs:List (DK×D)) (ps:List (List Key×D)):List (DK×D):=ps.foldl (fun acc p=>pA acc (.inr p.1) p.2) kvs
inductive Prs (K:Fg) (H:Hp):List (List Key×D)→List (List Key×Addr×Value)→Prop where
  | nil:Prs K H [] []
  | cons {ks:List Key} {b:Addr} {vz:V} {u:Value} {d:D} {kvs:List (List Key×D)} {ps:List (List Key×Addr×Value)}:H b=some (.tup (ks.map kV))→RD K H d vz→RelV vz u→Prs K H kvs ps→Prs K H ((ks,d) :: kvs) ((ks,b,u) :: ps)
theorem Prs.len {K:Fg} {H:Hp} {kvs:List (List Key×D)} {ps:List (List Key×Addr×Value)} (h:Prs K H kvs ps):kvs.length=ps.length:=by
  induction h with
  | nil=>rfl
  | cons _ _ _ _ ih=>simp [ih]
theorem Prs.fold {K:Fg} {H:Hp} {kvs:List (List Key×D)} {ps:List (List Key×Addr×Value)} (h:Prs K H kvs ps):∀ {k0:List (DK×D)} {y0:List (List Key×V)} {p0:List (List Key×Addr×Value)},KT H y0 p0→a6D K H .inr k0 y0→∃ ys,KT H ys (aV6 p0 ps)∧a6D K H .inr (aV7 k0 kvs) ys:=by
  induction h with
  | nil=>intro k0 y0 p0 a b;exact ⟨y0,a,b⟩
  | @cons ks b vz u d kvs ps e rd rv _ ih =>
    intro k0 y0 p0 a c
    exact ih (KT.put a ks e rv) (adP xO rd c)
section
variable {X:Cx}
theorem afZ {K:Fg} {H:Hp}:∀ (ks:List Key),iJ K H (ks.map kD) (ks.map kV)
  | [] => .nil
  | .inl i :: r => .cons (.int i) (afZ r)
  | .inr x :: r => .cons (.str x) (afZ r)
theorem asQ {K:Fg} {H:Hp}:∀ {kvs:List (DK×D)} {ys:List (List Key×V)} {ws:List (List Key×Addr×Value)},a6D K H .inr kvs ys→KT H ys ws→iJ K H (kvs.map fun p=>dkD p.1) (ws.map fun x => .ref x.2.1)
  | _,_,_,.nil,.nil => .nil
  | p :: kvs,q :: ys,x :: ws,.cons h r,.cons h' r'=>by
    refine .cons ?_ (asQ r r')
    show RD K H (dkD p.1) (.ref x.2.1)
    rw [h.1]
    have e:=h'.2.1
    exact .tup (SqT.of e) (afZ _) e
end
end
section
section
variable {X:Cx} {pins:List (Addr×Obj)} {σ:St} {H:Hp} {s:Shared} {i:Nat}
end
def aZO (F:nA) (i:Nat):nA:={ nx:=fun ρ G=>F.nx (a6B ρ i) G,rt:=F.rt,bk:=fun ρ G=>F.bk (a6B ρ i) G,ct:=fun ρ G=>F.ct (a6B ρ i) G }
def aV8 (i:Nat) (t:bU):bU:=fun F ρ G=>t (aZO F i) (a6B ρ i) G
end
section
open PySem.W
section
variable {prog:Program} {w:World} {A:Around} {E:Value→Shared→Prop} {s:Shared}
theorem aHM {h:Heap} {vs:List Value} {out:Array Value} {b:Addr} {u:Obj} (e:h.get? b=some u):(sortedHeap (h.push (seqObj "list" vs.toArray 0)) h.objs.size vs out).get? b=some u:=by
  have n0:b≠h.objs.size:=Nat.ne_of_lt (Heap.lt_size e)
  unfold sortedHeap
  rw [(Heap.SameBut.update _ _ _).2 b n0]
  refine Heap.get?_push_of_some _ (Heap.get?_push_of_some _ ?_)
  rw [(Heap.SameBut.update _ _ _).2 b n0]
  exact Heap.get?_push_of_some _ e
theorem aPH {h:Heap} {vs:List Value} {out:Array Value}:∃ c,(sortedHeap (h.push (seqObj "list" vs.toArray 0)) h.objs.size vs out).get? h.objs.size=some (seqObj "list" out c):=by
  have oL:(h.push (seqObj "list" vs.toArray 0)).get? h.objs.size=some (seqObj "list" vs.toArray 0):=Heap.get?_push_size _ rfl
  unfold sortedHeap
  obtain ⟨c1,e1⟩:∃ c,((h.push (seqObj "list" vs.toArray 0)).update h.objs.size (Obj.mapSeq fun _=>#[])).get? h.objs.size=some (seqObj "list" #[] c):=⟨_,get?_update_seq oL fun _=>#[]⟩
  exact ⟨_,get?_update_seq (Heap.get?_push_of_some _ (Heap.get?_push_of_some _ e1)) fun _=>out⟩
theorem ay5 {r:Addr} {CV:List Value→Heap→Prop} {Q:Value→Shared→Prop}
    (aZP:∀ (R:List Value→Shared→Prop) (E:Value→Shared→Prop),(∀ vs h' tk,(∀ b o,s.heap.get? b=some o→h'.get? b=some o)→CV vs h'→R vs { s with heap:=h',toks:=tk })→wpAny (model prog w) A.in1 (collect (.ref r)) R E s)
    (hm:∀ vs h1 tk,(∀ b o,s.heap.get? b=some o→h1.get? b=some o)→CV vs h1→vs.length < 2 ∧
      ∀ (h':Heap) (c:Nat),(∀ b o,h1.get? b=some o→h'.get? b=some o)→h'.get? h1.objs.size=some (seqObj "list" vs.toArray c)→Q (.ref h1.objs.size) { s with heap:=h',toks:=tk }):wpAny (model prog w) A (call (.builtin "sorted") [.ref r]) Q E s:=by
  have big:1000 < sizeLine:=by decide
  refine Calls.call_function_entry kind_sorted plain_sorted entry_sorted (args_sorted1 _) ?_;unfold Builtin.«sorted»
  refine wpAny_bind (m:=checkCount "sorted" 1 1 _) (wpAny_pure (wpAny_bind (aZP _ _ fun vs h1 tk k1 cv=>?_)))
  obtain ⟨h2,h⟩:=hm vs h1 tk k1 cv
  refine wpAny_bind (wpAny_newList ?_ (by omega))
  have oL:(h1.push (seqObj "list" vs.toArray 0)).get? h1.objs.size=some (seqObj "list" vs.toArray 0):=Heap.get?_push_size _ rfl
  refine wpAny_bind (wpAny_holding (wpAny_call_entry (s:={ s with heap:=h1.push (seqObj "list" vs.toArray 0),toks:=tk }) slot_list_sort ⟨_,oL,rfl⟩ entry_list_sort (asN (s:={ s with heap:=h1.push (seqObj "list" vs.toArray 0),toks:=tk }) oL h2 ⟨_,rfl,wpAny_pure ⟨_,rfl,?_⟩⟩) (args_list_sort _)))
  obtain ⟨c,hc⟩:=aPH (h:=h1) (vs:=vs) (out:=vs.toArray)
  exact h _ c (fun b o e=>aHM e) hc
end
section
variable {X:Cx}
theorem aHN {pins:List (Addr×Obj)} {σ:St} {H:Hp} {s:Shared} (I:Inv X pins σ H s) {a:Addr} {ys:List (List Key×V)} (e:H a=some (.dT ys)):∃ (es:Array DictEntry) (ep:Nat) (ws:List (List Key×Addr×Value)),(a == sysModules)=false∧a4U s.heap a es ep∧es.size≤sizeLine∧KT H ys ws∧∀ acc:Array Value,ItemsOf (fun i v=>∃ e,es[i]?=some e∧v=e.key) acc es.size→acc.toList=ws.map fun x=>Value.ref x.2.1:=by
  obtain ⟨z1,hd,ws,rel,o,es,ep,ho,hcl,hdat,he,his,hn⟩:=anG I.hok e
  have lw:es.size=ws.length:=size_of_entries he
  have lw2:ws.length=ys.length:=(Paired.length rel).symm
  refine ⟨es,ep,ws,hd,⟨o,ho,hcl,hdat⟩,by omega,rel,fun acc hacc=>?_⟩
  apply List.ext_getElem?
  intro i
  by_cases hi:i < ws.length
  · have hi2:i < acc.size:=by rw [hacc.1,lw];exact hi
    obtain ⟨en,e1,e2⟩:=hacc.2 i acc[i] (Array.getElem?_eq_getElem hi2)
    have e3:es.toList[i]?=some en:=by rw [Array.getElem?_toList];exact e1
    rw [he,List.getElem?_map,List.getElem?_eq_getElem hi] at e3
    have e4:entryOfKey (tupleKind (bH X.prog X.w)) ws[i]=en:=by simpa using e3
    rw [Array.getElem?_toList,Array.getElem?_eq_getElem hi2,e2,← e4,List.getElem?_map,List.getElem?_eq_getElem hi]
    rfl
  · rw [List.getElem?_eq_none (by rw [Array.length_toList,hacc.1,lw];omega),List.getElem?_eq_none (by simp;omega)]
theorem anV:∀ l:List (List Key×Addr×Value),Vals (l.map fun x=>V.ref x.2.1) (l.map fun x=>Value.ref x.2.1)
  | [] => .nil
  | _ :: r => .cons rfl (anV r)
def a09:List D→Gp→pX→Prop:=fun xs G R=>match xs with
  | [.ref a]=>(match G a with
    | some (.eN true kvs)=>aLA (kvs.map fun p=>dkD p.1) G R
    | _=>False)
  | _=>False
theorem aHO (hc:X.calm=true):mL X (.builtin "sorted") a09:=by
  intro pins s σ H xs vs us G R Q I rx rv g q k
  unfold a09 at q
  split at q
  · rename_i a
    split at q
    · rename_i kvs e1
      obtain ⟨ps,ep,nd,h64,h⟩:=q
      cases rx with
      | cons r1 rr =>
      cases rr;cases r1
      cases rv with
      | cons rv rr =>
      cases rr
      cases rv
      rcases g a _ e1 with ⟨z,_⟩ | ⟨_,ys,e,r⟩
      · cases z
      · obtain ⟨es,epo,ws,hsm,raw,hz,rel,hall⟩:=aHN I e
        have rds:=asQ r rel
        rw [ep] at rds
        have vi:=anV ws
        have l1:ws.length=ps.length:=by have:=rds.length;simpa using this.symm
        refine ay5 (CV:=fun us _=>us=ws.map fun x=>Value.ref x.2.1) (fun R' E' hR=>kdu_collect (aPE hsm) (I.ok.hd hc) raw hz fun h' tk acc kk hacc=>hR _ h' tk kk (hall acc hacc)) fun us h1 tk k1 cv=>?_
        subst cv
        exact ⟨by rw [List.length_map,l1];exact h64,fun h' c k2 ho=>akD (s:={ s with heap:=h1,toks:=tk }) (I.kept (t':=tk) k1) g rds vi h64 k h (Nat.le_refl _) k2 ho⟩
    · exact q.elim
  · exact q.elim
end
end
section
open Builtin.Str
section
variable {prog:Program} {w:World} {A:Around} {E:Value→Shared→Prop} {s:Shared}
end
section
variable {X:Cx}
def aXG:RM3:=fun x xs G R=>match x,xs with
  | .str a,[.str b]=>(b.length == 0)=false∧a.length+2≤sizeLine∧(Txt.split a b).length≤sizeLine∧∀ q,G q=none→R (.ref q) (aQ G q (.lst ((Txt.split a b).map D.str)))
  | _,_=>False
def aLD:List D→Gp→pX→Prop:=fun xs G R=>match xs with
  | [.int i]=>i.natAbs.log2 < 1920∧R (.str (toString i)) G
  | [.str z]=>R (.str z) G
  | _=>False
theorem apJ:a8Q X (.type "str") (fun xs H Q=>(∃ i,xs=[.int i]∧i.natAbs.log2 < 1920∧Q (.str (toString i)) H)∨∃ z,xs=[.str z]∧Q (.str z) H):=by
  intro pins s σ H xs us Q I r h
  rcases h with ⟨i,rfl,hz,q⟩ | ⟨z,rfl,q⟩
  · obtain ⟨u,rfl,t,rfl⟩:=vals1 r
    exact PySem.P.str_of_int hz ⟨.str _,H,I.tok _,⟨_,rfl⟩,q⟩
  · obtain ⟨u,rfl,t,rfl⟩:=vals1 r
    exact PySem.P.str_of_str ⟨.str _,H,I,⟨_,rfl⟩,q⟩
theorem aVA:mL X (.type "str") aLD:=mL.of apJ fun H xs vs G R Q rx g q k=>by
  cases rx with
  | nil=>exact False.elim q
  | cons r rr =>
    cases rr with
    | cons _ _=>cases r <;> exact False.elim q
    | nil =>
      cases r with
      | int i=>exact .inl ⟨i,rfl,q.1,fun _=>k _ H _ G (.refl H) (.str _) g q.2⟩
      | str z=>exact .inr ⟨z,rfl,fun _=>k _ H _ G (.refl H) (.str _) g q⟩
      | _=>exact False.elim q
def ay6:List D→Gp→pX→Prop:=fun xs G R=>match xs with
  | [.ref q]=>(match cH G q with
    | some ds=>R (.tup ds) G
    | none=>False)
  | _=>False
theorem aHP:mL X (.type "tuple") ay6:=mL.of amL fun H xs vs G R Q rx g q k=>by
  cases rx with
  | nil=>exact False.elim q
  | cons r rr =>
    cases rr with
    | cons _ _=>cases r <;> exact False.elim q
    | nil =>
      cases r with
      | ref a =>
        have q':(match cH G a with
          | some ds=>R (.tup ds) G
          | none=>False):=q
        split at q'
        · rename_i ds e1
          obtain ⟨xs,h1,r1⟩:=gW g e1
          refine ⟨a,xs,rfl,.inl ⟨h1,fun l hl kf=>?_⟩⟩
          have sn:Same H (upd H l (.tup xs)):=cR hl
          exact k _ _ _ _ (.same sn) (.tup (SqT.of aU) (r1.mono (.same sn)) aU) (g.same sn) q'
        · exact q'.elim
      | _=>exact False.elim q
end
end
section
section
variable {X:Cx} {pins:List (Addr×Obj)} {σ:St} {H:Hp} {s:Shared} {tl:List (Addr×List V)}
end
end
section
open PySem.W
section
variable {prog:Program} {w:World} {A:Around} {E:Value→Shared→Prop} {s:Shared}
def anW (xs ps:List (Key×Value)):List (Key×Value):=ps.foldl (fun acc x=>stored acc x.1 x.2) xs
theorem apK {h h':Heap} {d:Addr} {xs:List (Key×Value)} (hm:h.DictOf (bH prog w) d xs) (k:∀ o,h.get? d=some o→h'.get? d=some o):h'.DictOf (bH prog w) d xs:=by
  obtain ⟨o,es,ep,h1,r⟩:=hm
  exact ⟨o,es,ep,k _ h1,r⟩
def aD4 (prog:Program) (w:World) (I d:Addr) (h:Heap) (v:Value) (x:Key×Value):Prop:=∃ p o n key,v = .ref p∧h.get? p=some o∧o.cls = .type "tuple" ∧ o.data = .seq #[key,x.2] n∧(bH prog w).is x.1 key=true∧p≠I∧p≠d
theorem aD4.keep {I d:Addr} {h h':Heap} {v:Value} {x:Key×Value} (q:aD4 prog w I d h v x) (k:∀ b o,b≠d→b≠I→h.get? b=some o→h'.get? b=some o):aD4 prog w I d h' v x:=by
  obtain ⟨p,o,n,key,e,h1,h2,h3,h4,h5,h6⟩:=q
  exact ⟨p,o,n,key,e,k _ _ h6 h5 h1,h2,h3,h4,h5,h6⟩
theorem aD5 {R:Result→Shared→Prop} {d I l:Addr} {its:Array Value} {ps:List (Key×Value)} (hh:A.handled=none) (hdI:d≠I) (hlI:l≠I) (hld:l≠d) (hlen:its.size=ps.length) :
    ∀ (k i:Nat) (s:Shared) (xs:List (Key×Value)) (j:Int) (t:Tok),ps.length - i=k→i≤ps.length→s.heap.IsListIter I l i→s.heap.IsList l its→s.heap.DictOf (bH prog w) d xs→xs.length+(ps.length - i)≤sizeLine →
      (∀ (i:Nat) (v:Value) (x:Key×Value),its[i]?=some v→ps[i]?=some x→aD4 prog w I d s.heap v x) →
      (∀ h' tk,h'.DictOf (bH prog w) d (anW xs (ps.drop i))→(∀ b o,b≠d→b≠I→s.heap.get? b=some o→h'.get? b=some o)→R (.ok (.ret .none)) { s with heap:=h',toks:=tk }) →
      codeAny (model prog w) A (.builtin "dict.update.loop" ⟨[.ref d,.ref I,.int j t,.none],[]⟩) R s:=by
  intro k
  induction k with
  | zero =>
    intro i s xs j t hk hi hst hl hd hz hp hR
    have hin:i=ps.length:=by omega
    refine codeAny_builtin asO ?_
    rw [Around.under_plainId adR _]
    show wpAny _ A.in1 (pyNext (.ref I) >>= _) _ _ s
    have W:=Walks.list (prog:=prog) (w:=w) (A:=A.in1) hh I l hlI its
    refine wpAny_bind (W.done s _ _ (by rw [hlen,← hin];exact ⟨hst,hl⟩) fun h' tk kk=>?_)
    have hd':h'.DictOf (bH prog w) d xs:=apK hd (fun o e=>kk _ _ (by simpa using hdI) e)
    show wpAny _ A.in1 (Builtin.Dict.addKeywords d [] >>= _) _ _ _
    refine wpAny_bind (wpAny_pure (wpAny_pure ?_))
    refine hR h' tk (by rw [hin,List.drop_length];exact hd') fun b o h1 h2 e=>kk b o (by simpa using h2) e
  | succ k ih =>
    intro i s xs j t hk hi hst hl hd hz hp hR
    have hlt:i < ps.length:=by omega
    refine codeAny_builtin asO ?_
    rw [Around.under_plainId adR _]
    show wpAny _ A.in1 (pyNext (.ref I) >>= _) _ _ s
    have W:=Walks.list (prog:=prog) (w:=w) (A:=A.in1) hh I l hlI its
    refine wpAny_bind (W.item i s _ _ (by omega) ⟨hst,hl⟩ fun v h' tk hP hst' kk=>?_)
    obtain ⟨x,hxi⟩:∃ x,ps[i]?=some x:=⟨_,List.getElem?_eq_getElem hlt⟩
    have k1:∀ b o,b≠d→b≠I→s.heap.get? b=some o→h'.get? b=some o:=fun b o _ h2 e=>kk b o (by simpa using h2) e
    have hd':h'.DictOf (bH prog w) d xs:=apK hd (fun o e=>kk _ _ (by simpa using hdI) e)
    obtain ⟨p,o,n,key,rfl,q1,q2,q3,hkey,_,_⟩:=(hp i v x hP hxi).keep k1
    refine wpAny_bind (wpAny_holding (wpAny_bind (wpAny_tryCatch ?_)))
    unfold Builtin.Dict.pairItems
    refine wpAny_bind (wpAny_typeOf (s:={ s with heap:=h',toks:=tk }) (T := "tuple") ⟨o,q1,q2⟩ ?_)
    rw [if_pos (by decide)]
    refine wpAny_bind (wpAny_seqItems (s:={ s with heap:=h',toks:=tk }) q1 q3 (wpAny_pure ?_))
    show wpAny _ A.in1 (holding [key,x.2] (dictSet d key x.2)) _ _ _
    refine wpAny_holding (wpAny_dictSet_pairs (s:={ s with heap:=h',toks:=tk }) hkey hd' (fun h2 hd2 hs2=>?_) (by omega))
    have k2:∀ b o,b≠d→b≠I→s.heap.get? b=some o→h2.get? b=some o:=fun b o h1 hI e=>(hs2.2 b h1).trans (k1 b o h1 hI e)
    refine wpAny_pure ⟨plainId_quiet adR _,ih (i+1) _ (stored xs x.1 x.2) _ _ (by omega) hlt (hst'.1.at fun o e=>(hs2.2 I (Ne.symm hdI)).trans e) (hst'.2.at fun o e=>(hs2.2 l hld).trans e) hd2 (by have:=stored_length_le xs x.1 x.2;omega) (fun i v x e1 e2=>(hp i v x e1 e2).keep k2) fun h3 tk3 hd3 k3=>?_⟩
    refine hR h3 tk3 ?_ fun b o h1 hI e=>k3 b o h1 hI (k2 b o h1 hI e)
    have:ps.drop i=x :: ps.drop (i+1):=by
      rw [List.drop_eq_getElem_cons hlt]
      rw [List.getElem?_eq_getElem hlt] at hxi
      cases hxi;rfl
    rw [this]
    exact hd3
def aHQ (prog:Program) (w:World) (h:Heap) (v:Value) (x:Key×Value):Prop:=∃ p o n key,v = .ref p∧h.get? p=some o∧o.cls = .type "tuple" ∧ o.data = .seq #[key,x.2] n∧(bH prog w).is x.1 key=true
theorem aHQ.ok {I d:Addr} {h h':Heap} {v:Value} {x:Key×Value} (q:aHQ prog w h v x) (hI:h.objs.size≤I) (hd:h.objs.size≤d) (k:∀ b o,h.get? b=some o→h'.get? b=some o):aD4 prog w I d h' v x:=by
  obtain ⟨p,o,n,key,e,h1,h2,h3,h4⟩:=q
  have l1:=Heap.lt_size h1
  exact ⟨p,o,n,key,e,k _ _ h1,h2,h3,h4,Nat.ne_of_lt (Nat.lt_of_lt_of_le l1 hI),Nat.ne_of_lt (Nat.lt_of_lt_of_le l1 hd)⟩
theorem aD6 {l:Addr} {o:Obj} {its:Array Value} {n:Nat} {ps:List (Key×Value)} {Q:Value→Shared→Prop} (hh:A.handled=none) (hl:s.heap.get? l=some o) (hc:o.cls = .type "list") (hdat:o.data = .seq its n) (hdn:o.dict=none) (hlen:its.size=ps.length) (hz:ps.length≤sizeLine)
    (hp:∀ (i:Nat) (v:Value) (x:Key×Value),its[i]?=some v→ps[i]?=some x→aHQ prog w s.heap v x)
    (h:∀ h' tk,h'.DictOf (bH prog w) s.heap.objs.size (anW [] ps)→(∀ b o,s.heap.get? b=some o→h'.get? b=some o)→Q (.ref s.heap.objs.size) { s with heap:=h',toks:=tk }) :
    wpAny (model prog w) A (call (.type "dict") [.ref l]) Q E s:=by
  refine callType_codes (Q₁:=fun obj s₁=>obj = .ref s.heap.objs.size∧s₁={ s with heap:=s.heap.push { cls := .type "dict",data := .dict #[] } }) F.kt_called_dict (F.kt_typeCall_dict_1 _) F.entry_dict_init (kt_code_dict_new _ ⟨rfl,rfl⟩) ?_
  rintro obj s₁ ⟨rfl,rfl⟩
  have kp:∀ b o,s.heap.get? b=some o→(s.heap.push { cls := .type "dict",data := .dict #[] }).get? b=some o:=fun b o e=>Heap.get?_push_of_some _ e
  have hnew:(s.heap.push { cls := .type "dict",data := .dict #[] }).DictOf (bH prog w) s.heap.objs.size []:=Heap.DictOf.new s.heap
  have hdl:l≠s.heap.objs.size:=Nat.ne_of_lt (Heap.lt_size hl)
  refine ⟨hnew.typeIs,F.args_dict_init_2 _ _,?_⟩
  unfold Builtin.«dict.__init__»
  refine wpAny_bind ?_
  unfold Builtin.Dict.selfAndRest
  refine wpAny_bind (wpAny_notOrdered_dict hnew.typeIs ?_)
  show wpAny _ _ (pure (s.heap.objs.size,[Value.ref l])) _ _ _
  refine wpAny_pure ?_
  show wpAny _ _ (Builtin.Dict.updateFrom "dict.__init__" s.heap.objs.size (.ref l) [] .none) _ _ _
  unfold Builtin.Dict.updateFrom
  refine wpAny_bind (wpAny_typeOf (T := "list") ⟨o,kp _ _ hl,hc⟩ ?_)
  rw [if_pos (by decide)]
  refine wpAny_bind (aHK (kp _ _ hl) hc hdat hdn hh fun h' tk k1=>?_)
  rw [if_pos (by rfl)]
  refine wpAny_bind (wpAny_rule ?_)
  have hl1:h'.IsList l its:=⟨o,k1 _ _ (kp _ _ hl),hc,n,hdat⟩
  refine wpAny_bind (wpAny_pyIter_list (s:={ s with heap:=h',toks:=tk }) hl1 ?_)
  have k2:∀ b o,s.heap.get? b=some o→(h'.push { cls := .type "list_iterator",data := .fields #[.ref l,rawInt 0] }).get? b=some o:=fun b o e=>Heap.get?_push_of_some _ (k1 _ _ (kp _ _ e))
  have sz1:s.heap.objs.size < h'.objs.size:=Heap.lt_size (k1 s.heap.objs.size _ (Heap.get?_push_size _ rfl))
  refine wpAny_pure ⟨plainId_quiet adR _,aD5 (A:=A.in1) (its:=its) (ps:=ps) hh (Nat.ne_of_lt sz1) (Nat.ne_of_lt (Heap.lt_size hl1.choose_spec.1)) hdl hlen ps.length 0 _ [] _ _ rfl (Nat.zero_le _) ⟨_,Heap.get?_push_size _ rfl,rfl,rfl⟩ (hl1.at fun o e=>Heap.get?_push_of_some _ e) (apK hnew (fun o e=>Heap.get?_push_of_some _ (k1 _ _ e))) (by simp;omega) (fun i v x e1 e2=>(hp i v x e1 e2).ok (Nat.le_of_lt sz1) (Nat.le_refl _) k2) fun h3 tk3 hd3 k3=>?_⟩
  exact ⟨rfl,h h3 tk3 hd3 fun b o e=>k3 b o (Nat.ne_of_lt (Heap.lt_size e)) (Nat.ne_of_lt (Nat.lt_trans (Heap.lt_size e) sz1)) (k2 b o e)⟩
end
def aLE:D→Option (Key×D)
  | .tup [y,z]=>(match aCY y with
    | some k=>some (k,z)
    | none=>none)
  | _=>none
def apL:List D→Option (List (Key×D))
  | []=>some []
  | d :: r=>match aLE d,apL r with
    | some p,some ps=>some (p :: ps)
    | _,_=>none
def aD7 (kvs:List (DK×D)) (ps:List (Key×D)):List (DK×D):=ps.foldl (fun acc p=>pA acc (.inl p.1) p.2) kvs
inductive azY (K:Fg) (H:Hp):List (Key×D)→List (Key×Value)→Prop where
  | nil:azY K H [] []
  | cons {k:Key} {vz:V} {u:Value} {d:D} {kvs:List (Key×D)} {ps:List (Key×Value)}:RD K H d vz→RelV vz u→azY K H kvs ps→azY K H ((k,d) :: kvs) ((k,u) :: ps)
theorem azZ (ps:List (Key×Value)):∀ xs,(anW xs ps).length≤xs.length+ps.length:=by
  induction ps with
  | nil=>intro xs;simp [anW]
  | cons p r ih =>
    intro xs
    have:=ih (stored xs p.1 p.2)
    have:=stored_length_le xs p.1 p.2
    simp only [anW,List.foldl_cons,List.length_cons] at *
    omega
theorem azY.fold {K:Fg} {H:Hp} {kvs:List (Key×D)} {ps:List (Key×Value)} (h:azY K H kvs ps):∀ {k0:List (DK×D)} {y0:List (Key×V)} {p0:List (Key×Value)},KV y0 p0→a6D K H .inl k0 y0→∃ ys,KV ys (anW p0 ps)∧a6D K H .inl (aD7 k0 kvs) ys:=by
  induction h with
  | nil=>intro k0 y0 p0 a b;exact ⟨y0,a,b⟩
  | @cons k vz u d kvs ps rd rv _ ih =>
    intro k0 y0 p0 a c
    exact ih (KV.put a k rv) (adP a08 rd c)
section
variable {X:Cx}
theorem ay7 {pins:List (Addr×Obj)} {σ:St} {H:Hp} {s:Shared} (I:Inv X pins σ H s):∀ {ds:List D} {zs:List V} {its:List Value} {kvs:List (Key×D)},iJ X.K H ds zs→Vals zs its→apL ds=some kvs →
    ∃ ps,azY X.K H kvs ps∧its.length=ps.length∧∀ (i:Nat) (v:Value) (x:Key×Value),its[i]?=some v→ps[i]?=some x→aHQ X.prog X.w s.heap v x
  | _,_,_,_,.nil,.nil,e=>by cases e;exact ⟨[],.nil,rfl,fun i v x e=>by simp at e⟩
  | d :: ds,z :: zs,u :: its,kvs,.cons r rs,.cons v vs,e=>by
    unfold apL at e
    split at e
    · rename_i p ps' e1 e2
      cases e
      obtain ⟨ps,hp,hl,hq⟩:=ay7 I rs vs e2
      unfold aLE at e1
      split at e1
      · rename_i y z'
        split at e1
        · rename_i k e3
          cases e1
          cases r with
          | @tup a xs _ sq rr _ =>
          obtain rfl:u=Value.ref a:=v
          cases rr with
          | cons r1 rr =>
          cases rr with
          | @cons _ vz _ _ r2 rr =>
          cases rr
          have ek:=ay0 r1 e3
          subst ek
          obtain ⟨i2,vi,⟨o,h1,h2,n,h3⟩,_⟩:=I.tuple sq
          cases vi with
          | @cons _ uk _ _ va vi =>
          cases vi with
          | @cons _ uz _ _ vb vi =>
          cases vi
          refine ⟨(k,uz) :: ps,.cons r2 vb hp,by simp [hl],fun i v x e1 e2=>?_⟩
          cases i with
          | zero =>
            simp at e1 e2
            subst e1 e2
            exact ⟨a,o,n,uk,rfl,h1,h2,by simpa using h3,abK va⟩
          | succ i=>exact hq i v x (by simpa using e1) (by simpa using e2)
        · cases e1
      · cases e1
    · cases e
def a6F:List D→Gp→pX→Prop:=fun xs G R=>match xs with
  | [.ref a]=>(match cH G a with
    | some ds=>(match apL ds with
      | some kvs=>∀ r,G r=none→R (.ref r) (aQ G r (.eN false (aD7 [] kvs)))
      | none=>False)
    | none=>False)
  | _=>False
theorem aHR (hc:X.calm=true):mL X (.type "dict") a6F:=by
  intro pins s σ H xs vs us G R Q I rx rv g q k
  unfold a6F at q
  split at q
  · rename_i a
    split at q
    · rename_i ds e1
      split at q
      · rename_i kvs e2
        cases rx with
        | cons r1 rr =>
        cases rr;cases r1
        cases rv with
        | cons rv rr =>
        cases rr
        cases rv
        obtain ⟨zs,hq,r⟩:=gW g e1
        obtain ⟨its,vi,⟨o,n,h1,h2,h3,h4⟩,hz⟩:=I.list hq
        obtain ⟨ps,hp,hl,hat⟩:=ay7 I r vi e2
        have hpz:ps.length≤sizeLine:=by rw [← hl,← vi.length];exact hz
        refine aD6 (I.ok.hd hc) h1 h2 h4 h3 (by simpa using hl) hpz (fun i v x e1 e2=>hat i v x (by simpa using e1) e2) fun h' tk hd kk=>?_
        obtain ⟨ys,kt,tw⟩:=hp.fold (k0:=[]) (y0:=[]) (p0:=[]) .nil .nil
        have fr:H s.heap.objs.size=none:=I.hok.fresh (Nat.le_refl _)
        have sn:Same H (upd H s.heap.objs.size (.dK ys)):=cR fr
        have hys:ys.length≤sizeLine:=by rw [KV.length kt];have:=azZ ps [];simp at this;omega
        have J:Inv X pins σ (upd H s.heap.objs.size (.dK ys)) { s with heap:=h',toks:=tk }:=I.laid (t':=tk) (o := .dK ys) kk (Nat.le_refl _) ⟨hys,(by have:=I.big;simp;exact Nat.ne_of_gt this),_,kt,hd⟩
        exact ⟨.ref s.heap.objs.size,_,J,rfl,k _ _ (.ref _) _ (.same sn) (.ref _) (g.put (u := .eN false _) fr (.inl ⟨rfl,ys,aU,tw.imp fun _ _ z=>⟨z.1,z.2.mono (.same sn)⟩⟩)) (q _ (tK g fr (a7R J)))⟩
      · exact q.elim
    · exact q.elim
  · exact q.elim
end
end
section
open PySem.W
section
variable {prog:Program} {w:World} {A:Around} {E:Value→Shared→Prop} {s:Shared}
end
section
variable {X:Cx}
end
end
section
open PySem.W
section
variable {X:Cx}
theorem Inv.grown {pins:List (Addr×Obj)} {σ:St} {H H':Hp} {s:Shared} {h':Heap} {t':Nat} (I:Inv X pins σ H s) (k:∀ b u,s.heap.get? b=some u→h'.get? b=some u) (hs:Same H H') (hn:∀ b u,H' b=some u→H b=some u∨(s.heap.objs.size≤b∧pW X.prog X.w H' h' b u)):Inv X pins σ H' { s with heap:=h',toks:=t' }:=by
  refine I.un ⟨fun b ob q _ _ _=>k b ob q,fun b ob q _ _ _=>⟨ob.slots,k b ob q⟩,fun b ob q n _=>?_,fun b ob q _=>⟨ob,k b ob q⟩,fun b xs q=>hs _ _ q,fun b o u q=>hs _ _ q,fun b ps q=>⟨#[],by rw [hs _ _ q];simp⟩⟩ fun a o e=>?_
  · cases z:H' b with
    | none=>rfl
    | some u =>
      rcases hn b u z with w | ⟨w,_⟩
      · rw [n] at w;cases w
      · exact absurd (Heap.lt_size q) (Nat.not_lt.mpr w)
  · rcases hn a o e with w | ⟨_,w⟩
    · exact (I.hok a o w).stay (fun c v _ q=>k c v q) (fun c q=>hs _ _ q) fun c xs q=>hs _ _ q
    · exact w
theorem aA0 {pins:List (Addr×Obj)} {σ:St} {H:Hp} {s:Shared} {h1:Heap} {tk:Nat} (I:Inv X pins σ H s) (k:∀ b u,s.heap.get? b=some u→h1.get? b=some u) {as:List Addr} {ys:Nat→List V} {us:Nat→List Value} (nd:as.Nodup) (hi:∀ a∈as,s.heap.objs.size≤a)
    (ht:∀ j a,as[j]?=some a→Vals (ys j) (us j)∧(ys j).length≤sizeLine∧IsTup h1 a (us j).toArray):∃ H1,Inv X pins σ H1 { s with heap:=h1,toks:=tk }∧Same H H1∧∀ j a,as[j]?=some a→H1 a=some (.tup (ys j)):=by
  have fr:∀ a∈as,H a=none:=fun a ha=>I.hok.fresh (hi a ha)
  let H1:Hp:=fun b=>if b∈as then some (.tup (ys (as.idxOf b))) else H b
  have sm:Same H H1:=fun b o e=>by
    show (if b∈as then _ else _)=_
    rw [if_neg]
    · exact e
    · intro z;rw [fr b z] at e;cases e
  have at1:∀ j a,as[j]?=some a→H1 a=some (.tup (ys j)):=fun j a e=>by
    obtain ⟨hj,e2⟩:=List.getElem?_eq_some_iff.mp e
    show (if a∈as then _ else _)=_
    rw [if_pos (List.mem_of_getElem? e),← e2,nd.idxOf_getElem]
  refine ⟨H1,I.grown k sm fun b u e=>?_,sm,at1⟩
  by_cases z:b∈as
  · right
    refine ⟨hi b z,?_⟩
    obtain ⟨j,hj⟩:=List.mem_iff_getElem?.mp z
    have e3:=at1 j b hj
    rw [e3] at e
    cases e
    obtain ⟨t1,t2,t3⟩:=ht j b hj
    exact ⟨t2,us j,t1,t3⟩
  · left
    have e':(if b∈as then some (.tup (ys (as.idxOf b))) else H b)=some u:=e
    rw [if_neg z] at e'
    exact e'
def kpD (p:Int×Int):DK×D:=(.inl (.inl p.1),.int p.2)
theorem apM {K:Fg} {H:Hp}:∀ {ps:List (Int×Int)} {ys:List (Key×V)},a6D K H .inl (ps.map kpD) ys→ys=ps.map fun p=>(.inl p.1,.int p.2)
  | [],_,.nil=>rfl
  | p :: ps,y :: ys,.cons h r=>by
    obtain ⟨k,v⟩:=y
    obtain ⟨h1,h2⟩:=h
    have e1:(Sum.inl p.1:Key)=k:=by
      have:(Sum.inl (Sum.inl p.1):DK) = .inl k:=h1
      exact a08 _ _ this
    cases h2
    rw [apM r,← e1]
    rfl
theorem ahC:∀ {ps:List (Int×Int)} {vs:List (Key×Value)},KV (ps.map fun p=>((.inl p.1:Key),V.int p.2)) vs→vs.length=ps.length∧vs.map (·.1)=ps.map (fun p=>(.inl p.1:Key))∧∀ (j:Nat) (p:Int×Int),ps[j]?=some p→∃ t,vs[j]?=some (.inl p.1,Value.int p.2 t)
  | [],_,.nil=>⟨rfl,rfl,fun j p e=>by simp at e⟩
  | p :: ps,v :: vs,.cons h r=>by
    obtain ⟨a1,a2,a3⟩:=ahC r
    obtain ⟨k,u⟩:=v
    obtain ⟨h1,t,h2⟩:=h
    cases h1
    cases h2
    refine ⟨by simp [a1],by simp [a2],fun j q e=>?_⟩
    cases j with
    | zero=>simp at e;subst e;exact ⟨t,rfl⟩
    | succ j=>exact a3 j q (by simpa using e)
theorem asR {K:Fg} {H:Hp}:∀ {ps:List (Int×Int)} {as:List Addr},as.length=ps.length→(∀ (j:Nat) (a:Addr) (p:Int×Int),as[j]?=some a→ps[j]?=some p→H a=some (.tup [.int p.1,.int p.2]))→iJ K H (ps.map prV) (as.map V.ref)
  | [],[],_,_ => .nil
  | p :: ps,a :: as,hl,h=>by
    have e:=h 0 a p rfl rfl
    exact .cons (.tup (.inl (.of e)) (.cons (.int _) (.cons (.int _) .nil)) e) (asR (by simpa using hl) fun j b q e1 e2=>h (j+1) b q (by simpa using e1) (by simpa using e2))
theorem ay8:∀ as:List Addr,Vals (as.map V.ref) (as.map Value.ref)
  | [] => .nil
  | _ :: r => .cons rfl (ay8 r)
theorem avY {pins:List (Addr×Obj)} {σ:St} {H:Hp} {s:Shared} {G:Gp} {R:pX} {Q:VK} (hc:X.calm=true) (I:Inv X pins σ H s) (g:HR X.K H G) {a r:Addr} {ps:List (Int×Int)} (e:G a=some (.eN false (ps.map kpD))) (h64:ps.length < 2) (hv:s.heap.IsItemsView r a)
    (h:∀ qs:List (Int×Int),qs.Perm ps→uY qs→∀ r,G r=none→R (.ref r) (aQ G r (.lst (qs.map prV)))) (k:∀ v H' d G',Ts H H'→RD X.K H' d v→HR X.K H' G'→R d G'→Q v H'):wpAny (model X.prog X.w) X.A (call (.builtin "sorted") [.ref r]) (EP X pins σ Q) X.xe s:=by
  have big:1000 < sizeLine:=by decide
  rcases g a _ e with ⟨_,ys,e1,tw⟩ | ⟨z,_⟩
  · have ey:=apM tw
    subst ey
    obtain ⟨z1,hsm,vs,kv,hd⟩:=ah7 I.hok e1
    obtain ⟨l1,l2,l3⟩:=ahC kv
    obtain ⟨o,es,ep,q1,q2,q3,q4,q5,q6⟩:=hd
    have hat:s.heap.DictAt (bH X.prog X.w) a vs ep:=⟨o,es,q1,q2,q3,q4,q5,q6⟩
    have nk:(ps.map fun p=>(.inl p.1:Key)).Nodup:=by rw [← l2];exact q6
    have nd:ps.Nodup:=(List.pairwise_map.mp nk).imp fun h z=>h (by rw [z])
    refine ay5 (CV:=fun us h'=>∃ as:List Addr,us=as.map Value.ref∧as.length=ps.length∧KdxG (bH X.prog X.w) vs s.heap.objs.size h' as) (fun R' E' hR=>kdx_collect (I.ok.hd hc) hv hat (by omega) fun h' tk as kk hl hG=>hR _ h' tk kk ⟨as,rfl,hl.trans l1,hG⟩) fun us h1 tk k1 cv=>?_
    obtain ⟨as,rfl,hl,hG⟩:=cv
    have ex:∀ j:Nat,∃ uu:List Value,∀ b,as[j]?=some b→Vals [V.int (ps.getD j (0,0)).1,V.int (ps.getD j (0,0)).2] uu∧IsTup h1 b uu.toArray:=fun j=>by
      cases ea:as[j]? with
      | none=>exact ⟨[],fun b z=>by cases z⟩
      | some b =>
        obtain ⟨key,kk,x,p1,p2,p3⟩:=hG.pairs j b ea
        have hj:j < ps.length:=by rw [← hl];exact (List.getElem?_eq_some_iff.mp ea).1
        obtain ⟨t,p4⟩:=l3 j ps[j] (List.getElem?_eq_getElem hj)
        rw [p4] at p1
        cases p1
        have gd:ps.getD j (0,0)=ps[j]:=getD_at hj
        refine ⟨[key,Value.int ps[j].2 t],fun b' z=>?_⟩
        cases z
        rw [gd]
        refine ⟨.cons ?_ (.cons ⟨t,rfl⟩ .nil),⟨_,p3,rfl,_,rfl⟩⟩
        rcases jE (show ajO (Sum.inl ps[j].1) key=true from p2) with ⟨i,t',e1,e2⟩ | ⟨i,t',e1,e2⟩
        · cases e1
          exact ⟨t',e2⟩
        · cases e1
    obtain ⟨us,hus⟩:=Classical.axiomOfChoice ex
    obtain ⟨H1,I1,sm,at1⟩:=aA0 (tk:=tk) I k1 (as:=as) (ys:=fun j=>[V.int (ps.getD j (0,0)).1,V.int (ps.getD j (0,0)).2]) (us:=us) (hG.rise.imp Nat.ne_of_lt) (fun b hb=>Nat.le_of_lt (hG.above b hb)) fun j b e=>⟨(hus j b e).1,by show 2≤sizeLine;omega,(hus j b e).2⟩
    have rds:iJ X.K H1 (ps.map prV) (as.map V.ref):=asR hl fun j b p e1 e2=>by
      have z:=at1 j b e1
      obtain ⟨hj,e3⟩:=List.getElem?_eq_some_iff.mp e2
      rw [getD_at hj,e3] at z
      exact z
    have vi:=ay8 as
    have g1:HR X.K H1 G:=g.same sm
    exact ⟨by rw [List.length_map,hl];exact h64,fun h' c k2 ho=>akD (s:={ s with heap:=h1,toks:=tk }) I1 g1 rds vi h64 (fun v H' d G' t=>k v H' d G' ((Ts.same sm).trans t)) h (Nat.le_refl _) k2 ho⟩
  · cases z
def a2J (x:D) (G:Gp) (R:pX):Prop:=match x with
  | .ref a=>(match G a with
    | some (.eN false kvs)=>∃ ps:List (Int×Int),kvs=ps.map kpD∧ps.length < 2∧∀ qs:List (Int×Int),qs.Perm ps→uY qs→∀ r,G r=none→R (.ref r) (aQ G r (.lst (qs.map prV)))
    | _=>False)
  | _=>False
theorem avZ {x:D} {G:Gp} {R:pX} (h:a2J x G R):∃ a,∃ ps:List (Int×Int),x = .ref a∧G a=some (.eN false (ps.map kpD))∧ps.length < 2∧∀ qs:List (Int×Int),qs.Perm ps→uY qs→∀ r,G r=none→R (.ref r) (aQ G r (.lst (qs.map prV))):=by
  unfold a2J at h
  split at h
  · split at h
    · rename_i e
      obtain ⟨ps,rfl,h1,h2⟩:=h
      exact ⟨_,ps,rfl,e,h1,h2⟩
    · exact h.elim
  · exact h.elim
def adS (to:dZ):dZ:=fun ρ G R=>to ρ G fun x G1=>a2J x G1 R
theorem ay9 {K:Fg} {H:Hp} {G:Gp} {a:Addr} {kvs:List (DK×D)} (g:HR K H G) (e:G a=some (.eN false kvs)):IsD H a:=by
  rcases g a _ e with ⟨_,ys,e1,_⟩ | ⟨z,_⟩
  · exact .inl ⟨ys,.of e1⟩
  · cases z
theorem aHS {o:Expr} {to:dZ} {x:Str} {apos cpos p pos:Pos} (hc:X.calm=true) (ho:gB X o to) (hg:Gl X x) (hm:X.mg x=none) (hv:bootBuiltins x=some (.builtin "sorted")) (hn:x ≠ "__name__") (hdb:(x == ("__debug__" : Str))=false)
    (hbase:attributeBase o "items" X.env (eval o X.env)=eval o X.env) (hline:(apos.endLine == cpos.line)=true) :
    gB X (.Call (.Name x p) [.Call (.Attribute o "items" apos) [] [] cpos] [] pos) (adS to):=by
  intro pins s σ H Q I h
  obtain ⟨ρ,G,R,sr,g,q,kk⟩:=h
  refine wpAny_Call_Name_kw (afI I hg hm hv ?_ hn hdb)
  refine PyProof.Rows.callWith_builtin1 (Calls.spliced_cons ?_)
  refine wpAny_Call_method0_late hbase hline (jU (ho pins s σ H (fun vx H1=>Ts H H1∧∃ x G1,RD X.K H1 x vx∧HR X.K H1 G1∧a2J x G1 R) I ⟨ρ,G,_,sr,g,q,fun v H1 x G1 t1 r1 g1 q1=>⟨t1,x,G1,r1,g1,q1⟩⟩) fun v s1 ⟨vx,H1,I1,r1,t1,x1,G1,rx,g1,q1⟩=>?_)
  obtain ⟨a,ps,rfl,e1,h64,hq⟩:=avZ q1
  cases rx
  obtain rfl:v=Value.ref a:=r1
  obtain ⟨h1,h2,h3⟩:=aoU I1 (ay9 g1 e1)
  refine ⟨"dict", "dict.items",PySem.F.plainAttrs_dict,PySem.F.slot_dict_items,PySem.F.type_dict_items,h1,h2,Calls.callWith_builtin rfl (PySem.evalArgs_none ?_)⟩
  rcases g1 a _ e1 with ⟨_,ys,e2,tw⟩ | ⟨z,_⟩
  · obtain ⟨z1,hsm,vs,kv,hd⟩:=ah7 I1.hok e2
    refine call_meetsIn PySem.F.slot_dict_items h1 PySem.F.entry_dict_items (PySem.F.args_dict_items_1 _) (meets_dict_items (bH X.prog X.w) a hsm) ⟨⟨vs,hd⟩,?_⟩
    refine Calls.spliced_nil ?_
    have I2:Inv X pins σ H1 { s1 with heap:=s1.heap.push { cls := .type "dict_items",data := .fields #[.ref a] },toks:=s1.toks }:=I1.kept fun b o e=>Heap.get?_push_of_some _ e
    exact avY (s:={ s1 with heap:=s1.heap.push { cls := .type "dict_items",data := .fields #[.ref a] } }) hc I2 g1 e1 h64 ⟨_,Heap.get?_push_size _ rfl,rfl,rfl⟩ hq fun v H' d G' t=>kk v H' d G' (t1.trans t)
  · cases z
theorem asS:∀ l:List Int,preSum (fun i=>l.getD i 0) l.length=l.sum
  | []=>rfl
  | x :: l=>by
    rw [List.length_cons,kdu_shift,List.sum_cons,← asS l]
    rfl
def a92 (x:D) (G:Gp) (R:pX):Prop:=match x with
  | .ref a=>(match G a with
    | some (.eN false kvs)=>∃ ps:List (Int×Int),kvs=ps.map kpD∧R (.int (ps.map (·.2)).sum) G
    | _=>False)
  | _=>False
theorem aA1 {x:D} {G:Gp} {R:pX} (h:a92 x G R):∃ a,∃ ps:List (Int×Int),x = .ref a∧G a=some (.eN false (ps.map kpD))∧R (.int (ps.map (·.2)).sum) G:=by
  unfold a92 at h
  split at h
  · split at h
    · rename_i e
      obtain ⟨ps,rfl,h1⟩:=h
      exact ⟨_,ps,rfl,e,h1⟩
    · exact h.elim
  · exact h.elim
def apO (to:dZ):dZ:=fun ρ G R=>to ρ G fun x G1=>a92 x G1 R
theorem aPI {o:Expr} {to:dZ} {x:Str} {apos cpos p pos:Pos} (hc:X.calm=true) (ho:gB X o to) (hg:Gl X x) (hm:X.mg x=none) (hv:bootBuiltins x=some (.builtin "sum")) (hn:x ≠ "__name__") (hdb:(x == ("__debug__" : Str))=false)
    (hbase:attributeBase o "values" X.env (eval o X.env)=eval o X.env) (hline:(apos.endLine == cpos.line)=true) :
    gB X (.Call (.Name x p) [.Call (.Attribute o "values" apos) [] [] cpos] [] pos) (apO to):=by
  intro pins s σ H Q I h
  obtain ⟨ρ,G,R,sr,g,q,kk⟩:=h
  refine wpAny_Call_Name_kw (afI I hg hm hv ?_ hn hdb)
  refine PyProof.Rows.callWith_builtin1 (Calls.spliced_cons ?_)
  refine wpAny_Call_method0_late hbase hline (jU (ho pins s σ H (fun vx H1=>Ts H H1∧∃ x G1,RD X.K H1 x vx∧HR X.K H1 G1∧a92 x G1 R) I ⟨ρ,G,_,sr,g,q,fun v H1 x G1 t1 r1 g1 q1=>⟨t1,x,G1,r1,g1,q1⟩⟩) fun v s1 ⟨vx,H1,I1,r1,t1,x1,G1,rx,g1,q1⟩=>?_)
  obtain ⟨a,ps,rfl,e1,hq⟩:=aA1 q1
  cases rx
  obtain rfl:v=Value.ref a:=r1
  obtain ⟨h1,h2,h3⟩:=aoU I1 (ay9 g1 e1)
  refine ⟨"dict", "dict.values",PySem.F.plainAttrs_dict,PySem.F.slot_dict_values,PySem.F.type_dict_values,h1,h2,Calls.callWith_builtin rfl (PySem.evalArgs_none ?_)⟩
  rcases g1 a _ e1 with ⟨_,ys,e2,tw⟩ | ⟨z,_⟩
  · have ey:=apM tw
    subst ey
    obtain ⟨z1,hsm,vs,kv,hd⟩:=ah7 I1.hok e2
    obtain ⟨l1,l2,l3⟩:=ahC kv
    refine call_meetsIn PySem.F.slot_dict_values h1 PySem.F.entry_dict_values (PySem.F.args_dict_values_1 _) (meets_dict_values (bH X.prog X.w) a hsm) ⟨⟨vs,hd⟩,?_⟩
    refine Calls.spliced_nil ?_
    obtain ⟨o,es,ep,q1,q2,q3,q4,q5,q6⟩:=hd
    let oV:Obj:={ cls := .type "dict_values",data := .fields #[.ref a] }
    have hat:(s1.heap.push oV).DictAt (bH X.prog X.w) a vs ep:=⟨o,es,Heap.get?_push_of_some _ q1,q2,q3,q4,q5,q6⟩
    have hvw:(s1.heap.push oV).IsValuesView s1.heap.objs.size a:=⟨_,Heap.get?_push_size _ rfl,rfl,rfl⟩
    refine call_sum_walkAnyS ?_
    have KS:=kdl_values (prog:=X.prog) (w:=X.w) (knd:=bH X.prog X.w) (r:=s1.heap.objs.size) (d:=a) (kvs:=vs) (ep:=ep)
    obtain ⟨oI,St,hit,W,st⟩:=KS.iter X.A.in1 { s1 with heap:=s1.heap.push oV } (I1.ok.hd hc) ⟨hvw,hat⟩
    refine hit _ _ ⟨(s1.heap.push oV).objs.size,_,_,_,vs.length,_,_,(fun i=>(ps.map (·.2)).getD i 0),rfl,W.toS,st,fun b hb=>?_,?_,fun s' t' hm=>?_⟩
    · show b < ((s1.heap.push oV).push oI).objs.size
      rw [size_push']
      rcases List.mem_cons.mp hb with e | hb
      · rw [e];exact Nat.lt_succ_self _
      · rw [List.mem_singleton.mp hb];exact Nat.lt_succ_of_lt (KS.there _ ⟨hvw,hat⟩).2
    · intro i v hP
      obtain ⟨k,hk⟩:=hP
      have hi:i < ps.length:=by rw [← l1];exact (List.getElem?_eq_some_iff.mp hk).1
      obtain ⟨t,p4⟩:=l3 i ps[i] (List.getElem?_eq_getElem hi)
      rw [p4] at hk
      cases hk
      refine ⟨t,?_⟩
      have:(ps.map (·.2)).getD i 0=ps[i].2:=by simp [List.getD,hi]
      show Value.int ps[i].2 t=Value.int ((ps.map (·.2)).getD i 0) t
      rw [this]
    · have hk:∀ b o,s1.heap.get? b=some o→s'.heap.get? b=some o:=fun b o e =>
        hm.heap b o (fun hI=>absurd (Heap.lt_size e) (by have z:=List.mem_singleton.mp hI;rw [z];show ¬ (s1.heap.push oV).objs.size < _;rw [size_push'];exact Nat.not_lt.mpr (Nat.le_succ _))) (Heap.get?_push_of_some _ (Heap.get?_push_of_some _ e))
      rw [Moved.eq_with hm]
      have e5:vs.length=(ps.map (·.2)).length:=by rw [List.length_map,l1]
      rw [e5,asS]
      exact ⟨.int _,H1,I1.kept hk,⟨t',rfl⟩,kk _ H1 _ G1 t1 (.int _) g1 hq⟩
  · cases z
end
end
section
open PySem.W
section
variable {prog:Program} {w:World} {A:Around} {E:Value→Shared→Prop} {s:Shared}
def aHT (prog:Program) (w:World) (A:Around) (s:Shared) (x y:Value) (b:Bool):Prop:=∀ (E:Value→Shared→Prop) (Q:Bool→Shared→Prop),Q b s→wpAny (model prog w) A (eqBool x y) Q E s
def eqM (ps qs:List (Int×Int)):Bool:=ps.length == qs.length&&ps.all fun p=>bB qs p.1 == some p.2
theorem ayA {i:Int}:∀ qs:List (Int×Int),a8K (qs.map fun p=>((.inl p.1:Key),V.int p.2)) (.inl i)=(bB qs i).map V.int
  | []=>rfl
  | q :: qs=>by
    rw [List.map_cons]
    by_cases c:q.1=i
    · rw [a8R (by rw [c])]
      show _=(if q.1=i then some q.2 else bB qs i).map V.int
      rw [if_pos c]
      rfl
    · rw [a8S (fun z=>c (by simpa using z)),ayA qs]
      show _=(if q.1=i then some q.2 else bB qs i).map V.int
      rw [if_neg c]
theorem ajL {qs:List (Int×Int)} {kb:List (Key×Value)} (hb:KV (qs.map fun p=>((.inl p.1:Key),V.int p.2)) kb):∀ {ps:List (Int×Int)} {ka:List (Key×Value)},KV (ps.map fun p=>((.inl p.1:Key),V.int p.2)) ka→KeqHits A s kb ka (ps.all fun p=>bB qs p.1 == some p.2)
  | [],_,.nil => .nil
  | p :: ps,v :: ka,.cons h r=>by
    obtain ⟨k,u⟩:=v
    obtain ⟨h1,t,h2⟩:=h
    cases h1
    cases h2
    have ih:=ajL hb r
    have vl:=KV.val hb (.inl p.1)
    rw [ayA] at vl
    rw [List.all_cons]
    cases e:bB qs p.1 with
    | none =>
      rw [e] at vl
      have e2:valueAt kb (.inl p.1)=none:=by
        cases z:valueAt kb (.inl p.1) with
        | none=>rfl
        | some y=>rw [z] at vl;exact vl.elim
      exact .miss e2
    | some y =>
      rw [e] at vl
      cases z:valueAt kb (.inl p.1) with
      | none=>rw [z] at vl;exact vl.elim
      | some u =>
        rw [z] at vl
        obtain ⟨t',e3⟩:∃ t',u=Value.int y t':=vl
        subst e3
        have eb:((some y:Option Int) == some p.2)=(p.2 == y):=by
          show (y == p.2)=_
          exact Bool.eq_iff_iff.mpr ⟨fun z=>beq_iff_eq.mpr (beq_iff_eq.mp z).symm,fun z=>beq_iff_eq.mpr (beq_iff_eq.mp z).symm⟩
        rw [eb]
        exact .hit z ((MeetsSeq.EqGives.int _ _ _ _).at _ _) ih
theorem aHU {a b:Addr} {ps qs:List (Int×Int)} {ka kb:List (Key×Value)} (ha:(a == sysModules)=false) (hb:(b == sysModules)=false) (da:s.heap.DictOf (bH prog w) a ka) (db:s.heap.DictOf (bH prog w) b kb) (va:KV (ps.map fun p=>((.inl p.1:Key),V.int p.2)) ka) (vb:KV (qs.map fun p=>((.inl p.1:Key),V.int p.2)) kb) (hu:A.units < cLine) (sm:a=b→eqM ps qs=true):aHT prog w A s (.ref a) (.ref b) (eqM ps qs):=by
  intro E Q hq
  unfold eqBool
  refine wpAny_holding ?_
  show wpAny _ _ (if (Value.ref a == Value.ref b)=true then _ else _) Q E s
  by_cases c:(Value.ref a == Value.ref b)=true
  · rw [if_pos c]
    have e:a=b:=by have:=eq_of_beq c;injection this
    rw [sm e] at hq
    exact wpAny_bind (wpAny_rule (wpAny_pure hq))
  · rw [if_neg c]
    refine wpAny_bind (show wpAny _ _ (compareOp .Eq (.ref a) (.ref b)) _ _ _ from keq_eq ha hb da db hu (fun _=>ajL vb va) ?_)
    have l1:=(ahC va).1
    have l2:=(ahC vb).1
    rw [l1,l2]
    exact wpAny_truthy_bool hq
section
variable {κ:Type} [DecidableEq κ] {knd:HeapKind prog w κ}
inductive a7T (prog:Program) (w:World) (A:Around) (s:Shared) (xb:List (κ×Addr×Value)):List (κ×Addr×Value)→Bool→Prop
  | nil:a7T prog w A s xb [] true
  | miss {k:κ} {p:Addr×Value} {r:List (κ×Addr×Value)}:atKey xb k=none→a7T prog w A s xb ((k,p) :: r) false
  | hit {k:κ} {p q:Addr×Value} {r:List (κ×Addr×Value)} {e b:Bool}:atKey xb k=some q→aHT prog w A s p.2 q.2 e→a7T prog w A s xb r b→a7T prog w A s xb ((k,p) :: r) (e&&b)
theorem a7T.inv {xb:List (κ×Addr×Value)} {k:κ} {p:Addr×Value} {r:List (κ×Addr×Value)} {b:Bool} (h:a7T prog w A s xb ((k,p) :: r) b) :
    (atKey xb k=none∧b=false)∨∃ q e b',atKey xb k=some q∧aHT prog w A s p.2 q.2 e∧a7T prog w A s xb r b'∧b=(e&&b'):=by
  cases h with
  | miss z=>exact .inl ⟨z,rfl⟩
  | hit z y x=>exact .inr ⟨_,_,_,z,y,x,rfl⟩
theorem asT {nm:String} {a b:Addr} {xa xb:List (κ×Addr×Value)} {r:Bool} {Q:Bool→Shared→Prop} (na:(a == sysModules)=false) (nb:(b == sysModules)=false) (da:s.heap.DictOfH knd a xa) (db:s.heap.DictOfH knd b xb) (hu:knd.room A)
    (hits:xa.length=xb.length→a7T prog w A s xb xa r) (h:Q (xa.length == xb.length&&r) s):wpAny (model prog w) A (Builtin.Dict.samePairs nm a b) Q E s:=by
  obtain ⟨o1,es,ep,g1,_,g3,g4,g5,g6⟩:=da
  obtain ⟨o2,fs,fp,f1,_,f3,f4,f5,f6⟩:=db
  have la:xa.length=es.size:=(size_of_entries g4).symm
  have lb:xb.length=fs.size:=(size_of_entries f4).symm
  rw [la,lb] at h
  unfold Builtin.Dict.samePairs Builtin.Dict.showsAll
  rw [if_neg (by rw [na];decide),if_neg (by rw [nb];decide)]
  refine wpAny_bind (wpAny_pure (wpAny_bind (wpAny_pure (wpAny_bind (wpAny_dictEntries g1 g3 ?_)))))
  dsimp only
  refine wpAny_bind (wpAny_dictEntries f1 f3 ?_)
  by_cases sz:es.size=fs.size
  case neg =>
    rw [if_pos (by simpa using sz)]
    rw [show (es.size == fs.size)=false by simpa using sz,Bool.false_and] at h
    exact wpAny_bind (wpAny_rule (wpAny_pure h))
  case pos =>
    have hr:Q r s:=by simpa [sz] using h
    have ht:=hits (by rw [la,lb];exact sz)
    rw [if_neg (by rw [sz];simp)]
    refine wpAny_bind (wpAny_dictEpoch g1 g3 (wpAny_bind ?_));rw [Std.Legacy.Range.forIn_eq_forIn_range']
    simp only [Std.Legacy.Range.size,Nat.sub_zero,Nat.add_sub_cancel,Nat.div_one]
    refine wpAny_forIn_list _ (fun rest q s'=>s'=s∧q=(none,())∧∃ i,rest=List.range' i (es.size - i)∧i≤es.size∧a7T prog w A s xb (xa.drop i) r) _ ?_ ?_ _ _ ⟨rfl,rfl,0,by simp,Nat.zero_le _,ht⟩
    · rintro x rest q s' ⟨rfl,rfl,i,e1,i1,pre⟩
      have lt:i < es.size:=by
        rcases Nat.lt_or_ge i es.size with z | z
        · exact z
        · rw [Nat.sub_eq_zero_of_le z] at e1;simp at e1
      obtain ⟨rfl,e2⟩:x=i∧rest=List.range' (i+1) (es.size - (i+1)):=by
        rw [show es.size - i=(es.size - (i+1))+1 by omega,List.range'_succ] at e1
        injection e1 with z1 z2
        exact ⟨z1,z2⟩
      refine wpAny_bind (wpAny_dictEntries g1 g3 ?_)
      have lx:x < xa.length:=by rw [la];exact lt
      have en:es[x]?=some (entryOfKey knd xa[x]):=by rw [entry_at g4 x,List.getElem?_eq_getElem lx];rfl
      rw [en]
      obtain ⟨k,p,kp⟩:∃ k p,xa[x]=(k,p):=⟨_,_,rfl⟩
      have dr:xa.drop x=(k,p) :: xa.drop (x+1):=by rw [← kp];exact List.drop_eq_getElem_cons lx
      have hk:knd.is s'.heap k p.1:=by have:=g5 xa[x] (List.getElem_mem lx);rw [kp] at this;exact this
      rw [dr] at pre
      rw [kp]
      show wpAny _ _ (holding [Value.ref p.1,p.2] _ >>= _) _ _ _
      refine wpAny_bind (wpAny_holding (wpAny_bind ?_))
      refine wpAny_dictFind_heap hu hk f1 f3 f4 f5 f6 (fun no=>?_) fun j q2 hj=>?_
      · have z:=atKey_none_of_get no
        rcases pre.inv with ⟨_,er⟩ | ⟨_,_,_,hy,_⟩
        · rw [er] at hr
          refine wpAny_pure ?_
          show wpAny _ _ (if (!false)=true then _ else _) _ _ _
          rw [if_pos (by decide)]
          exact wpAny_pure (wpAny_pure hr)
        · rw [z] at hy;cases hy
      · have z:=atKey_of_get f6 hj
        refine wpAny_bind (wpAny_dictEntries f1 f3 ?_)
        rw [entry_at f4 j,hj]
        rcases pre.inv with ⟨hn,_⟩ | ⟨q3,e,b',hy,he,hrr,er⟩
        · rw [z] at hn;cases hn
        · rw [z] at hy
          cases hy
          refine wpAny_holding (he _ _ ?_)
          cases e with
          | false =>
            rw [er,Bool.false_and] at hr
            show wpAny _ _ (if (!false)=true then _ else _) _ _ _
            rw [if_pos (by decide)]
            exact wpAny_pure (wpAny_pure hr)
          | true =>
            rw [Bool.true_and] at er
            rw [← er] at hrr
            show wpAny _ _ (if (!true)=true then _ else _) _ _ _
            rw [if_neg (by decide)]
            refine wpAny_bind (wpAny_dictEpoch g1 g3 ?_)
            rw [if_neg (by simp)]
            exact wpAny_pure ⟨rfl,rfl,x+1,e2,lt,hrr⟩
    · rintro q s' ⟨rfl,rfl,i,e1,i1,pre⟩
      have en:i=es.size:=by
        rcases Nat.lt_or_ge i es.size with z | z
        · rw [show es.size - i=(es.size - (i+1))+1 by omega,List.range'_succ] at e1;cases e1
        · exact Nat.le_antisymm i1 z
      refine wpAny_pure ?_
      rw [en,← la,List.drop_length] at pre
      cases pre
      exact hr
theorem mQ {d:Addr} {xs:List (κ×Addr×Value)} (h:s.heap.DictOfH knd d xs):s.TypeIs (.ref d) "dict" := let ⟨o,_,_,h1,h2,_⟩:=h;⟨o,h1,h2.1⟩
theorem aPJ {a b:Addr} {xa xb:List (κ×Addr×Value)} {r:Bool} {Q:Value→Shared→Prop} (na:(a == sysModules)=false) (nb:(b == sysModules)=false) (da:s.heap.DictOfH knd a xa) (db:s.heap.DictOfH knd b xb) (hu:A.units < cLine) (hr:knd.room A.in1)
    (hits:xa.length=xb.length→a7T prog w A.in1 s xb xa r) (h:Q (.bool (xa.length == xb.length&&r)) s):wpAny (model prog w) A (compareOp .Eq (.ref a) (.ref b)) Q E s:=by
  refine wpAny_richCompare_same_room (op := .Eq) (mQ da) (mQ db) PySem.F.slot_dict_eq (wpAny_call_entry PySem.F.slot_dict_eq (mQ da) PySem.F.entry_dict_eq ?_ (PySem.F.args_dict_eq_2 _ _)) hu
  show wpAny _ _ (Builtin.Dict.dictSlotArgs "__eq__" ⟨[.ref a,.ref b],[]⟩ >>= _) _ _ s;refine wpAny_bind ?_;unfold Builtin.Dict.dictSlotArgs
  refine wpAny_bind (wpAny_notOrdered_dict (mQ da) ?_);show wpAny _ _ (pure (Value.ref a,Value.ref b)) _ _ s
  refine wpAny_pure (wpAny_bind (wpAny_isInstance (T := "dict") (mQ db) PySem.F.sub_dict_dict ?_));simp only [Bool.not_true,Bool.false_eq_true,if_false]
  refine wpAny_bind (wpAny_pure (wpAny_bind (wpAny_pure (wpAny_bind (asT na nb da db hr hits (wpAny_pure ⟨_,rfl,(fun x=>nomatch x),?_⟩))))))
  simpa using h
theorem tup_ne {a b:Addr} {xa xb:List (κ×Addr×Value)} {r:Bool} {Q:Value→Shared→Prop} (na:(a == sysModules)=false) (nb:(b == sysModules)=false) (da:s.heap.DictOfH knd a xa) (db:s.heap.DictOfH knd b xb) (hu:A.units < cLine) (hr:knd.room A.in1)
    (hits:xa.length=xb.length→a7T prog w A.in1 s xb xa r) (h:Q (.bool (!(xa.length == xb.length&&r))) s):wpAny (model prog w) A (compareOp .NotEq (.ref a) (.ref b)) Q E s:=by
  refine wpAny_richCompare_same_room (op := .NotEq) (mQ da) (mQ db) PySem.F.slot_dict_ne (wpAny_call_entry PySem.F.slot_dict_ne (mQ da) PySem.F.entry_dict_ne ?_ (PySem.F.args_dict_ne_2 _ _)) hu
  show wpAny _ _ (Builtin.Dict.dictSlotArgs "__ne__" ⟨[.ref a,.ref b],[]⟩ >>= _) _ _ s;refine wpAny_bind ?_;unfold Builtin.Dict.dictSlotArgs
  refine wpAny_bind (wpAny_notOrdered_dict (mQ da) ?_);show wpAny _ _ (pure (Value.ref a,Value.ref b)) _ _ s
  refine wpAny_pure (wpAny_bind (wpAny_isInstance (T := "dict") (mQ db) PySem.F.sub_dict_dict ?_));simp only [Bool.not_true,Bool.false_eq_true,if_false]
  refine wpAny_bind (wpAny_pure (wpAny_bind (wpAny_pure (wpAny_bind (asT na nb da db hr hits (wpAny_pure ⟨_,rfl,(fun x=>nomatch x),?_⟩))))))
  simpa using h
end
end
theorem aA2 {ps:List (Int×Int)} (nd:(ps.map (·.1)).Nodup):∀ p∈ps,bB ps p.1=some p.2:=by
  induction ps with
  | nil=>intro p hp;cases hp
  | cons q ps ih =>
    intro p hp
    rw [List.map_cons,List.nodup_cons] at nd
    show (if q.1=p.1 then some q.2 else bB ps p.1)=_
    rcases List.mem_cons.mp hp with rfl | hp
    · rw [if_pos rfl]
    · rw [if_neg]
      · exact ih nd.2 p hp
      · intro e;exact nd.1 (by rw [e];exact List.mem_map_of_mem hp)
theorem aD8 {ps:List (Int×Int)} (nd:(ps.map (·.1)).Nodup):eqM ps ps=true:=by
  unfold eqM
  rw [beq_self_eq_true,Bool.true_and,List.all_eq_true]
  intro p hp
  rw [aA2 nd p hp]
  exact beq_self_eq_true _
def ktD (z:List Key×Addr):DK×D:=(.inr z.1,.ref z.2)
def eqT (c:Addr→List (Int×Int)) (M N:List (List Key×Addr)):Bool:=M.length == N.length&&M.all fun z=>match bB N z.1 with
  | some y=>eqM (c z.2) (c y)
  | none=>false
theorem aD9 {K:Fg} {H:Hp}:∀ {M:List (List Key×Addr)} {ys:List (List Key×V)},a6D K H .inr (M.map ktD) ys→ys=M.map fun z=>(z.1,.ref z.2)
  | [],_,.nil=>rfl
  | z :: M,y :: ys,.cons h r=>by
    obtain ⟨k,v⟩:=y
    obtain ⟨h1,h2⟩:=h
    have e1:z.1=k:=by
      have:(Sum.inr z.1:DK) = .inr k:=h1
      exact xO _ _ this
    cases h2
    rw [aD9 r,← e1]
    rfl
theorem kt_len {H:Hp}:∀ {M:List (List Key×Addr)} {xs:List (List Key×Addr×Value)},KT H (M.map fun z=>(z.1,V.ref z.2)) xs→xs.length=M.length
  | [],_,.nil=>rfl
  | _ :: _,_ :: _,.cons _ r=>by rw [List.length_cons,List.length_cons,kt_len r]
theorem kt_at {H:Hp} {k:List Key}:∀ {M:List (List Key×Addr)} {xs:List (List Key×Addr×Value)},KT H (M.map fun z=>(z.1,V.ref z.2)) xs→(match bB M k with
    | some y=>∃ b,atKey xs k=some (b,Value.ref y)
    | none=>atKey xs k=none)
  | [],_,.nil=>rfl
  | z :: M,x :: xs,.cons h r=>by
    obtain ⟨k2,b,u⟩:=x
    obtain ⟨h1,_,h3⟩:=h
    cases h1
    obtain rfl:u=Value.ref z.2:=h3
    have ih:=kt_at (k:=k) r
    unfold bB
    by_cases c:z.1=k
    · rw [if_pos c]
      exact ⟨b,by simp [atKey,c]⟩
    · rw [if_neg c]
      have e:atKey ((z.1,b,Value.ref z.2) :: xs) k=atKey xs k:=by simp [atKey,List.find?_cons,c]
      rw [e]
      exact ih
theorem ayB {prog:Program} {w:World} {A:Around} {s:Shared} {H:Hp} {c:Addr→List (Int×Int)} {N:List (List Key×Addr)} {xb:List (List Key×Addr×Value)} (hb:KT H (N.map fun z=>(z.1,V.ref z.2)) xb)  :
    ∀ {M:List (List Key×Addr)} {xa:List (List Key×Addr×Value)},KT H (M.map fun z=>(z.1,V.ref z.2)) xa→(∀ z∈M,∀ y,bB N z.1=some y→aHT prog w A s (.ref z.2) (.ref y) (eqM (c z.2) (c y)))→a7T prog w A s xb xa (M.all fun z=>match bB N z.1 with
      | some y=>eqM (c z.2) (c y)
      | none=>false)
  | [],_,.nil,_ => .nil
  | z :: M,x :: xa,.cons h r,he=>by
    obtain ⟨k2,b,u⟩:=x
    obtain ⟨h1,_,h3⟩:=h
    cases h1
    obtain rfl:u=Value.ref z.2:=h3
    have ih:=ayB hb r fun z hz=>he z (List.mem_cons_of_mem _ hz)
    have at1:=kt_at (k:=z.1) hb
    have e0:=he z (List.mem_cons_self ..)
    rw [List.all_cons]
    cases e:bB N z.1 with
    | none=>rw [e] at at1;exact .miss at1
    | some y =>
      rw [e] at at1
      obtain ⟨b2,at2⟩:=at1
      exact .hit at2 (e0 y e) ih
theorem asU {M:List (List Key×Addr)} {k:List Key} {y:Addr} (h:bB M k=some y):(k,y)∈M:=by
  induction M with
  | nil=>cases h
  | cons z M ih =>
    unfold bB at h
    by_cases c:z.1=k
    · rw [if_pos c] at h
      cases h
      rw [← c]
      exact List.mem_cons_self ..
    · rw [if_neg c] at h
      exact List.mem_cons_of_mem _ (ih h)
section
variable {X:Cx}
theorem ayC {pins:List (Addr×Obj)} {σ:St} {H:Hp} {s:Shared} (I:Inv X pins σ H s) {G:Gp} (g:HR X.K H G) {a:Addr} {ps:List (Int×Int)} (e:G a=some (.eN false (ps.map kpD))):(a == sysModules)=false∧(ps.map (·.1)).Nodup∧∃ ka,KV (ps.map fun p=>((.inl p.1:Key),V.int p.2)) ka∧s.heap.DictOf (bH X.prog X.w) a ka:=by
  rcases g a _ e with ⟨_,ys,e1,tw⟩ | ⟨z,_⟩
  · have ey:=apM tw
    subst ey
    obtain ⟨z1,hsm,vs,kv,hd⟩:=ah7 I.hok e1
    refine ⟨hsm,?_,vs,kv,hd⟩
    have l2:=(ahC kv).2.1
    obtain ⟨o,es,ep,q1,q2,q3,q4,q5,q6⟩:=hd
    rw [l2] at q6
    exact List.pairwise_map.mpr ((List.pairwise_map.mp q6).imp fun h z=>h (by rw [z]))
  · cases z
theorem ayD {pins:List (Addr×Obj)} {σ:St} {H:Hp} {s:Shared} (I:Inv X pins σ H s) {G:Gp} (g:HR X.K H G) {a:Addr} {M:List (List Key×Addr)} (e:G a=some (.eN true (M.map ktD))):(a == sysModules)=false∧∃ xa,KT H (M.map fun z=>(z.1,V.ref z.2)) xa∧s.heap.DictOfH (tupleKind (bH X.prog X.w)) a xa:=by
  rcases g a _ e with ⟨z,_⟩ | ⟨_,ys,e1,tw⟩
  · cases z
  · have ey:=aD9 tw
    subst ey
    obtain ⟨z1,hsm,xs,kt,hd⟩:=anG I.hok e1
    exact ⟨hsm,xs,kt,hd⟩
def anY (neg:Bool):R3:=fun x y G R =>
  (∃ a b,∃ ps qs:List (Int×Int),x = .ref a∧y = .ref b∧G a=some (.eN false (ps.map kpD))∧G b=some (.eN false (qs.map kpD))∧R (.bl (neg ^^ eqM ps qs)) G) ∨
  ∃ a b,∃ M N:List (List Key×Addr),∃ c:Addr→List (Int×Int),x = .ref a∧y = .ref b∧G a=some (.eN true (M.map ktD))∧G b=some (.eN true (N.map ktD))∧(∀ z∈M++N,G z.2=some (.eN false ((c z.2).map kpD)))∧R (.bl (neg ^^ eqT c M N)) G
theorem aVB (hu:X.A.units+64 < cLine) {neg:Bool}:a05 X (compareOp (if neg then .NotEq else .Eq)) (anY neg):=ak0 fun pins s σ H x y vx vy u v G R Q I rx ry ru rv g q k=>by
  have in1:X.A.in1.units=X.A.units+1:=rfl
  rcases q with ⟨a,b,ps,qs,rfl,rfl,e1,e2,q⟩ | ⟨a,b,M,N,c,rfl,rfl,e1,e2,hc,q⟩
  · cases rx;cases ry
    obtain rfl:u=Value.ref a:=ru
    obtain rfl:v=Value.ref b:=rv
    obtain ⟨n1,_,ka,va,da⟩:=ayC I g e1
    obtain ⟨n2,_,kb,vb,db⟩:=ayC I g e2
    have l1:=(ahC va).1
    have l2:=(ahC vb).1
    have fin:∀ bb:Bool,bb=(neg ^^ eqM ps qs)→EP X pins σ Q (.bool bb) s:=fun bb eb=>⟨.bl bb,H,I,rfl,k _ H (.bl bb) G (.refl H) (.bl _) g (by rw [eb];exact q)⟩
    cases neg with
    | false=>exact keq_eq n1 n2 da db (by omega) (fun _=>ajL vb va) (fin _ (by rw [l1,l2];simp [eqM]))
    | true=>exact keq_ne n1 n2 da db (by omega) (fun _=>ajL vb va) (fin _ (by rw [l1,l2];simp [eqM]))
  · cases rx;cases ry
    obtain rfl:u=Value.ref a:=ru
    obtain rfl:v=Value.ref b:=rv
    obtain ⟨n1,xa,va,da⟩:=ayD I g e1
    obtain ⟨n2,xb,vb,db⟩:=ayD I g e2
    have l1:=kt_len va
    have l2:=kt_len vb
    have fin:∀ bb:Bool,bb=(neg ^^ eqT c M N)→EP X pins σ Q (.bool bb) s:=fun bb eb=>⟨.bl bb,H,I,rfl,k _ H (.bl bb) G (.refl H) (.bl _) g (by rw [eb];exact q)⟩
    have hits:=ayB (prog:=X.prog) (w:=X.w) (A:=X.A.in1) (s:=s) (c:=c) vb va fun z hz y hy=>by
      obtain ⟨m1,nd1,k1,w1,d1⟩:=ayC I g (hc z (List.mem_append_left _ hz))
      obtain ⟨m2,nd2,k2,w2,d2⟩:=ayC I g (hc _ (List.mem_append_right _ (asU hy)))
      exact aHU m1 m2 d1 d2 w1 w2 (by omega) fun e=>by rw [e];exact aD8 nd2
    cases neg with
    | false=>exact aPJ n1 n2 da db (by omega) (show X.A.in1.units < cLine by omega) (fun _=>hits) (fin _ (by rw [l1,l2];simp [eqT]))
    | true=>exact tup_ne n1 n2 da db (by omega) (show X.A.in1.units < cLine by omega) (fun _=>hits) (fin _ (by rw [l1,l2];simp [eqT]))
end
end
section
open PySem.W
section
variable {X:Cx} {A:Around} {E:Value→Shared→Prop}
theorem aA3 {pins:List (Addr×Obj)} {σ:St} {H H':Hp} {s:Shared} {a:Addr} {y v:V} {u r:Value} {Q:Unit→Shared→Prop} (hu:A.units < cLine) (I:Inv X pins σ H s) (g:arN H a y v H') (ry:RelV y u) (rv:RelV v r) (h:∀ s',Inv X pins σ H' s'→Q () s'):wpAny (model X.prog X.w) A (dictSet a u r) Q E s:=by
  rcases g with ⟨kvs,k,e,ey,l,eH⟩ | ⟨kvs,k,b,e,ey,eb,l,eH⟩
  · subst ey eH
    obtain ⟨z,hd,vs,rel,dd⟩:=ah7 I.hok e
    have lp:=yC kvs k v
    refine wpAny_dictSet_pairs (hsz:=by rw [← rel.length];exact z) (abK ry) dd fun h' d2 hs=>h _ (a2G I (by rw [e];exact True.intro) hs (let ⟨q,_,_,hq,_⟩:=d2;⟨q,hq⟩) (aoT (by omega) hd (rel.put k rv) d2))
  · subst ey eH
    cases (show u=Value.ref b from ry)
    obtain ⟨z,hd,xs,rel,dd⟩:=anG I.hok e
    have lp:=yC kvs k v
    refine wpAny_dictSet_heap (hsz:=by rw [← Paired.length rel];exact z) (show A.units < cLine from hu) (a6A I.hok eb) dd fun h' d2 hs=>h _ ?_
    obtain ⟨q,es,ep,hq,h2,h3,h4,_,h5⟩:=d2
    refine a2G I (by rw [e];exact True.intro) hs ⟨q,hq⟩ ⟨by omega,hd,_,(rel.put k eb rv).keeps fun c ys ec=>?_,q,es,ep,hq,h2,h3,h4,h5⟩
    rw [eE (axF ec e (fun z=>nomatch z))]
    exact ec
def akE (t:Bool) (tk tv:dZ):dZ:=fun ρ G R=>∀ p,G p=none→tk ρ (aQ G p (.eN t [])) fun y G1=>tv ρ G1 fun v G2=>vV (.ref p) y G2 fun a t' kvs k=>kvs.length < sizeLine∧R (.ref p) (aQ G2 a (.eN t' (pA kvs k v)))
theorem aHV {k v:Expr} {tk tv:dZ} {t:Bool} {pos:Pos} (hu:X.A.units+64 < cLine) (hk:gB X k tk) (hv:gB X v tv):gB X (.Dict [some k] [v] pos) (akE t tk tv):=by
  intro pins s σ H Q I h
  obtain ⟨ρ,G,R,sr,g,q,kk⟩:=h
  refine wpAny_Dict_any rfl rfl (by simp) (by simp) ?_
  let p:=s.heap.objs.size
  have fr:H p=none:=I.hok.fresh (Nat.le_refl _)
  obtain ⟨H0,I0,sn,g0,fG⟩:∃ H0,Inv X pins σ H0 { s with heap:=s.heap.push { cls := .type "dict",data := .dict #[] },toks:=s.toks }∧Same H H0∧HR X.K H0 (aQ G p (.eN t []))∧G p=none:=by
    cases t with
    | false =>
      have sn:Same H (upd H p (.dK [])):=cR fr
      have J:=I.laid (a:=p) (o := .dK []) (t':=s.toks) (fun _ _ q=>Heap.get?_push_of_some _ q) (Nat.le_refl _) (arQ s.heap I.big)
      exact ⟨upd H p (.dK []),J,sn,g.put (u := .eN false []) fr (.inl ⟨rfl,[],aU,.nil⟩),tK g fr (a7R J)⟩
    | true =>
      have sn:Same H (upd H p (.dT [])):=cR fr
      have J:=I.laid (a:=p) (o := .dT []) (t':=s.toks) (fun _ _ q=>Heap.get?_push_of_some _ q) (Nat.le_refl _) (arR s.heap I.big)
      exact ⟨upd H p (.dT []),J,sn,g.put (u := .eN true []) fr (.inr ⟨rfl,[],aU,.nil⟩),tK g fr (a7R J)⟩
  have t0:Ts H H0 := .same sn
  refine pairTrees_cons_walk (jU (hk pins _ σ H0 (fun vy H1=>Ts H0 H1∧∃ y G1,RD X.K H1 y vy∧HR X.K H1 G1∧tv ρ G1 fun v G2=>vV (.ref p) y G2 fun a t' kvs k=>kvs.length < sizeLine∧R (.ref p) (aQ G2 a (.eN t' (pA kvs k v)))) I0 ⟨ρ,_,_,sr.mono t0,g0,q p fG,fun vy H1 y G1 t1 r1 g1 q1=>⟨t1,y,G1,r1,g1,q1⟩⟩) fun uy s1 ⟨vy,H1,I1,ry,t1,y,G1,rdy,g1,q1⟩=>?_)
  refine jU (hv pins s1 σ H1 (fun vv H2=>Ts H1 H2∧∃ d G2,RD X.K H2 d vv∧HR X.K H2 G2∧vV (.ref p) y G2 fun a t' kvs k=>kvs.length < sizeLine∧R (.ref p) (aQ G2 a (.eN t' (pA kvs k d)))) I1 ⟨ρ,G1,_,sr.mono (t0.trans t1),g1,q1,fun vv H2 d G2 t2 r2 g2 q2=>⟨t2,d,G2,r2,g2,q2⟩⟩) fun uv s2 ⟨vv,H2,I2,rv,t2,d,G2,rdv,g2,q2⟩=>?_
  refine pairTrees_nil_walk ?_
  obtain ⟨a,kvs,kd,ea,_,e1,_,⟨hl,q3⟩,dd⟩:=yD (.ref p) (rdy.mono t2) g2 q2
  cases ea
  obtain ⟨H4,pp,tt,g4⟩:=dd.put g2 rdv hl
  unfold storeAll
  rw [List.forIn_cons]
  refine wpAny_bind (wpAny_bind (aA3 (by omega) I2 pp ry rv fun s3 I3=>wpAny_pure ?_))
  dsimp only
  rw [List.forIn_nil]
  exact wpAny_pure ⟨.ref p,H4,I3,rfl,kk _ H4 _ _ (((t0.trans t1).trans t2).trans tt) (.ref p) g4 q3⟩
def a4V:RM3:=fun x xs G R=>match x,xs with
  | .ref q,[.bl b]=>(match cH G q with
    | some ds=>ds.all aCN=true∧∃ j:Nat,ds[j]?=some (.bl b)∧(∀ m,m < j→ds[m]?≠some (.bl b))∧R (.int j) G
    | none=>False)
  | _,_=>False
theorem asV:aiV X "list.index" a4V:=fun pins s σ H x xs vx vs u us G R Q I rx rs ru rv g q k=>by
  have big:sizeLine < 2 ^ 62:=by decide
  unfold a4V at q
  split at q
  · rename_i a b
    split at q
    · rename_i ds e1
      obtain ⟨ab,j,h1,h2,q⟩:=q
      cases rx
      obtain rfl:u=Value.ref a:=ru
      cases rs with
      | cons r1 rr =>
      cases rr
      cases r1
      obtain ⟨u2,rfl,ru2⟩:=vals1 rv
      obtain rfl:u2=Value.bool b:=ru2
      obtain ⟨ws,hq,r1⟩:=gW g e1
      obtain ⟨its,rv',pl,hz⟩:=I.list hq
      have len:its.length=ds.length:=by rw [← rv'.length,← r1.length]
      have lw:ds.length=ws.length:=r1.length
      have jl:j < ds.length:=(List.getElem?_eq_some_iff.mp h1).1
      have at1:∀ m (hm:m < its.toArray.size),its.toArray[m]=Value.bool (trN ds m):=fun m hm=>azX r1 rv' ab (i:=m) (by rw [List.getElem?_eq_getElem (by simpa using hm)];simp)
      have tr:∀ m,m < ds.length→(trN ds m=b↔ds[m]?=some (.bl b)):=fun m hm=>by
        have hb:aCN ds[m]=true:=List.all_eq_true.mp ab _ (List.getElem_mem hm)
        unfold trN
        rw [List.getElem?_eq_getElem hm]
        cases z:ds[m] with
        | bl c=>simp [aCO]
        | _=>rw [z] at hb;cases hb
      obtain ⟨o,n,p1,p2,p3,p4⟩:=pl
      have hT:s.TypeIs (.ref a) "list" := ⟨o,p1,p2⟩
      have hobj:s.heap.get? a=some { cls := .type "list",dict:=o.dict,data := .seq its.toArray n,slots:=o.slots }:=by rw [p1];cases o;simp_all
      refine call_meets PySem.F.slot_list_index hT PySem.F.entry_list_index (PySem.F.args_list_index_2 _ _) (SeqAt.list_indexAt a its.toArray n o.dict o.slots (.bool b) (fun v=>match v with | .bool c=>PyData.eqv (.bool c) (.bool b) | _=>false) j (by simpa [len] using jl) (by omega) ?_ ?_) ⟨hobj,?_,⟨.int j,H,I.tok _,⟨_,rfl⟩,k _ H _ G (.refl H) (.int _) g q⟩⟩
      · rw [at1 j (by simpa [len] using jl),(tr j jl).mpr h1]
        cases b <;> rfl
      · intro m hm hlt
        have hm2:m < ds.length:=by rw [← len];simpa using hm
        rw [at1 m hm]
        have ne:trN ds m≠b:=fun z=>h2 m hlt ((tr m hm2).mp z)
        cases c:trN ds m <;> cases b <;> first | rfl | exact absurd c ne
      · intro y hy
        obtain ⟨m,hm,rfl⟩:=Array.mem_iff_getElem.mp hy
        rw [at1 m hm]
        exact keq_flat (PyProof.V.Flat.bool _) (PyProof.V.Flat.bool _)
    · exact q.elim
  · exact q.elim
end
end
end L2
namespace L4
open PySem PySem.Spec PyProof.Rows L2
inductive BF where
  | len | isi | sum | anZ | aDA | asW | asY
  deriving DecidableEq
inductive MK where
  | append | pop | ag0
  deriving DecidableEq
inductive DM where
  | sdf | pop
  deriving DecidableEq
inductive GT where
  | con (d:D) | cls (a:Addr) | fn (sp:Sp3) (n:Nat) (qt:Bool) | bf (b:BF) | bt (n:String) | kl (C:Addr) (sp:Sp3) (dd:List D) | me (C:Addr) (m:Str) (sp:Sp3) (dd:List D) | fl (C:Addr) (f:Str)
structure SI where
  N:List Str
  fl:List Bool
  lc:List Bool
  ce:List Bool
  gl:List (Str×GT)
  gv:List Bool
  calm:Bool
mutual
inductive CE where
  | var (i:Nat) | con (d:D) | glo (k:Nat) | neg (a:CE) | aHW (a:CE) | bin (o:Operator) (a b:CE) | cmp (o:CmpOp) (a b:CE) | chain (o o':CmpOp) (a b c:CE)
  | aA4 (es:CEs) | tup (es:CEs) | lst (es:CEs) | dct | ix (a b:CE) | sl (a:CE) (lo hi:CO) | call (k:Nat) (es:CEs) | meth (m:MK) (o:CE) (es:CEs)
  | comp (fl gv:List Bool) (ci:CI) (cc:CC) (e:CE) | fld (k:Nat) (o:CE) | rY (k:Nat) (o:CE) (es:CEs) | dix (a b:CE) | din (neg:Bool) (a b:CE) | dgt (o e f:CE) | aDB | dm (m:DM) (o e:CE) (es:CEs) | sortI (k:Nat) (o:CE) | aHX (k:Nat) (o:CE) | deq (neg:Bool) (a b:CE) | aDC (t:Bool) (a b:CE)
inductive CEs where
  | nil | cons (e:CE) (r:CEs)
inductive CT where
  | cmp (o:CmpOp) (a b:CE) | chain (o o':CmpOp) (a b c:CE) | not (t:CT) | or (ts:CTs) | val (e:CE) | din (neg:Bool) (a b:CE) | deq (neg:Bool) (a b:CE)
inductive CTs where
  | nil | cons (t:CT) (r:CTs)
inductive CO where
  | none | some (e:CE)
inductive CI where
  | any (e:CE) | aw0 (e:CE)
inductive CC where
  | none | some (t:CT)
end
abbrev SI.cmp (S:SI) (xs:List Str) (fl gv:List Bool):SI:=⟨xs++S.N,xs.map (fun _=>true)++fl,xs.map (fun _=>true)++S.N.map (fun _=>false),xs.map (fun _=>false)++fl,S.gl,gv,S.calm⟩
def aw1:dZ:=fun _ _ _=>False
def aLK:TT3:=fun _ _ _=>False
def NoX:aW→bK:=fun _ _ _=>False
def aLL:Operator→R3
  | .Add=>rT
  | .Sub=>anJ
  | .Mult=>abM
  | .FloorDiv=>uW
  | .Mod=>oZ
  | .Pow=>ah9
  | _=>fun _ _ _ _=>False
def akF:CmpOp→R3
  | .Eq=>wF
  | .NotEq=>afR
  | .Lt=>aBX
  | .LtE=>azO
  | .Gt=>aGL
  | .GtE=>aNS
  | .Is=>arU
  | .IsNot=>afO
  | .In=>aOF
  | .NotIn=>apD
def b15:Bool→R3
  | true=>aL7
  | false=>aL6
def aVC (K:Fg):BF→List D→Gp→pX→Prop
  | .len=>a8X
  | .isi=>aG K
  | .sum=>aL5
  | .anZ=>apI
  | .aDA=>afY
  | .asW=>a09
  | .asY=>a6F
def aPL (n:String):List D→Gp→pX→Prop:=if n = "int" then ak1 else if n = "list" then apB else if n = "str" then aLD else if n = "tuple" then ay6 else fun _ _ _=>False
def dmN:DM→Str
  | .sdf => "setdefault"
  | .pop => "pop"
def dmR:DM→RM3
  | .sdf=>akC
  | .pop=>afX
def mkT:MK→String
  | .append => "list"
  | .pop => "list"
  | .ag0 => "list"
def mkR:MK→RM3
  | .append=>as7
  | .pop=>aL8
  | .ag0=>a4V
def mkN:MK→Str
  | .append => "append"
  | .pop => "pop"
  | .ag0 => "index"
def aPM (T:List (Str×GT)) (k:Nat):dZ:=match T[k]? with
  | some (_,.con d)=>aY d
  | some (_,.cls a)=>aY (.ref a)
  | some (_,.bt n)=>aY (.ty n)
  | _=>aw1
def aPN (T:List (Str×GT)) (K:Fg) (ex:aW→bK) (k:Nat) (t:TA3):dZ:=match T[k]? with
  | some (_,.fn sp _ _)=>bA sp ex t
  | some (_,.cls a)=>axY a t
  | some (_,.bf b)=>uT (aVC K b) t
  | some (_,.bt n)=>uT (aPL n) t
  | some (_,.kl C sp dd)=>afW C sp dd ex t
  | _=>aw1
def aPO (T:List (Str×GT)) (k:Nat) (t:dZ):dZ:=match T[k]? with
  | some (_,.fl C f)=>rW C t f
  | _=>aw1
def aPP (T:List (Str×GT)) (ex:aW→bK) (k:Nat) (to:dZ) (t:TA3):dZ:=match T[k]? with
  | some (_,.me C m sp dd)=>jV C m sp dd ex to t
  | _=>aw1
def aPQ:Bool→R3
  | true=>aD1
  | false=>asL
mutual
def mE (T:List (Str×GT)) (K:Fg) (ex:aW→bK):CE→dZ
  | .var i=>aB i
  | .con d=>aY d
  | .glo k=>aPM T k
  | .neg a=>ahA (mE T K ex a)
  | .aHW a=>ap4 (mE T K ex a)
  | .bin o a b=>aO (aLL o) (mE T K ex a) (mE T K ex b)
  | .cmp o a b=>aO (akF o) (mE T K ex a) (mE T K ex b)
  | .chain o o' a b c=>a2H (akF o) (akF o') (mE T K ex a) (mE T K ex b) (mE T K ex c)
  | .aA4 es=>aPR T K ex es
  | .tup es=>pZ (mA T K ex es)
  | .lst es=>nC (mA T K ex es)
  | .dct=>a8Z
  | .ix a b=>aO nD (mE T K ex a) (mE T K ex b)
  | .sl a lo hi=>ajK (mE T K ex a) (mO T K ex lo) (mO T K ex hi)
  | .call k es=>aPN T K ex k (mA T K ex es)
  | .meth m o .nil=>aGY (mkT m) (mkR m) (mE T K ex o)
  | .meth m o (.cons e r)=>tM3 (mkT m) (mkR m) (mE T K ex o) (aA (mE T K ex e) (mA T K ex r))
  | .comp _ _ ci cc e=>avW (mI T K ex ci) (mC T K cc) (mE T K NoX e)
  | .fld k o=>aPO T k (mE T K ex o)
  | .rY k o es=>aPP T ex k (mE T K ex o) (mA T K ex es)
  | .dix a b=>aO a6E (mE T K ex a) (mE T K ex b)
  | .din neg a b=>aO (aPQ neg) (mE T K ex a) (mE T K ex b)
  | .dgt o e f=>a2I (mE T K ex o) (mE T K ex e) (mE T K ex f)
  | .aDB=>adM
  | .dm m o e es=>avX (dmR m) (mE T K ex o) (aA (mE T K ex e) (mA T K ex es))
  | .sortI _ o=>adS (mE T K ex o)
  | .aHX _ o=>apO (mE T K ex o)
  | .deq neg a b=>aO (anY neg) (mE T K ex a) (mE T K ex b)
  | .aDC t a b=>akE t (mE T K ex a) (mE T K ex b)
def mA (T:List (Str×GT)) (K:Fg) (ex:aW→bK):CEs→TA3
  | .nil=>aH
  | .cons e r=>aA (mE T K ex e) (mA T K ex r)
def aPR (T:List (Str×GT)) (K:Fg) (ex:aW→bK):CEs→dZ
  | .nil=>aw1
  | .cons e .nil=>mE T K ex e
  | .cons e (.cons e' r)=>a8U (mE T K ex e) (aPR T K ex (.cons e' r))
def mOr (T:List (Str×GT)) (K:Fg) (ex:aW→bK):CEs→dZ
  | .nil=>aw1
  | .cons e .nil=>mE T K ex e
  | .cons e (.cons e' r)=>axQ (mE T K ex e) (mOr T K ex (.cons e' r))
def mT (T:List (Str×GT)) (K:Fg) (ex:aW→bK):CT→TT3
  | .cmp o a b=>bJ (aO (akF o) (mE T K ex a) (mE T K ex b))
  | .chain o o' a b c=>bJ (a2H (akF o) (akF o') (mE T K ex a) (mE T K ex b) (mE T K ex c))
  | .not t=>a7S (mT T K ex t)
  | .or ts=>aPS T K ex ts
  | .val e=>bJ (mE T K ex e)
  | .din neg a b=>bJ (aO (aPQ neg) (mE T K ex a) (mE T K ex b))
  | .deq neg a b=>bJ (aO (anY neg) (mE T K ex a) (mE T K ex b))
def aLM (T:List (Str×GT)) (K:Fg) (ex:aW→bK):CTs→TT3
  | .nil=>aLK
  | .cons e .nil=>mT T K ex e
  | .cons e (.cons e' r)=>axP (mT T K ex e) (aLM T K ex (.cons e' r))
def aPS (T:List (Str×GT)) (K:Fg) (ex:aW→bK):CTs→TT3
  | .nil=>aLK
  | .cons e .nil=>mT T K ex e
  | .cons e (.cons e' r)=>ajY (mT T K ex e) (aPS T K ex (.cons e' r))
def mO (T:List (Str×GT)) (K:Fg) (ex:aW→bK):CO→TO3
  | .none=>adK
  | .some e=>ap5 (mE T K ex e)
def mI (T:List (Str×GT)) (K:Fg) (ex:aW→bK):CI→TI3
  | .any e=>ak4 (mE T K ex e)
  | .aw0 e=>ac4 (aA (mE T K ex e) aH)
def mC (T:List (Str×GT)) (K:Fg):CC→TT3
  | .none=>aCC
  | .some t=>mT T K NoX t
end
def isStar:Expr→Bool
  | .Starred ..=>true
  | _=>false
def isSlice:Expr→Bool
  | .Slice ..=>true
  | _=>false
def fD:Expr→Bool
  | .Call (.Name id _) [] [] _=>id != ("super" : Str)
  | _=>true
def isSet:Expr→Bool
  | .Set ..=>true
  | _=>false
def aPT:BF→String
  | .len => "len"
  | .isi => "isinstance"
  | .sum => "sum"
  | .anZ => "sorted"
  | .aDA => "len"
  | .asW => "sorted"
  | .asY => "dict"
def ayE:BF→Value
  | .asY => .type "dict"
  | b => .builtin (aPT b)
def aw2:BF→Bool
  | .len=>true
  | .isi=>true
  | .aDA=>true
  | .anZ=>true
  | _=>false
def adT (S:SI):Bool:=(List.range S.gl.length).any fun k=>S.gv[k]? == some true&&match S.gl[k]? with
  | some (y,.bt n)=>y == ("range" : Str)&&n == "range"
  | _=>false
def b18 (S:SI) (k:Nat) (x:Str):Bool:=match S.gl[k]? with
  | some (y,.bf b)=>y == x&&ayE b == .builtin "max"
  | _=>false
def aPU (S:SI) (y:Str):Bool:=(List.range S.N.length).any fun i=>S.N[i]? == some y&&S.ce[i]? == some true
def apP:List Str→Bool
  | []=>true
  | x :: r=>!r.contains x&&apP r
def ao0 (S:SI) (xs:List Str) (scope:Scope) (fl gv:List Bool):Bool :=
  scope.kind == .function&&scope.names.all (fun y=>y.2 != .cell&&(y.2 != .local || scope.names.lookup y.1 == some .local)&&(y.2 != .free || aPU S y.1)) &&
  xs.all (fun x=>scope.names.lookup x == some .local&&!S.N.contains x&&x != ("__debug__" : Str)&&x != ("__classdict__" : Str))&&apP xs &&
  S.N.all (fun y=>scope.names.lookup y != some .local) &&
  (List.range S.N.length).all (fun i=>fl[i]? != some true || (S.fl[i]? == some true&&match S.N[i]? with
    | some y=>scope.names.lookup y == some .free
    | none=>false)) &&
  (List.range S.gl.length).all (fun k=>gv[k]? != some true || match S.gl[k]? with
    | some (y,_)=>scope.names.lookup y == some .globalImplicit
    | none=>false)
def aLN:D→Const→Bool
  | .int i,.int j=>i == j
  | .str s,.str t=>s == t
  | .bl b,.bool c=>b == c
  | .non,.none=>true
  | _,_=>false
def plainT:Expr→Bool
  | .UnaryOp .Not _ _=>false
  | .BoolOp ..=>false
  | .IfExp ..=>false
  | .Compare ..=>false
  | _=>true
def aDD (S:SI) (k:Nat) (x:Str):Bool:=match S.gl[k]? with
  | some (y,.con _)=>y == x
  | some (y,.cls _)=>y == x
  | some (y,.bt _)=>y == x
  | _=>false
def ayF (S:SI) (k:Nat) (x:Str) (e:Bool):Bool:=match S.gl[k]? with
  | some (y,.fn _ _ qt)=>y == x&&(qt || S.calm)
  | some (y,.cls _)=>y == x
  | some (y,.bf b)=>y == x&&e&&(S.calm || aw2 b)
  | some (y,.bt _)=>y == x&&e
  | some (y,.kl _ _ _)=>y == x&&S.calm
  | _=>false
def aA5 (S:SI) (k:Nat) (x:Str):Bool:=match S.gl[k]? with
  | some (_,.fl _ f)=>f == x
  | _=>false
def aHY (S:SI) (k:Nat) (x:Str):Bool:=match S.gl[k]? with
  | some (_,.me _ m _ _)=>m == x
  | _=>false
def aA6 (S:SI) (k:Nat) (x:Str) (nm:String):Bool:=match S.gl[k]? with
  | some (y,.bf b)=>y == x&&ayE b == .builtin nm
  | _=>false
def ahE:Expr→Option (Expr×Str×Bool)
  | .Call (.Attribute y n ap) [] [] cp=>some (y,n,ap.endLine == cp.line)
  | _=>none
def aXJ:Expr→Option (Str×Expr)
  | .Call (.Name x _) [z] [] _=>some (x,z)
  | _=>none
mutual
def kE (S:SI):CE→Expr→Bool
  | .var i,.Name x _=>S.N[i]? == some x&&S.fl[i]? == some true
  | .con d,.Constant c _ _=>aLN d c
  | .glo k,.Name x _=>S.gv[k]? == some true&&aDD S k x
  | .neg a,.UnaryOp .USub e _=>kE S a e
  | .aHW a,.UnaryOp .Not e _=>kE S a e
  | .bin o a b,.BinOp x o' y _=>o == o'&&kE S a x&&kE S b y
  | .cmp o a b,.Compare x [o'] [y] _=>o == o'&&!behindInMarks o' y&&kE S a x&&kE S b y
  | .chain o o' a b c,.Compare x [p,p'] [y,z] _=>o == p&&o' == p'&&!lastMarks [p,p'] [y,z]&&kE S a x&&kE S b y&&kE S c z
  | .aA4 es,.BoolOp .And xs _=>kEs S es xs
  | .tup es,.Tuple xs _ _=>kEs S es xs
  | .lst es,.List xs _=>kEs S es xs
  | .dct,.Dict [] [] _=>true
  | .ix a b,.Subscript x y _=>!isSlice y&&kE S a x&&kE S b y
  | .sl a lo hi,.Subscript x (.Slice l h none _) _=>kE S a x&&kO S lo l&&kO S hi h
  | .call k es,.Call (.Name x _) xs [] _=>kEs S es xs&&S.gv[k]? == some true&&ayF S k x (!xs.isEmpty)
  | .meth m o es,.Call (.Attribute y n ap) xs [] cp=>n == mkN m&&fD y&&ap.endLine == cp.line&&decide (xs.length < 30)&&kE S o y&&kEs S es xs
  | .comp fl gv ci cc e,.ListComp elt [⟨.Name x _,iter,ifs,a⟩] scope _=>a == 0&&ao0 S [x] scope fl gv&&!isSet iter&&kI S false ci iter&&kC (S.cmp [x] fl gv) cc ifs&&kE (S.cmp [x] fl gv) e elt
  | .fld k o,.Attribute y n _=>aA5 S k n&&fD y&&kE S o y
  | .rY k o es,.Call (.Attribute y n ap) xs [] cp=>aHY S k n&&S.calm&&fD y&&ap.endLine == cp.line&&decide (xs.length < 30)&&kE S o y&&kEs S es xs
  | .dix a b,.Subscript x y _=>!isSlice y&&kE S a x&&kE S b y
  | .din neg a b,.Compare x [o'] [y] _=>o' == (if neg then CmpOp.NotIn else CmpOp.In)&&!behindInMarks o' y&&kE S a x&&kE S b y
  | .dgt o e f,.Call (.Attribute y n ap) [x,z] [] cp=>n == ("get" : Str)&&fD y&&ap.endLine == cp.line&&!isStar x&&!isStar z&&kE S o y&&kE S e x&&kE S f z
  | .aDB,.Dict [] [] _=>true
  | .dm m o e es,.Call (.Attribute y n ap) (x :: xs) [] cp=>n == dmN m&&fD y&&ap.endLine == cp.line&&decide ((x :: xs).length < 30)&&kE S o y&&!isStar x&&kE S e x&&kEs S es xs
  | .sortI k o,.Call (.Name x _) [w] [] _=>S.calm&&S.gv[k]? == some true&&aA6 S k x "sorted" && (match ahE w with
    | some (y,n,l)=>l&&n == ("items" : Str)&&fD y&&kE S o y
    | none=>false)
  | .aHX k o,.Call (.Name x _) [w] [] _=>S.calm&&S.gv[k]? == some true&&aA6 S k x "sum" && (match ahE w with
    | some (y,n,l)=>l&&n == ("values" : Str)&&fD y&&kE S o y
    | none=>false)
  | .deq neg a b,.Compare x [o'] [y] _=>o' == (if neg then CmpOp.NotEq else CmpOp.Eq)&&kE S a x&&kE S b y
  | .aDC _ a b,.Dict [some x] [y] _=>kE S a x&&kE S b y
  | _,_=>false
def kEs (S:SI):CEs→List Expr→Bool
  | .nil,[]=>true
  | .cons e r,x :: xs=>!isStar x&&kE S e x&&kEs S r xs
  | _,_=>false
def kT (S:SI):CT→Expr→Bool
  | .cmp o a b,.Compare x [o'] [y] _=>o == o'&&!behindInMarks o' y&&kE S a x&&kE S b y
  | .chain o o' a b c,.Compare x [p,p'] [y,z] _=>o == p&&o' == p'&&!lastMarks [p,p'] [y,z]&&kE S a x&&kE S b y&&kE S c z
  | .not t,.UnaryOp .Not e _=>kT S t e
  | .or ts,.BoolOp .Or xs _=>kTs S ts xs
  | .din neg a b,.Compare x [o'] [y] _=>o' == (if neg then CmpOp.NotIn else CmpOp.In)&&!behindInMarks o' y&&kE S a x&&kE S b y
  | .deq neg a b,.Compare x [o'] [y] _=>o' == (if neg then CmpOp.NotEq else CmpOp.Eq)&&kE S a x&&kE S b y
  | .val e,x=>plainT x&&kE S e x
  | _,_=>false
def kTs (S:SI):CTs→List Expr→Bool
  | .nil,[]=>true
  | .cons e r,x :: xs=>kT S e x&&kTs S r xs
  | _,_=>false
def kO (S:SI):CO→Option Expr→Bool
  | .none,none=>true
  | .some e,some x=>kE S e x
  | _,_=>false
def kI (S:SI) (tt:Bool):CI→Expr→Bool
  | .any e,x=>kE S e x
  | .aw0 e,.Call (.Name r _) [y] [] _=>r == ("range" : Str)&&adT S&&!isStar y&&kE S e y
  | _,_=>false
def kC (S:SI):CC→List Expr→Bool
  | .none,[]=>true
  | .some t,[x]=>kT S t x
  | _,_=>false
end
end L4
namespace L4
open PySem PySem.Spec PyProof.Rows L2
theorem c7 {e:Expr} {es:List Expr} {env:Env} (h:isStar e=false):starEach (e :: es) env=(false,eval e env) :: starEach es env:=by
  cases e <;> first | rfl | (exact absurd (show true=false from h) (by decide))
theorem a0P {S:SI} {env:Env} {pos:Pos}:∀ {cs:CEs} {xs:List Expr},kEs S cs xs=true→(backTo pos (starEach xs env)).any (·.1)=false
  | .nil,[],_=>rfl
  | .nil,_ :: _,h=>absurd (show false=true from h) (by decide)
  | .cons _ _,[],h=>absurd (show false=true from h) (by decide)
  | .cons e r,x :: xs,h=>by
    have h':(!isStar x&&kE S e x&&kEs S r xs)=true:=h
    simp only [Bool.and_eq_true,Bool.not_eq_true'] at h'
    rw [c7 h'.1.1]
    show (false || (backTo pos (starEach xs env)).any (·.1))=false
    rw [a0P h'.2];rfl
theorem rK {o:Expr} {n:Str} {env:Env} (h:fD o=true):attributeBase o n env (eval o env)=eval o env:=by
  cases o with
  | Call f args kws pos =>
    cases f with
    | Name id p =>
      cases args with
      | nil =>
        cases kws with
        | nil =>
          have h':(id != ("super" : Str))=true:=h
          unfold attributeBase
          simp only [h',Bool.true_or,if_true]
        | cons _ _=>rfl
      | cons _ _=>cases kws <;> rfl
    | _=>rfl
  | _=>rfl
abbrev BMv:List Value:=[.type "ValueError",.type "Exception",.type "BaseException",.type "object"]
def aVE (X:Cx) (cm:Bool) (x:Str):GT→Prop
  | .con d=>∃ u v,X.mg x=some u∧RelV v u∧∀ H,RD X.K H d v
  | .cls a=>X.mg x=some (.ref a)∧PySem.W.excIn X.K a BMv "ValueError.__new__" = true
  | .fn sp n qt=>(qt=true∨cm=true)→∃ k f fd ps,fC qt X.prog X.w X.K X.mg X.base (vU X.prog X.w) k f fd ps (gY X.K sp)∧pY qt k X.A∧X.mg x=some (.ref f)∧PySem.W.keepIn X.K (.ref f)=true∧Binds X.K fd ps []
  | .bf b=>X.mg x=none∧bootBuiltins x=some (ayE b)
  | .bt n=>X.mg x=none∧bootBuiltins x=some (.type n)
  | .kl C sp dd=>cm=true→∃ k f fd ps ds dvs,Mk X.K C f∧fC false X.prog X.w X.K X.mg X.base (vU X.prog X.w) k f fd ps (gY X.K sp)∧pY false (k+1) X.A∧X.mg x=some (.ref C)∧Binds X.K fd ps ds∧Vals dvs ds∧∀ H,iJ X.K H dd dvs
  | .me C m sp dd=>cm=true→∃ k f fd ps ds dvs,Cls X.K C∧Meth X.K C m f∧fC false X.prog X.w X.K X.mg X.base (vU X.prog X.w) k f fd ps (gY X.K sp)∧pY false k X.A∧Binds X.K fd ps ds∧Vals dvs ds∧∀ H,iJ X.K H dd dvs
  | .fl C f=>Cls X.K C∧wB X.K C f
structure a0Q (X:Cx) (S:SI) (ex:aW→bK):Prop where
  N:X.N=S.N
  nd:X.N.Nodup
  vis:∀ (i:Nat) (x:Str),S.N[i]?=some x→S.fl[i]?=some true→Vis X.env.scope x∧(x == ("__debug__" : Str))=false∧(x == ("__classdict__" : Str))=false
  ce:∀ (i:Nat) (x:Str),S.N[i]?=some x→S.ce[i]?=some true→X.env.kindOf x=some .cell∨X.env.kindOf x=some .free
  gm:∀ (k:Nat) (x:Str) (g:GT),S.gl[k]?=some (x,g)→(S.gv[k]?=some true→Gl X x)∧(x == ("__debug__" : Str))=false∧x ≠ "__name__" ∧ aVE X S.calm x g
  hu:X.A.units+64 < cLine
  cm:S.calm=true→X.calm=true
  cat:Cat X ex
theorem a0Q.gl {X:Cx} {S:SI} {ex:aW→bK} (Q:a0Q X S ex) (k:Nat) (x:Str) (g:GT) (h:S.gl[k]?=some (x,g)) (hv:S.gv[k]?=some true):Gl X x∧(x == ("__debug__" : Str))=false∧x ≠ "__name__" ∧ aVE X S.calm x g :=
  ⟨(Q.gm k x g h).1 hv,(Q.gm k x g h).2⟩
section
variable {X:Cx} {S:SI} {ex:aW→bK}
theorem aDE {e:Expr}:gB X e aw1:=fun _ _ _ _ _ _ ⟨_,_,_,_,_,z,_⟩=>z.elim
theorem aHZ {o:Operator}:ajX X (binaryOp o) (aLL o):=by
  have no:∀ {f:Value→Value→Sem Value},ajX X f (fun _ _ _ _=>False):=fun {f}=>⟨fun _ _ _ _=>False,fun _ _ _ _ _ _ _ _ _ _ _ _ h=>h.elim,fun _ _ _ _ _ _ _ _ _ _ _ h _=>h.elim⟩
  exact match o with
  | .Add=>aU1
  | .Sub=>aTX
  | .Mult=>aTY
  | .FloorDiv=>aNR
  | .Mod=>aTZ
  | .Pow=>aU0
  | .MatMult=>no
  | .Div=>no
  | .LShift=>no
  | .RShift=>no
  | .BitOr=>no
  | .BitXor=>no
  | .BitAnd=>no
theorem ab1 {o:CmpOp} (hu:X.A.units+64 < cLine):a05 X (compareOp o) (akF o):=by
  exact match o with
  | .Eq=>aZB hu
  | .NotEq=>aZC hu
  | .Lt=>aYN
  | .LtE=>aYQ
  | .Gt=>aYO
  | .GtE=>aYP
  | .Is=>aYR
  | .IsNot=>aNT
  | .In=>aZE hu
  | .NotIn=>aGW hu
theorem aVF {n:String}:mL X (.type n) (aPL n):=by
  unfold aPL
  split
  · rename_i h;subst h;exact aUF
  · split
    · rename_i h;subst h;exact aOB
    · split
      · rename_i h;subst h;exact aVA
      · split
        · rename_i h;subst h;exact aHP
        · exact fun _ _ _ _ _ _ _ _ _ _ _ _ _ _ h _=>h.elim
theorem aDF {qt:Bool} {k:Nat} {f:Addr} {fd:FuncData} {ps:List Str} {sp:Sp3} {x:Str} {p pos:Pos} (F:fC qt X.prog X.w X.K X.mg X.base (vU X.prog X.w) k f fd ps (gY X.K sp)) (hr:pY qt k X.A) (hg:Gl X x) (hm:X.mg x=some (.ref f)) (hk:PySem.W.keepIn X.K (.ref f)=true) (hb:Binds X.K fd ps []) (hx:Cat X ex)
    (hdb:(x == ("__debug__" : Str))=false):gB X (.Call (.Name x p) [] [] pos) (bA sp ex aH):=by
  intro pins s σ H Q I h
  obtain ⟨ρ,G,R,sr,g,q,kk⟩:=h
  refine wpAny_Call_Name_kw (a04 I hg hm ?_ hdb)
  refine PySem.W.callWith_K0 I.kIn hk ?_
  exact axT (E:=abN X.K (ex ρ)) F hr hb (fun e s' c=>hx.arV pins σ H s ρ e s' I sr c) I .nil (Q:=fun v H'=>∃ d G',RD X.K H' d v∧HR X.K H' G'∧R d G') ⟨[],G,R,ex ρ,.nil,g,q,fun v H' d G' r2 g2 q2=>⟨d,G',r2,g2,q2⟩,fun C H' G' g' q'=>⟨C,G',rfl,g',q'⟩⟩ fun v H' t2 ⟨d,G',r2,g2,q2⟩=>kk v H' d G' t2 r2 g2 q2
theorem ac8 {xs:List Expr} {cs:CEs} {cp:Pos} (h:kEs S cs xs=true) (hl:xs.length < 30):((backTo cp (starEach xs X.env)).all (fun x=>!x.1)&&(backToKw cp (keywordEach [] X.env)).all (fun x=>x.1.isSome)
      && decide (xs.length+([]:List Keyword).length+(if ([]:List Keyword).isEmpty then 0 else 1) < 30))=true:=by
  have h1:(backTo cp (starEach xs X.env)).all (fun x=>!x.1)=true:=by
    rw [List.all_eq_true]
    intro y hy
    have:=a0P (env:=X.env) (pos:=cp) h
    rw [List.any_eq_false] at this
    have:=this y hy
    simpa using this
  have h2:(decide (xs.length+([]:List Keyword).length+(if ([]:List Keyword).isEmpty then 0 else 1) < 30))=true:=decide_eq_true (by simpa using hl)
  rw [h1,h2];rfl
end
end L4
namespace L4
open PySem PySem.Spec PyProof.Rows L2
section
variable {X:Cx} {S:SI} {ex:aW→bK}
theorem aPV {d:D} {c:Const} {j:Nat} {pos:Pos} (h:aLN d c=true):gB X (.Constant c j pos) (aY d):=by
  cases d <;> cases c <;> first | exact absurd (show false=true from h) (by decide) | skip
  · exact aTJ
  · have:=beq_iff_eq.mp h;subst this;exact aYI
  · have:=beq_iff_eq.mp h;subst this;exact aTI
  · have:=beq_iff_eq.mp h;subst this;exact aTK
theorem aPW {e:Expr} (h:plainT e=true):∀ whole,isTrue e X.env whole=(do let v ← whole;standAt e.pos;holding [v] (truthy v)):=by
  cases e with
  | UnaryOp op x p=>cases op <;> first | exact absurd (show false=true from h) (by decide) | (intro _;rfl)
  | BoolOp _ _ _=>exact absurd (show false=true from h) (by decide)
  | IfExp _ _ _ _=>exact absurd (show false=true from h) (by decide)
  | Compare _ _ _ _=>exact absurd (show false=true from h) (by decide)
  | _=>intro _;rfl
theorem aLO {e:Expr} (h:isSlice e=false):aoW e:=by
  cases e with
  | Slice _ _ _ _=>exact absurd (show true=false from h) (by decide)
  | _=>intro _ _;rfl
theorem aVG (Q:a0Q X S ex) {k:Nat} {x:Str} {b:BF} (hk:S.gl[k]?=some (x,.bf b)) (hv:S.gv[k]?=some true) (hc:(S.calm || aw2 b)=true) {e:Expr} {es:List Expr} {t:TA3} {p pos:Pos} (ha:PA3 X (e :: es) t) (he:isStar e=false) (hp:(backTo pos (starEach es X.env)).any (·.1)=false):gB X (.Call (.Name x p) (e :: es) [] pos) (uT (aVC X.K b) t):=by
  obtain ⟨h1,h2,h3,h4⟩:=Q.gl _ _ _ hk hv
  have cm:aw2 b=false→X.calm=true:=fun z=>by
    rw [z,Bool.or_false] at hc
    exact Q.cm hc
  cases b with
  | len=>exact aaZ aUD h1 h4.1 h4.2 ha h3 h2 (c7 he) hp
  | isi=>exact aaZ apC h1 h4.1 h4.2 ha h3 h2 (c7 he) hp
  | sum=>exact aaZ (aUS (cm rfl)) h1 h4.1 h4.2 ha h3 h2 (c7 he) hp
  | anZ=>exact aaZ aHG h1 h4.1 h4.2 ha h3 h2 (c7 he) hp
  | aDA=>exact aaZ aPA h1 h4.1 h4.2 ha h3 h2 (c7 he) hp
  | asW=>exact aaZ (aHO (cm rfl)) h1 h4.1 h4.2 ha h3 h2 (c7 he) hp
  | asY=>exact as5 (aHR (cm rfl)) h1 h4.1 h4.2 ha h3 h2 (c7 he) hp
theorem aI0 {m:MK} {o:Expr} {to:dZ} {ap cp:Pos} (ho:gB X o to) (hb:fD o=true) (hl:(ap.endLine == cp.line)=true):gB X (.Call (.Attribute o (mkN m) ap) [] [] cp) (aGY (mkT m) (mkR m) to):=by
  cases m with
  | append=>exact aC9 PySem.F.plainAttrs_list PySem.F.slot_list_append PySem.F.type_list_append as8 ho (rK hb) hl
  | pop=>exact aC9 PySem.F.plainAttrs_list PySem.F.slot_list_pop PySem.F.type_list_pop aL9 ho (rK hb) hl
  | ag0=>exact aC9 PySem.F.plainAttrs_list PySem.F.slot_list_index PySem.F.type_list_index asV ho (rK hb) hl
theorem aDG {m:MK} {o e:Expr} {es:List Expr} {to:dZ} {t:TA3} {cs:CEs} {ap cp:Pos} (ho:gB X o to) (ha:PA3 X (e :: es) t) (hb:fD o=true) (hl:(ap.endLine == cp.line)=true) (hk:kEs S cs (e :: es)=true) (hn:(e :: es).length < 30) :
    gB X (.Call (.Attribute o (mkN m) ap) (e :: es) [] cp) (tM3 (mkT m) (mkR m) to t):=by
  have he:isStar e=false:=by
    cases cs with
    | nil=>exact absurd (show false=true from hk) (by decide)
    | cons c r =>
      have h':(!isStar e&&kE S c e&&kEs S r es)=true:=hk
      simp only [Bool.and_eq_true,Bool.not_eq_true'] at h'
      exact h'.1.1
  have hp:(backTo cp (starEach es X.env)).any (·.1)=false:=by
    have:=a0P (env:=X.env) (pos:=cp) hk
    rw [c7 he] at this
    have z:(false || (backTo cp (starEach es X.env)).any (·.1))=false:=this
    simpa using z
  cases m with
  | append=>exact aOI PySem.F.plainAttrs_list PySem.F.slot_list_append PySem.F.type_list_append as8 ho ha (rK hb) (ac8 hk hn) hl (c7 he) hp
  | pop=>exact aOI PySem.F.plainAttrs_list PySem.F.slot_list_pop PySem.F.type_list_pop aL9 ho ha (rK hb) (ac8 hk hn) hl (c7 he) hp
  | ag0=>exact aOI PySem.F.plainAttrs_list PySem.F.slot_list_index PySem.F.type_list_index asV ho ha (rK hb) (ac8 hk hn) hl (c7 he) hp
theorem aVH {m:DM} {o e:Expr} {es:List Expr} {to:dZ} {t:TA3} {cs:CEs} {ap cp:Pos} (hu:X.A.units+64 < cLine) (ho:gB X o to) (ha:PA3 X (e :: es) t) (hb:fD o=true) (hl:(ap.endLine == cp.line)=true) (hk:kEs S cs (e :: es)=true) (hn:(e :: es).length < 30) :
    gB X (.Call (.Attribute o (dmN m) ap) (e :: es) [] cp) (avX (dmR m) to t):=by
  have he:isStar e=false:=by
    cases cs with
    | nil=>exact absurd (show false=true from hk) (by decide)
    | cons c r =>
      have h':(!isStar e&&kE S c e&&kEs S r es)=true:=hk
      simp only [Bool.and_eq_true,Bool.not_eq_true'] at h'
      exact h'.1.1
  have hp:(backTo cp (starEach es X.env)).any (·.1)=false:=by
    have:=a0P (env:=X.env) (pos:=cp) hk
    rw [c7 he] at this
    have z:(false || (backTo cp (starEach es X.env)).any (·.1))=false:=this
    simpa using z
  cases m with
  | sdf=>exact aV0 PySem.F.slot_dict_setdefault PySem.F.type_dict_setdefault (aV1 hu) ho ha (rK hb) (ac8 hk hn) hl (c7 he) hp
  | pop=>exact aV0 PySem.F.slot_dict_pop PySem.F.type_dict_pop (aP9 hu) ho ha (rK hb) (ac8 hk hn) hl (c7 he) hp
local macro_rules | `(tactic| walk_at "off")=>`(tactic| exact absurd (show false=true from by assumption) (by decide))
theorem aPX (Q:a0Q X S ex) {k:Nat} {x:Str} {p:Pos} (h:kE S (.glo k) (.Name x p)=true):gB X (.Name x p) (aPM S.gl k):=by
  have h':(S.gv[k]? == some true&&aDD S k x)=true:=h
  rw [Bool.and_eq_true] at h'
  obtain ⟨hv,h⟩:=h'
  have hv:=beq_iff_eq.mp hv
  unfold aDD at h
  unfold aPM
  split at h
  · rename_i y d hk
    have:=beq_iff_eq.mp h;subst this
    obtain ⟨h1,h2,h3,u,v,h4,h5,h6⟩:=Q.gl _ _ _ hk hv
    exact aBT h1 h4 h5 h6 h2
  · rename_i y d hk
    have:=beq_iff_eq.mp h;subst this
    obtain ⟨h1,h2,h3,h4⟩:=Q.gl _ _ _ hk hv
    exact aBT h1 h4.1 (v := .ref d) rfl (fun _ => .ref _) h2
  · rename_i y d hk
    have:=beq_iff_eq.mp h;subst this
    obtain ⟨h1,h2,h3,h4⟩:=Q.gl _ _ _ hk hv
    exact aNN h1 h4.1 h4.2 h3 h2
  · exact absurd h (by decide)
theorem aI1 (Q:a0Q X S ex) {k:Nat} {es:CEs} {x:Str} {p pos:Pos} {xs:List Expr} (ha:PA3 X xs (mA S.gl X.K ex es)) (hk:kEs S es xs=true) (hv:S.gv[k]?=some true) (h:ayF S k x (!xs.isEmpty)=true):gB X (.Call (.Name x p) xs [] pos) (aPN S.gl X.K ex k (mA S.gl X.K ex es)):=by
  unfold ayF at h
  unfold aPN
  have one:∀ {e:Expr} {r:List Expr},xs=e :: r→isStar e=false∧(backTo pos (starEach r X.env)).any (·.1)=false:=fun {e r} z=>by
    subst z
    cases es with
    | nil=>exact absurd (show false=true from hk) (by decide)
    | cons c cr =>
      have h':(!isStar e&&kE S c e&&kEs S cr r)=true:=hk
      simp only [Bool.and_eq_true,Bool.not_eq_true'] at h'
      exact ⟨h'.1.1,a0P h'.2⟩
  split at h
  · rename_i y sp n qt hg
    rw [Bool.and_eq_true] at h
    obtain ⟨h,hc⟩:=h
    have:=beq_iff_eq.mp h;subst this
    obtain ⟨h1,h2,h3,h4⟩:=Q.gl _ _ _ hg hv
    obtain ⟨j,f,fd,ps,F,hr,hm,hkp,hb⟩:=h4 (Bool.or_eq_true _ _ |>.mp hc)
    cases xs with
    | nil =>
      cases es with
      | nil=>exact aDF F hr h1 hm hkp hb Q.cat h2
      | cons _ _=>exact absurd (show false=true from hk) (by decide)
    | cons e r=>exact aGR F hr h1 hm hkp hb Q.cat ha h2 (c7 (one rfl).1) (one rfl).2
  · rename_i y a hg
    have:=beq_iff_eq.mp h;subst this
    obtain ⟨h1,h2,h3,h4,h5⟩:=Q.gl _ _ _ hg hv
    cases xs with
    | nil =>
      cases es with
      | nil=>exact aP2 PySem.F.excBase_ValueError (by decide) PySem.F.excBase_ValueError h1 h4 h5 h2
      | cons _ _=>exact absurd (show false=true from hk) (by decide)
    | cons e r=>exact aUU PySem.F.excBase_ValueError (by decide) PySem.F.excBase_ValueError h1 h4 h5 ha h2 (c7 (one rfl).1) (one rfl).2
  · rename_i y b hg
    rw [Bool.and_eq_true,Bool.and_eq_true] at h
    obtain ⟨⟨h,hc⟩,hcm⟩:=h
    have:=beq_iff_eq.mp h;subst this
    cases xs with
    | nil=>exact absurd (show false=true from hc) (by decide)
    | cons e r=>exact aVG Q hg hv hcm ha (one rfl).1 (one rfl).2
  · rename_i y n hg
    rw [Bool.and_eq_true] at h
    obtain ⟨h,hc⟩:=h
    have:=beq_iff_eq.mp h;subst this
    obtain ⟨h1,h2,h3,h4⟩:=Q.gl _ _ _ hg hv
    cases xs with
    | nil=>exact absurd (show false=true from hc) (by decide)
    | cons e r=>exact as5 aVF h1 h4.1 h4.2 ha h3 h2 (c7 (one rfl).1) (one rfl).2
  · rename_i y C sp dd hg
    rw [Bool.and_eq_true] at h
    obtain ⟨h,hc⟩:=h
    have:=beq_iff_eq.mp h;subst this
    obtain ⟨h1,h2,h3,h4⟩:=Q.gl _ _ _ hg hv
    obtain ⟨kk,f,fd,ps,ds,dvs,q1,q2,q3,q4,q5,q6,q7⟩:=h4 hc
    cases xs with
    | nil =>
      cases es with
      | nil=>exact aCW q1 q2 q3 h1 q4 q5 q6 q7 Q.cat h2
      | cons _ _=>exact absurd (show false=true from hk) (by decide)
    | cons e r=>exact aHB q1 q2 q3 h1 q4 q5 q6 q7 Q.cat ha h2 (c7 (one rfl).1) (one rfl).2
  · exact absurd h (by decide)
theorem a0R {names:List (Str×NameKind)} {env:Env} {y:Str} {k:NameKind} (h:names.lookup y=some k) :
    (names.map fun (n,k)=>if (k == .free&&env.scope.kind == .function&&env.kindOf n == some .cell) then (n,.cell) else (n,k)).lookup y=some k ∨
    (k = .free∧(names.map fun (n,k)=>if (k == .free&&env.scope.kind == .function&&env.kindOf n == some .cell) then (n,.cell) else (n,k)).lookup y=some .cell):=by
  induction names with
  | nil=>simp at h
  | cons p r ih =>
    obtain ⟨n,kd⟩:=p
    rw [List.lookup_cons] at h
    show List.lookup y ((if (kd == .free&&env.scope.kind == .function&&env.kindOf n == some .cell)=true then (n,NameKind.cell) else (n,kd)) :: _)=some k∨(k = .free∧List.lookup y ((if (kd == .free&&env.scope.kind == .function&&env.kindOf n == some .cell)=true then (n,NameKind.cell) else (n,kd)) :: _)=some .cell)
    cases hx:y == n with
    | true =>
      rw [hx] at h
      have hkd:kd=k:=by simpa using h
      subst hkd
      by_cases hc:(kd == .free&&env.scope.kind == .function&&env.kindOf n == some .cell)=true
      · rw [if_pos hc,List.lookup_cons,hx]
        refine .inr ⟨?_,rfl⟩
        simp only [Bool.and_eq_true,beq_iff_eq] at hc
        exact hc.1.1
      · rw [if_neg hc,List.lookup_cons,hx]
        exact .inl rfl
    | false =>
      rw [hx] at h
      have z:=ih h
      by_cases hc:(kd == .free&&env.scope.kind == .function&&env.kindOf n == some .cell)=true
      · rw [if_pos hc,List.lookup_cons,hx]
        exact z
      · rw [if_neg hc,List.lookup_cons,hx]
        exact z
theorem ao1:∀ {xs:List Str},apP xs=true→xs.Nodup
  | [],_=>List.nodup_nil
  | x :: r,h=>by
    have h':(!r.contains x&&apP r)=true:=h
    rw [Bool.and_eq_true] at h'
    exact List.nodup_cons.mpr ⟨by simpa using h'.1,ao1 h'.2⟩
theorem ahF {xs:List Str} {scope:Scope} {fl gv:List Bool} (h:ao0 S xs scope fl gv=true) :
    scope.kind = .function∧(∀ y∈scope.names,y.2 ≠ .cell∧(y.2 = .local→scope.names.lookup y.1=some .local)∧(y.2 = .free→aPU S y.1=true)) ∧
    (∀ x∈xs,scope.names.lookup x=some .local∧x ∉ S.N∧(x == ("__debug__" : Str))=false∧(x == ("__classdict__" : Str))=false)∧xs.Nodup∧(∀ y∈S.N,scope.names.lookup y≠some .local) ∧
    (∀ (i:Nat) (y:Str),S.N[i]?=some y→fl[i]?=some true→S.fl[i]?=some true∧scope.names.lookup y=some .free) ∧
    ∀ (k:Nat) (y:Str) (g:GT),S.gl[k]?=some (y,g)→gv[k]?=some true→scope.names.lookup y=some .globalImplicit:=by
  unfold ao0 at h
  simp only [Bool.and_eq_true] at h
  obtain ⟨⟨⟨⟨⟨⟨h1,h2⟩,h3⟩,h4⟩,h5⟩,h8⟩,h9⟩:=h
  refine ⟨beq_iff_eq.mp h1,fun y hy=>?_,fun x hx=>?_,ao1 h4,fun y hy=>?_,fun i y e1 e2=>?_,fun k y g e1 e2=>?_⟩
  · have z:=List.all_eq_true.mp h2 y hy
    simp only [Bool.and_eq_true,bne_iff_ne,ne_eq,Bool.or_eq_true,beq_iff_eq] at z
    obtain ⟨⟨z1,z2⟩,z3⟩:=z
    exact ⟨z1,fun e=>z2.resolve_left fun n=>n e,fun e=>z3.resolve_left fun n=>n e⟩
  · have z:=List.all_eq_true.mp h3 x hx
    simp only [Bool.and_eq_true] at z
    obtain ⟨⟨⟨z1,z2⟩,z3⟩,z4⟩:=z
    exact ⟨beq_iff_eq.mp z1,by simpa using z2,by simpa using z3,by simpa using z4⟩
  · have z:=List.all_eq_true.mp h5 y hy
    simpa using z
  · have z:=List.all_eq_true.mp h8 i (List.mem_range.mpr (List.getElem?_eq_some_iff.mp e1).1)
    rw [e2,e1] at z
    simpa using z
  · have z:=List.all_eq_true.mp h9 k (List.mem_range.mpr (List.getElem?_eq_some_iff.mp e1).1)
    rw [e2,e1] at z
    simpa using z
theorem ag1 (Q:a0Q X S ex) {xs:List Str} {scope:Scope} {fl gv:List Bool} (h:ao0 S xs scope fl gv=true):ac5 X xs scope:=by
  obtain ⟨h1,h2,h3,h4,h5,h8,h9⟩:=ahF h
  refine ⟨h1,fun y hy=>(h2 y hy).1,fun y hy=>(h2 y hy).2.1,fun x hx=>(h3 x hx).1,fun y hy e=>?_,fun x hx=>by rw [Q.N];exact (h3 x hx).2.1,h4,by rw [Q.N];exact h5⟩
  have z:=(h2 y hy).2.2 e
  unfold aPU at z
  obtain ⟨i,_,z⟩:=List.any_eq_true.mp z
  rw [Bool.and_eq_true] at z
  exact Q.ce i y.1 (beq_iff_eq.mp z.1) (beq_iff_eq.mp z.2)
theorem aDH {X:Cx}:Cat X NoX:=⟨fun _ _ _ _ _ _ _ _ _ ⟨_,_,_,_,_,_,_,_,_,_,_,_,z⟩=>by obtain ⟨_,_,_,_,z⟩:=z;exact z.elim⟩
theorem ao2 {α:Type} {xs ys:List α} {i:Nat} {y:α} (h:(xs++ys)[i]?=some y):(i < xs.length∧y∈xs)∨∃ j,i=xs.length+j∧ys[j]?=some y:=by
  by_cases c:i < xs.length
  · rw [List.getElem?_append_left c] at h
    exact .inl ⟨c,List.mem_of_getElem? h⟩
  · rw [List.getElem?_append_right (by omega)] at h
    exact .inr ⟨i - xs.length,by omega,h⟩
theorem ayG {α β:Type} {xs:List α} {f:α→β} {ys:List β} {j:Nat}:(xs.map f++ys)[xs.length+j]?=ys[j]?:=by
  rw [List.getElem?_append_right (by simp)]
  congr 1
  simp
theorem a0Q.cmp (Q:a0Q X S ex) {xs:List Str} {scope:Scope} {fl gv:List Bool} (h:ao0 S xs scope fl gv=true) (C:Addr) (s:Shared) (H:Hp) (fp:List Addr) (pins:List (Addr×Obj)):a0Q (a3W X xs scope C s H fp pins) (S.cmp xs fl gv) NoX:=by
  obtain ⟨h1,h2,h3,h4,h5,h8,h9⟩:=ahF h
  refine ⟨by show xs++X.N=xs++S.N;rw [Q.N],aCI (N:=X.N) (ag1 Q h) Q.nd,fun i y e1 e2=>?_,fun i y e1 e2=>?_,fun k y g e1=>?_,Q.hu,Q.cm,aDH⟩
  · rcases ao2 e1 with ⟨_,m⟩ | ⟨j,rfl,e1'⟩
    · obtain ⟨a1,a2,a3,a4⟩:=h3 y m
      exact ⟨.inl (lookup_relabel_local a1),a3,a4⟩
    · have e2':fl[j]?=some true:=ayG.symm.trans e2
      obtain ⟨a1,a2⟩:=h8 j y e1' e2'
      obtain ⟨_,b2,b3⟩:=Q.vis j y e1' a1
      refine ⟨?_,b2,b3⟩
      rcases a0R (env:=X.env) a2 with z | ⟨_,z⟩
      · exact .inr (.inr z)
      · exact .inr (.inl z)
  · rcases ao2 e1 with ⟨c,m⟩ | ⟨j,rfl,e1'⟩
    · have e2':(xs.map (fun _=>false)++fl)[i]?=some true:=e2
      rw [List.getElem?_append_left (by simpa using c)] at e2'
      simp at e2'
    · have e2':fl[j]?=some true:=ayG.symm.trans e2
      obtain ⟨a1,a2⟩:=h8 j y e1' e2'
      rcases a0R (env:=X.env) a2 with z | ⟨_,z⟩
      · exact .inr z
      · exact .inl z
  · obtain ⟨b1,b2,b3,b4⟩:=Q.gm k y g e1
    refine ⟨fun e2=>?_,b2,b3,?_⟩
    · rcases a0R (env:=X.env) (h9 k y g e1 e2) with z | ⟨z,_⟩
      · exact z
      · cases z
    · cases g <;> exact b4
theorem asZ (Q:a0Q X S ex) (h:adT S=true):Gl X "range" ∧ X.mg "range" = none:=by
  unfold adT at h
  obtain ⟨k,_,h⟩:=List.any_eq_true.mp h
  rw [Bool.and_eq_true] at h
  obtain ⟨hv,h⟩:=h
  split at h
  · rename_i y n e
    rw [Bool.and_eq_true] at h
    have:=beq_iff_eq.mp h.1
    subst this
    obtain ⟨g1,g2,g3,g4⟩:=Q.gl _ _ _ e (beq_iff_eq.mp hv)
    exact ⟨g1,g4.1⟩
  · exact absurd h (by decide)
theorem ayH {k:Nat} {x:Str} (h:aA5 S k x=true):∃ y C,S.gl[k]?=some (y,.fl C x):=by
  unfold aA5 at h
  split at h
  · rename_i y C f e
    have:=beq_iff_eq.mp h
    subst this
    exact ⟨y,C,e⟩
  · exact absurd h (by decide)
theorem aI2 {k:Nat} {x:Str} (h:aHY S k x=true):∃ y C sp dd,S.gl[k]?=some (y,.me C x sp dd):=by
  unfold aHY at h
  split at h
  · rename_i y C m sp dd e
    have:=beq_iff_eq.mp h
    subst this
    exact ⟨y,C,sp,dd,e⟩
  · exact absurd h (by decide)
theorem aDI {neg:Bool} {o:CmpOp} (hu:X.A.units+64 < cLine) (h:(o == (if neg then CmpOp.NotIn else CmpOp.In))=true):a05 X (compareOp o) (aPQ neg):=by
  have:=beq_iff_eq.mp h
  subst this
  cases neg with
  | true=>exact aP4 hu
  | false=>exact aUZ hu
theorem aI3 {o:Expr} {m:Str} {ap cp:Pos} {args:List Expr} {env:Env} (hb:attributeBase o m env (eval o env)=eval o env) (hf:((backTo cp (starEach args env)).all (fun x=>!x.1)&&(backToKw cp (keywordEach [] env)).all (fun x=>x.1.isSome)
      && decide (args.length+([]:List Keyword).length+(if ([]:List Keyword).isEmpty then 0 else 1) < 30))=true) (hl:(ap.endLine == cp.line)=true):∃ pl:Sem Bool,eval (.Call (.Attribute o m ap) args [] cp) env=(do
      let ov ← eval o env
      standAt ap.atName
      let (f,first) ← holding [ov] (getMethod ov m pl)
      callWith cp f first (backTo cp (starEach args env)) (backToKw cp (keywordEach [] env))):=by
  rw [arm_eval_Call,hb]
  have hform:methodCallForm (args.length+([]:List Keyword).length) (backTo cp (starEach args env)) (backToKw cp (keywordEach [] env))=true:=hf
  have hpos:methodCallPos true o env ap cp=pure cp:=by unfold methodCallPos;simp [hl]
  refine ⟨?_,?_⟩
  rotate_left
  · unfold methodCall
    rw [hform]
    simp only [hpos,pure_bind]
    rfl
theorem ayI (Q:a0Q X S ex) {k:Nat} {x:Str} {nm:String} (h:aA6 S k x nm=true) (hv:S.gv[k]?=some true):Gl X x∧X.mg x=none∧bootBuiltins x=some (.builtin nm)∧x ≠ "__name__" ∧ (x == ("__debug__" : Str))=false:=by
  unfold aA6 at h
  split at h
  · rename_i y b e
    rw [Bool.and_eq_true] at h
    have e1:=beq_iff_eq.mp h.1
    have e2:=beq_iff_eq.mp h.2
    subst e1
    obtain ⟨g1,g2,g3,g4⟩:=Q.gl _ _ _ e hv
    exact ⟨g1,g4.1,by rw [← e2];exact g4.2,g3,g2⟩
  · exact absurd h (by decide)
theorem at4 {w y:Expr} {n:Str} {l:Bool} (h:ahE w=some (y,n,l)):∃ ap cp,w = .Call (.Attribute y n ap) [] [] cp∧l=(ap.endLine == cp.line):=by
  unfold ahE at h
  split at h
  · cases h;exact ⟨_,_,rfl,rfl⟩
  · cases h
theorem aDJ {neg:Bool} {o:CmpOp} (hu:X.A.units+64 < cLine) (h:(o == (if neg then CmpOp.NotEq else CmpOp.Eq))=true):a05 X (compareOp o) (anY neg):=by
  have:=beq_iff_eq.mp h
  subst this
  exact aVB hu
theorem aLP {e:Expr} {env:Env} (h:isSet e=false):∀ x,foldedSetIterable e env x=pure x:=by
  cases e <;> first | (intro _;rfl) | exact absurd (show true=false from h) (by decide)
end
end L4
namespace L4
open PySem PySem.Spec PyProof.Rows L2
theorem bF {P:Prop} (h:false=true):P:=absurd h (by decide)
mutual
theorem rZ {X:Cx} {S:SI} {ex:aW→bK} (Q:a0Q X S ex):∀ (c:CE) (e:Expr),kE S c e=true→gB X e (mE S.gl X.K ex c)
  | .var i,e,h=>by
    cases e with
    | Name x p =>
      have h':(S.N[i]? == some x&&S.fl[i]? == some true)=true:=h
      rw [Bool.and_eq_true] at h'
      have e1:=beq_iff_eq.mp h'.1
      obtain ⟨v1,v2,v3⟩:=Q.vis i x e1 (beq_iff_eq.mp h'.2)
      exact aTH i (by rw [Q.N];exact e1) v1 v2 v3
    | _=>exact bF h
  | .con d,e,h=>by
    cases e with
    | Constant c j p=>exact aPV h
    | _=>exact bF h
  | .glo k,e,h=>by
    cases e with
    | Name x p=>exact aPX Q h
    | _=>exact bF h
  | .neg a,e,h=>by
    cases e with
    | UnaryOp op x p =>
      cases op with
      | USub=>exact aUC (rZ Q a x h)
      | _=>exact bF h
    | _=>exact bF h
  | .aHW a,e,h=>by
    cases e with
    | UnaryOp op x p =>
      cases op with
      | Not=>exact aTS (rZ Q a x h)
      | _=>exact bF h
    | _=>exact bF h
  | .bin o a b,e,h=>by
    cases e with
    | BinOp x o' y p =>
      have h':(o == o'&&kE S a x&&kE S b y)=true:=h
      simp only [Bool.and_eq_true] at h'
      have:=beq_iff_eq.mp h'.1.1;subst this
      exact aYJ aHZ (rZ Q a x h'.1.2) (rZ Q b y h'.2)
    | _=>exact bF h
  | .cmp o a b,e,h=>by
    cases e with
    | Compare x ops ys p =>
      match ops,ys,h with
      | [o'],[y],h =>
        have h':(o == o'&&!behindInMarks o' y&&kE S a x&&kE S b y)=true:=h
        simp only [Bool.and_eq_true,Bool.not_eq_true'] at h'
        have:=beq_iff_eq.mp h'.1.1.1;subst this
        exact aBU (ab1 Q.hu) (rZ Q a x h'.1.2) (rZ Q b y h'.2) h'.1.1.2
      | [],_,h=>exact bF h
      | _ :: _ :: _,_,h=>exact bF h
      | [_],[],h=>exact bF h
      | [_],_ :: _ :: _,h=>exact bF h
    | _=>exact bF h
  | .chain o o' a b c,e,h=>by
    cases e with
    | Compare x ops ys p =>
      match ops,ys,h with
      | [p1,p2],[y,z],h =>
        have h':(o == p1&&o' == p2&&!lastMarks [p1,p2] [y,z]&&kE S a x&&kE S b y&&kE S c z)=true:=h
        simp only [Bool.and_eq_true,Bool.not_eq_true'] at h'
        have e1:=beq_iff_eq.mp h'.1.1.1.1.1
        have e2:=beq_iff_eq.mp h'.1.1.1.1.2
        subst e1;subst e2
        exact aGI (ab1 Q.hu) (ab1 Q.hu) (rZ Q a x h'.1.1.2) (rZ Q b y h'.1.2) (rZ Q c z h'.2) h'.1.1.1.2
      | [],_,h=>exact bF h
      | [_],_,h=>exact bF h
      | _ :: _ :: _ :: _,_,h=>exact bF h
      | [_,_],[],h=>exact bF h
      | [_,_],[_],h=>exact bF h
      | [_,_],_ :: _ :: _ :: _,h=>exact bF h
    | _=>exact bF h
  | .aA4 es,e,h=>by
    cases e with
    | BoolOp op xs p =>
      cases op with
      | And=>exact aLQ Q es xs p h
      | Or=>exact bF h
    | _=>exact bF h
  | .tup es,e,h=>by
    cases e with
    | Tuple xs j p=>exact aTT (okA Q es xs h)
    | _=>exact bF h
  | .lst es,e,h=>by
    cases e with
    | List xs p=>exact aTU (okA Q es xs h)
    | _=>exact bF h
  | .dct,e,h=>by
    cases e with
    | Dict ks vs p =>
      match ks,vs,h with
      | [],[],_=>exact aOJ
      | _ :: _,_,h=>exact bF h
      | [],_ :: _,h=>exact bF h
    | _=>exact bF h
  | .ix a b,e,h=>by
    cases e with
    | Subscript x y p =>
      have h':(!isSlice y&&kE S a x&&kE S b y)=true:=h
      simp only [Bool.and_eq_true,Bool.not_eq_true'] at h'
      exact aYS (rZ Q a x h'.1.2) (rZ Q b y h'.2) (aLO h'.1.1)
    | _=>exact bF h
  | .sl a lo hi,e,h=>by
    cases e with
    | Subscript x y p =>
      cases y with
      | Slice l u st q =>
        cases st with
        | none =>
          have h':(kE S a x&&kO S lo l&&kO S hi u)=true:=h
          simp only [Bool.and_eq_true] at h'
          exact aGX (rZ Q a x h'.1.1) (okO Q lo l h'.1.2) (okO Q hi u h'.2)
        | some _=>exact bF h
      | _=>exact bF h
    | _=>exact bF h
  | .call k es,e,h=>by
    cases e with
    | Call f xs kws p =>
      cases f with
      | Name x q =>
        cases kws with
        | nil =>
          have h':(kEs S es xs&&S.gv[k]? == some true&&ayF S k x (!xs.isEmpty))=true:=h
          simp only [Bool.and_eq_true] at h'
          exact aI1 Q (okA Q es xs h'.1.1) h'.1.1 (beq_iff_eq.mp h'.1.2) h'.2
        | cons _ _=>exact bF h
      | _=>exact bF h
    | _=>exact bF h
  | .meth m o .nil,e,h=>by
    cases e with
    | Call f xs kws p =>
      cases f with
      | Attribute y n ap =>
        cases kws with
        | nil =>
          have h':(n == mkN m&&fD y&&ap.endLine == p.line&&decide (xs.length < 30)&&kE S o y&&kEs S .nil xs)=true:=h
          simp only [Bool.and_eq_true] at h'
          obtain ⟨⟨⟨⟨⟨h1,h2⟩,h3⟩,h4⟩,h5⟩,h6⟩:=h'
          have:=beq_iff_eq.mp h1;subst this
          cases xs with
          | nil=>exact aI0 (rZ Q o y h5) h2 h3
          | cons _ _=>exact bF h6
        | cons _ _=>exact bF h
      | _=>exact bF h
    | _=>exact bF h
  | .meth m o (.cons c r),e,h=>by
    cases e with
    | Call f xs kws p =>
      cases f with
      | Attribute y n ap =>
        cases kws with
        | nil =>
          have h':(n == mkN m&&fD y&&ap.endLine == p.line&&decide (xs.length < 30)&&kE S o y&&kEs S (.cons c r) xs)=true:=h
          simp only [Bool.and_eq_true] at h'
          obtain ⟨⟨⟨⟨⟨h1,h2⟩,h3⟩,h4⟩,h5⟩,h6⟩:=h'
          have:=beq_iff_eq.mp h1;subst this
          cases xs with
          | nil=>exact bF h6
          | cons x xs =>
            have h7:(!isStar x&&kE S c x&&kEs S r xs)=true:=h6
            simp only [Bool.and_eq_true,Bool.not_eq_true'] at h7
            exact aDG (rZ Q o y h5) (ac3 (rZ Q c x h7.1.2) (okA Q r xs h7.2) (c7 h7.1.1)) h2 h3 h6 (of_decide_eq_true h4)
        | cons _ _=>exact bF h
      | _=>exact bF h
    | _=>exact bF h
  | .comp fl gv ci cc c,e,h=>by
    cases e with
    | ListComp elt gens scope p =>
      cases gens with
      | nil=>exact bF h
      | cons g gr =>
        cases gr with
        | cons _ _=>obtain ⟨tg,it,ifs,a⟩:=g;cases tg <;> exact bF h
        | nil =>
          obtain ⟨tg,it,ifs,a⟩:=g
          cases tg with
          | Name x px =>
            have h':(a == 0&&ao0 S [x] scope fl gv&&!isSet it&&kI S false ci it&&kC (S.cmp [x] fl gv) cc ifs&&kE (S.cmp [x] fl gv) c elt)=true:=h
            simp only [Bool.and_eq_true,Bool.not_eq_true'] at h'
            obtain ⟨⟨⟨⟨⟨h2,h3⟩,h4⟩,h5⟩,h6⟩,h7⟩:=h'
            have:=beq_iff_eq.mp h2;subst this
            exact aH6 (ag1 Q h3) (fun C s H fp pins σ=>aOS (ag1 Q h3) Q.nd) aCH (okI (tt:=false) Q (fun z=>nomatch z) ci it h5) (fun C s H fp pins=>okC (Q.cmp h3 C s H fp pins) cc ifs h6) (fun C s H fp pins=>rZ (Q.cmp h3 C s H fp pins) c elt h7) (aLP h4)
          | _=>exact bF h
    | _=>exact bF h
  | .fld k c,e,h=>by
    cases e with
    | Attribute y n p =>
      have h':(aA5 S k n&&fD y&&kE S c y)=true:=h
      simp only [Bool.and_eq_true] at h'
      obtain ⟨z,C,hg⟩:=ayH h'.1.1
      obtain ⟨_,_,_,g⟩:=Q.gm _ _ _ hg
      show gB X _ (aPO S.gl k _)
      unfold aPO
      rw [hg]
      exact aUV (rZ Q c y h'.2) g.1 g.2 (rK h'.1.2)
    | _=>exact bF h
  | .rY k c cs,e,h=>by
    cases e with
    | Call f as ks p =>
      cases f with
      | Attribute y n ap =>
        cases ks with
        | cons _ _=>exact bF h
        | nil =>
          have h':(aHY S k n&&S.calm&&fD y&&ap.endLine == p.line&&decide (as.length < 30)&&kE S c y&&kEs S cs as)=true:=h
          simp only [Bool.and_eq_true] at h'
          obtain ⟨⟨⟨⟨⟨⟨h1,h2⟩,h3⟩,h4⟩,h5⟩,h6⟩,h7⟩:=h'
          obtain ⟨z,C,sp,dd,hg⟩:=aI2 h1
          obtain ⟨_,_,_,g⟩:=Q.gm _ _ _ hg
          obtain ⟨kk,f,fd,ps,ds,dvs,q1,q2,q3,q4,q5,q6,q7⟩:=g h2
          obtain ⟨pl,ht⟩:=aI3 (env:=X.env) (m:=n) (rK h3) (ac8 (X:=X) (cp:=p) h7 (of_decide_eq_true h5)) h4
          show gB X _ (aPP S.gl ex k _ _)
          unfold aPP
          rw [hg]
          cases cs with
          | nil =>
            cases as with
            | cons _ _=>exact bF h7
            | nil=>exact aCV (rZ Q c y h6) q1 q2 q3 q4 q5 q6 q7 Q.cat ht
          | cons c1 cr =>
            cases as with
            | nil=>exact bF h7
            | cons a1 ar =>
              have h8:(!isStar a1&&kE S c1 a1&&kEs S cr ar)=true:=h7
              simp only [Bool.and_eq_true,Bool.not_eq_true'] at h8
              exact aHA (rZ Q c y h6) q1 q2 q3 q4 q5 q6 q7 Q.cat (ac3 (rZ Q c1 a1 h8.1.2) (okA Q cr ar h8.2) (c7 h8.1.1)) (c7 h8.1.1) (a0P h8.2) ht
      | _=>exact bF h
    | _=>exact bF h
  | .dix a b,e,h=>by
    cases e with
    | Subscript x y p =>
      have h':(!isSlice y&&kE S a x&&kE S b y)=true:=h
      simp only [Bool.and_eq_true,Bool.not_eq_true'] at h'
      exact aUY Q.hu (rZ Q a x h'.1.2) (rZ Q b y h'.2) (aLO h'.1.1)
    | _=>exact bF h
  | .din neg a b,e,h=>by
    cases e with
    | Compare x ops ys p =>
      match ops,ys,h with
      | [o'],[y],h =>
        have h':(o' == (if neg then CmpOp.NotIn else CmpOp.In)&&!behindInMarks o' y&&kE S a x&&kE S b y)=true:=h
        simp only [Bool.and_eq_true,Bool.not_eq_true'] at h'
        exact aBU (aDI Q.hu h'.1.1.1) (rZ Q a x h'.1.2) (rZ Q b y h'.2) h'.1.1.2
      | [],_,h=>exact bF h
      | _ :: _ :: _,_,h=>exact bF h
      | [_],[],h=>exact bF h
      | [_],_ :: _ :: _,h=>exact bF h
    | _=>exact bF h
  | .dgt c d f,e,h=>by
    cases e with
    | Call g as ks p =>
      cases g with
      | Attribute y n ap =>
        match as,ks,h with
        | [],_,h=>exact bF h
        | [_],_,h=>exact bF h
        | _ :: _ :: _ :: _,_,h=>exact bF h
        | [_,_],_ :: _,h=>exact bF h
        | [x,z],[],h =>
          have h':(n == ("get" : Str)&&fD y&&ap.endLine == p.line&&!isStar x&&!isStar z&&kE S c y&&kE S d x&&kE S f z)=true:=h
          simp only [Bool.and_eq_true,Bool.not_eq_true'] at h'
          obtain ⟨⟨⟨⟨⟨⟨⟨h0,h1⟩,h2⟩,h3⟩,h4⟩,h5⟩,h6⟩,h7⟩:=h'
          have:=beq_iff_eq.mp h0;subst this
          have k2:kEs S (.cons d (.cons f .nil)) [x,z]=true:=by
            show (!isStar x&&kE S d x&&(!isStar z&&kE S f z&&true))=true
            rw [h3,h4,h6,h7];rfl
          exact aHC Q.hu (rZ Q c y h5) (rZ Q d x h6) (rZ Q f z h7) ⟨rK h1,ac8 (X:=X) (cp:=p) k2 (show 2 < 30 by decide),h2,by rw [c7 h3,c7 h4];rfl⟩
      | _=>exact bF h
    | _=>exact bF h
  | .aDB,e,h=>by
    cases e with
    | Dict ks vs p =>
      match ks,vs,h with
      | [],[],_=>exact aGZ
      | _ :: _,_,h=>exact bF h
      | [],_ :: _,h=>exact bF h
    | _=>exact bF h
  | .dm m o c r,e,h=>by
    cases e with
    | Call f xs kws p =>
      cases f with
      | Attribute y n ap =>
        match xs,kws,h with
        | [],_,h=>exact bF h
        | _ :: _,_ :: _,h=>exact bF h
        | x :: xs,[],h =>
          have h':(n == dmN m&&fD y&&ap.endLine == p.line&&decide ((x :: xs).length < 30)&&kE S o y&&!isStar x&&kE S c x&&kEs S r xs)=true:=h
          simp only [Bool.and_eq_true] at h'
          obtain ⟨⟨⟨⟨⟨⟨⟨h1,h2⟩,h3⟩,h4⟩,h5⟩,h6⟩,h7⟩,h8⟩:=h'
          have:=beq_iff_eq.mp h1;subst this
          have hk:kEs S (.cons c r) (x :: xs)=true:=by
            show (!isStar x&&kE S c x&&kEs S r xs)=true
            rw [h6,h7,h8];rfl
          simp only [Bool.not_eq_true'] at h6
          exact aVH Q.hu (rZ Q o y h5) (ac3 (rZ Q c x h7) (okA Q r xs h8) (c7 h6)) h2 h3 hk (of_decide_eq_true h4)
      | _=>exact bF h
    | _=>exact bF h
  | .sortI k c,e,h=>by
    cases e with
    | Call f as ks p =>
      cases f with
      | Name x q =>
        match as,ks,h with
        | [],_,h=>exact bF h
        | _ :: _ :: _,_,h=>exact bF h
        | [_],_ :: _,h=>exact bF h
        | [w],[],h =>
          have h':(S.calm&&S.gv[k]? == some true&&aA6 S k x "sorted" && (match ahE w with
            | some (y,n,l)=>l&&n == ("items" : Str)&&fD y&&kE S c y
            | none=>false))=true:=h
          simp only [Bool.and_eq_true] at h'
          obtain ⟨⟨⟨h1,h2⟩,h3⟩,h4⟩:=h'
          cases q2:ahE w with
          | none=>rw [q2] at h4;exact bF h4
          | some z =>
            obtain ⟨y,n,l⟩:=z
            rw [q2] at h4
            simp only [Bool.and_eq_true] at h4
            obtain ⟨⟨⟨h5,h6⟩,h7⟩,h8⟩:=h4
            have e6:=beq_iff_eq.mp h6;subst e6
            obtain ⟨ap,cp,rfl,rfl⟩:=at4 q2
            obtain ⟨g1,g2,g3,g4,g5⟩:=ayI Q h3 (beq_iff_eq.mp h2)
            exact aHS (Q.cm h1) (rZ Q c y h8) g1 g2 g3 g4 g5 (rK h7) h5
      | _=>exact bF h
    | _=>exact bF h
  | .aHX k c,e,h=>by
    cases e with
    | Call f as ks p =>
      cases f with
      | Name x q =>
        match as,ks,h with
        | [],_,h=>exact bF h
        | _ :: _ :: _,_,h=>exact bF h
        | [_],_ :: _,h=>exact bF h
        | [w],[],h =>
          have h':(S.calm&&S.gv[k]? == some true&&aA6 S k x "sum" && (match ahE w with
            | some (y,n,l)=>l&&n == ("values" : Str)&&fD y&&kE S c y
            | none=>false))=true:=h
          simp only [Bool.and_eq_true] at h'
          obtain ⟨⟨⟨h1,h2⟩,h3⟩,h4⟩:=h'
          cases q2:ahE w with
          | none=>rw [q2] at h4;exact bF h4
          | some z =>
            obtain ⟨y,n,l⟩:=z
            rw [q2] at h4
            simp only [Bool.and_eq_true] at h4
            obtain ⟨⟨⟨h5,h6⟩,h7⟩,h8⟩:=h4
            have e6:=beq_iff_eq.mp h6;subst e6
            obtain ⟨ap,cp,rfl,rfl⟩:=at4 q2
            obtain ⟨g1,g2,g3,g4,g5⟩:=ayI Q h3 (beq_iff_eq.mp h2)
            exact aPI (Q.cm h1) (rZ Q c y h8) g1 g2 g3 g4 g5 (rK h7) h5
      | _=>exact bF h
    | _=>exact bF h
  | .deq neg a b,e,h=>by
    cases e with
    | Compare x ops ys p =>
      match ops,ys,h with
      | [o'],[y],h =>
        have h':(o' == (if neg then CmpOp.NotEq else CmpOp.Eq)&&kE S a x&&kE S b y)=true:=h
        simp only [Bool.and_eq_true] at h'
        have hb:behindInMarks o' y=false:=by
          have:=beq_iff_eq.mp h'.1.1
          subst this
          exact ajR _ (by cases neg <;> decide) (by cases neg <;> decide)
        exact aBU (aDJ Q.hu h'.1.1) (rZ Q a x h'.1.2) (rZ Q b y h'.2) hb
      | [],_,h=>exact bF h
      | _ :: _ :: _,_,h=>exact bF h
      | [_],[],h=>exact bF h
      | [_],_ :: _ :: _,h=>exact bF h
    | _=>exact bF h
  | .aDC t a b,e,h=>by
    cases e with
    | Dict ks vs p =>
      match ks,vs,h with
      | [some x],[y],h =>
        have h':(kE S a x&&kE S b y)=true:=h
        rw [Bool.and_eq_true] at h'
        exact aHV Q.hu (rZ Q a x h'.1) (rZ Q b y h'.2)
      | [],_,h=>exact bF h
      | [none],_,h=>exact bF h
      | some _ :: _ :: _,_,h=>exact bF h
      | none :: _ :: _,_,h=>exact bF h
      | [some _],[],h=>exact bF h
      | [some _],_ :: _ :: _,h=>exact bF h
    | _=>exact bF h
theorem okA {X:Cx} {S:SI} {ex:aW→bK} (Q:a0Q X S ex):∀ (c:CEs) (es:List Expr),kEs S c es=true→PA3 X es (mA S.gl X.K ex c)
  | .nil,es,h=>by
    cases es with
    | nil=>exact aBW
    | cons _ _=>exact bF h
  | .cons c r,es,h=>by
    cases es with
    | nil=>exact bF h
    | cons x xs =>
      have h7:(!isStar x&&kE S c x&&kEs S r xs)=true:=h
      simp only [Bool.and_eq_true,Bool.not_eq_true'] at h7
      exact ac3 (rZ Q c x h7.1.2) (okA Q r xs h7.2) (c7 h7.1.1)
theorem aLQ {X:Cx} {S:SI} {ex:aW→bK} (Q:a0Q X S ex):∀ (c:CEs) (es:List Expr) (p:Pos),kEs S c es=true→gB X (.BoolOp .And es p) (aPR S.gl X.K ex c)
  | .nil,es,p,h=>aDE
  | .cons c .nil,es,p,h=>by
    match es,h with
    | [],h=>exact bF h
    | [x],h =>
      have h7:(!isStar x&&kE S c x&&kEs S .nil [])=true:=h
      simp only [Bool.and_eq_true,Bool.not_eq_true'] at h7
      exact aL1 (rZ Q c x h7.1.2)
    | x :: y :: ys,h =>
      have h7:(!isStar x&&kE S c x&&kEs S .nil (y :: ys))=true:=h
      simp only [Bool.and_eq_true,Bool.not_eq_true'] at h7
      exact bF h7.2
  | .cons c (.cons c' r),es,p,h=>by
    match es,h with
    | [],h=>exact bF h
    | [x],h =>
      have h7:(!isStar x&&kE S c x&&kEs S (.cons c' r) [])=true:=h
      simp only [Bool.and_eq_true,Bool.not_eq_true'] at h7
      exact bF h7.2
    | x :: y :: ys,h =>
      have h7:(!isStar x&&kE S c x&&kEs S (.cons c' r) (y :: ys))=true:=h
      simp only [Bool.and_eq_true,Bool.not_eq_true'] at h7
      exact aTR (rZ Q c x h7.1.2) (aLQ Q (.cons c' r) (y :: ys) p h7.2)
theorem aZS {X:Cx} {S:SI} {ex:aW→bK} (Q:a0Q X S ex):∀ (c:CEs) (es:List Expr) (p:Pos),kEs S c es=true→gB X (.BoolOp .Or es p) (mOr S.gl X.K ex c)
  | .nil,es,p,h=>aDE
  | .cons c .nil,es,p,h=>by
    match es,h with
    | [],h=>exact bF h
    | [x],h =>
      have h7:(!isStar x&&kE S c x&&kEs S .nil [])=true:=h
      simp only [Bool.and_eq_true,Bool.not_eq_true'] at h7
      exact aL1 (rZ Q c x h7.1.2)
    | x :: y :: ys,h =>
      have h7:(!isStar x&&kE S c x&&kEs S .nil (y :: ys))=true:=h
      simp only [Bool.and_eq_true,Bool.not_eq_true'] at h7
      exact bF h7.2
  | .cons c (.cons c' r),es,p,h=>by
    match es,h with
    | [],h=>exact bF h
    | [x],h =>
      have h7:(!isStar x&&kE S c x&&kEs S (.cons c' r) [])=true:=h
      simp only [Bool.and_eq_true,Bool.not_eq_true'] at h7
      exact bF h7.2
    | x :: y :: ys,h =>
      have h7:(!isStar x&&kE S c x&&kEs S (.cons c' r) (y :: ys))=true:=h
      simp only [Bool.and_eq_true,Bool.not_eq_true'] at h7
      exact aYL (rZ Q c x h7.1.2) (aZS Q (.cons c' r) (y :: ys) p h7.2)
theorem okT {X:Cx} {S:SI} {ex:aW→bK} (Q:a0Q X S ex):∀ (c:CT) (e:Expr),kT S c e=true→PT3 X e (mT S.gl X.K ex c)
  | .cmp o a b,e,h=>by
    cases e with
    | Compare x ops ys p =>
      match ops,ys,h with
      | [o'],[y],h =>
        have h':(o == o'&&!behindInMarks o' y&&kE S a x&&kE S b y)=true:=h
        simp only [Bool.and_eq_true,Bool.not_eq_true'] at h'
        have:=beq_iff_eq.mp h'.1.1.1;subst this
        exact aBV (ab1 Q.hu) (rZ Q a x h'.1.2) (rZ Q b y h'.2) h'.1.1.2
      | [],_,h=>exact bF h
      | _ :: _ :: _,_,h=>exact bF h
      | [_],[],h=>exact bF h
      | [_],_ :: _ :: _,h=>exact bF h
    | _=>exact bF h
  | .chain o o' a b c,e,h=>by
    cases e with
    | Compare x ops ys p =>
      match ops,ys,h with
      | [p1,p2],[y,z],h =>
        have h':(o == p1&&o' == p2&&!lastMarks [p1,p2] [y,z]&&kE S a x&&kE S b y&&kE S c z)=true:=h
        simp only [Bool.and_eq_true,Bool.not_eq_true'] at h'
        have e1:=beq_iff_eq.mp h'.1.1.1.1.1
        have e2:=beq_iff_eq.mp h'.1.1.1.1.2
        subst e1;subst e2
        exact aGJ (ab1 Q.hu) (ab1 Q.hu) (rZ Q a x h'.1.1.2) (rZ Q b y h'.1.2) (rZ Q c z h'.2) h'.1.1.1.2
      | [],_,h=>exact bF h
      | [_],_,h=>exact bF h
      | _ :: _ :: _ :: _,_,h=>exact bF h
      | [_,_],[],h=>exact bF h
      | [_,_],[_],h=>exact bF h
      | [_,_],_ :: _ :: _ :: _,h=>exact bF h
    | _=>exact bF h
  | .not t,e,h=>by
    cases e with
    | UnaryOp op x p =>
      cases op with
      | Not=>exact aTQ (okT Q t x h)
      | _=>exact bF h
    | _=>exact bF h
  | .or ts,e,h=>by
    cases e with
    | BoolOp op xs p =>
      cases op with
      | Or=>exact PW.pt (aLS Q ts xs p h)
      | And=>exact bF h
    | _=>exact bF h
  | .din neg a b,e,h=>by
    cases e with
    | Compare x ops ys p =>
      match ops,ys,h with
      | [o'],[y],h =>
        have h':(o' == (if neg then CmpOp.NotIn else CmpOp.In)&&!behindInMarks o' y&&kE S a x&&kE S b y)=true:=h
        simp only [Bool.and_eq_true,Bool.not_eq_true'] at h'
        exact aBV (aDI Q.hu h'.1.1.1) (rZ Q a x h'.1.2) (rZ Q b y h'.2) h'.1.1.2
      | [],_,h=>exact bF h
      | _ :: _ :: _,_,h=>exact bF h
      | [_],[],h=>exact bF h
      | [_],_ :: _ :: _,h=>exact bF h
    | _=>exact bF h
  | .deq neg a b,e,h=>by
    cases e with
    | Compare x ops ys p =>
      match ops,ys,h with
      | [o'],[y],h =>
        have h':(o' == (if neg then CmpOp.NotEq else CmpOp.Eq)&&kE S a x&&kE S b y)=true:=h
        simp only [Bool.and_eq_true] at h'
        have hb:behindInMarks o' y=false:=by
          have:=beq_iff_eq.mp h'.1.1
          subst this
          exact ajR _ (by cases neg <;> decide) (by cases neg <;> decide)
        exact aBV (aDJ Q.hu h'.1.1) (rZ Q a x h'.1.2) (rZ Q b y h'.2) hb
      | [],_,h=>exact bF h
      | _ :: _ :: _,_,h=>exact bF h
      | [_],[],h=>exact bF h
      | [_],_ :: _ :: _,h=>exact bF h
    | _=>exact bF h
  | .val c,e,h=>by
    have h':(plainT e&&kE S c e)=true:=h
    rw [Bool.and_eq_true] at h'
    exact aTM (rZ Q c e h'.2) (aPW h'.1)
theorem aPZ {X:Cx} {S:SI} {ex:aW→bK} (Q:a0Q X S ex):∀ (c:CTs) (es:List Expr) (p:Pos),kTs S c es=true→PW3 X (.BoolOp .And es p) (aLM S.gl X.K ex c)
  | .nil,es,p,h=>fun _ _ _ _ _ _ _ ⟨_,_,_,_,_,z,_⟩=>z.elim
  | .cons c .nil,es,p,h=>by
    match es,h with
    | [],h=>exact bF h
    | [x],h =>
      have h7:(kT S c x&&kTs S .nil [])=true:=h
      simp only [Bool.and_eq_true] at h7
      exact aNP (okT Q c x h7.1)
    | x :: y :: ys,h =>
      have h7:(kT S c x&&kTs S .nil (y :: ys))=true:=h
      simp only [Bool.and_eq_true] at h7
      exact bF h7.2
  | .cons c (.cons c' r),es,p,h=>by
    match es,h with
    | [],h=>exact bF h
    | [x],h =>
      have h7:(kT S c x&&kTs S (.cons c' r) [])=true:=h
      simp only [Bool.and_eq_true] at h7
      exact bF h7.2
    | x :: y :: ys,h =>
      have h7:(kT S c x&&kTs S (.cons c' r) (y :: ys))=true:=h
      simp only [Bool.and_eq_true] at h7
      exact aTP (okT Q c x h7.1) (aPZ Q (.cons c' r) (y :: ys) p h7.2)
theorem aLS {X:Cx} {S:SI} {ex:aW→bK} (Q:a0Q X S ex):∀ (c:CTs) (es:List Expr) (p:Pos),kTs S c es=true→PW3 X (.BoolOp .Or es p) (aPS S.gl X.K ex c)
  | .nil,es,p,h=>fun _ _ _ _ _ _ _ ⟨_,_,_,_,_,z,_⟩=>z.elim
  | .cons c .nil,es,p,h=>by
    match es,h with
    | [],h=>exact bF h
    | [x],h =>
      have h7:(kT S c x&&kTs S .nil [])=true:=h
      simp only [Bool.and_eq_true] at h7
      exact aTO (okT Q c x h7.1)
    | x :: y :: ys,h =>
      have h7:(kT S c x&&kTs S .nil (y :: ys))=true:=h
      simp only [Bool.and_eq_true] at h7
      exact bF h7.2
  | .cons c (.cons c' r),es,p,h=>by
    match es,h with
    | [],h=>exact bF h
    | [x],h =>
      have h7:(kT S c x&&kTs S (.cons c' r) [])=true:=h
      simp only [Bool.and_eq_true] at h7
      exact bF h7.2
    | x :: y :: ys,h =>
      have h7:(kT S c x&&kTs S (.cons c' r) (y :: ys))=true:=h
      simp only [Bool.and_eq_true] at h7
      exact aYK (okT Q c x h7.1) (aLS Q (.cons c' r) (y :: ys) p h7.2)
theorem okO {X:Cx} {S:SI} {ex:aW→bK} (Q:a0Q X S ex):∀ (c:CO) (e:Option Expr),kO S c e=true→PO3 X e (mO S.gl X.K ex c)
  | .none,e,h=>by
    cases e with
    | none=>exact aNU
    | some _=>exact bF h
  | .some c,e,h=>by
    cases e with
    | none=>exact bF h
    | some x=>exact aNV (rZ Q c x h)
theorem okI {X:Cx} {S:SI} {ex:aW→bK} (Q:a0Q X S ex) {tg:Expr} {tt:Bool} (htt:tt=true→X.calm=true∧∃ es kt pt,tg = .Tuple es kt pt):∀ (c:CI) (e:Expr),kI S tt c e=true→PI3 X tg e (mI S.gl X.K ex c)
  | .any c,e,h=>aUI (rZ Q c e h)
  | .aw0 c,e,h=>by
    cases e with
    | Call f as ks p =>
      cases f with
      | Name r q =>
        cases as with
        | nil=>exact bF h
        | cons y yr =>
          cases yr with
          | cons _ _=>exact bF h
          | nil =>
            cases ks with
            | cons _ _=>exact bF h
            | nil =>
              have h':(r == ("range" : Str)&&adT S&&!isStar y&&kE S c y)=true:=h
              simp only [Bool.and_eq_true,Bool.not_eq_true'] at h'
              obtain ⟨⟨⟨h1,h2⟩,h3⟩,h4⟩:=h'
              have:=beq_iff_eq.mp h1;subst this
              obtain ⟨g1,g2⟩:=asZ Q h2
              exact aON g1 g2 (ac3 (rZ Q c y h4) aBW (c7 h3)) (c7 h3)
      | _=>exact bF h
    | _=>exact bF h
theorem okC {X:Cx} {S:SI} (Q:a0Q X S NoX):∀ (c:CC) (es:List Expr),kC S c es=true→aCD X es (mC S.gl X.K c)
  | .none,es,h=>by
    cases es with
    | nil=>exact aH4
    | cons _ _=>exact bF h
  | .some t,es,h=>by
    match es,h with
    | [],h=>exact bF h
    | [x],h=>exact aH5 (okT Q t x h)
    | _ :: _ :: _,h=>exact bF h
end
end L4
namespace L4
open PySem PySem.Spec PyProof.Rows L2
inductive CTg where
  | nm (i:Nat) | tup (is:List Nat)
mutual
inductive CS where
  | ret (e:CE) | expr (e:CE) | ifs (t:CT) (a b:CB) | set (i:Nat) (e:CE) | aI4 (o i e:CE)
  | raise (k:Nat) (e:CE) (es:CEs) | aDK (k i:Nat) (b h:CB) | pass | cont
  | aw3 (ci:CI) (tg:CTg) (b:CB)
  | aA7 (k:Nat) (o e:CE) | aDL (o i e:CE)
inductive CB where
  | nil | cons (s:CS) (r:CB)
end
def aDM:bU:=fun _ _ _=>False
abbrev SI.han (S:SI):SI:={ S with calm:=false }
def mIS (T:List (Str×GT)) (K:Fg) (ex:aW→bK):CI→TI3
  | .any e=>aCL (mE T K ex e)
  | .aw0 e=>ac4 (aA (mE T K ex e) aH)
def mG:CTg→TG3
  | .nm i=>ac6 i
  | .tup is=>asB is
def aVJ:Bool→Int→Int→Int
  | true=>fun a b=>a - b
  | false=>fun a b=>a+b
def aI5 (T:List (Str×GT)) (ex:aW→bK) (k:Nat) (t:TA3):bU:=match T[k]? with
  | some (_,.cls a)=>xK ex a t
  | _=>aDM
def aI6 (T:List (Str×GT)) (K:Fg) (k i:Nat) (tb:(aW→bK)→bU) (th:bU):bU:=match T[k]? with
  | some (_,.cls a)=>anL K a i tb th
  | _=>aDM
def aQ0 (T:List (Str×GT)) (k:Nat) (to te:dZ):bU:=match T[k]? with
  | some (_,.fl C f)=>afV C to te f
  | _=>aDM
def ao3 (S:SI) (k:Nat) (x:Str):Bool:=match S.gl[k]? with
  | some (z,.cls _)=>z == x
  | _=>false
mutual
def mS (T:List (Str×GT)) (K:Fg) (ex:aW→bK):CS→bU
  | .ret e=>dR (mE T K ex e)
  | .expr e=>dD (mE T K ex e)
  | .ifs t a b=>jF (mT T K ex t) (mB T K ex a) (mB T K ex b)
  | .set i e=>p8 i (mE T K ex e)
  | .aI4 o i e=>ap7 (mE T K ex o) (mE T K ex i) (mE T K ex e)
  | .raise k e es=>aI5 T ex k (aA (mE T K ex e) (mA T K ex es))
  | .aDK k i b h=>aI6 T K k i (fun EX2=>mB T K EX2 b) (mB T K NoX h)
  | .aw3 ci tg b=>ac7 (mIS T K ex ci) (mG tg) (mB T K ex b)
  | .aA7 k o e=>aQ0 T k (mE T K ex o) (mE T K ex e)
  | .aDL o i e=>akB (mE T K ex o) (mE T K ex i) (mE T K ex e)
  | .pass=>dB
  | .cont=>ap6
def mB (T:List (Str×GT)) (K:Fg) (ex:aW→bK):CB→bU
  | .nil=>dB
  | .cons s .nil=>mS T K ex s
  | .cons s (.cons s' r)=>aZ (mS T K ex s) (mB T K ex (.cons s' r))
end
def isTup:Expr→Bool
  | .Tuple ..=>true
  | _=>false
def zB:Expr→Bool
  | .ListComp ..=>true
  | .SetComp ..=>true
  | .DictComp ..=>true
  | _=>false
def kTg (S:SI):CTg→Expr→Bool
  | .nm i,.Name x _=>S.N[i]? == some x&&S.fl[i]? == some true
  | .tup is,.Tuple es _ _=>kNs S is es
  | _,_=>false
where
  kNs (S:SI):List Nat→List Expr→Bool
  | [],[]=>true
  | i :: is,.Name x _ :: es=>S.N[i]? == some x&&S.fl[i]? == some true&&kNs S is es
  | _,_=>false
def aQ2 (S:SI):CTg→Bool
  | .nm _=>true
  | .tup _=>S.calm
mutual
def kS (S:SI) (lv:Nat):CS→Stmt→Bool
  | .ret e,.Return (some x) _=>kE S e x
  | .expr e,.Expr x _=>!zB x&&kE S e x
  | .ifs t a b,.If x y z _=>kT S t x&&kB S lv a y&&kB S lv b z
  | .set i e,.Assign [.Name x _] y _=>S.N[i]? == some x&&S.fl[i]? == some true&&!zB y&&kE S e y
  | .aI4 o i e,.Assign [.Subscript x y _] z _=>!isSlice y&&!zB z&&kE S o x&&kE S i y&&kE S e z
  | .raise k e es,.Raise (some (.Call (.Name x _) (y :: ys) [] _)) none _=>lv == 0&&S.calm&&!isStar y&&kE S e y&&kEs S es ys&&S.gv[k]? == some true&&ao3 S k x
  | .aDK k i b h,.Try y [.ExceptHandler (some (.Name x _)) (some n) (z :: zs) _] [] [] _=>lv == 0&&S.calm&&S.N[i]? == some n&&S.lc[i]? == some true&&kB S 1 b y&&kB S.han 2 h (z :: zs)&&S.gv[k]? == some true&&ao3 S k x
  | .aA7 k o e,.Assign [.Attribute x n _] z _=>aA5 S k n&&!zB z&&kE S o x&&kE S e z
  | .aDL o i e,.Assign [.Subscript x y _] z _=>!isSlice y&&!zB z&&kE S o x&&kE S i y&&kE S e z
  | .aw3 ci tg b,.For tgt iter body [] _=>lv != 1&&aQ2 S tg&&!isSet iter&&kTg S tg tgt&&kI S (isTup tgt&&S.calm) ci iter&&kB S lv b body
  | .pass,.Pass _=>true
  | .cont,.Continue _=>true
  | _,_=>false
def kB (S:SI) (lv:Nat):CB→List Stmt→Bool
  | .nil,[]=>true
  | .cons s r,x :: xs=>kS S lv s x&&kB S lv r xs
  | _,_=>false
end
structure akG (X:Cx) (S:SI) (ex:aW→bK) (lv:Nat):Prop where
  si:a0Q X S ex
  loc:∀ (i:Nat) (x:Str),S.N[i]?=some x→S.fl[i]?=some true→Loc X.env.scope x
  lcl:∀ (i:Nat) (x:Str),S.N[i]?=some x→S.lc[i]?=some true→X.env.kindOf x=some .local
  fn:∀ x,X.fn x=true
  cls:∀ (k:Nat) (x:Str) (a:Addr),S.gl[k]?=some (x,.cls a)→S.gv[k]?=some true→PySem.W.excIn X.K a BMv "ValueError.__new__" = true∧(PySem.W.clsIn X.K a).isSome=true∧PySem.W.typeIn X.K (.ref a)=some (.type "type")∧PySem.W.subIn X.K (.ref a) (.type "BaseException")=some true
  l0:lv≠1→PassesOwn (model X.prog X.w) X.A X.env X.xe
  rz:lv=0→S.calm=true→Thr X ex
  stk:X.stack=X.env :: X.outer
  frm:X.env.frame=some X.env.locals
theorem at5 {e:Expr} {t:Option Expr} {n:Nat} {env:Env} (h:zB e=false):swapsWith e t n env=pure false:=by
  cases e <;> first | rfl | exact absurd (show true=false from h) (by decide)
theorem aI7 {o i:Expr} {p:Pos} {env:Env} (h:isSlice i=false):∀ v,assign (.Subscript o i p) env v=(do
      let ov ← holding [v] (eval o env)
      let iv ← holding [v,ov] (eval i env)
      standAt p
      holding [v,ov,iv] (setItem ov iv v)
      release [v,ov,iv] []):=by
  cases i <;> first | (intro _;rfl) | exact absurd (show true=false from h) (by decide)
theorem aI8 {o i e:Expr} {p:Pos} {env:Env}:swappedStores [.Subscript o i p] e env=pure none:=by cases e <;> rfl
theorem aI9 {o i e:Expr} {p:Pos} {n:Nat} {env:Env} (h:zB e=false):swapsWithSole [.Subscript o i p] e n env=pure false:=by
  show swapsWith e (some (.Subscript o i p)) n env=pure false
  exact at5 h
theorem akG.tr {X:Cx} {S:SI} {ex:aW→bK} {lv:Nat} (Q:akG X S ex lv) (pn:List (Addr×Obj)) (EX:aW→bK):akG (aGT X pn EX) S EX 1 where
  si:=⟨Q.si.N,Q.si.nd,Q.si.vis,Q.si.ce,fun k x g h=>by
    obtain ⟨h1,h2,h3,h4⟩:=Q.si.gm k x g h
    refine ⟨h1,h2,h3,?_⟩
    cases g <;> exact h4,Q.si.hu,Q.si.cm,aYY pn EX⟩
  loc:=Q.loc
  lcl:=Q.lcl
  fn:=Q.fn
  cls:=Q.cls
  l0:=fun z=>absurd rfl z
  rz:=fun z=>absurd z (by decide)
  stk:=Q.stk
  frm:=Q.frm
theorem akG.ha {X:Cx} {S:SI} {ex:aW→bK} {lv:Nat} (Q:akG X S ex lv) (x:Addr):akG (azR X x) S.han NoX 2 where
  si:=⟨Q.si.N,Q.si.nd,Q.si.vis,Q.si.ce,fun k y g h=>by
    obtain ⟨h1,h2,h3,h4⟩:=Q.si.gm k y g h
    refine ⟨h1,h2,h3,?_⟩
    cases g with
    | fn sp n qt =>
      intro z
      have hq:qt=true:=z.resolve_right (show ¬ (false=true) by decide)
      subst hq
      obtain ⟨k,f,fd,ps,F,hr,r⟩:=h4 (.inl rfl)
      exact ⟨k,f,fd,ps,F,⟨(fun z=>nomatch z),hr.dp,hr.un⟩,r⟩
    | kl C sp dd=>exact fun z=>nomatch z
    | me C m sp dd=>exact fun z=>nomatch z
    | _=>exact h4,Q.si.hu,fun z=>absurd (show false=true from z) (by decide),aDH⟩
  loc:=Q.loc
  lcl:=Q.lcl
  fn:=Q.fn
  cls:=Q.cls
  l0:=fun _=>PassesOwn.never
  rz:=fun z=>absurd z (by decide)
  stk:=Q.stk
  frm:=Q.frm
theorem at6 {S:SI} {k:Nat} {x:Str} (h:ao3 S k x=true):∃ a,S.gl[k]?=some (x,.cls a):=by
  unfold ao3 at h
  split at h
  · rename_i z a hg
    have:=beq_iff_eq.mp h;subst this
    exact ⟨a,hg⟩
  · exact bF h
theorem aIA {T:List (Str×GT)} {ex:aW→bK} {k:Nat} {x:Str} {a:Addr} {t:TA3} (h:T[k]?=some (x,.cls a)):aI5 T ex k t=xK ex a t:=by unfold aI5;rw [h]
theorem aIB {T:List (Str×GT)} {K:Fg} {k i:Nat} {x:Str} {a:Addr} {tb:(aW→bK)→bU} {th:bU} (h:T[k]?=some (x,.cls a)):aI6 T K k i tb th=anL K a i tb th:=by unfold aI6;rw [h]
theorem aDN {X:Cx} {S:SI} {ex:aW→bK} {lv:Nat} (Q:akG X S ex lv) {k:Nat} {e:CE} {es:CEs} {x:Str} {y:Expr} {ys:List Expr} {np cp pos:Pos} (h:kS S lv (.raise k e es) (.Raise (some (.Call (.Name x np) (y :: ys) [] cp)) none pos)=true) :
    PS3 X (.Raise (some (.Call (.Name x np) (y :: ys) [] cp)) none pos) (aI5 S.gl ex k (aA (mE S.gl X.K ex e) (mA S.gl X.K ex es))):=by
  have h':(lv == 0&&S.calm&&!isStar y&&kE S e y&&kEs S es ys&&S.gv[k]? == some true&&ao3 S k x)=true:=h
  simp only [Bool.and_eq_true,Bool.not_eq_true'] at h'
  obtain ⟨⟨⟨⟨⟨⟨h0,hcm⟩,h1⟩,h2⟩,h3⟩,hv⟩,h⟩:=h'
  have hv:=beq_iff_eq.mp hv
  obtain ⟨a,hg⟩:=at6 h
  rw [aIA hg]
  have l1:=Q.si.cm hcm
  have l2:=Q.rz (beq_iff_eq.mp h0) hcm
  obtain ⟨g1,g2,g3,g4,g5⟩:=Q.si.gl _ _ _ hg hv
  exact aGS l1 PySem.F.excBase_ValueError (by decide) PySem.F.excBase_ValueError g1 g4 (Q.cls _ _ _ hg hv).1 l2 (ac3 (rZ Q.si e y h2) (okA Q.si es ys h3) (c7 h1)) g2 (c7 h1) (a0P h3)
theorem aDO {X:Cx} {S:SI} {ex:aW→bK} {lv:Nat} (Q:akG X S ex lv):∀ {is:List Nat} {es:List Expr},kTg.kNs S is es=true→Two (aOU X) es is
  | [],[],_ => .nil
  | [],_ :: _,h=>by exact bF h
  | _ :: _,[],h=>by exact bF h
  | i :: is,e :: es,h=>by
    cases e with
    | Name x p =>
      have h':(S.N[i]? == some x&&S.fl[i]? == some true&&kTg.kNs S is es)=true:=h
      simp only [Bool.and_eq_true] at h'
      have e1:=beq_iff_eq.mp h'.1.1
      exact .cons ⟨x,p,rfl,by rw [Q.si.N];exact e1,Q.loc i x e1 (beq_iff_eq.mp h'.1.2),.inl (Q.fn x)⟩ (aDO Q h'.2)
    | _=>exact bF h
theorem aVM {X:Cx} {S:SI} {ex:aW→bK} {lv:Nat} (Q:akG X S ex lv):∀ {c:CTg} {e:Expr},aQ2 S c=true→kTg S c e=true→PG3 X e (mG c)
  | .nm i,e,_,h=>by
    cases e with
    | Name x p =>
      have h':(S.N[i]? == some x&&S.fl[i]? == some true)=true:=h
      simp only [Bool.and_eq_true] at h'
      have e1:=beq_iff_eq.mp h'.1
      exact aOT Q.si.nd (by rw [Q.si.N];exact e1) (Q.loc i x e1 (beq_iff_eq.mp h'.2)) (.inl (Q.fn x))
    | _=>exact bF h
  | .tup is,e,hc,h=>by
    cases e with
    | Tuple es k p=>exact aUN Q.si.nd (Q.si.cm hc) (aDO Q h)
    | _=>exact bF h
theorem aZT {X:Cx} {S:SI} {ex:aW→bK} (Q:a0Q X S ex) {tg:Expr} {tt:Bool} (htt:tt=true→X.calm=true∧∃ es kt pt,tg = .Tuple es kt pt):∀ (c:CI) (e:Expr),kI S tt c e=true→PIS X tg e (mIS S.gl X.K ex c)
  | .any c,e,h=>aOW (rZ Q c e h)
  | .aw0 c,e,h=>by
    cases e with
    | Call f as ks p =>
      cases f with
      | Name r q =>
        cases as with
        | nil=>exact bF h
        | cons y yr =>
          cases yr with
          | cons _ _=>exact bF h
          | nil =>
            cases ks with
            | cons _ _=>exact bF h
            | nil =>
              have h':(r == ("range" : Str)&&adT S&&!isStar y&&kE S c y)=true:=h
              simp only [Bool.and_eq_true,Bool.not_eq_true'] at h'
              obtain ⟨⟨⟨h1,h2⟩,h3⟩,h4⟩:=h'
              have:=beq_iff_eq.mp h1;subst this
              obtain ⟨g1,g2⟩:=asZ Q h2
              exact aH8 g1 g2 (ac3 (rZ Q c y h4) aBW (c7 h3)) (c7 h3)
      | _=>exact bF h
    | _=>exact bF h
theorem aDP {e:Expr} (h:isTup e=true):∃ es kt pt,e = .Tuple es kt pt:=by
  cases e <;> first | exact ⟨_,_,_,rfl⟩ | exact bF h
mutual
theorem okS:∀ (c:CS) {X:Cx} {S:SI} {ex:aW→bK} {lv:Nat},akG X S ex lv→∀ (st:Stmt),kS S lv c st=true→PS3 X st (mS S.gl X.K ex c)
  | .ret e,X,S,ex,lv,Q,st,h=>by
    cases st with
    | Return v p =>
      cases v with
      | some x=>exact aU5 (rZ Q.si e x h)
      | none=>exact bF h
    | _=>exact bF h
  | .expr e,X,S,ex,lv,Q,st,h=>by
    cases st with
    | Expr x p =>
      have h':(!zB x&&kE S e x)=true:=h
      simp only [Bool.and_eq_true,Bool.not_eq_true'] at h'
      exact aNZ (rZ Q.si e x h'.2) (at5 h'.1)
    | _=>exact bF h
  | .ifs t a b,X,S,ex,lv,Q,st,h=>by
    cases st with
    | If x y z p =>
      have h':(kT S t x&&kB S lv a y&&kB S lv b z)=true:=h
      simp only [Bool.and_eq_true] at h'
      exact aYT (okT Q.si t x h'.1.1) (okB a Q y h'.1.2) (okB b Q z h'.2)
    | _=>exact bF h
  | .set i e,X,S,ex,lv,Q,st,h=>by
    cases st with
    | Assign ts y p =>
      cases ts with
      | nil=>exact bF h
      | cons t r =>
        cases r with
        | cons _ _=>cases t <;> exact bF h
        | nil =>
          cases t with
          | Name x q =>
            have h':(S.N[i]? == some x&&S.fl[i]? == some true&&!zB y&&kE S e y)=true:=h
            simp only [Bool.and_eq_true,Bool.not_eq_true'] at h'
            have e1:=beq_iff_eq.mp h'.1.1.1
            exact aU6 (i:=i) Q.si.nd (by rw [Q.si.N];exact e1) (Q.loc i x e1 (beq_iff_eq.mp h'.1.1.2)) (rZ Q.si e y h'.2) (at5 h'.1.2) (.inl (Q.fn x))
          | _=>exact bF h
    | _=>exact bF h
  | .aA7 k o e,X,S,ex,lv,Q,st,h=>by
    cases st with
    | Assign ts z p =>
      cases ts with
      | nil=>exact bF h
      | cons t r =>
        cases r with
        | cons _ _=>cases t <;> exact bF h
        | nil =>
          cases t with
          | Attribute x n q =>
            have h':(aA5 S k n&&!zB z&&kE S o x&&kE S e z)=true:=h
            simp only [Bool.and_eq_true,Bool.not_eq_true'] at h'
            obtain ⟨y,C,hg⟩:=ayH h'.1.1.1
            obtain ⟨_,_,_,g⟩:=Q.si.gm _ _ _ hg
            show PS3 X _ (aQ0 S.gl k _ _)
            unfold aQ0
            rw [hg]
            exact aP3 (rZ Q.si o x h'.1.2) (rZ Q.si e z h'.2) g.1 g.2 (at5 h'.1.1.2)
          | _=>exact bF h
    | _=>exact bF h
  | .aDL o i e,X,S,ex,lv,Q,st,h=>by
    cases st with
    | Assign ts z p =>
      cases ts with
      | nil=>exact bF h
      | cons t r =>
        cases r with
        | cons _ _=>cases t <;> exact bF h
        | nil =>
          cases t with
          | Subscript x y q =>
            have h':(!isSlice y&&!zB z&&kE S o x&&kE S i y&&kE S e z)=true:=h
            simp only [Bool.and_eq_true,Bool.not_eq_true'] at h'
            exact aP5 Q.si.hu (rZ Q.si o x h'.1.1.2) (rZ Q.si i y h'.1.2) (rZ Q.si e z h'.2) (at5 h'.1.1.1.2)
          | _=>exact bF h
    | _=>exact bF h
  | .aI4 o i e,X,S,ex,lv,Q,st,h=>by
    cases st with
    | Assign ts z p =>
      cases ts with
      | nil=>exact bF h
      | cons t r =>
        cases r with
        | cons _ _=>cases t <;> exact bF h
        | nil =>
          cases t with
          | Subscript x y q =>
            have h':(!isSlice y&&!zB z&&kE S o x&&kE S i y&&kE S e z)=true:=h
            simp only [Bool.and_eq_true,Bool.not_eq_true'] at h'
            obtain ⟨⟨⟨⟨h1,h2⟩,h3⟩,h4⟩,h5⟩:=h'
            exact aO1 (rZ Q.si o x h3) (rZ Q.si i y h4) (rZ Q.si e z h5) (aI7 h1) (aI9 h2) aI8 rfl
          | _=>exact bF h
    | _=>exact bF h
  | .raise k e es,X,S,ex,lv,Q,st,h=>by
    cases st with
    | Raise a b p =>
      cases a with
      | none=>exact bF h
      | some a =>
        cases a with
        | Call f as ks q =>
          cases f with
          | Name x np =>
            cases as with
            | nil=>exact bF h
            | cons y ys =>
              cases ks with
              | cons _ _=>exact bF h
              | nil =>
                cases b with
                | some _=>exact bF h
                | none=>exact aDN Q h
          | _=>exact bF h
        | _=>exact bF h
    | _=>exact bF h
  | .aDK k i b hb,X,S,ex,lv,Q,st,h=>by
    cases st with
    | Try y hs el fin p =>
      cases hs with
      | nil=>exact bF h
      | cons hd tl =>
        obtain ⟨ty,nm,suite,hp⟩:=hd
        cases tl with
        | cons _ _=>cases ty <;> first | exact bF h | (rename_i ty;cases ty <;> cases nm <;> cases suite <;> exact bF h)
        | nil =>
          cases ty with
          | none=>exact bF h
          | some ty =>
            cases ty with
            | Name x cp =>
              cases nm with
              | none=>exact bF h
              | some n =>
                cases suite with
                | nil=>exact bF h
                | cons z zs =>
                  cases el with
                  | cons _ _=>exact bF h
                  | nil =>
                    cases fin with
                    | cons _ _=>exact bF h
                    | nil =>
                      have h':(lv == 0&&S.calm&&S.N[i]? == some n&&S.lc[i]? == some true&&kB S 1 b y&&kB S.han 2 hb (z :: zs)&&S.gv[k]? == some true&&ao3 S k x)=true:=h
                      simp only [Bool.and_eq_true] at h'
                      obtain ⟨⟨⟨⟨⟨⟨⟨h0,hcm⟩,h1⟩,h2⟩,h3⟩,h4⟩,hv⟩,h⟩:=h'
                      have hv:=beq_iff_eq.mp hv
                      obtain ⟨a,hg⟩:=at6 h
                      show PS3 X _ (aI6 S.gl X.K k i (fun EX2=>mB S.gl X.K EX2 b) (mB S.gl X.K NoX hb))
                      rw [aIB hg]
                      have e1:=beq_iff_eq.mp h1
                      obtain ⟨g1,g2,g3,g4,g5⟩:=Q.si.gl _ _ _ hg hv
                      obtain ⟨c1,c2,c3,c4⟩:=Q.cls _ _ _ hg hv
                      exact aUA (i:=i) (Q.si.cm hcm) Q.si.nd (by rw [Q.si.N];exact e1) (Q.lcl i n e1 (beq_iff_eq.mp h2)) Q.stk Q.frm g1 g4 c2 c3 c4 (fun pn EX=>okB b (Q.tr pn EX) y h3) (fun xx=>okB hb (Q.ha xx) (z :: zs) h4) g2
            | _=>exact bF h
    | _=>exact bF h
  | .aw3 ci tg b,X,S,ex,lv,Q,st,h=>by
    cases st with
    | For tgt it body el p =>
      cases el with
      | cons _ _=>exact bF h
      | nil =>
        have h':(lv != 1&&aQ2 S tg&&!isSet it&&kTg S tg tgt&&kI S (isTup tgt&&S.calm) ci it&&kB S lv b body)=true:=h
        simp only [Bool.and_eq_true,Bool.not_eq_true'] at h'
        obtain ⟨⟨⟨⟨⟨h1,hg⟩,h2⟩,h3⟩,h4⟩,h5⟩:=h'
        exact aOX (Q.l0 (bne_iff_ne.mp h1)) (aZT Q.si (fun z=>by rw [Bool.and_eq_true] at z;exact ⟨Q.si.cm z.2,aDP z.1⟩) ci it h4) (aVM Q hg h3) (okB b Q body h5) (aLP h2)
    | _=>exact bF h
  | .pass,X,S,ex,lv,Q,st,h=>by
    cases st with
    | Pass _=>exact aNY
    | _=>exact bF h
  | .cont,X,S,ex,lv,Q,st,h=>by
    cases st with
    | Continue _=>exact avR
    | _=>exact bF h
theorem okB:∀ (c:CB) {X:Cx} {S:SI} {ex:aW→bK} {lv:Nat},akG X S ex lv→∀ (st:List Stmt),kB S lv c st=true→aiT X st (mB S.gl X.K ex c)
  | .nil,X,S,ex,lv,Q,st,h=>by
    cases st with
    | nil=>exact aU3
    | cons _ _=>exact bF h
  | .cons s .nil,X,S,ex,lv,Q,st,h=>by
    match st,h with
    | [],h=>exact bF h
    | [x],h =>
      have h':(kS S lv s x&&kB S lv .nil [])=true:=h
      rw [Bool.and_eq_true] at h'
      exact aU4 (okS s Q x h'.1)
    | x :: y :: ys,h =>
      have h':(kS S lv s x&&kB S lv .nil (y :: ys))=true:=h
      rw [Bool.and_eq_true] at h'
      exact bF h'.2
  | .cons s (.cons s' r),X,S,ex,lv,Q,st,h=>by
    match st,h with
    | [],h=>exact bF h
    | x :: ys,h =>
      have h':(kS S lv s x&&kB S lv (.cons s' r) ys)=true:=h
      rw [Bool.and_eq_true] at h'
      exact aNX (okS s Q x h'.1) (okB (.cons s' r) Q ys h'.2)
end
end L4
namespace L4
open PySem PySem.Spec PyProof.Rows L2
def bI (R:pX):pX:=fun d G'=>∃ G0,Le G0 G'∧R d G0
def jW (EX:bK):bK:=fun C G'=>∃ G0,Le G0 G'∧EX C G0
def spD (n m:Nat) (tb:bK→bU):Sp3:=fun ds G R EX=>ds.length=m∧tb (jW EX) ⟨fun _ G'=>bI R .non G',bI R,fun _ _=>False,fun _ _=>False⟩ (ap2 n ds) G
theorem bI.here {R:pX} {d:D} {G:Gp} (h:R d G):bI R d G:=⟨G,.refl G,h⟩
theorem jW.here {R:bK} {d:Addr} {G:Gp} (h:R d G):jW R d G:=⟨G,.refl G,h⟩
theorem aDQ {K:Fg} {EX:bK} {E:XK} (h:UpX K EX E):UpX K (jW EX) E:=fun C H' G' g ⟨G0,l,q⟩=>h C H' G0 (g.le l) q
theorem aIC {qt:Bool} {P:Program} {w:World} {K:Fg} {mg:Str→Option Value} {base:Heap} {x qual:Str} {st:Stmt} {f:Addr} {fd:FuncData} {N ps:List Str} {k:Nat} {tb:bK→bU} (F:Fun K x qual st f fd) (S:bQ N ps (aC st))
    (hbody:∀ (cdv:Value) (A:Around) (outer:List Env) (s:Shared) (H:Hp) (E:XK) (EX:bK),pY qt k (A.deeper (envOfC qual (aC st) s.heap.objs.size f cdv))→UpX K EX E →
      aiT (cx1 qt P w K mg base N qual (aC st) f cdv A outer s H E) (aF st) (tb EX)):fC qt P w K mg base (vU P w) (k+1) f fd ps (gY K (spD N.length ps.length tb)):=by
  refine (aO3 F S hbody).imp fun vs H Q E ⟨ds,G,R,EX,r,g,⟨hl,q⟩,kk,hE⟩=>?_
  exact ⟨ds,G,bI R,jW EX,r,g,⟨hl,q⟩,fun v H' d G' r1 g1 ⟨G0,l,q⟩=>kk v H' d G0 r1 (g1.le l) q,aDQ hE⟩
def GTs (P:Program) (w:World) (K:Fg) (mg:Str→Option Value) (base:Heap) (k:Nat) (x:Str):GT→Prop
  | .con d=>∃ u v,mg x=some u∧RelV v u∧∀ H,RD K H d v
  | .cls a=>mg x=some (.ref a)∧PySem.W.excIn K a BMv "ValueError.__new__" = true∧(PySem.W.clsIn K a).isSome=true∧PySem.W.typeIn K (.ref a)=some (.type "type")∧PySem.W.subIn K (.ref a) (.type "BaseException")=some true
  | .fn sp n qt=>∃ f fd ps,fC qt P w K mg base (vU P w) k f fd ps (gY K sp)∧mg x=some (.ref f)∧PySem.W.keepIn K (.ref f)=true∧Binds K fd ps []
  | .bf b=>mg x=none∧bootBuiltins x=some (ayE b)
  | .bt n=>mg x=none∧bootBuiltins x=some (.type n)
  | .kl C sp dd=>∃ j f fd ps ds dvs,j+1=k∧Mk K C f∧fC false P w K mg base (vU P w) j f fd ps (gY K sp)∧mg x=some (.ref C)∧Binds K fd ps ds∧Vals dvs ds∧∀ H,iJ K H dd dvs
  | .me C m sp dd=>∃ f fd ps ds dvs,Cls K C∧Meth K C m f∧fC false P w K mg base (vU P w) k f fd ps (gY K sp)∧Binds K fd ps ds∧Vals dvs ds∧∀ H,iJ K H dd dvs
  | .fl C f=>Cls K C∧wB K C f
def aQ4 (sc:Scope) (x:Str):Bool:=match sc.names.lookup x with
  | some .local=>true
  | some .cell=>true
  | _=>false
def aQ5 (sc:Scope) (x:Str):Bool:=match sc.names.lookup x with
  | some .local=>true
  | _=>false
def aQ6 (sc:Scope) (x:Str):Bool:=match sc.names.lookup x with
  | some .globalImplicit=>true
  | _=>false
def aQ7 (sc:Scope) (x:Str):Bool:=match sc.names.lookup x with
  | some .cell=>true
  | _=>false
theorem aID {sc:Scope} {x:Str} (h:aQ7 sc x=true):sc.names.lookup x=some .cell:=by
  unfold aQ7 at h
  split at h
  · rename_i e;exact e
  · exact bF h
def gU (S:SI) (sc:Scope):Bool:=(List.range S.N.length).all (fun i=>match S.N[i]? with
    | none=>false
    | some x=>x != ("__debug__" : Str)&&x != ("__classdict__" : Str)&&(S.fl[i]? != some true || aQ4 sc x)&&(S.lc[i]? != some true || aQ5 sc x)&&(S.ce[i]? != some true || aQ7 sc x)) &&
  (List.range S.gl.length).all (fun k=>match S.gl[k]? with
    | none=>false
    | some (y,_)=>(S.gv[k]? != some true || aQ6 sc y)&&y != ("__debug__" : Str)&&y != ("__name__" : Str))
theorem aIE {sc:Scope} {x:Str} (h:aQ4 sc x=true):Loc sc x:=by
  unfold aQ4 at h
  split at h
  · rename_i e;exact .inl e
  · rename_i e;exact .inr e
  · exact bF h
theorem aIF {sc:Scope} {x:Str} (h:Loc sc x):Vis sc x:=h.elim .inl fun z => .inr (.inl z)
theorem aIG {sc:Scope} {x:Str} (h:aQ5 sc x=true):sc.names.lookup x=some .local:=by
  unfold aQ5 at h
  split at h
  · rename_i e;exact e
  · exact bF h
theorem aIH {sc:Scope} {x:Str} (h:aQ6 sc x=true):sc.names.lookup x=some .globalImplicit:=by
  unfold aQ6 at h
  split at h
  · rename_i e;exact e
  · exact bF h
theorem ajN {S:SI} {sc:Scope} (h:gU S sc=true) {i:Nat} {x:Str} (e:S.N[i]?=some x) :
    (x == ("__debug__" : Str))=false∧(x == ("__classdict__" : Str))=false∧(S.fl[i]?=some true→Loc sc x)∧(S.lc[i]?=some true→sc.names.lookup x=some .local)∧(S.ce[i]?=some true→sc.names.lookup x=some .cell):=by
  unfold gU at h
  rw [Bool.and_eq_true] at h
  have hi:i < S.N.length:=(List.getElem?_eq_some_iff.mp e).1
  have q:=List.all_eq_true.mp h.1 i (List.mem_range.mpr hi)
  rw [e] at q
  simp only [Bool.and_eq_true,bne_iff_ne,ne_eq,Bool.or_eq_true] at q
  obtain ⟨⟨⟨⟨q1,q2⟩,q3⟩,q4⟩,q5⟩:=q
  refine ⟨beq_eq_false_iff_ne.mpr q1,beq_eq_false_iff_ne.mpr q2,fun z=>?_,fun z=>?_,fun z=>?_⟩
  · rcases q3 with q | q
    · exact absurd z q
    · exact aIE q
  · rcases q4 with q | q
    · exact absurd z q
    · exact aIG q
  · rcases q5 with q | q
    · exact absurd z q
    · exact aID q
theorem aII {S:SI} {sc:Scope} (h:gU S sc=true) {k:Nat} {x:Str} {g:GT} (e:S.gl[k]?=some (x,g)):(S.gv[k]?=some true→sc.names.lookup x=some .globalImplicit)∧(x == ("__debug__" : Str))=false∧x ≠ "__name__" := by
  unfold gU at h
  rw [Bool.and_eq_true] at h
  have q:=List.all_eq_true.mp h.2 k (List.mem_range.mpr (List.getElem?_eq_some_iff.mp e).1)
  rw [e] at q
  simp only [Bool.and_eq_true,bne_iff_ne,ne_eq,Bool.or_eq_true] at q
  exact ⟨fun z=>aIH (q.1.1.resolve_left fun n=>n z),beq_eq_false_iff_ne.mpr q.1.2,q.2⟩
theorem bL {qt:Bool} {P:Program} {w:World} {K:Fg} {mg:Str→Option Value} {base:Heap} {x qual:Str} {st:Stmt} {f:Addr} {fd:FuncData} {ps:List Str} {k:Nat} {S:SI} {c:CB} (F:Fun K x qual st f fd) (hS:bQ S.N ps (aC st))
    (hc:S.calm=!qt) (hv:gU S (aC st)=true) (hk:kB S 0 c (aF st)=true) (hg:∀ (j:Nat) (y:Str) (g:GT),S.gl[j]?=some (y,g)→GTs P w K mg base k y g) :
    fC qt P w K mg base (vU P w) (k+1) f fd ps (gY K (spD S.N.length ps.length fun EX=>mB S.gl K (fun _=>EX) c)):=by
  refine aIC F hS fun cdv A outer s H E EX hr hE=>?_
  refine okB c (X:=cx1 qt P w K mg base S.N qual (aC st) f cdv A outer s H E) (S:=S) (ex:=fun _=>EX) (lv:=0) ?_ (aF st) hk
  refine ⟨⟨rfl,hS.nd,fun i y e1 e2=>?_,fun i y e1 e2 => .inl ((ajN hv e1).2.2.2.2 e2),fun j y g e=>?_,hr.units,fun z=>hc.symm.trans z,aYW hE⟩,fun i y e1 e2=>?_,fun i y e1 e2=>?_,fun _=>rfl,fun j y a e _=>?_,fun _=>own1,fun _ _=>aYX hE,rfl,rfl⟩
  · obtain ⟨a1,a2,a3,a4⟩:=ajN hv e1
    exact ⟨aIF (a3 e2),a1,a2⟩
  · obtain ⟨a1,a2,a3⟩:=aII hv e
    have z:=hg j y g e
    refine ⟨a1,a2,a3,?_⟩
    cases g with
    | con d=>exact z
    | cls a=>exact ⟨z.1,z.2.1⟩
    | fn sp n q2 =>
      intro hz
      obtain ⟨f',fd',ps',F',m',k',b'⟩:=z
      refine ⟨k,f',fd',ps',F',⟨fun e=>hr.hd ?_,hr.dp,hr.un⟩,m',k',b'⟩
      have hs:S.calm=true:=hz.resolve_left (by rw [e];decide)
      rw [hc] at hs
      simpa using hs
    | bf b=>exact z
    | bt n=>exact z
    | kl C sp dd =>
      intro hs
      obtain ⟨j',f',fd',ps',ds,dvs,rfl,q1,q2,q3,q4,q5,q6⟩:=z
      rw [hc] at hs
      exact ⟨j',f',fd',ps',ds,dvs,q1,q2,⟨fun _=>hr.hd (by simpa using hs),hr.dp,hr.un⟩,q3,q4,q5,q6⟩
    | me C m sp dd =>
      intro hs
      obtain ⟨f',fd',ps',ds,dvs,q1,q2,q3,q4,q5,q6⟩:=z
      rw [hc] at hs
      exact ⟨k,f',fd',ps',ds,dvs,q1,q2,q3,⟨fun _=>hr.hd (by simpa using hs),hr.dp,hr.un⟩,q4,q5,q6⟩
    | fl C f=>exact z
  · exact (ajN hv e1).2.2.1 e2
  · exact (ajN hv e1).2.2.2.1 e2
  · have z:=hg j y _ e
    exact z.2
end L4
namespace L4
open PySem PySem.Spec PyProof.Rows L2
theorem gln {P:Str→GT→Prop}:∀ (j:Nat) (y:Str) (g:GT),([]:List (Str×GT))[j]?=some (y,g)→P y g:=fun j y g h=>by simp at h
theorem fB {P:Str→GT→Prop} {x:Str} {g:GT} {l:List (Str×GT)} (h:P x g) (r:∀ (j:Nat) (y:Str) (g:GT),l[j]?=some (y,g)→P y g):∀ (j:Nat) (y:Str) (g':GT),((x,g) :: l)[j]?=some (y,g')→P y g'
  | 0,y,g',e=>by simp at e;obtain ⟨e1,e2⟩:=e;subst e1;subst e2;exact h
  | j+1,y,g',e=>r j y g' (by simpa using e)
section
variable {P:Program} {w:World} {K:Fg} {mg:Str→Option Value} {base:Heap} {k:Nat} {x:Str}
theorem gcI {z:Int} (h:∃ t,mg x=some (.int z t)):GTs P w K mg base k x (.con (.int z)):=by
  obtain ⟨t,h⟩:=h
  exact ⟨_,.int z,h,⟨t,rfl⟩,fun _ => .int z⟩
end
theorem aDR:bootBuiltins "range" = some (.type "range"):=by decide +kernel
end L4
namespace L4
open PySem PySem.Spec PyProof.Rows L2
theorem cP {K:Fg} {fd:FuncData} {ps:List Str} (h:∀ us:List Value,us.length=ps.length→bindArgs fd ⟨us,[]⟩=pure (ps.zip us)):Binds K fd ps []:=Binds.all h
theorem aIK {K:Fg} {fd:FuncData} {ps:List Str} {T:Addr} {oc u:Value} {od:Option Addr} {n:Nat} {sl:Array (Option Value)} (e:K.lookup T=some ⟨oc,od,.seq #[u] n,sl⟩)
    (h:∀ us:List Value,us.length=ps.length→∃ k:Option (Array Value)→Sem (List (Str×Value)),fd.defaults = .ref T∧bindArgs fd ⟨us,[]⟩=seqItems? fd.defaults >>= k∧k (some #[u])=pure (ps.zip us)):Binds K fd ps []:=fun s us hK hl=>by
  rw [List.append_nil] at hl ⊢
  obtain ⟨k,h0,h1,h2⟩:=h us hl
  exact PySem.W.binds_K hK h0 e rfl h1 h2
theorem aIL {K:Fg} {fd:FuncData} {ps:List Str} {T:Addr} {oc u:Value} {od:Option Addr} {n:Nat} {sl:Array (Option Value)} (e:K.lookup T=some ⟨oc,od,.seq #[u] n,sl⟩)
    (h:∀ us:List Value,us.length+1=ps.length→∃ k:Option (Array Value)→Sem (List (Str×Value)),fd.defaults = .ref T∧bindArgs fd ⟨us,[]⟩=seqItems? fd.defaults >>= k∧k (some #[u])=pure (ps.zip (us++[u]))):Binds K fd ps [u]:=fun s us hK hl=>by
  obtain ⟨k,h0,h1,h2⟩:=h us (by simpa using hl)
  exact PySem.W.binds_K hK h0 e rfl h1 h2
end L4
namespace L5
open PySem PySem.Spec PyProof.Rows L2 L4
def onB (x:D) (f:Bool→Prop):Prop:=match x with
  | .bl k=>f k
  | _=>False
def onI (x:D) (f:Int→Prop):Prop:=match x with
  | .int k=>f k
  | _=>False
theorem aQ8 {k:Bool} {f:Bool→Prop}:onB (.bl k) f=f k:=rfl
theorem aIM {k:Int} {f:Int→Prop}:onI (.int k) f=f k:=rfl
def iK (xs:List D):Prop:=xs.length≤sizeLine
theorem aQ9:iK []=True:=eq_true (show 0≤sizeLine by decide)
theorem aQA {a0:D}:iK [a0]=True:=eq_true (show 1≤sizeLine by decide)
theorem aQB {a0 a1:D}:iK [a0,a1]=True:=eq_true (show 2≤sizeLine by decide)
theorem aQC {a0 a1 a2:D}:iK [a0,a1,a2]=True:=eq_true (show 3≤sizeLine by decide)
theorem aQD {a0 a1 a2 a3:D}:iK [a0,a1,a2,a3]=True:=eq_true (show 4≤sizeLine by decide)
theorem aQE {a0 a1 a2 a3 a4:D}:iK [a0,a1,a2,a3,a4]=True:=eq_true (show 5≤sizeLine by decide)
theorem aQF {a0 a1 a2 a3 a4 a5:D}:iK [a0,a1,a2,a3,a4,a5]=True:=eq_true (show 6≤sizeLine by decide)
theorem aQG {a0 a1 a2 a3 a4 a5 a6:D}:iK [a0,a1,a2,a3,a4,a5,a6]=True:=eq_true (show 7≤sizeLine by decide)
theorem aQH {a0 a1 a2 a3 a4 a5 a6 a7:D}:iK [a0,a1,a2,a3,a4,a5,a6,a7]=True:=eq_true (show 8≤sizeLine by decide)
theorem aQI {a0 a1 a2 a3 a4 a5 a6 a7 a8:D}:iK [a0,a1,a2,a3,a4,a5,a6,a7,a8]=True:=eq_true (show 9≤sizeLine by decide)
theorem aIN {a0 a1 a2 a3 a4 a5 a6 a7 a8 a9:D}:iK [a0,a1,a2,a3,a4,a5,a6,a7,a8,a9]=True:=eq_true (show 10≤sizeLine by decide)
theorem aIO {a0 a1 a2 a3 a4 a5 a6 a7 a8 a9 a10:D}:iK [a0,a1,a2,a3,a4,a5,a6,a7,a8,a9,a10]=True:=eq_true (show 11≤sizeLine by decide)
theorem aIP {a0 a1 a2 a3 a4 a5 a6 a7 a8 a9 a10 a11:D}:iK [a0,a1,a2,a3,a4,a5,a6,a7,a8,a9,a10,a11]=True:=eq_true (show 12≤sizeLine by decide)
theorem aIQ {a0 a1 a2 a3 a4 a5 a6 a7 a8 a9 a10 a11 a12:D}:iK [a0,a1,a2,a3,a4,a5,a6,a7,a8,a9,a10,a11,a12]=True:=eq_true (show 13≤sizeLine by decide)
theorem aIR {a0 a1 a2 a3 a4 a5 a6 a7 a8 a9 a10 a11 a12 a13:D}:iK [a0,a1,a2,a3,a4,a5,a6,a7,a8,a9,a10,a11,a12,a13]=True:=eq_true (show 14≤sizeLine by decide)
theorem aIS {a0 a1 a2 a3 a4 a5 a6 a7 a8 a9 a10 a11 a12 a13 a14:D}:iK [a0,a1,a2,a3,a4,a5,a6,a7,a8,a9,a10,a11,a12,a13,a14]=True:=eq_true (show 15≤sizeLine by decide)
theorem aIT {a0 a1 a2 a3 a4 a5 a6 a7 a8 a9 a10 a11 a12 a13 a14 a15:D}:iK [a0,a1,a2,a3,a4,a5,a6,a7,a8,a9,a10,a11,a12,a13,a14,a15]=True:=eq_true (show 16≤sizeLine by decide)
theorem aIU {a0 a1 a2 a3 a4 a5 a6 a7 a8 a9 a10 a11 a12 a13 a14 a15 a16:D}:iK [a0,a1,a2,a3,a4,a5,a6,a7,a8,a9,a10,a11,a12,a13,a14,a15,a16]=True:=eq_true (show 17≤sizeLine by decide)
theorem aIV {a0 a1 a2 a3 a4 a5 a6 a7 a8 a9 a10 a11 a12 a13 a14 a15 a16 a17:D}:iK [a0,a1,a2,a3,a4,a5,a6,a7,a8,a9,a10,a11,a12,a13,a14,a15,a16,a17]=True:=eq_true (show 18≤sizeLine by decide)
theorem aIW {a0 a1 a2 a3 a4 a5 a6 a7 a8 a9 a10 a11 a12 a13 a14 a15 a16 a17 a18:D}:iK [a0,a1,a2,a3,a4,a5,a6,a7,a8,a9,a10,a11,a12,a13,a14,a15,a16,a17,a18]=True:=eq_true (show 19≤sizeLine by decide)
theorem aIX {a0 a1 a2 a3 a4 a5 a6 a7 a8 a9 a10 a11 a12 a13 a14 a15 a16 a17 a18 a19:D}:iK [a0,a1,a2,a3,a4,a5,a6,a7,a8,a9,a10,a11,a12,a13,a14,a15,a16,a17,a18,a19]=True:=eq_true (show 20≤sizeLine by decide)
theorem aIY {a0 a1 a2 a3 a4 a5 a6 a7 a8 a9 a10 a11 a12 a13 a14 a15 a16 a17 a18 a19 a20:D}:iK [a0,a1,a2,a3,a4,a5,a6,a7,a8,a9,a10,a11,a12,a13,a14,a15,a16,a17,a18,a19,a20]=True:=eq_true (show 21≤sizeLine by decide)
theorem aIZ {a0 a1 a2 a3 a4 a5 a6 a7 a8 a9 a10 a11 a12 a13 a14 a15 a16 a17 a18 a19 a20 a21:D}:iK [a0,a1,a2,a3,a4,a5,a6,a7,a8,a9,a10,a11,a12,a13,a14,a15,a16,a17,a18,a19,a20,a21]=True:=eq_true (show 22≤sizeLine by decide)
theorem aJ0 {a0 a1 a2 a3 a4 a5 a6 a7 a8 a9 a10 a11 a12 a13 a14 a15 a16 a17 a18 a19 a20 a21 a22:D}:iK [a0,a1,a2,a3,a4,a5,a6,a7,a8,a9,a10,a11,a12,a13,a14,a15,a16,a17,a18,a19,a20,a21,a22]=True:=eq_true (show 23≤sizeLine by decide)
theorem aJ1 {a0 a1 a2 a3 a4 a5 a6 a7 a8 a9 a10 a11 a12 a13 a14 a15 a16 a17 a18 a19 a20 a21 a22 a23:D}:iK [a0,a1,a2,a3,a4,a5,a6,a7,a8,a9,a10,a11,a12,a13,a14,a15,a16,a17,a18,a19,a20,a21,a22,a23]=True:=eq_true (show 24≤sizeLine by decide)
theorem aJ2 {a0 a1 a2 a3 a4 a5 a6 a7 a8 a9 a10 a11 a12 a13 a14 a15 a16 a17 a18 a19 a20 a21 a22 a23 a24:D}:iK [a0,a1,a2,a3,a4,a5,a6,a7,a8,a9,a10,a11,a12,a13,a14,a15,a16,a17,a18,a19,a20,a21,a22,a23,a24]=True:=eq_true (show 25≤sizeLine by decide)
theorem aJ3 {a0 a1 a2 a3 a4 a5 a6 a7 a8 a9 a10 a11 a12 a13 a14 a15 a16 a17 a18 a19 a20 a21 a22 a23 a24 a25:D}:iK [a0,a1,a2,a3,a4,a5,a6,a7,a8,a9,a10,a11,a12,a13,a14,a15,a16,a17,a18,a19,a20,a21,a22,a23,a24,a25]=True:=eq_true (show 26≤sizeLine by decide)
theorem aJ4 {a0 a1 a2 a3 a4 a5 a6 a7 a8 a9 a10 a11 a12 a13 a14 a15 a16 a17 a18 a19 a20 a21 a22 a23 a24 a25 a26:D}:iK [a0,a1,a2,a3,a4,a5,a6,a7,a8,a9,a10,a11,a12,a13,a14,a15,a16,a17,a18,a19,a20,a21,a22,a23,a24,a25,a26]=True:=eq_true (show 27≤sizeLine by decide)
theorem aJ5 {a0 a1 a2 a3 a4 a5 a6 a7 a8 a9 a10 a11 a12 a13 a14 a15 a16 a17 a18 a19 a20 a21 a22 a23 a24 a25 a26 a27:D}:iK [a0,a1,a2,a3,a4,a5,a6,a7,a8,a9,a10,a11,a12,a13,a14,a15,a16,a17,a18,a19,a20,a21,a22,a23,a24,a25,a26,a27]=True:=eq_true (show 28≤sizeLine by decide)
theorem aJ6 {a0 a1 a2 a3 a4 a5 a6 a7 a8 a9 a10 a11 a12 a13 a14 a15 a16 a17 a18 a19 a20 a21 a22 a23 a24 a25 a26 a27 a28:D}:iK [a0,a1,a2,a3,a4,a5,a6,a7,a8,a9,a10,a11,a12,a13,a14,a15,a16,a17,a18,a19,a20,a21,a22,a23,a24,a25,a26,a27,a28]=True:=eq_true (show 29≤sizeLine by decide)
theorem aJ7 {a0 a1 a2 a3 a4 a5 a6 a7 a8 a9 a10 a11 a12 a13 a14 a15 a16 a17 a18 a19 a20 a21 a22 a23 a24 a25 a26 a27 a28 a29:D}:iK [a0,a1,a2,a3,a4,a5,a6,a7,a8,a9,a10,a11,a12,a13,a14,a15,a16,a17,a18,a19,a20,a21,a22,a23,a24,a25,a26,a27,a28,a29]=True:=eq_true (show 30≤sizeLine by decide)
section
variable {t u:bU} {F:nA} {ρ:aW} {G:Gp} {R:pX} {te ta tb tc:dZ} {tt tt':TT3} {tA:TA3} {K:Fg}
theorem aVN:aZ t u F ρ G=t { F with nx:=u F } ρ G:=rfl
theorem aQJ:dB F ρ G=F.nx ρ G:=rfl
theorem aVO:aGN F ρ G=F.bk ρ G:=rfl
theorem aQK:ap6 F ρ G=F.ct ρ G:=rfl
theorem aQL:dD te F ρ G=te ρ G fun _ G1=>F.nx ρ G1:=rfl
theorem aVP:dR te F ρ G=te ρ G F.rt:=rfl
theorem aQM:aO0 F ρ G=F.rt .non G:=rfl
theorem aVQ:jF tt t u F ρ G=tt ρ G fun b G1=>if b=true then t F ρ G1 else u F ρ G1:=rfl
theorem aVR {i:Nat}:p8 i te F ρ G=te ρ G fun x G1=>F.nx (a4S ρ i x) G1:=rfl
theorem x_raise {EX:aW→bK} {C:Addr}:xK EX C tA F ρ G=tA ρ G fun ds G1=>iK ds∧EX ρ C G1:=rfl
theorem aVS {C:Addr} {i:Nat} {bd:(aW→bK)→bU}:anL K C i bd t F ρ G=bd (fun ρ1 C' G1=>PySem.W.subIn K (.ref C') (.ref C)=some true∧∀ x,G1 x=none→t { nx:=fun ρ2 G2=>F.nx (a6B ρ2 i) G2,rt:=F.rt,bk:=fun ρ2 G2=>F.bk (a6B ρ2 i) G2,ct:=fun ρ2 G2=>F.ct (a6B ρ2 i) G2 } (a4S ρ1 i (.ref x)) (aQ G1 x (.exn C'))) F ρ G:=rfl
theorem x_c {d:D}:aY d ρ G R=R d G:=rfl
theorem aQN {d:D}:aB 0 (some d :: ρ) G R=R d G:=rfl
theorem aQO {o:Option D} {n:Nat}:aB (n+1) (o :: ρ) G R=aB n ρ G R:=rfl
theorem aDS {o:Option D} {d:D}:a4S (o :: ρ) 0 d=some d :: ρ:=rfl
theorem aDT {o:Option D} {n:Nat} {d:D}:a4S (o :: ρ) (n+1) d=o :: a4S ρ n d:=rfl
theorem aDU {o:Option D}:a6B (o :: ρ) 0=none :: ρ:=rfl
theorem aDV {o:Option D} {n:Nat}:a6B (o :: ρ) (n+1)=o :: a6B ρ n:=rfl
theorem aZV {r:R3}:aO r ta tb ρ G R=ta ρ G fun x G1=>tb ρ G1 fun y G2=>r x y G2 R:=rfl
theorem aQP {Q:Bool→Gp→Prop}:bJ te ρ G Q=te ρ G fun x G1=>onB x fun k=>Q k G1:=rfl
theorem aJ8 {r r':R3}:a2H r r' ta tb tc ρ G R=ta ρ G fun x G1=>tb ρ G1 fun y G2=>r x y G2 fun z G3=>onB z fun k=>if k=true then tc ρ G3 fun w G4=>r' y w G4 R else R (.bl false) G3:=by
  unfold a2H;congr 1;funext x G1;congr 1;funext y G2;congr 1;funext z G3
  cases z with
  | bl k=>cases k <;> rfl
  | _=>rfl
theorem aVT {Q:Bool→Gp→Prop}:axP tt tt' ρ G Q=tt ρ G fun c G1=>if c=true then tt' ρ G1 Q else Q false G1:=rfl
theorem aZW {Q:Bool→Gp→Prop}:ajY tt tt' ρ G Q=tt ρ G fun c G1=>if c=true then Q true G1 else tt' ρ G1 Q:=rfl
theorem aVU {Q:Bool→Gp→Prop}:a7S tt ρ G Q=tt ρ G fun c G1=>Q (!c) G1:=rfl
theorem aQQ:a8U ta tb ρ G R=ta ρ G fun x G1=>onB x fun k=>if k=true then tb ρ G1 R else R (.bl false) G1:=by
  unfold a8U;congr 1;funext x G1
  cases x with
  | bl k=>cases k <;> rfl
  | _=>rfl
theorem aVV:axQ ta tb ρ G R=ta ρ G fun x G1=>onB x fun k=>if k=true then R (.bl true) G1 else tb ρ G1 R:=by
  unfold axQ;congr 1;funext x G1
  cases x with
  | bl k=>cases k <;> rfl
  | _=>rfl
theorem aQR:ap4 ta ρ G R=ta ρ G fun x G1=>onB x fun k=>R (.bl (!k)) G1:=rfl
theorem aVW:ahA ta ρ G R=ta ρ G fun x G1=>onI x fun k=>R (.int (-k)) G1:=rfl
theorem aVX:aYM tt ta tb ρ G R=tt ρ G fun c G1=>if c=true then ta ρ G1 R else tb ρ G1 R:=rfl
theorem aVY {Q:List D→Gp→Prop}:aH ρ G Q=Q [] G:=rfl
theorem aQS {Q:List D→Gp→Prop}:aA te tA ρ G Q=te ρ G fun x G1=>tA ρ G1 fun xs G2=>Q (x :: xs) G2:=rfl
theorem aVZ:pZ tA ρ G R=tA ρ G fun xs G1=>iK xs∧R (.tup xs) G1:=rfl
theorem aW0:nC tA ρ G R=tA ρ G fun xs G1=>iK xs∧∀ p,G1 p=none→R (.ref p) (aQ G1 p (.lst xs)):=rfl
theorem aW1:a8Z ρ G R=∀ p,G p=none→R (.ref p) (aQ G p (.eN false [])):=rfl
theorem x_call {sp:Sp3} {ex:aW→bK}:bA sp ex tA ρ G R=tA ρ G fun ds G1=>sp ds G1 R (ex ρ):=rfl
theorem aZX {r:List D→Gp→pX→Prop}:uT r tA ρ G R=tA ρ G fun xs G1=>r xs G1 R:=rfl
theorem x_m {T:String} {r:RM3}:tM3 T r te tA ρ G R=te ρ G fun x G1=>amO T G1 x∧tA ρ G1 fun xs G2=>r x xs G2 R:=rfl
theorem aZY {T:String} {r:RM3}:aGY T r te ρ G R=te ρ G fun x G1=>amO T G1 x∧r x [] G1 R:=rfl
theorem aJ9 {z:Str}:amO "str" G (.str z)=True:=eq_true rfl
theorem aJA {p:Addr}:amO "list" G (.ref p)=((cH G p).isSome=true):=by unfold amO;simp
theorem aDW {Q:Option Int→Gp→Prop}:adK ρ G Q=Q none G:=rfl
theorem aQT {Q:Option Int→Gp→Prop}:ap5 te ρ G Q=te ρ G fun x G1=>onI x fun k=>Q (some k) G1:=rfl
theorem aJB {tl th:TO3}:ajK te tl th ρ G R=te ρ G fun x G1=>tl ρ G1 fun lo G2=>th ρ G2 fun hi G3=>aOG x lo hi G3 R:=rfl
theorem aDX {i j:Int}:rT (.int i) (.int j) G R=R (.int (i+j)) G:=rfl
theorem aDY {xs ys:List D}:rT (.tup xs) (.tup ys) G R=(xs.length+ys.length≤sizeLine∧R (.tup (xs++ys)) G):=rfl
theorem aW2 {i j:Int}:anJ (.int i) (.int j) G R=R (.int (i - j)) G:=rfl
theorem aLT {i j:Int}:abM (.int i) (.int j) G R=(aBE i j∧R (.int (i * j)) G):=rfl
theorem aQU {i j:Int}:uW (.int i) (.int j) G R=(aMT i j∧R (.int (i / j)) G):=rfl
theorem aW3 {i j:Int}:oZ (.int i) (.int j) G R=(0 < j∧R (.int (i % j)) G):=rfl
theorem aW4 {i j:Int}:ah9 (.int i) (.int j) G R=(aMU i j∧R (.int (i ^ j.toNat)) G):=rfl
theorem x_lt {i j:Int}:aBX (.int i) (.int j) G R=R (.bl (decide (i < j))) G:=rfl
theorem aZZ {i j:Int}:aGL (.int i) (.int j) G R=R (.bl (decide (j < i))) G:=rfl
theorem x_ge {i j:Int}:aNS (.int i) (.int j) G R=R (.bl (decide (j≤i))) G:=rfl
theorem b00 {i j:Int}:azO (.int i) (.int j) G R=R (.bl (decide (i≤j))) G:=rfl
theorem aQV {i j:Str}:azO (.str i) (.str j) G R=R (.bl (!decide (j.cps.toList < i.cps.toList))) G:=rfl
theorem aJC {i j:Str}:aOF (.str i) (.str j) G R=R (.bl (!(Builtin.Str.occurrences j i 0 j.length 1).isEmpty)) G:=rfl
theorem aw4 {i j:Str}:apD (.str i) (.str j) G R=R (.bl (!!(Builtin.Str.occurrences j i 0 j.length 1).isEmpty)) G:=rfl
theorem apQ {i j:Int}:wF (.int i) (.int j) G R=R (.bl (i == j)) G:=by
  show (aR 20 (.int i)=true∧aR 20 (.int j)=true∧_)=_
  simp [aR,eqP]
theorem aJD {i j:Int}:afR (.int i) (.int j) G R=R (.bl (!(i == j))) G:=by
  show (aR 20 (.int i)=true∧aR 20 (.int j)=true∧_)=_
  simp [aR,eqP]
theorem aJE {i j:Bool}:wF (.bl i) (.bl j) G R=R (.bl (i == j)) G:=by
  show (aR 20 (.bl i)=true∧aR 20 (.bl j)=true∧_)=_
  simp [aR,eqP]
theorem aJF {i j:Bool}:afR (.bl i) (.bl j) G R=R (.bl (!(i == j))) G:=by
  show (aR 20 (.bl i)=true∧aR 20 (.bl j)=true∧_)=_
  simp [aR,eqP]
theorem aJG {i j:Str}:wF (.str i) (.str j) G R=R (.bl (i == j)) G:=by
  show (aR 20 (.str i)=true∧aR 20 (.str j)=true∧_)=_
  simp [aR,eqP]
theorem aJH {i j:Str}:afR (.str i) (.str j) G R=R (.bl (!(i == j))) G:=by
  show (aR 20 (.str i)=true∧aR 20 (.str j)=true∧_)=_
  simp [aR,eqP]
theorem aJI {xs ys:List D}:wF (.tup xs) (.tup ys) G R=(aR 20 (.tup xs)=true∧aR 20 (.tup ys)=true∧R (.bl (eqP (.tup xs) (.tup ys))) G):=rfl
theorem aJJ {xs ys:List D}:afR (.tup xs) (.tup ys) G R=(aR 20 (.tup xs)=true∧aR 20 (.tup ys)=true∧R (.bl (!eqP (.tup xs) (.tup ys))) G):=rfl
theorem aJK {z:Str}:a8X [.str z] G R=(z.length≤sizeLine∧R (.int z.length) G):=rfl
theorem aJL {ds:List D}:a8X [.tup ds] G R=R (.int ds.length) G:=rfl
theorem apR {q:Addr} {ds:List D} (h:cH G q=some ds):a8X [.ref q] G R=R (.int ds.length) G:=by unfold a8X;simp only [h]
theorem aW5 {i:Int}:aUE [.int i] G R=R (.int (if i < 0 then -i else i)) G:=rfl
theorem aJM {b:Bool}:ak1 [.bl b] G R=R (.int (if b then 1 else 0)) G:=rfl
theorem aJN {b:Int}:ak1 [.int b] G R=R (.int b) G:=rfl
theorem aw5 {xs:List D} {i:Int} {d:D} (h:atI xs i=some d):nD (.tup xs) (.int i) G R=R d G:=by unfold nD;simp only [h]
theorem oK {p:Addr} {xs:List D} {i:Int} {d:D} (e:cH G p=some xs) (h:atI xs i=some d):nD (.ref p) (.int i) G R=R d G:=by unfold nD;simp only [e,h]
theorem aJO:arU .non .non G R=R (.bl true) G:=rfl
theorem aJP {i j:Bool}:arU (.bl i) (.bl j) G R=R (.bl (i == j)) G:=rfl
theorem aA8 {i j:Bool}:afO (.bl i) (.bl j) G R=R (.bl (!(i == j))) G:=rfl
theorem aA9:afO .non .non G R=R (.bl false) G:=rfl
theorem at7:aG K [.non,.ty "int"] G R=R (.bl false) G:=by
  show ("int" ∈ dF∧R (.bl (L2.subB "NoneType" "int")) G)=_
  rw [show L2.subB "NoneType" "int" = false from by decide];simp [dF]
theorem apS:aG K [.non,.ty "bool"] G R=R (.bl false) G:=by
  show ("bool" ∈ dF∧R (.bl (L2.subB "NoneType" "bool")) G)=_
  rw [show L2.subB "NoneType" "bool" = false from by decide];simp [dF]
theorem at8:aG K [.non,.ty "str"] G R=R (.bl false) G:=by
  show ("str" ∈ dF∧R (.bl (L2.subB "NoneType" "str")) G)=_
  rw [show L2.subB "NoneType" "str" = false from by decide];simp [dF]
theorem apT:aG K [.non,.ty "list"] G R=R (.bl false) G:=by
  show ("list" ∈ dF∧R (.bl (L2.subB "NoneType" "list")) G)=_
  rw [show L2.subB "NoneType" "list" = false from by decide];simp [dF]
theorem amR:aG K [.non,.ty "tuple"] G R=R (.bl false) G:=by
  show ("tuple" ∈ dF∧R (.bl (L2.subB "NoneType" "tuple")) G)=_
  rw [show L2.subB "NoneType" "tuple" = false from by decide];simp [dF]
theorem apU:aG K [.non,.ty "dict"] G R=R (.bl false) G:=by
  show ("dict" ∈ dF∧R (.bl (L2.subB "NoneType" "dict")) G)=_
  rw [show L2.subB "NoneType" "dict" = false from by decide];simp [dF]
theorem aw6 {b:Bool}:aG K [(.bl b),.ty "int"] G R=R (.bl true) G:=by
  show ("int" ∈ dF∧R (.bl (L2.subB "bool" "int")) G)=_
  rw [show L2.subB "bool" "int" = true from by decide];simp [dF]
theorem at9 {b:Bool}:aG K [(.bl b),.ty "bool"] G R=R (.bl true) G:=by
  show ("bool" ∈ dF∧R (.bl (L2.subB "bool" "bool")) G)=_
  rw [show L2.subB "bool" "bool" = true from by decide];simp [dF]
theorem aw7 {b:Bool}:aG K [(.bl b),.ty "str"] G R=R (.bl false) G:=by
  show ("str" ∈ dF∧R (.bl (L2.subB "bool" "str")) G)=_
  rw [show L2.subB "bool" "str" = false from by decide];simp [dF]
theorem atA {b:Bool}:aG K [(.bl b),.ty "list"] G R=R (.bl false) G:=by
  show ("list" ∈ dF∧R (.bl (L2.subB "bool" "list")) G)=_
  rw [show L2.subB "bool" "list" = false from by decide];simp [dF]
theorem apV {b:Bool}:aG K [(.bl b),.ty "tuple"] G R=R (.bl false) G:=by
  show ("tuple" ∈ dF∧R (.bl (L2.subB "bool" "tuple")) G)=_
  rw [show L2.subB "bool" "tuple" = false from by decide];simp [dF]
theorem atB {b:Bool}:aG K [(.bl b),.ty "dict"] G R=R (.bl false) G:=by
  show ("dict" ∈ dF∧R (.bl (L2.subB "bool" "dict")) G)=_
  rw [show L2.subB "bool" "dict" = false from by decide];simp [dF]
theorem atD {i:Int}:aG K [(.int i),.ty "int"] G R=R (.bl true) G:=by
  show ("int" ∈ dF∧R (.bl (L2.subB "int" "int")) G)=_
  rw [show L2.subB "int" "int" = true from by decide];simp [dF]
theorem apW {i:Int}:aG K [(.int i),.ty "bool"] G R=R (.bl false) G:=by
  show ("bool" ∈ dF∧R (.bl (L2.subB "int" "bool")) G)=_
  rw [show L2.subB "int" "bool" = false from by decide];simp [dF]
theorem atE {i:Int}:aG K [(.int i),.ty "str"] G R=R (.bl false) G:=by
  show ("str" ∈ dF∧R (.bl (L2.subB "int" "str")) G)=_
  rw [show L2.subB "int" "str" = false from by decide];simp [dF]
theorem apY {i:Int}:aG K [(.int i),.ty "list"] G R=R (.bl false) G:=by
  show ("list" ∈ dF∧R (.bl (L2.subB "int" "list")) G)=_
  rw [show L2.subB "int" "list" = false from by decide];simp [dF]
theorem amS {i:Int}:aG K [(.int i),.ty "tuple"] G R=R (.bl false) G:=by
  show ("tuple" ∈ dF∧R (.bl (L2.subB "int" "tuple")) G)=_
  rw [show L2.subB "int" "tuple" = false from by decide];simp [dF]
theorem apZ {i:Int}:aG K [(.int i),.ty "dict"] G R=R (.bl false) G:=by
  show ("dict" ∈ dF∧R (.bl (L2.subB "int" "dict")) G)=_
  rw [show L2.subB "int" "dict" = false from by decide];simp [dF]
theorem atF {z:Str}:aG K [(.str z),.ty "int"] G R=R (.bl false) G:=by
  show ("int" ∈ dF∧R (.bl (L2.subB "str" "int")) G)=_
  rw [show L2.subB "str" "int" = false from by decide];simp [dF]
theorem aq0 {z:Str}:aG K [(.str z),.ty "bool"] G R=R (.bl false) G:=by
  show ("bool" ∈ dF∧R (.bl (L2.subB "str" "bool")) G)=_
  rw [show L2.subB "str" "bool" = false from by decide];simp [dF]
theorem atG {z:Str}:aG K [(.str z),.ty "str"] G R=R (.bl true) G:=by
  show ("str" ∈ dF∧R (.bl (L2.subB "str" "str")) G)=_
  rw [show L2.subB "str" "str" = true from by decide];simp [dF]
theorem aq1 {z:Str}:aG K [(.str z),.ty "list"] G R=R (.bl false) G:=by
  show ("list" ∈ dF∧R (.bl (L2.subB "str" "list")) G)=_
  rw [show L2.subB "str" "list" = false from by decide];simp [dF]
theorem amT {z:Str}:aG K [(.str z),.ty "tuple"] G R=R (.bl false) G:=by
  show ("tuple" ∈ dF∧R (.bl (L2.subB "str" "tuple")) G)=_
  rw [show L2.subB "str" "tuple" = false from by decide];simp [dF]
theorem aq2 {z:Str}:aG K [(.str z),.ty "dict"] G R=R (.bl false) G:=by
  show ("dict" ∈ dF∧R (.bl (L2.subB "str" "dict")) G)=_
  rw [show L2.subB "str" "dict" = false from by decide];simp [dF]
theorem atH {xs:List D}:aG K [(.tup xs),.ty "int"] G R=R (.bl false) G:=by
  show ("int" ∈ dF∧R (.bl (L2.subB "tuple" "int")) G)=_
  rw [show L2.subB "tuple" "int" = false from by decide];simp [dF]
theorem aq3 {xs:List D}:aG K [(.tup xs),.ty "bool"] G R=R (.bl false) G:=by
  show ("bool" ∈ dF∧R (.bl (L2.subB "tuple" "bool")) G)=_
  rw [show L2.subB "tuple" "bool" = false from by decide];simp [dF]
theorem atJ {xs:List D}:aG K [(.tup xs),.ty "str"] G R=R (.bl false) G:=by
  show ("str" ∈ dF∧R (.bl (L2.subB "tuple" "str")) G)=_
  rw [show L2.subB "tuple" "str" = false from by decide];simp [dF]
theorem aq4 {xs:List D}:aG K [(.tup xs),.ty "list"] G R=R (.bl false) G:=by
  show ("list" ∈ dF∧R (.bl (L2.subB "tuple" "list")) G)=_
  rw [show L2.subB "tuple" "list" = false from by decide];simp [dF]
theorem amU {xs:List D}:aG K [(.tup xs),.ty "tuple"] G R=R (.bl true) G:=by
  show ("tuple" ∈ dF∧R (.bl (L2.subB "tuple" "tuple")) G)=_
  rw [show L2.subB "tuple" "tuple" = true from by decide];simp [dF]
theorem aq5 {xs:List D}:aG K [(.tup xs),.ty "dict"] G R=R (.bl false) G:=by
  show ("dict" ∈ dF∧R (.bl (L2.subB "tuple" "dict")) G)=_
  rw [show L2.subB "tuple" "dict" = false from by decide];simp [dF]
theorem a07 {q C C':Addr} {b:Bool} (h:G q=some (.exn C)) (e:ExC K C) (k:PySem.W.kitOne K (.ref C) (.ref C')=some b) (z:R (.bl b) G):aG K [.ref q,.ref C'] G R:=by
  unfold aG
  simp only [exD,h]
  exact ⟨b,e,k,z⟩
theorem aJQ {q C:Addr} {n:String} {b:Bool} (h:G q=some (.exn C)) (e:ExC K C) (k:PySem.W.kitOne K (.ref C) (.type n)=some b) (z:R (.bl b) G):aG K [.ref q,.ty n] G R:=by
  unfold aG
  simp only [exD,tyD,h]
  exact ⟨b,e,k,z⟩
end
theorem m7 {G:Gp} {p:Addr} {xs:List D} (h:G p=some (.lst xs)):cH G p=some xs:=by unfold cH;rw [h]
theorem a93 {G:Gp} {p:Addr} {xs:List D} (h:G p=some (.rol xs)):cH G p=some xs:=by unfold cH;rw [h]
theorem bM {G:Gp} {p:Addr} {xs:List D}:cH (aQ G p (.lst xs)) p=some xs:=m7 aJ
theorem aJR {R:pX} {d:D} {G G':Gp} (h:R d G) (l:Le G G'):bI R d G':=⟨G,l,h⟩
theorem aq6 {b:Bool} {P Q:Prop} (h1:b=true→P) (h2:b=false→Q):if b=true then P else Q:=by
  cases b
  · exact h2 rfl
  · exact h1 rfl
def kn (G:Gp) (d:D):Prop:=(tyD G d).isSome=true
theorem aDZ {G:Gp} {q:Addr} (h:kn G (.ref q)):tyD G (.ref q)=some "list" ∨ tyD G (.ref q)=some "dict" := by
  unfold kn at h
  have e:tyD G (.ref q)=(match G q with
    | some (.lst _)=>some "list"
    | some (.rol _)=>some "list"
    | some (.eN _ _)=>some "dict"
    | _=>none):=rfl
  rw [e] at h ⊢
  split at h
  · exact .inl rfl
  · exact .inl rfl
  · exact .inr rfl
  · simp at h
theorem aQW {G:Gp}:kn G .non:=rfl
theorem aw8 {G:Gp} {b:List D}:kn G (.tup b):=rfl
theorem akH {G:Gp} {p:Addr} {xs:List D} (h:G p=some (.lst xs)):kn G (.ref p):=by unfold kn tyD;simp [h]
theorem aQX {G:Gp} {p:Addr} {t:Bool} {xs:List (DK×D)} (h:G p=some (.eN t xs)):kn G (.ref p):=by unfold kn tyD;simp [h]
section
variable {G:Gp} {R:pX} {K:Fg} {q:Addr}
theorem aE0 {x:D} {T n:String} (e:tyD G x=some T) (hn:n∈dF):aG K [x,.ty n] G R=R (.bl (L2.subB T n)) G:=by
  show (match tyD G x with
    | some T=>n∈dF∧R (.bl (L2.subB T n)) G
    | none=>_)=_
  rw [e]
  exact propext ⟨fun h=>h.2,fun h=>⟨hn,h⟩⟩
theorem aw9 (h:kn G (.ref q)):aG K [.ref q,.ty "int"] G R=R (.bl false) G:=by
  rcases aDZ h with e | e <;> rw [aE0 e (by decide)] <;> rfl
theorem adU (h:kn G (.ref q)):aG K [.ref q,.ty "tuple"] G R=R (.bl false) G:=by
  rcases aDZ h with e | e <;> rw [aE0 e (by decide)] <;> rfl
theorem at0 {α:Type} {a:α} {xs:List α}:atI (a :: xs) 0=some a:=by
  unfold atI ixN
  simp
theorem atS {α:Type} {a:α} {xs:List α} {n:Nat}:atI (a :: xs) ((n+1:Nat):Int)=atI xs (n:Int):=by
  unfold atI ixN
  have h0:(0:Int)≤((n+1:Nat):Int):=by omega
  have h1:(0:Int)≤(n:Int):=by omega
  rw [if_pos h0,if_pos h1]
  by_cases h:n < xs.length
  · have a1:((n+1:Nat):Int) < ((a :: xs).length:Int):=by simp;omega
    have a2:(n:Int) < (xs.length:Int):=by omega
    rw [if_pos a1,if_pos a2]
    simp
  · have a1:¬ ((n+1:Nat):Int) < ((a :: xs).length:Int):=by simp;omega
    have a2:¬ (n:Int) < (xs.length:Int):=by omega
    rw [if_neg a1,if_neg a2]
    rfl
theorem acA {α:Type} {xs:List α} {n:Nat}:atI xs (n:Int)=xs[n]?:=by
  unfold atI ixN
  rw [if_pos (by omega)]
  by_cases h:n < xs.length
  · rw [if_pos (by omega)];simp
  · rw [if_neg (by omega)]
    simp at h
    simp [h]
theorem aJS {a:D} {xs:List D}:nD (.tup (a :: xs)) (.int 0) G R=R a G:=aw5 at0
theorem aJT {a b:D} {xs:List D}:nD (.tup (a :: b :: xs)) (.int 1) G R=R b G:=aw5 (i:=((1:Nat):Int)) (by rw [atS,acA];rfl)
theorem aJU {a b c:D} {xs:List D}:nD (.tup (a :: b :: c :: xs)) (.int 2) G R=R c G:=aw5 (i:=((2:Nat):Int)) (by rw [atS,acA];rfl)
end
section
variable {G:Gp} {R:pX} {K:Fg} {q:Addr}
end
section
variable {G:Gp} {R:pX} {K:Fg}
theorem awA {a b:Addr} {xs ys:List D} (h1:cH G a=some xs) (h2:cH G b=some ys) (s1:xs.all (aR 20)=true) (s2:ys.all (aR 20)=true):wF (.ref a) (.ref b) G R=R (.bl (wC xs ys)) G:=by
  show eqG G (.ref a) (.ref b) (fun b=>R (.bl b) G)=_
  unfold eqG
  simp only [h1,h2,s1,s2,true_and]
end
section
variable {G:Gp} {R:pX} {K:Fg} {i j:Int}
theorem aQY (h:-18446744073709551616 < i∧i < 18446744073709551616):abM (.int i) (.int j) G R=R (.int (i * j)) G:=by
  rw [aLT]
  exact propext ⟨fun z=>z.2,fun z=>⟨.inl ⟨by have:=h.1;omega,by have:=h.2;omega⟩,z⟩⟩
theorem aQZ (h:-18446744073709551616 < j∧j < 18446744073709551616):abM (.int i) (.int j) G R=R (.int (i * j)) G:=by
  rw [aLT]
  exact propext ⟨fun z=>z.2,fun z=>⟨.inr ⟨by have:=h.1;omega,by have:=h.2;omega⟩,z⟩⟩
theorem aJV (h:0 < j∧j < 1073741824):uW (.int i) (.int j) G R=R (.int (i / j)) G:=by
  rw [aQU]
  exact propext ⟨fun z=>z.2,fun z=>⟨h,z⟩⟩
theorem aR0 (h:0 < j):oZ (.int i) (.int j) G R=R (.int (i % j)) G:=by
  rw [aW3]
  exact propext ⟨fun z=>z.2,fun z=>⟨h,z⟩⟩
theorem aR1 (h:0≤j∧j≤1000000∧i.natAbs < 18446744073709551616):ah9 (.int i) (.int j) G R=R (.int (i ^ j.toNat)) G:=by
  rw [aW4]
  exact propext ⟨fun z=>z.2,fun z=>⟨⟨h.1,h.2.1,h.2.2⟩,z⟩⟩
end
section
variable {G:Gp} {R:pX} {K:Fg} {i j:Int}
theorem aE1 {α:Type} {xs:List α} {i:Int} (h0:0≤i) (h1:i < (xs.length:Int)):∃ d,atI xs i=some d∧d∈xs:=by
  obtain ⟨n,rfl⟩:=Int.eq_ofNat_of_zero_le h0
  have hn:n < xs.length:=by omega
  exact ⟨xs[n],by rw [acA];simp [hn],List.getElem_mem hn⟩
theorem ag2 {p:Addr} {xs:List D} (e:cH G p=some xs) (h0:0≤i) (h1:i < (xs.length:Int)) (h:∀ d∈xs,R d G):nD (.ref p) (.int i) G R:=by
  obtain ⟨d,h2,h3⟩:=aE1 h0 h1
  rw [oK e h2]
  exact h d h3
theorem all_nil {P:D→Prop}:∀ d∈([]:List D),P d:=fun _ h=>by simp at h
theorem all_cons {P:D→Prop} {a:D} {r:List D} (h1:P a) (h2:∀ d∈r,P d):∀ d∈a :: r,P d:=fun d h=>by
  rcases List.mem_cons.mp h with rfl | h
  · exact h1
  · exact h2 d h
end
def b01 (i:Nat) (x:D) (tb:bU) (F:nA) (ρ:aW) (G1:Gp):Prop:=match x with
  | .ref p=>(match cH G1 p with
    | some xs=>∃ P:Nat→aW→Gp→Prop,P 0 ρ G1∧(∀ k ρ G,k≤xs.length→P k ρ G→cH G p=some xs) ∧
        (∀ k d ρ G,xs[k]?=some d→P k ρ G→tb { F with nx:=P (k+1),ct:=P (k+1),bk:=F.nx } (a4S ρ i d) G)∧∀ ρ G,P xs.length ρ G→F.nx ρ G
    | none=>False)
  | _=>False
theorem aW6 {i:Nat} {te:dZ} {tb:bU} {F:nA} {ρ:aW} {G:Gp}:aU7 i te tb F ρ G=te ρ G fun x G1=>b01 i x tb F ρ G1:=rfl
def aW7 (i:Nat) (xs:List D) (tb:bU) (F:nA) (ρ:aW) (G1:Gp):Prop:=match xs with
  | [.int j]=>-(2 ^ 62)≤j∧j < 2 ^ 62∧∃ P:Nat→aW→Gp→Prop,P 0 ρ G1∧(∀ k ρ G,k < j.toNat→P k ρ G→tb { F with nx:=P (k+1),ct:=P (k+1),bk:=F.nx } (a4S ρ i (.int k)) G)∧∀ ρ G,P j.toNat ρ G→F.nx ρ G
  | _=>False
theorem aR2 {i:Nat} {ta:TA3} {tb:bU} {F:nA} {ρ:aW} {G:Gp}:aO2 i ta tb F ρ G=ta ρ G fun xs G1=>aW7 i xs tb F ρ G1:=rfl
section
variable {P Q:Prop} {b c:Bool} {α:Type} {a:α} {l:List α}
theorem awB:(True∧P)=P:=true_and P
theorem awC:(P∧True)=P:=and_true P
theorem awD:(P∧P)=P:=and_self P
theorem aAA:(P∨True)=True:=or_true P
theorem aAB:(True∨P)=True:=true_or P
theorem awE:(!true)=false:=rfl
theorem atL:(!false)=true:=rfl
theorem aE2:((!b)=true)=(b=false):=by cases b <;> simp
theorem aAC:(if True then P else Q)=P:=if_true ..
theorem awF:(if False then P else Q)=Q:=if_false ..
theorem aW8:(false=true)=False:=by simp
theorem aW9:(true=false)=False:=by simp
theorem aR3:(b=b)=True:=by simp
theorem awG:(a :: l).length=l.length+1:=List.length_cons
theorem aAD:([]:List α).length=0:=rfl
theorem aAE {β:Type} {f:α→β}:(l.map f).length=l.length:=List.length_map ..
end
end L5
namespace L6
open PySem PySem.Spec PyProof.Rows L2 L4 L5
def aE3 (x:D) (G:Gp) (Q:Src→Gp→Prop):Prop:=match x with
  | .ref p=>(match cH G p with
    | some xs=>Q (.lst p xs) G
    | none=>False)
  | .tup xs=>Q (.imm xs) G
  | .str z=>Q (.imm (signs z)) G
  | _=>False
def ayJ (x:D) (G:Gp) (Q:Src→Gp→Prop):Prop:=match x with
  | .ref p=>(match cH G p with
    | some xs=>Q (.lst p xs) G
    | none=>False)
  | .str z=>Q (.imm (signs z)) G
  | _=>False
def aLU (xs:List D) (G:Gp) (Q:Src→Gp→Prop):Prop:=match xs with
  | [.int j]=>-(2 ^ 62)≤j∧j < 2 ^ 62∧Q (.imm (afS 0 j)) G
  | _=>False
def aLV (xs:List D) (G:Gp) (Q:Src→Gp→Prop):Prop:=match xs with
  | [.int i,.int j]=>(-(2 ^ 62)≤i∧i < 2 ^ 62∧-(2 ^ 62)≤j∧j < 2 ^ 62)∧Q (.imm (afS i j)) G
  | _=>False
def b02 (xs:List D) (G:Gp) (Q:Src→Gp→Prop):Prop:=match xs with
  | [.ref p,.ref q]=>(match cH G p,cH G q with
    | some xs,some ys=>Q (.zip p q xs ys) G
    | _,_=>False)
  | _=>False
theorem aR4 {te td:dZ} {ρ:aW} {G:Gp} {R:pX}:aUX te td ρ G R=te ρ G fun x G1=>td ρ G1 fun d G2=>aCX x d G2 R:=rfl
section
variable {te:dZ} {ta:TA3} {ρ:aW} {G:Gp} {Q:Src→Gp→Prop} {p:Addr} {xs:List D} {z:Str} {i j:Int}
theorem aJW:ak4 te ρ G Q=te ρ G fun x G1=>aE3 x G1 Q:=rfl
theorem aWA:aCL te ρ G Q=te ρ G fun x G1=>ayJ x G1 Q:=rfl
theorem aR5:ac4 ta ρ G Q=ta ρ G fun xs G1=>aLU xs G1 Q:=rfl
theorem aWB:aUW ta ρ G Q=ta ρ G fun xs G1=>b02 xs G1 Q:=rfl
theorem aR6:aOM ta ρ G Q=ta ρ G fun xs G1=>aLV xs G1 Q:=rfl
theorem akI (h:cH G p=some xs):aE3 (.ref p) G Q=Q (.lst p xs) G:=by unfold aE3;simp only [h]
theorem aE4:aE3 (.tup xs) G Q=Q (.imm xs) G:=rfl
theorem aE5:aE3 (.str z) G Q=Q (.imm (signs z)) G:=rfl
theorem ag3 (h:cH G p=some xs):ayJ (.ref p) G Q=Q (.lst p xs) G:=by unfold ayJ;simp only [h]
theorem aAF:ayJ (.str z) G Q=Q (.imm (signs z)) G:=rfl
theorem aJX (h:-4611686018427387904≤j∧j < 4611686018427387904):aLU [.int j] G Q=Q (.imm (afS 0 j)) G:=by
  show (_∧_∧_)=_
  exact propext ⟨fun z=>z.2.2,fun z=>⟨by omega,by omega,z⟩⟩
theorem aJY (h:-4611686018427387904≤i∧i < 4611686018427387904∧-4611686018427387904≤j∧j < 4611686018427387904):aLV [.int i,.int j] G Q=Q (.imm (afS i j)) G:=by
  show ((_∧_∧_∧_)∧_)=_
  exact propext ⟨fun z=>z.2,fun z=>⟨⟨by omega,by omega,by omega,by omega⟩,z⟩⟩
end
def aE6 (dv:D→Option (List D)) (src:Src) (tc:TT3) (te:dZ) (ρ:aW) (G1:Gp) (R:pX):Prop:=src.items.length < sizeLine∧∀ p,G1 p=none→∃ P:Nat→List D→Gp→Prop,P 0 [] (aQ G1 p (.lst [])) ∧
  (∀ k ds G,k≤src.items.length→P k ds G→src.ok G∧G p=some (.lst ds)∧ds.length≤k) ∧
  (∀ k d ds G,src.items[k]?=some d→P k ds G→∃ ys,dv d=some ys∧tc (ys.map some++ρ) G fun b G2=>if b=true then te (ys.map some++ρ) G2 fun y G3=>G3 p=some (.lst ds)∧P (k+1) (ds++[y]) (aQ G3 p (.lst (ds++[y]))) else P (k+1) ds G2) ∧
  ∀ ds G,P src.items.length ds G→∃ G0,Le G0 G∧R (.ref p) G0
theorem aR7 {dv:D→Option (List D)} {ti:TI3} {tc:TT3} {te:dZ} {ρ:aW} {G:Gp} {R:pX}:apH dv ti tc te ρ G R=ti ρ G fun src G1=>aE6 dv src tc te ρ G1 R:=rfl
theorem a2K {G G':Gp} (l:Le G G') {p:Addr} {xs:List D} (h:cH G p=some xs):cH G' p=some xs:=by
  unfold cH at h ⊢
  split at h
  · rename_i e;rw [l _ _ e];exact h
  · rename_i e;rw [l _ _ e];exact h
  · cases h
theorem aWC {G G':Gp} (l:Le G G') {src:Src} (h:src.ok G):src.ok G':=by
  cases src with
  | lst p xs=>exact a2K l h
  | imm xs=>trivial
  | zip p q xs ys=>exact ⟨a2K l h.1,a2K l h.2⟩
theorem aR8 {G G':Gp} {p:Addr} {o o':GO} (l:Le (aQ G p o) G'):Le (aQ G p o') (aQ G' p o'):=fun a u e=>by
  by_cases h:a=p
  · subst h;rw [aJ] at e ⊢;exact e
  · rw [cT h] at e ⊢
    exact l a u (by rw [cT h];exact e)
theorem aE7 {dv:D→Option (List D)} {src:Src} {tc:TT3} {te:dZ} {ρ:aW} {G:Gp} {R:pX} (v:D→List D) (c:D→Bool) (f:D→D) (hl:src.items.length < sizeLine) (hok:src.ok G) (hv:∀ d∈src.items,dv d=some (v d))
    (hc:∀ d∈src.items,∀ G',Le G G'→∀ Q:Bool→Gp→Prop,(∀ G'',Le G' G''→Q (c d) G'')→tc ((v d).map some++ρ) G' Q)
    (he:∀ d∈src.items,c d=true→∀ G',Le G G'→∀ Q:D→Gp→Prop,(∀ G'',Le G' G''→Q (f d) G'')→te ((v d).map some++ρ) G' Q)
    (h:∀ p,G p=none→R (.ref p) (aQ G p (.lst ((src.items.filter c).map f)))):aE6 dv src tc te ρ G R:=by
  refine ⟨hl,fun p hp=>⟨fun k ds G'=>ds=((src.items.take k).filter c).map f∧Le (aQ G p (.lst ds)) G',⟨rfl,.refl _⟩,fun k ds G' hk ⟨e,l⟩=>?_,fun k d ds G' hd ⟨e,l⟩=>?_,fun ds G' ⟨e,l⟩=>?_⟩⟩
  · refine ⟨aWC ((Le.new hp).trans l) hok,l p _ aJ,?_⟩
    rw [e,List.length_map]
    exact Nat.le_trans (List.length_filter_le _ _) (by rw [List.length_take];omega)
  · have hm:d∈src.items:=List.mem_of_getElem? hd
    have ht:src.items.take (k+1)=src.items.take k++[d]:=by
      rw [List.take_succ,hd];rfl
    refine ⟨v d,hv d hm,hc d hm G' ((Le.new hp).trans l) _ fun G2 l2=>?_⟩
    cases hcd:c d with
    | true =>
      rw [if_pos rfl]
      refine he d hm hcd G2 (((Le.new hp).trans l).trans l2) _ fun G3 l3=>?_
      have l4:=(l.trans l2).trans l3
      refine ⟨l4 p _ aJ,?_,aR8 l4⟩
      rw [ht,List.filter_append,List.map_append,← e]
      simp [hcd]
    | false =>
      rw [if_neg (by decide)]
      refine ⟨?_,l.trans l2⟩
      rw [ht,List.filter_append,List.map_append,← e]
      simp [hcd]
  · rw [List.take_length] at e
    subst e
    exact ⟨_,l,h p hp⟩
theorem aq7 {src:Src} {tc:TT3} {te:dZ} {ρ:aW} {G:Gp} {R:pX} (c:D→Bool) (f:D→D) (hl:src.items.length < sizeLine) (hok:src.ok G)
    (hc:∀ d∈src.items,∀ G',Le G G'→∀ Q:Bool→Gp→Prop,(∀ G'',Le G' G''→Q (c d) G'')→tc (some d :: ρ) G' Q)
    (he:∀ d∈src.items,c d=true→∀ G',Le G G'→∀ Q:D→Gp→Prop,(∀ G'',Le G' G''→Q (f d) G'')→te (some d :: ρ) G' Q)
    (h:∀ p,G p=none→R (.ref p) (aQ G p (.lst ((src.items.filter c).map f)))):aE6 azV src tc te ρ G R:=aE7 (fun d=>[d]) c f hl hok (fun _ _=>rfl) hc he h
def aE8 (src:Src) (tg:TG3) (tb:bU) (F:nA) (ρ:aW) (G1:Gp):Prop:=∃ P:Nat→aW→Gp→Prop,P 0 ρ G1∧(∀ k ρ G,k≤src.items.length→P k ρ G→src.ok G) ∧
  (∀ k d ρ G,src.items[k]?=some d→P k ρ G→tg d ρ fun ρ2=>tb { F with nx:=P (k+1),ct:=P (k+1),bk:=F.nx } ρ2 G)∧∀ ρ G,P src.items.length ρ G→F.nx ρ G
theorem aR9 {ti:TI3} {tg:TG3} {tb:bU} {F:nA} {ρ:aW} {G:Gp}:ac7 ti tg tb F ρ G=ti ρ G fun src G1=>aE8 src tg tb F ρ G1:=rfl
theorem aJZ {i:Nat} {d:D} {ρ:aW} {Q:aW→Prop}:ac6 i d ρ Q=Q (a4S ρ i d):=rfl
theorem aRA {is:List Nat} {ds:List D} {ρ:aW} {Q:aW→Prop} (h:ds.length=is.length):asB is (.tup ds) ρ Q=Q (ahB ρ is ds):=propext ⟨fun z=>z.2,fun z=>⟨h,z⟩⟩
theorem aK0 {is:List Nat} {ρ:aW}:ahB ρ is []=ρ:=by cases is <;> rfl
theorem ayK {i:Nat} {is:List Nat} {d:D} {ds:List D} {ρ:aW}:ahB ρ (i :: is) (d :: ds)=ahB (a4S ρ i d) is ds:=rfl
theorem atM {tg:TG3} {tb:bU} {F:nA} {ρ:aW} {G:Gp} {j:Int} (P:Nat→aW→Gp→Prop) (h0:P 0 ρ G)
    (hb:∀ (k:Nat) ρ G,(k:Int) < j→P k ρ G→tg (.int k) ρ fun ρ2=>tb { F with nx:=P (k+1),ct:=P (k+1),bk:=F.nx } ρ2 G) (he:∀ ρ G,P j.toNat ρ G→F.nx ρ G):aE8 (.imm (afS 0 j)) tg tb F ρ G:=by
  have hlen:(Src.imm (afS 0 j)).items.length=j.toNat:=by simp [Src.items,afS]
  refine ⟨P,h0,fun _ _ _ _ _=>trivial,fun k d ρ G hd p=>?_,fun ρ G p=>he ρ G (hlen ▸ p)⟩
  have hk:k < j.toNat:=by rw [← hlen];exact (List.getElem?_eq_some_iff.mp hd).1
  have e:d = .int k:=by
    have:(afS 0 j)[k]?=some d:=hd
    unfold afS at this
    rw [List.getElem?_map,List.getElem?_range (by omega)] at this
    simp at this
    exact this.symm
  subst e
  exact hb k ρ G (by omega) p
theorem akJ {tg:TG3} {tb:bU} {F:nA} {ρ:aW} {G:Gp} {q:Addr} {xs:List D} (P:Nat→aW→Gp→Prop) (h0:P 0 ρ G) (hs:∀ k ρ G,P k ρ G→cH G q=some xs)
    (hb:∀ k d ρ G,xs[k]?=some d→P k ρ G→tg d ρ fun ρ2=>tb { F with nx:=P (k+1),ct:=P (k+1),bk:=F.nx } ρ2 G) (he:∀ ρ G,P xs.length ρ G→F.nx ρ G):aE8 (.lst q xs) tg tb F ρ G :=
  ⟨P,h0,fun k ρ G _ p=>hs k ρ G p,hb,he⟩
section
variable {G:Gp} {R:pX}
theorem aWD {i j:Int}:aP1 [.int i,.int j] G R=R (.int (if j < i then j else i)) G:=rfl
theorem aWE {i j:Int}:aP0 [.int i,.int j] G R=R (.int (if i < j then j else i)) G:=rfl
theorem aWF {p b:Addr} {ds es:List D} (h:G p=some (.lst ds)) (h2:G b=some (.lst es)) (hl:ds.length+es.length≤sizeLine):rT (.ref p) (.ref b) G R=∀ q,G q=none→R (.ref q) (aQ G q (.lst (ds++es))):=by
  unfold rT
  simp only [h,h2,hl,true_and]
theorem aE9 {ds:List D}:apB [.tup ds] G R=∀ l,G l=none→R (.ref l) (aQ G l (.lst ds)):=rfl
end
theorem ayL {G G':Gp} (l:Le G G') {d:D} (h:kn G d):kn G' d:=by
  cases d with
  | ref q =>
    unfold kn tyD at h ⊢
    dsimp only at h ⊢
    split at h
    · rename_i e;rw [l _ _ e];rfl
    · rename_i e;rw [l _ _ e];rfl
    · rename_i e;rw [l _ _ e];rfl
    · cases h
  | _=>exact h
def aEA (o i v:D) (F:nA) (ρ:aW) (G3:Gp):Prop:=match o,i with
  | .ref p,.int k=>(match G3 p with
    | some (.lst xs)=>(match ixN xs.length k with
      | some j=>F.nx ρ (aQ G3 p (.lst (xs.set j v)))
      | none=>False)
    | _=>False)
  | _,_=>False
theorem aRB {to ti te:dZ} {F:nA} {ρ:aW} {G:Gp}:ap7 to ti te F ρ G=te ρ G fun v G1=>to ρ G1 fun o G2=>ti ρ G2 fun i G3=>aEA o i v F ρ G3:=rfl
theorem aEB {p:Addr} {k:Int} {v:D} {F:nA} {ρ:aW} {G:Gp} {xs:List D} (h:G p=some (.lst xs)) (h0:0≤k) (h1:k < (xs.length:Int)):aEA (.ref p) (.int k) v F ρ G=F.nx ρ (aQ G p (.lst (xs.set k.toNat v))):=by
  unfold aEA
  have e:ixN xs.length k=some k.toNat:=by unfold ixN;rw [if_pos h0,if_pos h1]
  simp only [h,e]
section
variable {G:Gp} {R:pX} {F:nA} {ρ:aW}
theorem aRC {is:List Nat} {te:dZ}:aOZ is te F ρ G=te ρ G fun d G1=>asB is d ρ fun ρ2=>F.nx ρ2 G1:=rfl
theorem aWG {i:Nat} {f:Int→Int→Int} {te:dZ}:aUR i f te F ρ G=aB i ρ G fun x G0=>onN x fun a=>te ρ G0 fun y G1=>onN y fun b=>F.nx (a4S ρ i (.int (f a b))) G1:=rfl
theorem aWH {k:Int} {f:Int→Prop}:onN (.int k) f=f k:=rfl
theorem aK1 {a b:Int}:aVJ false a b=a+b:=rfl
theorem aK2 {a b:Int}:aVJ true a b=a - b:=rfl
theorem aK3 {xs ys:List D}:aL6 (.tup xs) (.tup ys) G R=(aCP G xs ys=true∧R (.bl (aCQ G xs ys)) G):=rfl
theorem aK4 {xs ys:List D}:aL7 (.tup xs) (.tup ys) G R=(aCP G xs ys=true∧R (.bl (!aCQ G xs ys)) G):=rfl
theorem aWI {C:Addr} {t:TA3}:axY C t ρ G R=t ρ G fun ds G1=>ds.length≤sizeLine∧∀ x,G1 x=none→R (.ref x) (aQ G1 x (.exn C)):=rfl
end
end L6
namespace L7
open PySem PySem.Spec PyProof.Rows L2 L4 L5 L6
section
variable {ρ:aW} {G:Gp} {R:pX} {F:nA} {p:Addr}
theorem aRD {ta:TA3} {Q:Src→Gp→Prop}:aPF ta ρ G Q=ta ρ G fun xs G1=>aLB xs G1 Q:=rfl
theorem aWJ {te:dZ} {tk:TO3}:aV4 te tk ρ G R=te ρ G fun x G1=>tk ρ G1 fun o G2=>o=some (-1)∧aLC x G2 R:=rfl
theorem aWK {i:Nat} {t:bU}:aV8 i t F ρ G=t { nx:=fun ρ G=>F.nx (a6B ρ i) G,rt:=F.rt,bk:=fun ρ G=>F.bk (a6B ρ i) G,ct:=fun ρ G=>F.ct (a6B ρ i) G } (a6B ρ i) G:=rfl
theorem aRE:adM ρ G R=∀ p,G p=none→R (.ref p) (aQ G p (.eN true [])):=rfl
theorem aRF {to ti tv:dZ}:akB to ti tv F ρ G=tv ρ G fun v G1=>to ρ G1 fun x G2=>ti ρ G2 fun y G3=>ay2 x y v F ρ G3:=rfl
end
end L7
namespace L8
open PySem PySem.Spec PyProof.Rows L2 L4 L5 L6 L7
section
variable {ρ:aW} {G:Gp} {R:pX} {F:nA} {p C:Addr} {f m:Str} {fs:List (Str×D)}
theorem aWL {ta:dZ}:rW C ta f ρ G R=ta ρ G fun x G1=>aCU C f x G1 R:=rfl
theorem fH {d:D} (h:G p=some (.ins C fs)) (e:fs.lookup f=some d):aCU C f (.ref p) G R=R d G:=by
  unfold L2.aCU
  simp only [h,e]
  exact propext ⟨fun z=>z.2,fun z=>⟨trivial,z⟩⟩
theorem aRG {ta tv:dZ}:afV C ta tv f F ρ G=tv ρ G fun y G1=>ta ρ G1 fun x G2=>asG C f x y F ρ G2:=rfl
theorem aq8 {y:D} (h:G p=some (.ins C fs)) (hl:fs.length < 1000):asG C f (.ref p) y F ρ G=F.nx ρ (aQ G p (.ins C (asF f y fs))):=by
  unfold L2.asG
  simp only [h]
  exact propext ⟨fun z=>z.2.2,fun z=>⟨trivial,hl,z⟩⟩
theorem iM (h:G p=some (.ins C fs)) (e:fs.lookup m=none):asI C m (.ref p) G=True:=eq_true ⟨p,fs,rfl,h,e⟩
theorem aK5 {sp:Sp3} {dd:List D} {EX:aW→bK} {ta:dZ} {t:TA3}:jV C m sp dd EX ta t ρ G R=ta ρ G fun x G1=>asI C m x G1∧t ρ G1 fun ds G2=>sp (x :: (ds++dd)) G2 R (EX ρ):=rfl
theorem aK6 {sp:Sp3} {dd:List D} {EX:aW→bK} {t:TA3}:afW C sp dd EX t ρ G R=t ρ G fun ds G1=>∀ x,G1 x=none→sp (.ref x :: (ds++dd)) (aQ G1 x (.ins C [])) (fun v G2=>v = .non∧R (.ref x) G2) (EX ρ):=rfl
theorem b03 {r:RM3} {to:dZ} {t:TA3}:avX r to t ρ G R=to ρ G fun x G1=>a3X x G1∧t ρ G1 fun xs G2=>r x xs G2 R:=rfl
theorem aK7 {to te tf:dZ}:a2I to te tf ρ G R=to ρ G fun x G1=>a3X x G1∧te ρ G1 fun y G2=>tf ρ G2 fun z G3=>vV x y G3 fun _ _ kvs k=>R ((bB kvs k).getD z) G3:=rfl
theorem sU {t:Bool} {kvs:List (DK×D)} (h:G p=some (.eN t kvs)):a3X (.ref p) G=True:=by
  unfold L2.a3X
  simp only [h]
theorem qC {t:Bool} {kvs:List (DK×D)} {y:D} {k:DK} {P:Addr→Bool→List (DK×D)→DK→Prop} (h:G p=some (.eN t kvs)) (hk:aiW y=some k) (ht:a90 k=t):vV (.ref p) y G P=P p t kvs k:=by
  unfold L2.vV
  simp only [h,hk]
  exact propext ⟨fun z=>z.2,fun z=>⟨ht,z⟩⟩
theorem adV {t:Bool} {kvs:List (DK×D)} {y d:D} {k:DK} (h:G p=some (.eN t kvs)) (hk:aiW y=some k) (ht:a90 k=t) (e:bB kvs k=some d):a6E (.ref p) y G R=R d G:=by
  unfold L2.a6E
  rw [qC h hk ht]
  simp only [e]
theorem ayM {kvs:List (DK×D)} (h:G p=some (.eN false kvs)):afY [.ref p] G R=R (.int kvs.length) G:=by
  unfold L2.afY
  simp only [h]
end
end L8
namespace L9
open PySem PySem.Spec PyProof.Rows L2 L4 L5 L6 L7 L8
section
variable {ρ:aW} {G:Gp} {R:pX} {F:nA} {p:Addr}
abbrev ky (a p:Int):List Key:=[.inl a,.inl p]
theorem aK8 {to:dZ}:adS to ρ G R=to ρ G fun x G1=>a2J x G1 R:=rfl
theorem aRH {to:dZ}:apO to ρ G R=to ρ G fun x G1=>a92 x G1 R:=rfl
theorem aRI {t:Bool} {tk tv:dZ}:akE t tk tv ρ G R=∀ p,G p=none→tk ρ (aQ G p (.eN t [])) fun y G1=>tv ρ G1 fun v G2=>vV (.ref p) y G2 fun a t' kvs k=>kvs.length < sizeLine∧R (.ref p) (aQ G2 a (.eN t' (pA kvs k v))):=rfl
theorem a0A {a q:Int}:aiW (.tup [.int a,.int q])=some (.inr (ky a q)):=rfl
theorem yF {i:Int}:aiW (.int i)=some (.inl (.inl i)):=rfl
theorem a6G {k:List Key}:∀ {M:List (List Key×Addr)},bB (M.map ktD) (.inr k)=(bB M k).map D.ref
  | []=>rfl
  | z :: M=>by
    rw [List.map_cons]
    unfold bB
    by_cases c:z.1=k
    · rw [if_pos c,if_pos (by show (Sum.inr z.1:DK)=_;rw [c])]
      rfl
    · rw [if_neg c,if_neg (show ¬ (ktD z).1=Sum.inr k from fun e=>c (xO _ _ e))]
      exact a6G
theorem a6H {i:Int}:∀ {ps:List (Int×Int)},bB (ps.map kpD) (.inl (.inl i))=(bB ps i).map D.int
  | []=>rfl
  | z :: M=>by
    rw [List.map_cons]
    unfold bB
    by_cases c:z.1=i
    · rw [if_pos c,if_pos (by show (Sum.inl (Sum.inl z.1):DK)=_;rw [c])]
      rfl
    · rw [if_neg c,if_neg (show ¬ (kpD z).1=Sum.inl (Sum.inl i) from fun e=>c (by have:=a08 _ _ e;injection this))]
      exact a6H
theorem aK9 {i v:Int} {ps:List (Int×Int)}:pA (ps.map kpD) (.inl (.inl i)) (.int v)=(pA ps i v).map kpD:=by
  unfold pA
  rw [a6H,Option.isSome_map]
  split
  · rw [List.map_map,List.map_map]
    refine List.map_congr_left fun z _=>?_
    show (if (Sum.inl (Sum.inl z.1):DK)=_ then _ else _)=kpD (if z.1=i then (z.1,v) else z)
    by_cases c:z.1=i
    · rw [if_pos c,if_pos (by rw [c])];rfl
    · rw [if_neg c,if_neg (fun e=>c (by have:=a08 _ _ e;injection this))]
  · rw [List.map_append];rfl
theorem aEC {i:Int} {ps:List (Int×Int)}:uX (ps.map kpD) (.inl (.inl i))=(uX ps i).map kpD:=by
  unfold uX
  rw [List.filter_map]
  congr 1
  refine List.filter_congr fun z _=>?_
  show (!decide ((Sum.inl (Sum.inl z.1):DK) = .inl (.inl i)))=_
  by_cases c:z.1=i
  · rw [c];simp
  · rw [decide_eq_false c,decide_eq_false (fun e=>c (by have:=a08 _ _ e;injection this))]
theorem aED {k:List Key} {M:List (List Key×Addr)}:uX (M.map ktD) (.inr k)=(uX M k).map ktD:=by
  unfold uX
  rw [List.filter_map]
  congr 1
  refine List.filter_congr fun z _=>?_
  show (!decide ((Sum.inr z.1:DK) = .inr k))=_
  by_cases c:z.1=k
  · rw [c];simp
  · rw [decide_eq_false c,decide_eq_false (fun e=>c (xO _ _ e))]
theorem aEE {κ α:Type} [DecidableEq κ] {kvs:List (κ×α)} {k:κ} {v:α} (h:bB kvs k=none):pA kvs k v=kvs++[(k,v)]:=by
  unfold pA
  rw [h]
  rfl
theorem aKA {y z:D} {k:DK} {kvs:List (DK×D)} (h:G p=some (.eN true kvs)) (hk:aiW y=some k) (ht:a90 k=true) (hl:kvs.length < sizeLine) (e:bB kvs k=none):akC (.ref p) [y,z] G R=R z (aQ G p (.eN true (kvs++[(k,z)]))):=by
  unfold L2.akC
  simp only
  rw [qC h hk ht]
  simp only [e,aEE e]
  exact propext ⟨fun w=>w.2.2,fun w=>⟨trivial,hl,w⟩⟩
theorem aKB {y z d:D} {k:DK} {kvs:List (DK×D)} (h:G p=some (.eN true kvs)) (hk:aiW y=some k) (ht:a90 k=true) (hl:kvs.length < sizeLine) (e:bB kvs k=some d):akC (.ref p) [y,z] G R=R d G:=by
  unfold L2.akC
  simp only
  rw [qC h hk ht]
  simp only [e]
  exact propext ⟨fun w=>w.2.2,fun w=>⟨trivial,hl,w⟩⟩
theorem ayN {t:Bool} {y d:D} {k:DK} {kvs:List (DK×D)} (h:G p=some (.eN t kvs)) (hk:aiW y=some k) (ht:a90 k=t) (e:bB kvs k=some d):afX (.ref p) [y] G R=R d (aQ G p (.eN t (uX kvs k))):=by
  unfold L2.afX
  simp only
  rw [qC h hk ht]
  simp only [e]
theorem ayO {t:Bool} {y v:D} {k:DK} {kvs:List (DK×D)} (h:G p=some (.eN t kvs)) (hk:aiW y=some k) (ht:a90 k=t) (hl:kvs.length < sizeLine):ay2 (.ref p) y v F ρ G=F.nx ρ (aQ G p (.eN t (pA kvs k v))):=by
  unfold L2.ay2
  rw [qC h hk ht]
  exact propext ⟨fun w=>w.2,fun w=>⟨hl,w⟩⟩
theorem aRJ {t:Bool} {y:D} {k:DK} {kvs:List (DK×D)} (h:G p=some (.eN t kvs)) (hk:aiW y=some k) (ht:a90 k=t):asL y (.ref p) G R=R (.bl (bB kvs k).isSome) G:=by
  unfold L2.asL
  rw [qC h hk ht]
theorem atN {ps:List (Int×Int)} (h:G p=some (.eN false (ps.map kpD))) (hl:ps.length < 2) (k:∀ qs:List (Int×Int),qs.Perm ps→uY qs→∀ r,G r=none→R (.ref r) (aQ G r (.lst (qs.map prV)))):a2J (.ref p) G R:=by
  unfold L2.a2J
  simp only [h]
  exact ⟨ps,rfl,hl,k⟩
theorem aKC {ps:List (Int×Int)} (h:G p=some (.eN false (ps.map kpD))) (k:R (.int (ps.map (·.2)).sum) G):a92 (.ref p) G R:=by
  unfold L2.a92
  simp only [h]
  exact ⟨ps,rfl,k⟩
theorem atO {kvs:List (DK×D)} {ps:List (Int×Int)} (h:G p=some (.eN true kvs)) (e:(kvs.map fun q=>dkD q.1)=ps.map prV) (nd:ps.Nodup) (hl:ps.length < 2) (k:∀ qs:List (Int×Int),qs.Perm ps→uY qs→∀ r,G r=none→R (.ref r) (aQ G r (.lst (qs.map prV)))):a09 [.ref p] G R:=by
  unfold L2.a09
  simp only [h]
  exact ⟨ps,e,nd,hl,k⟩
theorem aKD {neg:Bool} {q:Addr} {M N:List (List Key×Addr)} {c:Addr→List (Int×Int)} (h:G p=some (.eN true (M.map ktD))) (h2:G q=some (.eN true (N.map ktD))) (hc:∀ z∈M++N,G z.2=some (.eN false ((c z.2).map kpD))) (k:R (.bl (neg ^^ eqT c M N)) G):anY neg (.ref p) (.ref q) G R := .inr ⟨p,q,M,N,c,rfl,rfl,h,h2,hc,k⟩
theorem aAG {q:Addr} {ds:List D} {b:Bool} (h:cH G q=some ds) (ha:ds.all aCN=true) (j:Nat) (hj:ds[j]?=some (.bl b)) (hn:∀ m,m < j→ds[m]?≠some (.bl b)) (k:R (.int j) G):a4V (.ref q) [.bl b] G R:=by
  unfold L2.a4V
  simp only [h]
  exact ⟨ha,j,hj,hn,k⟩
theorem atP {α:Type} {qs:List α} {x:α} (h:qs.Perm [x]):qs=[x]:=List.perm_singleton.mp h
theorem aKE {α:Type} {qs:List α} (h:qs.Perm []):qs=[]:=List.perm_nil.mp h
end
end L9
namespace Law
open PySem PySem.Spec PyProof.Rows L2 L4
def top (i:Nat):Stmt:=PySem.Challenge.pw_depot_k24_wrong_deeds.main.body.getD i (.Pass ⟨0,0,0,0⟩)
abbrev jX:Stmt:=top 12
abbrev nJ:Stmt:=top 13
abbrev gZ:Stmt:=top 14
abbrev nM:Stmt:=top 17
abbrev iB:Stmt:=top 18
abbrev qD:Stmt:=top 19
abbrev jY:Stmt:=top 21
abbrev jZ:Stmt:=top 22
abbrev dU:Stmt:=top 23
abbrev qF:Stmt:=top 26
abbrev kJ:Stmt:=top 27
abbrev bN:Stmt:=inClass (top 28) 0
abbrev bW:Stmt:=inClass (top 28) 6
abbrev bG:Stmt:=inClass (top 28) 10
abbrev dW:Stmt:=inClass (top 28) 1
abbrev bY:Stmt:=inClass (top 28) 4
abbrev bC:Stmt:=inClass (top 28) 9
abbrev cU:Stmt:=inClass (top 28) 2
abbrev cM:Stmt:=inClass (top 28) 3
abbrev cV:Stmt:=inClass (top 28) 5
abbrev bZ:Stmt:=inClass (top 28) 7
abbrev cN:Stmt:=inClass (top 28) 8
abbrev cW:Stmt:=top 30
abbrev iC:Stmt:=top 31
abbrev dX:Stmt:=top 32
abbrev kW:Stmt:=top 33
abbrev fJ:Stmt:=top 34
abbrev iD:Stmt:=top 35
abbrev kY:Stmt:=top 36
abbrev iG:Stmt:=top 37
abbrev a94:Stmt:=top 38
structure bT where
  tL:Addr
  acB:FuncData
  wG:Addr
  ag4:FuncData
  qG:Addr
  a95:FuncData
  wH:Addr
  ag5:FuncData
  qH:Addr
  a96:FuncData
  a0S:Addr
  akK:FuncData
  tM:Addr
  acC:FuncData
  tO:Addr
  acD:FuncData
  mR:Addr
  a3Z:FuncData
  a0T:Addr
  akL:FuncData
  tQ:Addr
  acE:FuncData
  cI:Addr
  oM:FuncData
  gC:Addr
  wI:FuncData
  dG:Addr
  sE:FuncData
  mU:Addr
  a4A:FuncData
  gF:Addr
  wJ:FuncData
  cX:Addr
  qI:FuncData
  kZ:Addr
  a0U:FuncData
  iY:Addr
  zE:FuncData
  lA:Addr
  a0V:FuncData
  gG:Addr
  wK:FuncData
  iZ:Addr
  zF:FuncData
  lB:Addr
  a0W:FuncData
  qJ:Addr
  a97:FuncData
  mV:Addr
  a4B:FuncData
  tR:Addr
  acF:FuncData
  oN:Addr
  a6I:FuncData
  qK:Addr
  a98:FuncData
  tU:Addr
  acG:FuncData
  qL:Addr
  a99:FuncData
  ahG:Addr
  aEF:FuncData
  aK:Addr
  bR:Addr
  cJ:Addr
  cL:Addr
  aV:Addr
  bO:Addr
  aP:Addr
  aD:Addr
def a0X (K:Fg) (A:bT) (ex:aW→bK):bU :=
    (dR (a8U (uT (aG K) (aA (aB 0) (aA (aY (.ty "int")) aH))) (a8U (ap4 (uT (aG K) (aA (aB 0) (aA (aY (.ty "bool")) aH)))) (a2H azO azO (aB 1) (aB 0) (aB 2)))))
def eO (K:Fg) (A:bT):Sp3:=spD 3 3 fun EX=>a0X K A (fun _=>EX)
def tV:CB:=(.cons (.ret (.aA4 (.cons (.call 1 (.cons (.var 0) (.cons (.glo 0) .nil))) (.cons (.aHW (.call 1 (.cons (.var 0) (.cons (.glo 2) .nil)))) (.cons (.chain .LtE .LtE (.var 1) (.var 0) (.var 2)) .nil))))) .nil)
def a6J (K:Fg) (A:bT):SI:=⟨["thing", "least", "most"],[true,true,true],[true,true,true],[false,false,false],[("int",.bt "int"),("isinstance",.bf .isi),("bool",.bt "bool")],[true,true,true],true⟩
def ahH (K:Fg) (A:bT) (ex:aW→bK):bU :=
    (dR (a8U (bA (eO K A) ex (aA (aO nD (aB 0) (aY (.int 0))) (aA (aY (.int 0)) (aA (aO anJ (aB 1) (aY (.int 1))) aH)))) (bA (eO K A) ex (aA (aO nD (aB 0) (aY (.int 1))) (aA (aB 2) (aA (aB 3) aH))))))
def a0I (K:Fg) (A:bT) (ex:aW→bK):bU :=
    aZ (jF (ajY (a7S (bJ (uT (aG K) (aA (aB 0) (aA (aY (.ty "tuple")) aH))))) (bJ (aO afR (uT a8X (aA (aB 0) aH)) (aY (.int 2))))) (dR (aY (.bl false))) dB) (ahH K A ex)
def a6K (K:Fg) (A:bT):Sp3:=spD 4 4 fun EX=>a0I K A (fun _=>EX)
def wL:CB:=(.cons (.ifs (.or (.cons (.not (.val (.call 1 (.cons (.var 0) (.cons (.glo 0) .nil))))) (.cons (.cmp .NotEq (.call 2 (.cons (.var 0) .nil)) (.con (.int 2))) .nil))) (.cons (.ret (.con (.bl false))) .nil) .nil) (.cons (.ret (.aA4 (.cons (.call 3 (.cons (.ix (.var 0) (.con (.int 0))) (.cons (.con (.int 0)) (.cons (.bin .Sub (.var 1) (.con (.int 1))) .nil)))) (.cons (.call 3 (.cons (.ix (.var 0) (.con (.int 1))) (.cons (.var 2) (.cons (.var 3) .nil)))) .nil)))) .nil))
def ab2 (K:Fg) (A:bT):SI:=⟨["thing", "aisles", "first", "last"],[true,true,true,true],[true,true,true,true],[false,false,false,false],[("tuple",.bt "tuple"),("isinstance",.bf .isi),("len",.bf .len),("is_whole",.fn (eO K A) 3 false)],[true,true,true,true],true⟩
def a2L (K:Fg) (A:bT) (ex:aW→bK):bU :=
    (dR (bA (eO K A) ex (aA (aB 0) (aA (aY (.int 1)) (aA (aY (.int 1000000)) aH)))))
def a0B (K:Fg) (A:bT):Sp3:=spD 1 1 fun EX=>a2L K A (fun _=>EX)
def qM:CB:=(.cons (.ret (.call 1 (.cons (.var 0) (.cons (.con (.int 1)) (.cons (.glo 0) .nil))))) .nil)
def a2M (K:Fg) (A:bT):SI:=⟨["thing"],[true],[true],[false],[("MOST_AMOUNT",.con (.int 1000000)),("is_whole",.fn (eO K A) 3 false)],[true,true],true⟩
def ahI (K:Fg) (A:bT) (ex:aW→bK):bU :=
    (dR (bA (eO K A) ex (aA (aO nD (aB 0) (aY (.int 2))) (aA (aY (.int 1)) (aA (aY (.int 20)) aH)))))
def ahJ (K:Fg) (A:bT) (ex:aW→bK):bU :=
    aZ (jF (ajY (a7S (bJ (bA (eO K A) ex (aA (aO nD (aB 0) (aY (.int 0))) (aA (aY (.int 1)) (aA (aY (.int 26)) aH)))))) (a7S (bJ (bA (eO K A) ex (aA (aO nD (aB 0) (aY (.int 1))) (aA (aY (.int 1)) (aA (aY (.int 99)) aH))))))) (dR (aY (.bl false))) dB) (ahI K A ex)
def a0J (K:Fg) (A:bT) (ex:aW→bK):bU :=
    aZ (jF (ajY (a7S (bJ (uT (aG K) (aA (aB 0) (aA (aY (.ty "tuple")) aH))))) (bJ (aO afR (uT a8X (aA (aB 0) aH)) (aY (.int 3))))) (dR (aY (.bl false))) dB) (ahJ K A ex)
def a6L (K:Fg) (A:bT):Sp3:=spD 1 1 fun EX=>a0J K A (fun _=>EX)
def wM:CB:=(.cons (.ifs (.or (.cons (.not (.val (.call 1 (.cons (.var 0) (.cons (.glo 0) .nil))))) (.cons (.cmp .NotEq (.call 2 (.cons (.var 0) .nil)) (.con (.int 3))) .nil))) (.cons (.ret (.con (.bl false))) .nil) .nil) (.cons (.ifs (.or (.cons (.not (.val (.call 4 (.cons (.ix (.var 0) (.con (.int 0))) (.cons (.con (.int 1)) (.cons (.glo 3) .nil)))))) (.cons (.not (.val (.call 4 (.cons (.ix (.var 0) (.con (.int 1))) (.cons (.con (.int 1)) (.cons (.glo 5) .nil)))))) .nil))) (.cons (.ret (.con (.bl false))) .nil) .nil) (.cons (.ret (.call 4 (.cons (.ix (.var 0) (.con (.int 2))) (.cons (.con (.int 1)) (.cons (.glo 6) .nil))))) .nil)))
def ab3 (K:Fg) (A:bT):SI:=⟨["thing"],[true],[true],[false],[("tuple",.bt "tuple"),("isinstance",.bf .isi),("len",.bf .len),("MOST_AISLES",.con (.int 26)),("is_whole",.fn (eO K A) 3 false),("MOST_PLACES",.con (.int 99)),("MOST_GAP",.con (.int 20))],[true,true,true,true,true,true,true],true⟩
def a2N (K:Fg) (A:bT) (ex:aW→bK):bU :=
    (jF (a7S (bJ (bA (a6L K A) ex (aA (aB 0) aH)))) (xK ex A.bR (aA (aY (.str "a tuple of 1 to 26 aisles, 1 to 99 places and a gap from 1 to 20 is wanted")) aH)) dB)
def oO (K:Fg) (A:bT):Sp3:=spD 1 1 fun EX=>a2N K A (fun _=>EX)
def qN:CB:=(.cons (.ifs (.not (.val (.call 0 (.cons (.var 0) .nil)))) (.cons (.raise 1 (.con (.str "a tuple of 1 to 26 aisles, 1 to 99 places and a gap from 1 to 20 is wanted")) .nil) .nil) .nil) .nil)
def a2O (K:Fg) (A:bT):SI:=⟨["plan"],[true],[true],[false],[("is_plan",.fn (a6L K A) 1 false),("NoPlan",.cls A.bR)],[true,true],true⟩
def akM (K:Fg) (A:bT) (ex:aW→bK):bU :=
    (dR (bA (a6K K A) ex (aA (aB 1) (aA (aO nD (aB 0) (aY (.int 0))) (aA (aY (.int 1)) (aA (aO nD (aB 0) (aY (.int 1))) aH))))))
def adW (K:Fg) (A:bT) (ex:aW→bK):bU :=
    aZ (dD (bA (oO K A) ex (aA (aB 0) aH))) (akM K A ex)
def ab4 (K:Fg) (A:bT):Sp3:=spD 2 2 fun EX=>adW K A (fun _=>EX)
def a0Y:CB:=(.cons (.expr (.call 0 (.cons (.var 0) .nil))) (.cons (.ret (.call 1 (.cons (.var 1) (.cons (.ix (.var 0) (.con (.int 0))) (.cons (.con (.int 1)) (.cons (.ix (.var 0) (.con (.int 1))) .nil)))))) .nil))
def adX (K:Fg) (A:bT):SI:=⟨["plan", "thing"],[true,true],[true,true],[false,false],[("need_plan",.fn (oO K A) 1 false),("is_pair",.fn (a6K K A) 4 false)],[true,true],true⟩
def a6M (K:Fg) (A:bT) (ex:aW→bK):bU :=
    (jF (a7S (bJ (bA (eO K A) ex (aA (aB 0) (aA (aY (.int 0)) (aA (aO anJ (aB 1) (aY (.int 1))) aH)))))) (xK ex A.cL (aA (aY (.str "there is no lot of that number")) aH)) dB)
def dI (K:Fg) (A:bT):Sp3:=spD 2 2 fun EX=>a6M K A (fun _=>EX)
def tW:CB:=(.cons (.ifs (.not (.val (.call 0 (.cons (.var 0) (.cons (.con (.int 0)) (.cons (.bin .Sub (.var 1) (.con (.int 1))) .nil)))))) (.cons (.raise 1 (.con (.str "there is no lot of that number")) .nil) .nil) .nil) .nil)
def a6N (K:Fg) (A:bT):SI:=⟨["thing", "lots"],[true,true],[true,true],[false,false],[("is_whole",.fn (eO K A) 3 false),("NoLot",.cls A.cL)],[true,true],true⟩
def a6O (K:Fg) (A:bT) (ex:aW→bK):bU :=
    (jF (a7S (bJ (bA (ab4 K A) ex (aA (aB 0) (aA (aB 1) aH))))) (xK ex A.cJ (aA (aY (.str "a bin of the plan is wanted")) aH)) dB)
def cC (K:Fg) (A:bT):Sp3:=spD 2 2 fun EX=>a6O K A (fun _=>EX)
def tX:CB:=(.cons (.ifs (.not (.val (.call 0 (.cons (.var 0) (.cons (.var 1) .nil))))) (.cons (.raise 1 (.con (.str "a bin of the plan is wanted")) .nil) .nil) .nil) .nil)
def a6P (K:Fg) (A:bT):SI:=⟨["plan", "thing"],[true,true],[true,true],[false,false],[("is_bin",.fn (ab4 K A) 2 false),("NoBin",.cls A.cJ)],[true,true],true⟩
def xP (K:Fg) (A:bT) (ex:aW→bK):bU :=
    (jF (a7S (bJ (bA (a0B K A) ex (aA (aB 0) aH)))) (xK ex A.aV (aA (aY (.str "a whole number from 1 to 10 ** 6 is wanted")) aH)) dB)
def cO (K:Fg) (A:bT):Sp3:=spD 1 1 fun EX=>xP K A (fun _=>EX)
def mW:CB:=(.cons (.ifs (.not (.val (.call 0 (.cons (.var 0) .nil)))) (.cons (.raise 1 (.con (.str "a whole number from 1 to 10 ** 6 is wanted")) .nil) .nil) .nil) .nil)
def xQ (K:Fg) (A:bT):SI:=⟨["thing"],[true],[true],[false],[("is_amount",.fn (a0B K A) 1 false),("NoAmount",.cls A.aV)],[true,true],true⟩
def a6Q (K:Fg) (A:bT) (ex:aW→bK):bU :=
    (jF (bJ (aO wF (uT afY (aA (aB 4) aH)) (aY (.int 0)))) (dD (avX afX (aB 0) (aA (aB 1) aH))) dB)
def akN (K:Fg) (A:bT) (ex:aW→bK):bU :=
    aZ (jF (bJ (aO wF (aO a6E (aB 4) (aB 2)) (aY (.int 0)))) (dD (avX afX (aB 4) (aA (aB 2) aH))) dB) (a6Q K A ex)
def acH (K:Fg) (A:bT) (ex:aW→bK):bU :=
    aZ (akB (aB 4) (aB 2) (aO rT (a2I (aB 4) (aB 2) (aY (.int 0))) (aB 3))) (akN K A ex)
def a4X (K:Fg) (A:bT) (ex:aW→bK):bU :=
    aZ (p8 4 (avX akC (aB 0) (aA (aB 1) (aA a8Z aH)))) (acH K A ex)
def lR (K:Fg) (A:bT):Sp3:=spD 5 4 fun EX=>a4X K A (fun _=>EX)
def a0Z:CB:=(.cons (.set 4 (.dm .sdf (.var 0) (.var 1) (.cons .dct .nil))) (.cons (.aDL (.var 4) (.var 2) (.bin .Add (.dgt (.var 4) (.var 2) (.con (.int 0))) (.var 3))) (.cons (.ifs (.cmp .Eq (.dix (.var 4) (.var 2)) (.con (.int 0))) (.cons (.expr (.dm .pop (.var 4) (.var 2) .nil)) .nil) .nil) (.cons (.ifs (.cmp .Eq (.call 0 (.cons (.var 4) .nil)) (.con (.int 0))) (.cons (.expr (.dm .pop (.var 0) (.var 1) .nil)) .nil) .nil) .nil))))
def adY (K:Fg) (A:bT):SI:=⟨["stacks", "spot", "lot", "more", "held"],[true,true,true,true,true],[true,true,true,true,true],[false,false,false,false,false],[("len",.bf .aDA)],[true],true⟩
def abO (K:Fg) (A:bT) (ex:aW→bK):bU :=
    (akB (aB 1) (aB 2) (uT a6F (aA (adS (aO a6E (aB 0) (aB 2))) aH)))
def a6R (K:Fg) (A:bT) (ex:aW→bK):bU :=
    (dR (aB 1))
def a6S (K:Fg) (A:bT) (ex:aW→bK):bU :=
    aZ (ac7 (aCL (uT a09 (aA (aB 0) aH))) (ac6 2) (abO K A ex)) (a6R K A ex)
def wN (K:Fg) (A:bT) (ex:aW→bK):bU :=
    aZ (p8 1 adM) (a6S K A ex)
def a9A (K:Fg) (A:bT):Sp3:=spD 3 1 fun EX=>wN K A (fun _=>EX)
def tY:CB:=(.cons (.set 1 .aDB) (.cons (.aw3 (.any (.call 0 (.cons (.var 0) .nil))) (.nm 2) (.cons (.aDL (.var 1) (.var 2) (.call 2 (.cons (.sortI 1 (.dix (.var 0) (.var 2))) .nil))) .nil)) (.cons (.ret (.var 1)) .nil)))
def a6T (K:Fg) (A:bT):SI:=⟨["stacks", "told", "spot"],[true,true,true],[true,true,true],[false,false,false],[("sorted",.bf .asW),("sorted",.bf .anZ),("dict",.bf .asY)],[true,true,true],true⟩
def yG (K:Fg) (A:bT) (ex:aW→bK):bU :=
    (afV A.aD (aB 0) adM "stacks")
def yH (K:Fg) (A:bT) (ex:aW→bK):bU :=
    aZ (afV A.aD (aB 0) (aB 2) "room") (yG K A ex)
def yI (K:Fg) (A:bT) (ex:aW→bK):bU :=
    aZ (afV A.aD (aB 0) (aB 1) "layout") (yH K A ex)
def qO (K:Fg) (A:bT) (ex:aW→bK):bU :=
    aZ (dD (bA (cO K A) ex (aA (aB 2) aH))) (yI K A ex)
def cY (K:Fg) (A:bT) (ex:aW→bK):bU :=
    aZ (dD (bA (oO K A) ex (aA (aB 1) aH))) (qO K A ex)
def fP (K:Fg) (A:bT):Sp3:=spD 3 3 fun EX=>cY K A (fun _=>EX)
def eG:CB:=(.cons (.expr (.call 0 (.cons (.var 1) .nil))) (.cons (.expr (.call 1 (.cons (.var 2) .nil))) (.cons (.aA7 2 (.var 0) (.var 1)) (.cons (.aA7 3 (.var 0) (.var 2)) (.cons (.aA7 4 (.var 0) .aDB) .nil)))))
def oR (K:Fg) (A:bT):SI:=⟨["self", "plan", "room"],[true,true,true],[true,true,true],[false,false,false],[("need_plan",.fn (oO K A) 1 false),("need_amount",.fn (cO K A) 1 false),("Shelves.layout",.fl A.aD "layout"),("Shelves.room",.fl A.aD "room"),("Shelves.stacks",.fl A.aD "stacks")],[true,true,false,false,false],true⟩
def a1A (K:Fg) (A:bT) (ex:aW→bK):bU :=
    (dR (apO (a2I (rW A.aD (aB 0) "stacks") (aB 1) a8Z)))
def jK (K:Fg) (A:bT) (ex:aW→bK):bU :=
    aZ (dD (bA (cC K A) ex (aA (rW A.aD (aB 0) "layout") (aA (aB 1) aH)))) (a1A K A ex)
def fK (K:Fg) (A:bT):Sp3:=spD 2 2 fun EX=>jK K A (fun _=>EX)
def gH:CB:=(.cons (.expr (.call 1 (.cons (.fld 0 (.var 0)) (.cons (.var 1) .nil)))) (.cons (.ret (.aHX 2 (.dgt (.fld 3 (.var 0)) (.var 1) .dct))) .nil))
def rM (K:Fg) (A:bT):SI:=⟨["self", "spot"],[true,true],[true,true],[false,false],[("Shelves.layout",.fl A.aD "layout"),("need_bin",.fn (cC K A) 2 false),("sum",.bf .sum),("Shelves.stacks",.fl A.aD "stacks")],[false,true,true,false],true⟩
def nF (K:Fg) (A:bT) (ex:aW→bK):bU :=
    (jF (bJ (aO aGL (aO rT (jV A.aD "filled" (fK K A) [] ex (aB 0) (aA (aB 1) aH)) (aB 2)) (rW A.aD (aB 0) "room"))) (xK ex A.bO (aA (aY (.str "the bin would have more than its room")) aH)) dB)
def eU (K:Fg) (A:bT):Sp3:=spD 3 3 fun EX=>nF K A (fun _=>EX)
def dH:CB:=(.cons (.ifs (.cmp .Gt (.bin .Add (.rY 0 (.var 0) (.cons (.var 1) .nil)) (.var 2)) (.fld 1 (.var 0))) (.cons (.raise 2 (.con (.str "the bin would have more than its room")) .nil) .nil) .nil) .nil)
def nG (K:Fg) (A:bT):SI:=⟨["self", "spot", "amount"],[true,true,true],[true,true,true],[false,false,false],[("Shelves.filled#1",.me A.aD "filled" (fK K A) []),("Shelves.room",.fl A.aD "room"),("NoRoom",.cls A.bO)],[false,false,true],true⟩
def a7U (K:Fg) (A:bT) (ex:aW→bK):bU :=
    (dD (bA (lR K A) ex (aA (rW A.aD (aB 0) "stacks") (aA (aB 2) (aA (aB 1) (aA (aB 3) aH))))))
def a7V (K:Fg) (A:bT) (ex:aW→bK):bU :=
    aZ (dD (jV A.aD "need_room" (eU K A) [] ex (aB 0) (aA (aB 2) (aA (aB 3) aH)))) (a7U K A ex)
def zG (K:Fg) (A:bT) (ex:aW→bK):bU :=
    aZ (dD (bA (cO K A) ex (aA (aB 3) aH))) (a7V K A ex)
def zH (K:Fg) (A:bT) (ex:aW→bK):bU :=
    aZ (dD (bA (cC K A) ex (aA (rW A.aD (aB 0) "layout") (aA (aB 2) aH)))) (zG K A ex)
def pH (K:Fg) (A:bT) (ex:aW→bK):bU :=
    aZ (dD (bA (dI K A) ex (aA (aB 1) (aA (aY (.int 1000)) aH)))) (zH K A ex)
def dY (K:Fg) (A:bT):Sp3:=spD 4 4 fun EX=>pH K A (fun _=>EX)
def mX:CB:=(.cons (.expr (.call 1 (.cons (.var 1) (.cons (.glo 0) .nil)))) (.cons (.expr (.call 3 (.cons (.fld 2 (.var 0)) (.cons (.var 2) .nil)))) (.cons (.expr (.call 4 (.cons (.var 3) .nil))) (.cons (.expr (.rY 5 (.var 0) (.cons (.var 2) (.cons (.var 3) .nil)))) (.cons (.expr (.call 7 (.cons (.fld 6 (.var 0)) (.cons (.var 2) (.cons (.var 1) (.cons (.var 3) .nil)))))) .nil)))))
def xR (K:Fg) (A:bT):SI:=⟨["self", "lot", "spot", "amount"],[true,true,true,true],[true,true,true,true],[false,false,false,false],[("MOST_LOTS",.con (.int 1000)),("need_lot",.fn (dI K A) 2 false),("Shelves.layout",.fl A.aD "layout"),("need_bin",.fn (cC K A) 2 false),("need_amount",.fn (cO K A) 1 false),("Shelves.need_room#2",.me A.aD "need_room" (eU K A) []),("Shelves.stacks",.fl A.aD "stacks"),("change",.fn (lR K A) 4 false)],[true,true,false,true,true,false,false,true],true⟩
def a1B (K:Fg) (A:bT) (ex:aW→bK):bU :=
    (dR (a2I (a2I (rW A.aD (aB 0) "stacks") (aB 2) a8Z) (aB 1) (aY (.int 0))))
def tZ (K:Fg) (A:bT) (ex:aW→bK):bU :=
    aZ (dD (bA (cC K A) ex (aA (rW A.aD (aB 0) "layout") (aA (aB 2) aH)))) (a1B K A ex)
def jL (K:Fg) (A:bT) (ex:aW→bK):bU :=
    aZ (dD (bA (dI K A) ex (aA (aB 1) (aA (aY (.int 1000)) aH)))) (tZ K A ex)
def cA (K:Fg) (A:bT):Sp3:=spD 3 3 fun EX=>jL K A (fun _=>EX)
def gJ:CB:=(.cons (.expr (.call 1 (.cons (.var 1) (.cons (.glo 0) .nil)))) (.cons (.expr (.call 3 (.cons (.fld 2 (.var 0)) (.cons (.var 2) .nil)))) (.cons (.ret (.dgt (.dgt (.fld 4 (.var 0)) (.var 2) .dct) (.var 1) (.con (.int 0)))) .nil)))
def rN (K:Fg) (A:bT):SI:=⟨["self", "lot", "spot"],[true,true,true],[true,true,true],[false,false,false],[("MOST_LOTS",.con (.int 1000)),("need_lot",.fn (dI K A) 2 false),("Shelves.layout",.fl A.aD "layout"),("need_bin",.fn (cC K A) 2 false),("Shelves.stacks",.fl A.aD "stacks")],[true,true,false,true,false],true⟩
def m8 (K:Fg) (A:bT) (ex:aW→bK):bU :=
    (jF (bJ (aO aBX (jV A.aD "amount" (cA K A) [] ex (aB 0) (aA (aB 1) (aA (aB 2) aH))) (aB 3))) (xK ex A.aP (aA (aY (.str "less of the lot lies in the bin")) aH)) dB)
def dO (K:Fg) (A:bT):Sp3:=spD 4 4 fun EX=>m8 K A (fun _=>EX)
def cZ:CB:=(.cons (.ifs (.cmp .Lt (.rY 0 (.var 0) (.cons (.var 1) (.cons (.var 2) .nil))) (.var 3)) (.cons (.raise 1 (.con (.str "less of the lot lies in the bin")) .nil) .nil) .nil) .nil)
def m9 (K:Fg) (A:bT):SI:=⟨["self", "lot", "spot", "amount"],[true,true,true,true],[true,true,true,true],[false,false,false,false],[("Shelves.amount#2",.me A.aD "amount" (cA K A) []),("TooLittle",.cls A.aP)],[false,true],true⟩
def a4Y (K:Fg) (A:bT) (ex:aW→bK):bU :=
    (dD (bA (lR K A) ex (aA (rW A.aD (aB 0) "stacks") (aA (aB 2) (aA (aB 1) (aA (ahA (aB 3)) aH))))))
def a4Z (K:Fg) (A:bT) (ex:aW→bK):bU :=
    aZ (dD (jV A.aD "need_there" (dO K A) [] ex (aB 0) (aA (aB 1) (aA (aB 2) (aA (aB 3) aH))))) (a4Y K A ex)
def wO (K:Fg) (A:bT) (ex:aW→bK):bU :=
    aZ (dD (bA (cO K A) ex (aA (aB 3) aH))) (a4Z K A ex)
def wQ (K:Fg) (A:bT) (ex:aW→bK):bU :=
    aZ (dD (bA (cC K A) ex (aA (rW A.aD (aB 0) "layout") (aA (aB 2) aH)))) (wO K A ex)
def nO (K:Fg) (A:bT) (ex:aW→bK):bU :=
    aZ (dD (bA (dI K A) ex (aA (aB 1) (aA (aY (.int 1000)) aH)))) (wQ K A ex)
def fW (K:Fg) (A:bT):Sp3:=spD 4 4 fun EX=>nO K A (fun _=>EX)
def lC:CB:=(.cons (.expr (.call 1 (.cons (.var 1) (.cons (.glo 0) .nil)))) (.cons (.expr (.call 3 (.cons (.fld 2 (.var 0)) (.cons (.var 2) .nil)))) (.cons (.expr (.call 4 (.cons (.var 3) .nil))) (.cons (.expr (.rY 5 (.var 0) (.cons (.var 1) (.cons (.var 2) (.cons (.var 3) .nil))))) (.cons (.expr (.call 7 (.cons (.fld 6 (.var 0)) (.cons (.var 2) (.cons (.var 1) (.cons (.neg (.var 3)) .nil)))))) .nil)))))
def uZ (K:Fg) (A:bT):SI:=⟨["self", "lot", "spot", "amount"],[true,true,true,true],[true,true,true,true],[false,false,false,false],[("MOST_LOTS",.con (.int 1000)),("need_lot",.fn (dI K A) 2 false),("Shelves.layout",.fl A.aD "layout"),("need_bin",.fn (cC K A) 2 false),("need_amount",.fn (cO K A) 1 false),("Shelves.need_there#3",.me A.aD "need_there" (dO K A) []),("Shelves.stacks",.fl A.aD "stacks"),("change",.fn (lR K A) 4 false)],[true,true,false,true,true,false,false,true],true⟩
def qP (K:Fg) (A:bT) (ex:aW→bK):bU :=
    (dD (bA (lR K A) ex (aA (rW A.aD (aB 0) "stacks") (aA (aB 3) (aA (aB 1) (aA (aB 4) aH))))))
def yJ (K:Fg) (A:bT) (ex:aW→bK):bU :=
    aZ (dD (bA (lR K A) ex (aA (rW A.aD (aB 0) "stacks") (aA (aB 2) (aA (aB 1) (aA (ahA (aB 4)) aH)))))) (qP K A ex)
def a2P (K:Fg) (A:bT) (ex:aW→bK):bU :=
    (jF (bJ (aO afR (aB 2) (aB 3))) (aZ (dD (jV A.aD "need_room" (eU K A) [] ex (aB 0) (aA (aB 3) (aA (aB 4) aH)))) (yJ K A ex)) dB)
def a2Q (K:Fg) (A:bT) (ex:aW→bK):bU :=
    aZ (dD (jV A.aD "need_there" (dO K A) [] ex (aB 0) (aA (aB 1) (aA (aB 2) (aA (aB 4) aH))))) (a2P K A ex)
def v7 (K:Fg) (A:bT) (ex:aW→bK):bU :=
    aZ (dD (bA (cO K A) ex (aA (aB 4) aH))) (a2Q K A ex)
def v8 (K:Fg) (A:bT) (ex:aW→bK):bU :=
    aZ (dD (bA (cC K A) ex (aA (rW A.aD (aB 0) "layout") (aA (aB 3) aH)))) (v7 K A ex)
def v9 (K:Fg) (A:bT) (ex:aW→bK):bU :=
    aZ (dD (bA (cC K A) ex (aA (rW A.aD (aB 0) "layout") (aA (aB 2) aH)))) (v8 K A ex)
def lU (K:Fg) (A:bT) (ex:aW→bK):bU :=
    aZ (dD (bA (dI K A) ex (aA (aB 1) (aA (aY (.int 1000)) aH)))) (v9 K A ex)
def gK (K:Fg) (A:bT):Sp3:=spD 5 5 fun EX=>lU K A (fun _=>EX)
def j5:CB:=(.cons (.expr (.call 1 (.cons (.var 1) (.cons (.glo 0) .nil)))) (.cons (.expr (.call 3 (.cons (.fld 2 (.var 0)) (.cons (.var 2) .nil)))) (.cons (.expr (.call 3 (.cons (.fld 2 (.var 0)) (.cons (.var 3) .nil)))) (.cons (.expr (.call 4 (.cons (.var 4) .nil))) (.cons (.expr (.rY 5 (.var 0) (.cons (.var 1) (.cons (.var 2) (.cons (.var 4) .nil))))) (.cons (.ifs (.cmp .NotEq (.var 2) (.var 3)) (.cons (.expr (.rY 6 (.var 0) (.cons (.var 3) (.cons (.var 4) .nil)))) (.cons (.expr (.call 8 (.cons (.fld 7 (.var 0)) (.cons (.var 2) (.cons (.var 1) (.cons (.neg (.var 4)) .nil)))))) (.cons (.expr (.call 8 (.cons (.fld 7 (.var 0)) (.cons (.var 3) (.cons (.var 1) (.cons (.var 4) .nil)))))) .nil))) .nil) .nil))))))
def tG (K:Fg) (A:bT):SI:=⟨["self", "lot", "one", "other", "amount"],[true,true,true,true,true],[true,true,true,true,true],[false,false,false,false,false],[("MOST_LOTS",.con (.int 1000)),("need_lot",.fn (dI K A) 2 false),("Shelves.layout",.fl A.aD "layout"),("need_bin",.fn (cC K A) 2 false),("need_amount",.fn (cO K A) 1 false),("Shelves.need_there#3",.me A.aD "need_there" (dO K A) []),("Shelves.need_room#2",.me A.aD "need_room" (eU K A) []),("Shelves.stacks",.fl A.aD "stacks"),("change",.fn (lR K A) 4 false)],[true,true,false,true,true,false,false,false,true],true⟩
def a5A (K:Fg) (A:bT) (ex:aW→bK):bU :=
    (dR (adS (a2I (rW A.aD (aB 0) "stacks") (aB 1) a8Z)))
def nP (K:Fg) (A:bT) (ex:aW→bK):bU :=
    aZ (dD (bA (cC K A) ex (aA (rW A.aD (aB 0) "layout") (aA (aB 1) aH)))) (a5A K A ex)
def pB (K:Fg) (A:bT):Sp3:=spD 2 2 fun EX=>nP K A (fun _=>EX)
def lD:CB:=(.cons (.expr (.call 1 (.cons (.fld 0 (.var 0)) (.cons (.var 1) .nil)))) (.cons (.ret (.sortI 2 (.dgt (.fld 3 (.var 0)) (.var 1) .dct))) .nil))
def vA (K:Fg) (A:bT):SI:=⟨["self", "spot"],[true,true],[true,true],[false,false],[("Shelves.layout",.fl A.aD "layout"),("need_bin",.fn (cC K A) 2 false),("sorted",.bf .anZ),("Shelves.stacks",.fl A.aD "stacks")],[false,true,true,false],true⟩
def u0 (K:Fg) (A:bT) (ex:aW→bK):bU :=
    (dR (avW (ak4 (uT a09 (aA (rW A.aD (aB 0) "stacks") aH))) (bJ (aO asL (aB 2) (aO a6E (rW A.aD (aB 1) "stacks") (aB 0)))) (pZ (aA (aB 0) (aA (aO a6E (aO a6E (rW A.aD (aB 1) "stacks") (aB 0)) (aB 2)) aH)))))
def eV (K:Fg) (A:bT) (ex:aW→bK):bU :=
    aZ (dD (bA (dI K A) ex (aA (aB 1) (aA (aY (.int 1000)) aH)))) (u0 K A ex)
def iQ (K:Fg) (A:bT):Sp3:=spD 2 2 fun EX=>eV K A (fun _=>EX)
def gM:CB:=(.cons (.expr (.call 1 (.cons (.var 1) (.cons (.glo 0) .nil)))) (.cons (.ret (.comp [true,true] [false,false,false,false] (.any (.call 3 (.cons (.fld 2 (.var 0)) .nil))) (.some (.din false (.var 2) (.dix (.fld 2 (.var 1)) (.var 0)))) (.tup (.cons (.var 0) (.cons (.dix (.dix (.fld 2 (.var 1)) (.var 0)) (.var 2)) .nil))))) .nil))
def rO (K:Fg) (A:bT):SI:=⟨["self", "lot"],[true,true],[false,false],[true,true],[("MOST_LOTS",.con (.int 1000)),("need_lot",.fn (dI K A) 2 false),("Shelves.stacks",.fl A.aD "stacks"),("sorted",.bf .asW)],[true,true,false,true],true⟩
def lV (K:Fg) (A:bT) (ex:aW→bK):bU :=
    (dR (bA (a9A K A) ex (aA (rW A.aD (aB 0) "stacks") aH)))
def nQ (K:Fg) (A:bT):Sp3:=spD 1 1 fun EX=>lV K A (fun _=>EX)
def j6:CB:=(.cons (.ret (.call 1 (.cons (.fld 0 (.var 0)) .nil))) .nil)
def tH (K:Fg) (A:bT):SI:=⟨["self"],[true],[true],[false],[("Shelves.stacks",.fl A.aD "stacks"),("in_order",.fn (a9A K A) 1 false)],[false,true],true⟩
def a5B (K:Fg) (A:bT) (ex:aW→bK):bU :=
    (dR (aO oZ (aO rT (aO abM (aB 2) (aB 2)) (aO abM (aY (.int 48271)) (aB 1))) (aY (.int 2147483629))))
def a5C (K:Fg) (A:bT) (ex:aW→bK):bU :=
    aZ (p8 2 (aO oZ (aO rT (aO abM (aO nD (aB 0) (aO oZ (aB 1) (uT a8X (aA (aB 0) aH)))) (aY (.int 48271))) (aO abM (aB 1) (aY (.int 104729)))) (aY (.int 2147483647)))) (a5B K A ex)
def a5D (K:Fg) (A:bT) (ex:aW→bK):bU :=
    aZ (jF (bJ (aO wF (aB 0) (nC aH))) (dR (aY (.int 0))) dB) (a5C K A ex)
def vB (K:Fg) (A:bT) (ex:aW→bK):bU :=
    aZ (jF (bJ (aO aBX (aB 1) (uT a8X (aA (aB 0) aH)))) (dR (aO nD (aB 0) (aB 1))) dB) (a5D K A ex)
def d9 (K:Fg) (A:bT):Sp3:=spD 3 2 fun EX=>vB K A (fun _=>EX)
def lE:CB:=(.cons (.ifs (.cmp .Lt (.var 1) (.call 0 (.cons (.var 0) .nil))) (.cons (.ret (.ix (.var 0) (.var 1))) .nil) .nil) (.cons (.ifs (.cmp .Eq (.var 0) (.lst .nil)) (.cons (.ret (.con (.int 0))) .nil) .nil) (.cons (.set 2 (.bin .Mod (.bin .Add (.bin .Mult (.ix (.var 0) (.bin .Mod (.var 1) (.call 0 (.cons (.var 0) .nil)))) (.con (.int 48271))) (.bin .Mult (.var 1) (.con (.int 104729)))) (.con (.int 2147483647)))) (.cons (.ret (.bin .Mod (.bin .Add (.bin .Mult (.var 2) (.var 2)) (.bin .Mult (.con (.int 48271)) (.var 1))) (.con (.int 2147483629)))) .nil))))
def vC (K:Fg) (A:bT):SI:=⟨["_law_script", "_law_k", "_law_mixed"],[true,true,true],[true,true,true],[false,false,false],[("len",.bf .len)],[true],true⟩
def abP (K:Fg) (A:bT) (ex:aW→bK):bU :=
    (dR (pZ (aA (aB 4) (aA (aB 5) (aA (aO rT (aY (.int 1)) (aO oZ (aO uW (aB 2) (aY (.int 104))) (aY (.int 20)))) aH)))))
def abQ (K:Fg) (A:bT) (ex:aW→bK):bU :=
    aZ (p8 5 (aO nD (nC (aA (aO rT (aY (.int 1)) (aO oZ (aB 3) (aY (.int 6)))) (aA (aO rT (aY (.int 1)) (aO oZ (aB 3) (aY (.int 99)))) aH))) (uT ak1 (aA (aO wF (aO oZ (aO uW (aB 3) (aY (.int 99))) (aY (.int 4))) (aY (.int 1))) aH)))) (abP K A ex)
def abR (K:Fg) (A:bT) (ex:aW→bK):bU :=
    aZ (p8 4 (aO nD (nC (aA (aO rT (aY (.int 1)) (aO oZ (aB 2) (aY (.int 4)))) (aA (aO rT (aY (.int 1)) (aO oZ (aB 2) (aY (.int 26)))) aH))) (uT ak1 (aA (aO wF (aO oZ (aO uW (aB 2) (aY (.int 26))) (aY (.int 4))) (aY (.int 1))) aH)))) (abQ K A ex)
def abS (K:Fg) (A:bT) (ex:aW→bK):bU :=
    aZ (p8 3 (bA (d9 K A) ex (aA (aB 0) (aA (aO rT (aB 1) (aY (.int 1))) aH)))) (abR K A ex)
def a2R (K:Fg) (A:bT) (ex:aW→bK):bU :=
    aZ (p8 2 (bA (d9 K A) ex (aA (aB 0) (aA (aB 1) aH)))) (abS K A ex)
def a0C (K:Fg) (A:bT):Sp3:=spD 6 2 fun EX=>a2R K A (fun _=>EX)
def qQ:CB:=(.cons (.set 2 (.call 0 (.cons (.var 0) (.cons (.var 1) .nil)))) (.cons (.set 3 (.call 0 (.cons (.var 0) (.cons (.bin .Add (.var 1) (.con (.int 1))) .nil)))) (.cons (.set 4 (.ix (.lst (.cons (.bin .Add (.con (.int 1)) (.bin .Mod (.var 2) (.con (.int 4)))) (.cons (.bin .Add (.con (.int 1)) (.bin .Mod (.var 2) (.con (.int 26)))) .nil))) (.call 1 (.cons (.cmp .Eq (.bin .Mod (.bin .FloorDiv (.var 2) (.con (.int 26))) (.con (.int 4))) (.con (.int 1))) .nil)))) (.cons (.set 5 (.ix (.lst (.cons (.bin .Add (.con (.int 1)) (.bin .Mod (.var 3) (.con (.int 6)))) (.cons (.bin .Add (.con (.int 1)) (.bin .Mod (.var 3) (.con (.int 99)))) .nil))) (.call 1 (.cons (.cmp .Eq (.bin .Mod (.bin .FloorDiv (.var 3) (.con (.int 99))) (.con (.int 4))) (.con (.int 1))) .nil)))) (.cons (.ret (.tup (.cons (.var 4) (.cons (.var 5) (.cons (.bin .Add (.con (.int 1)) (.bin .Mod (.bin .FloorDiv (.var 2) (.con (.int 104))) (.con (.int 20)))) .nil))))) .nil)))))
def a2S (K:Fg) (A:bT):SI:=⟨["_law_script", "_law_k", "_law_cell", "_law_other", "_law_aisles", "_law_places"],[true,true,true,true,true,true],[true,true,true,true,true,true],[false,false,false,false,false,false],[("_law_cell_at",.fn (d9 K A) 2 false),("int",.bt "int")],[true,true],true⟩
def a7W (K:Fg) (A:bT) (ex:aW→bK):bU :=
    (dR (pZ (aA (aY (.str "refused")) (aA (tM3 "list" a4V (aB 1) (aA (aY (.bl true)) aH)) aH))))
def a7X (K:Fg) (A:bT) (ex:aW→bK):bU :=
    aZ (jF (ajY (a7S (bJ (uT (aG K) (aA (aB 0) (aA (aY (.ty "ValueError")) aH))))) (bJ (aO afR (uT a8X (aA (avW (ak4 (aB 1)) (bJ (aB 0)) (aB 0)) aH)) (aY (.int 1))))) (dR (pZ (aA (aY (.str "other")) (aA (aY (.int 7)) aH)))) dB) (a7W K A ex)
def a7Y (K:Fg) (A:bT) (ex:aW→bK):bU :=
    aZ (p8 1 (aO rT (aB 1) (nC (aA (uT (aG K) (aA (aB 0) (aA (aY (.ref A.aP)) aH))) (aA (uT (aG K) (aA (aB 0) (aA (aY (.ref A.bO)) aH))) aH))))) (a7X K A ex)
def xT (K:Fg) (A:bT) (ex:aW→bK):bU :=
    aZ (p8 1 (nC (aA (uT (aG K) (aA (aB 0) (aA (aY (.ref A.bR)) aH))) (aA (uT (aG K) (aA (aB 0) (aA (aY (.ref A.cL)) aH))) (aA (uT (aG K) (aA (aB 0) (aA (aY (.ref A.cJ)) aH))) (aA (uT (aG K) (aA (aB 0) (aA (aY (.ref A.aV)) aH))) aH)))))) (a7Y K A ex)
def d7 (K:Fg) (A:bT):Sp3:=spD 2 1 fun EX=>xT K A (fun _=>EX)
def mY:CB:=(.cons (.set 1 (.lst (.cons (.call 1 (.cons (.var 0) (.cons (.glo 0) .nil))) (.cons (.call 1 (.cons (.var 0) (.cons (.glo 2) .nil))) (.cons (.call 1 (.cons (.var 0) (.cons (.glo 3) .nil))) (.cons (.call 1 (.cons (.var 0) (.cons (.glo 4) .nil))) .nil)))))) (.cons (.set 1 (.bin .Add (.var 1) (.lst (.cons (.call 1 (.cons (.var 0) (.cons (.glo 5) .nil))) (.cons (.call 1 (.cons (.var 0) (.cons (.glo 6) .nil))) .nil))))) (.cons (.ifs (.or (.cons (.not (.val (.call 1 (.cons (.var 0) (.cons (.glo 7) .nil))))) (.cons (.cmp .NotEq (.call 8 (.cons (.comp [false,false] [false,false,false,false,false,false,false,false,false] (.any (.var 1)) (.some (.val (.var 0))) (.var 0)) .nil)) (.con (.int 1))) .nil))) (.cons (.ret (.tup (.cons (.con (.str "other")) (.cons (.con (.int 7)) .nil)))) .nil) .nil) (.cons (.ret (.tup (.cons (.con (.str "refused")) (.cons (.meth .ag0 (.var 1) (.cons (.con (.bl true)) .nil)) .nil)))) .nil))))
def xU (K:Fg) (A:bT):SI:=⟨["_law_e", "_law_marks"],[true,true],[true,true],[false,false],[("NoPlan",.cls A.bR),("isinstance",.bf .isi),("NoLot",.cls A.cL),("NoBin",.cls A.cJ),("NoAmount",.cls A.aV),("TooLittle",.cls A.aP),("NoRoom",.cls A.bO),("ValueError",.bt "ValueError"),("len",.bf .len)],[true,true,true,true,true,true,true,true,true],false⟩
def adZ (K:Fg) (A:bT) (ex:aW→bK):bU :=
    (dR (aO nD (aB 3) (aO oZ (aB 1) (aY (.int 8)))))
def a6U (K:Fg) (A:bT) (ex:aW→bK):bU :=
    aZ (p8 3 (nC (aA (pZ (aA (aO nD (aB 2) (aY (.int 0))) (aA (aY (.int 1)) aH))) (aA (pZ (aA (aY (.int 0)) (aA (aY (.int 0)) aH))) (aA (pZ (aA (aY (.int 0)) (aA (aO rT (aO nD (aB 2) (aY (.int 1))) (aY (.int 1))) aH))) (aA (pZ (aA (ahA (aY (.int 1))) (aA (aY (.int 1)) aH))) (aA (aY .non) (aA (pZ (aA (aY (.int 0)) (aA (aY (.int 1)) (aA (aY (.int 1)) aH)))) (aA (nC (aA (aY (.int 0)) (aA (aY (.int 1)) aH))) (aA (pZ (aA (aY (.bl true)) (aA (aY (.int 1)) aH))) aH)))))))))) (adZ K A ex)
def a0D (K:Fg) (A:bT) (ex:aW→bK):bU :=
    aZ (jF (bJ (aO wF (aB 0) (aY (.int 3)))) (dR (aO nD (nC (aA (aY (.int 0)) (aA (ahA (aY (.int 1))) (aA (aO rT (aO ah9 (aY (.int 10)) (aY (.int 6))) (aY (.int 1))) (aA (aY (.bl true)) (aA (aY .non) (aA (aY (.str "1")) (aA (aO ah9 (aY (.int 10)) (aY (.int 12))) (aA (nC (aA (aY (.int 1)) aH)) aH))))))))) (aO oZ (aB 1) (aY (.int 8))))) dB) (a6U K A ex)
def mZ (K:Fg) (A:bT) (ex:aW→bK):bU :=
    aZ (jF (bJ (aO wF (aB 0) (aY (.int 0)))) (dR (aO nD (nC (aA (ahA (aY (.int 1))) (aA (aY (.int 1000)) (aA (aY (.bl true)) (aA (aY .non) (aA (aY (.str "1")) (aA (aO ah9 (aY (.int 10)) (aY (.int 9))) (aA (pZ (aA (aY (.int 1)) aH)) (aA (aY (.bl false)) (aA (nC (aA (aY (.int 1)) aH)) (aA a8Z aH))))))))))) (aO oZ (aB 1) (aY (.int 10))))) dB) (a0D K A ex)
def yK (K:Fg) (A:bT):Sp3:=spD 4 3 fun EX=>mZ K A (fun _=>EX)
def u5:CB:=(.cons (.ifs (.cmp .Eq (.var 0) (.con (.int 0))) (.cons (.ret (.ix (.lst (.cons (.neg (.con (.int 1))) (.cons (.con (.int 1000)) (.cons (.con (.bl true)) (.cons (.con .non) (.cons (.con (.str "1")) (.cons (.bin .Pow (.con (.int 10)) (.con (.int 9))) (.cons (.tup (.cons (.con (.int 1)) .nil)) (.cons (.con (.bl false)) (.cons (.lst (.cons (.con (.int 1)) .nil)) (.cons .dct .nil))))))))))) (.bin .Mod (.var 1) (.con (.int 10))))) .nil) .nil) (.cons (.ifs (.cmp .Eq (.var 0) (.con (.int 3))) (.cons (.ret (.ix (.lst (.cons (.con (.int 0)) (.cons (.neg (.con (.int 1))) (.cons (.bin .Add (.bin .Pow (.con (.int 10)) (.con (.int 6))) (.con (.int 1))) (.cons (.con (.bl true)) (.cons (.con .non) (.cons (.con (.str "1")) (.cons (.bin .Pow (.con (.int 10)) (.con (.int 12))) (.cons (.lst (.cons (.con (.int 1)) .nil)) .nil))))))))) (.bin .Mod (.var 1) (.con (.int 8))))) .nil) .nil) (.cons (.set 3 (.lst (.cons (.tup (.cons (.ix (.var 2) (.con (.int 0))) (.cons (.con (.int 1)) .nil))) (.cons (.tup (.cons (.con (.int 0)) (.cons (.con (.int 0)) .nil))) (.cons (.tup (.cons (.con (.int 0)) (.cons (.bin .Add (.ix (.var 2) (.con (.int 1))) (.con (.int 1))) .nil))) (.cons (.tup (.cons (.neg (.con (.int 1))) (.cons (.con (.int 1)) .nil))) (.cons (.con .non) (.cons (.tup (.cons (.con (.int 0)) (.cons (.con (.int 1)) (.cons (.con (.int 1)) .nil)))) (.cons (.lst (.cons (.con (.int 0)) (.cons (.con (.int 1)) .nil))) (.cons (.tup (.cons (.con (.bl true)) (.cons (.con (.int 1)) .nil))) .nil)))))))))) (.cons (.ret (.ix (.var 3) (.bin .Mod (.var 1) (.con (.int 8))))) .nil))))
def a6V (K:Fg) (A:bT):SI:=⟨["_law_kind", "_law_cell", "_law_plan_here", "_law_odd"],[true,true,true,true],[true,true,true,true],[false,false,false,false],[],[],true⟩
def a9B (K:Fg) (A:bT) (ex:aW→bK):bU :=
    (dR (jV A.aD "places" (iQ K A) [] ex (aB 0) (aA (aB 2) aH)))
def a1C (K:Fg) (A:bT) (ex:aW→bK):bU :=
    aZ (jF (bJ (aO wF (aB 1) (aY (.int 5)))) (dR (jV A.aD "filled" (fK K A) [] ex (aB 0) (aA (aB 3) aH))) dB) (a9B K A ex)
def vD (K:Fg) (A:bT) (ex:aW→bK):bU :=
    aZ (jF (bJ (aO wF (aB 1) (aY (.int 4)))) (dR (jV A.aD "held" (pB K A) [] ex (aB 0) (aA (aB 3) aH))) dB) (a1C K A ex)
def qR (K:Fg) (A:bT) (ex:aW→bK):bU :=
    aZ (jF (bJ (aO wF (aB 1) (aY (.int 3)))) (dR (jV A.aD "amount" (cA K A) [] ex (aB 0) (aA (aB 2) (aA (aB 3) aH)))) dB) (vD K A ex)
def nR (K:Fg) (A:bT) (ex:aW→bK):bU :=
    aZ (jF (bJ (aO wF (aB 1) (aY (.int 2)))) (dR (jV A.aD "shift" (gK K A) [] ex (aB 0) (aA (aB 2) (aA (aB 3) (aA (aB 4) (aA (aB 5) aH)))))) dB) (qR K A ex)
def lF (K:Fg) (A:bT) (ex:aW→bK):bU :=
    aZ (jF (bJ (aO wF (aB 1) (aY (.int 1)))) (dR (jV A.aD "take" (fW K A) [] ex (aB 0) (aA (aB 2) (aA (aB 3) (aA (aB 5) aH))))) dB) (nR K A ex)
def bV (K:Fg) (A:bT) (ex:aW→bK):bU :=
    aZ (jF (bJ (aO wF (aB 1) (aY (.int 0)))) (dR (jV A.aD "put" (dY K A) [] ex (aB 0) (aA (aB 2) (aA (aB 3) (aA (aB 5) aH))))) dB) (lF K A ex)
def xV (K:Fg) (A:bT):Sp3:=spD 6 6 fun EX=>bV K A (fun _=>EX)
def oU:CB:=(.cons (.ifs (.cmp .Eq (.var 1) (.con (.int 0))) (.cons (.ret (.rY 0 (.var 0) (.cons (.var 2) (.cons (.var 3) (.cons (.var 5) .nil))))) .nil) .nil) (.cons (.ifs (.cmp .Eq (.var 1) (.con (.int 1))) (.cons (.ret (.rY 1 (.var 0) (.cons (.var 2) (.cons (.var 3) (.cons (.var 5) .nil))))) .nil) .nil) (.cons (.ifs (.cmp .Eq (.var 1) (.con (.int 2))) (.cons (.ret (.rY 2 (.var 0) (.cons (.var 2) (.cons (.var 3) (.cons (.var 4) (.cons (.var 5) .nil)))))) .nil) .nil) (.cons (.ifs (.cmp .Eq (.var 1) (.con (.int 3))) (.cons (.ret (.rY 3 (.var 0) (.cons (.var 2) (.cons (.var 3) .nil)))) .nil) .nil) (.cons (.ifs (.cmp .Eq (.var 1) (.con (.int 4))) (.cons (.ret (.rY 4 (.var 0) (.cons (.var 3) .nil))) .nil) .nil) (.cons (.ifs (.cmp .Eq (.var 1) (.con (.int 5))) (.cons (.ret (.rY 5 (.var 0) (.cons (.var 3) .nil))) .nil) .nil) (.cons (.ret (.rY 6 (.var 0) (.cons (.var 2) .nil))) .nil)))))))
def a0E (K:Fg) (A:bT):SI:=⟨["_law_shelves", "_law_way", "_law_lot", "_law_one", "_law_other", "_law_amount"],[true,true,true,true,true,true],[true,true,true,true,true,true],[false,false,false,false,false,false],[("Shelves.put#3",.me A.aD "put" (dY K A) []),("Shelves.take#3",.me A.aD "take" (fW K A) []),("Shelves.shift#4",.me A.aD "shift" (gK K A) []),("Shelves.amount#2",.me A.aD "amount" (cA K A) []),("Shelves.held#1",.me A.aD "held" (pB K A) []),("Shelves.filled#1",.me A.aD "filled" (fK K A) []),("Shelves.places#1",.me A.aD "places" (iQ K A) [])],[false,false,false,false,false,false,false],true⟩
def amV (K:Fg) (A:bT) (ex:aW→bK):bU :=
    (dR (aY .non))
def a2T (K:Fg) (A:bT) (ex:aW→bK):bU :=
    aZ (anL K A.aK 3 (fun EX2=>(dD (bA (xV K A) EX2 (aA (aB 0) (aA (aB 1) (aA (aO nD (aB 2) (aY (.int 0))) (aA (aO nD (aB 2) (aY (.int 1))) (aA (aO nD (aB 2) (aY (.int 2))) (aA (aO nD (aB 2) (aY (.int 3))) aH))))))))) (dR (bA (d7 K A) NoX (aA (aB 3) aH)))) (amV K A ex)
def a0F (K:Fg) (A:bT):Sp3:=spD 4 3 fun EX=>a2T K A (fun _=>EX)
def qT:CB:=(.cons (.aDK 0 3 (.cons (.expr (.call 1 (.cons (.var 0) (.cons (.var 1) (.cons (.ix (.var 2) (.con (.int 0))) (.cons (.ix (.var 2) (.con (.int 1))) (.cons (.ix (.var 2) (.con (.int 2))) (.cons (.ix (.var 2) (.con (.int 3))) .nil)))))))) .nil) (.cons (.ret (.call 2 (.cons (.var 3) .nil))) .nil)) (.cons (.ret (.con .non)) .nil))
def a2U (K:Fg) (A:bT):SI:=⟨["_law_shelves", "_law_way", "_law_things", "_law_e"],[true,true,true,true],[true,true,true,true],[false,false,false,false],[("DepotError",.cls A.aK),("_law_asked",.fn (xV K A) 6 false),("_law_raised",.fn (d7 K A) 1 true)],[true,true,true],true⟩
def abT (K:Fg) (A:bT) (ex:aW→bK):bU :=
    (jF (bJ (aO nD (aB 1) (aB 3))) (dR (pZ (aA (aY (.str "refused")) (aA (aO nD (nC (aA (aY (.int 1)) (aA (aY (.int 2)) (aA (aY (.int 2)) (aA (aY (.int 3)) aH))))) (aB 3)) aH)))) dB)
def ae0 (K:Fg) (A:bT) (ex:aW→bK):bU :=
    (dR (aY .non))
def a6W (K:Fg) (A:bT) (ex:aW→bK):bU :=
    aZ (ac7 (aCL (aB 2)) (ac6 3) (abT K A ex)) (ae0 K A ex)
def a6X (K:Fg) (A:bT) (ex:aW→bK):bU :=
    aZ (p8 2 (aO nD (nC (aA (nC (aA (aY (.int 0)) (aA (aY (.int 1)) (aA (aY (.int 3)) aH)))) (aA (nC (aA (aY (.int 0)) (aA (aY (.int 1)) (aA (aY (.int 3)) aH)))) (aA (nC (aA (aY (.int 0)) (aA (aY (.int 1)) (aA (aY (.int 2)) (aA (aY (.int 3)) aH))))) (aA (nC (aA (aY (.int 0)) (aA (aY (.int 1)) aH))) (aA (nC (aA (aY (.int 1)) aH)) (aA (nC (aA (aY (.int 1)) aH)) (aA (nC (aA (aY (.int 0)) aH)) aH)))))))) (aB 0))) (a6W K A ex)
def a2V (K:Fg) (A:bT):Sp3:=spD 4 2 fun EX=>a6X K A (fun _=>EX)
def u6:CB:=(.cons (.set 2 (.ix (.lst (.cons (.lst (.cons (.con (.int 0)) (.cons (.con (.int 1)) (.cons (.con (.int 3)) .nil)))) (.cons (.lst (.cons (.con (.int 0)) (.cons (.con (.int 1)) (.cons (.con (.int 3)) .nil)))) (.cons (.lst (.cons (.con (.int 0)) (.cons (.con (.int 1)) (.cons (.con (.int 2)) (.cons (.con (.int 3)) .nil))))) (.cons (.lst (.cons (.con (.int 0)) (.cons (.con (.int 1)) .nil))) (.cons (.lst (.cons (.con (.int 1)) .nil)) (.cons (.lst (.cons (.con (.int 1)) .nil)) (.cons (.lst (.cons (.con (.int 0)) .nil)) .nil)))))))) (.var 0))) (.cons (.aw3 (.any (.var 2)) (.nm 3) (.cons (.ifs (.val (.ix (.var 1) (.var 3))) (.cons (.ret (.tup (.cons (.con (.str "refused")) (.cons (.ix (.lst (.cons (.con (.int 1)) (.cons (.con (.int 2)) (.cons (.con (.int 2)) (.cons (.con (.int 3)) .nil))))) (.var 3)) .nil)))) .nil) .nil) .nil)) (.cons (.ret (.con .non)) .nil)))
def a6Y (K:Fg) (A:bT):SI:=⟨["_law_way", "_law_bad_here", "_law_wanted", "_law_kind"],[true,true,true,true],[true,true,true,true],[false,false,false,false],[],[],true⟩
def amW (K:Fg) (A:bT) (ex:aW→bK):bU :=
    (dR (aY .non))
def uL (K:Fg) (A:bT) (ex:aW→bK):bU :=
    aZ (anL K A.aK 2 (fun EX2=>(dD (afW A.aD (fP K A) [] EX2 (aA (aB 0) (aA (aB 1) aH))))) (dR (bA (d7 K A) NoX (aA (aB 2) aH)))) (amW K A ex)
def rP (K:Fg) (A:bT):Sp3:=spD 3 2 fun EX=>uL K A (fun _=>EX)
def qU:CB:=(.cons (.aDK 0 2 (.cons (.expr (.call 1 (.cons (.var 0) (.cons (.var 1) .nil)))) .nil) (.cons (.ret (.call 2 (.cons (.var 2) .nil))) .nil)) (.cons (.ret (.con .non)) .nil))
def a2W (K:Fg) (A:bT):SI:=⟨["_law_plan_here", "_law_room", "_law_e"],[true,true,true],[true,true,true],[false,false,false],[("DepotError",.cls A.aK),("Shelves",.kl A.aD (fP K A) []),("_law_raised",.fn (d7 K A) 1 true)],[true,true,true],true⟩
def ahK (K:Fg) (A:bT) (ex:aW→bK):bU :=
    (jF (bJ (aO nD (aB 10) (aB 12))) (ap7 (aB 11) (aB 12) (bA (yK K A) ex (aA (aB 12) (aA (aO rT (aO uW (aB 8) (aY (.int 1134))) (aO abM (aY (.int 3)) (aB 12))) (aA (aB 1) aH))))) dB)
def akO (K:Fg) (A:bT) (ex:aW→bK):bU :=
    (jF (ajY (bJ (aO afR (bA (a0F K A) ex (aA (aB 5) (aA (aB 9) (aA (aB 11) aH)))) (aB 13))) (bJ (aO (anY true) (jV A.aD "lying" (nQ K A) [] ex (aB 5) aH) (akE true (aB 6) (akE false (aY (.int 5)) (aB 2)))))) (dR (aY (.bl false))) dB)
def acI (K:Fg) (A:bT) (ex:aW→bK):bU :=
    aZ (jF (bJ (aO arU (aB 13) (aY .non))) ap6 dB) (akO K A ex)
def acJ (K:Fg) (A:bT) (ex:aW→bK):bU :=
    aZ (p8 13 (bA (a2V K A) ex (aA (aB 9) (aA (aB 10) aH)))) (acI K A ex)
def acK (K:Fg) (A:bT) (ex:aW→bK):bU :=
    aZ (ac7 (ac4 (aA (aY (.int 4)) aH)) (ac6 12) (ahK K A ex)) (acJ K A ex)
def akP (K:Fg) (A:bT) (ex:aW→bK):bU :=
    aZ (p8 11 (nC (aA (aY (.int 5)) (aA (aB 6) (aA (aB 6) (aA (aO nD (nC (aA (aY (.int 1)) (aA (aO ah9 (aY (.int 10)) (aY (.int 6))) aH))) (aO oZ (aO uW (aB 8) (aY (.int 567))) (aY (.int 2)))) aH)))))) (acK K A ex)
def akQ (K:Fg) (A:bT) (ex:aW→bK):bU :=
    aZ (p8 10 (nC (aA (aO wF (aO oZ (aO uW (aB 8) (aY (.int 7))) (aY (.int 3))) (aY (.int 1))) (aA (aO wF (aO oZ (aO uW (aB 8) (aY (.int 21))) (aY (.int 3))) (aY (.int 1))) (aA (aO wF (aO oZ (aO uW (aB 8) (aY (.int 63))) (aY (.int 3))) (aY (.int 1))) (aA (aO wF (aO oZ (aO uW (aB 8) (aY (.int 189))) (aY (.int 3))) (aY (.int 1))) aH)))))) (akP K A ex)
def akR (K:Fg) (A:bT) (ex:aW→bK):bU :=
    aZ (p8 9 (aO oZ (aB 8) (aY (.int 7)))) (akQ K A ex)
def akS (K:Fg) (A:bT) (ex:aW→bK):bU :=
    aZ (p8 8 (bA (d9 K A) ex (aA (aB 0) (aA (aO rT (aY (.int 4)) (aB 7)) aH)))) (akR K A ex)
def atQ (K:Fg) (A:bT) (ex:aW→bK):bU :=
    (dR (a8U (aO arU (jV A.aD "shift" (gK K A) [] ex (aB 5) (aA (aY (.int 0)) (aA (pZ (aA (aY (.int 0)) (aA (aY (.int 1)) aH))) (aA (aB 6) (aA (aY (.int 1)) aH))))) (aY .non)) (aO wF (jV A.aD "amount" (cA K A) [] ex (aB 5) (aA (aY (.int 0)) (aA (aB 6) aH))) (aO nD (nC (aA (aY (.int 1)) (aA (aB 2) aH))) (uT ak1 (aA (aO wF (aB 6) (pZ (aA (aY (.int 0)) (aA (aY (.int 1)) aH)))) aH))))))
def atR (K:Fg) (A:bT) (ex:aW→bK):bU :=
    aZ (jF (ajY (bJ (aO afO (jV A.aD "take" (fW K A) [] ex (aB 5) (aA (aY (.int 5)) (aA (aB 6) (aA (aB 2) aH)))) (aY .non))) (bJ (aO afO (jV A.aD "put" (dY K A) [] ex (aB 5) (aA (aY (.int 0)) (aA (pZ (aA (aY (.int 0)) (aA (aY (.int 1)) aH))) (aA (aB 2) aH)))) (aY .non)))) (dR (aY (.bl false))) dB) (atQ K A ex)
def aq9 (K:Fg) (A:bT) (ex:aW→bK):bU :=
    aZ (ac7 (ac4 (aA (aY (.int 8)) aH)) (ac6 7) (akS K A ex)) (atR K A ex)
def aqA (K:Fg) (A:bT) (ex:aW→bK):bU :=
    aZ (dD (jV A.aD "put" (dY K A) [] ex (aB 5) (aA (aY (.int 5)) (aA (aB 6) (aA (aB 2) aH))))) (aq9 K A ex)
def ayP (K:Fg) (A:bT) (ex:aW→bK):bU :=
    aZ (p8 6 (pZ (aA (aO anJ (aO nD (aB 1) (aY (.int 0))) (aY (.int 1))) (aA (aO nD (aB 1) (aY (.int 1))) aH)))) (aqA K A ex)
def ayQ (K:Fg) (A:bT) (ex:aW→bK):bU :=
    aZ (p8 5 (afW A.aD (fP K A) [] ex (aA (aB 1) (aA (aB 2) aH)))) (ayP K A ex)
def aqB (K:Fg) (A:bT) (ex:aW→bK):bU :=
    aZ (jF (ajY (bJ (aO afR (bA (rP K A) ex (aA (aB 3) (aA (aB 4) aH))) (pZ (aA (aY (.str "refused")) (aA (aY (.int 0)) aH))))) (bJ (aO afR (bA (rP K A) ex (aA (aB 1) (aA (aB 4) aH))) (pZ (aA (aY (.str "refused")) (aA (aY (.int 3)) aH)))))) (dR (aY (.bl false))) dB) (ayQ K A ex)
def ayR (K:Fg) (A:bT) (ex:aW→bK):bU :=
    aZ (p8 4 (bA (yK K A) ex (aA (aY (.int 3)) (aA (bA (d9 K A) ex (aA (aB 0) (aA (aY (.int 3)) aH))) (aA (aB 1) aH))))) (aqB K A ex)
def ayS (K:Fg) (A:bT) (ex:aW→bK):bU :=
    aZ (p8 3 (aO nD (nC (aA (aY .non) (aA (pZ (aA (aY (.int 0)) (aA (aY (.int 1)) (aA (aY (.int 1)) aH)))) (aA (ajK (aB 1) adK (ap5 (aY (.int 2)))) (aA (uT apB (aA (aB 1) aH)) (aA (pZ (aA (aO nD (aB 1) (aY (.int 0))) (aA (aY (.int 100)) (aA (aY (.int 1)) aH)))) aH)))))) (aO oZ (aO uW (bA (d9 K A) ex (aA (aB 0) (aA (aY (.int 2)) aH))) (aY (.int 50))) (aY (.int 5))))) (ayR K A ex)
def ayT (K:Fg) (A:bT) (ex:aW→bK):bU :=
    aZ (p8 2 (aO rT (aY (.int 1)) (aO oZ (bA (d9 K A) ex (aA (aB 0) (aA (aY (.int 2)) aH))) (aY (.int 50))))) (ayS K A ex)
def ayU (K:Fg) (A:bT) (ex:aW→bK):bU :=
    aZ (p8 1 (bA (a0C K A) ex (aA (aB 0) (aA (aY (.int 0)) aH)))) (ayT K A ex)
def aqC (K:Fg) (A:bT):Sp3:=spD 14 1 fun EX=>ayU K A (fun _=>EX)
def akT:CB:=(.cons (.set 1 (.call 0 (.cons (.var 0) (.cons (.con (.int 0)) .nil)))) (.cons (.set 2 (.bin .Add (.con (.int 1)) (.bin .Mod (.call 1 (.cons (.var 0) (.cons (.con (.int 2)) .nil))) (.con (.int 50))))) (.cons (.set 3 (.ix (.lst (.cons (.con .non) (.cons (.tup (.cons (.con (.int 0)) (.cons (.con (.int 1)) (.cons (.con (.int 1)) .nil)))) (.cons (.sl (.var 1) .none (.some (.con (.int 2)))) (.cons (.call 2 (.cons (.var 1) .nil)) (.cons (.tup (.cons (.ix (.var 1) (.con (.int 0))) (.cons (.con (.int 100)) (.cons (.con (.int 1)) .nil)))) .nil)))))) (.bin .Mod (.bin .FloorDiv (.call 1 (.cons (.var 0) (.cons (.con (.int 2)) .nil))) (.con (.int 50))) (.con (.int 5))))) (.cons (.set 4 (.call 3 (.cons (.con (.int 3)) (.cons (.call 1 (.cons (.var 0) (.cons (.con (.int 3)) .nil))) (.cons (.var 1) .nil))))) (.cons (.ifs (.or (.cons (.cmp .NotEq (.call 4 (.cons (.var 3) (.cons (.var 4) .nil))) (.tup (.cons (.con (.str "refused")) (.cons (.con (.int 0)) .nil)))) (.cons (.cmp .NotEq (.call 4 (.cons (.var 1) (.cons (.var 4) .nil))) (.tup (.cons (.con (.str "refused")) (.cons (.con (.int 3)) .nil)))) .nil))) (.cons (.ret (.con (.bl false))) .nil) .nil) (.cons (.set 5 (.call 5 (.cons (.var 1) (.cons (.var 2) .nil)))) (.cons (.set 6 (.tup (.cons (.bin .Sub (.ix (.var 1) (.con (.int 0))) (.con (.int 1))) (.cons (.ix (.var 1) (.con (.int 1))) .nil)))) (.cons (.expr (.rY 6 (.var 5) (.cons (.con (.int 5)) (.cons (.var 6) (.cons (.var 2) .nil))))) (.cons (.aw3 (.aw0 (.con (.int 8))) (.nm 7) (.cons (.set 8 (.call 1 (.cons (.var 0) (.cons (.bin .Add (.con (.int 4)) (.var 7)) .nil)))) (.cons (.set 9 (.bin .Mod (.var 8) (.con (.int 7)))) (.cons (.set 10 (.lst (.cons (.cmp .Eq (.bin .Mod (.bin .FloorDiv (.var 8) (.con (.int 7))) (.con (.int 3))) (.con (.int 1))) (.cons (.cmp .Eq (.bin .Mod (.bin .FloorDiv (.var 8) (.con (.int 21))) (.con (.int 3))) (.con (.int 1))) (.cons (.cmp .Eq (.bin .Mod (.bin .FloorDiv (.var 8) (.con (.int 63))) (.con (.int 3))) (.con (.int 1))) (.cons (.cmp .Eq (.bin .Mod (.bin .FloorDiv (.var 8) (.con (.int 189))) (.con (.int 3))) (.con (.int 1))) .nil)))))) (.cons (.set 11 (.lst (.cons (.con (.int 5)) (.cons (.var 6) (.cons (.var 6) (.cons (.ix (.lst (.cons (.con (.int 1)) (.cons (.bin .Pow (.con (.int 10)) (.con (.int 6))) .nil))) (.bin .Mod (.bin .FloorDiv (.var 8) (.con (.int 567))) (.con (.int 2)))) .nil)))))) (.cons (.aw3 (.aw0 (.con (.int 4))) (.nm 12) (.cons (.ifs (.val (.ix (.var 10) (.var 12))) (.cons (.aI4 (.var 11) (.var 12) (.call 3 (.cons (.var 12) (.cons (.bin .Add (.bin .FloorDiv (.var 8) (.con (.int 1134))) (.bin .Mult (.con (.int 3)) (.var 12))) (.cons (.var 1) .nil))))) .nil) .nil) .nil)) (.cons (.set 13 (.call 8 (.cons (.var 9) (.cons (.var 10) .nil)))) (.cons (.ifs (.cmp .Is (.var 13) (.con .non)) (.cons .cont .nil) .nil) (.cons (.ifs (.or (.cons (.cmp .NotEq (.call 9 (.cons (.var 5) (.cons (.var 9) (.cons (.var 11) .nil)))) (.var 13)) (.cons (.deq true (.rY 10 (.var 5) .nil) (.aDC true (.var 6) (.aDC false (.con (.int 5)) (.var 2)))) .nil))) (.cons (.ret (.con (.bl false))) .nil) .nil) .nil))))))))) (.cons (.ifs (.or (.cons (.cmp .IsNot (.rY 11 (.var 5) (.cons (.con (.int 5)) (.cons (.var 6) (.cons (.var 2) .nil)))) (.con .non)) (.cons (.cmp .IsNot (.rY 6 (.var 5) (.cons (.con (.int 0)) (.cons (.tup (.cons (.con (.int 0)) (.cons (.con (.int 1)) .nil))) (.cons (.var 2) .nil)))) (.con .non)) .nil))) (.cons (.ret (.con (.bl false))) .nil) .nil) (.cons (.ret (.aA4 (.cons (.cmp .Is (.rY 12 (.var 5) (.cons (.con (.int 0)) (.cons (.tup (.cons (.con (.int 0)) (.cons (.con (.int 1)) .nil))) (.cons (.var 6) (.cons (.con (.int 1)) .nil))))) (.con .non)) (.cons (.cmp .Eq (.rY 13 (.var 5) (.cons (.con (.int 0)) (.cons (.var 6) .nil))) (.ix (.lst (.cons (.con (.int 1)) (.cons (.var 2) .nil))) (.call 14 (.cons (.cmp .Eq (.var 6) (.tup (.cons (.con (.int 0)) (.cons (.con (.int 1)) .nil)))) .nil)))) .nil)))) .nil)))))))))))
def ayV (K:Fg) (A:bT):SI:=⟨["_law_script", "_law_plan_here", "_law_room", "_law_wrong", "_law_none", "_law_shelves", "_law_spot", "_law_k", "_law_cell", "_law_way", "_law_bad_here", "_law_things", "_law_kind", "_law_due_here"],[true,true,true,true,true,true,true,true,true,true,true,true,true,true],[true,true,true,true,true,true,true,true,true,true,true,true,true,true],[false,false,false,false,false,false,false,false,false,false,false,false,false,false],[("_law_plan",.fn (a0C K A) 2 false),("_law_cell_at",.fn (d9 K A) 2 false),("list",.bt "list"),("_law_bad",.fn (yK K A) 3 false),("_law_made",.fn (rP K A) 2 false),("Shelves",.kl A.aD (fP K A) []),("Shelves.put#3",.me A.aD "put" (dY K A) []),("range",.bt "range"),("_law_due",.fn (a2V K A) 2 false),("_law_told",.fn (a0F K A) 3 false),("Shelves.lying#0",.me A.aD "lying" (nQ K A) []),("Shelves.take#3",.me A.aD "take" (fW K A) []),("Shelves.shift#4",.me A.aD "shift" (gK K A) []),("Shelves.amount#2",.me A.aD "amount" (cA K A) []),("int",.bt "int")],[true,true,true,true,true,true,false,true,true,true,false,false,false,false,true],true⟩
structure Txt (K:Fg) (mg:Str→Option Value) (A:bT):Prop where
  wR:Fun K "is_whole" "is_whole" jX A.tL A.acB
  a1D:Binds K A.acB ["thing", "least", "most"] []
  a1E:mg "is_whole" = some (.ref A.tL)
  ag6:Fun K "is_pair" "is_pair" nJ A.wG A.ag4
  ao4:Binds K A.ag4 ["thing", "aisles", "first", "last"] []
  ao5:mg "is_pair" = some (.ref A.wG)
  a9C:Fun K "is_amount" "is_amount" gZ A.qG A.a95
  ahL:Binds K A.a95 ["thing"] []
  ahM:mg "is_amount" = some (.ref A.qG)
  ag7:Fun K "is_plan" "is_plan" nM A.wH A.ag5
  ao6:Binds K A.ag5 ["thing"] []
  ao7:mg "is_plan" = some (.ref A.wH)
  a2X:Fun K "need_plan" "need_plan" iB A.qH A.a96
  a9D:Binds K A.a96 ["plan"] []
  a9E:mg "need_plan" = some (.ref A.qH)
  akU:Fun K "is_bin" "is_bin" qD A.a0S A.akK
  atU:Binds K A.akK ["plan", "thing"] []
  atV:mg "is_bin" = some (.ref A.a0S)
  u9:Fun K "need_lot" "need_lot" jY A.tM A.acC
  wU:Binds K A.acC ["thing", "lots"] []
  wV:mg "need_lot" = some (.ref A.tM)
  qW:Fun K "need_bin" "need_bin" jZ A.tO A.acD
  uD:Binds K A.acD ["plan", "thing"] []
  uE:mg "need_bin" = some (.ref A.tO)
  pI:Fun K "need_amount" "need_amount" dU A.mR A.a3Z
  sV:Binds K A.a3Z ["thing"] []
  sW:mg "need_amount" = some (.ref A.mR)
  a9F:Fun K "change" "change" qF A.a0T A.akL
  ae1:Binds K A.akL ["stacks", "spot", "lot", "more"] []
  ae2:mg "change" = some (.ref A.a0T)
  acL:Fun K "in_order" "in_order" kJ A.tQ A.acE
  akV:Binds K A.acE ["stacks"] []
  akW:mg "in_order" = some (.ref A.tQ)
  a1F:Fun K "__init__" "Shelves.__init__" bN A.cI A.oM
  uF:Binds K A.oM ["self", "plan", "room"] []
  acM:Meth K A.aD "__init__" A.cI
  acN:∃ t,Binds K A.oM ["self", "plan", "room"] [.int 1000 t]
  a5E:Fun K "filled" "Shelves.filled" bW A.gC A.wI
  wW:Binds K A.wI ["self", "spot"] []
  wX:Meth K A.aD "filled" A.gC
  zV:Fun K "need_room" "Shelves.need_room" bG A.dG A.sE
  sG:Binds K A.sE ["self", "spot", "amount"] []
  sH:Meth K A.aD "need_room" A.dG
  abU:Fun K "put" "Shelves.put" dW A.mU A.a4A
  a4C:Binds K A.a4A ["self", "lot", "spot", "amount"] []
  a4D:Meth K A.aD "put" A.mU
  a5F:Fun K "amount" "Shelves.amount" bY A.gF A.wJ
  rQ:Binds K A.wJ ["self", "lot", "spot"] []
  rR:Meth K A.aD "amount" A.gF
  yL:Fun K "need_there" "Shelves.need_there" bC A.cX A.qI
  qX:Binds K A.qI ["self", "lot", "spot", "amount"] []
  qY:Meth K A.aD "need_there" A.cX
  a9G:Fun K "take" "Shelves.take" cU A.kZ A.a0U
  a1G:Binds K A.a0U ["self", "lot", "spot", "amount"] []
  a1H:Meth K A.aD "take" A.kZ
  a7Z:Fun K "shift" "Shelves.shift" cM A.iY A.zE
  zJ:Binds K A.zE ["self", "lot", "one", "other", "amount"] []
  zK:Meth K A.aD "shift" A.iY
  a9H:Fun K "held" "Shelves.held" cV A.lA A.a0V
  a9I:Binds K A.a0V ["self", "spot"] []
  a9J:Meth K A.aD "held" A.lA
  a5G:Fun K "places" "Shelves.places" bZ A.gG A.wK
  a5H:Binds K A.wK ["self", "lot"] []
  a5I:Meth K A.aD "places" A.gG
  a80:Fun K "lying" "Shelves.lying" cN A.iZ A.zF
  a81:Binds K A.zF ["self"] []
  a82:Meth K A.aD "lying" A.iZ
  vG:Fun K "_law_cell_at" "_law_cell_at" cW A.lB A.a0W
  a1I:Binds K A.a0W ["_law_script", "_law_k"] []
  a1J:mg "_law_cell_at" = some (.ref A.lB)
  a9K:Fun K "_law_plan" "_law_plan" iC A.qJ A.a97
  ahN:Binds K A.a97 ["_law_script", "_law_k"] []
  ahO:mg "_law_plan" = some (.ref A.qJ)
  xW:Fun K "_law_raised" "_law_raised" dX A.mV A.a4B
  a4E:Binds K A.a4B ["_law_e"] []
  a4F:mg "_law_raised" = some (.ref A.mV)
  acO:Fun K "_law_bad" "_law_bad" kW A.tR A.acF
  akX:Binds K A.acF ["_law_kind", "_law_cell", "_law_plan_here"] []
  akY:mg "_law_bad" = some (.ref A.tR)
  a6Z:Fun K "_law_asked" "_law_asked" fJ A.oN A.a6I
  ae3:Binds K A.a6I ["_law_shelves", "_law_way", "_law_lot", "_law_one", "_law_other", "_law_amount"] []
  ae4:mg "_law_asked" = some (.ref A.oN)
  a9L:Fun K "_law_told" "_law_told" iD A.qK A.a98
  ahP:Binds K A.a98 ["_law_shelves", "_law_way", "_law_things"] []
  ahQ:mg "_law_told" = some (.ref A.qK)
  acP:Fun K "_law_due" "_law_due" kY A.tU A.acG
  akZ:Binds K A.acG ["_law_way", "_law_bad_here"] []
  al0:mg "_law_due" = some (.ref A.tU)
  a9M:Fun K "_law_made" "_law_made" iG A.qL A.a99
  ahR:Binds K A.a99 ["_law_plan_here", "_law_room"] []
  ahS:mg "_law_made" = some (.ref A.qL)
  aLW:Fun K "law" "law" a94 A.ahG A.aEF
  aWM:Binds K A.aEF ["_law_script"] []
  aWN:mg "law" = some (.ref A.ahG)
  aN:Cls K A.aD
  acQ:Mk K A.aD A.cI
  acR:mg "Shelves" = some (.ref A.aD)
  dJ:wB K A.aD "layout"
  zL:wB K A.aD "room"
  cB:wB K A.aD "stacks"
  a70:mg "DepotError" = some (.ref A.aK)
  oW:PySem.W.excIn K A.aK BMv "ValueError.__new__" = true
  jG:(PySem.W.clsIn K A.aK).isSome=true
  n8:PySem.W.typeIn K (.ref A.aK)=some (.type "type")
  jH:PySem.W.subIn K (.ref A.aK) (.type "BaseException")=some true
  aqD:ExC K A.aK
  sX:PySem.W.kitOne K (.ref A.aK) (.type "ValueError")=some true
  al1:mg "NoPlan" = some (.ref A.bR)
  a1K:PySem.W.excIn K A.bR BMv "ValueError.__new__" = true
  uM:(PySem.W.clsIn K A.bR).isSome=true
  wY:PySem.W.typeIn K (.ref A.bR)=some (.type "type")
  uN:PySem.W.subIn K (.ref A.bR) (.type "BaseException")=some true
  atX:ExC K A.bR
  a0K:PySem.W.kitOne K (.ref A.bR) (.type "ValueError")=some true
  aqE:mg "NoBin" = some (.ref A.cJ)
  a71:PySem.W.excIn K A.cJ BMv "ValueError.__new__" = true
  yM:(PySem.W.clsIn K A.cJ).isSome=true
  a1L:PySem.W.typeIn K (.ref A.cJ)=some (.type "type")
  yN:PySem.W.subIn K (.ref A.cJ) (.type "BaseException")=some true
  ayW:ExC K A.cJ
  a5J:PySem.W.kitOne K (.ref A.cJ) (.type "ValueError")=some true
  aqF:mg "NoLot" = some (.ref A.cL)
  a72:PySem.W.excIn K A.cL BMv "ValueError.__new__" = true
  yO:(PySem.W.clsIn K A.cL).isSome=true
  a1M:PySem.W.typeIn K (.ref A.cL)=some (.type "type")
  yP:PySem.W.subIn K (.ref A.cL) (.type "BaseException")=some true
  ayX:ExC K A.cL
  a5K:PySem.W.kitOne K (.ref A.cL) (.type "ValueError")=some true
  acS:mg "NoAmount" = some (.ref A.aV)
  uG:PySem.W.excIn K A.aV BMv "ValueError.__new__" = true
  oG:(PySem.W.clsIn K A.aV).isSome=true
  qZ:PySem.W.typeIn K (.ref A.aV)=some (.type "type")
  oH:PySem.W.subIn K (.ref A.aV) (.type "BaseException")=some true
  al2:ExC K A.aV
  uO:PySem.W.kitOne K (.ref A.aV) (.type "ValueError")=some true
  al3:mg "NoRoom" = some (.ref A.bO)
  a1N:PySem.W.excIn K A.bO BMv "ValueError.__new__" = true
  uP:(PySem.W.clsIn K A.bO).isSome=true
  wZ:PySem.W.typeIn K (.ref A.bO)=some (.type "type")
  uQ:PySem.W.subIn K (.ref A.bO) (.type "BaseException")=some true
  aEG:ExC K A.bO
  a5L:PySem.W.kitOne K (.ref A.bO) (.type "ValueError")=some true
  a9N:mg "TooLittle" = some (.ref A.aP)
  rA:PySem.W.excIn K A.aP BMv "ValueError.__new__" = true
  mD:(PySem.W.clsIn K A.aP).isSome=true
  oX:PySem.W.typeIn K (.ref A.aP)=some (.type "type")
  mF:PySem.W.subIn K (.ref A.aP) (.type "BaseException")=some true
  atY:ExC K A.aP
  vH:PySem.W.kitOne K (.ref A.aP) (.type "ValueError")=some true
  eX:PySem.W.kitOne K (.ref A.aK) (.ref A.aK)=some true
  eY:PySem.W.subIn K (.ref A.aK) (.ref A.aK)=some true
  fY:PySem.W.kitOne K (.ref A.aK) (.ref A.aV)=some false
  lG:PySem.W.kitOne K (.ref A.aK) (.ref A.cJ)=some false
  lH:PySem.W.kitOne K (.ref A.aK) (.ref A.cL)=some false
  j7:PySem.W.kitOne K (.ref A.aK) (.ref A.bR)=some false
  j8:PySem.W.kitOne K (.ref A.aK) (.ref A.bO)=some false
  fL:PySem.W.kitOne K (.ref A.aK) (.ref A.aP)=some false
  j9:PySem.W.kitOne K (.ref A.bR) (.ref A.aK)=some true
  fQ:PySem.W.subIn K (.ref A.bR) (.ref A.aK)=some true
  iR:PySem.W.kitOne K (.ref A.bR) (.ref A.aV)=some false
  nT:PySem.W.kitOne K (.ref A.bR) (.ref A.cJ)=some false
  nU:PySem.W.kitOne K (.ref A.bR) (.ref A.cL)=some false
  lW:PySem.W.kitOne K (.ref A.bR) (.ref A.bR)=some true
  lX:PySem.W.kitOne K (.ref A.bR) (.ref A.bO)=some false
  gO:PySem.W.kitOne K (.ref A.bR) (.ref A.aP)=some false
  lJ:PySem.W.kitOne K (.ref A.cJ) (.ref A.aK)=some true
  d8:PySem.W.subIn K (.ref A.cJ) (.ref A.aK)=some true
  jM:PySem.W.kitOne K (.ref A.cJ) (.ref A.aV)=some false
  pJ:PySem.W.kitOne K (.ref A.cJ) (.ref A.cJ)=some true
  pK:PySem.W.kitOne K (.ref A.cJ) (.ref A.cL)=some false
  nW:PySem.W.kitOne K (.ref A.cJ) (.ref A.bR)=some false
  nY:PySem.W.kitOne K (.ref A.cJ) (.ref A.bO)=some false
  iT:PySem.W.kitOne K (.ref A.cJ) (.ref A.aP)=some false
  lK:PySem.W.kitOne K (.ref A.cL) (.ref A.aK)=some true
  gP:PySem.W.subIn K (.ref A.cL) (.ref A.aK)=some true
  jN:PySem.W.kitOne K (.ref A.cL) (.ref A.aV)=some false
  pL:PySem.W.kitOne K (.ref A.cL) (.ref A.cJ)=some false
  pN:PySem.W.kitOne K (.ref A.cL) (.ref A.cL)=some true
  nZ:PySem.W.kitOne K (.ref A.cL) (.ref A.bR)=some false
  o7:PySem.W.kitOne K (.ref A.cL) (.ref A.bO)=some false
  iU:PySem.W.kitOne K (.ref A.cL) (.ref A.aP)=some false
  fZ:PySem.W.kitOne K (.ref A.aV) (.ref A.aK)=some true
  cQ:PySem.W.subIn K (.ref A.aV) (.ref A.aK)=some true
  fU:PySem.W.kitOne K (.ref A.aV) (.ref A.aV)=some true
  jO:PySem.W.kitOne K (.ref A.aV) (.ref A.cJ)=some false
  jP:PySem.W.kitOne K (.ref A.aV) (.ref A.cL)=some false
  iV:PySem.W.kitOne K (.ref A.aV) (.ref A.bR)=some false
  iW:PySem.W.kitOne K (.ref A.aV) (.ref A.bO)=some false
  eZ:PySem.W.kitOne K (.ref A.aV) (.ref A.aP)=some false
  jA:PySem.W.kitOne K (.ref A.bO) (.ref A.aK)=some true
  jB:PySem.W.subIn K (.ref A.bO) (.ref A.aK)=some true
  mH:PySem.W.kitOne K (.ref A.bO) (.ref A.aV)=some false
  rB:PySem.W.kitOne K (.ref A.bO) (.ref A.cJ)=some false
  rC:PySem.W.kitOne K (.ref A.bO) (.ref A.cL)=some false
  pC:PySem.W.kitOne K (.ref A.bO) (.ref A.bR)=some false
  pD:PySem.W.kitOne K (.ref A.bO) (.ref A.bO)=some true
  lM:PySem.W.kitOne K (.ref A.bO) (.ref A.aP)=some false
  fM:PySem.W.kitOne K (.ref A.aP) (.ref A.aK)=some true
  fO:PySem.W.subIn K (.ref A.aP) (.ref A.aK)=some true
  iH:PySem.W.kitOne K (.ref A.aP) (.ref A.aV)=some false
  mJ:PySem.W.kitOne K (.ref A.aP) (.ref A.cJ)=some false
  mK:PySem.W.kitOne K (.ref A.aP) (.ref A.cL)=some false
  lN:PySem.W.kitOne K (.ref A.aP) (.ref A.bR)=some false
  lO:PySem.W.kitOne K (.ref A.aP) (.ref A.bO)=some false
  gA:PySem.W.kitOne K (.ref A.aP) (.ref A.aP)=some true
  pO:∃ t,mg "MOST_AISLES" = some (.int 26 t)
  pP:∃ t,mg "MOST_PLACES" = some (.int 99 t)
  pQ:∃ t,mg "MOST_AMOUNT" = some (.int 1000000 t)
  xA:∃ t,mg "MOST_GAP" = some (.int 20 t)
  jJ:∃ t,mg "MOST_LOTS" = some (.int 1000 t)
  ae5:mg "ValueError" = none
  aEH:mg "bool" = none
  aEI:mg "dict" = none
  ayY:mg "int" = none
  vI:mg "isinstance" = none
  ao8:mg "len" = none
  aEJ:mg "list" = none
  ayZ:mg "range" = none
  a9O:mg "sorted" = none
  aLX:mg "sum" = none
  aqG:mg "tuple" = none
end Law
namespace Law
open PySem PySem.Spec PyProof.Rows L2 L4 L5 L6
local macro_rules | `(tactic| walk_at "wp")=>`(tactic| first | (simp (maxSteps:=2000000) (implicitDefEqProofs:=false) (disch:=first | rfl | decide | assumption | omega) only [L5.aVN,L5.aQJ,L5.aVO,L5.aQK,L5.aQL,L5.aVP,L5.aQM,L5.aVQ,L5.aVR,L5.x_raise,L5.x_c,L5.aQN,L5.aQO,L5.aZV,L5.aQP,L5.aJ8,L5.aVT,L5.aZW,L5.aVU,L5.aQQ,L5.aVV,L5.aQR,L5.aVW,L5.aVX,L5.aVY,L5.aQS,L5.aVZ,L5.aW0,L5.aW1,L5.x_call,L5.aZX,L5.x_m,L5.aZY,L5.aJ9,L5.aDW,L5.aQT,L5.aJB,L5.aW6,L5.aR2,L5.aVS,L5.aQ8,L5.aIM,L5.aDX,L5.aDY,L5.aW2,L5.aQY,L5.aQZ,L5.aJV,L5.aR0,L5.aR1,L5.x_lt,L5.aZZ,L5.x_ge,L5.b00,L5.aQV,L5.aJC,L5.aw4,L5.apQ,L5.aJD,L5.aJE,L5.aJF,L5.aJG,L5.aJH,L5.aJI,L5.aJJ,L5.aJK,L5.aJL,L5.aW5,L5.aJM,L5.aJN,L5.aJO,L5.aJP,L5.aA8,L5.aA9,L5.bM,L5.aJS,L5.aJT,L5.aJU,L5.aQ9,L5.aQA,L5.aQB,L5.aQC,L5.aQD,L5.aQE,L5.aQF,L5.aQG,L5.aQH,L5.aQI,L5.aIN,L5.aIO,L5.aIP,L5.aIQ,L5.aIR,L5.aIS,L5.aIT,L5.aIU,L5.aIV,L5.aIW,L5.aIX,L5.aIY,L5.aIZ,L5.aJ0,L5.aJ1,L5.aJ2,L5.aJ3,L5.aJ4,L5.aJ5,L5.aJ6,L5.aJ7,L5.at7,L5.apS,L5.at8,L5.apT,L5.amR,L5.apU,L5.aw6,L5.at9,L5.aw7,L5.atA,L5.apV,L5.atB,L5.atD,L5.apW,L5.atE,L5.apY,L5.amS,L5.apZ,L5.atF,L5.aq0,L5.atG,L5.aq1,L5.amT,L5.aq2,L5.atH,L5.aq3,L5.atJ,L5.aq4,L5.amU,L5.aq5,L5.awB,L5.awC,L5.awD,L5.aAA,L5.aAB,L5.awE,L5.atL,L5.aE2,L5.aAC,L5.awF,L5.aW8,L5.aW9,L5.aR3,L5.awG,L5.aAD,L5.aAE,L6.aJW,L6.aWA,L6.aR5,L6.aR6,L6.aE4,L6.aE5,L6.aAF,L6.aJX,L6.aJY,L6.aR7,L6.aR9,L6.aJZ,L6.aRA,L6.aK0,L6.aWD,L6.aWE,L6.aE9,L6.aRC,L6.aWG,L6.aWH,L6.aK1,L6.aK2,L6.aK3,L6.aK4,L6.aWI,L6.aR4,L6.aWB,L8.aWL,L8.aRG,L8.aK5,L8.aK6,L8.b03,L8.aK7,L9.aK8,L9.aRH,L9.aRI,L7.aRD,L7.aWJ,L7.aRE,L7.aRF,L7.aWK,reduceIte,reduceCtorEq];try dsimp only [L5.aDS,L5.aDT,L5.aDU,L5.aDV,L6.ayK]) | dsimp only [L5.aDS,L5.aDT,L5.aDU,L5.aDV,L6.ayK])
local macro_rules | `(tactic| exists $ls,*)=>`(tactic| (simp (implicitDefEqProofs:=false) only [$[$ls:term],*];repeat (first | (walk_at "wp") | (simp (implicitDefEqProofs:=false) only [$[$ls:term],*]))))
local macro_rules | `(tactic| walk_at "wr")=>`(tactic| repeat (walk_at "wp"))
section
variable {K:Fg} {A:bT} {G:Gp} {R:pX} {EX:bK} {mg:Str→Option Value}
open L7 L8 L9
def cellAt (ns:List Int) (k:Nat):Int:=if k < ns.length then ns.getD k 0 else if ns=[] then 0 else
  let m:=(ns.getD (k % ns.length) 0 * 48271+k * 104729) % 2147483647
  (m * m+48271 * k) % 2147483629
theorem ag8 {a:Addr} {ns:List Int} (hG:G a=some (.rol (ns.map D.int))) {k:Nat} (hk:k < 1000) (h:R (.int (cellAt ns k)) G):d9 K A [.ref a,.int (k:Int)] G R EX:=by
  refine ⟨rfl,?_⟩
  replace h:=bI.here h
  show vB K A _ _ [some (.ref a),some (.int k),none] G
  exists vB,apR (a93 hG)
  by_cases c:k < ns.length
  · rw [if_pos (decide_eq_true (by omega))]
    have e:atI (ns.map D.int) (k:Int)=some (.int (ns.getD k 0)):=by rw [acA];simp [c,List.getD]
    rw [oK (a93 hG) e]
    rw [show cellAt ns k=ns.getD k 0 by unfold cellAt;rw [if_pos c]] at h
    exact h
  · rw [if_neg (by simp;omega)]
    exists a5D
    intro p hp
    rw [awA (a93 (fX hG hp)) bM (by simp [aR]) rfl]
    obtain ⟨G0,l,h⟩:=h
    by_cases hn:ns=[]
    · subst hn
      rw [show cellAt [] k=0 by unfold cellAt;simp] at h
      simp only [List.map_nil,wC]
      walk_at "wr"
      exact ⟨G0,l.trans (.new hp),h⟩
    · have e0:wC (ns.map D.int) []=false:=by cases ns with
        | nil=>exact absurd rfl hn
        | cons n r=>rfl
      have h0:0 < (ns.length:Int):=by cases ns with
        | nil=>exact absurd rfl hn
        | cons n r=>simp
      simp only [e0]
      exists a5C,apR (a93 (fX hG hp))
      have hm:k % ns.length < ns.length:=Nat.mod_lt _ (by omega)
      have e2:atI (ns.map D.int) ((k:Int) % (ns.length:Int))=some (.int (ns.getD (k % ns.length) 0)):=by
        rw [← Int.natCast_emod,acA];simp [hm,List.getD]
      rw [oK (a93 (fX hG hp)) e2]
      exists a5B
      refine ⟨G0,l.trans (.new hp),?_⟩
      have ec:cellAt ns k=((ns.getD (k % ns.length) 0 * 48271+(k:Int) * 104729) % 2147483647 * ((ns.getD (k % ns.length) 0 * 48271+(k:Int) * 104729) % 2147483647)+48271 * (k:Int)) % 2147483629:=by
        unfold cellAt
        rw [if_neg c,if_neg hn]
      rw [← ec]
      exact h
def isW (d:D) (a b:Int):Bool:=match d with
  | .int i=>decide (a≤i)&&decide (i≤b)
  | _=>false
theorem uH {d:D} {a b:Int} (hd:kn G d) (h:R (.bl (isW d a b)) G):eO K A [d,.int a,.int b] G R EX:=by
  refine ⟨rfl,?_⟩
  replace h:=bI.here h
  show a0X K A _ _ [some d,some (.int a),some (.int b)] G
  cases d
  case ref q=>exists a0X,aw9 hd;exact h
  case ty n=>simp [kn,tyD] at hd
  all_goals exists a0X
  case int i =>
    by_cases c:a≤i
    · simp only [c,decide_true,if_true]
      simpa [isW,c] using h
    · simp only [c,decide_false,Bool.false_eq_true,if_false]
      simpa [isW,c] using h
  all_goals exact h
def isP (d:D) (n a b:Int):Bool:=match d with
  | .tup [x,y]=>isW x 0 (n - 1)&&isW y a b
  | _=>false
theorem aAH {d:D} {n a b:Int} (hd:kn G d) (hc:∀ x y,d = .tup [x,y]→kn G x∧kn G y) (h:R (.bl (isP d n a b)) G):a6K K A [d,.int n,.int a,.int b] G R EX:=by
  refine ⟨rfl,?_⟩
  replace h:=bI.here h
  show a0I K A _ _ [some d,some (.int n),some (.int a),some (.int b)] G
  cases d
  case ref q=>exists a0I,adU hd;exact h
  case ty n=>simp [kn,tyD] at hd
  case tup xs =>
    exists a0I
    match xs,h,hc with
    | [],h,_=>exact h
    | [x],h,_=>exact h
    | x :: y :: z :: r,h,_ =>
      have e:((((x :: y :: z :: r).length:Nat):Int) == 2)=false:=by simp;omega
      simp only [e]
      exact h
    | [x,y],h,hc =>
      obtain ⟨h1,h2⟩:=hc x y rfl
      exists ahH
      refine uH h1 ?_
      walk_at "wr"
      refine aq6 (fun e=>uH h2 ?_) fun e=>?_
      · simpa [isP,e] using h
      · simpa [isP,e] using h
  all_goals exists a0I
  all_goals exact h
theorem b04 {d:D} {n a b:Int} (h:isP d n a b=true):∃ i j:Int,d = .tup [.int i,.int j]∧0≤i∧i≤n - 1∧a≤j∧j≤b:=by
  unfold isP at h
  split at h
  · rename_i x y
    rw [Bool.and_eq_true] at h
    obtain ⟨h1,h2⟩:=h
    unfold isW at h1 h2
    split at h1
    · split at h2
      · simp only [Bool.and_eq_true,decide_eq_true_eq] at h1 h2
        exact ⟨_,_,rfl,h1.1,h1.2,h2.1,h2.2⟩
      · cases h2
    · cases h1
  · cases h
theorem aEK {i j n a b:Int}:isP (.tup [.int i,.int j]) n a b=(decide (0≤i)&&decide (i≤n - 1)&&(decide (a≤j)&&decide (j≤b))):=rfl
def ag9 (d:D):Bool:=match d with
  | .tup [x,y,z]=>isW x 1 26&&(isW y 1 99&&isW z 1 20)
  | _=>false
theorem aAI {d:D} (hd:kn G d) (hc:∀ x y z,d = .tup [x,y,z]→kn G x∧kn G y∧kn G z) (h:R (.bl (ag9 d)) G):a6L K A [d] G R EX:=by
  refine ⟨rfl,?_⟩
  replace h:=bI.here h
  show a0J K A _ _ [some d] G
  cases d
  case ref q=>exists a0J,adU hd;exact h
  case ty n=>simp [kn,tyD] at hd
  case tup xs =>
    exists a0J
    match xs,h,hc with
    | [],h,_=>exact h
    | [x],h,_=>exact h
    | [x,y],h,_=>exact h
    | x :: y :: z :: w :: r,h,_ =>
      have e:((((x :: y :: z :: w :: r).length:Nat):Int) == 3)=false:=by simp;omega
      simp only [e]
      exact h
    | [x,y,z],h,hc =>
      obtain ⟨h1,h2,h3⟩:=hc x y z rfl
      exists ahJ
      refine uH h1 ?_
      walk_at "wr"
      refine azM (fun e=>?_) fun e=>?_
      · simpa [ag9,e] using h
      · have e:isW x 1 26=true:=by simpa using e
        refine uH h2 ?_
        walk_at "wr"
        refine azM (fun e2=>?_) fun e2=>?_
        · simpa [ag9,e2] using h
        · have e2:isW y 1 99=true:=by simpa using e2
          exists ahI
          refine uH h3 ?_
          simpa [ag9,e,e2] using h
  all_goals exists a0J
  all_goals exact h
theorem ahT {d:D} (hd:kn G d) (hc:∀ x y z,d = .tup [x,y,z]→kn G x∧kn G y∧kn G z) (h0:ag9 d=false→EX A.bR G) (h1:ag9 d=true→R .non G):oO K A [d] G R EX:=by
  refine ⟨rfl,?_⟩
  show a2N K A _ _ [some d] G
  exists a2N
  refine aAI hd hc ?_
  walk_at "wr"
  exact azM (fun e=>jW.here (h0 e)) fun e=>bI.here (h1 (by simpa using e))
def plD (x y g:Nat):D := .tup [.int x,.int y,.int g]
structure OkP (x y g:Nat):Prop where
  x0:1≤x
  x1:x≤26
  y0:1≤y
  y1:y≤99
  g0:1≤g
  g1:g≤20
theorem aKF {x y g:Nat} (o:OkP x y g):ag9 (plD x y g)=true:=by
  obtain ⟨_,_,_,_,_,_⟩:=o
  simp [ag9,plD,isW]
  omega
theorem agA {x y g:Nat} (o:OkP x y g) (h:R .non G):oO K A [plD x y g] G R EX :=
  ahT aw8 (fun a b c e=>by cases e;exact ⟨rfl,rfl,rfl⟩) (fun e=>by rw [aKF o] at e;cases e) fun _=>h
def kp (G:Gp) (d:D):Prop:=kn G d∧∀ xs,d = .tup xs→∀ x∈xs,kn G x
theorem kp.pl {d:D} (h:kp G d):∀ x y z,d = .tup [x,y,z]→kn G x∧kn G y∧kn G z:=fun x y z e=>⟨h.2 _ e x (by simp),h.2 _ e y (by simp),h.2 _ e z (by simp)⟩
theorem kp.pr {d:D} (h:kp G d):∀ x y,d = .tup [x,y]→kn G x∧kn G y:=fun x y e=>⟨h.2 _ e x (by simp),h.2 _ e y (by simp)⟩
theorem kp.le {G':Gp} (l:Le G G') {d:D} (h:kp G d):kp G' d:=⟨ayL l h.1,fun xs e x m=>ayL l (h.2 xs e x m)⟩
theorem sY {d:D} (h:kn G d) (hn:∀ xs,d ≠ .tup xs):kp G d:=⟨h,fun xs e=>absurd e (hn xs)⟩
theorem a1O {xs:List D} (h:∀ x∈xs,kn G x):kp G (.tup xs):=⟨aw8,fun ys e=>by cases e;exact h⟩
theorem b1D {x y g:Nat}:kp G (plD x y g):=a1O (all_cons rfl (all_cons rfl (all_cons rfl all_nil)))
theorem aWO {p:Addr} {i j:Int} {b:Bool} (h:∀ k,(k=i∨k=j)→R (.int k) (aQ G p (.lst [.int i,.int j]))):nD (.ref p) (.int (if b=true then 1 else 0)) (aQ G p (.lst [.int i,.int j])) R:=by
  refine ag2 bM (by split <;> decide) (by simp;split <;> decide) ?_
  exact all_cons (h _ (.inl rfl)) (all_cons (h _ (.inr rfl)) all_nil)
theorem aRK {a:Addr} {ns:List Int} (hG:G a=some (.rol (ns.map D.int))) {k:Nat} (hk:k < 900) (h:∀ x y g:Nat,OkP x y g→R (plD x y g) G):a0C K A [.ref a,.int (k:Int)] G R EX:=by
  refine ⟨rfl,?_⟩
  show a2R K A _ _ [some (.ref a),some (.int k),none,none,none,none] G
  exists a2R
  refine ag8 (k:=k) hG (by omega) ?_
  exists abS
  rw [show (k:Int)+1=((k+1:Nat):Int) by omega]
  refine ag8 (k:=k+1) hG (by omega) ?_
  generalize cellAt ns k=c
  generalize cellAt ns (k+1)=c2
  exists abR
  intro p hp
  refine aWO fun x hx=>?_
  exists abQ
  intro p2 hp2
  refine aWO fun y hy=>?_
  exists abP
  have z:=aJR (h x.toNat y.toNat (1+c / 104 % 20).toNat ⟨by omega,by omega,by omega,by omega,by omega,by omega⟩) ((Le.new (o := .lst [D.int (1+c % 4),D.int (1+c % 26)]) hp).trans (.new (o := .lst [D.int (1+c2 % 6),D.int (1+c2 % 99)]) hp2))
  unfold plD at z
  rw [Int.toNat_of_nonneg (by omega),Int.toNat_of_nonneg (by omega),Int.toNat_of_nonneg (by omega)] at z
  exact z
theorem al4 {d:D} (hd:kn G d) (h0:isW d 0 999=false→EX A.cL G) (h1:isW d 0 999=true→R .non G):dI K A [d,.int 1000] G R EX:=by
  refine ⟨rfl,?_⟩
  show a6M K A _ _ [some d,some (.int 1000)] G
  exists a6M
  refine uH hd ?_
  walk_at "wr"
  exact azM (fun e=>jW.here (h0 e)) fun e=>bI.here (h1 (by simpa using e))
theorem atZ {d:D} (hd:kn G d) (h:R (.bl (isW d 1 1000000)) G):a0B K A [d] G R EX:=by
  refine ⟨rfl,?_⟩
  show a2L K A _ _ [some d] G
  exists a2L
  exact uH hd (bI.here h)
theorem a4G {d:D} (hd:kn G d) (h0:isW d 1 1000000=false→EX A.aV G) (h1:isW d 1 1000000=true→R .non G):cO K A [d] G R EX:=by
  refine ⟨rfl,?_⟩
  show xP K A _ _ [some d] G
  exists xP
  refine atZ hd ?_
  walk_at "wr"
  exact azM (fun e=>jW.here (h0 e)) fun e=>bI.here (h1 (by simpa using e))
theorem aEL {x y g:Nat} (o:OkP x y g) {d:D} (hd:kn G d) (hc:∀ x y,d = .tup [x,y]→kn G x∧kn G y) (h:R (.bl (isP d x 1 y)) G):ab4 K A [plD x y g,d] G R EX:=by
  refine ⟨rfl,?_⟩
  show adW K A _ _ [some (plD x y g),some d] G
  exists adW
  refine agA o ?_
  unfold plD
  exists akM
  exact aAH hd hc (bI.here h)
theorem acT {x y g:Nat} (o:OkP x y g) {d:D} (hd:kn G d) (hc:∀ x y,d = .tup [x,y]→kn G x∧kn G y) (h0:isP d x 1 y=false→EX A.cJ G) (h1:isP d x 1 y=true→R .non G):cC K A [plD x y g,d] G R EX:=by
  refine ⟨rfl,?_⟩
  show a6O K A _ _ [some (plD x y g),some d] G
  exists a6O
  refine aEL o hd hc ?_
  walk_at "wr"
  exact azM (fun e=>jW.here (h0 e)) fun e=>bI.here (h1 (by simpa using e))
structure OkB (x y:Nat) (a p:Int):Prop where
  a0:0≤a
  a1:a < x
  p0:1≤p
  p1:p≤y
theorem a1P {l:Int} (hl:0≤l∧l≤999) (h:R .non G):dI K A [.int l,.int 1000] G R EX:=al4 rfl (fun e=>by simp [isW] at e;omega) fun _=>h
theorem a9P {l:Int} (hl:1≤l∧l≤1000000) (h:R .non G):cO K A [.int l] G R EX:=a4G rfl (fun e=>by simp [isW] at e;omega) fun _=>h
theorem yQ {x y g:Nat} (o:OkP x y g) {a p:Int} (b:OkB x y a p) (h:R .non G):cC K A [plD x y g,.tup [.int a,.int p]] G R EX:=by
  obtain ⟨b1,b2,b3,b4⟩:=b
  refine acT o aw8 (fun x y e=>by cases e;exact ⟨rfl,rfl⟩) (fun e=>?_) fun _=>h
  rw [aEK] at e
  simp at e
  omega
theorem ae6 {i v:Int}:∀ {ps:List (Int×Int)},(bB ps i).isSome=true→bB (ps.map fun kv=>if kv.1=i then (kv.1,v) else kv) i=some v
  | [],h=>by cases h
  | z :: ps,h=>by
    rw [List.map_cons]
    by_cases c:z.1=i
    · rw [if_pos c]
      unfold bB
      rw [if_pos c]
    · rw [if_neg c]
      unfold bB at h ⊢
      rw [if_neg c] at h ⊢
      exact ae6 h
theorem ao9 {i v:Int}:∀ {ps:List (Int×Int)},bB ps i=none→bB (ps++[(i,v)]) i=some v
  | [],_=>by show (if i=i then some v else none)=_;rw [if_pos rfl]
  | z :: ps,h=>by
    rw [List.cons_append]
    unfold bB at h ⊢
    by_cases c:z.1=i
    · rw [if_pos c] at h;cases h
    · rw [if_neg c] at h ⊢
      exact ao9 h
theorem al5 {ps:List (Int×Int)} {i v:Int}:bB (pA ps i v) i=some v:=by
  unfold pA
  split
  · rename_i h
    exact ae6 h
  · rename_i h
    exact ao9 (by simpa using h)
theorem aKG {ps:List (Int×Int)} {i v:Int}:(pA ps i v).length≤ps.length+1:=by
  unfold pA
  split
  · rw [List.length_map];omega
  · rw [List.length_append];exact Nat.le_refl _
theorem aRL {ps:List (Int×Int)} {i v:Int}:pA ps i v≠[]:=fun e=>by
  have:=al5 (ps:=ps) (i:=i) (v:=v)
  rw [e] at this
  cases this
theorem au0 {F:nA} {ex:aW→bK} {st e:Addr} {a p lot more:Int} {ps:List (Int×Int)} (he:G e=some (.eN false (ps.map kpD))) (hl:ps.length < 1000)
    (h1:(bB ps lot).getD 0+more≠0→∀ G',G' e=some (.eN false ((pA ps lot ((bB ps lot).getD 0+more)).map kpD))→(∀ q u,q≠e→G q=some u→G' q=some u)→F.nx [some (.ref st),some (.tup [.int a,.int p]),some (.int lot),some (.int more),some (.ref e)] G')
    (h2:(bB ps lot).getD 0+more=0→∀ G',G' e=some (.eN false ((uX (pA ps lot 0) lot).map kpD))→(∀ q u,q≠e→G q=some u→G' q=some u)→a6Q K A ex F [some (.ref st),some (.tup [.int a,.int p]),some (.int lot),some (.int more),some (.ref e)] G') :
    acH K A ex F [some (.ref st),some (.tup [.int a,.int p]),some (.int lot),some (.int more),some (.ref e)] G:=by
  have big:10000 < sizeLine:=by decide
  exists acH,sU he
  rw [qC he yF rfl]
  have eg:(bB (ps.map kpD) (.inl (.inl lot))).getD (.int 0) = .int ((bB ps lot).getD 0):=by
    rw [a6H]
    cases bB ps lot <;> rfl
  rw [eg]
  generalize hv:(bB ps lot).getD 0+more=v at h1 h2
  walk_at "wr"
  rw [hv,ayO he yF rfl (by rw [List.length_map];omega),aK9]
  generalize hG1:aQ G e _=G1
  have e1:G1 e=some (.eN false ((pA ps lot v).map kpD)):=by rw [← hG1,aJ]
  have k1:∀ q u,q≠e→G q=some u→G1 q=some u:=fun q u n z=>by rw [← hG1,cT n];exact z
  have lp:=aKG (ps:=ps) (i:=lot) (v:=v)
  exists akN,sU e1
  rw [adV e1 yF rfl (by rw [a6H,al5];rfl)]
  walk_at "wr"
  by_cases c:v=0
  · rw [if_pos (by rw [c];rfl)]
    rw [ayN e1 yF rfl (by rw [a6H,al5];rfl),aEC]
    refine ⟨by rw [sU e1];trivial,?_⟩
    refine h2 c (aQ G1 e (.eN false ((uX (pA ps lot v) lot).map kpD))) (by rw [aJ,c]) fun q u n z=>?_
    rw [cT n]
    exact k1 q u n z
  · rw [if_neg (by simpa using c)]
    exists a6Q
    rw [ayM e1]
    walk_at "wr"
    rw [if_neg]
    · exact h1 c G1 e1 k1
    · simpa using aRL (ps:=ps) (i:=lot) (v:=v)
theorem a73 {st:Addr} {M:List (List Key×Addr)} {a p lot more:Int} (hs:G st=some (.eN true (M.map ktD))) (hl:M.length < 1000) (hk:bB M (ky a p)=none) (hm:more≠0)
    (h:∀ e G',G e=none→G' st=some (.eN true ((M++[(ky a p,e)]).map ktD))→G' e=some (.eN false ([(lot,more)].map kpD))→(∀ q u,q≠st→G q=some u→G' q=some u)→R .non G'):lR K A [.ref st,.tup [.int a,.int p],.int lot,.int more] G R EX:=by
  have big:10000 < sizeLine:=by decide
  refine ⟨rfl,?_⟩
  have h':∀ e G',G e=none→G' st=some (.eN true ((M++[(ky a p,e)]).map ktD))→G' e=some (.eN false ([(lot,more)].map kpD))→(∀ q u,q≠st→G q=some u→G' q=some u)→bI R .non G':=fun e G' a b c d=>bI.here (h e G' a b c d)
  clear h
  show a4X K A _ _ [some (.ref st),some (.tup [.int a,.int p]),some (.int lot),some (.int more),none] G
  exists a4X,sU hs
  intro e he
  have ne:e≠st:=fun z=>by rw [z,hs] at he;cases he
  have hs1:aQ G e (.eN false []) st=some (.eN true (M.map ktD)):=fX hs he
  rw [aKA hs1 a0A rfl (by rw [List.length_map];omega) (by rw [a6G,hk];rfl)]
  generalize hG1:aQ (aQ G e (.eN false [])) st _=G1
  have e1:G1 e=some (.eN false (([]:List (Int×Int)).map kpD)):=by rw [← hG1,cT ne,aJ];rfl
  have s1:G1 st=some (.eN true ((M++[(ky a p,e)]).map ktD)):=by rw [← hG1,aJ,List.map_append];rfl
  have k1:∀ q u,q≠st→G q=some u→G1 q=some u:=fun q u n z=>by
    rw [← hG1,cT n]
    exact fX z he
  refine au0 e1 (by simp) (fun _ G2 e2 k2=>?_) fun z=>?_
  · refine h' e G2 he (k2 _ _ (Ne.symm ne) s1) (by rw [e2];show some (GO.eN false ([(lot,0+more)].map kpD))=_;rw [Int.zero_add]) fun q u n z=>k2 q u (fun w=>by rw [w,he] at z;cases z) (k1 q u n z)
  · exact absurd z (by show (0:Int)+more≠0;rw [Int.zero_add];exact hm)
theorem a74 {st d:Addr} {M:List (List Key×Addr)} {ps:List (Int×Int)} {a p lot more:Int} (hs:G st=some (.eN true (M.map ktD))) (hl:M.length < 1000) (hk:bB M (ky a p)=some d) (hd:G d=some (.eN false (ps.map kpD))) (hp:ps.length < 1000)
    (h1:(bB ps lot).getD 0+more≠0→∀ G',G' d=some (.eN false ((pA ps lot ((bB ps lot).getD 0+more)).map kpD))→(∀ q u,q≠d→G q=some u→G' q=some u)→R .non G')
    (h2:(bB ps lot).getD 0+more=0→uX (pA ps lot 0) lot=[]→∀ G',G' st=some (.eN true ((uX M (ky a p)).map ktD))→(∀ q u,q≠d→q≠st→G q=some u→G' q=some u)→R .non G')
    (h3:(bB ps lot).getD 0+more=0→uX (pA ps lot 0) lot≠[]→∀ G',G' d=some (.eN false ((uX (pA ps lot 0) lot).map kpD))→(∀ q u,q≠d→G q=some u→G' q=some u)→R .non G'):lR K A [.ref st,.tup [.int a,.int p],.int lot,.int more] G R EX:=by
  have big:10000 < sizeLine:=by decide
  refine ⟨rfl,?_⟩
  show a4X K A _ _ [some (.ref st),some (.tup [.int a,.int p]),some (.int lot),some (.int more),none] G
  exists a4X,sU hs
  intro e he
  have ne:st≠d:=fun z=>by rw [z,hd] at hs;cases hs
  have hs1:aQ G e (.eN false []) st=some (.eN true (M.map ktD)):=fX hs he
  have hd1:aQ G e (.eN false []) d=some (.eN false (ps.map kpD)):=fX hd he
  rw [aKB hs1 a0A rfl (by rw [List.length_map];omega) (by rw [a6G,hk];rfl)]
  refine au0 hd1 hp (fun c G2 e2 k2=>bI.here (h1 c G2 e2 fun q u n z=>k2 q u n (fX z he))) fun c G2 e2 k2=>?_
  exists a6Q
  rw [ayM e2]
  walk_at "wr"
  by_cases c2:uX (pA ps lot 0) lot=[]
  · rw [c2,if_pos (by simp)]
    have s2:=k2 _ _ ne hs1
    exists sU s2
    rw [ayN s2 a0A rfl (by rw [a6G,hk];rfl),aED]
    refine bI.here (h2 c c2 _ aJ fun q u n n2 z=>?_)
    rw [cT n2]
    exact k2 q u n (fX z he)
  · rw [if_neg]
    · exact bI.here (h3 c c2 G2 e2 fun q u n z=>k2 q u n (fX z he))
    · have:=List.length_pos_iff.mpr c2
      simp
      omega
abbrev shG (A:bT) (x y g:Nat) (room:Int) (st:Addr):GO := .ins A.aD [("layout",plD x y g),("room",.int room),("stacks",.ref st)]
theorem aRM {sh:Addr} {x y g:Nat} (o:OkP x y g) {room:Int} (hr:1≤room∧room≤1000000) (h0:G sh=some (.ins A.aD [])) (h:∀ st G',G' sh=some (shG A x y g room st)→G' st=some (.eN true [])→(∀ q u,q≠sh→G q=some u→G' q=some u)→R .non G'):fP K A [.ref sh,plD x y g,.int room] G R EX:=by
  refine ⟨rfl,?_⟩
  show cY K A _ _ [some (.ref sh),some (plD x y g),some (.int room)] G
  exists cY
  refine agA o ?_
  exists qO
  refine a9P hr ?_
  exists yI
  rw [aq8 h0 (by decide)]
  generalize hG1:aQ G sh _=G1
  have s1:G1 sh=some (.ins A.aD [("layout",plD x y g)]):=by rw [← hG1,aJ];rfl
  exists yH
  rw [aq8 s1 (by show 1 < 1000;decide)]
  generalize hG2:aQ G1 sh _=G2
  have s2:G2 sh=some (.ins A.aD [("layout",plD x y g),("room",.int room)]):=by rw [← hG2,aJ];rfl
  exists yG
  intro st hst
  have ne:st≠sh:=fun z=>by rw [z,s2] at hst;cases hst
  rw [aq8 (fX s2 hst) (by show 2 < 1000;decide)]
  refine bI.here (h st _ (by rw [aJ];rfl) (by rw [cT ne,aJ]) fun q u n z=>?_)
  rw [cT n]
  refine fX ?_ hst
  rw [← hG2,cT n,← hG1,cT n]
  exact z
def amt (M:List (List Key×Addr)) (c:Addr→List (Int×Int)) (k:List Key) (lot:Int):Int:=match bB M k with
  | some d=>(bB (c d) lot).getD 0
  | none=>0
def hld (M:List (List Key×Addr)) (c:Addr→List (Int×Int)) (k:List Key):List (Int×Int):=match bB M k with
  | some d=>c d
  | none=>[]
structure SH (A:bT) (sh:Addr) (x y g:Nat) (room:Int) (st:Addr) (M:List (List Key×Addr)) (c:Addr→List (Int×Int)) (G:Gp):Prop where
  o:OkP x y g
  sh:G sh=some (shG A x y g room st)
  st:G st=some (.eN true (M.map ktD))
  ins:∀ z∈M,G z.2=some (.eN false ((c z.2).map kpD))
theorem SH.le {sh:Addr} {x y g:Nat} {room:Int} {st:Addr} {M:List (List Key×Addr)} {c:Addr→List (Int×Int)} {G':Gp} (s:SH A sh x y g room st M c G) (l:Le G G'):SH A sh x y g room st M c G':=⟨s.o,l _ _ s.sh,l _ _ s.st,fun z hz=>l _ _ (s.ins z hz)⟩
theorem SH.get {F:D→Gp→Prop} {sh:Addr} {x y g:Nat} {room:Int} {st:Addr} {M:List (List Key×Addr)} {c:Addr→List (Int×Int)} (s:SH A sh x y g room st M c G) {a p:Int} (h:∀ d G',Le G G'→G' d=some (.eN false ((hld M c (ky a p)).map kpD))→F (.ref d) G'):∀ e,G e=none→vV (.ref st) (.tup [.int a,.int p]) (aQ G e (.eN false [])) fun _ _ kvs k=>F ((bB kvs k).getD (.ref e)) (aQ G e (.eN false [])):=by
  intro e he
  have l:Le G (aQ G e (.eN false [])) := .new he
  rw [qC (l _ _ s.st) a0A rfl,a6G]
  unfold hld at h
  cases hv:bB M (ky a p) with
  | none=>rw [hv] at h;exact h e _ l aJ
  | some d=>rw [hv] at h;exact h d _ l (l _ _ (s.ins _ (asU hv)))
theorem au1 {sh:Addr} {x y g:Nat} {room:Int} {st:Addr} {M:List (List Key×Addr)} {c:Addr→List (Int×Int)} (s:SH A sh x y g room st M c G) {a p lot:Int} (hl:0≤lot∧lot≤999) (b:OkB x y a p) (h:∀ G',Le G G'→R (.int ((bB (hld M c (ky a p)) lot).getD 0)) G'):cA K A [.ref sh,.int lot,.tup [.int a,.int p]] G R EX:=by
  refine ⟨rfl,?_⟩
  have h':∀ G',Le G G'→bI R (.int ((bB (hld M c (ky a p)) lot).getD 0)) G':=fun G' l=>bI.here (h G' l)
  clear h
  show jL K A _ _ [some (.ref sh),some (.int lot),some (.tup [.int a,.int p])] G
  exists jL
  refine a1P hl ?_
  exists tZ
  rw [fH s.sh rfl]
  walk_at "wr"
  refine yQ s.o b ?_
  exists a1B
  rw [fH s.sh rfl]
  exists sU s.st
  refine s.get (F:=fun d G'=>a3X d G'∧vV d (.int lot) G' fun _ _ kvs k=>bI R ((bB kvs k).getD (.int 0)) G') fun d G1 l e1=>⟨by rw [sU e1];trivial,?_⟩
  rw [qC e1 yF rfl,a6H]
  have eg:((bB (hld M c (ky a p)) lot).map D.int).getD (.int 0) = .int ((bB (hld M c (ky a p)) lot).getD 0):=by cases bB (hld M c (ky a p)) lot <;> rfl
  rw [eg]
  exact h' G1 l
theorem aEM {sh:Addr} {x y g:Nat} {room:Int} {st:Addr} {M:List (List Key×Addr)} {c:Addr→List (Int×Int)} (s:SH A sh x y g room st M c G) {a p:Int} (b:OkB x y a p) (h:∀ G',Le G G'→R (.int ((hld M c (ky a p)).map (·.2)).sum) G'):fK K A [.ref sh,.tup [.int a,.int p]] G R EX:=by
  refine ⟨rfl,?_⟩
  have h':∀ G',Le G G'→bI R (.int ((hld M c (ky a p)).map (·.2)).sum) G':=fun G' l=>bI.here (h G' l)
  clear h
  show jK K A _ _ [some (.ref sh),some (.tup [.int a,.int p])] G
  exists jK
  rw [fH s.sh rfl]
  walk_at "wr"
  refine yQ s.o b ?_
  exists a1A
  rw [fH s.sh rfl]
  exists sU s.st
  refine s.get (F:=fun d G'=>a92 d G' (bI R)) fun d G1 l e1=>?_
  exact aKC e1 (h' G1 l)
theorem b05 {sh:Addr} {x y g:Nat} {room:Int} {st:Addr} {M:List (List Key×Addr)} {c:Addr→List (Int×Int)} (s:SH A sh x y g room st M c G) {a p:Int} (b:OkB x y a p) (hn:(hld M c (ky a p)).length < 2) (h:∀ qs r G',Le G G'→qs.Perm (hld M c (ky a p))→uY qs→G' r=some (.lst (qs.map prV))→R (.ref r) G'):pB K A [.ref sh,.tup [.int a,.int p]] G R EX:=by
  refine ⟨rfl,?_⟩
  have h':∀ qs r G',Le G G'→qs.Perm (hld M c (ky a p))→uY qs→G' r=some (.lst (qs.map prV))→bI R (.ref r) G':=fun qs r G' a b c d=>bI.here (h qs r G' a b c d)
  clear h
  show nP K A _ _ [some (.ref sh),some (.tup [.int a,.int p])] G
  exists nP
  rw [fH s.sh rfl]
  walk_at "wr"
  refine yQ s.o b ?_
  exists a5A
  rw [fH s.sh rfl]
  exists sU s.st
  refine s.get (F:=fun d G'=>a2J d G' (bI R)) fun d G1 l e1=>?_
  exact atN e1 hn fun qs p1 p2 r hr=>h' qs r _ (l.trans (.new hr)) p1 p2 aJ
theorem ahV {sh:Addr} {x y g:Nat} {room:Int} {st:Addr} {M:List (List Key×Addr)} {c:Addr→List (Int×Int)} (s:SH A sh x y g room st M c G) {a p am:Int} (b:OkB x y a p) (h0:room < ((hld M c (ky a p)).map (·.2)).sum+am→EX A.bO G) (h1:((hld M c (ky a p)).map (·.2)).sum+am≤room→∀ G',Le G G'→R .non G'):eU K A [.ref sh,.tup [.int a,.int p],.int am] G R EX:=by
  refine ⟨rfl,?_⟩
  show nF K A _ _ [some (.ref sh),some (.tup [.int a,.int p]),some (.int am)] G
  exists nF,iM s.sh (m := "filled") rfl
  refine aEM s b fun G1 l=>?_
  generalize ((hld M c (ky a p)).map (·.2)).sum=f at *
  walk_at "wr"
  rw [fH (l _ _ s.sh) rfl]
  walk_at "wr"
  refine aq6 (fun e=>?_) fun e=>?_
  · exact ⟨G,l,h0 (by simpa using e)⟩
  · exact bI.here (h1 (by simpa using e) G1 l)
theorem ae7 {sh:Addr} {x y g:Nat} {room:Int} {st:Addr} {M:List (List Key×Addr)} {c:Addr→List (Int×Int)} (s:SH A sh x y g room st M c G) {a p lot am:Int} (hl:0≤lot∧lot≤999) (b:OkB x y a p) (h0:(bB (hld M c (ky a p)) lot).getD 0 < am→EX A.aP G) (h1:am≤(bB (hld M c (ky a p)) lot).getD 0→∀ G',Le G G'→R .non G'):dO K A [.ref sh,.int lot,.tup [.int a,.int p],.int am] G R EX:=by
  refine ⟨rfl,?_⟩
  show m8 K A _ _ [some (.ref sh),some (.int lot),some (.tup [.int a,.int p]),some (.int am)] G
  exists m8,iM s.sh (m := "amount") rfl
  refine au1 s hl b fun G1 l=>?_
  generalize (bB (hld M c (ky a p)) lot).getD 0=f at *
  walk_at "wr"
  refine aq6 (fun e=>?_) fun e=>?_
  · exact ⟨G,l,h0 (by simpa using e)⟩
  · exact bI.here (h1 (by simpa using e) G1 l)
theorem aLY {sh:Addr} {x y g:Nat} {room:Int} {st:Addr} {M:List (List Key×Addr)} {c:Addr→List (Int×Int)} (s:SH A sh x y g room st M c G) {a p lot am:Int} (hl:0≤lot∧lot≤999) (b:OkB x y a p) (ha:1≤am∧am≤1000000) (h0:room < ((hld M c (ky a p)).map (·.2)).sum+am→EX A.bO G)
    (h1:((hld M c (ky a p)).map (·.2)).sum+am≤room→∀ (G1:Gp) (R':pX) (EX':bK),Le G G1→(∀ G2,R .non G2→R' .non G2)→lR K A [.ref st,.tup [.int a,.int p],.int lot,.int am] G1 R' EX'):dY K A [.ref sh,.int lot,.tup [.int a,.int p],.int am] G R EX:=by
  refine ⟨rfl,?_⟩
  show pH K A _ _ [some (.ref sh),some (.int lot),some (.tup [.int a,.int p]),some (.int am)] G
  exists pH
  refine a1P hl ?_
  exists zH
  rw [fH s.sh rfl]
  walk_at "wr"
  refine yQ s.o b ?_
  exists zG
  refine a9P ha ?_
  exists a7V,iM s.sh (m := "need_room") rfl
  refine ahV s b (fun e=>jW.here (h0 e)) fun e G1 l=>?_
  exists a7U
  rw [fH (l _ _ s.sh) rfl]
  walk_at "wr"
  exact h1 e G1 _ _ l fun G2 z=>bI.here z
theorem aRN {sh:Addr} {x y g:Nat} {room:Int} {st:Addr} {M:List (List Key×Addr)} {c:Addr→List (Int×Int)} (s:SH A sh x y g room st M c G) {a p lot am:Int} (hl:0≤lot∧lot≤999) (b:OkB x y a p) (ha:1≤am∧am≤1000000) (h0:(bB (hld M c (ky a p)) lot).getD 0 < am→EX A.aP G)
    (h1:am≤(bB (hld M c (ky a p)) lot).getD 0→∀ (G1:Gp) (R':pX) (EX':bK),Le G G1→(∀ G2,R .non G2→R' .non G2)→lR K A [.ref st,.tup [.int a,.int p],.int lot,.int (-am)] G1 R' EX'):fW K A [.ref sh,.int lot,.tup [.int a,.int p],.int am] G R EX:=by
  refine ⟨rfl,?_⟩
  show nO K A _ _ [some (.ref sh),some (.int lot),some (.tup [.int a,.int p]),some (.int am)] G
  exists nO
  refine a1P hl ?_
  exists wQ
  rw [fH s.sh rfl]
  walk_at "wr"
  refine yQ s.o b ?_
  exists wO
  refine a9P ha ?_
  exists a4Z,iM s.sh (m := "need_there") rfl
  refine ae7 s hl b (fun e=>jW.here (h0 e)) fun e G1 l=>?_
  exists a4Y
  rw [fH (l _ _ s.sh) rfl]
  walk_at "wr"
  exact h1 e G1 _ _ l fun G2 z=>bI.here z
abbrev cn (lot v:Int):Addr→List (Int×Int):=fun _=>[(lot,v)]
theorem jC {κ α:Type} [DecidableEq κ] {k:κ} {v:α}:bB [(k,v)] k=some v:=by
  unfold bB
  rw [if_pos rfl]
theorem ae8 {i v w:Int}:pA [(i,v)] i w=[(i,w)]:=by simp [pA,bB]
theorem drop_one {κ α:Type} [DecidableEq κ] {i:κ} {v:α}:uX [(i,v)] i=[]:=by simp [uX]
theorem aLZ {c:Addr→List (Int×Int)} {k:List Key}:hld [] c k=[]:=rfl
theorem aoA {c:Addr→List (Int×Int)} {k:List Key} {d:Addr}:hld [(k,d)] c k=c d:=by
  unfold hld
  rw [jC]
theorem aM0 {sh:Addr} {x y g:Nat} {room:Int} {st:Addr} {c:Addr→List (Int×Int)} (s:SH A sh x y g room st [] c G) {a p lot am:Int} (hl:0≤lot∧lot≤999) (b:OkB x y a p) (ha:1≤am∧am≤1000000) (h0:room < am→EX A.bO G)
    (h1:am≤room→∀ d G',SH A sh x y g room st [(ky a p,d)] (cn lot am) G'→(∀ q u,q≠st→G q=some u→G' q=some u)→R .non G'):dY K A [.ref sh,.int lot,.tup [.int a,.int p],.int am] G R EX:=by
  have ne:sh≠st:=fun z=>by have:=s.sh;rw [z,s.st] at this;cases this
  refine aLY s hl b ha (fun e=>h0 (by rw [aLZ] at e;simpa using e)) fun e G1 R' EX' l hR=>?_
  have e':am≤room:=by rw [aLZ] at e;simpa using e
  refine a73 (l _ _ s.st) (by simp) rfl (by omega) fun d G2 _ s2 d2 k2=>hR _ (h1 e' d G2 ⟨s.o,k2 _ _ ne (l _ _ s.sh),s2,fun z hz=>?_⟩ fun q u n z=>k2 q u n (l _ _ z))
  cases List.mem_singleton.mp hz
  exact d2
theorem b1F {sh:Addr} {x y g:Nat} {room:Int} {st d:Addr} {a p lot v am:Int} (s:SH A sh x y g room st [(ky a p,d)] (cn lot v) G) (hl:0≤lot∧lot≤999) (b:OkB x y a p) (ha:1≤am∧am≤1000000) (hv:0≤v) (h0:room < v+am→EX A.bO G)
    (h1:v+am≤room→∀ G',SH A sh x y g room st [(ky a p,d)] (cn lot (v+am)) G'→(∀ q u,q≠d→G q=some u→G' q=some u)→R .non G'):dY K A [.ref sh,.int lot,.tup [.int a,.int p],.int am] G R EX:=by
  have hd:=s.ins _ (List.mem_singleton.mpr rfl)
  have ne:sh≠d:=fun z=>by have:=s.sh;rw [z,hd] at this;cases this
  have ne2:st≠d:=fun z=>by have:=s.st;rw [z,hd] at this;cases this
  refine aLY s hl b ha (fun e=>h0 (by rw [aoA] at e;simpa using e)) fun e G1 R' EX' l hR=>?_
  have e':v+am≤room:=by rw [aoA] at e;simpa using e
  have en:(bB [(lot,v)] lot).getD 0+am=v+am:=by rw [jC];rfl
  refine a74 (l _ _ s.st) (by simp) jC (l _ _ hd) (by simp) (fun _ G2 d2 k2=>?_) (fun z=>by rw [en] at z;omega) (fun z=>by rw [en] at z;omega)
  refine hR _ (h1 e' G2 ⟨s.o,k2 _ _ ne (l _ _ s.sh),k2 _ _ ne2 (l _ _ s.st),fun z hz=>?_⟩ fun q u n z=>k2 q u n (l _ _ z))
  cases List.mem_singleton.mp hz
  rw [d2,en]
  rw [show pA (cn lot v (ky a p,d).2) lot (v+am)=[(lot,v+am)] from ae8]
theorem aRO {sh:Addr} {x y g:Nat} {room:Int} {st d:Addr} {a p lot v am:Int} (s:SH A sh x y g room st [(ky a p,d)] (cn lot v) G) (hl:0≤lot∧lot≤999) (b:OkB x y a p) (ha:1≤am∧am≤1000000) (h0:v < am→EX A.aP G)
    (h1:am < v→∀ G',SH A sh x y g room st [(ky a p,d)] (cn lot (v - am)) G'→(∀ q u,q≠d→G q=some u→G' q=some u)→R .non G')
    (h2:am=v→∀ G',SH A sh x y g room st [] (cn lot v) G'→(∀ q u,q≠d→q≠st→G q=some u→G' q=some u)→R .non G'):fW K A [.ref sh,.int lot,.tup [.int a,.int p],.int am] G R EX:=by
  have hd:=s.ins _ (List.mem_singleton.mpr rfl)
  have ne:sh≠d:=fun z=>by have:=s.sh;rw [z,hd] at this;cases this
  have ne2:st≠d:=fun z=>by have:=s.st;rw [z,hd] at this;cases this
  have ne3:sh≠st:=fun z=>by have:=s.sh;rw [z,s.st] at this;cases this
  have ea:(bB (hld [(ky a p,d)] (cn lot v) (ky a p)) lot).getD 0=v:=by rw [aoA,jC];rfl
  refine aRN s hl b ha (fun e=>h0 (by rw [ea] at e;exact e)) fun e G1 R' EX' l hR=>?_
  rw [ea] at e
  have en:(bB [(lot,v)] lot).getD 0+-am=v - am:=by rw [jC];show v+-am=_;omega
  refine a74 (l _ _ s.st) (by simp) jC (l _ _ hd) (by simp) (fun z G2 d2 k2=>?_) (fun z zd G2 s2 k2=>?_) (fun z zd=>?_)
  · rw [en] at z d2
    refine hR _ (h1 (by omega) G2 ⟨s.o,k2 _ _ ne (l _ _ s.sh),k2 _ _ ne2 (l _ _ s.st),fun z hz=>?_⟩ fun q u n z=>k2 q u n (l _ _ z))
    cases List.mem_singleton.mp hz
    rw [d2]
    rw [show pA (cn lot v (ky a p,d).2) lot (v - am)=[(lot,v - am)] from ae8]
  · rw [en] at z
    refine hR _ (h2 (by omega) G2 ⟨s.o,k2 _ _ ne ne3 (l _ _ s.sh),?_,fun z hz=>nomatch hz⟩ fun q u n n2 z=>k2 q u n n2 (l _ _ z))
    rw [s2,drop_one]
  · refine absurd ?_ zd
    rw [show pA (cn lot v (ky a p,d).2) lot 0=[(lot,0)] from ae8]
    exact drop_one
theorem aEN {st:Addr} (h:G st=some (.eN true (([]:List (List Key×Addr)).map ktD))) (k:∀ r,G r=none→R (.ref r) (aQ G r (.lst []))):a09 [.ref st] G R :=
  atO (ps:=[]) h rfl List.nodup_nil (by decide) fun qs p1 _ r hr=>by
    rw [aKE p1]
    exact k r hr
theorem aEO {st d:Addr} {a p:Int} (h:G st=some (.eN true ([(ky a p,d)].map ktD))) (k:∀ r,G r=none→R (.ref r) (aQ G r (.lst [.tup [.int a,.int p]]))):a09 [.ref st] G R :=
  atO (ps:=[(a,p)]) h rfl (by simp) (by simp) fun qs p1 _ r hr=>by
    rw [atP p1]
    exact k r hr
theorem aAJ {r:Addr} {i v:Int} (h:cH G r=some [.tup [.int i,.int v]]):a6F [.ref r] G R=∀ e,G e=none→R (.ref e) (aQ G e (.eN false ([(i,v)].map kpD))):=by
  unfold L2.a6F
  simp only [h]
  rfl
theorem aWQ {sh:Addr} {x y g:Nat} {room:Int} {st:Addr} {c:Addr→List (Int×Int)} (s:SH A sh x y g room st [] c G) {lot:Int} (hl:0≤lot∧lot≤999) (h:∀ r G',Le G G'→G' r=some (.lst [])→R (.ref r) G'):iQ K A [.ref sh,.int lot] G R EX:=by
  have big:10000 < sizeLine:=by decide
  refine ⟨rfl,?_⟩
  show eV K A _ _ [some (.ref sh),some (.int lot)] G
  exists eV
  refine a1P hl ?_
  exists u0
  rw [fH s.sh rfl]
  walk_at "wr"
  refine aEN s.st fun r hr=>?_
  rw [akI bM]
  refine aq7 (fun _=>true) (fun d=>d) (by show 0 < sizeLine;omega) bM (fun d hd=>nomatch hd) (fun d hd=>nomatch hd) fun q hq=>?_
  exact bI.here (h q _ ((Le.new hr).trans (.new hq)) aJ)
theorem aWR {sh:Addr} {x y g:Nat} {room:Int} {st d:Addr} {a p lot v:Int} (s:SH A sh x y g room st [(ky a p,d)] (cn lot v) G) (hl:0≤lot∧lot≤999) (h:∀ r G',Le G G'→G' r=some (.lst [.tup [.tup [.int a,.int p],.int v]])→R (.ref r) G'):iQ K A [.ref sh,.int lot] G R EX:=by
  have big:10000 < sizeLine:=by decide
  have hd:=s.ins _ (List.mem_singleton.mpr rfl)
  refine ⟨rfl,?_⟩
  show eV K A _ _ [some (.ref sh),some (.int lot)] G
  exists eV
  refine a1P hl ?_
  exists u0
  rw [fH s.sh rfl]
  walk_at "wr"
  refine aEO s.st fun r hr=>?_
  rw [akI bM]
  have l0:Le G (aQ G r (.lst [.tup [.int a,.int p]])) := .new hr
  have vs:bB ([(ky a p,d)].map ktD) (.inr (ky a p))=some (.ref d):=by rw [a6G,jC];rfl
  have vd:bB ((cn lot v (ky a p,d).2).map kpD) (.inl (.inl lot))=some (.int v):=by rw [a6H,show bB (cn lot v (ky a p,d).2) lot=some v from jC];rfl
  refine aq7 (fun _=>true) (fun _ => .tup [.tup [.int a,.int p],.int v]) (by show 1 < sizeLine;omega) bM (fun z hz G' l Q hQ=>?_) (fun z hz _ G' l Q hQ=>?_) fun q hq=>?_
  · cases List.mem_singleton.mp hz
    have l2:=l0.trans l
    walk_at "wr"
    rw [fH (l2 _ _ s.sh) rfl,adV (l2 _ _ s.st) a0A rfl vs,aRJ (l2 _ _ hd) yF rfl,vd]
    walk_at "wr"
    exact hQ _ (.refl _)
  · cases List.mem_singleton.mp hz
    have l2:=l0.trans l
    walk_at "wr"
    rw [fH (l2 _ _ s.sh) rfl,adV (l2 _ _ s.st) a0A rfl vs,adV (l2 _ _ hd) yF rfl vd]
    walk_at "wr"
    exact hQ _ (.refl _)
  · exact bI.here (h q _ (l0.trans (.new hq)) aJ)
theorem aXL {sh:Addr} {x y g:Nat} {room:Int} {st:Addr} {c:Addr→List (Int×Int)} (s:SH A sh x y g room st [] c G) (h:∀ t G',Le G G'→G' t=some (.eN true [])→R (.ref t) G'):nQ K A [.ref sh] G R EX:=by
  refine ⟨rfl,?_⟩
  show lV K A _ _ [some (.ref sh)] G
  exists lV
  rw [fH s.sh rfl]
  walk_at "wr"
  refine ⟨rfl,?_⟩
  show wN K A _ _ [some (.ref st),none,none] G
  exists wN
  intro t ht
  have l1:Le G (aQ G t (.eN true [])) := .new ht
  exists a6S
  refine aEN (l1 _ _ s.st) fun r hr=>?_
  rw [ag3 bM]
  refine akJ (fun k ρ G'=>ρ=[some (.ref st),some (.ref t),none]∧Le (aQ (aQ G t (.eN true [])) r (.lst [])) G') ⟨rfl,.refl _⟩ (fun k ρ G' h=>h.2 |> fun l=>a2K l bM) (fun k d ρ G' hd=>by simp at hd) fun ρ G' hh=>?_
  obtain ⟨rfl,l⟩:=hh
  exists a6R
  have l2:=(Le.new (o := .lst []) hr).trans l
  exact bI.here (bI.here (h t G' (l1.trans l2) (l2 _ _ aJ)))
theorem aKJ {sh:Addr} {x y g:Nat} {room:Int} {st d:Addr} {a p lot v:Int} (s:SH A sh x y g room st [(ky a p,d)] (cn lot v) G) (h:∀ t e G',Le G G'→G' t=some (.eN true ([(ky a p,e)].map ktD))→G' e=some (.eN false ([(lot,v)].map kpD))→R (.ref t) G'):nQ K A [.ref sh] G R EX:=by
  have big:10000 < sizeLine:=by decide
  have hd:=s.ins _ (List.mem_singleton.mpr rfl)
  refine ⟨rfl,?_⟩
  show lV K A _ _ [some (.ref sh)] G
  exists lV
  rw [fH s.sh rfl]
  walk_at "wr"
  refine ⟨rfl,?_⟩
  show wN K A _ _ [some (.ref st),none,none] G
  exists wN
  intro t ht
  have l1:Le G (aQ G t (.eN true [])) := .new ht
  have vs:bB ([(ky a p,d)].map ktD) (.inr (ky a p))=some (.ref d):=by rw [a6G,jC];rfl
  exists a6S
  refine aEO (l1 _ _ s.st) fun r hr=>?_
  have l2:Le (aQ G t (.eN true [])) (aQ (aQ G t (.eN true [])) r (.lst [.tup [.int a,.int p]])) := .new hr
  rw [ag3 bM]
  refine akJ (fun k ρ G'=>cH G' r=some [.tup [.int a,.int p]]∧(k=0→∃ r2,ρ=[some (.ref st),some (.ref t),r2]∧Le (aQ (aQ G t (.eN true [])) r (.lst [.tup [.int a,.int p]])) G')∧(k=1→∃ r2 e,ρ=[some (.ref st),some (.ref t),r2]∧Le G G'∧G' t=some (.eN true ([(ky a p,e)].map ktD))∧G' e=some (.eN false ([(lot,v)].map kpD)))) ⟨bM,fun _=>⟨_,rfl,.refl _⟩,fun z=>nomatch z⟩ (fun k ρ G' h=>h.1) (fun k d' ρ G' hd' hh=>?_) fun ρ G' hh=>?_
  · match k,hd',hh with
    | 0,hd',hh =>
      obtain ⟨r2,rfl,l⟩:=hh.2.1 rfl
      have ed:D.tup [.int a,.int p]=d':=by simpa using hd'
      subst ed
      have l3:=(l1.trans l2).trans l
      have tt:G' t=some (.eN true []):=l _ _ (l2 _ _ aJ)
      exists abO
      rw [adV (l3 _ _ s.st) a0A rfl vs]
      walk_at "wr"
      refine atN (ps:=[(lot,v)]) (l3 _ _ hd) (by simp) fun qs p1 _ r3 h3=>?_
      rw [atP p1]
      walk_at "wr"
      have lr:Le G' (aQ G' r3 (.lst [.tup [.int lot,.int v]])) := .new h3
      refine (show a6F [.ref r3] (aQ G' r3 (.lst [.tup [.int lot,.int v]])) _ from ?_)
      rw [aAJ bM]
      intro e he
      have le:Le _ (aQ (aQ G' r3 (.lst [.tup [.int lot,.int v]])) e (.eN false ([(lot,v)].map kpD))) := .new he
      walk_at "wr"
      have t3:=le _ _ (lr _ _ tt)
      have ne:e≠t:=fun z=>by rw [z] at he;rw [lr _ _ tt] at he;cases he
      have nr:r≠t:=fun z=>by rw [z] at hr;rw [aJ] at hr;cases hr
      rw [ayO t3 a0A rfl (by show 0 < sizeLine;omega)]
      refine ⟨?_,(fun z=>absurd z (by simp)),fun _=>⟨_,e,rfl,fun q u z=>?_,by rw [aJ];rfl,by rw [cT ne,aJ]⟩⟩
      · have z:=a2K le (a2K lr hh.1)
        unfold L2.cH at z ⊢
        rw [cT nr]
        exact z
      · have nq:q≠t:=fun w=>by rw [w,ht] at z;cases z
        rw [cT nq]
        exact le _ _ (lr _ _ (l3 _ _ z))
    | k+1,hd',_=>simp at hd'
  · obtain ⟨r2,e,rfl,l,t1,e1⟩:=hh.2.2 rfl
    exists a6R
    exact bI.here (bI.here (h t e G' l t1 e1))
def Bad (x y:Nat) (G:Gp) (k:Nat) (d:D):Prop:=kp G d∧(match k with
  | 0=>isW d 0 999=false
  | 3=>isW d 1 1000000=false
  | _=>isP d x 1 y=false)
def dfl (a p am:Int) (k:Nat):D:=match k with
  | 0 => .int 5
  | 3 => .int am
  | _ => .tup [.int a,.int p]
def It (x y:Nat) (a p am:Int) (G:Gp) (k:Nat) (w:Bool) (d:D):Prop:=(w=true∧Bad x y G k d)∨(w=false∧d=dfl a p am k)
theorem It.le {x y:Nat} {a p am:Int} {G':Gp} {k:Nat} {w:Bool} {d:D} (h:It x y a p am G k w d) (l:Le G G'):It x y a p am G' k w d:=by
  rcases h with ⟨e,b⟩ | ⟨e,b⟩
  · exact .inl ⟨e,b.1.le l,b.2⟩
  · exact .inr ⟨e,b⟩
def fst (w:Nat→Bool):List Nat→Option Nat
  | []=>none
  | k :: r=>if w k then some k else fst w r
def cls (A:bT) (k:Nat):Addr:=match k with
  | 0=>A.cL
  | 3=>A.aV
  | _=>A.cJ
section
variable {x y g:Nat} {a p am:Int} {w:Bool} {d:D}
theorem au2 (h:It x y a p am G 0 w d) (h0:w=true→EX A.cL G) (h1:w=false→R .non G):dI K A [d,.int 1000] G R EX:=by
  rcases h with ⟨e,b⟩ | ⟨e,b⟩
  · exact al4 b.1.1 (fun _=>h0 e) fun z=>by rw [b.2] at z;cases z
  · rw [b];exact a1P (by omega) (h1 e)
theorem aEP (ha:1≤am∧am≤1000000) (h:It x y a p am G 3 w d) (h0:w=true→EX A.aV G) (h1:w=false→R .non G):cO K A [d] G R EX:=by
  rcases h with ⟨e,b⟩ | ⟨e,b⟩
  · exact a4G b.1.1 (fun _=>h0 e) fun z=>by rw [b.2] at z;cases z
  · rw [b];exact a9P ha (h1 e)
theorem al6 {k:Nat} (hk:k=1∨k=2) (o:OkP x y g) (ob:OkB x y a p) (h:It x y a p am G k w d) (h0:w=true→EX A.cJ G) (h1:w=false→R .non G):cC K A [plD x y g,d] G R EX:=by
  rcases h with ⟨e,b⟩ | ⟨e,b⟩
  · rcases hk with rfl | rfl
    · exact acT o b.1.1 b.1.pr (fun _=>h0 e) fun z=>by rw [b.2] at z;cases z
    · exact acT o b.1.1 b.1.pr (fun _=>h0 e) fun z=>by rw [b.2] at z;cases z
  · rcases hk with rfl | rfl <;> (rw [b];exact yQ o ob (h1 e))
end
section
variable {sh:Addr} {x y g:Nat} {room:Int} {st:Addr} {M:List (List Key×Addr)} {c:Addr→List (Int×Int)} {a p am:Int} {w:Nat→Bool} {d0 d1 d2 d3:D}
theorem aKK (s:SH A sh x y g room st M c G) (ob:OkB x y a p) (ha:1≤am∧am≤1000000) (i0:It x y a p am G 0 (w 0) d0) (i1:It x y a p am G 1 (w 1) d1) (i3:It x y a p am G 3 (w 3) d3) (hn:fst w [0,1,3]≠none) (hx:∀ k,fst w [0,1,3]=some k→EX (cls A k) G):dY K A [.ref sh,d0,d1,d3] G R EX:=by
  refine ⟨rfl,?_⟩
  show pH K A _ _ [some (.ref sh),some d0,some d1,some d3] G
  exists pH
  refine au2 i0 (fun e=>jW.here (hx 0 (by simp [fst,e]))) fun e0=>?_
  exists zH
  rw [fH s.sh rfl]
  walk_at "wr"
  refine al6 (.inl rfl) s.o ob i1 (fun e=>jW.here (hx 1 (by simp [fst,e0,e]))) fun e1=>?_
  exists zG
  exact aEP ha i3 (fun e=>jW.here (hx 3 (by simp [fst,e0,e1,e]))) fun e3=>absurd (by simp [fst,e0,e1,e3]) hn
theorem aEQ (s:SH A sh x y g room st M c G) (ob:OkB x y a p) (ha:1≤am∧am≤1000000) (i0:It x y a p am G 0 (w 0) d0) (i1:It x y a p am G 1 (w 1) d1) (i3:It x y a p am G 3 (w 3) d3) (hn:fst w [0,1,3]≠none) (hx:∀ k,fst w [0,1,3]=some k→EX (cls A k) G):fW K A [.ref sh,d0,d1,d3] G R EX:=by
  refine ⟨rfl,?_⟩
  show nO K A _ _ [some (.ref sh),some d0,some d1,some d3] G
  exists nO
  refine au2 i0 (fun e=>jW.here (hx 0 (by simp [fst,e]))) fun e0=>?_
  exists wQ
  rw [fH s.sh rfl]
  walk_at "wr"
  refine al6 (.inl rfl) s.o ob i1 (fun e=>jW.here (hx 1 (by simp [fst,e0,e]))) fun e1=>?_
  exists wO
  exact aEP ha i3 (fun e=>jW.here (hx 3 (by simp [fst,e0,e1,e]))) fun e3=>absurd (by simp [fst,e0,e1,e3]) hn
theorem aAK (s:SH A sh x y g room st M c G) (ob:OkB x y a p) (ha:1≤am∧am≤1000000) (i0:It x y a p am G 0 (w 0) d0) (i1:It x y a p am G 1 (w 1) d1) (i2:It x y a p am G 2 (w 2) d2) (i3:It x y a p am G 3 (w 3) d3) (hn:fst w [0,1,2,3]≠none) (hx:∀ k,fst w [0,1,2,3]=some k→EX (cls A k) G):gK K A [.ref sh,d0,d1,d2,d3] G R EX:=by
  refine ⟨rfl,?_⟩
  show lU K A _ _ [some (.ref sh),some d0,some d1,some d2,some d3] G
  exists lU
  refine au2 i0 (fun e=>jW.here (hx 0 (by simp [fst,e]))) fun e0=>?_
  exists v9
  rw [fH s.sh rfl]
  walk_at "wr"
  refine al6 (.inl rfl) s.o ob i1 (fun e=>jW.here (hx 1 (by simp [fst,e0,e]))) fun e1=>?_
  exists v8
  rw [fH s.sh rfl]
  walk_at "wr"
  refine al6 (.inr rfl) s.o ob i2 (fun e=>jW.here (hx 2 (by simp [fst,e0,e1,e]))) fun e2=>?_
  exists v7
  exact aEP ha i3 (fun e=>jW.here (hx 3 (by simp [fst,e0,e1,e2,e]))) fun e3=>absurd (by simp [fst,e0,e1,e2,e3]) hn
theorem awJ (s:SH A sh x y g room st M c G) (ob:OkB x y a p) (i0:It x y a p am G 0 (w 0) d0) (i1:It x y a p am G 1 (w 1) d1) (hn:fst w [0,1]≠none) (hx:∀ k,fst w [0,1]=some k→EX (cls A k) G):cA K A [.ref sh,d0,d1] G R EX:=by
  refine ⟨rfl,?_⟩
  show jL K A _ _ [some (.ref sh),some d0,some d1] G
  exists jL
  refine au2 i0 (fun e=>jW.here (hx 0 (by simp [fst,e]))) fun e0=>?_
  exists tZ
  rw [fH s.sh rfl]
  walk_at "wr"
  exact al6 (.inl rfl) s.o ob i1 (fun e=>jW.here (hx 1 (by simp [fst,e0,e]))) fun e1=>absurd (by simp [fst,e0,e1]) hn
theorem aER (s:SH A sh x y g room st M c G) (ob:OkB x y a p) (i1:It x y a p am G 1 (w 1) d1) (hn:fst w [1]≠none) (hx:∀ k,fst w [1]=some k→EX (cls A k) G):pB K A [.ref sh,d1] G R EX:=by
  refine ⟨rfl,?_⟩
  show nP K A _ _ [some (.ref sh),some d1] G
  exists nP
  rw [fH s.sh rfl]
  walk_at "wr"
  exact al6 (.inl rfl) s.o ob i1 (fun e=>jW.here (hx 1 (by simp [fst,e]))) fun e1=>absurd (by simp [fst,e1]) hn
theorem awK (s:SH A sh x y g room st M c G) (ob:OkB x y a p) (i1:It x y a p am G 1 (w 1) d1) (hn:fst w [1]≠none) (hx:∀ k,fst w [1]=some k→EX (cls A k) G):fK K A [.ref sh,d1] G R EX:=by
  refine ⟨rfl,?_⟩
  show jK K A _ _ [some (.ref sh),some d1] G
  exists jK
  rw [fH s.sh rfl]
  walk_at "wr"
  exact al6 (.inl rfl) s.o ob i1 (fun e=>jW.here (hx 1 (by simp [fst,e]))) fun e1=>absurd (by simp [fst,e1]) hn
theorem awL (i0:It x y a p am G 0 (w 0) d0) (hn:fst w [0]≠none) (hx:∀ k,fst w [0]=some k→EX (cls A k) G):iQ K A [.ref sh,d0] G R EX:=by
  refine ⟨rfl,?_⟩
  show eV K A _ _ [some (.ref sh),some d0] G
  exists eV
  exact au2 i0 (fun e=>jW.here (hx 0 (by simp [fst,e]))) fun e0=>absurd (by simp [fst,e0]) hn
end
theorem aKL {sh:Addr} {x y g:Nat} {room:Int} {st d:Addr} {a p b q:Int} (s:SH A sh x y g room st [(ky a p,d)] (cn 0 room) G) (o1:OkB x y a p) (o2:OkB x y b q) (hr:1≤room) (h0:(a=b∧p=q)→∀ G',Le G G'→R .non G')
    (h1:¬ (a=b∧p=q)→∀ M c G',SH A sh x y g room st M c G'→bB (hld M c (ky b q)) 0=some 1→R .non G'):gK K A [.ref sh,.int 0,.tup [.int a,.int p],.tup [.int b,.int q],.int 1] G R EX:=by
  have hd:=s.ins _ (List.mem_singleton.mpr rfl)
  have n1:sh≠d:=fun z=>by have:=s.sh;rw [z,hd] at this;cases this
  have n2:st≠d:=fun z=>by have:=s.st;rw [z,hd] at this;cases this
  have n3:sh≠st:=fun z=>by have:=s.sh;rw [z,s.st] at this;cases this
  refine ⟨rfl,?_⟩
  show lU K A _ _ [some (.ref sh),some (.int 0),some (.tup [.int a,.int p]),some (.tup [.int b,.int q]),some (.int 1)] G
  exists lU
  refine a1P (by omega) ?_
  exists v9
  rw [fH s.sh rfl]
  walk_at "wr"
  refine yQ s.o o1 ?_
  exists v8
  rw [fH s.sh rfl]
  walk_at "wr"
  refine yQ s.o o2 ?_
  exists v7
  refine a9P (by omega) ?_
  exists a2Q,iM s.sh (m := "need_there") rfl
  have ea:(bB (hld [(ky a p,d)] (cn 0 room) (ky a p)) 0).getD 0=room:=by rw [aoA,jC];rfl
  refine ae7 s (by omega) o1 (fun e=>by rw [ea] at e;omega) fun _ G1 l1=>?_
  exists a2P
  refine ⟨by simp [aR],by simp [aR],?_⟩
  have en:eqP (.tup [.int a,.int p]) (.tup [.int b,.int q])=decide (a=b∧p=q):=by
    simp [eqP,wC]
    rfl
  rw [en]
  by_cases c:a=b∧p=q
  · rw [decide_eq_true c]
    walk_at "wr"
    exact bI.here (h0 c G1 l1)
  · rw [decide_eq_false c]
    have s1:=s.le l1
    have nk:ky a p≠ky b q:=fun e=>c (by injection e with e1 e2;injection e1 with e1;injection e2 with e2 _;injection e2 with e2;exact ⟨e1,e2⟩)
    have vn:bB [(ky a p,d)] (ky b q)=none:=by unfold bB;rw [if_neg nk];rfl
    have hn:hld [(ky a p,d)] (cn 0 room) (ky b q)=[]:=by unfold hld;rw [vn]
    exists iM s1.sh (m := "need_room") rfl
    refine ahV s1 o2 (fun e=>by rw [hn] at e;simp at e;omega) fun _ G2 l2=>?_
    have s2:=s1.le l2
    have hd2:=s2.ins _ (List.mem_singleton.mpr rfl)
    exists yJ
    rw [fH s2.sh rfl]
    walk_at "wr"
    have ev:(bB [((0:Int),room)] 0).getD 0+-1=room - 1:=by rw [jC];show room+-1=_;omega
    refine a74 s2.st (by simp) jC hd2 (by simp) (fun z G3 d3 k3=>?_) (fun z zd G3 s3 k3=>?_) (fun z zd=>?_)
    · rw [ev] at z d3
      exists qP
      rw [fH (k3 _ _ n1 s2.sh) rfl]
      walk_at "wr"
      refine a73 (k3 _ _ n2 s2.st) (by simp) vn (by omega) fun e G4 he s4 e4 k4=>?_
      refine bI.here (h1 c [(ky a p,d),(ky b q,e)] (fun z=>if z=e then [(0,1)] else [(0,room - 1)]) G4 ⟨s.o,k4 _ _ n3 (k3 _ _ n1 s2.sh),s4,fun z hz=>?_⟩ ?_)
      · rcases List.mem_cons.mp hz with rfl | hz
        · have ne:d≠e:=fun w=>by rw [← w,d3] at he;cases he
          rw [show (if d=e then [((0:Int),(1:Int))] else [(0,room - 1)])=[(0,room - 1)] from if_neg ne]
          rw [k4 _ _ (Ne.symm n2) d3]
          rw [show pA (cn 0 room (ky a p,d).2) 0 (room - 1)=[(0,room - 1)] from ae8]
        · cases List.mem_singleton.mp hz
          rw [show (if e=e then [((0:Int),(1:Int))] else [(0,room - 1)])=[(0,1)] from if_pos rfl]
          exact e4
      · have ve:bB [(ky a p,d),(ky b q,e)] (ky b q)=some e:=by
          unfold bB
          rw [if_neg nk]
          exact jC
        unfold hld
        rw [ve]
        show bB (if e=e then [((0:Int),(1:Int))] else [(0,room - 1)]) 0=some 1
        rw [if_pos rfl]
        exact jC
    · rw [ev] at z
      exists qP
      rw [fH (k3 _ _ n1 n3 s2.sh) rfl]
      walk_at "wr"
      rw [drop_one] at s3
      refine a73 s3 (by simp) rfl (by omega) fun e G4 he s4 e4 k4=>?_
      refine bI.here (h1 c [(ky b q,e)] (cn 0 1) G4 ⟨s.o,k4 _ _ n3 (k3 _ _ n1 n3 s2.sh),s4,fun z hz=>?_⟩ ?_)
      · cases List.mem_singleton.mp hz
        exact e4
      · rw [aoA]
        exact jC
    · refine absurd ?_ zd
      rw [show pA (cn 0 room (ky a p,d).2) 0 0=[(0,0)] from ae8]
      exact drop_one
theorem a75 {e C:Addr} {b0 b1 b2 b3 b4 b5:Bool} {j:Nat} (he:G e=some (.exn C)) (ec:ExC K C) (kv:PySem.W.kitOne K (.ref C) (.type "ValueError")=some true) (k0:PySem.W.kitOne K (.ref C) (.ref A.bR)=some b0) (k1:PySem.W.kitOne K (.ref C) (.ref A.cL)=some b1) (k2:PySem.W.kitOne K (.ref C) (.ref A.cJ)=some b2) (k3:PySem.W.kitOne K (.ref C) (.ref A.aV)=some b3) (k4:PySem.W.kitOne K (.ref C) (.ref A.aP)=some b4) (k5:PySem.W.kitOne K (.ref C) (.ref A.bO)=some b5)
    (h1:(([D.bl b0,.bl b1,.bl b2,.bl b3]++[D.bl b4,.bl b5]).filter aCO).length=1) (hj:([D.bl b0,.bl b1,.bl b2,.bl b3]++[.bl b4,.bl b5])[j]?=some (.bl true)) (hn:∀ m,m < j→([D.bl b0,.bl b1,.bl b2,.bl b3]++[.bl b4,.bl b5])[m]?≠some (.bl true)) (h:∀ G',Le G G'→R (.tup [.str "refused",.int j]) G'):d7 K A [.ref e] G R EX:=by
  have big:10000 < sizeLine:=by decide
  refine ⟨rfl,?_⟩
  have h':∀ G',Le G G'→bI R (.tup [.str "refused",.int j]) G':=fun G' l=>bI.here (h G' l)
  clear h
  show xT K A _ _ [some (.ref e),none] G
  exists xT
  refine a07 he ec k0 ?_
  walk_at "wr"
  refine a07 he ec k1 ?_
  walk_at "wr"
  refine a07 he ec k2 ?_
  walk_at "wr"
  refine a07 he ec k3 ?_
  walk_at "wr"
  intro p hp
  have l1:Le G (aQ G p (.lst [.bl b0,.bl b1,.bl b2,.bl b3])) := .new hp
  exists a7Y
  refine a07 (l1 _ _ he) ec k4 ?_
  walk_at "wr"
  refine a07 (l1 _ _ he) ec k5 ?_
  walk_at "wr"
  intro q hq
  have l2:=l1.trans (Le.new (o := .lst [.bl b4,.bl b5]) hq)
  rw [aWF (fX aJ hq) aJ (by show 4+2≤sizeLine;omega)]
  intro r hr
  have l3:=l2.trans (Le.new (o := .lst ([.bl b0,.bl b1,.bl b2,.bl b3]++[.bl b4,.bl b5])) hr)
  exists a7X
  refine aJQ (l3 _ _ he) ec kv ?_
  walk_at "wr"
  rw [akI bM]
  refine aq7 aCO (fun d=>d) (by show 6 < sizeLine;omega) bM (fun d hd G' l Q hQ=>?_) (fun d hd _ G' l Q hQ=>?_) fun s hs=>?_
  · have hb:∃ b,d = .bl b:=by
      have hd:d∈[D.bl b0,.bl b1,.bl b2,.bl b3]++[.bl b4,.bl b5]:=hd
      simp only [List.cons_append,List.nil_append,List.mem_cons,List.not_mem_nil,or_false] at hd
      rcases hd with rfl | rfl | rfl | rfl | rfl | rfl <;> exact ⟨_,rfl⟩
    obtain ⟨b,rfl⟩:=hb
    walk_at "wr"
    exact hQ _ (.refl _)
  · walk_at "wr"
    exact hQ _ (.refl _)
  · rw [apR bM]
    walk_at "wr"
    rw [if_neg (by rw [show (Src.items (.lst r ([D.bl b0,.bl b1,.bl b2,.bl b3]++[.bl b4,.bl b5])))=[D.bl b0,.bl b1,.bl b2,.bl b3]++[.bl b4,.bl b5] from rfl,h1];decide)]
    exists a7W
    have l4:=Le.new (o := .lst (((Src.items (.lst r ([D.bl b0,.bl b1,.bl b2,.bl b3]++[.bl b4,.bl b5]))).filter aCO).map fun d=>d)) hs
    have lr:=a2K l4 (bM (xs:=[D.bl b0,.bl b1,.bl b2,.bl b3]++[.bl b4,.bl b5]))
    rw [aJA,lr]
    refine ⟨rfl,?_⟩
    refine aAG lr rfl j hj hn ?_
    walk_at "wr"
    exact h' _ (l3.trans l4)
theorem awM (T:Txt K mg A) {e:Addr} (he:G e=some (.exn A.cL)) (h:∀ G',Le G G'→R (.tup [.str "refused",.int 1]) G'):d7 K A [.ref e] G R EX :=
  a75 (j:=1) he T.ayX T.a5K T.nZ T.pN T.pL T.jN T.iU T.o7 rfl rfl (by intro m hm;match m,hm with | 0,_=>simp) h
theorem acU (T:Txt K mg A) {e:Addr} (he:G e=some (.exn A.cJ)) (h:∀ G',Le G G'→R (.tup [.str "refused",.int 2]) G'):d7 K A [.ref e] G R EX :=
  a75 (j:=2) he T.ayW T.a5J T.nW T.pK T.pJ T.jM T.iT T.nY rfl rfl (by intro m hm;match m,hm with | 0,_=>simp | 1,_=>simp) h
theorem al7 (T:Txt K mg A) {e:Addr} (he:G e=some (.exn A.aV)) (h:∀ G',Le G G'→R (.tup [.str "refused",.int 3]) G'):d7 K A [.ref e] G R EX :=
  a75 (j:=3) he T.al2 T.uO T.iV T.jP T.jO T.fU T.eZ T.iW rfl rfl (by intro m hm;match m,hm with | 0,_=>simp | 1,_=>simp | 2,_=>simp) h
theorem au3 (T:Txt K mg A) {e:Addr} (he:G e=some (.exn A.bR)) (h:∀ G',Le G G'→R (.tup [.str "refused",.int 0]) G'):d7 K A [.ref e] G R EX :=
  a75 (j:=0) he T.atX T.a0K T.lW T.nU T.nT T.iR T.gO T.lX rfl rfl (by intro m hm;omega) h
def num (k:Nat):Int:=match k with
  | 0=>1
  | 3=>3
  | _=>2
theorem aKM (T:Txt K mg A) (k:Nat):PySem.W.subIn K (.ref (cls A k)) (.ref A.aK)=some true:=by
  match k with
  | 0=>exact T.gP
  | 1=>exact T.d8
  | 2=>exact T.d8
  | 3=>exact T.cQ
  | k+4=>exact T.d8
theorem awN (T:Txt K mg A) {e:Addr} {k:Nat} (he:G e=some (.exn (cls A k))) (h:∀ G',Le G G'→R (.tup [.str "refused",.int (num k)]) G'):d7 K A [.ref e] G R EX:=by
  match k,he,h with
  | 0,he,h=>exact awM T he h
  | 1,he,h=>exact acU T he h
  | 2,he,h=>exact acU T he h
  | 3,he,h=>exact al7 T he h
  | k+4,he,h=>exact acU T he h
def wnt (way:Nat):List Nat:=match way with
  | 0=>[0,1,3]
  | 1=>[0,1,3]
  | 2=>[0,1,2,3]
  | 3=>[0,1]
  | 4=>[1]
  | 5=>[1]
  | _=>[0]
section
variable {sh:Addr} {x y g:Nat} {room:Int} {st:Addr} {M:List (List Key×Addr)} {c:Addr→List (Int×Int)} {a p am:Int} {w:Nat→Bool} {d0 d1 d2 d3:D}
theorem aAL (s:SH A sh x y g room st M c G) (ob:OkB x y a p) (ha:1≤am∧am≤1000000) {way:Nat} (hw:way < 7) (i0:It x y a p am G 0 (w 0) d0) (i1:It x y a p am G 1 (w 1) d1) (i2:It x y a p am G 2 (w 2) d2) (i3:It x y a p am G 3 (w 3) d3) (hn:fst w (wnt way)≠none) (hx:∀ k,fst w (wnt way)=some k→EX (cls A k) G):xV K A [.ref sh,.int (way:Int),d0,d1,d2,d3] G R EX:=by
  refine ⟨rfl,?_⟩
  have hx':∀ k,fst w (wnt way)=some k→jW EX (cls A k) G:=fun k e=>jW.here (hx k e)
  match way,hw,hn,hx' with
  | 0,_,hn,hx' =>
    show bV K A _ _ [some (.ref sh),some (.int 0),some d0,some d1,some d2,some d3] G
    exists bV,iM s.sh (m := "put") rfl
    exact aKK s ob ha i0 i1 i3 hn hx'
  | 1,_,hn,hx' =>
    show bV K A _ _ [some (.ref sh),some (.int 1),some d0,some d1,some d2,some d3] G
    exists bV,lF,iM s.sh (m := "take") rfl
    exact aEQ s ob ha i0 i1 i3 hn hx'
  | 2,_,hn,hx' =>
    show bV K A _ _ [some (.ref sh),some (.int 2),some d0,some d1,some d2,some d3] G
    exists bV,lF,nR,iM s.sh (m := "shift") rfl
    exact aAK s ob ha i0 i1 i2 i3 hn hx'
  | 3,_,hn,hx' =>
    show bV K A _ _ [some (.ref sh),some (.int 3),some d0,some d1,some d2,some d3] G
    exists bV,lF,nR,qR,iM s.sh (m := "amount") rfl
    exact awJ s ob i0 i1 hn hx'
  | 4,_,hn,hx' =>
    show bV K A _ _ [some (.ref sh),some (.int 4),some d0,some d1,some d2,some d3] G
    exists bV,lF,nR,qR,vD,iM s.sh (m := "held") rfl
    exact aER s ob i1 hn hx'
  | 5,_,hn,hx' =>
    show bV K A _ _ [some (.ref sh),some (.int 5),some d0,some d1,some d2,some d3] G
    exists bV,lF,nR,qR,vD,a1C,iM s.sh (m := "filled") rfl
    exact awK s ob i1 hn hx'
  | 6,_,hn,hx' =>
    show bV K A _ _ [some (.ref sh),some (.int 6),some d0,some d1,some d2,some d3] G
    exists bV,lF,nR,qR,vD,a1C,a9B,iM s.sh (m := "places") rfl
    exact awL i0 hn hx'
  | n+7,hw,_,_=>omega
theorem aES (T:Txt K mg A) (s:SH A sh x y g room st M c G) (ob:OkB x y a p) (ha:1≤am∧am≤1000000) {way:Nat} (hw:way < 7) {q:Addr} (hq:G q=some (.lst [d0,d1,d2,d3])) (i0:It x y a p am G 0 (w 0) d0) (i1:It x y a p am G 1 (w 1) d1) (i2:It x y a p am G 2 (w 2) d2) (i3:It x y a p am G 3 (w 3) d3) {k:Nat} (hk:fst w (wnt way)=some k) (h:∀ G',Le G G'→R (.tup [.str "refused",.int (num k)]) G'):a0F K A [.ref sh,.int (way:Int),.ref q] G R EX:=by
  refine ⟨rfl,?_⟩
  have h':∀ G',Le G G'→bI R (.tup [.str "refused",.int (num k)]) G':=fun G' l=>bI.here (h G' l)
  clear h
  show a2T K A _ _ [some (.ref sh),some (.int (way:Int)),some (.ref q),none] G
  exists a2T
  rw [oK (m7 hq) (d:=d0) rfl]
  walk_at "wr"
  rw [oK (m7 hq) (d:=d1) rfl]
  walk_at "wr"
  rw [oK (m7 hq) (d:=d2) rfl]
  walk_at "wr"
  rw [oK (m7 hq) (d:=d3) rfl]
  walk_at "wr"
  refine aAL s ob ha hw i0 i1 i2 i3 (by rw [hk];simp) fun k2 e2=>?_
  rw [hk] at e2
  cases e2
  refine ⟨aKM T k,fun z hz=>?_⟩
  walk_at "wr"
  exact awN T aJ fun G' l=>h' G' ((Le.new hz).trans l)
end
theorem aAM (T:Txt K mg A) {d r:D} (hd:kp G d) (no:ag9 d=false) (h:∀ G',Le G G'→R (.tup [.str "refused",.int 0]) G'):rP K A [d,r] G R EX:=by
  refine ⟨rfl,?_⟩
  have h':∀ G',Le G G'→bI R (.tup [.str "refused",.int 0]) G':=fun G' l=>bI.here (h G' l)
  clear h
  show uL K A _ _ [some d,some r,none] G
  exists uL
  intro sh hsh
  have l1:=Le.new (o := .ins A.aD []) hsh
  refine ⟨rfl,?_⟩
  show cY K A _ _ [some (.ref sh),some d,some r] _
  exists cY
  refine ahT (ayL l1 hd.1) (hd.le l1).pl (fun _=>jW.here ⟨T.fQ,fun z hz=>?_⟩) fun e=>by rw [no] at e;cases e
  walk_at "wr"
  exact au3 T aJ fun G' l=>h' G' ((l1.trans (.new hz)).trans l)
theorem aET (T:Txt K mg A) {x y g:Nat} (o:OkP x y g) {d:D} (hd:kp G d) (no:isW d 1 1000000=false) (h:∀ G',Le G G'→R (.tup [.str "refused",.int 3]) G'):rP K A [plD x y g,d] G R EX:=by
  refine ⟨rfl,?_⟩
  have h':∀ G',Le G G'→bI R (.tup [.str "refused",.int 3]) G':=fun G' l=>bI.here (h G' l)
  clear h
  show uL K A _ _ [some (plD x y g),some d,none] G
  exists uL
  intro sh hsh
  have l1:=Le.new (o := .ins A.aD []) hsh
  refine ⟨rfl,?_⟩
  show cY K A _ _ [some (.ref sh),some (plD x y g),some d] _
  exists cY
  refine agA o ?_
  exists qO
  refine a4G (ayL l1 hd.1) (fun _=>jW.here ⟨T.cQ,fun z hz=>?_⟩) fun e=>by rw [no] at e;cases e
  walk_at "wr"
  exact al7 T aJ fun G' l=>h' G' ((l1.trans (.new hz)).trans l)
theorem aM1 {x y g:Nat} (o:OkP x y g) {k:Nat} (hk:k < 4) {cc:Int} (h:∀ d G',Le G G'→Bad x y G' k d→R d G'):yK K A [.int (k:Int),.int cc,plD x y g] G R EX:=by
  obtain ⟨o1,o2,o3,o4,o5,o6⟩:=o
  have e6:(10:Int) ^ Int.toNat 6=1000000:=by decide
  have e9:(10:Int) ^ Int.toNat 9=1000000000:=by decide
  have e12:(10:Int) ^ Int.toNat 12=1000000000000:=by decide
  refine ⟨rfl,?_⟩
  have h':∀ d G',Le G G'→Bad x y G' k d→bI R d G':=fun d G' a b=>bI.here (h d G' a b)
  clear h
  have bins:(k=1∨k=2)→a6U K A (fun _=>jW EX) { nx:=fun _ G'=>bI R D.non G',rt:=bI R } [some (.int (k:Int)),some (.int cc),some (plD x y g),none] G:=by
    intro hk2
    unfold plD
    exists a6U
    intro q1 h1 q2 h2
    have l1:=Le.new (o := .lst [.int 0,.int 1]) h1
    have l2:=Le.new (o := .lst [.tup [.int x,.int 1],.tup [.int 0,.int 0],.tup [.int 0,.int (y+1)],.tup [.int (-1),.int 1],.non,.tup [.int 0,.int 1,.int 1],.ref q1,.tup [.bl true,.int 1]]) h2
    exists adZ
    have mk:∀ d,kp _ d→isP d x 1 y=false→bI R d _:=fun d a b=>h' d _ (l1.trans l2) ⟨a,by rcases hk2 with rfl | rfl <;> exact b⟩
    refine ag2 bM (by omega) (by show cc % 8 < 8;omega) ?_
    refine all_cons (mk _ (a1O (all_cons rfl (all_cons rfl all_nil))) (by rw [aEK,decide_eq_false (show ¬ (x:Int)≤x - 1 by omega)];simp)) ?_
    refine all_cons (mk _ (a1O (all_cons rfl (all_cons rfl all_nil))) (by simp [isP,isW])) ?_
    refine all_cons (mk _ (a1O (all_cons rfl (all_cons rfl all_nil))) (by simp [isP,isW];try omega)) ?_
    refine all_cons (mk _ (a1O (all_cons rfl (all_cons rfl all_nil))) (by simp [isP,isW])) ?_
    refine all_cons (mk _ (sY aQW (by simp)) rfl) ?_
    refine all_cons (mk _ (a1O (all_cons rfl (all_cons rfl (all_cons rfl all_nil)))) rfl) ?_
    refine all_cons (mk _ (sY (akH (l2 _ _ aJ)) (by simp)) rfl) ?_
    refine all_cons (mk _ (a1O (all_cons rfl (all_cons rfl all_nil))) (by simp [isP,isW])) all_nil
  match k,hk,h',bins with
  | 0,_,h',_ =>
    show mZ K A _ _ [some (.int 0),some (.int cc),some (plD x y g),none] G
    exists mZ
    intro q1 h1 q2 h2 q3 h3
    have l1:=Le.new (o := .lst [.int 1]) h1
    have l2:=Le.new (o := .eN false []) h2
    rw [e9]
    have l3:=Le.new (o := .lst [.int (-1),.int 1000,.bl true,.non,.str "1",.int 1000000000,.tup [.int 1],.bl false,.ref q1,.ref q2]) h3
    have mk:∀ d,kp _ d→isW d 0 999=false→bI R d _:=fun d a b=>h' d _ ((l1.trans l2).trans l3) ⟨a,b⟩
    refine ag2 bM (by omega) (by show cc % 10 < 10;omega) ?_
    refine all_cons (mk _ (sY rfl (by simp)) (by simp [isW])) ?_
    refine all_cons (mk _ (sY rfl (by simp)) (by simp [isW])) ?_
    refine all_cons (mk _ (sY rfl (by simp)) rfl) ?_
    refine all_cons (mk _ (sY rfl (by simp)) rfl) ?_
    refine all_cons (mk _ (sY rfl (by simp)) rfl) ?_
    refine all_cons (mk _ (sY rfl (by simp)) (by simp [isW])) ?_
    refine all_cons (mk _ (a1O (all_cons rfl all_nil)) rfl) ?_
    refine all_cons (mk _ (sY rfl (by simp)) rfl) ?_
    refine all_cons (mk _ (sY (akH (l3 _ _ (l2 _ _ aJ))) (by simp)) rfl) ?_
    refine all_cons (mk _ (sY (aQX (l3 _ _ aJ)) (by simp)) rfl) all_nil
  | 3,_,h',_ =>
    show mZ K A _ _ [some (.int 3),some (.int cc),some (plD x y g),none] G
    exists mZ,a0D
    intro q1 h1 q2 h2
    have l1:=Le.new (o := .lst [.int 1]) h1
    rw [e6,e12]
    have l2:=Le.new (o := .lst [.int 0,.int (-1),.int (1000000+1),.bl true,.non,.str "1",.int 1000000000000,.ref q1]) h2
    have mk:∀ d,kp _ d→isW d 1 1000000=false→bI R d _:=fun d a b=>h' d _ (l1.trans l2) ⟨a,b⟩
    refine ag2 bM (by omega) (by show cc % 8 < 8;omega) ?_
    refine all_cons (mk _ (sY rfl (by simp)) (by simp [isW])) ?_
    refine all_cons (mk _ (sY rfl (by simp)) (by simp [isW])) ?_
    refine all_cons (mk _ (sY rfl (by simp)) (by simp [isW])) ?_
    refine all_cons (mk _ (sY rfl (by simp)) rfl) ?_
    refine all_cons (mk _ (sY rfl (by simp)) rfl) ?_
    refine all_cons (mk _ (sY rfl (by simp)) rfl) ?_
    refine all_cons (mk _ (sY rfl (by simp)) (by simp [isW])) ?_
    refine all_cons (mk _ (sY (akH (l2 _ _ aJ)) (by simp)) rfl) all_nil
  | 1,_,_,bins =>
    show mZ K A _ _ [some (.int 1),some (.int cc),some (plD x y g),none] G
    exists mZ,a0D
    exact bins (.inl rfl)
  | 2,_,_,bins =>
    show mZ K A _ _ [some (.int 2),some (.int cc),some (plD x y g),none] G
    exists mZ,a0D
    exact bins (.inr rfl)
  | n+4,hk,_,_=>omega
def HS (G:Gp) (p:Addr) (xs:List D) (G':Gp):Prop:=G' p=some (.lst xs)∧∀ q u,q≠p→G q=some u→G' q=some u
theorem HS.le {p:Addr} {xs:List D} {G':Gp} (h:HS G p xs G'):Le (aQ G p (.lst xs)) G':=fun q u e=>by
  by_cases c:q=p
  · subst c
    rw [aJ] at e
    exact e ▸ h.1
  · rw [cT c] at e
    exact h.2 q u c e
theorem HS.new {p q:Addr} {xs:List D} {G':Gp} {o:GO} (h:HS G p xs G') (hq:G' q=none):HS G p xs (aQ G' q o):=⟨fX h.1 hq,fun r u n e=>fX (h.2 r u n e) hq⟩
theorem HS.trans {p:Addr} {xs ys:List D} {G' G2:Gp} (h:HS G p xs G') (h2:HS G' p ys G2):HS G p ys G2:=⟨h2.1,fun r u n e=>h2.2 r u n (h.2 r u n e)⟩
theorem HS.put {p:Addr} {xs ys:List D} (h:G p=some (.lst xs)):HS G p ys (aQ G p (.lst ys)):=⟨aJ,fun r u n e=>by rw [cT n];exact e⟩
theorem HS.more {p:Addr} {xs:List D} {G' G2:Gp} (h:HS G p xs G') (l:Le G' G2):HS G p xs G2:=⟨l _ _ h.1,fun r u n e=>l _ _ (h.2 r u n e)⟩
theorem HS.leG {p:Addr} {xs:List D} {G':Gp} (h:HS G p xs G') (hp:G p=none):Le G G':=fun r u e=>h.2 r u (fun z=>by subst z;rw [hp] at e;cases e) e
theorem HS.mk0 {p:Addr} {xs:List D}:HS G p xs (aQ G p (.lst xs)):=⟨aJ,fun r u n e=>by rw [cT n];exact e⟩
theorem HS.snd {p:Addr} {xs ys:List D} {G':Gp} (h:HS G p xs G'):HS G p ys (aQ G' p (.lst ys)):=h.trans (.put h.1)
theorem aKO {xs:List D}:arU (.tup xs) .non G R=R (.bl false) G:=rfl
theorem aEU {w:Nat→Bool} {W:List Nat} {j k:Nat} (h:W[j]?=some k):fst w (W.drop j)=if w k then some k else fst w (W.drop (j+1)):=by
  obtain ⟨hj,rfl⟩:=List.getElem?_eq_some_iff.mp h
  rw [List.drop_eq_getElem_cons hj]
  rfl
theorem aEV {w:Nat→Bool} {k:Nat} (hk:k < 4):atI [D.bl (w 0),.bl (w 1),.bl (w 2),.bl (w 3)] (k:Int)=some (.bl (w k)):=by
  rw [acA]
  match k,hk with
  | 0,_=>rfl
  | 1,_=>rfl
  | 2,_=>rfl
  | 3,_=>rfl
theorem aRP {k:Nat} (hk:k < 4):atI [D.int 1,.int 2,.int 2,.int 3] (k:Int)=some (.int (num k)):=by
  rw [acA]
  match k,hk with
  | 0,_=>rfl
  | 1,_=>rfl
  | 2,_=>rfl
  | 3,_=>rfl
theorem a1Q {F:nA} {ex:aW→bK} {w:Nat→Bool} {W:List Nat} (hW:∀ k∈W,k < 4) {r0:Option D} {qb q:Addr} (hb:G qb=some (.lst [.bl (w 0),.bl (w 1),.bl (w 2),.bl (w 3)])) (hq:cH G q=some (W.map fun k => .int (k:Int))) (h0:fst w W=none→∀ G',Le G G'→F.rt .non G') (h1:∀ k,fst w W=some k→∀ G',Le G G'→F.rt (.tup [.str "refused",.int (num k)]) G'):a6W K A ex F [r0,some (.ref qb),some (.ref q),none] G:=by
  exists a6W
  rw [ag3 hq]
  refine akJ (fun j ρ G'=>∃ r3,ρ=[r0,some (.ref qb),some (.ref q),r3]∧Le G G'∧fst w W=fst w (W.drop j)) ⟨_,rfl,.refl _,rfl⟩ (fun j ρ G' h=>a2K h.choose_spec.2.1 hq) (fun j d ρ G' hd h=>?_) fun ρ G' h=>?_
  · obtain ⟨_,rfl,l,e⟩:=h
    rw [List.getElem?_map] at hd
    obtain ⟨k,hk,rfl⟩:=Option.map_eq_some_iff.mp hd
    have k4:=hW k (List.mem_of_getElem? hk)
    rw [aEU hk] at e
    exists abT
    rw [oK (m7 (l _ _ hb)) (aEV k4)]
    cases c:w k with
    | true =>
      rw [c,if_pos rfl] at e
      walk_at "wr"
      intro p hp
      rw [oK bM (aRP k4)]
      walk_at "wr"
      exact h1 k e _ (l.trans (.new hp))
    | false =>
      rw [c,if_neg (by decide)] at e
      walk_at "wr"
      exact ⟨_,rfl,l,e⟩
  · obtain ⟨_,rfl,l,e⟩:=h
    rw [List.length_map,List.drop_length] at e
    exists ae0
    exact h0 e G' l
theorem acV (way:Nat):∀ k∈wnt way,k < 4:=by
  match way with
  | 0=>decide
  | 1=>decide
  | 2=>decide
  | 3=>decide
  | 4=>decide
  | 5=>decide
  | n+6=>show ∀ k∈[0],k < 4;decide
theorem aWS {w:Nat→Bool} {way:Nat} (hw:way < 7) {qb:Addr} (hb:G qb=some (.lst [.bl (w 0),.bl (w 1),.bl (w 2),.bl (w 3)])) (h0:fst w (wnt way)=none→∀ G',Le G G'→R .non G') (h1:∀ k,fst w (wnt way)=some k→∀ G',Le G G'→R (.tup [.str "refused",.int (num k)]) G'):a2V K A [.int (way:Int),.ref qb] G R EX:=by
  refine ⟨rfl,?_⟩
  show a6X K A _ _ [some (.int (way:Int)),some (.ref qb),none,none] G
  exists a6X
  intro p0 n0 p1 n1 p2 n2 p3 n3 p4 n4 p5 n5 p6 n6 p7 n7
  have l0:=Le.new (o := .lst [.int 0,.int 1,.int 3]) n0
  have l1:=Le.new (o := .lst [.int 0,.int 1,.int 3]) n1
  have l2:=Le.new (o := .lst [.int 0,.int 1,.int 2,.int 3]) n2
  have l3:=Le.new (o := .lst [.int 0,.int 1]) n3
  have l4:=Le.new (o := .lst [.int 1]) n4
  have l5:=Le.new (o := .lst [.int 1]) n5
  have l6:=Le.new (o := .lst [.int 0]) n6
  have l7:=Le.new (o := .lst [.ref p0,.ref p1,.ref p2,.ref p3,.ref p4,.ref p5,.ref p6]) n7
  have m6:=l6.trans l7
  have m5:=l5.trans m6
  have m4:=l4.trans m5
  have m3:=l3.trans m4
  have m2:=l2.trans m3
  have m1:=l1.trans m2
  have m0:=l0.trans m1
  have g0:fst w (wnt way)=none→∀ G',Le _ G'→bI R .non G':=fun e G' l=>bI.here (h0 e G' (m0.trans l))
  have g1:∀ k,fst w (wnt way)=some k→∀ G',Le _ G'→bI R (.tup [.str "refused",.int (num k)]) G':=fun k e G' l=>bI.here (h1 k e G' (m0.trans l))
  have hb':=m0 _ _ hb
  match way,hw,g0,g1 with
  | 0,_,g0,g1=>rw [oK bM (d := .ref p0) rfl];exact a1Q (acV 0) hb' (m7 (m1 _ _ aJ)) g0 g1
  | 1,_,g0,g1=>rw [oK bM (d := .ref p1) rfl];exact a1Q (acV 1) hb' (m7 (m2 _ _ aJ)) g0 g1
  | 2,_,g0,g1=>rw [oK bM (d := .ref p2) rfl];exact a1Q (acV 2) hb' (m7 (m3 _ _ aJ)) g0 g1
  | 3,_,g0,g1=>rw [oK bM (d := .ref p3) rfl];exact a1Q (acV 3) hb' (m7 (m4 _ _ aJ)) g0 g1
  | 4,_,g0,g1=>rw [oK bM (d := .ref p4) rfl];exact a1Q (acV 4) hb' (m7 (m5 _ _ aJ)) g0 g1
  | 5,_,g0,g1=>rw [oK bM (d := .ref p5) rfl];exact a1Q (acV 5) hb' (m7 (m6 _ _ aJ)) g0 g1
  | 6,_,g0,g1=>rw [oK bM (d := .ref p6) rfl];exact a1Q (acV 6) hb' (m7 (l7 _ _ aJ)) g0 g1
  | n+7,hw,_,_=>omega
theorem aEW {q:Addr} {xs ys:List D} {d:D} (hq:G q=some (.lst xs)) (h:kn G d):kn (aQ G q (.lst ys)) d:=by
  cases d with
  | ref r =>
    by_cases c:r=q
    · subst c;exact akH aJ
    · unfold L5.kn L2.tyD at h ⊢
      simp only [cT c]
      exact h
  | _=>exact h
theorem It.set {x y:Nat} {a p am:Int} {q:Addr} {xs ys:List D} (hq:G q=some (.lst xs)) {k:Nat} {w:Bool} {d:D} (h:It x y a p am G k w d):It x y a p am (aQ G q (.lst ys)) k w d:=by
  rcases h with ⟨e,b⟩ | ⟨e,b⟩
  · exact .inl ⟨e,⟨aEW hq b.1.1,fun xs ex z hz=>aEW hq (b.1.2 xs ex z hz)⟩,b.2⟩
  · exact .inr ⟨e,b⟩
def Its (x y:Nat) (a p am:Int) (w:Nat→Bool) (G:Gp) (ds:List D):Prop:=ds.length=4∧∀ k,k < 4→∃ d,ds[k]?=some d∧It x y a p am G k (w k) d
theorem Its.four {x y:Nat} {a p am:Int} {w:Nat→Bool} {ds:List D} (h:Its x y a p am w G ds):∃ d0 d1 d2 d3,ds=[d0,d1,d2,d3]∧It x y a p am G 0 (w 0) d0∧It x y a p am G 1 (w 1) d1∧It x y a p am G 2 (w 2) d2∧It x y a p am G 3 (w 3) d3:=by
  obtain ⟨hl,h⟩:=h
  match ds,hl with
  | [d0,d1,d2,d3],_ =>
    obtain ⟨e0,z0,i0⟩:=h 0 (by omega)
    obtain ⟨e1,z1,i1⟩:=h 1 (by omega)
    obtain ⟨e2,z2,i2⟩:=h 2 (by omega)
    obtain ⟨e3,z3,i3⟩:=h 3 (by omega)
    cases z0;cases z1;cases z2;cases z3
    exact ⟨d0,d1,d2,d3,rfl,i0,i1,i2,i3⟩
theorem kinds {F:nA} {ex:aW→bK} {G0:Gp} {r0 r2 r3 r4 r5 r6 r7 r9 r12 r13:Option D} {x y g:Nat} (o:OkP x y g) {a p am cl:Int} {w:Nat→Bool} {qb q:Addr} (hq0:G0 q=none) (hb:G0 qb=some (.lst [.bl (w 0),.bl (w 1),.bl (w 2),.bl (w 3)])) (hs:HS G0 q [.int 5,.tup [.int a,.int p],.tup [.int a,.int p],.int am] G)
    (h:∀ r12 ds G',HS G0 q ds G'→Its x y a p am w G' ds→acJ K A ex F [r0,some (plD x y g),r2,r3,r4,r5,r6,r7,some (.int cl),r9,some (.ref qb),some (.ref q),r12,r13] G'):acK K A ex F [r0,some (plD x y g),r2,r3,r4,r5,r6,r7,some (.int cl),r9,some (.ref qb),some (.ref q),r12,r13] G:=by
  have big:10000 < sizeLine:=by decide
  exists acK
  refine atM (fun j ρ G'=>∃ r12 ds,ρ=[r0,some (plD x y g),r2,r3,r4,r5,r6,r7,some (.int cl),r9,some (.ref qb),some (.ref q),r12,r13]∧HS G0 q ds G'∧Its x y a p am (fun i=>w i&&decide (i < j)) G' ds) ⟨_,_,rfl,hs,rfl,fun k hk=>?_⟩ (fun j ρ G' hj hh=>?_) fun ρ G' hh=>?_
  · match k,hk with
    | 0,_=>exact ⟨_,rfl,.inr ⟨by simp,rfl⟩⟩
    | 1,_=>exact ⟨_,rfl,.inr ⟨by simp,rfl⟩⟩
    | 2,_=>exact ⟨_,rfl,.inr ⟨by simp,rfl⟩⟩
    | 3,_=>exact ⟨_,rfl,.inr ⟨by simp,rfl⟩⟩
  · obtain ⟨_,ds,rfl,h1,i1⟩:=hh
    have j4:j < 4:=by omega
    exists ahK
    rw [oK (m7 ((h1.leG hq0) _ _ hb)) (aEV j4)]
    cases c:w j with
    | false =>
      walk_at "wr"
      refine ⟨_,ds,rfl,h1,i1.1,fun k hk=>?_⟩
      obtain ⟨d,z1,z2⟩:=i1.2 k hk
      refine ⟨d,z1,?_⟩
      have e:(w k&&decide (k < j+1))=(w k&&decide (k < j)):=by
        by_cases e:k=j
        · subst e;rw [c];simp
        · rw [show decide (k < j+1)=decide (k < j) from decide_eq_decide.mpr (by omega)]
      show It x y a p am G' k (w k&&decide (k < j+1)) d
      rw [e]
      exact z2
    | true =>
      simp only [aRB]
      walk_at "wr"
      refine aM1 o j4 fun d G2 l2 bd=>?_
      have h2:=h1.more l2
      walk_at "wr"
      rw [aEB h2.1 (by omega) (by rw [i1.1];omega)]
      refine ⟨_,ds.set j d,rfl,?_,by rw [List.length_set];exact i1.1,fun k hk=>?_⟩
      · rw [Int.toNat_natCast]
        exact h2.snd
      · obtain ⟨e,z1,z2⟩:=i1.2 k hk
        by_cases ek:k=j
        · subst ek
          refine ⟨d,by rw [List.getElem?_set_self (by rw [i1.1];exact hk)],?_⟩
          show It x y a p am _ k (w k&&decide (k < k+1)) d
          rw [c]
          exact It.set h2.1 (.inl ⟨by simp,bd⟩)
        · refine ⟨e,by rw [List.getElem?_set_ne (by omega)];exact z1,?_⟩
          have e1:(w k&&decide (k < j+1))=(w k&&decide (k < j)):=by rw [show decide (k < j+1)=decide (k < j) from decide_eq_decide.mpr (by omega)]
          show It x y a p am _ k (w k&&decide (k < j+1)) e
          rw [e1]
          exact It.set h2.1 (z2.le l2)
  · obtain ⟨r12,ds,rfl,h1,i1⟩:=hh
    refine h r12 ds G' h1 ⟨i1.1,fun k hk=>?_⟩
    obtain ⟨d,z1,z2⟩:=i1.2 k hk
    refine ⟨d,z1,?_⟩
    have e:(w k&&decide (k < Int.toNat 4))=w k:=by rw [decide_eq_true (show k < Int.toNat 4 from hk),Bool.and_true]
    rw [← e]
    exact z2
theorem aEX (T:Txt K mg A) {F:nA} {ex:aW→bK} {ns:List Int} {a0:Addr} {r3 r4 r8 r9 r10 r11 r12 r13:Option D} {sh:Addr} {x y g:Nat} {room:Int} {st d:Addr} {a p:Int} (hG:G a0=some (.rol (ns.map D.int))) (s:SH A sh x y g room st [(ky a p,d)] (cn 5 room) G) (ob:OkB x y a p) {k:Nat} (hk:k < 8)
    (h:∀ r8 r9 r10 r11 r12 r13 G',Le G G'→F.nx [some (.ref a0),some (plD x y g),some (.int room),r3,r4,some (.ref sh),some (.tup [.int a,.int p]),some (.int (k:Int)),r8,r9,r10,r11,r12,r13] G') (hc:∀ r8 r9 r10 r11 r12 r13 G',Le G G'→F.ct [some (.ref a0),some (plD x y g),some (.int room),r3,r4,some (.ref sh),some (.tup [.int a,.int p]),some (.int (k:Int)),r8,r9,r10,r11,r12,r13] G') :
    akS K A ex F [some (.ref a0),some (plD x y g),some (.int room),r3,r4,some (.ref sh),some (.tup [.int a,.int p]),some (.int (k:Int)),r8,r9,r10,r11,r12,r13] G:=by
  have big:10000 < sizeLine:=by decide
  exists akS
  rw [show (4:Int)+(k:Int)=((4+k:Nat):Int) by omega]
  refine ag8 (k:=4+k) hG (by omega) ?_
  generalize cellAt ns (4+k)=cl
  exists akR
  have c0:=Int.emod_nonneg cl (show (7:Int)≠0 by decide)
  have c1:=Int.emod_lt_of_pos cl (show (0:Int) < 7 by decide)
  obtain ⟨way,ew⟩:∃ k:Nat,cl % 7=(k:Int):=⟨_,(Int.toNat_of_nonneg c0).symm⟩
  rw [ew] at c1 ⊢
  have hw:way < 7:=by omega
  exists akQ
  obtain ⟨w,w0,w1,w2,w3⟩:∃ w:Nat→Bool,w 0=(cl / 7 % 3 == 1)∧w 1=(cl / 21 % 3 == 1)∧w 2=(cl / 63 % 3 == 1)∧w 3=(cl / 189 % 3 == 1):=⟨fun i=>match i with | 0=>(cl / 7 % 3 == 1) | 1=>(cl / 21 % 3 == 1) | 2=>(cl / 63 % 3 == 1) | _=>(cl / 189 % 3 == 1),rfl,rfl,rfl,rfl⟩
  rw [← w0,← w1,← w2,← w3]
  intro qb nb
  have lb:=Le.new (o := .lst [.bl (w 0),.bl (w 1),.bl (w 2),.bl (w 3)]) nb
  have e6:(10:Int) ^ Int.toNat 6=1000000:=by decide
  exists akP
  rw [e6]
  intro qa na
  have la:=Le.new (o := .lst [.int 1,.int 1000000]) na
  refine ag2 bM (by omega) (by show cl / 567 % 2 < 2;omega) fun z hz=>?_
  obtain ⟨am,rfl,ha⟩:∃ am:Int,z = .int am∧1≤am∧am≤1000000:=by
    simp only [List.mem_cons,List.not_mem_nil,or_false] at hz
    rcases hz with rfl | rfl
    · exact ⟨_,rfl,by omega⟩
    · exact ⟨_,rfl,by omega⟩
  walk_at "wr"
  intro q nq
  generalize hG0:aQ (aQ G qb (.lst [.bl (w 0),.bl (w 1),.bl (w 2),.bl (w 3)])) qa (.lst [.int 1,.int 1000000])=G0 at *
  have l0:Le G G0:=by rw [← hG0];exact lb.trans (.new na)
  have hb0:G0 qb=some (.lst [.bl (w 0),.bl (w 1),.bl (w 2),.bl (w 3)]):=by rw [← hG0];exact fX aJ na
  refine kinds s.o nq hb0 .mk0 fun r12 ds G1 hs its=>?_
  obtain ⟨d0,d1,d2,d3,rfl,i0,i1,i2,i3⟩:=its.four
  have l1:=l0.trans (hs.leG nq)
  have s1:=s.le l1
  exists acJ
  refine aWS hw ((hs.leG nq) _ _ hb0) (fun e G2 l2=>?_) fun kk e G2 l2=>?_
  · exists acI
    exact hc _ _ _ _ _ _ G2 (l1.trans l2)
  · exists acI
    rw [aKO]
    exists akO
    have s2:=s1.le l2
    refine aES T s2 ob ha hw (l2 _ _ hs.1) (i0.le l2) (i1.le l2) (i2.le l2) (i3.le l2) e fun G3 l3=>?_
    have s3:=s2.le l3
    walk_at "wr"
    refine ⟨by simp [aR],by simp [aR],?_⟩
    rw [show eqP (.tup [.str "refused",.int (num kk)]) (.tup [.str "refused",.int (num kk)])=true by simp [eqP,wC]]
    exists iM s3.sh (m := "lying") rfl
    refine aKJ s3 fun t e2 G9 l9 ht he=>?_
    walk_at "wr"
    intro q3 hq3 q4 hq4
    have n34:q4≠q3:=fun z=>by rw [z,aJ] at hq4;cases hq4
    rw [qC (t:=false) (kvs:=[]) aJ yF rfl]
    refine ⟨by show 0 < sizeLine;omega,?_⟩
    generalize hGa:aQ (aQ (aQ G9 q3 (.eN true [])) q4 (.eN false [])) q4 _=Ga
    have a4:Ga q4=some (.eN false ([(5,room)].map kpD)):=by rw [← hGa,aJ];rfl
    have a3:Ga q3=some (.eN true []):=by rw [← hGa,cT (Ne.symm n34),cT (Ne.symm n34),aJ]
    have la:Le G9 Ga:=fun z u e=>by
      have n3:z≠q3:=fun w=>by rw [w,hq3] at e;cases e
      have e2:aQ G9 q3 (.eN true []) z=some u:=by rw [cT n3];exact e
      have n4:z≠q4:=fun w=>by rw [w,hq4] at e2;cases e2
      rw [← hGa,cT n4,cT n4]
      exact e2
    rw [qC a3 a0A rfl]
    refine ⟨by show 0 < sizeLine;omega,?_⟩
    generalize hGb:aQ Ga q3 _=Gb
    have b3:Gb q3=some (.eN true ([(ky a p,q4)].map ktD)):=by rw [← hGb,aJ];rfl
    have b4:Gb q4=some (.eN false ([(5,room)].map kpD)):=by rw [← hGb,cT n34];exact a4
    have lb:Le G9 Gb:=fun z u e=>by
      have n3:z≠q3:=fun w=>by rw [w,hq3] at e;cases e
      rw [← hGb,cT n3]
      exact la _ _ e
    refine aKD (M:=[(ky a p,e2)]) (N:=[(ky a p,q4)]) (c:=cn 5 room) (lb _ _ ht) b3 (fun z hz=>?_) ?_
    · rcases List.mem_cons.mp hz with rfl | hz
      · exact lb _ _ he
      · cases List.mem_singleton.mp hz
        exact b4
    · rw [show (true ^^ L2.eqT (cn 5 room) [(ky a p,e2)] [(ky a p,q4)])=false by simp [L2.eqT,L2.eqM,bB]]
      walk_at "wr"
      exact h _ _ _ _ _ _ _ ((((l1.trans l2).trans l3).trans l9).trans lb)
theorem aRQ {a p b q:Int}:eqP (.tup [.int a,.int p]) (.tup [.int b,.int q])=decide (a=b∧p=q):=by
  simp [eqP,wC]
  rfl
theorem aWT (T:Txt K mg A) {F:nA} {ex:aW→bK} {ns:List Int} {a0:Addr} {r3 r4:Option D} {sh:Addr} {x y g:Nat} {room:Int} {st d:Addr} {a p:Int} (hG:G a0=some (.rol (ns.map D.int))) (s:SH A sh x y g room st [(ky a p,d)] (cn 5 room) G) (ob:OkB x y a p) (hr:1≤room∧room≤50) (h:∀ G',F.rt (.bl true) G') :
    aq9 K A ex F [some (.ref a0),some (plD x y g),some (.int room),r3,r4,some (.ref sh),some (.tup [.int a,.int p]),none,none,none,none,none,none,none] G:=by
  have big:10000 < sizeLine:=by decide
  have o1:OkB x y 0 1:=⟨by omega,by have:=s.o.x0;omega,by omega,by have:=s.o.y0;omega⟩
  exists aq9
  refine atM (fun j ρ G'=>∃ r7 r8 r9 r10 r11 r12 r13,ρ=[some (.ref a0),some (plD x y g),some (.int room),r3,r4,some (.ref sh),some (.tup [.int a,.int p]),r7,r8,r9,r10,r11,r12,r13]∧Le G G') ⟨_,_,_,_,_,_,_,rfl,.refl _⟩ (fun j ρ G' hj hh=>?_) fun ρ G' hh=>?_
  · obtain ⟨_,_,_,_,_,_,_,rfl,l⟩:=hh
    walk_at "wr"
    exact aEX T (l _ _ hG) (s.le l) ob (by omega) (fun _ _ _ _ _ _ G2 l2=>⟨_,_,_,_,_,_,_,rfl,l.trans l2⟩) fun _ _ _ _ _ _ G2 l2=>⟨_,_,_,_,_,_,_,rfl,l.trans l2⟩
  · obtain ⟨_,_,_,_,_,_,_,rfl,l⟩:=hh
    have s1:=s.le l
    exists atR,iM s1.sh (m := "take") rfl
    refine aRO s1 (by omega) ob (by omega) (fun z=>by omega) (fun z=>by omega) fun _ G2 s2 k2=>?_
    walk_at "wr"
    exists iM s2.sh (m := "put") rfl
    refine aM0 s2 (by omega) o1 (by omega) (fun z=>by omega) fun _ d2 G3 s3 k3=>?_
    walk_at "wr"
    exists atQ,iM s3.sh (m := "shift") rfl
    have fin:∀ {EX':bK} M c G4,SH A sh x y g room st M c G4→∀ v:Int,bB (hld M c (ky a p)) 0=some v→v=(if a=0∧p=1 then room else 1)→cA K A [.ref sh,.int 0,.tup [.int a,.int p]] G4 (fun z G1=>∀ q,G1 q=none→aR 20 (.tup [.int a,.int p])=true∧aR 20 (.tup [.int 0,.int 1])=true∧nD (.ref q) (.int (if eqP (.tup [.int a,.int p]) (.tup [.int 0,.int 1])=true then 1 else 0)) (aQ G1 q (.lst [.int 1,.int room])) fun y G2=>wF z y G2 F.rt) EX':=by
      intro EX' M c G4 s4 v hv ev
      refine au1 s4 (by omega) ob fun G5 l5 q nq=>⟨by simp [aR],by simp [aR],?_⟩
      rw [hv,aRQ]
      by_cases c:a=0∧p=1
      · rw [decide_eq_true c,if_pos rfl]
        rw [if_pos c] at ev
        subst ev
        rw [oK bM (d := .int v) rfl,apQ]
        rw [show (some v).getD 0=v from rfl,beq_self_eq_true]
        exact h _
      · rw [decide_eq_false c,if_neg (by decide)]
        rw [if_neg c] at ev
        subst ev
        rw [oK bM (d := .int 1) rfl,apQ]
        exact h _
    refine aKL s3 o1 ob (by omega) (fun e G4 l4=>?_) fun e M c G4 s4 hv=>?_
    · have s4:=s3.le l4
      walk_at "wr"
      exists iM s4.sh (m := "amount") rfl
      have ve:bB (hld [(ky 0 1,d2)] (cn 0 room) (ky a p)) 0=some room:=by rw [← e.1,← e.2,aoA];exact jC
      exact fin _ _ G4 s4 room ve (by rw [if_pos ⟨e.1.symm,e.2.symm⟩])
    · walk_at "wr"
      exists iM s4.sh (m := "amount") rfl
      exact fin M c G4 s4 1 hv (by rw [if_neg fun z=>e ⟨z.1.symm,z.2.symm⟩])
theorem aRR {xs:List D} {lo hi:Option Int} (h:¬ (HT.uU xs.length 0 lo=0∧HT.uU xs.length xs.length hi=xs.length)):aOG (.tup xs) lo hi G R=R (.tup (cutD xs lo hi)) G:=propext ⟨fun z=>z.2,fun z=>⟨h,z⟩⟩
theorem aWU (T:Txt K mg A) {F:nA} {ex:aW→bK} {ns:List Int} {a0:Addr} {x y g:Nat} (o:OkP x y g) {room:Int} {d3 d4:D} (hG:G a0=some (.rol (ns.map D.int))) (k3:kp G d3) (n3:ag9 d3=false) (k4:kp G d4) (n4:isW d4 1 1000000=false) (hr:1≤room∧room≤50) (h:∀ G',F.rt (.bl true) G'):aqB K A ex F [some (.ref a0),some (plD x y g),some (.int room),some d3,some d4,none,none,none,none,none,none,none,none,none] G:=by
  obtain ⟨o1,o2,o3,o4,o5,o6⟩:=o
  have o:OkP x y g:=⟨o1,o2,o3,o4,o5,o6⟩
  exists aqB
  refine aAM T k3 n3 fun G1 l1=>?_
  walk_at "wr"
  refine ⟨by simp [aR],by simp [aR],?_⟩
  rw [show eqP (.tup [.str "refused",.int 0]) (.tup [.str "refused",.int 0])=true by simp [eqP,wC]]
  walk_at "wr"
  refine aET T o (k4.le l1) n4 fun G2 l2=>?_
  walk_at "wr"
  refine ⟨by simp [aR],by simp [aR],?_⟩
  rw [show eqP (.tup [.str "refused",.int 3]) (.tup [.str "refused",.int 3])=true by simp [eqP,wC]]
  exists ayQ
  intro sh hsh
  have hG2:=(l1.trans l2) _ _ hG
  have n0:a0≠sh:=fun z=>by rw [← z,hG2] at hsh;cases hsh
  refine aRM o (by omega) aJ fun st G3 s3 e3 k3'=>⟨rfl,?_⟩
  have hG3:G3 a0=some (.rol (ns.map D.int)):=k3' _ _ n0 ((Le.new hsh) _ _ hG2)
  have s:SH A sh x y g room st [] (fun _=>[]) G3:=⟨o,s3,e3,fun z hz=>nomatch hz⟩
  have ob:OkB x y ((x:Int) - 1) y:=⟨by omega,by omega,by omega,by omega⟩
  have go:aqA K A ex F [some (.ref a0),some (plD x y g),some (.int room),some d3,some d4,some (.ref sh),some (.tup [.int ((x:Int) - 1),.int y]),none,none,none,none,none,none,none] G3:=by
    exists aqA,iM s.sh (m := "put") rfl
    refine aM0 s (by omega) ob (by omega) (fun z=>by omega) fun _ d G4 s4 k4=>?_
    have n1:a0≠st:=fun z=>by have:=s.st;rw [← z,hG3] at this;cases this
    exact aWT T (k4 _ _ n1 hG3) s4 ob hr h
  exists ayP
  have e1:plD x y g = .tup [.int x,.int y,.int g]:=rfl
  rw [e1]
  walk_at "wr"
  exact go
theorem aWV (T:Txt K mg A) {a:Addr} {ns:List Int} (hG:G a=some (.rol (ns.map D.int))) (h:∀ G',R (.bl true) G'):aqC K A [.ref a] G R EX:=by
  have big:10000 < sizeLine:=by decide
  refine ⟨rfl,?_⟩
  have h':∀ G',bI R (.bl true) G':=fun G'=>bI.here (h G')
  clear h
  show ayU K A _ _ [some (.ref a),none,none,none,none,none,none,none,none,none,none,none,none,none] G
  exists ayU
  refine aRK (k:=0) hG (by omega) fun x y g o=>?_
  obtain ⟨o1,o2,o3,o4,o5,o6⟩:=o
  have o:OkP x y g:=⟨o1,o2,o3,o4,o5,o6⟩
  exists ayT
  refine ag8 (k:=2) hG (by omega) ?_
  generalize er:1+cellAt ns 2 % 50=room
  have hr:1≤room∧room≤50:=by omega
  walk_at "wr"
  rw [er]
  exists ayS
  have e1:plD x y g = .tup [.int x,.int y,.int g]:=rfl
  rw [e1]
  walk_at "wr"
  rw [aRR (by show ¬ (HT.uU 3 0 none=0∧HT.uU 3 3 (some 2)=3);decide),show cutD [D.int x,.int y,.int g] none (some 2)=[.int x,.int y] from rfl]
  walk_at "wr"
  intro q1 h1
  have l1:=Le.new (o := .lst [.int x,.int y,.int g]) h1
  walk_at "wr"
  intro q2 h2
  have l2:=l1.trans (Le.new (o := .lst [.non,.tup [.int 0,.int 1,.int 1],.tup [.int x,.int y],.ref q1,.tup [.int x,.int 100,.int 1]]) h2)
  refine ag8 (k:=2) (l2 _ _ hG) (by omega) ?_
  generalize cellAt ns 2=c2
  walk_at "wr"
  refine ag2 bM (by omega) (by show c2 / 50 % 5 < 5;omega) fun d3 hd3=>?_
  have k3:kp (aQ (aQ G q1 (.lst [.int x,.int y,.int g])) q2 (.lst [.non,.tup [.int 0,.int 1,.int 1],.tup [.int x,.int y],.ref q1,.tup [.int x,.int 100,.int 1]])) d3∧ag9 d3=false:=by
    simp only [List.mem_cons,List.not_mem_nil,or_false] at hd3
    rcases hd3 with rfl | rfl | rfl | rfl | rfl
    · exact ⟨sY rfl (by simp),rfl⟩
    · exact ⟨a1O (all_cons rfl (all_cons rfl (all_cons rfl all_nil))),by simp [ag9,isW]⟩
    · exact ⟨a1O (all_cons rfl (all_cons rfl all_nil)),rfl⟩
    · exact ⟨sY (akH (fX aJ h2)) (by simp),rfl⟩
    · exact ⟨a1O (all_cons rfl (all_cons rfl (all_cons rfl all_nil))),by simp [ag9,isW]⟩
  exists ayR
  refine ag8 (k:=3) (l2 _ _ hG) (by omega) ?_
  refine aM1 (k:=3) o (by omega) fun d4 G4 l4 b4=>?_
  walk_at "wr"
  exact aWU T o (l4 _ _ (l2 _ _ hG)) (k3.1.le l4) k3.2 b4.1 b4.2 hr h'
theorem main (T:Txt K mg A) (a:Addr) (ns:List Int) (hl:ns.length≤63) (G:Gp) (hG:G a=some (.rol (ns.map D.int))):aqC K A [.ref a] G (fun d _=>d = .bl true) (fun _ _=>False):=aWV T hG fun _=>rfl
end
end Law
namespace Law
open PySem PySem.Spec PyProof.Rows L2 L4
section
variable {P:Program} {w:World} {K:Fg} {mg:Str→Option Value} {base:Heap} {A:bT}
theorem au4:bQ ["thing", "least", "most"] ["thing", "least", "most"] (aC jX):=⟨rfl,rfl,rfl,by decide +kernel,rfl,by decide +kernel,by decide +kernel⟩
theorem awO:gU (a6J K A) (aC jX)=true:=by kernel_rfl
theorem a1R:kB (a6J K A) 0 tV (aF jX)=true:=by kernel_rfl
theorem awP:(fun EX=>mB (a6J K A).gl K (fun _=>EX) tV)=fun EX=>a0X K A (fun _=>EX):=by kernel_rfl
theorem a2Y (T:Txt K mg A):fC false P w K mg base (vU P w) 1 A.tL A.acB ["thing", "least", "most"] (gY K (eO K A)):=by
  have h:=bL (qt:=false) (P:=P) (w:=w) (mg:=mg) (base:=base) (k:=0) (S:=a6J K A) (c:=tV) T.wR au4 rfl awO a1R (fB ⟨T.ayY,avT⟩
    (fB ⟨T.vI,xM⟩
    (fB ⟨T.aEH,aH0⟩
    gln)))
  rw [awP] at h
  exact h
theorem awQ:bQ ["thing", "aisles", "first", "last"] ["thing", "aisles", "first", "last"] (aC nJ):=⟨rfl,rfl,rfl,by decide +kernel,rfl,by decide +kernel,by decide +kernel⟩
theorem aAN:gU (ab2 K A) (aC nJ)=true:=by kernel_rfl
theorem a5M:kB (ab2 K A) 0 wL (aF nJ)=true:=by kernel_rfl
theorem aAO:(fun EX=>mB (ab2 K A).gl K (fun _=>EX) wL)=fun EX=>a0I K A (fun _=>EX):=by kernel_rfl
theorem awR (T:Txt K mg A):fC false P w K mg base (vU P w) 2 A.wG A.ag4 ["thing", "aisles", "first", "last"] (gY K (a6K K A)):=by
  have h:=bL (qt:=false) (P:=P) (w:=w) (mg:=mg) (base:=base) (k:=1) (S:=ab2 K A) (c:=wL) T.ag6 awQ rfl aAN a5M (fB ⟨T.aqG,as9⟩
    (fB ⟨T.vI,xM⟩
    (fB ⟨T.ao8,ak3⟩
    (fB ⟨_,_,_,(a2Y T).mono (by decide),T.a1E,T.wR.kp,T.a1D⟩
    gln))))
  rw [aAO] at h
  exact h
theorem aqH:bQ ["thing"] ["thing"] (aC gZ):=⟨rfl,rfl,rfl,by decide +kernel,rfl,by decide +kernel,by decide +kernel⟩
theorem au5:gU (a2M K A) (aC gZ)=true:=by kernel_rfl
theorem yR:kB (a2M K A) 0 qM (aF gZ)=true:=by kernel_rfl
theorem au6:(fun EX=>mB (a2M K A).gl K (fun _=>EX) qM)=fun EX=>a2L K A (fun _=>EX):=by kernel_rfl
theorem aqI (T:Txt K mg A):fC false P w K mg base (vU P w) 2 A.qG A.a95 ["thing"] (gY K (a0B K A)):=by
  have h:=bL (qt:=false) (P:=P) (w:=w) (mg:=mg) (base:=base) (k:=1) (S:=a2M K A) (c:=qM) T.a9C aqH rfl au5 yR (fB (gcI T.pQ)
    (fB ⟨_,_,_,(a2Y T).mono (by decide),T.a1E,T.wR.kp,T.a1D⟩
    gln))
  rw [au6] at h
  exact h
theorem awS:bQ ["thing"] ["thing"] (aC nM):=⟨rfl,rfl,rfl,by decide +kernel,rfl,by decide +kernel,by decide +kernel⟩
theorem aAP:gU (ab3 K A) (aC nM)=true:=by kernel_rfl
theorem a5N:kB (ab3 K A) 0 wM (aF nM)=true:=by kernel_rfl
theorem aAQ:(fun EX=>mB (ab3 K A).gl K (fun _=>EX) wM)=fun EX=>a0J K A (fun _=>EX):=by kernel_rfl
theorem awT (T:Txt K mg A):fC false P w K mg base (vU P w) 2 A.wH A.ag5 ["thing"] (gY K (a6L K A)):=by
  have h:=bL (qt:=false) (P:=P) (w:=w) (mg:=mg) (base:=base) (k:=1) (S:=ab3 K A) (c:=wM) T.ag7 awS rfl aAP a5N (fB ⟨T.aqG,as9⟩
    (fB ⟨T.vI,xM⟩
    (fB ⟨T.ao8,ak3⟩
    (fB (gcI T.pO)
    (fB ⟨_,_,_,(a2Y T).mono (by decide),T.a1E,T.wR.kp,T.a1D⟩
    (fB (gcI T.pP)
    (fB (gcI T.xA)
    gln)))))))
  rw [aAQ] at h
  exact h
theorem aqJ:bQ ["plan"] ["plan"] (aC iB):=⟨rfl,rfl,rfl,by decide +kernel,rfl,by decide +kernel,by decide +kernel⟩
theorem au7:gU (a2O K A) (aC iB)=true:=by kernel_rfl
theorem yS:kB (a2O K A) 0 qN (aF iB)=true:=by kernel_rfl
theorem au8:(fun EX=>mB (a2O K A).gl K (fun _=>EX) qN)=fun EX=>a2N K A (fun _=>EX):=by kernel_rfl
theorem ae9 (T:Txt K mg A):fC false P w K mg base (vU P w) 3 A.qH A.a96 ["plan"] (gY K (oO K A)):=by
  have h:=bL (qt:=false) (P:=P) (w:=w) (mg:=mg) (base:=base) (k:=2) (S:=a2O K A) (c:=qN) T.a2X aqJ rfl au7 yS (fB ⟨_,_,_,(awT T).mono (by decide),T.ao7,T.ag7.kp,T.ao6⟩
    (fB ⟨T.al1,T.a1K,T.uM,T.wY,T.uN⟩
    gln))
  rw [au8] at h
  exact h
theorem aAR:bQ ["plan", "thing"] ["plan", "thing"] (aC qD):=⟨rfl,rfl,rfl,by decide +kernel,rfl,by decide +kernel,by decide +kernel⟩
theorem aEY:gU (adX K A) (aC qD)=true:=by kernel_rfl
theorem a9Q:kB (adX K A) 0 a0Y (aF qD)=true:=by kernel_rfl
theorem aEZ:(fun EX=>mB (adX K A).gl K (fun _=>EX) a0Y)=fun EX=>adW K A (fun _=>EX):=by kernel_rfl
theorem aAS (T:Txt K mg A):fC false P w K mg base (vU P w) 4 A.a0S A.akK ["plan", "thing"] (gY K (ab4 K A)):=by
  have h:=bL (qt:=false) (P:=P) (w:=w) (mg:=mg) (base:=base) (k:=3) (S:=adX K A) (c:=a0Y) T.akU aAR rfl aEY a9Q (fB ⟨_,_,_,(ae9 T).mono (by decide),T.a9E,T.a2X.kp,T.a9D⟩
    (fB ⟨_,_,_,(awR T).mono (by decide),T.ao5,T.ag6.kp,T.ao4⟩
    gln))
  rw [aEZ] at h
  exact h
theorem au9:bQ ["thing", "lots"] ["thing", "lots"] (aC jY):=⟨rfl,rfl,rfl,by decide +kernel,rfl,by decide +kernel,by decide +kernel⟩
theorem awU:gU (a6N K A) (aC jY)=true:=by kernel_rfl
theorem a1S:kB (a6N K A) 0 tW (aF jY)=true:=by kernel_rfl
theorem awV:(fun EX=>mB (a6N K A).gl K (fun _=>EX) tW)=fun EX=>a6M K A (fun _=>EX):=by kernel_rfl
theorem yU (T:Txt K mg A):fC false P w K mg base (vU P w) 2 A.tM A.acC ["thing", "lots"] (gY K (dI K A)):=by
  have h:=bL (qt:=false) (P:=P) (w:=w) (mg:=mg) (base:=base) (k:=1) (S:=a6N K A) (c:=tW) T.u9 au9 rfl awU a1S (fB ⟨_,_,_,(a2Y T).mono (by decide),T.a1E,T.wR.kp,T.a1D⟩
    (fB ⟨T.aqF,T.a72,T.yO,T.a1M,T.yP⟩
    gln))
  rw [awV] at h
  exact h
theorem auA:bQ ["plan", "thing"] ["plan", "thing"] (aC jZ):=⟨rfl,rfl,rfl,by decide +kernel,rfl,by decide +kernel,by decide +kernel⟩
theorem awW:gU (a6P K A) (aC jZ)=true:=by kernel_rfl
theorem a1T:kB (a6P K A) 0 tX (aF jZ)=true:=by kernel_rfl
theorem awX:(fun EX=>mB (a6P K A).gl K (fun _=>EX) tX)=fun EX=>a6O K A (fun _=>EX):=by kernel_rfl
theorem uR (T:Txt K mg A):fC false P w K mg base (vU P w) 5 A.tO A.acD ["plan", "thing"] (gY K (cC K A)):=by
  have h:=bL (qt:=false) (P:=P) (w:=w) (mg:=mg) (base:=base) (k:=4) (S:=a6P K A) (c:=tX) T.qW auA rfl awW a1T (fB ⟨_,_,_,(aAS T).mono (by decide),T.atV,T.akU.kp,T.atU⟩
    (fB ⟨T.aqE,T.a71,T.yM,T.a1L,T.yN⟩
    gln))
  rw [awX] at h
  exact h
theorem al8:bQ ["thing"] ["thing"] (aC dU):=⟨rfl,rfl,rfl,by decide +kernel,rfl,by decide +kernel,by decide +kernel⟩
theorem amX:gU (xQ K A) (aC dU)=true:=by kernel_rfl
theorem sZ:kB (xQ K A) 0 mW (aF dU)=true:=by kernel_rfl
theorem amY:(fun EX=>mB (xQ K A).gl K (fun _=>EX) mW)=fun EX=>xP K A (fun _=>EX):=by kernel_rfl
theorem vJ (T:Txt K mg A):fC false P w K mg base (vU P w) 3 A.mR A.a3Z ["thing"] (gY K (cO K A)):=by
  have h:=bL (qt:=false) (P:=P) (w:=w) (mg:=mg) (base:=base) (k:=2) (S:=xQ K A) (c:=mW) T.pI al8 rfl amX sZ (fB ⟨_,_,_,(aqI T).mono (by decide),T.ahM,T.a9C.kp,T.ahL⟩
    (fB ⟨T.acS,T.uG,T.oG,T.qZ,T.oH⟩
    gln))
  rw [amY] at h
  exact h
theorem aAT:bQ ["stacks", "spot", "lot", "more", "held"] ["stacks", "spot", "lot", "more"] (aC qF):=⟨rfl,rfl,rfl,by decide +kernel,rfl,by decide +kernel,by decide +kernel⟩
theorem aF0:gU (adY K A) (aC qF)=true:=by kernel_rfl
theorem a9R:kB (adY K A) 0 a0Z (aF qF)=true:=by kernel_rfl
theorem aF1:(fun EX=>mB (adY K A).gl K (fun _=>EX) a0Z)=fun EX=>a4X K A (fun _=>EX):=by kernel_rfl
theorem agB (T:Txt K mg A):fC false P w K mg base (vU P w) 1 A.a0T A.akL ["stacks", "spot", "lot", "more"] (gY K (lR K A)):=by
  have h:=bL (qt:=false) (P:=P) (w:=w) (mg:=mg) (base:=base) (k:=0) (S:=adY K A) (c:=a0Z) T.a9F aAT rfl aF0 a9R (fB ⟨T.ao8,ak3⟩
    gln)
  rw [aF1] at h
  exact h
theorem auB:bQ ["stacks", "told", "spot"] ["stacks"] (aC kJ):=⟨rfl,rfl,rfl,by decide +kernel,rfl,by decide +kernel,by decide +kernel⟩
theorem awY:gU (a6T K A) (aC kJ)=true:=by kernel_rfl
theorem a1U:kB (a6T K A) 0 tY (aF kJ)=true:=by kernel_rfl
theorem awZ:(fun EX=>mB (a6T K A).gl K (fun _=>EX) tY)=fun EX=>wN K A (fun _=>EX):=by kernel_rfl
theorem auC (T:Txt K mg A):fC false P w K mg base (vU P w) 1 A.tQ A.acE ["stacks"] (gY K (a9A K A)):=by
  have h:=bL (qt:=false) (P:=P) (w:=w) (mg:=mg) (base:=base) (k:=0) (S:=a6T K A) (c:=tY) T.acL auB rfl awY a1U (fB ⟨T.a9O,ab0⟩
    (fB ⟨T.a9O,ab0⟩
    (fB ⟨T.aEI,aH2⟩
    gln)))
  rw [awZ] at h
  exact h
theorem ab9:bQ ["self", "plan", "room"] ["self", "plan", "room"] (aC bN):=⟨rfl,rfl,rfl,by decide +kernel,rfl,by decide +kernel,by decide +kernel⟩
theorem acW:gU (oR K A) (aC bN)=true:=by kernel_rfl
theorem gQ:kB (oR K A) 0 eG (aF bN)=true:=by kernel_rfl
theorem gR:(fun EX=>mB (oR K A).gl K (fun _=>EX) eG)=fun EX=>cY K A (fun _=>EX):=by kernel_rfl
theorem zW (T:Txt K mg A):fC false P w K mg base (vU P w) 4 A.cI A.oM ["self", "plan", "room"] (gY K (fP K A)):=by
  have h:=bL (qt:=false) (P:=P) (w:=w) (mg:=mg) (base:=base) (k:=3) (S:=oR K A) (c:=eG) T.a1F ab9 rfl acW gQ (fB ⟨_,_,_,(ae9 T).mono (by decide),T.a9E,T.a2X.kp,T.a9D⟩
    (fB ⟨_,_,_,(vJ T).mono (by decide),T.sW,T.pI.kp,T.sV⟩
    (fB ⟨T.aN,T.dJ⟩
    (fB ⟨T.aN,T.zL⟩
    (fB ⟨T.aN,T.cB⟩
    gln)))))
  rw [gR] at h
  exact h
theorem aeA:bQ ["self", "spot"] ["self", "spot"] (aC bW):=⟨rfl,rfl,rfl,by decide +kernel,rfl,by decide +kernel,by decide +kernel⟩
theorem agC:gU (rM K A) (aC bW)=true:=by kernel_rfl
theorem jQ:kB (rM K A) 0 gH (aF bW)=true:=by kernel_rfl
theorem agD:(fun EX=>mB (rM K A).gl K (fun _=>EX) gH)=fun EX=>jK K A (fun _=>EX):=by kernel_rfl
theorem a2Z (T:Txt K mg A):fC false P w K mg base (vU P w) 6 A.gC A.wI ["self", "spot"] (gY K (fK K A)):=by
  have h:=bL (qt:=false) (P:=P) (w:=w) (mg:=mg) (base:=base) (k:=5) (S:=rM K A) (c:=gH) T.a5E aeA rfl agC jQ (fB ⟨T.aN,T.dJ⟩
    (fB ⟨_,_,_,(uR T).mono (by decide),T.uE,T.qW.kp,T.uD⟩
    (fB ⟨T.aLX,aOK⟩
    (fB ⟨T.aN,T.cB⟩
    gln))))
  rw [agD] at h
  exact h
theorem a9S:bQ ["self", "spot", "amount"] ["self", "spot", "amount"] (aC bG):=⟨rfl,rfl,rfl,by decide +kernel,rfl,by decide +kernel,by decide +kernel⟩
theorem abA:gU (nG K A) (aC bG)=true:=by kernel_rfl
theorem fV:kB (nG K A) 0 dH (aF bG)=true:=by kernel_rfl
theorem abB:(fun EX=>mB (nG K A).gl K (fun _=>EX) dH)=fun EX=>nF K A (fun _=>EX):=by kernel_rfl
theorem yV (T:Txt K mg A):fC false P w K mg base (vU P w) 7 A.dG A.sE ["self", "spot", "amount"] (gY K (eU K A)):=by
  have h:=bL (qt:=false) (P:=P) (w:=w) (mg:=mg) (base:=base) (k:=6) (S:=nG K A) (c:=dH) T.zV a9S rfl abA fV (fB (⟨_,_,_,[],[],T.aN,T.wX,(a2Z T).mono (by decide),T.wW,.nil,fun _ => .nil⟩)
    (fB ⟨T.aN,T.zL⟩
    (fB ⟨T.al3,T.a1N,T.uP,T.wZ,T.uQ⟩
    gln)))
  rw [abB] at h
  exact h
theorem al9:bQ ["self", "lot", "spot", "amount"] ["self", "lot", "spot", "amount"] (aC dW):=⟨rfl,rfl,rfl,by decide +kernel,rfl,by decide +kernel,by decide +kernel⟩
theorem amZ:gU (xR K A) (aC dW)=true:=by kernel_rfl
theorem pR:kB (xR K A) 0 mX (aF dW)=true:=by kernel_rfl
theorem an0:(fun EX=>mB (xR K A).gl K (fun _=>EX) mX)=fun EX=>pH K A (fun _=>EX):=by kernel_rfl
theorem a9T (T:Txt K mg A):fC false P w K mg base (vU P w) 8 A.mU A.a4A ["self", "lot", "spot", "amount"] (gY K (dY K A)):=by
  have h:=bL (qt:=false) (P:=P) (w:=w) (mg:=mg) (base:=base) (k:=7) (S:=xR K A) (c:=mX) T.abU al9 rfl amZ pR (fB (gcI T.jJ)
    (fB ⟨_,_,_,(yU T).mono (by decide),T.wV,T.u9.kp,T.wU⟩
    (fB ⟨T.aN,T.dJ⟩
    (fB ⟨_,_,_,(uR T).mono (by decide),T.uE,T.qW.kp,T.uD⟩
    (fB ⟨_,_,_,(vJ T).mono (by decide),T.sW,T.pI.kp,T.sV⟩
    (fB (⟨_,_,_,[],[],T.aN,T.sH,(yV T).mono (by decide),T.sG,.nil,fun _ => .nil⟩)
    (fB ⟨T.aN,T.cB⟩
    (fB ⟨_,_,_,(agB T).mono (by decide),T.ae2,T.a9F.kp,T.ae1⟩
    gln))))))))
  rw [an0] at h
  exact h
theorem aeB:bQ ["self", "lot", "spot"] ["self", "lot", "spot"] (aC bY):=⟨rfl,rfl,rfl,by decide +kernel,rfl,by decide +kernel,by decide +kernel⟩
theorem agE:gU (rN K A) (aC bY)=true:=by kernel_rfl
theorem jR:kB (rN K A) 0 gJ (aF bY)=true:=by kernel_rfl
theorem agF:(fun EX=>mB (rN K A).gl K (fun _=>EX) gJ)=fun EX=>jL K A (fun _=>EX):=by kernel_rfl
theorem vK (T:Txt K mg A):fC false P w K mg base (vU P w) 6 A.gF A.wJ ["self", "lot", "spot"] (gY K (cA K A)):=by
  have h:=bL (qt:=false) (P:=P) (w:=w) (mg:=mg) (base:=base) (k:=5) (S:=rN K A) (c:=gJ) T.a5F aeB rfl agE jR (fB (gcI T.jJ)
    (fB ⟨_,_,_,(yU T).mono (by decide),T.wV,T.u9.kp,T.wU⟩
    (fB ⟨T.aN,T.dJ⟩
    (fB ⟨_,_,_,(uR T).mono (by decide),T.uE,T.qW.kp,T.uD⟩
    (fB ⟨T.aN,T.cB⟩
    gln)))))
  rw [agF] at h
  exact h
theorem a8M:bQ ["self", "lot", "spot", "amount"] ["self", "lot", "spot", "amount"] (aC bC):=⟨rfl,rfl,rfl,by decide +kernel,rfl,by decide +kernel,by decide +kernel⟩
theorem a9U:gU (m9 K A) (aC bC)=true:=by kernel_rfl
theorem f9:kB (m9 K A) 0 cZ (aF bC)=true:=by kernel_rfl
theorem a9V:(fun EX=>mB (m9 K A).gl K (fun _=>EX) cZ)=fun EX=>m8 K A (fun _=>EX):=by kernel_rfl
theorem vW (T:Txt K mg A):fC false P w K mg base (vU P w) 7 A.cX A.qI ["self", "lot", "spot", "amount"] (gY K (dO K A)):=by
  have h:=bL (qt:=false) (P:=P) (w:=w) (mg:=mg) (base:=base) (k:=6) (S:=m9 K A) (c:=cZ) T.yL a8M rfl a9U f9 (fB (⟨_,_,_,[],[],T.aN,T.rR,(vK T).mono (by decide),T.rQ,.nil,fun _ => .nil⟩)
    (fB ⟨T.a9N,T.rA,T.mD,T.oX,T.mF⟩
    gln))
  rw [a9V] at h
  exact h
theorem aiX:bQ ["self", "lot", "spot", "amount"] ["self", "lot", "spot", "amount"] (aC cU):=⟨rfl,rfl,rfl,by decide +kernel,rfl,by decide +kernel,by decide +kernel⟩
theorem alA:gU (uZ K A) (aC cU)=true:=by kernel_rfl
theorem o8:kB (uZ K A) 0 lC (aF cU)=true:=by kernel_rfl
theorem alB:(fun EX=>mB (uZ K A).gl K (fun _=>EX) lC)=fun EX=>nO K A (fun _=>EX):=by kernel_rfl
theorem a83 (T:Txt K mg A):fC false P w K mg base (vU P w) 8 A.kZ A.a0U ["self", "lot", "spot", "amount"] (gY K (fW K A)):=by
  have h:=bL (qt:=false) (P:=P) (w:=w) (mg:=mg) (base:=base) (k:=7) (S:=uZ K A) (c:=lC) T.a9G aiX rfl alA o8 (fB (gcI T.jJ)
    (fB ⟨_,_,_,(yU T).mono (by decide),T.wV,T.u9.kp,T.wU⟩
    (fB ⟨T.aN,T.dJ⟩
    (fB ⟨_,_,_,(uR T).mono (by decide),T.uE,T.qW.kp,T.uD⟩
    (fB ⟨_,_,_,(vJ T).mono (by decide),T.sW,T.pI.kp,T.sV⟩
    (fB (⟨_,_,_,[],[],T.aN,T.qY,(vW T).mono (by decide),T.qX,.nil,fun _ => .nil⟩)
    (fB ⟨T.aN,T.cB⟩
    (fB ⟨_,_,_,(agB T).mono (by decide),T.ae2,T.a9F.kp,T.ae1⟩
    gln))))))))
  rw [alB] at h
  exact h
theorem agG:bQ ["self", "lot", "one", "other", "amount"] ["self", "lot", "one", "other", "amount"] (aC cM):=⟨rfl,rfl,rfl,by decide +kernel,rfl,by decide +kernel,by decide +kernel⟩
theorem aiY:gU (tG K A) (aC cM)=true:=by kernel_rfl
theorem lY:kB (tG K A) 0 j5 (aF cM)=true:=by kernel_rfl
theorem aiZ:(fun EX=>mB (tG K A).gl K (fun _=>EX) j5)=fun EX=>lU K A (fun _=>EX):=by kernel_rfl
theorem a5O (T:Txt K mg A):fC false P w K mg base (vU P w) 8 A.iY A.zE ["self", "lot", "one", "other", "amount"] (gY K (gK K A)):=by
  have h:=bL (qt:=false) (P:=P) (w:=w) (mg:=mg) (base:=base) (k:=7) (S:=tG K A) (c:=j5) T.a7Z agG rfl aiY lY (fB (gcI T.jJ)
    (fB ⟨_,_,_,(yU T).mono (by decide),T.wV,T.u9.kp,T.wU⟩
    (fB ⟨T.aN,T.dJ⟩
    (fB ⟨_,_,_,(uR T).mono (by decide),T.uE,T.qW.kp,T.uD⟩
    (fB ⟨_,_,_,(vJ T).mono (by decide),T.sW,T.pI.kp,T.sV⟩
    (fB (⟨_,_,_,[],[],T.aN,T.qY,(vW T).mono (by decide),T.qX,.nil,fun _ => .nil⟩)
    (fB (⟨_,_,_,[],[],T.aN,T.sH,(yV T).mono (by decide),T.sG,.nil,fun _ => .nil⟩)
    (fB ⟨T.aN,T.cB⟩
    (fB ⟨_,_,_,(agB T).mono (by decide),T.ae2,T.a9F.kp,T.ae1⟩
    gln)))))))))
  rw [aiZ] at h
  exact h
theorem aj0:bQ ["self", "spot"] ["self", "spot"] (aC cV):=⟨rfl,rfl,rfl,by decide +kernel,rfl,by decide +kernel,by decide +kernel⟩
theorem alC:gU (vA K A) (aC cV)=true:=by kernel_rfl
theorem o9:kB (vA K A) 0 lD (aF cV)=true:=by kernel_rfl
theorem alD:(fun EX=>mB (vA K A).gl K (fun _=>EX) lD)=fun EX=>nP K A (fun _=>EX):=by kernel_rfl
theorem aj1 (T:Txt K mg A):fC false P w K mg base (vU P w) 6 A.lA A.a0V ["self", "spot"] (gY K (pB K A)):=by
  have h:=bL (qt:=false) (P:=P) (w:=w) (mg:=mg) (base:=base) (k:=5) (S:=vA K A) (c:=lD) T.a9H aj0 rfl alC o9 (fB ⟨T.aN,T.dJ⟩
    (fB ⟨_,_,_,(uR T).mono (by decide),T.uE,T.qW.kp,T.uD⟩
    (fB ⟨T.a9O,ab0⟩
    (fB ⟨T.aN,T.cB⟩
    gln))))
  rw [alD] at h
  exact h
theorem aeC:bQ ["self", "lot"] ["self", "lot"] (aC bZ):=⟨rfl,rfl,rfl,by decide +kernel,rfl,by decide +kernel,by decide +kernel⟩
theorem agH:gU (rO K A) (aC bZ)=true:=by kernel_rfl
theorem jT:kB (rO K A) 0 gM (aF bZ)=true:=by kernel_rfl
theorem agI:(fun EX=>mB (rO K A).gl K (fun _=>EX) gM)=fun EX=>eV K A (fun _=>EX):=by kernel_rfl
theorem aeD (T:Txt K mg A):fC false P w K mg base (vU P w) 3 A.gG A.wK ["self", "lot"] (gY K (iQ K A)):=by
  have h:=bL (qt:=false) (P:=P) (w:=w) (mg:=mg) (base:=base) (k:=2) (S:=rO K A) (c:=gM) T.a5G aeC rfl agH jT (fB (gcI T.jJ)
    (fB ⟨_,_,_,(yU T).mono (by decide),T.wV,T.u9.kp,T.wU⟩
    (fB ⟨T.aN,T.cB⟩
    (fB ⟨T.a9O,ab0⟩
    gln))))
  rw [agI] at h
  exact h
theorem agJ:bQ ["self"] ["self"] (aC cN):=⟨rfl,rfl,rfl,by decide +kernel,rfl,by decide +kernel,by decide +kernel⟩
theorem aj2:gU (tH K A) (aC cN)=true:=by kernel_rfl
theorem lZ:kB (tH K A) 0 j6 (aF cN)=true:=by kernel_rfl
theorem aj3:(fun EX=>mB (tH K A).gl K (fun _=>EX) j6)=fun EX=>lV K A (fun _=>EX):=by kernel_rfl
theorem agK (T:Txt K mg A):fC false P w K mg base (vU P w) 2 A.iZ A.zF ["self"] (gY K (nQ K A)):=by
  have h:=bL (qt:=false) (P:=P) (w:=w) (mg:=mg) (base:=base) (k:=1) (S:=tH K A) (c:=j6) T.a80 agJ rfl aj2 lZ (fB ⟨T.aN,T.cB⟩
    (fB ⟨_,_,_,(auC T).mono (by decide),T.akW,T.acL.kp,T.akV⟩
    gln))
  rw [aj3] at h
  exact h
theorem aj4:bQ ["_law_script", "_law_k", "_law_mixed"] ["_law_script", "_law_k"] (aC cW):=⟨rfl,rfl,rfl,by decide +kernel,rfl,by decide +kernel,by decide +kernel⟩
theorem alE:gU (vC K A) (aC cW)=true:=by kernel_rfl
theorem rD:kB (vC K A) 0 lE (aF cW)=true:=by kernel_rfl
theorem alF:(fun EX=>mB (vC K A).gl K (fun _=>EX) lE)=fun EX=>vB K A (fun _=>EX):=by kernel_rfl
theorem a84 (T:Txt K mg A):fC false P w K mg base (vU P w) 1 A.lB A.a0W ["_law_script", "_law_k"] (gY K (d9 K A)):=by
  have h:=bL (qt:=false) (P:=P) (w:=w) (mg:=mg) (base:=base) (k:=0) (S:=vC K A) (c:=lE) T.vG aj4 rfl alE rD (fB ⟨T.ao8,ak3⟩
    gln)
  rw [alF] at h
  exact h
theorem aqK:bQ ["_law_script", "_law_k", "_law_cell", "_law_other", "_law_aisles", "_law_places"] ["_law_script", "_law_k"] (aC iC):=⟨rfl,rfl,rfl,by decide +kernel,rfl,by decide +kernel,by decide +kernel⟩
theorem auD:gU (a2S K A) (aC iC)=true:=by kernel_rfl
theorem yW:kB (a2S K A) 0 qQ (aF iC)=true:=by kernel_rfl
theorem auE:(fun EX=>mB (a2S K A).gl K (fun _=>EX) qQ)=fun EX=>a2R K A (fun _=>EX):=by kernel_rfl
theorem aqL (T:Txt K mg A):fC false P w K mg base (vU P w) 2 A.qJ A.a97 ["_law_script", "_law_k"] (gY K (a0C K A)):=by
  have h:=bL (qt:=false) (P:=P) (w:=w) (mg:=mg) (base:=base) (k:=1) (S:=a2S K A) (c:=qQ) T.a9K aqK rfl auD yW (fB ⟨_,_,_,(a84 T).mono (by decide),T.a1J,T.vG.kp,T.a1I⟩
    (fB ⟨T.ayY,avT⟩
    gln))
  rw [auE] at h
  exact h
theorem alG:bQ ["_law_e", "_law_marks"] ["_law_e"] (aC dX):=⟨rfl,rfl,rfl,by decide +kernel,rfl,by decide +kernel,by decide +kernel⟩
theorem an1:gU (xU K A) (aC dX)=true:=by kernel_rfl
theorem tD:kB (xU K A) 0 mY (aF dX)=true:=by kernel_rfl
theorem an2:(fun EX=>mB (xU K A).gl K (fun _=>EX) mY)=fun EX=>xT K A (fun _=>EX):=by kernel_rfl
theorem a9W (T:Txt K mg A):fC true P w K mg base (vU P w) 1 A.mV A.a4B ["_law_e"] (gY K (d7 K A)):=by
  have h:=bL (qt:=true) (P:=P) (w:=w) (mg:=mg) (base:=base) (k:=0) (S:=xU K A) (c:=mY) T.xW alG rfl an1 tD (fB ⟨T.al1,T.a1K,T.uM,T.wY,T.uN⟩
    (fB ⟨T.vI,xM⟩
    (fB ⟨T.aqF,T.a72,T.yO,T.a1M,T.yP⟩
    (fB ⟨T.aqE,T.a71,T.yM,T.a1L,T.yN⟩
    (fB ⟨T.acS,T.uG,T.oG,T.qZ,T.oH⟩
    (fB ⟨T.a9N,T.rA,T.mD,T.oX,T.mF⟩
    (fB ⟨T.al3,T.a1N,T.uP,T.wZ,T.uQ⟩
    (fB ⟨T.ae5,amP⟩
    (fB ⟨T.ao8,ak3⟩
    gln)))))))))
  rw [an2] at h
  exact h
theorem auF:bQ ["_law_kind", "_law_cell", "_law_plan_here", "_law_odd"] ["_law_kind", "_law_cell", "_law_plan_here"] (aC kW):=⟨rfl,rfl,rfl,by decide +kernel,rfl,by decide +kernel,by decide +kernel⟩
theorem ax0:gU (a6V K A) (aC kW)=true:=by kernel_rfl
theorem a1V:kB (a6V K A) 0 u5 (aF kW)=true:=by kernel_rfl
theorem ax1:(fun EX=>mB (a6V K A).gl K (fun _=>EX) u5)=fun EX=>mZ K A (fun _=>EX):=by kernel_rfl
theorem auG (T:Txt K mg A):fC false P w K mg base (vU P w) 1 A.tR A.acF ["_law_kind", "_law_cell", "_law_plan_here"] (gY K (yK K A)):=by
  have h:=bL (qt:=false) (P:=P) (w:=w) (mg:=mg) (base:=base) (k:=0) (S:=a6V K A) (c:=u5) T.acO auF rfl ax0 a1V gln
  rw [ax1] at h
  exact h
theorem an3:bQ ["_law_shelves", "_law_way", "_law_lot", "_law_one", "_law_other", "_law_amount"] ["_law_shelves", "_law_way", "_law_lot", "_law_one", "_law_other", "_law_amount"] (aC fJ):=⟨rfl,rfl,rfl,by decide +kernel,rfl,by decide +kernel,by decide +kernel⟩
theorem aqM:gU (a0E K A) (aC fJ)=true:=by kernel_rfl
theorem vL:kB (a0E K A) 0 oU (aF fJ)=true:=by kernel_rfl
theorem aqN:(fun EX=>mB (a0E K A).gl K (fun _=>EX) oU)=fun EX=>bV K A (fun _=>EX):=by kernel_rfl
theorem an4 (T:Txt K mg A):fC false P w K mg base (vU P w) 9 A.oN A.a6I ["_law_shelves", "_law_way", "_law_lot", "_law_one", "_law_other", "_law_amount"] (gY K (xV K A)):=by
  have h:=bL (qt:=false) (P:=P) (w:=w) (mg:=mg) (base:=base) (k:=8) (S:=a0E K A) (c:=oU) T.a6Z an3 rfl aqM vL (fB (⟨_,_,_,[],[],T.aN,T.a4D,(a9T T).mono (by decide),T.a4C,.nil,fun _ => .nil⟩)
    (fB (⟨_,_,_,[],[],T.aN,T.a1H,(a83 T).mono (by decide),T.a1G,.nil,fun _ => .nil⟩)
    (fB (⟨_,_,_,[],[],T.aN,T.zK,(a5O T).mono (by decide),T.zJ,.nil,fun _ => .nil⟩)
    (fB (⟨_,_,_,[],[],T.aN,T.rR,(vK T).mono (by decide),T.rQ,.nil,fun _ => .nil⟩)
    (fB (⟨_,_,_,[],[],T.aN,T.a9J,(aj1 T).mono (by decide),T.a9I,.nil,fun _ => .nil⟩)
    (fB (⟨_,_,_,[],[],T.aN,T.wX,(a2Z T).mono (by decide),T.wW,.nil,fun _ => .nil⟩)
    (fB (⟨_,_,_,[],[],T.aN,T.a5I,(aeD T).mono (by decide),T.a5H,.nil,fun _ => .nil⟩)
    gln)))))))
  rw [aqN] at h
  exact h
theorem aqO:bQ ["_law_shelves", "_law_way", "_law_things", "_law_e"] ["_law_shelves", "_law_way", "_law_things"] (aC iD):=⟨rfl,rfl,rfl,by decide +kernel,rfl,by decide +kernel,by decide +kernel⟩
theorem auH:gU (a2U K A) (aC iD)=true:=by kernel_rfl
theorem yX:kB (a2U K A) 0 qT (aF iD)=true:=by kernel_rfl
theorem auI:(fun EX=>mB (a2U K A).gl K (fun _=>EX) qT)=fun EX=>a2T K A (fun _=>EX):=by kernel_rfl
theorem aqP (T:Txt K mg A):fC false P w K mg base (vU P w) 10 A.qK A.a98 ["_law_shelves", "_law_way", "_law_things"] (gY K (a0F K A)):=by
  have h:=bL (qt:=false) (P:=P) (w:=w) (mg:=mg) (base:=base) (k:=9) (S:=a2U K A) (c:=qT) T.a9L aqO rfl auH yX (fB ⟨T.a70,T.oW,T.jG,T.n8,T.jH⟩
    (fB ⟨_,_,_,(an4 T).mono (by decide),T.ae4,T.a6Z.kp,T.ae3⟩
    (fB ⟨_,_,_,(a9W T).mono (by decide),T.a4F,T.xW.kp,T.a4E⟩
    gln)))
  rw [auI] at h
  exact h
theorem auJ:bQ ["_law_way", "_law_bad_here", "_law_wanted", "_law_kind"] ["_law_way", "_law_bad_here"] (aC kY):=⟨rfl,rfl,rfl,by decide +kernel,rfl,by decide +kernel,by decide +kernel⟩
theorem ax2:gU (a6Y K A) (aC kY)=true:=by kernel_rfl
theorem a1W:kB (a6Y K A) 0 u6 (aF kY)=true:=by kernel_rfl
theorem ax3:(fun EX=>mB (a6Y K A).gl K (fun _=>EX) u6)=fun EX=>a6X K A (fun _=>EX):=by kernel_rfl
theorem auK (T:Txt K mg A):fC false P w K mg base (vU P w) 1 A.tU A.acG ["_law_way", "_law_bad_here"] (gY K (a2V K A)):=by
  have h:=bL (qt:=false) (P:=P) (w:=w) (mg:=mg) (base:=base) (k:=0) (S:=a6Y K A) (c:=u6) T.acP auJ rfl ax2 a1W gln
  rw [ax3] at h
  exact h
theorem aqQ:bQ ["_law_plan_here", "_law_room", "_law_e"] ["_law_plan_here", "_law_room"] (aC iG):=⟨rfl,rfl,rfl,by decide +kernel,rfl,by decide +kernel,by decide +kernel⟩
theorem auL:gU (a2W K A) (aC iG)=true:=by kernel_rfl
theorem yZ:kB (a2W K A) 0 qU (aF iG)=true:=by kernel_rfl
theorem auM:(fun EX=>mB (a2W K A).gl K (fun _=>EX) qU)=fun EX=>uL K A (fun _=>EX):=by kernel_rfl
theorem aqR (T:Txt K mg A):fC false P w K mg base (vU P w) 6 A.qL A.a99 ["_law_plan_here", "_law_room"] (gY K (rP K A)):=by
  have h:=bL (qt:=false) (P:=P) (w:=w) (mg:=mg) (base:=base) (k:=5) (S:=a2W K A) (c:=qU) T.a9M aqQ rfl auL yZ (fB ⟨T.a70,T.oW,T.jG,T.n8,T.jH⟩
    (fB (⟨_,_,_,_,[],[],rfl,T.acQ,(zW T).mono (by decide),T.acR,T.uF,.nil,fun _ => .nil⟩)
    (fB ⟨_,_,_,(a9W T).mono (by decide),T.a4F,T.xW.kp,T.a4E⟩
    gln)))
  rw [auM] at h
  exact h
theorem aRS:bQ ["_law_script", "_law_plan_here", "_law_room", "_law_wrong", "_law_none", "_law_shelves", "_law_spot", "_law_k", "_law_cell", "_law_way", "_law_bad_here", "_law_things", "_law_kind", "_law_due_here"] ["_law_script"] (aC a94):=⟨rfl,rfl,rfl,by decide +kernel,rfl,by decide +kernel,by decide +kernel⟩
theorem aWW:gU (ayV K A) (aC a94)=true:=by kernel_rfl
theorem auN:kB (ayV K A) 0 akT (aF a94)=true:=by kernel_rfl
theorem aWX:(fun EX=>mB (ayV K A).gl K (fun _=>EX) akT)=fun EX=>ayU K A (fun _=>EX):=by kernel_rfl
theorem aRT (T:Txt K mg A):fC false P w K mg base (vU P w) 11 A.ahG A.aEF ["_law_script"] (gY K (aqC K A)):=by
  have h:=bL (qt:=false) (P:=P) (w:=w) (mg:=mg) (base:=base) (k:=10) (S:=ayV K A) (c:=akT) T.aLW aRS rfl aWW auN (fB ⟨_,_,_,(aqL T).mono (by decide),T.ahO,T.a9K.kp,T.ahN⟩
    (fB ⟨_,_,_,(a84 T).mono (by decide),T.a1J,T.vG.kp,T.a1I⟩
    (fB ⟨T.aEJ,aH1⟩
    (fB ⟨_,_,_,(auG T).mono (by decide),T.akY,T.acO.kp,T.akX⟩
    (fB ⟨_,_,_,(aqR T).mono (by decide),T.ahS,T.a9M.kp,T.ahR⟩
    (fB (⟨_,_,_,_,[],[],rfl,T.acQ,(zW T).mono (by decide),T.acR,T.uF,.nil,fun _ => .nil⟩)
    (fB (⟨_,_,_,[],[],T.aN,T.a4D,(a9T T).mono (by decide),T.a4C,.nil,fun _ => .nil⟩)
    (fB ⟨T.ayZ,aDR⟩
    (fB ⟨_,_,_,(auK T).mono (by decide),T.al0,T.acP.kp,T.akZ⟩
    (fB ⟨_,_,_,(aqP T).mono (by decide),T.ahQ,T.a9L.kp,T.ahP⟩
    (fB (⟨_,_,_,[],[],T.aN,T.a82,(agK T).mono (by decide),T.a81,.nil,fun _ => .nil⟩)
    (fB (⟨_,_,_,[],[],T.aN,T.a1H,(a83 T).mono (by decide),T.a1G,.nil,fun _ => .nil⟩)
    (fB (⟨_,_,_,[],[],T.aN,T.zK,(a5O T).mono (by decide),T.zJ,.nil,fun _ => .nil⟩)
    (fB (⟨_,_,_,[],[],T.aN,T.rR,(vK T).mono (by decide),T.rQ,.nil,fun _ => .nil⟩)
    (fB ⟨T.ayY,avT⟩
    gln)))))))))))))))
  rw [aWX] at h
  exact h
end
def az0 (K:Fg):Sp:=fun vs H Q _=>∃ (a:Addr) (ns:List Int),vs=[.ref a]∧SqL K H a (ns.map V.int)∧ns.length≤63∧∀ H',Q (.bl true) H'
theorem aKP {K:Fg} {mg:Str→Option Value} {A:bT} (T:Txt K mg A):∀ vs H Q E,az0 K vs H Q E→gY K (aqC K A) vs H Q E:=by
  rintro vs H Q E ⟨a,ns,rfl,hS,hl,k⟩
  refine ⟨[.ref a],fun b=>if b=a then some (.rol (ns.map D.int)) else none,fun d _=>d = .bl true,fun _ _=>False,.cons (.ref a) .nil,fun b o e=>?_,main T a ns hl _ (if_pos rfl),fun v H' d G' r g e=>?_,fun C H' G' g z=>z.elim⟩
  · have e2:(if b=a then some (GO.rol (ns.map D.int)) else none)=some o:=e
    by_cases hb:b=a
    · subst hb
      rw [if_pos rfl] at e2
      cases e2
      exact ⟨_,hS,iJ.ints ns⟩
    · rw [if_neg hb] at e2
      cases e2
  · subst e
    cases r
    exact k H'
theorem all_mk {l:PySem.W.OpenLaw} {w:World} {K:Fg} {h:Heap} {mg:Str→Option Value} {fa:Addr} (XK:K.In h) (GG:h.Ns mainGlobals mg) (hfa:mg "law" = some (.ref fa))
    {cG:Addr}
    {aL:Addr}
    {cD:Addr}
    {dM:Addr}
    {dN:Addr}
    {bD:Addr}
    {cF:Addr}
    {aX:Addr}
    {a76:Addr} {auO ahW:Option Addr} {auP:Array (Option Value)} {auQ ahX ahY ahZ a9X ai0:Value}
    {ab5:Addr} {ax4 alH:Option Addr} {ax5:Array (Option Value)} {ax6 alI alJ alK acX alL:Value}
    {a3A:Addr} {aqS aeE:Option Addr} {aqT:Array (Option Value)} {aqU aeF aeG aeH a77 aeI:Value}
    {ab6:Addr} {ax7 alM:Option Addr} {ax8:Array (Option Value)} {ax9 alN alO alP acY alQ:Value}
    {a3B:Addr} {aqV aeJ:Option Addr} {aqW:Array (Option Value)} {aqX aeK aeL aeM a78 aeN:Value}
    {aeO:Addr} {aAU aoB:Option Addr} {aAV:Array (Option Value)} {aAW aoC aoD aoE agL aoF:Value}
    {a79:Addr} {auR ai1:Option Addr} {auS:Array (Option Value)} {auT ai2 ai3 ai4 a9Y ai5:Value}
    {a7A:Addr} {auU ai6:Option Addr} {auV:Array (Option Value)} {auW ai7 ai8 ai9 a9Z aiA:Value}
    {xX:Addr} {alR aa0:Option Addr} {alS:Array (Option Value)} {alT aa1 aa2 aa3 a1X aa4:Value}
    {aeP:Addr} {aAX aoG:Option Addr} {aAY:Array (Option Value)} {aAZ aoH aoI aoJ agM aoK:Value}
    {a7B:Addr} {auX aiB:Option Addr} {auY:Array (Option Value)} {auZ aiC aiD aiE aa5 aiF:Value}
    {lQ:Addr} {abC zX:Option Addr} {abD:Array (Option Value)} {abE zY zZ a00 sI a01:Value}
    {sJ:Addr} {abF:Value} {abG:Option Addr} {abH:Array (Option Value)} {a02:Tok} {abI:Nat}
    {oA:Addr} {aeQ a3C:Option Addr} {aeR:Array (Option Value)} {aeS a3D a3E a3F vM a3G:Value}
    {jD:Addr} {aa6 z6:Option Addr} {aa7:Array (Option Value)} {aa8 z7 z8 z9 rE zA:Value}
    {tE:Addr} {alU aa9:Option Addr} {alV:Array (Option Value)} {alW aaA aaB aaC a1Y aaD:Value}
    {oE:Addr} {aeT a3H:Option Addr} {aeU:Array (Option Value)} {aeV a3I a3J a3K vN a3L:Value}
    {iI:Addr} {a8N vX:Option Addr} {a8O:Array (Option Value)} {a8P vY vZ w5 pU w6:Value}
    {rF:Addr} {aj5 a85:Option Addr} {aj6:Array (Option Value)} {aj7 a86 a87 a88 zM a89:Value}
    {pF:Addr} {agN a5P:Option Addr} {agO:Array (Option Value)} {agP a5Q a5R a5S xB a5T:Value}
    {rG:Addr} {aj8 a8A:Option Addr} {aj9:Array (Option Value)} {ajA a8B a8C a8D zN a8E:Value}
    {oF:Addr} {aeW a3M:Option Addr} {aeX:Array (Option Value)} {aeY a3N a3O a3P vO a3Q:Value}
    {pG:Addr} {agQ a5U:Option Addr} {agR:Array (Option Value)} {agS a5V a5W a5X xC a5Y:Value}
    {vP:Addr} {ajB a8F:Option Addr} {ajC:Array (Option Value)} {ajD a8G a8H a8I zO a8J:Value}
    {a3R:Addr} {aqY aeZ:Option Addr} {aqZ:Array (Option Value)} {ar0 af0 af2 af3 a7C af4:Value}
    {xY:Addr} {alX aaE:Option Addr} {alY:Array (Option Value)} {alZ aaF aaG aaH a1Z aaI:Value}
    {a7D:Addr} {av0 aiG:Option Addr} {av1:Array (Option Value)} {av2 aiH aiI aiJ aaJ aiK:Value}
    {a0G:Addr} {an5 abV:Option Addr} {an6:Array (Option Value)} {an7 abW abX abY a4H abZ:Value}
    {a3S:Addr} {ar3 af5:Option Addr} {ar4:Array (Option Value)} {ar5 af6 af7 af8 a7E af9:Value}
    {a7F:Addr} {av3 aiL:Option Addr} {av4:Array (Option Value)} {av5 aiM aiN aiO aaK aiP:Value}
    {a3T:Addr} {ar6 afA:Option Addr} {ar7:Array (Option Value)} {ar8 afB afC afD a7G afE:Value}
    {aF2:Addr} {aRU aF3:Option Addr} {aRV:Array (Option Value)} {aRW aF4 aF5 aF6 axA aF7:Value}
    {ac0:Tok}
    {ac1:Tok}
    {ac2:Tok}
    {am0:Tok}
    {aiQ:Tok}
    (tL:PySem.W.nsIn K mainGlobals "is_whole" = some (some (.ref a76)))
    (acZ:K.lookup a76=some ⟨auQ,auO,.func (PySem.W.fnOf "is_whole" "is_whole" (aM jX) (aF jX) (aC jX) .none ahX ahY ahZ ahW a9X ai0),auP⟩)
    (tV:PySem.W.codeIn K a9X "is_whole" = true)
    (a1R:PySem.W.keepIn K (.ref a76)=true)
    (wG:PySem.W.nsIn K mainGlobals "is_pair" = some (some (.ref ab5)))
    (agT:K.lookup ab5=some ⟨ax6,ax4,.func (PySem.W.fnOf "is_pair" "is_pair" (aM nJ) (aF nJ) (aC nJ) .none alI alJ alK alH acX alL),ax5⟩)
    (wL:PySem.W.codeIn K acX "is_pair" = true)
    (a5M:PySem.W.keepIn K (.ref ab5)=true)
    (qG:PySem.W.nsIn K mainGlobals "is_amount" = some (some (.ref a3A)))
    (aaL:K.lookup a3A=some ⟨aqU,aqS,.func (PySem.W.fnOf "is_amount" "is_amount" (aM gZ) (aF gZ) (aC gZ) .none aeF aeG aeH aeE a77 aeI),aqT⟩)
    (qM:PySem.W.codeIn K a77 "is_amount" = true)
    (yR:PySem.W.keepIn K (.ref a3A)=true)
    (wH:PySem.W.nsIn K mainGlobals "is_plan" = some (some (.ref ab6)))
    (agU:K.lookup ab6=some ⟨ax9,ax7,.func (PySem.W.fnOf "is_plan" "is_plan" (aM nM) (aF nM) (aC nM) .none alN alO alP alM acY alQ),ax8⟩)
    (wM:PySem.W.codeIn K acY "is_plan" = true)
    (a5N:PySem.W.keepIn K (.ref ab6)=true)
    (qH:PySem.W.nsIn K mainGlobals "need_plan" = some (some (.ref a3B)))
    (aaM:K.lookup a3B=some ⟨aqX,aqV,.func (PySem.W.fnOf "need_plan" "need_plan" (aM iB) (aF iB) (aC iB) .none aeK aeL aeM aeJ a78 aeN),aqW⟩)
    (qN:PySem.W.codeIn K a78 "need_plan" = true)
    (yS:PySem.W.keepIn K (.ref a3B)=true)
    (a0S:PySem.W.nsIn K mainGlobals "is_bin" = some (some (.ref aeO)))
    (am1:K.lookup aeO=some ⟨aAW,aAU,.func (PySem.W.fnOf "is_bin" "is_bin" (aM qD) (aF qD) (aC qD) .none aoC aoD aoE aoB agL aoF),aAV⟩)
    (a0Y:PySem.W.codeIn K agL "is_bin" = true)
    (a9Q:PySem.W.keepIn K (.ref aeO)=true)
    (tM:PySem.W.nsIn K mainGlobals "need_lot" = some (some (.ref a79)))
    (ad0:K.lookup a79=some ⟨auT,auR,.func (PySem.W.fnOf "need_lot" "need_lot" (aM jY) (aF jY) (aC jY) .none ai2 ai3 ai4 ai1 a9Y ai5),auS⟩)
    (tW:PySem.W.codeIn K a9Y "need_lot" = true)
    (a1S:PySem.W.keepIn K (.ref a79)=true)
    (tO:PySem.W.nsIn K mainGlobals "need_bin" = some (some (.ref a7A)))
    (ad1:K.lookup a7A=some ⟨auW,auU,.func (PySem.W.fnOf "need_bin" "need_bin" (aM jZ) (aF jZ) (aC jZ) .none ai7 ai8 ai9 ai6 a9Z aiA),auV⟩)
    (tX:PySem.W.codeIn K a9Z "need_bin" = true)
    (a1T:PySem.W.keepIn K (.ref a7A)=true)
    (mR:PySem.W.nsIn K mainGlobals "need_amount" = some (some (.ref xX)))
    (a4I:K.lookup xX=some ⟨alT,alR,.func (PySem.W.fnOf "need_amount" "need_amount" (aM dU) (aF dU) (aC dU) .none aa1 aa2 aa3 aa0 a1X aa4),alS⟩)
    (mW:PySem.W.codeIn K a1X "need_amount" = true)
    (sZ:PySem.W.keepIn K (.ref xX)=true)
    (a0T:PySem.W.nsIn K mainGlobals "change" = some (some (.ref aeP)))
    (am2:K.lookup aeP=some ⟨aAZ,aAX,.func (PySem.W.fnOf "change" "change" (aM qF) (aF qF) (aC qF) .none aoH aoI aoJ aoG agM aoK),aAY⟩)
    (a0Z:PySem.W.codeIn K agM "change" = true)
    (a9R:PySem.W.keepIn K (.ref aeP)=true)
    (tQ:PySem.W.nsIn K mainGlobals "in_order" = some (some (.ref a7B)))
    (ad2:K.lookup a7B=some ⟨auZ,auX,.func (PySem.W.fnOf "in_order" "in_order" (aM kJ) (aF kJ) (aC kJ) .none aiC aiD aiE aiB aa5 aiF),auY⟩)
    (tY:PySem.W.codeIn K aa5 "in_order" = true)
    (a1U:PySem.W.keepIn K (.ref a7B)=true)
    (cI:PySem.W.findIn K (.ref cG) "__init__" = some (some (.ref lQ)))
    (oY:PySem.W.isFn K (.ref lQ)=true)
    (uI:K.lookup lQ=some ⟨abE,abC,.func (PySem.W.fnOf "__init__" "Shelves.__init__" (aM bN) (aF bN) (aC bN) (.ref sJ) zY zZ a00 zX sI a01),abD⟩)
    (eG:PySem.W.codeIn K sI "Shelves.__init__" = true)
    (gQ:PySem.W.keepIn K (.ref lQ)=true)
    (gR:K.lookup sJ=some ⟨abF,abG,.seq #[.int 1000 a02] abI,abH⟩)
    (gC:PySem.W.findIn K (.ref cG) "filled" = some (some (.ref oA)))
    (xD:PySem.W.isFn K (.ref oA)=true)
    (xE:K.lookup oA=some ⟨aeS,aeQ,.func (PySem.W.fnOf "filled" "Shelves.filled" (aM bW) (aF bW) (aC bW) .none a3D a3E a3F a3C vM a3G),aeR⟩)
    (gH:PySem.W.codeIn K vM "Shelves.filled" = true)
    (jQ:PySem.W.keepIn K (.ref oA)=true)
    (dG:PySem.W.findIn K (.ref cG) "need_room" = some (some (.ref jD)))
    (sO:PySem.W.isFn K (.ref jD)=true)
    (sS:K.lookup jD=some ⟨aa8,aa6,.func (PySem.W.fnOf "need_room" "Shelves.need_room" (aM bG) (aF bG) (aC bG) .none z7 z8 z9 z6 rE zA),aa7⟩)
    (dH:PySem.W.codeIn K rE "Shelves.need_room" = true)
    (fV:PySem.W.keepIn K (.ref jD)=true)
    (mU:PySem.W.findIn K (.ref cG) "put" = some (some (.ref tE)))
    (a4J:PySem.W.isFn K (.ref tE)=true)
    (a4K:K.lookup tE=some ⟨alW,alU,.func (PySem.W.fnOf "put" "Shelves.put" (aM dW) (aF dW) (aC dW) .none aaA aaB aaC aa9 a1Y aaD),alV⟩)
    (mX:PySem.W.codeIn K a1Y "Shelves.put" = true)
    (pR:PySem.W.keepIn K (.ref tE)=true)
    (gF:PySem.W.findIn K (.ref cG) "amount" = some (some (.ref oE)))
    (xF:PySem.W.isFn K (.ref oE)=true)
    (xG:K.lookup oE=some ⟨aeV,aeT,.func (PySem.W.fnOf "amount" "Shelves.amount" (aM bY) (aF bY) (aC bY) .none a3I a3J a3K a3H vN a3L),aeU⟩)
    (gJ:PySem.W.codeIn K vN "Shelves.amount" = true)
    (jR:PySem.W.keepIn K (.ref oE)=true)
    (cX:PySem.W.findIn K (.ref cG) "need_there" = some (some (.ref iI)))
    (rH:PySem.W.isFn K (.ref iI)=true)
    (rJ:K.lookup iI=some ⟨a8P,a8N,.func (PySem.W.fnOf "need_there" "Shelves.need_there" (aM bC) (aF bC) (aC bC) .none vY vZ w5 vX pU w6),a8O⟩)
    (cZ:PySem.W.codeIn K pU "Shelves.need_there" = true)
    (f9:PySem.W.keepIn K (.ref iI)=true)
    (kZ:PySem.W.findIn K (.ref cG) "take" = some (some (.ref rF)))
    (a2A:PySem.W.isFn K (.ref rF)=true)
    (a2B:K.lookup rF=some ⟨aj7,aj5,.func (PySem.W.fnOf "take" "Shelves.take" (aM cU) (aF cU) (aC cU) .none a86 a87 a88 a85 zM a89),aj6⟩)
    (lC:PySem.W.codeIn K zM "Shelves.take" = true)
    (o8:PySem.W.keepIn K (.ref rF)=true)
    (iY:PySem.W.findIn K (.ref cG) "shift" = some (some (.ref pF)))
    (zP:PySem.W.isFn K (.ref pF)=true)
    (zQ:K.lookup pF=some ⟨agP,agN,.func (PySem.W.fnOf "shift" "Shelves.shift" (aM cM) (aF cM) (aC cM) .none a5Q a5R a5S a5P xB a5T),agO⟩)
    (j5:PySem.W.codeIn K xB "Shelves.shift" = true)
    (lY:PySem.W.keepIn K (.ref pF)=true)
    (lA:PySem.W.findIn K (.ref cG) "held" = some (some (.ref rG)))
    (a2C:PySem.W.isFn K (.ref rG)=true)
    (a2D:K.lookup rG=some ⟨ajA,aj8,.func (PySem.W.fnOf "held" "Shelves.held" (aM cV) (aF cV) (aC cV) .none a8B a8C a8D a8A zN a8E),aj9⟩)
    (lD:PySem.W.codeIn K zN "Shelves.held" = true)
    (o9:PySem.W.keepIn K (.ref rG)=true)
    (gG:PySem.W.findIn K (.ref cG) "places" = some (some (.ref oF)))
    (xH:PySem.W.isFn K (.ref oF)=true)
    (xJ:K.lookup oF=some ⟨aeY,aeW,.func (PySem.W.fnOf "places" "Shelves.places" (aM bZ) (aF bZ) (aC bZ) .none a3N a3O a3P a3M vO a3Q),aeX⟩)
    (gM:PySem.W.codeIn K vO "Shelves.places" = true)
    (jT:PySem.W.keepIn K (.ref oF)=true)
    (iZ:PySem.W.findIn K (.ref cG) "lying" = some (some (.ref pG)))
    (zR:PySem.W.isFn K (.ref pG)=true)
    (zT:K.lookup pG=some ⟨agS,agQ,.func (PySem.W.fnOf "lying" "Shelves.lying" (aM cN) (aF cN) (aC cN) .none a5V a5W a5X a5U xC a5Y),agR⟩)
    (j6:PySem.W.codeIn K xC "Shelves.lying" = true)
    (lZ:PySem.W.keepIn K (.ref pG)=true)
    (lB:PySem.W.nsIn K mainGlobals "_law_cell_at" = some (some (.ref vP)))
    (a2E:K.lookup vP=some ⟨ajD,ajB,.func (PySem.W.fnOf "_law_cell_at" "_law_cell_at" (aM cW) (aF cW) (aC cW) .none a8G a8H a8I a8F zO a8J),ajC⟩)
    (lE:PySem.W.codeIn K zO "_law_cell_at" = true)
    (rD:PySem.W.keepIn K (.ref vP)=true)
    (qJ:PySem.W.nsIn K mainGlobals "_law_plan" = some (some (.ref a3R)))
    (aaN:K.lookup a3R=some ⟨ar0,aqY,.func (PySem.W.fnOf "_law_plan" "_law_plan" (aM iC) (aF iC) (aC iC) .none af0 af2 af3 aeZ a7C af4),aqZ⟩)
    (qQ:PySem.W.codeIn K a7C "_law_plan" = true)
    (yW:PySem.W.keepIn K (.ref a3R)=true)
    (mV:PySem.W.nsIn K mainGlobals "_law_raised" = some (some (.ref xY)))
    (a4L:K.lookup xY=some ⟨alZ,alX,.func (PySem.W.fnOf "_law_raised" "_law_raised" (aM dX) (aF dX) (aC dX) .none aaF aaG aaH aaE a1Z aaI),alY⟩)
    (mY:PySem.W.codeIn K a1Z "_law_raised" = true)
    (tD:PySem.W.keepIn K (.ref xY)=true)
    (tR:PySem.W.nsIn K mainGlobals "_law_bad" = some (some (.ref a7D)))
    (ad3:K.lookup a7D=some ⟨av2,av0,.func (PySem.W.fnOf "_law_bad" "_law_bad" (aM kW) (aF kW) (aC kW) .none aiH aiI aiJ aiG aaJ aiK),av1⟩)
    (u5:PySem.W.codeIn K aaJ "_law_bad" = true)
    (a1V:PySem.W.keepIn K (.ref a7D)=true)
    (oN:PySem.W.nsIn K mainGlobals "_law_asked" = some (some (.ref a0G)))
    (a7H:K.lookup a0G=some ⟨an7,an5,.func (PySem.W.fnOf "_law_asked" "_law_asked" (aM fJ) (aF fJ) (aC fJ) .none abW abX abY abV a4H abZ),an6⟩)
    (oU:PySem.W.codeIn K a4H "_law_asked" = true)
    (vL:PySem.W.keepIn K (.ref a0G)=true)
    (qK:PySem.W.nsIn K mainGlobals "_law_told" = some (some (.ref a3S)))
    (aaO:K.lookup a3S=some ⟨ar5,ar3,.func (PySem.W.fnOf "_law_told" "_law_told" (aM iD) (aF iD) (aC iD) .none af6 af7 af8 af5 a7E af9),ar4⟩)
    (qT:PySem.W.codeIn K a7E "_law_told" = true)
    (yX:PySem.W.keepIn K (.ref a3S)=true)
    (tU:PySem.W.nsIn K mainGlobals "_law_due" = some (some (.ref a7F)))
    (ad4:K.lookup a7F=some ⟨av5,av3,.func (PySem.W.fnOf "_law_due" "_law_due" (aM kY) (aF kY) (aC kY) .none aiM aiN aiO aiL aaK aiP),av4⟩)
    (u6:PySem.W.codeIn K aaK "_law_due" = true)
    (a1W:PySem.W.keepIn K (.ref a7F)=true)
    (qL:PySem.W.nsIn K mainGlobals "_law_made" = some (some (.ref a3T)))
    (aaP:K.lookup a3T=some ⟨ar8,ar6,.func (PySem.W.fnOf "_law_made" "_law_made" (aM iG) (aF iG) (aC iG) .none afB afC afD afA a7G afE),ar7⟩)
    (qU:PySem.W.codeIn K a7G "_law_made" = true)
    (yZ:PySem.W.keepIn K (.ref a3T)=true)
    (ahG:PySem.W.nsIn K mainGlobals "law" = some (some (.ref aF2)))
    (aF8:K.lookup aF2=some ⟨aRW,aRU,.func (PySem.W.fnOf "law" "law" (aM a94) (aF a94) (aC a94) .none aF4 aF5 aF6 aF3 axA aF7),aRV⟩)
    (akT:PySem.W.codeIn K axA "law" = true)
    (auN:PySem.W.keepIn K (.ref aF2)=true)
    (ad5:PySem.W.nsIn K mainGlobals "Shelves" = some (some (.ref cG)))
    (ad6:PySem.W.plainGet K cG Str.empty=true)
    (ad7:PySem.W.hasDictIn K cG=true)
    (ad8:PySem.W.plainOver K cG=true)
    (ad9:PySem.W.findIn K (.ref cG) "__setattr__" = some (some (.builtin "object.__setattr__")))
    (adA:PySem.W.makesIn K cG=true)
    (adB:PySem.W.keepIn K (.ref cG)=true)
    (vQ:PySem.W.findIn K (.ref cG) "layout" = some none)
    (zU:PySem.W.findIn K (.ref cG) "room" = some none)
    (vR:PySem.W.findIn K (.ref cG) "stacks" = some none)
    (a7I:PySem.W.nsIn K mainGlobals "DepotError" = some (some (.ref aL)))
    (oW:PySem.W.excIn K aL [.type "ValueError",.type "Exception",.type "BaseException",.type "object"] "ValueError.__new__" = true)
    (jG:(PySem.W.clsIn K aL).isSome=true)
    (n8:PySem.W.typeIn K (.ref aL)=some (.type "type"))
    (jH:PySem.W.subIn K (.ref aL) (.type "BaseException")=some true)
    (a4M:PySem.W.findIn K (.ref aL) "__getattribute__" = some (some (.builtin "BaseException.__getattribute__")))
    (a4N:PySem.W.findIn K (.ref aL) "__getattr__" = some none)
    (a4O:PySem.W.findIn K (.ref aL) "__class__" = some (some (.builtin "object.__class__")))
    (a4P:PySem.W.mroIn K aL (.type "object")=some true)
    (sX:PySem.W.kitOne K (.ref aL) (.type "ValueError")=some true)
    (am3:PySem.W.nsIn K mainGlobals "NoPlan" = some (some (.ref cD)))
    (a1K:PySem.W.excIn K cD [.type "ValueError",.type "Exception",.type "BaseException",.type "object"] "ValueError.__new__" = true)
    (uM:(PySem.W.clsIn K cD).isSome=true)
    (wY:PySem.W.typeIn K (.ref cD)=some (.type "type"))
    (uN:PySem.W.subIn K (.ref cD) (.type "BaseException")=some true)
    (agV:PySem.W.findIn K (.ref cD) "__getattribute__" = some (some (.builtin "BaseException.__getattribute__")))
    (agW:PySem.W.findIn K (.ref cD) "__getattr__" = some none)
    (agX:PySem.W.findIn K (.ref cD) "__class__" = some (some (.builtin "object.__class__")))
    (agY:PySem.W.mroIn K cD (.type "object")=some true)
    (a0K:PySem.W.kitOne K (.ref cD) (.type "ValueError")=some true)
    (ar9:PySem.W.nsIn K mainGlobals "NoBin" = some (some (.ref dM)))
    (a71:PySem.W.excIn K dM [.type "ValueError",.type "Exception",.type "BaseException",.type "object"] "ValueError.__new__" = true)
    (yM:(PySem.W.clsIn K dM).isSome=true)
    (a1L:PySem.W.typeIn K (.ref dM)=some (.type "type"))
    (yN:PySem.W.subIn K (.ref dM) (.type "BaseException")=some true)
    (am4:PySem.W.findIn K (.ref dM) "__getattribute__" = some (some (.builtin "BaseException.__getattribute__")))
    (am5:PySem.W.findIn K (.ref dM) "__getattr__" = some none)
    (am6:PySem.W.findIn K (.ref dM) "__class__" = some (some (.builtin "object.__class__")))
    (am7:PySem.W.mroIn K dM (.type "object")=some true)
    (a5J:PySem.W.kitOne K (.ref dM) (.type "ValueError")=some true)
    (arA:PySem.W.nsIn K mainGlobals "NoLot" = some (some (.ref dN)))
    (a72:PySem.W.excIn K dN [.type "ValueError",.type "Exception",.type "BaseException",.type "object"] "ValueError.__new__" = true)
    (yO:(PySem.W.clsIn K dN).isSome=true)
    (a1M:PySem.W.typeIn K (.ref dN)=some (.type "type"))
    (yP:PySem.W.subIn K (.ref dN) (.type "BaseException")=some true)
    (am8:PySem.W.findIn K (.ref dN) "__getattribute__" = some (some (.builtin "BaseException.__getattribute__")))
    (am9:PySem.W.findIn K (.ref dN) "__getattr__" = some none)
    (amA:PySem.W.findIn K (.ref dN) "__class__" = some (some (.builtin "object.__class__")))
    (amB:PySem.W.mroIn K dN (.type "object")=some true)
    (a5K:PySem.W.kitOne K (.ref dN) (.type "ValueError")=some true)
    (adC:PySem.W.nsIn K mainGlobals "NoAmount" = some (some (.ref bD)))
    (uG:PySem.W.excIn K bD [.type "ValueError",.type "Exception",.type "BaseException",.type "object"] "ValueError.__new__" = true)
    (oG:(PySem.W.clsIn K bD).isSome=true)
    (qZ:PySem.W.typeIn K (.ref bD)=some (.type "type"))
    (oH:PySem.W.subIn K (.ref bD) (.type "BaseException")=some true)
    (aaQ:PySem.W.findIn K (.ref bD) "__getattribute__" = some (some (.builtin "BaseException.__getattribute__")))
    (aaR:PySem.W.findIn K (.ref bD) "__getattr__" = some none)
    (aaS:PySem.W.findIn K (.ref bD) "__class__" = some (some (.builtin "object.__class__")))
    (aaT:PySem.W.mroIn K bD (.type "object")=some true)
    (uO:PySem.W.kitOne K (.ref bD) (.type "ValueError")=some true)
    (amC:PySem.W.nsIn K mainGlobals "NoRoom" = some (some (.ref cF)))
    (a1N:PySem.W.excIn K cF [.type "ValueError",.type "Exception",.type "BaseException",.type "object"] "ValueError.__new__" = true)
    (uP:(PySem.W.clsIn K cF).isSome=true)
    (wZ:PySem.W.typeIn K (.ref cF)=some (.type "type"))
    (uQ:PySem.W.subIn K (.ref cF) (.type "BaseException")=some true)
    (agZ:PySem.W.findIn K (.ref cF) "__getattribute__" = some (some (.builtin "BaseException.__getattribute__")))
    (ah0:PySem.W.findIn K (.ref cF) "__getattr__" = some none)
    (ah1:PySem.W.findIn K (.ref cF) "__class__" = some (some (.builtin "object.__class__")))
    (ah2:PySem.W.mroIn K cF (.type "object")=some true)
    (a5L:PySem.W.kitOne K (.ref cF) (.type "ValueError")=some true)
    (aaU:PySem.W.nsIn K mainGlobals "TooLittle" = some (some (.ref aX)))
    (rA:PySem.W.excIn K aX [.type "ValueError",.type "Exception",.type "BaseException",.type "object"] "ValueError.__new__" = true)
    (mD:(PySem.W.clsIn K aX).isSome=true)
    (oX:PySem.W.typeIn K (.ref aX)=some (.type "type"))
    (mF:PySem.W.subIn K (.ref aX) (.type "BaseException")=some true)
    (a7J:PySem.W.findIn K (.ref aX) "__getattribute__" = some (some (.builtin "BaseException.__getattribute__")))
    (a7K:PySem.W.findIn K (.ref aX) "__getattr__" = some none)
    (a7L:PySem.W.findIn K (.ref aX) "__class__" = some (some (.builtin "object.__class__")))
    (a7M:PySem.W.mroIn K aX (.type "object")=some true)
    (vH:PySem.W.kitOne K (.ref aX) (.type "ValueError")=some true)
    (eX:PySem.W.kitOne K (.ref aL) (.ref aL)=some true)
    (eY:PySem.W.subIn K (.ref aL) (.ref aL)=some true)
    (fY:PySem.W.kitOne K (.ref aL) (.ref bD)=some false)
    (lG:PySem.W.kitOne K (.ref aL) (.ref dM)=some false)
    (lH:PySem.W.kitOne K (.ref aL) (.ref dN)=some false)
    (j7:PySem.W.kitOne K (.ref aL) (.ref cD)=some false)
    (j8:PySem.W.kitOne K (.ref aL) (.ref cF)=some false)
    (fL:PySem.W.kitOne K (.ref aL) (.ref aX)=some false)
    (j9:PySem.W.kitOne K (.ref cD) (.ref aL)=some true)
    (fQ:PySem.W.subIn K (.ref cD) (.ref aL)=some true)
    (iR:PySem.W.kitOne K (.ref cD) (.ref bD)=some false)
    (nT:PySem.W.kitOne K (.ref cD) (.ref dM)=some false)
    (nU:PySem.W.kitOne K (.ref cD) (.ref dN)=some false)
    (lW:PySem.W.kitOne K (.ref cD) (.ref cD)=some true)
    (lX:PySem.W.kitOne K (.ref cD) (.ref cF)=some false)
    (gO:PySem.W.kitOne K (.ref cD) (.ref aX)=some false)
    (lJ:PySem.W.kitOne K (.ref dM) (.ref aL)=some true)
    (d8:PySem.W.subIn K (.ref dM) (.ref aL)=some true)
    (jM:PySem.W.kitOne K (.ref dM) (.ref bD)=some false)
    (pJ:PySem.W.kitOne K (.ref dM) (.ref dM)=some true)
    (pK:PySem.W.kitOne K (.ref dM) (.ref dN)=some false)
    (nW:PySem.W.kitOne K (.ref dM) (.ref cD)=some false)
    (nY:PySem.W.kitOne K (.ref dM) (.ref cF)=some false)
    (iT:PySem.W.kitOne K (.ref dM) (.ref aX)=some false)
    (lK:PySem.W.kitOne K (.ref dN) (.ref aL)=some true)
    (gP:PySem.W.subIn K (.ref dN) (.ref aL)=some true)
    (jN:PySem.W.kitOne K (.ref dN) (.ref bD)=some false)
    (pL:PySem.W.kitOne K (.ref dN) (.ref dM)=some false)
    (pN:PySem.W.kitOne K (.ref dN) (.ref dN)=some true)
    (nZ:PySem.W.kitOne K (.ref dN) (.ref cD)=some false)
    (o7:PySem.W.kitOne K (.ref dN) (.ref cF)=some false)
    (iU:PySem.W.kitOne K (.ref dN) (.ref aX)=some false)
    (fZ:PySem.W.kitOne K (.ref bD) (.ref aL)=some true)
    (cQ:PySem.W.subIn K (.ref bD) (.ref aL)=some true)
    (fU:PySem.W.kitOne K (.ref bD) (.ref bD)=some true)
    (jO:PySem.W.kitOne K (.ref bD) (.ref dM)=some false)
    (jP:PySem.W.kitOne K (.ref bD) (.ref dN)=some false)
    (iV:PySem.W.kitOne K (.ref bD) (.ref cD)=some false)
    (iW:PySem.W.kitOne K (.ref bD) (.ref cF)=some false)
    (eZ:PySem.W.kitOne K (.ref bD) (.ref aX)=some false)
    (jA:PySem.W.kitOne K (.ref cF) (.ref aL)=some true)
    (jB:PySem.W.subIn K (.ref cF) (.ref aL)=some true)
    (mH:PySem.W.kitOne K (.ref cF) (.ref bD)=some false)
    (rB:PySem.W.kitOne K (.ref cF) (.ref dM)=some false)
    (rC:PySem.W.kitOne K (.ref cF) (.ref dN)=some false)
    (pC:PySem.W.kitOne K (.ref cF) (.ref cD)=some false)
    (pD:PySem.W.kitOne K (.ref cF) (.ref cF)=some true)
    (lM:PySem.W.kitOne K (.ref cF) (.ref aX)=some false)
    (fM:PySem.W.kitOne K (.ref aX) (.ref aL)=some true)
    (fO:PySem.W.subIn K (.ref aX) (.ref aL)=some true)
    (iH:PySem.W.kitOne K (.ref aX) (.ref bD)=some false)
    (mJ:PySem.W.kitOne K (.ref aX) (.ref dM)=some false)
    (mK:PySem.W.kitOne K (.ref aX) (.ref dN)=some false)
    (lN:PySem.W.kitOne K (.ref aX) (.ref cD)=some false)
    (lO:PySem.W.kitOne K (.ref aX) (.ref cF)=some false)
    (gA:PySem.W.kitOne K (.ref aX) (.ref aX)=some true)
    (pO:PySem.W.nsIn K mainGlobals "MOST_AISLES" = some (some (.int 26 ac0)))
    (pP:PySem.W.nsIn K mainGlobals "MOST_PLACES" = some (some (.int 99 ac1)))
    (pQ:PySem.W.nsIn K mainGlobals "MOST_AMOUNT" = some (some (.int 1000000 ac2)))
    (xA:PySem.W.nsIn K mainGlobals "MOST_GAP" = some (some (.int 20 am0)))
    (jJ:PySem.W.nsIn K mainGlobals "MOST_LOTS" = some (some (.int 1000 aiQ)))
    (a7N:PySem.W.nsIn K mainGlobals "ValueError" = some none)
    (axB:PySem.W.nsIn K mainGlobals "bool" = some none)
    (axC:PySem.W.nsIn K mainGlobals "dict" = some none)
    (aF9:PySem.W.nsIn K mainGlobals "int" = some none)
    (a7O:PySem.W.nsIn K mainGlobals "isinstance" = some none)
    (aFA:PySem.W.nsIn K mainGlobals "len" = some none)
    (axD:PySem.W.nsIn K mainGlobals "list" = some none)
    (arB:PySem.W.nsIn K mainGlobals "range" = some none)
    (amD:PySem.W.nsIn K mainGlobals "sorted" = some none)
    (aFB:PySem.W.nsIn K mainGlobals "sum" = some none)
    (arC:PySem.W.nsIn K mainGlobals "tuple" = some none) :
    ∃ fd:FuncData,(∀ (s:Shared) (v:Value),BindsTo s fd ⟨[v],[]⟩ [("_law_script",v)])∧∀ base:Heap,K.In base→base.Ns mainGlobals mg→fC false l.prog w K mg base (vU l.prog w) 11 fa fd ["_law_script"] (az0 K):=by
  have e:=hfa.symm.trans (PySem.W.mg_of XK GG ahG)
  cases e
  have T:Txt K mg ⟨a76,PySem.W.fnOf "is_whole" "is_whole" (aM jX) (aF jX) (aC jX) .none ahX ahY ahZ ahW a9X ai0,
    ab5,PySem.W.fnOf "is_pair" "is_pair" (aM nJ) (aF nJ) (aC nJ) .none alI alJ alK alH acX alL,
    a3A,PySem.W.fnOf "is_amount" "is_amount" (aM gZ) (aF gZ) (aC gZ) .none aeF aeG aeH aeE a77 aeI,
    ab6,PySem.W.fnOf "is_plan" "is_plan" (aM nM) (aF nM) (aC nM) .none alN alO alP alM acY alQ,
    a3B,PySem.W.fnOf "need_plan" "need_plan" (aM iB) (aF iB) (aC iB) .none aeK aeL aeM aeJ a78 aeN,
    aeO,PySem.W.fnOf "is_bin" "is_bin" (aM qD) (aF qD) (aC qD) .none aoC aoD aoE aoB agL aoF,
    a79,PySem.W.fnOf "need_lot" "need_lot" (aM jY) (aF jY) (aC jY) .none ai2 ai3 ai4 ai1 a9Y ai5,
    a7A,PySem.W.fnOf "need_bin" "need_bin" (aM jZ) (aF jZ) (aC jZ) .none ai7 ai8 ai9 ai6 a9Z aiA,
    xX,PySem.W.fnOf "need_amount" "need_amount" (aM dU) (aF dU) (aC dU) .none aa1 aa2 aa3 aa0 a1X aa4,
    aeP,PySem.W.fnOf "change" "change" (aM qF) (aF qF) (aC qF) .none aoH aoI aoJ aoG agM aoK,
    a7B,PySem.W.fnOf "in_order" "in_order" (aM kJ) (aF kJ) (aC kJ) .none aiC aiD aiE aiB aa5 aiF,
    lQ,PySem.W.fnOf "__init__" "Shelves.__init__" (aM bN) (aF bN) (aC bN) (.ref sJ) zY zZ a00 zX sI a01,
    oA,PySem.W.fnOf "filled" "Shelves.filled" (aM bW) (aF bW) (aC bW) .none a3D a3E a3F a3C vM a3G,
    jD,PySem.W.fnOf "need_room" "Shelves.need_room" (aM bG) (aF bG) (aC bG) .none z7 z8 z9 z6 rE zA,
    tE,PySem.W.fnOf "put" "Shelves.put" (aM dW) (aF dW) (aC dW) .none aaA aaB aaC aa9 a1Y aaD,
    oE,PySem.W.fnOf "amount" "Shelves.amount" (aM bY) (aF bY) (aC bY) .none a3I a3J a3K a3H vN a3L,
    iI,PySem.W.fnOf "need_there" "Shelves.need_there" (aM bC) (aF bC) (aC bC) .none vY vZ w5 vX pU w6,
    rF,PySem.W.fnOf "take" "Shelves.take" (aM cU) (aF cU) (aC cU) .none a86 a87 a88 a85 zM a89,
    pF,PySem.W.fnOf "shift" "Shelves.shift" (aM cM) (aF cM) (aC cM) .none a5Q a5R a5S a5P xB a5T,
    rG,PySem.W.fnOf "held" "Shelves.held" (aM cV) (aF cV) (aC cV) .none a8B a8C a8D a8A zN a8E,
    oF,PySem.W.fnOf "places" "Shelves.places" (aM bZ) (aF bZ) (aC bZ) .none a3N a3O a3P a3M vO a3Q,
    pG,PySem.W.fnOf "lying" "Shelves.lying" (aM cN) (aF cN) (aC cN) .none a5V a5W a5X a5U xC a5Y,
    vP,PySem.W.fnOf "_law_cell_at" "_law_cell_at" (aM cW) (aF cW) (aC cW) .none a8G a8H a8I a8F zO a8J,
    a3R,PySem.W.fnOf "_law_plan" "_law_plan" (aM iC) (aF iC) (aC iC) .none af0 af2 af3 aeZ a7C af4,
    xY,PySem.W.fnOf "_law_raised" "_law_raised" (aM dX) (aF dX) (aC dX) .none aaF aaG aaH aaE a1Z aaI,
    a7D,PySem.W.fnOf "_law_bad" "_law_bad" (aM kW) (aF kW) (aC kW) .none aiH aiI aiJ aiG aaJ aiK,
    a0G,PySem.W.fnOf "_law_asked" "_law_asked" (aM fJ) (aF fJ) (aC fJ) .none abW abX abY abV a4H abZ,
    a3S,PySem.W.fnOf "_law_told" "_law_told" (aM iD) (aF iD) (aC iD) .none af6 af7 af8 af5 a7E af9,
    a7F,PySem.W.fnOf "_law_due" "_law_due" (aM kY) (aF kY) (aC kY) .none aiM aiN aiO aiL aaK aiP,
    a3T,PySem.W.fnOf "_law_made" "_law_made" (aM iG) (aF iG) (aC iG) .none afB afC afD afA a7G afE,
    fa,PySem.W.fnOf "law" "law" (aM a94) (aF a94) (aC a94) .none aF4 aF5 aF6 aF3 axA aF7,
    aL,
    cD,
    dM,
    dN,
    bD,
    cF,
    aX,
    cG⟩:={
    wR:=eF (st:=jX) acZ tV a1R,
    a1D:=cP (ps:=["thing", "least", "most"]) (fun us hl=>match us,hl with | [_,_,_],_=>rfl),
    a1E:=PySem.W.mg_of XK GG tL,
    ag6:=eF (st:=nJ) agT wL a5M,
    ao4:=cP (ps:=["thing", "aisles", "first", "last"]) (fun us hl=>match us,hl with | [_,_,_,_],_=>rfl),
    ao5:=PySem.W.mg_of XK GG wG,
    a9C:=eF (st:=gZ) aaL qM yR,
    ahL:=cP (ps:=["thing"]) (fun us hl=>match us,hl with | [_],_=>rfl),
    ahM:=PySem.W.mg_of XK GG qG,
    ag7:=eF (st:=nM) agU wM a5N,
    ao6:=cP (ps:=["thing"]) (fun us hl=>match us,hl with | [_],_=>rfl),
    ao7:=PySem.W.mg_of XK GG wH,
    a2X:=eF (st:=iB) aaM qN yS,
    a9D:=cP (ps:=["plan"]) (fun us hl=>match us,hl with | [_],_=>rfl),
    a9E:=PySem.W.mg_of XK GG qH,
    akU:=eF (st:=qD) am1 a0Y a9Q,
    atU:=cP (ps:=["plan", "thing"]) (fun us hl=>match us,hl with | [_,_],_=>rfl),
    atV:=PySem.W.mg_of XK GG a0S,
    u9:=eF (st:=jY) ad0 tW a1S,
    wU:=cP (ps:=["thing", "lots"]) (fun us hl=>match us,hl with | [_,_],_=>rfl),
    wV:=PySem.W.mg_of XK GG tM,
    qW:=eF (st:=jZ) ad1 tX a1T,
    uD:=cP (ps:=["plan", "thing"]) (fun us hl=>match us,hl with | [_,_],_=>rfl),
    uE:=PySem.W.mg_of XK GG tO,
    pI:=eF (st:=dU) a4I mW sZ,
    sV:=cP (ps:=["thing"]) (fun us hl=>match us,hl with | [_],_=>rfl),
    sW:=PySem.W.mg_of XK GG mR,
    a9F:=eF (st:=qF) am2 a0Z a9R,
    ae1:=cP (ps:=["stacks", "spot", "lot", "more"]) (fun us hl=>match us,hl with | [_,_,_,_],_=>rfl),
    ae2:=PySem.W.mg_of XK GG a0T,
    acL:=eF (st:=kJ) ad2 tY a1U,
    akV:=cP (ps:=["stacks"]) (fun us hl=>match us,hl with | [_],_=>rfl),
    akW:=PySem.W.mg_of XK GG tQ,
    a1F:=eF (st:=bN) uI eG gQ,
    uF:=aIK (ps:=["self", "plan", "room"]) gR (fun us hl=>match us,hl with | [_,_,_],_=>⟨_,rfl,rfl,rfl⟩),acM:=⟨cI,oY,gQ⟩,acN:=⟨a02,aIL (ps:=["self", "plan", "room"]) gR (fun us hl=>match us,hl with | [_,_],_=>⟨_,rfl,rfl,rfl⟩)⟩,
    a5E:=eF (st:=bW) xE gH jQ,
    wW:=cP (ps:=["self", "spot"]) (fun us hl=>match us,hl with | [_,_],_=>rfl),wX:=⟨gC,xD,jQ⟩,
    zV:=eF (st:=bG) sS dH fV,
    sG:=cP (ps:=["self", "spot", "amount"]) (fun us hl=>match us,hl with | [_,_,_],_=>rfl),sH:=⟨dG,sO,fV⟩,
    abU:=eF (st:=dW) a4K mX pR,
    a4C:=cP (ps:=["self", "lot", "spot", "amount"]) (fun us hl=>match us,hl with | [_,_,_,_],_=>rfl),a4D:=⟨mU,a4J,pR⟩,
    a5F:=eF (st:=bY) xG gJ jR,
    rQ:=cP (ps:=["self", "lot", "spot"]) (fun us hl=>match us,hl with | [_,_,_],_=>rfl),rR:=⟨gF,xF,jR⟩,
    yL:=eF (st:=bC) rJ cZ f9,
    qX:=cP (ps:=["self", "lot", "spot", "amount"]) (fun us hl=>match us,hl with | [_,_,_,_],_=>rfl),qY:=⟨cX,rH,f9⟩,
    a9G:=eF (st:=cU) a2B lC o8,
    a1G:=cP (ps:=["self", "lot", "spot", "amount"]) (fun us hl=>match us,hl with | [_,_,_,_],_=>rfl),a1H:=⟨kZ,a2A,o8⟩,
    a7Z:=eF (st:=cM) zQ j5 lY,
    zJ:=cP (ps:=["self", "lot", "one", "other", "amount"]) (fun us hl=>match us,hl with | [_,_,_,_,_],_=>rfl),zK:=⟨iY,zP,lY⟩,
    a9H:=eF (st:=cV) a2D lD o9,
    a9I:=cP (ps:=["self", "spot"]) (fun us hl=>match us,hl with | [_,_],_=>rfl),a9J:=⟨lA,a2C,o9⟩,
    a5G:=eF (st:=bZ) xJ gM jT,
    a5H:=cP (ps:=["self", "lot"]) (fun us hl=>match us,hl with | [_,_],_=>rfl),a5I:=⟨gG,xH,jT⟩,
    a80:=eF (st:=cN) zT j6 lZ,
    a81:=cP (ps:=["self"]) (fun us hl=>match us,hl with | [_],_=>rfl),a82:=⟨iZ,zR,lZ⟩,
    vG:=eF (st:=cW) a2E lE rD,
    a1I:=cP (ps:=["_law_script", "_law_k"]) (fun us hl=>match us,hl with | [_,_],_=>rfl),
    a1J:=PySem.W.mg_of XK GG lB,
    a9K:=eF (st:=iC) aaN qQ yW,
    ahN:=cP (ps:=["_law_script", "_law_k"]) (fun us hl=>match us,hl with | [_,_],_=>rfl),
    ahO:=PySem.W.mg_of XK GG qJ,
    xW:=eF (st:=dX) a4L mY tD,
    a4E:=cP (ps:=["_law_e"]) (fun us hl=>match us,hl with | [_],_=>rfl),
    a4F:=PySem.W.mg_of XK GG mV,
    acO:=eF (st:=kW) ad3 u5 a1V,
    akX:=cP (ps:=["_law_kind", "_law_cell", "_law_plan_here"]) (fun us hl=>match us,hl with | [_,_,_],_=>rfl),
    akY:=PySem.W.mg_of XK GG tR,
    a6Z:=eF (st:=fJ) a7H oU vL,
    ae3:=cP (ps:=["_law_shelves", "_law_way", "_law_lot", "_law_one", "_law_other", "_law_amount"]) (fun us hl=>match us,hl with | [_,_,_,_,_,_],_=>rfl),
    ae4:=PySem.W.mg_of XK GG oN,
    a9L:=eF (st:=iD) aaO qT yX,
    ahP:=cP (ps:=["_law_shelves", "_law_way", "_law_things"]) (fun us hl=>match us,hl with | [_,_,_],_=>rfl),
    ahQ:=PySem.W.mg_of XK GG qK,
    acP:=eF (st:=kY) ad4 u6 a1W,
    akZ:=cP (ps:=["_law_way", "_law_bad_here"]) (fun us hl=>match us,hl with | [_,_],_=>rfl),
    al0:=PySem.W.mg_of XK GG tU,
    a9M:=eF (st:=iG) aaP qU yZ,
    ahR:=cP (ps:=["_law_plan_here", "_law_room"]) (fun us hl=>match us,hl with | [_,_],_=>rfl),
    ahS:=PySem.W.mg_of XK GG qL,
    aLW:=eF (st:=a94) aF8 akT auN,
    aWM:=cP (ps:=["_law_script"]) (fun us hl=>match us,hl with | [_],_=>rfl),
    aWN:=PySem.W.mg_of XK GG ahG,
    aN:=⟨ad6,ad7,ad8,ad9⟩,acQ:=⟨adA,cI,oY,adB⟩,acR:=PySem.W.mg_of XK GG ad5,
    dJ:=vQ,
    zL:=zU,
    cB:=vR,
    a70:=PySem.W.mg_of XK GG a7I,
    oW:=oW,
    jG:=jG,
    n8:=n8,
    jH:=jH,
    aqD:=⟨a4M,a4N,a4O,
    jH,a4P,
    jG⟩,
    sX:=sX,
    al1:=PySem.W.mg_of XK GG am3,
    a1K:=a1K,
    uM:=uM,
    wY:=wY,
    uN:=uN,
    atX:=⟨agV,agW,agX,
    uN,agY,
    uM⟩,
    a0K:=a0K,
    aqE:=PySem.W.mg_of XK GG ar9,
    a71:=a71,
    yM:=yM,
    a1L:=a1L,
    yN:=yN,
    ayW:=⟨am4,am5,am6,
    yN,am7,
    yM⟩,
    a5J:=a5J,
    aqF:=PySem.W.mg_of XK GG arA,
    a72:=a72,
    yO:=yO,
    a1M:=a1M,
    yP:=yP,
    ayX:=⟨am8,am9,amA,
    yP,amB,
    yO⟩,
    a5K:=a5K,
    acS:=PySem.W.mg_of XK GG adC,
    uG:=uG,
    oG:=oG,
    qZ:=qZ,
    oH:=oH,
    al2:=⟨aaQ,aaR,aaS,
    oH,aaT,
    oG⟩,
    uO:=uO,
    al3:=PySem.W.mg_of XK GG amC,
    a1N:=a1N,
    uP:=uP,
    wZ:=wZ,
    uQ:=uQ,
    aEG:=⟨agZ,ah0,ah1,
    uQ,ah2,
    uP⟩,
    a5L:=a5L,
    a9N:=PySem.W.mg_of XK GG aaU,
    rA:=rA,
    mD:=mD,
    oX:=oX,
    mF:=mF,
    atY:=⟨a7J,a7K,a7L,
    mF,a7M,
    mD⟩,
    vH:=vH,
    eX:=eX,
    eY:=eY,
    fY:=fY,
    lG:=lG,
    lH:=lH,
    j7:=j7,
    j8:=j8,
    fL:=fL,
    j9:=j9,
    fQ:=fQ,
    iR:=iR,
    nT:=nT,
    nU:=nU,
    lW:=lW,
    lX:=lX,
    gO:=gO,
    lJ:=lJ,
    d8:=d8,
    jM:=jM,
    pJ:=pJ,
    pK:=pK,
    nW:=nW,
    nY:=nY,
    iT:=iT,
    lK:=lK,
    gP:=gP,
    jN:=jN,
    pL:=pL,
    pN:=pN,
    nZ:=nZ,
    o7:=o7,
    iU:=iU,
    fZ:=fZ,
    cQ:=cQ,
    fU:=fU,
    jO:=jO,
    jP:=jP,
    iV:=iV,
    iW:=iW,
    eZ:=eZ,
    jA:=jA,
    jB:=jB,
    mH:=mH,
    rB:=rB,
    rC:=rC,
    pC:=pC,
    pD:=pD,
    lM:=lM,
    fM:=fM,
    fO:=fO,
    iH:=iH,
    mJ:=mJ,
    mK:=mK,
    lN:=lN,
    lO:=lO,
    gA:=gA,
    pO:=⟨ac0,PySem.W.mg_of XK GG pO⟩,
    pP:=⟨ac1,PySem.W.mg_of XK GG pP⟩,
    pQ:=⟨ac2,PySem.W.mg_of XK GG pQ⟩,
    xA:=⟨am0,PySem.W.mg_of XK GG xA⟩,
    jJ:=⟨aiQ,PySem.W.mg_of XK GG jJ⟩,
    ae5:=PySem.W.mg_none_of XK GG a7N,
    aEH:=PySem.W.mg_none_of XK GG axB,
    aEI:=PySem.W.mg_none_of XK GG axC,
    ayY:=PySem.W.mg_none_of XK GG aF9,
    vI:=PySem.W.mg_none_of XK GG a7O,
    ao8:=PySem.W.mg_none_of XK GG aFA,
    aEJ:=PySem.W.mg_none_of XK GG axD,
    ayZ:=PySem.W.mg_none_of XK GG arB,
    a9O:=PySem.W.mg_none_of XK GG amD,
    aLX:=PySem.W.mg_none_of XK GG aFB,
    aqG:=PySem.W.mg_none_of XK GG arC }
  exact ⟨_,fun s v => .of_eq rfl,fun base _ _=>(aRT T).imp (aKP T)⟩
theorem walk {l:PySem.W.OpenLaw} {q:Program} {loose:List Str} {XP:(Str→Option Value)→Heap→Prop} {YP:World→Heap→Prop} {d:DefRec} {K:Params→PySem.W.Frag} (hn:l.most=some 63) (hdf:d.params.defaults=[])
    (hY:∀ (w:World) (h:Heap),YP w h→(K w.params).In h)
    (F:∀ (w:World) (mg:Str→Option Value) (fa:Addr) (h:Heap),(K w.params).In h→h.Ns mainGlobals mg→mg d.name=some (.ref fa) →
      ∃ fd:FuncData,(∀ (s:Shared) (u:Value),BindsTo s fd ⟨[u],[]⟩ [("_law_script",u)])∧∀ base:Heap,(K w.params).In base→base.Ns mainGlobals mg→fC false l.prog w (K w.params) mg base (vU l.prog w) 11 fa fd ["_law_script"] (az0 (K w.params))) :
    PySem.W.WalkO q loose XP YP l.row.toRowW d [] (fun f vs=>PySem.call f vs) :=
  L2.aGG (n:=63) (k:=11) (x := "_law_script") (CX:=fun w=>vU l.prog w) (sp:=fun w=>az0 (K w.params)) hn (by decide) hdf ⟨fun _=>rfl,by decide,by decide⟩ hY F (fun _ _ a ns hl _ hS=>⟨a,ns,rfl,hS,hl,fun _=>rfl⟩) fun _ _ _ _ _ ⟨_,_,_,_,_,_,_,_,_,_,_,_,z⟩=>z
end Law
open PySem PySem.W PyProof.Rows
theorem PySem.Challenge.cw_depot_k24_wrong_deeds_holds : PySem.Challenge.rw_depot_k24_wrong_deeds.Holds := by
  w_on;o_law;o_head (PySem.W.kHook Law.frK.heap_39 Law.frA Law.frE)
  case hl=>exact Law.frL
  case hw=>w_witness2
  k_fill
  refine Law.walk (l:=PySem.Challenge.rw_depot_k24_wrong_deeds) rfl rfl (fun w h Y=>PySem.W.kIn_of Y) ?F
  case F =>
    intro w mg fa h KX G hmg
    refine' Law.all_mk KX G hmg ?tL ?acZ ?tV ?a1R ?wG ?agT ?wL ?a5M ?qG ?aaL ?qM ?yR ?wH ?agU ?wM ?a5N ?qH ?aaM ?qN ?yS ?a0S ?am1 ?a0Y ?a9Q ?tM ?ad0 ?tW ?a1S ?tO ?ad1 ?tX ?a1T ?mR ?a4I ?mW ?sZ ?a0T ?am2 ?a0Z ?a9R ?tQ ?ad2 ?tY ?a1U ?cI ?oY ?uI ?eG ?gQ ?gR ?gC ?xD ?xE ?gH ?jQ ?dG ?sO ?sS ?dH ?fV ?mU ?a4J ?a4K ?mX ?pR ?gF ?xF ?xG ?gJ ?jR ?cX ?rH ?rJ ?cZ ?f9 ?kZ ?a2A ?a2B ?lC ?o8 ?iY ?zP ?zQ ?j5 ?lY ?lA ?a2C ?a2D ?lD ?o9 ?gG ?xH ?xJ ?gM ?jT ?iZ ?zR ?zT ?j6 ?lZ ?lB ?a2E ?lE ?rD ?qJ ?aaN ?qQ ?yW ?mV ?a4L ?mY ?tD ?tR ?ad3 ?u5 ?a1V ?oN ?a7H ?oU ?vL ?qK ?aaO ?qT ?yX ?tU ?ad4 ?u6 ?a1W ?qL ?aaP ?qU ?yZ ?ahG ?aF8 ?akT ?auN ?ad5 ?ad6 ?ad7 ?ad8 ?ad9 ?adA ?adB ?vQ ?zU ?vR ?a7I ?oW ?jG ?n8 ?jH ?a4M ?a4N ?a4O ?a4P ?sX ?am3 ?a1K ?uM ?wY ?uN ?agV ?agW ?agX ?agY ?a0K ?ar9 ?a71 ?yM ?a1L ?yN ?am4 ?am5 ?am6 ?am7 ?a5J ?arA ?a72 ?yO ?a1M ?yP ?am8 ?am9 ?amA ?amB ?a5K ?adC ?uG ?oG ?qZ ?oH ?aaQ ?aaR ?aaS ?aaT ?uO ?amC ?a1N ?uP ?wZ ?uQ ?agZ ?ah0 ?ah1 ?ah2 ?a5L ?aaU ?rA ?mD ?oX ?mF ?a7J ?a7K ?a7L ?a7M ?vH ?eX ?eY ?fY ?lG ?lH ?j7 ?j8 ?fL ?j9 ?fQ ?iR ?nT ?nU ?lW ?lX ?gO ?lJ ?d8 ?jM ?pJ ?pK ?nW ?nY ?iT ?lK ?gP ?jN ?pL ?pN ?nZ ?o7 ?iU ?fZ ?cQ ?fU ?jO ?jP ?iV ?iW ?eZ ?jA ?jB ?mH ?rB ?rC ?pC ?pD ?lM ?fM ?fO ?iH ?mJ ?mK ?lN ?lO ?gA ?pO ?pP ?pQ ?xA ?jJ ?a7N ?axB ?axC ?aF9 ?a7O ?aFA ?axD ?arB ?amD ?aFB ?arC
    (case ad5=>k_is)
    (case tL=>k_is)
    (case acZ=>k_is)
    (case tV=>k_is)
    (case a1R=>k_is)
    (case wG=>k_is)
    (case agT=>k_is)
    (case wL=>k_is)
    (case a5M=>k_is)
    (case qG=>k_is)
    (case aaL=>k_is)
    (case qM=>k_is)
    (case yR=>k_is)
    (case wH=>k_is)
    (case agU=>k_is)
    (case wM=>k_is)
    (case a5N=>k_is)
    (case qH=>k_is)
    (case aaM=>k_is)
    (case qN=>k_is)
    (case yS=>k_is)
    (case a0S=>k_is)
    (case am1=>k_is)
    (case a0Y=>k_is)
    (case a9Q=>k_is)
    (case tM=>k_is)
    (case ad0=>k_is)
    (case tW=>k_is)
    (case a1S=>k_is)
    (case tO=>k_is)
    (case ad1=>k_is)
    (case tX=>k_is)
    (case a1T=>k_is)
    (case mR=>k_is)
    (case a4I=>k_is)
    (case mW=>k_is)
    (case sZ=>k_is)
    (case a0T=>k_is)
    (case am2=>k_is)
    (case a0Z=>k_is)
    (case a9R=>k_is)
    (case tQ=>k_is)
    (case ad2=>k_is)
    (case tY=>k_is)
    (case a1U=>k_is)
    (case cI=>k_is)
    (case oY=>k_is)
    (case uI=>k_is)
    (case eG=>k_is)
    (case gQ=>k_is)
    (case gR=>k_is)
    (case gC=>k_is)
    (case xD=>k_is)
    (case xE=>k_is)
    (case gH=>k_is)
    (case jQ=>k_is)
    (case dG=>k_is)
    (case sO=>k_is)
    (case sS=>k_is)
    (case dH=>k_is)
    (case fV=>k_is)
    (case mU=>k_is)
    (case a4J=>k_is)
    (case a4K=>k_is)
    (case mX=>k_is)
    (case pR=>k_is)
    (case gF=>k_is)
    (case xF=>k_is)
    (case xG=>k_is)
    (case gJ=>k_is)
    (case jR=>k_is)
    (case cX=>k_is)
    (case rH=>k_is)
    (case rJ=>k_is)
    (case cZ=>k_is)
    (case f9=>k_is)
    (case kZ=>k_is)
    (case a2A=>k_is)
    (case a2B=>k_is)
    (case lC=>k_is)
    (case o8=>k_is)
    (case iY=>k_is)
    (case zP=>k_is)
    (case zQ=>k_is)
    (case j5=>k_is)
    (case lY=>k_is)
    (case lA=>k_is)
    (case a2C=>k_is)
    (case a2D=>k_is)
    (case lD=>k_is)
    (case o9=>k_is)
    (case gG=>k_is)
    (case xH=>k_is)
    (case xJ=>k_is)
    (case gM=>k_is)
    (case jT=>k_is)
    (case iZ=>k_is)
    (case zR=>k_is)
    (case zT=>k_is)
    (case j6=>k_is)
    (case lZ=>k_is)
    (case lB=>k_is)
    (case a2E=>k_is)
    (case lE=>k_is)
    (case rD=>k_is)
    (case qJ=>k_is)
    (case aaN=>k_is)
    (case qQ=>k_is)
    (case yW=>k_is)
    (case mV=>k_is)
    (case a4L=>k_is)
    (case mY=>k_is)
    (case tD=>k_is)
    (case tR=>k_is)
    (case ad3=>k_is)
    (case u5=>k_is)
    (case a1V=>k_is)
    (case oN=>k_is)
    (case a7H=>k_is)
    (case oU=>k_is)
    (case vL=>k_is)
    (case qK=>k_is)
    (case aaO=>k_is)
    (case qT=>k_is)
    (case yX=>k_is)
    (case tU=>k_is)
    (case ad4=>k_is)
    (case u6=>k_is)
    (case a1W=>k_is)
    (case qL=>k_is)
    (case aaP=>k_is)
    (case qU=>k_is)
    (case yZ=>k_is)
    (case ahG=>k_is)
    (case aF8=>k_is)
    (case akT=>k_is)
    (case auN=>k_is)
    (case ad6=>k_is)
    (case ad7=>k_is)
    (case ad8=>k_is)
    (case ad9=>k_is)
    (case adA=>k_is)
    (case adB=>k_is)
    (case vQ=>k_is)
    (case zU=>k_is)
    (case vR=>k_is)
    (case a7I=>k_is)
    (case oW=>k_exc)
    (case jG=>kernel_rfl)
    (case n8=>k_is)
    (case jH=>k_is)
    (case a4M=>k_is)
    (case a4N=>k_is)
    (case a4O=>k_is)
    (case a4P=>k_is)
    (case sX=>kit_is)
    (case am3=>k_is)
    (case a1K=>k_exc)
    (case uM=>kernel_rfl)
    (case wY=>k_is)
    (case uN=>k_is)
    (case agV=>k_is)
    (case agW=>k_is)
    (case agX=>k_is)
    (case agY=>k_is)
    (case a0K=>kit_is)
    (case ar9=>k_is)
    (case a71=>k_exc)
    (case yM=>kernel_rfl)
    (case a1L=>k_is)
    (case yN=>k_is)
    (case am4=>k_is)
    (case am5=>k_is)
    (case am6=>k_is)
    (case am7=>k_is)
    (case a5J=>kit_is)
    (case arA=>k_is)
    (case a72=>k_exc)
    (case yO=>kernel_rfl)
    (case a1M=>k_is)
    (case yP=>k_is)
    (case am8=>k_is)
    (case am9=>k_is)
    (case amA=>k_is)
    (case amB=>k_is)
    (case a5K=>kit_is)
    (case adC=>k_is)
    (case uG=>k_exc)
    (case oG=>kernel_rfl)
    (case qZ=>k_is)
    (case oH=>k_is)
    (case aaQ=>k_is)
    (case aaR=>k_is)
    (case aaS=>k_is)
    (case aaT=>k_is)
    (case uO=>kit_is)
    (case amC=>k_is)
    (case a1N=>k_exc)
    (case uP=>kernel_rfl)
    (case wZ=>k_is)
    (case uQ=>k_is)
    (case agZ=>k_is)
    (case ah0=>k_is)
    (case ah1=>k_is)
    (case ah2=>k_is)
    (case a5L=>kit_is)
    (case aaU=>k_is)
    (case rA=>k_exc)
    (case mD=>kernel_rfl)
    (case oX=>k_is)
    (case mF=>k_is)
    (case a7J=>k_is)
    (case a7K=>k_is)
    (case a7L=>k_is)
    (case a7M=>k_is)
    (case vH=>kit_is)
    (case eX=>kit_is)
    (case eY=>k_is)
    (case fY=>kit_is)
    (case lG=>kit_is)
    (case lH=>kit_is)
    (case j7=>kit_is)
    (case j8=>kit_is)
    (case fL=>kit_is)
    (case j9=>kit_is)
    (case fQ=>k_is)
    (case iR=>kit_is)
    (case nT=>kit_is)
    (case nU=>kit_is)
    (case lW=>kit_is)
    (case lX=>kit_is)
    (case gO=>kit_is)
    (case lJ=>kit_is)
    (case d8=>k_is)
    (case jM=>kit_is)
    (case pJ=>kit_is)
    (case pK=>kit_is)
    (case nW=>kit_is)
    (case nY=>kit_is)
    (case iT=>kit_is)
    (case lK=>kit_is)
    (case gP=>k_is)
    (case jN=>kit_is)
    (case pL=>kit_is)
    (case pN=>kit_is)
    (case nZ=>kit_is)
    (case o7=>kit_is)
    (case iU=>kit_is)
    (case fZ=>kit_is)
    (case cQ=>k_is)
    (case fU=>kit_is)
    (case jO=>kit_is)
    (case jP=>kit_is)
    (case iV=>kit_is)
    (case iW=>kit_is)
    (case eZ=>kit_is)
    (case jA=>kit_is)
    (case jB=>k_is)
    (case mH=>kit_is)
    (case rB=>kit_is)
    (case rC=>kit_is)
    (case pC=>kit_is)
    (case pD=>kit_is)
    (case lM=>kit_is)
    (case fM=>kit_is)
    (case fO=>k_is)
    (case iH=>kit_is)
    (case mJ=>kit_is)
    (case mK=>kit_is)
    (case lN=>kit_is)
    (case lO=>kit_is)
    (case gA=>kit_is)
    (case pO=>k_is)
    (case pP=>k_is)
    (case pQ=>k_is)
    (case xA=>k_is)
    (case jJ=>k_is)
    (case a7N=>k_is)
    (case axB=>k_is)
    (case axC=>k_is)
    (case aF9=>k_is)
    (case a7O=>k_is)
    (case aFA=>k_is)
    (case axD=>k_is)
    (case arB=>k_is)
    (case amD=>k_is)
    (case aFB=>k_is)
    (case arC=>k_is)
