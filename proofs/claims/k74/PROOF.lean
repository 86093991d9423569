import PyProof.Rows.All
import Wide.All
import OpenK.KLine
import OpenK.KOwn
import Wide.FinOn
import Lean
import PyProof.EqAt
import PyProof.EqKinds
import PyProof.TupleCall
import KE.KMinKey
import KE.KSortTup
import KE.KRevSl
import KE.KStateDown
import PyProof.Rows.Range3
import KE.KDictOf
import PyProof.AttrMissSeq
import KE.KRevIter
import KE.KItemsList
import KE.KPairComp
import KE.KEqDict
import KE.KDictSum
import KE.RegKIsAll
import PySem.Challenge.RW_depot_k74_whole_no_shorter_walk
set_option Elab.async false
set_option linter.all false
set_option maxRecDepth 100000
set_option maxHeartbeats 4000000
namespace Law
open PySem PySem.W PyProof.Rows
def frT (n:Nat):Stmt:=PySem.Challenge.pw_depot_k74_whole_no_shorter_walk.main.body.getD n (.Pass ⟨0,0,0,0⟩)
def frQ:Program:={ PySem.Challenge.pw_depot_k74_whole_no_shorter_walk with main:={ PySem.Challenge.pw_depot_k74_whole_no_shorter_walk.main with body:=[frT 1,frT 2,frT 3,frT 5,frT 6,frT 7,frT 8,frT 10,frT 11,frT 12,frT 13,frT 14,frT 15,frT 17,frT 19,frT 20,frT 21,frT 22,frT 23,frT 24,frT 25,frT 26,frT 27,frT 28,frT 29,frT 31,frT 32,frT 33,frT 34,frT 35,frT 36] } }
theorem frB {p q:Program} {loose:List Str} {Xt:Shared→Bool} {α:Type} {Yf:Shared→α} {Ya:World→α} {N:Nat} {g0:Bool}
    (e:opening p=plainProg p.main.scope.names) (hN:Nat.ble 600 N=true) (f:∀ s,fenceModules? p s=some s)
    (h:∀ (w:World) (os:OsState),(topFrom treeTable p w N ⟨boot_heap w.params,#[],boot_drawn,boot_toks,os⟩).map (fun s=>(openSeen q loose (importedModules p.main.body) Xt g0 s,Yf s))=some (openGood q loose,Ya w)) :
    LeftO p q loose Xt Yf Ya N g0:=fun w=>by
  obtain ⟨⟨h1,gs,d,k,os⟩,e1,e'⟩:=Option.map_eq_some_iff.mp (boot_open e hN f w)
  obtain ⟨rfl,rfl,rfl,rfl⟩:h1=boot_heap w.params∧gs=#[]∧d=boot_drawn∧k=boot_toks:=by simpa using e'
  unfold openEnds
  rw [e1]
  exact h w os
abbrev frX:Shared→Bool:=fun s=>xlAt frQ [] s&&recOk (RowW.records (OpenRow.toRowW (OpenLaw.row PySem.Challenge.rw_depot_k74_whole_no_shorter_walk))) s
end Law
local macro_rules
  | `(tactic| o_head $H)=>`(tactic| refine PySem.W.holds_open (q:=Law.frQ) (loose:=[]) (Xt:=Law.frX) (XP:=PySem.W.XL Law.frQ []) (Yf:=PySem.W.Hook.obs $H) (Ya:=PySem.W.Hook.val $H)
      (YP:=PySem.W.Hook.says $H) (N:=3024) ?hl (PySem.W.Hook.of $H) (PySem.W.Hook.keeps $H) (fun s e=>PySem.W.xl_of s (Bool.and_eq_true_iff.mp e).1) PySem.W.XL.keeps (by rfl) (by rfl) (by rfl)
      (fun s e=>PySem.W.recFacts_of (Bool.and_eq_true_iff.mp e).2) (by rfl) (by first | assumption | decide +kernel) (by decide +kernel) ⟨rfl,rfl,rfl,rfl,rfl,by decide +kernel⟩ ?hw ?hc)
open PySem PySem.W in
theorem Law.frK (h0:∀ {α:Type} (Yf:Shared→α) (Ya:World→α),LeftO (OpenLaw.row PySem.Challenge.rw_depot_k74_whole_no_shorter_walk).prog Law.frQ [] Law.frX Yf Ya 3024)
    (h1:∀ YP d,WalkO Law.frQ [] (XL Law.frQ []) YP (OpenRow.toRowW (OpenLaw.row PySem.Challenge.rw_depot_k74_whole_no_shorter_walk)) d [] (fun f vs=>PySem.call f vs)):OpenLaw.Holds PySem.Challenge.rw_depot_k74_whole_no_shorter_walk:=by
  w_on;o_law;k_head
  case hl=>exact h0 _ _
  case hw=>w_witness2
  exact h1 _ _
abbrev Law.frA:List Nat:=[2,3,15,22,23,24,25,28,35,36,37,40,47,48,49,52,54,55,57,58,59,61,62,64,65,66,68,69,71,72,73,75,76,78,79,80,82,83,85,86,87,89,90,92,93,94,96,97,99,100,101,103,104,106,107,108,109,112,113,114,116,117,119,120,121,123,124,126,127,128,130,131,133,134,135,137,138,140,141,142,144,145,147,148,149,151,152,154,155,156,158,159,161,162,163,165,166,168,169,170,173,174,175,177,178,180,181,182,184,185,187,188,189,191,192,194,195,196,198,199,201,202,203,206,207,208,210,211,213,214]
theorem Law.frE:∀ P,Law.frA=(Law.frK.heap_39 P).map (·.1):=fun _=>by kernel_rfl
open PySem PySem.W in
theorem Law.frL:LeftO (OpenLaw.row PySem.Challenge.rw_depot_k74_whole_no_shorter_walk).prog Law.frQ [] Law.frX (Hook.obs (kHook Law.frK.heap_39 Law.frA Law.frE)) (Hook.val (kHook Law.frK.heap_39 Law.frA Law.frE)) 3024 :=
  Law.frB (by kernel_rfl) (by kernel_rfl) (fun s=>by kernel_rfl) (fun w os=>by kernel_rfl)
namespace L2
open PySem PySem.Spec PyProof.Rows
structure Tr (B:Heap) (x:Addr) (C fl:Value) (h:Heap):Prop where
  ex:∃ (o:Obj) (vs:Array Value) (T:Addr) (oT:Obj) (ts:Array Value),h.get? x=some o∧o.cls=C∧o.data = .fields vs∧vs[1]?=some (.ref T)∧vs[2]?=some .none∧B.get? T=none∧T≠x∧h.get? T=some oT∧oT.data = .fields ts∧ts[3]?=some fl
structure ajC (B:Heap) (l:List Env) (x:Addr) (C fl:Value) (h:Heap):Prop where
  stays:B.StaysIn h
  new:B.get? x=none
  aNX:h.FunFrames B l
  tr:Tr B x C fl h
abbrev Fly (B:Heap) (l:List Env) (x:Addr) (C:Value) (h:Heap):Prop:=ajC B l x C .none h
section
variable {M:Model} {A:Around} {E:Value→Shared→Prop} {s:Shared} {B:Heap} {l:List Env} {env:Env} {outer:List Env} {L x:Addr} {C fl:Value}
theorem nY {h:Heap} {a:Addr} {o:Obj} {vs:Array Value} {i:Nat} {v:Value} (e:h.get? a=some o) (d:o.data = .fields vs) :
    (h.update a (Obj.mapFields (·.setIfInBounds i v))).get? a=some (Obj.mapFields (·.setIfInBounds i v) o)∧(Obj.mapFields (·.setIfInBounds i v) o).data = .fields (vs.setIfInBounds i v)∧(Obj.mapFields (·.setIfInBounds i v) o).cls=o.cls ∧
    (∀ b,b≠a→(h.update a (Obj.mapFields (·.setIfInBounds i v))).get? b=h.get? b):=by
  have d':=Obj.data_mapFields d (·.setIfInBounds i v)
  exact ⟨Heap.get?_update_self _ e (Obj.isFreed_of_fields d'),d',Obj.cls_mapFields _ _,fun b hb=>Heap.get?_update_other _ _ (Ne.symm hb)⟩
theorem zL {h:Heap} {a b:Addr} {o u:Obj} {vs:Array Value} (e:h.get? a=some o) (d:o.data = .fields vs) (e2:h.get? b=some u) (n:∀ ws,u.data ≠ .fields ws):b≠a:=fun q=>by
  subst q
  rw [e] at e2
  cases e2
  exact n vs d
theorem alK {Q:Unit→Shared→Prop} (f:ajC B l x C fl s.heap) (h:∀ h',Fly B l x C h'→s.heap.UpToSlots h'→Q () { s with heap:=h' }):wpAny M A (setFlight (.ref x) none) Q E s:=by
  obtain ⟨st,nw,fu,⟨o,vs,T,oT,ts,e1,e2,e3,e4,e5,e6,e7,e8,e9,e10⟩⟩:=f
  unfold setFlight
  refine wpAny_bind (wpAny_field e1 e3 e4 ?_)
  rw [if_pos (by simp)]
  have l3:3 < ts.size:=(Array.getElem?_eq_some_iff.mp e10).1
  obtain ⟨u1,u2,u3,u4⟩:=nY (i:=3) (v:=(none:Option Addr).elim Value.none fun f=>rawInt f) e8 e9
  refine wpAny_setField e8 e9 l3 (h _ ⟨fun b u q=>?_,nw,fu.of_keeps fun b u q n=>⟨u,(u4 b (zL e8 e9 q n)).trans q,rfl⟩,⟨o,vs,T,_,_,(u4 x (Ne.symm e7)).trans e1,e2,e3,e4,e5,e6,e7,u1,u2,?_⟩⟩ fun b u q n=>⟨u.slots,(u4 b (zL e8 e9 q n)).trans q⟩)
  · exact (u4 b fun z=>by subst z;rw [e6] at q;cases q).trans (st b u q)
  · simp [l3]
theorem agB {Q:Unit→Shared→Prop} {head:Value} {hadNext:Bool} {o:Obj} {vs:Array Value} (hfr:A.frames=some (env :: outer)) (hf:env.frame=some L) (st:B.StaysIn s.heap) (nw:B.get? x=none) (fu:s.heap.FunFrames B (env :: outer)) (e1:s.heap.get? x=some o) (e2:o.cls=C) (e3:o.data = .fields vs) (e4:1 < vs.size) (e5:vs[2]?=some .none)
    (h:∀ h',ajC B (env :: outer) x C (rawInt L) h'→s.heap.UpToSlots h'→Q () { s with heap:=h' }) :
    wpAny M A (do let a ← frameOf env;let pl ← entryPlaceOf L hadNext;let b ← EntryCells.newEntry head a .none (rawInt L) .none pl;setField (.ref x) 1 b) Q E s:=by
  have nf:x ∉ (env :: outer).filterMap (·.frame):=fun m=>by
    obtain ⟨_,u,hu,hn⟩:=fu.mem m
    rw [e1] at hu;cases hu
    exact hn vs e3
  refine wpAny_bind (wpAny_frameOf_fun hfr fu hf fun k so=>wpAny_bind (wpAny_entryPlaceOf fun pl hpl=>?_))
  unfold EntryCells.newEntry newFields
  refine wpAny_bind (wpAny_newObj_type ?_ (hpl.sizeOk5 _ _ _ _ _))
  have k1:k.get? x=some o:=(so.2.1 x nf).trans e1
  have tne:k.objs.size≠x:=fun z=>absurd (Heap.lt_size k1) (by rw [z];exact Nat.lt_irrefl _)
  have kB:∀ b u,B.get? b=some u→k.get? b=some u:=fun b u q=>(so.2.1 b fun m=>by rw [(fu.mem m).1] at q;cases q).trans (st b u q)
  generalize hT:({ cls := .type "traceback",dict:=none,data := .fields ([head,.ref L,.none,rawInt L,.none]++(if pl.isEmpty then List.replicate 6 Value.none else pl)).toArray }:Obj)=oT
  have p1:(k.push oT).get? x=some o:=Heap.get?_push_of_some _ k1
  obtain ⟨u1,u2,u3,u4⟩:=nY (i:=1) (v := .ref k.objs.size) p1 e3
  have keep:∀ b u,b≠x→k.get? b=some u→((k.push oT).update x (Obj.mapFields (·.setIfInBounds 1 (.ref k.objs.size)))).get? b=some u:=fun b u n q=>(u4 b n).trans (Heap.get?_push_of_some _ q)
  have pT:(k.push oT).get? k.objs.size=some oT:=by
    subst hT
    exact Heap.get?_push_size k rfl
  refine wpAny_setField p1 e3 e4 (h _ ⟨fun b u q=>keep b u (fun z=>by subst z;rw [nw] at q;cases q) (kB b u q),nw,fu.of_keeps fun b u q n=>?_,⟨_,_,k.objs.size,oT,_,u1,u3.trans e2,u2,?_,?_,?_,tne,(u4 _ tne).trans pT,by rw [← hT],?_⟩⟩ fun b u q n=>?_)
  · obtain ⟨sl,z⟩:=so.2.2 b u q
    exact ⟨_,keep b _ (zL e1 e3 q n) z,rfl⟩
  · simp [e4]
  · rw [Array.getElem?_setIfInBounds_ne (by decide)];exact e5
  · cases q:B.get? k.objs.size with
    | none=>rfl
    | some u=>exact absurd (Heap.lt_size (kB _ u q)) (Nat.lt_irrefl _)
  · first | (simp;done) | (rcases hpl with rfl | ⟨_,_,_,_,_,_,_,rfl⟩ <;> simp)
  · obtain ⟨sl,z⟩:=so.2.2 b u q
    exact ⟨sl,keep b _ (zL e1 e3 q n) z⟩
theorem avV {Q:Unit→Shared→Prop} (hfr:A.frames=some (env :: outer)) (hf:env.frame=some L) (f:Fly B (env :: outer) x C s.heap) (h:∀ h',ajC B (env :: outer) x C (rawInt L) h'→s.heap.UpToSlots h'→Q () { s with heap:=h' }):wpAny M A (noteFrame (.ref x) env) Q E s:=by
  obtain ⟨st,nw,fu,⟨o,vs,T,oT,ts,e1,e2,e3,e4,e5,e6,e7,e8,e9,e10⟩⟩:=f
  unfold noteFrame
  simp only [hf]
  refine wpAny_bind (wpAny_field e1 e3 e4 ?_)
  rw [if_pos (by simp)]
  refine wpAny_bind (wpAny_field e8 e9 e10 ?_)
  rw [if_neg (by simp [rawInt])]
  have l3:3 < ts.size:=(Array.getElem?_eq_some_iff.mp e10).1
  obtain ⟨u1,u2,u3,u4⟩:=nY (i:=3) (v := .none) e8 e9
  refine wpAny_bind (wpAny_setField e8 e9 l3 ?_)
  refine agB hfr hf (fun b u q=>(u4 b fun z=>by subst z;rw [e6] at q;cases q).trans (st b u q)) nw (fu.of_keeps fun b u q n=>⟨u,(u4 b (zL e8 e9 q n)).trans q,rfl⟩) ((u4 x (Ne.symm e7)).trans e1) e2 e3 (Array.getElem?_eq_some_iff.mp e4).1 e5 fun h' f' up=>h h' f' ?_
  exact fun b u q n=>up b u ((u4 b (zL e8 e9 q n)).trans q) n
theorem ajC.tail {h:Heap} (f:ajC B (env :: outer) x C fl h):ajC B outer x C fl h:=by
  obtain ⟨st,nw,⟨_,_,fu⟩,tr⟩:=f
  exact ⟨st,nw,fu,tr⟩
theorem aq3 {Q:Unit→Shared→Prop} (hfr:A.frames=some (env :: outer)) (hf:env.frame=some L) (f:Fly B (env :: outer) x C s.heap) (h:∀ h',Fly B outer x C h'→s.heap.UpToSlots h'→Q () { s with heap:=h' }):wpAny M A (leaving env (.ref x)) Q E s:=by
  unfold leaving
  refine wpAny_bind (avV hfr hf f fun h1 f1 up1=>alK f1 fun h2 f2 up2=>?_)
  exact h h2 f2.tail (up1.trans up2)
theorem ajD {Q:Unit→Shared→Prop} {h0:Heap} {us:List Value} (hfr:A.frames=some (env :: outer)) (hf:env.frame=some L) (st:B.StaysIn h0) (fu:h0.FunFrames B (env :: outer)) (hm:Heap.MadeExcOf h0 s.heap x C us) (h:∀ h',Fly B outer x C h'→s.heap.UpToSlots h'→Q () { s with heap:=h' }):wpAny M A (leaving env (.ref x)) Q E s:=by
  obtain ⟨t,e1,_,_⟩:=hm.there
  unfold leaving noteFrame
  simp only [hf]
  refine wpAny_bind (wpAny_bind (wpAny_field (vs:=#[.ref t,.none,.none,.none,.bool false,.none]) (i:=1) e1 rfl rfl ?_))
  rw [if_neg (by simp)]
  have nw:B.get? x=none:=by
    cases q:B.get? x with
    | none=>rfl
    | some u=>have:=st x u q;rw [hm.new] at this;cases this
  refine agB hfr hf (fun b u q=>hm.keeps b u (st b u q)) nw (fu.of_keeps fun b u q _=>⟨u,hm.keeps b u q,rfl⟩) e1 rfl rfl (by simp) rfl fun h1 f1 up1=>alK f1 fun h2 f2 up2=>?_
  exact h h2 f2.tail (up1.trans up2)
end
def abC (A:Around) (h:Heap):Prop:=A.handled=none∨∃ x o vs,A.handled=some (.ref x)∧h.get? x=some o∧o.data = .fields vs∧vs[2]?=some .none
theorem abD:entryFor table "proto.unchain" = some Builtin.«proto.unchain» := entryFor_of_fast (by kernel_rfl)
section
variable {prog:Program} {w:World} {A:Around} {E:Value→Shared→Prop} {s:Shared}
theorem anS {α:Type} {Q:α→Shared→Prop} {a:Addr} {oa:Obj} {ws:Array Value} (hq:abC A s.heap) (ea:s.heap.get? a=some oa) (da:oa.data = .fields ws) (la:2 < ws.size) (na:∀ x,A.handled=some (.ref x)→x≠a)
    (h:∀ h',(∀ b,b≠a→h'.get? b=s.heap.get? b)→(∃ o,h'.get? a=some o∧o.cls=oa.cls)→E (.ref a) { s with heap:=h' }):wpAny (model prog w) A (raiseNew (.ref a):Sem α) Q E s:=by
  unfold raiseNew
  refine wpAny_bind (wpAny_handled ?_)
  rcases hq with hn | ⟨x,o,vs,hx,ex,dx,vx⟩
  · rw [hn]
    exact wpAny_bind (wpAny_pure (wpAny_throw (h s.heap (fun _ _=>rfl) ⟨oa,ea,rfl⟩)))
  · rw [hx]
    have ne:=na x hx
    show wpAny (model prog w) _ (if ((Value.ref x) != (Value.ref a))=true then _ else _) _ _ _
    rw [if_pos (by simpa using ne)]
    refine wpAny_bind (wpAny_holding (wpAny_runValue (codeAny_builtin abD ?_)))
    show wpAny (model prog w) _ (field (.ref x) 2 >>= _) _ _ _
    refine wpAny_bind (wpAny_field ex dx vx ?_)
    show wpAny (model prog w) _ (if ((Value.none:Value) == Value.none)=true then _ else _) _ _ _
    rw [if_pos (by decide)]
    refine wpAny_bind (wpAny_pure (wpAny_pure ?_))
    obtain ⟨u1,u2,u3,u4⟩:=nY (i:=2) (v := .ref x) ea da
    show wpAny (model prog w) _ (setField (.ref a) 2 (.ref x) >>= _) _ _ _
    exact wpAny_bind (wpAny_setField ea da la (wpAny_throw (h _ u4 ⟨_,u1,u3⟩)))
theorem oU {α:Type} {Q:α→Shared→Prop} (hq:abC A s.heap) (h:∀ a h',(∀ b o,s.heap.get? b=some o→h'.get? b=some o)→(∃ o,h'.get? a=some o∧o.cls = .type "StopIteration")→E (.ref a) { s with heap:=h' }) :
    wpAny (model prog w) A (newExc (.type "StopIteration") [] >>= fun e=>(raiseNew e:Sem α)) Q E s:=by
  refine wpAny_bind ?_
  unfold newExc newTuple
  refine wpAny_bind (wpAny_newObj_type (wpAny_bind (wpAny_of_eq (a:=Value.none) (by simp only [firstArgMember];rfl) (wpAny_newObj_type ?_ (by size_fits)))) (by size_fits))
  generalize hh:s.heap.push { cls := .type "tuple",data := .seq ([]:List Value).toArray }=h1
  generalize ho:({ cls := .type "StopIteration",data := .fields (#[.ref s.heap.objs.size,.none,.none,.none,.bool false,.none]++ownMembersOf (.type "StopIteration") []) }:Obj)=o1
  have k1:∀ b o,s.heap.get? b=some o→(h1.push o1).get? b=some o:=fun b o e=>Heap.get?_push_of_some _ (hh ▸ Heap.get?_push_of_some _ e)
  have ea:(h1.push o1).get? h1.objs.size=some o1:=by
    subst ho
    exact Heap.get?_push_size h1 rfl
  have old:∀ b o,s.heap.get? b=some o→b≠h1.objs.size:=fun b o e z=>by
    have l1:b < h1.objs.size:=by
      rw [← hh,Heap.size_push]
      exact Nat.lt_succ_of_lt (Heap.lt_size e)
    exact absurd l1 (by rw [z];exact Nat.lt_irrefl _)
  refine anS (ws:=#[.ref s.heap.objs.size,.none,.none,.none,.bool false,.none]++ownMembersOf (.type "StopIteration") []) ?_ ea (by rw [← ho]) (by simp [ownMembersOf]) (fun x hx=>?_) fun h' k c=>h h1.objs.size h' (fun b o e=>(k b (old b o e)).trans (k1 b o e)) ?_
  · rcases hq with z | ⟨x,o,vs,a1,a2,a3⟩
    · exact .inl z
    · exact .inr ⟨x,o,vs,a1,k1 _ _ a2,a3⟩
  · rcases hq with z | ⟨x',o,vs,a1,a2,a3⟩
    · rw [z] at hx;cases hx
    · rw [a1] at hx;cases hx
      exact old _ _ a2
  · obtain ⟨o,e,c⟩:=c
    exact ⟨o,e,by rw [c,← ho]⟩
theorem sZ {T id:String} {b:Builtin} {it:Addr} {Q:Option Value→Shared→Prop} (slot:Slot T (Str.ofString "__next__") id) (entry:entryFor table id=some b) (hT:s.TypeIs (.ref it) T) (args:argsOk id ⟨[.ref it],[]⟩)
    (hb:wpAny (model prog w) A.in1 (b ⟨[.ref it],[]⟩) (fun _ _=>False) (fun e s'=>∃ a o,e = .ref a∧s'.heap.get? a=some o∧o.cls = .type "StopIteration" ∧ Q none s') s):wpAny (model prog w) A (pyNext (.ref it)) Q E s:=by
  unfold pyNext
  refine wpAny_bind (wpAny_attempt (wpAny_callSpecial?_slot hT slot (wpAny_call_entry slot hT entry (wpAny_mono hb (fun _ _ z=>z.elim) fun e s' z=>?_) args)))
  obtain ⟨a,o,rfl,e1,e2,q⟩:=z
  exact wpAny_bind (wpAny_isInstance (T := "StopIteration") (b:=true) ⟨o,e1,e2⟩ isSubtype_stop (wpAny_pure q))
theorem a82 {it:Addr} {o:Obj} {vs:Array Value} {i:Nat} {v:Value} (hq:abC A s.heap) (e:s.heap.get? it=some o) (d:o.data = .fields vs) (l:vs[2]?≠some .none):abC A (s.heap.update it (Obj.mapFields (·.setIfInBounds i v))):=by
  rcases hq with z | ⟨x,ox,ws,a1,a2,a3,a4⟩
  · exact .inl z
  · refine .inr ⟨x,ox,ws,a1,?_,a3,a4⟩
    have ne:x≠it:=fun z=>by
      subst z
      rw [e] at a2
      cases a2
      rw [d] at a3
      cases a3
      exact l a4
    exact ((nY e d).2.2.2 x ne).trans a2
theorem anT {it l:Addr} {i:Nat} {items:Array Value} {Q:Option Value→Shared→Prop} (hq:abC A s.heap) (hit:s.heap.IsListIter it l i) (hl:s.heap.IsList l items) (hx:items[i]?=none)
    (h:∀ h',Heap.ExtBut it s.heap h'→Q none { s with heap:=h' }):wpAny (model prog w) A (pyNext (.ref it)) Q E s:=by
  obtain ⟨o,e1,c1,d1⟩:=id hit
  obtain ⟨ol,e2,_,nl,d2⟩:=hl
  refine sZ slot_listiter_next entry_listiter_next hit.typeIs (args_listiter_next _) ?_
  show wpAny (model prog w) _ (field (.ref it) 0 >>= _) _ _ s
  refine wpAny_bind (wpAny_field e1 d1 (x := .ref l) rfl ?_)
  show wpAny (model prog w) _ (field (.ref it) 1 >>= _) _ _ s
  refine wpAny_bind (wpAny_field e1 d1 (x := .int i 0) rfl ?_)
  show wpAny (model prog w) _ (seqItems? (.ref l) >>= _) _ _ s
  refine wpAny_bind (wpAny_seqItems e2 d2 ?_)
  simp only [hx,Int.toNat_natCast]
  refine wpAny_bind (wpAny_rule (wpAny_bind (wpAny_setField e1 d1 (by simp) ?_)))
  refine oU (A:=A.in1) (a82 hq e1 d1 (by simp)) fun a h' k c=>?_
  obtain ⟨oa,ea,ca⟩:=c
  exact ⟨a,oa,rfl,ea,ca,h h' fun b ob n e=>k b ob (((nY e1 d1).2.2.2 b n).trans e)⟩
theorem aq4 {it l:Addr} {i:Nat} {items:Array Value} {Q:Option Value→Shared→Prop} (hq:abC A s.heap) (hit:s.heap.IsTupleIter it l i) (hl:s.heap.IsTuple l items) (hx:items[i]?=none)
    (h:∀ h',Heap.ExtBut it s.heap h'→Q none { s with heap:=h' }):wpAny (model prog w) A (pyNext (.ref it)) Q E s:=by
  obtain ⟨o,e1,c1,d1⟩:=id hit
  obtain ⟨ol,e2,_,nl,d2⟩:=hl
  refine sZ F.slot_tuple_iterator_next F.entry_tuple_iterator_next hit.typeIs (F.args_tuple_iterator_next_1 _) ?_
  show wpAny (model prog w) _ (field (.ref it) 0 >>= _) _ _ s
  refine wpAny_bind (wpAny_field e1 d1 (x := .ref l) rfl ?_)
  show wpAny (model prog w) _ (field (.ref it) 1 >>= _) _ _ s
  refine wpAny_bind (wpAny_field e1 d1 (x := .int i 0) rfl ?_)
  show wpAny (model prog w) _ (seqItems? (.ref l) >>= _) _ _ s
  refine wpAny_bind (wpAny_seqItems e2 d2 ?_)
  simp only [hx,Int.toNat_natCast]
  refine wpAny_bind (wpAny_rule (wpAny_bind (wpAny_setField e1 d1 (by simp) ?_)))
  refine oU (A:=A.in1) (a82 hq e1 d1 (by simp)) fun a h' k c=>?_
  obtain ⟨oa,ea,ca⟩:=c
  exact ⟨a,oa,rfl,ea,ca,h h' fun b ob n e=>k b ob (((nY e1 d1).2.2.2 b n).trans e)⟩
theorem aq5 {it:Addr} {x left step:Int} {Q:Option Value→Shared→Prop} (hq:abC A s.heap) (hit:IsRangeIter s.heap it x left step) (hleft:left≤0)
    (h:∀ h',Heap.ExtBut it s.heap h'→Q none { s with heap:=h' }):wpAny (model prog w) A (pyNext (.ref it)) Q E s:=by
  refine sZ F.slot_range_iterator_next F.entry_range_iterator_next ⟨_,hit,rfl⟩ (F.args_range_iterator_next_1 _) ?_
  show wpAny (model prog w) _ (field (.ref it) 0 >>= _) _ _ s
  refine wpAny_bind (wpAny_field hit rfl (i:=0) rfl ?_)
  show wpAny (model prog w) _ (field (.ref it) 1 >>= _) _ _ s
  refine wpAny_bind (wpAny_field hit rfl (i:=1) rfl ?_)
  show wpAny (model prog w) _ (field (.ref it) 2 >>= _) _ _ s
  refine wpAny_bind (wpAny_field hit rfl (i:=2) rfl ?_)
  show wpAny (model prog w) _ (if left≤0 then _ else _) _ _ s
  rw [if_pos hleft]
  refine wpAny_bind (wpAny_rule (wpAny_bind ?_))
  refine oU (A:=A.in1) hq fun a h' k c=>?_
  obtain ⟨oa,ea,ca⟩:=c
  exact ⟨a,oa,rfl,ea,ca,h h' fun b ob n e=>k b ob e⟩
theorem anU {it:Addr} {x:Str} {t:Tok} {i:Nat} {Q:Option Value→Shared→Prop} (hq:abC A s.heap) (hit:s.heap.IsStrIter it "str_ascii_iterator" x t i) (hx:x.cps[i]?=none)
    (h:∀ h',Heap.ExtBut it s.heap h'→Q none { s with heap:=h' }):wpAny (model prog w) A (pyNext (.ref it)) Q E s:=by
  obtain ⟨o,e1,c1,d1⟩:=id hit
  refine sZ F.slot_str_ascii_iterator_next F.entry_str_ascii_iterator_next hit.typeIs (F.args_str_ascii_iterator_next_1 _) ?_
  show wpAny (model prog w) _ (field (.ref it) 0 >>= _) _ _ s
  refine wpAny_bind (wpAny_field e1 d1 (x := .str x t) rfl ?_)
  show wpAny (model prog w) _ (field (.ref it) 1 >>= _) _ _ s
  refine wpAny_bind (wpAny_field e1 d1 (x := .int i 0) rfl ?_)
  simp only [hx,Int.toNat_natCast]
  refine wpAny_bind (wpAny_rule (wpAny_bind (wpAny_setField e1 d1 (by simp) (wpAny_bind (wpAny_letGo ?_)))))
  refine oU (A:=A.in1) (a82 hq e1 d1 (by simp)) fun a h' k c=>?_
  obtain ⟨oa,ea,ca⟩:=c
  exact ⟨a,oa,rfl,ea,ca,h h' fun b ob n e=>k b ob (((nY e1 d1).2.2.2 b n).trans e)⟩
theorem anV {it:Addr} {x:Str} {t:Tok} {i:Nat} {Q:Option Value→Shared→Prop} (hq:abC A s.heap) (hit:s.heap.IsStrIter it "str_iterator" x t i) (hx:x.cps[i]?=none)
    (h:∀ h',Heap.ExtBut it s.heap h'→Q none { s with heap:=h' }):wpAny (model prog w) A (pyNext (.ref it)) Q E s:=by
  obtain ⟨o,e1,c1,d1⟩:=id hit
  refine sZ F.slot_str_iterator_next F.entry_str_iterator_next hit.typeIs (F.args_str_iterator_next_1 _) ?_
  show wpAny (model prog w) _ (field (.ref it) 0 >>= _) _ _ s
  refine wpAny_bind (wpAny_field e1 d1 (x := .str x t) rfl ?_)
  show wpAny (model prog w) _ (field (.ref it) 1 >>= _) _ _ s
  refine wpAny_bind (wpAny_field e1 d1 (x := .int i 0) rfl ?_)
  simp only [hx,Int.toNat_natCast]
  refine wpAny_bind (wpAny_rule (wpAny_bind (wpAny_setField e1 d1 (by simp) (wpAny_bind (wpAny_letGo ?_)))))
  refine oU (A:=A.in1) (a82 hq e1 d1 (by simp)) fun a h' k c=>?_
  obtain ⟨oa,ea,ca⟩:=c
  exact ⟨a,oa,rfl,ea,ca,h h' fun b ob n e=>k b ob (((nY e1 d1).2.2.2 b n).trans e)⟩
end
end L2
namespace L2
open PySem PySem.Spec PyProof.Rows
abbrev Key:=Sum Int Str
def a8H:Key→Value→Bool
  | .inl k,v=>Value.isInt k v
  | .inr x,v=>Value.isStrOf x v
def aNZ (w:World):Key→Int
  | .inl k=>hashInt k
  | .inr x=>hashStr w x
theorem cY:∀ {k:Key} {v:Value},a8H k v=true→(∃ i t,k=Sum.inl i∧v=Value.int i t)∨(∃ x t,k=Sum.inr x∧v=Value.str x t)
  | .inl i,v,h=>by
    obtain ⟨t,e⟩:=Value.isInt_shape (k:=i) (v:=v) h
    exact .inl ⟨i,t,rfl,e⟩
  | .inr x,v,h=>by
    obtain ⟨t,e⟩:=Value.isStrOf_shape (x:=x) (v:=v) h
    exact .inr ⟨x,t,rfl,e⟩
theorem anW (i:Int) (t:Tok):a8H (.inl i) (.int i t)=true:=by simp [a8H,Value.isInt]
theorem anY (x:Str) (t:Tok):a8H (.inr x) (.str x t)=true:=by simp [a8H,Value.isStrOf]
theorem aCK (a b:Int):decide ((Sum.inl a:Key)=Sum.inl b)=(a == b):=by
  by_cases e:a=b
  · subst e;simp
  · have h:¬ (Sum.inl a:Key)=Sum.inl b:=fun q=>e (Sum.inl.inj q)
    rw [decide_eq_false h]
    exact (beq_eq_false_iff_ne.mpr e).symm
theorem aCL (a b:Str):decide ((Sum.inr a:Key)=Sum.inr b)=decide (a=b):=by
  by_cases e:a=b
  · subst e;simp
  · have h:¬ (Sum.inr a:Key)=Sum.inr b:=fun q=>e (Sum.inr.inj q)
    rw [decide_eq_false h,decide_eq_false e]
theorem aCM (a:Int) (b:Str):decide ((Sum.inl a:Key)=Sum.inr b)=false:=decide_eq_false (fun q=>nomatch q)
theorem aCN (a:Str) (b:Int):decide ((Sum.inr a:Key)=Sum.inl b)=false:=decide_eq_false (fun q=>nomatch q)
def bW (prog:Program) (w:World):PySem.KeyKind prog w Key where
  is:=a8H
  hash:=aNZ w
  inj:=fun v a b ha hb=>by
    rcases cY ha with ⟨i,t,rfl,rfl⟩ | ⟨x,t,rfl,rfl⟩
    · rcases cY hb with ⟨j,u,rfl,e⟩ | ⟨y,u,rfl,e⟩
      · injection e with e1 _;rw [e1]
      · exact nomatch e
    · rcases cY hb with ⟨j,u,rfl,e⟩ | ⟨y,u,rfl,e⟩
      · exact nomatch e
      · injection e with e1 _;rw [e1]
  byValue:=fun k v h=>by
    rcases cY h with ⟨i,t,rfl,rfl⟩ | ⟨x,t,rfl,rfl⟩ <;> rfl
  pyHash:=fun hv h=>by
    rcases cY hv with ⟨i,t,rfl,rfl⟩ | ⟨x,t,rfl,rfl⟩
    · exact wpAny_pyHash_int h
    · exact wpAny_pyHash_str h
  eqBool:=fun hu hv h=>by
    rcases cY hu with ⟨i,t,rfl,rfl⟩ | ⟨x,t,rfl,rfl⟩
    · rcases cY hv with ⟨j,u,rfl,rfl⟩ | ⟨y,u,rfl,rfl⟩
      · rw [aCK] at h;exact wpAny_eqBool_int h
      · rw [aCM] at h;exact SeqAt.EqAt.int_str i t y u _ _ _ _ h
    · rcases cY hv with ⟨j,u,rfl,rfl⟩ | ⟨y,u,rfl,rfl⟩
      · rw [aCN] at h;exact SeqAt.EqAt.str_int x t j u _ _ _ _ h
      · rw [aCL] at h;exact wpAny_eqBool_str h
  «strs» := fun k x t v h=>by
    rcases cY h with ⟨i,u,rfl,e⟩ | ⟨y,u,rfl,e⟩
    · exact nomatch e
    · injection e with e1 _
      subst e1
      cases v <;> rfl
theorem agC (prog:Program) (w:World) (i:Int) (t:Tok):(bW prog w).is (.inl i) (.int i t)=true:=anW i t
theorem agD (prog:Program) (w:World) (x:Str) (t:Tok):(bW prog w).is (.inr x) (.str x t)=true:=anY x t
end L2
namespace L2
open PySem PySem.Spec PyProof.Rows
inductive V where
  | non | bl (b:Bool) | int (i:Int) | str (x:Str) | byt (b:Array UInt8) | flt (b:UInt64) | ref (a:Addr) | ty (n:String)
  deriving DecidableEq
def RelV:V→Value→Prop
  | .non,u=>u=Value.none
  | .bl b,u=>u=Value.bool b
  | .int i,u=>∃ t,u=Value.int i t
  | .str x,u=>∃ t,u=Value.str x t
  | .byt b,u=>∃ t,u=Value.bytes b t
  | .flt b,u=>∃ t,u=Value.float b t
  | .ref a,u=>u=Value.ref a
  | .ty n,u=>u=Value.type n
abbrev Vals:List V→List Value→Prop:=Paired RelV
theorem Vals.length {xs:List V} {us:List Value} (r:Vals xs us):xs.length=us.length:=Paired.length r
theorem Vals.get:∀ {xs:List V} {us:List Value} {i:Nat} {x:V},Vals xs us→xs[i]?=some x→∃ u,us[i]?=some u∧RelV x u
  | _,_,_,_,.nil,e=>by simp at e
  | _,_,0,_,.cons r _,e=>by simp at e;subst e;exact ⟨_,rfl,r⟩
  | _,_,i+1,x,.cons _ t,e=>by
    obtain ⟨u,h1,h2⟩:=Vals.get (i:=i) (x:=x) t (by simpa using e)
    exact ⟨u,by simpa using h1,h2⟩
theorem Vals.set {x:V} {u:Value} (r:RelV x u):∀ {xs:List V} {us:List Value} (i:Nat),Vals xs us→Vals (xs.set i x) (us.set i u)
  | _,_,_,.nil => .nil
  | _,_,0,.cons _ t => .cons r t
  | _,_,i+1,.cons q t => .cons q (Vals.set r i t)
theorem Vals.append:∀ {xs ys:List V} {us ws:List Value},Vals xs us→Vals ys ws→Vals (xs++ys) (us++ws)
  | _,_,_,_,.nil,s=>s
  | _,_,_,_,.cons r t,s => .cons r (Vals.append t s)
theorem Vals.take:∀ {xs:List V} {us:List Value} (n:Nat),Vals xs us→Vals (xs.take n) (us.take n)
  | _,_,0,_ => .nil
  | _,_,_+1,.nil => .nil
  | _,_,n+1,.cons r t => .cons r (Vals.take n t)
theorem Vals.drop:∀ {xs:List V} {us:List Value} (n:Nat),Vals xs us→Vals (xs.drop n) (us.drop n)
  | _,_,0,r=>r
  | _,_,_+1,.nil => .nil
  | _,_,n+1,.cons _ t=>Vals.drop n t
def a7C:Option V→Option Value→Prop
  | some v,some u=>RelV v u
  | none,none=>True
  | _,_=>False
def KV {κ:Type}:List (κ×V)→List (κ×Value)→Prop:=Paired fun (p:κ×V) (q:κ×Value)=>p.1=q.1∧RelV p.2 q.2
def kV:Key→V
  | .inl i => .int i
  | .inr x => .str x
inductive HO where
  | lst (xs:List V)
  | tup (xs:List V)
  | dK (kvs:List (Key×V)) | dT (kvs:List (List Key×V))
  | set (S:Int→Bool) (n:Nat)
  | ins (C dx:Addr) (fs:List (Str×V))
  | own (x:Addr)
  | xd (fs:List (Str×V))
  | met (f x:Addr)
  | rng (lo hi:Int)
  | nZ (o:Obj) (u:HO)
  | tbl (ps:Array Value)
  | ext (φ:Heap→Prop)
abbrev Hp:=Addr→Option HO
def upd (H:Hp) (a:Addr) (o:HO):Hp:=fun b=>if b=a then some o else H b
theorem aK {H:Hp} {a:Addr} {o:HO}:upd H a o a=some o:=by unfold upd;rw [if_pos rfl]
theorem aU {H:Hp} {a b:Addr} {o:HO} (h:b≠a):upd H a o b=H b:=by unfold upd;rw [if_neg h]
theorem aB1 {H:Hp} {a b:Addr} {o u:HO} (h:H a=some o) (h':H b=some u) (d:o≠u):a≠b:=by
  intro e;subst e;rw [h] at h';exact d (Option.some.inj h')
theorem lH {H:Hp} {a b:Addr} {o:HO} (h:H a=some o) (h':H b=none):a≠b:=by
  intro e;subst e;rw [h] at h';cases h'
section
variable (P:Program) (w:World)
def fQ (H:Hp) (h:Heap) (a:Addr):HO→Prop
  | .lst xs=>xs.length≤sizeLine∧∃ (its:List Value) (n:Nat),Vals xs its∧h.get? a=some { cls := .type "list",data := .seq its.toArray n }
  | .tup xs=>xs.length≤sizeLine∧∃ its:List Value,Vals xs its∧IsTup h a its.toArray
  | .dK kvs=>kvs.length≤sizeLine∧(a == sysModules)=false∧∃ vs,KV kvs vs∧h.DictOf (bW P w) a vs
  | .dT kvs=>kvs.length≤sizeLine∧(a == sysModules)=false∧∃ xs:List (List Key×Addr×Value),
      Paired (fun (p:List Key×V) (q:List Key×Addr×Value)=>p.1=q.1∧H q.2.1=some (.tup (p.1.map kV))∧RelV p.2 q.2.2) kvs xs ∧
      ∃ o es ep,h.get? a=some o∧o.ExactDict∧o.data = .dict es ep∧es.toList=xs.map (entryOfKey (tupleKind (bW P w)))∧(xs.map (·.1)).Nodup
  | .set S n=>h.SetOf (intKind P w) a S n
  | .ins C dx fs=>H dx=some (.own a)∧fs.length≤1000∧dx≠a∧h.get? a=some (PySem.W.instObj C dx) ∧
      ∃ mA,h.Ns1 dx mA∧(∀ f,a7C (fs.lookup f) (mA f))∧PySem.Within mA (fs.map (·.1))
  | .own _=>∃ o,h.get? a=some o
  | .xd fs=>∃ mA,h.Ns1 a mA∧∀ f,a7C (fs.lookup f) (mA f)
  | .rng lo hi=>∃ t u v,h.get? a=some { cls := .type "range",data := .fields #[.int lo t,.int hi u,.int 1 v] }
  | .nZ o u=>h.get? a=some o∧fQ H h a u
  | .tbl ps=>h.get? a=some { cls := .none,data := .fields ps }
  | .met f x=>h.get? a=some (PySem.W.methodObj (.ref f) (.ref x))
  | .ext φ=>φ h∧(∃ o,h.get? a=some o)∧∀ h1 h2:Heap,φ h1→(∀ o,h1.get? a=some o→h2.get? a=some o)→φ h2
def HOk (H:Hp) (h:Heap):Prop:=∀ a o,H a=some o→fQ P w H h a o
end
section
variable {P:Program} {w:World} {H H':Hp} {h h':Heap} {a:Addr} {o:HO}
theorem fQ.lt (x:fQ P w H h a o):a < h.objs.size:=by
  cases o with
  | lst xs=>obtain ⟨_,_,_,_,e⟩:=x;exact Heap.lt_size e
  | tup xs=>obtain ⟨_,_,_,p⟩:=x;exact p.lt
  | dK kvs=>obtain ⟨_,_,_,_,o,_,_,e,_⟩:=x;exact Heap.lt_size e
  | dT kvs=>obtain ⟨_,_,_,_,o,_,_,e,_⟩:=x;exact Heap.lt_size e
  | set S n=>obtain ⟨o,_,_,_,e,_⟩:=x;exact Heap.lt_size e
  | ins C dx fs=>obtain ⟨_,_,_,e,_⟩:=x;exact Heap.lt_size e
  | own y=>obtain ⟨_,e⟩:=x;exact Heap.lt_size e
  | xd fs=>obtain ⟨_,⟨_,_,_,e,_⟩,_⟩:=x;exact Heap.lt_size e
  | rng lo hi=>obtain ⟨_,_,_,e⟩:=x;exact Heap.lt_size e
  | nZ ob u=>obtain ⟨e,_⟩:=x;exact Heap.lt_size e
  | tbl ps=>exact Heap.lt_size (show h.get? a=some _ from x)
  | met f y=>exact Heap.lt_size (show h.get? a=some _ from x)
  | ext φ=>obtain ⟨_,⟨_,e⟩,_⟩:=x;exact Heap.lt_size e
theorem Paired.aCO {α β:Type} {F G:α→β→Prop}:∀ {l₁:List α} {l₂:List β},Paired F l₁ l₂→(∀ a b,F a b→G a b)→Paired G l₁ l₂
  | _,_,.nil,_ => .nil
  | _,_,.cons r t,f => .cons (f _ _ r) (Paired.aCO t f)
theorem fQ.stay (x:fQ P w H h a o) (k:∀ b u,(b=a∨H b=some (.own a))→h.get? b=some u→h'.get? b=some u)
    (ho:∀ b,H b=some (.own a)→H' b=some (.own a)) (ht:∀ b xs,H b=some (.tup xs)→H' b=some (.tup xs)):fQ P w H' h' a o:=by
  induction o with
  | lst xs=>obtain ⟨z,its,n,r,e⟩:=x;exact ⟨z,its,n,r,k _ _ (.inl rfl) e⟩
  | tup xs=>obtain ⟨z,its,r,ob,e,c⟩:=x;exact ⟨z,its,r,ob,k _ _ (.inl rfl) e,c⟩
  | dK kvs=>obtain ⟨z,y,vs,r,ob,es,ep,e,c⟩:=x;exact ⟨z,y,vs,r,ob,es,ep,k _ _ (.inl rfl) e,c⟩
  | dT kvs =>
    obtain ⟨z,y,xs,r,ob,es,ep,e,c⟩:=x
    exact ⟨z,y,xs,Paired.aCO r fun p q z=>⟨z.1,ht _ _ z.2.1,z.2.2⟩,ob,es,ep,k _ _ (.inl rfl) e,c⟩
  | set S n=>obtain ⟨ob,es,ep,t,e,c⟩:=x;exact ⟨ob,es,ep,t,k _ _ (.inl rfl) e,c⟩
  | ins C dx fs =>
    obtain ⟨d,z,ne,e,mA,⟨od,es,ep,e2,c⟩,r⟩:=x
    exact ⟨ho _ d,z,ne,k _ _ (.inl rfl) e,mA,⟨od,es,ep,k _ _ (.inr d) e2,c⟩,r⟩
  | own y=>obtain ⟨ob,e⟩:=x;exact ⟨ob,k _ _ (.inl rfl) e⟩
  | xd fs=>obtain ⟨mA,⟨od,es,ep,e,c⟩,r⟩:=x;exact ⟨mA,⟨od,es,ep,k _ _ (.inl rfl) e,c⟩,r⟩
  | rng lo hi=>obtain ⟨t,u,v,e⟩:=x;exact ⟨t,u,v,k _ _ (.inl rfl) e⟩
  | nZ ob u ih=>obtain ⟨e,q⟩:=x;exact ⟨k _ _ (.inl rfl) e,ih q⟩
  | tbl ps =>
    have e:h.get? a=some { cls := .none,data := .fields ps }:=x
    show h'.get? a=some { cls := .none,data := .fields ps }
    exact k a _ (.inl rfl) e
  | met f y =>
    have e:h.get? a=some (PySem.W.methodObj (.ref f) (.ref y)):=x
    show h'.get? a=some (PySem.W.methodObj (.ref f) (.ref y))
    exact k a _ (.inl rfl) e
  | ext φ=>obtain ⟨p,⟨o,e⟩,st⟩:=x;exact ⟨st _ _ p fun o q=>k _ _ (.inl rfl) q,⟨o,k _ _ (.inl rfl) e⟩,st⟩
theorem HOk.lt (x:HOk P w H h) (e:H a=some o):a < h.objs.size:=(x a o e).lt
theorem HOk.fresh (x:HOk P w H h) (e:h.objs.size≤a):H a=none:=by
  cases q:H a with
  | none=>rfl
  | some u=>exact absurd (Nat.lt_of_lt_of_le (x.lt q) e) (Nat.lt_irrefl _)
theorem HOk.kept (x:HOk P w H h) (k:∀ b u,h.get? b=some u→h'.get? b=some u):HOk P w H h':=fun a o e =>
  (x a o e).stay (fun b u _ q=>k b u q) (fun _ q=>q) fun _ _ q=>q
theorem HOk.laid (x:HOk P w H h) (k:∀ b u,h.get? b=some u→h'.get? b=some u) (hp:h.objs.size≤a) (new:fQ P w (upd H a o) h' a o):HOk P w (upd H a o) h':=fun b u e=>by
  have hn:=x.fresh hp
  by_cases hb:b=a
  · subst hb;rw [aK] at e;cases e;exact new
  · rw [aU hb] at e
    exact (x b u e).stay (fun c v _ q=>k c v q) (fun c q=>by rw [aU (lH q hn)];exact q) fun c xs q=>by rw [aU (lH q hn)];exact q
end
def Rd (H:Hp) (a:Addr) (u:HO):Prop:=H a=some u∨∃ o,H a=some (.nZ o u)
theorem Rd.of {H:Hp} {a:Addr} {u:HO} (h:H a=some u):Rd H a u := .inl h
theorem Rd.ok {P:Program} {w:World} {H:Hp} {h:Heap} {a:Addr} {u:HO} (r:Rd H a u) (x:HOk P w H h):fQ P w H h a u:=by
  rcases r with r | ⟨o,r⟩
  · exact x a u r
  · obtain ⟨_,q⟩:=x a _ r
    exact q
def Mut:Option HO→Prop
  | some (.lst _)=>True
  | some (.dK _)=>True
  | some (.dT _)=>True
  | some (.set _ _)=>True
  | some (.ins _ _ _)=>True
  | some (.ext _)=>True
  | _=>False
section
variable {P:Program} {w:World} {H:Hp} {h h':Heap} {x e:Addr} {o':HO}
theorem HOk.write (ok:HOk P w H h) (mu:Mut (H x)) (he:e=x∨H e=some (.own x)) (k:∀ b u,b≠e→h.get? b=some u→h'.get? b=some u) (heo:∃ u,h'.get? e=some u)
    (new:fQ P w (upd H x o') h' x o'):HOk P w (upd H x o') h':=fun b u q=>by
  have aIO:∀ c y,H c=some (.own y)→c≠x:=fun c y r z=>by subst z;rw [r] at mu;exact mu
  have aO0:∀ c xs,H c=some (.tup xs)→c≠x:=fun c xs r z=>by subst z;rw [r] at mu;exact mu
  by_cases hb:b=x
  · subst hb;rw [aK] at q;cases q;exact new
  · rw [aU hb] at q
    by_cases hbe:b=e
    · have q':H b=some (.own x):=by
        rcases he with z | z
        · exact absurd (hbe.trans z) hb
        · rw [hbe];exact z
      rw [q] at q';cases q'
      obtain ⟨v,hv⟩:=heo
      exact ⟨v,by rw [hbe];exact hv⟩
    · refine (ok b u q).stay (fun c v hc r=>k c v ?_ r) (fun c r=>by rw [aU (aIO c b r)];exact r) fun c xs r=>by rw [aU (aO0 c xs r)];exact r
      rcases hc with rfl | hc
      · exact hbe
      · rintro rfl
        rcases he with z | z
        · exact aIO c b hc z
        · rw [hc] at z;cases z;exact hb rfl
end
structure Un (fs ex:List Addr) (H H':Hp) (h h':Heap):Prop where
  keep:∀ b o,h.get? b=some o→H b=none→b ∉ fs→b ∉ ex→h'.get? b=some o
  slot:∀ b o,h.get? b=some o→H b=none→b∈fs→b ∉ ex→∃ sl,h'.get? b=some { o with slots:=sl }
  free:∀ b o,h.get? b=some o→H b=none→b ∉ ex→H' b=none
  there:∀ b o,h.get? b=some o→b ∉ ex→∃ o',h'.get? b=some o'
  tups:∀ b xs,H b=some (.tup xs)→H' b=some (.tup xs)
  lJ:∀ b o u,H b=some (.nZ o u)→H' b=some (.nZ o u)
  uM:∀ b ps,H b=some (.tbl ps)→∃ more,H' b=some (.tbl (ps++more))
section
variable {fs fs' ex ex':List Addr} {H H1 H2:Hp} {h h1 h2 h':Heap} {a x e:Addr} {o:HO}
theorem Un.any (u:Un fs ex H H1 h h1) {b:Addr} {ob:Obj} (q:h.get? b=some ob) (n:H b=none) (hx:b ∉ ex):∃ sl,h1.get? b=some { ob with slots:=sl }:=by
  by_cases hb:b∈fs
  · exact u.slot b ob q n hb hx
  · exact ⟨ob.slots,u.keep b ob q n hb hx⟩
theorem Un.trans (a:Un fs ex H H1 h h1) (b:Un fs ex H1 H2 h1 h2):Un fs ex H H2 h h2 where
  keep:=fun c ob q n hc hx=>b.keep c ob (a.keep c ob q n hc hx) (a.free c ob q n hx) hc hx
  slot:=fun c ob q n hc hx=>by
    obtain ⟨sl,e1⟩:=a.slot c ob q n hc hx
    obtain ⟨sl',e2⟩:=b.slot c _ e1 (a.free c ob q n hx) hc hx
    exact ⟨sl',e2⟩
  free:=fun c ob q n hx=>by
    obtain ⟨o',e1⟩:=a.there c ob q hx
    exact b.free c o' e1 (a.free c ob q n hx) hx
  there:=fun c ob q hx=>by
    obtain ⟨o',e1⟩:=a.there c ob q hx
    exact b.there c o' e1 hx
  tups:=fun c xs q=>b.tups c xs (a.tups c xs q)
  lJ:=fun c ob xs q=>b.lJ c ob xs (a.lJ c ob xs q)
  uM:=fun c ps q=>by
    obtain ⟨m1,e1⟩:=a.uM c ps q
    obtain ⟨m2,e2⟩:=b.uM c _ e1
    exact ⟨m1++m2,by rw [e2,Array.append_assoc]⟩
theorem Un.kept (k:∀ b u,h.get? b=some u→h'.get? b=some u):Un fs ex H H h h' :=
  ⟨fun b ob q _ _ _=>k b ob q,fun b ob q _ _ _=>⟨ob.slots,k b ob q⟩,fun _ _ _ n _=>n,fun b ob q _=>⟨ob,k b ob q⟩,fun _ _ q=>q,fun _ _ _ q=>q,fun _ ps q=>⟨#[],by rw [q];simp⟩⟩
theorem Un.refl:Un fs ex H H h h:=Un.kept fun _ _ q=>q
theorem Un.laid (k:∀ b u,h.get? b=some u→h'.get? b=some u) (hp:h.objs.size≤a) (hn:H a=none):Un fs ex H (upd H a o) h h' where
  keep:=fun b u q _ _ _=>k b u q
  slot:=fun b u q _ _ _=>⟨u.slots,k b u q⟩
  free:=fun b u q n _=>by rw [aU (Nat.ne_of_lt (Nat.lt_of_lt_of_le (Heap.lt_size q) hp))];exact n
  there:=fun b u q _=>⟨u,k b u q⟩
  tups:=fun b xs q=>by rw [aU (lH q hn)];exact q
  lJ:=fun b u xs q=>by rw [aU (lH q hn)];exact q
  uM:=fun b ps q=>⟨#[],by rw [aU (lH q hn),q];simp⟩
theorem Un.write (mu:Mut (H x)) (he:e=x∨H e=some (.own x)) (k:∀ b u,b≠e→h.get? b=some u→h'.get? b=some u) (heo:∃ u,h'.get? e=some u):Un fs ex H (upd H x o) h h':=by
  have hx:∀ b,H b=none→b≠x:=fun b n z=>by subst z;rw [n] at mu;exact mu
  have hb:∀ b,H b=none→b≠e:=fun b n z=>by
    subst z
    rcases he with r | r
    · exact hx b n r
    · rw [n] at r;cases r
  have hm:∀ b u,H b=some u→¬ Mut (some u)→b≠x:=fun b u q nm z=>by subst z;rw [q] at mu;exact nm mu
  refine ⟨fun b u q n _ _=>k b u (hb b n) q,fun b u q n _ _=>⟨u.slots,k b u (hb b n) q⟩,fun b u q n _=>by rw [aU (hx b n)];exact n,fun b u q _=>?_,
    fun b xs q=>by rw [aU (hm b _ q fun z=>z)];exact q,fun b u xs q=>by rw [aU (hm b _ q fun z=>z)];exact q,fun b ps q=>⟨#[],by rw [aU (hm b _ q fun z=>z),q];simp⟩⟩
  by_cases hbe:b=e
  · subst hbe;exact heo
  · exact ⟨u,k b u hbe q⟩
theorem Un.mono (u:Un fs ex H H1 h h1) (hs:∀ b∈fs,b∈fs') (hx:∀ b∈ex,b∈ex'):Un fs' ex' H H1 h h1 :=
  ⟨fun b ob q n hb he=>u.keep b ob q n (fun z=>hb (hs b z)) fun z=>he (hx b z),fun _ _ q n _ he=>u.any q n fun z=>he (hx _ z),fun b ob q n he=>u.free b ob q n fun z=>he (hx b z),fun b ob q he=>u.there b ob q fun z=>he (hx b z),u.tups,u.lJ,u.uM⟩
end
def trk (h:Heap) (H:Hp):List Addr:=(List.range h.objs.size).filter fun a=>(H a).isSome
def adL (h:Heap) (H:Hp):Heap:=PySem.W.hideAll h (trk h H)
theorem anZ (h:Heap) (H:Hp):(adL h H).objs.size=h.objs.size:=PySem.W.hideAll_size _ _
theorem aq6 {h:Heap} {H:Hp} {b:Addr} {o:Obj} (e:h.get? b=some o) (n:H b=none):(adL h H).get? b=some o :=
  PySem.W.hideAll_get _ e fun hm=>by
    have q:(H b).isSome=true:=(List.mem_filter.mp hm).2
    rw [n] at q;simp at q
theorem avW {h:Heap} {H:Hp} {b:Addr} {o:Obj} (e:(adL h H).get? b=some o):h.get? b=some o∧H b=none:=by
  have e':h.get? b=some o:=PySem.W.of_hideAll (trk h H) e
  refine ⟨e',?_⟩
  cases q:H b with
  | none=>rfl
  | some x =>
    have hm:b∈trk h H:=List.mem_filter.mpr ⟨List.mem_range.mpr (Heap.lt_size e'),by simp [q]⟩
    have z:(adL h H).get? b=none:=PySem.W.hideAll_none (trk h H) hm
    rw [z] at e;cases e
def avX (g h:Heap) (L:Addr):List (Addr×Obj):=(List.range h.objs.size).filterMap fun a=>if a=L∨(g.get? a).isSome=true then none else (h.get? a).map fun o=>(a,o)
def rest (g h:Heap) (L d:Addr):List (Addr×Obj):=(avX g h L).filter fun p=>decide (p.1≠d)
end L2
namespace L2
open PySem PySem.Spec PyProof.Rows
structure Mod (K:PySem.W.Frag) (mg:Str→Option Value) (base:Heap):Prop where
  kin:K.In base
  glob:base.Ns mainGlobals mg
  blt:∃ mb,base.Ns builtinsNs mb∧∀ x:Str,x ≠ "__name__" → mb x=bootBuiltins x
  nolimit:base.NoLimit
structure Cx where
  prog:Program
  w:World
  K:PySem.W.Frag
  mg:Str→Option Value
  base:Heap
  A:Around
  N:List Str
  s₀:Shared
  H₀:Hp
  env:Env
  outer:List Env
  stack:List Env
  ex:List Addr
  fn:Str→Bool
  calm:Bool
  pn:List (Addr×Obj)
  tp:List (Addr×List V)
  xe:Value→Shared→Prop
def frs (l:List Env):List Addr:=l.filterMap (·.frame)
abbrev Cx.fs (X:Cx):List Addr:=frs X.outer
def Vis (sc:Scope) (x:Str):Prop:=sc.names.lookup x=some .local∨sc.names.lookup x=some .cell∨sc.names.lookup x=some .free
def Loc (sc:Scope) (x:Str):Prop:=sc.names.lookup x=some .local∨sc.names.lookup x=some .cell
def Look (env:Env) (h:Heap) (m:Str→Option Value) (x:Str) (u:Value):Prop :=
  (env.kindOf x=some .local∧m x=some u)∨((env.kindOf x=some .cell∨env.kindOf x=some .free)∧∃ c,env.cells.lookup x=some c∧h.IsCell c (some u))
structure Cx.Ok (X:Cx):Prop where
  mod:Mod X.K X.mg X.base
  kind:X.env.scope.kind = .function
  glob:X.env.globals=mainGlobals
  blt:X.env.builtins=builtinsNs
  above:X.s₀.heap.objs.size≤X.env.locals
  inj:∀ x y c,X.env.cells.lookup x=some c→X.env.cells.lookup y=some c→x=y
  has:∀ x,(X.env.kindOf x=some .cell∨X.env.kindOf x=some .free)→∃ c,X.env.cells.lookup x=some c
  cab:∀ x c,X.fn x=true→X.env.cells.lookup x=some c→X.s₀.heap.objs.size≤c
  hd:X.calm=true→X.A.handled=none
  frames:X.A.frames=some X.stack
  stk:X.stack=X.outer∨(X.stack=X.env :: X.outer∧X.env.frame=some X.env.locals)
  exf:∀ b∈X.ex,b≠X.env.locals∧∀ x c,X.env.cells.lookup x=some c→c≠b
  bs:∀ b o,X.base.get? b=some o→X.s₀.heap.get? b=some o∧X.H₀ b=none
  bsz:X.base.objs.size≤X.s₀.heap.objs.size
  adM:∀ b o,X.base.get? b=some o→b ∉ X.ex
  agE:∀ b∈X.ex,b ∉ X.fs
  xC:X.s₀.heap.FunFrames X.base X.outer
  frf:∀ b∈X.fs,X.H₀ b=none
def Hnd (A:Around) (H:Hp):Prop:=A.handled=none∨∃ x o u vs,A.handled=some (.ref x)∧H x=some (.nZ o u)∧o.data = .fields vs∧vs[2]?=some .none
theorem Hnd.mono {A:Around} {H H':Hp} (h:Hnd A H) (f:∀ b o u,H b=some (.nZ o u)→H' b=some (.nZ o u)):Hnd A H':=by
  rcases h with z | ⟨x,o,u,vs,a,b,c⟩
  · exact .inl z
  · exact .inr ⟨x,o,u,vs,a,f _ _ _ b,c⟩
theorem Hnd.heap {P:Program} {w:World} {A:Around} {H:Hp} {h:Heap} (q:Hnd A H) (hok:HOk P w H h):abC A h:=by
  rcases q with z | ⟨x,o,u,vs,a,b,c⟩
  · exact .inl z
  · exact .inr ⟨x,o,vs,a,(hok x _ b).1,c⟩
structure Inv (X:Cx) (pins:List (Addr×Obj)) (σ:List (Option V)) (H:Hp) (s:Shared):Prop where
  ok:X.Ok
  os:s.os=X.s₀.os
  bare:AllBare s.gens
  base:Un X.fs X.ex X.H₀ H X.s₀.heap s.heap
  loc:∃ m,s.heap.Ns X.env.locals m∧∀ (i:Nat) (x:Str) (v:V),X.N[i]?=some x→σ[i]?=some (some v)→Vis X.env.scope x→∃ u,RelV v u∧Look X.env s.heap m x u
  cell:∀ x c,X.env.cells.lookup x=some c→∃ v,s.heap.IsCell c v
  free:H X.env.locals=none
  nR:∀ x c,X.env.cells.lookup x=some c→H c=none
  pin:∀ p∈X.pn++pins,s.heap.get? p.1=some p.2∧H p.1=none∧p.1≠X.env.locals∧p.1 ∉ X.fs∧∀ v,p.2.data ≠ .cell v
  hok:HOk X.prog X.w H s.heap
  len:σ.length=X.N.length
  hnd:Hnd X.A H
  tup:∀ p∈X.tp,H p.1=some (.tup p.2)
section
variable {X:Cx} {pins:List (Addr×Obj)} {σ:List (Option V)} {H H':Hp} {s:Shared} {h':Heap}
theorem Cx.Ok.aO1 (ok:X.Ok) {b:Addr} {o:Obj} (e:X.base.get? b=some o):b ∉ X.fs:=fun hb=>by
  have:=(ok.xC.mem hb).1
  rw [e] at this;cases this
theorem Inv.bs (I:Inv X pins σ H s):∀ b o,X.base.get? b=some o→s.heap.get? b=some o∧H b=none:=fun b o e =>
  ⟨I.base.keep b o (I.ok.bs b o e).1 (I.ok.bs b o e).2 (I.ok.aO1 e) (I.ok.adM b o e),I.base.free b o (I.ok.bs b o e).1 (I.ok.bs b o e).2 (I.ok.adM b o e)⟩
theorem Inv.bk (I:Inv X pins σ H s):∀ b o,X.base.get? b=some o→s.heap.get? b=some o:=fun b o e=>(I.bs b o e).1
theorem Inv.mod (I:Inv X pins σ H s):Mod X.K X.mg X.base:=I.ok.mod
theorem Inv.kIn (I:Inv X pins σ H s):X.K.In s.heap:=I.ok.mod.kin.keeps I.bk
theorem Inv.nolimit (I:Inv X pins σ H s):s.heap.NoLimit:=I.ok.mod.nolimit.keeps I.bk
theorem Inv.fr (I:Inv X pins σ H s):∃ m,Fr X.base X.env.locals s.heap m :=
  let ⟨m,hn,_⟩:=I.loc
  ⟨m,hn,I.bk,Nat.le_trans I.ok.bsz I.ok.above⟩
theorem Inv.lt (I:Inv X pins σ H s):X.env.locals < s.heap.objs.size:=let ⟨_,hn,_⟩:=I.loc;hn.lt
theorem Inv.sz (I:Inv X pins σ H s):X.s₀.heap.objs.size≤s.heap.objs.size:=Nat.le_trans I.ok.above (Nat.le_of_lt I.lt)
theorem Inv.aO2 (I:Inv X pins σ H s) {a:Addr} (h:s.heap.objs.size≤a):a ∉ X.fs:=fun hb=>by
  obtain ⟨_,o,ho,_⟩:=I.ok.xC.mem hb
  exact absurd (Nat.lt_of_lt_of_le (Heap.lt_size ho) (Nat.le_trans I.sz h)) (Nat.lt_irrefl _)
theorem Inv.cne (I:Inv X pins σ H s):∀ x c,X.env.cells.lookup x=some c→c≠X.env.locals:=fun x c e z=>by
  obtain ⟨v,o,ho,hd⟩:=I.cell x c e
  obtain ⟨m,⟨o',es,ep,ho',hd',_⟩,_⟩:=I.loc
  rw [z,ho'] at ho;cases ho;rw [hd'] at hd;cases hd
theorem Inv.xC (I:Inv X pins σ H s):s.heap.FunFrames X.base X.outer:=by
  have all:∀ (l:List Env),(∀ b∈frs l,b∈X.fs)→X.s₀.heap.FunFrames X.base l→s.heap.FunFrames X.base l:=by
    intro l
    induction l with
    | nil=>intro _ _;trivial
    | cons env r ih =>
      intro hs hl
      obtain ⟨hk,⟨L,o,hf,hn,ho,hd⟩,hr⟩:=hl
      have hL:L∈X.fs:=hs L (by unfold frs;rw [List.filterMap_cons,hf];exact List.mem_cons_self)
      obtain ⟨sl,e⟩:=I.base.slot L o ho (I.ok.frf L hL) hL fun z=>I.ok.agE L z hL
      exact ⟨hk,⟨L,_,hf,hn,e,hd⟩,ih (fun b hb=>hs b (by unfold frs;rw [List.filterMap_cons,hf];exact List.mem_cons_of_mem _ hb)) hr⟩
  exact all X.outer (fun _ hb=>hb) I.ok.xC
theorem Inv.stack (I:Inv X pins σ H s):s.heap.FunFrames X.base X.stack:=by
  rcases I.ok.stk with e | ⟨e,hf⟩
  · rw [e];exact I.xC
  · rw [e]
    obtain ⟨m,hn,_⟩:=I.loc
    refine .cons (by rw [I.ok.kind];decide) hf hn ?_ I.xC
    exact Heap.get?_none_of_le (Nat.le_trans I.ok.bsz I.ok.above)
theorem Inv.ajF (I:Inv X pins σ H s):∀ b∈frs X.stack,b∈X.env.locals :: X.fs:=fun b hb=>by
  rcases I.ok.stk with e | ⟨e,hf⟩
  · rw [e] at hb;exact List.mem_cons_of_mem _ hb
  · rw [e] at hb
    unfold frs at hb
    rw [List.filterMap_cons,hf] at hb
    exact hb
theorem Inv.adN (I:Inv X pins σ H s):∀ b∈frs X.stack,H b=none:=fun b hb=>by
  rcases List.mem_cons.mp (I.ajF b hb) with e | hb
  · rw [e];exact I.free
  · obtain ⟨_,o,ho,_⟩:=I.ok.xC.mem hb
    exact I.base.free b o ho (I.ok.frf b hb) fun z=>I.ok.agE b z hb
theorem Inv.step {g':Array GenState} {t':Nat} {d':Drawn} {ch:List Addr} (I:Inv X pins σ H s)
    (hch:∀ b∈ch,(b∈X.ex∨X.s₀.heap.objs.size≤b)∧b≠X.env.locals∧(∀ x c,X.env.cells.lookup x=some c→c≠b)∧∀ p∈X.pn++pins,p.1≠b)
    (keep:∀ b o,b≠X.env.locals→b ∉ X.fs→b ∉ ch→s.heap.get? b=some o→H b=none→h'.get? b=some o)
    (slot:∀ b o,b≠X.env.locals→b∈X.fs→b ∉ ch→s.heap.get? b=some o→H b=none→∃ sl,h'.get? b=some { o with slots:=sl }) (free:∀ b o,b ∉ ch→s.heap.get? b=some o→H b=none→H' b=none)
    (there:∀ b o,b ∉ ch→s.heap.get? b=some o→∃ o',h'.get? b=some o')
    (tups:∀ b xs,H b=some (.tup xs)→H' b=some (.tup xs)) (lJ:∀ b o u,H b=some (.nZ o u)→H' b=some (.nZ o u)) (uM:∀ b ps,H b=some (.tbl ps)→∃ more,H' b=some (.tbl (ps++more)))
    (ns:∀ m,s.heap.Ns X.env.locals m→h'.Ns X.env.locals m) (hok:HOk X.prog X.w H' h') (hg:AllBare g') :
    Inv X pins σ H' { s with heap:=h',gens:=g',drawn:=d',toks:=t' }:=by
  have neL:∀ b o,X.s₀.heap.get? b=some o→b≠X.env.locals:=fun b o e=>Nat.ne_of_lt (Nat.lt_of_lt_of_le (Heap.lt_size e) I.ok.above)
  have neC:∀ b o,X.s₀.heap.get? b=some o→b ∉ X.ex→b ∉ ch:=fun b o e hx hb=>by
    rcases (hch b hb).1 with z | z
    · exact hx z
    · exact absurd (Nat.lt_of_lt_of_le (Heap.lt_size e) z) (Nat.lt_irrefl _)
  have cellK:∀ x c,X.env.cells.lookup x=some c→∀ v,s.heap.IsCell c v→h'.IsCell c v:=fun x c e v ⟨o,ho,hd⟩=>by
    have nch:c ∉ ch:=fun z=>(hch c z).2.2.1 x c e rfl
    by_cases hc:c∈X.fs
    · obtain ⟨sl,q⟩:=slot c o (I.cne x c e) hc nch ho (I.nR x c e)
      exact ⟨_,q,hd⟩
    · exact ⟨o,keep c o (I.cne x c e) hc nch ho (I.nR x c e),hd⟩
  refine ⟨I.ok,I.os,hg,⟨fun b o e n hb hx=>?_,fun b o e n hb hx=>?_,fun b o e n hx=>?_,fun b o e hx=>?_,fun b xs e=>tups b xs (I.base.tups b xs e),fun b o xs e=>lJ b o xs (I.base.lJ b o xs e),fun b ps e=>?_⟩,?_,fun x c e=>?_,?_,fun x c e=>?_,fun p hp=>?_,hok,I.len,I.hnd.mono lJ,fun p hp=>tups _ _ (I.tup p hp)⟩
  · exact keep b o (neL b o e) hb (neC b o e hx) (I.base.keep b o e n hb hx) (I.base.free b o e n hx)
  · obtain ⟨sl,e1⟩:=I.base.slot b o e n hb hx
    obtain ⟨sl',e2⟩:=slot b _ (neL b o e) hb (neC b o e hx) e1 (I.base.free b o e n hx)
    exact ⟨sl',e2⟩
  · obtain ⟨o',e1⟩:=I.base.there b o e hx
    exact free b o' (neC b o e hx) e1 (I.base.free b o e n hx)
  · obtain ⟨o',e1⟩:=I.base.there b o e hx
    exact there b o' (neC b o e hx) e1
  · obtain ⟨m1,e1⟩:=I.base.uM b ps e
    obtain ⟨m2,e2⟩:=uM b _ e1
    exact ⟨m1++m2,by rw [e2,Array.append_assoc]⟩
  · obtain ⟨m,hn,hl⟩:=I.loc
    refine ⟨m,ns m hn,fun i x v e1 e2 e3=>?_⟩
    obtain ⟨u,r,l⟩:=hl i x v e1 e2 e3
    refine ⟨u,r,?_⟩
    rcases l with l | ⟨k,c,e,z⟩
    · exact .inl l
    · exact .inr ⟨k,c,e,cellK x c e _ z⟩
  · obtain ⟨v,z⟩:=I.cell x c e
    exact ⟨v,cellK x c e v z⟩
  · obtain ⟨m,⟨o,_,_,ho,_⟩,_⟩:=I.loc
    exact free _ o (fun z=>(hch _ z).2.1 rfl) ho I.free
  · obtain ⟨v,o,ho,hd⟩:=I.cell x c e
    exact free c o (fun z=>(hch c z).2.2.1 x c e rfl) ho (I.nR x c e)
  · obtain ⟨e,n,ne,nf,d⟩:=I.pin p hp
    have nch:p.1 ∉ ch:=fun z=>(hch p.1 z).2.2.2 p hp rfl
    exact ⟨keep p.1 p.2 ne nf nch e n,free p.1 p.2 nch e n,ne,nf,d⟩
theorem Inv.un {t':Nat} (I:Inv X pins σ H s) (u:Un X.fs [] H H' s.heap h') (hok:HOk X.prog X.w H' h'):Inv X pins σ H' { s with heap:=h',toks:=t' }:=by
  obtain ⟨m,⟨o,es,ep,ho,r⟩,_⟩:=id I.loc
  obtain ⟨sl,hL⟩:=u.any ho I.free (by simp)
  exact I.step (g':=s.gens) (d':=s.drawn) (ch:=[]) (fun _ z=>nomatch z) (fun b o _ hb _ e n=>u.keep b o e n hb (by simp)) (fun b o _ hb _ e n=>u.slot b o e n hb (by simp)) (fun b o _ e n=>u.free b o e n (by simp)) (fun b o _ e=>u.there b o e (by simp)) u.tups u.lJ u.uM (fun m' hm=>by
    obtain ⟨o',es',ep',ho',r'⟩:=hm
    rw [ho] at ho';cases ho'
    exact ⟨_,es',ep',hL,r'⟩) hok I.bare
theorem Inv.call {g':Array GenState} {t':Nat} {d':Drawn} {ch:List Addr} (I:Inv X pins σ H s) (u:Un (frs X.stack) ch H H' s.heap h') (hok:HOk X.prog X.w H' h') (hg:AllBare g')
    (hch:∀ b∈ch,(b∈X.ex∨X.s₀.heap.objs.size≤b)∧b≠X.env.locals∧(∀ x c,X.env.cells.lookup x=some c→c≠b)∧∀ p∈X.pn++pins,p.1≠b) :
    Inv X pins σ H' { s with heap:=h',gens:=g',drawn:=d',toks:=t' }:=by
  obtain ⟨m,⟨o,es,ep,ho,r⟩,_⟩:=id I.loc
  obtain ⟨sl,hL⟩:=u.any ho I.free fun z=>(hch _ z).2.1 rfl
  exact I.step (ch:=ch) hch (fun b o hL hb hc e n=>u.keep b o e n (fun z=>(List.mem_cons.mp (I.ajF b z)).elim hL hb) hc) (fun b o _ _ hc e n=>u.any e n hc) (fun b o hc e n=>u.free b o e n hc) (fun b o hc e=>u.there b o e hc) u.tups u.lJ u.uM (fun m' hm=>by
    obtain ⟨o',es',ep',ho',r'⟩:=hm
    rw [ho] at ho';cases ho'
    exact ⟨_,es',ep',hL,r'⟩) hok hg
theorem Inv.turned {t':Nat} {it:Addr} (I:Inv X pins σ H s) (k:∀ b o,b≠it→s.heap.get? b=some o→h'.get? b=some o) (hn:H it=none) (hL:it≠X.env.locals)
    (h1:it∈X.ex∨X.s₀.heap.objs.size≤it) (h2:∀ x c,X.env.cells.lookup x=some c→c≠it) (h3:∀ p∈X.pn++pins,p.1≠it):Inv X pins σ H { s with heap:=h',toks:=t' }:=by
  have nit:∀ b u,H b=some u→b≠it:=fun b u e z=>by rw [z,hn] at e;cases e
  refine I.step (g':=s.gens) (d':=s.drawn) (ch:=[it]) (fun b hb=>?_) (fun b o _ _ hc e _=>k b o (fun z=>hc (by simp [z])) e) (fun b o _ _ hc e _=>⟨o.slots,k b o (fun z=>hc (by simp [z])) e⟩) (fun _ _ _ _ n=>n)
    (fun b o hc e=>⟨o,k b o (fun z=>hc (by simp [z])) e⟩) (fun _ _ e=>e) (fun _ _ _ e=>e) (fun b ps e=>⟨#[],by rw [e];simp⟩) (fun m hm=>?_) (fun b u e=>?_) I.bare
  · have e:b=it:=by simpa using hb
    subst e
    exact ⟨h1,hL,h2,h3⟩
  · obtain ⟨o,es,ep,ho,r⟩:=hm
    exact ⟨o,es,ep,k _ o (Ne.symm hL) ho,r⟩
  · refine (I.hok b u e).stay (fun c v hc q=>k c v ?_ q) (fun _ q=>q) fun _ _ q=>q
    rcases hc with z | z
    · rw [z];exact nit b u e
    · exact nit c _ z
theorem Inv.tok (I:Inv X pins σ H s) (t:Nat):Inv X pins σ H { s with toks:=t }:=I.un (h':=s.heap) (t':=t) Un.refl I.hok
theorem Inv.kept {t':Nat} (I:Inv X pins σ H s) (k:∀ b u,s.heap.get? b=some u→h'.get? b=some u):Inv X pins σ H { s with heap:=h',toks:=t' }:=I.un (Un.kept k) (I.hok.kept k)
theorem Inv.laid {a:Addr} {o:HO} {t':Nat} (I:Inv X pins σ H s) (k:∀ b u,s.heap.get? b=some u→h'.get? b=some u) (hp:s.heap.objs.size≤a) (new:fQ X.prog X.w (upd H a o) h' a o) :
    Inv X pins σ (upd H a o) { s with heap:=h',toks:=t' }:=I.un (Un.laid k hp (I.hok.fresh hp)) (I.hok.laid k hp new)
theorem Inv.write {x e:Addr} {o:HO} {t':Nat} (I:Inv X pins σ H s) (mu:Mut (H x)) (he:e=x∨H e=some (.own x)) (k:∀ b u,b≠e→s.heap.get? b=some u→h'.get? b=some u) (heo:∃ u,h'.get? e=some u)
    (new:fQ X.prog X.w (upd H x o) h' x o):Inv X pins σ (upd H x o) { s with heap:=h',toks:=t' }:=I.un (Un.write mu he k heo) (I.hok.write mu he k heo new)
theorem Inv.weak {σ':List (Option V)} (I:Inv X pins σ H s) (hl:σ'.length=σ.length) (w:∀ (i:Nat) v,σ'[i]?=some (some v)→σ[i]?=some (some v)):Inv X pins σ' H s :=
  ⟨I.ok,I.os,I.bare,I.base,let ⟨m,hn,hl'⟩:=I.loc;⟨m,hn,fun i x v e1 e2 e3=>hl' i x v e1 (w i v e2) e3⟩,I.cell,I.free,I.nR,I.pin,I.hok,hl.trans I.len,I.hnd,I.tup⟩
theorem Inv.alL {a66:List (Addr×Obj)} (I:Inv X pins σ H s) (h:∀ p∈a66,s.heap.get? p.1=some p.2∧H p.1=none∧p.1≠X.env.locals∧p.1 ∉ X.fs∧∀ v,p.2.data ≠ .cell v):Inv X a66 σ H s :=
  ⟨I.ok,I.os,I.bare,I.base,I.loc,I.cell,I.free,I.nR,fun p hp=>(List.mem_append.mp hp).elim (fun z=>I.pin p (List.mem_append_left _ z)) (h p),I.hok,I.len,I.hnd,I.tup⟩
theorem agF {N:List Str} (hN:N.Nodup) {i j:Nat} {x:Str} (a:N[i]?=some x) (b:N[j]?=some x):i=j:=by
  obtain ⟨h1,e1⟩:=List.getElem?_eq_some_iff.mp a
  obtain ⟨h2,e2⟩:=List.getElem?_eq_some_iff.mp b
  exact (List.getElem_inj hN).mp (e1.trans e2.symm)
theorem ac9 {M:Model} {A:Around} {E:Value→Shared→Prop} {i:Nat} {x:Str} {v:V} {u:Value} {Q:Unit→Shared→Prop} (I:Inv X pins σ H s) (hN:X.N.Nodup) (hi:X.N[i]?=some x) (hx:Loc X.env.scope x) (r:RelV v u)
    (h:∀ s',Inv X pins (σ.set i (some v)) H s'→(∃ a,Heap.SameBut a s.heap s'.heap∧(a=X.env.locals∨X.env.cells.lookup x=some a))→Q () s') (hf:X.fn x=true∨X.env.scope.names.lookup x=some .local:=by first | exact .inl rfl | exact .inr rfl | assumption):wpAny M A (storeName X.env x u) Q E s:=by
  obtain ⟨m,hn,hl⟩:=id I.loc
  have hcls:(X.env.scope.kind == .class || (X.env.scope.kind == .module&&X.env.locals != X.env.globals))=false:=by rw [I.ok.kind];rfl
  have hiσ:i < σ.length:=by rw [I.len];exact (List.getElem?_eq_some_iff.mp hi).1
  have cne:=I.cne
  have tracked:∀ {a:Addr} {h':Heap},(∃ o,s.heap.get? a=some o∧H a=none)→Heap.SameBut a s.heap h'→HOk X.prog X.w H h':=fun {a h'} ha hs b ob e=>by
    obtain ⟨_,_,hfree⟩:=ha
    refine (I.hok b ob e).stay (fun c w' hc q=>(hs.2 c ?_).trans q) (fun _ q=>q) fun _ _ q=>q
    rintro rfl
    rcases hc with rfl | hc
    · rw [hfree] at e;cases e
    · rw [hfree] at hc;cases hc
  rcases hx with hk | hk
  · refine wpAny_storeName_local hk hn (fun h' hn' hs=>?_) hcls
    obtain ⟨oL,_,_,hoL,_⟩:=id hn
    refine h _ ⟨I.ok,I.os,I.bare,⟨fun b o e n hb hx=>?_,fun b o e n hb hx=>?_,I.base.free,fun b o e hx=>?_,I.base.tups,I.base.lJ,I.base.uM⟩,⟨_,hn',fun j y v' e1 e2 e3=>?_⟩,fun y c e=>?_,I.free,I.nR,fun p hp=>?_,tracked ⟨oL,hoL,I.free⟩ hs,by simpa using I.len,I.hnd,I.tup⟩ ⟨_,hs,.inl rfl⟩
    · exact (hs.2 b (Nat.ne_of_lt (Nat.lt_of_lt_of_le (Heap.lt_size e) I.ok.above))).trans (I.base.keep b o e n hb hx)
    · obtain ⟨sl,e1⟩:=I.base.slot b o e n hb hx
      exact ⟨sl,(hs.2 b (Nat.ne_of_lt (Nat.lt_of_lt_of_le (Heap.lt_size e) I.ok.above))).trans e1⟩
    · obtain ⟨o',e1⟩:=I.base.there b o e hx
      exact ⟨o',(hs.2 b (Nat.ne_of_lt (Nat.lt_of_lt_of_le (Heap.lt_size e) I.ok.above))).trans e1⟩
    · by_cases hj:j=i
      · subst hj
        rw [hi] at e1;cases e1
        rw [List.getElem?_set_self hiσ] at e2
        cases e2
        exact ⟨u,r,.inl ⟨hk,by simp⟩⟩
      · rw [List.getElem?_set_ne (Ne.symm hj)] at e2
        obtain ⟨u',r',q⟩:=hl j y v' e1 e2 e3
        refine ⟨u',r',?_⟩
        rcases q with ⟨k,e⟩ | ⟨k,c,e,z⟩
        · refine .inl ⟨k,?_⟩
          have:y≠x:=fun e=>hj (agF hN e1 (e ▸ hi))
          simp [this,e]
        · exact .inr ⟨k,c,e,z.sameBut hs (cne y c e)⟩
    · obtain ⟨w',z⟩:=I.cell y c e
      exact ⟨w',z.sameBut hs (cne y c e)⟩
    · obtain ⟨e,n,ne,nf,d⟩:=I.pin p hp
      exact ⟨(hs.2 p.1 ne).trans e,n,ne,nf,d⟩
  · have hfn:X.fn x=true:=by
      rcases hf with z | z
      · exact z
      · rw [z] at hk;cases hk
    obtain ⟨c,hc⟩:=I.ok.has x (.inl hk)
    obtain ⟨w',z⟩:=I.cell x c hc
    refine wpAny_storeName_cell I.ok.kind hk hc z (fun h' hc' hs=>?_)
    obtain ⟨oc,hoc,aO3⟩:=id z
    refine h { s with heap:=h' } ⟨I.ok,I.os,I.bare,⟨fun b o e n hb hx=>?_,fun b o e n hb hx=>?_,I.base.free,fun b o e hx=>?_,I.base.tups,I.base.lJ,I.base.uM⟩,⟨m,hn.sameBut hs (Ne.symm (cne x c hc)),fun j y v' e1 e2 e3=>?_⟩,fun y c' e=>?_,I.free,I.nR,fun p hp=>?_,tracked ⟨oc,hoc,I.nR x c hc⟩ hs,by simpa using I.len,I.hnd,I.tup⟩ ⟨c,hs,.inr hc⟩
    · exact (hs.2 b (Nat.ne_of_lt (Nat.lt_of_lt_of_le (Heap.lt_size e) (I.ok.cab x c hfn hc)))).trans (I.base.keep b o e n hb hx)
    · obtain ⟨sl,e1⟩:=I.base.slot b o e n hb hx
      exact ⟨sl,(hs.2 b (Nat.ne_of_lt (Nat.lt_of_lt_of_le (Heap.lt_size e) (I.ok.cab x c hfn hc)))).trans e1⟩
    · obtain ⟨o',e1⟩:=I.base.there b o e hx
      exact ⟨o',(hs.2 b (Nat.ne_of_lt (Nat.lt_of_lt_of_le (Heap.lt_size e) (I.ok.cab x c hfn hc)))).trans e1⟩
    · by_cases hj:j=i
      · subst hj
        rw [hi] at e1;cases e1
        rw [List.getElem?_set_self hiσ] at e2
        cases e2
        exact ⟨u,r,.inr ⟨.inl hk,c,hc,hc'⟩⟩
      · rw [List.getElem?_set_ne (Ne.symm hj)] at e2
        obtain ⟨u',r',q⟩:=hl j y v' e1 e2 e3
        refine ⟨u',r',?_⟩
        rcases q with q | ⟨k,c',e,z'⟩
        · exact .inl q
        · refine .inr ⟨k,c',e,z'.sameBut hs ?_⟩
          rintro rfl
          exact hj (agF hN e1 (I.ok.inj _ _ _ e hc ▸ hi))
    · by_cases hcc:c'=c
      · subst hcc;exact ⟨_,hc'⟩
      · obtain ⟨w2,z2⟩:=I.cell y c' e
        exact ⟨w2,z2.sameBut hs hcc⟩
    · obtain ⟨e,n,ne,nf,d⟩:=I.pin p hp
      refine ⟨(hs.2 p.1 ?_).trans e,n,ne,nf,d⟩
      intro q
      rw [q,hoc] at e
      have q':oc=p.2:=Option.some.inj e
      exact d w' (by rw [← q'];exact aO3)
theorem agG {M:Model} {A:Around} {E:Value→Shared→Prop} {i:Nat} {x:Str} {v:V} {u:Value} {Q:Unit→Shared→Prop} (I:Inv X pins σ H s) (hN:X.N.Nodup) (hi:X.N[i]?=some x) (hx:Loc X.env.scope x) (r:RelV v u)
    (h:∀ s',Inv X pins (σ.set i (some v)) H s'→Q () s') (hf:X.fn x=true∨X.env.scope.names.lookup x=some .local:=by first | exact .inl rfl | exact .inr rfl | assumption):wpAny M A (storeName X.env x u) Q E s :=
  ac9 I hN hi hx r (fun s' I' _=>h s' I') hf
theorem Inv.call' {s':Shared} {ch:List Addr} (I:Inv X pins σ H s) (ho:s'.os=s.os) (u:Un (frs X.stack) ch H H' s.heap s'.heap) (hok:HOk X.prog X.w H' s'.heap) (hg:AllBare s'.gens)
    (hch:∀ b∈ch,(b∈X.ex∨X.s₀.heap.objs.size≤b)∧b≠X.env.locals∧(∀ x c,X.env.cells.lookup x=some c→c≠b)∧∀ p∈X.pn++pins,p.1≠b):Inv X pins σ H' s':=by
  obtain ⟨h',g',d',t',o'⟩:=s'
  have e:o'=s.os:=ho
  subst e
  exact I.call (g':=g') (t':=t') (d':=d') u hok hg hch
end
abbrev XK:=Value→Option Addr→Hp→Prop
abbrev St:=List (Option V)
abbrev VK:=V→Hp→Prop
abbrev TE:=St→Hp→VK→Prop
abbrev TT:=St→Hp→(Bool→Hp→Prop)→Prop
abbrev TA:=St→Hp→(List V→Hp→Prop)→Prop
structure Ends where
  nx:St→Hp→Prop
  rt:VK
  bk:St→Hp→Prop:=fun _ _=>False
  ct:St→Hp→Prop:=fun _ _=>False
abbrev TS:=Ends→St→Hp→Prop
def EP (X:Cx) (pins:List (Addr×Obj)) (σ:St) (Q:VK) (u:Value) (s':Shared):Prop:=∃ v H',Inv X pins σ H' s'∧RelV v u∧Q v H'
def TP (X:Cx) (pins:List (Addr×Obj)) (σ:St) (Q:Bool→Hp→Prop) (b:Bool) (s':Shared):Prop:=∃ H',Inv X pins σ H' s'∧Q b H'
def AP (X:Cx) (pins:List (Addr×Obj)) (σ:St) (Q:List V→Hp→Prop) (us:List Value) (s':Shared):Prop:=∃ vs H',Inv X pins σ H' s'∧Vals vs us∧Q vs H'
def SP (X:Cx) (pins:List (Addr×Obj)) (D:Ends) (f:Flow) (s':Shared):Prop :=
  match f with
  | .next=>∃ σ' H',Inv X pins σ' H' s'∧D.nx σ' H'
  | .brk=>∃ σ' H',Inv X pins σ' H' s'∧D.bk σ' H'
  | .cont=>∃ σ' H',Inv X pins σ' H' s'∧D.ct σ' H'
  | .ret u=>∃ v σ' H',Inv X pins σ' H' s'∧RelV v u∧D.rt v H'
def PE (X:Cx) (e:Expr) (t:TE):Prop :=
  ∀ (pins:List (Addr×Obj)) (s:Shared) (σ:St) (H:Hp) (Q:VK),Inv X pins σ H s→t σ H Q→wpAny (model X.prog X.w) X.A (eval e X.env) (EP X pins σ Q) X.xe s
def PT (X:Cx) (e:Expr) (t:TT):Prop :=
  ∀ (pins:List (Addr×Obj)) (s:Shared) (σ:St) (H:Hp) (Q:Bool→Hp→Prop),Inv X pins σ H s→t σ H Q→wpAny (model X.prog X.w) X.A (isTrue e X.env (eval e X.env)) (TP X pins σ Q) X.xe s
def PW (X:Cx) (e:Expr) (t:TT):Prop :=
  ∀ (whole:Sem Value) (pins:List (Addr×Obj)) (s:Shared) (σ:St) (H:Hp) (Q:Bool→Hp→Prop),Inv X pins σ H s→t σ H Q→wpAny (model X.prog X.w) X.A (isTrue e X.env whole) (TP X pins σ Q) X.xe s
theorem PW.pt {X:Cx} {e:Expr} {t:TT} (h:PW X e t):PT X e t:=h _
def PA (X:Cx) (es:List Expr) (t:TA):Prop :=
  ∀ (pos:Pos) (pins:List (Addr×Obj)) (s:Shared) (σ:St) (H:Hp) (Q:List V→Hp→Prop),Inv X pins σ H s→t σ H Q→wpAny (model X.prog X.w) X.A (spliced (backTo pos (starEach es X.env))) (AP X pins σ Q) X.xe s
def PS (X:Cx) (st:Stmt) (t:TS):Prop :=
  ∀ (pins:List (Addr×Obj)) (s:Shared) (σ:St) (H:Hp) (D:Ends),Inv X pins σ H s→t D σ H→wpAny (model X.prog X.w) X.A (exec st X.env) (SP X pins D) X.xe s
def PSs (X:Cx) (st:List Stmt) (t:TS):Prop :=
  ∀ (pins:List (Addr×Obj)) (s:Shared) (σ:St) (H:Hp) (D:Ends),Inv X pins σ H s→t D σ H→wpAny (model X.prog X.w) X.A (execs st X.env) (SP X pins D) X.xe s
theorem dN {α:Type} {t:Sem α} {Q Q':α→Shared→Prop} {M:Model} {A:Around} {E:Value→Shared→Prop} {s:Shared} (h:wpAny M A t Q E s) (hQ:∀ a s,Q a s→Q' a s):wpAny M A t Q' E s:=wpAny_mono h hQ fun _ _ x=>x
end L2
namespace L2
open PySem PySem.Spec PyProof.Rows
section
variable {X:Cx}
theorem bin {a b:Expr} {ta tb:TE} (ha:PE X a ta) (hb:PE X b tb) {pins:List (Addr×Obj)} {s:Shared} {σ:St} {H:Hp} {R:V→V→Hp→Prop} (I:Inv X pins σ H s) (h:ta σ H fun x H1=>tb σ H1 fun y H2=>R x y H2)
    {α:Type} {Q:α→Shared→Prop} {f:Value→Value→Sem α}
    (hf:∀ v u s2 x y H2,Inv X pins σ H2 s2→RelV x v→RelV y u→R x y H2→wpAny (model X.prog X.w) X.A (f v u) Q X.xe s2) :
    wpAny (model X.prog X.w) X.A (eval a X.env) (fun v s₁=>wpAny (model X.prog X.w) X.A (eval b X.env) (fun u s₂=>wpAny (model X.prog X.w) X.A (f v u) Q X.xe s₂) X.xe s₁) X.xe s:=by
  refine dN (ha pins s σ H _ I h) fun v s1 ⟨x,H1,I1,r1,q1⟩=>?_
  refine dN (hb pins s1 σ H1 _ I1 q1) fun u s2 ⟨y,H2,I2,r2,q2⟩=>?_
  exact hf v u s2 x y H2 I2 r1 r2 q2
def aIQ (i:Nat):TE:=fun σ H Q=>∃ v,σ[i]?=some (some v)∧Q v H
def tC (v:V):TE:=fun _ H Q=>Q v H
theorem aCR {i:Nat} {x:Str} {pos:Pos} (hN:X.N[i]?=some x) (hv:Vis X.env.scope x) (hd:(x == ("__debug__" : Str))=false:=by decide) (hcd:(x == ("__classdict__" : Str))=false:=by decide):PE X (.Name x pos) (aIQ i):=by
  intro pins s σ H Q I h
  obtain ⟨v,e,h⟩:=h
  obtain ⟨m,hn,hl⟩:=I.loc
  obtain ⟨u,r,l⟩:=hl i x v hN e hv
  have fin:EP X pins σ Q u s:=⟨v,H,I,r,h⟩
  rcases l with ⟨hk,hm⟩ | ⟨hk,c,hc,hcell⟩
  · exact wpAny_Name (wpAny_loadName_local I.ok.kind hk hn hm fin) hd
  · rcases hk with hk | hk
    · exact wpAny_Name (wpAny_loadName_cell I.ok.kind hk hc hcell fin) hd
    · exact wpAny_Name (wpAny_loadName_free I.ok.kind hk hc hcell fin hcd) hd
theorem aCS {i j pos}:PE X (.Constant (.int i) j pos) (tC (.int i)):=fun _ _ _ H _ I h=>wpAny_Constant_int ⟨.int i,H,I.tok _,⟨_,rfl⟩,h⟩
theorem aIR {b j pos}:PE X (.Constant (.bool b) j pos) (tC (.bl b)):=fun _ _ _ H _ I h=>Constant_bool ⟨.bl b,H,I,rfl,h⟩
theorem aCT {j pos}:PE X (.Constant .none j pos) (tC .non):=fun _ _ _ H _ I h=>Constant_none ⟨.non,H,I,rfl,h⟩
theorem aCU {x j pos}:PE X (.Constant (.str x) j pos) (tC (.str x)):=fun _ _ _ H _ I h=>Calls.Constant_str ⟨.str x,H,I.tok _,⟨_,rfl⟩,h⟩
def Gl (X:Cx) (x:Str):Prop:=X.env.kindOf x=some .globalImplicit
theorem qP {E:Value→Shared→Prop} {pins:List (Addr×Obj)} {s:Shared} {σ:St} {H:Hp} {x:Str} {u:Value} {pos:Pos} {Q:Value→Shared→Prop} (I:Inv X pins σ H s) (hg:Gl X x) (hm:X.mg x=some u) (h:Q u s)
    (hd:(x == ("__debug__" : Str))=false:=by decide):wpAny (model X.prog X.w) X.A (eval (.Name x pos) X.env) Q E s :=
  Calls.Name_function_global I.ok.kind hg (Calls.loadGlobal_global (by rw [I.ok.glob];exact I.mod.glob.keeps I.bk) hm h) hd
theorem a0X {E:Value→Shared→Prop} {pins:List (Addr×Obj)} {s:Shared} {σ:St} {H:Hp} {x:Str} {u:Value} {pos:Pos} {Q:Value→Shared→Prop} (I:Inv X pins σ H s) (hg:Gl X x) (hm:X.mg x=none) (hv:bootBuiltins x=some u) (h:Q u s)
    (hn:x ≠ "__name__" := by decide) (hd:(x == ("__debug__" : Str))=false:=by decide):wpAny (model X.prog X.w) X.A (eval (.Name x pos) X.env) Q E s:=by
  obtain ⟨mb,h1,h2⟩:=I.mod.blt
  exact Calls.Name_function_global I.ok.kind hg (Calls.loadGlobal_builtin (by rw [I.ok.glob];exact I.mod.glob.keeps I.bk) hm (by rw [I.ok.blt];exact h1.keeps I.bk) ((h2 x hn).trans hv) h) hd
theorem avZ {x:Str} {v:V} {u:Value} {pos:Pos} (hg:Gl X x) (hm:X.mg x=some u) (r:RelV v u) (hd:(x == ("__debug__" : Str))=false:=by decide):PE X (.Name x pos) (tC v) :=
  fun _ _ _ H _ I h=>qP I hg hm ⟨v,H,I,r,h⟩ hd
theorem aw0 {x:Str} {v:V} {u:Value} {pos:Pos} (hg:Gl X x) (hm:X.mg x=none) (hv:bootBuiltins x=some u) (r:RelV v u) (hn:x ≠ "__name__" := by decide) (hd:(x == ("__debug__" : Str))=false:=by decide):PE X (.Name x pos) (tC v) :=
  fun _ _ _ H _ I h=>a0X I hg hm hv ⟨v,H,I,r,h⟩ hn hd
variable {a b:Expr} {ta tb:TE} {pos:Pos}
def PC (X:Cx) (op:CmpOp) (a b:Expr) (t:TE):Prop :=
  ∀ (pins:List (Addr×Obj)) (s:Shared) (σ:St) (H:Hp) (Q:VK),Inv X pins σ H s→t σ H Q →
    wpAny (model X.prog X.w) X.A (eval a X.env) (fun v s₁=>wpAny (model X.prog X.w) X.A (eval b X.env) (fun u s₂=>wpAny (model X.prog X.w) X.A (compareOp op v u) (EP X pins σ Q) X.xe s₂) X.xe s₁) X.xe s
theorem aq8 (b:Expr) {op:CmpOp} (h:op ≠ .In) (h2:op ≠ .NotIn):behindInMarks op b=false:=by
  have e1:(op == CmpOp.In)=false:=by cases op <;> first | rfl | exact absurd rfl h
  have e2:(op == CmpOp.NotIn)=false:=by cases op <;> first | rfl | exact absurd rfl h2
  cases b <;> simp [behindInMarks,e1,e2]
def tB (t:TE):TT:=fun σ H Q=>t σ H fun x H1=>∃ c,x = .bl c∧Q c H1
theorem aO4 {op:CmpOp} {t:TE} (h:PC X op a b t) (h1:behindInMarks op b=false:=by first | exact aq8 _ (by decide) (by decide) | rfl):PT X (.Compare a [op] [b] pos) (tB t):=by
  intro pins s σ H Q I hw
  refine wpAny_isTrue_Compare1 (dN (h pins s σ H _ I hw) fun v s1 h1=>dN h1 fun u s2 h2=>dN h2 fun c s3 ⟨x,H1,I1,r1,q1⟩=>?_) h1
  obtain ⟨d,rfl,q⟩:=q1
  cases r1
  exact wpAny_truthy_bool ⟨H1,I1,q⟩
theorem aCV {e:Expr} {t:TE} (h:PE X e t) (he:∀ whole,isTrue e X.env whole=(do let v ← whole;standAt e.pos;holding [v] (truthy v)):=by intro _;rfl):PT X e (tB t):=by
  intro pins s σ H Q I hw
  refine isTrue_plain (dN (h pins s σ H _ I hw) fun v s1 ⟨x,H1,I1,r1,q1⟩=>?_) (he _)
  obtain ⟨d,rfl,q⟩:=q1
  cases r1
  exact wpAny_truthy_bool ⟨H1,I1,q⟩
variable {tA tB':TT} {rest:List Expr}
def aIS (t u:TT):TT:=fun σ H Q=>t σ H fun c H1=>if c=true then u σ H1 Q else Q false H1
def tOr (t u:TT):TT:=fun σ H Q=>t σ H fun c H1=>if c=true then Q true H1 else u σ H1 Q
def aO5 (t:TT):TT:=fun σ H Q=>t σ H fun c H1=>Q (!c) H1
theorem aw1 (ha:PT X a tA):PW X (.BoolOp .And [a] pos) tA:=by
  intro wh pins s σ H Q I h
  refine isTrue_and (dN (ha pins s σ H Q I h) fun c s1 e=>?_)
  cases c with
  | true=>exact isTrue_and_nil e
  | false=>exact e
theorem aCW (ha:PT X a tA):PW X (.BoolOp .Or [a] pos) tA:=by
  intro wh pins s σ H Q I h
  refine isTrue_or (dN (ha pins s σ H Q I h) fun c s1 e=>?_)
  cases c with
  | false=>exact isTrue_or_nil e
  | true=>exact e
theorem aCX (ha:PT X a tA) (hb:PW X (.BoolOp .And (b :: rest) pos) tB'):PW X (.BoolOp .And (a :: b :: rest) pos) (aIS tA tB'):=by
  intro wh pins s σ H Q I h
  refine isTrue_and (dN (ha pins s σ H _ I h) fun c s1 ⟨H1,I1,q1⟩=>?_)
  cases c with
  | true=>exact hb wh pins s1 σ H1 Q I1 q1
  | false=>exact ⟨H1,I1,q1⟩
theorem aIT (ha:PT X a tA) (hb:PW X (.BoolOp .Or (b :: rest) pos) tB'):PW X (.BoolOp .Or (a :: b :: rest) pos) (tOr tA tB'):=by
  intro wh pins s σ H Q I h
  refine isTrue_or (dN (ha pins s σ H _ I h) fun c s1 ⟨H1,I1,q1⟩=>?_)
  cases c with
  | true=>exact ⟨H1,I1,q1⟩
  | false=>exact hb wh pins s1 σ H1 Q I1 q1
theorem aCY (ha:PT X a tA):PT X (.UnaryOp .Not a pos) (aO5 tA):=by
  intro pins s σ H Q I h
  exact isTrue_not (ha pins s σ H (fun c H1=>Q (!c) H1) I h)
def aIU (ta tb:TE):TE:=fun σ H Q=>ta σ H fun x H1=>∃ c,x = .bl c∧if c=true then tb σ H1 Q else Q (.bl false) H1
def aO6 (ta tb:TE):TE:=fun σ H Q=>ta σ H fun x H1=>∃ c,x = .bl c∧if c=true then Q (.bl true) H1 else tb σ H1 Q
def aIV (ta:TE):TE:=fun σ H Q=>ta σ H fun x H1=>∃ c,x = .bl c∧Q (.bl (!c)) H1
theorem aCZ {op} {t:TE} (h:PE X a t):PE X (.BoolOp op [a] pos) t:=fun pins s σ H Q I hw=>BoolOp_one (h pins s σ H Q I hw)
theorem aD0 (ha:PE X a ta) (hb:PE X (.BoolOp .And (b :: rest) pos) tb):PE X (.BoolOp .And (a :: b :: rest) pos) (aIU ta tb):=by
  intro pins s σ H Q I h
  refine BoolOp_and (dN (ha pins s σ H _ I h) fun v s1 ⟨x,H1,I1,r1,q1⟩=>?_)
  obtain ⟨c,rfl,q1⟩:=q1
  cases r1
  refine wpAny_truthy_bool ?_
  cases c with
  | true=>exact hb pins s1 σ H1 Q I1 q1
  | false=>exact ⟨.bl false,H1,I1,rfl,q1⟩
theorem aIW (ha:PE X a ta) (hb:PE X (.BoolOp .Or (b :: rest) pos) tb):PE X (.BoolOp .Or (a :: b :: rest) pos) (aO6 ta tb):=by
  intro pins s σ H Q I h
  refine BoolOp_or (dN (ha pins s σ H _ I h) fun v s1 ⟨x,H1,I1,r1,q1⟩=>?_)
  obtain ⟨c,rfl,q1⟩:=q1
  cases r1
  refine wpAny_truthy_bool ?_
  cases c with
  | false=>exact hb pins s1 σ H1 Q I1 q1
  | true=>exact ⟨.bl true,H1,I1,rfl,q1⟩
theorem aD1 (ha:PE X a ta):PE X (.UnaryOp .Not a pos) (aIV ta):=by
  intro pins s σ H Q I h
  refine UnaryOp_ (dN (ha pins s σ H _ I h) fun v s1 ⟨x,H1,I1,r1,q1⟩=>?_)
  obtain ⟨c,rfl,q1⟩:=q1
  cases r1
  exact not_of (wpAny_truthy_bool ⟨.bl (!c),H1,I1,rfl,q1⟩)
def tIf (t:TT) (ta tb:TE):TE:=fun σ H Q=>t σ H fun c H1=>if c=true then ta σ H1 Q else tb σ H1 Q
theorem aq9 {c:Expr} (hc:PT X c tA) (ha:PE X a ta) (hb:PE X b tb):PE X (.IfExp c a b pos) (tIf tA ta tb):=by
  intro pins s σ H Q I h
  refine wpAny_IfExp (dN (hc pins s σ H _ I h) fun d s1 ⟨H1,I1,q1⟩=>?_)
  cases d with
  | true=>exact ha pins s1 σ H1 Q I1 q1
  | false=>exact hb pins s1 σ H1 Q I1 q1
end
end L2
namespace L2
open PySem PySem.Spec PyProof.Rows
def uN (K:PySem.W.Frag) (H:Hp) (a:Addr) (xs:List V):Prop :=
  Rd H a (.lst xs) ∨
    ∃ (o:Obj) (its:Array Value) (n:Nat),K.lookup a=some o∧o.cls = .type "list" ∧ o.dict=none∧o.data = .seq its n∧its.size≤sizeLine∧Vals xs its.toList
def vZ (K:PySem.W.Frag) (H:Hp) (a:Addr) (xs:List V):Prop :=
  Rd H a (.tup xs) ∨
    ∃ (o:Obj) (its:Array Value) (n:Nat),K.lookup a=some o∧o.cls = .type "tuple" ∧ o.data = .seq its n∧its.size≤sizeLine∧Vals xs its.toList
def aO7:Value→Option V
  | .none=>some .non
  | .bool b=>some (.bl b)
  | .int i _=>some (.int i)
  | .str x _=>some (.str x)
  | .bytes b _=>some (.byt b)
  | .float b _=>some (.flt b)
  | .ref a=>some (.ref a)
  | .type n=>some (.ty n)
  | _=>none
theorem RelV.abs {x:V} {u:Value} (r:RelV x u):aO7 u=some x:=by
  cases x with
  | non=>cases r;rfl
  | bl _=>cases r;rfl
  | int _=>obtain ⟨t,rfl⟩:=r;rfl
  | str _=>obtain ⟨t,rfl⟩:=r;rfl
  | byt _=>obtain ⟨t,rfl⟩:=r;rfl
  | flt _=>obtain ⟨t,rfl⟩:=r;rfl
  | ref _=>cases r;rfl
  | ty _=>cases r;rfl
theorem RelV.inj {x y:V} {u:Value} (r:RelV x u) (q:RelV y u):x=y:=Option.some.inj (r.abs.symm.trans q.abs)
theorem Vals.inj:∀ {xs ys:List V} {us:List Value},Vals xs us→Vals ys us→xs=ys
  | _,_,_,.nil,.nil=>rfl
  | _,_,_,.cons r t,.cons r' t'=>by rw [r.inj r',Vals.inj t t']
section
variable {X:Cx} {pins:List (Addr×Obj)} {σ:St} {H:Hp} {s:Shared} {a:Addr} {xs ys:List V}
theorem uN.of {K:PySem.W.Frag} (h:H a=some (.lst xs)):uN K H a xs := .inl (.inl h)
theorem vZ.of {K:PySem.W.Frag} (h:H a=some (.tup xs)):vZ K H a xs := .inl (.inl h)
theorem Inv.list (I:Inv X pins σ H s) (h:uN X.K H a xs):∃ its:List Value,Vals xs its∧PlainL s.heap a its.toArray∧xs.length≤sizeLine:=by
  rcases h with h | ⟨o,its,n,hk,hc,hd,hs,hz,r⟩
  · obtain ⟨z,its,n,r,e⟩:=h.ok I.hok
    exact ⟨its,r,⟨_,n,e,rfl,rfl,rfl⟩,z⟩
  · refine ⟨its.toList,r,⟨o,n,I.kIn a o hk,hc,hd,by simpa using hs⟩,?_⟩
    have e:=r.length
    simp only [Array.length_toList] at e
    omega
theorem Inv.tuple (I:Inv X pins σ H s) (h:vZ X.K H a xs):∃ its:List Value,Vals xs its∧IsTup s.heap a its.toArray∧xs.length≤sizeLine:=by
  rcases h with h | ⟨o,its,n,hk,hc,hs,hz,r⟩
  · obtain ⟨z,its,r,p⟩:=h.ok I.hok
    exact ⟨its,r,p,z⟩
  · refine ⟨its.toList,r,⟨o,I.kIn a o hk,hc,n,by simpa using hs⟩,?_⟩
    have e:=r.length
    simp only [Array.length_toList] at e
    omega
theorem Inv.a8I (I:Inv X pins σ H s) (h:uN X.K H a xs) (h':uN X.K H a ys):xs=ys:=by
  obtain ⟨its,r,⟨o,n,e,_,_,d⟩,_⟩:=I.list h
  obtain ⟨its',r',⟨o',n',e',_,_,d'⟩,_⟩:=I.list h'
  rw [e] at e';cases e'
  rw [d] at d'
  injection d' with d1 _
  have:its=its':=by simpa using congrArg Array.toList d1
  subst this
  exact r.inj r'
theorem Inv.zM (I:Inv X pins σ H s) (h:vZ X.K H a xs) (h':vZ X.K H a ys):xs=ys:=by
  obtain ⟨its,r,⟨o,e,_,n,d⟩,_⟩:=I.tuple h
  obtain ⟨its',r',⟨o',e',_,n',d'⟩,_⟩:=I.tuple h'
  rw [e] at e';cases e'
  rw [d] at d'
  injection d' with d1 _
  have:its=its':=by simpa using congrArg Array.toList d1
  subst this
  exact r.inj r'
end
abbrev Cx.wish (X:Cx) (E:Value→Shared→Prop):Cx:={ X with xe:=E }
abbrev Cx.nox (X:Cx):Cx:=X.wish fun _ _=>False
theorem Cx.Ok.wish {X:Cx} (ok:X.Ok) (E:Value→Shared→Prop):(X.wish E).Ok :=
  ⟨ok.mod,ok.kind,ok.glob,ok.blt,ok.above,ok.inj,ok.has,ok.cab,ok.hd,ok.frames,ok.stk,ok.exf,ok.bs,ok.bsz,ok.adM,ok.agE,ok.xC,ok.frf⟩
theorem Cx.Ok.rQ {X:Cx} {E:Value→Shared→Prop} (ok:(X.wish E).Ok):X.Ok :=
  ⟨ok.mod,ok.kind,ok.glob,ok.blt,ok.above,ok.inj,ok.has,ok.cab,ok.hd,ok.frames,ok.stk,ok.exf,ok.bs,ok.bsz,ok.adM,ok.agE,ok.xC,ok.frf⟩
section
variable {X:Cx} {pins:List (Addr×Obj)} {σ:St} {H:Hp} {s:Shared} {E:Value→Shared→Prop}
theorem Inv.wish (I:Inv X pins σ H s) (E:Value→Shared→Prop):Inv (X.wish E) pins σ H s:=⟨I.ok.wish E,I.os,I.bare,I.base,I.loc,I.cell,I.free,I.nR,I.pin,I.hok,I.len,I.hnd,I.tup⟩
theorem Inv.rQ (I:Inv (X.wish E) pins σ H s):Inv X pins σ H s:=⟨I.ok.rQ,I.os,I.bare,I.base,I.loc,I.cell,I.free,I.nR,I.pin,I.hok,I.len,I.hnd,I.tup⟩
theorem SP.rQ {D:Ends} {f:Flow} {s':Shared} (h:SP (X.wish E) pins D f s'):SP X pins D f s':=by
  cases f with
  | next=>obtain ⟨σ',H',I,q⟩:=h;exact ⟨σ',H',I.rQ,q⟩
  | brk=>obtain ⟨σ',H',I,q⟩:=h;exact ⟨σ',H',I.rQ,q⟩
  | cont=>obtain ⟨σ',H',I,q⟩:=h;exact ⟨σ',H',I.rQ,q⟩
  | ret u=>obtain ⟨v,σ',H',I,r,q⟩:=h;exact ⟨v,σ',H',I.rQ,r,q⟩
theorem PE.nox {e:Expr} {t:TE} (h:PE X.nox e t):PE X e t:=fun pins s σ H Q I hw =>
  wpAny_mono (h pins s σ H Q (I.wish _) hw) (fun _ _ ⟨v,H',I',r,q⟩=>⟨v,H',I'.rQ,r,q⟩) fun _ _ z=>False.elim z
theorem PT.nox {e:Expr} {t:TT} (h:PT X.nox e t):PT X e t:=fun pins s σ H Q I hw =>
  wpAny_mono (h pins s σ H Q (I.wish _) hw) (fun _ _ ⟨H',I',q⟩=>⟨H',I'.rQ,q⟩) fun _ _ z=>False.elim z
theorem PSs.nox {st:List Stmt} {t:TS} (h:PSs X.nox st t):PSs X st t:=fun pins s σ H D I hw =>
  wpAny_mono (h pins s σ H D (I.wish _) hw) (fun _ _ q=>q.rQ) fun _ _ z=>False.elim z
end
section
variable {X:Cx} {st:Stmt} {rest:List Stmt} {t u:TS} {e:Expr} {te:TE} {pos:Pos}
def aB3:TS:=fun D σ H=>D.nx σ H
def aIX (t u:TS):TS:=fun D σ H=>t { D with nx:=u D } σ H
theorem aw2:PSs X [] aB3:=fun _ _ σ H _ I h=>wpAny_execs_nil ⟨σ,H,I,h⟩
theorem aqA (h1:PS X st t) (h2:PSs X rest u):PSs X (st :: rest) (aIX t u):=by
  intro pins s σ H D I h
  refine wpAny_execs_cons (dN (h1 pins s σ H { D with nx:=u D } I h) fun f s1 q=>?_)
  cases f with
  | next =>
    obtain ⟨σ',H',I',q⟩:=q
    exact h2 pins s1 σ' H' D I' q
  | ret v=>exact q
  | brk=>exact q
  | cont=>exact q
theorem aw3 (h1:PS X st t):PSs X [st] t:=by
  intro pins s σ H D I h
  refine wpAny_execs_cons (dN (h1 pins s σ H D I h) fun f s1 q=>?_)
  cases f with
  | next=>exact wpAny_execs_nil q
  | ret v=>exact q
  | brk=>exact q
  | cont=>exact q
theorem aw4:PS X (.Pass pos) aB3:=fun _ _ σ H _ I h=>wpAny_Pass ⟨σ,H,I,h⟩
theorem Inv.quiet {pins:List (Addr×Obj)} {σ:St} {H:Hp} {s:Shared} (I:Inv X pins σ H s):interactive X.env=false:=by simp [interactive,I.ok.kind]
def aIY (te:TE):TS:=fun D σ H=>te σ H fun _ H1=>D.nx σ H1
theorem aw5 (he:PE X e te) (hs:swapsWith e none pos.line X.env=pure false:=by rfl):PS X (.Expr e pos) (aIY te):=by
  intro pins s σ H D I h
  exact wpAny_Expr_any (dN (he pins s σ H _ I h) fun v s1 ⟨x,H1,I1,r1,q1⟩=>⟨σ,H1,I1,q1⟩) I.quiet hs
def aO8 (te:TE):TS:=fun D σ H=>te σ H D.rt
theorem aD2 (he:PE X e te):PS X (.Return (some e) pos) (aO8 te):=by
  intro pins s σ H D I h
  exact wpAny_Return_some (dN (he pins s σ H _ I h) fun v s1 ⟨x,H1,I1,r1,q1⟩=>⟨x,σ,H1,I1,r1,q1⟩)
def aO9 (c:TT) (t u:TS):TS:=fun D σ H=>c σ H fun b H1=>if b=true then t D σ H1 else u D σ H1
theorem aIZ {c:Expr} {a b:List Stmt} {tc:TT} (hc:PT X c tc) (ha:PSs X a t) (hb:PSs X b u):PS X (.If c a b pos) (aO9 tc t u):=by
  intro pins s σ H D I h
  refine wpAny_If (dN (hc pins s σ H _ I h) fun d s1 ⟨H1,I1,q1⟩=>?_)
  cases d with
  | true=>exact ha pins s1 σ H1 D I1 q1
  | false=>exact hb pins s1 σ H1 D I1 q1
end
abbrev TG:=V→St→Hp→(St→Hp→Prop)→Prop
abbrev TGs:=List V→St→Hp→(St→Hp→Prop)→Prop
def PG (X:Cx) (target:Expr) (t:TG):Prop :=
  ∀ (pins:List (Addr×Obj)) (s:Shared) (σ:St) (H:Hp) (v:V) (u:Value) (Q:St→Hp→Prop),Inv X pins σ H s→RelV v u→t v σ H Q →
    wpAny (model X.prog X.w) X.A (assign target X.env u) (fun _ s'=>∃ σ' H',Inv X pins σ' H' s'∧Q σ' H') X.xe s
def PGs (X:Cx) (ts:List Expr) (t:TGs):Prop :=
  ∀ (pins:List (Addr×Obj)) (s:Shared) (σ:St) (H:Hp) (vs:List V) (us:List Value) (Q:St→Hp→Prop),Inv X pins σ H s→Vals vs us→t vs σ H Q →
    wpAny (model X.prog X.w) X.A (assignInOrder ((assignEach ts X.env).map (·.2)) us) (fun _ s'=>∃ σ' H',Inv X pins σ' H' s'∧Q σ' H') X.xe s
section
variable {X:Cx} {pos:Pos}
def alM (i:Nat):TG:=fun v σ H Q=>Q (σ.set i (some v)) H
theorem adO {i:Nat} {x:Str} (hN:X.N.Nodup) (hi:X.N[i]?=some x) (hx:Loc X.env.scope x) (hf:X.fn x=true∨X.env.scope.names.lookup x=some .local:=by first | exact .inl rfl | exact .inr rfl | assumption):PG X (.Name x pos) (alM i):=by
  intro pins s σ H v u Q I r h
  exact wpAny_assign_Name (agG I hN hi hx r (fun s' I'=>⟨_,H,I',h⟩) hf)
def aJ1:TGs:=fun vs σ H Q=>vs=[]∧Q σ H
def aB5 (t:TG) (u:TGs):TGs:=fun vs σ H Q=>∃ v r,vs=v :: r∧t v σ H fun σ' H'=>u r σ' H' Q
theorem aw6:PGs X [] aJ1:=by
  intro pins s σ H vs us Q I r h
  obtain ⟨e,h⟩:=h
  subst e
  cases r
  exact assignInOrder_nil ⟨σ,H,I,h⟩
theorem aqB {e:Expr} {es:List Expr} {t:TG} {u:TGs} (h1:PG X e t) (h2:PGs X es u)
    (hs:(assignEach (e :: es) X.env).map (·.2)=assign e X.env :: (assignEach es X.env).map (·.2):=by rfl):PGs X (e :: es) (aB5 t u):=by
  intro pins s σ H vs us Q I r h
  obtain ⟨v,vr,e1,h⟩:=h
  subst e1
  cases r with
  | cons r rr =>
    rw [hs]
    refine assignInOrder_cons (dN (h1 pins s σ H _ _ _ I r h) fun _ s1 ⟨σ1,H1,I1,q1⟩=>?_)
    exact h2 pins s1 σ1 H1 _ _ Q I1 rr q1
def aOA (K:PySem.W.Frag) (n:Nat) (t:TGs):TG:=fun v σ H Q=>∃ a xs,v = .ref a∧vZ K H a xs∧xs.length=n∧t xs σ H Q
theorem aqC {es:List Expr} {k:Nat} {t:TGs} {n:Nat} (hc:X.calm=true) (h:PGs X es t)
    (hn:(assignEach es X.env).length=n:=by rfl) (hst:(assignEach es X.env).findIdx? (·.1)=none:=by rfl):PG X (.Tuple es k pos) (aOA X.K n t):=by
  intro pins s σ H v u Q I r hw
  obtain ⟨a,xs,e1,hq,hl,hw⟩:=hw
  subst e1
  cases r
  obtain ⟨its,rv,ht,hz⟩:=I.tuple hq
  refine assign_Tuple_tuple (I.ok.hd hc) ht (by simp [hn,← hl,rv.length]) hst fun h' hx=>?_
  have I1:Inv X pins σ H { s with heap:=h' }:=I.kept (t':=s.toks) fun b o e=>hx b o (Nat.ne_of_lt (Heap.lt_size e)) e
  exact h pins _ σ H xs _ Q I1 (by simpa using rv) hw
def aOB (te:TE) (g:TG):TS:=fun D σ H=>te σ H fun x H1=>g x σ H1 D.nx
theorem aD3 {i:Nat} {x:Str} {e:Expr} {te:TE} {pos':Pos} (hN:X.N.Nodup) (hi:X.N[i]?=some x) (hx:Loc X.env.scope x) (he:PE X e te) (hs:swapsWith e (some (.Name x pos')) pos.line X.env=pure false:=by rfl) (hf:X.fn x=true∨X.env.scope.names.lookup x=some .local:=by first | exact .inl rfl | exact .inr rfl | assumption) :
    PS X (.Assign [.Name x pos'] e pos) (aOB te (alM i)):=by
  intro pins s σ H D I h
  refine wpAny_Assign_Name (dN (he pins s σ H _ I h) fun v s1 ⟨y,H1,I1,r1,q1⟩=>?_) hs
  exact agG I1 hN hi hx r1 (fun s2 I2=>⟨_,H1,I2,q1⟩) hf
end
section
variable {X:Cx} {pos:Pos}
end
structure It where
  go:Nat→Hp→Prop
  yld:Nat→Hp→V→Hp→Prop
  stop:Nat→Hp→Prop
def a2G (X:Cx) (pins:List (Addr×Obj)) (H:Hp) (b:Addr):Prop :=
  H b=none∧b≠X.env.locals∧b ∉ X.fs∧(b∈X.ex∨X.s₀.heap.objs.size≤b)∧(∀ x c,X.env.cells.lookup x=some c→c≠b)∧∀ p∈X.pn++pins,p.1≠b
theorem Inv.a4J {X:Cx} {pins:List (Addr×Obj)} {σ:St} {H H':Hp} {s:Shared} {b:Addr} (I:Inv X pins σ H s) (hb:s.heap.objs.size≤b) (hn:H' b=none):a2G X pins H' b:=by
  refine ⟨hn,Nat.ne_of_gt (Nat.lt_of_lt_of_le I.lt hb),I.aO2 hb,.inr (Nat.le_trans I.sz hb),fun x c e z=>?_,fun p hp z=>?_⟩
  · obtain ⟨v,q⟩:=I.cell x c e
    exact absurd (Nat.lt_of_lt_of_le q.lt (by rw [z];exact hb)) (Nat.lt_irrefl _)
  · exact absurd (Nat.lt_of_lt_of_le (Heap.lt_size (I.pin p hp).1) (by rw [z];exact hb)) (Nat.lt_irrefl _)
structure Turn (cm:Bool) (tl:List (Addr×List V)) (P:Program) (w:World) (K:PySem.W.Frag) (tg:Expr) (J:It) (fp:List Addr) (it:Addr) (tn:Nat→Heap→Prop):Prop where
  mem:it∈fp
  obj:∀ i h,tn i h→∀ b∈fp,∃ o,h.get? b=some o∧∀ v,o.data ≠ .cell v
  keep:∀ i h h',tn i h→(∀ b∈fp,∀ o,h.get? b=some o→h'.get? b=some o)→tn i h'
  item:∀ (X:Cx),X.prog=P→X.w=w→X.K=K→(cm=true→X.calm=true)→(∀ p∈tl,p∈X.tp)→∀ (i:Nat) (pins:List (Addr×Obj)) (s:Shared) (σ:St) (H:Hp) (E:Value→Shared→Prop),Inv X pins σ H s→(∀ b∈fp,a2G X pins H b)→tn i s.heap→J.go i H →
    wpAny (model P w) X.A (pyNext (.ref it)) (fun r s1=>∃ u,r=some u ∧
      wpAny (model P w) X.A (letOwnedTupleGo tg (.ref it) u) (fun _ s2=>∃ x H',Inv X pins σ H' s2∧RelV x u∧J.yld i H x H'∧tn (i+1) s2.heap∧∀ b∈fp,H' b=none) E s1) E s
  done:∀ (X:Cx),X.prog=P→X.w=w→X.K=K→(cm=true→X.calm=true)→(∀ p∈tl,p∈X.tp)→∀ (i:Nat) (pins:List (Addr×Obj)) (s:Shared) (σ:St) (H:Hp) (E:Value→Shared→Prop),Inv X pins σ H s→(∀ b∈fp,a2G X pins H b)→tn i s.heap→J.stop i H →
    wpAny (model P w) X.A (pyNext (.ref it)) (fun r s1=>r=none∧Inv X pins σ H s1) E s
  self:∀ (A:Around) (i:Nat) (s:Shared) (Q:Value→Shared→Prop) (E:Value→Shared→Prop),tn i s.heap→Q (.ref it) s→wpAny (model P w) A (pyIter (.ref it)) Q E s
abbrev TI:=St→Hp→(It→Hp→Prop)→Prop
def PIE (X:Cx) (pins:List (Addr×Obj)) (σ:St) (tg:Expr) (R:It→Hp→Prop) (itv:Value) (s2:Shared):Prop :=
  ∃ (it:Addr) (fp:List Addr) (tn:Nat→Heap→Prop) (J:It) (H':Hp),itv = .ref it∧Inv X pins σ H' s2∧Turn X.calm X.tp X.prog X.w X.K tg J fp it tn∧tn 0 s2.heap∧(∀ b∈fp,a2G X pins H' b)∧R J H'
def PI (X:Cx) (tg iter:Expr) (wi:TI):Prop :=
  ∀ (pins:List (Addr×Obj)) (s:Shared) (σ:St) (H:Hp) (R:It→Hp→Prop),Inv X pins σ H s→wi σ H R →
    wpAny (model X.prog X.w) X.A (eval iter X.env) (fun v s1=>wpAny (model X.prog X.w) X.A (pyIter v) (PIE X pins σ tg R) X.xe s1) X.xe s
theorem agH {M:Model} {A:Around} {E:Value→Shared→Prop} {s:Shared} {tg:Expr} {it:Addr} {u:Value} {o:Obj} {n:String} {vs:Array Value} {Q:Unit→Shared→Prop} (ho:s.heap.get? it=some o) (hc:o.cls = .type n) (hd:o.data = .fields vs)
    (hn:["enumerate", "zip", "dict_itemiterator", "dict_reverseitemiterator", "odict_iterator", "itertools.zip_longest", "itertools.pairwise"].contains n=false) (hQ:Q () s):wpAny M A (letOwnedTupleGo tg (.ref it) u) Q E s:=by
  unfold letOwnedTupleGo
  cases tg <;> first
    | exact wpAny_pure hQ
    | (cases u <;> first
        | exact wpAny_pure hQ
        | (refine wpAny_bind (wpAny_load ho ?_)
           rw [hc,hd]
           show wpAny M A (if (["enumerate", "zip", "dict_itemiterator", "dict_reverseitemiterator", "odict_iterator", "itertools.zip_longest", "itertools.pairwise"].contains n&&vs[0]? == some (rawInt _))=true then _ else _) Q E s
           rw [if_neg (by intro h;rw [hn,Bool.false_and] at h;cases h)]
           exact wpAny_pure hQ))
def Itl (K:PySem.W.Frag) (a:Addr):It :=
  ⟨fun i H=>∃ xs x,uN K H a xs∧xs[i]?=some x,fun i H x H'=>H'=H∧∀ xs,uN K H a xs→xs[i]?=some x,fun i H=>∃ xs,uN K H a xs∧xs.length≤i⟩
def Itt (K:PySem.W.Frag) (a:Addr):It :=
  ⟨fun i H=>∃ xs x,vZ K H a xs∧xs[i]?=some x,fun i H x H'=>H'=H∧∀ xs,vZ K H a xs→xs[i]?=some x,fun i H=>∃ xs,vZ K H a xs∧xs.length≤i⟩
def Itr (lo:Int) (n:Nat):It:=⟨fun i _=>i < n,fun i H x H'=>H'=H∧x = .int (lo+i),fun i _=>n≤i⟩
theorem acA {cm:Bool} {tl:List (Addr×List V)} {P:Program} {w:World} {K:PySem.W.Frag} {tg:Expr} (a it:Addr):Turn cm tl P w K tg (Itl K a) [it] it (fun i h=>h.IsListIter it a i) where
  mem:=by simp
  obj:=fun i h st b hb=>by
    have e:b=it:=by simpa using hb
    subst e
    obtain ⟨o,e,c,d⟩:=st
    exact ⟨o,e,fun v z=>by rw [d] at z;cases z⟩
  keep:=fun i h h' st k=>st.at fun o e=>k it (by simp) o e
  item:=by
    intro X hP hw hK hc ht i pins s σ H E I hf st hg
    subst hP hw hK
    obtain ⟨xs,x,hq,hx⟩:=hg
    obtain ⟨its,rv,p,hz⟩:=I.list hq
    obtain ⟨u,hu,ru⟩:=rv.get hx
    obtain ⟨f0,f1,f2,f3,f4,f5⟩:=hf it (by simp)
    refine wpAny_pyNext_list_item st p.isList (x:=u) (by simpa using hu) fun h' st' sb=>?_
    have I1:Inv X pins σ H { s with heap:=h' }:=I.turned (t':=s.toks) (fun b o hb e=>(sb.2 b hb).trans e) f0 f1 f3 f4 f5
    obtain ⟨o,e,c,d⟩:=id st'
    exact ⟨u,rfl,agH (s:={ s with heap:=h' }) e c d (by decide) ⟨x,H,I1,ru,⟨rfl,fun ys hy=>by rw [I.a8I hy hq];exact hx⟩,st',fun b hb=>(hf b hb).1⟩⟩
  done:=by
    intro X hP hw hK hc ht i pins s σ H E I hf st hg
    subst hP hw hK
    obtain ⟨xs,hq,hx⟩:=hg
    obtain ⟨its,rv,p,hz⟩:=I.list hq
    obtain ⟨f0,f1,f2,f3,f4,f5⟩:=hf it (by simp)
    have hl:=rv.length
    exact anT (I.hnd.heap I.hok) st p.isList (by simp;omega) fun h' eb=>⟨rfl,I.turned (t':=s.toks) (fun b o hb e=>eb b o hb e) f0 f1 f3 f4 f5⟩
  self:=fun _ _ _ _ _ st h=>wpAny_pyIter_listiter st h
theorem a8J {cm:Bool} {tl:List (Addr×List V)} {P:Program} {w:World} {K:PySem.W.Frag} {tg:Expr} (a it:Addr):Turn cm tl P w K tg (Itt K a) [it] it (fun i h=>h.IsTupleIter it a i) where
  mem:=by simp
  obj:=fun i h st b hb=>by
    have e:b=it:=by simpa using hb
    subst e
    obtain ⟨o,e,c,d⟩:=st
    exact ⟨o,e,fun v z=>by rw [d] at z;cases z⟩
  keep:=fun i h h' st k=>st.at fun o e=>k it (by simp) o e
  item:=by
    intro X hP hw hK hc ht i pins s σ H E I hf st hg
    subst hP hw hK
    obtain ⟨xs,x,hq,hx⟩:=hg
    obtain ⟨its,rv,p,hz⟩:=I.tuple hq
    obtain ⟨u,hu,ru⟩:=rv.get hx
    obtain ⟨f0,f1,f2,f3,f4,f5⟩:=hf it (by simp)
    refine wpAny_pyNext_tuple_item st (show s.heap.IsTuple a its.toArray from p) (x:=u) (by simpa using hu) fun h' st' sb=>?_
    have I1:Inv X pins σ H { s with heap:=h' }:=I.turned (t':=s.toks) (fun b o hb e=>(sb.2 b hb).trans e) f0 f1 f3 f4 f5
    obtain ⟨o,e,c,d⟩:=id st'
    exact ⟨u,rfl,agH (s:={ s with heap:=h' }) e c d (by decide) ⟨x,H,I1,ru,⟨rfl,fun ys hy=>by rw [I.zM hy hq];exact hx⟩,st',fun b hb=>(hf b hb).1⟩⟩
  done:=by
    intro X hP hw hK hc ht i pins s σ H E I hf st hg
    subst hP hw hK
    obtain ⟨xs,hq,hx⟩:=hg
    obtain ⟨its,rv,p,hz⟩:=I.tuple hq
    obtain ⟨f0,f1,f2,f3,f4,f5⟩:=hf it (by simp)
    have hl:=rv.length
    exact aq4 (I.hnd.heap I.hok) st (show s.heap.IsTuple a its.toArray from p) (by simp;omega) fun h' eb=>⟨rfl,I.turned (t':=s.toks) (fun b o hb e=>eb b o hb e) f0 f1 f3 f4 f5⟩
  self:=fun _ _ _ _ _ st h=>wpAny_pyIter_tupleiter st h
theorem ajG {cm:Bool} {tl:List (Addr×List V)} {P:Program} {w:World} {K:PySem.W.Frag} {tg:Expr} (it:Addr) (lo:Int) (n:Nat):Turn cm tl P w K tg (Itr lo n) [it] it (fun i h=>IsRangeIter h it (lo+(i:Nat) * 1) ((n:Int) - (i:Nat)) 1) where
  mem:=by simp
  obj:=fun i h st b hb=>by
    have e:b=it:=by simpa using hb
    subst e
    exact ⟨_,st,fun v z=>by
      have z':Data.fields _=Data.cell v:=z
      cases z'⟩
  keep:=fun i h h' st k=>k it (by simp) _ st
  item:=by
    intro X hP hw hK hc ht i pins s σ H E I hf st hg
    subst hP hw hK
    obtain ⟨f0,f1,f2,f3,f4,f5⟩:=hf it (by simp)
    have hi:i < n:=hg
    refine wpAny_pyNext_range_item st (by omega) fun h' st' kk=>?_
    have I1:Inv X pins σ H { s with heap:=h',toks:=s.toks+1 }:=I.turned (fun b o hb e=>(kk.2 b hb).trans e) f0 f1 f3 f4 f5
    have st2:IsRangeIter h' it (lo+((i+1:Nat):Int) * 1) ((n:Int) - ((i+1:Nat):Int)) 1:=by
      have e1:lo+((i:Nat):Int) * 1+1=lo+((i+1:Nat):Int) * 1:=by omega
      have e2:(n:Int) - ((i:Nat):Int) - 1=(n:Int) - ((i+1:Nat):Int):=by omega
      rw [← e1,← e2];exact st'
    refine ⟨_,rfl,agH (s:={ s with heap:=h',toks:=s.toks+1 }) (n := "range_iterator") st2 rfl rfl (by decide) ⟨.int (lo+i),H,I1,⟨s.toks,?_⟩,⟨rfl,rfl⟩,st2,fun b hb=>(hf b hb).1⟩⟩
    rw [Int.mul_one]
  done:=by
    intro X hP hw hK hc ht i pins s σ H E I hf st hg
    subst hP hw hK
    obtain ⟨f0,f1,f2,f3,f4,f5⟩:=hf it (by simp)
    exact aq5 (I.hnd.heap I.hok) st (by have:n≤i:=hg;omega) fun h' eb=>⟨rfl,I.turned (t':=s.toks) (fun b o hb e=>eb b o hb e) f0 f1 f3 f4 f5⟩
  self:=fun _ _ _ _ _ st h=>wpAny_pyIter_rangeiter st h
end L2
namespace L2
open PySem PySem.Spec PyProof.Rows
section
variable {X:Cx} {tg:Expr}
theorem aqD {pins:List (Addr×Obj)} {σ:St} {H:Hp} {s:Shared} {R:It→Hp→Prop} {E:Value→Shared→Prop} {lo hi:Int} {t u v:Tok} {tk:Nat} (I:Inv X pins σ H s) (h1:-(2 ^ 62)≤lo) (h2:lo < 2 ^ 62) (h3:-(2 ^ 62)≤hi) (h4:hi < 2 ^ 62)
    (q:R (Itr lo (hi - lo).toNat) H):wpAny (model X.prog X.w) X.A (pyIter (.ref s.heap.objs.size)) (PIE X pins σ tg R) E { s with heap:=s.heap.push { cls := .type "range",data := .fields #[.int lo t,.int hi u,.int 1 v] },toks:=tk }:=by
  refine wpAny_pyIter_range (IsRange.new ..) (small_one h1 h2 h3 h4) ?_
  have I1:Inv X pins σ H { s with heap:=s.heap.push { cls := .type "range",data := .fields #[.int lo t,.int hi u,.int 1 v] },toks:=tk }:=I.kept fun b o e=>Heap.get?_push_of_some _ e
  refine ⟨(s.heap.push { cls := .type "range",data := .fields #[.int lo t,.int hi u,.int 1 v] }).objs.size,[(s.heap.push { cls := .type "range",data := .fields #[.int lo t,.int hi u,.int 1 v] }).objs.size],_,_,H,rfl,
    I1.kept (t':=tk) fun b o e=>Heap.get?_push_of_some _ e,ajG _ lo (hi - lo).toNat,?_,fun b hb=>?_,q⟩
  · have e1:lo+((0:Nat):Int) * 1=lo:=by simp
    have e2:(((hi - lo).toNat:Nat):Int) - ((0:Nat):Int)=Builtin.Range.rangeSize lo hi 1:=by rw [rangeSize_one];split <;> omega
    show IsRangeIter _ _ (lo+((0:Nat):Int) * 1) ((((hi - lo).toNat:Nat):Int) - ((0:Nat):Int)) 1
    rw [e1,e2]
    exact Heap.get?_push_size _ rfl
  · have e:b=(s.heap.push { cls := .type "range",data := .fields #[.int lo t,.int hi u,.int 1 v] }).objs.size:=by simpa using hb
    subst e
    exact I1.a4J (Nat.le_refl _) (I1.hok.fresh (Nat.le_refl _))
def aJ3 (ta:TA):TI:=fun σ H R=>ta σ H fun vs H1=>∃ j:Int,vs=[.int j]∧-(2 ^ 62)≤j∧j < 2 ^ 62∧R (Itr 0 j.toNat) H1
theorem acB {a:Expr} {ta:TA} {p pos:Pos} (hg:Gl X "range") (hm:X.mg "range" = none) (ha:PA X [a] ta) (hs:starEach [a] X.env=[(false,eval a X.env)]:=by rfl):PI X tg (.Call (.Name "range" p) [a] [] pos) (aJ3 ta):=by
  intro pins s σ H R I h
  refine Call_ (a0X I hg hm boot_range (PyProof.Rows.callWith_type1 (dN (ha pos pins s σ H _ I h) fun us s1 ⟨vs,H1,I1,r1,q1⟩=>?_) hs rfl))
  obtain ⟨j,e,q1,q2,q⟩:=q1
  subst e
  cases r1 with
  | cons r rr =>
    cases rr
    obtain ⟨t,rfl⟩:=r
    exact call_range_1 (aqD I1 (by omega) (by omega) q1 q2 (by simpa using q))
def aOE (wi:TI) (g:TG) (tb:TS):TS:=fun D σ H=>wi σ H fun J H1=>∃ W:Nat→Nat→St→Hp→Prop,(∃ m,W 0 m σ H1)∧∀ i m σ H,W i m σ H →
  (J.stop i H∧D.nx σ H)∨(J.go i H∧∃ N:St→Hp→Prop,(∀ σ' H',N σ' H'→∃ m',m' < m∧W (i+1) m' σ' H')∧∀ x H',J.yld i H x H'→g x σ H' fun σ2 H2=>tb { D with nx:=N,ct:=N,bk:=D.nx } σ2 H2)
def a4K (fp:List Addr) (h:Heap):List (Addr×Obj):=fp.filterMap fun b=>(h.get? b).map fun o=>(b,o)
theorem uO {fp:List Addr} {h:Heap} {b:Addr} {o:Obj} (hb:b∈fp) (e:h.get? b=some o):(b,o)∈a4K fp h:=List.mem_filterMap.mpr ⟨b,hb,by rw [e];rfl⟩
theorem ao0 {fp:List Addr} {h:Heap} {p:Addr×Obj} (hp:p∈a4K fp h):p.1∈fp∧h.get? p.1=some p.2:=by
  obtain ⟨b,hb,e⟩:=List.mem_filterMap.mp hp
  cases q:h.get? b with
  | none=>rw [q] at e;cases e
  | some o =>
    rw [q] at e
    have e':(b,o)=p:=Option.some.inj e
    subst e'
    exact ⟨hb,q⟩
theorem Inv.pinned {pins:List (Addr×Obj)} {σ:St} {H:Hp} {s:Shared} {fp:List Addr} (I:Inv X pins σ H s) (hf:∀ b∈fp,a2G X pins H b) (ho:∀ b∈fp,∃ o,s.heap.get? b=some o∧∀ v,o.data ≠ .cell v):Inv X (pins++a4K fp s.heap) σ H s :=
  I.alL fun p hp=>(List.mem_append.mp hp).elim (fun z=>I.pin p (List.mem_append_right _ z)) fun z=>by
    obtain ⟨hb,e⟩:=ao0 z
    obtain ⟨f0,f1,f2,_⟩:=hf p.1 hb
    obtain ⟨o,e',d⟩:=ho p.1 hb
    rw [e] at e';cases e'
    exact ⟨e,f0,f1,f2,d⟩
theorem Inv.a2H {pins pl:List (Addr×Obj)} {σ:St} {H:Hp} {s:Shared} (I:Inv X (pins++pl) σ H s):Inv X pins σ H s:=I.alL fun p hp=>I.pin p (List.mem_append_right _ (List.mem_append_left _ hp))
theorem aqE {iter:Expr} {body:List Stmt} {wi:TI} {g:TG} {tb:TS} {pos:Pos} (hp:PassesOwn (model X.prog X.w) X.A X.env X.xe) (hi:PI X tg iter wi) (hg:PG X tg g) (hb:PSs X body tb)
    (hs:∀ x,foldedSetIterable iter X.env x=pure x:=by intro _;rfl):PS X (.For tg iter body [] pos) (aOE wi g tb):=by
  intro pins s σ H D I h
  refine wpAny_For (dN (hi pins s σ H _ I h) fun v s1 h1=>dN h1 fun itv s2 h2=>?_) hs
  obtain ⟨it,fp,tn,J,H2,e,I2,T,st2,f2,W,⟨m0,w0⟩,turn⟩:=h2
  subst e
  have stat:∀ {H':Hp},(∀ b∈fp,H' b=none)→∀ b∈fp,a2G X pins H' b:=fun hn b hb=>⟨hn b hb,(f2 b hb).2⟩
  refine codeAny_forLoop_any (fun n s'=>∃ i σ' H',Inv X pins σ' H' s'∧tn i s'.heap∧(∀ b∈fp,H' b=none)∧W i n σ' H') ?_ m0 ⟨0,σ,H2,I2,st2,fun b hb=>(f2 b hb).1,w0⟩
  rintro n s3 ⟨i,σ3,H3,I3,st3,fr3,w3⟩
  rcases turn i n σ3 H3 w3 with ⟨stop,qn⟩ | ⟨go,N,hN,step⟩
  · refine wpAny_passesOwn hp (dN (T.done X rfl rfl rfl (fun h=>h) (fun _ h=>h) i pins s3 σ3 H3 X.xe I3 (stat fr3) st3 stop) fun r s4 ⟨hr,I4⟩=>?_)
    subst hr
    exact wpAny_execs_nil ⟨σ3,H3,I4,qn⟩
  · refine wpAny_passesOwn hp (dN (T.item X rfl rfl rfl (fun h=>h) (fun _ h=>h) i pins s3 σ3 H3 X.xe I3 (stat fr3) st3 go) fun r s4 ⟨u,hr,h4⟩=>?_)
    subst hr
    refine wpAny_passesOwn hp (dN h4 fun _ s5 ⟨x,H5,I5,r5,y5,st5,fr5⟩=>?_)
    have I5':=I5.pinned (stat fr5) (T.obj _ _ st5)
    refine wpAny_passesOwn hp (dN (hg _ s5 σ3 H5 x u _ I5' r5 (step x H5 y5)) fun _ s6 ⟨σ6,H6,I6,q6⟩=>?_)
    refine wpAny_passesOwn hp (dN (hb _ s6 σ6 H6 _ I6 q6) fun f s7 q7=>?_)
    have again:∀ {σ7:St} {H7:Hp},Inv X (pins++a4K fp s5.heap) σ7 H7 s7→N σ7 H7→∃ m,m < n∧∃ i σ' H',Inv X pins σ' H' s7∧tn i s7.heap∧(∀ b∈fp,H' b=none)∧W i m σ' H':=fun {σ7 H7} I7 n7=>by
      obtain ⟨m',hm,w7⟩:=hN σ7 H7 n7
      refine ⟨m',hm,i+1,σ7,H7,I7.a2H,T.keep _ _ _ st5 fun b hb o e=>(I7.pin (b,o) (List.mem_append_right _ (List.mem_append_right _ (uO hb e)))).1,fun b hb=>?_,w7⟩
      obtain ⟨o,e,d⟩:=T.obj _ _ st5 b hb
      exact (I7.pin (b,o) (List.mem_append_right _ (List.mem_append_right _ (uO hb e)))).2.1
    cases f with
    | next=>obtain ⟨σ7,H7,I7,n7⟩:=q7;exact again I7 n7
    | cont=>obtain ⟨σ7,H7,I7,n7⟩:=q7;exact again I7 n7
    | brk=>obtain ⟨σ7,H7,I7,q7⟩:=q7;exact ⟨σ7,H7,I7.a2H,q7⟩
    | ret v=>obtain ⟨x7,σ7,H7,I7,r7,q7⟩:=q7;exact ⟨x7,σ7,H7,I7.a2H,r7,q7⟩
end
end L2
namespace L2
open PySem PySem.Spec PyProof.Rows
abbrev R2:=V→V→Hp→VK→Prop
def sY (X:Cx) (f:Value→Value→Sem Value) (r:R2):Prop :=
  ∀ (pins:List (Addr×Obj)) (s:Shared) (σ:St) (H:Hp) (x y:V) (v u:Value) (Q:VK),Inv X pins σ H s→RelV x v→RelV y u→r x y H Q →
    wpAny (model X.prog X.w) X.A (f v u) (EP X pins σ Q) X.xe s
def UnR (X:Cx) (f:Value→Sem Value) (r:V→Hp→VK→Prop):Prop :=
  ∀ (pins:List (Addr×Obj)) (s:Shared) (σ:St) (H:Hp) (x:V) (v:Value) (Q:VK),Inv X pins σ H s→RelV x v→r x H Q →
    wpAny (model X.prog X.w) X.A (f v) (EP X pins σ Q) X.xe s
def qQ (X:Cx) (f:Value) (r:List V→Hp→VK→Prop):Prop :=
  ∀ (pins:List (Addr×Obj)) (s:Shared) (σ:St) (H:Hp) (xs:List V) (us:List Value) (Q:VK),Inv X pins σ H s→Vals xs us→r xs H Q →
    wpAny (model X.prog X.w) X.A (call f us) (EP X pins σ Q) X.xe s
def tOp (r:R2) (ta tb:TE):TE:=fun σ H Q=>ta σ H fun x H1=>tb σ H1 fun y H2=>r x y H2 Q
def tUn (r:V→Hp→VK→Prop) (ta:TE):TE:=fun σ H Q=>ta σ H fun x H1=>r x H1 Q
def rI (C:Int→Int→Prop) (g:Int→Int→V):R2:=fun x y H Q=>∃ i j,x = .int i∧y = .int j∧C i j∧Q (g i j) H
def rI0 (g:Int→Int→V):R2:=fun x y H Q=>∃ i j,x = .int i∧y = .int j∧Q (g i j) H
def rU (g:Int→V):V→Hp→VK→Prop:=fun x H Q=>∃ i,x = .int i∧Q (g i) H
section
variable {X:Cx} {a b c:Expr} {ta tb tc:TE} {pos:Pos}
theorem aD4 (ha:PE X a ta) (hb:PE X b tb) {pins:List (Addr×Obj)} {s:Shared} {σ:St} {H:Hp} {R:V→V→Hp→Prop} (I:Inv X pins σ H s)
    (h:ta σ H fun x H1=>tb σ H1 fun y H2=>R x y H2) {Q:Value→Shared→Prop} {f:Value→Value→Sem Value}
    (hf:∀ v u s2 x y H2,Inv X pins σ H2 s2→RelV x v→RelV y u→R x y H2→wpAny (model X.prog X.w) X.A (f v u) Q X.xe s2) :
    wpAny (model X.prog X.w) X.A (eval a X.env) (fun v s₁=>wpAny (model X.prog X.w) X.A (eval b X.env) (fun u s₂=>wpAny (model X.prog X.w) X.A (f v u) Q X.xe s₂) X.xe s₁) X.xe s:=by
  refine dN (ha pins s σ H _ I h) fun v s1 ⟨x,H1,I1,r1,q1⟩=>?_
  refine dN (hb pins s1 σ H1 _ I1 q1) fun u s2 ⟨y,H2,I2,r2,q2⟩=>?_
  exact hf v u s2 x y H2 I2 r1 r2 q2
theorem aJ4 {op:Operator} {r:R2} (ho:sY X (binaryOp op) r) (ha:PE X a ta) (hb:PE X b tb):PE X (.BinOp a op b pos) (tOp r ta tb):=by
  intro pins s σ H Q I h
  exact wpAny_BinOp (aD4 ha hb I h fun v u s2 x y H2 I2 rx ry q=>ho pins s2 σ H2 x y v u Q I2 rx ry q)
theorem aJ5 {op:UnaryOp} {r:V→Hp→VK→Prop} (ho:UnR X (unaryOp op) r) (ha:PE X a ta):PE X (.UnaryOp op a pos) (tUn r ta):=by
  intro pins s σ H Q I h
  exact UnaryOp_ (dN (ha pins s σ H _ I h) fun v s1 ⟨x,H1,I1,r1,q1⟩=>ho pins s1 σ H1 x v Q I1 r1 q1)
theorem opI {f:Value→Value→Sem Value} {C:Int→Int→Prop} {g:Int→Int→Int}
    (rule:∀ (i j:Int) (t u:Tok) (s:Shared) (Q:Value→Shared→Prop) (E:Value→Shared→Prop),C i j→Q (.int (g i j) s.toks) { s with toks:=s.toks+1 }→wpAny (model X.prog X.w) X.A (f (.int i t) (.int j u)) Q E s) :
    sY X f (rI C fun i j => .int (g i j)):=by
  intro pins s σ H x y v u Q I rx ry h
  obtain ⟨i,j,rfl,rfl,hc,q⟩:=h
  obtain ⟨t,rfl⟩:=rx
  obtain ⟨t',rfl⟩:=ry
  exact rule i j t t' s _ _ hc ⟨.int (g i j),H,I.tok _,⟨_,rfl⟩,q⟩
theorem aJ6 {f:Value→Value→Sem Value} {g:Int→Int→Int}
    (rule:∀ (i j:Int) (t u:Tok) (s:Shared) (Q:Value→Shared→Prop) (E:Value→Shared→Prop),Q (.int (g i j) s.toks) { s with toks:=s.toks+1 }→wpAny (model X.prog X.w) X.A (f (.int i t) (.int j u)) Q E s) :
    sY X f (rI0 fun i j => .int (g i j)):=by
  intro pins s σ H x y v u Q I rx ry h
  obtain ⟨i,j,rfl,rfl,q⟩:=h
  obtain ⟨t,rfl⟩:=rx
  obtain ⟨t',rfl⟩:=ry
  exact rule i j t t' s _ _ ⟨.int (g i j),H,I.tok _,⟨_,rfl⟩,q⟩
theorem aw7 {f:Value→Value→Sem Value} {g:Int→Int→Bool}
    (rule:∀ (i j:Int) (t u:Tok) (s:Shared) (Q:Value→Shared→Prop) (E:Value→Shared→Prop),Q (.bool (g i j)) s→wpAny (model X.prog X.w) X.A (f (.int i t) (.int j u)) Q E s) :
    sY X f (rI0 fun i j => .bl (g i j)):=by
  intro pins s σ H x y v u Q I rx ry h
  obtain ⟨i,j,rfl,rfl,q⟩:=h
  obtain ⟨t,rfl⟩:=rx
  obtain ⟨t',rfl⟩:=ry
  exact rule i j t t' s _ _ ⟨.bl (g i j),H,I,rfl,q⟩
def aD5 (i j:Int):Prop:=0 < j∧j < 1073741824
def aD6 (i j:Int):Prop:=0≤j∧j≤1000000∧i.natAbs < 2 ^ 64
def aqF (i j:Int):Prop:=(-(2 ^ 64) < i∧i < 2 ^ 64)∨(-(2 ^ 64) < j∧j < 2 ^ 64)
theorem aqF.ok {i j:Int} (h:aqF i j):IntMulOk i j:=by
  rcases h with ⟨h1,h2⟩ | ⟨h1,h2⟩
  · exact .of_left (intBits_le_64 h1 h2)
  · exact .of_right (intBits_le_64 h1 h2)
theorem aD7:sY X (binaryOp .Add) (rI0 fun i j => .int (i+j)):=aJ6 fun _ _ _ _ _ _ _ q=>add_int q
theorem aD8:sY X (binaryOp .Sub) (rI0 fun i j => .int (i - j)):=aJ6 fun _ _ _ _ _ _ _ q=>sub_int q
theorem aD9:sY X (binaryOp .Mult) (rI aqF fun i j => .int (i * j)):=opI fun _ _ _ _ _ _ _ hc q=>mul_int q hc.ok
theorem aw8:sY X (binaryOp .FloorDiv) (rI aD5 fun i j => .int (i / j)):=opI fun i j _ _ _ _ _ hc q=>by
  have h1:(0:Int) < j:=hc.1
  have h2:j < 1073741824:=hc.2
  exact floordiv_int (by omega) (by rw [Int.fdiv_eq_ediv_of_nonneg i (by omega)];exact q) (.inl (PyProof.noPylong_small (by omega)))
theorem aDA:sY X (binaryOp .Mod) (rI (fun _ j=>0 < j) fun i j => .int (i % j)):=opI fun i j _ _ _ _ _ hc q=>by
  have h1:(0:Int) < j:=hc
  exact mod_int' (by omega) (by rw [Int.fmod_eq_emod_of_nonneg i (by omega)];exact q)
theorem aDB:sY X (binaryOp .Pow) (rI aD6 fun i j => .int (i ^ j.toNat)):=opI fun _ _ _ _ _ _ _ hc q=>pow_int_small hc.1 hc.2.1 hc.2.2 q
theorem unI {f:Value→Sem Value} {g:Int→Int}
    (rule:∀ (i:Int) (t:Tok) (s:Shared) (Q:Value→Shared→Prop) (E:Value→Shared→Prop),Q (.int (g i) s.toks) { s with toks:=s.toks+1 }→wpAny (model X.prog X.w) X.A (f (.int i t)) Q E s) :
    UnR X f (rU fun i => .int (g i)):=by
  intro pins s σ H x v Q I rx h
  obtain ⟨i,rfl,q⟩:=h
  obtain ⟨t,rfl⟩:=rx
  exact rule i t s _ _ ⟨.int (g i),H,I.tok _,⟨_,rfl⟩,q⟩
theorem aDC:UnR X (unaryOp .USub) (rU fun i => .int (-i)):=unI fun _ _ _ _ _ q=>neg_int q
end
section
variable {X:Cx} {a b c:Expr} {ta tb tc:TE} {pos:Pos}
theorem adP {pins:List (Addr×Obj)} {σ:St} {H:Hp} {s:Shared} {Q:VK} {k k':Bool} (I:Inv X pins σ H s) (q:Q (.bl k) H) (e:k=k'):EP X pins σ Q (.bool k') s:=by
  subst e
  exact ⟨.bl k,H,I,rfl,q⟩
theorem aJ7:sY X (compareOp .Lt) (rI0 fun i j => .bl (decide (i < j))):=aw7 fun _ _ _ _ _ _ _ q=>lt_int q
theorem aJ8:sY X (compareOp .LtE) (rI0 fun i j => .bl (decide (i≤j))):=aw7 fun _ _ _ _ _ _ _ q=>le_int q
theorem aJ9:sY X (compareOp .Gt) (rI0 fun i j => .bl (decide (j < i))):=aw7 fun _ _ _ _ _ _ _ q=>gt_int q
theorem aJA:sY X (compareOp .GtE) (rI0 fun i j => .bl (decide (j≤i))):=aw7 fun _ _ _ _ _ _ _ q=>ge_int q
theorem ao1:sY X (compareOp .In) (fun x y H Q=>∃ i j,x = .str i∧y = .str j∧Q (.bl (!(Builtin.Str.occurrences j i 0 j.length 1).isEmpty)) H):=by
  intro pins s σ H x y v u Q I rx ry h
  obtain ⟨i,j,rfl,rfl,q⟩:=h
  obtain ⟨t,rfl⟩:=rx
  obtain ⟨t',rfl⟩:=ry
  exact in_str (adP I q rfl)
theorem aDD:sY X (compareOp .Is) (fun x y H Q=>y = .non∧Q (.bl (decide (x = .non))) H):=by
  intro pins s σ H x y v u Q I rx ry h
  obtain ⟨rfl,q⟩:=h
  cases ry
  refine is_none_gen (adP I q ?_)
  cases x <;> first
    | (cases rx;rfl)
    | (obtain ⟨t,rfl⟩:=rx;rfl)
theorem aw9:sY X (compareOp .IsNot) (fun x y H Q=>y = .non∧Q (.bl (!decide (x = .non))) H):=by
  intro pins s σ H x y v u Q I rx ry h
  obtain ⟨rfl,q⟩:=h
  cases ry
  refine isnot_none_gen (adP I q ?_)
  cases x <;> first
    | (cases rx;rfl)
    | (obtain ⟨t,rfl⟩:=rx;rfl)
theorem adQ:sY X (compareOp .NotIn) (fun x y H Q=>∃ i j,x = .str i∧y = .str j∧Q (.bl (!(!(Builtin.Str.occurrences j i 0 j.length 1).isEmpty))) H):=by
  intro pins s σ H x y v u Q I rx ry h
  obtain ⟨i,j,rfl,rfl,q⟩:=h
  obtain ⟨t,rfl⟩:=rx
  obtain ⟨t',rfl⟩:=ry
  exact notIn_str (adP I q rfl)
theorem sY.or {f:Value→Value→Sem Value} {r r':R2} (h:sY X f r) (h':sY X f r'):sY X f (fun x y H Q=>r x y H Q∨r' x y H Q):=by
  intro pins s σ H x y v u Q I rx ry q
  rcases q with q | q
  · exact h pins s σ H x y v u Q I rx ry q
  · exact h' pins s σ H x y v u Q I rx ry q
theorem aOH (b:Expr) {op:CmpOp} (h:op ≠ .In:=by decide) (h2:op ≠ .NotIn:=by decide):behindInMarks op b=false:=by
  have e1:(op == CmpOp.In)=false:=by cases op <;> first | rfl | exact absurd rfl h
  have e2:(op == CmpOp.NotIn)=false:=by cases op <;> first | rfl | exact absurd rfl h2
  cases b <;> simp [behindInMarks,e1,e2]
theorem awA {op:CmpOp} {r:R2} (ho:sY X (compareOp op) r) (ha:PE X a ta) (hb:PE X b tb) (hm:behindInMarks op b=false):PE X (.Compare a [op] [b] pos) (tOp r ta tb):=by
  intro pins s σ H Q I h
  exact wpAny_Compare1 (aD4 ha hb I h fun v u s2 x y H2 I2 rx ry q=>ho pins s2 σ H2 x y v u Q I2 rx ry q) hm
def aqG (t:TE):TT:=fun σ H Q=>t σ H fun x H'=>∃ k,x = .bl k∧Q k H'
theorem awB {op:CmpOp} {r:R2} (ho:sY X (compareOp op) r) (ha:PE X a ta) (hb:PE X b tb) (hm:behindInMarks op b=false):PT X (.Compare a [op] [b] pos) (aqG (tOp r ta tb)):=by
  intro pins s σ H Q I h
  refine wpAny_isTrue_Compare1 (dN (ha pins s σ H _ I h) fun v s1 ⟨x,H1,I1,r1,q1⟩=>dN (hb pins s1 σ H1 _ I1 q1) fun u s2 ⟨y,H2,I2,r2,q2⟩ =>
    dN (ho pins s2 σ H2 x y v u _ I2 r1 r2 q2) fun c s3 ⟨z,H3,I3,r3,k,e,q3⟩=>?_) hm
  subst e
  cases r3
  exact wpAny_truthy_bool ⟨H3,I3,q3⟩
def ajH (r r':R2) (ta tb tc:TE):TE:=fun σ H Q=>ta σ H fun x H1=>tb σ H1 fun y H2=>r x y H2 fun z H3=>∃ k,z = .bl k ∧
  (if k=true then tc σ H3 fun w' H4=>r' y w' H4 Q else Q (.bl false) H3)
theorem aqH {op op':CmpOp} {r r':R2} (ho:sY X (compareOp op) r) (ho':sY X (compareOp op') r') (ha:PE X a ta) (hb:PE X b tb) (hc:PE X c tc)
    (hm:lastMarks [op,op'] [b,c]=false:=by with_unfolding_all rfl):PE X (.Compare a [op,op'] [b,c] pos) (ajH r r' ta tb tc):=by
  intro pins s σ H Q I h
  refine Compare_chain (dN (ha pins s σ H _ I h) fun v s1 ⟨x,H1,I1,r1,q1⟩=>chain_link (dN (hb pins s1 σ H1 _ I1 q1) fun u s2 ⟨y,H2,I2,r2,q2⟩ =>
    dN (ho pins s2 σ H2 x y v u _ I2 r1 r2 q2) fun d s3 ⟨z,H3,I3,r3,k,e,q3⟩=>?_)) hm
  subst e
  cases r3
  refine wpAny_truthy_bool ?_
  cases k with
  | false=>exact ite_ff ⟨.bl false,H3,I3,rfl,q3⟩
  | true=>exact ite_tt (chain_last (dN (hc pins s3 σ H3 _ I3 q3) fun w' s4 ⟨z',H4,I4,r4,q4⟩=>ho' pins s4 σ H4 y z' u w' Q I4 r2 r4 q4))
theorem aqI {op op':CmpOp} {r r':R2} (ho:sY X (compareOp op) r) (ho':sY X (compareOp op') r') (ha:PE X a ta) (hb:PE X b tb) (hc:PE X c tc)
    (hm:lastMarks [op,op'] [b,c]=false:=by with_unfolding_all rfl):PT X (.Compare a [op,op'] [b,c] pos) (aqG (ajH r r' ta tb tc)):=by
  intro pins s σ H Q I h
  refine isTrue_chain (dN (ha pins s σ H _ I h) fun v s1 ⟨x,H1,I1,r1,q1⟩=>test_link (dN (hb pins s1 σ H1 _ I1 q1) fun u s2 ⟨y,H2,I2,r2,q2⟩ =>
    dN (ho pins s2 σ H2 x y v u _ I2 r1 r2 q2) fun d s3 ⟨z,H3,I3,r3,k,e,q3⟩=>?_)) hm
  subst e
  cases r3
  refine wpAny_truthy_bool ?_
  cases k with
  | false =>
    obtain ⟨k',e',q'⟩:=q3
    cases e'
    exact ite_ff ⟨H3,I3,q'⟩
  | true =>
    refine ite_tt (test_last (dN (hc pins s3 σ H3 _ I3 q3) fun w' s4 ⟨z',H4,I4,r4,q4⟩=>dN (ho' pins s4 σ H4 y z' u w' _ I4 r2 r4 q4) fun d' s5 ⟨z2,H5,I5,r5,k2,e2,q5⟩=>?_))
    subst e2
    cases r5
    exact wpAny_truthy_bool ⟨H5,I5,q5⟩
theorem a8K:(sizeLine:Nat) < 2 ^ 63:=by rw [sizeLine_eq];decide
theorem ajI:sY X (binaryOp .Add) (fun x y H Q=>∃ i j,x = .str i∧y = .str j∧i.length+j.length≤sizeLine∧Q (.str (i++j)) H):=by
  intro pins s σ H x y v u Q I rx ry h
  obtain ⟨i,j,rfl,rfl,hz,q⟩:=h
  obtain ⟨t,rfl⟩:=rx
  obtain ⟨t',rfl⟩:=ry
  exact add_str (fun t' tk=>⟨.str (i++j),H,I.tok _,⟨_,rfl⟩,q⟩) hz
theorem vals1 {x:V} {us:List Value} (r:Vals [x] us):∃ u,us=[u]∧RelV x u:=by
  cases r with
  | cons r1 r2=>cases r2;exact ⟨_,rfl,r1⟩
theorem vals2 {x y:V} {us:List Value} (r:Vals [x,y] us):∃ u w',us=[u,w']∧RelV x u∧RelV y w':=by
  cases r with
  | cons r1 r2 =>
    cases r2 with
    | cons r3 r4=>cases r4;exact ⟨_,_,rfl,r1,r3⟩
theorem aqJ:qQ X (.builtin "abs") (fun xs H Q=>∃ i,xs=[.int i]∧Q (.int (if i < 0 then -i else i)) H):=by
  intro pins s σ H xs us Q I r h
  obtain ⟨i,rfl,q⟩:=h
  obtain ⟨u,rfl,t,rfl⟩:=vals1 r
  exact call_abs_int fun u tk=>⟨.int (if i < 0 then -i else i),H,I.tok _,⟨_,rfl⟩,q⟩
theorem ao2 (hc:X.calm=true):qQ X (.builtin "max") (fun xs H Q=>∃ i j,xs=[.int i,.int j]∧Q (.int (if j > i then j else i)) H):=by
  intro pins s σ H xs us Q I r h
  obtain ⟨i,j,rfl,q⟩:=h
  obtain ⟨u,w',rfl,⟨t,rfl⟩,⟨t',rfl⟩⟩:=vals2 r
  refine max_two_ints (I.ok.hd hc) fun h' tk k=>⟨_,H,I.kept k,?_,q⟩
  by_cases hj:j > i
  · rw [if_pos hj,if_pos hj];exact ⟨_,rfl⟩
  · rw [if_neg hj,if_neg hj];exact ⟨_,rfl⟩
theorem ao3 (hc:X.calm=true):qQ X (.builtin "min") (fun xs H Q=>∃ i j,xs=[.int i,.int j]∧Q (.int (if j < i then j else i)) H):=by
  intro pins s σ H xs us Q I r h
  obtain ⟨i,j,rfl,q⟩:=h
  obtain ⟨u,w',rfl,⟨t,rfl⟩,⟨t',rfl⟩⟩:=vals2 r
  refine min_two_ints (I.ok.hd hc) fun h' tk k=>⟨_,H,I.kept k,?_,q⟩
  by_cases hj:j < i
  · rw [if_pos hj,if_pos hj];exact ⟨_,rfl⟩
  · rw [if_neg hj,if_neg hj];exact ⟨_,rfl⟩
theorem ao4:qQ X (.type "int") (fun xs H Q=>(∃ i,xs=[.int i]∧Q (.int i) H)∨∃ k,xs=[.bl k]∧Q (.int (if k then 1 else 0)) H):=by
  intro pins s σ H xs us Q I r h
  rcases h with ⟨i,rfl,q⟩ | ⟨k,rfl,q⟩
  · obtain ⟨u,rfl,t,rfl⟩:=vals1 r
    exact call_int_int ⟨.int i,H,I,⟨_,rfl⟩,q⟩
  · obtain ⟨u,rfl,r1⟩:=vals1 r
    cases r1
    exact call_int_bool ⟨.int (if k then 1 else 0),H,I.tok _,⟨_,rfl⟩,q⟩
end
end L2
namespace L2
open PySem PySem.Spec PyProof.Rows
section
variable {prog:Program} {w:World} {A:Around} {E:Value→Shared→Prop} {s:Shared} {K:PySem.W.Frag} {x dx C f:Addr} {mA:Str→Option Value} {name:Str} {v:Value}
theorem aqK {R:Result→Shared→Prop} {vs:List Value} {kw:List (Str×Value)} (X:K.In s.heap) (hm:PySem.W.makesIn K C=true)
    (hi:PySem.W.findIn K (.ref C) "__init__" = some (some (.ref f))) (hf:PySem.W.typeIn K (.ref f)=some (.type "function"))
    (h:codeAny (model prog w) (A.under (.builtin "type.__call__" ⟨.ref C :: vs,kw⟩)) (.call (.ref f) ⟨.ref (s.heap.objs.size+1) :: vs,kw⟩) (PySem.W.InitBack (s.heap.objs.size+1) R)
      { s with heap:=(s.heap.push PySem.W.emptyDict).push (PySem.W.instObj C s.heap.objs.size) }) :
    codeAny (model prog w) A (.call (.ref C) ⟨vs,kw⟩) R s:=by
  obtain ⟨hh,g,d,t,os⟩:=s
  exact PySem.W.make_core (PySem.W.makes_of X hm) (PySem.W.looks_findIn X hi) (fun self=>PySem.W.bind_fn X self hf) (.inl rfl) h
end
theorem a7C.some_of {v:V} {o:Option Value} (r:a7C (some v) o):∃ u,o=some u∧RelV v u:=by
  cases o with
  | none=>exact (show False from r).elim
  | some u=>exact ⟨u,rfl,r⟩
section
variable {P:Program} {w:World} {H H':Hp} {h h':Heap} {a C dx:Addr} {fs fs':List (Str×V)}
end
structure Cls (K:PySem.W.Frag) (C:Addr):Prop where
  pg:PySem.W.plainGet K C Str.empty=true
  hd:PySem.W.hasDictIn K C=true
  po:PySem.W.plainOver K C=true
  sa:PySem.W.findIn K (.ref C) "__setattr__" = some (some (.builtin "object.__setattr__"))
theorem Cls.get {K:PySem.W.Frag} {C:Addr} (c:Cls K C) (f:Str):PySem.W.plainGet K C f=true:=c.pg
def aqL (K:PySem.W.Frag) (C:Addr) (f:Str):Prop:=PySem.W.findIn K (.ref C) f=some none
structure Meth (K:PySem.W.Frag) (C:Addr) (m:Str) (f:Addr):Prop where
  at_:PySem.W.findIn K (.ref C) m=some (some (.ref f))
  fn:PySem.W.isFn K (.ref f)=true
  kp:PySem.W.keepIn K (.ref f)=true
section
variable {X:Cx} {pins:List (Addr×Obj)} {σ:St} {H:Hp} {s:Shared} {a C dx:Addr} {fs:List (Str×V)} {f:Str} {v:V} {A:Around} {E:Value→Shared→Prop}
theorem Inv.made (I:Inv X pins σ H s):Inv X pins σ (upd (upd H s.heap.objs.size (.own (s.heap.objs.size+1))) (s.heap.objs.size+1) (.ins C s.heap.objs.size []))
    { s with heap:=(s.heap.push PySem.W.emptyDict).push (PySem.W.instObj C s.heap.objs.size) }:=by
  have e1:(s.heap.push PySem.W.emptyDict).get? s.heap.objs.size=some PySem.W.emptyDict:=Heap.get?_push_size s.heap rfl
  have e2:((s.heap.push PySem.W.emptyDict).push (PySem.W.instObj C s.heap.objs.size)).get? (s.heap.objs.size+1)=some (PySem.W.instObj C s.heap.objs.size):=by
    have:=Heap.get?_push_size (s.heap.push PySem.W.emptyDict) (o:=PySem.W.instObj C s.heap.objs.size) rfl
    rwa [Heap.size_push] at this
  have e3:(s.heap.push PySem.W.emptyDict).Ns s.heap.objs.size (fun _=>none):=⟨PySem.W.emptyDict,#[],_,e1,rfl,(fun e he=>absurd he (by simp)),fun _=>rfl⟩
  have I1:=I.laid (a:=s.heap.objs.size) (o := .own (s.heap.objs.size+1)) (h':=s.heap.push PySem.W.emptyDict) (t':=s.toks) (fun b u q=>Heap.get?_push_of_some _ q) (Nat.le_refl _) ⟨_,e1⟩
  refine I1.laid (a:=s.heap.objs.size+1) (o := .ins C s.heap.objs.size []) (t':=s.toks) (fun b u q=>Heap.get?_push_of_some _ q) (Nat.le_of_eq (Heap.size_push _ _)) ?_
  have ne:s.heap.objs.size≠s.heap.objs.size+1:=Nat.ne_of_lt (Nat.lt_succ_self _)
  refine ⟨by rw [aU ne,aK],Nat.zero_le _,ne,e2,fun _=>none,(Heap.Ns1.of_empty e3).at fun o q=>Heap.get?_push_of_some _ q,fun _=>True.intro,fun y hy=>absurd rfl hy⟩
end
section
variable {X:Cx} {o e value:Expr} {f:Str} {pos pos' tpos:Pos} {ta tv:TE}
end
section
variable {X:Cx} {pins:List (Addr×Obj)} {σ:St} {H:Hp} {s:Shared} {A:Around} {E:Value→Shared→Prop} {Q:Value→Shared→Prop} {c:Value} {b:Bool}
end
end L2
namespace L2
open PySem PySem.Spec PyProof.Rows
structure iG (qt:Bool) (k:Nat) (A:Around):Prop where
  hd:qt=false→A.handled=none
  dp:A.depth+3 * k+5 < recursionLimit
  un:A.units+16 * k+200 < cLine
theorem iG.mono {j k:Nat} {A:Around} (r:iG qt k A) (h:j≤k):iG qt j A:=⟨r.hd,by have:=r.dp;omega,by have:=r.un;omega⟩
theorem iG.deeper {k:Nat} {A:Around} (r:iG qt (k+1) A) (env:Env):iG qt k (A.deeper env) :=
  ⟨r.hd,by have:=r.dp;show A.depth+1+3 * k+5 < _;omega,by have:=r.un;show A.units+3+16 * k+200 < _;omega⟩
theorem iG.in1 {k:Nat} {A:Around} (r:iG qt (k+1) A):iG qt k A.in1 :=
  ⟨r.hd,by have:=r.dp;show A.depth+3 * k+5 < _;omega,by have:=r.un;show A.units+1+16 * k+200 < _;omega⟩
theorem ajJ {A:Around} {C:Addr} {us:List Value} {kw:List (Str×Value)}:(A.under (.builtin "type.__call__" ⟨.ref C :: us,kw⟩)).depth=A.depth+1:=by
  first | rfl | simp [Around.under,Code.weight,Code.isCreation,Code.isGuard,Code.isCaller,Code.frames,Code.isFrame,guardIds]
theorem ajK {A:Around} {C:Addr} {us:List Value} {kw:List (Str×Value)}:(A.under (.builtin "type.__call__" ⟨.ref C :: us,kw⟩)).units=A.units+1:=by
  first | rfl | simp [Around.under,Code.cUnits,Code.frames,Code.isFrame]
theorem iG.make {k:Nat} {A:Around} (r:iG qt (k+1) A) (C:Addr) (us:List Value) (kw:List (Str×Value)):iG qt k (A.under (.builtin "type.__call__" ⟨.ref C :: us,kw⟩)) :=
  ⟨r.hd,by have:=r.dp;rw [ajJ];omega,by have:=r.un;rw [ajK];omega⟩
theorem iG.depth {k:Nat} {A:Around} (r:iG qt k A):A.depth < recursionLimit:=by have:=r.dp;omega
theorem iG.units {k:Nat} {A:Around} (r:iG qt k A):A.units+64 < cLine:=by have:=r.un;omega
def aJB:TA:=fun _ H Q=>Q [] H
def aB6 (ta:TE) (tr:TA):TA:=fun σ H Q=>ta σ H fun x H1=>tr σ H1 fun xs H2=>Q (x :: xs) H2
section
variable {X:Cx} {e:Expr} {es:List Expr} {te:TE} {t:TA} {pos:Pos}
theorem aDE:PA X [] aJB:=fun _ _ _ _ H Q I h=>Calls.spliced_nil ⟨[],H,I,.nil,h⟩
theorem awC (ha:PE X e te) (hr:PA X es t) (hs:starEach (e :: es) X.env=(false,eval e X.env) :: starEach es X.env:=by rfl):PA X (e :: es) (aB6 te t):=by
  intro pos pins s σ H Q I h
  rw [hs]
  show wpAny _ _ (spliced ((false,eval e X.env) :: backTo pos (starEach es X.env))) _ _ s
  refine Calls.spliced_cons (dN (ha pins s σ H _ I h) fun u s1 ⟨x,H1,I1,r1,q1⟩=>?_)
  exact dN (hr pos pins s1 σ H1 _ I1 q1) fun us s2 ⟨xs,H2,I2,r2,q2⟩=>⟨x :: xs,H2,I2,.cons r1 r2,q2⟩
def aOI (t:TA):TE:=fun σ H Q=>t σ H fun xs H1=>xs.length≤sizeLine∧∀ p,H1 p=none→Q (.ref p) (upd H1 p (.tup xs))
def aOJ (t:TA):TE:=fun σ H Q=>t σ H fun xs H1=>xs.length≤sizeLine∧∀ p,H1 p=none→Q (.ref p) (upd H1 p (.lst xs))
theorem aDF {x1} (h:PA X es t):PE X (.Tuple es x1 pos) (aOI t):=by
  intro pins s σ H Q I hq
  refine wpAny_Tuple_spliced (dN (h pos pins s σ H _ I hq) fun us s1 ⟨xs,H1,I1,r,z,q⟩=>⟨by rw [← r.length];exact z,?_⟩)
  have hf:H1 s1.heap.objs.size=none:=I1.hok.fresh (Nat.le_refl _)
  refine ⟨.ref s1.heap.objs.size,upd H1 s1.heap.objs.size (.tup xs),I1.laid (t':=s1.toks) (fun b u e=>Heap.get?_push_of_some _ e) (Nat.le_refl _) ?_,rfl,q _ hf⟩
  exact ⟨z,us,r,⟨_,Heap.get?_push_size _ rfl,rfl,_,rfl⟩⟩
theorem aDG (h:PA X es t):PE X (.List es pos) (aOJ t):=by
  intro pins s σ H Q I hq
  refine wpAny_List_spliced (dN (h pos pins s σ H _ I hq) fun us s1 ⟨xs,H1,I1,r,z,q⟩=>⟨by rw [← r.length];exact z,?_⟩)
  have hf:H1 s1.heap.objs.size=none:=I1.hok.fresh (Nat.le_refl _)
  refine ⟨.ref s1.heap.objs.size,upd H1 s1.heap.objs.size (.lst xs),I1.laid (t':=s1.toks) (fun b u e=>Heap.get?_push_of_some _ e) (Nat.le_refl _) ?_,rfl,q _ hf⟩
  exact ⟨z,us,0,r,Heap.get?_push_size _ rfl⟩
end
abbrev Sp:=List V→Hp→VK→XK→Prop
abbrev CXT:=List Env→Hp→Shared→XK→Value→Shared→Prop
structure abF (P:Program) (w:World) (K:PySem.W.Frag) (mg:Str→Option Value) (base:Heap) (A:Around) (outer:List Env) (s:Shared) (H:Hp):Prop where
  frames:A.frames=some outer
  mod:Mod K mg base
  bs:∀ b o,base.get? b=some o→s.heap.get? b=some o∧H b=none
  bsz:base.objs.size≤s.heap.objs.size
  xC:s.heap.FunFrames base outer
  frf:∀ b∈frs outer,H b=none
  hok:HOk P w H s.heap
  bare:AllBare s.gens
  hnd:Hnd A H
def CE (outer:List Env) (P:Program) (w:World) (H:Hp) (s:Shared) (Q:VK) (u:Value) (s':Shared):Prop :=
  ∃ v H',s'.os=s.os∧AllBare s'.gens∧Un (frs outer) [] H H' s.heap s'.heap∧HOk P w H' s'.heap∧RelV v u∧Q v H'
def CR (CX:CXT) (outer:List Env) (P:Program) (w:World) (H:Hp) (s:Shared) (Q:VK) (E:XK) (r:Result) (s':Shared):Prop :=
  match r with
  | .ok (.ret u)=>CE outer P w H s Q u s'
  | .ok _=>False
  | .error e=>CX outer H s E e s'
structure cT (qt:Bool) (P:Program) (w:World) (K:PySem.W.Frag) (mg:Str→Option Value) (base:Heap) (CX:CXT) (k:Nat) (f:Addr) (fd:FuncData) (ps:List Str) (sp:Sp):Prop where
  len:∀ vs H Q E,sp vs H Q E→vs.length=ps.length
  run:∀ (A:Around) (outer:List Env) (s:Shared) (H:Hp) (args:Args) (us:List Value) (vs:List V) (Q:VK) (E:XK),iG qt k A→abF P w K mg base A outer s H→BindsTo s fd args (ps.zip us)→Vals vs us→sp vs H Q E →
    codeAny (model P w) A (.call (.ref f) args) (CR CX outer P w H s Q E) s
theorem cT.mono {P:Program} {w:World} {K:PySem.W.Frag} {mg:Str→Option Value} {base:Heap} {CX:CXT} {j k:Nat} {f:Addr} {fd:FuncData} {ps:List Str} {sp:Sp} (F:cT qt P w K mg base CX j f fd ps sp) (h:j≤k) :
    cT qt P w K mg base CX k f fd ps sp:=⟨F.len,fun A outer s H args us vs Q E hr=>F.run A outer s H args us vs Q E (hr.mono h)⟩
theorem cT.imp {P:Program} {w:World} {K:PySem.W.Frag} {mg:Str→Option Value} {base:Heap} {CX:CXT} {k:Nat} {f:Addr} {fd:FuncData} {ps:List Str} {sp sp':Sp} (F:cT qt P w K mg base CX k f fd ps sp)
    (h:∀ vs H Q E,sp' vs H Q E→sp vs H Q E):cT qt P w K mg base CX k f fd ps sp' :=
  ⟨fun vs H Q E q=>F.len vs H Q E (h _ _ _ _ q),fun A outer s H args us vs Q E hr he hb hv hs=>F.run A outer s H args us vs Q E hr he hb hv (h _ _ _ _ hs)⟩
theorem abF.make {P:Program} {w:World} {K:PySem.W.Frag} {mg:Str→Option Value} {base:Heap} {A:Around} {outer:List Env} {s:Shared} {H:Hp} (e:abF P w K mg base A outer s H) (C:Addr) (us:List Value) (kw:List (Str×Value)) :
    abF P w K mg base (A.under (.builtin "type.__call__" ⟨.ref C :: us,kw⟩)) outer s H:=⟨by first | exact e.frames | (simpa [Around.under,Code.envs,Code.isFrame,pushEnvs] using e.frames),e.mod,e.bs,e.bsz,e.xC,e.frf,e.hok,e.bare,e.hnd⟩
theorem abF.in1 {P:Program} {w:World} {K:PySem.W.Frag} {mg:Str→Option Value} {base:Heap} {A:Around} {outer:List Env} {s:Shared} {H:Hp} (e:abF P w K mg base A outer s H) :
    abF P w K mg base A.in1 outer s H:=⟨e.frames,e.mod,e.bs,e.bsz,e.xC,e.frf,e.hok,e.bare,e.hnd⟩
section
variable {X:Cx} {pins:List (Addr×Obj)} {σ:St} {H:Hp} {s s':Shared}
theorem Inv.env0 (I:Inv X pins σ H s):abF X.prog X.w X.K X.mg X.base X.A X.stack s H :=
  ⟨I.ok.frames,I.ok.mod,I.bs,Nat.le_trans I.ok.bsz I.sz,I.stack,I.adN,I.hok,I.bare,I.hnd⟩
theorem Inv.after {Q:VK} {u:Value} (I:Inv X pins σ H s) (h:CE X.stack X.prog X.w H s Q u s'):EP X pins σ Q u s':=by
  obtain ⟨v,H',os,bare,un,hok,r,q⟩:=h
  obtain ⟨hh,g,d,t,os'⟩:=s'
  obtain rfl:os'=s.os:=os
  exact ⟨v,H',I.call (h':=hh) (g':=g) (d':=d) (t':=t) (ch:=[]) un hok bare (fun b z=>absurd z (by simp)),r,q⟩
end
def Binds (K:PySem.W.Frag) (fd:FuncData) (ps:List Str) (ds:List Value):Prop :=
  ∀ (s:Shared) (us:List Value),K.In s.heap→(us++ds).length=ps.length→BindsTo s fd ⟨us,[]⟩ (ps.zip (us++ds))
theorem Binds.all {K:PySem.W.Frag} {fd:FuncData} {ps:List Str} (h:∀ us:List Value,us.length=ps.length→bindArgs fd ⟨us,[]⟩=pure (ps.zip us)):Binds K fd ps []:=fun s us _ hl=>by
  rw [List.append_nil] at hl ⊢
  exact .of_eq (h us hl)
section
variable {X:Cx} {CX:CXT} {k:Nat} {f C:Addr} {fd:FuncData} {ps:List Str} {sp:Sp} {dvs:List V} {ds:List Value} {E:XK} {x m:Str} {p pos apos:Pos} {e o:Expr} {es:List Expr} {ta:TE} {t:TA}
structure Mk (K:PySem.W.Frag) (C f:Addr):Prop where
  makes:PySem.W.makesIn K C=true
  init:PySem.W.findIn K (.ref C) "__init__" = some (some (.ref f))
  fn:PySem.W.isFn K (.ref f)=true
  kp:PySem.W.keepIn K (.ref C)=true
end
def PK (X:Cx) (kws:List Keyword) (t:TA):Prop :=
  ∀ (pos:Pos) (pins:List (Addr×Obj)) (s:Shared) (σ:St) (H:Hp) (Q:List V→Hp→Prop),Inv X pins σ H s→t σ H Q→wpAny (model X.prog X.w) X.A (evalAll ((backToKw pos (keywordEach kws X.env)).map (·.2))) (AP X pins σ Q) X.xe s
section
variable {X:Cx} {CX:CXT} {k:Nat} {f C:Addr} {fd:FuncData} {ps ks:List Str} {sp:Sp} {E:XK} {x m:Str} {p pos apos kpos:Pos} {e o:Expr} {es:List Expr} {kws:List Keyword} {te ta:TE} {t tk:TA} {nm:Option Str}
theorem aDH:PK X [] aJB:=fun _ _ _ _ H Q I h=>wpAny_evalAll_nil ⟨[],H,I,.nil,h⟩
theorem awD (ha:PE X e te) (hr:PK X kws t):PK X (⟨nm,e,kpos⟩ :: kws) (aB6 te t):=by
  intro pos pins s σ H Q I h
  show wpAny _ _ (evalAll ((do let v ← eval e X.env;standAt pos;pure v) :: (backToKw pos (keywordEach kws X.env)).map (·.2))) _ _ s
  refine wpAny_evalAll_cons (wpAny_bind (dN (ha pins s σ H _ I h) fun u s1 ⟨x,H1,I1,r1,q1⟩=>wpAny_bind (wpAny_standAt (wpAny_pure ?_))))
  exact dN (hr pos pins s1 σ H1 _ I1 q1) fun us s2 ⟨xs,H2,I2,r2,q2⟩=>⟨x :: xs,H2,I2,.cons r1 r2,q2⟩
variable {g:List Value→List Value→List Value} {gV:List V→List V→List V}
end
structure bG (N P:List Str) (sc:Scope):Prop where
  kind:sc.kind = .function
  co:sc.isCoroutine=false
  gen:sc.isGenerator=false
  nd:N.Nodup
  pre:N.take P.length=P
  par:∀ x∈P,sc.names.lookup x=some .local∨sc.names.lookup x=some .cell
  aDI:∀ y∈sc.names,y.2 ≠ .free
theorem acC {kindOf:Str→Option NameKind} {x:Str}:∀ {binds:List (Str×Value)} {m:Str→Option Value},(∀ v,(x,v) ∉ binds)→bindL kindOf binds m x=m x
  | [],_,_=>rfl
  | (n,v) :: r,m,h=>by
    unfold bindL
    rw [acC fun w hw=>h w (List.mem_cons_of_mem _ hw)]
    split
    · have:x≠n:=by rintro rfl;exact h v List.mem_cons_self
      simp [this]
    · rfl
theorem acD {kindOf:Str→Option NameKind} {x:Str}:∀ {binds:List (Str×Value)} {m:Str→Option Value},(∀ v,(x,v) ∉ binds)→bindC kindOf binds m x=m x
  | [],_,_=>rfl
  | (n,v) :: r,m,h=>by
    unfold bindC
    rw [acD fun w hw=>h w (List.mem_cons_of_mem _ hw)]
    split
    · rfl
    · have:x≠n:=by rintro rfl;exact h v List.mem_cons_self
      simp [this]
theorem acE {kindOf:Str→Option NameKind} {x:Str} {v:Value}:∀ {P:List Str} {vs:List Value} {i:Nat} {m:Str→Option Value},P.Nodup→P[i]?=some x→vs[i]?=some v→kindOf x=some .local →
    bindL kindOf (P.zip vs) m x=some v
  | [],_,_,_,_,h,_,_=>by simp at h
  | _ :: _,[],_,_,_,_,h,_=>by simp at h
  | p :: P,w :: vs,0,m,nd,h1,h2,hk=>by
    simp at h1 h2;subst h1;subst h2
    show bindL kindOf ((p,w) :: P.zip vs) m p=_
    unfold bindL
    rw [acC fun v hv=>(List.nodup_cons.mp nd).1 (List.of_mem_zip hv).1,if_pos hk]
    simp
  | p :: P,w :: vs,i+1,m,nd,h1,h2,hk=>by
    show bindL kindOf ((p,w) :: P.zip vs) m x=_
    unfold bindL
    exact acE (i:=i) (List.nodup_cons.mp nd).2 (by simpa using h1) (by simpa using h2) hk
theorem acF {kindOf:Str→Option NameKind} {x:Str} {v:Value}:∀ {P:List Str} {vs:List Value} {i:Nat} {m:Str→Option Value},P.Nodup→P[i]?=some x→vs[i]?=some v→kindOf x≠some .local →
    bindC kindOf (P.zip vs) m x=some v
  | [],_,_,_,_,h,_,_=>by simp at h
  | _ :: _,[],_,_,_,_,h,_=>by simp at h
  | p :: P,w :: vs,0,m,nd,h1,h2,hk=>by
    simp at h1 h2;subst h1;subst h2
    show bindC kindOf ((p,w) :: P.zip vs) m p=_
    unfold bindC
    rw [acD fun v hv=>(List.nodup_cons.mp nd).1 (List.of_mem_zip hv).1,if_neg hk]
    simp
  | p :: P,w :: vs,i+1,m,nd,h1,h2,hk=>by
    show bindC kindOf ((p,w) :: P.zip vs) m x=_
    unfold bindC
    exact acF (i:=i) (List.nodup_cons.mp nd).2 (by simpa using h1) (by simpa using h2) hk
def start (N:List Str) (vs:List V):St:=vs.map some++List.replicate (N.length - vs.length) none
def qN (qt:Bool) (CX:CXT) (P:Program) (w:World) (K:PySem.W.Frag) (mg:Str→Option Value) (base:Heap) (N:List Str) (qual:Str) (scope:Scope) (f:Addr) (cd:Value) (A:Around) (outer:List Env) (s:Shared) (H:Hp) (E:XK):Cx where
  prog:=P
  w:=w
  K:=K
  mg:=mg
  base:=base
  A:=A.deeper (envOfC qual scope s.heap.objs.size f cd)
  N:=N
  s₀:=s
  H₀:=H
  env:=envOfC qual scope s.heap.objs.size f cd
  outer:=outer
  stack:=envOfC qual scope s.heap.objs.size f cd :: outer
  ex:=[]
  calm:=!qt
  fn:=fun _=>true
  pn:=[]
  tp:=[]
  xe:=fun e s'=>wpAny (model P w) (A.deeper (envOfC qual scope s.heap.objs.size f cd)) (leaving (envOfC qual scope s.heap.objs.size f cd) e) (fun _ s''=>CX outer H s E e s'') (fun e' s''=>CX outer H s E e' s'') s'
theorem agI {sc:Scope} {n:Nat} {x:Str} (h:sc.names.lookup x=some .cell):∃ c,(cellsFrom n sc.names []).lookup x=some c:=by
  have q:=PySem.W.cellsFrom_some sc.names n [] (.inl h)
  exact Option.isSome_iff_exists.mp q
theorem ao5 {CX:CXT} {P:Program} {w:World} {K:PySem.W.Frag} {mg:Str→Option Value} {base:Heap} {N ps:List Str} {qual:Str} {scope:Scope} {f:Addr} {cd:Value} {A:Around} {outer:List Env} {s s1:Shared} {H:Hp} {E:XK} {us:List Value} {vs:List V}
    (S:bG N ps scope) (hd:qt=false→A.handled=none) (e0:abF P w K mg base A outer s H) (hl:vs.length=ps.length) (r:Vals vs us)
    (x:InCallC s s.heap.objs.size (bindL (envOfC qual scope s.heap.objs.size f cd).kindOf (ps.zip us) fun _=>none) (cellsFrom (s.heap.objs.size+1) scope.names []) (bindC (envOfC qual scope s.heap.objs.size f cd).kindOf (ps.zip us) fun _=>none) s1) :
    Inv (qN qt CX P w K mg base N qual scope f cd A outer s H E) [] (start N vs) H s1:=by
  have hpl:ps.length≤N.length:=by have:=congrArg List.length S.pre;rw [List.length_take] at this;omega
  obtain ⟨h1,tk,rfl,hk⟩:=x.done
  have noA:∀ b:Addr,b ∉ (qN qt CX P w K mg base N qual scope f cd A outer s H E).ex:=fun b z=>absurd (show b∈([]:List Addr) from z) (by simp)
  refine ⟨⟨e0.mod,S.kind,rfl,rfl,Nat.le_refl _,fun y z c h1 h2=>?_,fun y hy=>?_,fun y c _ h=>?_,fun z=>hd (by cases qt with | false=>rfl | true=>cases z),Around.frames_deeper e0.frames,.inr ⟨rfl,rfl⟩,fun b z=>absurd z (noA b),e0.bs,e0.bsz,fun b _ _=>noA b,fun b z=>absurd z (noA b),e0.xC,e0.frf⟩,
    rfl,e0.bare,Un.kept hk,⟨_,x.toInCall.ns,fun i y v h1 h2 h3=>?_⟩,fun y c h=>⟨_,x.cell y c h⟩,e0.hok.fresh (Nat.le_refl _),fun y c h=>?_,fun p hp=>absurd (show p∈([]:List (Addr×Obj)) from hp) (by simp),e0.hok.kept hk,?_,e0.hnd,fun p hp=>absurd (show p∈([]:List (Addr×List V)) from hp) (by simp)⟩
  · exact name_of_addr x.apart (PySem.mem_of_lookup h1) (PySem.mem_of_lookup h2)
  · have hy:scope.names.lookup y=some .cell∨scope.names.lookup y=some .free:=hy
    rcases hy with hy | hy
    · exact agI hy
    · exact absurd rfl (S.aDI _ (PySem.mem_of_lookup hy))
  · exact Nat.le_of_lt (x.above y c (PySem.mem_of_lookup h))
  · have hi:i < vs.length:=by
      unfold start at h2
      by_cases hi:i < vs.length
      · exact hi
      · rw [List.getElem?_append_right (by simpa using hi)] at h2
        rw [List.getElem?_replicate] at h2
        split at h2 <;> cases h2
    have ha:vs[i]?=some v:=by
      unfold start at h2
      rw [List.getElem?_append_left (by simpa using hi),List.getElem?_map] at h2
      cases e:vs[i]? with
      | none=>rw [e] at h2;cases h2
      | some a=>rw [e] at h2;cases h2;rfl
    obtain ⟨u,hu,rv⟩:=r.get ha
    have hp:ps[i]?=some y:=by
      rw [← S.pre,List.getElem?_take_of_lt (by omega)];exact h1
    have ndP:ps.Nodup:=by rw [← S.pre];exact S.nd.sublist (List.take_sublist _ _)
    refine ⟨u,rv,?_⟩
    rcases S.par y (List.mem_of_getElem? hp) with k | k
    · exact .inl ⟨k,acE ndP hp hu k⟩
    · obtain ⟨c,e⟩:=agI (n:=s.heap.objs.size+1) k
      refine .inr ⟨.inl k,c,e,?_⟩
      have q:=x.cell y c e
      rw [acF ndP hp hu (by show scope.names.lookup y≠_;rw [k];decide)] at q
      exact q
  · exact e0.hok.fresh (Nat.le_of_lt (x.above y c (PySem.mem_of_lookup h)))
  · unfold start
    show _=N.length
    rw [List.length_append,List.length_map,List.length_replicate]
    omega
theorem aB7 {CX:CXT} {P:Program} {w:World} {K:PySem.W.Frag} {mg:Str→Option Value} {base:Heap} {k:Nat} {f:Addr} {name qual:Str} {params:Arguments} {body:List Stmt} {scope:Scope} {dV kV doc pm cdv ct oc:Value} {an od:Option Addr}
    {osl:Array (Option Value)} {N ps:List Str} {sp:Sp} (lk:K.lookup f=some ⟨oc,od,.func (PySem.W.fnOf name qual params body scope dV kV doc pm an cdv ct),osl⟩) (hcd:PySem.W.codeIn K cdv qual=true) (S:bG N ps scope)
    (len:∀ vs H Q E,sp vs H Q E→vs.length=ps.length)
    (hbody:∀ (A:Around) (outer:List Env) (s:Shared) (H:Hp) (vs:List V) (Q:VK) (E:XK),iG qt k (A.deeper (envOfC qual scope s.heap.objs.size f cdv))→sp vs H Q E →
      ∃ t,PSs (qN qt CX P w K mg base N qual scope f cdv A outer s H E) body t∧t { nx:=fun _ H'=>Q .non H',rt:=Q } (start N vs) H) :
    cT qt P w K mg base CX (k+1) f (PySem.W.fnOf name qual params body scope dV kV doc pm an cdv ct) ps sp:=by
  refine ⟨len,fun A outer s H args us vs Q E hr e0 hb r hsp=>?_⟩
  have hl:=len _ _ _ _ hsp
  have KX:K.In s.heap:=e0.mod.kin.keeps fun b o e=>(e0.bs b o e).1
  have lim:s.heap.NoLimit:=e0.mod.nolimit.keeps fun b o e=>(e0.bs b o e).1
  have hkind:∀ y∈ps.zip us,scope.names.lookup y.1=some .local∨(scope.names.lookup y.1=some .cell∧((cellsFrom (s.heap.objs.size+1) scope.names []).lookup y.1).isSome=true):=fun ⟨n,v⟩ hy=>by
    rcases S.par n (List.of_mem_zip hy).1 with q | q
    · exact .inl q
    · exact .inr ⟨q,PySem.W.cellsFrom_some _ _ _ (.inl q)⟩
  refine codeAny_call_function hr.depth (KX _ _ lk) rfl S.co S.gen rfl (PySem.W.codeRec_of KX hcd) (hb _ _ _ _ ?_)
  refine wpAny_newFunctionEnv_cells S.kind hkind fun env he s1 x=>?_
  subst he
  refine ⟨lim.keeps x.toInCall.keep,codeAny_func ?_⟩
  obtain ⟨t,ht,hq⟩:=hbody A outer s H vs Q E (hr.deeper _) hsp
  have I:Inv (qN qt CX P w K mg base N qual scope f cdv A outer s H E) [] (start N vs) H s1:=ao5 S hr.hd e0 hl r x
  refine wpAny_mono (ht [] s1 (start N vs) H _ I hq) (fun fl s' hs=>?_) fun e s' hs=>hs
  have fin:∀ {σ':St} {H':Hp} {v:V} {u:Value},Inv (qN qt CX P w K mg base N qual scope f cdv A outer s H E) [] σ' H' s'→RelV v u→Q v H'→CE outer P w H s Q u s' :=
    fun {σ' H' v u} J rv q=>⟨v,H',J.os,J.bare,J.base,J.hok,rv,q⟩
  cases fl with
  | ret u =>
    obtain ⟨v,σ',H',J,rv,q⟩:=hs
    exact fin J rv q
  | next =>
    obtain ⟨σ',H',J,q⟩:=hs
    exact fin (v:=V.non) (u:=Value.none) J rfl q
  | brk =>
    obtain ⟨_,_,_,q⟩:=hs
    exact False.elim q
  | cont =>
    obtain ⟨_,_,_,q⟩:=hs
    exact False.elim q
end L2
namespace L2
open PySem PySem.Spec PyProof.Rows
section
variable {X:Cx} {x:Str} {p pos:Pos} {e:Expr} {es:List Expr} {t:TA} {id T:String} {r:List V→Hp→VK→Prop}
end
end L2
namespace L2
open PySem PySem.Spec PyProof.Rows
section
variable {κ:Type} [DecidableEq κ]
def a0Y (kvs:List (κ×V)) (k:κ):Option V:=(kvs.find? fun kv=>decide (kv.1=k)).map (·.2)
def putK (kvs:List (κ×V)) (k:κ) (v:V):List (κ×V) :=
  if (kvs.any fun kv=>decide (kv.1=k))=true then kvs.map (fun kv=>if kv.1=k then (kv.1,v) else kv) else kvs++[(k,v)]
def alO (kvs:List (κ×V)) (k:κ):List (κ×V):=kvs.filter fun kv=>decide (kv.1≠k)
theorem a2I {p:κ×V} {r:List (κ×V)} {k:κ} (e:p.1=k):a0Y (p :: r) k=some p.2:=by simp [a0Y,List.find?_cons,e]
theorem a2J {p:κ×V} {r:List (κ×V)} {k:κ} (e:¬ p.1=k):a0Y (p :: r) k=a0Y r k:=by simp [a0Y,List.find?_cons,e]
theorem a8L (k:κ):∀ kvs:List (κ×V),(kvs.any fun kv=>decide (kv.1=k))=(a0Y kvs k).isSome
  | []=>rfl
  | p :: r=>by
    rw [List.any_cons]
    by_cases e:p.1=k
    · simp only [a2I e,decide_eq_true e,Bool.true_or,Option.isSome_some]
    · rw [a2J e,decide_eq_false e,Bool.false_or];exact a8L k r
theorem qR (kvs:List (κ×V)) (k:κ) (v:V):(putK kvs k v).length≤kvs.length+1:=by
  unfold putK
  split
  · rw [List.length_map];omega
  · rw [List.length_append,List.length_cons,List.length_nil];omega
theorem a7C.ao6 {o:Option V} {u:Option Value} (r:a7C o u):o.isSome=u.isSome:=by
  cases o with
  | none=>cases u with
    | none=>rfl
    | some _=>exact (show False from r).elim
  | some _=>cases u with
    | none=>exact (show False from r).elim
    | some _=>rfl
theorem a7C.getD {o:Option V} {u:Option Value} {d:V} {d':Value} (r:a7C o u) (rd:RelV d d'):RelV (o.getD d) (u.getD d'):=by
  cases o with
  | none=>cases u with
    | none=>exact rd
    | some _=>exact (show False from r).elim
  | some _=>cases u with
    | none=>exact (show False from r).elim
    | some _=>exact r
theorem KV.val {kvs:List (κ×V)} {vs:List (κ×Value)} (r:KV kvs vs) (k:κ):a7C (a0Y kvs k) (valueAt vs k):=by
  unfold KV at r
  induction r with
  | nil=>exact True.intro
  | @cons p q ps qs h t ih =>
    obtain ⟨h1,h2⟩:=h
    by_cases e:p.1=k
    · have e':q.1=k:=h1.symm.trans e
      have b:valueAt (q :: qs) k=some q.2:=by simp [valueAt,List.find?_cons,e']
      rw [a2I e,b];exact h2
    · have e':¬ q.1=k:=fun z=>e (h1.trans z)
      have b:valueAt (q :: qs) k=valueAt qs k:=by simp [valueAt,List.find?_cons,e']
      rw [a2J e,b];exact ih
theorem KV.any {kvs:List (κ×V)} {vs:List (κ×Value)} (r:KV kvs vs) (k:κ):(kvs.any fun kv=>decide (kv.1=k))=vs.any fun kv=>decide (kv.1=k):=by
  unfold KV at r
  induction r with
  | nil=>rfl
  | cons h t ih=>rw [List.any_cons,List.any_cons,ih,h.1]
theorem KV.repl {kvs:List (κ×V)} {vs:List (κ×Value)} (r:KV kvs vs) (k:κ) {y:V} {u:Value} (ry:RelV y u) :
    KV (kvs.map fun kv=>if kv.1=k then (kv.1,y) else kv) (vs.map fun kv=>if kv.1=k then (kv.1,u) else kv):=by
  unfold KV at r ⊢
  induction r with
  | nil=>exact .nil
  | @cons p q ps qs h t ih =>
    rw [List.map_cons,List.map_cons]
    refine .cons ?_ ih
    obtain ⟨h1,h2⟩:=h
    by_cases e:p.1=k
    · rw [if_pos e,if_pos (h1.symm.trans e)];exact ⟨h1,ry⟩
    · rw [if_neg e,if_neg (fun z=>e (h1.trans z))];exact ⟨h1,h2⟩
theorem KV.put {kvs:List (κ×V)} {vs:List (κ×Value)} (r:KV kvs vs) (k:κ) {y:V} {u:Value} (ry:RelV y u):KV (putK kvs k y) (stored vs k u):=by
  unfold putK stored
  rw [r.any k]
  by_cases e:(vs.any fun kv=>decide (kv.1=k))=true
  · rw [if_pos e,if_pos e];exact r.repl k ry
  · rw [if_neg e,if_neg e];exact Paired.snoc r ⟨rfl,ry⟩
theorem KV.drop {kvs:List (κ×V)} {vs:List (κ×Value)} (r:KV kvs vs) (k:κ):KV (alO kvs k) (without vs k):=by
  unfold KV at r ⊢
  unfold alO without
  induction r with
  | nil=>exact .nil
  | @cons p q ps qs h t ih =>
    obtain ⟨h1,h2⟩:=h
    rw [List.filter_cons,List.filter_cons]
    by_cases e:p.1=k
    · have a:¬ decide (p.1≠k)=true:=by simp [e]
      have b:¬ decide (q.1≠k)=true:=by simp [h1.symm.trans e]
      rw [if_neg a,if_neg b];exact ih
    · have e':¬ q.1=k:=fun z=>e (h1.trans z)
      have a:decide (p.1≠k)=true:=by simp [e]
      have b:decide (q.1≠k)=true:=by simp [e']
      rw [if_pos a,if_pos b];exact .cons ⟨h1,h2⟩ ih
theorem KV.keys {kvs:List (κ×V)} {vs:List (κ×Value)} (r:KV kvs vs):kvs.map (·.1)=vs.map (·.1):=by
  unfold KV at r
  induction r with
  | nil=>rfl
  | cons h t ih=>rw [List.map_cons,List.map_cons,ih,h.1]
theorem KV.length {kvs:List (κ×V)} {vs:List (κ×Value)} (r:KV kvs vs):kvs.length=vs.length:=Paired.length r
end
theorem agJ {P:Program} {w:World} {k:Key} {u:Value} (r:RelV (kV k) u):(bW P w).is k u=true:=by
  cases k with
  | inl i=>obtain ⟨t,e⟩:=(show ∃ t,u=Value.int i t from r);subst e;exact agC P w i t
  | inr x=>obtain ⟨t,e⟩:=(show ∃ t,u=Value.str x t from r);subst e;exact agD P w x t
theorem acG {P:Program} {w:World}:∀ {ks:List Key} {us:List Value},Vals (ks.map kV) us→ItemsAre (bW P w) ks us
  | [],_,r=>by rw [List.map_nil] at r;cases r;exact .nil
  | k :: ks,_,r=>by
    rw [List.map_cons] at r
    cases r with
    | cons h t=>exact .cons (agJ h) (acG t)
abbrev KT (H:Hp):List (List Key×V)→List (List Key×Addr×Value)→Prop:=Paired fun p q=>p.1=q.1∧H q.2.1=some (.tup (p.1.map kV))∧RelV p.2 q.2.2
theorem KT.val {H:Hp} {kvs:List (List Key×V)} {xs:List (List Key×Addr×Value)} (r:KT H kvs xs) (k:List Key):a7C (a0Y kvs k) ((atKey xs k).map (·.2)):=by
  induction r with
  | nil=>exact True.intro
  | @cons p q ps qs h t ih =>
    obtain ⟨h1,_,h2⟩:=h
    by_cases e:p.1=k
    · have e':q.1=k:=h1.symm.trans e
      have b:atKey (q :: qs) k=some q.2:=by simp [atKey,List.find?_cons,e']
      rw [a2I e,b];exact h2
    · have e':¬ q.1=k:=fun z=>e (h1.trans z)
      have b:atKey (q :: qs) k=atKey qs k:=by simp [atKey,List.find?_cons,e']
      rw [a2J e,b];exact ih
theorem KT.repl {H:Hp} {kvs:List (List Key×V)} {xs:List (List Key×Addr×Value)} (r:KT H kvs xs) (k:List Key) {y:V} {u:Value} (ry:RelV y u) :
    KT H (kvs.map fun kv=>if kv.1=k then (kv.1,y) else kv) (xs.map (putAt k u)):=by
  induction r with
  | nil=>exact .nil
  | @cons p q ps qs h t ih =>
    rw [List.map_cons,List.map_cons]
    refine .cons ?_ ih
    obtain ⟨h1,h2,h3⟩:=h
    unfold putAt
    by_cases e:p.1=k
    · rw [if_pos e,if_pos (h1.symm.trans e)];exact ⟨h1,h2,ry⟩
    · rw [if_neg e,if_neg (fun z=>e (h1.trans z))];exact ⟨h1,h2,h3⟩
theorem KT.put {H:Hp} {kvs:List (List Key×V)} {xs:List (List Key×Addr×Value)} (r:KT H kvs xs) (k:List Key) {b:Addr} {y:V} {u:Value} (hb:H b=some (.tup (k.map kV))) (ry:RelV y u) :
    KT H (putK kvs k y) (storedH xs k b u):=by
  have e:(kvs.any fun kv=>decide (kv.1=k))=(atKey xs k).isSome:=by
    rw [a8L,(r.val k).ao6,Option.isSome_map]
  unfold putK storedH
  rw [e]
  by_cases q:(atKey xs k).isSome=true
  · rw [if_pos q,if_pos q];exact r.repl k ry
  · rw [if_neg q,if_neg q];exact Paired.snoc r ⟨rfl,hb,ry⟩
theorem KT.keeps {H H':Hp} {kvs:List (List Key×V)} {xs:List (List Key×Addr×Value)} (r:KT H kvs xs) (ht:∀ b ys,H b=some (.tup ys)→H' b=some (.tup ys)):KT H' kvs xs :=
  Paired.aCO r fun _ _ z=>⟨z.1,ht _ _ z.2.1,z.2.2⟩
section
variable {P:Program} {w:World} {H:Hp} {h:Heap} {a:Addr}
theorem aB8 {u:HO} (ok:HOk P w H h) (e:Rd H a u):fQ P w H h a u:=e.ok ok
theorem a68 {kvs:List (Key×V)} (ok:HOk P w H h) (e:Rd H a (.dK kvs)):kvs.length≤sizeLine∧(a == sysModules)=false∧∃ vs,KV kvs vs∧h.DictOf (bW P w) a vs :=
  show fQ P w H h a (.dK kvs) from aB8 ok e
theorem aB9 {kvs:List (Key×V)} (ok:HOk P w H h) (e:H a=some (.dK kvs)):kvs.length≤sizeLine∧(a == sysModules)=false∧∃ vs,KV kvs vs∧h.DictOf (bW P w) a vs:=a68 ok (.inl e)
theorem a8M {ks:List Key} (ok:HOk P w H h) (e:H a=some (.tup (ks.map kV))):(tupleKind (bW P w)).is h ks a:=by
  obtain ⟨_,its,r,o,h1,h2,n,h3⟩:=(show fQ P w H h a (.tup (ks.map kV)) from ok a _ e)
  exact ⟨o,its.toArray,n,h1,h2,h3,by simpa using acG r⟩
theorem acH {kvs:List (List Key×V)} (ok:HOk P w H h) (e:Rd H a (.dT kvs)):kvs.length≤sizeLine∧(a == sysModules)=false ∧
    ∃ xs,KT H kvs xs∧h.DictOfH (tupleKind (bW P w)) a xs:=by
  obtain ⟨z,y,xs,r,o,es,ep,h1,h2,h3,h4,h5⟩:=(show fQ P w H h a (.dT kvs) from aB8 ok e)
  refine ⟨z,y,xs,r,o,es,ep,h1,h2,h3,h4,fun x hx=>?_,h5⟩
  have all:∀ {l:List (List Key×V)} {m:List (List Key×Addr×Value)},KT H l m→∀ x∈m,(tupleKind (bW P w)).is h x.1 x.2.1:=by
    intro l m q
    induction q with
    | nil=>intro x hx;exact nomatch hx
    | @cons p q ps qs hq t ih =>
      intro x hx
      rcases List.mem_cons.mp hx with e | hx
      · subst e
        exact a8M ok (by rw [← hq.1];exact hq.2.1)
      · exact ih x hx
  exact all r x hx
theorem aBA {kvs:List (List Key×V)} (ok:HOk P w H h) (e:H a=some (.dT kvs)):kvs.length≤sizeLine∧(a == sysModules)=false ∧
    ∃ xs,KT H kvs xs∧h.DictOfH (tupleKind (bW P w)) a xs:=acH ok (.inl e)
end
def a4L (H:Hp) (a:Addr) (y:V) (r:Option V):Prop :=
  (∃ kvs k,Rd H a (.dK kvs)∧y=kV k∧r=a0Y kvs k)∨∃ kvs k b,Rd H a (.dT kvs)∧y = .ref b∧H b=some (.tup (k.map kV))∧r=a0Y kvs k
def agK (H:Hp) (a:Addr) (y v:V) (H':Hp):Prop :=
  (∃ kvs k,H a=some (.dK kvs)∧y=kV k∧kvs.length < sizeLine∧H'=upd H a (.dK (putK kvs k v))) ∨
  ∃ kvs k b,H a=some (.dT kvs)∧y = .ref b∧H b=some (.tup (k.map kV))∧kvs.length < sizeLine∧H'=upd H a (.dT (putK kvs k v))
theorem a4L.k {H:Hp} {a:Addr} {kvs:List (Key×V)} {k:Key} (e:H a=some (.dK kvs)):a4L H a (kV k) (a0Y kvs k) := .inl ⟨kvs,k,.inl e,rfl,rfl⟩
theorem a4L.t {H:Hp} {a b:Addr} {kvs:List (List Key×V)} {k:List Key} (e:H a=some (.dT kvs)) (eb:H b=some (.tup (k.map kV))):a4L H a (.ref b) (a0Y kvs k) := .inr ⟨kvs,k,b,.inl e,rfl,eb,rfl⟩
theorem agK.k {H:Hp} {a:Addr} {kvs:List (Key×V)} {k:Key} {v:V} (e:H a=some (.dK kvs)) (hl:kvs.length < sizeLine):agK H a (kV k) v (upd H a (.dK (putK kvs k v))) := .inl ⟨kvs,k,e,rfl,hl,rfl⟩
theorem agK.t {H:Hp} {a b:Addr} {kvs:List (List Key×V)} {k:List Key} {v:V} (e:H a=some (.dT kvs)) (eb:H b=some (.tup (k.map kV))) (hl:kvs.length < sizeLine) :
    agK H a (.ref b) v (upd H a (.dT (putK kvs k v))) := .inr ⟨kvs,k,b,e,rfl,eb,hl,rfl⟩
section
variable {X:Cx} {pins:List (Addr×Obj)} {σ:St} {H:Hp} {s:Shared} {a:Addr} {y v:V} {u r:Value} {o:Option V} {A:Around} {E:Value→Shared→Prop}
theorem Inv.big (I:Inv X pins σ H s):sysModules < s.heap.objs.size:=by
  have h:mainGlobals < s.heap.objs.size:=(I.mod.glob.keeps I.bk).lt
  exact Nat.lt_trans (by decide) h
theorem ao7 {Q:Value→Shared→Prop} (hu:A.units+1 < cLine) (I:Inv X pins σ H s) (g:a4L H a y (some v)) (ry:RelV y u) (h:∀ w' s',Inv X pins σ H s'→RelV v w'→Q w' s') :
    wpAny (model X.prog X.w) A (getItem (.ref a) u) Q E s:=by
  rcases g with ⟨kvs,k,e,ey,l⟩ | ⟨kvs,k,b,e,ey,eb,l⟩
  · subst ey
    obtain ⟨z,hd,vs,rel,dd⟩:=a68 I.hok e
    obtain ⟨w',hw,rw'⟩:=a7C.some_of (v:=v) (o:=valueAt vs k) (by rw [l];exact rel.val k)
    exact wpAny_getItem_of (agJ ry) dd.mapOf hw (h w' _ (I.tok _) rw')
  · subst ey
    cases (show u=Value.ref b from ry)
    obtain ⟨z,hd,xs,rel,dd⟩:=acH I.hok e
    obtain ⟨w',hw,rw'⟩:=a7C.some_of (v:=v) (o:=(atKey xs k).map (·.2)) (by rw [l];exact rel.val k)
    obtain ⟨p,hp,hp2⟩:=Option.map_eq_some_iff.mp hw
    refine wpAny_getItem_heap (tupleKind_room_in1 hu) (a8M I.hok eb) dd hp ?_
    rw [hp2]
    exact h w' _ (I.tok _) rw'
theorem a83 {h':Heap} {t':Nat} {ob:HO} (I:Inv X pins σ H s) (mu:Mut (H a)) (hs:Heap.SameBut a s.heap h') (he:∃ q,h'.get? a=some q) (new:fQ X.prog X.w (upd H a ob) h' a ob) :
    Inv X pins σ (upd H a ob) { s with heap:=h',toks:=t' } :=
  I.write (x:=a) (e:=a) mu (.inl rfl) (fun b q hb z=>(hs.2 b hb).trans z) he new
theorem aqM {P:Program} {w:World} {H':Hp} {h':Heap} {kvs:List (Key×V)} {vs:List (Key×Value)} (z:kvs.length≤sizeLine) (hd:(a == sysModules)=false) (rel:KV kvs vs) (dd:h'.DictOf (bW P w) a vs) :
    fQ P w H' h' a (.dK kvs):=⟨z,hd,vs,rel,dd⟩
theorem ao9 {H':Hp} {Q:Unit→Shared→Prop} (hu:A.units+1 < cLine) (I:Inv X pins σ H s) (g:agK H a y v H') (ry:RelV y u) (rv:RelV v r) (h:∀ s',Inv X pins σ H' s'→Q () s') :
    wpAny (model X.prog X.w) A (setItem (.ref a) u r) Q E s:=by
  rcases g with ⟨kvs,k,e,ey,l,eH⟩ | ⟨kvs,k,b,e,ey,eb,l,eH⟩
  · subst ey eH
    obtain ⟨z,hd,vs,rel,dd⟩:=aB9 I.hok e
    have hz:vs.length≤sizeLine:=by rw [← rel.length];exact z
    have hl:(putK kvs k v).length≤sizeLine:=by have:=qR kvs k v;omega
    refine wpAny_setItem_pairs (hsz:=hz) (agJ ry) dd fun h' dd' hs=>h _ ?_
    have he:∃ q,h'.get? a=some q:=let ⟨q,_,_,hq,_⟩:=dd';⟨q,hq⟩
    exact a83 I (by rw [e];exact True.intro) hs he (aqM hl hd (rel.put k rv) dd')
  · subst ey eH
    cases (show u=Value.ref b from ry)
    obtain ⟨z,hd,xs,rel,dd⟩:=aBA I.hok e
    have hz:xs.length≤sizeLine:=by rw [← Paired.length rel];exact z
    have hl:(putK kvs k v).length≤sizeLine:=by have:=qR kvs k v;omega
    refine wpAny_setItem_heap (hsz:=hz) (tupleKind_room_in1 hu) (a8M I.hok eb) dd fun h' dd' hs=>h _ ?_
    obtain ⟨q,es,ep,hq,h2,h3,h4,_,h5⟩:=dd'
    refine a83 I (by rw [e];exact True.intro) hs ⟨q,hq⟩ ⟨hl,hd,_,(rel.put k eb rv).keeps fun c ys ec=>?_,q,es,ep,hq,h2,h3,h4,h5⟩
    rw [aU (aB1 ec e (fun z=>nomatch z))]
    exact ec
end
section
variable {X:Cx} {pins:List (Addr×Obj)} {σ:St} {H:Hp} {s:Shared} {a:Addr} {kvs:List (Key×V)} {k:Key} {u:Value} {A:Around} {E:Value→Shared→Prop}
end
def aDJ (i:Expr):Prop:=∀ ov iv,subscripted i false ov iv=operate [ov,iv] (getItem ov iv)
theorem awF {prog:Program} {w:World} {A:Around} {E:Value→Shared→Prop} {s:Shared} {env:Env} {value slice:Expr} {pos:Pos} {T id:String} {Q:Value→Shared→Prop}
    (hl:typeLookup (.type T) "__getitem__" = pure (some (.builtin id))) (hs:aDJ slice)
    (h:wpAny (model prog w) A (eval value env) (fun o s₁=>wpAny (model prog w) A (eval slice env) (fun i s₂=>s₂.TypeIs o T∧wpAny (model prog w) A (getItem o i) Q E s₂) E s₁) E s) :
    wpAny (model prog w) A (eval (.Subscript value slice pos) env) Q E s:=by
  refine Subscript_ (wpAny_mono h (fun o s₁ h₁=>wpAny_mono h₁ (fun i s₂ h₂=>?_) fun _ _ x=>x) fun _ _ x=>x)
  obtain ⟨hT,h₂⟩:=h₂
  unfold subscriptTail
  refine wpAny_bind ?_
  rw [getitemInPython_of_ne hT.not_modules]
  refine wpAny_bind (wpAny_specialOf hT hl ?_)
  have fin:wpAny (model prog w) A (subscripted slice false o i) (fun r s₃=>wpAny (model prog w) A (letTemporaryGo value o r >>= fun _=>pure r) Q E s₃) E s₂:=by
    rw [hs o i]
    exact wpAny_operating (wpAny_mono h₂ (fun r s₃ h₃=>wpAny_bind (wpAny_letTemporaryGo (wpAny_pure h₃))) fun _ _ x=>x)
  first
    | exact wpAny_pure (wpAny_bind fin)
    | exact wpAny_bind (wpAny_pure (wpAny_bind fin))
    | exact wpAny_bind fin
theorem agL {X:Cx} {pins:List (Addr×Obj)} {σ:St} {H:Hp} {s:Shared} {a:Addr} {y:V} {o:Option V} (I:Inv X pins σ H s) (g:a4L H a y o):s.TypeIs (.ref a) "dict" := by
  rcases g with ⟨kvs,k,e,_,_⟩ | ⟨kvs,k,b,e,_,_,_⟩
  · obtain ⟨_,_,vs,_,dd⟩:=a68 I.hok e
    exact dd.typeIs
  · obtain ⟨_,_,xs,_,dd⟩:=acH I.hok e
    exact dd.typeIs
def aJD (td ty:TE):TE:=fun σ H Q=>td σ H fun x H1=>ty σ H1 fun y H2=>∃ a v,x = .ref a∧a4L H2 a y (some v)∧Q v H2
def aJE (td ty tv:TE):TS:=fun D σ H=>tv σ H fun v H1=>td σ H1 fun x H2=>ty σ H2 fun y H3=>∃ a H4,x = .ref a∧agK H3 a y v H4∧D.nx σ H4
section
variable {X:Cx} {o i e value:Expr} {pos pos' tpos:Pos} {td ty tv:TE}
theorem awG (hu:X.A.units+1 < cLine) (ho:PE X o td) (hi:PE X i ty) (hs:aDJ i):PE X (.Subscript o i pos) (aJD td ty):=by
  intro pins s σ H Q I h
  refine awF PySem.F.slot_dict_getitem.lookup hs (dN (ho pins s σ H _ I h) fun u s1 ⟨x,H1,I1,rx,q1⟩=>dN (hi pins s1 σ H1 _ I1 q1) fun iv s2 ⟨y,H2,I2,ry,a,v,ex,g,q2⟩=>?_)
  subst ex
  obtain rfl:u=Value.ref a:=rx
  exact ⟨agL I2 g,ao7 hu I2 g ry fun w' s3 I3 rw'=>⟨v,H2,I3,rw',q2⟩⟩
theorem awH (hu:X.A.units+1 < cLine) (ho:PE X o td) (hi:PE X i ty) (hv:PE X value tv) (hs:swapsWith value (some (.Subscript o i pos')) pos.line X.env=pure false) :
    PS X (.Assign [.Subscript o i pos'] value pos) (aJE td ty tv):=by
  intro pins s σ H D I h
  refine wpAny_Assign_Subscript (dN (hv pins s σ H _ I h) fun r s1 ⟨v,H1,I1,rv,q1⟩=>dN (ho pins s1 σ H1 _ I1 q1) fun u s2 ⟨x,H2,I2,rx,q2⟩=>dN (hi pins s2 σ H2 _ I2 q2) fun iv s3 ⟨y,H3,I3,ry,a,H4,ex,g,q3⟩=>?_) hs
  subst ex
  obtain rfl:u=Value.ref a:=rx
  exact ao9 hu I3 g ry rv fun s4 I4=>⟨σ,H4,I4,q3⟩
end
theorem agM {P:Program} {w:World} {H:Hp} (h:Heap) (hb:sysModules < h.objs.size):fQ P w H (h.push { cls := .type "dict",data := .dict #[] }) h.objs.size (.dK []) :=
  ⟨Nat.zero_le _,beq_eq_false_iff_ne.mpr (Ne.symm (Nat.ne_of_lt hb)),[],.nil,Heap.DictOf.new h⟩
theorem aqN {P:Program} {w:World} {H:Hp} (h:Heap) (hb:sysModules < h.objs.size):fQ P w H (h.push { cls := .type "dict",data := .dict #[] }) h.objs.size (.dT []) :=
  ⟨Nat.zero_le _,beq_eq_false_iff_ne.mpr (Ne.symm (Nat.ne_of_lt hb)),[],.nil,_,#[],0,Heap.get?_push_size _ rfl,⟨rfl,rfl,rfl⟩,rfl,rfl,List.nodup_nil⟩
def aDK:TE:=fun _ H Q=>∀ p,H p=none→Q (.ref p) (upd H p (.dK []))
section
variable {X:Cx} {pos:Pos}
theorem aqO:PE X (.Dict [] [] pos) aDK:=fun pins s σ H Q I h =>
  wpAny_Dict_empty ⟨.ref s.heap.objs.size,_,I.laid (a:=s.heap.objs.size) (o := .dK []) (t':=s.toks) (fun _ _ q=>Heap.get?_push_of_some _ q) (Nat.le_refl _) (agM s.heap I.big),rfl,h _ (I.hok.fresh (Nat.le_refl _))⟩
end
structure M2 (X:Cx) (o:Expr) (m:Str) (apos:Pos) (e f:Expr) (cpos:Pos):Prop where
  base:attributeBase o m X.env (eval o X.env)=eval o X.env
  few:((backTo cpos (starEach [e,f] X.env)).all (fun x=>!x.1)&&(backToKw cpos (keywordEach [] X.env)).all (fun x=>x.1.isSome)
    && decide (([e,f]:List Expr).length+([]:List Keyword).length+(if ([]:List Keyword).isEmpty then 0 else 1) < 30))=true
  line:(apos.endLine == cpos.line)=true
  trees:backTo cpos (starEach [e,f] X.env)=[(false,eval e X.env),(false,eval f X.env)]
def IsD (H:Hp) (a:Addr):Prop:=(∃ kvs,Rd H a (.dK kvs))∨∃ kvs,Rd H a (.dT kvs)
theorem aqP {X:Cx} {pins:List (Addr×Obj)} {σ:St} {H:Hp} {s:Shared} {a:Addr} (I:Inv X pins σ H s) (d:IsD H a) :
    s.TypeIs (.ref a) "dict" ∧ (∀ b,Value.ref a = .ref b→∃ ob,s.heap.get? b=some ob∧ob.dict=none)∧(a == sysModules)=false:=by
  rcases d with ⟨kvs,e⟩ | ⟨kvs,e⟩
  · obtain ⟨_,hd,vs,_,dd⟩:=a68 I.hok e
    refine ⟨dd.typeIs,fun b q=>?_,hd⟩
    cases q
    obtain ⟨ob,_,_,h1,h2,_⟩:=dd
    exact ⟨ob,h1,h2.2.1⟩
  · obtain ⟨_,hd,xs,_,dd⟩:=acH I.hok e
    refine ⟨dd.typeIs,fun b q=>?_,hd⟩
    cases q
    obtain ⟨ob,_,_,h1,h2,_⟩:=dd
    exact ⟨ob,h1,h2.2.1⟩
section
variable {X:Cx} {pins:List (Addr×Obj)} {σ:St} {H:Hp} {s:Shared} {a:Addr} {y d:V} {u r:Value} {o:Option V} {A:Around} {E:Value→Shared→Prop}
theorem aDL {Q:Value→Shared→Prop} (hu:A.units+1 < cLine) (I:Inv X pins σ H s) (g:a4L H a y o) (ry:RelV y u) (rd:RelV d r) (h:∀ w' s',Inv X pins σ H s'→RelV (o.getD d) w'→Q w' s') :
    wpAny (model X.prog X.w) A (call (.builtin "dict.get") [.ref a,u,r]) Q E s:=by
  rcases g with ⟨kvs,k,e,ey,l⟩ | ⟨kvs,k,b,e,ey,eb,l⟩
  · subst ey
    obtain ⟨z,hd,vs,rel,dd⟩:=a68 I.hok e
    refine call_meetsIn PySem.F.slot_dict_get dd.typeIs PySem.F.entry_dict_get (PySem.F.args_dict_get_3 _ _ _) (meets_dict_get_default (bW X.prog X.w) a (agJ ry) hd r) ⟨_,dd.mapOf,h _ _ (I.tok _) ?_⟩
    rw [l]
    exact (rel.val k).getD rd
  · subst ey
    cases (show u=Value.ref b from ry)
    obtain ⟨z,hd,xs,rel,dd⟩:=acH I.hok e
    refine call_meetsIn PySem.F.slot_dict_get dd.typeIs PySem.F.entry_dict_get (PySem.F.args_dict_get_3 _ _ _) (meetsH_dict_get_default (tupleKind (bW X.prog X.w)) a b hd r) ⟨tupleKind_room_in1 hu,k,xs,a8M I.hok eb,dd,h _ _ (I.tok _) ?_⟩
    rw [l]
    exact (rel.val k).getD rd
end
def aDM (td ty tx:TE):TE:=fun σ H Q=>td σ H fun x H1=>∃ a,x = .ref a∧IsD H1 a∧ty σ H1 fun y H2=>tx σ H2 fun z H3=>∃ o,a4L H3 a y o∧Q (o.getD z) H3
section
variable {X:Cx} {o e f:Expr} {apos cpos:Pos} {td ty tx:TE}
theorem aqQ (hu:X.A.units+1 < cLine) (ho:PE X o td) (he:PE X e ty) (hf:PE X f tx) (m:M2 X o "get" apos e f cpos):PE X (.Call (.Attribute o "get" apos) [e,f] [] cpos) (aDM td ty tx):=by
  intro pins s σ H Q I h
  refine wpAny_Call_method m.base m.few m.line PySem.F.plainAttrs_dict PySem.F.slot_dict_get PySem.F.type_dict_get (dN (ho pins s σ H _ I h) fun u s1 ⟨x,H1,I1,rx,a,ex,d,q1⟩=>?_)
  subst ex
  obtain rfl:u=Value.ref a:=rx
  obtain ⟨t1,t2,_⟩:=aqP I1 d
  refine ⟨t1,t2,?_⟩
  rw [m.trees]
  refine Calls.callWith_builtin rfl (Calls.evalArgs_plain (Calls.spliced_cons (dN (he pins s1 σ H1 _ I1 q1) fun iv s2 ⟨y,H2,I2,ry,q2⟩ =>
    Calls.spliced_cons (dN (hf pins s2 σ H2 _ I2 q2) fun fv s3 ⟨z,H3,I3,rz,ov,g,q3⟩=>Calls.spliced_nil ?_))))
  exact aDL hu I3 g ry rz fun w' s4 I4 rw'=>⟨_,H3,I4,rw',q3⟩
end
section
variable {X:Cx} {pins:List (Addr×Obj)} {σ:St} {H:Hp} {s:Shared} {a:Addr} {kvs:List (Key×V)} {A:Around} {E:Value→Shared→Prop}
end
section
variable {X:Cx} {pins:List (Addr×Obj)} {σ:St} {H:Hp} {s:Shared} {a:Addr} {y:V} {u:Value} {A:Around} {E:Value→Shared→Prop}
end
end L2
namespace HT
open PySem PyProof.Rows
def lexLt:List Int→List Int→Bool
  | [],[]=>false
  | [],_ :: _=>true
  | _ :: _,[]=>false
  | x :: xs,y :: ys=>if x=y then lexLt xs ys else decide (x < y)
theorem ajL (x y:Int) (xs ys:List Int):lexLt (x :: xs) (y :: ys)=if x=y then lexLt xs ys else decide (x < y):=rfl
theorem abG:lexLt [] []=false:=rfl
theorem a8N (y:Int) (ys:List Int):lexLt [] (y :: ys)=true:=rfl
theorem a8O (x:Int) (xs:List Int):lexLt (x :: xs) []=false:=rfl
theorem aqR (A:Around) (s:Shared) (a:Int) (t:Tok) (c:Int) (u:Tok):∃ e,SeqAt.EqAt A s (.int a t) (.int c u) e∧(e=true↔a=c) :=
  ⟨(a == c),SeqAt.EqAt.int_int a t c u,by simp⟩
theorem agN (A:Around) (s:Shared) (a:Int) (t:Tok) (c:Int) (u:Tok) (prog:Program) (w:World) (E:Value→Shared→Prop) (Q:Value→Shared→Prop) (h:Q (.bool (decide (a < c))) s) :
    wpAny (model prog w) A (richCompare .Lt (.int a t) (.int c u)) Q E s :=
  (PyProof.Rows.lt_int h:wpAny (model prog w) A (compareOp .Lt (.int a t) (.int c u)) Q E s)
section
open PySem.SeqAt
open PySem.AutoSeq1 (wpAny_loadPart')
open PySem.MeetsSeq PySem.MeetsSeq2 PySem.MeetsSeq3
theorem abH (l b:Addr) (items items2:Array Value) (n n2:Nat) (dd dd2:Option Addr) (sl sl2:Array (Option Value)) (ns ms:List Int) (hi:IntsAre items.toList ns) (hj:IntsAre items2.toList ms) :
    Meets (Builtin.«tuple.__lt__» ⟨[.ref l,.ref b],[]⟩)
      (fun _ R s=>s.heap.get? l=some { cls := .type "tuple",dict:=dd,data := .seq items n,slots:=sl }∧s.heap.get? b=some { cls := .type "tuple",dict:=dd2,data := .seq items2 n2,slots:=sl2 } ∧
        R (.ok (.ret (.bool (lexLt ns ms)))) s) :=
  .of_wp fun prog w A R s h=>by
    obtain ⟨hp,g,d,tk,os⟩:=s;obtain ⟨hl,hb,h⟩:=h
    have f2:=AutoSeq1.sub_tuple_tuple
    have z1:items.size=ns.length:=by rw [← hi.length];simp
    have z2:items2.size=ms.length:=by rw [← hj.length];simp
    wp_walk using wpAny_loadPart' hl,wpAny_loadPart' hb,wpAny_forIn_list _ (fun rest b s'=>b.1=none∧s'=⟨hp,g,d,tk,os⟩∧∃ (vs ws:List Value) (ns' ms':List Int),rest=vs.zip ws ∧
      IntsAre vs ns'∧IntsAre ws ms'∧ns'.length+items2.size=ms'.length+items.size∧R (.ok (.ret (.bool (lexLt ns' ms')))) ⟨hp,g,d,tk,os⟩) _
    case turn =>
      rintro ⟨y,x⟩ rest b s' ⟨hb',rfl,vs,ws,ns',ms',hz,hvi,hwi,hlen,hR⟩
      cases hvi with
      | nil=>rw [List.zip_nil_left] at hz;cases hz
      | cons a t aOL =>
        cases hwi with
        | nil=>rw [List.zip_nil_right] at hz;cases hz
        | cons c u aOM =>
          rw [List.zip_cons_cons] at hz
          injection hz with hyx hrest
          injection hyx with hy hx
          subst hy hx
          rw [ajL] at hR
          simp only [List.length_cons] at hlen
          obtain ⟨e,he,hiff⟩:=aqR A.in1 ⟨hp,g,d,tk,os⟩ a t c u
          refine wpAny_bind (he prog w _ _ ?_)
          cases e with
          | true =>
            rw [if_pos (hiff.mp rfl)] at hR
            wp_walk
            exact ⟨rfl,rfl,_,_,_,_,hrest,aOL,aOM,by omega,hR⟩
          | false =>
            rw [if_neg (fun q=>absurd (hiff.mpr q) Bool.false_ne_true)] at hR
            have hri:=agN A.in1 ⟨hp,g,d,tk,os⟩ a t c u prog w
            wp_walk using hri
            exact ⟨_,rfl,by simpa using hR⟩
    case fin =>
      rintro ⟨b1,b2⟩ s' ⟨hb',rfl,vs,ws,ns',ms',hz,hvi,hwi,hlen,hR⟩
      simp only at hb'
      subst hb'
      have hv:lexLt ns' ms'=decide (items.size < items2.size):=by
        cases hvi with
        | nil =>
          cases hwi with
          | nil =>
            simp only [List.length_nil] at hlen
            rw [abG]
            exact (decide_eq_false (by omega)).symm
          | cons c u hw =>
            simp only [List.length_nil,List.length_cons] at hlen
            rw [a8N]
            exact (decide_eq_true (by omega)).symm
        | cons a t hv =>
          cases hwi with
          | nil =>
            simp only [List.length_nil,List.length_cons] at hlen
            rw [a8O]
            exact (decide_eq_false (by omega)).symm
          | cons c u hw =>
            rw [List.zip_cons_cons] at hz
            cases hz
      rw [hv] at hR
      wp_walk
      exact ⟨_,rfl,by simpa [Builtin.Tuple.tupleCompareSizes] using hR⟩
    case h =>
      exact ⟨rfl,rfl,items.toList,items2.toList,ns,ms,rfl,hi,hj,by omega,h⟩
end
section
variable {prog:Program} {w:World} {A:Around} {E:Value→Shared→Prop} {s:Shared}
theorem ajM {l b:Addr} {items items2:Array Value} {ns ms:List Int} {Q:Value→Shared→Prop} (hl:IsTup s.heap l items) (hb:IsTup s.heap b items2) (hi:IntsAre items.toList ns) (hj:IntsAre items2.toList ms)
    (hu:A.units < cLine) (h:Q (.bool (lexLt ns ms)) s):wpAny (model prog w) A (compareOp .Lt (.ref l) (.ref b)) Q E s:=by
  obtain ⟨⟨cls,dd,data,sl⟩,ho,hc,n,hd⟩:=id hl
  obtain ⟨⟨cls2,dd2,data2,sl2⟩,ho2,hc2,n2,hd2⟩:=id hb
  simp only at hc hd hc2 hd2
  subst hc hd hc2 hd2
  exact richCompare_meets_room (op := .Lt) ⟨_,ho,rfl⟩ ⟨_,ho2,rfl⟩ PySem.F.slot_tuple_lt PySem.F.entry_tuple_lt (PySem.F.args_tuple_lt_2 _ _) (abH l b items items2 n n2 dd dd2 sl sl2 ns ms hi hj)
    ⟨ho,ho2,show Value.bool (lexLt ns ms)≠Value.notImplemented∧Q (.bool (lexLt ns ms)) s from ⟨(fun x=>nomatch x),h⟩⟩ hu
theorem awI {t b:Addr} {vs ws:List Value} {Q:Value→Shared→Prop} (ht:IsTup s.heap t vs.toArray) (hb:IsTup s.heap b ws.toArray) (hv:vs≠[])
    (h1:ws=[]→Q (.ref t) s) (h2:ws≠[]→Q (.ref s.heap.objs.size) { s with heap:=s.heap.push { cls := .type "tuple",data := .seq (vs++ws).toArray } })
    (hsz:vs.length+ws.length≤sizeLine):wpAny (model prog w) A (binaryOp .Add (.ref t) (.ref b)) Q E s:=by
  obtain ⟨⟨cls,dd,data,sl⟩,ho,hc,n,hd⟩:=id ht
  obtain ⟨⟨cls2,dd2,data2,sl2⟩,ho2,hc2,n2,hd2⟩:=id hb
  simp only at hc hd hc2 hd2
  subst hc hd hc2 hd2
  have e:vs.toArray++ws.toArray=(vs++ws).toArray:=by simp
  by_cases hw:ws=[]
  · exact concat_meets ⟨_,ho,rfl⟩ ⟨_,ho2,rfl⟩ noFill_tuple_add seq_tuple_add PySem.F.slot_tuple_add PySem.F.entry_tuple_add (PySem.F.args_tuple_add_2 _ _)
      (tuple_addW1 t b vs.toArray ws.toArray n n2 dd dd2 sl sl2 (by simpa using hv) (by simp [hw])) ⟨ho,ho2,h1 hw⟩
  · refine concat_meets ⟨_,ho,rfl⟩ ⟨_,ho2,rfl⟩ noFill_tuple_add seq_tuple_add PySem.F.slot_tuple_add PySem.F.entry_tuple_add (PySem.F.args_tuple_add_2 _ _)
      (tuple_addW2 t b vs.toArray ws.toArray n n2 dd dd2 sl sl2 (by simpa using hv) (by simpa using hw) (by rw [List.size_toArray,List.size_toArray];exact hsz)) ⟨ho,ho2,?_⟩
    rw [e]
    exact h2 hw
def lE (n d:Nat):Option Int→Nat
  | none=>d
  | some v=>if v < 0 then (v+(n:Int)).toNat else min v.toNat n
theorem aqS (n d:Nat):lE n d none=d:=rfl
theorem awJ (n d k:Nat):lE n d (some (k:Int))=min k n:=by
  show (if (k:Int) < 0 then ((k:Int)+(n:Int)).toNat else min (k:Int).toNat n)=min k n
  rw [if_neg (by omega),Int.toNat_natCast]
theorem aDN (n d:Nat) (hd:d≤n) (o:Option Int):lE n d o≤n:=by
  cases o with
  | none=>exact hd
  | some v =>
    show (if v < 0 then (v+(n:Int)).toNat else min v.toNat n)≤n
    by_cases hv:v < 0
    · rw [if_pos hv];omega
    · rw [if_neg hv];exact Nat.min_le_right _ _
theorem alP (v:Int) (n d:Nat):(if v < 0 then max (v+(n:Int)) 0 else min v (n:Int))=((lE n d (some v):Nat):Int):=by
  show (if v < 0 then max (v+(n:Int)) 0 else min v (n:Int))=(((if v < 0 then (v+(n:Int)).toNat else min v.toNat n):Nat):Int)
  by_cases hv:v < 0
  · simp only [if_pos hv];omega
  · simp only [if_neg hv];omega
theorem ajN (lo hi:Option Int) (n:Nat):Builtin.Slice.sliceAdjust lo hi 1 (n:Int)=(((lE n 0 lo:Nat):Int),((lE n n hi:Nat):Int)):=by
  have h1:¬ ((1:Int) < 0):=by omega
  unfold Builtin.Slice.sliceAdjust
  simp only [h1,if_false]
  refine Prod.ext ?_ ?_
  · cases lo with
    | none=>rfl
    | some v=>exact alP v n 0
  · cases hi with
    | none=>rfl
    | some v=>exact alP v n n
theorem ajO (i j:Nat):Builtin.Slice.slicePlaces (i:Int) (j:Int) 1=j - i:=by
  unfold Builtin.Slice.slicePlaces
  have h1:(1:Int) > 0:=by omega
  simp only [h1,if_true,Int.ediv_one]
  split <;> omega
theorem a8P {v:Value} {o:Option Int} {Q:Option Int→Shared→Prop} (p:IsPart v o) (h:Q o s):wpAny (model prog w) A (Builtin.Slice.slicePartIndex v) Q E s:=by
  cases p with
  | none=>exact slicePart_none h
  | int i t=>exact slicePart_int h
theorem a4M {sl:Addr} {vl vu:Value} {lo hi:Option Int} {n:Nat} {Q:Int×Int×Nat→Shared→Prop} (hs:s.heap.IsSliceOf sl vl vu .none) (pl:IsPart vl lo) (pu:IsPart vu hi)
    (h:Q (((lE n 0 lo:Nat):Int),1,lE n n hi - lE n 0 lo) s):wpAny (model prog w) A (Builtin.Slice.sliceApplied (.ref sl) (pure (n:Int))) Q E s:=by
  obtain ⟨os,hos,hcs,hds⟩:=id hs
  unfold Builtin.Slice.sliceApplied Builtin.Slice.sliceFields
  refine wpAny_bind (wpAny_bind (wpAny_field hos hds (x:=vl) rfl (wpAny_bind (wpAny_field hos hds (x:=vu) rfl (wpAny_bind (wpAny_field hos hds (x := .none) rfl (wpAny_pure ?_)))))))
  refine wpAny_bind (slicePart_none ?_)
  show wpAny _ _ (if ((1:Int) == 0)=true then _ else _) _ _ s
  rw [if_neg (by decide)]
  refine wpAny_bind (a8P pl (wpAny_bind (a8P pu (wpAny_bind (wpAny_pure ?_)))))
  show wpAny _ _ (match Builtin.Slice.sliceAdjust lo hi 1 (n:Int) with | (lo,hi)=>pure (lo,(1:Int),Builtin.Slice.slicePlaces lo hi 1)) _ _ s
  rw [ajN lo hi n]
  show wpAny _ _ (pure (((lE n 0 lo:Nat):Int),(1:Int),Builtin.Slice.slicePlaces ((lE n 0 lo:Nat):Int) ((lE n n hi:Nat):Int) 1)) _ _ s
  rw [ajO]
  exact wpAny_pure h
theorem aqT (xs:Array Value) (i k:Nat):((List.range k).filterMap fun (m:Nat)=>xs[((i:Int)+(m:Int) * 1).toNat]?).toArray=((xs.toList.drop i).take k).toArray:=by
  have e:(fun (m:Nat)=>xs[((i:Int)+(m:Int) * 1).toNat]?)=fun m=>xs[i+m]?:=by
    funext m
    have:((i:Int)+(m:Int) * 1).toNat=i+m:=by omega
    rw [this]
  rw [e]
  have:=pick_run xs i k
  rw [List.filterMap_map] at this
  have e2:((fun x=>xs[x]?) ∘ fun x=>i+x)=fun m=>xs[i+m]?:=rfl
  rw [e2] at this
  rw [this]
theorem a2K {t sl:Addr} {items:Array Value} {vl vu:Value} {lo hi:Option Int} {Q:Value→Shared→Prop} (ht:IsTup s.heap t items) (hs:s.heap.IsSliceOf sl vl vu .none) (pl:IsPart vl lo) (pu:IsPart vu hi)
    (hw:¬ (lE items.size 0 lo=0∧lE items.size items.size hi=items.size))
    (h:Q (.ref s.heap.objs.size) { s with heap:=s.heap.push { cls := .type "tuple",data := .seq ((items.toList.drop (lE items.size 0 lo)).take (lE items.size items.size hi - lE items.size 0 lo)).toArray } })
    (hsz:items.size≤sizeLine):wpAny (model prog w) A (getItem (.ref t) (.ref sl)) Q E s:=by
  have alQ:sizeOk (.seq ((items.toList.drop (lE items.size 0 lo)).take (lE items.size items.size hi - lE items.size 0 lo)).toArray):=by
    show ((items.toList.drop (lE items.size 0 lo)).take (lE items.size items.size hi - lE items.size 0 lo)).toArray.size≤sizeLine
    rw [List.size_toArray,List.length_take,List.length_drop,Array.length_toList]
    omega
  have hj:lE items.size items.size hi≤items.size:=aDN _ _ (Nat.le_refl _) hi
  obtain ⟨os,hos,hcs,hds⟩:=id hs
  have hTs:s.TypeIs (.ref sl) "slice" := ⟨os,hos,hcs⟩
  unfold getItem
  try with_reducible refine wpAny_holding ?_
  first | refine wpAny_bind (wpAny_pure ?_) | skip
  refine wpAny_bind (wpAny_sequenceKey ht.typeIs (by decide) ?_)
  refine wpAny_bind (wpAny_callSpecial?_slot (name:=Str.ofString "__getitem__") ht.typeIs PyProof.Rows.slot_tuple_getitem
    (wpAny_call_entry PyProof.Rows.slot_tuple_getitem ht.typeIs entry_tuple_getitem ?_ (args_tuple_getitem _ _)))
  show wpAny _ _ (Builtin.Tuple.tupleItemsOf (.ref t) >>= _) _ _ s
  refine wpAny_bind (tupleItemsOf_ ht ?_)
  refine wpAny_bind (wpAny_typeOf hTs ?_)
  rw [if_pos (by decide)]
  refine wpAny_bind (a4M hs pl pu ?_)
  have hno:¬ ((((lE items.size 0 lo:Nat):Int) == 0&&(1:Int) == 1&&(lE items.size items.size hi - lE items.size 0 lo) == items.size)=true):=by
    intro q
    rw [Bool.and_eq_true,Bool.and_eq_true] at q
    have q1:((lE items.size 0 lo:Nat):Int)=0:=eq_of_beq q.1.1
    have q2:lE items.size items.size hi - lE items.size 0 lo=items.size:=eq_of_beq q.2
    exact hw ⟨by omega,by omega⟩
  show wpAny _ _ (if (((lE items.size 0 lo:Nat):Int) == 0&&(1:Int) == 1&&(lE items.size items.size hi - lE items.size 0 lo) == items.size)=true then _ else _) _ _ s
  rw [if_neg hno,aqT]
  first
    | exact wpAny_bind (m:=Builtin.Tuple.tupleExact _) (wpAny_newObj_type (wpAny_pure ⟨_,rfl,wpAny_pure h⟩) alQ)
    | exact wpAny_bind (m:=Builtin.Tuple.tupleExact _) (wpAny_newObj_type (wpAny_bind (wpAny_pure (wpAny_pure ⟨_,rfl,wpAny_pure h⟩))) alQ)
    | exact wpAny_bind (wpAny_bind (m:=Builtin.Tuple.tupleExact _) (wpAny_newObj_type (wpAny_pure (wpAny_pure ⟨_,rfl,wpAny_pure h⟩)) alQ))
    | exact wpAny_bind (wpAny_bind (m:=Builtin.Tuple.tupleExact _) (wpAny_newObj_type (wpAny_pure ⟨_,rfl,wpAny_pure h⟩) alQ))
end
end HT
namespace L2
open PySem PySem.Spec PyProof.Rows
abbrev TO:=St→Hp→(Option Int→Hp→Prop)→Prop
def PO (X:Cx) (e:Option Expr) (t:TO):Prop :=
  ∀ (pins:List (Addr×Obj)) (s:Shared) (σ:St) (H:Hp) (Q:Option Int→Hp→Prop),Inv X pins σ H s→t σ H Q →
    wpAny (model X.prog X.w) X.A (evalPart e X.env) (fun u s'=>∃ o H',Inv X pins σ H' s'∧IsPart u o∧Q o H') X.xe s
def awK:TO:=fun _ H Q=>Q none H
def aJF (t:TE):TO:=fun σ H Q=>t σ H fun x H1=>∃ i,x = .int i∧Q (some i) H1
theorem intsAre_of {ns:List Int}:∀ {us:List Value},Vals (ns.map V.int) us→IntsAre us ns:=by
  induction ns with
  | nil=>intro us r;rw [List.map_nil] at r;cases r;exact .nil
  | cons n ns ih =>
    intro us r
    rw [List.map_cons] at r
    cases r with
    | cons r1 r2 =>
      obtain ⟨t,e⟩:=r1
      subst e
      exact .cons n t (ih r2)
section
variable {X:Cx} {e:Expr} {te:TE} {lo hi:Option Expr} {tl th:TO} {pos p2:Pos}
theorem awL:PO X none awK:=by
  intro pins s σ H Q I h
  rw [evalPart_none]
  exact wpAny_pure ⟨none,H,I,.none,h⟩
theorem awM (h:PE X e te):PO X (some e) (aJF te):=by
  intro pins s σ H Q I hw
  rw [evalPart_some]
  refine dN (h pins s σ H _ I hw) fun u s1 ⟨x,H1,I1,r1,q1⟩=>?_
  obtain ⟨i,rfl,q⟩:=q1
  obtain ⟨t,rfl⟩:=r1
  exact ⟨some i,H1,I1,.int i t,q⟩
def SlR (X:Cx) (r:V→Option Int→Option Int→Hp→VK→Prop):Prop :=
  ∀ (pins:List (Addr×Obj)) (s:Shared) (σ:St) (H:Hp) (x:V) (v vl vu:Value) (lo hi:Option Int) (sl:Addr) (Q:VK),Inv X pins σ H s→RelV x v→s.heap.IsSliceOf sl vl vu .none→IsPart vl lo→IsPart vu hi→r x lo hi H Q →
    ∃ T id,typeLookup (.type T) "__getitem__" = pure (some (.builtin id))∧s.TypeIs v T∧wpAny (model X.prog X.w) X.A (getItem v (.ref sl)) (EP X pins σ Q) X.xe s
theorem SlR.or {r r':V→Option Int→Option Int→Hp→VK→Prop} (h:SlR X r) (h':SlR X r'):SlR X (fun x lo hi H Q=>r x lo hi H Q∨r' x lo hi H Q):=by
  intro pins s σ H x v vl vu lo hi sl Q I rx hs pl pu q
  rcases q with q | q
  · exact h pins s σ H x v vl vu lo hi sl Q I rx hs pl pu q
  · exact h' pins s σ H x v vl vu lo hi sl Q I rx hs pl pu q
def tSl (r:V→Option Int→Option Int→Hp→VK→Prop) (te:TE) (tl th:TO):TE:=fun σ H Q=>te σ H fun x H1=>tl σ H1 fun l H2=>th σ H2 fun u H3=>r x l u H3 Q
theorem aqU {r:V→Option Int→Option Int→Hp→VK→Prop} (hr:SlR X r) (he:PE X e te) (hl:PO X lo tl) (hu:PO X hi th):PE X (.Subscript e (.Slice lo hi none p2) pos) (tSl r te tl th):=by
  intro pins s σ H Q I h
  refine Subscript_ (dN (he pins s σ H _ I h) fun v s1 ⟨x,H1,I1,r1,q1⟩=>?_)
  refine wpAny_Slice (dN (hl pins s1 σ H1 _ I1 q1) fun vl s2 ⟨l,H2,I2,pl,q2⟩=>dN (hu pins s2 σ H2 _ I2 q2) fun vu s3 ⟨u,H3,I3,pu,q3⟩=>?_)
  rw [evalPart_none]
  refine wpAny_pure ?_
  have I4:Inv X pins σ H3 { s3 with heap:=s3.heap.push { cls := .type "slice",data := .fields #[vl,vu,.none] } }:=I3.kept (t':=s3.toks) fun b ob q=>Heap.get?_push_of_some _ q
  obtain ⟨T,id,hT,ht,hg⟩:=hr pins { s3 with heap:=s3.heap.push { cls := .type "slice",data := .fields #[vl,vu,.none] } } σ H3 x v vl vu l u s3.heap.objs.size Q I4 r1 (Heap.IsSliceOf.new ..) pl pu q3
  show wpAny (model X.prog X.w) X.A (subscriptTail e (.Slice lo hi none p2) v (.ref s3.heap.objs.size)) (EP X pins σ Q) X.xe { s3 with heap:=s3.heap.push { cls := .type "slice",data := .fields #[vl,vu,.none] } }
  exact tail_any (ops:=[.ref s3.heap.objs.size,v]) ht hT hg (by with_unfolding_all rfl)
def abI (xs:List V) (lo hi:Option Int):List V:=(xs.drop (HT.lE xs.length 0 lo)).take (HT.lE xs.length xs.length hi - HT.lE xs.length 0 lo)
theorem a69 (xs:List V) (lo hi:Option Int):(abI xs lo hi).length≤xs.length:=by
  unfold abI
  rw [List.length_take,List.length_drop]
  omega
def aON (K:PySem.W.Frag):V→Option Int→Option Int→Hp→VK→Prop:=fun x lo hi H Q=>∃ a xs,x = .ref a∧vZ K H a xs ∧
  ¬ (HT.lE xs.length 0 lo=0∧HT.lE xs.length xs.length hi=xs.length)∧∀ p,H p=none→Q (.ref p) (upd H p (.tup (abI xs lo hi)))
theorem aDO:SlR X (aON X.K):=by
  intro pins s σ H x v vl vu lo hi sl Q I rx hs pl pu h
  obtain ⟨a,xs,rfl,hx,hw,q⟩:=h
  cases rx
  obtain ⟨its,r,ht,hz⟩:=I.tuple hx
  have hlen:its.toArray.size=xs.length:=by rw [List.size_toArray];exact r.length.symm
  refine ⟨"tuple",_,PyProof.Rows.slot_tuple_getitem.lookup,ht.typeIs,?_⟩
  refine HT.a2K ht hs pl pu (by rw [hlen];exact hw) ?_ (by rw [hlen];exact hz)
  rw [hlen]
  refine ⟨.ref s.heap.objs.size,_,I.laid (t':=s.toks) (o := .tup (abI xs lo hi)) (fun b ob q=>Heap.get?_push_of_some _ q) (Nat.le_refl _) ?_,rfl,q _ (I.hok.fresh (Nat.le_refl _))⟩
  exact ⟨Nat.le_trans (a69 xs lo hi) hz,_,(r.drop (HT.lE xs.length 0 lo)).take (HT.lE xs.length xs.length hi - HT.lE xs.length 0 lo),IsTup.new _ _⟩
def aJG (K:PySem.W.Frag):R2:=fun x y H Q=>∃ a b xs ys,x = .ref a∧y = .ref b∧vZ K H a xs∧vZ K H b ys∧xs≠[]∧xs.length+ys.length≤sizeLine ∧
  (ys=[]→Q (.ref a) H)∧(ys≠[]→∀ p,H p=none→Q (.ref p) (upd H p (.tup (xs++ys))))
theorem Vals.a2L {xs:List V} {us:List Value} (r:Vals xs us):us=[]↔xs=[]:=by
  cases r with
  | nil=>simp
  | cons _ _=>simp
theorem awN:sY X (binaryOp .Add) (aJG X.K):=by
  intro pins s σ H x y v u Q I rx ry h
  obtain ⟨a,b,xs,ys,rfl,rfl,ha,hb,hx,hz,q1,q2⟩:=h
  cases rx
  cases ry
  obtain ⟨its,r1,p1,_⟩:=I.tuple ha
  obtain ⟨its2,r2,p2,_⟩:=I.tuple hb
  refine HT.awI p1 p2 (fun z=>hx (r1.a2L.mp z)) (fun z=>⟨.ref a,H,I,rfl,q1 (r2.a2L.mp z)⟩) (fun z=>?_) (by rw [← r1.length,← r2.length];exact hz)
  refine ⟨.ref s.heap.objs.size,_,I.laid (t':=s.toks) (o := .tup (xs++ys)) (fun b ob q=>Heap.get?_push_of_some _ q) (Nat.le_refl _) ?_,rfl,q2 (fun w=>z (r2.a2L.mpr w)) _ (I.hok.fresh (Nat.le_refl _))⟩
  exact ⟨by rw [List.length_append];exact hz,_,r1.append r2,IsTup.new _ _⟩
end
end L2
namespace L2
open PySem PySem.Spec PyProof.Rows
def ixN (n:Nat) (i:Int):Option Nat:=if 0≤i then (if i < n then some i.toNat else none) else if -(n:Int)≤i then some (i+n).toNat else none
def atI {α:Type} (xs:List α) (i:Int):Option α:=(ixN xs.length i).bind fun j=>xs[j]?
theorem awO {n:Nat} {i:Int} {j:Nat} (h:ixN n i=some j):seqIndex? i n=some j∧j < n∧-(n:Int)≤i∧i < n:=by
  unfold ixN at h
  by_cases h0:0≤i
  · rw [if_pos h0] at h
    by_cases h1:i < n
    · rw [if_pos h1] at h
      have e:i.toNat=j:=Option.some.inj h
      exact ⟨by rw [seqIndex_of h0 h1,e],by omega,by omega,h1⟩
    · rw [if_neg h1] at h;cases h
  · rw [if_neg h0] at h
    by_cases h1:-(n:Int)≤i
    · rw [if_pos h1] at h
      have e:(i+n).toNat=j:=Option.some.inj h
      exact ⟨by rw [seqIndex_neg (by omega) h1,e],by omega,h1,by omega⟩
    · rw [if_neg h1] at h;cases h
theorem adR {α:Type} {xs:List α} {i:Int} {v:α} (h:atI xs i=some v):∃ j,seqIndex? i xs.length=some j∧xs[j]?=some v∧j < xs.length∧-(xs.length:Int)≤i∧i < xs.length:=by
  unfold atI at h
  cases e:ixN xs.length i with
  | none=>rw [e] at h;cases h
  | some j =>
    rw [e] at h
    obtain ⟨h1,h2,h3,h4⟩:=awO e
    exact ⟨j,h1,h,h2,h3,h4⟩
def adS (b:Expr):Prop:=∀ o i,subscripted b false o i=operate [o,i] (getItem o i)
def IxR (X:Cx) (r:R2):Prop :=
  ∀ (value slice:Expr) (pins:List (Addr×Obj)) (s:Shared) (σ:St) (H:Hp) (x y:V) (v u:Value) (Q:VK),Inv X pins σ H s→RelV x v→RelV y u→r x y H Q →
    subscripted slice false v u=operate [v,u] (getItem v u)→wpAny (model X.prog X.w) X.A (subscriptTail value slice v u) (EP X pins σ Q) X.xe s
def MtR (X:Cx) (id:String) (r:V→List V→Hp→VK→Prop):Prop :=
  ∀ (pins:List (Addr×Obj)) (s:Shared) (σ:St) (H:Hp) (x:V) (xs:List V) (v:Value) (us:List Value) (Q:VK),Inv X pins σ H s→RelV x v→Vals xs us→r x xs H Q →
    wpAny (model X.prog X.w) X.A (call (.builtin id) (v :: us)) (EP X pins σ Q) X.xe s
section
variable {X:Cx} {a b:Expr} {ta tb:TE} {pos:Pos}
theorem IxR.or {r r':R2} (h:IxR X r) (h':IxR X r'):IxR X (fun x y H Q=>r x y H Q∨r' x y H Q):=by
  intro value slice pins s σ H x y v u Q I rx ry q hs
  rcases q with q | q
  · exact h value slice pins s σ H x y v u Q I rx ry q hs
  · exact h' value slice pins s σ H x y v u Q I rx ry q hs
theorem MtR.or {id:String} {r r':V→List V→Hp→VK→Prop} (h:MtR X id r) (h':MtR X id r'):MtR X id (fun x xs H Q=>r x xs H Q∨r' x xs H Q):=by
  intro pins s σ H x xs v us Q I rx rs q
  rcases q with q | q
  · exact h pins s σ H x xs v us Q I rx rs q
  · exact h' pins s σ H x xs v us Q I rx rs q
theorem aJI {r:R2} (hr:IxR X r) (ha:PE X a ta) (hb:PE X b tb) (hs:adS b):PE X (.Subscript a b pos) (tOp r ta tb):=by
  intro pins s σ H Q I h
  exact Subscript_ (aD4 ha hb I h fun v u s2 x y H2 I2 rx ry q=>hr a b pins s2 σ H2 x y v u Q I2 rx ry q (hs _ _))
def aJJ (K:PySem.W.Frag):R2:=fun x y H Q=>∃ p xs i v,x = .ref p∧y = .int i∧uN K H p xs∧atI xs i=some v∧Q v H
def aJK (K:PySem.W.Frag):R2:=fun x y H Q=>∃ p xs i v,x = .ref p∧y = .int i∧vZ K H p xs∧atI xs i=some v∧Q v H
def aJL:R2:=fun x y H Q=>∃ z i c,x = .str z∧y = .int i∧z.length≤sizeLine∧atI z.cps.toList i=some c∧Q (.str ⟨#[c]⟩) H
theorem awQ:IxR X (aJJ X.K):=by
  intro value slice pins s σ H x y v u Q I rx ry h hs
  obtain ⟨p,xs,i,z,rfl,rfl,hq,he,q⟩:=h
  cases rx
  obtain ⟨t,rfl⟩:=ry
  obtain ⟨its,r,pl,hz⟩:=I.list hq
  obtain ⟨j,h1,h2,h3,h4,h5⟩:=adR he
  obtain ⟨w,ew,rw'⟩:=r.get h2
  have hl:=r.length
  have hn:=a8K
  have fin:EP X pins σ Q w s:=⟨z,H,I,rw',q⟩
  by_cases h0:0≤i
  · have hj:i.toNat=j:=by
      rw [seqIndex_of h0 h5] at h1
      exact Option.some.inj h1
    exact item_listR pl.isList h0 (by omega) (by rw [hj];simpa using ew) fin hs
  · have hj:(i+(its.toArray.size:Int)).toNat=j:=by
      rw [seqIndex_neg (by omega) h4] at h1
      rw [List.size_toArray,← hl]
      exact Option.some.inj h1
    exact subscriptTail_builtinR (x:=w) pl.isList.typeIs slot_list_getitem.lookup
      (wpAny_getItem_list_neg (Q:=fun r s'=>r=w∧EP X pins σ Q r s') pl.isList (by omega) (by rw [List.size_toArray] <;> omega) (by omega) (by rw [hj];simpa using ew) ⟨rfl,fin⟩) hs
theorem aDP:IxR X (aJK X.K):=by
  intro value slice pins s σ H x y v u Q I rx ry h hs
  obtain ⟨p,xs,i,z,rfl,rfl,hq,he,q⟩:=h
  cases rx
  obtain ⟨t,rfl⟩:=ry
  obtain ⟨its,r,pl,hz⟩:=I.tuple hq
  obtain ⟨j,h1,h2,h3,h4,h5⟩:=adR he
  obtain ⟨w,ew,rw'⟩:=r.get h2
  have hl:=r.length
  have hn:=a8K
  have fin:EP X pins σ Q w s:=⟨z,H,I,rw',q⟩
  exact subscriptTail_builtinR (x:=w) pl.typeIs slot_tuple_getitem.lookup
    (getItem_tuple (j:=j) (Q:=fun r s'=>r=w∧EP X pins σ Q r s') pl (by omega) (by omega) (by rw [List.size_toArray,← hl];exact h1) (by simpa using ew) ⟨rfl,fin⟩) hs
theorem aDQ:IxR X aJL:=by
  intro value slice pins s σ H x y v u Q I rx ry h hs
  obtain ⟨z,i,c,rfl,rfl,hz,he,q⟩:=h
  obtain ⟨t,rfl⟩:=rx
  obtain ⟨t',rfl⟩:=ry
  obtain ⟨j,h1,h2,h3,h4,h5⟩:=adR he
  have hl:z.cps.toList.length=z.length:=by simp [Str.length]
  rw [hl] at h1 h4 h5
  have hn:=a8K
  exact tail_any (typeIs_str s z t) slot_str_getitem.lookup (getItem_str (c:=c) (by
    have e1:decide (i < -(2 ^ 63:Int))=false:=decide_eq_false (by omega)
    have e2:decide (i≥2 ^ 63)=false:=decide_eq_false (by omega)
    rw [e1,e2,Bool.or_false]) (by rw [h1];simpa using h2) ⟨.str ⟨#[c]⟩,H,I.tok _,⟨_,rfl⟩,q⟩) hs
def rIx (K:PySem.W.Frag):R2:=fun x y H Q=>aJJ K x y H Q∨aJK K x y H Q∨aJL x y H Q
theorem aDR:IxR X (rIx X.K):=awQ.or (aDP.or aDQ)
theorem Inv.lst {pins:List (Addr×Obj)} {σ:St} {H:Hp} {s:Shared} {p:Addr} {xs:List V} (I:Inv X pins σ H s) (h:H p=some (.lst xs)) :
    ∃ (its:List Value) (n:Nat),Vals xs its∧s.heap.get? p=some { cls := .type "list",data := .seq its.toArray n }∧xs.length≤sizeLine:=by
  obtain ⟨z,its,n,r,e⟩:=I.hok p _ h
  exact ⟨its,n,r,e,z⟩
theorem adT (lo hi:Option Int) (n:Nat):(sliceBounds lo hi none n).1=((HT.lE n 0 lo:Nat):Int)∧(sliceBounds lo hi none n).2.1=((HT.lE n n hi:Nat):Int)∧(sliceBounds lo hi none n).2.2=1:=by
  refine ⟨?_,?_,rfl⟩
  · cases lo with
    | none=>simp [sliceBounds,HT.lE]
    | some i =>
      simp only [sliceBounds,HT.lE,Option.getD_none,show (1:Int) > 0 by decide,if_true]
      by_cases h:i < 0
      · simp only [h,if_true] <;> omega
      · simp only [h,if_false] <;> omega
  · cases hi with
    | none=>simp [sliceBounds,HT.lE]
    | some i =>
      simp only [sliceBounds,HT.lE,Option.getD_none,show (1:Int) > 0 by decide,if_true]
      by_cases h:i < 0
      · simp only [h,if_true] <;> omega
      · simp only [h,if_false] <;> omega
theorem abJ (its:List Value) (lo hi:Option Int):slicePick its.toArray lo hi none=((its.drop (HT.lE its.length 0 lo)).take (HT.lE its.length its.length hi - HT.lE its.length 0 lo)).toArray:=by
  obtain ⟨h1,h2,h3⟩:=adT lo hi its.toArray.size
  unfold slicePick
  rw [h1,h2,h3]
  simp only [sliceRange_one,pick_run,List.size_toArray] <;> rfl
def aOO (K:PySem.W.Frag):V→Option Int→Option Int→Hp→VK→Prop:=fun x lo hi H Q=>∃ a xs,x = .ref a∧uN K H a xs∧∀ p,H p=none→Q (.ref p) (upd H p (.lst (abI xs lo hi)))
theorem awR:SlR X (aOO X.K):=by
  intro pins s σ H x v vl vu lo hi sl Q I rx hs pl pu h
  obtain ⟨a,xs,rfl,hx,q⟩:=h
  cases rx
  obtain ⟨its,r,ht,hz⟩:=I.list hx
  have hlen:=r.length
  refine ⟨"list",_,slot_list_getitem.lookup,ht.isList.typeIs,?_⟩
  refine wpAny_getItem_list_slice ht.isList hs pl pu .none (by simp) ?_ (by rw [List.size_toArray] <;> omega)
  rw [abJ,← hlen]
  refine ⟨.ref s.heap.objs.size,_,I.laid (t':=s.toks) (o := .lst (abI xs lo hi)) (fun b ob q=>Heap.get?_push_of_some _ q) (Nat.le_refl _) ?_,rfl,q _ (I.hok.fresh (Nat.le_refl _))⟩
  exact ⟨Nat.le_trans (a69 xs lo hi) hz,_,0,(r.drop (HT.lE xs.length 0 lo)).take (HT.lE xs.length xs.length hi - HT.lE xs.length 0 lo),Heap.get?_push_size _ rfl⟩
def w5:V→Bool
  | .non=>true
  | .bl _=>true
  | .int _=>true
  | .str _=>true
  | _=>false
def eqV:V→V→Bool
  | .non,.non=>true
  | .bl a,.bl b=>a == b
  | .bl a,.int b=>(if a then 1 else 0) == b
  | .int a,.bl b=>a == (if b then 1 else 0)
  | .int a,.int b=>a == b
  | .str a,.str b=>a == b
  | _,_=>false
theorem a4O {A:Around} {s:Shared} {y x:V} {u v:Value} (ry:RelV y u) (rx:RelV x v) (fy:w5 y=true) (fx:w5 x=true):SeqAt.EqAt A s u v (eqV y x):=by
  cases y with
  | non =>
    cases ry
    cases x with
    | non=>cases rx;exact SeqAt.EqAt.same _
    | bl b=>cases rx;exact SeqAt.EqAt.none_bool b
    | int b=>obtain ⟨t,rfl⟩:=rx;exact SeqAt.EqAt.none_int b t
    | str b=>obtain ⟨t,rfl⟩:=rx;exact SeqAt.EqAt.none_str b t
    | _=>exact absurd (show false=true from fx) Bool.false_ne_true
  | bl a =>
    cases ry
    cases x with
    | non=>cases rx;exact SeqAt.EqAt.bool_none a
    | bl b=>cases rx;exact SeqAt.EqAt.bool_bool a b
    | int b=>obtain ⟨t,rfl⟩:=rx;exact SeqAt.EqAt.bool_int a b t
    | str b=>obtain ⟨t,rfl⟩:=rx;exact SeqAt.EqAt.bool_str a b t
    | _=>exact absurd (show false=true from fx) Bool.false_ne_true
  | int a =>
    obtain ⟨t',rfl⟩:=ry
    cases x with
    | non=>cases rx;exact SeqAt.EqAt.int_none a t'
    | bl b=>cases rx;exact SeqAt.EqAt.int_bool a t' b
    | int b=>obtain ⟨t,rfl⟩:=rx;exact SeqAt.EqAt.int_int a t' b t
    | str b=>obtain ⟨t,rfl⟩:=rx;exact SeqAt.EqAt.int_str a t' b t
    | _=>exact absurd (show false=true from fx) Bool.false_ne_true
  | str a =>
    obtain ⟨t',rfl⟩:=ry
    cases x with
    | non=>cases rx;exact SeqAt.EqAt.str_none a t'
    | bl b=>cases rx;exact SeqAt.EqAt.str_bool a t' b
    | int b=>obtain ⟨t,rfl⟩:=rx;exact SeqAt.EqAt.str_int a t' b t
    | str b=>obtain ⟨t,rfl⟩:=rx;exact SeqAt.EqAt.str_str a t' b t
    | _=>exact absurd (show false=true from fx) Bool.false_ne_true
  | _=>exact absurd (show false=true from fy) Bool.false_ne_true
def eqU (x:V) (u:Value):Bool:=match u with
  | .none=>eqV .non x
  | .bool b=>eqV (.bl b) x
  | .int i _=>eqV (.int i) x
  | .str z _=>eqV (.str z) x
  | _=>false
theorem aqV {x y:V} {u:Value} (r:RelV y u) (f:w5 y=true):eqU x u=eqV y x:=by
  cases y with
  | non=>cases r;rfl
  | bl b=>cases r;rfl
  | int i=>obtain ⟨t,rfl⟩:=r;rfl
  | str z=>obtain ⟨t,rfl⟩:=r;rfl
  | _=>exact absurd (show false=true from f) Bool.false_ne_true
theorem a2M {x:V}:∀ {xs:List V} {us:List Value},Vals xs us→xs.all w5=true→us.any (eqU x)=xs.any fun y=>eqV y x
  | _,_,.nil,_=>rfl
  | y :: xs,u :: us,.cons r t,f=>by
    rw [List.all_cons,Bool.and_eq_true] at f
    rw [List.any_cons,List.any_cons,aqV r f.1,a2M t f.2]
theorem xE {A:Around} {s:Shared} {x:V} {v:Value} (rx:RelV x v) (fx:w5 x=true):∀ {xs:List V} {us:List Value},Vals xs us→xs.all w5=true→∀ u∈us,SeqAt.EqAt A s u v (eqU x u)
  | _,_,.nil,_=>fun u hu=>by cases hu
  | y :: xs,u :: us,.cons r t,f=>fun u' hu=>by
    rw [List.all_cons,Bool.and_eq_true] at f
    rcases List.mem_cons.mp hu with rfl | hu
    · rw [aqV r f.1];exact a4O r rx f.1 fx
    · exact xE rx fx t f.2 u' hu
def inV (x:V) (xs:List V):Bool:=xs.any fun y=>eqV y x
def rIn (K:PySem.W.Frag) (neg:Bool):R2:=fun x y H Q=>∃ p xs,y = .ref p∧(uN K H p xs∨vZ K H p xs)∧w5 x=true∧xs.all w5=true∧Q (.bl (if neg then !inV x xs else inV x xs)) H
theorem aoA:sY X (compareOp .In) (rIn X.K false):=by
  intro pins s σ H x y v u Q I rx ry h
  obtain ⟨p,xs,rfl,hq,fx,fs,q⟩:=h
  cases ry
  rcases hq with hq | hq
  · obtain ⟨its,r,pl,hz⟩:=I.list hq
    refine SeqAt.in_listAt (eqU x) pl.isList (fun w hw=>xE rx fx r fs w (by simpa using hw)) ⟨.bl _,H,I,rfl,?_⟩
    rw [show its.toArray.any (eqU x)=its.any (eqU x) by simp,a2M r fs]
    exact q
  · obtain ⟨its,r,pl,hz⟩:=I.tuple hq
    refine SeqAt.in_tupleAt (eqU x) pl (fun w hw=>xE rx fx r fs w (by simpa using hw)) ⟨.bl _,H,I,rfl,?_⟩
    rw [show its.toArray.any (eqU x)=its.any (eqU x) by simp,a2M r fs]
    exact q
theorem adU:sY X (compareOp .NotIn) (rIn X.K true):=by
  intro pins s σ H x y v u Q I rx ry h
  obtain ⟨p,xs,rfl,hq,fx,fs,q⟩:=h
  cases ry
  rcases hq with hq | hq
  · obtain ⟨its,r,pl,hz⟩:=I.list hq
    refine SeqAt.notIn_listAt (eqU x) pl.isList (fun w hw=>xE rx fx r fs w (by simpa using hw)) ⟨.bl _,H,I,rfl,?_⟩
    rw [show its.toArray.any (eqU x)=its.any (eqU x) by simp,a2M r fs]
    exact q
  · obtain ⟨its,r,pl,hz⟩:=I.tuple hq
    refine SeqAt.notIn_tupleAt (eqU x) pl (fun w hw=>xE rx fx r fs w (by simpa using hw)) ⟨.bl _,H,I,rfl,?_⟩
    rw [show its.toArray.any (eqU x)=its.any (eqU x) by simp,a2M r fs]
    exact q
theorem adV:qQ X (.builtin "len") (fun xs H Q=>∃ p ys,xs=[.ref p]∧(uN X.K H p ys∨vZ X.K H p ys)∧Q (.int ys.length) H):=by
  intro pins s σ H xs us Q I r h
  obtain ⟨p,ys,rfl,hq,q⟩:=h
  obtain ⟨u,rfl,rx⟩:=vals1 r
  cases rx
  have hn:=a8K
  rcases hq with hq | hq
  · obtain ⟨its,r',pl,hz⟩:=I.list hq
    have hlen:=r'.length
    exact Calls.call_len_list pl.isList (by simp only [List.size_toArray] <;> omega) ⟨.int ys.length,H,I.tok _,⟨s.toks+1,by rw [List.size_toArray,hlen]⟩,q⟩
  · obtain ⟨its,r',pl,hz⟩:=I.tuple hq
    have hlen:=r'.length
    exact len_tuple pl (by simp only [List.size_toArray] <;> omega) ⟨.int ys.length,H,I.tok _,⟨s.toks+1,by rw [List.size_toArray,hlen]⟩,q⟩
theorem adW:qQ X (.builtin "len") (fun xs H Q=>∃ z,xs=[.str z]∧z.length≤sizeLine∧Q (.int z.length) H):=by
  intro pins s σ H xs us Q I r h
  obtain ⟨z,rfl,hz,q⟩:=h
  obtain ⟨u,rfl,t,rfl⟩:=vals1 r
  have hn:=a8K
  exact len_str (by omega) ⟨.int z.length,H,I.tok _,⟨_,rfl⟩,q⟩
theorem qQ.or {f:Value} {r r':List V→Hp→VK→Prop} (h:qQ X f r) (h':qQ X f r'):qQ X f (fun xs H Q=>r xs H Q∨r' xs H Q):=by
  intro pins s σ H xs us Q I rs q
  rcases q with q | q
  · exact h pins s σ H xs us Q I rs q
  · exact h' pins s σ H xs us Q I rs q
theorem adX:qQ X (.type "list") (fun xs H Q=>∃ p ys,xs=[.ref p]∧(uN X.K H p ys∨vZ X.K H p ys)∧∀ l,H l=none→Q (.ref l) (upd H l (.lst ys))):=by
  intro pins s σ H xs us Q I r h
  obtain ⟨p,ys,rfl,hq,q⟩:=h
  obtain ⟨u,rfl,rx⟩:=vals1 r
  cases rx
  have fin:∀ (its:List Value),Vals ys its→ys.length≤sizeLine→∀ (h':Heap) (c':Nat),(∀ b o',s.heap.get? b=some o'→h'.get? b=some o') →
      h'.get? s.heap.objs.size=some { cls := .type "list",dict:=none,data := .seq its.toArray c',slots:=#[] }→EP X pins σ Q (.ref s.heap.objs.size) { s with heap:=h' }:=fun its r' hz h' c' kp e =>
    ⟨.ref s.heap.objs.size,_,I.laid (t':=s.toks) kp (Nat.le_refl _) (show fQ X.prog X.w _ h' _ (.lst ys) from ⟨hz,its,c',r',e⟩),rfl,q _ (I.hok.fresh (Nat.le_refl _))⟩
  rcases hq with hq | hq
  · obtain ⟨its,r',pl,hz⟩:=I.list hq
    have hlen:=r'.length
    obtain ⟨o,ho,hc,n,hd⟩:=pl.isList
    exact call_list_seq p (.inl rfl) ho hc hd (fun h' c' kp e=>fin its r' hz h' c' kp e) (by simp only [List.size_toArray] <;> omega)
  · obtain ⟨its,r',pl,hz⟩:=I.tuple hq
    have hlen:=r'.length
    obtain ⟨o,ho,hc,n,hd⟩:=pl
    exact call_list_seq p (.inr rfl) ho hc hd (fun h' c' kp e=>fin its r' hz h' c' kp e) (by simp only [List.size_toArray] <;> omega)
theorem abK:qQ X (.type "tuple") (fun xs H Q=>∃ p ys,xs=[.ref p]∧((uN X.K H p ys∧∀ l,H l=none→Q (.ref l) (upd H l (.tup ys)))∨(vZ X.K H p ys∧Q (.ref p) H))):=by
  intro pins s σ H xs us Q I r h
  obtain ⟨p,ys,rfl,h⟩:=h
  obtain ⟨u,rfl,rx⟩:=vals1 r
  cases rx
  rcases h with ⟨hq,q⟩ | ⟨hq,q⟩
  · obtain ⟨its,r',pl,hz⟩:=I.list hq
    have hlen:=r'.length
    refine call_tuple_list pl.isList (fun h' kp=>?_) (by simp only [List.size_toArray] <;> omega)
    have I1:Inv X pins σ H { s with heap:=h' }:=I.kept (t':=s.toks) kp
    have I2:Inv X pins σ (upd H h'.objs.size (.tup ys)) { s with heap:=h'.push { cls := .type "tuple",data := .seq its.toArray } } :=
      I1.laid (t':=s.toks) (fun b o e=>Heap.get?_push_of_some _ e) (Nat.le_refl _) (show fQ X.prog X.w _ _ _ (.tup ys) from ⟨hz,its,r',IsTup.new _ _⟩)
    exact ⟨.ref h'.objs.size,_,I2,rfl,q _ (I1.hok.fresh (Nat.le_refl _))⟩
  · obtain ⟨its,r',pl,hz⟩:=I.tuple hq
    exact call_tuple_same pl ⟨.ref p,H,I,rfl,q⟩
def tyV (K:PySem.W.Frag) (T:String) (x:V) (H:Hp):Prop:=match x with
  | .str _=>T = "str"
  | .int _=>T = "int"
  | .ref p=>(T = "list" ∧ ∃ xs,uN K H p xs)∨(T = "tuple" ∧ ∃ o,K.lookup p=some o∧o.cls = .type "tuple" ∧ o.dict=none) ∨
      (T = "dict" ∧ ((∃ kvs,H p=some (.dK kvs))∨∃ kvs,H p=some (.dT kvs)))∨(T = "set" ∧ ∃ S n,H p=some (.set S n))
  | _=>False
theorem aqW {pins:List (Addr×Obj)} {σ:St} {H:Hp} {s:Shared} {T:String} {x:V} {v:Value} (I:Inv X pins σ H s) (r:RelV x v) (ty:tyV X.K T x H) :
    s.TypeIs v T∧∀ a,v = .ref a→∃ ob,s.heap.get? a=some ob∧ob.dict=none:=by
  cases x with
  | str z =>
    obtain ⟨t,rfl⟩:=r
    cases (show T = "str" from ty)
    exact ⟨typeIs_str s z t,fun _ e=>nomatch e⟩
  | int i =>
    obtain ⟨t,rfl⟩:=r
    cases (show T = "int" from ty)
    exact ⟨typeIs_int s i t,fun _ e=>nomatch e⟩
  | ref p =>
    cases r
    rcases ty with ⟨rfl,xs,hq⟩ | ⟨rfl,o,hk,hc,hd⟩ | ⟨rfl,hk⟩ | ⟨rfl,S,n,hk⟩
    · obtain ⟨its,_,pl,_⟩:=I.list hq
      refine ⟨pl.isList.typeIs,fun a e=>?_⟩
      cases e
      obtain ⟨o,n,e,c,hd,_⟩:=pl
      exact ⟨o,e,hd⟩
    · refine ⟨⟨o,I.kIn p o hk,hc⟩,fun a e=>?_⟩
      cases e
      exact ⟨o,I.kIn _ o hk,hd⟩
    · have z:∃ o,s.heap.get? p=some o∧o.ExactDict:=by
        rcases hk with ⟨kvs,hk⟩ | ⟨kvs,hk⟩
        · obtain ⟨_,_,_,_,o,_,_,e,ex,_⟩:=I.hok p _ hk
          exact ⟨o,e,ex⟩
        · obtain ⟨_,_,_,_,o,_,_,e,ex,_⟩:=I.hok p _ hk
          exact ⟨o,e,ex⟩
      obtain ⟨o,e,ex⟩:=z
      refine ⟨⟨o,e,ex.1⟩,fun a e2=>?_⟩
      cases e2
      exact ⟨o,e,ex.2.1⟩
    · obtain ⟨o,_,_,_,e,ex,_⟩:=I.hok p _ hk
      refine ⟨⟨o,e,ex.1⟩,fun a e2=>?_⟩
      cases e2
      exact ⟨o,e,ex.2.1⟩
  | _=>exact False.elim ty
variable {o e:Expr} {es:List Expr} {to:TE} {t:TA} {name:Str} {apos cpos:Pos} {T id:String} {r:V→List V→Hp→VK→Prop}
end
end L2
namespace L2
open PySem PySem.Spec PyProof.Rows
def MtM (X:Cx) (id:String) (r:V→List V→Hp→VK→Prop):Prop :=
  ∀ (pins:List (Addr×Obj)) (s:Shared) (σ:St) (H:Hp) (x:V) (xs:List V) (v:Value) (us:List Value) (Q:VK),Inv X pins σ H s→RelV x v→Vals xs us→r x xs H Q →
    wpAny (model X.prog X.w) X.A (call (.builtin id) (v :: us)) (EP X pins σ Q) X.xe s
theorem Vals.one:∀ {x:V} {us:List Value},Vals [x] us→∃ u,us=[u]∧RelV x u
  | _,_,.cons r .nil=>⟨_,rfl,r⟩
theorem Vals.two:∀ {x y:V} {us:List Value},Vals [x,y] us→∃ u v,us=[u,v]∧RelV x u∧RelV y v
  | _,_,_,.cons r (.cons q .nil)=>⟨_,_,rfl,r,q⟩
theorem Vals.zero:∀ {us:List Value},Vals [] us→us=[]
  | _,.nil=>rfl
theorem Vals.dropLast {xs:List V} {us:List Value} (h:Vals xs us):Vals xs.dropLast us.dropLast:=by
  induction h with
  | nil=>exact .nil
  | cons r t ih =>
    cases t with
    | nil=>exact .nil
    | cons q t'=>exact .cons r ih
theorem Vals.reverse {xs:List V} {us:List Value} (h:Vals xs us):Vals xs.reverse us.reverse:=by
  induction h with
  | nil=>exact .nil
  | cons r t ih=>rw [List.reverse_cons,List.reverse_cons];exact Vals.append ih (.cons r .nil)
theorem Vals.rep {xs:List V} {us:List Value} (h:Vals xs us):∀ k:Nat,Vals (List.replicate k xs).flatten (List.replicate k us).flatten
  | 0 => .nil
  | k+1=>by
    rw [List.replicate_succ,List.replicate_succ,List.flatten_cons,List.flatten_cons]
    exact Vals.append h (Vals.rep h k)
section
variable {X:Cx} {pins:List (Addr×Obj)} {σ:St} {H:Hp} {s:Shared} {l b:Addr} {xs ys zs:List V}
theorem Inv.aJM {its its':List Value} {n:Nat} {f:Array Value→Array Value} {t':Nat} (I:Inv X pins σ H s) (hH:H l=some (.lst xs))
    (e:s.heap.get? l=some { cls := .type "list",data := .seq its.toArray n }) (hf:f its.toArray=its'.toArray) (hv:Vals ys its') (hz:ys.length≤sizeLine) :
    Inv X pins σ (upd H l (.lst ys)) { s with heap:=s.heap.update l (Obj.mapSeq f),toks:=t' }:=by
  have q:=PySem.IsL.update e f
  rw [hf] at q
  refine I.write (x:=l) (e:=l) (by rw [hH];exact trivial) (.inl rfl) (fun b' u hb hu=>(Heap.get?_update_other s.heap (Obj.mapSeq f) (Ne.symm hb)).trans hu) ⟨_,q⟩ ?_
  exact ⟨hz,its',_,hv,q⟩
theorem Inv.aJN {its:List Value} {t':Nat} (I:Inv X pins σ H s) (hv:Vals ys its) (hz:ys.length≤sizeLine) :
    Inv X pins σ (upd H s.heap.objs.size (.lst ys)) { s with heap:=s.heap.push { cls := .type "list",data := .seq its.toArray },toks:=t' } :=
  I.laid (fun _ _ q=>Heap.get?_push_of_some _ q) (Nat.le_refl _) ⟨hz,its,0,hv,Heap.get?_push_size _ rfl⟩
theorem Inv.fresh (I:Inv X pins σ H s):H s.heap.objs.size=none:=I.hok.fresh (Nat.le_refl _)
theorem Inv.aqX (I:Inv X pins σ H s) (hH:H l=some (.lst xs)):xs.length≤sizeLine∧∃ (its:List Value) (n:Nat),Vals xs its∧xs.length=its.length∧s.heap.get? l=some { cls := .type "list",data := .seq its.toArray n }:=by
  obtain ⟨z,its,n,r,e⟩:=I.hok l _ hH
  exact ⟨z,its,n,r,r.length,e⟩
theorem aqY {n:Nat} (h:n≤sizeLine):Builtin.List.listTooLong n=false:=by
  unfold Builtin.List.listTooLong
  exact decide_eq_false (by omega)
end
section
variable {X:Cx}
def awS:V→List V→Hp→VK→Prop:=fun x vs H Q=>∃ l xs y,x = .ref l∧vs=[y]∧H l=some (.lst xs)∧xs.length < sizeLine∧Q .non (upd H l (.lst (xs++[y])))
theorem acI:MtM X "list.append" awS:=by
  intro pins s σ H x vs v us Q I rx rv h
  obtain ⟨l,xs,y,rfl,rfl,hH,hz,q⟩:=h
  cases rx
  obtain ⟨u,rfl,ru⟩:=rv.one
  obtain ⟨z,its,n,r,hl,e⟩:=I.aqX hH
  refine call_meets F.slot_list_append ⟨_,e,rfl⟩ F.entry_list_append (F.args_list_append_2 _ _) (PySem.list_append l its.toArray n u (by rw [List.size_toArray];omega)) ⟨e,?_⟩
  refine ⟨.non,_,I.aJM (its':=its++[u]) hH e (by simp) (r.append (.cons ru .nil)) ?_,rfl,q⟩
  rw [List.length_append,List.length_singleton]
  omega
def awT:V→List V→Hp→VK→Prop:=fun x vs H Q=>∃ l b xs zs,x = .ref l∧vs=[.ref b]∧H l=some (.lst xs)∧H b=some (.lst zs)∧xs.length+zs.length≤sizeLine∧Q .non (upd H l (.lst (xs++zs)))
theorem aI6:MtM X "list.extend" awT:=by
  intro pins s σ H x vs v us Q I rx rv h
  obtain ⟨l,b,xs,zs,rfl,rfl,hH,hB,hz,q⟩:=h
  cases rx
  obtain ⟨u,rfl,ru⟩:=rv.one
  cases ru
  obtain ⟨z,its,n,r,hl,e⟩:=I.aqX hH
  obtain ⟨z2,its2,n2,r2,hl2,e2⟩:=I.aqX hB
  have hsz:its.toArray.size+its2.toArray.size≤sizeLine:=by rw [List.size_toArray,List.size_toArray];omega
  have aJO:¬ (!its.toArray.isEmpty&&Builtin.List.listTooLong (its.toArray.size+its2.toArray.size))=true:=by
    rw [aqY hsz,Bool.and_false]
    exact Bool.false_ne_true
  refine call_meets F.slot_list_extend ⟨_,e,rfl⟩ F.entry_list_extend (F.args_list_extend_2 _ _)
    (AutoSeq1.list_extend_list_list_0 l its.toArray n b its2.toArray n2 aJO (by rw [List.size_toArray];omega) (by omega)) ⟨e,e2,?_⟩
  refine ⟨.non,_,I.aJM (its':=its++its2) hH e (by simp) (r.append r2) ?_,rfl,q⟩
  rw [List.length_append]
  omega
def aOP:R2:=fun x y H Q=>∃ l b xs zs,x = .ref l∧y = .ref b∧H l=some (.lst xs)∧H b=some (.lst zs)∧xs.length+zs.length≤sizeLine∧∀ p,H p=none→Q (.ref p) (upd H p (.lst (xs++zs)))
theorem aDS:sY X (binaryOp .Add) aOP:=by
  intro pins s σ H x y v u Q I rx ry h
  obtain ⟨l,b,xs,zs,rfl,rfl,hH,hB,hz,q⟩:=h
  cases rx
  cases ry
  obtain ⟨z,its,n,r,hl,e⟩:=I.aqX hH
  obtain ⟨z2,its2,n2,r2,hl2,e2⟩:=I.aqX hB
  refine PySem.P.add_list e e2 ?_ (by rw [List.size_toArray,List.size_toArray];omega)
  have ea:its.toArray++its2.toArray=(its++its2).toArray:=by simp
  rw [ea]
  exact ⟨.ref _,_,I.aJN (t':=s.toks) (r.append r2) (by rw [List.length_append];omega),rfl,q _ I.fresh⟩
end
section
variable {prog:Program} {w:World} {A:Around} {E:Value→Shared→Prop} {s:Shared}
end
section
variable {X:Cx}
end
end L2
namespace Att
open PySem PySem.W PySem.Calls PyProof.Rows
theorem a7D {P:Params} {h:Heap}:∀ (ns:List Int) (vs:List Value),WellAll P h vs (ns.map WData.int)→IntsAre vs ns:=by
  intro ns
  induction ns with
  | nil =>
    intro vs w
    rw [List.map_nil] at w
    cases w
    exact .nil
  | cons n ns ih =>
    intro vs w
    rw [List.map_cons] at w
    cases w with
    | cons a b =>
      cases a
      exact .cons _ _ (ih _ b)
theorem aoB {l:OpenLaw} {n:Nat} (hn:l.most=some n) {P:Params} {h:Heap} {args:List WData} {vals:List Value}
    (hpre:l.row.toRowW.claim.pre args=true) (hwl:WellAll P h vals args) :
    ∃ a vs ns,vals=[Value.ref a]∧args=[WData.list (ns.map WData.int)]∧h.get? a=some { cls := .type "list",data := .seq vs.toArray }∧IntsAre vs ns∧ns.length≤n:=by
  have hsh:WShape.hasAll [] args [.list .int]=true:=(pre_splitW hpre).1
  have hc:l.pre.holds [] { args:=args }=true:=(pre_splitW hpre).2
  obtain ⟨d,r,rfl,h1,h2⟩:=hasAllW_cons hsh
  obtain rfl:=hasAllW_nil h2
  obtain ⟨xs,rfl,h3⟩:=hasW_list h1
  obtain ⟨ns,rfl⟩:=items_int h3
  have hlen:ns.length≤n:=by
    unfold OpenLaw.pre at hc
    have h4:(WTm.not (.lt (.lit (.int (n:Int))) (.len (.arg 0)))).holds [] { args:=[.list (ns.map .int)] }=true:=by
      have h4:=(holds_andW hc).1
      rw [hn] at h4
      exact h4
    have h5:=condW_of h4 (w_not (w_lt w_lit (w_len_list (w_arg rfl))))
    rw [List.length_map] at h5
    refine Nat.le_of_not_lt fun q=>?_
    have q':(n:Int) < ((ns.length:Nat):Int):=by omega
    first
      | (rw [decide_eq_true q'] at h5;exact absurd h5 (by decide))
      | (simp at h5;omega)
  cases hwl with
  | cons w1 w2 =>
    cases w2
    cases w1 with
    | list ho hall=>exact ⟨_,_,ns,rfl,rfl,ho,a7D ns _ hall,hlen⟩
theorem aoC (l:OpenLaw) (args:List WData):l.row.toRowW.claim.post args (.bool true) args=true :=
  postW_of (r:=l.row.toRowW) (X:=(true == true))
    (show WShape.has [] (.bool true) .bool=true by first | rfl | decide | simp [WShape.has,WShape.arms,WShape.armsAll])
    (show (WTm.eq .res (.lit (.bool true))).value [] { args:=args,res:=some (.bool true),after:=args }=some (.bool (true == true)) from w_eq_bool (w_res rfl) w_lit) rfl
theorem agO {l:OpenLaw} {n:Nat} {q:Program} {loose:List Str} {XP:(Str→Option Value)→Heap→Prop} {YP:World→Heap→Prop} {d:DefRec}
    (hn:l.most=some n) (hdf:d.params.defaults=[])
    (call:∀ (w:World) (s₀ s₁:Shared) (mg mb:Str→Option Value) (fa:Addr) (o:Obj) (pm cd doc:Value) (a:Addr) (vs:List Value) (ns:List Int),
      Ground q loose [] XP w s₀ mg mb s₁.heap→YP w s₁.heap →
      s₁.heap.get? fa=some o→o.data = .func (docDef d.name d.params d.body d.scope pm cd doc)→s₁.heap.CodeRec cd d.name→mg d.name=some (.ref fa) →
      s₁.heap.get? a=some { cls := .type "list",data := .seq vs.toArray }→IntsAre vs ns→ns.length≤n→s₁.gens=#[] →
      codeAny (model l.prog w) callerA (.call (.ref fa) ⟨[.ref a],[]⟩) (fun r s'=>r = .ok (.ret (.bool true))∧OldK s₁.heap s'.heap∧s'.os=s₁.os∧AllBare s'.gens) s₁) :
    WalkO q loose XP YP l.row.toRowW d [] (fun f vs=>PySem.call f vs):=by
  intro w s₀ s₁ mg mb G Y fa o pm cd doc dV kV ho hd hcd hD hmg hg args vals as hpre hlay hrd hwl hlo
  obtain rfl:dV = .none:=Dflts.none hD hdf
  obtain rfl:kV = .none:=Dflts.noKw hD
  obtain ⟨a,vs,ns,rfl,rfl,hobj,hints,hlen⟩:=aoB hn hpre hwl
  refine enter_call (codeAny_mono (call w s₀ s₁ mg mb fa o pm cd doc a vs ns G Y ho (fd_plain hd) hcd hmg hobj hints hlen hg) fun r s' hq=>?_)
  obtain ⟨rfl,h2,h3,h4⟩:=hq
  exact ⟨.inl ⟨.bool true,.bool true,[],rfl,fun _=>rfl,.bool true,aoC l _,fun _=>⟨List.Pairwise.nil,fun _ hm=>(nomatch hm)⟩⟩,h2,h3,h4⟩
section
variable {prog:Program} {w:World} {A:Around} {E:Value→Shared→Prop} {s:Shared} {K:Frag}
def ledger (h:Heap) (L d:Addr):List (Addr×Obj):=(List.range h.objs.size).filterMap fun a=>if a=L∨a=d then none else (h.get? a).map fun o=>(a,o)
end
end Att
namespace L2
open PySem PySem.Spec PyProof.Rows
theorem acJ:∀ {vs:List Value} {ns:List Int},IntsAre vs ns→Vals (ns.map V.int) vs
  | _,_,.nil => .nil
  | _,_,.cons n t h => .cons ⟨t,rfl⟩ (acJ h)
def Only (H:Hp):Prop:=∀ b,H b=none∨∃ o xs,H b=some (.nZ o (.lst xs))
theorem aqZ {P:Program} {w:World} {K:PySem.W.Frag} {mg mb:Str→Option Value} {CX:CXT} {k:Nat} {fa a:Addr} {fd:FuncData} {x:Str} {sp:Sp} {s₁:Shared} {vs:List Value} {ns:List Int}
    (KX:K.In s₁.heap) (hns:s₁.heap.Ns mainGlobals mg) (hb:s₁.heap.Ns builtinsNs mb) (hbb:∀ x:Str,x ≠ "__name__" → mb x=bootBuiltins x) (hlim:s₁.heap.NoLimit) (hg:s₁.gens=#[])
    (ha:s₁.heap.get? a=some { cls := .type "list",data := .seq vs.toArray }) (hi:IntsAre vs ns) (hl:ns.length≤sizeLine) (hr:iG qt k callerA)
    (F:∀ base:Heap,K.In base→base.Ns mainGlobals mg→cT qt P w K mg base CX k fa fd [x] sp) (hbind:∀ (s:Shared) (u:Value),BindsTo s fd ⟨[u],[]⟩ [(x,u)])
    (hsp:∀ H:Hp,Only H→uN K H a (ns.map V.int)→sp [.ref a] H (fun v _=>v = .bl true) fun _ _ _=>False)
    (hCX:∀ H e s',CX [] H s₁ (fun _ _ _=>False) e s'→False) :
    codeAny (model P w) callerA (.call (.ref fa) ⟨[.ref a],[]⟩) (fun r s'=>r = .ok (.ret (.bool true))∧OldK s₁.heap s'.heap∧s'.os=s₁.os∧AllBare s'.gens) s₁:=by
  have rv:=acJ hi
  have lenV:=hi.length
  have core:∀ H:Hp,Only H→uN K H a (ns.map V.int)→HOk P w H s₁.heap→(∀ b,H b≠none→b=a)→(H a≠none→K.lookup a=none) →
      codeAny (model P w) callerA (.call (.ref fa) ⟨[.ref a],[]⟩) (fun r s'=>r = .ok (.ret (.bool true))∧OldK s₁.heap s'.heap∧s'.os=s₁.os∧AllBare s'.gens) s₁:=by
    intro H hO hS hok hA hK
    have alR:∀ {b:Addr} {o:Obj},s₁.heap.get? b=some o→H b=none→(adL s₁.heap H).get? b=some o:=fun e n=>aq6 e n
    have noA:∀ {b:Addr} {o:Obj} {es:Array DictEntry} {ep:Nat},s₁.heap.get? b=some o→o.data = .dict es ep→H b=none:=fun {b o es ep} e d=>by
      cases q:H b with
      | none=>rfl
      | some u =>
        have e':b=a:=hA b (by rw [q];simp)
        subst e'
        rw [ha] at e;cases e
        have d':Data.seq vs.toArray _=Data.dict es ep:=d
        cases d'
    have nsK:∀ {b:Addr} {m:Str→Option Value},s₁.heap.Ns b m→(adL s₁.heap H).Ns b m:=fun {b m} ⟨o,es,ep,e,d,r⟩=>⟨o,es,ep,alR e (noA e d),d,r⟩
    have hKb:K.In (adL s₁.heap H):=fun b o e=>alR (KX b o e) (by
      cases q:H b with
      | none=>rfl
      | some u =>
        have e':b=a:=hA b (by rw [q];simp)
        subst e'
        rw [hK (by rw [q];simp)] at e;cases e)
    have hM:Mod K mg (adL s₁.heap H):=⟨hKb,nsK hns,⟨mb,nsK hb,hbb⟩,let ⟨mc,h1,h2⟩:=hlim;⟨mc,nsK h1,h2⟩⟩
    have e0:abF P w K mg (adL s₁.heap H) callerA [] s₁ H:=⟨rfl,hM,fun b o e=>avW e,Nat.le_of_eq (anZ _ _),trivial,fun b hb=>absurd (show b∈([]:List Addr) from hb) (by simp),hok,.of_eq hg,.inl rfl⟩
    refine codeAny_mono ((F _ hKb (nsK hns)).run callerA [] s₁ H ⟨[.ref a],[]⟩ [.ref a] [.ref a] _ _ hr e0 (hbind s₁ (.ref a)) (.cons rfl .nil) (hsp H hO hS)) fun r s' h=>?_
    cases r with
    | error e=>exact (hCX H e s' h).elim
    | ok fl =>
      cases fl with
      | next=>exact False.elim h
      | brk=>exact False.elim h
      | cont=>exact False.elim h
      | ret u =>
        obtain ⟨v,H',os,bare,un,hok',r',q⟩:=h
        have q':v = .bl true:=q
        subst q'
        obtain rfl:u=Value.bool true:=r'
        refine ⟨rfl,OldK.of_keep fun b o e=>?_,os,bare⟩
        cases q:H b with
        | none=>exact un.keep b o e q (by intro z;exact absurd (show b∈([]:List Addr) from z) (by simp)) (by simp)
        | some u =>
          rcases hO b with z | ⟨ob,xs,z⟩
          · rw [q] at z;cases z
          · have z2:=un.lJ b ob _ z
            obtain ⟨e1,_⟩:=hok b _ z
            obtain ⟨e2,_⟩:=hok' b _ z2
            rw [e] at e1;cases e1
            exact e2
  cases hk:K.lookup a with
  | some o =>
    have e:=KX a o hk
    rw [ha] at e
    cases e
    refine core (fun _=>none) (fun _ => .inl rfl) (.inr ⟨_,vs.toArray,_,hk,rfl,rfl,rfl,by rw [List.size_toArray,lenV];exact hl,by simpa using rv⟩) (fun b u z=>by have z':(none:Option HO)=some u:=z;cases z') (fun b z=>absurd rfl z) fun z=>absurd rfl z
  | none =>
    refine core (fun b=>if b=a then some (.nZ { cls := .type "list",data := .seq vs.toArray } (.lst (ns.map V.int))) else none) (fun b=>?_) (.inl (.inr ⟨{ cls := .type "list",data := .seq vs.toArray },if_pos rfl⟩)) (fun b u z=>?_) (fun b z=>?_) fun _=>hk
    · by_cases hb:b=a
      · exact .inr ⟨_,_,if_pos hb⟩
      · exact .inl (if_neg hb)
    · by_cases hb:b=a
      · have z':=(if_pos hb).symm.trans z
        cases z'
        subst hb
        exact ⟨ha,by rw [List.length_map];exact hl,vs,_,rv,ha⟩
      · have z':=(if_neg hb).symm.trans z
        cases z'
    · by_cases hb:b=a
      · exact hb
      · exact absurd (if_neg hb) z
end L2
namespace L2
open PySem PySem.Spec PyProof.Rows
theorem awU {l:PySem.W.OpenLaw} {n k:Nat} {q:Program} {loose:List Str} {XP:(Str→Option Value)→Heap→Prop} {YP:World→Heap→Prop} {d:DefRec} {K:Params→PySem.W.Frag} {CX:World→CXT} {sp:World→Sp} {x:Str}
    (hn:l.most=some n) (hn2:n≤sizeLine) (hdf:d.params.defaults=[]) (hr:iG qt k callerA)
    (hY:∀ (w:World) (h:Heap),YP w h→(K w.params).In h)
    (F:∀ (w:World) (mg:Str→Option Value) (fa:Addr) (h:Heap),(K w.params).In h→h.Ns mainGlobals mg→mg d.name=some (.ref fa) →
      ∃ fd:FuncData,(∀ (s:Shared) (u:Value),BindsTo s fd ⟨[u],[]⟩ [(x,u)]) ∧
        ∀ base:Heap,(K w.params).In base→base.Ns mainGlobals mg→cT qt l.prog w (K w.params) mg base (CX w) k fa fd [x] (sp w))
    (hsp:∀ (w:World) (H:Hp) (a:Addr) (ns:List Int),ns.length≤n→Only H→uN (K w.params) H a (ns.map V.int)→sp w [.ref a] H (fun v _=>v = .bl true) fun _ _ _=>False)
    (hCX:∀ (w:World) (H:Hp) (s:Shared) (e:Value) (s':Shared),CX w [] H s (fun _ _ _=>False) e s'→False) :
    PySem.W.WalkO q loose XP YP l.row.toRowW d [] (fun f vs=>PySem.call f vs):=by
  refine Att.agO hn hdf fun w s₀ s₁ mg mb fa o pm cd doc a vs ns G Y ho hd hcd hmg hobj hints hlen hg=>?_
  have KX:=hY w _ Y
  obtain ⟨fd,hb,hF⟩:=F w mg fa _ KX G.T.g hmg
  exact aqZ KX G.T.g G.T.b G.T.builtins G.T.nolimit hg hobj hints (Nat.le_trans hlen hn2) hr hF hb (fun H hO hS=>hsp w H a ns hlen hO hS) fun H e s'=>hCX w H s₁ e s'
end L2
namespace L2
open PySem PySem.Spec PyProof.Rows
def aJ (s:Stmt):Arguments:=match s with
  | .FunctionDef _ a _ _ _ _ _ _ _ _=>a
  | _=>{ posonlyargs:=[],args:=[],vararg:=none,kwonlyargs:=[],kw_defaults:=[],kwarg:=none,defaults:=[] }
def aF (s:Stmt):List Stmt:=match s with
  | .FunctionDef _ _ b _ _ _ _ _ _ _=>b
  | _=>[]
def aC (s:Stmt):Scope:=match s with
  | .FunctionDef _ _ _ _ _ _ sc _ _ _=>sc
  | _=>{ kind := .function,names:=[],isGenerator:=false,isCoroutine:=false }
abbrev CX0:CXT:=fun _ _ _ _ _ _=>False
structure Fun (K:PySem.W.Frag) (x qual:Str) (st:Stmt) (f:Addr) (fd:FuncData):Prop where
  ex:∃ (oc:Value) (od:Option Addr) (dV kV doc pm:Value) (an:Option Addr) (cdv ct:Value) (osl:Array (Option Value)),
    fd=PySem.W.fnOf x qual (aJ st) (aF st) (aC st) dV kV doc pm an cdv ct∧K.lookup f=some ⟨oc,od,.func fd,osl⟩∧PySem.W.codeIn K cdv qual=true
  kp:PySem.W.keepIn K (.ref f)=true
section
variable {P:Program} {w:World} {K:PySem.W.Frag} {mg:Str→Option Value} {base:Heap}
theorem Fun.ok {x qual:Str} {st:Stmt} {f:Addr} {fd:FuncData} {N ps:List Str} {k:Nat} {sp:Sp} (F:Fun K x qual st f fd) (S:bG N ps (aC st)) (len:∀ vs H Q E,sp vs H Q E→vs.length=ps.length)
    (hbody:∀ (cdv:Value) (A:Around) (outer:List Env) (s:Shared) (H:Hp) (vs:List V) (Q:VK) (E:XK),iG qt k (A.deeper (envOfC qual (aC st) s.heap.objs.size f cdv))→sp vs H Q E →
      ∃ t,PSs (qN qt CX0 P w K mg base N qual (aC st) f cdv A outer s H E).nox (aF st) t∧t { nx:=fun _ H'=>Q .non H',rt:=Q } (start N vs) H):cT qt P w K mg base CX0 (k+1) f fd ps sp:=by
  obtain ⟨oc,od,dV,kV,doc,pm,an,cdv,ct,osl,rfl,lk,hcd⟩:=F.ex
  refine aB7 lk hcd S len fun A outer s H vs Q E hr hsp=>?_
  obtain ⟨t,h,q⟩:=hbody cdv A outer s H vs Q E hr hsp
  exact ⟨t,h.nox,q⟩
theorem cX {x qual:Str} {st:Stmt} {f:Addr} {oc:Value} {od an:Option Addr} {osl:Array (Option Value)} {dV kV doc pm cdv ct:Value} (l:K.lookup f=some ⟨oc,od,.func (PySem.W.fnOf x qual (aJ st) (aF st) (aC st) dV kV doc pm an cdv ct),osl⟩)
    (c:PySem.W.codeIn K cdv qual=true) (k:PySem.W.keepIn K (.ref f)=true):Fun K x qual st f (PySem.W.fnOf x qual (aJ st) (aF st) (aC st) dV kV doc pm an cdv ct):=⟨⟨oc,od,dV,kV,doc,pm,an,cdv,ct,osl,rfl,l,c⟩,k⟩
end
section
variable {X:Cx}
end
theorem aoD {c A B:Prop} [Decidable c] (h1:c→A) (h2:¬ c→B):if c then A else B:=by
  by_cases h:c
  · rw [if_pos h]
    exact h1 h
  · rw [if_neg h]
    exact h2 h
def Same (H H':Hp):Prop:=∀ b o,H b=some o→H' b=some o
theorem Same.refl (H:Hp):Same H H:=fun _ _ h=>h
theorem Same.trans {H H1 H2:Hp} (a:Same H H1) (b:Same H1 H2):Same H H2:=fun c o h=>b c o (a c o h)
theorem Same.free {H H':Hp} (e:Same H H') {l:Addr} (h:H' l=Option.none):H l=Option.none:=by
  cases q:H l with
  | none=>rfl
  | some o =>
    rw [e l o q] at h
    cases h
theorem Same.seq {K:PySem.W.Frag} {H H':Hp} {a:Addr} {xs:List V} (e:Same H H') (h:uN K H a xs):uN K H' a xs:=by
  rcases h with (h | ⟨o,h⟩) | h
  · exact .inl (.inl (e _ _ h))
  · exact .inl (.inr ⟨o,e _ _ h⟩)
  · exact .inr h
section
variable {X:Cx}
end
section
variable {κ:Type} [DecidableEq κ]
end
end L2
namespace L2
open PySem PySem.Spec PyProof.Rows
inductive D where
  | non | bl (b:Bool) | int (i:Int) | str (x:Str) | tup (xs:List D) | ref (a:Addr) | ty (n:String)
abbrev Fg:=PySem.W.Frag
abbrev agP (H:Hp) (a:Addr) (xs:List V):Prop:=True
theorem ajQ {H:Hp} {a:Addr} {xs:List V} (h:H a=some (.tup xs)):agP H a xs:=trivial
mutual
inductive RD (K:Fg) (H:Hp):D→V→Prop where
  | non:RD K H .non .non
  | bl (b:Bool):RD K H (.bl b) (.bl b)
  | int (i:Int):RD K H (.int i) (.int i)
  | str (x:Str):RD K H (.str x) (.str x)
  | ty (n:String):RD K H (.ty n) (.ty n)
  | ref (a:Addr):RD K H (.ref a) (.ref a)
  | tup {a:Addr} {xs:List V} {ds:List D}:vZ K H a xs→cL K H ds xs→agP H a xs→RD K H (.tup ds) (.ref a)
inductive cL (K:Fg) (H:Hp):List D→List V→Prop where
  | nil:cL K H [] []
  | cons {d:D} {v:V} {ds:List D} {vs:List V}:RD K H d v→cL K H ds vs→cL K H (d :: ds) (v :: vs)
end
structure Ts (H H':Hp):Prop where
  tups:∀ a xs,H a=some (.tup xs)→H' a=some (.tup xs)
  lJ:∀ a o u,H a=some (.nZ o u)→H' a=some (.nZ o u)
theorem Ts.refl (H:Hp):Ts H H:=⟨fun _ _ h=>h,fun _ _ _ h=>h⟩
theorem Ts.trans {H H1 H2:Hp} (a:Ts H H1) (b:Ts H1 H2):Ts H H2:=⟨fun c xs h=>b.tups c xs (a.tups c xs h),fun c o u h=>b.lJ c o u (a.lJ c o u h)⟩
theorem Ts.same {H H':Hp} (s:Same H H'):Ts H H':=⟨fun a _ h=>s a _ h,fun a _ _ h=>s a _ h⟩
theorem Ts.rd {H H':Hp} (t:Ts H H') {a:Addr} {xs:List V} (h:Rd H a (.tup xs)):Rd H' a (.tup xs):=by
  rcases h with h | ⟨o,h⟩
  · exact .inl (t.tups _ _ h)
  · exact .inr ⟨o,t.lJ _ _ _ h⟩
theorem Ts.sqT {K:Fg} {H H':Hp} (t:Ts H H') {a:Addr} {xs:List V} (h:vZ K H a xs):vZ K H' a xs:=h.elim (fun q => .inl (t.rd q)) .inr
theorem agP.mono {H H':Hp} (t:Ts H H') {a:Addr} {xs:List V} (h:agP H a xs):agP H' a xs:=trivial
theorem bB {H:Hp} {p:Addr} {o:HO} (h:H p=none):Same H (upd H p o):=fun b u e=>by
  rw [aU (lH e h)];exact e
mutual
theorem RD.mono {K:Fg} {H H':Hp} (t:Ts H H'):∀ {d:D} {v:V},RD K H d v→RD K H' d v
  | _,_,.non => .non
  | _,_,.bl b => .bl b
  | _,_,.int i => .int i
  | _,_,.str x => .str x
  | _,_,.ty n => .ty n
  | _,_,.ref a => .ref a
  | _,_,.tup h r e => .tup (t.sqT h) (cL.mono t r) (e.mono t)
theorem cL.mono {K:Fg} {H H':Hp} (t:Ts H H'):∀ {ds:List D} {vs:List V},cL K H ds vs→cL K H' ds vs
  | _,_,.nil => .nil
  | _,_,.cons h r => .cons (RD.mono t h) (cL.mono t r)
end
section
variable {K:Fg} {H:Hp}
theorem cL.length:∀ {ds:List D} {vs:List V},cL K H ds vs→ds.length=vs.length
  | _,_,.nil=>rfl
  | _,_,.cons _ r=>congrArg (·+1) (cL.length r)
theorem cL.append:∀ {ds:List D} {vs:List V} {es:List D} {ws:List V},cL K H ds vs→cL K H es ws→cL K H (ds++es) (vs++ws)
  | _,_,_,_,.nil,s=>s
  | _,_,_,_,.cons h r,s => .cons h (cL.append r s)
theorem cL.get:∀ {ds:List D} {vs:List V} {i:Nat} {d:D},cL K H ds vs→ds[i]?=some d→∃ v,vs[i]?=some v∧RD K H d v
  | _,_,_,_,.nil,e=>by simp at e
  | _,_,0,_,.cons r _,e=>by simp at e;subst e;exact ⟨_,rfl,r⟩
  | _,_,i+1,d,.cons _ t,e=>by
    obtain ⟨u,h1,h2⟩:=cL.get (i:=i) (d:=d) t (by simpa using e)
    exact ⟨u,by simpa using h1,h2⟩
theorem cL.ajR:∀ {ds:List D} {vs:List V} {i:Nat} {v:V},cL K H ds vs→vs[i]?=some v→∃ d,ds[i]?=some d∧RD K H d v
  | _,_,_,_,.nil,e=>by simp at e
  | _,_,0,_,.cons r _,e=>by simp at e;subst e;exact ⟨_,rfl,r⟩
  | _,_,i+1,d,.cons _ t,e=>by
    obtain ⟨u,h1,h2⟩:=cL.ajR (i:=i) (v:=d) t (by simpa using e)
    exact ⟨u,by simpa using h1,h2⟩
theorem cL.set {d:D} {v:V} (r:RD K H d v):∀ {ds:List D} {vs:List V} (i:Nat),cL K H ds vs→cL K H (ds.set i d) (vs.set i v)
  | _,_,_,.nil => .nil
  | _,_,0,.cons _ t => .cons r t
  | _,_,i+1,.cons q t => .cons q (cL.set r i t)
theorem cL.drop:∀ {ds:List D} {vs:List V} (n:Nat),cL K H ds vs→cL K H (ds.drop n) (vs.drop n)
  | _,_,0,r=>r
  | _,_,_+1,.nil => .nil
  | _,_,n+1,.cons _ t=>cL.drop n t
theorem cL.take:∀ {ds:List D} {vs:List V} (n:Nat),cL K H ds vs→cL K H (ds.take n) (vs.take n)
  | _,_,0,_ => .nil
  | _,_,_+1,.nil => .nil
  | _,_,n+1,.cons r t => .cons r (cL.take n t)
theorem cL.ints (ns:List Int):cL K H (ns.map D.int) (ns.map V.int):=by
  induction ns with
  | nil=>exact .nil
  | cons n r ih=>exact .cons (.int n) ih
theorem cL.a2L {ds:List D} {vs:List V} (r:cL K H ds vs):vs=[]↔ds=[]:=by
  cases r <;> simp
end
abbrev DK:=Key ⊕ List Key
inductive GO where
  | lst (ds:List D) | rol (ds:List D) | lF (t:Bool) (kvs:List (DK×D)) | ins (C:Addr) (fs:List (Str×D)) | exn (C:Addr) | rdc (o:Obj) (t:Bool) (kvs:List (DK×D)) | tpl (ds:List D)
abbrev Gp:=Addr→Option GO
def aN (G:Gp) (a:Addr) (o:GO):Gp:=fun b=>if b=a then some o else G b
theorem aQ {G:Gp} {a:Addr} {o:GO}:aN G a o a=some o:=by unfold aN;rw [if_pos rfl]
theorem bK {G:Gp} {a b:Addr} {o:GO} (h:b≠a):aN G a o b=G b:=by unfold aN;rw [if_neg h]
theorem oV {G:Gp} {a b:Addr} {o u:GO} (h:G b=some u) (n:G a=none):aN G a o b=some u:=by
  rw [bK];exact h
  intro e;subst e;rw [h] at n;cases n
def Le (G G':Gp):Prop:=∀ a o,G a=some o→G' a=some o
theorem Le.refl (G:Gp):Le G G:=fun _ _ h=>h
theorem Le.trans {G G1 G2:Gp} (a:Le G G1) (b:Le G1 G2):Le G G2:=fun c o h=>b c o (a c o h)
theorem Le.new {G:Gp} {a:Addr} {o:GO} (n:G a=none):Le G (aN G a o):=fun _ _ h=>oV h n
theorem Le.free {G G':Gp} (l:Le G G') {a:Addr} (h:G' a=none):G a=none:=by
  cases q:G a with
  | none=>rfl
  | some o=>have:=l a o q;rw [h] at this;cases this
def kD:Key→D
  | .inl i => .int i
  | .inr x => .str x
def dkD:DK→D
  | .inl k=>kD k
  | .inr ks => .tup (ks.map kD)
inductive Two {α β:Type} (P:α→β→Prop):List α→List β→Prop where
  | nil:Two P [] []
  | cons {a:α} {b:β} {as:List α} {bs:List β}:P a b→Two P as bs→Two P (a :: as) (b :: bs)
theorem Two.imp {α β:Type} {P Q:α→β→Prop} (f:∀ a b,P a b→Q a b):∀ {as:List α} {bs:List β},Two P as bs→Two Q as bs
  | _,_,.nil => .nil
  | _,_,.cons h r => .cons (f _ _ h) (Two.imp f r)
theorem Two.length {α β:Type} {P:α→β→Prop}:∀ {as:List α} {bs:List β},Two P as bs→as.length=bs.length
  | _,_,.nil=>rfl
  | _,_,.cons _ r=>congrArg (·+1) (Two.length r)
def agR (C a:Addr) (h:Heap):Prop:=∃ o vs,h.get? a=some o∧o.cls = .ref C∧o.data = .fields vs
def OR (K:Fg) (H:Hp) (a:Addr):GO→Prop
  | .lst ds=>∃ xs,H a=some (.lst xs)∧cL K H ds xs
  | .rol ds=>∃ xs,uN K H a xs∧cL K H ds xs
  | .lF t kvs=>(t=false∧∃ xs:List (Key×V),H a=some (.dK xs)∧Two (fun p q=>p.1 = .inl q.1∧RD K H p.2 q.2) kvs xs) ∨
      (t=true∧∃ xs:List (List Key×V),H a=some (.dT xs)∧Two (fun p q=>p.1 = .inr q.1∧RD K H p.2 q.2) kvs xs)
  | .ins C fs=>∃ (dx:Addr) (vs:List (Str×V)),H a=some (.ins C dx vs)∧Two (fun p q=>p.1=q.1∧RD K H p.2 q.2) fs vs
  | .rdc o t kvs=>(t=false∧∃ xs:List (Key×V),H a=some (.nZ o (.dK xs))∧Two (fun p q=>p.1 = .inl q.1∧RD K H p.2 q.2) kvs xs) ∨
      (t=true∧∃ xs:List (List Key×V),H a=some (.nZ o (.dT xs))∧Two (fun p q=>p.1 = .inr q.1∧RD K H p.2 q.2) kvs xs)
  | .tpl ds=>∃ xs,vZ K H a xs∧cL K H ds xs
  | .exn C=>∃ o vs,H a=some (.nZ o (.ext (agR C a)))∧o.data = .fields vs∧vs[2]?=some .none
def HR (K:Fg) (H:Hp) (G:Gp):Prop:=∀ a o,G a=some o→OR K H a o
theorem OR.keep {K:Fg} {H H':Hp} {a:Addr} {o:GO} (t:Ts H H') (h:OR K H a o) (k:∀ u,H a=some u→H' a=some u):OR K H' a o:=by
  cases o with
  | lst ds=>obtain ⟨xs,e,r⟩:=h;exact ⟨xs,k _ e,r.mono t⟩
  | rol ds =>
    obtain ⟨xs,e,r⟩:=h
    refine ⟨xs,?_,r.mono t⟩
    rcases e with (e | ⟨o,e⟩) | e
    · exact .inl (.inl (k _ e))
    · exact .inl (.inr ⟨o,k _ e⟩)
    · exact .inr e
  | lF b kvs =>
    rcases h with ⟨z,xs,e,r⟩ | ⟨z,xs,e,r⟩
    · exact .inl ⟨z,xs,k _ e,r.imp fun _ _ q=>⟨q.1,q.2.mono t⟩⟩
    · exact .inr ⟨z,xs,k _ e,r.imp fun _ _ q=>⟨q.1,q.2.mono t⟩⟩
  | ins C fs=>obtain ⟨dx,vs,e,r⟩:=h;exact ⟨dx,vs,k _ e,r.imp fun _ _ q=>⟨q.1,q.2.mono t⟩⟩
  | rdc ob b kvs =>
    rcases h with ⟨z,xs,e,r⟩ | ⟨z,xs,e,r⟩
    · exact .inl ⟨z,xs,k _ e,r.imp fun _ _ q=>⟨q.1,q.2.mono t⟩⟩
    · exact .inr ⟨z,xs,k _ e,r.imp fun _ _ q=>⟨q.1,q.2.mono t⟩⟩
  | exn C=>obtain ⟨o,vs,e,r⟩:=h;exact ⟨o,vs,k _ e,r⟩
  | tpl ds=>obtain ⟨xs,e,r⟩:=h;exact ⟨xs,t.sqT e,r.mono t⟩
theorem HR.same {K:Fg} {H H':Hp} {G:Gp} (h:HR K H G) (s:Same H H'):HR K H' G:=fun a o e=>(h a o e).keep (.same s) fun u q=>s a u q
theorem HR.le {K:Fg} {H:Hp} {G G':Gp} (h:HR K H G') (l:Le G G'):HR K H G:=fun a o e=>h a o (l a o e)
theorem HR.put {K:Fg} {H:Hp} {G:Gp} {p:Addr} {o:HO} {u:GO} (h:HR K H G) (n:H p=none) (new:OR K (upd H p o) p u):HR K (upd H p o) (aN G p u):=fun a v e=>by
  by_cases q:a=p
  · subst q;rw [aQ] at e;cases e;exact new
  · rw [bK q] at e
    exact (h a v e).keep (.same (bB n)) fun w z=>bB n a w z
theorem HR.turn {K:Fg} {H:Hp} {G:Gp} {p:Addr} {o:HO} {u:GO} (h:HR K H G) (t:Ts H (upd H p o)) (new:OR K (upd H p o) p u):HR K (upd H p o) (aN G p u):=fun a v e=>by
  by_cases q:a=p
  · subst q;rw [aQ] at e;cases e;exact new
  · rw [bK q] at e
    exact (h a v e).keep t fun w z=>by rw [aU q];exact z
theorem Ts.turn {H:Hp} {p:Addr} {o u:HO} (e:H p=some u) (h1:∀ xs,u ≠ .tup xs) (h2:∀ ob w,u ≠ .nZ ob w):Ts H (upd H p o):=by
  refine ⟨fun a xs q=>?_,fun a ob w q=>?_⟩
  · rw [aU];exact q
    intro z;subst z;rw [e] at q;exact h1 xs (Option.some.inj q)
  · rw [aU];exact q
    intro z;subst z;rw [e] at q;exact h2 ob w (Option.some.inj q)
abbrev aM:=List (Option D)
abbrev iD:=D→Gp→Prop
abbrev bU:=aM→Gp→iD→Prop
abbrev TT3:=aM→Gp→(Bool→Gp→Prop)→Prop
abbrev nT:=aM→Gp→(List D→Gp→Prop)→Prop
def at3:aM→Nat→Option D
  | [],_=>none
  | x :: _,0=>x
  | _ :: r,n+1=>at3 r n
def rR:aM→Nat→D→aM
  | [],_,_=>[]
  | _ :: r,0,d=>some d :: r
  | x :: r,n+1,d=>x :: rR r n d
inductive SR (K:Fg) (H:Hp):aM→St→Prop where
  | nil:SR K H [] []
  | none {ρ:aM} {σ:St} {v:Option V}:SR K H ρ σ→SR K H (Option.none :: ρ) (v :: σ)
  | some {ρ:aM} {σ:St} {d:D} {v:V}:RD K H d v→SR K H ρ σ→SR K H (Option.some d :: ρ) (Option.some v :: σ)
theorem SR.mono {K:Fg} {H H':Hp} (t:Ts H H'):∀ {ρ:aM} {σ:St},SR K H ρ σ→SR K H' ρ σ
  | _,_,.nil => .nil
  | _,_,.none r => .none (SR.mono t r)
  | _,_,.some h r => .some (h.mono t) (SR.mono t r)
theorem SR.get {K:Fg} {H:Hp}:∀ {ρ:aM} {σ:St} {i:Nat} {d:D},SR K H ρ σ→at3 ρ i=Option.some d→∃ v,σ[i]?=Option.some (Option.some v)∧RD K H d v
  | _,_,_,_,.nil,e=>by simp [at3] at e
  | _,_,0,_,.none _,e=>by simp [at3] at e
  | _,_,0,_,.some h _,e=>by simp [at3] at e;subst e;exact ⟨_,rfl,h⟩
  | _,_,i+1,_,.none r,e=>by
    obtain ⟨v,h1,h2⟩:=SR.get (i:=i) r (by simpa [at3] using e)
    exact ⟨v,by simpa using h1,h2⟩
  | _,_,i+1,_,.some _ r,e=>by
    obtain ⟨v,h1,h2⟩:=SR.get (i:=i) r (by simpa [at3] using e)
    exact ⟨v,by simpa using h1,h2⟩
theorem SR.set {K:Fg} {H:Hp} {d:D} {v:V} (q:RD K H d v):∀ {ρ:aM} {σ:St} (i:Nat),SR K H ρ σ→SR K H (rR ρ i d) (σ.set i (Option.some v))
  | _,_,_,.nil => .nil
  | _,_,0,.none r => .some q r
  | _,_,0,.some _ r => .some q r
  | _,_,i+1,.none r => .none (SR.set q i r)
  | _,_,i+1,.some h r => .some h (SR.set q i r)
theorem SR.len {K:Fg} {H:Hp}:∀ {ρ:aM} {σ:St},SR K H ρ σ→ρ.length=σ.length
  | _,_,.nil=>rfl
  | _,_,.none r=>congrArg (·+1) (SR.len r)
  | _,_,.some _ r=>congrArg (·+1) (SR.len r)
def adY (n:Nat) (ds:List D):aM:=ds.map Option.some++List.replicate (n - ds.length) Option.none
theorem SR.nones {K:Fg} {H:Hp}:∀ n:Nat,SR K H (List.replicate n Option.none) (List.replicate n Option.none)
  | 0 => .nil
  | n+1 => .none (SR.nones n)
theorem SR.entry {K:Fg} {H:Hp} {k:Nat}:∀ {ds:List D} {vs:List V},cL K H ds vs→SR K H (ds.map Option.some++List.replicate k Option.none) (vs.map Option.some++List.replicate k Option.none)
  | _,_,.nil=>SR.nones k
  | _,_,.cons h r => .some h (SR.entry r)
def upE (K:Fg) (t:bU):TE:=fun σ H Q=>∃ ρ G R,SR K H ρ σ∧HR K H G∧t ρ G R∧∀ v H' d G',Ts H H'→RD K H' d v→HR K H' G'→R d G'→Q v H'
def upT (K:Fg) (t:TT3):TT:=fun σ H Q=>∃ ρ G R,SR K H ρ σ∧HR K H G∧t ρ G R∧∀ b H' G',Ts H H'→HR K H' G'→R b G'→Q b H'
def upA (K:Fg) (t:nT):TA:=fun σ H Q=>∃ ρ G R,SR K H ρ σ∧HR K H G∧t ρ G R∧∀ vs H' ds G',Ts H H'→cL K H' ds vs→HR K H' G'→R ds G'→Q vs H'
abbrev cU (X:Cx) (e:Expr) (t:bU):Prop:=PE X e (upE X.K t)
abbrev PT3 (X:Cx) (e:Expr) (t:TT3):Prop:=PT X e (upT X.K t)
abbrev PW3 (X:Cx) (e:Expr) (t:TT3):Prop:=PW X e (upT X.K t)
abbrev PA3 (X:Cx) (es:List Expr) (t:nT):Prop:=PA X es (upA X.K t)
structure cZ where
  nx:aM→Gp→Prop
  rt:iD
  bk:aM→Gp→Prop:=fun _ _=>False
  ct:aM→Gp→Prop:=fun _ _=>False
abbrev bA:=cZ→aM→Gp→Prop
structure UpD (K:Fg) (E:cZ) (F:Ends):Prop where
  nx:∀ ρ G σ H',SR K H' ρ σ→HR K H' G→E.nx ρ G→F.nx σ H'
  rt:∀ d G v H',RD K H' d v→HR K H' G→E.rt d G→F.rt v H'
  bk:∀ ρ G σ H',SR K H' ρ σ→HR K H' G→E.bk ρ G→F.bk σ H'
  ct:∀ ρ G σ H',SR K H' ρ σ→HR K H' G→E.ct ρ G→F.ct σ H'
def upS (K:Fg) (t:bA):TS:=fun F σ H=>∃ ρ G E,SR K H ρ σ∧HR K H G∧t E ρ G∧UpD K E F
abbrev PS3 (X:Cx) (st:Stmt) (t:bA):Prop:=PS X st (upS X.K t)
abbrev a8Q (X:Cx) (st:List Stmt) (t:bA):Prop:=PSs X st (upS X.K t)
section
variable {X:Cx}
theorem PE.imp {e:Expr} {t t':TE} (h:PE X e t) (k:∀ σ H Q,t' σ H Q→t σ H Q):PE X e t':=fun pins s σ H Q I q=>h pins s σ H Q I (k _ _ _ q)
theorem PT.imp {e:Expr} {t t':TT} (h:PT X e t) (k:∀ σ H Q,t' σ H Q→t σ H Q):PT X e t':=fun pins s σ H Q I q=>h pins s σ H Q I (k _ _ _ q)
theorem PW.imp {e:Expr} {t t':TT} (h:PW X e t) (k:∀ σ H Q,t' σ H Q→t σ H Q):PW X e t':=fun wh pins s σ H Q I q=>h wh pins s σ H Q I (k _ _ _ q)
theorem PA.imp {e:List Expr} {t t':TA} (h:PA X e t) (k:∀ σ H Q,t' σ H Q→t σ H Q):PA X e t':=fun p pins s σ H Q I q=>h p pins s σ H Q I (k _ _ _ q)
theorem PS.imp {e:Stmt} {t t':TS} (h:PS X e t) (k:∀ F σ H,t' F σ H→t F σ H):PS X e t':=fun pins s σ H F I q=>h pins s σ H F I (k _ _ _ q)
def KF (K:Fg) (H:Hp):Prop:=∀ b o,K.lookup b=some o→H b=none
theorem xF {pins:List (Addr×Obj)} {σ:St} {H:Hp} {s:Shared} (I:Inv X pins σ H s):KF X.K H:=fun b o e=>(I.bs b o (I.ok.mod.kin b o e)).2
theorem PE.kf {e:Expr} {t:TE} (h:PE X e t):PE X e (fun σ H Q=>t σ H fun v H'=>KF X.K H'→Q v H'):=fun pins s σ H Q I q =>
  dN (h pins s σ H _ I q) fun _ _ ⟨v,H',I',r,q'⟩=>⟨v,H',I',r,q' (xF I')⟩
theorem PSs.imp {e:List Stmt} {t t':TS} (h:PSs X e t) (k:∀ F σ H,t' F σ H→t F σ H):PSs X e t':=fun pins s σ H F I q=>h pins s σ H F I (k _ _ _ q)
end
theorem nC {K:Fg} {H:Hp} {G:Gp} {p:Addr} {o:HO} (g:HR K H G) (n:H p=none) (k:KF K (upd H p o)):G p=none:=by
  have kn:K.lookup p=none:=by
    cases q:K.lookup p with
    | none=>rfl
    | some u=>have:=k p u q;rw [aK] at this;cases this
  cases q:G p with
  | none=>rfl
  | some u =>
    have z:=g p u q
    cases u with
    | lst ds=>obtain ⟨xs,e,_⟩:=z;rw [n] at e;cases e
    | rol ds =>
      obtain ⟨xs,e,_⟩:=z
      rcases e with (e | ⟨o,e⟩) | ⟨o,_,_,e,_⟩
      · rw [n] at e;cases e
      · rw [n] at e;cases e
      · rw [kn] at e;cases e
    | lF tt kvs =>
      rcases z with ⟨_,xs,e,_⟩ | ⟨_,xs,e,_⟩
      · rw [n] at e;cases e
      · rw [n] at e;cases e
    | rdc ob tt kvs =>
      rcases z with ⟨_,xs,e,_⟩ | ⟨_,xs,e,_⟩
      · rw [n] at e;cases e
      · rw [n] at e;cases e
    | ins C fs=>obtain ⟨dx,vs,e,_⟩:=z;rw [n] at e;cases e
    | exn C=>obtain ⟨o,vs,e,_⟩:=z;rw [n] at e;cases e
    | tpl ds =>
      obtain ⟨xs,e,_⟩:=z
      rcases e with (e | ⟨o,e⟩) | ⟨o,_,_,e,_⟩
      · rw [n] at e;cases e
      · rw [n] at e;cases e
      · rw [kn] at e;cases e
section
variable {X:Cx} {a b c:Expr} {ta tb tc:bU} {pos:Pos}
def aB (i:Nat):bU:=fun ρ G R=>match at3 ρ i with
  | some d=>R d G
  | none=>False
def bH (d:D):bU:=fun _ G R=>R d G
theorem aDT {K:Fg} {i:Nat} {σ:St} {H:Hp} {Q:VK} (h:upE K (aB i) σ H Q):aIQ i σ H Q:=by
  obtain ⟨ρ,G,R,s,g,t,k⟩:=h
  unfold aB at t
  split at t
  · rename_i d e
    obtain ⟨v,h1,h2⟩:=s.get e
    exact ⟨v,h1,k v H d G (.refl H) h2 g t⟩
  · exact t.elim
theorem aoF {K:Fg} {d:D} {v:V} (r:∀ H,RD K H d v) {σ:St} {H:Hp} {Q:VK} (h:upE K (bH d) σ H Q):tC v σ H Q:=by
  obtain ⟨ρ,G,R,s,g,t,k⟩:=h
  exact k v H d G (.refl H) (r H) g t
theorem aJQ (i:Nat) {x:Str} {pos:Pos} (hN:X.N[i]?=some x:=by rfl) (hv:Vis X.env.scope x:=by first | exact Or.inl rfl | exact Or.inr (Or.inl rfl) | exact Or.inr (Or.inr rfl)) (hd:(x == ("__debug__" : Str))=false:=by decide)
    (hcd:(x == ("__classdict__" : Str))=false:=by decide):cU X (.Name x pos) (aB i):=PE.imp (aCR hN hv hd hcd) fun _ _ _ h=>aDT h
theorem aJR {i j pos}:cU X (.Constant (.int i) j pos) (bH (.int i)):=PE.imp aCS fun _ _ _ h=>aoF (fun _ => .int i) h
theorem aOR {b j pos}:cU X (.Constant (.bool b) j pos) (bH (.bl b)):=PE.imp aIR fun _ _ _ h=>aoF (fun _ => .bl b) h
theorem aJS {j pos}:cU X (.Constant .none j pos) (bH .non):=PE.imp aCT fun _ _ _ h=>aoF (fun _ => .non) h
theorem aJT {x j pos}:cU X (.Constant (.str x) j pos) (bH (.str x)):=PE.imp aCU fun _ _ _ h=>aoF (fun _ => .str x) h
theorem ar0 {x:Str} {d:D} {v:V} {u:Value} {pos:Pos} (hg:Gl X x) (hm:X.mg x=some u) (r:RelV v u) (rd:∀ H,RD X.K H d v) (hd:(x == ("__debug__" : Str))=false:=by decide):cU X (.Name x pos) (bH d) :=
  PE.imp (avZ hg hm r hd) fun _ _ _ h=>aoF rd h
theorem aDU {x:Str} {n:String} {pos:Pos} (hg:Gl X x) (hm:X.mg x=none) (hv:bootBuiltins x=some (.type n)) (hn:x ≠ "__name__" := by decide) (hd:(x == ("__debug__" : Str))=false:=by decide):cU X (.Name x pos) (bH (.ty n)) :=
  PE.imp (aw0 hg hm hv (v := .ty n) rfl hn hd) fun _ _ _ h=>aoF (fun _ => .ty n) h
abbrev R3:=D→D→Gp→iD→Prop
def OpI (K:Fg) (r:R2) (r3:R3):Prop:=∀ (H:Hp) (x y:D) (vx vy:V) (G:Gp) (R:iD) (Q:VK),RD K H x vx→RD K H y vy→HR K H G→r3 x y G R→(∀ v H' d G',Ts H H'→RD K H' d v→HR K H' G'→R d G'→Q v H')→r vx vy H fun v H'=>KF K H'→Q v H'
def a8R (X:Cx) (f:Value→Value→Sem Value) (r3:R3):Prop:=∃ r,sY X f r∧OpI X.K r r3
def OpC (K:Fg) (r:R2) (r3:R3):Prop:=∀ (H:Hp) (x y:D) (vx vy:V) (G:Gp) (R:iD) (Q:VK),RD K H x vx→RD K H y vy→HR K H G→r3 x y G R→(∀ v H' d G',Ts H H'→RD K H' d v→HR K H' G'→R d G'→Q v H')→r vx vy H Q
def uP (X:Cx) (f:Value→Value→Sem Value) (r3:R3):Prop:=∃ r,sY X f r∧OpC X.K r r3
def aH (r:R3) (ta tb:bU):bU:=fun ρ G R=>ta ρ G fun x G1=>tb ρ G1 fun y G2=>r x y G2 R
theorem aJU {K:Fg} {r:R2} {r3:R3} (o:OpI K r r3) {σ:St} {H:Hp} {Q:VK} (h:upE K (aH r3 ta tb) σ H Q):tOp r (upE K ta) (upE K tb) σ H fun v H'=>KF K H'→Q v H':=by
  obtain ⟨ρ,G,R,s,g,t,k⟩:=h
  refine ⟨ρ,G,_,s,g,t,fun vx H1 x G1 t1 rx g1 t'=>?_⟩
  refine ⟨ρ,G1,_,s.mono t1,g1,t',fun vy H2 y G2 t2 ry g2 t''=>?_⟩
  exact o H2 x y vx vy G2 R Q (rx.mono t2) ry g2 t'' fun v H' d G' t3=>k v H' d G' ((t1.trans t2).trans t3)
theorem ajS {K:Fg} {r:R2} {r3:R3} (o:OpC K r r3) {σ:St} {H:Hp} {Q:VK} (h:upE K (aH r3 ta tb) σ H Q):tOp r (upE K ta) (upE K tb) σ H Q:=by
  obtain ⟨ρ,G,R,s,g,t,k⟩:=h
  refine ⟨ρ,G,_,s,g,t,fun vx H1 x G1 t1 rx g1 t'=>?_⟩
  refine ⟨ρ,G1,_,s.mono t1,g1,t',fun vy H2 y G2 t2 ry g2 t''=>?_⟩
  exact o H2 x y vx vy G2 R Q (rx.mono t2) ry g2 t'' fun v H' d G' t3=>k v H' d G' ((t1.trans t2).trans t3)
theorem aOS {op:Operator} {r3:R3} (o:a8R X (binaryOp op) r3) (ha:cU X a ta) (hb:cU X b tb):cU X (.BinOp a op b pos) (aH r3 ta tb):=by
  obtain ⟨r,o1,o2⟩:=o
  exact PE.imp (PE.kf (aJ4 o1 ha hb)) fun _ _ _ h=>aJU o2 h
theorem aJV {op:CmpOp} {r3:R3} (o:uP X (compareOp op) r3) (ha:cU X a ta) (hb:cU X b tb) (hm:behindInMarks op b=false):cU X (.Compare a [op] [b] pos) (aH r3 ta tb):=by
  obtain ⟨r,o1,o2⟩:=o
  exact PE.imp (awA o1 ha hb hm) fun _ _ _ h=>ajS o2 h
def aZ (t:bU):TT3:=fun ρ G R=>t ρ G fun x G1=>match x with
  | .bl k=>R k G1
  | _=>False
theorem adZ {K:Fg} {t:TE} {t3:bU} (f:∀ σ H Q,upE K t3 σ H Q→t σ H Q) {σ:St} {H:Hp} {Q:Bool→Hp→Prop} (h:upT K (aZ t3) σ H Q):aqG t σ H Q:=by
  obtain ⟨ρ,G,R,s,g,u,k⟩:=h
  refine f _ _ _ ⟨ρ,G,_,s,g,u,fun v H' d G' t1 r g1 q=>?_⟩
  cases r with
  | bl b=>exact ⟨b,rfl,k b H' G' t1 g1 q⟩
  | _=>exact q.elim
theorem aJW {op:CmpOp} {r3:R3} (o:uP X (compareOp op) r3) (ha:cU X a ta) (hb:cU X b tb) (hm:behindInMarks op b=false):PT3 X (.Compare a [op] [b] pos) (aZ (aH r3 ta tb)):=by
  obtain ⟨r,o1,o2⟩:=o
  exact PT.imp (awB o1 ha hb hm) fun _ _ _ h=>adZ (fun _ _ _=>ajS o2) h
theorem aJX {e:Expr} {t:bU} (h:cU X e t) (he:∀ whole,isTrue e X.env whole=(do let v ← whole;standAt e.pos;holding [v] (truthy v)):=by intro _;rfl):PT3 X e (aZ t) :=
  PT.imp (aCV h he) fun _ _ _ h=>adZ (fun _ _ _ q=>q) h
def qT (r r':R3) (ta tb tc:bU):bU:=fun ρ G R=>ta ρ G fun x G1=>tb ρ G1 fun y G2=>r x y G2 fun z G3=>match z with
  | .bl true=>tc ρ G3 fun w G4=>r' y w G4 R
  | .bl false=>R (.bl false) G3
  | _=>False
theorem agS {K:Fg} {r r':R2} {r3 r3':R3} (o:OpC K r r3) (o':OpC K r' r3') {σ:St} {H:Hp} {Q:VK} (h:upE K (qT r3 r3' ta tb tc) σ H Q):ajH r r' (upE K ta) (upE K tb) (upE K tc) σ H Q:=by
  obtain ⟨ρ,G,R,s,g,t,k⟩:=h
  refine ⟨ρ,G,_,s,g,t,fun vx H1 x G1 t1 rx g1 t'=>?_⟩
  refine ⟨ρ,G1,_,s.mono t1,g1,t',fun vy H2 y G2 t2 ry g2 t''=>?_⟩
  refine o H2 x y vx vy G2 _ _ (rx.mono t2) ry g2 t'' fun v H3 d G3 t3 rd g3 q=>?_
  cases rd with
  | bl b =>
    refine ⟨b,rfl,?_⟩
    cases b with
    | true =>
      rw [if_pos rfl]
      refine ⟨ρ,G3,_,s.mono ((t1.trans t2).trans t3),g3,q,fun vw H4 w G4 t4 rw' g4 q'=>?_⟩
      exact o' H4 y w vy vw G4 R Q (ry.mono (t3.trans t4)) rw' g4 q' fun v H' d G' t5=>k v H' d G' (((t1.trans t2).trans t3).trans (t4.trans t5))
    | false =>
      rw [if_neg Bool.false_ne_true]
      exact k _ H3 _ G3 ((t1.trans t2).trans t3) (.bl false) g3 q
  | _=>exact q.elim
theorem awV {op op':CmpOp} {r3 r3':R3} (o:uP X (compareOp op) r3) (o':uP X (compareOp op') r3') (ha:cU X a ta) (hb:cU X b tb) (hc:cU X c tc)
    (hm:lastMarks [op,op'] [b,c]=false:=by with_unfolding_all rfl):cU X (.Compare a [op,op'] [b,c] pos) (qT r3 r3' ta tb tc):=by
  obtain ⟨r,o1,o2⟩:=o
  obtain ⟨r',o1',o2'⟩:=o'
  exact PE.imp (aqH o1 o1' ha hb hc hm) fun _ _ _ h=>agS o2 o2' h
theorem awW {op op':CmpOp} {r3 r3':R3} (o:uP X (compareOp op) r3) (o':uP X (compareOp op') r3') (ha:cU X a ta) (hb:cU X b tb) (hc:cU X c tc)
    (hm:lastMarks [op,op'] [b,c]=false:=by with_unfolding_all rfl):PT3 X (.Compare a [op,op'] [b,c] pos) (aZ (qT r3 r3' ta tb tc)):=by
  obtain ⟨r,o1,o2⟩:=o
  obtain ⟨r',o1',o2'⟩:=o'
  exact PT.imp (aqI o1 o1' ha hb hc hm) fun _ _ _ h=>adZ (fun _ _ _=>agS o2 o2') h
variable {sa sb:TT3} {rest:List Expr}
def agT (t u:TT3):TT3:=fun ρ G R=>t ρ G fun c G1=>if c=true then u ρ G1 R else R false G1
def abM (t u:TT3):TT3:=fun ρ G R=>t ρ G fun c G1=>if c=true then R true G1 else u ρ G1 R
def w6 (t:TT3):TT3:=fun ρ G R=>t ρ G fun c G1=>R (!c) G1
theorem aDV {K:Fg} {σ:St} {H:Hp} {Q:Bool→Hp→Prop} (h:upT K (agT sa sb) σ H Q):aIS (upT K sa) (upT K sb) σ H Q:=by
  obtain ⟨ρ,G,R,s,g,t,k⟩:=h
  refine ⟨ρ,G,_,s,g,t,fun c H1 G1 t1 g1 q=>?_⟩
  cases c with
  | true=>exact ⟨ρ,G1,R,s.mono t1,g1,q,fun b H' G' t2=>k b H' G' (t1.trans t2)⟩
  | false=>exact k false H1 G1 t1 g1 q
theorem aJY {K:Fg} {σ:St} {H:Hp} {Q:Bool→Hp→Prop} (h:upT K (abM sa sb) σ H Q):tOr (upT K sa) (upT K sb) σ H Q:=by
  obtain ⟨ρ,G,R,s,g,t,k⟩:=h
  refine ⟨ρ,G,_,s,g,t,fun c H1 G1 t1 g1 q=>?_⟩
  cases c with
  | false=>exact ⟨ρ,G1,R,s.mono t1,g1,q,fun b H' G' t2=>k b H' G' (t1.trans t2)⟩
  | true=>exact k true H1 G1 t1 g1 q
theorem aDW (ha:PT3 X a sa):PW3 X (.BoolOp .And [a] pos) sa:=aw1 ha
theorem aJZ (ha:PT3 X a sa):PW3 X (.BoolOp .Or [a] pos) sa:=aCW ha
theorem aK0 (ha:PT3 X a sa) (hb:PW3 X (.BoolOp .And (b :: rest) pos) sb):PW3 X (.BoolOp .And (a :: b :: rest) pos) (agT sa sb):=PW.imp (aCX ha hb) fun _ _ _ h=>aDV h
theorem aOT (ha:PT3 X a sa) (hb:PW3 X (.BoolOp .Or (b :: rest) pos) sb):PW3 X (.BoolOp .Or (a :: b :: rest) pos) (abM sa sb):=PW.imp (aIT ha hb) fun _ _ _ h=>aJY h
theorem aK1 (ha:PT3 X a sa):PT3 X (.UnaryOp .Not a pos) (w6 sa):=PT.imp (aCY ha) fun σ H Q h=>by
  obtain ⟨ρ,G,R,s,g,t,k⟩:=h
  exact ⟨ρ,G,_,s,g,t,fun c H1 G1 t1 g1 q=>k (!c) H1 G1 t1 g1 q⟩
def xG (ta tb:bU):bU:=fun ρ G R=>ta ρ G fun x G1=>match x with
  | .bl true=>tb ρ G1 R
  | .bl false=>R (.bl false) G1
  | _=>False
def alT (ta tb:bU):bU:=fun ρ G R=>ta ρ G fun x G1=>match x with
  | .bl true=>R (.bl true) G1
  | .bl false=>tb ρ G1 R
  | _=>False
def a8S (ta:bU):bU:=fun ρ G R=>ta ρ G fun x G1=>match x with
  | .bl c=>R (.bl (!c)) G1
  | _=>False
theorem aBF {op} (h:cU X a ta):cU X (.BoolOp op [a] pos) ta:=aCZ h
theorem aK2 (ha:cU X a ta) (hb:cU X (.BoolOp .And (b :: rest) pos) tb):cU X (.BoolOp .And (a :: b :: rest) pos) (xG ta tb):=PE.imp (aD0 ha hb) fun σ H Q h=>by
  obtain ⟨ρ,G,R,s,g,t,k⟩:=h
  refine ⟨ρ,G,_,s,g,t,fun v H1 x G1 t1 r g1 q=>?_⟩
  cases r with
  | bl c =>
    refine ⟨c,rfl,?_⟩
    cases c with
    | true=>exact ⟨ρ,G1,R,s.mono t1,g1,q,fun b H' d G' t2=>k b H' d G' (t1.trans t2)⟩
    | false=>exact k _ H1 _ G1 t1 (.bl false) g1 q
  | _=>exact q.elim
theorem aOU (ha:cU X a ta) (hb:cU X (.BoolOp .Or (b :: rest) pos) tb):cU X (.BoolOp .Or (a :: b :: rest) pos) (alT ta tb):=PE.imp (aIW ha hb) fun σ H Q h=>by
  obtain ⟨ρ,G,R,s,g,t,k⟩:=h
  refine ⟨ρ,G,_,s,g,t,fun v H1 x G1 t1 r g1 q=>?_⟩
  cases r with
  | bl c =>
    refine ⟨c,rfl,?_⟩
    cases c with
    | false=>exact ⟨ρ,G1,R,s.mono t1,g1,q,fun b H' d G' t2=>k b H' d G' (t1.trans t2)⟩
    | true=>exact k _ H1 _ G1 t1 (.bl true) g1 q
  | _=>exact q.elim
theorem aK3 (ha:cU X a ta):cU X (.UnaryOp .Not a pos) (a8S ta):=PE.imp (aD1 ha) fun σ H Q h=>by
  obtain ⟨ρ,G,R,s,g,t,k⟩:=h
  refine ⟨ρ,G,_,s,g,t,fun v H1 x G1 t1 r g1 q=>?_⟩
  cases r with
  | bl c=>exact ⟨c,rfl,k _ H1 _ G1 t1 (.bl _) g1 q⟩
  | _=>exact q.elim
def awX (t:TT3) (ta tb:bU):bU:=fun ρ G R=>t ρ G fun c G1=>if c=true then ta ρ G1 R else tb ρ G1 R
theorem awY {c:Expr} (hc:PT3 X c sa) (ha:cU X a ta) (hb:cU X b tb):cU X (.IfExp c a b pos) (awX sa ta tb):=PE.imp (aq9 hc ha hb) fun σ H Q h=>by
  obtain ⟨ρ,G,R,s,g,t,k⟩:=h
  refine ⟨ρ,G,_,s,g,t,fun c H1 G1 t1 g1 q=>?_⟩
  cases c with
  | true=>exact ⟨ρ,G1,R,s.mono t1,g1,q,fun b H' d G' t2=>k b H' d G' (t1.trans t2)⟩
  | false=>exact ⟨ρ,G1,R,s.mono t1,g1,q,fun b H' d G' t2=>k b H' d G' (t1.trans t2)⟩
end
section
variable {X:Cx} {e:Expr} {es:List Expr} {te:bU} {t:nT} {pos:Pos}
def aG:nT:=fun _ G R=>R [] G
def aA (ta:bU) (tr:nT):nT:=fun ρ G R=>ta ρ G fun x G1=>tr ρ G1 fun xs G2=>R (x :: xs) G2
theorem a8T:PA3 X [] aG:=PA.imp aDE fun σ H Q h=>by
  obtain ⟨ρ,G,R,s,g,t,k⟩:=h
  exact k [] H [] G (.refl H) .nil g t
theorem oW (ha:cU X e te) (hr:PA3 X es t) (hs:starEach (e :: es) X.env=(false,eval e X.env) :: starEach es X.env:=by rfl):PA3 X (e :: es) (aA te t):=PA.imp (awC ha hr hs) fun σ H Q h=>by
  obtain ⟨ρ,G,R,s,g,t,k⟩:=h
  refine ⟨ρ,G,_,s,g,t,fun v H1 x G1 t1 r g1 q=>?_⟩
  refine ⟨ρ,G1,_,s.mono t1,g1,q,fun vs H2 xs G2 t2 rs g2 q'=>?_⟩
  exact k (v :: vs) H2 (x :: xs) G2 (t1.trans t2) (.cons (r.mono t2) rs) g2 q'
def oX (t:nT):bU:=fun ρ G R=>t ρ G fun xs G1=>xs.length≤sizeLine∧R (.tup xs) G1
def wA (t:nT):bU:=fun ρ G R=>t ρ G fun xs G1=>xs.length≤sizeLine∧∀ p,G1 p=none→R (.ref p) (aN G1 p (.lst xs))
theorem aK4 {x1} (h:PA3 X es t):cU X (.Tuple es x1 pos) (oX t):=PE.imp (aDF h) fun σ H Q h=>by
  obtain ⟨ρ,G,R,s,g,t,k⟩:=h
  refine ⟨ρ,G,_,s,g,t,fun vs H1 xs G1 t1 r g1 q=>?_⟩
  refine ⟨by rw [← r.length];exact q.1,fun p hp=>?_⟩
  have sn:Same H1 (upd H1 p (.tup vs)):=bB hp
  exact k (.ref p) _ (.tup xs) G1 (t1.trans (.same sn)) (.tup (vZ.of aK) (r.mono (.same sn)) (ajQ aK)) (g1.same sn) q.2
theorem aK5 (h:PA3 X es t):cU X (.List es pos) (wA t):=PE.imp (PE.kf (aDG h)) fun σ H Q h=>by
  obtain ⟨ρ,G,R,s,g,t,k⟩:=h
  refine ⟨ρ,G,_,s,g,t,fun vs H1 xs G1 t1 r g1 q=>?_⟩
  refine ⟨by rw [← r.length];exact q.1,fun p hp kf=>?_⟩
  have sn:Same H1 (upd H1 p (.lst vs)):=bB hp
  exact k (.ref p) _ (.ref p) _ (t1.trans (.same sn)) (.ref p) (g1.put (u := .lst xs) hp ⟨vs,aK,r.mono (.same sn)⟩) (q.2 p (nC g1 hp kf))
end
end L2
namespace L2
open PySem PySem.Spec PyProof.Rows
section
variable {X:Cx} {a b c:Expr} {ta tb tc:bU} {pos:Pos}
def rI3 (C:Int→Int→Prop) (g:Int→Int→Int):R3:=fun x y G R=>match x,y with
  | .int i,.int j=>C i j∧R (.int (g i j)) G
  | _,_=>False
def aK7 (g:Int→Int→Int):R3:=fun x y G R=>match x,y with
  | .int i,.int j=>R (.int (g i j)) G
  | _,_=>False
def awZ (g:Int→Int→Bool):R3:=fun x y G R=>match x,y with
  | .int i,.int j=>R (.bl (g i j)) G
  | _,_=>False
theorem alU {f:Value→Value→Sem Value} {C:Int→Int→Prop} {g:Int→Int→Int} (h:sY X f (rI C fun i j => .int (g i j))):a8R X f (rI3 C g):=by
  refine ⟨_,h,fun H x y vx vy G R Q rx ry gh h k=>?_⟩
  cases rx with
  | int i =>
    cases ry with
    | int j=>exact ⟨i,j,rfl,rfl,h.1,fun _=>k _ H _ G (.refl H) (.int _) gh h.2⟩
    | _=>exact False.elim h
  | _=>exact False.elim h
theorem aDX {f:Value→Value→Sem Value} {g:Int→Int→Int} (h:sY X f (rI0 fun i j => .int (g i j))):a8R X f (aK7 g):=by
  refine ⟨_,h,fun H x y vx vy G R Q rx ry gh h k=>?_⟩
  cases rx with
  | int i =>
    cases ry with
    | int j=>exact ⟨i,j,rfl,rfl,fun _=>k _ H _ G (.refl H) (.int _) gh h⟩
    | _=>exact False.elim h
  | _=>exact False.elim h
theorem ajT {f:Value→Value→Sem Value} {g:Int→Int→Bool} (h:sY X f (rI0 fun i j => .bl (g i j))):uP X f (awZ g):=by
  refine ⟨_,h,fun H x y vx vy G R Q rx ry gh h k=>?_⟩
  cases rx with
  | int i =>
    cases ry with
    | int j=>exact ⟨i,j,rfl,rfl,k _ H _ G (.refl H) (.bl _) gh h⟩
    | _=>exact False.elim h
  | _=>exact False.elim h
def tD:R3:=aK7 fun i j=>i - j
def mR:R3:=rI3 aqF fun i j=>i * j
def lK:R3:=rI3 aD5 fun i j=>i / j
def iH:R3:=rI3 (fun _ j=>0 < j) fun i j=>i % j
def alV:R3:=rI3 aD6 fun i j=>i ^ j.toNat
theorem aK8:a8R X (binaryOp .Sub) tD:=aDX aD8
theorem aK9:a8R X (binaryOp .Mult) mR:=alU aD9
theorem aDY:a8R X (binaryOp .FloorDiv) lK:=alU aw8
theorem aKA:a8R X (binaryOp .Mod) iH:=alU aDA
theorem aKB:a8R X (binaryOp .Pow) alV:=alU aDB
def ax0:R3:=awZ fun i j=>decide (i < j)
def aDZ:R3:=awZ fun i j=>decide (j < i)
def aE0:R3:=awZ fun i j=>decide (j≤i)
theorem aOV:uP X (compareOp .Lt) ax0:=ajT aJ7
theorem aOW:uP X (compareOp .Gt) aDZ:=ajT aJ9
theorem aOX:uP X (compareOp .GtE) aE0:=ajT aJA
def ajU:R3:=fun x y G R=>match x,y with
  | .int i,.int j=>R (.bl (decide (i≤j))) G
  | .str i,.str j=>R (.bl (!decide (j.cps.toList < i.cps.toList))) G
  | _,_=>False
theorem aoG:sY X (compareOp .LtE) (fun x y H Q=>∃ i j,x = .str i∧y = .str j∧Q (.bl (!decide (j.cps.toList < i.cps.toList))) H):=by
  intro pins s σ H x y v u Q I rx ry h
  obtain ⟨i,j,rfl,rfl,q⟩:=h
  obtain ⟨t,rfl⟩:=rx
  obtain ⟨t',rfl⟩:=ry
  exact PySem.P.le_str ⟨.bl _,H,I,rfl,q⟩
theorem aOY:uP X (compareOp .LtE) ajU:=by
  refine ⟨_,aJ8.or aoG,fun H x y vx vy G R Q rx ry gh h k=>?_⟩
  cases rx with
  | int i =>
    cases ry with
    | int j=>exact .inl ⟨i,j,rfl,rfl,k _ H _ G (.refl H) (.bl _) gh h⟩
    | _=>exact False.elim h
  | str i =>
    cases ry with
    | str j=>exact .inr ⟨i,j,rfl,rfl,k _ H _ G (.refl H) (.bl _) gh h⟩
    | _=>exact False.elim h
  | _=>exact False.elim h
def d7:R3:=fun x y G R=>match x,y with
  | .int i,.int j=>R (.int (i+j)) G
  | .str i,.str j=>i.length+j.length≤sizeLine∧R (.str (i++j)) G
  | .tup xs,.tup ys=>xs.length+ys.length≤sizeLine∧R (.tup (xs++ys)) G
  | .ref l,.ref m=>match G l,G m with
    | some (.lst xs),some (.lst ys)=>xs.length+ys.length≤sizeLine∧∀ p,G p=none→R (.ref p) (aN G p (.lst (xs++ys)))
    | _,_=>False
  | _,_=>False
theorem ar3:sY X (binaryOp .Add) (fun x y H Q=>∃ a b ys,x = .ref a∧y = .ref b∧vZ X.K H a []∧vZ X.K H b ys∧Q (.ref b) H):=by
  intro pins s σ H x y v u Q I rx ry h
  obtain ⟨a,b,ys,rfl,rfl,ha,hb,q⟩:=h
  cases rx
  cases ry
  obtain ⟨its,r1,p1,_⟩:=I.tuple ha
  obtain ⟨its2,r2,p2,_⟩:=I.tuple hb
  cases r1
  obtain ⟨⟨cls,dd,data,sl⟩,ho,hc,n,hd⟩:=id p1
  obtain ⟨⟨cls2,dd2,data2,sl2⟩,ho2,hc2,n2,hd2⟩:=id p2
  simp only at hc hd hc2 hd2
  subst hc hd hc2 hd2
  exact concat_meets ⟨_,ho,rfl⟩ ⟨_,ho2,rfl⟩ noFill_tuple_add seq_tuple_add PySem.F.slot_tuple_add PySem.F.entry_tuple_add (PySem.F.args_tuple_add_2 _ _)
      (tuple_addW0 a b #[] its2.toArray n n2 dd dd2 sl sl2 (by simp)) ⟨ho,ho2,⟨.ref b,H,I,rfl,q⟩⟩
theorem aKC:a8R X (binaryOp .Add) d7:=by
  refine ⟨_,aD7.or (ajI.or (awN.or (ar3.or aDS))),fun H x y vx vy G R Q rx ry gh h k=>?_⟩
  cases rx with
  | int i =>
    cases ry with
    | int j=>exact .inl ⟨i,j,rfl,rfl,fun _=>k _ H _ G (.refl H) (.int _) gh h⟩
    | _=>exact False.elim h
  | str i =>
    cases ry with
    | str j=>exact .inr (.inl ⟨i,j,rfl,rfl,h.1,fun _=>k _ H _ G (.refl H) (.str _) gh h.2⟩)
    | _=>exact False.elim h
  | @tup a xs ds ha ra ea =>
    cases ry with
    | @tup b ys es hb rb eb =>
      by_cases hn:ds=[]
      · subst hn
        cases ra
        exact .inr (.inr (.inr (.inl ⟨a,b,ys,rfl,rfl,ha,hb,fun _=>k _ H _ G (.refl H) (.tup hb rb eb) gh h.2⟩)))
      · refine .inr (.inr (.inl ⟨a,b,xs,ys,rfl,rfl,ha,hb,fun z=>hn (ra.a2L.mp z),by rw [← ra.length,← rb.length];exact h.1,fun z _=>?_,fun _ p hp _=>?_⟩))
        · subst z
          cases rb
          have h2:=h.2
          rw [List.append_nil] at h2
          exact k _ H _ G (.refl H) (.tup ha ra ea) gh h2
        · have sn:Same H (upd H p (.tup (xs++ys))):=bB hp
          exact k _ _ _ G (.same sn) (.tup (vZ.of aK) ((ra.append rb).mono (.same sn)) (ajQ aK)) (gh.same sn) h.2
    | _=>exact False.elim h
  | ref l =>
    cases ry with
    | ref m =>
      have h':(match G l,G m with
        | some (.lst xs),some (.lst ys)=>xs.length+ys.length≤sizeLine∧∀ p,G p=none→R (.ref p) (aN G p (.lst (xs++ys)))
        | _,_=>False):=h
      split at h'
      · rename_i xs ys e1 e2
        obtain ⟨xv,f1,r1⟩:=gh l _ e1
        obtain ⟨yv,f2,r2⟩:=gh m _ e2
        refine .inr (.inr (.inr (.inr ⟨l,m,xv,yv,rfl,rfl,f1,f2,by rw [← r1.length,← r2.length];exact h'.1,fun p hp kf=>?_⟩)))
        have sn:Same H (upd H p (.lst (xv++yv))):=bB hp
        exact k _ _ _ _ (.same sn) (.ref p) (gh.put (u := .lst (xs++ys)) hp ⟨_,aK,(r1.append r2).mono (.same sn)⟩) (h'.2 p (nC gh hp kf))
      · exact h'.elim
    | _=>exact False.elim h
  | _=>exact False.elim h
def ar4:R3:=fun x y G R=>match x,y with
  | .non,.non=>R (.bl true) G
  | _,.non=>R (.bl false) G
  | .bl i,.bl j=>R (.bl (i == j)) G
  | .int _,.bl _=>R (.bl false) G
  | .str _,.bl _=>R (.bl false) G
  | .non,.bl _=>R (.bl false) G
  | .tup _,.bl _=>R (.bl false) G
  | .ref _,.bl _=>R (.bl false) G
  | _,_=>False
def ae0:R3:=fun x y G R=>ar4 x y G fun d G'=>match d with
  | .bl k=>R (.bl (!k)) G'
  | _=>False
theorem isV (x:V) (v:Value) (k:Bool) (r:RelV x v):(v == .bool k)=decide (x = .bl k):=by
  cases x with
  | non=>cases r;rfl
  | bl b =>
    cases r
    cases b <;> cases k <;> rfl
  | int _=>obtain ⟨t,rfl⟩:=r;rfl
  | str _=>obtain ⟨t,rfl⟩:=r;rfl
  | byt _=>obtain ⟨t,rfl⟩:=r;rfl
  | flt _=>obtain ⟨t,rfl⟩:=r;rfl
  | ref _=>cases r;rfl
  | ty _=>cases r;rfl
theorem acK (x:V) (v:Value) (k:Bool) (r:RelV x v):plainIs v (.bool k)=true:=by
  cases x with
  | non=>cases r;rfl
  | bl b=>cases r;rfl
  | int _=>obtain ⟨t,rfl⟩:=r;rfl
  | str _=>obtain ⟨t,rfl⟩:=r;rfl
  | byt _=>obtain ⟨t,rfl⟩:=r;rfl
  | flt _=>obtain ⟨t,rfl⟩:=r;rfl
  | ref _=>cases r;rfl
  | ty _=>cases r;rfl
theorem ax1:sY X (compareOp .Is) (fun x y H Q=>∃ k,y = .bl k∧Q (.bl (decide (x = .bl k))) H):=by
  intro pins s σ H x y v u Q I rx ry h
  obtain ⟨k,rfl,q⟩:=h
  cases ry
  exact wpAny_is_plain (acK x v k rx) ⟨.bl _,H,I,by rw [isV x v k rx];rfl,q⟩
theorem aoH:sY X (compareOp .IsNot) (fun x y H Q=>∃ k,y = .bl k∧Q (.bl (!decide (x = .bl k))) H):=by
  intro pins s σ H x y v u Q I rx ry h
  obtain ⟨k,rfl,q⟩:=h
  cases ry
  exact wpAny_isNot_plain (acK x v k rx) ⟨.bl _,H,I,by rw [isV x v k rx];rfl,q⟩
theorem aOZ:uP X (compareOp .Is) ar4:=by
  refine ⟨_,aDD.or ax1,fun H x y vx vy G R Q rx ry gh h k=>?_⟩
  cases ry with
  | non =>
    refine .inl ⟨rfl,?_⟩
    cases rx with
    | non=>exact k _ H _ G (.refl H) (.bl _) gh h
    | _=>exact k _ H _ G (.refl H) (.bl _) gh h
  | bl j =>
    refine .inr ⟨j,rfl,?_⟩
    cases rx with
    | bl i =>
      have e:decide (V.bl i=V.bl j)=(i == j):=by cases i <;> cases j <;> rfl
      rw [e]
      exact k _ H _ G (.refl H) (.bl _) gh h
    | ty n=>exact False.elim h
    | _=>exact k _ H _ G (.refl H) (.bl _) gh h
  | _=>cases rx <;> exact False.elim h
theorem aE1:uP X (compareOp .IsNot) ae0:=by
  refine ⟨_,aw9.or aoH,fun H x y vx vy G R Q rx ry gh h k=>?_⟩
  cases ry with
  | non =>
    refine .inl ⟨rfl,?_⟩
    cases rx with
    | non=>exact k _ H _ G (.refl H) (.bl _) gh h
    | _=>exact k _ H _ G (.refl H) (.bl _) gh h
  | bl j =>
    refine .inr ⟨j,rfl,?_⟩
    cases rx with
    | bl i =>
      have e:decide (V.bl i=V.bl j)=(i == j):=by cases i <;> cases j <;> rfl
      rw [e]
      exact k _ H _ G (.refl H) (.bl _) gh h
    | ty n=>exact False.elim h
    | _=>exact k _ H _ G (.refl H) (.bl _) gh h
  | _=>cases rx <;> exact False.elim h
def aO (G:Gp) (a:Addr):Option (List D):=match G a with
  | some (.lst ds)=>some ds
  | some (.rol ds)=>some ds
  | _=>none
theorem bY {K:Fg} {H:Hp} {G:Gp} (g:HR K H G) {a:Addr} {ds:List D} (e:aO G a=some ds):∃ xs,uN K H a xs∧cL K H ds xs:=by
  unfold aO at e
  split at e
  · rename_i ds' q
    cases e
    obtain ⟨xs,h1,h2⟩:=g a _ q
    exact ⟨xs,uN.of h1,h2⟩
  · rename_i ds' q
    cases e
    exact g a _ q
  · cases e
def cQ:R3:=fun x y G R=>match x,y with
  | .tup xs,.int i=>match atI xs i with
    | some d=>R d G
    | none=>False
  | .str z,.int i=>z.length≤sizeLine∧match atI z.cps.toList i with
    | some c=>R (.str ⟨#[c]⟩) G
    | none=>False
  | .ref p,.int i=>match aO G p with
    | some xs=>(match atI xs i with
      | some d=>R d G
      | none=>False)
    | none=>False
  | _,_=>False
theorem ar5 {K:Fg} {H:Hp} {ds:List D} {xs:List V} (r:cL K H ds xs) {i:Int} {d:D} (e:atI ds i=some d):∃ v,atI xs i=some v∧RD K H d v:=by
  unfold atI at e ⊢
  rw [← r.length]
  cases q:ixN ds.length i with
  | none=>rw [q] at e;cases e
  | some j =>
    rw [q] at e
    exact r.get e
theorem aP0 (ha:cU X a ta) (hb:cU X b tb) (hs:adS b):cU X (.Subscript a b pos) (aH cQ ta tb):=by
  refine PE.imp (aJI aDR ha hb hs) fun _ _ _ h=>ajS ?_ h
  intro H x y vx vy G R Q rx ry gh h k
  cases rx with
  | @tup p xs ds hp r =>
    cases ry with
    | int i =>
      have h':(match atI ds i with
        | some d=>R d G
        | none=>False):=h
      split at h'
      · rename_i d e
        obtain ⟨v,e1,e2⟩:=ar5 r e
        exact .inr (.inl ⟨p,xs,i,v,rfl,rfl,hp,e1,k v H d G (.refl H) e2 gh h'⟩)
      · exact h'.elim
    | _=>exact False.elim h
  | str z =>
    cases ry with
    | int i =>
      have h':z.length≤sizeLine∧(match atI z.cps.toList i with
        | some c=>R (.str ⟨#[c]⟩) G
        | none=>False):=h
      obtain ⟨hz,h'⟩:=h'
      split at h'
      · rename_i d e
        exact .inr (.inr ⟨z,i,d,rfl,rfl,hz,e,k _ H _ G (.refl H) (.str _) gh h'⟩)
      · exact h'.elim
    | _=>exact False.elim h
  | ref p =>
    cases ry with
    | int i =>
      have h':(match aO G p with
        | some xs=>(match atI xs i with
          | some d=>R d G
          | none=>False)
        | none=>False):=h
      split at h'
      · rename_i ds e
        obtain ⟨xs,hp,r⟩:=bY gh e
        split at h'
        · rename_i d e'
          obtain ⟨v,e1,e2⟩:=ar5 r e'
          exact .inl ⟨p,xs,i,v,rfl,rfl,hp,e1,k v H d G (.refl H) e2 gh h'⟩
        · exact h'.elim
      · exact h'.elim
    | _=>exact False.elim h
  | _=>exact False.elim h
abbrev TO3:=aM→Gp→(Option Int→Gp→Prop)→Prop
def upO (K:Fg) (t:TO3):TO:=fun σ H Q=>∃ ρ G R,SR K H ρ σ∧HR K H G∧t ρ G R∧∀ i H' G',Ts H H'→HR K H' G'→R i G'→Q i H'
abbrev PO3 (X:Cx) (e:Option Expr) (t:TO3):Prop:=PO X e (upO X.K t)
theorem PO.imp {e:Option Expr} {t t':TO} (h:PO X e t) (k:∀ σ H Q,t' σ H Q→t σ H Q):PO X e t':=fun pins s σ H Q I q=>h pins s σ H Q I (k _ _ _ q)
def a2N:TO3:=fun _ G R=>R none G
def a4P (t:bU):TO3:=fun ρ G R=>t ρ G fun x G1=>match x with
  | .int i=>R (some i) G1
  | _=>False
theorem aE2:PO3 X none a2N:=PO.imp awL fun σ H Q h=>by
  obtain ⟨ρ,G,R,s,g,t,k⟩:=h
  exact k none H G (.refl H) g t
theorem ar7 {e:Expr} {te:bU} (h:cU X e te):PO3 X (some e) (a4P te):=PO.imp (awM h) fun σ H Q h=>by
  obtain ⟨ρ,G,R,s,g,t,k⟩:=h
  refine ⟨ρ,G,_,s,g,t,fun v H1 x G1 t1 r g1 q=>?_⟩
  cases r with
  | int i=>exact ⟨i,rfl,k _ H1 G1 t1 g1 q⟩
  | _=>exact False.elim q
def cutD {α:Type} (xs:List α) (lo hi:Option Int):List α:=(xs.drop (HT.lE xs.length 0 lo)).take (HT.lE xs.length xs.length hi - HT.lE xs.length 0 lo)
end
end L2
namespace L2
open PySem PySem.Spec PyProof.Rows
section
variable {X:Cx} {st:Stmt} {rest:List Stmt} {t u:bA} {e:Expr} {te:bU} {pos:Pos}
def cI:bA:=fun F ρ G=>F.nx ρ G
def aP (t u:bA):bA:=fun F ρ G=>t { F with nx:=u F } ρ G
theorem aKD:a8Q X [] cI:=PSs.imp aw2 fun F σ H h=>by
  obtain ⟨ρ,G,E,s,g,q,d⟩:=h
  exact d.nx ρ G σ H s g q
theorem aE3 {K:Fg} {F:Ends} {σ:St} {H:Hp} (h:upS K (aP t u) F σ H):aIX (upS K t) (upS K u) F σ H:=by
  obtain ⟨ρ,G,E,s,g,q,d⟩:=h
  exact ⟨ρ,G,_,s,g,q,⟨fun ρ' G' σ' H' s1 g1 h=>⟨ρ',G',E,s1,g1,h,d⟩,d.rt,d.bk,d.ct⟩⟩
theorem aE4 (h1:PS3 X st t) (h2:a8Q X rest u):a8Q X (st :: rest) (aP t u):=PSs.imp (aqA h1 h2) fun _ _ _ h=>aE3 h
theorem aKE (h1:PS3 X st t):a8Q X [st] t:=aw3 h1
def ax2:bA:=fun F ρ G=>F.bk ρ G
def aE5:bA:=fun F ρ G=>F.ct ρ G
theorem aE6:PS3 X (.Pass pos) cI:=PS.imp aw4 fun F σ H h=>by
  obtain ⟨ρ,G,E,s,g,q,d⟩:=h
  exact d.nx ρ G σ H s g q
def lM (te:bU):bA:=fun F ρ G=>te ρ G fun _ G1=>F.nx ρ G1
theorem aE7 (he:cU X e te) (hs:swapsWith e none pos.line X.env=pure false:=by rfl):PS3 X (.Expr e pos) (lM te):=PS.imp (aw5 he hs) fun F σ H h=>by
  obtain ⟨ρ,G,E,s,g,q,d⟩:=h
  exact ⟨ρ,G,_,s,g,q,fun v H' x G' t1 r g1 h=>d.nx ρ G' σ H' (s.mono t1) g1 h⟩
def cJ (te:bU):bA:=fun F ρ G=>te ρ G F.rt
theorem aKF (he:cU X e te):PS3 X (.Return (some e) pos) (cJ te):=PS.imp (aD2 he) fun F σ H h=>by
  obtain ⟨ρ,G,E,s,g,q,d⟩:=h
  exact ⟨ρ,G,_,s,g,q,fun v H' x G' t1 r g1 h=>d.rt x G' v H' r g1 h⟩
def aE8:bA:=fun F _ G=>F.rt .non G
def eG (c:TT3) (t u:bA):bA:=fun F ρ G=>c ρ G fun b G1=>if b=true then t F ρ G1 else u F ρ G1
theorem aP1 {c:Expr} {a b:List Stmt} {tc:TT3} (hc:PT3 X c tc) (ha:a8Q X a t) (hb:a8Q X b u):PS3 X (.If c a b pos) (eG tc t u):=PS.imp (aIZ hc ha hb) fun F σ H h=>by
  obtain ⟨ρ,G,E,s,g,q,d⟩:=h
  refine ⟨ρ,G,_,s,g,q,fun b H' G' t1 g1 h=>?_⟩
  cases b with
  | true=>exact ⟨ρ,G',E,s.mono t1,g1,h,d⟩
  | false=>exact ⟨ρ,G',E,s.mono t1,g1,h,d⟩
def bC (i:Nat) (te:bU):bA:=fun F ρ G=>te ρ G fun x G1=>F.nx (rR ρ i x) G1
theorem aBG {i:Nat} {x:Str} {pos':Pos} (hN:X.N.Nodup) (hi:X.N[i]?=some x) (hx:Loc X.env.scope x) (he:cU X e te) (hs:swapsWith e (some (.Name x pos')) pos.line X.env=pure false:=by rfl) (hf:X.fn x=true∨X.env.scope.names.lookup x=some .local:=by first | exact .inl rfl | exact .inr rfl | assumption) :
    PS3 X (.Assign [.Name x pos'] e pos) (bC i te):=PS.imp (aD3 hN hi hx he hs hf) fun F σ H h=>by
  obtain ⟨ρ,G,E,s,g,q,d⟩:=h
  exact ⟨ρ,G,_,s,g,q,fun v H' x G' t1 r g1 h=>d.nx _ G' _ H' ((s.mono t1).set r i) g1 h⟩
end
section
variable {X:Cx} {body:List Stmt} {tb:bA} {e:Expr} {te:bU} {pos:Pos}
def aKG (i:Nat) (te:bU) (tb:bA):bA:=fun F ρ G=>te ρ G fun x G1=>match x with
  | .ref p=>(match aO G1 p with
    | some xs=>∃ P:Nat→aM→Gp→Prop,P 0 ρ G1∧(∀ k ρ G,k≤xs.length→P k ρ G→aO G p=some xs) ∧
        (∀ k d ρ G,xs[k]?=some d→P k ρ G→tb { F with nx:=P (k+1),ct:=P (k+1),bk:=F.nx } (rR ρ i d) G)∧∀ ρ G,P xs.length ρ G→F.nx ρ G
    | none=>False)
  | _=>False
theorem agU {K:Fg} {J:It} {g:TG} {tb:TS} {F:Ends} {σ:St} {H:Hp} {n:Nat} (Pv:Nat→St→Hp→Prop) (h0:Pv 0 σ H)
    (stop:∀ σ H,Pv n σ H→J.stop n H) (go:∀ i σ H,i < n→Pv i σ H→J.go i H)
    (hs:∀ i x σ H H',i < n→Pv i σ H→J.yld i H x H'→g x σ H' fun σ2 H2=>tb { F with nx:=Pv (i+1),ct:=Pv (i+1),bk:=F.nx } σ2 H2) (hd:∀ σ H,Pv n σ H→F.nx σ H) :
    ∃ W:Nat→Nat→St→Hp→Prop,(∃ m,W 0 m σ H)∧∀ i m σ H,W i m σ H →
      (J.stop i H∧F.nx σ H)∨(J.go i H∧∃ N:St→Hp→Prop,(∀ σ' H',N σ' H'→∃ m',m' < m∧W (i+1) m' σ' H')∧∀ x H',J.yld i H x H'→g x σ H' fun σ2 H2=>tb { F with nx:=N,ct:=N,bk:=F.nx } σ2 H2):=by
  refine ⟨fun i m σ H=>m=n - i∧i≤n∧Pv i σ H,⟨n,by simp,Nat.zero_le _,h0⟩,?_⟩
  rintro i m σ H ⟨rfl,hi,p⟩
  by_cases hlt:i < n
  · exact .inr ⟨go i σ H hlt p,Pv (i+1),fun σ' H' p'=>⟨n - (i+1),by omega,rfl,hlt,p'⟩,fun x H' y=>hs i x σ H H' hlt p y⟩
  · have e:i=n:=by omega
    subst e
    exact .inl ⟨stop σ H p,hd σ H p⟩
def aE9 (i:Nat) (ta:nT) (tb:bA):bA:=fun F ρ G=>ta ρ G fun xs G1=>match xs with
  | [.int j]=>-(2 ^ 62)≤j∧j < 2 ^ 62∧∃ P:Nat→aM→Gp→Prop,P 0 ρ G1∧(∀ k ρ G,k < j.toNat→P k ρ G→tb { F with nx:=P (k+1),ct:=P (k+1),bk:=F.nx } (rR ρ i (.int k)) G)∧∀ ρ G,P j.toNat ρ G→F.nx ρ G
  | _=>False
end
abbrev aW:=Addr→Gp→Prop
abbrev uL:=List D→Gp→iD→aW→Prop
def UpX (K:Fg) (EX:aW) (E:XK):Prop:=∀ C H' G',HR K H' G'→EX C G'→E (.ref C) none H'
def dZ (K:Fg) (sp:uL):Sp:=fun vs H Q E=>∃ ds G R EX,cL K H ds vs∧HR K H G∧sp ds G R EX∧(∀ v H' d G',RD K H' d v→HR K H' G'→R d G'→Q v H')∧UpX K EX E
section
variable {X:Cx} {CX:CXT} {k:Nat} {f C:Addr} {fd:FuncData} {ps:List Str} {sp:uL} {E:XK} {EX:aW} {x:Str} {p pos:Pos} {e:Expr} {es:List Expr} {t:nT}
def aP2 (n m:Nat) (tb:aW→bA):uL:=fun ds G R EX=>ds.length=m∧tb EX ⟨fun _ G'=>R .non G',R,fun _ _=>False,fun _ _=>False⟩ (adY n ds) G
end
end L2
namespace L2
open PySem PySem.Spec PyProof.Rows
def oY (P:Program) (w:World):CXT:=fun outer H s E e s'=>∃ (x C:Addr) (H':Hp) (B:Heap),e = .ref x∧Fly B outer x (.ref C) s'.heap∧HOk P w H' B ∧
  (∀ b o,s.heap.get? b=some o→H b=none→b ∉ frs outer→B.get? b=some o)∧(∀ b o,s.heap.get? b=some o→b ∉ frs outer→∃ o',B.get? b=some o') ∧
  Un (frs outer) [] H H' s.heap s'.heap∧s'.os=s.os∧AllBare s'.gens∧E (.ref C) none H'
theorem alW {l:List Env} {b:Addr} (h:b∈frs l):∃ env∈l,env.frame=some b:=List.mem_filterMap.mp h
theorem ae1 {l:List Env} {b:Addr} {env:Env} (h:env∈l) (e:env.frame=some b):b∈frs l:=List.mem_filterMap.mpr ⟨env,h,e⟩
section
variable {qt:Bool} {P:Program} {w:World} {K:Fg} {mg:Str→Option Value} {base:Heap} {N:List Str} {qual:Str} {scope:Scope} {f:Addr} {cd:Value} {A:Around} {outer:List Env} {s₀:Shared} {H₀:Hp} {E:XK}
abbrev cx1 (qt:Bool) (P:Program) (w:World) (K:Fg) (mg:Str→Option Value) (base:Heap) (N:List Str) (qual:Str) (scope:Scope) (f:Addr) (cd:Value) (A:Around) (outer:List Env) (s₀:Shared) (H₀:Hp) (E:XK):Cx:=qN qt (oY P w) P w K mg base N qual scope f cd A outer s₀ H₀ E
theorem jC {X:Cx} {pins:List (Addr×Obj)} {σ:St} {H:Hp} {s:Shared} (I:Inv X pins σ H s) (hst:X.stack=X.env :: X.outer) (hf:X.env.frame=some X.env.locals) {b:Addr} {o:Obj} (e:X.s₀.heap.get? b=some o) (n:b ∉ frs X.outer):b ∉ frs X.stack:=fun hb=>by
  obtain ⟨env,he,hfr⟩:=alW hb
  rw [hst] at he
  rcases List.mem_cons.mp he with rfl | he
  · have z:X.env.locals=b:=Option.some.inj (hf.symm.trans hfr)
    have h1:=I.ok.above
    have h2:=Heap.lt_size e
    rw [z] at h1
    exact absurd (Nat.lt_of_lt_of_le h2 h1) (Nat.lt_irrefl _)
  · exact n (ae1 he hfr)
theorem ax3 {pins:List (Addr×Obj)} {σ:St} {H:Hp} {s:Shared} {C e:Addr} {us:List Value} {h':Heap} (I:Inv (cx1 qt P w K mg base N qual scope f cd A outer s₀ H₀ E) pins σ H s) (hm:Heap.MadeExcOf s.heap h' e (.ref C) us) (q:E (.ref C) none H) :
    (cx1 qt P w K mg base N qual scope f cd A outer s₀ H₀ E).xe (.ref e) { s with heap:=h' }:=by
  have hst:(cx1 qt P w K mg base N qual scope f cd A outer s₀ H₀ E).stack=(cx1 qt P w K mg base N qual scope f cd A outer s₀ H₀ E).env :: outer:=rfl
  have hin:∀ env∈(cx1 qt P w K mg base N qual scope f cd A outer s₀ H₀ E).stack,∀ b,env.frame=some b→b∈frs (cx1 qt P w K mg base N qual scope f cd A outer s₀ H₀ E).stack:=fun env he b hb=>ae1 he hb
  have hB:∀ b o,(PySem.W.hideAll s.heap (frs (cx1 qt P w K mg base N qual scope f cd A outer s₀ H₀ E).stack)).get? b=some o→s.heap.get? b=some o:=fun b o e=>PySem.W.of_hideAll _ e
  have toB:∀ b o,s.heap.get? b=some o→b ∉ frs (cx1 qt P w K mg base N qual scope f cd A outer s₀ H₀ E).stack→(PySem.W.hideAll s.heap (frs (cx1 qt P w K mg base N qual scope f cd A outer s₀ H₀ E).stack)).get? b=some o:=fun b o e n=>PySem.W.hideAll_get _ e n
  have fr:=PySem.W.funFrames_hide I.stack hin
  refine ajD (B:=PySem.W.hideAll s.heap (frs (cx1 qt P w K mg base N qual scope f cd A outer s₀ H₀ E).stack)) (h0:=s.heap) I.ok.frames rfl hB fr hm fun h2 k1 k4=>?_
  have up:∀ b o,s.heap.get? b=some o→(∀ vs,o.data ≠ .fields vs)→∃ sl,h2.get? b=some { o with slots:=sl }:=fun b o e nd=>k4 b o (hm.keeps b o e) nd
  have hfd:∀ b∈frs outer,∀ o,s.heap.get? b=some o→∀ vs,o.data ≠ .fields vs:=fun b hb o e=>by
    obtain ⟨_,o',ho',hd⟩:=I.xC.mem hb
    rw [e] at ho';cases ho'
    exact hd
  refine ⟨e,C,H,_,rfl,k1,?_,fun b o eb nb hb=>?_,fun b o eb hb=>?_,⟨fun b o eb nb hb _=>?_,fun b o eb nb hb _=>?_,fun b o eb nb hx=>I.base.free b o eb nb hx,fun b o eb hx=>?_,I.base.tups,I.base.lJ,I.base.uM⟩,I.os,I.bare,q⟩
  · intro b o hb
    refine (I.hok b o hb).stay (fun c u hc eu=>toB c u eu fun hz=>?_) (fun _ z=>z) fun _ _ z=>z
    have n:=I.adN c hz
    rcases hc with rfl | hc
    · rw [hb] at n;cases n
    · rw [hc] at n;cases n
  · exact toB b o (I.base.keep b o eb nb hb (by simp [qN])) (jC I hst rfl eb hb)
  · obtain ⟨o',e'⟩:=I.base.there b o eb (by simp [qN])
    exact ⟨o',toB b o' e' (jC I hst rfl eb hb)⟩
  · exact k1.stays b o (toB b o (I.base.keep b o eb nb hb (by simp [qN])) (jC I hst rfl eb hb))
  · obtain ⟨sl,e1⟩:=I.base.slot b o eb nb hb (by simp [qN])
    obtain ⟨sl2,e2⟩:=up b _ e1 (hfd b hb _ e1)
    exact ⟨sl2,e2⟩
  · obtain ⟨o',e'⟩:=I.base.there b o eb (by simp [qN])
    by_cases hb:b∈frs outer
    · obtain ⟨sl,e1⟩:=up b o' e' (hfd b hb o' e')
      exact ⟨_,e1⟩
    · exact ⟨o',k1.stays b o' (toB b o' e' (jC I hst rfl eb hb))⟩
theorem ax4 {E':XK} (hE:∀ C H',E' C none H'→E C none H') {pins:List (Addr×Obj)} {σ:St} {H:Hp} {s s':Shared} {e:Value} (I:Inv (cx1 qt P w K mg base N qual scope f cd A outer s₀ H₀ E) pins σ H s)
    (c:oY P w (cx1 qt P w K mg base N qual scope f cd A outer s₀ H₀ E).stack H s E' e s'):(cx1 qt P w K mg base N qual scope f cd A outer s₀ H₀ E).xe e s':=by
  obtain ⟨x,C,H',B,rfl,fl,hok,cov,aKH,un,os,bare,q⟩:=c
  have hst:(cx1 qt P w K mg base N qual scope f cd A outer s₀ H₀ E).stack=(cx1 qt P w K mg base N qual scope f cd A outer s₀ H₀ E).env :: outer:=rfl
  refine aq3 (B:=B) I.ok.frames rfl fl fun h2 k1 k4=>?_
  have hfs:∀ b∈frs outer,b∈frs (cx1 qt P w K mg base N qual scope f cd A outer s₀ H₀ E).stack:=fun b hb=>by
    obtain ⟨env,he,hf⟩:=alW hb
    exact ae1 (List.mem_cons_of_mem _ he) hf
  have hfd:∀ b∈frs outer,∀ o,s'.heap.get? b=some o→∀ vs,o.data ≠ .fields vs:=fun b hb o e=>by
    obtain ⟨_,o',ho',hd⟩:=fl.aNX.mem (hfs b hb)
    rw [e] at ho';cases ho'
    exact hd
  refine ⟨x,C,H',B,rfl,k1,hok,fun b o eb nb hb=>?_,fun b o eb hb=>?_,⟨fun b o eb nb hb _=>?_,fun b o eb nb hb _=>?_,fun b o eb nb hx=>?_,fun b o eb hx=>?_,fun b xs z=>un.tups b xs (I.base.tups b xs z),fun b o u z=>un.lJ b o u (I.base.lJ b o u z),fun b ps z=>?_⟩,os.trans I.os,bare,hE _ _ q⟩
  · exact cov b o (I.base.keep b o eb nb hb (by simp [qN])) (I.base.free b o eb nb (by simp [qN])) (jC I hst rfl eb hb)
  · obtain ⟨o',e'⟩:=I.base.there b o eb (by simp [qN])
    exact aKH b o' e' (jC I hst rfl eb hb)
  · exact k1.stays b o (cov b o (I.base.keep b o eb nb hb (by simp [qN])) (I.base.free b o eb nb (by simp [qN])) (jC I hst rfl eb hb))
  · obtain ⟨sl,e1⟩:=I.base.slot b o eb nb hb (by simp [qN])
    obtain ⟨sl2,e2⟩:=un.slot b _ e1 (I.base.free b o eb nb (by simp [qN])) (hfs b hb) (by simp)
    obtain ⟨sl3,e3⟩:=k4 b _ e2 (hfd b hb _ e2)
    exact ⟨sl3,e3⟩
  · obtain ⟨o',e'⟩:=I.base.there b o eb (by simp [qN])
    exact un.free b o' e' (I.base.free b o eb nb (by simp [qN])) (by simp)
  · obtain ⟨o',e'⟩:=I.base.there b o eb (by simp [qN])
    by_cases hb:b∈frs outer
    · obtain ⟨o2,e2⟩:=un.there b o' e' (by simp)
      obtain ⟨sl,e3⟩:=k4 b o2 e2 (hfd b hb o2 e2)
      exact ⟨_,e3⟩
    · obtain ⟨o2,e2⟩:=aKH b o' e' (jC I hst rfl eb hb)
      exact ⟨o2,k1.stays b o2 e2⟩
  · obtain ⟨m1,e1⟩:=I.base.uM b ps z
    obtain ⟨m2,e2⟩:=un.uM b _ e1
    exact ⟨m1++m2,by rw [e2,Array.append_assoc]⟩
end
def a6A (K:Fg) (EX:aW):XK:=fun C _ H'=>∃ c G',C = .ref c∧HR K H' G'∧EX c G'
structure Cat (X:Cx) (EX:aM→aW):Prop where
  alX:∀ pins σ H s ρ e s',Inv X pins σ H s→SR X.K H ρ σ→oY X.prog X.w X.stack H s (a6A X.K (EX ρ)) e s'→X.xe e s'
structure Thr (X:Cx) (EX:aM→aW):Prop where
  made:∀ pins σ H s ρ C e us h',Inv X pins σ H s→SR X.K H ρ σ→Heap.MadeExcOf s.heap h' e (.ref C) us→a6A X.K (EX ρ) (.ref C) none H→X.xe (.ref e) { s with heap:=h' }
section
variable {qt:Bool} {P:Program} {w:World} {K:Fg} {mg:Str→Option Value} {base:Heap} {N:List Str} {qual:Str} {scope:Scope} {f:Addr} {cd:Value} {A:Around} {outer:List Env} {s₀:Shared} {H₀:Hp} {E:XK} {EX:aW}
theorem agV (h:UpX K EX E) {C:Value} {H':Hp} (q:a6A K EX C none H'):E C none H':=by
  obtain ⟨c,G',rfl,g,q⟩:=q
  exact h c H' G' g q
theorem aP3 (h:UpX K EX E):Cat (cx1 qt P w K mg base N qual scope f cd A outer s₀ H₀ E) (fun _=>EX) :=
  ⟨fun pins σ H s ρ e s' I _ c=>ax4 (E':=a6A K EX) (fun C H' q=>agV h q) I c⟩
theorem aP4 (h:UpX K EX E):Thr (cx1 qt P w K mg base N qual scope f cd A outer s₀ H₀ E) (fun _=>EX) :=
  ⟨fun pins σ H s ρ C e us h' I _ hm q=>ax3 I hm (agV h q)⟩
theorem own1:PassesOwn (model P w) (cx1 qt P w K mg base N qual scope f cd A outer s₀ H₀ E).A (cx1 qt P w K mg base N qual scope f cd A outer s₀ H₀ E).env (cx1 qt P w K mg base N qual scope f cd A outer s₀ H₀ E).xe:=PassesOwn.leaving
end
section
variable {X:Cx} {k:Nat} {f C:Addr} {fd:FuncData} {ps:List Str} {sp:uL} {EX:aM→aW} {x:Str} {p pos:Pos} {e:Expr} {es:List Expr} {t:nT}
def aX (sp:uL) (EX:aM→aW) (t:nT):bU:=fun ρ G R=>t ρ G fun ds G1=>sp ds G1 R (EX ρ)
theorem alY {pins:List (Addr×Obj)} {σ:St} {H:Hp} {s:Shared} {Q Q':VK} {us:List Value} {vs:List V} {E:XK} (F:cT qt X.prog X.w X.K X.mg X.base (oY X.prog X.w) k f fd ps (dZ X.K sp)) (hr:iG qt k X.A) (hb:Binds X.K fd ps [])
    (hx:∀ e s',oY X.prog X.w X.stack H s E e s'→X.xe e s')
    (I:Inv X pins σ H s) (r:Vals vs us) (h:dZ X.K sp vs H Q E) (hQ:∀ v H',Ts H H'→Q v H'→Q' v H'):wpAny (model X.prog X.w) X.A (call (.ref f) us) (EP X pins σ Q') X.xe s:=by
  have hl:(us++[]).length=ps.length:=by rw [List.append_nil,← r.length];exact F.len _ _ _ _ h
  refine wpAny_call (codeAny_mono (F.run X.A X.stack s H ⟨us,[]⟩ (us++[]) vs Q E hr I.env0 (hb s us I.kIn hl) (by rw [List.append_nil];exact r) h) fun r s' hq=>?_)
  cases r with
  | error e=>exact hx e s' hq
  | ok fl =>
    cases fl with
    | ret u =>
      obtain ⟨v,H',os,bare,un,hok,r,q⟩:=hq
      exact ⟨v,H',I.call' (ch:=[]) os un hok bare (fun b z=>absurd z (by simp)),r,hQ v H' ⟨un.tups,un.lJ⟩ q⟩
    | next=>exact False.elim hq
    | brk=>exact False.elim hq
    | cont=>exact False.elim hq
theorem ax5 (F:cT qt X.prog X.w X.K X.mg X.base (oY X.prog X.w) k f fd ps (dZ X.K sp)) (hr:iG qt k X.A) (hg:Gl X x) (hm:X.mg x=some (.ref f)) (hk:PySem.W.keepIn X.K (.ref f)=true) (hb:Binds X.K fd ps []) (hx:Cat X EX)
    (ha:PA3 X (e :: es) t) (hdb:(x == ("__debug__" : Str))=false:=by decide) (he:starEach (e :: es) X.env=(false,eval e X.env) :: starEach es X.env:=by rfl) (hpl:(backTo pos (starEach es X.env)).any (·.1)=false:=by rfl) :
    cU X (.Call (.Name x p) (e :: es) [] pos) (aX sp EX t):=by
  intro pins s σ H Q I h
  obtain ⟨ρ,G,R,sr,g,q,kk⟩:=h
  refine wpAny_Call_Name_kw (qP I hg hm ?_ hdb)
  refine PySem.W.callWith_K (h₀:=X.base) I.ok.mod.kin hk (dN (ha pos pins s σ H (fun vs H1=>Ts H H1∧∃ ds G1,cL X.K H1 ds vs∧HR X.K H1 G1∧sp ds G1 R (EX ρ)) I ⟨ρ,G,_,sr,g,q,fun vs H1 ds G1 t1 r1 g1 q1=>⟨t1,ds,G1,r1,g1,q1⟩⟩) fun us s1 ⟨vs,H1,I1,r,t1,ds,G1,r1,g1,q1⟩=>⟨I1.kIn,?_⟩) he hpl
  refine alY (E:=a6A X.K (EX ρ)) F hr hb (fun e s' c=>hx.alX pins σ H1 s1 ρ e s' I1 (sr.mono t1) c) I1 r (Q:=fun v H'=>∃ d G',RD X.K H' d v∧HR X.K H' G'∧R d G') ⟨ds,G1,R,EX ρ,r1,g1,q1,fun v H' d G' r2 g2 q2=>⟨d,G',r2,g2,q2⟩,fun C H' G' g' q'=>⟨C,G',rfl,g',q'⟩⟩ fun v H' t2 ⟨d,G',r2,g2,q2⟩=>kk v H' d G' (t1.trans t2) r2 g2 q2
theorem aEA {qt:Bool} {P:Program} {w:World} {K:Fg} {mg:Str→Option Value} {base:Heap} {x qual:Str} {st:Stmt} {f:Addr} {fd:FuncData} {N ps:List Str} {k:Nat} {tb:aW→bA} (F:Fun K x qual st f fd) (S:bG N ps (aC st))
    (hbody:∀ (cdv:Value) (A:Around) (outer:List Env) (s:Shared) (H:Hp) (E:XK) (EX:aW),iG qt k (A.deeper (envOfC qual (aC st) s.heap.objs.size f cdv))→UpX K EX E →
      a8Q (cx1 qt P w K mg base N qual (aC st) f cdv A outer s H E) (aF st) (tb EX)):cT qt P w K mg base (oY P w) (k+1) f fd ps (dZ K (aP2 N.length ps.length tb)):=by
  obtain ⟨oc,od,dV,kV,doc,pm,an,cdv,ct,osl,rfl,lk,hcd⟩:=F.ex
  have hpl:ps.length≤N.length:=by have:=congrArg List.length S.pre;rw [List.length_take] at this;omega
  refine aB7 lk hcd S (fun vs H Q E h=>?_) fun A outer s H vs Q E hr hsp=>?_
  · obtain ⟨ds,G,R,EX,r,g,⟨hl,q⟩,_⟩:=h
    rw [← r.length,hl]
  · obtain ⟨ds,G,R,EX,r,g,⟨hl,q⟩,kk,hE⟩:=hsp
    refine ⟨_,hbody cdv A outer s H E EX hr hE,adY N.length ds,G,_,?_,g,q,⟨fun ρ G' σ' H' s1 g1 q1=>kk .non H' .non G' .non g1 q1,fun d G' v H' r1 g1 q1=>kk v H' d G' r1 g1 q1,fun _ _ _ _ _ _ z=>z.elim,fun _ _ _ _ _ _ z=>z.elim⟩⟩
    unfold adY start
    rw [r.length]
    exact SR.entry r
end
section
variable {X:Cx} {C:Addr} {bmB bmN:List Value} {B Bn newId nid initId inN:String} {EX:aM→aW} {x:Str} {np cpos pos:Pos} {e:Expr} {es:List Expr} {t:nT}
theorem a85 {K:Fg} {h:Heap} (XK:K.In h) (q:PySem.W.excIn K C bmB newId=true):∃ bm N nm q bs hdct sn sub ab col dd k0 k1 k2 k3 k5 mN,h.get? C=some (excClassObj nm q C N bs bm hdct sn sub ab col dd k0 k1 k2 k3 k5 newId)∧h.Ns N mN∧mN "__init__" = none∧OwnTail h bmB bm:=by
  unfold PySem.W.excIn at q
  split at q
  · rename_i dd cd sl ho
    split at q
    · rename_i C' bm k0 k1 k2 k3 n k5 hm hs
      simp only [Bool.and_eq_true,beq_iff_eq,Bool.not_eq_true'] at q
      obtain ⟨⟨⟨⟨⟨rfl,rfl⟩,hdel⟩,ht⟩,hok⟩,hni⟩:=q
      obtain ⟨nm,bs,mro,ns,qn,hd,sn,sub,ab,col,del⟩:=cd
      dsimp only at hm hdel hok hni
      subst hm hdel
      have hsl:sl=#[k0,k1,k2,k3,some (.builtin n),k5]:=by
        obtain ⟨l⟩:=sl
        simp only at hs
        rw [hs]
      subst hsl
      exact ⟨bm,ns,nm,qn,bs,hd,sn,sub,ab,col,dd,k0,k1,k2,k3,k5,_,XK _ _ ho,.of_isNs (PySem.W.isNs_of_in XK hok),PySem.W.nsMap_none_of_in XK hok hni,PySem.W.tail_of_in XK ht⟩
    · cases q
  · cases q
def uQ (EX:aM→aW) (C:Addr) (t:nT):bA:=fun _ ρ G=>t ρ G fun ds G1=>ds.length≤sizeLine∧EX ρ C G1
theorem ax6 (hc:X.calm=true) (Fn:ExcBaseFacts Bn newId inN bmN) (hBn:bmB.contains (.type Bn)=true) (FB:ExcBaseFacts B nid initId bmB) (hg:Gl X x) (hm:X.mg x=some (.ref C)) (hq:PySem.W.excIn X.K C bmB newId=true) (hT:Thr X EX)
    (ha:PA3 X (e :: es) t) (hd:(x == ("__debug__" : Str))=false:=by decide)
    (he:starEach (e :: es) X.env=(false,eval e X.env) :: starEach es X.env:=by rfl) (hplain:(backTo cpos (starEach es X.env)).any (·.1)=false:=by rfl) :
    PS3 X (.Raise (some (.Call (.Name x np) (e :: es) [] cpos)) none pos) (uQ EX C t):=by
  intro pins s σ H F I h
  obtain ⟨ρ,G,E3,sr,g,q,dd⟩:=h
  obtain ⟨tl,N,nm,q',bs,hdct,sn,sub,ab,col,dd',k0,k1,k2,k3,k5,mN,hC,hN,hni,T⟩:=a85 I.mod.kin hq
  refine wpAny_Raise_call_subU (C:=C) (nm:=nm) (q:=q') (N:=N) (bs:=bs) (bm:=tl) (hdct:=hdct) (sn:=sn) (sub:=sub) (ab:=ab) (col:=col) (dd:=dd') (k0:=k0) (k1:=k1) (k2:=k2) (k3:=k3) (k5:=k5)
    Fn hBn FB (mN:=mN) (T.hasType FB.hasBase) (I.ok.hd hc) (by rw [he];show (false || (backTo cpos (starEach es X.env)).any (·.1))=false;rw [hplain];rfl) hni (qP I hg hm ⟨rfl,?_⟩ hd)
  have hA:=ha cpos pins s σ H (fun vs H1=>Ts H H1∧∃ ds G1,cL X.K H1 ds vs∧HR X.K H1 G1∧ds.length≤sizeLine∧EX ρ C G1) I ⟨ρ,G,_,sr,g,q,fun vs H1 ds G1 t1 r1 g1 q1=>⟨t1,ds,G1,r1,g1,q1.1,q1.2⟩⟩
  rw [he] at hA ⊢
  refine Calls.evalArgs_plain (dN hA fun us s2 ⟨vs,H2,I2,r2,t1,ds,G1,r1,g1,hl,q1⟩=>?_)
  exact ⟨rfl,by rw [← r2.length,← r1.length];exact hl,I2.bk _ _ hC,hN.keeps I2.bk,T.keeps I2.bk,fun h' e' hm'=>hT.made pins σ H2 s2 ρ C e' us h' I2 (sr.mono t1) hm' ⟨C,G1,rfl,g1,q1⟩⟩
end
end L2
namespace L2
open PySem PySem.Spec PyProof.Rows
def nD:aM→Nat→aM
  | [],_=>[]
  | _ :: r,0=>none :: r
  | x :: r,n+1=>x :: nD r n
def a1A:St→Nat→St
  | [],_=>[]
  | _ :: r,0=>none :: r
  | x :: r,n+1=>x :: a1A r n
theorem SR.clr {K:Fg} {H:Hp}:∀ {ρ:aM} {σ:St} (i:Nat),SR K H ρ σ→SR K H (nD ρ i) (a1A σ i)
  | _,_,_,.nil => .nil
  | _,_,0,.none r => .none r
  | _,_,0,.some _ r => .none r
  | _,_,i+1,.none r => .none (SR.clr i r)
  | _,_,i+1,.some h r => .some h (SR.clr i r)
theorem a8U:∀ (σ:St) (i:Nat),(a1A σ i).length=σ.length
  | [],_=>rfl
  | _ :: _,0=>rfl
  | _ :: r,i+1=>congrArg (·+1) (a8U r i)
theorem a8V:∀ (σ:St) (i j:Nat) (v:V),(a1A σ i)[j]?=some (some v)→j≠i∧σ[j]?=some (some v)
  | [],_,_,_,h=>by simp [a1A] at h
  | _ :: _,0,0,_,h=>by simp [a1A] at h
  | _ :: _,0,j+1,_,h=>⟨by omega,by simpa [a1A] using h⟩
  | _ :: _,i+1,0,_,h=>⟨by omega,by simpa [a1A] using h⟩
  | _ :: r,i+1,j+1,v,h=>by
    obtain ⟨a,b⟩:=a8V r i j v (by simpa [a1A] using h)
    exact ⟨by omega,by simpa using b⟩
section
variable {X:Cx}
def xeT (X:Cx) (EX:aM→aW):Value→Shared→Prop:=fun e s'=>∃ pins σ H s ρ,Inv X pins σ H s∧SR X.K H ρ σ∧oY X.prog X.w X.stack H s (a6A X.K (EX ρ)) e s'
abbrev aKJ (X:Cx) (pn:List (Addr×Obj)) (EX:aM→aW):Cx:={ X with pn:=X.pn++pn,xe:=xeT { X with pn:=X.pn++pn } EX }
abbrev aP5 (X:Cx) (x:Addr):Cx:={ X with A:=X.A.mark (some (.ref x)),calm:=false,xe:=fun _ _=>False }
theorem aP6 (pn:List (Addr×Obj)) (EX:aM→aW):Cat (aKJ X pn EX) EX:=⟨fun pins σ H s ρ e s' I sr c =>
  ⟨pins,σ,H,s,ρ,⟨⟨I.ok.mod,I.ok.kind,I.ok.glob,I.ok.blt,I.ok.above,I.ok.inj,I.ok.has,I.ok.cab,I.ok.hd,I.ok.frames,I.ok.stk,I.ok.exf,I.ok.bs,I.ok.bsz,I.ok.adM,I.ok.agE,I.ok.xC,I.ok.frf⟩,I.os,I.bare,I.base,I.loc,I.cell,I.free,I.nR,I.pin,I.hok,I.len,I.hnd,I.tup⟩,sr,c⟩⟩
def aKK (K:Fg) (Dc:Addr) (i:Nat) (tb:(aM→aW)→bA) (th:bA):bA:=fun F ρ G =>
  tb (fun ρ1 C G1=>PySem.W.subIn K (.ref C) (.ref Dc)=some true∧∀ x,G1 x=none→th { nx:=fun ρ2 G2=>F.nx (nD ρ2 i) G2,rt:=F.rt,bk:=fun ρ2 G2=>F.bk (nD ρ2 i) G2,ct:=fun ρ2 G2=>F.ct (nD ρ2 i) G2 } (rR ρ1 i (.ref x)) (aN G1 x (.exn C))) F ρ G
theorem ar9 {P:Program} {w:World} {H:Hp} {B:Heap} {x:Addr} (hok:HOk P w H B) (n:B.get? x=none):H x=none:=by
  cases e0:H x with
  | none=>rfl
  | some o =>
    have lt:=(hok x o e0)
    obtain ⟨o',ho'⟩:∃ o',B.get? x=some o':=by
      cases o with
      | lst xs=>obtain ⟨_,_,_,_,e⟩:=lt;exact ⟨_,e⟩
      | tup xs=>obtain ⟨_,_,_,o,e,_⟩:=lt;exact ⟨_,e⟩
      | dK kvs=>obtain ⟨_,_,_,_,o,_,_,e,_⟩:=lt;exact ⟨_,e⟩
      | dT kvs=>obtain ⟨_,_,_,_,o,_,_,e,_⟩:=lt;exact ⟨_,e⟩
      | set S n=>obtain ⟨o,_,_,_,e,_⟩:=lt;exact ⟨_,e⟩
      | ins C dx fs=>obtain ⟨_,_,_,e,_⟩:=lt;exact ⟨_,e⟩
      | own y=>obtain ⟨_,e⟩:=lt;exact ⟨_,e⟩
      | xd fs=>obtain ⟨_,⟨_,_,_,e,_⟩,_⟩:=lt;exact ⟨_,e⟩
      | rng lo hi=>obtain ⟨_,_,_,e⟩:=lt;exact ⟨_,e⟩
      | nZ ob u=>obtain ⟨e,_⟩:=lt;exact ⟨_,e⟩
      | tbl ps=>exact ⟨_,(show B.get? x=some _ from lt)⟩
      | met f y=>exact ⟨_,(show B.get? x=some _ from lt)⟩
      | ext φ=>obtain ⟨_,⟨_,e⟩,_⟩:=lt;exact ⟨_,e⟩
    rw [n] at ho';cases ho'
end
end L2
namespace L2
open PySem PySem.Spec PyProof.Rows
section
variable {X:Cx} {a b c:Expr} {ta tb tc:bU} {pos:Pos}
def acL (t:bU):bU:=fun ρ G R=>t ρ G fun x G1=>match x with
  | .int i=>R (.int (-i)) G1
  | _=>False
theorem aKL (ha:cU X a ta):cU X (.UnaryOp .USub a pos) (acL ta):=PE.imp (aJ5 aDC ha) fun σ H Q h=>by
  obtain ⟨ρ,G,R,s,g,t,k⟩:=h
  refine ⟨ρ,G,_,s,g,t,fun v H1 x G1 t1 r g1 q=>?_⟩
  cases r with
  | int i=>exact ⟨i,rfl,k _ H1 _ G1 t1 (.int _) g1 q⟩
  | _=>exact False.elim q
def aL:Nat→D→Bool
  | 0,.tup _=>false
  | n+1,.tup xs=>xs.all (aL n)
  | _,.ref _=>false
  | _,.ty _=>false
  | _,_=>true
mutual
def eqP:D→D→Bool
  | .non,.non=>true
  | .bl a,.bl b=>a == b
  | .bl a,.int b=>(if a then 1 else 0) == b
  | .int a,.bl b=>a == (if b then 1 else 0)
  | .int a,.int b=>a == b
  | .str a,.str b=>a == b
  | .tup xs,.tup ys=>jH xs ys
  | _,_=>false
def jH:List D→List D→Bool
  | [],[]=>true
  | x :: xs,y :: ys=>eqP x y&&jH xs ys
  | _,_=>false
end
def uR (xs ys:List D) (j:Nat):Bool:=match xs[j]?,ys[j]? with
  | some a,some b=>eqP a b
  | _,_=>false
theorem a8W (n:Nat) (e:Nat→Bool):(List.range (n+1)).all e=(e 0&&(List.range n).all fun j=>e (j+1)):=by
  rw [List.range_succ_eq_map,List.all_cons,List.all_map];rfl
theorem lN:∀ (xs ys:List D),jH xs ys=((List.range (min xs.length ys.length)).all (uR xs ys)&&xs.length == ys.length)
  | [],[]=>rfl
  | [],y :: ys=>by simp [jH]
  | x :: xs,[]=>by simp [jH]
  | x :: xs,y :: ys=>by
    have ih:=lN xs ys
    have e:min (x :: xs).length (y :: ys).length=min xs.length ys.length+1:=by simp only [List.length_cons];omega
    rw [jH,ih,e,a8W]
    have e0:uR (x :: xs) (y :: ys) 0=eqP x y:=rfl
    have e1:(fun j=>uR (x :: xs) (y :: ys) (j+1))=uR xs ys:=by
      funext j
      simp [uR]
    have e2:((x :: xs).length == (y :: ys).length)=(xs.length == ys.length):=by
      simp only [List.length_cons]
      by_cases h:xs.length=ys.length
      · simp [h]
      · have h':¬ (xs.length+1=ys.length+1):=by omega
        simp [h,h']
    rw [e0,e1,e2,Bool.and_assoc]
theorem agW {xs ys:List D} (h:(xs.length != ys.length)=true):jH xs ys=false:=by
  rw [lN]
  have:(xs.length == ys.length)=false:=by simpa using h
  rw [this,Bool.and_false]
theorem acM {xs ys:List D} (h:xs.length=ys.length):jH xs ys=(List.range xs.length).all (uR xs ys):=by
  rw [lN,h]
  simp
mutual
theorem RD.inj {pins:List (Addr×Obj)} {σ:St} {H:Hp} {s:Shared} (I:Inv X pins σ H s):∀ {n:Nat} {x y:D} {v:V},aL n x=true→aL n y=true→RD X.K H x v→RD X.K H y v→x=y
  | _,_,_,_,_,_,.non,.non=>rfl
  | _,_,_,_,_,_,.bl _,.bl _=>rfl
  | _,_,_,_,_,_,.int _,.int _=>rfl
  | _,_,_,_,_,_,.str _,.str _=>rfl
  | _,_,_,_,hx,_,.ty _,.ty _=>rfl
  | _,_,_,_,_,_,.ref _,.ref _=>rfl
  | n,_,_,_,hx,_,.ref _,.tup _ _ _=>by cases n <;> simp [aL] at hx
  | n,_,_,_,_,hy,.tup _ _ _,.ref _=>by cases n <;> simp [aL] at hy
  | 0,_,_,_,hx,_,.tup _ _ _,.tup _ _ _=>by simp [aL] at hx
  | n+1,_,_,_,hx,hy,.tup h1 r1 _,.tup h2 r2 _=>by
    have e:=I.zM h1 h2
    subst e
    rw [cL.inj I (n:=n) (by simpa [aL] using hx) (by simpa [aL] using hy) r1 r2]
theorem cL.inj {pins:List (Addr×Obj)} {σ:St} {H:Hp} {s:Shared} (I:Inv X pins σ H s):∀ {n:Nat} {xs ys:List D} {vs:List V},(∀ x∈xs,aL n x=true)→(∀ y∈ys,aL n y=true)→cL X.K H xs vs→cL X.K H ys vs→xs=ys
  | _,_,_,_,_,_,.nil,.nil=>rfl
  | n,_,_,_,hx,hy,.cons h1 r1,.cons h2 r2=>by
    rw [RD.inj I (hx _ (by simp)) (hy _ (by simp)) h1 h2,cL.inj I (fun x m=>hx x (by simp [m])) (fun y m=>hy y (by simp [m])) r1 r2]
end
mutual
theorem agX:∀ {n:Nat} {x:D},aL n x=true→eqP x x=true
  | _,.non,_=>rfl
  | _,.bl b,_=>by simp [eqP]
  | _,.int b,_=>by simp [eqP]
  | _,.str b,_=>by simp [eqP]
  | n,.ref _,h=>by cases n <;> simp [aL] at h
  | n,.ty _,h=>by cases n <;> simp [aL] at h
  | 0,.tup _,h=>by simp [aL] at h
  | n+1,.tup xs,h=>by rw [eqP];exact a4Q (n:=n) (by simpa [aL] using h)
theorem a4Q:∀ {n:Nat} {xs:List D},(∀ x∈xs,aL n x=true)→jH xs xs=true
  | _,[],_=>rfl
  | n,x :: xs,h=>by rw [jH,agX (h x (by simp)),a4Q fun y m=>h y (by simp [m])];rfl
end
theorem Vals.aBJ {K:Fg} {H:Hp} {ds:List D} {xs:List V} {us:List Value} (r:cL K H ds xs) (v:Vals xs us) {j:Nat} {u:Value} (e:us[j]?=some u):∃ d x,ds[j]?=some d∧RD K H d x∧RelV x u:=by
  have hj:j < us.length:=(List.getElem?_eq_some_iff.mp e).1
  have hj':j < xs.length:=by rw [v.length];exact hj
  have ex:xs[j]?=some xs[j]:=List.getElem?_eq_getElem hj'
  obtain ⟨u',e1,r1⟩:=v.get ex
  rw [e] at e1;cases e1
  obtain ⟨d,e2,r2⟩:=r.ajR ex
  exact ⟨d,_,e2,r2,r1⟩
theorem xH {A:Around} {s:Shared} {K:Fg} {H:Hp} {n:Nat} {xs ys:List D} {vx vy:List V} {us ws:List Value} (rx:cL K H xs vx) (ry:cL K H ys vy) (vx':Vals vx us) (vy':Vals vy ws)
    (ih:∀ x∈xs,∀ y∈ys,∀ (v w:V) (u t:Value),RD K H x v→RD K H y w→RelV v u→RelV w t→SeqAt.EqAt A s u t (eqP x y)) :
    ∀ j (h1:j < us.toArray.size) (h2:j < ws.toArray.size),SeqAt.EqAt A s us.toArray[j] ws.toArray[j] (uR xs ys j):=by
  intro j h1 h2
  have e1:us[j]?=some us.toArray[j]:=by simp [List.getElem?_eq_getElem (show j < us.length by simpa using h1)]
  have e2:ws[j]?=some ws.toArray[j]:=by simp [List.getElem?_eq_getElem (show j < ws.length by simpa using h2)]
  obtain ⟨d,x,f1,f2,f3⟩:=Vals.aBJ rx vx' e1
  obtain ⟨d',y,g1,g2,g3⟩:=Vals.aBJ ry vy' e2
  have e:uR xs ys j=eqP d d':=by simp [uR,f1,g1]
  rw [e]
  exact ih d (List.mem_of_getElem? f1) d' (List.mem_of_getElem? g1) x y _ _ f2 g2 f3 g3
def scD:D→Bool
  | .non=>true
  | .bl _=>true
  | .int _=>true
  | .str _=>true
  | _=>false
theorem ax7 {A:Around} {s:Shared} {K:Fg} {H:Hp} {x y:D} {vx vy:V} {u v:Value} (hx:scD x=true) (hy:scD y=true) (rx:RD K H x vx) (ry:RD K H y vy) (ru:RelV vx u) (rv:RelV vy v):SeqAt.EqAt A s u v (eqP x y):=by
  have fx:w5 vx=true:=by cases rx <;> first | rfl | cases hx
  have fy:w5 vy=true:=by cases ry <;> first | rfl | cases hy
  have e:eqV vx vy=eqP x y:=by cases rx <;> cases ry <;> first | (simp [eqV,eqP];done) | cases hx | cases hy
  rw [← e]
  exact a4O ru rv fx fy
theorem xJ {A:Around} {n:Nat} (h:A.units+(n+1) < cLine):A.in1.units+n < cLine:=by
  show A.units+1+n < cLine
  omega
theorem a4R {pins:List (Addr×Obj)} {σ:St} {H:Hp} {s:Shared} (I:Inv X pins σ H s):∀ (n:Nat) (A:Around) (x y:D) (vx vy:V) (u v:Value),A.units+n < cLine→aL n x=true→aL n y=true→RD X.K H x vx→RD X.K H y vy→RelV vx u→RelV vy v→SeqAt.EqAt A s u v (eqP x y):=by
  intro n
  induction n with
  | zero =>
    intro A x y vx vy u v hu hx hy rx ry ru rv
    have sx:scD x=true:=by cases x <;> first | rfl | (simp [aL] at hx)
    have sy:scD y=true:=by cases y <;> first | rfl | (simp [aL] at hy)
    exact ax7 sx sy rx ry ru rv
  | succ n ih =>
    intro A x y vx vy u v hu hx hy rx ry ru rv
    have hu0:A.units < cLine:=by omega
    cases rx with
    | @tup ax xs ds hax rax eax =>
      cases ru
      obtain ⟨its,vv,px,_⟩:=I.tuple hax
      cases ry with
      | @tup ay ys es hay ray eay =>
        cases rv
        obtain ⟨jts,ww,py,_⟩:=I.tuple hay
        by_cases hab:ax=ay
        · subst hab
          have e:=RD.inj I (n:=n+1) hx hy (.tup hax rax eax) (.tup hay ray eay)
          rw [e,agX hy]
          exact SeqAt.EqAt.same _
        · refine SeqAt.EqAt.of_refs hab ?_
          have z:=SeqAt.RcAt.tuples (e:=uR ds es) (show s.heap.IsTuple ax its.toArray from px) (show s.heap.IsTuple ay jts.toArray from py) hu0 (xH (n:=n) rax ray vv ww fun x mx y my v w u t r1 r2 r3 r4 =>
            ih A.in1 x y v w u t (xJ hu) (List.all_eq_true.mp (by simpa [aL] using hx) x mx) (List.all_eq_true.mp (by simpa [aL] using hy) y my) r1 r2 r3 r4)
          have e:((List.range (min its.toArray.size jts.toArray.size)).all (uR ds es)&&its.toArray.size == jts.toArray.size)=eqP (.tup ds) (.tup es):=by
            rw [eqP,lN,List.size_toArray,List.size_toArray,← vv.length,← ww.length,← rax.length,← ray.length]
          rw [e] at z
          exact z
      | non=>cases rv;exact SeqAt.EqAt.tuple_none (show s.heap.IsTuple ax its.toArray from px) hu0
      | bl b=>cases rv;exact SeqAt.EqAt.tuple_bool b (show s.heap.IsTuple ax its.toArray from px) hu0
      | int i=>obtain ⟨t,rfl⟩:=rv;exact SeqAt.EqAt.tuple_int i t (show s.heap.IsTuple ax its.toArray from px) hu0
      | str z=>obtain ⟨t,rfl⟩:=rv;exact SeqAt.EqAt.tuple_str z t (show s.heap.IsTuple ax its.toArray from px) hu0
      | ref _=>simp [aL] at hy
      | ty _=>simp [aL] at hy
    | ref _=>simp [aL] at hx
    | ty _=>simp [aL] at hx
    | non =>
      cases ry with
      | @tup ay ys es hay ray =>
        cases rv;cases ru
        obtain ⟨jts,ww,py,_⟩:=I.tuple hay
        exact SeqAt.EqAt.none_tuple (show s.heap.IsTuple ay jts.toArray from py) hu0
      | ref _=>simp [aL] at hy
      | ty _=>simp [aL] at hy
      | _=>exact a4O ru rv rfl rfl
    | bl b =>
      cases ry with
      | @tup ay ys es hay ray =>
        cases rv;cases ru
        obtain ⟨jts,ww,py,_⟩:=I.tuple hay
        exact SeqAt.EqAt.bool_tuple b (show s.heap.IsTuple ay jts.toArray from py) hu0
      | ref _=>simp [aL] at hy
      | ty _=>simp [aL] at hy
      | _=>exact a4O ru rv rfl rfl
    | int i =>
      cases ry with
      | @tup ay ys es hay ray =>
        cases rv;obtain ⟨t,rfl⟩:=ru
        obtain ⟨jts,ww,py,_⟩:=I.tuple hay
        exact SeqAt.EqAt.int_tuple i t (show s.heap.IsTuple ay jts.toArray from py) hu0
      | ref _=>simp [aL] at hy
      | ty _=>simp [aL] at hy
      | _=>exact a4O ru rv rfl rfl
    | str z =>
      cases ry with
      | @tup ay ys es hay ray =>
        cases rv;obtain ⟨t,rfl⟩:=ru
        obtain ⟨jts,ww,py,_⟩:=I.tuple hay
        exact SeqAt.EqAt.str_tuple z t (show s.heap.IsTuple ay jts.toArray from py) hu0
      | ref _=>simp [aL] at hy
      | ty _=>simp [aL] at hy
      | _=>exact a4O ru rv rfl rfl
end
end L2
namespace L2
open PySem PySem.Spec PyProof.Rows
section
variable {X:Cx}
theorem aP8 {pins:List (Addr×Obj)} {σ:St} {H:Hp} {s:Shared} (I:Inv X pins σ H s) (n:Nat) (A:Around) (x y:D) (vx vy:V) (u v:Value) (hu:A.units+(n+1) < cLine) (hx:aL (n+1) x=true) (hy:aL (n+1) y=true) (rx:RD X.K H x vx) (ry:RD X.K H y vy) (ru:RelV vx u) (rv:RelV vy v):SeqAt.RcAt A s u v (eqP x y):=by
  have hu0:A.units < cLine:=by omega
  cases rx with
  | non =>
    cases ru
    cases ry with
    | non =>
      cases rv
      first | exact SeqAt.RcAt.none_none | (simp only [eqP];exact SeqAt.RcAt.none_none)
    | bl b2 =>
      cases rv
      first | exact SeqAt.RcAt.none_bool b2 | (simp only [eqP];exact SeqAt.RcAt.none_bool b2)
    | int i2 =>
      obtain ⟨t2,rfl⟩:=rv
      first | exact SeqAt.RcAt.none_int i2 t2 | (simp only [eqP];exact SeqAt.RcAt.none_int i2 t2)
    | str z2 =>
      obtain ⟨t2,rfl⟩:=rv
      first | exact SeqAt.RcAt.none_str z2 t2 | (simp only [eqP];exact SeqAt.RcAt.none_str z2 t2)
    | @tup a2 xs2 tE h2 r2 =>
      cases rv
      obtain ⟨its2,vv2,p2,_⟩:=I.tuple h2
      first | exact SeqAt.RcAt.none_tuple (show s.heap.IsTuple a2 its2.toArray from p2) hu0 | (simp only [eqP];exact SeqAt.RcAt.none_tuple (show s.heap.IsTuple a2 its2.toArray from p2) hu0)
    | ref _=>simp [aL] at hy
    | ty _=>simp [aL] at hy
  | bl b1 =>
    cases ru
    cases ry with
    | non =>
      cases rv
      first | exact SeqAt.RcAt.bool_none b1 | (simp only [eqP];exact SeqAt.RcAt.bool_none b1)
    | bl b2 =>
      cases rv
      first | exact SeqAt.RcAt.bool_bool b1 b2 | (simp only [eqP];exact SeqAt.RcAt.bool_bool b1 b2)
    | int i2 =>
      obtain ⟨t2,rfl⟩:=rv
      first | exact SeqAt.RcAt.bool_int b1 i2 t2 | (simp only [eqP];exact SeqAt.RcAt.bool_int b1 i2 t2)
    | str z2 =>
      obtain ⟨t2,rfl⟩:=rv
      first | exact SeqAt.RcAt.bool_str b1 z2 t2 | (simp only [eqP];exact SeqAt.RcAt.bool_str b1 z2 t2)
    | @tup a2 xs2 tE h2 r2 =>
      cases rv
      obtain ⟨its2,vv2,p2,_⟩:=I.tuple h2
      first | exact SeqAt.RcAt.bool_tuple b1 (show s.heap.IsTuple a2 its2.toArray from p2) hu0 | (simp only [eqP];exact SeqAt.RcAt.bool_tuple b1 (show s.heap.IsTuple a2 its2.toArray from p2) hu0)
    | ref _=>simp [aL] at hy
    | ty _=>simp [aL] at hy
  | int i1 =>
    obtain ⟨t1,rfl⟩:=ru
    cases ry with
    | non =>
      cases rv
      first | exact SeqAt.RcAt.int_none i1 t1 | (simp only [eqP];exact SeqAt.RcAt.int_none i1 t1)
    | bl b2 =>
      cases rv
      first | exact SeqAt.RcAt.int_bool i1 t1 b2 | (simp only [eqP];exact SeqAt.RcAt.int_bool i1 t1 b2)
    | int i2 =>
      obtain ⟨t2,rfl⟩:=rv
      first | exact SeqAt.RcAt.int_int i1 t1 i2 t2 | (simp only [eqP];exact SeqAt.RcAt.int_int i1 t1 i2 t2)
    | str z2 =>
      obtain ⟨t2,rfl⟩:=rv
      first | exact SeqAt.RcAt.int_str i1 t1 z2 t2 | (simp only [eqP];exact SeqAt.RcAt.int_str i1 t1 z2 t2)
    | @tup a2 xs2 tE h2 r2 =>
      cases rv
      obtain ⟨its2,vv2,p2,_⟩:=I.tuple h2
      first | exact SeqAt.RcAt.int_tuple i1 t1 (show s.heap.IsTuple a2 its2.toArray from p2) hu0 | (simp only [eqP];exact SeqAt.RcAt.int_tuple i1 t1 (show s.heap.IsTuple a2 its2.toArray from p2) hu0)
    | ref _=>simp [aL] at hy
    | ty _=>simp [aL] at hy
  | str z1 =>
    obtain ⟨t1,rfl⟩:=ru
    cases ry with
    | non =>
      cases rv
      first | exact SeqAt.RcAt.str_none z1 t1 | (simp only [eqP];exact SeqAt.RcAt.str_none z1 t1)
    | bl b2 =>
      cases rv
      first | exact SeqAt.RcAt.str_bool z1 t1 b2 | (simp only [eqP];exact SeqAt.RcAt.str_bool z1 t1 b2)
    | int i2 =>
      obtain ⟨t2,rfl⟩:=rv
      first | exact SeqAt.RcAt.str_int z1 t1 i2 t2 | (simp only [eqP];exact SeqAt.RcAt.str_int z1 t1 i2 t2)
    | str z2 =>
      obtain ⟨t2,rfl⟩:=rv
      first | exact SeqAt.RcAt.str_str z1 t1 z2 t2 | (simp only [eqP];exact SeqAt.RcAt.str_str z1 t1 z2 t2)
    | @tup a2 xs2 tE h2 r2 =>
      cases rv
      obtain ⟨its2,vv2,p2,_⟩:=I.tuple h2
      first | exact SeqAt.RcAt.str_tuple z1 t1 (show s.heap.IsTuple a2 its2.toArray from p2) hu0 | (simp only [eqP];exact SeqAt.RcAt.str_tuple z1 t1 (show s.heap.IsTuple a2 its2.toArray from p2) hu0)
    | ref _=>simp [aL] at hy
    | ty _=>simp [aL] at hy
  | @tup a1 xs1 ds1 h1 r1 =>
    cases ru
    obtain ⟨eX,vv1,p1,_⟩:=I.tuple h1
    cases ry with
    | non =>
      cases rv
      first | exact SeqAt.RcAt.tuple_none (show s.heap.IsTuple a1 eX.toArray from p1) hu0 | (simp only [eqP];exact SeqAt.RcAt.tuple_none (show s.heap.IsTuple a1 eX.toArray from p1) hu0)
    | bl b2 =>
      cases rv
      first | exact SeqAt.RcAt.tuple_bool b2 (show s.heap.IsTuple a1 eX.toArray from p1) hu0 | (simp only [eqP];exact SeqAt.RcAt.tuple_bool b2 (show s.heap.IsTuple a1 eX.toArray from p1) hu0)
    | int i2 =>
      obtain ⟨t2,rfl⟩:=rv
      first | exact SeqAt.RcAt.tuple_int i2 t2 (show s.heap.IsTuple a1 eX.toArray from p1) hu0 | (simp only [eqP];exact SeqAt.RcAt.tuple_int i2 t2 (show s.heap.IsTuple a1 eX.toArray from p1) hu0)
    | str z2 =>
      obtain ⟨t2,rfl⟩:=rv
      first | exact SeqAt.RcAt.tuple_str z2 t2 (show s.heap.IsTuple a1 eX.toArray from p1) hu0 | (simp only [eqP];exact SeqAt.RcAt.tuple_str z2 t2 (show s.heap.IsTuple a1 eX.toArray from p1) hu0)
    | @tup a2 xs2 tE h2 r2 =>
      cases rv
      obtain ⟨its2,vv2,p2,_⟩:=I.tuple h2
      have z:=SeqAt.RcAt.tuples (e:=uR ds1 tE) (show s.heap.IsTuple a1 eX.toArray from p1) (show s.heap.IsTuple a2 its2.toArray from p2) hu0 (xH (n:=n) r1 r2 vv1 vv2 fun x mx y my v w u t q1 q2 q3 q4 =>
            a4R I n A.in1 x y v w u t (xJ hu) (List.all_eq_true.mp (by simpa [aL] using hx) x mx) (List.all_eq_true.mp (by simpa [aL] using hy) y my) q1 q2 q3 q4)
      have e:((List.range (min eX.toArray.size its2.toArray.size)).all (uR ds1 tE)&&eX.toArray.size == its2.toArray.size)=eqP (.tup ds1) (.tup tE):=by
        rw [eqP,lN,List.size_toArray,List.size_toArray,← vv1.length,← vv2.length,← r1.length,← r2.length]
      rw [e] at z
      exact z
    | ref _=>simp [aL] at hy
    | ty _=>simp [aL] at hy
  | ref _=>simp [aL] at hx
  | ty _=>simp [aL] at hx
theorem aP9 {pins:List (Addr×Obj)} {σ:St} {H:Hp} {s:Shared} (I:Inv X pins σ H s) (n:Nat) (A:Around) {a1:Addr} {xs:List V} (hl:uN X.K H a1 xs) (y:D) (vy:V) (v:Value) (hu0:A.units < cLine) (hy:aL n y=true) (ry:RD X.K H y vy) (rv:RelV vy v):SeqAt.RcAt A s (.ref a1) v false:=by
  obtain ⟨eX,vv1,pl,_⟩:=I.list hl
  have p1:=pl.isList
  cases ry with
  | non =>
    cases rv
    exact SeqAt.RcAt.list_none p1 hu0
  | bl b2 =>
    cases rv
    exact SeqAt.RcAt.list_bool b2 p1 hu0
  | int i2 =>
    obtain ⟨t2,rfl⟩:=rv
    exact SeqAt.RcAt.list_int i2 t2 p1 hu0
  | str z2 =>
    obtain ⟨t2,rfl⟩:=rv
    exact SeqAt.RcAt.list_str z2 t2 p1 hu0
  | @tup a2 xs2 tE h2 r2 =>
    cases rv
    obtain ⟨its2,vv2,p2,_⟩:=I.tuple h2
    exact SeqAt.RcAt.list_tuple (show s.heap.IsList a1 eX.toArray from p1) (show s.heap.IsTuple a2 its2.toArray from p2) hu0
  | ref _=>cases n <;> simp [aL] at hy
  | ty _=>cases n <;> simp [aL] at hy
theorem aPA {pins:List (Addr×Obj)} {σ:St} {H:Hp} {s:Shared} (I:Inv X pins σ H s) (n:Nat) (A:Around) {a2:Addr} {xs:List V} (hl:uN X.K H a2 xs) (y:D) (vy:V) (v:Value) (hu0:A.units < cLine) (hy:aL n y=true) (ry:RD X.K H y vy) (rv:RelV vy v):SeqAt.RcAt A s v (.ref a2) false:=by
  obtain ⟨its2,vv2,pl,_⟩:=I.list hl
  have p2:=pl.isList
  cases ry with
  | non =>
    cases rv
    exact SeqAt.RcAt.none_list p2 hu0
  | bl b1 =>
    cases rv
    exact SeqAt.RcAt.bool_list b1 p2 hu0
  | int i1 =>
    obtain ⟨t1,rfl⟩:=rv
    exact SeqAt.RcAt.int_list i1 t1 p2 hu0
  | str z1 =>
    obtain ⟨t1,rfl⟩:=rv
    exact SeqAt.RcAt.str_list z1 t1 p2 hu0
  | @tup a1 xs1 ds1 h1 r1 =>
    cases rv
    obtain ⟨eX,vv1,p1,_⟩:=I.tuple h1
    exact SeqAt.RcAt.tuple_list (show s.heap.IsTuple a1 eX.toArray from p1) (show s.heap.IsList a2 its2.toArray from p2) hu0
  | ref _=>cases n <;> simp [aL] at hy
  | ty _=>cases n <;> simp [aL] at hy
theorem aPB {pins:List (Addr×Obj)} {σ:St} {H:Hp} {s:Shared} (I:Inv X pins σ H s) (n:Nat) (A:Around) {a1 a2:Addr} {xs1 xs2:List V} {ds1 tE:List D} (h1:uN X.K H a1 xs1) (h2:uN X.K H a2 xs2) (r1:cL X.K H ds1 xs1) (r2:cL X.K H tE xs2)
    (hu:A.units+(n+1) < cLine) (hx:ds1.all (aL n)=true) (hy:tE.all (aL n)=true):SeqAt.RcAt A s (.ref a1) (.ref a2) (jH ds1 tE):=by
  have hu0:A.units < cLine:=by omega
  obtain ⟨eX,vv1,q1,_⟩:=I.list h1
  obtain ⟨its2,vv2,q2,_⟩:=I.list h2
  have p1:=q1.isList
  have p2:=q2.isList
  by_cases hl:ds1.length=tE.length
  · have hsz:eX.toArray.size=its2.toArray.size:=by rw [List.size_toArray,List.size_toArray,← vv1.length,← vv2.length,← r1.length,← r2.length];exact hl
    have z:=SeqAt.RcAt.lists (e:=uR ds1 tE) p1 p2 hsz hu0 (xH (n:=n) r1 r2 vv1 vv2 fun x mx y my v w u t q1 q2 q3 q4 =>
            a4R I n A.in1 x y v w u t (xJ hu) (List.all_eq_true.mp hx x mx) (List.all_eq_true.mp hy y my) q1 q2 q3 q4)
    have e:(List.range eX.toArray.size).all (uR ds1 tE)=jH ds1 tE:=by rw [acM hl,List.size_toArray,← vv1.length,← r1.length]
    rw [e] at z
    exact z
  · have hne:(eX.toArray.size != its2.toArray.size)=true:=by rw [List.size_toArray,List.size_toArray,← vv1.length,← vv2.length,← r1.length,← r2.length];simpa using hl
    have e:jH ds1 tE=false:=agW (by simpa using hl)
    rw [e]
    exact SeqAt.RcAt.lists_lengths p1 p2 hne hu0
theorem aEC {pins:List (Addr×Obj)} {σ:St} {H:Hp} {s:Shared} (I:Inv X pins σ H s) (n:Nat) (A:Around) (x y:D) (vx vy:V) (u v:Value) (hu:A.units+(n+1) < cLine) (hx:aL (n+1) x=true) (hy:aL (n+1) y=true) (rx:RD X.K H x vx) (ry:RD X.K H y vy) (ru:RelV vx u) (rv:RelV vy v):SeqAt.RcNeAt A s u v (!eqP x y):=by
  have hu0:A.units < cLine:=by omega
  cases rx with
  | non =>
    cases ru
    cases ry with
    | non =>
      cases rv
      first | exact SeqAt.RcNeAt.none_none | (simp only [eqP];exact SeqAt.RcNeAt.none_none)
    | bl b2 =>
      cases rv
      first | exact SeqAt.RcNeAt.none_bool b2 | (simp only [eqP];exact SeqAt.RcNeAt.none_bool b2)
    | int i2 =>
      obtain ⟨t2,rfl⟩:=rv
      first | exact SeqAt.RcNeAt.none_int i2 t2 | (simp only [eqP];exact SeqAt.RcNeAt.none_int i2 t2)
    | str z2 =>
      obtain ⟨t2,rfl⟩:=rv
      first | exact SeqAt.RcNeAt.none_str z2 t2 | (simp only [eqP];exact SeqAt.RcNeAt.none_str z2 t2)
    | @tup a2 xs2 tE h2 r2 =>
      cases rv
      obtain ⟨its2,vv2,p2,_⟩:=I.tuple h2
      first | exact SeqAt.RcNeAt.none_tuple (show s.heap.IsTuple a2 its2.toArray from p2) hu0 | (simp only [eqP];exact SeqAt.RcNeAt.none_tuple (show s.heap.IsTuple a2 its2.toArray from p2) hu0)
    | ref _=>simp [aL] at hy
    | ty _=>simp [aL] at hy
  | bl b1 =>
    cases ru
    cases ry with
    | non =>
      cases rv
      first | exact SeqAt.RcNeAt.bool_none b1 | (simp only [eqP];exact SeqAt.RcNeAt.bool_none b1)
    | bl b2 =>
      cases rv
      first | exact SeqAt.RcNeAt.bool_bool b1 b2 | (simp only [eqP];exact SeqAt.RcNeAt.bool_bool b1 b2)
    | int i2 =>
      obtain ⟨t2,rfl⟩:=rv
      first | exact SeqAt.RcNeAt.bool_int b1 i2 t2 | (simp only [eqP];exact SeqAt.RcNeAt.bool_int b1 i2 t2)
    | str z2 =>
      obtain ⟨t2,rfl⟩:=rv
      first | exact SeqAt.RcNeAt.bool_str b1 z2 t2 | (simp only [eqP];exact SeqAt.RcNeAt.bool_str b1 z2 t2)
    | @tup a2 xs2 tE h2 r2 =>
      cases rv
      obtain ⟨its2,vv2,p2,_⟩:=I.tuple h2
      first | exact SeqAt.RcNeAt.bool_tuple b1 (show s.heap.IsTuple a2 its2.toArray from p2) hu0 | (simp only [eqP];exact SeqAt.RcNeAt.bool_tuple b1 (show s.heap.IsTuple a2 its2.toArray from p2) hu0)
    | ref _=>simp [aL] at hy
    | ty _=>simp [aL] at hy
  | int i1 =>
    obtain ⟨t1,rfl⟩:=ru
    cases ry with
    | non =>
      cases rv
      first | exact SeqAt.RcNeAt.int_none i1 t1 | (simp only [eqP];exact SeqAt.RcNeAt.int_none i1 t1)
    | bl b2 =>
      cases rv
      first | exact SeqAt.RcNeAt.int_bool i1 t1 b2 | (simp only [eqP];exact SeqAt.RcNeAt.int_bool i1 t1 b2)
    | int i2 =>
      obtain ⟨t2,rfl⟩:=rv
      first | exact SeqAt.RcNeAt.int_int i1 t1 i2 t2 | (simp only [eqP];exact SeqAt.RcNeAt.int_int i1 t1 i2 t2)
    | str z2 =>
      obtain ⟨t2,rfl⟩:=rv
      first | exact SeqAt.RcNeAt.int_str i1 t1 z2 t2 | (simp only [eqP];exact SeqAt.RcNeAt.int_str i1 t1 z2 t2)
    | @tup a2 xs2 tE h2 r2 =>
      cases rv
      obtain ⟨its2,vv2,p2,_⟩:=I.tuple h2
      first | exact SeqAt.RcNeAt.int_tuple i1 t1 (show s.heap.IsTuple a2 its2.toArray from p2) hu0 | (simp only [eqP];exact SeqAt.RcNeAt.int_tuple i1 t1 (show s.heap.IsTuple a2 its2.toArray from p2) hu0)
    | ref _=>simp [aL] at hy
    | ty _=>simp [aL] at hy
  | str z1 =>
    obtain ⟨t1,rfl⟩:=ru
    cases ry with
    | non =>
      cases rv
      first | exact SeqAt.RcNeAt.str_none z1 t1 | (simp only [eqP];exact SeqAt.RcNeAt.str_none z1 t1)
    | bl b2 =>
      cases rv
      first | exact SeqAt.RcNeAt.str_bool z1 t1 b2 | (simp only [eqP];exact SeqAt.RcNeAt.str_bool z1 t1 b2)
    | int i2 =>
      obtain ⟨t2,rfl⟩:=rv
      first | exact SeqAt.RcNeAt.str_int z1 t1 i2 t2 | (simp only [eqP];exact SeqAt.RcNeAt.str_int z1 t1 i2 t2)
    | str z2 =>
      obtain ⟨t2,rfl⟩:=rv
      first | exact SeqAt.RcNeAt.str_str z1 t1 z2 t2 | (simp only [eqP];exact SeqAt.RcNeAt.str_str z1 t1 z2 t2)
    | @tup a2 xs2 tE h2 r2 =>
      cases rv
      obtain ⟨its2,vv2,p2,_⟩:=I.tuple h2
      first | exact SeqAt.RcNeAt.str_tuple z1 t1 (show s.heap.IsTuple a2 its2.toArray from p2) hu0 | (simp only [eqP];exact SeqAt.RcNeAt.str_tuple z1 t1 (show s.heap.IsTuple a2 its2.toArray from p2) hu0)
    | ref _=>simp [aL] at hy
    | ty _=>simp [aL] at hy
  | @tup a1 xs1 ds1 h1 r1 =>
    cases ru
    obtain ⟨eX,vv1,p1,_⟩:=I.tuple h1
    cases ry with
    | non =>
      cases rv
      first | exact SeqAt.RcNeAt.tuple_none (show s.heap.IsTuple a1 eX.toArray from p1) hu0 | (simp only [eqP];exact SeqAt.RcNeAt.tuple_none (show s.heap.IsTuple a1 eX.toArray from p1) hu0)
    | bl b2 =>
      cases rv
      first | exact SeqAt.RcNeAt.tuple_bool b2 (show s.heap.IsTuple a1 eX.toArray from p1) hu0 | (simp only [eqP];exact SeqAt.RcNeAt.tuple_bool b2 (show s.heap.IsTuple a1 eX.toArray from p1) hu0)
    | int i2 =>
      obtain ⟨t2,rfl⟩:=rv
      first | exact SeqAt.RcNeAt.tuple_int i2 t2 (show s.heap.IsTuple a1 eX.toArray from p1) hu0 | (simp only [eqP];exact SeqAt.RcNeAt.tuple_int i2 t2 (show s.heap.IsTuple a1 eX.toArray from p1) hu0)
    | str z2 =>
      obtain ⟨t2,rfl⟩:=rv
      first | exact SeqAt.RcNeAt.tuple_str z2 t2 (show s.heap.IsTuple a1 eX.toArray from p1) hu0 | (simp only [eqP];exact SeqAt.RcNeAt.tuple_str z2 t2 (show s.heap.IsTuple a1 eX.toArray from p1) hu0)
    | @tup a2 xs2 tE h2 r2 =>
      cases rv
      obtain ⟨its2,vv2,p2,_⟩:=I.tuple h2
      have z:=SeqAt.RcNeAt.tuples (e:=uR ds1 tE) (show s.heap.IsTuple a1 eX.toArray from p1) (show s.heap.IsTuple a2 its2.toArray from p2) hu0 (xH (n:=n) r1 r2 vv1 vv2 fun x mx y my v w u t q1 q2 q3 q4 =>
            a4R I n A.in1 x y v w u t (xJ hu) (List.all_eq_true.mp (by simpa [aL] using hx) x mx) (List.all_eq_true.mp (by simpa [aL] using hy) y my) q1 q2 q3 q4)
      have e:((List.range (min eX.toArray.size its2.toArray.size)).all (uR ds1 tE)&&eX.toArray.size == its2.toArray.size)=eqP (.tup ds1) (.tup tE):=by
        rw [eqP,lN,List.size_toArray,List.size_toArray,← vv1.length,← vv2.length,← r1.length,← r2.length]
      rw [e] at z
      exact z
    | ref _=>simp [aL] at hy
    | ty _=>simp [aL] at hy
  | ref _=>simp [aL] at hx
  | ty _=>simp [aL] at hx
theorem aED {pins:List (Addr×Obj)} {σ:St} {H:Hp} {s:Shared} (I:Inv X pins σ H s) (n:Nat) (A:Around) {a1:Addr} {xs:List V} (hl:uN X.K H a1 xs) (y:D) (vy:V) (v:Value) (hu0:A.units < cLine) (hy:aL n y=true) (ry:RD X.K H y vy) (rv:RelV vy v):SeqAt.RcNeAt A s (.ref a1) v true:=by
  obtain ⟨eX,vv1,pl,_⟩:=I.list hl
  have p1:=pl.isList
  cases ry with
  | non =>
    cases rv
    exact SeqAt.RcNeAt.list_none p1 hu0
  | bl b2 =>
    cases rv
    exact SeqAt.RcNeAt.list_bool b2 p1 hu0
  | int i2 =>
    obtain ⟨t2,rfl⟩:=rv
    exact SeqAt.RcNeAt.list_int i2 t2 p1 hu0
  | str z2 =>
    obtain ⟨t2,rfl⟩:=rv
    exact SeqAt.RcNeAt.list_str z2 t2 p1 hu0
  | @tup a2 xs2 tE h2 r2 =>
    cases rv
    obtain ⟨its2,vv2,p2,_⟩:=I.tuple h2
    exact SeqAt.RcNeAt.list_tuple (show s.heap.IsList a1 eX.toArray from p1) (show s.heap.IsTuple a2 its2.toArray from p2) hu0
  | ref _=>cases n <;> simp [aL] at hy
  | ty _=>cases n <;> simp [aL] at hy
theorem aEE {pins:List (Addr×Obj)} {σ:St} {H:Hp} {s:Shared} (I:Inv X pins σ H s) (n:Nat) (A:Around) {a2:Addr} {xs:List V} (hl:uN X.K H a2 xs) (y:D) (vy:V) (v:Value) (hu0:A.units < cLine) (hy:aL n y=true) (ry:RD X.K H y vy) (rv:RelV vy v):SeqAt.RcNeAt A s v (.ref a2) true:=by
  obtain ⟨its2,vv2,pl,_⟩:=I.list hl
  have p2:=pl.isList
  cases ry with
  | non =>
    cases rv
    exact SeqAt.RcNeAt.none_list p2 hu0
  | bl b1 =>
    cases rv
    exact SeqAt.RcNeAt.bool_list b1 p2 hu0
  | int i1 =>
    obtain ⟨t1,rfl⟩:=rv
    exact SeqAt.RcNeAt.int_list i1 t1 p2 hu0
  | str z1 =>
    obtain ⟨t1,rfl⟩:=rv
    exact SeqAt.RcNeAt.str_list z1 t1 p2 hu0
  | @tup a1 xs1 ds1 h1 r1 =>
    cases rv
    obtain ⟨eX,vv1,p1,_⟩:=I.tuple h1
    exact SeqAt.RcNeAt.tuple_list (show s.heap.IsTuple a1 eX.toArray from p1) (show s.heap.IsList a2 its2.toArray from p2) hu0
  | ref _=>cases n <;> simp [aL] at hy
  | ty _=>cases n <;> simp [aL] at hy
theorem aEF {pins:List (Addr×Obj)} {σ:St} {H:Hp} {s:Shared} (I:Inv X pins σ H s) (n:Nat) (A:Around) {a1 a2:Addr} {xs1 xs2:List V} {ds1 tE:List D} (h1:uN X.K H a1 xs1) (h2:uN X.K H a2 xs2) (r1:cL X.K H ds1 xs1) (r2:cL X.K H tE xs2)
    (hu:A.units+(n+1) < cLine) (hx:ds1.all (aL n)=true) (hy:tE.all (aL n)=true):SeqAt.RcNeAt A s (.ref a1) (.ref a2) (!jH ds1 tE):=by
  have hu0:A.units < cLine:=by omega
  obtain ⟨eX,vv1,q1,_⟩:=I.list h1
  obtain ⟨its2,vv2,q2,_⟩:=I.list h2
  have p1:=q1.isList
  have p2:=q2.isList
  by_cases hl:ds1.length=tE.length
  · have hsz:eX.toArray.size=its2.toArray.size:=by rw [List.size_toArray,List.size_toArray,← vv1.length,← vv2.length,← r1.length,← r2.length];exact hl
    have z:=SeqAt.RcNeAt.lists (e:=uR ds1 tE) p1 p2 hsz hu0 (xH (n:=n) r1 r2 vv1 vv2 fun x mx y my v w u t q1 q2 q3 q4 =>
            a4R I n A.in1 x y v w u t (xJ hu) (List.all_eq_true.mp hx x mx) (List.all_eq_true.mp hy y my) q1 q2 q3 q4)
    have e:(List.range eX.toArray.size).all (uR ds1 tE)=jH ds1 tE:=by rw [acM hl,List.size_toArray,← vv1.length,← r1.length]
    rw [e] at z
    exact z
  · have hne:(eX.toArray.size != its2.toArray.size)=true:=by rw [List.size_toArray,List.size_toArray,← vv1.length,← vv2.length,← r1.length,← r2.length];simpa using hl
    have e:jH ds1 tE=false:=agW (by simpa using hl)
    rw [e]
    exact SeqAt.RcNeAt.lists_lengths p1 p2 hne hu0
def eqG (G:Gp) (x y:D) (k:Bool→Prop):Prop:=match x,y with
  | .ref a,.ref b=>(match aO G a,aO G b with
    | some xs,some ys=>xs.all (aL 20)=true∧ys.all (aL 20)=true∧k (jH xs ys)
    | _,_=>False)
  | .ref a,y=>(match aO G a with
    | some _=>aL 20 y=true∧k false
    | none=>False)
  | x,.ref b=>(match aO G b with
    | some _=>aL 20 x=true∧k false
    | none=>False)
  | x,y=>aL 20 x=true∧aL 20 y=true∧k (eqP x y)
def qO:R3:=fun x y G R=>eqG G x y fun b=>R (.bl b) G
def xK:R3:=fun x y G R=>eqG G x y fun b=>R (.bl (!b)) G
theorem arA {f:Value→Value→Sem Value} {r3:R3} (h:∀ (pins:List (Addr×Obj)) (s:Shared) (σ:St) (H:Hp) (x y:D) (vx vy:V) (u v:Value) (G:Gp) (R:iD) (Q:VK),Inv X pins σ H s→RD X.K H x vx→RD X.K H y vy→RelV vx u→RelV vy v→HR X.K H G→r3 x y G R →
      (∀ w H' d G',Ts H H'→RD X.K H' d w→HR X.K H' G'→R d G'→Q w H')→wpAny (model X.prog X.w) X.A (f u v) (EP X pins σ Q) X.xe s):uP X f r3 :=
  ⟨fun vx vy H Q=>∃ x y G R,RD X.K H x vx∧RD X.K H y vy∧HR X.K H G∧r3 x y G R∧∀ w H' d G',Ts H H'→RD X.K H' d w→HR X.K H' G'→R d G'→Q w H',
    fun pins s σ H vx vy u v Q I ru rv ⟨x,y,G,R,rx,ry,g,q,k⟩=>h pins s σ H x y vx vy u v G R Q I rx ry ru rv g q k,fun H x y vx vy G R Q rx ry g q k=>⟨x,y,G,R,rx,ry,g,q,k⟩⟩
theorem alZ (hu:X.A.units+64 < cLine) {neg:Bool} {op:CmpOp} (hop:op=if neg then .NotEq else .Eq) {pins:List (Addr×Obj)} {s:Shared} {σ:St} {H:Hp} {x y:D} {vx vy:V} {u v:Value} {G:Gp} {k:Bool→Prop} {Q:VK} (I:Inv X pins σ H s) (rx:RD X.K H x vx) (ry:RD X.K H y vy) (ru:RelV vx u) (rv:RelV vy v) (g:HR X.K H G)
    (h:eqG G x y k) (hk:∀ b,k b→EP X pins σ Q (.bool (neg ^^ b)) s):wpAny (model X.prog X.w) X.A (compareOp op u v) (EP X pins σ Q) X.xe s:=by
  have fin:∀ {b:Bool},(if neg then SeqAt.RcNeAt X.A s u v (!b) else SeqAt.RcAt X.A s u v b)→k b→wpAny (model X.prog X.w) X.A (compareOp op u v) (EP X pins σ Q) X.xe s:=fun {b} z kb=>by
    have e:=hk b kb
    cases neg with
    | true =>
      subst hop
      rw [Bool.true_xor] at e
      exact z X.prog X.w X.xe _ e
    | false =>
      subst hop
      rw [Bool.false_xor] at e
      exact z X.prog X.w X.xe _ e
  have hu1:X.A.units+(20+1) < cLine:=by omega
  have hu2:X.A.units+(19+1) < cLine:=by omega
  have hu0:X.A.units < cLine:=by omega
  have plain:aL 20 x=true→aL 20 y=true→k (eqP x y)→wpAny (model X.prog X.w) X.A (compareOp op u v) (EP X pins σ Q) X.xe s:=fun hx hy kk=>fin (b:=eqP x y) (by
    cases neg with
    | true=>exact aEC I 19 X.A x y vx vy u v hu2 hx hy rx ry ru rv
    | false=>exact aP8 I 19 X.A x y vx vy u v hu2 hx hy rx ry ru rv) kk
  have left:∀ a xs,x = .ref a→aO G a=some xs→aL 20 y=true→k false→wpAny (model X.prog X.w) X.A (compareOp op u v) (EP X pins σ Q) X.xe s:=fun a xs e1 e2 hy kk=>by
    subst e1
    cases rx
    cases ru
    obtain ⟨zs,hz,_⟩:=bY g e2
    refine fin (b:=false) ?_ kk
    cases neg with
    | true=>exact aED I 20 X.A hz y vy v hu0 hy ry rv
    | false=>exact aP9 I 20 X.A hz y vy v hu0 hy ry rv
  have right:∀ a xs,y = .ref a→aO G a=some xs→aL 20 x=true→k false→wpAny (model X.prog X.w) X.A (compareOp op u v) (EP X pins σ Q) X.xe s:=fun a xs e1 e2 hy kk=>by
    subst e1
    cases ry
    cases rv
    obtain ⟨zs,hz,_⟩:=bY g e2
    refine fin (b:=false) ?_ kk
    cases neg with
    | true=>exact aEE I 20 X.A hz x vx u hu0 hy rx ru
    | false=>exact aPA I 20 X.A hz x vx u hu0 hy rx ru
  unfold eqG at h
  split at h
  · rename_i a b
    split at h
    · rename_i xs ys e1 e2
      cases rx;cases ry;cases ru;cases rv
      obtain ⟨zs1,hz1,q1⟩:=bY g e1
      obtain ⟨zs2,hz2,q2⟩:=bY g e2
      refine fin (b:=jH xs ys) ?_ h.2.2
      cases neg with
      | true=>exact aEF I 20 X.A hz1 hz2 q1 q2 hu1 h.1 h.2.1
      | false=>exact aPB I 20 X.A hz1 hz2 q1 q2 hu1 h.1 h.2.1
    · exact h.elim
  · rename_i a _
    split at h
    · rename_i xs e1
      exact left a xs rfl e1 h.1 h.2
    · exact h.elim
  · rename_i b _
    split at h
    · rename_i xs e1
      exact right b xs rfl e1 h.1 h.2
    · exact h.elim
  · exact plain h.1 h.2.1 h.2.2
theorem aPC (hu:X.A.units+64 < cLine):uP X (compareOp .Eq) qO:=arA fun pins s σ H x y vx vy u v G R Q I rx ry ru rv g q k =>
  alZ (neg:=false) hu rfl I rx ry ru rv g q fun b kb=>⟨.bl b,H,I,by rw [Bool.false_xor];rfl,k _ H (.bl b) G (.refl H) (.bl b) g kb⟩
theorem aPD (hu:X.A.units+64 < cLine):uP X (compareOp .NotEq) xK:=arA fun pins s σ H x y vx vy u v G R Q I rx ry ru rv g q k =>
  alZ (neg:=true) hu rfl I rx ry ru rv g q fun b kb=>⟨.bl (!b),H,I,by rw [Bool.true_xor];rfl,k _ H (.bl (!b)) G (.refl H) (.bl (!b)) g kb⟩
end
end L2
namespace L2
open PySem PySem.Spec PyProof.Rows PySem.W PySem.Calls
open PySem.Builtin PySem.Builtin.ObjectAttr PySem.Builtin.Getset_descriptor
section
variable {prog:Program} {w:World} {A:Around} {E:Value→Shared→Prop} {s:Shared} {K:Fg} {x C:Addr} {o:Obj}
theorem abN {tp:Value} {R:Result→Shared→Prop} (X:K.In s.heap) (hx:s.heap.get? x=some o) (hc:o.cls = .ref C) (hm:mroIn K C (.type "object")=some true)
    (h:R (.ok (.ret (.ref C))) s):codeAny (model prog w) A (.call (.builtin "getset_descriptor.__get__") ⟨[.builtin "object.__class__",.ref x,tp],[]⟩) R s:=by
  obtain ⟨hh,g,dr,t,os⟩:=s
  have L0:Looks (model prog w) hh (typeOf (.ref x)) (.ref C):=hc ▸ (Looks.ld hx).andThen .now
  have L1:=looks_mroIn (M:=model prog w) X hm
  refine codeAny_call_builtin KF.slot_gs.plain KF.entry_gs (KF.slot_gs.check _ _ _ _ _ _ _ _ KF.type_class (KF.args_gs _ _ _) ?_)
  unfold Builtin.«getset_descriptor.__get__» descrGet
  rw [dga_obj]
  refine wpAny_bind (wpAny_pure ?_)
  unfold descrGetter descrCheckInstance descrNameAndClass isInstance
  simp only [KF.owner_class]
  repeat lk
  refine ⟨Code.quiet_builtin _ (by decide +kernel),codeAny_builtin KF.entry_class ?_⟩
  unfold Builtin.«object.__class__» shownTypeOf
  repeat lk
  exact h
theorem aoI {Q:Option Value→Shared→Prop} (X:K.In s.heap) (hx:s.heap.get? x=some o) (hc:o.cls = .ref C)
    (hga:findIn K (.ref C) "__getattribute__" = some (some (.builtin "BaseException.__getattribute__"))) (hgn:findIn K (.ref C) "__getattr__" = some none) (ha:findIn K (.ref C) "__class__" = some (some (.builtin "object.__class__")))
    (hb:subIn K (.ref C) (.type "BaseException")=some true) (hm:mroIn K C (.type "object")=some true) (h:Q (some (.ref C)) { s with toks:=s.toks+1 }):wpAny (model prog w) A (getAttr? (.ref x) "__class__") Q E s:=by
  obtain ⟨hh,g,d,t,os⟩:=s
  have L0:Looks (model prog w) hh (typeOf (.ref x)) (.ref C):=hc ▸ (Looks.ld hx).andThen .now
  have L1:=looks_findIn (M:=model prog w) X hga
  have L2':=looks_findIn (M:=model prog w) X hgn
  have L3:=looks_findIn (M:=model prog w) X ha
  have L4:=looks_subIn (M:=model prog w) X hb
  unfold getAttr? getAttrBy? getAttrBy
  refine wpAny_bind (wpAny_mkText (wpAny_bind (wpAny_attempt (wpAny_holding (wpAny_bind (L0.at (wpAny_bind (L1.at ?_))))))))
  have hx2:(Value.builtin "BaseException.__getattribute__" == Value.builtin "object.__getattribute__")=false:=by decide +kernel
  have f3:=PySem.F.attr_ValueError.ga.bind (.ref x)
  have hk:builtinKind "BaseException.__getattribute__" = some .slot:=by decide +kernel
  have hsplit:splitId "BaseException.__getattribute__" = some ("BaseException", "__getattribute__"):=by decide +kernel
  have ha2:=PySem.F.args_bexc_ga (.ref x) (.str "__class__" t)
  repeat (first | with_reducible refine L0.at ?_ | with_reducible refine L1.at ?_ | with_reducible refine L2'.at ?_ | with_reducible refine L3.at ?_ | with_reducible refine L4.at ?_ | wp_step)
  refine codeAny_call_builtin PySem.F.attr_ValueError.ga.plain PySem.F.entry_bexc_ga ?_
  simp only [checkBuiltinCall,hk,hsplit]
  unfold isInstance
  have f5:=PySem.F.typeOf_object_class
  have f6:=PySem.F.slot_gs_get.lookup
  have f7:=PySem.F.slot_gs_set.lookup
  repeat (any_goals (first | assumption | with_reducible refine L0.at ?_ | with_reducible refine L1.at ?_ | with_reducible refine L2'.at ?_ | with_reducible refine L3.at ?_ | with_reducible refine L4.at ?_ | wp_step))
  refine abN X hx hc hm ?_
  repeat (any_goals (first | assumption | wp_step))
end
end L2
namespace L2
open PySem PySem.Spec PyProof.Rows
section
variable {X:Cx} {x:Str} {p pos:Pos} {e o:Expr} {es:List Expr} {t:nT} {to:bU} {id T:String} {r3:List D→Gp→iD→Prop}
def cM (X:Cx) (f:Value) (r3:List D→Gp→iD→Prop):Prop :=
  ∀ (pins:List (Addr×Obj)) (s:Shared) (σ:St) (H:Hp) (xs:List D) (vs:List V) (us:List Value) (G:Gp) (R:iD) (Q:VK),Inv X pins σ H s→cL X.K H xs vs→Vals vs us→HR X.K H G→r3 xs G R →
    (∀ v H' d G',Ts H H'→RD X.K H' d v→HR X.K H' G'→R d G'→Q v H')→wpAny (model X.prog X.w) X.A (call f us) (EP X pins σ Q) X.xe s
theorem cM.of {f:Value} {r:List V→Hp→VK→Prop} (h:qQ X f r) (i:∀ (H:Hp) (xs:List D) (vs:List V) (G:Gp) (R:iD) (Q:VK),cL X.K H xs vs→HR X.K H G→r3 xs G R →
    (∀ v H' d G',Ts H H'→RD X.K H' d v→HR X.K H' G'→R d G'→Q v H')→r vs H fun v H'=>KF X.K H'→Q v H'):cM X f r3:=fun pins s σ H xs vs us G R Q I rx rv g q k =>
  dN (h pins s σ H vs us _ I rv (i H xs vs G R Q rx g q k)) fun _ _ ⟨v,H',I',r,q'⟩=>⟨v,H',I',r,q' (xF I')⟩
def gW (r3:List D→Gp→iD→Prop) (t:nT):bU:=fun ρ G R=>t ρ G fun xs G1=>r3 xs G1 R
theorem uT (hc:cM X (.builtin id) r3) (hg:Gl X x) (hm:X.mg x=none) (hv:bootBuiltins x=some (.builtin id)) (ha:PA3 X (e :: es) t) (hn:x ≠ "__name__" := by decide) (hdb:(x == ("__debug__" : Str))=false:=by decide)
    (he:starEach (e :: es) X.env=(false,eval e X.env) :: starEach es X.env:=by rfl) (hpl:(backTo pos (starEach es X.env)).any (·.1)=false:=by rfl):cU X (.Call (.Name x p) (e :: es) [] pos) (gW r3 t):=by
  intro pins s σ H Q I h
  obtain ⟨ρ,G,R,sr,g,q,kk⟩:=h
  refine wpAny_Call_Name_kw (a0X I hg hm hv ?_ hn hdb)
  exact PyProof.Rows.callWith_builtin1 (dN (ha pos pins s σ H (fun vs H1=>Ts H H1∧∃ ds G1,cL X.K H1 ds vs∧HR X.K H1 G1∧r3 ds G1 R) I ⟨ρ,G,_,sr,g,q,fun vs H1 ds G1 t1 r1 g1 q1=>⟨t1,ds,G1,r1,g1,q1⟩⟩) fun us s1 ⟨vs,H1,I1,r,t1,ds,G1,r1,g1,q1⟩ =>
    hc pins s1 σ H1 ds vs us G1 R Q I1 r1 r g1 q1 fun v H' d G' t2=>kk v H' d G' (t1.trans t2)) he hpl
theorem arB (hc:cM X (.type T) r3) (hg:Gl X x) (hm:X.mg x=none) (hv:bootBuiltins x=some (.type T)) (ha:PA3 X (e :: es) t) (hn:x ≠ "__name__" := by decide) (hdb:(x == ("__debug__" : Str))=false:=by decide)
    (he:starEach (e :: es) X.env=(false,eval e X.env) :: starEach es X.env:=by rfl) (hpl:(backTo pos (starEach es X.env)).any (·.1)=false:=by rfl):cU X (.Call (.Name x p) (e :: es) [] pos) (gW r3 t):=by
  intro pins s σ H Q I h
  obtain ⟨ρ,G,R,sr,g,q,kk⟩:=h
  refine wpAny_Call_Name_kw (a0X I hg hm hv ?_ hn hdb)
  exact PyProof.Rows.callWith_type1 (dN (ha pos pins s σ H (fun vs H1=>Ts H H1∧∃ ds G1,cL X.K H1 ds vs∧HR X.K H1 G1∧r3 ds G1 R) I ⟨ρ,G,_,sr,g,q,fun vs H1 ds G1 t1 r1 g1 q1=>⟨t1,ds,G1,r1,g1,q1⟩⟩) fun us s1 ⟨vs,H1,I1,r,t1,ds,G1,r1,g1,q1⟩ =>
    hc pins s1 σ H1 ds vs us G1 R Q I1 r1 r g1 q1 fun v H' d G' t2=>kk v H' d G' (t1.trans t2)) he hpl
def qU:List D→Gp→iD→Prop:=fun xs G R=>match xs with
  | [.str z]=>z.length≤sizeLine∧R (.int z.length) G
  | [.tup ds]=>R (.int ds.length) G
  | [.ref q]=>(match aO G q with
    | some ds=>R (.int ds.length) G
    | none=>False)
  | _=>False
theorem aKM:cM X (.builtin "len") qU:=cM.of (adV.or adW) fun H xs vs G R Q rx g q k=>by
  cases rx with
  | nil=>exact False.elim q
  | cons r rr =>
    cases rr with
    | cons _ _=>cases r <;> exact False.elim q
    | nil =>
      cases r with
      | str z=>exact .inr ⟨z,rfl,q.1,fun _=>k _ H _ G (.refl H) (.int _) g q.2⟩
      | @tup a xs ds ha ra=>exact .inl ⟨a,xs,rfl,.inr ha,fun _=>by rw [← ra.length];exact k _ H _ G (.refl H) (.int _) g q⟩
      | ref a =>
        have q':(match aO G a with
          | some ds=>R (.int ds.length) G
          | none=>False):=q
        split at q'
        · rename_i ds e1
          obtain ⟨xs,h1,r1⟩:=bY g e1
          exact .inl ⟨a,xs,rfl,.inl h1,fun _=>by rw [← r1.length];exact k _ H _ G (.refl H) (.int _) g q'⟩
        · exact q'.elim
      | _=>exact False.elim q
def a6B:List D→Gp→iD→Prop:=fun xs G R=>match xs with
  | [.int i]=>R (.int (if i < 0 then -i else i)) G
  | _=>False
theorem aKN:cM X (.builtin "abs") a6B:=cM.of aqJ fun H xs vs G R Q rx g q k=>by
  cases rx with
  | nil=>exact False.elim q
  | cons r rr =>
    cases rr with
    | cons _ _=>cases r <;> exact False.elim q
    | nil =>
      cases r with
      | int i=>exact ⟨i,rfl,fun _=>k _ H _ G (.refl H) (.int _) g q⟩
      | _=>exact False.elim q
def am0:List D→Gp→iD→Prop:=fun xs G R=>match xs with
  | [.int i]=>R (.int i) G
  | [.bl b]=>R (.int (if b then 1 else 0)) G
  | _=>False
theorem aKO:cM X (.type "int") am0:=cM.of ao4 fun H xs vs G R Q rx g q k=>by
  cases rx with
  | nil=>exact False.elim q
  | cons r rr =>
    cases rr with
    | cons _ _=>cases r <;> exact False.elim q
    | nil =>
      cases r with
      | int i=>exact .inl ⟨i,rfl,fun _=>k _ H _ G (.refl H) (.int _) g q⟩
      | bl b=>exact .inr ⟨b,rfl,fun _=>k _ H _ G (.refl H) (.int _) g q⟩
      | _=>exact False.elim q
def a4T:List D→Gp→iD→Prop:=fun xs G R=>match xs with
  | [.tup ds]=>∀ l,G l=none→R (.ref l) (aN G l (.lst ds))
  | [.ref q]=>(match aO G q with
    | some ds=>∀ l,G l=none→R (.ref l) (aN G l (.lst ds))
    | none=>False)
  | _=>False
theorem aEG:cM X (.type "list") a4T:=cM.of adX fun H xs vs G R Q rx g q k=>by
  cases rx with
  | nil=>exact False.elim q
  | cons r rr =>
    cases rr with
    | cons _ _=>cases r <;> exact False.elim q
    | nil =>
      cases r with
      | @tup a xs ds ha ra =>
        refine ⟨a,xs,rfl,.inr ha,fun l hl kf=>?_⟩
        have sn:Same H (upd H l (.lst xs)):=bB hl
        exact k _ _ _ _ (.same sn) (.ref l) (g.put (u := .lst ds) hl ⟨_,aK,ra.mono (.same sn)⟩) (q l (nC g hl kf))
      | ref a =>
        have q':(match aO G a with
          | some ds=>∀ l,G l=none→R (.ref l) (aN G l (.lst ds))
          | none=>False):=q
        split at q'
        · rename_i ds e1
          obtain ⟨xs,h1,r1⟩:=bY g e1
          refine ⟨a,xs,rfl,.inl h1,fun l hl kf=>?_⟩
          have sn:Same H (upd H l (.lst xs)):=bB hl
          exact k _ _ _ _ (.same sn) (.ref l) (g.put (u := .lst ds) hl ⟨_,aK,r1.mono (.same sn)⟩) (q' l (nC g hl kf))
        · exact q'.elim
      | _=>exact False.elim q
def tyD (G:Gp):D→Option String
  | .non=>some "NoneType"
  | .bl _=>some "bool"
  | .int _=>some "int"
  | .str _=>some "str"
  | .tup _=>some "tuple"
  | .ref q=>(match G q with
    | some (.lst _)=>some "list"
    | some (.rol _)=>some "list"
    | some (.lF _ _)=>some "dict"
    | _=>none)
  | .ty _=>none
def exD (G:Gp):D→Option Addr
  | .ref q=>(match G q with
    | some (.exn C)=>some C
    | _=>none)
  | _=>none
def subB (T n:String):Bool:=T == n || (T == "bool" && n == "int")
def aKP:List String:=["NoneType", "bool", "int", "str", "list", "tuple", "dict"]
def bR:List String:=["int", "bool", "str", "list", "tuple", "dict", "ValueError"]
theorem aEH:∀ T∈aKP,∀ n∈bR,PySem.W.kitOne [] (.type T) (.type n)=some (subB T n):=by decide +kernel
theorem o7 (K:Fg) {T n:String} (h1:T∈aKP) (h2:n∈bR):PySem.W.kitOne K (.type T) (.type n)=some (subB T n):=aEH T h1 n h2
structure ExC (K:Fg) (C:Addr):Prop where
  ga:PySem.W.findIn K (.ref C) "__getattribute__" = some (some (.builtin "BaseException.__getattribute__"))
  gn:PySem.W.findIn K (.ref C) "__getattr__" = some none
  cl:PySem.W.findIn K (.ref C) "__class__" = some (some (.builtin "object.__class__"))
  be:PySem.W.subIn K (.ref C) (.type "BaseException")=some true
  ob:PySem.W.mroIn K C (.type "object")=some true
  cs:(PySem.W.clsIn K C).isSome=true
theorem arC {K:Fg} {a C:Addr} (c:ExC K C):PySem.W.KitX K (.ref a) (.ref C) (agR C a) where
  ty:=fun M h X ⟨o,vs,h1,h2,_⟩=>h2 ▸ (PySem.W.Looks.ld h1).andThen .now
  it:=fun M h X _=>by
    intro A' Q' E' s' k q
    cases eK:PySem.W.clsIn K C with
    | none=>have:=c.cs;rw [eK] at this;cases this
    | some cd =>
      unfold PySem.W.clsIn at eK
      split at eK
      · rename_i ho
        unfold isType loadHead
        exact wpAny_bind (wpAny_loadPart (k _ _ (X _ _ ho)) (wpAny_pure q))
      · cases eK
  ne:=fun h tp dd its n sl X htp=>by
    refine Bool.eq_false_iff.mpr fun q=>?_
    have e:C=tp:=Value.ref.inj (beq_iff_eq.mp q)
    subst e
    cases eK:PySem.W.clsIn K C with
    | none=>have:=c.cs;rw [eK] at this;cases this
    | some cd =>
      unfold PySem.W.clsIn at eK
      split at eK
      · rename_i ho
        have z:=(X _ _ ho).symm.trans htp
        cases z
      · cases eK
  ca:=fun X ⟨o,vs,h1,h2,_⟩ k=>aoI X h1 h2 c.ga c.gn c.cl c.be c.ob k
def aD (K:Fg):List D→Gp→iD→Prop:=fun xs G R=>match xs with
  | [x,.ty n]=>(match tyD G x with
    | some T=>n∈bR∧R (.bl (subB T n)) G
    | none=>(match exD G x with
      | some C=>∃ b,ExC K C∧PySem.W.kitOne K (.ref C) (.type n)=some b∧R (.bl b) G
      | none=>False))
  | [x,.ref C']=>(match exD G x with
    | some C=>∃ b,ExC K C∧PySem.W.kitOne K (.ref C) (.ref C')=some b∧R (.bl b) G
    | none=>False)
  | _=>False
theorem arD {G:Gp} {x:D} {C:Addr} (h:exD G x=some C):∃ a,x = .ref a∧G a=some (.exn C):=by
  cases x with
  | ref q =>
    refine ⟨q,rfl,?_⟩
    have h':(match G q with
      | some (.exn C)=>some C
      | _=>none)=some C:=h
    split at h'
    · rename_i e1;cases h';exact e1
    · cases h'
  | _=>cases h
theorem ae3 {pins:List (Addr×Obj)} {s:Shared} {σ:St} {H:Hp} {a C:Addr} {c:Value} {b:Bool} {G:Gp} {R:iD} {Q:VK} (I:Inv X pins σ H s) (g:HR X.K H G) (e:G a=some (.exn C)) (hc:ExC X.K C) (hk:PySem.W.kitOne X.K (.ref C) c=some b) (q:R (.bl b) G)
    (k:∀ v H' d G',Ts H H'→RD X.K H' d v→HR X.K H' G'→R d G'→Q v H'):wpAny (model X.prog X.w) X.A (call (.builtin "isinstance") [.ref a,c]) (EP X pins σ Q) X.xe s:=by
  obtain ⟨o0,vs0,z,_⟩:=g a _ e
  obtain ⟨_,z1,_,_⟩:=I.hok a _ z
  exact PySem.W.kia_one (arC hc) I.kIn z1 hk (fun z=>nomatch z) fun tk=>⟨.bl b,H,I.tok tk,rfl,k _ H _ G (.refl H) (.bl b) g q⟩
theorem aEI {pins:List (Addr×Obj)} {s:Shared} {σ:St} {H:Hp} {x:D} {vx:V} {u:Value} {T n:String} {G:Gp} {R:iD} {Q:VK} (I:Inv X pins σ H s) (rx:RD X.K H x vx) (ru:RelV vx u) (g:HR X.K H G) (e:tyD G x=some T) (hn:n∈bR) (q:R (.bl (subB T n)) G)
    (k:∀ v H' d G',Ts H H'→RD X.K H' d v→HR X.K H' G'→R d G'→Q v H'):wpAny (model X.prog X.w) X.A (call (.builtin "isinstance") [u,.type n]) (EP X pins σ Q) X.xe s:=by
  have fin:∀ tk,EP X pins σ Q (.bool (subB T n)) { s with toks:=tk }:=fun tk=>⟨.bl _,H,I.tok tk,rfl,k _ H _ G (.refl H) (.bl _) g q⟩
  cases rx with
  | non=>cases ru;cases e;exact PySem.W.kia_one PySem.W.kitx_none I.kIn True.intro (o7 _ (by decide) hn) (fun z=>nomatch z) fin
  | bl b=>cases ru;cases e;exact PySem.W.kia_one PySem.W.kitx_bool I.kIn True.intro (o7 _ (by decide) hn) (fun z=>nomatch z) fin
  | int i=>obtain ⟨t,rfl⟩:=ru;cases e;exact PySem.W.kia_one PySem.W.kitx_int I.kIn True.intro (o7 _ (by decide) hn) (fun z=>nomatch z) fin
  | str i=>obtain ⟨t,rfl⟩:=ru;cases e;exact PySem.W.kia_one PySem.W.kitx_str I.kIn True.intro (o7 _ (by decide) hn) (fun z=>nomatch z) fin
  | ty n=>cases e
  | @tup a xs ds ha ra =>
    cases ru;cases e
    obtain ⟨its,_,p,_⟩:=I.tuple ha
    obtain ⟨o,h1,h2,_⟩:=p
    exact PySem.W.kia_one PySem.W.kitx_tuple I.kIn ⟨o,h1,h2⟩ (o7 _ (by decide) hn) (fun z=>nomatch z) fin
  | ref a =>
    cases ru
    have e':(match G a with
      | some (.lst _)=>some "list"
      | some (.rol _)=>some "list"
      | some (.lF _ _)=>some "dict"
      | _=>none)=some T:=e
    split at e'
    · rename_i ds e1
      cases e'
      obtain ⟨xs,h1,_⟩:=bY g (show aO G a=some ds by unfold aO;rw [e1])
      obtain ⟨its,_,p,_⟩:=I.list h1
      obtain ⟨o,n',h1,h2,_⟩:=p
      exact PySem.W.kia_one PySem.W.kitx_list I.kIn ⟨o,h1,h2⟩ (o7 _ (by decide) hn) (fun z=>nomatch z) fin
    · rename_i ds e1
      cases e'
      obtain ⟨xs,h1,_⟩:=bY g (show aO G a=some ds by unfold aO;rw [e1])
      obtain ⟨its,_,p,_⟩:=I.list h1
      obtain ⟨o,n',h1,h2,_⟩:=p
      exact PySem.W.kia_one PySem.W.kitx_list I.kIn ⟨o,h1,h2⟩ (o7 _ (by decide) hn) (fun z=>nomatch z) fin
    · rename_i kvs e1
      cases e'
      rcases g a _ e1 with ⟨_,xs,h1,_⟩ | ⟨_,xs,h1,_⟩
      · obtain ⟨_,_,vs,_,o,es,ep,h1,h2,_⟩:=I.hok a _ h1
        exact PySem.W.kia_one PySem.W.kitx_dict I.kIn ⟨o,h1,h2.1⟩ (o7 _ (by decide) hn) (fun z=>nomatch z) fin
      · obtain ⟨_,_,xs,_,o,es,ep,h1,h2,_⟩:=I.hok a _ h1
        exact PySem.W.kia_one PySem.W.kitx_dict I.kIn ⟨o,h1,h2.1⟩ (o7 _ (by decide) hn) (fun z=>nomatch z) fin
    · cases e'
theorem ae4:cM X (.builtin "isinstance") (aD X.K):=by
  intro pins s σ H xs vs us G R Q I rx rv g q k
  cases rx with
  | nil=>exact False.elim q
  | @cons x v ds ws r1 rr =>
    cases rr with
    | nil=>cases r1 <;> exact False.elim q
    | @cons y v2 tE ws2 r2 rr2 =>
      cases rr2 with
      | cons _ _=>cases r2 <;> exact False.elim q
      | nil =>
        obtain ⟨u1,u2,rfl,ru1,ru2⟩:=vals2 rv
        cases r2 with
        | ty n =>
          cases ru2
          have q':(match tyD G x with
            | some T=>n∈bR∧R (.bl (subB T n)) G
            | none=>(match exD G x with
              | some C=>∃ b,ExC X.K C∧PySem.W.kitOne X.K (.ref C) (.type n)=some b∧R (.bl b) G
              | none=>False)):=q
          split at q'
          · rename_i T eT
            exact aEI I r1 ru1 g eT q'.1 q'.2 k
          · split at q'
            · rename_i C eC
              obtain ⟨a,rfl,ea⟩:=arD eC
              obtain ⟨b,hc,hk,q'⟩:=q'
              cases r1;cases ru1
              exact ae3 I g ea hc hk q' k
            · exact q'.elim
        | ref C' =>
          cases ru2
          have q':(match exD G x with
            | some C=>∃ b,ExC X.K C∧PySem.W.kitOne X.K (.ref C) (.ref C')=some b∧R (.bl b) G
            | none=>False):=q
          split at q'
          · rename_i C eC
            obtain ⟨a,rfl,ea⟩:=arD eC
            obtain ⟨b,hc,hk,q'⟩:=q'
            cases r1;cases ru1
            exact ae3 I g ea hc hk q' k
          · exact q'.elim
        | _=>exact False.elim q
end
end L2
namespace L2
open PySem PySem.Spec PyProof.Rows
theorem a8Y {K:Fg} {H:Hp} {x:D} {vx:V} (hx:scD x=true) (rx:RD K H x vx):∀ {ys:List D} {vs:List V},cL K H ys vs→ys.all scD=true→vs.any (fun y=>eqV y vx)=ys.any (fun y=>eqP y x)
  | _,_,.nil,_=>rfl
  | _,_,.cons h r,hs=>by
    rw [List.all_cons,Bool.and_eq_true] at hs
    rw [List.any_cons,List.any_cons,a8Y hx rx r hs.2]
    congr 1
    obtain ⟨h1,_⟩:=hs
    cases rx <;> cases h <;> first | (simp [eqV,eqP];done) | cases hx | cases h1
theorem a2O {K:Fg} {H:Hp} {x:D} {vx:V} (hx:scD x=true) (rx:RD K H x vx):w5 vx=true:=by cases rx <;> first | rfl | cases hx
theorem xM {K:Fg} {H:Hp}:∀ {ys:List D} {vs:List V},cL K H ys vs→ys.all scD=true→vs.all w5=true
  | _,_,.nil,_=>rfl
  | _,_,.cons h r,hs=>by
    rw [List.all_cons,Bool.and_eq_true] at hs
    rw [List.all_cons,a2O hs.1 h,xM r hs.2];rfl
def inG (G:Gp) (x y:D) (k:Bool→Prop):Prop:=match x,y with
  | .str i,.str j=>k (!(Builtin.Str.occurrences j i 0 j.length 1).isEmpty)
  | x,.tup ys=>scD x=true∧ys.all scD=true∧k (ys.any fun y=>eqP y x)
  | x,.ref p=>(match aO G p with
    | some ys=>scD x=true∧ys.all scD=true∧k (ys.any fun y=>eqP y x)
    | none=>False)
  | _,_=>False
def aEK:R3:=fun x y G R=>inG G x y fun b=>R (.bl b) G
def ae5:R3:=fun x y G R=>inG G x y fun b=>R (.bl (!b)) G
section
variable {X:Cx}
theorem aPF (hu:X.A.units+64 < cLine):uP X (compareOp .In) aEK:=by
  refine ⟨_,ao1.or aoA,fun H x y vx vy G R Q rx ry g h k=>?_⟩
  have h':inG G x y fun b=>R (.bl b) G:=h
  unfold inG at h'
  split at h'
  · cases rx;cases ry
    exact .inl ⟨_,_,rfl,rfl,k _ H _ G (.refl H) (.bl _) g h'⟩
  · cases ry with
    | @tup a xs ds ha ra =>
      refine .inr ⟨a,xs,rfl,.inr ha,a2O h'.1 rx,xM ra h'.2.1,?_⟩
      have e:inV vx xs=_:=a8Y h'.1 rx ra h'.2.1
      simp only [Bool.false_eq_true,if_false]
      rw [e]
      exact k _ H _ G (.refl H) (.bl _) g h'.2.2
  · cases ry
    split at h'
    · rename_i ys e1
      obtain ⟨xs,hq,ra⟩:=bY g e1
      refine .inr ⟨_,xs,rfl,.inl hq,a2O h'.1 rx,xM ra h'.2.1,?_⟩
      have e:inV vx xs=_:=a8Y h'.1 rx ra h'.2.1
      simp only [Bool.false_eq_true,if_false]
      rw [e]
      exact k _ H _ G (.refl H) (.bl _) g h'.2.2
    · exact h'.elim
  · exact h'.elim
theorem ax8 (hu:X.A.units+64 < cLine):uP X (compareOp .NotIn) ae5:=by
  refine ⟨_,adQ.or adU,fun H x y vx vy G R Q rx ry g h k=>?_⟩
  have h':inG G x y fun b=>R (.bl (!b)) G:=h
  unfold inG at h'
  split at h'
  · cases rx;cases ry
    exact .inl ⟨_,_,rfl,rfl,k _ H _ G (.refl H) (.bl _) g h'⟩
  · cases ry with
    | @tup a xs ds ha ra =>
      refine .inr ⟨a,xs,rfl,.inr ha,a2O h'.1 rx,xM ra h'.2.1,?_⟩
      have e:inV vx xs=_:=a8Y h'.1 rx ra h'.2.1
      simp only [if_true]
      rw [e]
      exact k _ H _ G (.refl H) (.bl _) g h'.2.2
  · cases ry
    split at h'
    · rename_i ys e1
      obtain ⟨xs,hq,ra⟩:=bY g e1
      refine .inr ⟨_,xs,rfl,.inl hq,a2O h'.1 rx,xM ra h'.2.1,?_⟩
      have e:inV vx xs=_:=a8Y h'.1 rx ra h'.2.1
      simp only [if_true]
      rw [e]
      exact k _ H _ G (.refl H) (.bl _) g h'.2.2
    · exact h'.elim
  · exact h'.elim
def ax9 (x:D) (lo hi:Option Int) (G:Gp) (R:iD):Prop:=match x with
  | .tup xs=>¬ (HT.lE xs.length 0 lo=0∧HT.lE xs.length xs.length hi=xs.length)∧R (.tup (cutD xs lo hi)) G
  | .str z=>z.length≤sizeLine∧R (.str (Txt.slice z lo hi)) G
  | .ref p=>(match aO G p with
    | some xs=>∀ q,G q=none→R (.ref q) (aN G q (.lst (cutD xs lo hi)))
    | none=>False)
  | _=>False
theorem aEL:SlR X (fun x lo hi H Q=>∃ z,x = .str z∧z.length≤sizeLine∧Q (.str (Txt.slice z lo hi)) H):=by
  intro pins s σ H x v vl vu lo hi sl Q I rx hs pl pu h
  obtain ⟨z,rfl,hz,q⟩:=h
  obtain ⟨t,rfl⟩:=rx
  refine ⟨"str",_,F.slot_str_getitem.lookup,typeIs_str _ _ _,?_⟩
  have fin:∀ t' k,EP X pins σ Q (.str (Txt.slice z lo hi) t') { s with toks:=k }:=fun t' k=>⟨.str _,H,I.tok k,⟨t',rfl⟩,q⟩
  cases pl with
  | none =>
    cases pu with
    | none=>exact wpAny_getItem_str_slice (l:=none) (u:=none) (st:=none) hs rfl (post_val_or_str ⟨Nat.le_trans (Txt.slice_le z _ _) hz,fin⟩)
    | int j uj=>exact wpAny_getItem_str_slice (l:=none) (u:=some (j,uj)) (st:=none) hs rfl (post_val_or_str ⟨Nat.le_trans (Txt.slice_le z _ _) hz,fin⟩)
  | int i ui =>
    cases pu with
    | none=>exact wpAny_getItem_str_slice (l:=some (i,ui)) (u:=none) (st:=none) hs rfl (post_val_or_str ⟨Nat.le_trans (Txt.slice_le z _ _) hz,fin⟩)
    | int j uj=>exact wpAny_getItem_str_slice (l:=some (i,ui)) (u:=some (j,uj)) (st:=none) hs rfl (post_val_or_str ⟨Nat.le_trans (Txt.slice_le z _ _) hz,fin⟩)
theorem arE {K:Fg} {H:Hp} {ds:List D} {xs:List V} (r:cL K H ds xs) (lo hi:Option Int):cL K H (cutD ds lo hi) (abI xs lo hi):=by
  unfold cutD abI
  rw [r.length]
  exact (r.drop _).take _
def a86 (te:bU) (tl th:TO3):bU:=fun ρ G R=>te ρ G fun x G1=>tl ρ G1 fun lo G2=>th ρ G2 fun hi G3=>ax9 x lo hi G3 R
theorem axA {e:Expr} {te:bU} {lo hi:Option Expr} {tl th:TO3} {p2 pos:Pos} (he:cU X e te) (hl:PO3 X lo tl) (hu:PO3 X hi th):cU X (.Subscript e (.Slice lo hi none p2) pos) (a86 te tl th):=by
  refine PE.imp (PE.kf (aqU (awR.or (aDO.or aEL)) he hl hu)) fun σ H Q h=>?_
  obtain ⟨ρ,G,R,s,g,q,k⟩:=h
  refine ⟨ρ,G,_,s,g,q,fun vx H1 x G1 t1 rx g1 q1=>?_⟩
  refine ⟨ρ,G1,_,s.mono t1,g1,q1,fun l H2 G2 t2 g2 q2=>?_⟩
  refine ⟨ρ,G2,_,s.mono (t1.trans t2),g2,q2,fun u H3 G3 t3 g3 q3=>?_⟩
  have rx3:=rx.mono (t2.trans t3)
  have tt:=(t1.trans t2).trans t3
  cases rx3 with
  | @tup a xs ds ha ra =>
    refine .inr (.inl ⟨a,xs,rfl,ha,by rw [← ra.length];exact q3.1,fun p hp _=>?_⟩)
    have sn:Same H3 (upd H3 p (.tup (abI xs l u))):=bB hp
    exact k _ _ _ G3 (tt.trans (.same sn)) (.tup (vZ.of aK) ((arE ra l u).mono (.same sn)) (ajQ aK)) (g3.same sn) q3.2
  | str z=>exact .inr (.inr ⟨z,rfl,q3.1,fun _=>k _ H3 _ G3 tt (.str _) g3 q3.2⟩)
  | ref p =>
    have q3':(match aO G3 p with
      | some xs=>∀ q,G3 q=none→R (.ref q) (aN G3 q (.lst (cutD xs l u)))
      | none=>False):=q3
    split at q3'
    · rename_i ds e1
      obtain ⟨xs,hq,ra⟩:=bY g3 e1
      refine .inl ⟨p,xs,rfl,hq,fun b hb kf=>?_⟩
      have sn:Same H3 (upd H3 b (.lst (abI xs l u))):=bB hb
      exact k _ _ _ _ (tt.trans (.same sn)) (.ref b) (g3.put (u := .lst (cutD ds l u)) hb ⟨_,aK,(arE ra l u).mono (.same sn)⟩) (q3' b (nC g3 hb kf))
    · exact q3'.elim
  | _=>exact False.elim q3
def abO (T:String) (G:Gp):D→Prop
  | .str _=>T = "str"
  | .ref p=>T = "list" ∧ (aO G p).isSome=true
  | _=>False
theorem arF {K:Fg} {H:Hp} {G:Gp} {T:String} {x:D} {v:V} (g:HR K H G) (r:RD K H x v) (h:abO T G x):tyV K T v H:=by
  cases r with
  | str z=>exact h
  | ref p =>
    obtain ⟨rfl,h⟩:=h
    obtain ⟨ds,e⟩:=Option.isSome_iff_exists.mp h
    obtain ⟨xs,hq,_⟩:=bY g e
    exact .inl ⟨rfl,xs,hq⟩
  | _=>exact False.elim h
abbrev RM3:=D→List D→Gp→iD→Prop
def aoL (X:Cx) (id:String) (r3:RM3):Prop :=
  ∀ (pins:List (Addr×Obj)) (s:Shared) (σ:St) (H:Hp) (x:D) (xs:List D) (vx:V) (vs:List V) (u:Value) (us:List Value) (G:Gp) (R:iD) (Q:VK),Inv X pins σ H s→RD X.K H x vx→cL X.K H xs vs→RelV vx u→Vals vs us→HR X.K H G→r3 x xs G R →
    (∀ v H' d G',Ts H H'→RD X.K H' d v→HR X.K H' G'→R d G'→Q v H')→wpAny (model X.prog X.w) X.A (call (.builtin id) (u :: us)) (EP X pins σ Q) X.xe s
theorem aoL.of {id:String} {r:V→List V→Hp→VK→Prop} {r3:RM3} (h:MtR X id r) (i:∀ (H:Hp) (x:D) (xs:List D) (vx:V) (vs:List V) (G:Gp) (R:iD) (Q:VK),RD X.K H x vx→cL X.K H xs vs→HR X.K H G→r3 x xs G R →
    (∀ v H' d G',Ts H H'→RD X.K H' d v→HR X.K H' G'→R d G'→Q v H')→r vx vs H fun v H'=>KF X.K H'→Q v H'):aoL X id r3:=fun pins s σ H x xs vx vs u us G R Q I rx rs ru rv g q k =>
  dN (h pins s σ H vx vs u us _ I ru rv (i H x xs vx vs G R Q rx rs g q k)) fun _ _ ⟨v,H',I',r,q'⟩=>⟨v,H',I',r,q' (xF I')⟩
def tM3 (T:String) (r:RM3) (to:bU) (t:nT):bU:=fun ρ G R=>to ρ G fun x G1=>abO T G1 x∧t ρ G1 fun xs G2=>r x xs G2 R
def axB (T:String) (r:RM3) (to:bU):bU:=fun ρ G R=>to ρ G fun x G1=>abO T G1 x∧r x [] G1 R
theorem aPG {o e:Expr} {es:List Expr} {to:bU} {t:nT} {name:Str} {apos cpos:Pos} {T id:String} {r3:RM3} (pa:PlainAttrs T) (slot:Slot T name id) (hty:typeOf (.builtin id)=pure (.type "method_descriptor")) (hm:aoL X id r3) (ho:cU X o to) (ha:PA3 X (e :: es) t)
    (hbase:attributeBase o name X.env (eval o X.env)=eval o X.env:=by rfl)
    (hfew:((backTo cpos (starEach (e :: es) X.env)).all (fun x=>!x.1)&&(backToKw cpos (keywordEach [] X.env)).all (fun x=>x.1.isSome)
      && decide ((e :: es).length+([]:List Keyword).length+(if ([]:List Keyword).isEmpty then 0 else 1) < 30))=true:=by rfl)
    (hline:(apos.endLine == cpos.line)=true:=by rfl) (hs:starEach (e :: es) X.env=(false,eval e X.env) :: starEach es X.env:=by rfl) (hplain:(backTo cpos (starEach es X.env)).any (·.1)=false:=by rfl) :
    cU X (.Call (.Attribute o name apos) (e :: es) [] cpos) (tM3 T r3 to t):=by
  intro pins s σ H Q I h
  obtain ⟨ρ,G,R,sr,g,q,kk⟩:=h
  refine wpAny_Call_method_late hbase hfew hline rfl (dN (ho pins s σ H (fun vx H1=>Ts H H1∧∃ x G1,RD X.K H1 x vx∧HR X.K H1 G1∧abO T G1 x∧t ρ G1 fun xs G2=>r3 x xs G2 R) I ⟨ρ,G,_,sr,g,q,fun v H1 x G1 t1 r1 g1 q1=>⟨t1,x,G1,r1,g1,q1⟩⟩) fun v s1 ⟨vx,H1,I1,r1,t1,x,G1,rx,g1,ty,q1⟩=>?_)
  obtain ⟨h1,h2⟩:=aqW I1 r1 (arF g1 rx ty)
  refine ⟨T,id,pa,slot,hty,h1,h2,?_⟩
  have hA:=ha cpos pins s1 σ H1 (fun vs H2=>Ts H1 H2∧∃ xs G2,cL X.K H2 xs vs∧HR X.K H2 G2∧r3 x xs G2 R) I1 ⟨ρ,G1,_,sr.mono t1,g1,q1,fun vs H2 xs G2 t2 r2 g2 q2=>⟨t2,xs,G2,r2,g2,q2⟩⟩
  rw [hs] at hA ⊢
  refine Calls.callWith_builtin (by show (false || (backTo cpos (starEach es X.env)).any (·.1))=false;rw [hplain] <;> rfl) (Calls.evalArgs_plain ?_)
  exact dN hA fun us s2 ⟨vs,H2,I2,r2,t2,xs,G2,rs,g2,q2⟩=>hm pins s2 σ H2 x xs vx vs v us G2 R Q I2 (rx.mono t2) rs r1 r2 g2 q2 fun v H' d G' t3=>kk v H' d G' ((t1.trans t2).trans t3)
theorem aKQ {o:Expr} {to:bU} {name:Str} {apos cpos:Pos} {T id:String} {r3:RM3} (pa:PlainAttrs T) (slot:Slot T name id) (hty:typeOf (.builtin id)=pure (.type "method_descriptor")) (hm:aoL X id r3) (ho:cU X o to)
    (hbase:attributeBase o name X.env (eval o X.env)=eval o X.env:=by rfl) (hline:(apos.endLine == cpos.line)=true:=by rfl):cU X (.Call (.Attribute o name apos) [] [] cpos) (axB T r3 to):=by
  intro pins s σ H Q I h
  obtain ⟨ρ,G,R,sr,g,q,kk⟩:=h
  refine wpAny_Call_method0_late hbase hline (dN (ho pins s σ H (fun vx H1=>Ts H H1∧∃ x G1,RD X.K H1 x vx∧HR X.K H1 G1∧abO T G1 x∧r3 x [] G1 R) I ⟨ρ,G,_,sr,g,q,fun v H1 x G1 t1 r1 g1 q1=>⟨t1,x,G1,r1,g1,q1⟩⟩) fun v s1 ⟨vx,H1,I1,r1,t1,x,G1,rx,g1,ty,q1⟩=>?_)
  obtain ⟨h1,h2⟩:=aqW I1 r1 (arF g1 rx ty)
  exact ⟨T,id,pa,slot,hty,h1,h2,Calls.callWith_builtin rfl (PySem.evalArgs_none (hm pins s1 σ H1 x [] vx [] v [] G1 R Q I1 rx .nil r1 .nil g1 q1 fun v H' d G' t3=>kk v H' d G' (t1.trans t3)))⟩
def oZ:RM3:=fun x xs G R=>match x,xs with
  | .ref p,[d]=>(match G p with
    | some (.lst ds)=>ds.length < sizeLine∧R .non (aN G p (.lst (ds++[d])))
    | _=>False)
  | _,_=>False
theorem agY:aoL X "list.append" oZ:=aoL.of acI fun H x xs vx vs G R Q rx rs g q k=>by
  cases rx with
  | ref p =>
    cases rs with
    | nil=>exact False.elim q
    | @cons d v ds ws r rr =>
      cases rr with
      | cons _ _=>exact False.elim q
      | nil =>
        have q':(match G p with
          | some (.lst ds)=>ds.length < sizeLine∧R .non (aN G p (.lst (ds++[d])))
          | _=>False):=q
        split at q'
        · rename_i ds e1
          obtain ⟨ys,f1,r1⟩:=g p _ e1
          refine ⟨p,ys,v,rfl,rfl,f1,by rw [← r1.length];exact q'.1,fun _=>?_⟩
          have tt:Ts H (upd H p (.lst (ys++[v]))) := .turn f1 (fun _ z=>nomatch z) (fun _ _ z=>nomatch z)
          exact k _ _ _ _ tt .non (g.turn (u := .lst (ds++[d])) tt ⟨_,aK,(r1.append (.cons r .nil)).mono tt⟩) q'.2
        · exact q'.elim
  | _=>cases rs <;> exact False.elim q
def ae6:bU:=fun _ G R=>∀ p,G p=none→R (.ref p) (aN G p (.lF false []))
theorem aEO {pos:Pos}:cU X (.Dict [] [] pos) ae6:=PE.imp (PE.kf aqO) fun σ H Q h=>by
  obtain ⟨ρ,G,R,s,g,q,k⟩:=h
  intro p hp kf
  have sn:Same H (upd H p (.dK [])):=bB hp
  exact k _ _ _ _ (.same sn) (.ref p) (g.put (u := .lF false []) hp (.inl ⟨rfl,[],aK,.nil⟩)) (q p (nC g hp kf))
def axC:bU:=fun _ G R=>∀ p,G p=none→R (.ref p) (aN G p (.lF true []))
end
end L2
namespace L2
open PySem
theorem mD:bootBuiltins "isinstance" = some (.builtin "isinstance"):=by decide +kernel
theorem a4U:bootBuiltins "len" = some (.builtin "len"):=by decide +kernel
theorem ajV:bootBuiltins "abs" = some (.builtin "abs"):=by decide +kernel
theorem ae7:bootBuiltins "min" = some (.builtin "min"):=by decide +kernel
theorem ajW:bootBuiltins "max" = some (.builtin "max"):=by decide +kernel
theorem aEP:bootBuiltins "sum" = some (.builtin "sum"):=by decide +kernel
theorem arG:bootBuiltins "int" = some (.type "int"):=by decide +kernel
theorem am1:bootBuiltins "bool" = some (.type "bool"):=by decide +kernel
theorem agZ:bootBuiltins "tuple" = some (.type "tuple"):=by decide +kernel
theorem axD:bootBuiltins "list" = some (.type "list"):=by decide +kernel
end L2
namespace L2
open PySem PySem.Spec PyProof.Rows
def Its (x:Str):It:=⟨fun i _=>i < x.cps.size,fun i H v H'=>H'=H∧∃ c,x.cps[i]?=some c∧v = .str ⟨#[c]⟩,fun i _=>x.cps.size≤i⟩
theorem acN {cm:Bool} {tl:List (Addr×List V)} {P:Program} {w:World} {K:PySem.W.Frag} {tg:Expr} (it:Addr) (x:Str) (t:Tok):Turn cm tl P w K tg (Its x) [it] it (fun i h=>h.IsStrIter it "str_ascii_iterator" x t (min i x.cps.size)) where
  mem:=by simp
  obj:=fun i h st b hb=>by
    have e:b=it:=by simpa using hb
    subst e
    obtain ⟨o,e,c,d⟩:=st
    exact ⟨o,e,fun v z=>by rw [d] at z;cases z⟩
  keep:=fun i h h' st k=>let ⟨o,e,r⟩:=st;⟨o,k it (by simp) o e,r⟩
  item:=by
    intro X hP hw hK hcm ht i pins s σ H E I hf st hg
    subst hP hw hK
    obtain ⟨f0,f1,f2,f3,f4,f5⟩:=hf it (by simp)
    have hi:i < x.cps.size:=hg
    rw [Nat.min_eq_left (Nat.le_of_lt hi)] at st
    refine wpAny_pyNext_ascii_item st (c:=x.cps[i]) (by simp [hi]) fun h' st' kk=>?_
    have I1:Inv X pins σ H { s with heap:=h',toks:=s.toks+1 }:=I.turned (fun b o hb e=>(kk.2 b hb).trans e) f0 f1 f3 f4 f5
    obtain ⟨o,e1,c1,d1⟩:=id st'
    refine ⟨_,rfl,agH (s:={ s with heap:=h',toks:=s.toks+1 }) e1 c1 d1 (by decide) ⟨.str ⟨#[x.cps[i]]⟩,H,I1,⟨_,rfl⟩,⟨rfl,x.cps[i],by simp [hi],rfl⟩,?_,fun b hb=>(hf b hb).1⟩⟩
    rw [Nat.min_eq_left hi]
    exact st'
  done:=by
    intro X hP hw hK hcm ht i pins s σ H E I hf st hg
    subst hP hw hK
    obtain ⟨f0,f1,f2,f3,f4,f5⟩:=hf it (by simp)
    have hi:x.cps.size≤i:=hg
    rw [Nat.min_eq_right hi] at st
    exact anU (I.hnd.heap I.hok) st (by simp) fun h' eb=>⟨rfl,I.turned (t':=s.toks) (fun b o hb e=>eb b o hb e) f0 f1 f3 f4 f5⟩
  self:=fun _ _ _ _ _ st h=>wpAny_pyIter_striter_ascii st h
theorem acO {cm:Bool} {tl:List (Addr×List V)} {P:Program} {w:World} {K:PySem.W.Frag} {tg:Expr} (it:Addr) (x:Str) (t:Tok):Turn cm tl P w K tg (Its x) [it] it (fun i h=>h.IsStrIter it "str_iterator" x t (min i x.cps.size)) where
  mem:=by simp
  obj:=fun i h st b hb=>by
    have e:b=it:=by simpa using hb
    subst e
    obtain ⟨o,e,c,d⟩:=st
    exact ⟨o,e,fun v z=>by rw [d] at z;cases z⟩
  keep:=fun i h h' st k=>let ⟨o,e,r⟩:=st;⟨o,k it (by simp) o e,r⟩
  item:=by
    intro X hP hw hK hcm ht i pins s σ H E I hf st hg
    subst hP hw hK
    obtain ⟨f0,f1,f2,f3,f4,f5⟩:=hf it (by simp)
    have hi:i < x.cps.size:=hg
    rw [Nat.min_eq_left (Nat.le_of_lt hi)] at st
    refine wpAny_pyNext_wide_item st (c:=x.cps[i]) (by simp [hi]) fun h' st' kk=>?_
    have I1:Inv X pins σ H { s with heap:=h',toks:=s.toks+1 }:=I.turned (fun b o hb e=>(kk.2 b hb).trans e) f0 f1 f3 f4 f5
    obtain ⟨o,e1,c1,d1⟩:=id st'
    refine ⟨_,rfl,agH (s:={ s with heap:=h',toks:=s.toks+1 }) e1 c1 d1 (by decide) ⟨.str ⟨#[x.cps[i]]⟩,H,I1,⟨_,rfl⟩,⟨rfl,x.cps[i],by simp [hi],rfl⟩,?_,fun b hb=>(hf b hb).1⟩⟩
    rw [Nat.min_eq_left hi]
    exact st'
  done:=by
    intro X hP hw hK hcm ht i pins s σ H E I hf st hg
    subst hP hw hK
    obtain ⟨f0,f1,f2,f3,f4,f5⟩:=hf it (by simp)
    have hi:x.cps.size≤i:=hg
    rw [Nat.min_eq_right hi] at st
    exact anV (I.hnd.heap I.hok) st (by simp) fun h' eb=>⟨rfl,I.turned (t':=s.toks) (fun b o hb e=>eb b o hb e) f0 f1 f3 f4 f5⟩
  self:=fun _ _ _ _ _ st h=>wpAny_pyIter_striter_wide st h
inductive Src where
  | lst (p:Addr) (xs:List D) | imm (xs:List D) | zip (p q:Addr) (xs ys:List D) | itm (p:Addr) (o:Obj) (kvs:List (DK×D)) | key (p:Addr) (o:Obj) (t:Bool) (kvs:List (DK×D)) | tpl (p:Addr) (xs:List D) | enu (p:Addr) (xs:List D)
def enm (xs:List D):List D:=xs.zipIdx.map fun z => .tup [.int z.2,z.1]
def prs (xs ys:List D):List D:=(xs.zip ys).map fun z => .tup [z.1,z.2]
def Src.items:Src→List D
  | .lst _ xs=>xs
  | .imm xs=>xs
  | .zip _ _ xs ys=>prs xs ys
  | .itm _ _ kvs=>kvs.map fun z => .tup [dkD z.1,z.2]
  | .key _ _ _ kvs=>kvs.map fun z=>dkD z.1
  | .tpl _ xs=>xs
  | .enu _ xs=>enm xs
def Src.ok (G:Gp):Src→Prop
  | .lst p xs=>aO G p=some xs
  | .imm _=>True
  | .zip p q xs ys=>aO G p=some xs∧aO G q=some ys
  | .itm p o kvs=>G p=some (.rdc o false kvs)
  | .key p o t kvs=>G p=some (.rdc o t kvs)
  | .tpl p xs=>G p=some (.tpl xs)
  | .enu p xs=>G p=some (.tpl xs)
def a7F (K:Fg) (H1:Hp) (src:Src) (J:It):Prop:=∀ H2 G2,Ts H1 H2→HR K H2 G2→src.ok G2 →
  (∀ i,i < src.items.length→J.go i H2)∧(∀ i v H',i < src.items.length→J.yld i H2 v H'→Same H2 H'∧∃ d,src.items[i]?=some d∧RD K H' d v)∧J.stop src.items.length H2
abbrev TI3:=aM→Gp→(Src→Gp→Prop)→Prop
def upI (K:Fg) (t:TI3):TI:=fun σ H Q=>∃ ρ G R,SR K H ρ σ∧HR K H G∧t ρ G R∧∀ src J H' G',Ts H H'→HR K H' G'→a7F K H' src J→R src G'→Q J H'
abbrev PI3 (X:Cx) (tg iter:Expr) (t:TI3):Prop:=PI X tg iter (upI X.K t)
def signs (z:Str):List D:=z.cps.toList.map fun c => .str ⟨#[c]⟩
def a4V (te:bU):TI3:=fun ρ G R=>te ρ G fun x G1=>match x with
  | .ref p=>(match aO G1 p with
    | some xs=>R (.lst p xs) G1
    | none=>False)
  | .tup xs=>R (.imm xs) G1
  | .str z=>R (.imm (signs z)) G1
  | _=>False
theorem acP {K:Fg} {H1:Hp} {p:Addr} {xs:List D}:a7F K H1 (.lst p xs) (Itl K p):=fun H2 G2 t g ok=>by
  obtain ⟨vs,hq,rv⟩:=bY g (show aO G2 p=some xs from ok)
  refine ⟨fun i hi=>?_,fun i v H' hi hy=>?_,⟨vs,hq,Nat.le_of_eq rv.length.symm⟩⟩
  · have hi':i < xs.length:=hi
    obtain ⟨y,e1,_⟩:=rv.get (List.getElem?_eq_getElem hi')
    exact ⟨vs,y,hq,e1⟩
  · obtain ⟨rfl,hy⟩:=hy
    obtain ⟨d,e1,e2⟩:=rv.ajR (hy vs hq)
    exact ⟨.refl _,d,e1,e2⟩
theorem ah0 {K:Fg} {H1:Hp} {a:Addr} {vs:List V} {xs:List D} (hq:vZ K H1 a vs) (rv:cL K H1 xs vs):a7F K H1 (.imm xs) (Itt K a):=fun H2 G2 t g ok=>by
  have hq2:=t.sqT hq
  have rv2:=rv.mono t
  refine ⟨fun i hi=>?_,fun i v H' hi hy=>?_,⟨vs,hq2,Nat.le_of_eq rv.length.symm⟩⟩
  · have hi':i < xs.length:=hi
    obtain ⟨y,e1,_⟩:=rv2.get (List.getElem?_eq_getElem hi')
    exact ⟨vs,y,hq2,e1⟩
  · obtain ⟨rfl,hy⟩:=hy
    obtain ⟨d,e1,e2⟩:=rv2.ajR (hy vs hq2)
    exact ⟨.refl _,d,e1,e2⟩
theorem a8Z {K:Fg} {H1:Hp} {z:Str}:a7F K H1 (.imm (signs z)) (Its z):=fun H2 G2 t g ok=>by
  have hl:(signs z).length=z.cps.size:=by simp [signs]
  refine ⟨fun i hi=>?_,fun i v H' hi hy=>?_,?_⟩
  · have:i < (signs z).length:=hi
    rw [hl] at this
    exact this
  · obtain ⟨rfl,c,hc,rfl⟩:=hy
    exact ⟨.refl _,.str ⟨#[c]⟩,by simp [Src.items,signs,hc],.str _⟩
  · show z.cps.size≤(signs z).length
    rw [hl];exact Nat.le_refl _
theorem ah1 {K:Fg} {H1:Hp} {lo:Int} {n:Nat}:a7F K H1 (.imm ((List.range n).map fun (i:Nat) => .int (lo+(i:Int)))) (Itr lo n):=fun H2 G2 t g ok=>by
  refine ⟨fun i hi=>?_,fun i v H' hi hy=>?_,?_⟩
  · have hi':i < n:=by simpa [Src.items] using hi
    exact hi'
  · obtain ⟨rfl,rfl⟩:=hy
    have hi':i < n:=by simpa [Src.items] using hi
    exact ⟨.refl _,.int (lo+i),by simp [Src.items,hi'],.int _⟩
  · show n≤_
    simp [Src.items]
section
variable {X:Cx} {tg:Expr}
theorem PI.imp {e:Expr} {t t':TI} (h:PI X tg e t) (k:∀ σ H Q,t' σ H Q→t σ H Q):PI X tg e t':=fun pins s σ H Q I q=>h pins s σ H Q I (k _ _ _ q)
theorem aKR {l:Expr} {te:bU} (hl:cU X l te):PI3 X tg l (a4V te):=by
  intro pins s σ H R I h
  obtain ⟨ρ,G,R3,sr,g,q,k⟩:=h
  refine dN (hl pins s σ H (fun v H1=>Ts H H1∧∃ x G1,RD X.K H1 x v∧HR X.K H1 G1∧(match x with
    | .ref p=>(match aO G1 p with
      | some xs=>R3 (.lst p xs) G1
      | none=>False)
    | .tup xs=>R3 (.imm xs) G1
    | .str z=>R3 (.imm (signs z)) G1
    | _=>False)) I ⟨ρ,G,_,sr,g,q,fun v H1 x G1 t1 r g1 q1=>⟨t1,x,G1,r,g1,q1⟩⟩) fun v s1 ⟨x,H1,I1,r1,t1,d,G1,rd,g1,q1⟩=>?_
  cases rd with
  | ref a =>
    have q1':(match aO G1 a with
      | some xs=>R3 (.lst a xs) G1
      | none=>False):=q1
    split at q1'
    · rename_i xs e
      cases r1
      obtain ⟨vs,hq,rv⟩:=bY g1 e
      obtain ⟨its,rv',p,hz⟩:=I1.list hq
      refine wpAny_pyIter_list p.isList ?_
      refine ⟨s1.heap.objs.size,[s1.heap.objs.size],_,_,H1,rfl,I1.kept (t':=s1.toks) fun b o e=>Heap.get?_push_of_some _ e,acA a _,⟨_,Heap.get?_push_size _ rfl,rfl,rfl⟩,fun b hb=>?_,k _ _ H1 G1 t1 g1 acP q1'⟩
      have e:b=s1.heap.objs.size:=by simpa using hb
      subst e
      exact I1.a4J (Nat.le_refl _) (I1.hok.fresh (Nat.le_refl _))
    · exact q1'.elim
  | @tup a vs xs hq rv =>
    cases r1
    obtain ⟨its,rv',p,hz⟩:=I1.tuple hq
    refine wpAny_pyIter_tuple (show s1.heap.IsTuple a its.toArray from p) ?_
    refine ⟨s1.heap.objs.size,[s1.heap.objs.size],_,_,H1,rfl,I1.kept (t':=s1.toks) fun b o e=>Heap.get?_push_of_some _ e,a8J a _,⟨_,Heap.get?_push_size _ rfl,rfl,rfl⟩,fun b hb=>?_,k _ _ H1 G1 t1 g1 (ah0 hq rv) q1⟩
    have e:b=s1.heap.objs.size:=by simpa using hb
    subst e
    exact I1.a4J (Nat.le_refl _) (I1.hok.fresh (Nat.le_refl _))
  | str z =>
    obtain ⟨t,rfl⟩:=r1
    cases ha:z.cps.all (· < 128)
    · refine wpAny_pyIter_wide ha ?_
      refine ⟨s1.heap.objs.size,[s1.heap.objs.size],_,_,H1,rfl,I1.kept (t':=s1.toks) fun b o e=>Heap.get?_push_of_some _ e,acO _ z t,?_,fun b hb=>?_,k _ _ H1 G1 t1 g1 a8Z q1⟩
      · rw [Nat.zero_min];exact ⟨_,Heap.get?_push_size _ rfl,rfl,rfl⟩
      · have e:b=s1.heap.objs.size:=by simpa using hb
        subst e
        exact I1.a4J (Nat.le_refl _) (I1.hok.fresh (Nat.le_refl _))
    · refine wpAny_pyIter_ascii ha ?_
      refine ⟨s1.heap.objs.size,[s1.heap.objs.size],_,_,H1,rfl,I1.kept (t':=s1.toks) fun b o e=>Heap.get?_push_of_some _ e,acN _ z t,?_,fun b hb=>?_,k _ _ H1 G1 t1 g1 a8Z q1⟩
      · rw [Nat.zero_min];exact ⟨_,Heap.get?_push_size _ rfl,rfl,rfl⟩
      · have e:b=s1.heap.objs.size:=by simpa using hb
        subst e
        exact I1.a4J (Nat.le_refl _) (I1.hok.fresh (Nat.le_refl _))
  | _=>exact q1.elim
def xO (lo hi:Int):List D:=(List.range (hi - lo).toNat).map fun (i:Nat) => .int (lo+(i:Int))
def uU (ta:nT):TI3:=fun ρ G R=>ta ρ G fun xs G1=>match xs with
  | [.int j]=>-(2 ^ 62)≤j∧j < 2 ^ 62∧R (.imm (xO 0 j)) G1
  | _=>False
def aET (ta:nT):TI3:=fun ρ G R=>ta ρ G fun xs G1=>match xs with
  | [.int i,.int j]=>(-(2 ^ 62)≤i∧i < 2 ^ 62∧-(2 ^ 62)≤j∧j < 2 ^ 62)∧R (.imm (xO i j)) G1
  | _=>False
theorem aEU {a:Expr} {ta:nT} {p pos:Pos} (hg:Gl X "range") (hm:X.mg "range" = none) (ha:PA3 X [a] ta) (hs:starEach [a] X.env=[(false,eval a X.env)]):PI3 X tg (.Call (.Name "range" p) [a] [] pos) (uU ta) :=
  PI.imp (acB hg hm ha hs) fun σ H Q h=>by
  obtain ⟨ρ,G,R,s,g,q,k⟩:=h
  refine ⟨ρ,G,_,s,g,q,fun vs H1 ds G1 t1 r g1 h1=>?_⟩
  cases r with
  | nil=>exact h1.elim
  | cons r rr =>
    cases rr with
    | cons _ _=>cases r <;> exact False.elim h1
    | nil =>
      cases r with
      | int j =>
        obtain ⟨l1,l2,h1⟩:=h1
        refine ⟨j,rfl,l1,l2,k _ _ H1 G1 t1 g1 ?_ h1⟩
        unfold xO
        rw [show (j - 0).toNat=j.toNat by omega]
        exact ah1
      | _=>exact False.elim h1
end
end L2
namespace L2
open PySem PySem.Spec PyProof.Rows
def p7 (cells:List (Str×Addr)):List (Str×NameKind)→List (Str×Addr)→List (Str×Addr)
  | [],cs=>cs
  | (n,k) :: r,cs=>p7 cells r (if k = .free then (match cells.lookup n with
    | some a=>(n,a) :: cs
    | none=>cs) else cs)
theorem tG {scope:Scope} {env:Env} (h:∀ y∈scope.names,y.2 = .free→∃ c,env.cells.lookup y.1=some c):closureFor scope env=pure (p7 env.cells scope.names []):=by
  unfold closureFor
  have all:∀ (l:List (Str×NameKind)) (cs:List (Str×Addr)),(∀ y∈l,y.2 = .free→∃ c,env.cells.lookup y.1=some c) →
      (forIn l cs fun (x:Str×NameKind) (r:List (Str×Addr))=>(if (x.2 == NameKind.free)=true then do
        let a ← cellOf env x.1
        pure (ForInStep.yield ((x.1,a) :: r)) else pure (ForInStep.yield r):Sem (ForInStep (List (Str×Addr)))))=(pure (p7 env.cells l cs):Sem (List (Str×Addr))):=by
    intro l
    induction l with
    | nil=>intro cs _;rfl
    | cons y r ih =>
      intro cs hl
      obtain ⟨n,k⟩:=y
      rw [List.forIn_cons]
      by_cases hk:k = .free
      · subst hk
        obtain ⟨c,hc⟩:=hl (n,.free) (by simp) rfl
        have e:cellOf env n=pure c:=by unfold cellOf;rw [hc]
        simp only [beq_self_eq_true,if_true,e]
        show (forIn r ((n,c) :: cs) _:Sem _)=_
        rw [ih _ fun y hy=>hl y (by simp [hy])]
        simp only [p7,if_true,hc]
      · have hk':(k == NameKind.free)=false:=by simpa using hk
        simp only [hk',Bool.false_eq_true,if_false]
        show (forIn r cs _:Sem _)=_
        rw [ih _ fun y hy=>hl y (by simp [hy])]
        simp only [p7,if_neg hk]
  have z:=all scope.names [] h
  exact congrArg (fun m=>m >>= fun cs=>pure cs) z
theorem jD {cells:List (Str×Addr)}:∀ {l:List (Str×NameKind)} {cs:List (Str×Addr)} {y:Str} {c:Addr},(p7 cells l cs).lookup y=some c→(∀ c,cs.lookup y=some c→cells.lookup y=some c)→cells.lookup y=some c
  | [],cs,y,c,h,k=>k c h
  | (n,kd) :: r,cs,y,c,h,k=>by
    unfold p7 at h
    refine jD h fun c' h'=>?_
    by_cases hk:kd = .free
    · rw [if_pos hk] at h'
      split at h'
      · rename_i a ha
        rw [List.lookup_cons] at h'
        split at h'
        · rename_i e
          have e':y=n:=beq_iff_eq.mp e
          subst e'
          rw [ha];exact h'
        · exact k c' h'
      · exact k c' h'
    · rw [if_neg hk] at h'
      exact k c' h'
theorem a90 {cells:List (Str×Addr)}:∀ {l:List (Str×NameKind)} {cs:List (Str×Addr)} {y:Str},(∃ c,cs.lookup y=some c)→∃ c,(p7 cells l cs).lookup y=some c
  | [],cs,y,h=>h
  | (n,kd) :: r,cs,y,h=>by
    unfold p7
    refine a90 ?_
    by_cases hk:kd = .free
    · rw [if_pos hk]
      split
      · rw [List.lookup_cons]
        split
        · exact ⟨_,rfl⟩
        · exact h
      · exact h
    · rw [if_neg hk];exact h
theorem a4W {cells:List (Str×Addr)} {y:Str} {c:Addr} (hc:cells.lookup y=some c):∀ {l:List (Str×NameKind)} {cs:List (Str×Addr)},(y,NameKind.free)∈l→∃ c,(p7 cells l cs).lookup y=some c
  | [],cs,h=>by simp at h
  | (n,kd) :: r,cs,h=>by
    unfold p7
    rcases List.mem_cons.mp h with e | h
    · cases e
      refine a90 ?_
      rw [if_pos rfl,hc]
      simp
    · exact a4W hc h
theorem mem_of_lookup {α:Type}:∀ {l:List (Str×α)} {y:Str} {k:α},l.lookup y=some k→(y,k)∈l
  | [],_,_,h=>by simp at h
  | (n,kd) :: r,y,k,h=>by
    rw [List.lookup_cons] at h
    split at h
    · rename_i e
      have e':y=n:=beq_iff_eq.mp e
      cases h;subst e';simp
    · exact List.mem_cons_of_mem _ (mem_of_lookup h)
structure uV (X:Cx) (xs:List Str) (scope:Scope):Prop where
  kind:scope.kind = .function
  ajX:∀ y∈scope.names,y.2 ≠ .cell
  locs:∀ y∈scope.names,y.2 = .local→scope.names.lookup y.1=some .local
  var:∀ x∈xs,scope.names.lookup x=some .local
  frees:∀ y∈scope.names,y.2 = .free→X.env.kindOf y.1=some .cell∨X.env.kindOf y.1=some .free
  out:∀ x∈xs,x ∉ X.N
  nd:xs.Nodup
  only:∀ y∈X.N,scope.names.lookup y≠some .local
abbrev jJ (X:Cx) (xs:List Str) (scope:Scope) (C:Addr) (s₃:Shared) (H₃:Hp) (fp:List Addr) (pins:List (Addr×Obj)):Cx :=
  { X with N:=xs++X.N,s₀:=s₃,H₀:=H₃,env:=compEnvC scope (p7 X.env.cells scope.names []) C X.env,outer:=X.stack,stack:=X.stack,ex:=fp,fn:=fun _=>false,pn:=X.pn++pins,xe:=fun _ _=>False }
def nn (xs:List Str) (σ:St):St:=xs.map (fun _=>none)++σ
theorem arH {xs:List Str} {σ:St} {i:Nat} {v:V} (h:(nn xs σ)[i]?=some (some v)):∃ j,i=xs.length+j∧σ[j]?=some (some v):=by
  unfold nn at h
  by_cases c:i < xs.length
  · rw [List.getElem?_append_left (by simpa using c)] at h
    simp at h
  · rw [List.getElem?_append_right (by simpa using c)] at h
    exact ⟨i - xs.length,by omega,by simpa using h⟩
theorem am2 {α:Type} {xs ys:List α} {j:Nat}:(xs++ys)[xs.length+j]?=ys[j]?:=by
  rw [List.getElem?_append_right (by omega)]
  congr 1
  omega
theorem eN {env:Env} {y:Str} {k:NameKind}:∀ {names:List (Str×NameKind)},(names.map fun (n,k)=>if (k == .free&&env.scope.kind == .function&&env.kindOf n == some .cell) then (n,.cell) else (n,k)).lookup y=some k →
    ∃ k',names.lookup y=some k'∧(k=k'∨(k = .cell∧k' = .free))
  | [],h=>by simp at h
  | (n,kd) :: r,h=>by
    rw [List.map_cons] at h
    by_cases hc:(kd == .free&&env.scope.kind == .function&&env.kindOf n == some .cell)=true
    · have h':List.lookup y ((n,NameKind.cell) :: (r.map fun (n,k)=>if (k == .free&&env.scope.kind == .function&&env.kindOf n == some .cell) then (n,.cell) else (n,k)))=some k:=by
        simp only [hc,if_true] at h;exact h
      rw [List.lookup_cons] at h' ⊢
      cases hx:y == n with
      | true =>
        rw [hx] at h'
        cases h'
        refine ⟨kd,rfl,.inr ⟨rfl,?_⟩⟩
        simp only [Bool.and_eq_true,beq_iff_eq] at hc
        exact hc.1.1
      | false =>
        rw [hx] at h'
        exact eN h'
    · have h':List.lookup y ((n,kd) :: (r.map fun (n,k)=>if (k == .free&&env.scope.kind == .function&&env.kindOf n == some .cell) then (n,.cell) else (n,k)))=some k:=by
        simp only [hc,if_false] at h
        exact h
      rw [List.lookup_cons] at h' ⊢
      cases hx:y == n with
      | true =>
        rw [hx] at h'
        cases h'
        exact ⟨_,rfl,.inl rfl⟩
      | false =>
        rw [hx] at h'
        exact eN h'
end L2
namespace L2
open PySem PySem.Spec PyProof.Rows
section
variable {X:Cx} {xs:List Str} {scope:Scope} {C:Addr} {pins:List (Addr×Obj)} {σ:St} {H H₃:Hp} {s s₃:Shared} {fp:List Addr}
theorem ae8 (I:Inv X pins σ H s) {b:Addr} (hb:b∈frs X.stack):b=X.env.locals∨b∈X.fs:=List.mem_cons.mp (I.ajF b hb)
theorem aEV (I:Inv X pins σ H s) (c:uV X xs scope) (hC:s.heap.objs.size≤C) (hf:∀ b∈fp,a2G X pins H b∧b < s.heap.objs.size):(jJ X xs scope C s H fp pins).Ok where
  mod:=I.ok.mod
  kind:=c.kind
  glob:=I.ok.glob
  blt:=I.ok.blt
  above:=hC
  inj:=fun y z d h1 h2=>I.ok.inj y z d (jD h1 fun _ h=>by simp at h) (jD h2 fun _ h=>by simp at h)
  has:=fun y h=>by
    have hy:(y,NameKind.free)∈scope.names:=by
      rcases h with h | h
      · obtain ⟨k',e,z⟩:=eN (env:=X.env) (names:=scope.names) h
        rcases z with z | ⟨_,z⟩
        · subst z
          exact absurd rfl (c.ajX _ (mem_of_lookup e))
        · subst z;exact mem_of_lookup e
      · obtain ⟨k',e,z⟩:=eN (env:=X.env) (names:=scope.names) h
        rcases z with z | ⟨z,_⟩
        · subst z;exact mem_of_lookup e
        · cases z
    obtain ⟨d,hd⟩:=I.ok.has y (c.frees _ hy rfl)
    exact a4W hd hy
  cab:=fun _ _ h=>absurd h (by simp)
  hd:=I.ok.hd
  frames:=I.ok.frames
  stk := .inl rfl
  exf:=fun b hb=>by
    obtain ⟨⟨f0,f1,f2,f3,f4,f5⟩,lt⟩:=hf b hb
    exact ⟨Nat.ne_of_lt (Nat.lt_of_lt_of_le lt hC),fun y d h=>f4 y d (jD h fun _ h=>by simp at h)⟩
  bs:=fun b o e=>I.bs b o e
  bsz:=Nat.le_trans I.ok.bsz I.sz
  adM:=fun b o e hb=>by
    obtain ⟨⟨f0,f1,f2,f3,f4,f5⟩,lt⟩:=hf b hb
    rcases f3 with z | z
    · exact I.ok.adM b o e z
    · exact absurd (Nat.lt_of_lt_of_le (Heap.lt_size e) (Nat.le_trans I.ok.bsz z)) (Nat.lt_irrefl _)
  agE:=fun b hb hs=>by
    obtain ⟨⟨f0,f1,f2,f3,f4,f5⟩,lt⟩:=hf b hb
    rcases ae8 I hs with z | z
    · exact f1 z
    · exact f2 z
  xC:=I.stack
  frf:=fun b hb=>I.adN b hb
theorem aEW (I:Inv X pins σ H s) (c:uV X xs scope) (hC:s.heap.objs.size=C) (hf:∀ b∈fp,a2G X pins H b∧b < s.heap.objs.size) {h₁:Heap} {m:Str→Option Value} {tk:Nat} (hn:h₁.Ns C m) (hk:∀ b o,s.heap.get? b=some o→h₁.get? b=some o) :
    Inv (jJ X xs scope C s H fp pins) [] (nn xs σ) H { s with heap:=h₁,toks:=tk }:=by
  have lt:∀ b o,s.heap.get? b=some o→b≠C:=fun b o e=>by rw [← hC];exact Nat.ne_of_lt (Heap.lt_size e)
  refine ⟨aEV I c (Nat.le_of_eq hC) hf,rfl,I.bare,Un.kept hk,⟨m,hn,fun i y v e1 e2 e3=>?_⟩,fun y d e=>?_,I.hok.fresh (Nat.le_of_eq hC),fun y d e=>I.nR y d (jD e fun _ h=>by simp at h),fun p hp=>?_,I.hok.kept hk,by simp [nn,I.len],I.hnd,I.tup⟩
  · obtain ⟨i,rfl,e2'⟩:=arH e2
    · have e1':X.N[i]?=some y:=am2.symm.trans e1
      have hy:y∈X.N:=List.mem_of_getElem? e1'
      have free:(y,NameKind.free)∈scope.names:=by
        have e3':∃ k,(relabel scope X.env).names.lookup y=some k∧(k = .local∨k = .cell∨k = .free):=by
          rcases e3 with h | h | h
          · exact ⟨_,h,.inl rfl⟩
          · exact ⟨_,h,.inr (.inl rfl)⟩
          · exact ⟨_,h,.inr (.inr rfl)⟩
        obtain ⟨k,h,hk⟩:=e3'
        obtain ⟨k',e,z⟩:=eN (env:=X.env) (names:=scope.names) h
        rcases z with z | ⟨_,z⟩
        · subst z
          rcases hk with rfl | rfl | rfl
          · exact absurd e (c.only y hy)
          · exact absurd rfl (c.ajX _ (mem_of_lookup e))
          · exact mem_of_lookup e
        · subst z;exact mem_of_lookup e
      have hkd:=c.frees _ free rfl
      obtain ⟨m',hn',hlo⟩:=I.loc
      have vis:Vis X.env.scope y:=hkd.elim (fun z => .inr (.inl z)) fun z => .inr (.inr z)
      obtain ⟨u,r,l⟩:=hlo i y v e1' e2' vis
      refine ⟨u,r,.inr ⟨?_,?_⟩⟩
      · rcases e3 with h | h | h
        · obtain ⟨k',e,z⟩:=eN (env:=X.env) (names:=scope.names) h
          rcases z with z | ⟨z,_⟩
          · subst z;exact absurd e (c.only y hy)
          · cases z
        · exact .inl h
        · exact .inr h
      · rcases l with ⟨hl,_⟩ | ⟨_,d,hd,hcell⟩
        · rcases hkd with z | z
          · rw [z] at hl;cases hl
          · rw [z] at hl;cases hl
        · obtain ⟨d',hd'⟩:=a4W (cells:=X.env.cells) (l:=scope.names) (cs:=[]) hd free
          have:=jD hd' fun _ h=>by simp at h
          rw [hd] at this;cases this
          refine ⟨d,hd',?_⟩
          obtain ⟨o,ho,hod⟩:=hcell
          exact ⟨o,hk _ _ ho,hod⟩
  · obtain ⟨w,o,ho,hod⟩:=I.cell y d (jD e fun _ h=>by simp at h)
    exact ⟨w,o,hk _ _ ho,hod⟩
  · have hp':p∈X.pn++pins:=by simpa using hp
    obtain ⟨e,n,ne,nf,d⟩:=I.pin p hp'
    refine ⟨hk _ _ e,n,lt _ _ e,fun z=>?_,d⟩
    rcases ae8 I z with z | z
    · exact ne z
    · exact nf z
theorem axE (I:Inv X pins σ H s) (hC:s.heap.objs.size=C) (hf:∀ b∈fp,a2G X pins H b∧b < s.heap.objs.size) {a66:List (Addr×Obj)} {σ':St} {H':Hp} {s':Shared} {h':Heap} {tk:Nat} (J:Inv (jJ X xs scope C s H fp pins) a66 σ' H' s') (hs:Heap.SameBut C s'.heap h') :
    Inv X pins σ H' { s' with heap:=h',toks:=tk }:=by
  have ne:∀ b o,s.heap.get? b=some o→b≠C:=fun b o e=>by rw [← hC];exact Nat.ne_of_lt (Heap.lt_size e)
  have u:Un (frs X.stack) fp H H' s.heap s'.heap:=J.base
  have hfree:H' C=none:=J.free
  refine I.call' (ch:=fp) J.os ⟨fun b o e n hb hx=>?_,fun b o e n hb hx=>?_,u.free,fun b o e hx=>?_,u.tups,u.lJ,u.uM⟩ (fun b o e=>?_) J.bare (fun b hb=>?_)
  · exact (hs.2 b (ne b o e)).trans (u.keep b o e n hb hx)
  · obtain ⟨sl,e1⟩:=u.slot b o e n hb hx
    exact ⟨sl,(hs.2 b (ne b o e)).trans e1⟩
  · obtain ⟨o',e1⟩:=u.there b o e hx
    exact ⟨o',(hs.2 b (ne b o e)).trans e1⟩
  · refine (J.hok b o e).stay (fun d w hd q=>(hs.2 d ?_).trans q) (fun _ q=>q) fun _ _ q=>q
    rintro rfl
    rcases hd with z | z
    · rw [z] at hfree;rw [e] at hfree;cases hfree
    · rw [hfree] at z;cases z
  · obtain ⟨⟨f0,f1,f2,f3,f4,f5⟩,lt⟩:=hf b hb
    exact ⟨f3,f1,f4,f5⟩
end
end L2
namespace L2
open PySem PySem.Spec PyProof.Rows
def a1C:TT3:=fun _ G R=>R true G
def aoM (X:Cx) (ifs:List Expr) (tc:TT3):Prop :=
  ∀ (pins:List (Addr×Obj)) (s:Shared) (σ:St) (H:Hp) (Q:Bool→Hp→Prop),Inv X pins σ H s→upT X.K tc σ H Q →
    wpAny (model X.prog X.w) X.A (forIn ifs true fun c r=>if r=true then do let ok ← isTrue c X.env (eval c X.env);pure (ForInStep.yield ok) else pure (ForInStep.yield r)) (TP X pins σ Q) X.xe s
theorem axF {X:Cx}:aoM X [] a1C:=fun pins s σ H Q I h=>by
  obtain ⟨ρ,G,R,sr,g,q,k⟩:=h
  exact wpAny_pure ⟨H,I,k true H G (.refl H) g q⟩
theorem axG {X:Cx} {c:Expr} {tc:TT3} (hc:PT3 X c tc):aoM X [c] tc:=fun pins s σ H Q I h=>by
  rw [List.forIn_cons]
  simp only [if_true]
  refine wpAny_bind (wpAny_bind (dN (hc pins s σ H Q I h) fun b s1 q=>?_))
  exact wpAny_pure (wpAny_pure q)
section
variable {X:Cx} {x:Str} {xs:List Str} {tgt:Expr} {dv:D→Option (List D)} {scope:Scope} {iter elt:Expr} {ifs:List Expr} {px pos:Pos} {ti:TI3} {tc:TT3} {te:bU}
structure axH (X:Cx) (pins:List (Addr×Obj)) (H':Hp) (C:Addr) (h:Heap):Prop where
  ns:∃ m,h.Ns C m
  free:H' C=none
  loc:C≠X.env.locals
  young:X.s₀.heap.objs.size≤C
  cells:∀ y d,X.env.cells.lookup y=some d→d≠C
  pins:∀ p∈X.pn++pins,p.1≠C
theorem axH.turn {X:Cx} {pins:List (Addr×Obj)} {σ:St} {H':Hp} {C:Addr} {s:Shared} (o:axH X pins H' C s.heap) (I:Inv X pins σ H' s) {h':Heap} (hs:Heap.SameBut C s.heap h'):Inv X pins σ H' { s with heap:=h' } :=
  I.turned (t':=s.toks) (fun b ob hb e=>(hs.2 b hb).trans e) o.free o.loc (.inr o.young) o.cells o.pins
def arI (Y:Cx) (tgt:Expr) (xs:List Str) (dv:D→Option (List D)) (σ:St):Prop:=∀ (pins:List (Addr×Obj)) (s:Shared) (H:Hp) (v:V) (u:Value) (d:D) (ds:List D),Inv Y pins (nn xs σ) H s→RelV v u→RD Y.K H d v→dv d=some ds →
  wpAny (model Y.prog Y.w) Y.A (assign tgt Y.env u) (fun _ s'=>∃ vs,cL Y.K H ds vs∧Inv Y pins (vs.map some++σ) H s') Y.xe s
theorem arJ {K:Fg} {H:Hp} {ρ:aM} {σ:St} (s:SR K H ρ σ):∀ {ds:List D} {vs:List V},cL K H ds vs→SR K H (ds.map some++ρ) (vs.map some++σ)
  | _,_,.nil=>s
  | _,_,.cons h r => .some h (arJ s r)
theorem arK {prog:Program} {w:World} {A:Around} {R:Result→Shared→Prop} {s:Shared} {elt target iter:Expr} {ifs:List Expr} {scope:Scope} {pos:Pos} {it acc:Value} {env:Env} (J:Nat→Shared→Prop)
    (turn:∀ n s,J n s→wpAny (model prog w) A (pyNext it) (fun r s1=>match r with
      | none=>R (.ok .next) s1
      | some v=>wpAny (model prog w) A (letOwnedTupleGo target it v) (fun _ s1'=>wpAny (model prog w) A (assign target env v) (fun _ s2 =>
          wpAny (model prog w) A (forIn ifs true fun c r=>if r=true then do let ok ← isTrue c env (eval c env);pure (ForInStep.yield ok) else pure (ForInStep.yield r)) (fun ok s3 =>
            if ok=true then wpAny (model prog w) A (eval elt env) (fun x s4 =>
              wpAny (model prog w) A (call (.builtin "list.append") [acc,x]) (fun _ s5=>∃ m,m < n∧J m s5) (notedBy (model prog w) A env fun e s'=>R (.error e) s') s4) (notedBy (model prog w) A env fun e s'=>R (.error e) s') s3
            else ∃ m,m < n∧J m s3) (notedBy (model prog w) A env fun e s'=>R (.error e) s') s2) (notedBy (model prog w) A env fun e s'=>R (.error e) s') s1') (notedBy (model prog w) A env fun e s'=>R (.error e) s') s1) (notedBy (model prog w) A env fun e s'=>R (.error e) s') s)
    (n:Nat) (h:J n s):codeAny (model prog w) A (.compLoop (.ListComp elt [⟨target,iter,ifs,0⟩] scope pos) 0 it acc env) R s:=by
  refine codeAny_loop rfl J (fun n s hJ=>?_) n h
  show wpAny _ A ((compTurn (.ListComp elt [⟨target,iter,ifs,0⟩] scope pos) 0 it acc env).onRaise (fun z=>do noteFrame z env;theTreesLotGoes z)) _ _ s
  refine wpAny_noted ?_
  rw [compTurn_list]
  refine wpAny_bind (wpAny_standAt (wpAny_bind (wpAny_mono (turn n s hJ) (fun r s1 h1=>?_) fun _ _ z=>z)))
  cases r with
  | none=>exact wpAny_pure h1
  | some v =>
    refine wpAny_bind (wpAny_mono h1 (fun _ s1' h1'=>?_) fun _ _ z=>z)
    refine wpAny_bind (wpAny_mono h1' (fun _ s2 h2=>wpAny_bind (wpAny_mono h2 (fun ok s3 h3=>?_) fun _ _ z=>z)) fun _ _ z=>z)
    cases ok with
    | false=>exact wpAny_pure ⟨rfl,h3⟩
    | true=>exact wpAny_bind (wpAny_bind (wpAny_mono h3 (fun x s4 h4=>wpAny_bind (wpAny_mono h4 (fun _ s5 h5=>wpAny_pure (wpAny_pure ⟨rfl,h5⟩)) fun _ _ z=>z)) fun _ _ z=>z))
theorem acQ (c:uV X xs scope) (hT:∀ C s H fp pins σ,arI (jJ X xs scope C s H fp pins) tgt xs dv σ) (hdv:∀ d ds,dv d=some ds→ds.length=xs.length) (hc:∀ C s H fp pins,aoM (jJ X xs scope C s H fp pins) ifs tc) (he:∀ C s H fp pins,cU (jJ X xs scope C s H fp pins) elt te)
    {pins:List (Addr×Obj)} {s2:Shared} {σ:St} {H H2:Hp} {ρ:aM} {G1:Gp} {R:iD} {it:Addr} {fp:List Addr} {tn:Nat→Heap→Prop} {J:It} {src:Src} {RR:Value→Addr→Result→Shared→Prop} (sr:SR X.K H ρ σ) (I2:Inv X pins σ H2 s2) (T:Turn X.calm X.tp X.prog X.w X.K tgt J fp it tn) (st2:tn 0 s2.heap) (f2:∀ b∈fp,a2G X pins H2 b) (t1:Ts H H2) (g1:HR X.K H2 G1) (sj:a7F X.K H2 src J)
    (hlen:src.items.length < sizeLine) (body:∀ p,G1 p=none→∃ P:Nat→List D→Gp→Prop,P 0 [] (aN G1 p (.lst [])) ∧
      (∀ k ds G,k≤src.items.length→P k ds G→src.ok G∧G p=some (.lst ds)∧ds.length≤k) ∧
      (∀ k d ds G,src.items[k]?=some d→P k ds G→∃ ys,dv d=some ys∧tc (ys.map some++ρ) G fun b G2=>if b=true then te (ys.map some++ρ) G2 fun y G3=>G3 p=some (.lst ds)∧P (k+1) (ds++[y]) (aN G3 p (.lst (ds++[y]))) else P (k+1) ds G2) ∧
      ∀ ds G,P src.items.length ds G→∃ G0,Le G0 G∧R (.ref p) G0)
    (hRR:∀ Da C s5 H' G0,Inv X pins σ H' s5→axH X pins H' C s5.heap→Ts H H'→HR X.K H' G0→R (.ref Da) G0→RR (.ref Da) C (.ok .next) s5) :
    wpAny (model X.prog X.w) X.A (newList []) (fun acc s₃=>wpAny (model X.prog X.w) X.A (newFunctionEnv scope X.env.globals (p7 X.env.cells scope.names []) [] X.env.qual none .none (some X.env)) (fun cenv s₄ =>
      codeAny (model X.prog X.w) X.A (.compStart (.ListComp elt [⟨tgt,iter,ifs,0⟩] scope pos) 0 (.ref it) acc { cenv with scope:=relabel scope X.env }) (RR acc cenv.locals) s₄) X.xe s₃) X.xe s2:=by
  refine wpAny_newObj_type ?_
  have I3:=I2.aJN (its:=[]) (ys:=[]) (t':=s2.toks) .nil (by decide)
  have hD:H2 s2.heap.objs.size=none:=I2.fresh
  have kf:=xF I3
  have gD:G1 s2.heap.objs.size=none:=nC g1 hD kf
  obtain ⟨P,p0,pok,pst,pend⟩:=body _ gD
  have ltD:∀ b∈fp,b < s2.heap.objs.size:=fun b hb=>by
    obtain ⟨o,e,_⟩:=T.obj 0 _ st2 b hb
    exact Heap.lt_size e
  have hsz3:(s2.heap.push { cls := .type "list",data := .seq ([]:List Value).toArray }).objs.size=s2.heap.objs.size+1:=Heap.size_push ..
  have hf3:∀ b∈fp,a2G X pins (upd H2 s2.heap.objs.size (.lst [])) b∧b < (s2.heap.push { cls := .type "list",data := .seq ([]:List Value).toArray }).objs.size:=fun b hb=>by
    obtain ⟨f0,fr⟩:=f2 b hb
    exact ⟨⟨by rw [aU (Nat.ne_of_lt (ltD b hb))];exact f0,fr⟩,by rw [hsz3];exact Nat.lt_succ_of_lt (ltD b hb)⟩
  refine wpAny_newFunctionEnv c.ajX (by intro y hy;simp at hy) (fun h₁ hns₁ hsb₁=>?_) c.kind
  dsimp only at hns₁ hsb₁ ⊢
  generalize hH3:s2.heap.push { cls := .type "list",data := .seq ([]:List Value).toArray }=h3 at *
  generalize hDe:s2.heap.objs.size=Da at *
  have aBL:∀ b o,h3.get? b=some o→h₁.get? b=some o:=fun b o e=>hsb₁.extBut b o (Nat.ne_of_lt (Heap.lt_size e)) (Heap.get?_push_of_some _ e)
  show codeAny (model X.prog X.w) X.A (Code.compStart (elt.ListComp [{ target:=tgt,iter:=iter,ifs:=ifs,is_async:=0 }] scope pos) 0 (Value.ref it) (Value.ref Da) (compEnvC scope (p7 X.env.cells scope.names []) h3.objs.size X.env))
    (RR (.ref Da) h3.objs.size) { s2 with heap:=h₁,toks:=s2.toks+([]:List (Str×Value)).length }
  have J0:=aEW (tk:=s2.toks+([]:List (Str×Value)).length) I3 c rfl hf3 hns₁ aBL
  have st1:tn 0 h₁:=T.keep _ _ _ st2 fun b hb o e=>aBL b o (by rw [← hH3];exact Heap.get?_push_of_some _ e)
  have g0:HR X.K (upd H2 Da (.lst [])) (aN G1 Da (.lst [])):=g1.put (u := .lst []) hD ⟨[],aK,.nil⟩
  have ts0:Ts H2 (upd H2 Da (.lst [])) := .same (bB hD)
  have loop:∀ s₄:Shared,Inv (jJ X xs scope h3.objs.size { s2 with heap:=h3,toks:=s2.toks } (upd H2 Da (.lst [])) fp pins) [] (nn xs σ) (upd H2 Da (.lst [])) s₄→tn 0 s₄.heap →
      codeAny (model X.prog X.w) X.A (.compLoop (.ListComp elt [⟨tgt,iter,ifs,0⟩] scope pos) 0 (.ref it) (.ref Da) (compEnvC scope (p7 X.env.cells scope.names []) h3.objs.size X.env)) (RR (.ref Da) h3.objs.size) s₄:=by
    intro s₄ J4 st4
    refine arK (fun n s'=>∃ i ds H' G',Inv (jJ X xs scope h3.objs.size { s2 with heap:=h3,toks:=s2.toks } (upd H2 Da (.lst [])) fp pins) [] (nn xs σ) H' s'∧tn i s'.heap∧(∀ b∈fp,H' b=none)∧HR X.K H' G'∧P i ds G'∧i≤src.items.length∧n=src.items.length - i∧Ts H2 H') (fun n s' hI=>?_) src.items.length
      ⟨0,[],_,_,J4,st4,fun b hb=>(hf3 b hb).1.1,g0,p0,Nat.zero_le _,by simp,ts0⟩
    obtain ⟨i,ds,H',G',J,st,fr,g',p,hi',rfl,ts⟩:=hI
    obtain ⟨ok,hDl,hdl⟩:=pok i ds G' hi' p
    obtain ⟨sgo,aPH,aKT⟩:=sj H' G' ts g' ok
    have fpX:∀ {H':Hp},(∀ b∈fp,H' b=none)→∀ b∈fp,a2G (jJ X xs scope h3.objs.size { s2 with heap:=h3,toks:=s2.toks } (upd H2 Da (.lst [])) fp pins) [] H' b:=fun hn b hb=>by
      obtain ⟨⟨f0,f1,f2',f3,f4,f5⟩,lt⟩:=hf3 b hb
      refine ⟨hn b hb,Nat.ne_of_lt lt,fun hs=>?_,.inl hb,fun y d e=>f4 y d (jD e fun _ h=>by simp at h),fun p' hp'=>f5 p' (by simpa using hp')⟩
      rcases ae8 I3 hs with z | z
      · exact f1 z
      · exact f2' z
    by_cases hlt:i < src.items.length
    · refine wpAny_mono (T.item (jJ X xs scope h3.objs.size { s2 with heap:=h3,toks:=s2.toks } (upd H2 Da (.lst [])) fp pins) rfl rfl rfl (fun h=>h) (fun _ h=>h) i [] s' (nn xs σ) H' (fun _ _=>False) J (fpX fr) st (sgo i hlt)) (fun r s5 ⟨u,hr,h5⟩=>?_) fun _ _ z=>z.elim
      subst hr
      obtain ⟨d0,ys,hd0,ey,aPJ⟩:∃ d ys,src.items[i]?=some d∧dv d=some ys∧tc (ys.map some++ρ) G' fun b G2=>if b=true then te (ys.map some++ρ) G2 fun y G3=>G3 Da=some (.lst ds)∧P (i+1) (ds++[y]) (aN G3 Da (.lst (ds++[y]))) else P (i+1) ds G2:=by
        have hd:src.items[i]?=some src.items[i]:=List.getElem?_eq_getElem hlt
        obtain ⟨ys,e,z⟩:=pst i _ ds G' hd p
        exact ⟨_,ys,hd,e,z⟩
      show wpAny _ _ (letOwnedTupleGo tgt (.ref it) u) _ _ s5
      refine wpAny_mono h5 (fun _ s6 ⟨vx,H6,I6,r6,y6,st6,fr6⟩=>?_) fun _ _ z=>z.elim
      obtain ⟨sm,d,hd,rd⟩:=aPH i vx H6 hlt y6
      have g':=g'.same sm
      have ts:=ts.trans (.same sm)
      obtain rfl:d0=d:=Option.some.inj (hd0.symm.trans hd)
      have I6':=I6.pinned (fpX fr6) (T.obj _ _ st6)
      refine wpAny_mono (hT _ _ _ _ _ _ _ s6 H6 vx u _ _ I6' r6 rd ey) (fun _ s7 ⟨vs,rvs,I7⟩=>?_) fun _ _ z=>z.elim
      have lv:vs.length=xs.length:=by rw [← rvs.length];exact hdv _ _ ey
      have arL:∀ {s'':Shared} {σ'':St} {H'':Hp},Inv (jJ X xs scope h3.objs.size { s2 with heap:=h3,toks:=s2.toks } (upd H2 Da (.lst [])) fp pins) ([]++a4K fp s6.heap) σ'' H'' s''→tn (i+1) s''.heap∧∀ b∈fp,H'' b=none:=fun I''=>by
        refine ⟨T.keep _ _ _ st6 fun b hb o e=>(I''.pin (b,o) (List.mem_append_right _ (List.mem_append_right _ (uO hb e)))).1,fun b hb=>?_⟩
        obtain ⟨o,e,_⟩:=T.obj _ _ st6 b hb
        exact (I''.pin (b,o) (List.mem_append_right _ (List.mem_append_right _ (uO hb e)))).2.1
      have down:∀ {s'':Shared} {H'':Hp},Inv (jJ X xs scope h3.objs.size { s2 with heap:=h3,toks:=s2.toks } (upd H2 Da (.lst [])) fp pins) ([]++a4K fp s6.heap) (vs.map some++σ) H'' s''→Inv (jJ X xs scope h3.objs.size { s2 with heap:=h3,toks:=s2.toks } (upd H2 Da (.lst [])) fp pins) [] (nn xs σ) H'' s'':=fun I'' =>
        I''.a2H.weak (by simp [nn,lv]) fun j v e=>by
          obtain ⟨j',rfl,e'⟩:=arH e
          rw [← lv,show vs.length=(vs.map some).length by simp,am2]
          exact e'
      have sr7:SR X.K H6 (ys.map some++ρ) (vs.map some++σ):=arJ (sr.mono (t1.trans ts)) rvs
      refine wpAny_mono (hc _ _ _ _ _ _ s7 (vs.map some++σ) H6 (fun b H8=>Ts H6 H8∧∃ G8,HR X.K H8 G8∧(if b=true then te (ys.map some++ρ) G8 fun y G3=>G3 Da=some (.lst ds)∧P (i+1) (ds++[y]) (aN G3 Da (.lst (ds++[y]))) else P (i+1) ds G8)) I7
        ⟨ys.map some++ρ,G',_,sr7,g',aPJ,fun b H8 G8 t8 g8 q8=>⟨t8,G8,g8,q8⟩⟩) (fun b s8 ⟨H8,I8,t8,G8,g8,q8⟩=>?_) fun _ _ z=>z.elim
      cases b with
      | false =>
        rw [if_neg (by decide)]
        have q8':P (i+1) ds G8:=by simpa using q8
        obtain ⟨a1,a2⟩:=arL I8
        exact ⟨src.items.length - (i+1),by omega,i+1,ds,H8,G8,down I8,a1,a2,g8,q8',hlt,rfl,ts.trans t8⟩
      | true =>
        rw [if_pos rfl]
        have q8':te (ys.map some++ρ) G8 fun y G3=>G3 Da=some (.lst ds)∧P (i+1) (ds++[y]) (aN G3 Da (.lst (ds++[y]))):=by simpa using q8
        refine wpAny_mono (he _ _ _ _ _ _ s8 (vs.map some++σ) H8 (fun vy H9=>Ts H8 H9∧∃ y G9,RD X.K H9 y vy∧HR X.K H9 G9∧G9 Da=some (.lst ds)∧P (i+1) (ds++[y]) (aN G9 Da (.lst (ds++[y])))) I8 ⟨ys.map some++ρ,G8,_,sr7.mono t8,g8,q8',fun vy H9 y G9 t9 r9 g9 q9=>⟨t9,y,G9,r9,g9,q9⟩⟩) (fun uy s9 ⟨vy,H9,I9,ry,t9,y,G9,ryd,g9,hG9,q9⟩=>?_) fun _ _ z=>z.elim
        obtain ⟨ws,hH9,rws⟩:=g9 Da _ hG9
        have aKV:ws.length < sizeLine:=by rw [← rws.length];omega
        refine wpAny_mono (acI (X:=jJ X xs scope h3.objs.size { s2 with heap:=h3,toks:=s2.toks } (upd H2 Da (.lst [])) fp pins) _ s9 (vs.map some++σ) H9 (.ref Da) [vy] (.ref Da) [uy] (fun _ H10=>H10=upd H9 Da (.lst (ws++[vy]))) I9 rfl (.cons ry .nil) ⟨Da,ws,vy,rfl,rfl,hH9,aKV,rfl⟩) (fun _ s10 ⟨_,H10,I10,_,e10⟩=>?_) fun _ _ z=>z.elim
        subst e10
        obtain ⟨a1,a2⟩:=arL I10
        have tt:Ts H9 (upd H9 Da (.lst (ws++[vy]))) := .turn hH9 (fun _ z=>nomatch z) (fun _ _ z=>nomatch z)
        exact ⟨src.items.length - (i+1),by omega,i+1,ds++[y],_,_,down I10,a1,a2,g9.turn (u := .lst (ds++[y])) tt ⟨_,aK,(rws.append (.cons ryd .nil)).mono tt⟩,q9,hlt,rfl,((ts.trans t8).trans t9).trans tt⟩
    · have ein:i=src.items.length:=by omega
      subst ein
      refine wpAny_mono (T.done (jJ X xs scope h3.objs.size { s2 with heap:=h3,toks:=s2.toks } (upd H2 Da (.lst [])) fp pins) rfl rfl rfl (fun h=>h) (fun _ h=>h) _ [] s' (nn xs σ) H' (fun _ _=>False) J (fpX fr) st aKT) (fun r s5 ⟨hr,J5⟩=>?_) fun _ _ z=>z.elim
      subst hr
      obtain ⟨m5,hn5,_⟩:=id J5.loc
      obtain ⟨G0,l0,q0⟩:=pend ds G' p
      have I5:Inv X pins σ H' s5:=axE (tk:=s5.toks) I3 rfl hf3 J5 (Heap.SameBut.refl _ _)
      refine hRR Da _ s5 H' G0 I5 ⟨⟨m5,hn5⟩,J5.free,Nat.ne_of_gt I3.lt,I3.sz,fun y d e z=>?_,fun p hp z=>?_⟩ (t1.trans ts) (g'.le l0) q0
      · obtain ⟨w,o,ho,_⟩:=I3.cell y d e
        rw [z] at ho
        exact absurd (Heap.lt_size ho) (Nat.lt_irrefl _)
      · have:=(I3.pin p hp).1
        rw [z] at this
        exact absurd (Heap.lt_size this) (Nat.lt_irrefl _)
  exact codeAny_compStart_list (loop _ J0 st1) (T.self X.A 0 _ _ _ st1 (loop _ J0 st1))
def a2Q (dv:D→Option (List D)) (ti:TI3) (tc:TT3) (te:bU):bU:=fun ρ G R=>ti ρ G fun src G1=>src.items.length < sizeLine∧∀ p,G1 p=none→∃ P:Nat→List D→Gp→Prop,P 0 [] (aN G1 p (.lst [])) ∧
  (∀ k ds G,k≤src.items.length→P k ds G→src.ok G∧G p=some (.lst ds)∧ds.length≤k) ∧
  (∀ k d ds G,src.items[k]?=some d→P k ds G→∃ ys,dv d=some ys∧tc (ys.map some++ρ) G fun b G2=>if b=true then te (ys.map some++ρ) G2 fun y G3=>G3 p=some (.lst ds)∧P (k+1) (ds++[y]) (aN G3 p (.lst (ds++[y]))) else P (k+1) ds G2) ∧
  ∀ ds G,P src.items.length ds G→∃ G0,Le G0 G∧R (.ref p) G0
def arM (d:D):Option (List D):=some [d]
abbrev arN (ti:TI3) (tc:TT3) (te:bU):bU:=a2Q arM ti tc te
def arO (n:Nat) (d:D):Option (List D):=match d with
  | .tup ds=>if ds.length=n then some ds else none
  | _=>none
abbrev zN (n:Nat) (ti:TI3) (tc:TT3) (te:bU):bU:=a2Q (arO n) ti tc te
theorem arP (d:D) (ds:List D) (h:arM d=some ds):ds.length=[x].length:=by
  unfold arM at h;cases h;rfl
theorem ae9 {n:Nat} {d:D} {ds:List D} (h:arO n d=some ds):d = .tup ds∧ds.length=n:=by
  unfold arO at h
  split at h
  · split at h
    · rename_i e;cases h;exact ⟨rfl,e⟩
    · cases h
  · cases h
theorem ajY {N:List Str} (c:uV X xs scope) (hnd:X.N.Nodup):(xs++X.N).Nodup:=List.nodup_append.mpr ⟨c.nd,hnd,fun a ha b hb e=>c.out a ha (e ▸ hb)⟩
theorem aEX (c:uV X [x] scope) (hnd:X.N.Nodup) {C:Addr} {s:Shared} {H:Hp} {fp:List Addr} {pins:List (Addr×Obj)} {σ:St}:arI (jJ X [x] scope C s H fp pins) (.Name x px) [x] arM σ:=by
  intro a66 s' H' v u d ds I r rd e
  unfold arM at e
  cases e
  have pgn:PG (jJ X [x] scope C s H fp pins) (.Name x px) (alM 0):=adO (ajY (N:=X.N) c hnd) rfl (.inl (lookup_relabel_local (c.var x (by simp)))) (.inr (lookup_relabel_local (c.var x (by simp))))
  refine wpAny_mono (pgn a66 s' (nn [x] σ) H' v u (fun σ' H2=>σ'=[v].map some++σ∧H2=H') I r ⟨rfl,rfl⟩) (fun _ s2 ⟨σ2,H2,I2,e2,e3⟩=>?_) fun _ _ z=>z
  subst e2;subst e3
  exact ⟨[v],.cons rd .nil,I2⟩
theorem am3 (c:uV X xs scope) (hT:∀ C s H fp pins σ,arI (jJ X xs scope C s H fp pins) tgt xs dv σ) (hdv:∀ d ds,dv d=some ds→ds.length=xs.length) (hi:PI3 X tgt iter ti) (hc:∀ C s H fp pins,aoM (jJ X xs scope C s H fp pins) ifs tc) (he:∀ C s H fp pins,cU (jJ X xs scope C s H fp pins) elt te)
    (hs:∀ y,foldedSetIterable iter X.env y=pure y):cU X (.ListComp elt [⟨tgt,iter,ifs,0⟩] scope pos) (a2Q dv ti tc te):=by
  intro pins s σ H Q I h
  obtain ⟨ρ,G,R,sr,g,q,kk⟩:=h
  rw [eval_ListComp]
  refine wpAny_comprehension_free (use:=none) rfl hs (tG fun y hy hf=>I.ok.has y.1 (c.frees y hy hf)) c.kind c.locs ?_
  refine dN (hi pins s σ H (fun J H1=>Ts H H1∧∃ src G1,HR X.K H1 G1∧a7F X.K H1 src J∧(src.items.length < sizeLine∧∀ p,G1 p=none→∃ P:Nat→List D→Gp→Prop,P 0 [] (aN G1 p (.lst [])) ∧
      (∀ k ds G,k≤src.items.length→P k ds G→src.ok G∧G p=some (.lst ds)∧ds.length≤k) ∧
      (∀ k d ds G,src.items[k]?=some d→P k ds G→∃ ys,dv d=some ys∧tc (ys.map some++ρ) G fun b G2=>if b=true then te (ys.map some++ρ) G2 fun y G3=>G3 p=some (.lst ds)∧P (k+1) (ds++[y]) (aN G3 p (.lst (ds++[y]))) else P (k+1) ds G2) ∧
      ∀ ds G,P src.items.length ds G→∃ G0,Le G0 G∧R (.ref p) G0)) I ⟨ρ,G,_,sr,g,q,fun src J H' G' t1 g1 sj q1=>⟨t1,src,G',g1,sj,q1⟩⟩) fun v s1 h1=>dN h1 fun itv s2 ⟨it,fp,tn,J,H2,e,I2,T,st2,f2,t1,src,G1,g1,sj,hlen,body⟩=>?_
  subst e
  exact acQ (RR:=fun acc C=>compPost (model X.prog X.w) X.A X.xe none (EP X pins σ Q) acc C) c hT hdv hc he sr I2 T st2 f2 t1 g1 sj hlen body fun Da C s5 H' G0 I5 o ts g0 q0=>by
    obtain ⟨m,hn⟩:=o.ns
    exact ⟨m,hn,fun h' hs'=>⟨.ref Da,H',o.turn I5 hs',rfl,kk _ H' _ G0 ts (.ref Da) g0 q0⟩⟩
theorem am4 {y:Str} {i:Nat} {py spos:Pos} (c:uV X xs scope) (hT:∀ C s H fp pins σ,arI (jJ X xs scope C s H fp pins) tgt xs dv σ) (hdv:∀ d ds,dv d=some ds→ds.length=xs.length) (hnd:X.N.Nodup) (hy:X.N[i]?=some y) (hl:Loc X.env.scope y) (hf:X.fn y=true) (hi:PI3 X tgt iter ti) (hc:∀ C s H fp pins,aoM (jJ X xs scope C s H fp pins) ifs tc) (he:∀ C s H fp pins,cU (jJ X xs scope C s H fp pins) elt te)
    (hs:∀ y,foldedSetIterable iter X.env y=pure y):PS3 X (.Assign [.Name y py] (.ListComp elt [⟨tgt,iter,ifs,0⟩] scope pos) spos) (bC i (a2Q dv ti tc te)):=by
  have hsw:∃ b,swapsWith (.ListComp elt [⟨tgt,iter,ifs,0⟩] scope pos) (some (.Name y py)) spos.line X.env=pure b:=⟨_,rfl⟩
  obtain ⟨b,hsw⟩:=hsw
  cases b with
  | false=>exact aBG hnd hy hl (am3 c hT hdv hi hc he hs) hsw (.inl hf)
  | true =>
    intro pins s σ H F I h
    obtain ⟨ρ,G,E,sr,g,q,d⟩:=h
    rw [exec_Assign_Name_used _ _ _ _ hsw]
    refine wpAny_bind (wpAny_standAt (wpAny_bind ?_))
    show wpAny _ X.A (do let _ ← comprehension (.ListComp elt [⟨tgt,iter,ifs,0⟩] scope pos) scope X.env _ (newList []) false (eval iter X.env) (some (assign (.Name y py) X.env))) _ _ s
    refine wpAny_bind (wpAny_mono (wpAny_comprehension_free (use:=some (assign (.Name y py) X.env)) (Q:=fun _ s'=>SP X pins F .next s') rfl hs (tG fun y hy hf=>I.ok.has y.1 (c.frees y hy hf)) c.kind c.locs ?_) (fun _ s' hq=>wpAny_pure (wpAny_pure hq)) fun _ _ e=>e)
    refine dN (hi pins s σ H (fun J H1=>Ts H H1∧∃ src G1,HR X.K H1 G1∧a7F X.K H1 src J∧(src.items.length < sizeLine∧∀ p,G1 p=none→∃ P:Nat→List D→Gp→Prop,P 0 [] (aN G1 p (.lst [])) ∧
        (∀ k ds G,k≤src.items.length→P k ds G→src.ok G∧G p=some (.lst ds)∧ds.length≤k) ∧
        (∀ k d ds G,src.items[k]?=some d→P k ds G→∃ ys,dv d=some ys∧tc (ys.map some++ρ) G fun b G2=>if b=true then te (ys.map some++ρ) G2 fun y G3=>G3 p=some (.lst ds)∧P (k+1) (ds++[y]) (aN G3 p (.lst (ds++[y]))) else P (k+1) ds G2) ∧
        ∀ ds G,P src.items.length ds G→∃ G0,Le G0 G∧E.nx (rR ρ i (.ref p)) G0)) I ⟨ρ,G,_,sr,g,q,fun src J H' G' t1 g1 sj q1=>⟨t1,src,G',g1,sj,q1⟩⟩) fun v s1 h1=>dN h1 fun itv s2 ⟨it,fp,tn,J,H2,e,I2,T,st2,f2,t1,src,G1,g1,sj,hlen,body⟩=>?_
    subst e
    refine acQ (R:=fun z G0=>E.nx (rR ρ i z) G0) (RR:=fun acc C=>compPost (model X.prog X.w) X.A X.xe (some (assign (.Name y py) X.env)) (fun _ s'=>SP X pins F .next s') acc C) c hT hdv hc he sr I2 T st2 f2 t1 g1 sj hlen body fun Da C s5 H' G0 I5 o ts g0 q0=>?_
    show wpAny _ X.A (assign (.Name y py) X.env (.ref Da)) _ _ s5
    refine wpAny_assign_Name (ac9 (v := .ref Da) I5 hnd hy hl rfl (fun s6 I6 ⟨a,hsb,ha⟩=>?_) (.inl hf))
    obtain ⟨m,hn⟩:=o.ns
    have hCa:C≠a:=by
      rcases ha with rfl | ha
      · exact o.loc
      · exact fun z=>o.cells y a ha z.symm
    have o6:axH X pins H' C s6.heap:=⟨⟨m,hn.sameBut hsb hCa⟩,o.free,o.loc,o.young,o.cells,o.pins⟩
    refine ⟨m,hn.sameBut hsb hCa,fun h' hs'=>⟨_,H',o6.turn I6 hs',d.nx _ G0 _ H' ((sr.mono ts).set (.ref Da) i) g0 q0⟩⟩
end
end L2
namespace L2
open PySem PySem.Spec PyProof.Rows
abbrev TG3:=D→aM→(aM→Prop)→Prop
def upG (K:Fg) (t:TG3):TG:=fun v σ H Q=>∃ ρ d R,SR K H ρ σ∧RD K H d v∧t d ρ R∧∀ ρ' σ',SR K H ρ' σ'→R ρ'→Q σ' H
abbrev PG3 (X:Cx) (tg:Expr) (t:TG3):Prop:=PG X tg (upG X.K t)
def p8 (i:Nat):TG3:=fun d ρ Q=>Q (rR ρ i d)
def a6C:aM→List Nat→List D→aM
  | ρ,i :: is,d :: ds=>a6C (rR ρ i d) is ds
  | ρ,_,_=>ρ
def a2R (is:List Nat):TG3:=fun d ρ Q=>match d with
  | .tup ds=>ds.length=is.length∧Q (a6C ρ is ds)
  | _=>False
def acR:St→List Nat→List V→St
  | σ,i :: is,v :: vs=>acR (σ.set i (some v)) is vs
  | σ,_,_=>σ
theorem SR.sets {K:Fg} {H:Hp}:∀ {is:List Nat} {ds:List D} {vs:List V} {ρ:aM} {σ:St},cL K H ds vs→SR K H ρ σ→SR K H (a6C ρ is ds) (acR σ is vs)
  | [],_,_,_,_,_,s=>s
  | _ :: _,_,_,_,_,.nil,s=>s
  | i :: is,_,_,_,_,.cons h r,s=>SR.sets (is:=is) r (s.set h i)
section
variable {X:Cx}
theorem PG.imp {e:Expr} {t t':TG} (h:PG X e t) (k:∀ v σ H Q,t' v σ H Q→t v σ H Q):PG X e t':=fun pins s σ H v u Q I r q=>h pins s σ H v u Q I r (k _ _ _ _ q)
theorem aEY {i:Nat} {x:Str} {pos:Pos} (hN:X.N.Nodup) (hi:X.N[i]?=some x) (hx:Loc X.env.scope x) (hf:X.fn x=true∨X.env.scope.names.lookup x=some .local):PG3 X (.Name x pos) (p8 i) :=
  PG.imp (adO hN hi hx hf) fun v σ H Q h=>by
  obtain ⟨ρ,d,R,s,r,q,k⟩:=h
  exact k _ _ (s.set r i) q
structure axI (X:Cx) (e:Expr) (i:Nat):Prop where
  ex:∃ x pos,e = .Name x pos∧X.N[i]?=some x∧Loc X.env.scope x∧(X.fn x=true∨X.env.scope.names.lookup x=some .local)
def aEZ:List Nat→TGs
  | []=>aJ1
  | i :: is=>aB5 (alM i) (aEZ is)
theorem aeA:∀ {is:List Nat} {vs:List V} {σ:St} {H:Hp} {Q:St→Hp→Prop},vs.length=is.length→Q (acR σ is vs) H→aEZ is vs σ H Q
  | [],[],_,_,_,_,q=>⟨rfl,q⟩
  | [],_ :: _,_,_,_,h,_=>by simp at h
  | _ :: _,[],_,_,_,h,_=>by simp at h
  | i :: is,v :: vs,σ,H,Q,h,q=>⟨v,vs,rfl,aeA (is:=is) (by simpa using h) q⟩
theorem a4X (hN:X.N.Nodup):∀ {es:List Expr} {is:List Nat},Two (axI X) es is→PGs X es (aEZ is)∧(assignEach es X.env).length=is.length∧(assignEach es X.env).findIdx? (·.1)=none
  | _,_,.nil=>⟨aw6,rfl,rfl⟩
  | _,_,.cons (a:=e) (b:=i) h r=>by
    obtain ⟨x,pos,rfl,h1,h2,h3⟩:=h.ex
    obtain ⟨a1,a2,a3⟩:=a4X hN r
    refine ⟨aqB (adO hN h1 h2 h3) a1 rfl,?_,?_⟩
    · show (assignEach _ X.env).length+1=_
      rw [a2];rfl
    · show ((false,assign (.Name x pos) X.env) :: assignEach _ X.env).findIdx? (·.1)=none
      rw [List.findIdx?_cons]
      simp [a3]
theorem aKX {es:List Expr} {is:List Nat} {k:Nat} {pos:Pos} (hN:X.N.Nodup) (hc:X.calm=true) (h:Two (axI X) es is):PG3 X (.Tuple es k pos) (a2R is):=by
  obtain ⟨a1,a2,a3⟩:=a4X hN h
  refine PG.imp (aqC hc a1 a2 a3) fun v σ H Q h=>?_
  obtain ⟨ρ,d,R,s,r,q,k⟩:=h
  cases r with
  | @tup a vs ds hq rv =>
    have q':ds.length=is.length∧R (a6C ρ is ds):=q
    exact ⟨a,vs,rfl,hq,by rw [← rv.length];exact q'.1,aeA (by rw [← rv.length];exact q'.1) (k _ _ (SR.sets rv s) q'.2)⟩
  | _=>exact False.elim q
theorem acS:∀ (xs:List Str) (vs done:List V) (σ:St),vs.length=xs.length→acR (done.map some++nn xs σ) (List.range' done.length xs.length) vs=(done++vs).map some++σ
  | [],[],done,σ,_=>by simp [acR,nn]
  | [],_ :: _,_,_,h=>by simp at h
  | _ :: _,[],_,_,h=>by simp at h
  | x :: xs,v :: vs,done,σ,h=>by
    have ih:=acS xs vs (done++[v]) σ (by simpa using h)
    have e1:(done.map some++nn (x :: xs) σ).set done.length (some v)=(done++[v]).map some++nn xs σ:=by
      simp [nn,List.set_append]
    show acR ((done.map some++nn (x :: xs) σ).set done.length (some v)) (List.range' (done.length+1) xs.length) vs=_
    rw [e1]
    have e2:(done++[v]).length=done.length+1:=by simp
    rw [e2] at ih
    rw [ih]
    simp
theorem arQ {xs:List Str} {scope:Scope} {es:List Expr} {k:Nat} {pos:Pos} (c:uV X xs scope) (hnd:X.N.Nodup) (hc:X.calm=true) (hes:Two (fun e x=>∃ p,e=Expr.Name x p) es xs) {C:Addr} {s:Shared} {H:Hp} {fp:List Addr} {pins:List (Addr×Obj)} {σ:St}:arI (jJ X xs scope C s H fp pins) (.Tuple es k pos) xs (arO xs.length) σ:=by
  intro a66 s' H' v u d ds I r rd e
  obtain ⟨rfl,hl⟩:=ae9 e
  have nms:∀ (es':List Expr) (ys done:List Str),Two (fun e x=>∃ p,e=Expr.Name x p) es' ys→xs=done++ys→Two (axI (jJ X xs scope C s H fp pins)) es' (List.range' done.length ys.length):=by
    intro es' ys
    induction ys generalizing es' with
    | nil=>intro done t _;cases t;exact .nil
    | cons y ys ih =>
      intro done t e
      cases t with
      | cons h t =>
        obtain ⟨p,rfl⟩:=h
        have z:=ih _ (done++[y]) t (by simp [e])
        have e2:(done++[y]).length=done.length+1:=by simp
        rw [e2] at z
        refine .cons ⟨y,p,rfl,?_,.inl (lookup_relabel_local (c.var y (by simp [e]))),.inr (lookup_relabel_local (c.var y (by simp [e])))⟩ z
        show (xs++X.N)[done.length]?=some y
        rw [e]
        simp
  obtain ⟨a1,a2,a3⟩:=a4X (X:=jJ X xs scope C s H fp pins) (ajY (N:=X.N) c hnd) (nms es xs [] hes rfl)
  cases rd with
  | @tup a vs _ hq rv =>
    have lv:vs.length=xs.length:=by rw [← rv.length];exact hl
    have pgt:=aqC (X:=jJ X xs scope C s H fp pins) (k:=k) (pos:=pos) (show (jJ X xs scope C s H fp pins).calm=true from hc) a1 a2 a3
    refine wpAny_mono (pgt a66 s' (nn xs σ) H' (.ref a) u (fun σ' H2=>σ'=vs.map some++σ∧H2=H') I r ⟨a,vs,rfl,hq,by simpa using lv,aeA (by simpa using lv) ⟨?_,rfl⟩⟩) (fun _ s2 ⟨σ2,H2,I2,e2,e3⟩=>?_) fun _ _ z=>z
    · have:=acS xs vs [] σ lv
      simpa using this
    · subst e2;subst e3
      exact ⟨vs,rv,I2⟩
def a7G (K:Fg) (src:Src) (J:It):Prop:=∀ H2 G2,HR K H2 G2→src.ok G2 →
  (∀ i,i < src.items.length→J.go i H2)∧(∀ i v H',i < src.items.length→J.yld i H2 v H'→Same H2 H'∧∃ d,src.items[i]?=some d∧RD K H' d v)∧J.stop src.items.length H2
def aPM (K:Fg) (t:TI3):TI:=fun σ H Q=>∃ ρ G R,SR K H ρ σ∧HR K H G∧t ρ G R∧∀ src J H' G',Ts H H'→HR K H' G'→a7G K src J→R src G'→Q J H'
abbrev PIS (X:Cx) (tg iter:Expr) (t:TI3):Prop:=PI X tg iter (aPM X.K t)
def ah2 (te:bU):TI3:=fun ρ G R=>te ρ G fun x G1=>match x with
  | .ref p=>(match aO G1 p with
    | some xs=>R (.lst p xs) G1
    | none=>False)
  | .str z=>R (.imm (signs z)) G1
  | .tup xs=>xs.all scD=true∧∀ a,(G1 a=none∨G1 a=some (.tpl xs))→R (.tpl a xs) (aN G1 a (.tpl xs))
  | _=>False
theorem aKY {K:Fg} {H:Hp} {d d':D} {v:V} (h:scD d=true) (r:RD K H d v) (r':RD K H d' v):d'=d:=by
  cases r with
  | non=>cases r';rfl
  | bl b=>cases r';rfl
  | int i=>cases r';rfl
  | str x=>cases r';rfl
  | _=>exact Bool.noConfusion (show false=true from h)
theorem arR {K:Fg} {H:Hp}:∀ {ds ds':List D} {vs:List V},ds.all scD=true→cL K H ds vs→cL K H ds' vs→ds'=ds
  | _,_,_,_,.nil,.nil=>rfl
  | d :: ds,d' :: ds',_,h,.cons r rr,.cons r' rr'=>by
    rw [List.all_cons,Bool.and_eq_true] at h
    rw [aKY h.1 r r',arR h.2 rr rr']
theorem arS {pins:List (Addr×Obj)} {σ:St} {H:Hp} {s:Shared} {G:Gp} {a:Addr} {xs:List V} {o:GO} (I:Inv X pins σ H s) (g:HR X.K H G) (hq:vZ X.K H a xs) (e:G a=some o):∃ ds,o = .tpl ds∧cL X.K H ds xs:=by
  have no:∀ u,H a=some u→(∀ ys,u ≠ .tup ys)→(∀ ob ys,u ≠ .nZ ob (.tup ys))→False:=fun u hu h1 h2=>by
    rcases hq with (q | ⟨ob,q⟩) | ⟨ob,_,_,q,_⟩
    · rw [hu] at q;exact h1 _ (Option.some.inj q)
    · rw [hu] at q;exact h2 _ _ (Option.some.inj q)
    · have:=xF I a ob q;rw [hu] at this;cases this
  have z:=g a o e
  cases o with
  | lst ds=>obtain ⟨_,q,_⟩:=z;exact (no _ q (fun _ w=>nomatch w) (fun _ _ w=>nomatch w)).elim
  | rol ds =>
    obtain ⟨_,q,_⟩:=z
    obtain ⟨_,_,⟨o1,n1,e1,c1,_⟩,_⟩:=I.list q
    obtain ⟨_,_,⟨o2,e2,c2,_⟩,_⟩:=I.tuple hq
    rw [e1] at e2;cases e2
    rw [c1] at c2;exact absurd c2 (by decide)
  | lF t kvs=>rcases z with ⟨_,_,q,_⟩ | ⟨_,_,q,_⟩ <;> exact (no _ q (fun _ w=>nomatch w) (fun _ _ w=>nomatch w)).elim
  | ins C fs=>obtain ⟨_,_,q,_⟩:=z;exact (no _ q (fun _ w=>nomatch w) (fun _ _ w=>nomatch w)).elim
  | exn C=>obtain ⟨_,_,q,_⟩:=z;exact (no _ q (fun _ w=>nomatch w) (fun _ _ w=>nomatch w)).elim
  | rdc ob t kvs=>rcases z with ⟨_,_,q,_⟩ | ⟨_,_,q,_⟩ <;> exact (no _ q (fun _ w=>nomatch w) (fun _ _ w=>nomatch w)).elim
  | tpl ds=>obtain ⟨ys,q,r⟩:=z;exact ⟨ds,rfl,by rw [← I.zM q hq];exact r⟩
theorem am5 {pins:List (Addr×Obj)} {σ:St} {H:Hp} {s:Shared} {G:Gp} {a:Addr} {xs:List V} {ds:List D} (I:Inv X pins σ H s) (g:HR X.K H G) (hq:vZ X.K H a xs) (rv:cL X.K H ds xs) (sc:ds.all scD=true) :
    (G a=none∨G a=some (.tpl ds))∧HR X.K H (aN G a (.tpl ds)):=by
  refine ⟨?_,fun b o e=>?_⟩
  · cases e:G a with
    | none=>exact .inl rfl
    | some o=>obtain ⟨ds',rfl,r⟩:=arS I g hq e;exact .inr (by rw [arR sc rv r])
  · by_cases hb:b=a
    · subst hb;rw [aQ] at e;cases e;exact ⟨xs,hq,rv⟩
    · rw [bK hb] at e;exact g b o e
theorem arT {K:Fg} {p:Addr} {xs:List D}:a7G K (.tpl p xs) (Itt K p):=fun H2 G2 g ok=>by
  obtain ⟨vs,hq,rv⟩:=g p _ ok
  exact ah0 hq rv H2 G2 (.refl _) g trivial
theorem aoN {K:Fg} {p:Addr} {xs:List D}:a7G K (.lst p xs) (Itl K p):=fun H2 G2 g ok=>acP (H1:=H2) H2 G2 (.refl _) g ok
theorem ah3 {K:Fg} {z:Str}:a7G K (.imm (signs z)) (Its z):=fun H2 G2 g ok=>a8Z (H1:=H2) H2 G2 (.refl _) g ok
theorem arU {K:Fg} {lo:Int} {n:Nat}:a7G K (.imm ((List.range n).map fun (i:Nat) => .int (lo+(i:Int)))) (Itr lo n):=fun H2 G2 g ok=>ah1 (H1:=H2) H2 G2 (.refl _) g ok
theorem aF1 {tg l:Expr} {te:bU} (hl:cU X l te):PIS X tg l (ah2 te):=by
  intro pins s σ H R I h
  obtain ⟨ρ,G,R3,sr,g,q,k⟩:=h
  refine dN (hl pins s σ H (fun v H1=>Ts H H1∧∃ x G1,RD X.K H1 x v∧HR X.K H1 G1∧(match x with
    | .ref p=>(match aO G1 p with
      | some xs=>R3 (.lst p xs) G1
      | none=>False)
    | .str z=>R3 (.imm (signs z)) G1
    | .tup xs=>xs.all scD=true∧∀ a,(G1 a=none∨G1 a=some (.tpl xs))→R3 (.tpl a xs) (aN G1 a (.tpl xs))
    | _=>False)) I ⟨ρ,G,_,sr,g,q,fun v H1 x G1 t1 r g1 q1=>⟨t1,x,G1,r,g1,q1⟩⟩) fun v s1 ⟨x,H1,I1,r1,t1,d,G1,rd,g1,q1⟩=>?_
  cases rd with
  | ref a =>
    have q1':(match aO G1 a with
      | some xs=>R3 (.lst a xs) G1
      | none=>False):=q1
    split at q1'
    · rename_i xs e
      cases r1
      obtain ⟨vs,hq,rv⟩:=bY g1 e
      obtain ⟨its,rv',p,hz⟩:=I1.list hq
      refine wpAny_pyIter_list p.isList ?_
      refine ⟨s1.heap.objs.size,[s1.heap.objs.size],_,_,H1,rfl,I1.kept (t':=s1.toks) fun b o e=>Heap.get?_push_of_some _ e,acA a _,⟨_,Heap.get?_push_size _ rfl,rfl,rfl⟩,fun b hb=>?_,k _ _ H1 G1 t1 g1 aoN q1'⟩
      have e:b=s1.heap.objs.size:=by simpa using hb
      subst e
      exact I1.a4J (Nat.le_refl _) (I1.hok.fresh (Nat.le_refl _))
    · exact q1'.elim
  | str z =>
    obtain ⟨t,rfl⟩:=r1
    cases ha:z.cps.all (· < 128)
    · refine wpAny_pyIter_wide ha ?_
      refine ⟨s1.heap.objs.size,[s1.heap.objs.size],_,_,H1,rfl,I1.kept (t':=s1.toks) fun b o e=>Heap.get?_push_of_some _ e,acO _ z t,?_,fun b hb=>?_,k _ _ H1 G1 t1 g1 ah3 q1⟩
      · rw [Nat.zero_min];exact ⟨_,Heap.get?_push_size _ rfl,rfl,rfl⟩
      · have e:b=s1.heap.objs.size:=by simpa using hb
        subst e
        exact I1.a4J (Nat.le_refl _) (I1.hok.fresh (Nat.le_refl _))
    · refine wpAny_pyIter_ascii ha ?_
      refine ⟨s1.heap.objs.size,[s1.heap.objs.size],_,_,H1,rfl,I1.kept (t':=s1.toks) fun b o e=>Heap.get?_push_of_some _ e,acN _ z t,?_,fun b hb=>?_,k _ _ H1 G1 t1 g1 ah3 q1⟩
      · rw [Nat.zero_min];exact ⟨_,Heap.get?_push_size _ rfl,rfl,rfl⟩
      · have e:b=s1.heap.objs.size:=by simpa using hb
        subst e
        exact I1.a4J (Nat.le_refl _) (I1.hok.fresh (Nat.le_refl _))
  | @tup a vs xs hq rv =>
    cases r1
    obtain ⟨its,rv',p,hz⟩:=I1.tuple hq
    obtain ⟨sc,q1⟩:=q1
    obtain ⟨hG,g2⟩:=am5 I1 g1 hq rv sc
    refine wpAny_pyIter_tuple (show s1.heap.IsTuple a its.toArray from p) ?_
    refine ⟨s1.heap.objs.size,[s1.heap.objs.size],_,_,H1,rfl,I1.kept (t':=s1.toks) fun b o e=>Heap.get?_push_of_some _ e,a8J a _,⟨_,Heap.get?_push_size _ rfl,rfl,rfl⟩,fun b hb=>?_,k _ _ H1 _ t1 g2 arT (q1 a hG)⟩
    have e:b=s1.heap.objs.size:=by simpa using hb
    subst e
    exact I1.a4J (Nat.le_refl _) (I1.hok.fresh (Nat.le_refl _))
  | _=>exact q1.elim
theorem axJ {tg a:Expr} {ta:nT} {p pos:Pos} (hg:Gl X "range") (hm:X.mg "range" = none) (ha:PA3 X [a] ta) (hs:starEach [a] X.env=[(false,eval a X.env)]):PIS X tg (.Call (.Name "range" p) [a] [] pos) (uU ta) :=
  PI.imp (acB hg hm ha hs) fun σ H Q h=>by
  obtain ⟨ρ,G,R,s,g,q,k⟩:=h
  refine ⟨ρ,G,_,s,g,q,fun vs H1 ds G1 t1 r g1 h1=>?_⟩
  cases r with
  | nil=>exact h1.elim
  | cons r rr =>
    cases rr with
    | cons _ _=>cases r <;> exact False.elim h1
    | nil =>
      cases r with
      | int j =>
        obtain ⟨l1,l2,h1⟩:=h1
        refine ⟨j,rfl,l1,l2,k _ _ H1 G1 t1 g1 ?_ h1⟩
        unfold xO
        rw [show (j - 0).toNat=j.toNat by omega]
        exact arU
      | _=>exact False.elim h1
def nF (ti:TI3) (tg:TG3) (tb:bA):bA:=fun F ρ G=>ti ρ G fun src G1=>∃ P:Nat→aM→Gp→Prop,P 0 ρ G1∧(∀ k ρ G,k≤src.items.length→P k ρ G→src.ok G) ∧
  (∀ k d ρ G,src.items[k]?=some d→P k ρ G→tg d ρ fun ρ2=>tb { F with nx:=P (k+1),ct:=P (k+1),bk:=F.nx } ρ2 G)∧∀ ρ G,P src.items.length ρ G→F.nx ρ G
theorem aF2 {tgt iter:Expr} {body:List Stmt} {ti:TI3} {tg:TG3} {tb:bA} {pos:Pos} (hp:PassesOwn (model X.prog X.w) X.A X.env X.xe) (hi:PIS X tgt iter ti) (hg:PG3 X tgt tg) (hb:a8Q X body tb)
    (hs:∀ x,foldedSetIterable iter X.env x=pure x):PS3 X (.For tgt iter body [] pos) (nF ti tg tb):=PS.imp (aqE hp hi hg hb hs) fun F σ H h=>by
  obtain ⟨ρ,G,E,s,g,q,d⟩:=h
  refine ⟨ρ,G,fun src G1=>∃ P:Nat→aM→Gp→Prop,P 0 ρ G1∧(∀ k ρ G,k≤src.items.length→P k ρ G→src.ok G) ∧
    (∀ k d ρ G,src.items[k]?=some d→P k ρ G→tg d ρ fun ρ2=>tb { E with nx:=P (k+1),ct:=P (k+1),bk:=E.nx } ρ2 G)∧∀ ρ G,P src.items.length ρ G→E.nx ρ G,s,g,q,fun src J H1 G1 t1 g1 sj ⟨P,p0,pok,pst,pend⟩=>?_⟩
  refine agU (K:=X.K) (n:=src.items.length) (fun k σ2 H2=>∃ ρ' G',SR X.K H2 ρ' σ2∧HR X.K H2 G'∧P k ρ' G') ⟨ρ,G1,s.mono t1,g1,p0⟩ (fun σ2 H2 ⟨ρ',G',s2,g2,p⟩=>?_) (fun k σ2 H2 hk ⟨ρ',G',s2,g2,p⟩=>?_) (fun k y σ2 H2 H3 hk ⟨ρ',G',s2,g2,p⟩ hy=>?_)
    (fun σ2 H2 ⟨ρ',G',s2,g2,p⟩=>d.nx ρ' G' σ2 H2 s2 g2 (pend ρ' G' p))
  · exact (sj H2 G' g2 (pok _ ρ' G' (Nat.le_refl _) p)).2.2
  · exact (sj H2 G' g2 (pok _ ρ' G' (Nat.le_of_lt hk) p)).1 k hk
  · obtain ⟨sm,dk,e1,e2⟩:=(sj H2 G' g2 (pok _ ρ' G' (Nat.le_of_lt hk) p)).2.1 k y H3 hk hy
    refine ⟨ρ',dk,_,s2.mono (.same sm),e2,pst k dk ρ' G' e1 p,fun ρ2 σ3 s3 q3=>?_⟩
    exact ⟨ρ2,G',_,s3,g2.same sm,q3,⟨fun ρ4 G4 σ4 H4 s4 g4 q4=>⟨ρ4,G4,s4,g4,q4⟩,d.rt,d.nx,fun ρ4 G4 σ4 H4 s4 g4 q4=>⟨ρ4,G4,s4,g4,q4⟩⟩⟩
end
end L2
namespace L2
open PySem PySem.Spec PyProof.Rows
def aPN:D→Bool
  | .bl _=>true
  | _=>false
def aPO:D→Bool
  | .bl b=>b
  | _=>false
def aR8:List D→Gp→iD→Prop:=fun xs G R=>match xs with
  | [.ref q]=>(match aO G q with
    | some ds=>ds.all aPN=true∧R (.bl (ds.all aPO)) G
    | none=>False)
  | _=>False
section
variable {X:Cx}
def on2 (xs:List D) (f:Int→Int→Prop):Prop:=match xs with
  | [.int i,.int j]=>f i j
  | _=>False
def aBM:List D→Gp→iD→Prop:=fun xs G R=>on2 xs fun i j=>R (.int (if j < i then j else i)) G
def aBN:List D→Gp→iD→Prop:=fun xs G R=>on2 xs fun i j=>R (.int (if i < j then j else i)) G
theorem ah4 {K:Fg} {H:Hp} {xs:List D} {vs:List V} (r:cL K H xs vs) {f:Int→Int→Prop} (h:on2 xs f):∃ i j,xs=[.int i,.int j]∧vs=[.int i,.int j]∧f i j:=by
  match xs,vs,r,h with
  | [],_,_,h=>exact h.elim
  | [_],_,.cons r .nil,h=>cases r <;> exact False.elim h
  | [_,_],_,.cons r (.cons r' .nil),h =>
    cases r with
    | int i =>
      cases r' with
      | int j=>exact ⟨i,j,rfl,rfl,h⟩
      | _=>exact False.elim h
    | _=>cases r' <;> exact False.elim h
  | _ :: _ :: _ :: _,_,.cons r (.cons r' _),h=>cases r <;> cases r' <;> exact False.elim h
theorem aKZ (hc:X.calm=true):cM X (.builtin "min") aBM:=cM.of (ao3 hc) fun H xs vs G R Q rx g q k=>by
  obtain ⟨i,j,rfl,rfl,q'⟩:=ah4 (f:=fun i j=>R (.int (if j < i then j else i)) G) rx q
  exact ⟨i,j,rfl,fun _=>k _ H _ G (.refl H) (.int _) g q'⟩
theorem aL0 (hc:X.calm=true):cM X (.builtin "max") aBN:=cM.of (ao2 hc) fun H xs vs G R Q rx g q k=>by
  obtain ⟨i,j,rfl,rfl,q'⟩:=ah4 (f:=fun i j=>R (.int (if i < j then j else i)) G) rx q
  exact ⟨i,j,rfl,fun _=>k _ H _ G (.refl H) (.int _) g q'⟩
end
end L2
namespace L2
open PySem PySem.Spec PyProof.Rows
def onN (x:D) (f:Int→Prop):Prop:=match x with
  | .int k=>f k
  | _=>False
section
variable {X:Cx} {pos:Pos}
def aF3 (is:List Nat) (te:bU):bA:=fun F ρ G=>te ρ G fun d G1=>a2R is d ρ fun ρ2=>F.nx ρ2 G1
def aL2 (i:Nat) (f:Int→Int→Int) (te:bU):bA:=fun F ρ G=>aB i ρ G fun x G0=>onN x fun a=>te ρ G0 fun y G1=>onN y fun b=>F.nx (rR ρ i (.int (f a b))) G1
end
theorem ints_of {K:Fg} {H:Hp}:∀ {ns:List Int} {vs:List V} {us:List Value},cL K H (ns.map D.int) vs→Vals vs us→∃ ys:List (Int×Tok),us=ys.map (fun p=>Value.int p.1 p.2)∧ys.map (·.1)=ns
  | [],_,_,r,v=>by cases r;cases v;exact ⟨[],rfl,rfl⟩
  | n :: ns,_,_,r,v=>by
    cases r with
    | cons h r =>
      cases h with
      | int i =>
        cases v with
        | cons hu v =>
          obtain ⟨t,rfl⟩:=hu
          obtain ⟨ys,e1,e2⟩:=ints_of r v
          exact ⟨(n,t) :: ys,by rw [e1];rfl,by rw [List.map_cons,e2]⟩
def aoO (xs:List D) (G:Gp) (P:List D→Prop) (O:Prop):Prop:=match xs with
  | [.ref q]=>(match aO G q with
    | some ds=>P ds
    | none=>False)
  | _=>O
def am6:List D→Gp→iD→Prop:=fun xs G R=>aoO xs G (fun ds=>∃ ns:List Int,ds=ns.map D.int∧R (.int ns.sum) G) False
section
variable {X:Cx}
theorem aF4 {H:Hp} {xs:List D} {vs:List V} {us:List Value} {P:List D→Prop} {O:Prop} {pins:List (Addr×Obj)} {s:Shared} {σ:St} {G:Gp} (I:Inv X pins σ H s) (rx:cL X.K H xs vs) (rv:Vals vs us) (g:HR X.K H G)
    (h:aoO xs G P O):(∃ a ds ys its,us=[.ref a]∧cL X.K H ds ys∧Vals ys its∧s.heap.IsList a its.toArray∧P ds)∨O:=by
  cases rx with
  | nil=>exact .inr h
  | cons r1 rr =>
    cases rr with
    | cons _ _=>cases r1 <;> exact .inr h
    | nil =>
      cases r1 with
      | ref a =>
        obtain ⟨u,rfl,ru⟩:=vals1 rv
        cases ru
        have q':(match aO G a with
          | some ds=>P ds
          | none=>False):=h
        split at q'
        · rename_i ds e1
          obtain ⟨ys,hq,r1⟩:=bY g e1
          obtain ⟨its,rv',p,hz⟩:=I.list hq
          exact .inl ⟨a,ds,ys,its,rfl,r1,rv',p.isList,q'⟩
        · exact q'.elim
      | _=>exact .inr h
theorem int_list {s:Shared} {a:Addr} {zs:List (Int×Tok)} (p:s.heap.IsList a (zs.map fun p=>Value.int p.1 p.2).toArray):s.heap.IsList a (intItems zs.toArray):=by
  have:intItems zs.toArray=(zs.map fun p=>Value.int p.1 p.2).toArray:=by simp [intItems]
  rw [this];exact p
theorem aL3 (hc:X.calm=true):cM X (.builtin "sum") am6:=by
  intro pins s σ H xs vs us G R Q I rx rv g q k
  rcases aF4 I rx rv g q with ⟨a,ds,ys,its,rfl,r1,rv',p,ns,rfl,q'⟩ | z
  · obtain ⟨zs,rfl,e2⟩:=ints_of r1 rv'
    refine sum_intListG (I.ok.hd hc) (int_list p) fun h' tk t' kk=>?_
    have e3:preSum (numAt zs.toArray) zs.toArray.size=ns.sum:=by
      rw [preSum_eq,List.take_of_length_le (by simp)]
      rw [← e2]
    rw [e3]
    exact ⟨.int _,H,I.kept kk,⟨t',rfl⟩,k _ H _ G (.refl H) (.int _) g q'⟩
  · exact z.elim
def xP:List D→Gp→iD→Prop:=fun xs G R=>aoO xs G (fun ds=>∃ ns:List Int,ds=ns.map D.int∧ns≠[]∧∀ M,M∈ns→(∀ a∈ns,a≤M)→R (.int M) G) (aBN xs G R)
def xQ:List D→Gp→iD→Prop:=fun xs G R=>aoO xs G (fun ds=>∃ ns:List Int,ds=ns.map D.int∧ns≠[]∧∀ M,M∈ns→(∀ a∈ns,M≤a)→R (.int M) G) (aBM xs G R)
theorem ajZ {zs:List (Int×Tok)} {ns:List Int} (e2:zs.map (·.1)=ns) {j:Nat} (h:j < zs.toArray.size):numAt zs.toArray j∈ns:=by
  rw [numAt_eq,← e2]
  exact getD_mem (by simpa using h)
theorem ak0 {zs:List (Int×Tok)} {ns:List Int} (e2:zs.map (·.1)=ns) {a:Int} (h:a∈ns):∃ j,j < zs.toArray.size∧numAt zs.toArray j=a:=by
  rw [← e2] at h
  obtain ⟨j,hj,rfl⟩:=mem_getD h
  exact ⟨j,by simpa using hj,by rw [numAt_eq]⟩
theorem aF5 (hc:X.calm=true):cM X (.builtin "max") xP:=by
  intro pins s σ H xs vs us G R Q I rx rv g q k
  rcases aF4 I rx rv g q with ⟨a,ds,ys,its,rfl,r1,rv',p,ns,rfl,hne,q'⟩ | z
  · obtain ⟨zs,rfl,e2⟩:=ints_of r1 rv'
    have hsz:0 < zs.toArray.size:=by
      cases zs with
      | nil=>exact absurd e2.symm hne
      | cons _ _=>simp
    refine max_intList (I.ok.hd hc) (int_list p) hsz fun v h' tk hv kk=>?_
    obtain ⟨t,rfl⟩:=intItems_at hv
    obtain ⟨h1,h2⟩:=argBest_gt (numAt zs.toArray) (zs.toArray.size - 1)
    refine ⟨.int _,H,I.kept kk,⟨t,rfl⟩,k _ H _ G (.refl H) (.int _) g (q' _ (ajZ e2 (by omega)) fun a ha=>?_)⟩
    obtain ⟨j,hj,rfl⟩:=ak0 e2 ha
    exact h2 j (by omega)
  · exact aL0 hc pins s σ H _ vs us G R Q I rx rv g z k
theorem aF6 (hc:X.calm=true):cM X (.builtin "min") xQ:=by
  intro pins s σ H xs vs us G R Q I rx rv g q k
  rcases aF4 I rx rv g q with ⟨a,ds,ys,its,rfl,r1,rv',p,ns,rfl,hne,q'⟩ | z
  · obtain ⟨zs,rfl,e2⟩:=ints_of r1 rv'
    have hsz:0 < zs.toArray.size:=by
      cases zs with
      | nil=>exact absurd e2.symm hne
      | cons _ _=>simp
    refine min_intList (I.ok.hd hc) (int_list p) hsz fun v h' tk hv kk=>?_
    obtain ⟨t,rfl⟩:=intItems_at hv
    obtain ⟨h1,h2⟩:=argBest_lt (numAt zs.toArray) (zs.toArray.size - 1)
    refine ⟨.int _,H,I.kept kk,⟨t,rfl⟩,k _ H _ G (.refl H) (.int _) g (q' _ (ajZ e2 (by omega)) fun a ha=>?_)⟩
    obtain ⟨j,hj,rfl⟩:=ak0 e2 ha
    exact h2 j (by omega)
  · exact aKZ hc pins s σ H _ vs us G R Q I rx rv g z k
end
end L2
namespace L2
open PySem PySem.Spec PyProof.Rows
def ok2 (G:Gp) (x y:D):Bool:=match x,y with
  | .ref p,.ref q=>(match aO G p,aO G q with
    | some xs,some ys=>xs.all (aL 17)&&ys.all (aL 17)
    | _,_=>false)
  | x,y=>aL 18 x&&aL 18 y
def eq2 (G:Gp) (x y:D):Bool:=match x,y with
  | .ref p,.ref q=>(match aO G p,aO G q with
    | some xs,some ys=>jH xs ys
    | _,_=>false)
  | x,y=>eqP x y
def arV (G:Gp):List D→List D→Bool
  | x :: xs,y :: ys=>ok2 G x y&&arV G xs ys
  | _,_=>true
def arW (G:Gp):List D→List D→Bool
  | [],[]=>true
  | x :: xs,y :: ys=>eq2 G x y&&arW G xs ys
  | _,_=>false
section
variable {X:Cx}
def aL4 (G:Gp) (x y:D) (k:Bool→Prop):Prop:=match x,y with
  | .tup xs,.tup ys=>arV G xs ys=true∧k (arW G xs ys)
  | .ref a,.ref b=>(match aO G a,aO G b with
    | some xs,some ys=>arV G xs ys=true∧k (arW G xs ys)
    | _,_=>False)
  | _,_=>False
def aL5:R3:=fun x y G R=>aL4 G x y fun b=>R (.bl b) G
def aL6:R3:=fun x y G R=>aL4 G x y fun b=>R (.bl (!b)) G
end
end L2
namespace L2
open PySem PySem.Spec PyProof.Rows
section
variable {X:Cx} {C:Addr} {bmB bmN:List Value} {B Bn newId nid initId inN:String} {x:Str} {np cpos:Pos} {e:Expr} {es:List Expr} {t:nT}
def am7 (C:Addr) (t:nT):bU:=fun ρ G R=>t ρ G fun ds G1=>ds.length≤sizeLine∧∀ x,G1 x=none→R (.ref x) (aN G1 x (.exn C))
theorem arX {pins:List (Addr×Obj)} {σ:St} {H:Hp} {s:Shared} {h':Heap} {x:Addr} {us:List Value} (I:Inv X pins σ H s) (hm:Heap.MadeExcOf s.heap h' x (.ref C) us) :
    ∃ o vs,H x=none∧Inv X pins σ (upd H x (.nZ o (.ext (agR C x)))) { s with heap:=h' }∧o.data = .fields vs∧vs[2]?=some .none:=by
  obtain ⟨t,e1,_,_⟩:=hm.there
  have nxH:H x=none:=ar9 I.hok hm.new
  refine ⟨{ cls := .ref C,data := .fields #[.ref t,.none,.none,.none,.bool false,.none] },#[.ref t,.none,.none,.none,.bool false,.none],nxH,?_,rfl,rfl⟩
  generalize ho:({ cls := .ref C,data := .fields #[.ref t,.none,.none,.none,.bool false,.none] }:Obj)=o at e1
  have sn:Same H (upd H x (.nZ o (.ext (agR C x)))):=bB nxH
  have nst:∀ b u,s.heap.get? b=some u→b≠x:=fun b u e z=>by subst z;rw [hm.new] at e;cases e
  refine I.call' (ch:=[]) (s':={ s with heap:=h' }) rfl ⟨fun b u e n _ _=>hm.keeps b u e,fun b u e n _ _=>⟨u.slots,hm.keeps b u e⟩,fun b u e n _=>by rw [aU (nst b u e)];exact n,fun b u e _=>⟨u,hm.keeps b u e⟩,fun b xs z=>sn _ _ z,fun b u v z=>sn _ _ z,fun b ps z=>⟨#[],by rw [Array.append_empty];exact sn _ _ z⟩⟩ (fun b u e=>?_) I.bare fun b z=>absurd z (by simp)
  by_cases hb:b=x
  · subst hb
    rw [aK] at e;cases e
    exact ⟨e1,⟨o,_,e1,by rw [← ho],by rw [← ho]⟩,⟨o,e1⟩,fun h1 h2 ⟨o1,w1,e1,e2,e3⟩ k=>⟨o1,w1,k _ e1,e2,e3⟩⟩
  · rw [aU hb] at e
    exact ((I.hok.kept hm.keeps) b u e).stay (fun _ _ _ z=>z) (fun c z=>sn _ _ z) fun c xs z=>sn _ _ z
theorem ah5 {pins:List (Addr×Obj)} {σ:St} {H:Hp} {s:Shared} {us:List Value} {G:Gp} {R:iD} {Q:VK} (Fn:ExcBaseFacts Bn newId inN bmN) (hBn:bmB.contains (.type Bn)=true) (FB:ExcBaseFacts B nid initId bmB) (hq:PySem.W.excIn X.K C bmB newId=true) (I:Inv X pins σ H s) (g:HR X.K H G) (hl:us.length≤sizeLine) (q:∀ x,G x=none→R (.ref x) (aN G x (.exn C)))
    (k:∀ v H' d G',Ts H H'→RD X.K H' d v→HR X.K H' G'→R d G'→Q v H'):wpAny (model X.prog X.w) X.A (call (.ref C) us) (EP X pins σ Q) X.xe s:=by
  obtain ⟨tl,N,nm,q',bs,hdct,sn,sub,ab,col,dd',k0,k1,k2,k3,k5,mN,hC,hN,hni,T⟩:=a85 I.mod.kin hq
  obtain ⟨h,g0,d0,t0,os0⟩:=s
  refine wpAny_call_exc_subU (hrest:=hl) Fn hBn FB (T.keeps I.bk) (I.bk _ _ hC) (hN.keeps I.bk) hni fun h' x hm=>?_
  obtain ⟨o,vs,nx,J,d1,d2⟩:=arX I hm
  have sn:Same H (upd H x (.nZ o (.ext (agR C x)))):=bB nx
  exact ⟨.ref x,_,J,rfl,k _ _ _ _ (.same sn) (.ref x) (g.put (u := .exn C) nx ⟨o,vs,aK,d1,d2⟩) (q x (nC (K:=X.K) g nx (xF (X:=X) J)))⟩
theorem aL7 (Fn:ExcBaseFacts Bn newId inN bmN) (hBn:bmB.contains (.type Bn)=true) (FB:ExcBaseFacts B nid initId bmB) (hg:Gl X x) (hm:X.mg x=some (.ref C)) (hq:PySem.W.excIn X.K C bmB newId=true) (ha:PA3 X (e :: es) t) (hd:(x == ("__debug__" : Str))=false)
    (he:starEach (e :: es) X.env=(false,eval e X.env) :: starEach es X.env) (hpl:(backTo cpos (starEach es X.env)).any (·.1)=false):cU X (.Call (.Name x np) (e :: es) [] cpos) (am7 C t):=by
  intro pins s σ H Q I h
  obtain ⟨ρ,G,R,sr,g,q,kk⟩:=h
  obtain ⟨tl,N,nm,q',bs,hdct,sn,sub,ab,col,dd',k0,k1,k2,k3,k5,mN,hC,hN,hni,T⟩:=a85 I.mod.kin hq
  refine wpAny_Call_ofName (qP I hg hm ?_ hd)
  unfold callWith
  have hA:=ha cpos pins s σ H (fun vs H1=>Ts H H1∧∃ ds G1,cL X.K H1 ds vs∧HR X.K H1 G1∧ds.length≤sizeLine∧∀ x,G1 x=none→R (.ref x) (aN G1 x (.exn C))) I ⟨ρ,G,_,sr,g,q,fun vs H1 ds G1 t1 r1 g1 q1=>⟨t1,ds,G1,r1,g1,q1.1,q1.2⟩⟩
  have hp2:(backTo cpos (starEach (e :: es) X.env)).any (·.1)=false:=by rw [he];show (false || (backTo cpos (starEach es X.env)).any (·.1))=false;rw [hpl];rfl
  rw [he] at hA hp2 ⊢
  refine wpAny_bind (wpAny_holding (Calls.evalArgs_plain (dN hA fun us s2 ⟨vs,H2,I2,r2,t1,ds,G1,r1,g1,hl,q1⟩=>wpAny_bind (wpAny_standAt ?_))))
  have hl2:us.length≤sizeLine:=by rw [← r2.length,← r1.length];exact hl
  simp only [hp2]
  obtain ⟨h0,g0,d0,t0,os0⟩:=s2
  refine wpAny_bind (wpAny_keeperOf_exc (I2.bk _ _ hC) ?_)
  refine wpAny_bind (dN (ah5 Fn hBn FB hq I2 g1 hl2 q1 fun v H' d G' t3=>kk v H' d G' (t1.trans t3)) fun v s3 q3=>wpAny_bind (wpAny_holding (wpAny_point (wpAny_pure q3))))
theorem aF7 (Fn:ExcBaseFacts Bn newId inN bmN) (hBn:bmB.contains (.type Bn)=true) (FB:ExcBaseFacts B nid initId bmB) (hg:Gl X x) (hm:X.mg x=some (.ref C)) (hq:PySem.W.excIn X.K C bmB newId=true) (hd:(x == ("__debug__" : Str))=false):cU X (.Call (.Name x np) [] [] cpos) (am7 C aG):=by
  intro pins s σ H Q I h
  obtain ⟨ρ,G,R,sr,g,⟨hl,q⟩,kk⟩:=h
  obtain ⟨tl,N,nm,q',bs,hdct,sn,sub,ab,col,dd',k0,k1,k2,k3,k5,mN,hC,hN,hni,T⟩:=a85 I.mod.kin hq
  refine wpAny_Call_ofName (qP I hg hm ?_ hd)
  unfold callWith
  refine wpAny_bind (wpAny_holding (PySem.evalArgs_none (wpAny_bind (wpAny_standAt ?_))))
  obtain ⟨h0,g0,d0,t0,os0⟩:=s
  refine wpAny_bind (wpAny_keeperOf_exc (I.bk _ _ hC) ?_)
  refine wpAny_bind (dN (ah5 (us:=[]) Fn hBn FB hq I g (Nat.zero_le _) q kk) fun v s3 q3=>wpAny_bind (wpAny_holding (wpAny_point (wpAny_pure q3))))
end
end L2
namespace L2
open PySem PySem.Spec PyProof.Rows
def aL8 (C:Addr) (f:Str) (x:D) (G:Gp) (R:iD):Prop:=match x with
  | .ref a=>(match G a with
    | some (.ins C' fs)=>C'=C∧(match fs.lookup f with
      | some d=>R d G
      | none=>False)
    | _=>False)
  | _=>False
def aL9 (C:Addr) (ta:bU) (f:Str):bU:=fun ρ G R=>ta ρ G fun x G1=>aL8 C f x G1 R
def aBO (f:Str) (d:D):List (Str×D)→List (Str×D)
  | []=>[(f,d)]
  | (g,x) :: r=>if g=f then (g,d) :: r else (g,x) :: aBO f d r
section
variable {X:Cx} {o e value:Expr} {f:Str} {C:Addr} {pos pos':Pos} {ta tv:bU}
def aBP (C:Addr) (f:Str) (x y:D) (F:cZ) (ρ:aM) (G:Gp):Prop:=match x with
  | .ref a=>(match G a with
    | some (.ins C' fs)=>C'=C∧fs.length < 1000∧F.nx ρ (aN G a (.ins C (aBO f y fs)))
    | _=>False)
  | _=>False
def aF8 (C:Addr) (ta tv:bU) (f:Str):bA:=fun F ρ G=>tv ρ G fun y G1=>ta ρ G1 fun x G2=>aBP C f x y F ρ G2
end
section
variable {X:Cx} {qt:Bool} {k:Nat} {f C:Addr} {fd:FuncData} {ps:List Str} {sp:uL} {EX:aM→aW} {x m:Str} {p pos apos:Pos} {o e:Expr} {es:List Expr} {t:nT} {ta:bU} {dd:List D} {dvs:List V} {ds:List Value}
def aBQ (C:Addr) (m:Str) (x:D) (G:Gp):Prop:=∃ a fs,x = .ref a∧G a=some (.ins C fs)∧fs.lookup m=none
def aF9 (C:Addr) (m:Str) (sp:uL) (dd:List D) (EX:aM→aW) (ta:bU) (t:nT):bU:=fun ρ G R=>ta ρ G fun x G1=>aBQ C m x G1∧t ρ G1 fun ds G2=>sp (x :: (ds++dd)) G2 R (EX ρ)
def aeB (C:Addr) (sp:uL) (dd:List D) (EX:aM→aW) (t:nT):bU:=fun ρ G R=>t ρ G fun ds G1=>∀ x,G1 x=none→sp (.ref x :: (ds++dd)) (aN G1 x (.ins C [])) (fun v G2=>v = .non∧R (.ref x) G2) (EX ρ)
theorem acT {pins:List (Addr×Obj)} {σ:St} {H:Hp} {s:Shared} {G:Gp} {R:iD} {Q:VK} {us:List Value} {vs:List V} {tE:List D} {ρ:aM} (M:Mk X.K C f) (F:cT qt X.prog X.w X.K X.mg X.base (oY X.prog X.w) k f fd ps (dZ X.K sp)) (hr:iG qt (k+1) X.A) (hb:Binds X.K fd ps ds) (hd:Vals dvs ds) (hdd:∀ H,cL X.K H dd dvs) (hx:Cat X EX)
    (I:Inv X pins σ H s) (sr:SR X.K H ρ σ) (g:HR X.K H G) (r:Vals vs us) (r2:cL X.K H tE vs) (h:∀ x,G x=none→sp (.ref x :: (tE++dd)) (aN G x (.ins C [])) (fun v G2=>v = .non∧R (.ref x) G2) (EX ρ))
    (hQ:∀ v H' d G',Ts H H'→RD X.K H' d v→HR X.K H' G'→R d G'→Q v H'):wpAny (model X.prog X.w) X.A (call (.ref C) us) (EP X pins σ Q) X.xe s:=by
  have n1:H (s.heap.objs.size+1)=none:=I.hok.fresh (Nat.le_succ _)
  have n0:H s.heap.objs.size=none:=I.hok.fresh (Nat.le_refl _)
  have ne:s.heap.objs.size+1≠s.heap.objs.size:=Nat.succ_ne_self _
  have I2:=Inv.made (C:=C) I
  have kl:X.K.lookup (s.heap.objs.size+1)=none:=by
    cases q:X.K.lookup (s.heap.objs.size+1) with
    | none=>rfl
    | some u=>have:=xF I2 _ u q;rw [aK] at this;cases this
  have gn:G (s.heap.objs.size+1)=none:=nC (o := .ins C s.heap.objs.size []) g n1 fun b u e=>by
    by_cases c:b=s.heap.objs.size+1
    · subst c;rw [kl] at e;cases e
    · rw [aU c];exact xF I b u e
  have t1:Ts H (upd H s.heap.objs.size (.own (s.heap.objs.size+1))) := .same (bB n0)
  have n1':upd H s.heap.objs.size (.own (s.heap.objs.size+1)) (s.heap.objs.size+1)=none:=by rw [aU ne];exact n1
  have t2:Ts (upd H s.heap.objs.size (.own (s.heap.objs.size+1))) (upd (upd H s.heap.objs.size (.own (s.heap.objs.size+1))) (s.heap.objs.size+1) (.ins C s.heap.objs.size [])) := .same (bB n1')
  have g1:HR X.K (upd H s.heap.objs.size (.own (s.heap.objs.size+1))) G:=g.same (bB n0)
  have g2:HR X.K (upd (upd H s.heap.objs.size (.own (s.heap.objs.size+1))) (s.heap.objs.size+1) (.ins C s.heap.objs.size [])) (aN G (s.heap.objs.size+1) (.ins C [])):=g1.put n1' ⟨s.heap.objs.size,[],aK,.nil⟩
  have hq:dZ X.K sp (V.ref (s.heap.objs.size+1) :: (vs++dvs)) (upd (upd H s.heap.objs.size (.own (s.heap.objs.size+1))) (s.heap.objs.size+1) (.ins C s.heap.objs.size [])) (fun v H'=>v = .non∧∃ G',HR X.K H' G'∧R (.ref (s.heap.objs.size+1)) G') (a6A X.K (EX ρ)) :=
    ⟨.ref (s.heap.objs.size+1) :: (tE++dd),_,_,EX ρ,.cons (.ref _) (((r2.mono t1).mono t2).append (hdd _)),g2,h _ gn,fun v H' d G' r3 g3 q3=>by
      obtain ⟨rfl,q3⟩:=q3
      cases r3
      exact ⟨rfl,G',g3,q3⟩,fun C H' G' g' q'=>⟨C,G',rfl,g',q'⟩⟩
  have rr:Vals (V.ref (s.heap.objs.size+1) :: (vs++dvs)) (Value.ref (s.heap.objs.size+1) :: (us++ds)) := .cons rfl (r.append hd)
  have hl:(Value.ref (s.heap.objs.size+1) :: us++ds).length=ps.length:=by
    have e:=rr.length
    rw [F.len _ _ _ _ hq] at e
    exact e.symm
  refine wpAny_call (aqK (f:=f) I.kIn M.makes M.init (beq_iff_eq.mp M.fn) (codeAny_mono (F.run _ X.stack _ _ ⟨Value.ref (s.heap.objs.size+1) :: us,[]⟩ (Value.ref (s.heap.objs.size+1) :: (us++ds)) _ _ _ (hr.make C us [])
    (I2.env0.make C us []) (hb _ (Value.ref (s.heap.objs.size+1) :: us) I2.kIn hl) rr hq) fun r s' hq'=>?_))
  cases r with
  | error e=>exact hx.alX pins σ _ _ ρ e s' I2 ((sr.mono t1).mono t2) hq'
  | ok fl =>
    cases fl with
    | ret u =>
      obtain ⟨v,H',os,bare,un,hok,rv,ev,G',g3,q3⟩:=hq'
      subst ev
      exact ⟨rv,⟨V.ref (s.heap.objs.size+1),H',I2.call' (ch:=[]) os un hok bare (fun b z=>absurd z (by simp)),rfl,hQ _ H' (.ref _) G' ((t1.trans t2).trans ⟨un.tups,un.lJ⟩) (.ref _) g3 q3⟩⟩
    | next=>exact False.elim hq'
    | brk=>exact False.elim hq'
    | cont=>exact False.elim hq'
theorem axK (M:Mk X.K C f) (F:cT qt X.prog X.w X.K X.mg X.base (oY X.prog X.w) k f fd ps (dZ X.K sp)) (hr:iG qt (k+1) X.A) (hg:Gl X x) (hm:X.mg x=some (.ref C)) (hb:Binds X.K fd ps ds) (hd:Vals dvs ds) (hdd:∀ H,cL X.K H dd dvs) (hx:Cat X EX)
    (ha:PA3 X (e :: es) t) (hdb:(x == ("__debug__" : Str))=false) (he:starEach (e :: es) X.env=(false,eval e X.env) :: starEach es X.env) (hpl:(backTo pos (starEach es X.env)).any (·.1)=false) :
    cU X (.Call (.Name x p) (e :: es) [] pos) (aeB C sp dd EX t):=by
  intro pins s σ H Q I h
  obtain ⟨ρ,G,R,sr,g,q,kk⟩:=h
  refine wpAny_Call_Name_kw (qP I hg hm ?_ hdb)
  refine PySem.W.callWith_K (h₀:=X.base) I.ok.mod.kin M.kp (dN (ha pos pins s σ H (fun vs H1=>Ts H H1∧∃ ds G1,cL X.K H1 ds vs∧HR X.K H1 G1∧∀ x,G1 x=none→sp (.ref x :: (ds++dd)) (aN G1 x (.ins C [])) (fun v G2=>v = .non∧R (.ref x) G2) (EX ρ)) I ⟨ρ,G,_,sr,g,q,fun vs H1 ds G1 t1 r1 g1 q1=>⟨t1,ds,G1,r1,g1,q1⟩⟩) fun us s1 ⟨vs,H1,I1,r,t1,ds,G1,r1,g1,q1⟩=>⟨I1.kIn,?_⟩) he hpl
  exact acT M F hr hb hd hdd hx I1 (sr.mono t1) g1 r r1 q1 fun v H' d G' t2=>kk v H' d G' (t1.trans t2)
theorem arY (M:Mk X.K C f) (F:cT qt X.prog X.w X.K X.mg X.base (oY X.prog X.w) k f fd ps (dZ X.K sp)) (hr:iG qt (k+1) X.A) (hg:Gl X x) (hm:X.mg x=some (.ref C)) (hb:Binds X.K fd ps ds) (hd:Vals dvs ds) (hdd:∀ H,cL X.K H dd dvs) (hx:Cat X EX)
    (hdb:(x == ("__debug__" : Str))=false):cU X (.Call (.Name x p) [] [] pos) (aeB C sp dd EX aG):=by
  intro pins s σ H Q I h
  obtain ⟨ρ,G,R,sr,g,q,kk⟩:=h
  refine wpAny_Call_Name_kw (qP I hg hm ?_ hdb)
  exact PySem.W.callWith_K0 I.kIn M.kp (acT (us:=[]) (vs:=[]) (tE:=[]) M F hr hb hd hdd hx I sr g .nil .nil q fun v H' d G' t2=>kk v H' d G' t2)
end
end L2
namespace L2
open PySem PySem.Spec PyProof.Rows
section
variable {X:Cx} {pins:List (Addr×Obj)} {σ:St} {H:Hp} {s:Shared} {h':Heap}
theorem Inv.am8 {ch:List Addr} {t':Nat} (I:Inv X pins σ H s) (k:∀ b u,b ∉ ch→s.heap.get? b=some u→h'.get? b=some u) (hc:∀ b∈ch,a2G X pins H b):Inv X pins σ H { s with heap:=h',toks:=t' }:=by
  have nit:∀ b u,H b=some u→b ∉ ch:=fun b u e z=>by rw [(hc b z).1] at e;cases e
  refine I.step (g':=s.gens) (d':=s.drawn) (ch:=ch) (fun b hb=>?_) (fun b o _ _ hn e _=>k b o hn e) (fun b o _ _ hn e _=>⟨o.slots,k b o hn e⟩) (fun _ _ _ _ n=>n) (fun b o hn e=>⟨o,k b o hn e⟩) (fun _ _ e=>e) (fun _ _ _ e=>e) (fun b ps e=>⟨#[],by rw [e];simp⟩) (fun m hm=>?_) (fun b u e=>?_) I.bare
  · obtain ⟨_,f1,_,f3,f4,f5⟩:=hc b hb
    exact ⟨f3,f1,f4,f5⟩
  · obtain ⟨o,es,ep,ho,r⟩:=hm
    exact ⟨o,es,ep,k _ o (fun z=>(hc _ z).2.1 rfl) ho,r⟩
  · refine (I.hok b u e).stay (fun c v hcc q=>k c v ?_ q) (fun _ q=>q) fun _ _ q=>q
    rcases hcc with z | z
    · rw [z];exact nit b u e
    · exact nit c _ z
theorem Inv.a4Y {ch:List Addr} {a:Addr} {o:HO} {t':Nat} (I:Inv X pins σ H s) (k:∀ b u,b ∉ ch→s.heap.get? b=some u→h'.get? b=some u) (hc:∀ b∈ch,a2G X pins H b) (ha:s.heap.objs.size≤a) (new:fQ X.prog X.w (upd H a o) h' a o):Inv X pins σ (upd H a o) { s with heap:=h',toks:=t' }:=by
  have nit:∀ b u,H b=some u→b ∉ ch:=fun b u e z=>by rw [(hc b z).1] at e;cases e
  have fr:H a=none:=I.hok.fresh ha
  have sn:Same H (upd H a o):=bB fr
  have na:∀ b u,s.heap.get? b=some u→b≠a:=fun b u e z=>absurd (Nat.lt_of_lt_of_le (Heap.lt_size e) (z ▸ ha)) (Nat.lt_irrefl _)
  refine I.step (g':=s.gens) (d':=s.drawn) (ch:=ch) (fun b hb=>?_) (fun b o _ _ hn e _=>k b o hn e) (fun b o _ _ hn e _=>⟨o.slots,k b o hn e⟩) (fun b u _ e n=>by rw [aU (na b u e)];exact n) (fun b o hn e=>⟨o,k b o hn e⟩) (fun b xs e=>sn _ _ e) (fun b o u e=>sn _ _ e) (fun b ps e=>⟨#[],by rw [sn _ _ e];simp⟩) (fun m hm=>?_) (fun b u e=>?_) I.bare
  · obtain ⟨_,f1,_,f3,f4,f5⟩:=hc b hb
    exact ⟨f3,f1,f4,f5⟩
  · obtain ⟨o,es,ep,ho,r⟩:=hm
    exact ⟨o,es,ep,k _ o (fun z=>(hc _ z).2.1 rfl) ho,r⟩
  · by_cases hb:b=a
    · subst hb
      rw [aK] at e;cases e
      exact new
    · rw [aU hb] at e
      refine (I.hok b u e).stay (fun c v hcc q=>k c v ?_ q) (fun _ q=>sn _ _ q) fun _ _ q=>sn _ _ q
      rcases hcc with z | z
      · rw [z];exact nit b u e
      · exact nit c _ z
end
def Itz (K:Fg) (a b:Addr):It :=
  ⟨fun i H=>∃ xs ys x y,uN K H a xs∧uN K H b ys∧xs[i]?=some x∧ys[i]?=some y,
   fun i H v H'=>∃ p x y,H p=none∧v = .ref p∧H'=upd H p (.tup [x,y])∧(∀ xs,uN K H a xs→xs[i]?=some x)∧∀ ys,uN K H b ys→ys[i]?=some y,
   fun i H=>∃ xs ys,uN K H a xs∧uN K H b ys∧(xs.length≤i∨ys.length≤i)⟩
def aLA (z TI TO i1 i2 l1 l2:Addr) (i:Nat) (h:Heap):Prop:=IsZip h z TI TO .none∧IsPair h TI (.ref i1) (.ref i2)∧(∃ a b,IsPair h TO a b)∧h.IsListIter i1 l1 i∧h.IsListIter i2 l2 i
theorem arZ {tl:List (Addr×List V)} {P:Program} {w:World} {K:Fg} {es:List Expr} {kt:Nat} {pt:Pos} {z TI TO i1 i2 l1 l2:Addr} (D:ZipApart z TI TO i1 i2 l1 l2):Turn true tl P w K (.Tuple es kt pt) (Itz K l1 l2) [z,TI,TO,i1,i2] z (aLA z TI TO i1 i2 l1 l2) where
  mem:=by simp
  obj:=fun i h st b hb=>by
    obtain ⟨hz,hTI,⟨a,c,hTO⟩,⟨o1,e1,_,d1⟩,⟨o2,e2,_,d2⟩⟩:=st
    simp only [List.mem_cons,List.not_mem_nil,or_false] at hb
    rcases hb with rfl | rfl | rfl | rfl | rfl
    · exact ⟨_,hz,fun v z=>nomatch z⟩
    · exact ⟨_,hTI,fun v z=>nomatch z⟩
    · exact ⟨_,hTO,fun v z=>nomatch z⟩
    · exact ⟨o1,e1,fun v z=>by rw [d1] at z;cases z⟩
    · exact ⟨o2,e2,fun v z=>by rw [d2] at z;cases z⟩
  keep:=fun i h h' st k=>by
    obtain ⟨hz,hTI,⟨a,c,hTO⟩,s1,s2⟩:=st
    exact ⟨k z (by simp) _ hz,k TI (by simp) _ hTI,⟨a,c,k TO (by simp) _ hTO⟩,s1.at fun o e=>k i1 (by simp) o e,s2.at fun o e=>k i2 (by simp) o e⟩
  item:=by
    intro X hP hw hK hcm ht i pins s σ H E I hf st hg
    subst hP hw hK
    obtain ⟨hz,hTI,⟨a,c,hTO⟩,s1,s2⟩:=st
    obtain ⟨xs,ys,x,y,q1,q2,e1,e2⟩:=hg
    obtain ⟨us,r1,p1,_⟩:=I.list q1
    obtain ⟨ws,r2,p2,_⟩:=I.list q2
    obtain ⟨u,hu,ru⟩:=r1.get e1
    obtain ⟨v,hv,rv⟩:=r2.get e2
    have fr:=I.hok.fresh (Nat.le_refl s.heap.objs.size)
    have lt:∀ {c o},s.heap.get? c=some o→s.heap.objs.size≠c:=fun e=>Nat.ne_of_gt (Heap.lt_size e)
    have n1:s.heap.objs.size≠i1:=by obtain ⟨_,e,_⟩:=s1;exact lt e
    have n2:s.heap.objs.size≠i2:=by obtain ⟨_,e,_⟩:=s2;exact lt e
    refine wpAny_pyNext_zip_item D hz hTI hTO s1 s2 p1.isList p2.isList (x:=u) (y:=v) (by simpa using hu) (by simpa using hv) fun h' a1 a2 a3 a4 a5 a6 kk=>?_
    refine ⟨_,rfl,wpAny_letOwnedTupleGo_zip (s:={ s with heap:=h' }) a1 fun h2 b1 sb=>?_⟩
    have k2:∀ b o,b ∉ [z,TO,i1,i2]→s.heap.get? b=some o→h2.get? b=some o:=fun b o hb e =>
      sb.extBut _ _ (fun q=>hb (by simp [q])) (kk b o (fun q=>hb (by simp [q])) (fun q=>hb (by simp [q])) (fun q=>hb (by simp [q])) (fun q=>hb (by simp [q])) e)
    have sub:∀ b∈[z,TO,i1,i2],b∈[z,TI,TO,i1,i2]:=fun b hb=>by
      simp only [List.mem_cons,List.not_mem_nil,or_false] at hb ⊢
      rcases hb with e | e | e | e <;> simp [e]
    refine ⟨.ref s.heap.objs.size,upd H s.heap.objs.size (.tup [x,y]),I.a4Y (t':=s.toks) (ch:=[z,TO,i1,i2]) k2 (fun b hb=>hf b (sub b hb)) (Nat.le_refl _) ⟨show 2≤sizeLine by decide,[u,v],.cons ru (.cons rv .nil),⟨_,sb.extBut _ _ (lt hz) a5,rfl,_,rfl⟩⟩,rfl,
      ⟨_,x,y,fr,rfl,rfl,fun xs' q=>by rw [I.a8I q q1];exact e1,fun ys' q=>by rw [I.a8I q q2];exact e2⟩,
      ⟨b1,sb.extBut _ _ D.TIz (kk _ _ D.TIz D.TITO D.TIi1 D.TIi2 hTI),⟨_,_,sb.extBut _ _ D.TOz a2⟩,a3.extBut sb.extBut D.i1z,a4.extBut sb.extBut D.i2z⟩,fun b hb=>?_⟩
    have hb2:=hb
    simp only [List.mem_cons,List.not_mem_nil,or_false] at hb2
    rw [aU]
    · exact (hf b hb).1
    · intro q
      rcases hb2 with e | e | e | e | e
      · exact lt hz (q.symm.trans e)
      · exact lt hTI (q.symm.trans e)
      · exact lt hTO (q.symm.trans e)
      · exact n1 (q.symm.trans e)
      · exact n2 (q.symm.trans e)
  done:=by
    intro X hP hw hK hcm ht i pins s σ H E I hf st hg
    subst hP hw hK
    obtain ⟨hz,hTI,⟨a,c,hTO⟩,s1,s2⟩:=st
    obtain ⟨xs,ys,q1,q2,le⟩:=hg
    obtain ⟨us,r1,p1,_⟩:=I.list q1
    obtain ⟨ws,r2,p2,_⟩:=I.list q2
    have l1:=r1.length
    have l2:=r2.length
    have sub:∀ b∈[z,TO,i1,i2],b∈[z,TI,TO,i1,i2]:=fun b hb=>by
      simp only [List.mem_cons,List.not_mem_nil,or_false] at hb ⊢
      rcases hb with e | e | e | e <;> simp [e]
    refine wpAny_pyNext_zip_end (I.ok.hd (hcm rfl)) D hz hTI hTO s1 s2 p1.isList p2.isList (le.elim (fun q => .inl (by simp;omega)) fun q => .inr (by simp;omega)) fun h' kk=>⟨rfl,?_⟩
    exact I.am8 (t':=s.toks) (ch:=[z,TO,i1,i2]) (fun b o hb e=>kk b o (fun q=>hb (by simp [q])) (fun q=>hb (by simp [q])) (fun q=>hb (by simp [q])) (fun q=>hb (by simp [q])) e) fun b hb=>hf b (sub b hb)
  self:=fun _ _ _ _ _ st h=>wpAny_pyIter_zip st.1 h
theorem axL {xs ys:List D} {i:Nat} {x y:D} (h1:xs[i]?=some x) (h2:ys[i]?=some y):(prs xs ys)[i]?=some (.tup [x,y]):=by
  unfold prs
  rw [List.getElem?_map,(List.getElem?_zip_eq_some (z:=(x,y))).mpr ⟨h1,h2⟩]
  rfl
theorem axM {xs ys:List D}:(prs xs ys).length=min xs.length ys.length:=by simp [prs]
theorem ah6 {K:Fg} {H1:Hp} {p q:Addr} {xs ys:List D}:a7F K H1 (.zip p q xs ys) (Itz K p q):=fun H2 G2 t g ok=>by
  obtain ⟨ok1,ok2⟩:aO G2 p=some xs∧aO G2 q=some ys:=ok
  obtain ⟨vs,hq1,rv1⟩:=bY g ok1
  obtain ⟨ws,hq2,rv2⟩:=bY g ok2
  have l1:=rv1.length
  have l2:=rv2.length
  have hl:(Src.zip p q xs ys).items.length=min xs.length ys.length:=axM
  refine ⟨fun i hi=>?_,fun i v H' hi hy=>?_,⟨vs,ws,hq1,hq2,by rw [hl];omega⟩⟩
  · rw [hl] at hi
    obtain ⟨x,e1,_⟩:=rv1.get (List.getElem?_eq_getElem (show i < xs.length by omega))
    obtain ⟨y,e2,_⟩:=rv2.get (List.getElem?_eq_getElem (show i < ys.length by omega))
    exact ⟨vs,ws,x,y,hq1,hq2,e1,e2⟩
  · obtain ⟨a,x,y,fr,rfl,rfl,h1,h2⟩:=hy
    obtain ⟨d1,e1,f1⟩:=rv1.ajR (h1 vs hq1)
    obtain ⟨d2,e2,f2⟩:=rv2.ajR (h2 ws hq2)
    have sn:Same H2 (upd H2 a (.tup [x,y])):=bB fr
    exact ⟨sn,.tup [d1,d2],axL e1 e2,.tup (vZ.of aK) (.cons (f1.mono (.same sn)) (.cons (f2.mono (.same sn)) .nil)) (ajQ aK)⟩
theorem as3 {K:Fg} {p q:Addr} {xs ys:List D}:a7G K (.zip p q xs ys) (Itz K p q):=fun H2 G2 g ok=>ah6 (H1:=H2) H2 G2 (.refl _) g ok
def a91 (ta:nT):TI3:=fun ρ G R=>ta ρ G fun xs G1=>match xs with
  | [.ref p,.ref q]=>(match aO G1 p,aO G1 q with
    | some xs,some ys=>R (.zip p q xs ys) G1
    | _,_=>False)
  | _=>False
section
variable {X:Cx} {es:List Expr} {kt:Nat} {pt:Pos}
theorem as4 {a b:Expr} {ta:nT} {p pos:Pos} {SJ:Hp→Src→It→Prop} (hc:X.calm=true) (hg:Gl X "zip") (hm:X.mg "zip" = none) (hv:bootBuiltins "zip" = some (.type "zip")) (ha:PA3 X [a,b] ta) (hs:starEach [a,b] X.env=[(false,eval a X.env),(false,eval b X.env)]) (hs2:starEach [b] X.env=[(false,eval b X.env)])
    (hSJ:∀ H p q xs ys,SJ H (.zip p q xs ys) (Itz X.K p q)):PI X (.Tuple es kt pt) (.Call (.Name "zip" p) [a,b] [] pos) (fun σ H Q=>∃ ρ G R,SR X.K H ρ σ∧HR X.K H G∧a91 ta ρ G R∧∀ src J H' G',Ts H H'→HR X.K H' G'→SJ H' src J→R src G'→Q J H'):=by
  intro pins s σ H R I h
  obtain ⟨ρ,G,R3,sr,g,q,k⟩:=h
  refine Call_ (a0X I hg hm hv (PyProof.Rows.callWith_type1 (dN (ha pos pins s σ H (fun vs H1=>Ts H H1∧∃ ds G1,cL X.K H1 ds vs∧HR X.K H1 G1∧(match ds with
    | [.ref p,.ref q]=>(match aO G1 p,aO G1 q with
      | some xs,some ys=>R3 (.zip p q xs ys) G1
      | _,_=>False)
    | _=>False)) I ⟨ρ,G,_,sr,g,q,fun vs H1 ds G1 t1 r1 g1 q1=>⟨t1,ds,G1,r1,g1,q1⟩⟩) fun us s1 ⟨vs,H1,I1,rr,t1,ds,G1,r1,g1,q1⟩=>?_) (by rw [hs,hs2]) (by rw [hs2];rfl)))
  split at q1
  · rename_i l1 l2
    split at q1
    · rename_i xs ys e1 e2
      cases r1 with
      | cons ra rb =>
        cases rb with
        | cons rb rc =>
          cases rc;cases ra;cases rb
          cases rr with
          | cons ra rb =>
            cases rb with
            | cons rb rc =>
              cases rc;cases ra;cases rb
              obtain ⟨zs1,hz1,_⟩:=bY g1 e1
              obtain ⟨zs2,hz2,_⟩:=bY g1 e2
              obtain ⟨u1,_,p1,_⟩:=I1.list hz1
              obtain ⟨u2,_,p2,_⟩:=I1.list hz2
              have a1:l1 < s1.heap.objs.size:=by obtain ⟨_,e,_⟩:=p1.isList;exact Heap.lt_size e
              have a2:l2 < s1.heap.objs.size:=by obtain ⟨_,e,_⟩:=p2.isList;exact Heap.lt_size e
              refine call_zip_2 p1.isList p2.isList fun h' hz hTI hTO hi1 hi2 hsz kk=>wpAny_pyIter_zip (s:={ s1 with heap:=h' }) hz ?_
              have up:∀ j,s1.heap.objs.size≤s1.heap.objs.size+j:=fun j=>Nat.le_add_right _ j
              refine ⟨_,_,_,_,H1,rfl,I1.kept (t':=s1.toks) kk,(show Turn X.calm X.tp X.prog X.w X.K (.Tuple es kt pt) _ _ _ _ from hc ▸ arZ (zipApart_new a1 a2)),⟨hz,hTI,⟨_,_,hTO⟩,hi1,hi2⟩,fun b hb=>?_,k _ _ H1 G1 t1 g1 (hSJ H1 l1 l2 xs ys) q1⟩
              have hb':s1.heap.objs.size≤b:=by
                simp only [List.mem_cons,List.not_mem_nil,or_false] at hb
                rcases hb with e | e | e | e | e <;> rw [e]
                · exact up 4
                · exact up 2
                · exact up 3
                · exact Nat.le_refl _
                · exact up 1
              exact I1.a4J hb' (I1.hok.fresh hb')
    · exact q1.elim
  · exact q1.elim
theorem aLB {a b:Expr} {ta:nT} {p pos:Pos} (hc:X.calm=true) (hg:Gl X "zip") (hm:X.mg "zip" = none) (hv:bootBuiltins "zip" = some (.type "zip")) (ha:PA3 X [a,b] ta) (hs:starEach [a,b] X.env=[(false,eval a X.env),(false,eval b X.env)]) (hs2:starEach [b] X.env=[(false,eval b X.env)]):PI3 X (.Tuple es kt pt) (.Call (.Name "zip" p) [a,b] [] pos) (a91 ta) :=
  as4 (SJ:=a7F X.K) hc hg hm hv ha hs hs2 fun _ _ _ _ _=>ah6
theorem aFA {a b:Expr} {ta:nT} {p pos:Pos} (hc:X.calm=true) (hg:Gl X "zip") (hm:X.mg "zip" = none) (hv:bootBuiltins "zip" = some (.type "zip")) (ha:PA3 X [a,b] ta) (hs:starEach [a,b] X.env=[(false,eval a X.env),(false,eval b X.env)]) (hs2:starEach [b] X.env=[(false,eval b X.env)]):PIS X (.Tuple es kt pt) (.Call (.Name "zip" p) [a,b] [] pos) (a91 ta) :=
  as4 (SJ:=fun _=>a7G X.K) hc hg hm hv ha hs hs2 fun _ _ _ _ _=>as3
end
section
variable {prog:Program} {w:World} {A:Around} {R:Result→Shared→Prop} {I:Addr} {fp wr:List Addr} {n:Nat} {P:Nat→Value→Prop} {St:Nat→Heap→Prop} {kw:List (Str×Value)}
theorem as5 (W:Walks prog w A.in1 I fp wr n P St) (bt:Nat→Nat→Bool) (hcmp:CmpOf prog w A.in1 .Gt P bt) (S:Addr) (hSf:S ∉ fp):∀ (k j:Nat) (s:Shared) (vb:Value) (c:Nat),n - (j+1)=k→j+1≤n→St (j+1) s.heap→P (argBest bt j) vb →
      s.heap.get? S=some { cls := .type "list",dict:=none,data := .seq #[vb,vb] c,slots:=#[] }→(∀ v h' tk,P (argBest bt (n - 1)) v→(∀ b o,b ∉ wr→b≠S→s.heap.get? b=some o→h'.get? b=some o)→R (.ok (.ret v)) { s with heap:=h',toks:=tk }) →
      codeAny (model prog w) A (.builtin "max.loop" ⟨[.ref I,.none,.ref S],kw⟩) R s:=by
  have nw:S ∉ wr:=fun h=>hSf (W.sub _ h)
  have nm:(toString "max" ++ toString ".loop" : String) = "max.loop" := by decide
  intro k;induction k with
  | zero =>
    intro j s vb c hk hj hst hb hS hR
    have hn:j+1=n:=by omega
    refine codeAny_builtin F.entry_max_loop ?_;rw [Around.under_plainId F.plain_max_loop _]
    show wpAny _ A.in1 (seqItems? (.ref S) >>= _) _ _ s;refine wpAny_bind (wpAny_seqItems hS rfl ?_)
    show wpAny _ A.in1 (tryCatch (pyNext (.ref I)) _ >>= _) _ _ s;refine wpAny_bind (wpAny_tryCatch (W.done s _ _ (hn ▸ hst) fun h' tk hk'=>?_))
    have z:=hk' S _ nw hS
    show wpAny _ A.in1 (updateSeq S (fun _=>#[]) >>= _) _ _ _;refine wpAny_bind ?_
    refine wpAny_updateSeq z rfl (wpAny_bind (wpAny_letGo (wpAny_pure (hR vb _ tk (by rw [← hn];exact hb) fun b o h1 h2 e=>?_))))
    exact (Heap.get?_update_other _ _ (Ne.symm h2)).trans (hk' b o h1 e)
  | succ k ih =>
    intro j s vb c hk hj hst hb hS hR
    have hn:j+1 < n:=by omega
    refine codeAny_builtin F.entry_max_loop ?_;rw [Around.under_plainId F.plain_max_loop _]
    show wpAny _ A.in1 (seqItems? (.ref S) >>= _) _ _ s;refine wpAny_bind (wpAny_seqItems hS rfl ?_)
    show wpAny _ A.in1 (tryCatch (pyNext (.ref I)) _ >>= _) _ _ s;refine wpAny_bind (wpAny_tryCatch (W.item (j+1) s _ _ hn hst fun v h' tk hP hst' hk'=>?_))
    have z:=hk' S _ nw hS
    show wpAny _ A.in1 (tryCatch (holding [v,v] (richCompare .Gt v vb >>= _)) _ >>= _) _ _ _;refine wpAny_bind (wpAny_tryCatch (wpAny_holding (wpAny_bind (hcmp (j+1) (argBest bt j) v vb _ _ _ hP hb ?_))))
    refine wpAny_bind (wpAny_holding (wpAny_truthy_bool (wpAny_bind (wpAny_letGo (wpAny_pure ?_)))))
    cases e:bt (j+1) (argBest bt j) with
    | true =>
      simp only [if_true];refine wpAny_bind ?_
      refine wpAny_updateSeq z rfl (wpAny_bind (wpAny_letGo ?_));rw [nm]
      refine wpAny_pure ⟨plainId_quiet F.plain_max_loop _,ih (j+1) _ v _ (by omega) hn (W.frame _ _ _ hst' fun b hbf o e=>?_) (by simp only [argBest,e,if_true];exact hP) (Heap.get?_update_self _ z rfl) fun v' h2 tk2 hP' hk2=>hR v' h2 tk2 hP' fun b o h1 h3 e=>?_⟩
      · exact (Heap.get?_update_other _ _ (fun h:S=b=>hSf (by rw [h];exact hbf))).trans e
      · exact hk2 b o h1 h3 ((Heap.get?_update_other _ _ (Ne.symm h3)).trans (hk' b o h1 e))
    | false =>
      simp only [Bool.false_eq_true,if_false];refine wpAny_bind (wpAny_letGo ?_);rw [nm]
      refine wpAny_pure ⟨plainId_quiet F.plain_max_loop _,ih (j+1) _ vb c (by omega) hn hst' (by simp only [argBest,e,Bool.false_eq_true,if_false];exact hb) z fun v' h2 tk2 hP' hk2=>hR v' h2 tk2 hP' fun b o h1 h3 e=>hk2 b o h1 h3 (hk' b o h1 e)⟩
theorem aoP (W:Walks prog w A.in1 I fp wr n P St) (bt:Nat→Nat→Bool) (hcmp:CmpOf prog w A.in1 .Gt P bt) (S:Addr) (hSf:S ∉ fp) {s:Shared} {c:Nat} {kn:Str} {d:Value} {kr:List (Str×Value)} (hst:St 0 s.heap) (hS:s.heap.get? S=some { cls := .type "list",dict:=none,data := .seq #[] c,slots:=#[] })
    (h0:n=0→∀ h' tk,(∀ b o,b ∉ wr→b≠S→s.heap.get? b=some o→h'.get? b=some o)→R (.ok (.ret d)) { s with heap:=h',toks:=tk })
    (hR:0 < n→∀ v h' tk,P (argBest bt (n - 1)) v→(∀ b o,b ∉ wr→b≠S→s.heap.get? b=some o→h'.get? b=some o)→R (.ok (.ret v)) { s with heap:=h',toks:=tk }) :
    codeAny (model prog w) A (.builtin "max.loop" ⟨[.ref I,.none,.ref S],(kn,d) :: kr⟩) R s:=by
  have nw:S ∉ wr:=fun h=>hSf (W.sub _ h)
  have nm:(toString "max" ++ toString ".loop" : String) = "max.loop" := by decide
  refine codeAny_builtin F.entry_max_loop ?_;rw [Around.under_plainId F.plain_max_loop _]
  show wpAny _ A.in1 (seqItems? (.ref S) >>= _) _ _ s;refine wpAny_bind (wpAny_seqItems hS rfl ?_)
  show wpAny _ A.in1 (tryCatch (pyNext (.ref I)) _ >>= _) _ _ s
  by_cases hn:0 < n
  · refine wpAny_bind (wpAny_tryCatch (W.item 0 s _ _ hn hst fun v h' tk hP hst' hk'=>?_))
    have z:=hk' S _ nw hS
    show wpAny _ A.in1 (updateSeq S (fun _=>#[v,v]) >>= _) _ _ _;refine wpAny_bind ?_
    refine wpAny_updateSeq z rfl ?_;rw [nm]
    refine wpAny_pure ⟨plainId_quiet F.plain_max_loop _,as5 W bt hcmp S hSf _ 0 _ v _ rfl hn (W.frame _ _ _ hst' fun b hbf o e=>?_) hP (Heap.get?_update_self _ z rfl) fun v' h2 tk2 hP' hk2=>hR hn v' h2 tk2 hP' fun b o h1 h3 e=>?_⟩
    · exact (Heap.get?_update_other _ _ (fun h:S=b=>hSf (by rw [h];exact hbf))).trans e
    · exact hk2 b o h1 h3 ((Heap.get?_update_other _ _ (Ne.symm h3)).trans (hk' b o h1 e))
  · have n0:n=0:=by omega
    refine wpAny_bind (wpAny_tryCatch (W.done s _ _ (by rw [n0];exact hst) fun h' tk hk'=>?_))
    exact wpAny_bind (wpAny_rule (wpAny_pure (h0 n0 h' tk fun b o h1 _ e=>hk' b o h1 e)))
end
theorem as6 (a v:Value):argsOk "max" ⟨[a],[(Str.ofString "default",v)]⟩:=by unfold argsOk;kernel_rfl
theorem as7 {prog:Program} {w:World} {A:Around} {E:Value→Shared→Prop} {s:Shared} {l:Addr} {xs:Array (Int×Tok)} {d:Value} {Q:Value→Shared→Prop} (hh:A.handled=none) (hl:s.heap.IsList l (intItems xs))
    (h0:xs.size=0→∀ h' tk,(∀ b o,s.heap.get? b=some o→h'.get? b=some o)→Q d { s with heap:=h',toks:=tk })
    (h:0 < xs.size→∀ v h' tk,(intItems xs)[argBest (fun i j=>decide (numAt xs i > numAt xs j)) (xs.size - 1)]?=some v→(∀ b o,s.heap.get? b=some o→h'.get? b=some o)→Q v { s with heap:=h',toks:=tk }) :
    wpAny (model prog w) A (call (.builtin "max") [.ref l] [(Str.ofString "default",d)]) Q E s:=by
  have nm:(toString "max" ++ toString ".loop" : String) = "max.loop" := by decide
  have sz:(intItems xs).size=xs.size:=by simp [intItems]
  refine kmk_tree F.kind_max F.plain_max F.entry_max (as6 _ _) ?_
  show wpAny _ A.in1 (Builtin.Builtins.bindParams "max" ["key", "default"] 0 ⟨[],[(Str.ofString "default",d)]⟩ >>= _) _ _ s
  refine wpAny_bind (wpAny_of_eq (show Builtin.Builtins.bindParams "max" ["key", "default"] 0 ⟨[],[(Str.ofString "default",d)]⟩=pure [none,some d] from rfl) ?_)
  refine wpAny_bind (wpAny_pure (wpAny_bind (iter_intList hl fun s₂ e st hfp hlI=>?_)))
  subst e
  refine wpAny_bind (wpAny_newObj_type ?_)
  rw [nm]
  have W:=Walks.list (prog:=prog) (w:=w) (A:=A.in1) hh s.heap.objs.size l hlI (intItems xs)
  refine wpAny_pure ⟨plainId_quiet F.plain_max_loop _,aoP W _ (CmpOf.ints_gt (numAt xs) (fun _ _=>intItems_at)) _ (fun hm=>Nat.lt_irrefl _ (hfp _ hm)) (W.frame _ _ _ st fun b _ o e=>Heap.get?_push_of_some _ e) (Heap.get?_push_size _ rfl) (fun n0 h' tk hk=>?_) fun n0 v h' tk hP hk=>?_⟩
  · refine h0 (by rw [← sz];exact n0) h' tk (old_kept (l:=l) fun b o hbw e=>hk b o hbw (Nat.ne_of_lt (Heap.lt_size e)) (Heap.get?_push_of_some _ e))
  · refine h (by rw [← sz];exact n0) v h' tk (by rw [sz] at hP;exact hP) (old_kept (l:=l) fun b o hbw e=>hk b o hbw (Nat.ne_of_lt (Heap.lt_size e)) (Heap.get?_push_of_some _ e))
def xR (x d:D) (G:Gp) (R:iD):Prop:=match x with
  | .ref p=>(match aO G p with
    | some ds=>∃ ns:List Int,ds=ns.map D.int∧(ns=[]→R d G)∧∀ M,M∈ns→(∀ a∈ns,a≤M)→R (.int M) G
    | none=>False)
  | _=>False
def am9 (te td:bU):bU:=fun ρ G R=>te ρ G fun x G1=>td ρ G1 fun d G2=>xR x d G2 R
section
variable {X:Cx} {x:Str} {p pos kp:Pos} {e d:Expr} {te td:bU}
theorem aFB (hc:X.calm=true) (hg:Gl X x) (hm:X.mg x=none) (hv:bootBuiltins x=some (.builtin "max")) (he:cU X e te) (hd:cU X d td) (hn:x ≠ "__name__") (hdb:(x == ("__debug__" : Str))=false)
    (hs:starEach [e] X.env=[(false,eval e X.env)]):cU X (.Call (.Name x p) [e] [⟨some "default",d,kp⟩] pos) (am9 te td):=by
  intro pins s σ H Q I h
  obtain ⟨ρ,G,R,sr,g,q,kk⟩:=h
  refine wpAny_Call_Name_kw (a0X I hg hm hv ?_ hn hdb)
  have hA:=(oW he a8T (by rw [hs];rfl)) pos pins s σ H (fun vs H1=>Ts H H1∧∃ ds G1,cL X.K H1 ds vs∧HR X.K H1 G1∧(match ds with
    | [y]=>td ρ G1 fun d G2=>xR y d G2 R
    | _=>False)) I ⟨ρ,G,(fun ds G1=>match ds with
    | [y]=>td ρ G1 fun d G2=>xR y d G2 R
    | _=>False),sr,g,q,fun vs H1 ds G1 t1 r1 g1 q1=>⟨t1,ds,G1,r1,g1,q1⟩⟩
  refine callWith_kw (dN hA fun us s1 ⟨vs,H1,I1,rr,t1,ds,G1,r1,g1,q1⟩=>?_) (by rw [hs];rfl) (by rw [hs];rfl) rfl rfl
  split at q1
  · rename_i y
    cases r1 with
    | @cons _ vy _ _ ry rn =>
      cases rn
      cases rr with
      | @cons _ uy _ _ ru rn =>
        cases rn
        refine dN (awD (nm:=some "default") (kpos:=kp) hd aDH pos pins s1 σ H1 (fun zs H2=>Ts H H2∧Ts H1 H2∧∃ z G2 dz,zs=[z]∧RD X.K H2 dz z∧HR X.K H2 G2∧xR y dz G2 R) I1 ⟨ρ,G1,_,sr.mono t1,g1,q1,fun v H2 dz G2 t2 r2 g2 q2=>⟨t1.trans t2,t2,v,G2,dz,rfl,r2,g2,q2⟩⟩) fun kvs s2 ⟨zs,H2,I2,rz,tt,t2,z,G2,dz,e,r2,g2,q2⟩=>?_
        subst e
        cases rz with
        | @cons _ kv _ _ rk rn =>
          cases rn
          show wpAny _ _ (call (.builtin "max") [uy] [(Str.ofString "default",kv)]) _ _ s2
          unfold xR at q2
          split at q2
          · rename_i l
            split at q2
            · rename_i ds e1
              obtain ⟨ns,rfl,h0,h1⟩:=q2
              cases ry;cases ru
              obtain ⟨ys,hq,r3⟩:=bY g2 e1
              obtain ⟨its,rv',pl,_⟩:=I2.list hq
              obtain ⟨zs,rfl,e2⟩:=ints_of r3 rv'
              refine as7 (I2.ok.hd hc) (int_list pl.isList) (fun n0 h' tk kp=>?_) fun n0 v h' tk hv kp=>?_
              · have:ns=[]:=by
                  rw [← e2]
                  cases zs with
                  | nil=>rfl
                  | cons _ _=>simp at n0
                exact ⟨z,H2,I2.kept kp,rk,kk _ H2 _ G2 tt r2 g2 (h0 this)⟩
              · obtain ⟨t,rfl⟩:=intItems_at hv
                obtain ⟨_,h2⟩:=argBest_gt (numAt zs.toArray) (zs.toArray.size - 1)
                refine ⟨.int _,H2,I2.kept kp,⟨t,rfl⟩,kk _ H2 _ G2 tt (.int _) g2 (h1 _ (ajZ e2 (by omega)) fun a ha=>?_)⟩
                obtain ⟨j,hj,rfl⟩:=ak0 e2 ha
                exact h2 j (by omega)
            · exact q2.elim
          · exact q2.elim
  · exact q1.elim
end
end L2
namespace L2
open PySem PySem.Spec PyProof.Rows
def aLC:D→Option Key
  | .int i=>some (.inl i)
  | .str x=>some (.inr x)
  | _=>none
def aFC:List D→Option (List Key)
  | []=>some []
  | d :: r=>match aLC d,aFC r with
    | some k,some ks=>some (k :: ks)
    | _,_=>none
def abQ:D→Option DK
  | .int i=>some (.inl (.inl i))
  | .str x=>some (.inl (.inr x))
  | _=>none
def a06:DK→Bool
  | .inl _=>false
  | .inr _=>true
section
variable {κ:Type} [DecidableEq κ] {α:Type}
def rT:List (κ×α)→κ→Option α
  | [],_=>none
  | p :: r,k=>if p.1=k then some p.2 else rT r k
def a7H (kvs:List (κ×α)) (k:κ) (v:α):List (κ×α):=if (rT kvs k).isSome=true then kvs.map (fun kv=>if kv.1=k then (kv.1,v) else kv) else kvs++[(k,v)]
end
abbrev a7I {κ:Type} (K:Fg) (H:Hp) (f:κ→DK):List (DK×D)→List (κ×V)→Prop:=Two fun p q=>p.1=f q.1∧RD K H p.2 q.2
section
variable {κ:Type} [DecidableEq κ] {K:Fg} {H:Hp} {f:κ→DK}
theorem val_two (hf:∀ a b,f a=f b→a=b) {k:κ}:∀ {kvs:List (DK×D)} {xs:List (κ×V)},a7I K H f kvs xs→(∀ d,rT kvs (f k)=some d→∃ v,a0Y xs k=some v∧RD K H d v)∧(rT kvs (f k)=none→a0Y xs k=none)
  | _,_,.nil=>⟨fun d e=>(nomatch e),fun _=>rfl⟩
  | p :: kvs,q :: xs,.cons h r=>by
    obtain ⟨h1,h2⟩:=h
    by_cases c:q.1=k
    · have c2:p.1=f k:=by rw [h1,c]
      unfold rT
      rw [if_pos c2,a2I c]
      exact ⟨fun d e=>by cases e;exact ⟨_,rfl,h2⟩,fun e=>(nomatch e)⟩
    · have c2:¬ p.1=f k:=fun z=>c (hf _ _ (h1.symm.trans z))
      unfold rT
      rw [if_neg c2,a2J c]
      exact val_two hf r
theorem as8 (hf:∀ a b,f a=f b→a=b) {k:κ} {kvs:List (DK×D)} {xs:List (κ×V)} (t:a7I K H f kvs xs):(rT kvs (f k)).isSome=(a0Y xs k).isSome:=by
  have z:=val_two hf (k:=k) t
  cases e:rT kvs (f k) with
  | none=>rw [z.2 e];rfl
  | some d=>obtain ⟨v,e2,_⟩:=z.1 d e;rw [e2];rfl
theorem amA {g:DK×D→DK×D} {h:κ×V→κ×V} (gh:∀ p q,p.1=f q.1∧RD K H p.2 q.2→(g p).1=f (h q).1∧RD K H (g p).2 (h q).2):∀ {kvs:List (DK×D)} {xs:List (κ×V)},a7I K H f kvs xs→a7I K H f (kvs.map g) (xs.map h)
  | _,_,.nil => .nil
  | _,_,.cons z r => .cons (gh _ _ z) (amA gh r)
theorem ah7 {p:DK×D} {q:κ×V} (z:p.1=f q.1∧RD K H p.2 q.2):∀ {kvs:List (DK×D)} {xs:List (κ×V)},a7I K H f kvs xs→a7I K H f (kvs++[p]) (xs++[q])
  | _,_,.nil => .cons z .nil
  | _,_,.cons y r => .cons y (ah7 z r)
theorem amB (hf:∀ a b,f a=f b→a=b) {k:κ} {d:D} {v:V} (rd:RD K H d v) {kvs:List (DK×D)} {xs:List (κ×V)} (t:a7I K H f kvs xs):a7I K H f (a7H kvs (f k) d) (putK xs k v):=by
  unfold a7H putK
  rw [a8L,as8 hf t]
  split
  · refine amA (fun p q ⟨h1,h2⟩=>?_) t
    by_cases c:q.1=k
    · rw [if_pos (show p.1=f k by rw [h1,c]),if_pos c]
      exact ⟨h1,rd⟩
    · rw [if_neg (show ¬ p.1=f k from fun z=>c (hf _ _ (h1.symm.trans z))),if_neg c]
      exact ⟨h1,h2⟩
  · exact ah7 (p:=(f k,d)) (q:=(k,v)) ⟨rfl,rd⟩ t
end
theorem aeC (a b:Key) (h:(Sum.inl a:DK) = .inl b):a=b:=by cases h;rfl
theorem aeD (a b:List Key) (h:(Sum.inr a:DK) = .inr b):a=b:=by cases h;rfl
def xT (x y:D) (G:Gp) (P:Addr→Bool→List (DK×D)→DK→Prop):Prop:=match x with
  | .ref a=>(match G a,abQ y with
    | some (.lF t kvs),some k=>a06 k=t∧P a t kvs k
    | _,_=>False)
  | _=>False
def a92 (K:Fg) (H:Hp) (a:Addr) (vy:V) (kvs:List (DK×D)) (k:DK):Prop :=
  (∃ k' xs,k = .inl k'∧H a=some (.dK xs)∧a7I K H .inl kvs xs∧vy=kV k')∨∃ ks xs b,k = .inr ks∧H a=some (.dT xs)∧a7I K H .inr kvs xs∧vy = .ref b∧H b=some (.tup (ks.map kV))
theorem aeE {K:Fg} {H:Hp} {y:D} {vy:V} {k:DK} (ry:RD K H y vy) (e:abQ y=some k):(∃ k',k = .inl k'∧vy=kV k')∨∃ ks b,k = .inr ks∧vy = .ref b∧H b=some (.tup (ks.map kV)):=by
  cases ry with
  | int i=>cases e;exact .inl ⟨_,rfl,rfl⟩
  | str x=>cases e;exact .inl ⟨_,rfl,rfl⟩
  | _=>cases e
theorem a93 {K:Fg} {H:Hp} {x y:D} {vx vy:V} {G:Gp} {P:Addr→Bool→List (DK×D)→DK→Prop} (rx:RD K H x vx) (ry:RD K H y vy) (g:HR K H G) (h:xT x y G P) :
    ∃ a kvs k,x = .ref a∧vx = .ref a∧G a=some (.lF (a06 k) kvs)∧abQ y=some k∧P a (a06 k) kvs k∧a92 K H a vy kvs k:=by
  unfold xT at h
  split at h
  · rename_i a
    split at h
    · rename_i t kvs k e1 e2
      obtain ⟨rfl,h⟩:=h
      cases rx
      refine ⟨a,kvs,k,rfl,rfl,e1,e2,h,?_⟩
      rcases g a _ e1 with ⟨z,xs,e3,r⟩ | ⟨z,xs,e3,r⟩
      · rcases aeE ry e2 with ⟨k',rfl,rfl⟩ | ⟨ks,b,rfl,_⟩
        · exact .inl ⟨k',xs,rfl,e3,r,rfl⟩
        · cases z
      · rcases aeE ry e2 with ⟨k',rfl,rfl⟩ | ⟨ks,b,rfl,rfl,eb⟩
        · cases z
        · exact .inr ⟨ks,xs,b,rfl,e3,r,rfl,eb⟩
    · exact h.elim
  · exact h.elim
theorem a92.get {K:Fg} {H:Hp} {a:Addr} {vy:V} {kvs:List (DK×D)} {k:DK} (h:a92 K H a vy kvs k):(∀ d,rT kvs k=some d→∃ v,a4L H a vy (some v)∧RD K H d v)∧(rT kvs k=none→a4L H a vy none):=by
  rcases h with ⟨k',xs,rfl,e,r,rfl⟩ | ⟨ks,xs,b,rfl,e,r,rfl,eb⟩
  · have z:=val_two aeC (k:=k') r
    exact ⟨fun d e2=>(z.1 d e2).elim fun v q=>⟨v,by rw [← q.1];exact .k e,q.2⟩,fun e2=>by rw [← z.2 e2];exact .k e⟩
  · have z:=val_two aeD (k:=ks) r
    exact ⟨fun d e2=>(z.1 d e2).elim fun v q=>⟨v,by rw [← q.1];exact .t e eb,q.2⟩,fun e2=>by rw [← z.2 e2];exact .t e eb⟩
theorem a92.any {K:Fg} {H:Hp} {a:Addr} {vy:V} {kvs:List (DK×D)} {k:DK} (h:a92 K H a vy kvs k):∃ o,a4L H a vy o∧o.isSome=(rT kvs k).isSome∧∀ d v,RD K H d v→RD K H ((rT kvs k).getD d) (o.getD v):=by
  have z:=h.get
  cases e:rT kvs k with
  | none=>exact ⟨none,z.2 e,rfl,fun d v r=>r⟩
  | some d=>obtain ⟨v,g,r⟩:=z.1 d e;exact ⟨some v,g,rfl,fun _ _ _=>r⟩
theorem a92.put {K:Fg} {H:Hp} {G:Gp} {a:Addr} {vy v:V} {d:D} {kvs:List (DK×D)} {k:DK} (g:HR K H G) (h:a92 K H a vy kvs k) (rv:RD K H d v) (hl:kvs.length < sizeLine):∃ H',agK H a vy v H'∧Ts H H'∧HR K H' (aN G a (.lF (a06 k) (a7H kvs k d))):=by
  rcases h with ⟨k',xs,rfl,e,r,rfl⟩ | ⟨ks,xs,b,rfl,e,r,rfl,eb⟩
  · have tt:Ts H (upd H a (.dK (putK xs k' v))) := .turn e (fun _ z=>nomatch z) (fun _ _ z=>nomatch z)
    exact ⟨_,.k e (by rw [← r.length];exact hl),tt,g.turn (u := .lF false _) tt (.inl ⟨rfl,_,aK,(amB aeC rv r).imp fun _ _ q=>⟨q.1,q.2.mono tt⟩⟩)⟩
  · have tt:Ts H (upd H a (.dT (putK xs ks v))) := .turn e (fun _ z=>nomatch z) (fun _ _ z=>nomatch z)
    exact ⟨_,.t e eb (by rw [← r.length];exact hl),tt,g.turn (u := .lF true _) tt (.inr ⟨rfl,_,aK,(amB aeD rv r).imp fun _ _ q=>⟨q.1,q.2.mono tt⟩⟩)⟩
def a6D (G:Gp) (a:Addr):Option (Bool×List (DK×D)):=match G a with
  | some (.lF t kvs)=>some (t,kvs)
  | some (.rdc _ t kvs)=>some (t,kvs)
  | _=>none
theorem as9 {K:Fg} {H:Hp} {G:Gp} {a:Addr} {t:Bool} {kvs:List (DK×D)} (g:HR K H G) (e:a6D G a=some (t,kvs)) :
    (t=false∧∃ xs:List (Key×V),Rd H a (.dK xs)∧a7I K H .inl kvs xs)∨(t=true∧∃ xs:List (List Key×V),Rd H a (.dT xs)∧a7I K H .inr kvs xs):=by
  unfold a6D at e
  split at e
  · rename_i t' kvs' q
    cases e
    rcases g a _ q with ⟨z,xs,e2,tw⟩ | ⟨z,xs,e2,tw⟩
    · exact .inl ⟨z,xs,.inl e2,tw⟩
    · exact .inr ⟨z,xs,.inl e2,tw⟩
  · rename_i o t' kvs' q
    cases e
    rcases g a _ q with ⟨z,xs,e2,tw⟩ | ⟨z,xs,e2,tw⟩
    · exact .inl ⟨z,xs,.inr ⟨o,e2⟩,tw⟩
    · exact .inr ⟨z,xs,.inr ⟨o,e2⟩,tw⟩
  · cases e
def a94 (x y:D) (G:Gp) (P:List (DK×D)→DK→Prop):Prop:=match x with
  | .ref a=>(match a6D G a,abQ y with
    | some (t,kvs),some k=>a06 k=t∧P kvs k
    | _,_=>False)
  | _=>False
theorem aoQ {K:Fg} {H:Hp} {x y:D} {vx vy:V} {G:Gp} {P:List (DK×D)→DK→Prop} (rx:RD K H x vx) (ry:RD K H y vy) (g:HR K H G) (h:a94 x y G P) :
    ∃ a kvs k,x = .ref a∧vx = .ref a∧P kvs k∧∀ d,rT kvs k=some d→∃ v,a4L H a vy (some v)∧RD K H d v:=by
  unfold a94 at h
  split at h
  · rename_i a
    split at h
    · rename_i t kvs k e1 e2
      obtain ⟨rfl,h⟩:=h
      cases rx
      refine ⟨a,kvs,k,rfl,rfl,h,fun d ed=>?_⟩
      rcases as9 g e1 with ⟨z,xs,e3,r⟩ | ⟨z,xs,e3,r⟩
      · rcases aeE ry e2 with ⟨k',rfl,rfl⟩ | ⟨ks,b,rfl,_⟩
        · obtain ⟨v,e4,rv⟩:=(val_two aeC (k:=k') r).1 d ed
          exact ⟨v,.inl ⟨xs,k',e3,rfl,e4.symm⟩,rv⟩
        · cases z
      · rcases aeE ry e2 with ⟨k',rfl,rfl⟩ | ⟨ks,b,rfl,rfl,eb⟩
        · cases z
        · obtain ⟨v,e4,rv⟩:=(val_two aeD (k:=ks) r).1 d ed
          exact ⟨v,.inr ⟨xs,ks,b,e3,rfl,eb,e4.symm⟩,rv⟩
    · exact h.elim
  · exact h.elim
def a4Z:R3:=fun x y G R=>a94 x y G fun kvs k=>match rT kvs k with
  | some d=>R d G
  | none=>False
section
variable {X:Cx} {o i value e f:Expr} {to ti tv te tf:bU} {pos pos' apos cpos:Pos}
theorem aLD (hu:X.A.units+64 < cLine) (ho:cU X o to) (hi:cU X i ti) (hs:aDJ i):cU X (.Subscript o i pos) (aH a4Z to ti):=by
  refine PE.imp (awG (by omega) ho hi hs) fun σ H Q h=>?_
  obtain ⟨ρ,G,R,s,g,t,k⟩:=h
  refine ⟨ρ,G,_,s,g,t,fun vx H1 x G1 t1 rx g1 t'=>?_⟩
  refine ⟨ρ,G1,_,s.mono t1,g1,t',fun vy H2 y G2 t2 ry g2 t''=>?_⟩
  obtain ⟨a,kvs,kk,rfl,rfl,q,dd⟩:=aoQ (rx.mono t2) ry g2 t''
  split at q
  · rename_i d e2
    obtain ⟨v,gg,rv⟩:=dd d e2
    exact ⟨a,v,rfl,gg,k v H2 d G2 (t1.trans t2) rv g2 q⟩
  · exact q.elim
def ah8 (x y v:D) (F:cZ) (ρ:aM) (G:Gp):Prop:=xT x y G fun a t kvs k=>kvs.length < sizeLine∧F.nx ρ (aN G a (.lF t (a7H kvs k v)))
def aeF (to ti tv:bU):bA:=fun F ρ G=>tv ρ G fun v G1=>to ρ G1 fun x G2=>ti ρ G2 fun y G3=>ah8 x y v F ρ G3
theorem aFD (hu:X.A.units+64 < cLine) (ho:cU X o to) (hi:cU X i ti) (hv:cU X value tv) (hs:swapsWith value (some (.Subscript o i pos')) pos.line X.env=pure false):PS3 X (.Assign [.Subscript o i pos'] value pos) (aeF to ti tv):=by
  refine PS.imp (awH (by omega) ho hi hv hs) fun F σ H h=>?_
  obtain ⟨ρ,G,E,s,g,t,u⟩:=h
  refine ⟨ρ,G,_,s,g,t,fun v H1 d G1 t1 rv g1 t'=>?_⟩
  refine ⟨ρ,G1,_,s.mono t1,g1,t',fun vx H2 x G2 t2 rx g2 t''=>?_⟩
  refine ⟨ρ,G2,_,s.mono (t1.trans t2),g2,t'',fun vy H3 y G3 t3 ry g3 t4=>?_⟩
  obtain ⟨a,kvs,kk,rfl,rfl,e1,_,⟨hl,q⟩,dd⟩:=a93 (rx.mono t3) ry g3 t4
  obtain ⟨H4,pp,tt,g4⟩:=dd.put g3 (rv.mono (t2.trans t3)) hl
  exact ⟨a,H4,rfl,pp,u.nx ρ _ σ _ (s.mono (((t1.trans t2).trans t3).trans tt)) g4 q⟩
def xU (x:D) (G:Gp):Prop:=match x with
  | .ref a=>(match G a with
    | some (.lF _ _)=>True
    | _=>False)
  | _=>False
theorem aoR {K:Fg} {H:Hp} {G:Gp} {x:D} {vx:V} (rx:RD K H x vx) (g:HR K H G) (h:xU x G):∃ a,x = .ref a∧vx = .ref a∧IsD H a:=by
  unfold xU at h
  split at h
  · rename_i a
    split at h
    · rename_i t kvs e
      cases rx
      rcases g a _ e with ⟨_,xs,e2,_⟩ | ⟨_,xs,e2,_⟩
      · exact ⟨a,rfl,rfl,.inl ⟨xs,.inl e2⟩⟩
      · exact ⟨a,rfl,rfl,.inr ⟨xs,.inl e2⟩⟩
    · exact h.elim
  · exact h.elim
def a87 (to te tf:bU):bU:=fun ρ G R=>to ρ G fun x G1=>xU x G1∧te ρ G1 fun y G2=>tf ρ G2 fun z G3=>xT x y G3 fun _ _ kvs k=>R ((rT kvs k).getD z) G3
theorem axN (hu:X.A.units+64 < cLine) (ho:cU X o to) (he:cU X e te) (hf:cU X f tf) (m:M2 X o "get" apos e f cpos):cU X (.Call (.Attribute o "get" apos) [e,f] [] cpos) (a87 to te tf):=by
  refine PE.imp (aqQ (by omega) ho he hf m) fun σ H Q h=>?_
  obtain ⟨ρ,G,R,s,g,t,k⟩:=h
  refine ⟨ρ,G,_,s,g,t,fun vx H1 x G1 t1 rx g1 t'=>?_⟩
  obtain ⟨isd,t'⟩:=t'
  obtain ⟨a,rfl,rfl,ia⟩:=aoR rx g1 isd
  refine ⟨a,rfl,ia,?_⟩
  refine ⟨ρ,G1,_,s.mono t1,g1,t',fun vy H2 y G2 t2 ry g2 t''=>?_⟩
  refine ⟨ρ,G2,_,s.mono (t1.trans t2),g2,t'',fun vz H3 z G3 t3 rz g3 t4=>?_⟩
  obtain ⟨a',kvs,kk,e,_,e1,_,q,dd⟩:=a93 (rx.mono (t2.trans t3)) (ry.mono t3) g3 t4
  cases e
  obtain ⟨o,gg,eo,hd⟩:=dd.any
  exact ⟨o,gg,k _ H3 _ G3 ((t1.trans t2).trans t3) (hd z vz rz) g3 q⟩
end
end L2
namespace L2
open PySem PySem.Spec PyProof.Rows
section
variable {prog:Program} {w:World} {K:Type} [DecidableEq K] {knd:HeapKind prog w K} {A:Around} {E:Value→Shared→Prop} {s:Shared} {d a:Addr} {k:K} {xs:List (K×Addr×Value)}
def ah9 (xs:List (K×Addr×Value)) (k:K):List (K×Addr×Value):=xs.filter fun x=>decide (x.1≠k)
end
theorem KT.drop {H:Hp} {kvs:List (List Key×V)} {xs:List (List Key×Addr×Value)} (r:KT H kvs xs) (k:List Key):KT H (alO kvs k) (ah9 xs k):=by
  unfold alO ah9
  induction r with
  | nil=>exact .nil
  | @cons p q ps qs h t ih =>
    rw [List.filter_cons,List.filter_cons]
    by_cases e:p.1=k
    · rw [if_neg (by simp [e]),if_neg (by simp [h.1.symm.trans e])]
      exact ih
    · rw [if_pos (by simp [e]),if_pos (by simp;exact fun z=>e (h.1.trans z))]
      exact .cons h ih
def aPR (r:RM3) (to:bU) (t:nT):bU:=fun ρ G R=>to ρ G fun x G1=>xU x G1∧t ρ G1 fun xs G2=>r x xs G2 R
section
variable {X:Cx}
end
end L2
namespace L2
open PySem PySem.Spec PyProof.Rows PySem.W
section
variable {cmp:Nat→Nat→(Bool→Shared→Prop)→Shared→Prop} {I:Shared→Prop} {kf:Nat→Int}
def ky (kf:Nat→Int) (p:Array Nat) (i:Nat):Int:=kf (p.getD i 0)
def Up (kf:Nat→Int) (p:Array Nat) (k:Nat):Prop:=∀ i j,i≤j→j < k→ky kf p i≤ky kf p j
def Down (kf:Nat→Int) (p:Array Nat) (k:Nat):Prop:=∀ i j,i < j→j < k→ky kf p j < ky kf p i
structure Pm (n:Nat) (p:Array Nat):Prop where
  size:p.size=n
  perm:p.toList.Perm (List.range n)
theorem Pm.lt {n:Nat} {p:Array Nat} (h:Pm n p) {i:Nat} (hi:i < n):p.getD i 0 < n:=by
  have hs:i < p.size:=by rw [h.size];exact hi
  have e:p.getD i 0=p[i]:=by simp [Array.getD,hs]
  rw [e]
  exact List.mem_range.mp (h.perm.mem_iff.mp (by simp))
theorem Pm.inj {n:Nat} {p:Array Nat} (h:Pm n p) {i j:Nat} (hi:i < n) (hj:j < n) (e:p.getD i 0=p.getD j 0):i=j:=by
  have hs:i < p.size:=by rw [h.size];exact hi
  have ht:j < p.size:=by rw [h.size];exact hj
  have nd:p.toList.Nodup:=(h.perm.nodup_iff).mpr List.nodup_range
  have e1:p.getD i 0=p[i]:=by simp [Array.getD,hs]
  have e2:p.getD j 0=p[j]:=by simp [Array.getD,ht]
  rw [e1,e2] at e
  have key:=List.pairwise_iff_getElem.mp nd
  have hs':i < p.toList.length:=by simpa using hs
  have ht':j < p.toList.length:=by simpa using ht
  rcases Nat.lt_trichotomy i j with c | c | c
  · exact absurd (by simpa using e) (key i j hs' ht' c)
  · exact c
  · exact absurd (by simpa using e.symm) (key j i ht' hs' c)
theorem axO {p q:Array Nat} {i j:Nat} (h:p[i]?=q[j]?):p.getD i 0=q.getD j 0:=by
  rw [Array.getD_eq_getD_getElem?,Array.getD_eq_getD_getElem?,h]
theorem asA {p:Array Nat} {n k:Nat} (hn:n≤p.size) (hk:k < n):ky kf (kas_rev p 0 n) k=ky kf p (n - 1 - k):=by
  unfold ky kas_rev
  have e:=getElem?_mirror_all (xs:=p) (i:=0) (j:=n) hn k
  rw [if_pos ⟨Nat.zero_le _,hk⟩,Nat.zero_add] at e
  rw [axO e]
theorem Pm.rev {n m:Nat} {p:Array Nat} (h:Pm n p):Pm n (kas_rev p 0 m):=⟨by rw [kas_rev_size];exact h.size,((mirror_perm p 0 m _).toList).trans h.perm⟩
theorem Down.up {p:Array Nat} {n:Nat} (hn:n≤p.size) (h:Down kf p n):Up kf (kas_rev p 0 n) n:=fun i j hij hj=>by
  rw [asA hn (by omega),asA hn hj]
  by_cases c:i=j
  · subst c;exact Int.le_refl _
  · exact Int.le_of_lt (h (n - 1 - j) (n - 1 - i) (by omega) (by omega))
end
section
variable {prog:Program} {w:World} {A:Around} {E:Value→Shared→Prop} {s:Shared}
end
def aFE (a b:Int×Int):Prop:=a.1 < b.1∨(a.1=b.1∧a.2 < b.2)
instance (a b:Int×Int):Decidable (aFE a b):=by unfold aFE;infer_instance
def axP:List (Int×Int)→Prop:=List.Pairwise aFE
section
variable {prog:Program} {w:World} {A:Around} {E:Value→Shared→Prop} {s:Shared}
end
end L2
namespace L2
open PySem PySem.Spec PyProof.Rows PySem.W
abbrev prV (q:Int×Int):D := .tup [.int q.1,.int q.2]
section
variable {X:Cx}
end
end L2
namespace L2
open PySem PySem.Spec PyProof.Rows PySem.W
def a95 (h:Heap) (d:Addr) (es:Array DictEntry) (ep:Nat):Prop:=∃ o,h.get? d=some o∧o.ExactDict∧o.data = .dict es ep
section
variable {prog:Program} {w:World} {A:Around} {E:Value→Shared→Prop} {s:Shared} {d it:Addr} {es:Array DictEntry} {ep i:Nat}
theorem a95.typeIs (hm:a95 s.heap d es ep):s.TypeIs (.ref d) "dict" := let ⟨o,ho,hc,_⟩:=hm;⟨o,ho,hc.1⟩
theorem a95.lt {h:Heap} (hm:a95 h d es ep):d < h.objs.size:=let ⟨_,ho,_⟩:=hm;Heap.lt_size ho
theorem a95.at {h h':Heap} (hm:a95 h d es ep) (k:∀ o,h.get? d=some o→h'.get? d=some o):a95 h' d es ep:=let ⟨o,ho,r⟩:=hm;⟨o,k o ho,r⟩
end
end L2
namespace L2
open PySem PySem.Spec PyProof.Rows PySem.W
def aLF (i j c:Int):Nat:=if c=1 then (j - i).toNat else (i - j).toNat
section
variable {X:Cx} {tg:Expr}
end
def aPS (lo c:Int) (n:Nat):List D:=(List.range n).map fun (i:Nat) => .int (lo+(i:Int) * c)
def aBR (xs:List D) (G:Gp) (R:Src→Gp→Prop):Prop:=match xs with
  | [.int i,.int j,.int c]=>(-(2 ^ 61)≤i∧i < 2 ^ 61∧-(2 ^ 61)≤j∧j < 2 ^ 61)∧(c=1∨c=-1)∧R (.imm (aPS i c (aLF i j c))) G
  | _=>False
def aFF (ta:nT):TI3:=fun ρ G R=>ta ρ G fun xs G1=>aBR xs G1 R
theorem amC {K:Fg} {H:Hp}:∀ {ds:List D} {vs:List V},cL K H ds vs→cL K H ds.reverse vs.reverse
  | _,_,.nil => .nil
  | d :: ds,v :: vs,.cons h r=>by rw [List.reverse_cons,List.reverse_cons];exact cL.append (amC r) (.cons h .nil)
section
variable {X:Cx} {tg:Expr}
theorem ahA {pins:List (Addr×Obj)} {σ:St} {H:Hp} {s:Shared} {a sl:Addr} {xs:List V} {vk:Value} {Q:VK} (I:Inv X pins σ H s) (hx:uN X.K H a xs) (hs:s.heap.IsSliceOf sl .none .none vk) (pk:IsPart vk (some (-1))) (q:∀ p,H p=none→KF X.K (upd H p (.lst xs.reverse))→Q (.ref p) (upd H p (.lst xs.reverse))) :
    s.TypeIs (.ref a) "list" ∧ wpAny (model X.prog X.w) X.A (getItem (.ref a) (.ref sl)) (EP X pins σ Q) X.xe s:=by
  obtain ⟨its,r,ht,hz⟩:=I.list hx
  have hlen:=r.length
  refine ⟨ht.isList.typeIs,?_⟩
  refine wpAny_getItem_list_slice ht.isList hs .none .none pk (by decide) ?_ (by rw [List.size_toArray] <;> omega)
  rw [krv_pick]
  have J:=I.laid (t':=s.toks) (o := .lst xs.reverse) (h':=s.heap.push { cls := .type "list",data := .seq its.reverse.toArray }) (fun b ob q=>Heap.get?_push_of_some _ q) (Nat.le_refl _) ⟨by rw [List.length_reverse];exact hz,_,0,r.reverse,Heap.get?_push_size _ rfl⟩
  exact ⟨.ref s.heap.objs.size,_,J,rfl,q _ (I.hok.fresh (Nat.le_refl _)) (xF J)⟩
def acU (x:D) (G:Gp) (R:iD):Prop:=match x with
  | .ref a=>(match aO G a with
    | some ds=>∀ q,G q=none→R (.ref q) (aN G q (.lst ds.reverse))
    | none=>False)
  | _=>False
def amD (te:bU) (tk:TO3):bU:=fun ρ G R=>te ρ G fun x G1=>tk ρ G1 fun o G2=>o=some (-1)∧acU x G2 R
theorem aLG {e k:Expr} {te:bU} {tk:TO3} {p2 pos:Pos} (he:cU X e te) (hk:PO3 X (some k) tk):cU X (.Subscript e (.Slice none none (some k) p2) pos) (amD te tk):=by
  intro pins s σ H Q I h
  obtain ⟨ρ,G,R,sr,g,q,kk⟩:=h
  refine Subscript_ (dN (he pins s σ H (fun vx H1=>Ts H H1∧∃ x G1,RD X.K H1 x vx∧HR X.K H1 G1∧tk ρ G1 fun o G2=>o=some (-1)∧acU x G2 R) I ⟨ρ,G,_,sr,g,q,fun v H1 x G1 t1 r1 g1 q1=>⟨t1,x,G1,r1,g1,q1⟩⟩) fun v s1 ⟨vx,H1,I1,r1,t1,x,G1,rx,g1,q1⟩=>?_)
  refine wpAny_Slice ?_
  rw [evalPart_none]
  refine wpAny_pure ?_
  refine wpAny_pure ?_
  refine dN (hk pins s1 σ H1 (fun o H2=>Ts H1 H2∧∃ G2,HR X.K H2 G2∧o=some (-1)∧acU x G2 R) I1 ⟨ρ,G1,_,sr.mono t1,g1,q1,fun o H2 G2 t2 g2 q2=>⟨t2,G2,g2,q2⟩⟩) fun vk s3 ⟨o,H3,I3,pk,t3,G3,g3,eo,q3⟩=>?_
  subst eo
  have I4:Inv X pins σ H3 { s3 with heap:=s3.heap.push { cls := .type "slice",data := .fields #[.none,.none,vk] } }:=I3.kept (t':=s3.toks) fun b ob q=>Heap.get?_push_of_some _ q
  cases rx with
  | ref a =>
    have q3':(match aO G3 a with
      | some ds=>∀ q,G3 q=none→R (.ref q) (aN G3 q (.lst ds.reverse))
      | none=>False):=q3
    split at q3'
    · rename_i ds e1
      obtain ⟨xs,hq,ra⟩:=bY g3 e1
      cases r1
      obtain ⟨ht,hg⟩:=ahA (s:={ s3 with heap:=s3.heap.push { cls := .type "slice",data := .fields #[.none,.none,vk] } }) (Q:=Q) I4 hq (Heap.IsSliceOf.new ..) pk fun p hp kf=>by
        have sn:Same H3 (upd H3 p (.lst xs.reverse)):=bB hp
        have rr:cL X.K H3 ds.reverse xs.reverse:=amC ra
        exact kk _ _ _ _ ((t1.trans t3).trans (.same sn)) (.ref p) (g3.put (u := .lst ds.reverse) hp ⟨_,aK,rr.mono (.same sn)⟩) (q3' p (nC g3 hp kf))
      show wpAny (model X.prog X.w) X.A (subscriptTail e (.Slice none none (some k) p2) (.ref a) (.ref s3.heap.objs.size)) (EP X pins σ Q) X.xe { s3 with heap:=s3.heap.push { cls := .type "slice",data := .fields #[.none,.none,vk] } }
      exact tail_any (ops:=[.ref a,.ref s3.heap.objs.size]) ht slot_list_getitem.lookup hg (by with_unfolding_all rfl)
    · exact q3'.elim
  | _=>exact False.elim q3
end
end L2
namespace L2
open PySem PySem.Spec PyProof.Rows PySem.W
section
variable {prog:Program} {w:World} {A:Around} {E:Value→Shared→Prop} {s:Shared}
abbrev TK (prog:Program) (w:World):=tupleKind (bW prog w)
def aLH (prog:Program) (w:World) (h:Heap) (v:Value) (x:List Key×Addr×Value):Prop:=∃ p o n,v = .ref p∧h.get? p=some o∧o.cls = .type "tuple" ∧ o.data = .seq #[.ref x.2.1,x.2.2] n∧(TK prog w).is h x.1 x.2.1
theorem amE {h h':Heap} {ks:List Key} {a:Addr} (x:(TK prog w).is h ks a) (k:∀ o,h.get? a=some o→h'.get? a=some o):(TK prog w).is h' ks a:=by
  obtain ⟨o,its,n,h1,r⟩:=x
  exact ⟨o,its,n,k _ h1,r⟩
def axQ (prog:Program) (w:World) (I d:Addr) (h:Heap) (v:Value) (x:List Key×Addr×Value):Prop:=∃ p o n,v = .ref p∧h.get? p=some o∧o.cls = .type "tuple" ∧ o.data = .seq #[.ref x.2.1,x.2.2] n∧(TK prog w).is h x.1 x.2.1∧p≠I∧p≠d∧x.2.1≠I∧x.2.1≠d
theorem axQ.keep {I d:Addr} {h h':Heap} {v:Value} {x:List Key×Addr×Value} (q:axQ prog w I d h v x) (k:∀ b o,b≠d→b≠I→h.get? b=some o→h'.get? b=some o):axQ prog w I d h' v x:=by
  obtain ⟨p,o,n,e,h1,h2,h3,h4,h5,h6,h7,h8⟩:=q
  exact ⟨p,o,n,e,k _ _ h6 h5 h1,h2,h3,amE h4 fun o e=>k _ _ h8 h7 e,h5,h6,h7,h8⟩
theorem aLH.ok {I d:Addr} {h h':Heap} {v:Value} {x:List Key×Addr×Value} (q:aLH prog w h v x) (hI:h.objs.size≤I) (hd:h.objs.size≤d) (k:∀ b o,h.get? b=some o→h'.get? b=some o):axQ prog w I d h' v x:=by
  obtain ⟨p,o,n,e,h1,h2,h3,h4⟩:=q
  have l1:=Heap.lt_size h1
  have l2:x.2.1 < h.objs.size:=by
    obtain ⟨o2,its,n2,z,_⟩:=id h4
    exact Heap.lt_size z
  exact ⟨p,o,n,e,k _ _ h1,h2,h3,amE h4 fun o e=>k _ _ e,Nat.ne_of_lt (Nat.lt_of_lt_of_le l1 hI),Nat.ne_of_lt (Nat.lt_of_lt_of_le l1 hd),Nat.ne_of_lt (Nat.lt_of_lt_of_le l2 hI),Nat.ne_of_lt (Nat.lt_of_lt_of_le l2 hd)⟩
end
end L2
namespace L2
open PySem PySem.Spec PyProof.Rows PySem.W
inductive Prs (K:Fg) (H:Hp):List (List Key×D)→List (List Key×Addr×Value)→Prop where
  | nil:Prs K H [] []
  | cons {ks:List Key} {b:Addr} {vz:V} {u:Value} {d:D} {kvs:List (List Key×D)} {ps:List (List Key×Addr×Value)}:H b=some (.tup (ks.map kV))→RD K H d vz→RelV vz u→Prs K H kvs ps→Prs K H ((ks,d) :: kvs) ((ks,b,u) :: ps)
theorem Prs.len {K:Fg} {H:Hp} {kvs:List (List Key×D)} {ps:List (List Key×Addr×Value)} (h:Prs K H kvs ps):kvs.length=ps.length:=by
  induction h with
  | nil=>rfl
  | cons _ _ _ _ ih=>simp [ih]
section
variable {X:Cx}
end
end L2
namespace L2
open PySem PySem.Spec PyProof.Rows
abbrev aeG (X:Cx) (i:Nat) (nm:Str):Cx:={ X with N:=X.N.set i nm }
section
variable {X:Cx} {pins:List (Addr×Obj)} {σ:St} {H:Hp} {s:Shared} {i:Nat} {nm:Str}
theorem aFG (ok:X.Ok):(aeG X i nm).Ok:=⟨ok.mod,ok.kind,ok.glob,ok.blt,ok.above,ok.inj,ok.has,ok.cab,ok.hd,ok.frames,ok.stk,ok.exf,ok.bs,ok.bsz,ok.adM,ok.agE,ok.xC,ok.frf⟩
theorem aFH (ok:(aeG X i nm).Ok):X.Ok:=⟨ok.mod,ok.kind,ok.glob,ok.blt,ok.above,ok.inj,ok.has,ok.cab,ok.hd,ok.frames,ok.stk,ok.exf,ok.bs,ok.bsz,ok.adM,ok.agE,ok.xC,ok.frf⟩
theorem asB (I:Inv X pins σ H s):Inv (aeG X i nm) pins (a1A σ i) H s :=
  ⟨aFG I.ok,I.os,I.bare,I.base,let ⟨m,hn,hl⟩:=I.loc;⟨m,hn,fun j x v e1 e2 e3=>by
    obtain ⟨n,e4⟩:=a8V σ i j v e2
    have e1':(X.N.set i nm)[j]?=some x:=e1
    rw [List.getElem?_set_ne (Ne.symm n)] at e1'
    exact hl j x v e1' e4 e3⟩,I.cell,I.free,I.nR,I.pin,I.hok,by rw [a8U,I.len];simp,I.hnd,I.tup⟩
theorem tH (I:Inv (aeG X i nm) pins σ H s):Inv X pins (a1A σ i) H s :=
  ⟨aFH I.ok,I.os,I.bare,I.base,let ⟨m,hn,hl⟩:=I.loc;⟨m,hn,fun j x v e1 e2 e3=>by
    obtain ⟨n,e4⟩:=a8V σ i j v e2
    exact hl j x v (by show (X.N.set i nm)[j]?=some x;rw [List.getElem?_set_ne (Ne.symm n)];exact e1) e4 e3⟩,I.cell,I.free,I.nR,I.pin,I.hok,by rw [a8U,I.len];simp,I.hnd,I.tup⟩
end
def aLJ (F:cZ) (i:Nat):cZ:={ nx:=fun ρ G=>F.nx (nD ρ i) G,rt:=F.rt,bk:=fun ρ G=>F.bk (nD ρ i) G,ct:=fun ρ G=>F.ct (nD ρ i) G }
def a96 (i:Nat) (t:bA):bA:=fun F ρ G=>t (aLJ F i) (nD ρ i) G
theorem aFI {X:Cx} {i:Nat} {nm:Str} {st:Stmt} {t:bA} (h:PS3 (aeG X i nm) st t):PS3 X st (a96 i t):=by
  intro pins s σ H F I q
  obtain ⟨ρ,G,E,sr,g,q,u⟩:=q
  refine dN (h pins s (a1A σ i) H { nx:=fun σ H=>F.nx (a1A σ i) H,rt:=F.rt,bk:=fun σ H=>F.bk (a1A σ i) H,ct:=fun σ H=>F.ct (a1A σ i) H } (asB I) ⟨nD ρ i,G,aLJ E i,sr.clr i,g,q,⟨fun ρ G σ H' a b c=>u.nx _ _ _ _ (a.clr i) b c,u.rt,fun ρ G σ H' a b c=>u.bk _ _ _ _ (a.clr i) b c,fun ρ G σ H' a b c=>u.ct _ _ _ _ (a.clr i) b c⟩⟩) fun f s' z=>?_
  cases f with
  | next=>obtain ⟨σ',H',I',z⟩:=z;exact ⟨_,H',tH I',z⟩
  | brk=>obtain ⟨σ',H',I',z⟩:=z;exact ⟨_,H',tH I',z⟩
  | cont=>obtain ⟨σ',H',I',z⟩:=z;exact ⟨_,H',tH I',z⟩
  | ret v=>obtain ⟨v,σ',H',I',r,z⟩:=z;exact ⟨v,_,H',tH I',r,z⟩
theorem asC {X:Cx} {i:Nat} {nm:Str} {EX:aM→aW} (c:Cat X EX):Cat (aeG X i nm) (fun ρ=>EX (nD ρ i)):=⟨fun pins σ H s ρ e s' I sr q=>c.alX pins _ H s _ e s' (tH I) (sr.clr i) q⟩
theorem asD {X:Cx} {i:Nat} {nm:Str} {EX:aM→aW} (c:Thr X EX):Thr (aeG X i nm) (fun ρ=>EX (nD ρ i)):=⟨fun pins σ H s ρ C e us h' I sr m q=>c.made pins _ H s _ C e us h' (tH I) (sr.clr i) m q⟩
theorem a97 {nm:Str}:∀ {N:List Str} {i:Nat},N.Nodup→nm ∉ N→(N.set i nm).Nodup
  | [],_,h,_=>h
  | x :: r,0,h,n=>by
    rw [List.nodup_cons] at h
    show (nm :: r).Nodup
    rw [List.nodup_cons]
    exact ⟨fun z=>n (.tail _ z),h.2⟩
  | x :: r,i+1,h,n=>by
    rw [List.nodup_cons] at h
    show (x :: r.set i nm).Nodup
    rw [List.nodup_cons]
    refine ⟨fun z=>?_,a97 h.2 fun z=>n (.tail _ z)⟩
    rcases List.mem_or_eq_of_mem_set z with z | z
    · exact h.1 z
    · exact n (z ▸ .head _)
end L2
namespace L2
open PySem PySem.Spec PyProof.Rows PySem.W
section
variable {prog:Program} {w:World} {A:Around} {E:Value→Shared→Prop} {s:Shared}
end
section
variable {X:Cx}
end
end L2
namespace L2
open PySem PySem.Spec PyProof.Rows Builtin.Str
section
variable {prog:Program} {w:World} {A:Around} {E:Value→Shared→Prop} {s:Shared}
end
section
variable {X:Cx}
def aNL:RM3:=fun x xs G R=>match x,xs with
  | .str a,[.str b]=>(b.length == 0)=false∧a.length+2≤sizeLine∧(Txt.split a b).length≤sizeLine∧∀ q,G q=none→R (.ref q) (aN G q (.lst ((Txt.split a b).map D.str)))
  | _,_=>False
def aBS:List D→Gp→iD→Prop:=fun xs G R=>match xs with
  | [.int i]=>i.natAbs.log2 < 1920∧R (.str (toString i)) G
  | [.str z]=>R (.str z) G
  | _=>False
theorem aeH:qQ X (.type "str") (fun xs H Q=>(∃ i,xs=[.int i]∧i.natAbs.log2 < 1920∧Q (.str (toString i)) H)∨∃ z,xs=[.str z]∧Q (.str z) H):=by
  intro pins s σ H xs us Q I r h
  rcases h with ⟨i,rfl,hz,q⟩ | ⟨z,rfl,q⟩
  · obtain ⟨u,rfl,t,rfl⟩:=vals1 r
    exact PySem.P.str_of_int hz ⟨.str _,H,I.tok _,⟨_,rfl⟩,q⟩
  · obtain ⟨u,rfl,t,rfl⟩:=vals1 r
    exact PySem.P.str_of_str ⟨.str _,H,I,⟨_,rfl⟩,q⟩
theorem aLK:cM X (.type "str") aBS:=cM.of aeH fun H xs vs G R Q rx g q k=>by
  cases rx with
  | nil=>exact False.elim q
  | cons r rr =>
    cases rr with
    | cons _ _=>cases r <;> exact False.elim q
    | nil =>
      cases r with
      | int i=>exact .inl ⟨i,rfl,q.1,fun _=>k _ H _ G (.refl H) (.str _) g q.2⟩
      | str z=>exact .inr ⟨z,rfl,fun _=>k _ H _ G (.refl H) (.str _) g q⟩
      | _=>exact False.elim q
def amF:List D→Gp→iD→Prop:=fun xs G R=>match xs with
  | [.ref q]=>(match aO G q with
    | some ds=>R (.tup ds) G
    | none=>False)
  | _=>False
theorem axR:cM X (.type "tuple") amF:=cM.of abK fun H xs vs G R Q rx g q k=>by
  cases rx with
  | nil=>exact False.elim q
  | cons r rr =>
    cases rr with
    | cons _ _=>cases r <;> exact False.elim q
    | nil =>
      cases r with
      | ref a =>
        have q':(match aO G a with
          | some ds=>R (.tup ds) G
          | none=>False):=q
        split at q'
        · rename_i ds e1
          obtain ⟨xs,h1,r1⟩:=bY g e1
          refine ⟨a,xs,rfl,.inl ⟨h1,fun l hl kf=>?_⟩⟩
          have sn:Same H (upd H l (.tup xs)):=bB hl
          exact k _ _ _ _ (.same sn) (.tup (vZ.of aK) (r1.mono (.same sn)) (ajQ aK)) (g.same sn) q'
        · exact q'.elim
      | _=>exact False.elim q
end
end L2
namespace L2
open PySem PySem.Spec PyProof.Rows
section
variable {X:Cx} {pins:List (Addr×Obj)} {σ:St} {H:Hp} {s:Shared} {tl:List (Addr×List V)}
end
end L2
namespace L2
open PySem PySem.Spec PyProof.Rows PySem.W
section
variable {prog:Program} {w:World} {A:Around} {E:Value→Shared→Prop} {s:Shared}
def axS (prog:Program) (w:World) (I d:Addr) (h:Heap) (v:Value) (x:Key×Value):Prop:=∃ p o n key,v = .ref p∧h.get? p=some o∧o.cls = .type "tuple" ∧ o.data = .seq #[key,x.2] n∧(bW prog w).is x.1 key=true∧p≠I∧p≠d
theorem axS.keep {I d:Addr} {h h':Heap} {v:Value} {x:Key×Value} (q:axS prog w I d h v x) (k:∀ b o,b≠d→b≠I→h.get? b=some o→h'.get? b=some o):axS prog w I d h' v x:=by
  obtain ⟨p,o,n,key,e,h1,h2,h3,h4,h5,h6⟩:=q
  exact ⟨p,o,n,key,e,k _ _ h6 h5 h1,h2,h3,h4,h5,h6⟩
def aLL (prog:Program) (w:World) (h:Heap) (v:Value) (x:Key×Value):Prop:=∃ p o n key,v = .ref p∧h.get? p=some o∧o.cls = .type "tuple" ∧ o.data = .seq #[key,x.2] n∧(bW prog w).is x.1 key=true
theorem aLL.ok {I d:Addr} {h h':Heap} {v:Value} {x:Key×Value} (q:aLL prog w h v x) (hI:h.objs.size≤I) (hd:h.objs.size≤d) (k:∀ b o,h.get? b=some o→h'.get? b=some o):axS prog w I d h' v x:=by
  obtain ⟨p,o,n,key,e,h1,h2,h3,h4⟩:=q
  have l1:=Heap.lt_size h1
  exact ⟨p,o,n,key,e,k _ _ h1,h2,h3,h4,Nat.ne_of_lt (Nat.lt_of_lt_of_le l1 hI),Nat.ne_of_lt (Nat.lt_of_lt_of_le l1 hd)⟩
end
section
variable {X:Cx}
end
end L2
namespace L2
open PySem PySem.Spec PyProof.Rows PySem.W
section
variable {prog:Program} {w:World} {A:Around} {E:Value→Shared→Prop} {s:Shared}
end
section
variable {X:Cx}
end
end L2
namespace L2
open PySem PySem.Spec PyProof.Rows PySem.W
section
variable {prog:Program} {w:World} {A:Around} {E:Value→Shared→Prop} {s:Shared}
end
section
variable {X:Cx}
def kpD (p:Int×Int):DK×D:=(.inl (.inl p.1),.int p.2)
def amG (x:D) (G:Gp) (R:iD):Prop:=match x with
  | .ref a=>(match G a with
    | some (.lF false kvs)=>∃ ps:List (Int×Int),kvs=ps.map kpD∧ps.length < 64∧∀ qs:List (Int×Int),qs.Perm ps→axP qs→∀ r,G r=none→R (.ref r) (aN G r (.lst (qs.map prV)))
    | _=>False)
  | _=>False
def axT (to:bU):bU:=fun ρ G R=>to ρ G fun x G1=>amG x G1 R
def asF (x:D) (G:Gp) (R:iD):Prop:=match x with
  | .ref a=>(match G a with
    | some (.lF false kvs)=>∃ ps:List (Int×Int),kvs=ps.map kpD∧R (.int (ps.map (·.2)).sum) G
    | _=>False)
  | _=>False
def aFJ (to:bU):bU:=fun ρ G R=>to ρ G fun x G1=>asF x G1 R
end
end L2
namespace L2
open PySem PySem.Spec PyProof.Rows PySem.W
section
variable {prog:Program} {w:World} {A:Around} {E:Value→Shared→Prop} {s:Shared}
section
variable {κ:Type} [DecidableEq κ] {knd:HeapKind prog w κ}
end
end
section
variable {X:Cx}
end
end L2
namespace L2
open PySem PySem.Spec PyProof.Rows PySem.W
section
variable {X:Cx} {A:Around} {E:Value→Shared→Prop}
theorem aoS {pins:List (Addr×Obj)} {σ:St} {H H':Hp} {s:Shared} {a:Addr} {y v:V} {u r:Value} {Q:Unit→Shared→Prop} (hu:A.units < cLine) (I:Inv X pins σ H s) (g:agK H a y v H') (ry:RelV y u) (rv:RelV v r) (h:∀ s',Inv X pins σ H' s'→Q () s'):wpAny (model X.prog X.w) A (dictSet a u r) Q E s:=by
  rcases g with ⟨kvs,k,e,ey,l,eH⟩ | ⟨kvs,k,b,e,ey,eb,l,eH⟩
  · subst ey eH
    obtain ⟨z,hd,vs,rel,dd⟩:=aB9 I.hok e
    have lp:=qR kvs k v
    refine wpAny_dictSet_pairs (hsz:=by rw [← rel.length];exact z) (agJ ry) dd fun h' d2 hs=>h _ (a83 I (by rw [e];exact True.intro) hs (let ⟨q,_,_,hq,_⟩:=d2;⟨q,hq⟩) (aqM (by omega) hd (rel.put k rv) d2))
  · subst ey eH
    cases (show u=Value.ref b from ry)
    obtain ⟨z,hd,xs,rel,dd⟩:=aBA I.hok e
    have lp:=qR kvs k v
    refine wpAny_dictSet_heap (hsz:=by rw [← Paired.length rel];exact z) (show A.units < cLine from hu) (a8M I.hok eb) dd fun h' d2 hs=>h _ ?_
    obtain ⟨q,es,ep,hq,h2,h3,h4,_,h5⟩:=d2
    refine a83 I (by rw [e];exact True.intro) hs ⟨q,hq⟩ ⟨by omega,hd,_,(rel.put k eb rv).keeps fun c ys ec=>?_,q,es,ep,hq,h2,h3,h4,h5⟩
    rw [aU (aB1 ec e (fun z=>nomatch z))]
    exact ec
def aeI (t:Bool) (tk tv:bU):bU:=fun ρ G R=>∀ p,G p=none→tk ρ (aN G p (.lF t [])) fun y G1=>tv ρ G1 fun v G2=>xT (.ref p) y G2 fun a t' kvs k=>kvs.length < sizeLine∧R (.ref p) (aN G2 a (.lF t' (a7H kvs k v)))
theorem axU {k v:Expr} {tk tv:bU} {t:Bool} {pos:Pos} (hu:X.A.units+64 < cLine) (hk:cU X k tk) (hv:cU X v tv):cU X (.Dict [some k] [v] pos) (aeI t tk tv):=by
  intro pins s σ H Q I h
  obtain ⟨ρ,G,R,sr,g,q,kk⟩:=h
  refine wpAny_Dict_any rfl rfl (by simp) (by simp) ?_
  let p:=s.heap.objs.size
  have fr:H p=none:=I.hok.fresh (Nat.le_refl _)
  obtain ⟨H0,I0,sn,g0,fG⟩:∃ H0,Inv X pins σ H0 { s with heap:=s.heap.push { cls := .type "dict",data := .dict #[] },toks:=s.toks }∧Same H H0∧HR X.K H0 (aN G p (.lF t []))∧G p=none:=by
    cases t with
    | false =>
      have sn:Same H (upd H p (.dK [])):=bB fr
      have J:=I.laid (a:=p) (o := .dK []) (t':=s.toks) (fun _ _ q=>Heap.get?_push_of_some _ q) (Nat.le_refl _) (agM s.heap I.big)
      exact ⟨upd H p (.dK []),J,sn,g.put (u := .lF false []) fr (.inl ⟨rfl,[],aK,.nil⟩),nC g fr (xF J)⟩
    | true =>
      have sn:Same H (upd H p (.dT [])):=bB fr
      have J:=I.laid (a:=p) (o := .dT []) (t':=s.toks) (fun _ _ q=>Heap.get?_push_of_some _ q) (Nat.le_refl _) (aqN s.heap I.big)
      exact ⟨upd H p (.dT []),J,sn,g.put (u := .lF true []) fr (.inr ⟨rfl,[],aK,.nil⟩),nC g fr (xF J)⟩
  have t0:Ts H H0 := .same sn
  refine pairTrees_cons_walk (dN (hk pins _ σ H0 (fun vy H1=>Ts H0 H1∧∃ y G1,RD X.K H1 y vy∧HR X.K H1 G1∧tv ρ G1 fun v G2=>xT (.ref p) y G2 fun a t' kvs k=>kvs.length < sizeLine∧R (.ref p) (aN G2 a (.lF t' (a7H kvs k v)))) I0 ⟨ρ,_,_,sr.mono t0,g0,q p fG,fun vy H1 y G1 t1 r1 g1 q1=>⟨t1,y,G1,r1,g1,q1⟩⟩) fun uy s1 ⟨vy,H1,I1,ry,t1,y,G1,rdy,g1,q1⟩=>?_)
  refine dN (hv pins s1 σ H1 (fun vv H2=>Ts H1 H2∧∃ d G2,RD X.K H2 d vv∧HR X.K H2 G2∧xT (.ref p) y G2 fun a t' kvs k=>kvs.length < sizeLine∧R (.ref p) (aN G2 a (.lF t' (a7H kvs k d)))) I1 ⟨ρ,G1,_,sr.mono (t0.trans t1),g1,q1,fun vv H2 d G2 t2 r2 g2 q2=>⟨t2,d,G2,r2,g2,q2⟩⟩) fun uv s2 ⟨vv,H2,I2,rv,t2,d,G2,rdv,g2,q2⟩=>?_
  refine pairTrees_nil_walk ?_
  obtain ⟨a,kvs,kd,ea,_,e1,_,⟨hl,q3⟩,dd⟩:=a93 (.ref p) (rdy.mono t2) g2 q2
  cases ea
  obtain ⟨H4,pp,tt,g4⟩:=dd.put g2 rdv hl
  unfold storeAll
  rw [List.forIn_cons]
  refine wpAny_bind (wpAny_bind (aoS (by omega) I2 pp ry rv fun s3 I3=>wpAny_pure ?_))
  dsimp only
  rw [List.forIn_nil]
  exact wpAny_pure ⟨.ref p,H4,I3,rfl,kk _ H4 _ _ (((t0.trans t1).trans t2).trans tt) (.ref p) g4 q3⟩
end
end L2
namespace L2
open PySem PySem.Spec PyProof.Rows PySem.W
structure Fz (X:Cx) (p:Addr):Prop where
  free:∀ ob,X.s₀.heap.get? p=some ob→X.H₀ p=none→p∈X.ex
  tup:∀ xs,X.H₀ p≠some (.tup xs)
  nZ:∀ o w,X.H₀ p≠some (.nZ o w)
  tbl:∀ ps,X.H₀ p≠some (.tbl ps)
section
variable {X:Cx} {pins:List (Addr×Obj)} {σ:St} {H:Hp} {s:Shared}
theorem Fz.of {p:Addr} {u:HO} (I:Inv X pins σ H s) (hu:H p=some u) (h1:∀ xs,u ≠ .tup xs) (h2:∀ ob w,u ≠ .nZ ob w) (h3:∀ ps,u ≠ .tbl ps):Fz X p:=by
  refine ⟨fun ob q n=>?_,fun xs q=>?_,fun o w q=>?_,fun ps q=>?_⟩
  · apply Classical.byContradiction
    intro hx
    have:=I.base.free p ob q n hx
    rw [hu] at this;cases this
  · have:=I.base.tups p xs q
    rw [hu] at this;exact h1 xs (Option.some.inj this)
  · have:=I.base.lJ p o w q
    rw [hu] at this;exact h2 o w (Option.some.inj this)
  · obtain ⟨more,this⟩:=I.base.uM p ps q
    rw [hu] at this;exact h3 _ (Option.some.inj this)
end
section
variable {X:Cx} {pins:List (Addr×Obj)} {σ:St} {H:Hp} {s:Shared}
theorem Inv.freeze (I:Inv X pins σ H s) {a:Addr} {u:HO} {o:Obj} (hu:H a=some u) (h1:∀ xs,u ≠ .tup xs) (h2:∀ ob w,u ≠ .nZ ob w) (h3:∀ ps,u ≠ .tbl ps) (h4:∀ x,u ≠ .own x) (ho:s.heap.get? a=some o):Inv X pins σ (upd H a (.nZ o u)) s:=by
  have ne:∀ {b:Addr} {v:HO},H b=some v→v≠u→b≠a:=fun e n z=>by subst z;rw [hu] at e;exact n (Option.some.inj e).symm
  have no:∀ {b:Addr},H b=none→upd H a (.nZ o u) b=none:=fun {b} e=>by
    rw [aU];exact e
    intro z;subst z;rw [hu] at e;cases e
  have kt:∀ b xs,H b=some (.tup xs)→upd H a (.nZ o u) b=some (.tup xs):=fun b xs q=>by rw [aU (ne q fun z=>h1 xs z.symm)];exact q
  have kf:∀ b ob w,H b=some (.nZ ob w)→upd H a (.nZ o u) b=some (.nZ ob w):=fun b ob w q=>by rw [aU (ne q fun z=>h2 ob w z.symm)];exact q
  have ko:∀ b x,H b=some (.own x)→upd H a (.nZ o u) b=some (.own x):=fun b x q=>by rw [aU (ne q fun z=>h4 x z.symm)];exact q
  refine ⟨I.ok,I.os,I.bare,⟨I.base.keep,I.base.slot,fun b ob q n hx=>no (I.base.free b ob q n hx),I.base.there,fun b xs q=>kt b xs (I.base.tups b xs q),fun b ob w q=>kf b ob w (I.base.lJ b ob w q),fun b ps q=>?_⟩,I.loc,I.cell,no I.free,fun x c e=>no (I.nR x c e),fun p hp=>?_,fun b v e=>?_,I.len,I.hnd.mono kf,fun p hp=>kt _ _ (I.tup p hp)⟩
  · obtain ⟨more,e⟩:=I.base.uM b ps q
    exact ⟨more,by rw [aU (ne e fun z=>h3 _ z.symm)];exact e⟩
  · obtain ⟨z1,z2,z3⟩:=I.pin p hp
    exact ⟨z1,no z2,z3⟩
  · by_cases hb:b=a
    · subst hb
      rw [aK] at e
      obtain rfl:=Option.some.inj e
      exact ⟨ho,(I.hok b u hu).stay (fun _ _ _ q=>q) (fun c q=>ko c _ q) fun c xs q=>kt c xs q⟩
    · rw [aU hb] at e
      exact (I.hok b v e).stay (fun _ _ _ q=>q) (fun c q=>ko c _ q) fun c xs q=>kt c xs q
theorem aFK {ys:List (Key×V)} {vs:List (Key×Value)} (r:KV ys vs):∀ {i:Nat} {k:Key} {y:V},ys[i]?=some (k,y)→∃ u,vs[i]?=some (k,u)∧RelV y u:=by
  induction r with
  | nil=>intro i k y e;simp at e
  | @cons p q _ _ h _ ih =>
    intro i k y e
    cases i with
    | zero =>
      simp only [List.getElem?_cons_zero,Option.some.injEq] at e
      subst e
      obtain ⟨q1,q2⟩:=q
      obtain ⟨h1,h2⟩:=h
      exact ⟨q2,by simp only [List.getElem?_cons_zero];rw [show q1=k from h1.symm],h2⟩
    | succ i=>simpa using ih (by simpa using e)
theorem axV {k:Key} {key:Value} (h:a8H k key=true):RelV (kV k) key:=by
  rcases cY h with ⟨i,t,e1,e2⟩ | ⟨i,t,e1,e2⟩
  · subst e1;exact ⟨t,e2⟩
  · subst e1;exact ⟨t,e2⟩
theorem ahB {a:Addr} {od:Obj} {es:Array DictEntry} {ep:Nat} {ys:List (Key×V)} (I:Inv X pins σ H s) (hd:od.data = .dict es ep) (hq:H a=some (.nZ od (.dK ys))) :
    ∃ vs,KV ys vs∧s.heap.DictAt (bW X.prog X.w) a vs ep∧vs.length=es.size∧(a == sysModules)=false:=by
  obtain ⟨hod,_⟩:=(show s.heap.get? a=some od∧_ from I.hok a _ hq)
  obtain ⟨_,hsm,vs,kv,o1,es1,ep1,g1,g2,g3,g4,g5,g6⟩:=a68 I.hok (.inr ⟨od,hq⟩)
  rw [hod] at g1
  obtain rfl:=Option.some.inj g1
  rw [hd] at g3
  injection g3 with e1 e2
  subst e1 e2
  exact ⟨vs,kv,⟨od,es,hod,g2,hd,g4,g5,g6⟩,by rw [← g5.length];simp,hsm⟩
end
def Iti (a:Addr) (od:Obj):It :=
  ⟨fun i H=>∃ ys:List (Key×V),H a=some (.nZ od (.dK ys))∧i < ys.length,
   fun i H v H'=>∃ (p:Addr) (k:Key) (y:V),H p=none∧v = .ref p∧H'=upd H p (.tup [kV k,y])∧∀ ys,H a=some (.nZ od (.dK ys))→ys[i]?=some (k,y),
   fun i H=>∃ ys:List (Key×V),H a=some (.nZ od (.dK ys))∧ys.length≤i⟩
theorem a98 {tl:List (Addr×List V)} {P:Program} {w:World} {K:Fg} {es:List Expr} {kt:Nat} {pt:Pos} {a it:Addr} {od:Obj} {en:Array DictEntry} {ep:Nat} (hd:od.data = .dict en ep) :
    Turn true tl P w K (.Tuple es kt pt) (Iti a od) [it] it (fun i h=>∃ ok ov,IsItemIter h it a i en.size ep ok ov) where
  mem:=by simp
  obj:=fun i h st b hb=>by
    have e:b=it:=by simpa using hb
    subst e
    obtain ⟨ok,ov,e⟩:=st
    exact ⟨_,e,fun v z=>nomatch z⟩
  keep:=fun i h h' st k=>by
    obtain ⟨ok,ov,e⟩:=st
    exact ⟨ok,ov,k it (by simp) _ e⟩
  item:=by
    intro X hP hw hK hcm ht i pins s σ H E I hf st hg
    subst hP hw hK
    obtain ⟨ok,ov,hit⟩:=st
    obtain ⟨ys,hq,hi⟩:=hg
    obtain ⟨vs,kv,hm,hn,_⟩:=ahB I hd hq
    have hx:ys[i]?=some (ys[i].1,ys[i].2):=List.getElem?_eq_getElem hi
    obtain ⟨u,hu,ru⟩:=aFK kv hx
    have fr:=I.hok.fresh (Nat.le_refl s.heap.objs.size)
    have nit:s.heap.objs.size≠it:=Nat.ne_of_gt (Heap.lt_size hit)
    refine wpAny_pyNext_items_item (knd:=bW X.prog X.w) (kvs:=vs) (by rw [hn];exact hit) hm hu fun key h' hkey hout htu hsz kk=>?_
    refine ⟨_,rfl,wpAny_letOwnedTupleGo_items (s:={ s with heap:=h' }) hout fun h2 hin sb=>?_⟩
    have k2:∀ b o,b ∉ [it]→s.heap.get? b=some o→h2.get? b=some o:=fun b o hb e=>sb.extBut _ _ (fun q=>hb (by simp [q])) (kk b o (fun q=>hb (by simp [q])) e)
    refine ⟨.ref s.heap.objs.size,upd H s.heap.objs.size (.tup [kV ys[i].1,ys[i].2]),I.a4Y (t':=s.toks) (ch:=[it]) k2 hf (Nat.le_refl _) ⟨show 2≤sizeLine by decide,[key,u],.cons (axV hkey) (.cons ru .nil),⟨_,sb.extBut _ _ nit htu,rfl,_,rfl⟩⟩,rfl,
      ⟨_,ys[i].1,ys[i].2,fr,rfl,rfl,fun zs z=>by rw [hq] at z;cases z;exact hx⟩,⟨_,_,by rw [hn] at hin;exact hin⟩,fun b hb=>?_⟩
    have e:b=it:=by simpa using hb
    subst e
    rw [aU (Ne.symm nit)]
    exact (hf _ hb).1
  done:=by
    intro X hP hw hK hcm ht i pins s σ H E I hf st hg
    subst hP hw hK
    obtain ⟨ok,ov,hit⟩:=st
    obtain ⟨ys,hq,hi⟩:=hg
    obtain ⟨vs,kv,hm,hn,_⟩:=ahB I hd hq
    obtain ⟨f0,f1,f2,f3,f4,f5⟩:=hf it (by simp)
    have hl:ys.length=vs.length:=Paired.length kv
    exact wpAny_pyNext_items_end (knd:=bW X.prog X.w) (kvs:=vs) (I.ok.hd (hcm rfl)) (by rw [hn];exact hit) hm (List.getElem?_eq_none (by omega)) fun h' eb=>⟨rfl,I.turned (t':=s.toks) (fun b o hb e=>eb b o hb e) f0 f1 f3 f4 f5⟩
  self:=fun _ _ _ _ _ st h=>by
    obtain ⟨ok,ov,hit⟩:=st
    exact kcp_self hit h
theorem aFL {K:Fg} {H:Hp}:∀ k:Key,RD K H (kD k) (kV k)
  | .inl i => .int i
  | .inr x => .str x
theorem axW {α β:Type} {P:α→β→Prop} {as:List α} {bs:List β} (t:Two P as bs):∀ {i:Nat} {b:β},bs[i]?=some b→∃ a,as[i]?=some a∧P a b:=by
  induction t with
  | nil=>intro i b e;simp at e
  | @cons a b _ _ h _ ih =>
    intro i c e
    cases i with
    | zero=>simp only [List.getElem?_cons_zero,Option.some.injEq] at e;subst e;exact ⟨a,rfl,h⟩
    | succ i=>simpa using ih (by simpa using e)
theorem ahC {K:Fg} {H1:Hp} {p:Addr} {od:Obj} {kvs:List (DK×D)}:a7F K H1 (.itm p od kvs) (Iti p od):=fun H2 G2 t g ok=>by
  have ok':G2 p=some (.rdc od false kvs):=ok
  rcases g p _ ok' with ⟨_,ys,e,tw⟩ | ⟨z,_⟩
  · have hl:(Src.itm p od kvs).items.length=ys.length:=by simp [Src.items,tw.length]
    refine ⟨fun i hi=>⟨ys,e,by rw [hl] at hi;exact hi⟩,fun i v H' hi hy=>?_,⟨ys,e,by rw [hl];exact Nat.le_refl _⟩⟩
    obtain ⟨q,k,y,fr,rfl,rfl,hy⟩:=hy
    obtain ⟨⟨dk,d⟩,e2,r1,r2⟩:=axW tw (hy ys e)
    have r1:dk = .inl k:=r1
    subst r1
    have sn:Same H2 (upd H2 q (.tup [kV k,y])):=bB fr
    exact ⟨sn,.tup [kD k,d],by simp [Src.items,e2,dkD],.tup (vZ.of aK) (.cons (aFL k) (.cons (r2.mono (.same sn)) .nil)) (ajQ aK)⟩
  · cases z
theorem ahD {K:Fg} {p:Addr} {od:Obj} {kvs:List (DK×D)}:a7G K (.itm p od kvs) (Iti p od):=fun H2 G2 g ok=>ahC (H1:=H2) H2 G2 (.refl _) g ok
def a99 (al:Bool) (x:D) (G1:Gp) (R:Src→Gp→Prop):Prop:=match x with
  | .ref p=>(match G1 p with
    | some (.lF false kvs)=>∀ od,R (.itm p od kvs) (aN G1 p (.rdc od false kvs))
    | some (.rdc od false kvs)=>al=true∧R (.itm p od kvs) G1
    | _=>False)
  | _=>False
def o8 (al:Bool) (to:bU):TI3:=fun ρ G R=>to ρ G fun x G1=>a99 al x G1 R
theorem asG {al:Bool} {x:D} {G1:Gp} {R:Src→Gp→Prop} (h:a99 al x G1 R):∃ p kvs,x = .ref p∧((G1 p=some (.lF false kvs)∧∀ od,R (.itm p od kvs) (aN G1 p (.rdc od false kvs)))∨∃ od,G1 p=some (.rdc od false kvs)∧al=true∧R (.itm p od kvs) G1):=by
  unfold a99 at h
  split at h
  · rename_i p
    split at h
    · rename_i kvs e;exact ⟨p,kvs,rfl,.inl ⟨e,h⟩⟩
    · rename_i od kvs e;exact ⟨p,kvs,rfl,.inr ⟨od,e,h⟩⟩
    · exact h.elim
  · exact h.elim
section
variable {X:Cx}
theorem a9A {al:Bool} {SJ:Hp→Src→It→Prop} {o:Expr} {to:bU} {apos cpos:Pos} {es:List Expr} {kt:Nat} {pt:Pos} (hc:X.calm=true) (ho:cU X o to)
    (hbase:attributeBase o "items" X.env (eval o X.env)=eval o X.env) (hline:(apos.endLine == cpos.line)=true) (hSJ:∀ H p od kvs,(al=false→Fz X p)→SJ H (.itm p od kvs) (Iti p od)) :
    PI X (.Tuple es kt pt) (.Call (.Attribute o "items" apos) [] [] cpos) (fun σ H Q=>∃ ρ G R,SR X.K H ρ σ∧HR X.K H G∧o8 al to ρ G R∧∀ src J H' G',Ts H H'→HR X.K H' G'→SJ H' src J→R src G'→Q J H'):=by
  intro pins s σ H Q I h
  obtain ⟨ρ,G,R,sr,g,q,kk⟩:=h
  refine wpAny_Call_method0_late hbase hline (dN (ho pins s σ H (fun vx H1=>Ts H H1∧∃ x G1,RD X.K H1 x vx∧HR X.K H1 G1∧a99 al x G1 R) I ⟨ρ,G,_,sr,g,q,fun v H1 x G1 t1 r1 g1 q1=>⟨t1,x,G1,r1,g1,q1⟩⟩) fun v s1 ⟨vx,H1,I1,r1,t1,x1,G1,rx,g1,q1⟩=>?_)
  obtain ⟨a,kvs,rfl,q2⟩:=asG q1
  cases rx
  obtain rfl:v=Value.ref a:=r1
  obtain ⟨ys,ed⟩:∃ ys:List (Key×V),Rd H1 a (.dK ys):=by
    rcases q2 with ⟨e1,_⟩ | ⟨od,e1,_⟩
    · rcases g1 a _ e1 with ⟨_,ys,e2,_⟩ | ⟨z,_⟩
      · exact ⟨ys,.inl e2⟩
      · cases z
    · rcases g1 a _ e1 with ⟨_,ys,e2,_⟩ | ⟨z,_⟩
      · exact ⟨ys,.inr ⟨od,e2⟩⟩
      · cases z
  obtain ⟨h1,h2,h3⟩:=aqP I1 (.inl ⟨ys,ed⟩)
  refine ⟨"dict", "dict.items",PySem.F.plainAttrs_dict,PySem.F.slot_dict_items,PySem.F.type_dict_items,h1,h2,Calls.callWith_builtin rfl (PySem.evalArgs_none ?_)⟩
  obtain ⟨_,hsm,vs,kv,hd⟩:=a68 I1.hok ed
  refine call_meetsIn PySem.F.slot_dict_items h1 PySem.F.entry_dict_items (PySem.F.args_dict_items_1 _) (meets_dict_items (bW X.prog X.w) a hsm) ⟨⟨vs,hd⟩,?_⟩
  obtain ⟨od,en,ep,o1,o2,o3,o4,o5,o6⟩:=hd
  have I2:Inv X pins σ H1 { s1 with heap:=s1.heap.push { cls := .type "dict_items",data := .fields #[.ref a] },toks:=s1.toks }:=I1.kept fun b o e=>Heap.get?_push_of_some _ e
  have od2:(s1.heap.push { cls := .type "dict_items",data := .fields #[.ref a] }).get? a=some od:=Heap.get?_push_of_some _ o1
  have hm:(s1.heap.push { cls := .type "dict_items",data := .fields #[.ref a] }).DictAt (bW X.prog X.w) a vs ep:=⟨od,en,od2,o2,o3,o4,o5,o6⟩
  have hln:vs.length=en.size:=by rw [← o5.length];simp
  show wpAny (model X.prog X.w) X.A (pyIter (.ref s1.heap.objs.size)) (PIE X pins σ (.Tuple es kt pt) Q) X.xe { s1 with heap:=s1.heap.push { cls := .type "dict_items",data := .fields #[.ref a] } }
  generalize hh:s1.heap.push { cls := .type "dict_items",data := .fields #[.ref a] }=hp at *
  have hv:hp.IsItemsView s1.heap.objs.size a:=⟨_,by rw [← hh];exact Heap.get?_push_size _ rfl,rfl,rfl⟩
  refine wpAny_pyIter_items (s:={ s1 with heap:=hp }) (knd:=bW X.prog X.w) hv hm ?_
  have I3:Inv X pins σ H1 { s1 with heap:=hp.push { cls := .type "dict_itemiterator",data := .fields #[.none,.bool false,.ref a,.int 0 0,.int vs.length 0,.int ep 0,.none,.none] },toks:=s1.toks }:=I2.kept fun b o e=>Heap.get?_push_of_some _ e
  have od3:(hp.push { cls := .type "dict_itemiterator",data := .fields #[.none,.bool false,.ref a,.int 0 0,.int vs.length 0,.int ep 0,.none,.none] }).get? a=some od:=Heap.get?_push_of_some _ od2
  have hit:IsItemIter (hp.push { cls := .type "dict_itemiterator",data := .fields #[.none,.bool false,.ref a,.int 0 0,.int vs.length 0,.int ep 0,.none,.none] }) hp.objs.size a 0 en.size ep .none .none:=by
    rw [← hln]
    exact Heap.get?_push_size _ rfl
  have fr1:H1 hp.objs.size=none:=I2.hok.fresh (Nat.le_refl _)
  rcases q2 with ⟨e1,q3⟩ | ⟨od',e1,ha,q3⟩
  · rcases g1 a _ e1 with ⟨_,zs,e2,tw⟩ | ⟨z,_⟩
    · have tt:Ts H1 (upd H1 a (.nZ od (.dK zs))):=Ts.turn e2 (fun xs z=>nomatch z) (fun ob w z=>nomatch z)
      have I4:=I3.freeze e2 (fun xs z=>nomatch z) (fun ob w z=>nomatch z) (fun ps z=>nomatch z) (fun x z=>nomatch z) od3
      have g4:HR X.K (upd H1 a (.nZ od (.dK zs))) (aN G1 a (.rdc od false kvs)):=g1.turn tt (.inl ⟨rfl,zs,aK,tw.imp fun _ _ q=>⟨q.1,q.2.mono tt⟩⟩)
      have na:hp.objs.size≠a:=Nat.ne_of_gt (Heap.lt_size od2)
      refine ⟨hp.objs.size,[hp.objs.size],_,Iti a od,_,rfl,I4,(show Turn X.calm X.tp X.prog X.w X.K (.Tuple es kt pt) _ _ _ _ from hc ▸ a98 o3),⟨_,_,hit⟩,fun b hb=>?_,kk _ _ _ _ (t1.trans tt) g4 (hSJ _ a od kvs fun _=>Fz.of I1 e2 (fun xs z=>nomatch z) (fun ob w z=>nomatch z) (fun ps z=>nomatch z)) (q3 od)⟩
      have e:b=hp.objs.size:=by simpa using hb
      subst e
      exact I2.a4J (Nat.le_refl _) (by rw [aU na];exact fr1)
    · cases z
  · rcases g1 a _ e1 with ⟨_,zs,e2,tw⟩ | ⟨z,_⟩
    · obtain ⟨od4,_⟩:=(show s1.heap.get? a=some od'∧_ from I1.hok a _ e2)
      rw [o1] at od4
      obtain rfl:=Option.some.inj od4
      refine ⟨hp.objs.size,[hp.objs.size],_,Iti a od,_,rfl,I3,(show Turn X.calm X.tp X.prog X.w X.K (.Tuple es kt pt) _ _ _ _ from hc ▸ a98 o3),⟨_,_,hit⟩,fun b hb=>?_,kk _ _ _ _ t1 g1 (hSJ _ a od kvs fun z=>by rw [ha] at z;cases z) q3⟩
      have e:b=hp.objs.size:=by simpa using hb
      subst e
      exact I2.a4J (Nat.le_refl _) fr1
    · cases z
theorem axX {o:Expr} {to:bU} {apos cpos:Pos} {es:List Expr} {kt:Nat} {pt:Pos} (hc:X.calm=true) (ho:cU X o to) (hbase:attributeBase o "items" X.env (eval o X.env)=eval o X.env) (hline:(apos.endLine == cpos.line)=true) :
    PI3 X (.Tuple es kt pt) (.Call (.Attribute o "items" apos) [] [] cpos) (o8 true to):=a9A (SJ:=a7F X.K) hc ho hbase hline fun _ _ _ _ _=>ahC
theorem asH {o:Expr} {to:bU} {apos cpos:Pos} {es:List Expr} {kt:Nat} {pt:Pos} (hc:X.calm=true) (ho:cU X o to) (hbase:attributeBase o "items" X.env (eval o X.env)=eval o X.env) (hline:(apos.endLine == cpos.line)=true) :
    PIS X (.Tuple es kt pt) (.Call (.Attribute o "items" apos) [] [] cpos) (o8 true to):=a9A (SJ:=fun _=>a7G X.K) hc ho hbase hline fun _ _ _ _ _=>ahD
end
section
variable {X:Cx} {pins:List (Addr×Obj)} {σ:St} {H:Hp} {s:Shared}
end
def aBT (al:Bool) (x:D) (G1:Gp) (R:Src→Gp→Prop):Prop:=match x with
  | .ref p=>(match G1 p with
    | some (.lF t kvs)=>∀ od,R (.key p od t kvs) (aN G1 p (.rdc od t kvs))
    | some (.rdc od t kvs)=>al=true∧R (.key p od t kvs) G1
    | _=>False)
  | _=>False
def aFM (al:Bool) (te:bU):TI3:=fun ρ G R=>te ρ G fun x G1=>aBT al x G1 R
section
variable {X:Cx} {pins:List (Addr×Obj)} {σ:St} {H:Hp} {s:Shared}
theorem asI {a:Addr} (I:Inv X pins σ H s) (d:IsD H a):∃ od en ep,s.heap.get? a=some od∧od.ExactDict∧od.data = .dict en ep∧(a == sysModules)=false:=by
  rcases d with ⟨kvs,e⟩ | ⟨kvs,e⟩
  · obtain ⟨_,hd,vs,_,od,en,ep,h1,h2,h3,_⟩:=a68 I.hok e
    exact ⟨od,en,ep,h1,h2,h3,hd⟩
  · obtain ⟨_,hd,vs,_,od,en,ep,h1,h2,h3,_⟩:=acH I.hok e
    exact ⟨od,en,ep,h1,h2,h3,hd⟩
end
end L2
namespace L2
open PySem PySem.Spec PyProof.Rows PySem.W
structure Tt (H H':Hp):Prop where
  tups:∀ a xs,H a=some (.tup xs)→H' a=some (.tup xs)
  aPU:∀ a o xs,H a=some (.nZ o (.tup xs))→H' a=some (.nZ o (.tup xs))
theorem Tt.sqT {K:Fg} {H H':Hp} (t:Tt H H') {a:Addr} {xs:List V} (h:vZ K H a xs):vZ K H' a xs:=by
  rcases h with (h | ⟨o,h⟩) | h
  · exact .inl (.inl (t.tups _ _ h))
  · exact .inl (.inr ⟨o,t.aPU _ _ _ h⟩)
  · exact .inr h
theorem agP.iI {H H':Hp} (t:Tt H H') {a:Addr} {xs:List V} (h:agP H a xs):agP H' a xs:=trivial
mutual
theorem RD.iI {K:Fg} {H H':Hp} (t:Tt H H'):∀ {d:D} {v:V},RD K H d v→RD K H' d v
  | _,_,.non => .non
  | _,_,.bl b => .bl b
  | _,_,.int i => .int i
  | _,_,.str x => .str x
  | _,_,.ty n => .ty n
  | _,_,.ref a => .ref a
  | _,_,.tup h r e => .tup (t.sqT h) (cL.iI t r) (e.iI t)
theorem cL.iI {K:Fg} {H H':Hp} (t:Tt H H'):∀ {ds:List D} {vs:List V},cL K H ds vs→cL K H' ds vs
  | _,_,.nil => .nil
  | _,_,.cons h r => .cons (RD.iI t h) (cL.iI t r)
end
theorem SR.iI {K:Fg} {H H':Hp} (t:Tt H H'):∀ {ρ:aM} {σ:St},SR K H ρ σ→SR K H' ρ σ
  | _,_,.nil => .nil
  | _,_,.none r => .none (SR.iI t r)
  | _,_,.some h r => .some (h.iI t) (SR.iI t r)
theorem OR.aLM {K:Fg} {H H':Hp} {a:Addr} {o:GO} (t:Tt H H') (h:OR K H a o) (k:∀ u,H a=some u→H' a=some u):OR K H' a o:=by
  cases o with
  | lst ds=>obtain ⟨xs,e,r⟩:=h;exact ⟨xs,k _ e,r.iI t⟩
  | rol ds =>
    obtain ⟨xs,e,r⟩:=h
    refine ⟨xs,?_,r.iI t⟩
    rcases e with (e | ⟨o,e⟩) | e
    · exact .inl (.inl (k _ e))
    · exact .inl (.inr ⟨o,k _ e⟩)
    · exact .inr e
  | lF b kvs =>
    rcases h with ⟨z,xs,e,r⟩ | ⟨z,xs,e,r⟩
    · exact .inl ⟨z,xs,k _ e,r.imp fun _ _ q=>⟨q.1,q.2.iI t⟩⟩
    · exact .inr ⟨z,xs,k _ e,r.imp fun _ _ q=>⟨q.1,q.2.iI t⟩⟩
  | ins C fs=>obtain ⟨dx,vs,e,r⟩:=h;exact ⟨dx,vs,k _ e,r.imp fun _ _ q=>⟨q.1,q.2.iI t⟩⟩
  | rdc ob b kvs =>
    rcases h with ⟨z,xs,e,r⟩ | ⟨z,xs,e,r⟩
    · exact .inl ⟨z,xs,k _ e,r.imp fun _ _ q=>⟨q.1,q.2.iI t⟩⟩
    · exact .inr ⟨z,xs,k _ e,r.imp fun _ _ q=>⟨q.1,q.2.iI t⟩⟩
  | exn C=>obtain ⟨o,vs,e,r⟩:=h;exact ⟨o,vs,k _ e,r⟩
  | tpl ds=>obtain ⟨xs,e,r⟩:=h;exact ⟨xs,t.sqT e,r.iI t⟩
theorem asJ {K:Fg} {H:Hp} {G:Gp} {p:Addr} {od:Obj} {t:Bool} {kvs:List (DK×D)} (g:HR K H G) (e:G p=some (.rdc od t kvs)) :
    ∃ u,H p=some (.nZ od u)∧(∀ xs,u ≠ .tup xs)∧(∀ ob w,u ≠ .nZ ob w)∧IsD H p∧Tt H (upd H p u)∧HR K (upd H p u) (aN G p (.lF t kvs)):=by
  have key:∀ u,H p=some (.nZ od u)→(∀ xs,u ≠ .tup xs)→Tt H (upd H p u):=fun u hu h1=>by
    refine ⟨fun a xs q=>?_,fun a o xs q=>?_⟩
    · rw [aU];exact q
      intro z;subst z;rw [hu] at q;cases q
    · rw [aU];exact q
      intro z;subst z;rw [hu] at q;cases q;exact h1 xs rfl
  have rest:∀ u,Tt H (upd H p u)→OR K (upd H p u) p (.lF t kvs)→HR K (upd H p u) (aN G p (.lF t kvs)):=fun u tt new a v q=>by
    by_cases z:a=p
    · subst z;rw [aQ] at q;obtain rfl:=Option.some.inj q;exact new
    · rw [bK z] at q
      exact (g a v q).aLM tt fun w y=>by rw [aU z];exact y
  rcases g p _ e with ⟨z,xs,e2,tw⟩ | ⟨z,xs,e2,tw⟩
  · have tt:=key _ e2 (fun xs z=>nomatch z)
    exact ⟨_,e2,(fun xs z=>nomatch z),(fun ob w z=>nomatch z),.inl ⟨xs,.inr ⟨od,e2⟩⟩,tt,rest _ tt (.inl ⟨z,xs,aK,tw.imp fun _ _ q=>⟨q.1,q.2.iI tt⟩⟩)⟩
  · have tt:=key _ e2 (fun xs z=>nomatch z)
    exact ⟨_,e2,(fun xs z=>nomatch z),(fun ob w z=>nomatch z),.inr ⟨xs,.inr ⟨od,e2⟩⟩,tt,rest _ tt (.inr ⟨z,xs,aK,tw.imp fun _ _ q=>⟨q.1,q.2.iI tt⟩⟩)⟩
section
variable {X:Cx} {pins:List (Addr×Obj)} {σ:St} {H:Hp} {s:Shared}
theorem Inv.ak1 {p:Addr} {od:Obj} {u:HO} (I:Inv X pins σ H s) (fz:Fz X p) (hu:H p=some (.nZ od u)) (h1:∀ xs,u ≠ .tup xs) (isd:IsD H p):Inv X pins σ (upd H p u) s:=by
  have ne:∀ {b:Addr} {v:HO},H b=some v→v ≠ .nZ od u→b≠p:=fun e n z=>by subst z;rw [hu] at e;exact n (Option.some.inj e).symm
  have no:∀ {b:Addr},H b=none→upd H p u b=none:=fun {b} e=>by
    rw [aU];exact e
    intro z;subst z;rw [hu] at e;cases e
  have kt:∀ b xs,H b=some (.tup xs)→upd H p u b=some (.tup xs):=fun b xs q=>by rw [aU (ne q fun z=>nomatch z)];exact q
  have ko:∀ b x,H b=some (.own x)→upd H p u b=some (.own x):=fun b x q=>by rw [aU (ne q fun z=>nomatch z)];exact q
  obtain ⟨ho,hok⟩:=(show s.heap.get? p=some od∧fQ X.prog X.w H s.heap p u from I.hok p _ hu)
  refine ⟨I.ok,I.os,I.bare,⟨I.base.keep,I.base.slot,fun b ob q n hx=>?_,I.base.there,fun b xs q=>kt b xs (I.base.tups b xs q),fun b ob w q=>?_,fun b ps q=>?_⟩,I.loc,I.cell,no I.free,fun x c e=>no (I.nR x c e),fun q hq=>?_,fun b v e=>?_,I.len,?_,fun q hq=>kt _ _ (I.tup q hq)⟩
  · exact no (I.base.free b ob q n hx)
  · have:=I.base.lJ b ob w q
    rw [aU];exact this
    intro z;subst z;exact fz.nZ ob w q
  · obtain ⟨more,e⟩:=I.base.uM b ps q
    exact ⟨more,by rw [aU (ne e fun z=>nomatch z)];exact e⟩
  · obtain ⟨z1,z2,z3⟩:=I.pin q hq
    exact ⟨z1,no z2,z3⟩
  · by_cases hb:b=p
    · subst hb
      rw [aK] at e
      obtain rfl:=Option.some.inj e
      exact hok.stay (fun _ _ _ q=>q) (fun c q=>ko c _ q) fun c xs q=>kt c xs q
    · rw [aU hb] at e
      exact (I.hok b v e).stay (fun _ _ _ q=>q) (fun c q=>ko c _ q) fun c xs q=>kt c xs q
  · rcases I.hnd with z | ⟨x,o,w,vs,a,b,c,d⟩
    · exact .inl z
    · refine .inr ⟨x,o,w,vs,a,?_,c,d⟩
      rw [aU];exact b
      intro z;subst z
      rw [hu] at b
      cases b
      obtain ⟨od',en,ep,o1,_,o3,_⟩:=asI I isd
      rw [ho] at o1
      cases o1
      rw [o3] at c;cases c
end
def Src.ak1 (G:Gp):Src→Gp
  | .itm p _ kvs=>aN G p (.lF false kvs)
  | .key p _ t kvs=>aN G p (.lF t kvs)
  | _=>G
def FzS (X:Cx):Src→Prop
  | .itm p _ _=>Fz X p
  | .key p _ _ _=>Fz X p
  | _=>True
def aPW (X:Cx) (t:TI3):TI:=fun σ H Q=>∃ ρ G R,SR X.K H ρ σ∧HR X.K H G∧t ρ G R∧∀ src J H' G',Ts H H'→HR X.K H' G'→(a7G X.K src J∧FzS X src)→R src G'→Q J H'
abbrev PIF (X:Cx) (tg iter:Expr) (t:TI3):Prop:=PI X tg iter (aPW X t)
section
variable {X:Cx}
theorem asK {o:Expr} {to:bU} {apos cpos:Pos} {es:List Expr} {kt:Nat} {pt:Pos} (hc:X.calm=true) (ho:cU X o to) (hbase:attributeBase o "items" X.env (eval o X.env)=eval o X.env) (hline:(apos.endLine == cpos.line)=true) :
    PIF X (.Tuple es kt pt) (.Call (.Attribute o "items" apos) [] [] cpos) (o8 false to):=a9A (SJ:=fun _ src J=>a7G X.K src J∧FzS X src) hc ho hbase hline fun _ _ _ _ z=>⟨ahD,z rfl⟩
end
def a88 (ti:TI3) (tg:TG3) (tb:bA):bA:=fun F ρ G=>ti ρ G fun src G1=>∃ P:Nat→aM→Gp→Prop,P 0 ρ G1∧(∀ k ρ G,k≤src.items.length→P k ρ G→src.ok G) ∧
  (∀ k d ρ G,src.items[k]?=some d→P k ρ G→tg d ρ fun ρ2=>tb { F with nx:=P (k+1),ct:=P (k+1),bk:=fun ρ G=>src.ok G∧F.nx ρ (src.ak1 G) } ρ2 G)∧∀ ρ G,P src.items.length ρ G→F.nx ρ (src.ak1 G)
def ThN (X:Cx) (E:cZ) (σ:St) (H:Hp):Prop:=∃ src ρ G,FzS X src∧SR X.K H ρ σ∧HR X.K H G∧src.ok G∧E.nx ρ (src.ak1 G)
theorem asL {X:Cx} {pins:List (Addr×Obj)} {σ:St} {H:Hp} {s:Shared} {E:cZ} {F:Ends} (u:UpD X.K E F) (I:Inv X pins σ H s) (h:ThN X E σ H):∃ H',Inv X pins σ H' s∧F.nx σ H':=by
  obtain ⟨src,ρ,G,fz,sr,g,ok,q⟩:=h
  have one:∀ {p:Addr} {od:Obj} {t:Bool} {kvs:List (DK×D)},Fz X p→G p=some (.rdc od t kvs)→E.nx ρ (aN G p (.lF t kvs))→∃ H',Inv X pins σ H' s∧F.nx σ H':=fun fz e q=>by
    obtain ⟨w,hw,w1,w2,isd,tt,g'⟩:=asJ g e
    exact ⟨_,I.ak1 fz hw w1 isd,u.nx _ _ _ _ (sr.iI tt) g' q⟩
  cases src with
  | itm p o kvs=>exact one fz ok q
  | key p o t kvs=>exact one fz ok q
  | lst p xs=>exact ⟨H,I,u.nx _ _ _ _ sr g q⟩
  | imm xs=>exact ⟨H,I,u.nx _ _ _ _ sr g q⟩
  | zip p r xs ys=>exact ⟨H,I,u.nx _ _ _ _ sr g q⟩
  | tpl p xs=>exact ⟨H,I,u.nx _ _ _ _ sr g q⟩
  | enu p xs=>exact ⟨H,I,u.nx _ _ _ _ sr g q⟩
section
variable {X:Cx}
theorem axY {tgt iter:Expr} {body:List Stmt} {ti:TI3} {tg:TG3} {tb:bA} {pos:Pos} (hp:PassesOwn (model X.prog X.w) X.A X.env X.xe) (hi:PIF X tgt iter ti) (hg:PG3 X tgt tg) (hb:a8Q X body tb)
    (hs:∀ x,foldedSetIterable iter X.env x=pure x):PS3 X (.For tgt iter body [] pos) (a88 ti tg tb):=by
  intro pins s σ H F I h
  obtain ⟨ρ,G,E,sr,g,q,d⟩:=h
  have key:=aqE (pos:=pos) hp hi hg hb hs pins s σ H { F with nx:=ThN X E } I ⟨ρ,G,_,sr,g,q,fun src J H1 G1 t1 g1 ⟨sj,fz⟩ ⟨P,p0,pok,pst,pend⟩=>?_⟩
  · refine dN key fun f s' z=>?_
    cases f with
    | next=>obtain ⟨σ',H',J,z⟩:=z;obtain ⟨H2,J2,z2⟩:=asL d J z;exact ⟨σ',H2,J2,z2⟩
    | brk=>obtain ⟨σ',H',J,z⟩:=z;exact ⟨σ',H',J,z⟩
    | cont=>obtain ⟨σ',H',J,z⟩:=z;exact ⟨σ',H',J,z⟩
    | ret w=>obtain ⟨w,σ',H',J,r,z⟩:=z;exact ⟨w,σ',H',J,r,z⟩
  · refine agU (K:=X.K) (n:=src.items.length) (fun k σ2 H2=>∃ ρ' G',SR X.K H2 ρ' σ2∧HR X.K H2 G'∧P k ρ' G') ⟨ρ,G1,sr.mono t1,g1,p0⟩ (fun σ2 H2 ⟨ρ',G',s2,g2,p⟩=>?_) (fun k σ2 H2 hk ⟨ρ',G',s2,g2,p⟩=>?_) (fun k y σ2 H2 H3 hk ⟨ρ',G',s2,g2,p⟩ hy=>?_)
      (fun σ2 H2 ⟨ρ',G',s2,g2,p⟩=>⟨src,ρ',G',fz,s2,g2,pok _ ρ' G' (Nat.le_refl _) p,pend ρ' G' p⟩)
    · exact (sj H2 G' g2 (pok _ ρ' G' (Nat.le_refl _) p)).2.2
    · exact (sj H2 G' g2 (pok _ ρ' G' (Nat.le_of_lt hk) p)).1 k hk
    · obtain ⟨sm,dk,e1,e2⟩:=(sj H2 G' g2 (pok _ ρ' G' (Nat.le_of_lt hk) p)).2.1 k y H3 hk hy
      refine ⟨ρ',dk,_,s2.mono (.same sm),e2,pst k dk ρ' G' e1 p,fun ρ2 σ3 s3 q3=>?_⟩
      exact ⟨ρ2,G',_,s3,g2.same sm,q3,⟨fun ρ4 G4 σ4 H4 s4 g4 q4=>⟨ρ4,G4,s4,g4,q4⟩,d.rt,fun ρ4 G4 σ4 H4 s4 g4 q4=>⟨src,ρ4,G4,fz,s4,g4,q4.1,q4.2⟩,fun ρ4 G4 σ4 H4 s4 g4 q4=>⟨ρ4,G4,s4,g4,q4⟩⟩⟩
end
end L2
namespace L2
open PySem PySem.Spec PyProof.Rows PySem.W
section
variable {X:Cx}
def amH (x:D) (G:Gp) (R:iD):Prop:=match x with
  | .ref a=>(match a6D G a with
    | some (false,kvs)=>∀ l,G l=none→R (.ref l) (aN G l (.lst (kvs.map (·.2))))
    | _=>False)
  | _=>False
def axZ (to:bU):bU:=fun ρ G R=>to ρ G fun x G1=>amH x G1 R
end
end L2
namespace L2
open PySem PySem.Spec PyProof.Rows
section
open AutoSeq1 (wpAny_loadPart')
theorem a9B (l:Addr) (items:Array Value) (n:Nat) (dct:Option Addr) (sl:Array (Option Value)) :
    Meets (Builtin.«enumerate.__new__» ⟨[.type "enumerate",.ref l],[]⟩) (fun _ R s=>s.heap.get? l=some { cls := .type "tuple",dict:=dct,data := .seq items n,slots:=sl } ∧
      R (.ok (.ret (.ref (s.heap.push { cls := .type "tuple_iterator",data := .fields #[.ref l,.int 0 0] }).objs.size)))
        { s with heap:=(s.heap.push { cls := .type "tuple_iterator",data := .fields #[.ref l,.int 0 0] }).push { cls := .type "enumerate",data := .fields #[.none,.bool false,.ref s.heap.objs.size,rawInt 0,.none,.none] } }) :=
  .of_wp fun prog w A R s h=>by
    obtain ⟨hp,g,d,tk,os⟩:=s;obtain ⟨hl,h⟩:=h
    have hsub:=sub_enumerate
    have hL:Heap.IsTuple (Shared.heap ⟨hp,g,d,tk,os⟩) l items:=⟨_,hl,rfl,n,rfl⟩
    wp_walk using wpAny_loadPart' hl
    refine wpAny_stack_any fun st=>wpAny_pure ?_
    split
    · rename_i c _ _ _ _ _
      cases (c == Value.type "enumerate")
      · wp_walk using wpAny_loadPart' hl,wpAny_pyIter_tuple hL
        exact ⟨_,rfl,h⟩
      · wp_walk using wpAny_loadPart' hl,wpAny_pyIter_tuple hL
        exact ⟨_,rfl,h⟩
    · wp_walk using wpAny_loadPart' hl,wpAny_pyIter_tuple hL
      exact ⟨_,rfl,h⟩
end
section
variable {prog:Program} {w:World} {A:Around} {E:Value→Shared→Prop} {s:Shared}
theorem abR {l:Addr} {items:Array Value} {Q:Value→Shared→Prop} (hL:s.heap.IsTuple l items)
    (h:∀ h',IsEnum h' (s.heap.objs.size+1) s.heap.objs.size 0 .none→h'.IsTupleIter s.heap.objs.size l 0→h'.objs.size=s.heap.objs.size+2 →
      (∀ b o,s.heap.get? b=some o→h'.get? b=some o)→Q (.ref (s.heap.objs.size+1)) { s with heap:=h' }) :
    wpAny (model prog w) A (call (.type "enumerate") [.ref l]) Q E s:=by
  obtain ⟨⟨c,dct,dt,sl⟩,hl,hc,n,hd⟩:=hL
  replace hc:c = .type "tuple" := hc
  replace hd:dt = .seq items n:=hd
  subst hc hd
  refine callType_new F.called_enumerate (by decide) (F.typeCall_enumerate_1 _) (F.newCall_enumerate_1 _) (fun obj=>F.args_object_init_2 obj _) F.entry_enumerate_new
    (a9B l items n dct sl) ⟨hl,?_⟩
  have hz:(s.heap.push { cls := .type "tuple_iterator",data := .fields #[.ref l,.int 0 0] }).objs.size=s.heap.objs.size+1:=Heap.size_push ..
  show _∧_
  rw [hz]
  have he:IsEnum ((s.heap.push { cls := .type "tuple_iterator",data := .fields #[.ref l,.int 0 0] }).push
      { cls := .type "enumerate",data := .fields #[.none,.bool false,.ref s.heap.objs.size,rawInt 0,.none,.none] }) (s.heap.objs.size+1) s.heap.objs.size 0 .none:=by
    have:=Heap.get?_push_size (s.heap.push { cls := .type "tuple_iterator",data := .fields #[.ref l,.int 0 0] })
      (o:={ cls := .type "enumerate",data := .fields #[.none,.bool false,.ref s.heap.objs.size,rawInt 0,.none,.none] }) rfl
    rw [hz] at this;exact this
  refine ⟨⟨_,he,rfl⟩,h _ he ⟨_,Heap.get?_push_of_some _ (Heap.get?_push_size _ rfl),rfl,rfl⟩ (by rw [Heap.size_push,hz]) fun b o x=>Heap.get?_push_of_some _ (Heap.get?_push_of_some _ x)⟩
theorem a7J {it l:Addr} {i:Nat} {items:Array Value} {x:Value} {Q:Value→Shared→Prop} (hit:s.heap.IsTupleIter it l i) (hl:s.heap.IsTuple l items) (hx:items[i]?=some x)
    (hQ:∀ h',h'.IsTupleIter it l (i+1)→Heap.SameBut it s.heap h'→Q x { s with heap:=h' }):wpAny (model prog w) A (Builtin.SmallTypes.nextOf (.ref it)) Q E s:=by
  obtain ⟨o,ho,hc,hd⟩:=id hit
  obtain ⟨ol,hol,_,nl,hdl⟩:=hl
  unfold Builtin.SmallTypes.nextOf
  refine wpAny_bind (wpAny_callSpecial?_slot (name:=Str.ofString "__next__") hit.typeIs F.slot_tuple_iterator_next
    (wpAny_call_entry F.slot_tuple_iterator_next hit.typeIs F.entry_tuple_iterator_next ?_ (F.args_tuple_iterator_next_1 _)))
  show wpAny _ _ (field (.ref it) 0 >>= _) _ _ s
  refine wpAny_bind (wpAny_field ho hd (x := .ref l) rfl ?_)
  show wpAny _ _ (if (Value.ref l == Value.none)=true then _ else _) _ _ s
  rw [if_neg (show ¬ ((Value.ref l == Value.none)=true) from Bool.false_ne_true)]
  show wpAny _ _ (field (.ref it) 1 >>= _) _ _ s
  refine wpAny_bind (wpAny_field ho hd (x := .int i 0) rfl ?_)
  show wpAny _ _ (seqItems? (.ref l) >>= _) _ _ s
  refine wpAny_bind (wpAny_seqItems hol hdl ?_)
  simp only [Int.toNat_natCast,hx]
  refine wpAny_bind (wpAny_setField ho hd (by simp) (wpAny_pure ⟨x,rfl,wpAny_pure (hQ _ ?_ (Heap.SameBut.update ..))⟩))
  exact ⟨_,Heap.get?_update_self _ ho (Obj.isFreed_of_fields (Obj.data_mapFields hd _)),(Obj.cls_mapFields ..).trans hc,by
    rw [Obj.data_mapFields hd];simp [rawInt]⟩
theorem a9C {it l:Addr} {i:Nat} {items:Array Value} {Q:Value→Shared→Prop} (hh:A.handled=none) (hit:s.heap.IsTupleIter it l i) (hl:s.heap.IsTuple l items) (hx:items[i]?=none)
    (hE:∀ h' e,Heap.ExtBut it s.heap h'→(∃ o,h'.get? e=some o∧o.cls = .type "StopIteration")→E (.ref e) { s with heap:=h' }):wpAny (model prog w) A (Builtin.SmallTypes.nextOf (.ref it)) Q E s:=by
  obtain ⟨o,ho,hc,hd⟩:=id hit
  obtain ⟨ol,hol,_,nl,hdl⟩:=hl
  unfold Builtin.SmallTypes.nextOf
  refine wpAny_bind (wpAny_callSpecial?_slot (name:=Str.ofString "__next__") hit.typeIs F.slot_tuple_iterator_next
    (wpAny_call_entry F.slot_tuple_iterator_next hit.typeIs F.entry_tuple_iterator_next ?_ (F.args_tuple_iterator_next_1 _)))
  show wpAny _ _ (field (.ref it) 0 >>= _) _ _ s
  refine wpAny_bind (wpAny_field ho hd (x := .ref l) rfl ?_)
  show wpAny _ _ (if (Value.ref l == Value.none)=true then _ else _) _ _ s
  rw [if_neg (show ¬ ((Value.ref l == Value.none)=true) from Bool.false_ne_true)]
  show wpAny _ _ (field (.ref it) 1 >>= _) _ _ s
  refine wpAny_bind (wpAny_field ho hd (x := .int i 0) rfl ?_)
  show wpAny _ _ (seqItems? (.ref l) >>= _) _ _ s
  refine wpAny_bind (wpAny_seqItems hol hdl ?_)
  simp only [Int.toNat_natCast,hx]
  refine wpAny_bind (wpAny_rule (wpAny_bind (wpAny_setField ho hd (by simp) ?_)))
  show wpAny _ _ (newExc (.type "StopIteration") [] >>= _) _ _ _
  refine wpAny_bind ?_
  simp only [newExc,newTuple]
  refine wpAny_bind (wpAny_newObj_type ?_ (by size_fits))
  refine wpAny_bind (m:=firstArgMember _ _) (wpAny_of_eq (a:=Value.none) (by first | rfl | (simp only [firstArgMember];rfl)) ?_)
  refine wpAny_newObj_type ?_ (by size_fits)
  simp only [raiseNew]
  refine wpAny_bind (wpAny_handled ?_)
  first | rw [show A.in1.handled=none from hh] | rw [hh]
  refine wpAny_bind (wpAny_pure (wpAny_throw ?_))
  exact hE _ _ (((Heap.SameBut.update ..).extBut.push _).push _) ⟨_,Heap.get?_push_size _ rfl,rfl⟩
end
theorem acV {prog:Program} {w:World} {A:Around} (hh:A.handled=none) (it l:Addr) (hne:l≠it) (items:Array Value) :
    Draws prog w A it [it,l] items.size (fun i v=>items[i]?=some v) (fun i h=>h.IsTupleIter it l i∧h.IsTuple l items) where
  live:=fun _ _ st=>let ⟨o,ho,_⟩:=st.1;⟨o,ho⟩
  frame:=fun _ _ _ st hk=>⟨st.1.at fun o e=>hk it (by simp) o e,st.2.at fun o e=>hk l (by simp) o e⟩
  item:=fun i s Q E hi st hQ=>by
    refine a7J st.1 st.2 (x:=items[i]) (by simp [hi]) fun h' hit' hs'=>?_
    exact hQ _ h' s.toks (by simp [hi]) ⟨hit',st.2.extBut hs'.extBut hne⟩ hs'
  done:=fun s Q E st hE=>a9C hh st.1 st.2 (by simp) hE
section
variable {prog:Program} {w:World} {A:Around} {R:Result→Shared→Prop} {I:Addr} {fp wr:List Addr} {P:Nat→Value→Prop} {St:Nat→Heap→Prop}
theorem aoT (W:Walks prog w A.in1 I fp wr 2 P St) (S:Addr) (hSf:S ∉ fp) {h0:Heap} {a b:Value} {k:Bool}
    (hP:∀ i v,P i v→(i=0→v=a)∧(i=1→v=b))
    (hwr:∀ c o,h0.get? c=some o→c ∉ wr∧c≠S) {s:Shared} {c:Nat}
    (hcmp:∀ (h2:Heap) (tk:Nat) (Q:Value→Shared→Prop) (E:Value→Shared→Prop),(∀ c o,h0.get? c=some o→h2.get? c=some o)→Q (.bool k) { s with heap:=h2,toks:=tk }→wpAny (model prog w) A.in1 (richCompare .Lt b a) Q E { s with heap:=h2,toks:=tk }) (hst:St 0 s.heap) (hk0:∀ c o,h0.get? c=some o→s.heap.get? c=some o)
    (hS:s.heap.get? S=some { cls := .type "list",dict:=none,data := .seq #[] c,slots:=#[] })
    (hR:∀ h' tk,(∀ c o,h0.get? c=some o→h'.get? c=some o)→R (.ok (.ret (if k then b else a))) { s with heap:=h',toks:=tk }) :
    codeAny (model prog w) A (.builtin "min.loop" ⟨[.ref I,.none,.ref S],[]⟩) R s:=by
  have hSw:S ∉ wr:=fun h=>hSf (W.sub _ h)
  have hname:(toString "min" ++ toString ".loop" : String) = "min.loop" := by decide
  have fin:∀ (s2:Shared) (v:Value) (c2:Nat) (hg:s2.gens=s.gens∧s2.drawn=s.drawn∧s2.os=s.os),St 2 s2.heap→(∀ c o,h0.get? c=some o→s2.heap.get? c=some o)→v=(if k then b else a) →
      s2.heap.get? S=some { cls := .type "list",dict:=none,data := .seq #[v,v] c2,slots:=#[] }→codeAny (model prog w) A (.builtin "min.loop" ⟨[.ref I,.none,.ref S],[]⟩) R s2:=by
    rintro ⟨hp2,g2,d2,t2,o2⟩ v c2 ⟨e1,e2,e3⟩ hst2 hk2 hv hS2
    cases e1;cases e2;cases e3
    refine codeAny_builtin F.entry_min_loop ?_
    rw [Around.under_plainId F.plain_min_loop _]
    show wpAny _ A.in1 (seqItems? (.ref S) >>= _) _ _ _
    refine wpAny_bind (wpAny_seqItems hS2 rfl ?_)
    show wpAny _ A.in1 (tryCatch (pyNext (.ref I)) _ >>= _) _ _ _
    refine wpAny_bind (wpAny_tryCatch (W.done _ _ _ hst2 fun h' tk hk'=>?_))
    have hS':=hk' S _ hSw hS2
    show wpAny _ A.in1 (updateSeq S (fun _=>#[]) >>= _) _ _ _
    refine wpAny_bind ?_
    refine wpAny_updateSeq hS' rfl (wpAny_bind (wpAny_letGo (wpAny_pure ?_)))
    subst hv
    exact hR _ tk fun c o e=>(Heap.get?_update_other _ _ (Ne.symm (hwr c o e).2)).trans (hk' c o (hwr c o e).1 (hk2 c o e))
  refine codeAny_builtin F.entry_min_loop ?_
  rw [Around.under_plainId F.plain_min_loop _]
  show wpAny _ A.in1 (seqItems? (.ref S) >>= _) _ _ s
  refine wpAny_bind (wpAny_seqItems hS rfl ?_)
  show wpAny _ A.in1 (tryCatch (pyNext (.ref I)) _ >>= _) _ _ s
  refine wpAny_bind (wpAny_tryCatch (W.item 0 s _ _ (by decide) hst fun v h' tk hPv hst' hk'=>?_))
  obtain rfl:=(hP 0 v hPv).1 rfl
  have hS':=hk' S _ hSw hS
  show wpAny _ A.in1 (updateSeq S (fun _=>#[v,v]) >>= _) _ _ _
  refine wpAny_bind ?_
  refine wpAny_updateSeq hS' rfl ?_
  rw [hname]
  refine wpAny_pure ⟨plainId_quiet F.plain_min_loop _,?_⟩
  have hk1:∀ c o,h0.get? c=some o→(h'.update S (Obj.mapSeq fun _=>#[v,v])).get? c=some o:=fun c o e=>(Heap.get?_update_other _ _ (Ne.symm (hwr c o e).2)).trans (hk' c o (hwr c o e).1 (hk0 c o e))
  have aPX:St 1 (h'.update S (Obj.mapSeq fun _=>#[v,v])):=W.frame _ _ _ hst' fun b hbf o e=>(Heap.get?_update_other _ _ (fun h:S=b=>hSf (by rw [h];exact hbf))).trans e
  refine codeAny_builtin F.entry_min_loop ?_
  rw [Around.under_plainId F.plain_min_loop _]
  show wpAny _ A.in1 (seqItems? (.ref S) >>= _) _ _ _
  have hS1:(h'.update S (Obj.mapSeq fun _=>#[v,v])).get? S=_:=Heap.get?_update_self _ hS' rfl
  refine wpAny_bind (wpAny_seqItems hS1 rfl ?_)
  show wpAny _ A.in1 (tryCatch (pyNext (.ref I)) _ >>= _) _ _ _
  refine wpAny_bind (wpAny_tryCatch (W.item 1 _ _ _ (by decide) aPX fun u h2 tk2 hPu hst2 hk2=>?_))
  obtain rfl:=(hP 1 u hPu).2 rfl
  have hS2:=hk2 S _ hSw hS1
  have kk:∀ c o,h0.get? c=some o→h2.get? c=some o:=fun c o e=>hk2 c o (hwr c o e).1 (hk1 c o e)
  show wpAny _ A.in1 (tryCatch (holding [u,u] (richCompare .Lt u v >>= _)) _ >>= _) _ _ _
  refine wpAny_bind (wpAny_tryCatch (wpAny_holding (wpAny_bind (hcmp _ _ _ _ kk ?_))))
  refine wpAny_bind (wpAny_holding (wpAny_truthy_bool ?_))
  refine wpAny_bind (wpAny_letGo (wpAny_pure ?_))
  cases k with
  | true =>
    simp only [if_true]
    refine wpAny_bind ?_
    refine wpAny_updateSeq hS2 rfl (wpAny_bind (wpAny_letGo ?_))
    rw [hname]
    refine wpAny_pure ⟨plainId_quiet F.plain_min_loop _,fin _ u _ ⟨rfl,rfl,rfl⟩ (W.frame _ _ _ hst2 fun b hbf o e=>?_) (fun c o e=>?_) (by simp) (Heap.get?_update_self _ hS2 rfl)⟩
    · exact (Heap.get?_update_other _ _ (fun h:S=b=>hSf (by rw [h];exact hbf))).trans e
    · exact (Heap.get?_update_other _ _ (Ne.symm (hwr c o e).2)).trans (kk c o e)
  | false =>
    simp only [Bool.false_eq_true,if_false]
    refine wpAny_bind (wpAny_letGo ?_)
    rw [hname]
    exact wpAny_pure ⟨plainId_quiet F.plain_min_loop _,fin _ v _ ⟨rfl,rfl,rfl⟩ hst2 kk (by simp) hS2⟩
end
theorem ahE {prog:Program} {w:World} {A:Around} {E:Value→Shared→Prop} {s:Shared} {a b:Value} {k:Bool} {Q:Value→Shared→Prop} (hh:A.handled=none)
    (hcmp:∀ (h2:Heap) (tk:Nat) (Q:Value→Shared→Prop) (E:Value→Shared→Prop),(∀ c o,s.heap.get? c=some o→h2.get? c=some o)→Q (.bool k) { s with heap:=h2,toks:=tk }→wpAny (model prog w) A.in1 (richCompare .Lt b a) Q E { s with heap:=h2,toks:=tk })
    (h:∀ h' tk,(∀ c o,s.heap.get? c=some o→h'.get? c=some o)→Q (if k then b else a) { s with heap:=h',toks:=tk }) :
    wpAny (model prog w) A (call (.builtin "min") [a,b]) Q E s:=by
  have hname:(toString "min" ++ toString ".loop" : String) = "min.loop" := by decide
  have hT:(s.heap.push { cls := .type "tuple",data := .seq #[a,b] }).IsTuple s.heap.objs.size #[a,b]:=⟨_,Heap.get?_push_size _ rfl,rfl,0,rfl⟩
  have hsz:(s.heap.push { cls := .type "tuple",data := .seq #[a,b] }).objs.size=s.heap.objs.size+1:=Heap.size_push ..
  refine call_function_tree F.kind_min F.plain_min F.entry_min (F.args_min2 _ _) ?_
  show wpAny _ A.in1 (Builtin.Builtins.bindParams "min" ["key", "default"] 0 ⟨[],[]⟩ >>= _) _ _ s
  refine wpAny_bind (wpAny_of_eq (show Builtin.Builtins.bindParams "min" ["key", "default"] 0 ⟨[],[]⟩=pure [none,none] from rfl) ?_)
  show wpAny _ A.in1 (newTuple [a,b] >>= _) _ _ s
  refine wpAny_bind (wpAny_newObj_type ?_)
  refine wpAny_bind (wpAny_pyIter_tuple hT ?_)
  refine wpAny_bind (wpAny_newObj_type ?_)
  rw [hname]
  have W:=Walks.tuple (prog:=prog) (w:=w) (A:=A.in1) hh (s.heap.push { cls := .type "tuple",data := .seq #[a,b] }).objs.size s.heap.objs.size (by rw [hsz];exact Nat.ne_of_lt (Nat.lt_succ_self _)) #[a,b]
  have hsz2:((s.heap.push { cls := .type "tuple",data := .seq #[a,b] }).push { cls := .type "tuple_iterator",data := .fields #[.ref s.heap.objs.size,.int 0 0] }).objs.size=s.heap.objs.size+2:=by rw [Heap.size_push,hsz]
  refine wpAny_pure ⟨plainId_quiet F.plain_min_loop _,aoT (h0:=s.heap) (a:=a) (b:=b) (k:=k) W _ (fun hm=>?_) (fun i v hv=>⟨fun e=>?_,fun e=>?_⟩) (fun c o e=>⟨fun hm=>?_,fun hm=>?_⟩) hcmp (W.frame _ _ _ ⟨⟨_,Heap.get?_push_size _ rfl,rfl,rfl⟩,hT.push _⟩ fun b _ o e=>Heap.get?_push_of_some _ e) (fun c o e=>Heap.get?_push_of_some _ (Heap.get?_push_of_some _ (Heap.get?_push_of_some _ e))) (Heap.get?_push_size _ rfl) h⟩
  · have hm':((s.heap.push { cls := .type "tuple",data := .seq #[a,b] }).push { cls := .type "tuple_iterator",data := .fields #[.ref s.heap.objs.size,.int 0 0] }).objs.size∈[(s.heap.push { cls := .type "tuple",data := .seq #[a,b] }).objs.size,s.heap.objs.size]:=hm
    rw [hsz2,hsz] at hm'
    simp at hm'
  · subst e;simpa using hv.symm
  · subst e;simpa using hv.symm
  · have hm':c∈[(s.heap.push { cls := .type "tuple",data := .seq #[a,b] }).objs.size]:=hm
    rw [hsz] at hm'
    have t:c < s.heap.objs.size:=Heap.lt_size e
    rw [List.mem_singleton.mp hm'] at t
    exact absurd t (Nat.not_lt.mpr (Nat.le_add_right _ _))
  · have hm':c=((s.heap.push { cls := .type "tuple",data := .seq #[a,b] }).push { cls := .type "tuple_iterator",data := .fields #[.ref s.heap.objs.size,.int 0 0] }).objs.size:=hm
    rw [hsz2] at hm'
    have t:c < s.heap.objs.size:=Heap.lt_size e
    rw [hm'] at t
    exact absurd t (Nat.not_lt.mpr (Nat.le_add_right _ _))
section
open PySem.SeqAt
open PySem.AutoSeq1 (wpAny_loadPart')
open PySem.MeetsSeq PySem.MeetsSeq2 PySem.MeetsSeq3
theorem aeJ (l b:Addr) (x1 x2 y1 y2:Value) (n n2:Nat) (dd dd2:Option Addr) (sl sl2:Array (Option Value)) (e1 e2 k1 k2:Bool) :
    Meets (Builtin.«tuple.__lt__» ⟨[.ref l,.ref b],[]⟩)
      (fun A R s=>s.heap.get? l=some { cls := .type "tuple",dict:=dd,data := .seq #[x1,x2] n,slots:=sl }∧s.heap.get? b=some { cls := .type "tuple",dict:=dd2,data := .seq #[y1,y2] n2,slots:=sl2 } ∧
        EqAt A.in1 s x1 y1 e1∧EqAt A.in1 s x2 y2 e2 ∧
        (e1=false→∀ (prog:Program) (w:World) (E:Value→Shared→Prop) (Q:Value→Shared→Prop),Q (.bool k1) s→wpAny (model prog w) A.in1 (richCompare .Lt x1 y1) Q E s) ∧
        (e1=true→e2=false→∀ (prog:Program) (w:World) (E:Value→Shared→Prop) (Q:Value→Shared→Prop),Q (.bool k2) s→wpAny (model prog w) A.in1 (richCompare .Lt x2 y2) Q E s) ∧
        R (.ok (.ret (.bool (if e1 then (if e2 then false else k2) else k1)))) s) :=
  .of_wp fun prog w A R s h=>by
    obtain ⟨hp,g,d,tk,os⟩:=s;obtain ⟨hl,hb,he1,he2,hc1,hc2,h⟩:=h
    have f2:=AutoSeq1.sub_tuple_tuple
    wp_walk using wpAny_loadPart' hl,wpAny_loadPart' hb,wpAny_forIn_list _ (fun rest b s'=>b.1=none∧s'=⟨hp,g,d,tk,os⟩∧((rest=[(x1,y1),(x2,y2)])∨(rest=[(x2,y2)]∧e1=true)∨(rest=[]∧e1=true∧e2=true))) _
    case turn =>
      rintro ⟨y,x⟩ rest b s' ⟨hb',rfl,hz⟩
      rcases hz with hz | ⟨hz,t1⟩ | ⟨hz,_⟩
      · injection hz with hyx hrest
        injection hyx with hy hx
        subst hy hx hrest
        refine wpAny_bind (he1 prog w _ _ ?_)
        cases e1 with
        | true =>
          wp_walk
          exact ⟨rfl,rfl,.inr (.inl ⟨rfl,rfl⟩)⟩
        | false =>
          have hri:=hc1 rfl prog w
          wp_walk using hri
          exact ⟨_,rfl,by simpa using h⟩
      · injection hz with hyx hrest
        injection hyx with hy hx
        subst hy hx hrest t1
        refine wpAny_bind (he2 prog w _ _ ?_)
        cases e2 with
        | true =>
          wp_walk
          exact ⟨rfl,rfl,.inr (.inr ⟨rfl,rfl,rfl⟩)⟩
        | false =>
          have hri:=hc2 rfl rfl prog w
          wp_walk using hri
          exact ⟨_,rfl,by simpa using h⟩
      · cases hz
    case fin =>
      rintro ⟨b1,b2⟩ s' ⟨hb',rfl,hz⟩
      rcases hz with hz | ⟨hz,_⟩ | ⟨_,t1,t2⟩
      · cases hz
      · cases hz
      · simp only at hb'
        subst hb' t1 t2
        wp_walk
        exact ⟨_,rfl,by simpa [Builtin.Tuple.tupleCompareSizes] using h⟩
    case h =>
      exact ⟨rfl,rfl,.inl rfl⟩
end
end L2
namespace L2
open PySem PySem.Spec PyProof.Rows
def Ite (K:Fg) (a:Addr):It :=
  ⟨fun i H=>∃ xs x,vZ K H a xs∧xs[i]?=some x,
   fun i H v H'=>∃ p x,H p=none∧v = .ref p∧H'=upd H p (.tup [.int i,x])∧∀ xs,vZ K H a xs→xs[i]?=some x,
   fun i H=>∃ xs,vZ K H a xs∧xs.length=i⟩
def aPY (e it l:Addr) (i:Nat) (h:Heap):Prop:=(∃ old,IsEnum h e it i old)∧h.IsTupleIter it l i
theorem aoU {tl:List (Addr×List V)} {P:Program} {w:World} {K:Fg} {es:List Expr} {kt:Nat} {pt:Pos} {e it l:Addr} (hei:e≠it) (hl:l≠it) (hle:e≠l):Turn true tl P w K (.Tuple es kt pt) (Ite K l) [e,it] e (aPY e it l) where
  mem:=by simp
  obj:=fun i h st b hb=>by
    obtain ⟨⟨old,he⟩,⟨o,e1,_,d1⟩⟩:=st
    simp only [List.mem_cons,List.not_mem_nil,or_false] at hb
    rcases hb with rfl | rfl
    · exact ⟨_,he,fun v z=>nomatch z⟩
    · exact ⟨o,e1,fun v z=>by rw [d1] at z;cases z⟩
  keep:=fun i h h' st k=>by
    obtain ⟨⟨old,he⟩,s1⟩:=st
    exact ⟨⟨old,k e (by simp) _ he⟩,s1.at fun o x=>k it (by simp) o x⟩
  item:=by
    intro X hP hw hK hcm ht i pins s σ H E I hf st hg
    subst hP hw hK
    obtain ⟨⟨old,he⟩,hit⟩:=st
    obtain ⟨xs,x,q,ex⟩:=hg
    obtain ⟨us,r,p,_⟩:=I.tuple q
    obtain ⟨u,hu,ru⟩:=r.get ex
    have hlt:i < us.toArray.size:=by simpa using (List.getElem?_eq_some_iff.mp hu).1
    have fr:=I.hok.fresh (Nat.le_refl s.heap.objs.size)
    have lt:∀ {c o},s.heap.get? c=some o→s.heap.objs.size≠c:=fun e=>Nat.ne_of_gt (Heap.lt_size e)
    have n1:s.heap.objs.size≠it:=by obtain ⟨_,e,_⟩:=hit;exact lt e
    have D:=acV (prog:=X.prog) (w:=X.w) (A:=X.A.in1) (I.ok.hd (hcm rfl)) it l hl us.toArray
    refine wpAny_pyNext_enum_itemD D he ⟨hit,p⟩ hlt hei (by simp [hei,hle]) fun x' h' tk hx' ho st' hT hsz hk=>?_
    have ex':x'=u:=by simpa [hu] using hx'.symm
    subst ex'
    refine ⟨_,rfl,wpAny_letOwnedTupleGo_enum (s:={ s with heap:=h',toks:=tk+1 }) ho fun h2 he2 sb=>?_⟩
    have k2:∀ b o,b ∉ [e,it]→s.heap.get? b=some o→h2.get? b=some o:=fun b o hb q =>
      sb.extBut _ _ (fun z=>hb (by simp [z])) (hk b o (fun z=>hb (by simp [z])) (fun z=>hb (by simp [z])) q)
    refine ⟨.ref s.heap.objs.size,upd H s.heap.objs.size (.tup [.int i,x]),I.a4Y (t':=tk+1) (ch:=[e,it]) k2 hf (Nat.le_refl _) ⟨show 2≤sizeLine by decide,[.int i tk,x'],.cons ⟨tk,rfl⟩ (.cons ru .nil),⟨_,sb.extBut _ _ (lt he) hT,rfl,_,rfl⟩⟩,rfl,
      ⟨_,x,fr,rfl,rfl,fun xs' q'=>by rw [I.zM q' q];exact ex⟩,⟨⟨x',by simpa using he2⟩,st'.1.extBut sb.extBut (Ne.symm hei)⟩,fun b hb=>?_⟩
    have hb2:=hb
    simp only [List.mem_cons,List.not_mem_nil,or_false] at hb2
    rw [aU]
    · exact (hf b hb).1
    · intro q
      rcases hb2 with e | e
      · exact lt he (q.symm.trans e)
      · exact n1 (q.symm.trans e)
  done:=by
    intro X hP hw hK hcm ht i pins s σ H E I hf st hg
    subst hP hw hK
    obtain ⟨⟨old,he⟩,hit⟩:=st
    obtain ⟨xs,q,hl2⟩:=hg
    obtain ⟨us,r,p,_⟩:=I.tuple q
    have hn:us.toArray.size=i:=by rw [List.size_toArray,← r.length];exact hl2
    have D:=acV (prog:=X.prog) (w:=X.w) (A:=X.A.in1) (I.ok.hd (hcm rfl)) it l hl us.toArray
    exact wpAny_pyNext_enum_endD D he ⟨hn ▸ hit,p⟩ fun h' hx=>⟨rfl,I.am8 (t':=s.toks) (ch:=[e,it]) (fun b o hb q=>hx b o (fun z=>hb (by simp [z])) q) hf⟩
  self:=fun _ _ _ _ _ st h=>wpAny_pyIter_enum st.1.choose_spec h
theorem aeK {xs:List D}:(enm xs).length=xs.length:=by simp [enm]
theorem amI {xs:List D} {i:Nat} {x:D} (h:xs[i]?=some x):(enm xs)[i]?=some (.tup [.int i,x]):=by
  unfold enm
  rw [List.getElem?_map,List.getElem?_zipIdx,h]
  simp
theorem asM {K:Fg} {p:Addr} {xs:List D}:a7G K (.enu p xs) (Ite K p):=fun H2 G2 g ok=>by
  obtain ⟨vs,hq,rv⟩:=g p _ ok
  have hl:(Src.enu p xs).items.length=xs.length:=aeK
  refine ⟨fun i hi=>?_,fun i v H' hi hy=>?_,⟨vs,hq,by rw [hl];exact rv.length.symm⟩⟩
  · rw [hl] at hi
    obtain ⟨y,e1,_⟩:=rv.get (List.getElem?_eq_getElem hi)
    exact ⟨vs,y,hq,e1⟩
  · obtain ⟨a,x,fr,rfl,rfl,h1⟩:=hy
    obtain ⟨d,e1,e2⟩:=rv.ajR (h1 vs hq)
    have sn:Same H2 (upd H2 a (.tup [.int i,x])):=bB fr
    exact ⟨sn,.tup [.int i,d],amI e1,.tup (vZ.of aK) (.cons (.int i) (.cons (e2.mono (.same sn)) .nil)) (ajQ aK)⟩
def aeL (ta:nT):TI3:=fun ρ G R=>ta ρ G fun xs G1=>match xs with
  | [.tup ds]=>ds.all scD=true∧∀ a,(G1 a=none∨G1 a=some (.tpl ds))→R (.enu a ds) (aN G1 a (.tpl ds))
  | _=>False
section
variable {X:Cx} {es:List Expr} {kt:Nat} {pt:Pos}
theorem ay0 {a:Expr} {ta:nT} {p pos:Pos} (hc:X.calm=true) (hg:Gl X "enumerate") (hm:X.mg "enumerate" = none) (hv:bootBuiltins "enumerate" = some (.type "enumerate")) (ha:PA3 X [a] ta) (hs:starEach [a] X.env=[(false,eval a X.env)]):PIS X (.Tuple es kt pt) (.Call (.Name "enumerate" p) [a] [] pos) (aeL ta):=by
  intro pins s σ H R I h
  obtain ⟨ρ,G,R3,sr,g,q,k⟩:=h
  refine Call_ (a0X I hg hm hv (PyProof.Rows.callWith_type1 (dN (ha pos pins s σ H (fun vs H1=>Ts H H1∧∃ ds G1,cL X.K H1 ds vs∧HR X.K H1 G1∧(match ds with
    | [.tup ds]=>ds.all scD=true∧∀ a,(G1 a=none∨G1 a=some (.tpl ds))→R3 (.enu a ds) (aN G1 a (.tpl ds))
    | _=>False)) I ⟨ρ,G,_,sr,g,q,fun vs H1 ds G1 t1 r1 g1 q1=>⟨t1,ds,G1,r1,g1,q1⟩⟩) fun us s1 ⟨vs,H1,I1,rr,t1,ds,G1,r1,g1,q1⟩=>?_) hs rfl))
  split at q1
  · rename_i ds
    obtain ⟨sc,q1⟩:=q1
    cases r1 with
    | cons ra rb =>
      cases rb
      cases ra with
      | @tup l xs _ hq rv =>
        cases rr with
        | cons ru rn =>
          cases rn;cases ru
          obtain ⟨its,rv',pp,hz⟩:=I1.tuple hq
          obtain ⟨hG,g2⟩:=am5 I1 g1 hq rv sc
          have al:l < s1.heap.objs.size:=pp.lt
          refine abR (show s1.heap.IsTuple l its.toArray from pp) fun h' he hi hsz kk=>wpAny_pyIter_enum (s:={ s1 with heap:=h' }) he ?_
          refine ⟨_,_,_,_,H1,rfl,I1.kept (t':=s1.toks) kk,(show Turn X.calm X.tp X.prog X.w X.K (.Tuple es kt pt) _ _ _ _ from hc ▸ aoU (e:=s1.heap.objs.size+1) (it:=s1.heap.objs.size) (l:=l) (Nat.succ_ne_self _) (Nat.ne_of_lt al) (Nat.ne_of_gt (Nat.lt_succ_of_lt al))),⟨⟨_,he⟩,hi⟩,fun b hb=>?_,k _ _ H1 _ t1 g2 asM (q1 l hG)⟩
          have hb':s1.heap.objs.size≤b:=by
            simp only [List.mem_cons,List.not_mem_nil,or_false] at hb
            rcases hb with e | e <;> rw [e]
            · exact Nat.le_add_right _ _
            · exact Nat.le_refl _
          exact I1.a4J hb' (I1.hok.fresh hb')
  · exact q1.elim
def ltP (a:Int) (ns:List Int) (b:Int) (ms:List Int):Bool:=if a=b then (if ns=ms then false else HT.lexLt ns ms) else decide (a < b)
def a9D:List D→Gp→iD→Prop:=fun xs G R=>match xs with
  | [.tup [.int a,.tup as],.tup [.int b,.tup bs]]=>∃ ns ms:List Int,as=ns.map D.int∧bs=ms.map D.int∧R (if ltP b ms a ns then .tup [.int b,.tup bs] else .tup [.int a,.tup as]) G
  | _=>False
theorem a5A {K:Fg} {H:Hp}:∀ {ns:List Int} {vs:List V},cL K H (ns.map D.int) vs→vs=ns.map V.int
  | [],_,.nil=>rfl
  | n :: ns,_,.cons r rr=>by cases r;rw [a5A rr];rfl
theorem acW:∀ (ns ms:List Int),jH (ns.map D.int) (ms.map D.int)=decide (ns=ms)
  | [],[]=>rfl
  | [],_ :: _=>rfl
  | _ :: _,[]=>rfl
  | n :: ns,m :: ms=>by
    show (eqP (.int n) (.int m)&&jH (ns.map D.int) (ms.map D.int))=_
    rw [acW ns ms]
    have:eqP (.int n) (.int m)=decide (n=m):=by rw [eqP];exact Bool.eq_iff_iff.mpr (by simp)
    rw [this]
    simp [Bool.decide_and]
theorem acX (n:Nat) (ns:List Int):aL (n+1) (.tup (ns.map D.int))=true:=by
  simp only [aL,List.all_eq_true,List.mem_map]
  rintro x ⟨i,_,rfl⟩
  cases n <;> rfl
theorem aFN (hc:X.calm=true) (hu:X.A.units+64 < cLine):cM X (.builtin "min") a9D:=by
  intro pins s σ H xs vs us G R Q I rx rv g q k
  unfold a9D at q
  split at q
  · rename_i a as b bs
    obtain ⟨ns,ms,rfl,rfl,q⟩:=q
    cases rx with
    | cons r1 rx =>
    cases rx with
    | cons r2 rx =>
    cases rx
    have R1:=r1
    have R2:=r2
    cases r1 with
    | @tup l1 xs1 _ sq1 rr1 ct1 =>
    cases r2 with
    | @tup l2 xs2 _ sq2 rr2 ct2 =>
    cases rr1 with
    | cons i1 rr1 =>
    cases rr1 with
    | cons t1 rr1 =>
    cases rr1
    cases rr2 with
    | cons i2 rr2 =>
    cases rr2 with
    | cons t2 rr2 =>
    cases rr2
    have T1:=t1
    have T2:=t2
    cases i1;cases i2
    cases t1 with
    | @tup m1 ys1 _ sm1 rs1 =>
    cases t2 with
    | @tup m2 ys2 _ sm2 rs2 =>
    cases rv with
    | cons v1 rv =>
    cases rv with
    | cons v2 rv =>
    cases rv
    cases v1;cases v2
    obtain rfl:=a5A rs1
    obtain rfl:=a5A rs2
    refine ahE (k:=ltP b ms a ns) (I.ok.hd hc) (fun h2 tk Q2 E2 kk hQ=>?_) fun h' tk kk=>?_
    · have I2:Inv X pins σ H { s with heap:=h2,toks:=tk }:=I.kept kk
      obtain ⟨j1,w1,p1,_⟩:=I2.tuple sq1
      obtain ⟨j2,w2,p2,_⟩:=I2.tuple sq2
      obtain ⟨z1,y1,q1,_⟩:=I2.tuple sm1
      obtain ⟨z2,y2,q2,_⟩:=I2.tuple sm2
      cases w1 with
      | cons a1 w1 =>
      cases w1 with
      | cons a2 w1 =>
      cases w1
      cases w2 with
      | cons b1 w2 =>
      cases w2 with
      | cons b2 w2 =>
      cases w2
      obtain ⟨tA,rfl⟩:=a1
      obtain ⟨tB,rfl⟩:=b1
      cases a2;cases b2
      obtain ⟨⟨c1,dd1,data1,sl1⟩,ho1,hc1,n1,hd1⟩:=id p1
      obtain ⟨⟨c2,dd2,data2,sl2⟩,ho2,hc2,n2,hd2⟩:=id p2
      simp only at hc1 hd1 hc2 hd2
      subst hc1 hd1 hc2 hd2
      have e1:∀ (A:Around),A.units+8 < cLine→SeqAt.EqAt A { s with heap:=h2,toks:=tk } (.int b tB) (.int a tA) (decide (b=a)):=fun A hA=>by
        have:=a4R I2 8 A (.int b) (.int a) (.int b) (.int a) (.int b tB) (.int a tA) hA rfl rfl (.int b) (.int a) ⟨tB,rfl⟩ ⟨tA,rfl⟩
        have e:eqP (.int b) (.int a)=decide (b=a):=by rw [eqP];exact Bool.eq_iff_iff.mpr (by simp)
        rw [e] at this;exact this
      have e2:∀ (A:Around),A.units+8 < cLine→SeqAt.EqAt A { s with heap:=h2,toks:=tk } (.ref m2) (.ref m1) (decide (ms=ns)):=fun A hA=>by
        have:=a4R I2 8 A _ _ _ _ (.ref m2) (.ref m1) hA (acX 7 ms) (acX 7 ns) T2 T1 rfl rfl
        rw [eqP,acW] at this;exact this
      refine richCompare_meets_room (op := .Lt) ⟨_,ho2,rfl⟩ ⟨_,ho1,rfl⟩ PySem.F.slot_tuple_lt PySem.F.entry_tuple_lt (PySem.F.args_tuple_lt_2 _ _) (aeJ l2 l1 (.int b tB) (.ref m2) (.int a tA) (.ref m1) n2 n1 dd2 dd1 sl2 sl1 (decide (b=a)) (decide (ms=ns)) (decide (b < a)) (HT.lexLt ms ns))
        ⟨ho2,ho1,e1 _ ?_,e2 _ ?_,fun _ prog w E Q h=>HT.agN _ _ b tB a tA prog w E Q h,fun _ _ prog w E Q h=>HT.ajM q2 q1 (intsAre_of y2) (intsAre_of y1) ?_ h,(fun x=>nomatch x),?_⟩ ?_
      · show X.A.units+1+1+8 < cLine;omega
      · show X.A.units+1+1+8 < cLine;omega
      · show X.A.units+1+1 < cLine;omega
      · have e:(if decide (b=a)=true then (if decide (ms=ns)=true then false else HT.lexLt ms ns) else decide (b < a))=ltP b ms a ns:=by
          unfold ltP;simp only [decide_eq_true_eq]
        rw [e];exact hQ
      · show X.A.units+1 < cLine;omega
    · cases e:ltP b ms a ns with
      | true =>
        rw [e] at q
        exact ⟨.ref l2,H,I.kept kk,rfl,k _ H _ G (.refl H) R2 g (by simpa using q)⟩
      | false =>
        rw [e] at q
        exact ⟨.ref l1,H,I.kept kk,rfl,k _ H _ G (.refl H) R1 g (by simpa using q)⟩
  · exact q.elim
end
end L2
namespace L4
open PySem PySem.Spec PyProof.Rows L2
inductive BF where
  | len | abs | isi | min | max | sum | ay1
  deriving DecidableEq
inductive MK where
  | append
  deriving DecidableEq
inductive GT where
  | con (d:D) | cls (a:Addr) | fn (sp:uL) (n:Nat) (qt:Bool) | bf (b:BF) | bt (n:String) | kl (C:Addr) (sp:uL) (dd:List D) | me (C:Addr) (m:Str) (sp:uL) (dd:List D) | fl (C:Addr) (f:Str)
structure SI where
  N:List Str
  fl:List Bool
  lc:List Bool
  ce:List Bool
  gl:List (Str×GT)
  gv:List Bool
  calm:Bool
mutual
inductive CE where
  | var (i:Nat) | con (d:D) | glo (k:Nat) | neg (a:CE) | asN (a:CE) | bin (o:Operator) (a b:CE) | cmp (o:CmpOp) (a b:CE) | chain (o o':CmpOp) (a b c:CE)
  | aoV (es:CEs) | ifx (c:CT) (a b:CE) | tup (es:CEs) | lst (es:CEs) | dct | ix (a b:CE) | sl (a:CE) (lo hi:CO) | call (k:Nat) (es:CEs) | meth (m:MK) (o:CE) (es:CEs)
  | acY (n:Nat) (fl gv:List Bool) (ci:CI) (cc:CC) (e:CE) | maxD (k:Nat) (e d:CE) | dix (a b:CE) | dgt (o e f:CE) | rev (a k:CE) | ay2 (t:Bool) (a b:CE)
inductive CEs where
  | nil | cons (e:CE) (r:CEs)
inductive CT where
  | cmp (o:CmpOp) (a b:CE) | chain (o o':CmpOp) (a b c:CE) | not (t:CT) | and (ts:CTs) | or (ts:CTs) | val (e:CE)
inductive CTs where
  | nil | cons (t:CT) (r:CTs)
inductive CO where
  | none | some (e:CE)
inductive CI where
  | any (e:CE) | abS (e:CE) | zip (a b:CE) | items (e:CE) | enu (e:CE)
inductive CC where
  | none | some (t:CT)
end
abbrev SI.cmp (S:SI) (xs:List Str) (fl gv:List Bool):SI:=⟨xs++S.N,xs.map (fun _=>true)++fl,xs.map (fun _=>true)++S.N.map (fun _=>false),xs.map (fun _=>false)++fl,S.gl,gv,S.calm⟩
def asO:bU:=fun _ _ _=>False
def aBW:TT3:=fun _ _ _=>False
def NoX:aM→aW:=fun _ _ _=>False
def aBX:Operator→R3
  | .Add=>d7
  | .Sub=>tD
  | .Mult=>mR
  | .FloorDiv=>lK
  | .Mod=>iH
  | .Pow=>alV
  | _=>fun _ _ _ _=>False
def a9E:CmpOp→R3
  | .Eq=>qO
  | .NotEq=>xK
  | .Lt=>ax0
  | .LtE=>ajU
  | .Gt=>aDZ
  | .GtE=>aE0
  | .Is=>ar4
  | .IsNot=>ae0
  | .In=>aEK
  | .NotIn=>ae5
def aLO (K:Fg):BF→List D→Gp→iD→Prop
  | .len=>qU
  | .abs=>a6B
  | .isi=>aD K
  | .min=>xQ
  | .max=>xP
  | .sum=>am6
  | .ay1=>a9D
def aFO (n:String):List D→Gp→iD→Prop:=if n = "int" then am0 else if n = "list" then a4T else if n = "str" then aBS else if n = "tuple" then amF else fun _ _ _=>False
def mkT:MK→String
  | .append => "list"
def mkR:MK→RM3
  | .append=>oZ
def mkN:MK→Str
  | .append => "append"
def aFP (T:List (Str×GT)) (k:Nat):bU:=match T[k]? with
  | some (_,.con d)=>bH d
  | some (_,.cls a)=>bH (.ref a)
  | some (_,.bt n)=>bH (.ty n)
  | _=>asO
def aFQ (T:List (Str×GT)) (K:Fg) (ex:aM→aW) (k:Nat) (t:nT):bU:=match T[k]? with
  | some (_,.fn sp _ _)=>aX sp ex t
  | some (_,.cls a)=>am7 a t
  | some (_,.bf b)=>gW (aLO K b) t
  | some (_,.bt n)=>gW (aFO n) t
  | some (_,.kl C sp dd)=>aeB C sp dd ex t
  | _=>asO
mutual
def mE (T:List (Str×GT)) (K:Fg) (ex:aM→aW):CE→bU
  | .var i=>aB i
  | .con d=>bH d
  | .glo k=>aFP T k
  | .neg a=>acL (mE T K ex a)
  | .asN a=>a8S (mE T K ex a)
  | .bin o a b=>aH (aBX o) (mE T K ex a) (mE T K ex b)
  | .cmp o a b=>aH (a9E o) (mE T K ex a) (mE T K ex b)
  | .chain o o' a b c=>qT (a9E o) (a9E o') (mE T K ex a) (mE T K ex b) (mE T K ex c)
  | .aoV es=>aFR T K ex es
  | .ifx c a b=>awX (mT T K ex c) (mE T K ex a) (mE T K ex b)
  | .tup es=>oX (mA T K ex es)
  | .lst es=>wA (mA T K ex es)
  | .dct=>ae6
  | .ix a b=>aH cQ (mE T K ex a) (mE T K ex b)
  | .sl a lo hi=>a86 (mE T K ex a) (mO T K ex lo) (mO T K ex hi)
  | .call k es=>aFQ T K ex k (mA T K ex es)
  | .meth m o .nil=>axB (mkT m) (mkR m) (mE T K ex o)
  | .meth m o (.cons e r)=>tM3 (mkT m) (mkR m) (mE T K ex o) (aA (mE T K ex e) (mA T K ex r))
  | .acY n _ _ ci cc e=>zN n (mI T K ex ci) (mC T K cc) (mE T K NoX e)
  | .maxD _ e d=>am9 (mE T K ex e) (mE T K ex d)
  | .dix a b=>aH a4Z (mE T K ex a) (mE T K ex b)
  | .dgt o e f=>a87 (mE T K ex o) (mE T K ex e) (mE T K ex f)
  | .rev a k=>amD (mE T K ex a) (a4P (mE T K ex k))
  | .ay2 t a b=>aeI t (mE T K ex a) (mE T K ex b)
def mA (T:List (Str×GT)) (K:Fg) (ex:aM→aW):CEs→nT
  | .nil=>aG
  | .cons e r=>aA (mE T K ex e) (mA T K ex r)
def aFR (T:List (Str×GT)) (K:Fg) (ex:aM→aW):CEs→bU
  | .nil=>asO
  | .cons e .nil=>mE T K ex e
  | .cons e (.cons e' r)=>xG (mE T K ex e) (aFR T K ex (.cons e' r))
def mOr (T:List (Str×GT)) (K:Fg) (ex:aM→aW):CEs→bU
  | .nil=>asO
  | .cons e .nil=>mE T K ex e
  | .cons e (.cons e' r)=>alT (mE T K ex e) (mOr T K ex (.cons e' r))
def mT (T:List (Str×GT)) (K:Fg) (ex:aM→aW):CT→TT3
  | .cmp o a b=>aZ (aH (a9E o) (mE T K ex a) (mE T K ex b))
  | .chain o o' a b c=>aZ (qT (a9E o) (a9E o') (mE T K ex a) (mE T K ex b) (mE T K ex c))
  | .not t=>w6 (mT T K ex t)
  | .and ts=>asQ T K ex ts
  | .or ts=>aFS T K ex ts
  | .val e=>aZ (mE T K ex e)
def asQ (T:List (Str×GT)) (K:Fg) (ex:aM→aW):CTs→TT3
  | .nil=>aBW
  | .cons e .nil=>mT T K ex e
  | .cons e (.cons e' r)=>agT (mT T K ex e) (asQ T K ex (.cons e' r))
def aFS (T:List (Str×GT)) (K:Fg) (ex:aM→aW):CTs→TT3
  | .nil=>aBW
  | .cons e .nil=>mT T K ex e
  | .cons e (.cons e' r)=>abM (mT T K ex e) (aFS T K ex (.cons e' r))
def mO (T:List (Str×GT)) (K:Fg) (ex:aM→aW):CO→TO3
  | .none=>a2N
  | .some e=>a4P (mE T K ex e)
def mI (T:List (Str×GT)) (K:Fg) (ex:aM→aW):CI→TI3
  | .any e=>a4V (mE T K ex e)
  | .abS e=>uU (aA (mE T K ex e) aG)
  | .zip a b=>a91 (aA (mE T K ex a) (aA (mE T K ex b) aG))
  | .items e=>o8 true (mE T K ex e)
  | .enu _=>fun _ _ _=>False
def mC (T:List (Str×GT)) (K:Fg):CC→TT3
  | .none=>a1C
  | .some t=>mT T K NoX t
end
def isStar:Expr→Bool
  | .Starred ..=>true
  | _=>false
def isSlice:Expr→Bool
  | .Slice ..=>true
  | _=>false
def fH:Expr→Bool
  | .Call (.Name id _) [] [] _=>id != ("super" : Str)
  | _=>true
def isSet:Expr→Bool
  | .Set ..=>true
  | _=>false
def aFT:BF→String
  | .len => "len"
  | .abs => "abs"
  | .isi => "isinstance"
  | .min => "min"
  | .max => "max"
  | .sum => "sum"
  | .ay1 => "min"
def asR:BF→Value
  | b => .builtin (aFT b)
def ak3:BF→Bool
  | .len=>true
  | .abs=>true
  | .isi=>true
  | _=>false
def a2S (S:SI):Bool:=(List.range S.gl.length).any fun k=>S.gv[k]? == some true&&match S.gl[k]? with
  | some (y,.bt n)=>y == ("range" : Str)&&n == "range"
  | _=>false
def ahF (S:SI):Bool:=(List.range S.gl.length).any fun k=>S.gv[k]? == some true&&match S.gl[k]? with
  | some (y,.bt n)=>y == ("zip" : Str)&&n == "zip"
  | _=>false
def aeN (S:SI):Bool:=(List.range S.gl.length).any fun k=>S.gv[k]? == some true&&match S.gl[k]? with
  | some (y,.bt n)=>y == ("enumerate" : Str)&&n == "enumerate"
  | _=>false
def amJ (S:SI) (k:Nat) (x:Str):Bool:=match S.gl[k]? with
  | some (y,.bf b)=>y == x&&asR b == .builtin "max"
  | _=>false
def aFU (S:SI) (y:Str):Bool:=(List.range S.N.length).any fun i=>S.N[i]? == some y&&S.ce[i]? == some true
def aeO:List Str→Bool
  | []=>true
  | x :: r=>!r.contains x&&aeO r
def xV:List Expr→Option (List Str)
  | []=>some []
  | .Name x _ :: r=>(xV r).map (x :: ·)
  | _=>none
def a07 (S:SI) (xs:List Str) (scope:Scope) (fl gv:List Bool):Bool :=
  scope.kind == .function&&scope.names.all (fun y=>y.2 != .cell&&(y.2 != .local || scope.names.lookup y.1 == some .local)&&(y.2 != .free || aFU S y.1)) &&
  xs.all (fun x=>scope.names.lookup x == some .local&&!S.N.contains x&&x != ("__debug__" : Str)&&x != ("__classdict__" : Str))&&aeO xs &&
  S.N.all (fun y=>scope.names.lookup y != some .local) &&
  (List.range S.N.length).all (fun i=>fl[i]? != some true || (S.fl[i]? == some true&&match S.N[i]? with
    | some y=>scope.names.lookup y == some .free
    | none=>false)) &&
  (List.range S.gl.length).all (fun k=>gv[k]? != some true || match S.gl[k]? with
    | some (y,_)=>scope.names.lookup y == some .globalImplicit
    | none=>false)
def aBY:D→Const→Bool
  | .int i,.int j=>i == j
  | .str s,.str t=>s == t
  | .bl b,.bool c=>b == c
  | .non,.none=>true
  | _,_=>false
def plainT:Expr→Bool
  | .UnaryOp .Not _ _=>false
  | .BoolOp ..=>false
  | .IfExp ..=>false
  | .Compare ..=>false
  | _=>true
def asS (S:SI) (k:Nat) (x:Str):Bool:=match S.gl[k]? with
  | some (y,.con _)=>y == x
  | some (y,.cls _)=>y == x
  | some (y,.bt _)=>y == x
  | _=>false
def amK (S:SI) (k:Nat) (x:Str) (e:Bool):Bool:=match S.gl[k]? with
  | some (y,.fn _ _ qt)=>y == x&&(qt || S.calm)
  | some (y,.cls _)=>y == x
  | some (y,.bf b)=>y == x&&e&&(S.calm || ak3 b)
  | some (y,.bt _)=>y == x&&e
  | some (y,.kl _ _ _)=>y == x&&S.calm
  | _=>false
def a2T:Expr→Option (Expr×Str×Bool)
  | .Call (.Attribute y n ap) [] [] cp=>some (y,n,ap.endLine == cp.line)
  | _=>none
def a2U:Expr→Option (Str×Expr)
  | .Call (.Name x _) [z] [] _=>some (x,z)
  | _=>none
mutual
def kE (S:SI):CE→Expr→Bool
  | .var i,.Name x _=>S.N[i]? == some x&&S.fl[i]? == some true
  | .con d,.Constant c _ _=>aBY d c
  | .glo k,.Name x _=>S.gv[k]? == some true&&asS S k x
  | .neg a,.UnaryOp .USub e _=>kE S a e
  | .asN a,.UnaryOp .Not e _=>kE S a e
  | .bin o a b,.BinOp x o' y _=>o == o'&&kE S a x&&kE S b y
  | .cmp o a b,.Compare x [o'] [y] _=>o == o'&&!behindInMarks o' y&&kE S a x&&kE S b y
  | .chain o o' a b c,.Compare x [p,p'] [y,z] _=>o == p&&o' == p'&&!lastMarks [p,p'] [y,z]&&kE S a x&&kE S b y&&kE S c z
  | .aoV es,.BoolOp .And xs _=>kEs S es xs
  | .ifx c a b,.IfExp t x y _=>kT S c t&&kE S a x&&kE S b y
  | .tup es,.Tuple xs _ _=>kEs S es xs
  | .lst es,.List xs _=>kEs S es xs
  | .dct,.Dict [] [] _=>true
  | .ix a b,.Subscript x y _=>!isSlice y&&kE S a x&&kE S b y
  | .sl a lo hi,.Subscript x (.Slice l h none _) _=>kE S a x&&kO S lo l&&kO S hi h
  | .call k es,.Call (.Name x _) xs [] _=>kEs S es xs&&S.gv[k]? == some true&&amK S k x (!xs.isEmpty)
  | .meth m o es,.Call (.Attribute y n ap) xs [] cp=>n == mkN m&&fH y&&ap.endLine == cp.line&&decide (xs.length < 30)&&kE S o y&&kEs S es xs
  | .acY n fl gv ci cc e,.ListComp elt [⟨.Tuple es _ _,iter,ifs,a⟩] scope _=>S.calm&&a == 0&&(match xV es with
    | some xs=>xs.length == n&&a07 S xs scope fl gv&&!isSet iter&&kI S true ci iter&&kC (S.cmp xs fl gv) cc ifs&&kE (S.cmp xs fl gv) e elt
    | none=>false)
  | .maxD k e d,.Call (.Name x _) [y] [⟨some n,z,_⟩] _=>n == ("default" : Str)&&S.calm&&S.gv[k]? == some true&&amJ S k x&&!isStar y&&kE S e y&&kE S d z
  | .dix a b,.Subscript x y _=>!isSlice y&&kE S a x&&kE S b y
  | .dgt o e f,.Call (.Attribute y n ap) [x,z] [] cp=>n == ("get" : Str)&&fH y&&ap.endLine == cp.line&&!isStar x&&!isStar z&&kE S o y&&kE S e x&&kE S f z
  | .rev a k,.Subscript x (.Slice none none (some y) _) _=>kE S a x&&kE S k y
  | .ay2 _ a b,.Dict [some x] [y] _=>kE S a x&&kE S b y
  | _,_=>false
def kEs (S:SI):CEs→List Expr→Bool
  | .nil,[]=>true
  | .cons e r,x :: xs=>!isStar x&&kE S e x&&kEs S r xs
  | _,_=>false
def kT (S:SI):CT→Expr→Bool
  | .cmp o a b,.Compare x [o'] [y] _=>o == o'&&!behindInMarks o' y&&kE S a x&&kE S b y
  | .chain o o' a b c,.Compare x [p,p'] [y,z] _=>o == p&&o' == p'&&!lastMarks [p,p'] [y,z]&&kE S a x&&kE S b y&&kE S c z
  | .not t,.UnaryOp .Not e _=>kT S t e
  | .and ts,.BoolOp .And xs _=>kTs S ts xs
  | .or ts,.BoolOp .Or xs _=>kTs S ts xs
  | .val e,x=>plainT x&&kE S e x
  | _,_=>false
def kTs (S:SI):CTs→List Expr→Bool
  | .nil,[]=>true
  | .cons e r,x :: xs=>kT S e x&&kTs S r xs
  | _,_=>false
def kO (S:SI):CO→Option Expr→Bool
  | .none,none=>true
  | .some e,some x=>kE S e x
  | _,_=>false
def kI (S:SI) (tt:Bool):CI→Expr→Bool
  | .any e,x=>kE S e x
  | .abS e,.Call (.Name r _) [y] [] _=>r == ("range" : Str)&&a2S S&&!isStar y&&kE S e y
  | .zip a b,.Call (.Name r _) [y,z] [] _=>tt&&r == ("zip" : Str)&&ahF S&&!isStar y&&!isStar z&&kE S a y&&kE S b z
  | .items e,x=>tt&&(match a2T x with
    | some (y,n,l)=>l&&n == ("items" : Str)&&fH y&&kE S e y
    | none=>false)
  | .enu e,x=>tt&&(match a2U x with
    | some (r,y)=>r == ("enumerate" : Str)&&aeN S&&!isStar y&&kE S e y
    | none=>false)
  | _,_=>false
def kC (S:SI):CC→List Expr→Bool
  | .none,[]=>true
  | .some t,[x]=>kT S t x
  | _,_=>false
end
end L4
namespace L4
open PySem PySem.Spec PyProof.Rows L2
theorem aV {e:Expr} {es:List Expr} {env:Env} (h:isStar e=false):starEach (e :: es) env=(false,eval e env) :: starEach es env:=by
  cases e <;> first | rfl | (exact absurd (show true=false from h) (by decide))
theorem xW {S:SI} {env:Env} {pos:Pos}:∀ {cs:CEs} {xs:List Expr},kEs S cs xs=true→(backTo pos (starEach xs env)).any (·.1)=false
  | .nil,[],_=>rfl
  | .nil,_ :: _,h=>absurd (show false=true from h) (by decide)
  | .cons _ _,[],h=>absurd (show false=true from h) (by decide)
  | .cons e r,x :: xs,h=>by
    have h':(!isStar x&&kE S e x&&kEs S r xs)=true:=h
    simp only [Bool.and_eq_true,Bool.not_eq_true'] at h'
    rw [aV h'.1.1]
    show (false || (backTo pos (starEach xs env)).any (·.1))=false
    rw [xW h'.2];rfl
theorem zO {o:Expr} {n:Str} {env:Env} (h:fH o=true):attributeBase o n env (eval o env)=eval o env:=by
  cases o with
  | Call f args kws pos =>
    cases f with
    | Name id p =>
      cases args with
      | nil =>
        cases kws with
        | nil =>
          have h':(id != ("super" : Str))=true:=h
          unfold attributeBase
          simp only [h',Bool.true_or,if_true]
        | cons _ _=>rfl
      | cons _ _=>cases kws <;> rfl
    | _=>rfl
  | _=>rfl
abbrev BMv:List Value:=[.type "ValueError",.type "Exception",.type "BaseException",.type "object"]
def aLQ (X:Cx) (cm:Bool) (x:Str):GT→Prop
  | .con d=>∃ u v,X.mg x=some u∧RelV v u∧∀ H,RD X.K H d v
  | .cls a=>X.mg x=some (.ref a)∧PySem.W.excIn X.K a BMv "ValueError.__new__" = true
  | .fn sp n qt=>(qt=true∨cm=true)→∃ k f fd ps,cT qt X.prog X.w X.K X.mg X.base (oY X.prog X.w) k f fd ps (dZ X.K sp)∧iG qt k X.A∧X.mg x=some (.ref f)∧PySem.W.keepIn X.K (.ref f)=true∧Binds X.K fd ps []
  | .bf b=>X.mg x=none∧bootBuiltins x=some (asR b)
  | .bt n=>X.mg x=none∧bootBuiltins x=some (.type n)
  | .kl C sp dd=>cm=true→∃ k f fd ps ds dvs,Mk X.K C f∧cT false X.prog X.w X.K X.mg X.base (oY X.prog X.w) k f fd ps (dZ X.K sp)∧iG false (k+1) X.A∧X.mg x=some (.ref C)∧Binds X.K fd ps ds∧Vals dvs ds∧∀ H,cL X.K H dd dvs
  | .me C m sp dd=>cm=true→∃ k f fd ps ds dvs,Cls X.K C∧Meth X.K C m f∧cT false X.prog X.w X.K X.mg X.base (oY X.prog X.w) k f fd ps (dZ X.K sp)∧iG false k X.A∧Binds X.K fd ps ds∧Vals dvs ds∧∀ H,cL X.K H dd dvs
  | .fl C f=>Cls X.K C∧aqL X.K C f
structure lG (X:Cx) (S:SI) (ex:aM→aW):Prop where
  N:X.N=S.N
  nd:X.N.Nodup
  vis:∀ (i:Nat) (x:Str),S.N[i]?=some x→S.fl[i]?=some true→Vis X.env.scope x∧(x == ("__debug__" : Str))=false∧(x == ("__classdict__" : Str))=false
  ce:∀ (i:Nat) (x:Str),S.N[i]?=some x→S.ce[i]?=some true→X.env.kindOf x=some .cell∨X.env.kindOf x=some .free
  gm:∀ (k:Nat) (x:Str) (g:GT),S.gl[k]?=some (x,g)→(S.gv[k]?=some true→Gl X x)∧(x == ("__debug__" : Str))=false∧x ≠ "__name__" ∧ aLQ X S.calm x g
  hu:X.A.units+64 < cLine
  cm:S.calm=true→X.calm=true
  cat:Cat X ex
theorem lG.gl {X:Cx} {S:SI} {ex:aM→aW} (Q:lG X S ex) (k:Nat) (x:Str) (g:GT) (h:S.gl[k]?=some (x,g)) (hv:S.gv[k]?=some true):Gl X x∧(x == ("__debug__" : Str))=false∧x ≠ "__name__" ∧ aLQ X S.calm x g :=
  ⟨(Q.gm k x g h).1 hv,(Q.gm k x g h).2⟩
section
variable {X:Cx} {S:SI} {ex:aM→aW}
theorem asT {e:Expr}:cU X e asO:=fun _ _ _ _ _ _ ⟨_,_,_,_,_,z,_⟩=>z.elim
theorem ay4 {o:Operator}:a8R X (binaryOp o) (aBX o):=by
  have no:∀ {f:Value→Value→Sem Value},a8R X f (fun _ _ _ _=>False):=fun {f}=>⟨fun _ _ _ _=>False,fun _ _ _ _ _ _ _ _ _ _ _ _ h=>h.elim,fun _ _ _ _ _ _ _ _ _ _ _ h _=>h.elim⟩
  exact match o with
  | .Add=>aKC
  | .Sub=>aK8
  | .Mult=>aK9
  | .FloorDiv=>aDY
  | .Mod=>aKA
  | .Pow=>aKB
  | .MatMult=>no
  | .Div=>no
  | .LShift=>no
  | .RShift=>no
  | .BitOr=>no
  | .BitXor=>no
  | .BitAnd=>no
theorem zP {o:CmpOp} (hu:X.A.units+64 < cLine):uP X (compareOp o) (a9E o):=by
  exact match o with
  | .Eq=>aPC hu
  | .NotEq=>aPD hu
  | .Lt=>aOV
  | .LtE=>aOY
  | .Gt=>aOW
  | .GtE=>aOX
  | .Is=>aOZ
  | .IsNot=>aE1
  | .In=>aPF hu
  | .NotIn=>ax8 hu
theorem aLR {n:String}:cM X (.type n) (aFO n):=by
  unfold aFO
  split
  · rename_i h;subst h;exact aKO
  · split
    · rename_i h;subst h;exact aEG
    · split
      · rename_i h;subst h;exact aLK
      · split
        · rename_i h;subst h;exact axR
        · exact fun _ _ _ _ _ _ _ _ _ _ _ _ _ _ h _=>h.elim
theorem asU {qt:Bool} {k:Nat} {f:Addr} {fd:FuncData} {ps:List Str} {sp:uL} {x:Str} {p pos:Pos} (F:cT qt X.prog X.w X.K X.mg X.base (oY X.prog X.w) k f fd ps (dZ X.K sp)) (hr:iG qt k X.A) (hg:Gl X x) (hm:X.mg x=some (.ref f)) (hk:PySem.W.keepIn X.K (.ref f)=true) (hb:Binds X.K fd ps []) (hx:Cat X ex)
    (hdb:(x == ("__debug__" : Str))=false):cU X (.Call (.Name x p) [] [] pos) (aX sp ex aG):=by
  intro pins s σ H Q I h
  obtain ⟨ρ,G,R,sr,g,q,kk⟩:=h
  refine wpAny_Call_Name_kw (qP I hg hm ?_ hdb)
  refine PySem.W.callWith_K0 I.kIn hk ?_
  exact alY (E:=a6A X.K (ex ρ)) F hr hb (fun e s' c=>hx.alX pins σ H s ρ e s' I sr c) I .nil (Q:=fun v H'=>∃ d G',RD X.K H' d v∧HR X.K H' G'∧R d G') ⟨[],G,R,ex ρ,.nil,g,q,fun v H' d G' r2 g2 q2=>⟨d,G',r2,g2,q2⟩,fun C H' G' g' q'=>⟨C,G',rfl,g',q'⟩⟩ fun v H' t2 ⟨d,G',r2,g2,q2⟩=>kk v H' d G' t2 r2 g2 q2
theorem asV {xs:List Expr} {cs:CEs} {cp:Pos} (h:kEs S cs xs=true) (hl:xs.length < 30):((backTo cp (starEach xs X.env)).all (fun x=>!x.1)&&(backToKw cp (keywordEach [] X.env)).all (fun x=>x.1.isSome)
      && decide (xs.length+([]:List Keyword).length+(if ([]:List Keyword).isEmpty then 0 else 1) < 30))=true:=by
  have h1:(backTo cp (starEach xs X.env)).all (fun x=>!x.1)=true:=by
    rw [List.all_eq_true]
    intro y hy
    have:=xW (env:=X.env) (pos:=cp) h
    rw [List.any_eq_false] at this
    have:=this y hy
    simpa using this
  have h2:(decide (xs.length+([]:List Keyword).length+(if ([]:List Keyword).isEmpty then 0 else 1) < 30))=true:=decide_eq_true (by simpa using hl)
  rw [h1,h2];rfl
end
end L4
namespace L4
open PySem PySem.Spec PyProof.Rows L2
section
variable {X:Cx} {S:SI} {ex:aM→aW}
theorem aFV {d:D} {c:Const} {j:Nat} {pos:Pos} (h:aBY d c=true):cU X (.Constant c j pos) (bH d):=by
  cases d <;> cases c <;> first | exact absurd (show false=true from h) (by decide) | skip
  · exact aJS
  · have:=beq_iff_eq.mp h;subst this;exact aOR
  · have:=beq_iff_eq.mp h;subst this;exact aJR
  · have:=beq_iff_eq.mp h;subst this;exact aJT
theorem aFW {e:Expr} (h:plainT e=true):∀ whole,isTrue e X.env whole=(do let v ← whole;standAt e.pos;holding [v] (truthy v)):=by
  cases e with
  | UnaryOp op x p=>cases op <;> first | exact absurd (show false=true from h) (by decide) | (intro _;rfl)
  | BoolOp _ _ _=>exact absurd (show false=true from h) (by decide)
  | IfExp _ _ _ _=>exact absurd (show false=true from h) (by decide)
  | Compare _ _ _ _=>exact absurd (show false=true from h) (by decide)
  | _=>intro _;rfl
theorem aBZ {e:Expr} (h:isSlice e=false):adS e:=by
  cases e with
  | Slice _ _ _ _=>exact absurd (show true=false from h) (by decide)
  | _=>intro _ _;rfl
theorem aLS (Q:lG X S ex) {k:Nat} {x:Str} {b:BF} (hk:S.gl[k]?=some (x,.bf b)) (hv:S.gv[k]?=some true) (hc:(S.calm || ak3 b)=true) {e:Expr} {es:List Expr} {t:nT} {p pos:Pos} (ha:PA3 X (e :: es) t) (he:isStar e=false) (hp:(backTo pos (starEach es X.env)).any (·.1)=false):cU X (.Call (.Name x p) (e :: es) [] pos) (gW (aLO X.K b) t):=by
  obtain ⟨h1,h2,h3,h4⟩:=Q.gl _ _ _ hk hv
  have cm:ak3 b=false→X.calm=true:=fun z=>by
    rw [z,Bool.or_false] at hc
    exact Q.cm hc
  cases b with
  | len=>exact uT aKM h1 h4.1 h4.2 ha h3 h2 (aV he) hp
  | abs=>exact uT aKN h1 h4.1 h4.2 ha h3 h2 (aV he) hp
  | isi=>exact uT ae4 h1 h4.1 h4.2 ha h3 h2 (aV he) hp
  | min=>exact uT (aF6 (cm rfl)) h1 h4.1 h4.2 ha h3 h2 (aV he) hp
  | max=>exact uT (aF5 (cm rfl)) h1 h4.1 h4.2 ha h3 h2 (aV he) hp
  | sum=>exact uT (aL3 (cm rfl)) h1 h4.1 h4.2 ha h3 h2 (aV he) hp
  | ay1=>exact uT (aFN (cm rfl) Q.hu) h1 h4.1 h4.2 ha h3 h2 (aV he) hp
theorem ay5 {m:MK} {o:Expr} {to:bU} {ap cp:Pos} (ho:cU X o to) (hb:fH o=true) (hl:(ap.endLine == cp.line)=true):cU X (.Call (.Attribute o (mkN m) ap) [] [] cp) (axB (mkT m) (mkR m) to):=by
  cases m with
  | append=>exact aKQ PySem.F.plainAttrs_list PySem.F.slot_list_append PySem.F.type_list_append agY ho (zO hb) hl
theorem asW {m:MK} {o e:Expr} {es:List Expr} {to:bU} {t:nT} {cs:CEs} {ap cp:Pos} (ho:cU X o to) (ha:PA3 X (e :: es) t) (hb:fH o=true) (hl:(ap.endLine == cp.line)=true) (hk:kEs S cs (e :: es)=true) (hn:(e :: es).length < 30) :
    cU X (.Call (.Attribute o (mkN m) ap) (e :: es) [] cp) (tM3 (mkT m) (mkR m) to t):=by
  have he:isStar e=false:=by
    cases cs with
    | nil=>exact absurd (show false=true from hk) (by decide)
    | cons c r =>
      have h':(!isStar e&&kE S c e&&kEs S r es)=true:=hk
      simp only [Bool.and_eq_true,Bool.not_eq_true'] at h'
      exact h'.1.1
  have hp:(backTo cp (starEach es X.env)).any (·.1)=false:=by
    have:=xW (env:=X.env) (pos:=cp) hk
    rw [aV he] at this
    have z:(false || (backTo cp (starEach es X.env)).any (·.1))=false:=this
    simpa using z
  cases m with
  | append=>exact aPG PySem.F.plainAttrs_list PySem.F.slot_list_append PySem.F.type_list_append agY ho ha (zO hb) (asV hk hn) hl (aV he) hp
local macro_rules | `(tactic| walk_at "off")=>`(tactic| exact absurd (show false=true from by assumption) (by decide))
theorem aFX (Q:lG X S ex) {k:Nat} {x:Str} {p:Pos} (h:kE S (.glo k) (.Name x p)=true):cU X (.Name x p) (aFP S.gl k):=by
  have h':(S.gv[k]? == some true&&asS S k x)=true:=h
  rw [Bool.and_eq_true] at h'
  obtain ⟨hv,h⟩:=h'
  have hv:=beq_iff_eq.mp hv
  unfold asS at h
  unfold aFP
  split at h
  · rename_i y d hk
    have:=beq_iff_eq.mp h;subst this
    obtain ⟨h1,h2,h3,u,v,h4,h5,h6⟩:=Q.gl _ _ _ hk hv
    exact ar0 h1 h4 h5 h6 h2
  · rename_i y d hk
    have:=beq_iff_eq.mp h;subst this
    obtain ⟨h1,h2,h3,h4⟩:=Q.gl _ _ _ hk hv
    exact ar0 h1 h4.1 (v := .ref d) rfl (fun _ => .ref _) h2
  · rename_i y d hk
    have:=beq_iff_eq.mp h;subst this
    obtain ⟨h1,h2,h3,h4⟩:=Q.gl _ _ _ hk hv
    exact aDU h1 h4.1 h4.2 h3 h2
  · exact absurd h (by decide)
theorem ay6 (Q:lG X S ex) {k:Nat} {es:CEs} {x:Str} {p pos:Pos} {xs:List Expr} (ha:PA3 X xs (mA S.gl X.K ex es)) (hk:kEs S es xs=true) (hv:S.gv[k]?=some true) (h:amK S k x (!xs.isEmpty)=true):cU X (.Call (.Name x p) xs [] pos) (aFQ S.gl X.K ex k (mA S.gl X.K ex es)):=by
  unfold amK at h
  unfold aFQ
  have one:∀ {e:Expr} {r:List Expr},xs=e :: r→isStar e=false∧(backTo pos (starEach r X.env)).any (·.1)=false:=fun {e r} z=>by
    subst z
    cases es with
    | nil=>exact absurd (show false=true from hk) (by decide)
    | cons c cr =>
      have h':(!isStar e&&kE S c e&&kEs S cr r)=true:=hk
      simp only [Bool.and_eq_true,Bool.not_eq_true'] at h'
      exact ⟨h'.1.1,xW h'.2⟩
  split at h
  · rename_i y sp n qt hg
    rw [Bool.and_eq_true] at h
    obtain ⟨h,hc⟩:=h
    have:=beq_iff_eq.mp h;subst this
    obtain ⟨h1,h2,h3,h4⟩:=Q.gl _ _ _ hg hv
    obtain ⟨j,f,fd,ps,F,hr,hm,hkp,hb⟩:=h4 (Bool.or_eq_true _ _ |>.mp hc)
    cases xs with
    | nil =>
      cases es with
      | nil=>exact asU F hr h1 hm hkp hb Q.cat h2
      | cons _ _=>exact absurd (show false=true from hk) (by decide)
    | cons e r=>exact ax5 F hr h1 hm hkp hb Q.cat ha h2 (aV (one rfl).1) (one rfl).2
  · rename_i y a hg
    have:=beq_iff_eq.mp h;subst this
    obtain ⟨h1,h2,h3,h4,h5⟩:=Q.gl _ _ _ hg hv
    cases xs with
    | nil =>
      cases es with
      | nil=>exact aF7 PySem.F.excBase_ValueError (by decide) PySem.F.excBase_ValueError h1 h4 h5 h2
      | cons _ _=>exact absurd (show false=true from hk) (by decide)
    | cons e r=>exact aL7 PySem.F.excBase_ValueError (by decide) PySem.F.excBase_ValueError h1 h4 h5 ha h2 (aV (one rfl).1) (one rfl).2
  · rename_i y b hg
    rw [Bool.and_eq_true,Bool.and_eq_true] at h
    obtain ⟨⟨h,hc⟩,hcm⟩:=h
    have:=beq_iff_eq.mp h;subst this
    cases xs with
    | nil=>exact absurd (show false=true from hc) (by decide)
    | cons e r=>exact aLS Q hg hv hcm ha (one rfl).1 (one rfl).2
  · rename_i y n hg
    rw [Bool.and_eq_true] at h
    obtain ⟨h,hc⟩:=h
    have:=beq_iff_eq.mp h;subst this
    obtain ⟨h1,h2,h3,h4⟩:=Q.gl _ _ _ hg hv
    cases xs with
    | nil=>exact absurd (show false=true from hc) (by decide)
    | cons e r=>exact arB aLR h1 h4.1 h4.2 ha h3 h2 (aV (one rfl).1) (one rfl).2
  · rename_i y C sp dd hg
    rw [Bool.and_eq_true] at h
    obtain ⟨h,hc⟩:=h
    have:=beq_iff_eq.mp h;subst this
    obtain ⟨h1,h2,h3,h4⟩:=Q.gl _ _ _ hg hv
    obtain ⟨kk,f,fd,ps,ds,dvs,q1,q2,q3,q4,q5,q6,q7⟩:=h4 hc
    cases xs with
    | nil =>
      cases es with
      | nil=>exact arY q1 q2 q3 h1 q4 q5 q6 q7 Q.cat h2
      | cons _ _=>exact absurd (show false=true from hk) (by decide)
    | cons e r=>exact axK q1 q2 q3 h1 q4 q5 q6 q7 Q.cat ha h2 (aV (one rfl).1) (one rfl).2
  · exact absurd h (by decide)
theorem pA {names:List (Str×NameKind)} {env:Env} {y:Str} {k:NameKind} (h:names.lookup y=some k) :
    (names.map fun (n,k)=>if (k == .free&&env.scope.kind == .function&&env.kindOf n == some .cell) then (n,.cell) else (n,k)).lookup y=some k ∨
    (k = .free∧(names.map fun (n,k)=>if (k == .free&&env.scope.kind == .function&&env.kindOf n == some .cell) then (n,.cell) else (n,k)).lookup y=some .cell):=by
  induction names with
  | nil=>simp at h
  | cons p r ih =>
    obtain ⟨n,kd⟩:=p
    rw [List.lookup_cons] at h
    show List.lookup y ((if (kd == .free&&env.scope.kind == .function&&env.kindOf n == some .cell)=true then (n,NameKind.cell) else (n,kd)) :: _)=some k∨(k = .free∧List.lookup y ((if (kd == .free&&env.scope.kind == .function&&env.kindOf n == some .cell)=true then (n,NameKind.cell) else (n,kd)) :: _)=some .cell)
    cases hx:y == n with
    | true =>
      rw [hx] at h
      have hkd:kd=k:=by simpa using h
      subst hkd
      by_cases hc:(kd == .free&&env.scope.kind == .function&&env.kindOf n == some .cell)=true
      · rw [if_pos hc,List.lookup_cons,hx]
        refine .inr ⟨?_,rfl⟩
        simp only [Bool.and_eq_true,beq_iff_eq] at hc
        exact hc.1.1
      · rw [if_neg hc,List.lookup_cons,hx]
        exact .inl rfl
    | false =>
      rw [hx] at h
      have z:=ih h
      by_cases hc:(kd == .free&&env.scope.kind == .function&&env.kindOf n == some .cell)=true
      · rw [if_pos hc,List.lookup_cons,hx]
        exact z
      · rw [if_neg hc,List.lookup_cons,hx]
        exact z
theorem acZ:∀ {xs:List Str},aeO xs=true→xs.Nodup
  | [],_=>List.nodup_nil
  | x :: r,h=>by
    have h':(!r.contains x&&aeO r)=true:=h
    rw [Bool.and_eq_true] at h'
    exact List.nodup_cons.mpr ⟨by simpa using h'.1,acZ h'.2⟩
theorem a6E {xs:List Str} {scope:Scope} {fl gv:List Bool} (h:a07 S xs scope fl gv=true) :
    scope.kind = .function∧(∀ y∈scope.names,y.2 ≠ .cell∧(y.2 = .local→scope.names.lookup y.1=some .local)∧(y.2 = .free→aFU S y.1=true)) ∧
    (∀ x∈xs,scope.names.lookup x=some .local∧x ∉ S.N∧(x == ("__debug__" : Str))=false∧(x == ("__classdict__" : Str))=false)∧xs.Nodup∧(∀ y∈S.N,scope.names.lookup y≠some .local) ∧
    (∀ (i:Nat) (y:Str),S.N[i]?=some y→fl[i]?=some true→S.fl[i]?=some true∧scope.names.lookup y=some .free) ∧
    ∀ (k:Nat) (y:Str) (g:GT),S.gl[k]?=some (y,g)→gv[k]?=some true→scope.names.lookup y=some .globalImplicit:=by
  unfold a07 at h
  simp only [Bool.and_eq_true] at h
  obtain ⟨⟨⟨⟨⟨⟨h1,h2⟩,h3⟩,h4⟩,h5⟩,h8⟩,h9⟩:=h
  refine ⟨beq_iff_eq.mp h1,fun y hy=>?_,fun x hx=>?_,acZ h4,fun y hy=>?_,fun i y e1 e2=>?_,fun k y g e1 e2=>?_⟩
  · have z:=List.all_eq_true.mp h2 y hy
    simp only [Bool.and_eq_true,bne_iff_ne,ne_eq,Bool.or_eq_true,beq_iff_eq] at z
    obtain ⟨⟨z1,z2⟩,z3⟩:=z
    exact ⟨z1,fun e=>z2.resolve_left fun n=>n e,fun e=>z3.resolve_left fun n=>n e⟩
  · have z:=List.all_eq_true.mp h3 x hx
    simp only [Bool.and_eq_true] at z
    obtain ⟨⟨⟨z1,z2⟩,z3⟩,z4⟩:=z
    exact ⟨beq_iff_eq.mp z1,by simpa using z2,by simpa using z3,by simpa using z4⟩
  · have z:=List.all_eq_true.mp h5 y hy
    simpa using z
  · have z:=List.all_eq_true.mp h8 i (List.mem_range.mpr (List.getElem?_eq_some_iff.mp e1).1)
    rw [e2,e1] at z
    simpa using z
  · have z:=List.all_eq_true.mp h9 k (List.mem_range.mpr (List.getElem?_eq_some_iff.mp e1).1)
    rw [e2,e1] at z
    simpa using z
theorem lO (Q:lG X S ex) {xs:List Str} {scope:Scope} {fl gv:List Bool} (h:a07 S xs scope fl gv=true):uV X xs scope:=by
  obtain ⟨h1,h2,h3,h4,h5,h8,h9⟩:=a6E h
  refine ⟨h1,fun y hy=>(h2 y hy).1,fun y hy=>(h2 y hy).2.1,fun x hx=>(h3 x hx).1,fun y hy e=>?_,fun x hx=>by rw [Q.N];exact (h3 x hx).2.1,h4,by rw [Q.N];exact h5⟩
  have z:=(h2 y hy).2.2 e
  unfold aFU at z
  obtain ⟨i,_,z⟩:=List.any_eq_true.mp z
  rw [Bool.and_eq_true] at z
  exact Q.ce i y.1 (beq_iff_eq.mp z.1) (beq_iff_eq.mp z.2)
theorem asY {X:Cx}:Cat X NoX:=⟨fun _ _ _ _ _ _ _ _ _ ⟨_,_,_,_,_,_,_,_,_,_,_,_,z⟩=>by obtain ⟨_,_,_,_,z⟩:=z;exact z.elim⟩
theorem ad0 {α:Type} {xs ys:List α} {i:Nat} {y:α} (h:(xs++ys)[i]?=some y):(i < xs.length∧y∈xs)∨∃ j,i=xs.length+j∧ys[j]?=some y:=by
  by_cases c:i < xs.length
  · rw [List.getElem?_append_left c] at h
    exact .inl ⟨c,List.mem_of_getElem? h⟩
  · rw [List.getElem?_append_right (by omega)] at h
    exact .inr ⟨i - xs.length,by omega,h⟩
theorem amL {α β:Type} {xs:List α} {f:α→β} {ys:List β} {j:Nat}:(xs.map f++ys)[xs.length+j]?=ys[j]?:=by
  rw [List.getElem?_append_right (by simp)]
  congr 1
  simp
theorem lG.cmp (Q:lG X S ex) {xs:List Str} {scope:Scope} {fl gv:List Bool} (h:a07 S xs scope fl gv=true) (C:Addr) (s:Shared) (H:Hp) (fp:List Addr) (pins:List (Addr×Obj)):lG (jJ X xs scope C s H fp pins) (S.cmp xs fl gv) NoX:=by
  obtain ⟨h1,h2,h3,h4,h5,h8,h9⟩:=a6E h
  refine ⟨by show xs++X.N=xs++S.N;rw [Q.N],ajY (N:=X.N) (lO Q h) Q.nd,fun i y e1 e2=>?_,fun i y e1 e2=>?_,fun k y g e1=>?_,Q.hu,Q.cm,asY⟩
  · rcases ad0 e1 with ⟨_,m⟩ | ⟨j,rfl,e1'⟩
    · obtain ⟨a1,a2,a3,a4⟩:=h3 y m
      exact ⟨.inl (lookup_relabel_local a1),a3,a4⟩
    · have e2':fl[j]?=some true:=amL.symm.trans e2
      obtain ⟨a1,a2⟩:=h8 j y e1' e2'
      obtain ⟨_,b2,b3⟩:=Q.vis j y e1' a1
      refine ⟨?_,b2,b3⟩
      rcases pA (env:=X.env) a2 with z | ⟨_,z⟩
      · exact .inr (.inr z)
      · exact .inr (.inl z)
  · rcases ad0 e1 with ⟨c,m⟩ | ⟨j,rfl,e1'⟩
    · have e2':(xs.map (fun _=>false)++fl)[i]?=some true:=e2
      rw [List.getElem?_append_left (by simpa using c)] at e2'
      simp at e2'
    · have e2':fl[j]?=some true:=amL.symm.trans e2
      obtain ⟨a1,a2⟩:=h8 j y e1' e2'
      rcases pA (env:=X.env) a2 with z | ⟨_,z⟩
      · exact .inr z
      · exact .inl z
  · obtain ⟨b1,b2,b3,b4⟩:=Q.gm k y g e1
    refine ⟨fun e2=>?_,b2,b3,?_⟩
    · rcases pA (env:=X.env) (h9 k y g e1 e2) with z | ⟨z,_⟩
      · exact z
      · cases z
    · cases g <;> exact b4
theorem a9F:∀ {es:List Expr} {xs:List Str},xV es=some xs→Two (fun e x=>∃ p,e=Expr.Name x p) es xs
  | [],xs,h=>by
    have:xs=[]:=by simpa [xV] using h.symm
    subst this;exact .nil
  | e :: es,xs,h=>by
    cases e with
    | Name x p =>
      have h':(xV es).map (x :: ·)=some xs:=h
      cases q:xV es with
      | none=>rw [q] at h';cases h'
      | some r =>
        rw [q] at h'
        have:xs=x :: r:=by simpa using h'.symm
        subst this
        exact .cons ⟨p,rfl⟩ (a9F q)
    | _=>exact absurd (show (none:Option (List Str))=some xs from h) (fun z=>nomatch z)
theorem ahG (Q:lG X S ex) (h:a2S S=true):Gl X "range" ∧ X.mg "range" = none:=by
  unfold a2S at h
  obtain ⟨k,_,h⟩:=List.any_eq_true.mp h
  rw [Bool.and_eq_true] at h
  obtain ⟨hv,h⟩:=h
  split at h
  · rename_i y n e
    rw [Bool.and_eq_true] at h
    have:=beq_iff_eq.mp h.1
    subst this
    obtain ⟨g1,g2,g3,g4⟩:=Q.gl _ _ _ e (beq_iff_eq.mp hv)
    exact ⟨g1,g4.1⟩
  · exact absurd h (by decide)
theorem asZ (Q:lG X S ex) (h:ahF S=true):Gl X "zip" ∧ X.mg "zip" = none∧bootBuiltins "zip" = some (.type "zip"):=by
  unfold ahF at h
  obtain ⟨k,_,h⟩:=List.any_eq_true.mp h
  rw [Bool.and_eq_true] at h
  obtain ⟨hv,h⟩:=h
  split at h
  · rename_i y n e
    rw [Bool.and_eq_true] at h
    have e1:=beq_iff_eq.mp h.1
    have e2:=beq_iff_eq.mp h.2
    subst e1;subst e2
    obtain ⟨g1,g2,g3,g4⟩:=Q.gl _ _ _ e (beq_iff_eq.mp hv)
    exact ⟨g1,g4.1,g4.2⟩
  · exact absurd h (by decide)
theorem ay7 (Q:lG X S ex) (h:aeN S=true):Gl X "enumerate" ∧ X.mg "enumerate" = none∧bootBuiltins "enumerate" = some (.type "enumerate"):=by
  unfold aeN at h
  obtain ⟨k,_,h⟩:=List.any_eq_true.mp h
  rw [Bool.and_eq_true] at h
  obtain ⟨hv,h⟩:=h
  split at h
  · rename_i y n e
    rw [Bool.and_eq_true] at h
    have e1:=beq_iff_eq.mp h.1
    have e2:=beq_iff_eq.mp h.2
    subst e1;subst e2
    obtain ⟨g1,g2,g3,g4⟩:=Q.gl _ _ _ e (beq_iff_eq.mp hv)
    exact ⟨g1,g4.1,g4.2⟩
  · exact absurd h (by decide)
theorem at4 (Q:lG X S ex) {k:Nat} {x:Str} (h:amJ S k x=true) (hv:S.gv[k]?=some true):Gl X x∧X.mg x=none∧bootBuiltins x=some (.builtin "max")∧x ≠ "__name__" ∧ (x == ("__debug__" : Str))=false:=by
  unfold amJ at h
  split at h
  · rename_i y b e
    rw [Bool.and_eq_true] at h
    have e1:=beq_iff_eq.mp h.1
    have e2:=beq_iff_eq.mp h.2
    subst e1
    obtain ⟨g1,g2,g3,g4⟩:=Q.gl _ _ _ e hv
    exact ⟨g1,g4.1,by rw [← e2];exact g4.2,g3,g2⟩
  · exact absurd h (by decide)
theorem a9G {w y:Expr} {n:Str} {l:Bool} (h:a2T w=some (y,n,l)):∃ ap cp,w = .Call (.Attribute y n ap) [] [] cp∧l=(ap.endLine == cp.line):=by
  unfold a2T at h
  split at h
  · cases h;exact ⟨_,_,rfl,rfl⟩
  · cases h
theorem ak4 {w:Expr} {x:Str} {z:Expr} (h:a2U w=some (x,z)):∃ p q,w = .Call (.Name x p) [z] [] q:=by
  unfold a2U at h
  split at h
  · cases h;exact ⟨_,_,rfl⟩
  · cases h
theorem ahH {e:Expr} {env:Env} (h:isSet e=false):∀ x,foldedSetIterable e env x=pure x:=by
  cases e <;> first | (intro _;rfl) | exact absurd (show true=false from h) (by decide)
end
end L4
namespace L4
open PySem PySem.Spec PyProof.Rows L2
theorem aR {P:Prop} (h:false=true):P:=absurd h (by decide)
mutual
theorem jE {X:Cx} {S:SI} {ex:aM→aW} (Q:lG X S ex):∀ (c:CE) (e:Expr),kE S c e=true→cU X e (mE S.gl X.K ex c)
  | .var i,e,h=>by
    cases e with
    | Name x p =>
      have h':(S.N[i]? == some x&&S.fl[i]? == some true)=true:=h
      rw [Bool.and_eq_true] at h'
      have e1:=beq_iff_eq.mp h'.1
      obtain ⟨v1,v2,v3⟩:=Q.vis i x e1 (beq_iff_eq.mp h'.2)
      exact aJQ i (by rw [Q.N];exact e1) v1 v2 v3
    | _=>exact aR h
  | .con d,e,h=>by
    cases e with
    | Constant c j p=>exact aFV h
    | _=>exact aR h
  | .glo k,e,h=>by
    cases e with
    | Name x p=>exact aFX Q h
    | _=>exact aR h
  | .neg a,e,h=>by
    cases e with
    | UnaryOp op x p =>
      cases op with
      | USub=>exact aKL (jE Q a x h)
      | _=>exact aR h
    | _=>exact aR h
  | .asN a,e,h=>by
    cases e with
    | UnaryOp op x p =>
      cases op with
      | Not=>exact aK3 (jE Q a x h)
      | _=>exact aR h
    | _=>exact aR h
  | .bin o a b,e,h=>by
    cases e with
    | BinOp x o' y p =>
      have h':(o == o'&&kE S a x&&kE S b y)=true:=h
      simp only [Bool.and_eq_true] at h'
      have:=beq_iff_eq.mp h'.1.1;subst this
      exact aOS ay4 (jE Q a x h'.1.2) (jE Q b y h'.2)
    | _=>exact aR h
  | .cmp o a b,e,h=>by
    cases e with
    | Compare x ops ys p =>
      match ops,ys,h with
      | [o'],[y],h =>
        have h':(o == o'&&!behindInMarks o' y&&kE S a x&&kE S b y)=true:=h
        simp only [Bool.and_eq_true,Bool.not_eq_true'] at h'
        have:=beq_iff_eq.mp h'.1.1.1;subst this
        exact aJV (zP Q.hu) (jE Q a x h'.1.2) (jE Q b y h'.2) h'.1.1.2
      | [],_,h=>exact aR h
      | _ :: _ :: _,_,h=>exact aR h
      | [_],[],h=>exact aR h
      | [_],_ :: _ :: _,h=>exact aR h
    | _=>exact aR h
  | .chain o o' a b c,e,h=>by
    cases e with
    | Compare x ops ys p =>
      match ops,ys,h with
      | [p1,p2],[y,z],h =>
        have h':(o == p1&&o' == p2&&!lastMarks [p1,p2] [y,z]&&kE S a x&&kE S b y&&kE S c z)=true:=h
        simp only [Bool.and_eq_true,Bool.not_eq_true'] at h'
        have e1:=beq_iff_eq.mp h'.1.1.1.1.1
        have e2:=beq_iff_eq.mp h'.1.1.1.1.2
        subst e1;subst e2
        exact awV (zP Q.hu) (zP Q.hu) (jE Q a x h'.1.1.2) (jE Q b y h'.1.2) (jE Q c z h'.2) h'.1.1.1.2
      | [],_,h=>exact aR h
      | [_],_,h=>exact aR h
      | _ :: _ :: _ :: _,_,h=>exact aR h
      | [_,_],[],h=>exact aR h
      | [_,_],[_],h=>exact aR h
      | [_,_],_ :: _ :: _ :: _,h=>exact aR h
    | _=>exact aR h
  | .aoV es,e,h=>by
    cases e with
    | BoolOp op xs p =>
      cases op with
      | And=>exact aC0 Q es xs p h
      | Or=>exact aR h
    | _=>exact aR h
  | .ifx c a b,e,h=>by
    cases e with
    | IfExp t x y p =>
      have h':(kT S c t&&kE S a x&&kE S b y)=true:=h
      simp only [Bool.and_eq_true] at h'
      exact awY (okT Q c t h'.1.1) (jE Q a x h'.1.2) (jE Q b y h'.2)
    | _=>exact aR h
  | .tup es,e,h=>by
    cases e with
    | Tuple xs j p=>exact aK4 (okA Q es xs h)
    | _=>exact aR h
  | .lst es,e,h=>by
    cases e with
    | List xs p=>exact aK5 (okA Q es xs h)
    | _=>exact aR h
  | .dct,e,h=>by
    cases e with
    | Dict ks vs p =>
      match ks,vs,h with
      | [],[],_=>exact aEO
      | _ :: _,_,h=>exact aR h
      | [],_ :: _,h=>exact aR h
    | _=>exact aR h
  | .ix a b,e,h=>by
    cases e with
    | Subscript x y p =>
      have h':(!isSlice y&&kE S a x&&kE S b y)=true:=h
      simp only [Bool.and_eq_true,Bool.not_eq_true'] at h'
      exact aP0 (jE Q a x h'.1.2) (jE Q b y h'.2) (aBZ h'.1.1)
    | _=>exact aR h
  | .sl a lo hi,e,h=>by
    cases e with
    | Subscript x y p =>
      cases y with
      | Slice l u st q =>
        cases st with
        | none =>
          have h':(kE S a x&&kO S lo l&&kO S hi u)=true:=h
          simp only [Bool.and_eq_true] at h'
          exact axA (jE Q a x h'.1.1) (okO Q lo l h'.1.2) (okO Q hi u h'.2)
        | some _=>exact aR h
      | _=>exact aR h
    | _=>exact aR h
  | .call k es,e,h=>by
    cases e with
    | Call f xs kws p =>
      cases f with
      | Name x q =>
        cases kws with
        | nil =>
          have h':(kEs S es xs&&S.gv[k]? == some true&&amK S k x (!xs.isEmpty))=true:=h
          simp only [Bool.and_eq_true] at h'
          exact ay6 Q (okA Q es xs h'.1.1) h'.1.1 (beq_iff_eq.mp h'.1.2) h'.2
        | cons _ _=>exact aR h
      | _=>exact aR h
    | _=>exact aR h
  | .meth m o .nil,e,h=>by
    cases e with
    | Call f xs kws p =>
      cases f with
      | Attribute y n ap =>
        cases kws with
        | nil =>
          have h':(n == mkN m&&fH y&&ap.endLine == p.line&&decide (xs.length < 30)&&kE S o y&&kEs S .nil xs)=true:=h
          simp only [Bool.and_eq_true] at h'
          obtain ⟨⟨⟨⟨⟨h1,h2⟩,h3⟩,h4⟩,h5⟩,h6⟩:=h'
          have:=beq_iff_eq.mp h1;subst this
          cases xs with
          | nil=>exact ay5 (jE Q o y h5) h2 h3
          | cons _ _=>exact aR h6
        | cons _ _=>exact aR h
      | _=>exact aR h
    | _=>exact aR h
  | .meth m o (.cons c r),e,h=>by
    cases e with
    | Call f xs kws p =>
      cases f with
      | Attribute y n ap =>
        cases kws with
        | nil =>
          have h':(n == mkN m&&fH y&&ap.endLine == p.line&&decide (xs.length < 30)&&kE S o y&&kEs S (.cons c r) xs)=true:=h
          simp only [Bool.and_eq_true] at h'
          obtain ⟨⟨⟨⟨⟨h1,h2⟩,h3⟩,h4⟩,h5⟩,h6⟩:=h'
          have:=beq_iff_eq.mp h1;subst this
          cases xs with
          | nil=>exact aR h6
          | cons x xs =>
            have h7:(!isStar x&&kE S c x&&kEs S r xs)=true:=h6
            simp only [Bool.and_eq_true,Bool.not_eq_true'] at h7
            exact asW (jE Q o y h5) (oW (jE Q c x h7.1.2) (okA Q r xs h7.2) (aV h7.1.1)) h2 h3 h6 (of_decide_eq_true h4)
        | cons _ _=>exact aR h
      | _=>exact aR h
    | _=>exact aR h
  | .acY n fl gv ci cc c,e,h=>by
    cases e with
    | ListComp elt gens scope p =>
      cases gens with
      | nil=>exact aR h
      | cons g gr =>
        cases gr with
        | cons _ _=>obtain ⟨tg,it,ifs,a⟩:=g;cases tg <;> exact aR h
        | nil =>
          obtain ⟨tg,it,ifs,a⟩:=g
          cases tg with
          | Tuple es k tp =>
            have h':(S.calm&&a == 0&&(match xV es with
              | some xs=>xs.length == n&&a07 S xs scope fl gv&&!isSet it&&kI S true ci it&&kC (S.cmp xs fl gv) cc ifs&&kE (S.cmp xs fl gv) c elt
              | none=>false))=true:=h
            rw [Bool.and_eq_true,Bool.and_eq_true] at h'
            obtain ⟨⟨h1,h2⟩,h'⟩:=h'
            have:=beq_iff_eq.mp h2;subst this
            cases q:xV es with
            | none=>rw [q] at h';exact aR h'
            | some xs =>
              rw [q] at h'
              simp only [Bool.and_eq_true,Bool.not_eq_true'] at h'
              obtain ⟨⟨⟨⟨⟨h0,h3⟩,h4⟩,h5⟩,h6⟩,h7⟩:=h'
              have:=beq_iff_eq.mp h0;subst this
              exact am3 (lO Q h3) (fun C s H fp pins σ=>arQ (lO Q h3) Q.nd (Q.cm h1) (a9F q)) (fun d ds e=>(ae9 e).2) (okI (tt:=true) Q (fun _=>⟨Q.cm h1,_,_,_,rfl⟩) ci it h5) (fun C s H fp pins=>okC (Q.cmp h3 C s H fp pins) cc ifs h6) (fun C s H fp pins=>jE (Q.cmp h3 C s H fp pins) c elt h7) (ahH h4)
          | _=>exact aR h
    | _=>exact aR h
  | .dix a b,e,h=>by
    cases e with
    | Subscript x y p =>
      have h':(!isSlice y&&kE S a x&&kE S b y)=true:=h
      simp only [Bool.and_eq_true,Bool.not_eq_true'] at h'
      exact aLD Q.hu (jE Q a x h'.1.2) (jE Q b y h'.2) (aBZ h'.1.1)
    | _=>exact aR h
  | .dgt c d f,e,h=>by
    cases e with
    | Call g as ks p =>
      cases g with
      | Attribute y n ap =>
        match as,ks,h with
        | [],_,h=>exact aR h
        | [_],_,h=>exact aR h
        | _ :: _ :: _ :: _,_,h=>exact aR h
        | [_,_],_ :: _,h=>exact aR h
        | [x,z],[],h =>
          have h':(n == ("get" : Str)&&fH y&&ap.endLine == p.line&&!isStar x&&!isStar z&&kE S c y&&kE S d x&&kE S f z)=true:=h
          simp only [Bool.and_eq_true,Bool.not_eq_true'] at h'
          obtain ⟨⟨⟨⟨⟨⟨⟨h0,h1⟩,h2⟩,h3⟩,h4⟩,h5⟩,h6⟩,h7⟩:=h'
          have:=beq_iff_eq.mp h0;subst this
          have k2:kEs S (.cons d (.cons f .nil)) [x,z]=true:=by
            show (!isStar x&&kE S d x&&(!isStar z&&kE S f z&&true))=true
            rw [h3,h4,h6,h7];rfl
          exact axN Q.hu (jE Q c y h5) (jE Q d x h6) (jE Q f z h7) ⟨zO h1,asV (X:=X) (cp:=p) k2 (show 2 < 30 by decide),h2,by rw [aV h3,aV h4];rfl⟩
      | _=>exact aR h
    | _=>exact aR h
  | .rev a k,e,h=>by
    cases e with
    | Subscript x y p =>
      cases y with
      | Slice l u st q =>
        match l,u,st,h with
        | none,none,some z,h =>
          have h':(kE S a x&&kE S k z)=true:=h
          simp only [Bool.and_eq_true] at h'
          exact aLG (jE Q a x h'.1) (ar7 (jE Q k z h'.2))
        | some _,_,_,h=>exact aR h
        | none,some _,_,h=>exact aR h
        | none,none,none,h=>exact aR h
      | _=>exact aR h
    | _=>exact aR h
  | .ay2 t a b,e,h=>by
    cases e with
    | Dict ks vs p =>
      match ks,vs,h with
      | [some x],[y],h =>
        have h':(kE S a x&&kE S b y)=true:=h
        rw [Bool.and_eq_true] at h'
        exact axU Q.hu (jE Q a x h'.1) (jE Q b y h'.2)
      | [],_,h=>exact aR h
      | [none],_,h=>exact aR h
      | some _ :: _ :: _,_,h=>exact aR h
      | none :: _ :: _,_,h=>exact aR h
      | [some _],[],h=>exact aR h
      | [some _],_ :: _ :: _,h=>exact aR h
    | _=>exact aR h
  | .maxD k c d,e,h=>by
    cases e with
    | Call f as ks p =>
      cases f with
      | Name x q =>
        match as,ks,h with
        | [],_,h=>exact aR h
        | _ :: _ :: _,_,h=>exact aR h
        | [_],[],h=>exact aR h
        | [_],⟨none,_,_⟩ :: _,h=>exact aR h
        | [_],⟨some _,_,_⟩ :: _ :: _,h=>exact aR h
        | [y],[⟨some n,z,kp⟩],h =>
          have h':(n == ("default" : Str)&&S.calm&&S.gv[k]? == some true&&amJ S k x&&!isStar y&&kE S c y&&kE S d z)=true:=h
          simp only [Bool.and_eq_true,Bool.not_eq_true'] at h'
          obtain ⟨⟨⟨⟨⟨⟨h0,h1⟩,h2⟩,h3⟩,h4⟩,h5⟩,h6⟩:=h'
          have:=beq_iff_eq.mp h0;subst this
          obtain ⟨g1,g2,g3,g4,g5⟩:=at4 Q h3 (beq_iff_eq.mp h2)
          exact aFB (Q.cm h1) g1 g2 g3 (jE Q c y h5) (jE Q d z h6) g4 g5 (aV h4)
      | _=>exact aR h
    | _=>exact aR h
theorem okA {X:Cx} {S:SI} {ex:aM→aW} (Q:lG X S ex):∀ (c:CEs) (es:List Expr),kEs S c es=true→PA3 X es (mA S.gl X.K ex c)
  | .nil,es,h=>by
    cases es with
    | nil=>exact a8T
    | cons _ _=>exact aR h
  | .cons c r,es,h=>by
    cases es with
    | nil=>exact aR h
    | cons x xs =>
      have h7:(!isStar x&&kE S c x&&kEs S r xs)=true:=h
      simp only [Bool.and_eq_true,Bool.not_eq_true'] at h7
      exact oW (jE Q c x h7.1.2) (okA Q r xs h7.2) (aV h7.1.1)
theorem aC0 {X:Cx} {S:SI} {ex:aM→aW} (Q:lG X S ex):∀ (c:CEs) (es:List Expr) (p:Pos),kEs S c es=true→cU X (.BoolOp .And es p) (aFR S.gl X.K ex c)
  | .nil,es,p,h=>asT
  | .cons c .nil,es,p,h=>by
    match es,h with
    | [],h=>exact aR h
    | [x],h =>
      have h7:(!isStar x&&kE S c x&&kEs S .nil [])=true:=h
      simp only [Bool.and_eq_true,Bool.not_eq_true'] at h7
      exact aBF (jE Q c x h7.1.2)
    | x :: y :: ys,h =>
      have h7:(!isStar x&&kE S c x&&kEs S .nil (y :: ys))=true:=h
      simp only [Bool.and_eq_true,Bool.not_eq_true'] at h7
      exact aR h7.2
  | .cons c (.cons c' r),es,p,h=>by
    match es,h with
    | [],h=>exact aR h
    | [x],h =>
      have h7:(!isStar x&&kE S c x&&kEs S (.cons c' r) [])=true:=h
      simp only [Bool.and_eq_true,Bool.not_eq_true'] at h7
      exact aR h7.2
    | x :: y :: ys,h =>
      have h7:(!isStar x&&kE S c x&&kEs S (.cons c' r) (y :: ys))=true:=h
      simp only [Bool.and_eq_true,Bool.not_eq_true'] at h7
      exact aK2 (jE Q c x h7.1.2) (aC0 Q (.cons c' r) (y :: ys) p h7.2)
theorem aQ1 {X:Cx} {S:SI} {ex:aM→aW} (Q:lG X S ex):∀ (c:CEs) (es:List Expr) (p:Pos),kEs S c es=true→cU X (.BoolOp .Or es p) (mOr S.gl X.K ex c)
  | .nil,es,p,h=>asT
  | .cons c .nil,es,p,h=>by
    match es,h with
    | [],h=>exact aR h
    | [x],h =>
      have h7:(!isStar x&&kE S c x&&kEs S .nil [])=true:=h
      simp only [Bool.and_eq_true,Bool.not_eq_true'] at h7
      exact aBF (jE Q c x h7.1.2)
    | x :: y :: ys,h =>
      have h7:(!isStar x&&kE S c x&&kEs S .nil (y :: ys))=true:=h
      simp only [Bool.and_eq_true,Bool.not_eq_true'] at h7
      exact aR h7.2
  | .cons c (.cons c' r),es,p,h=>by
    match es,h with
    | [],h=>exact aR h
    | [x],h =>
      have h7:(!isStar x&&kE S c x&&kEs S (.cons c' r) [])=true:=h
      simp only [Bool.and_eq_true,Bool.not_eq_true'] at h7
      exact aR h7.2
    | x :: y :: ys,h =>
      have h7:(!isStar x&&kE S c x&&kEs S (.cons c' r) (y :: ys))=true:=h
      simp only [Bool.and_eq_true,Bool.not_eq_true'] at h7
      exact aOU (jE Q c x h7.1.2) (aQ1 Q (.cons c' r) (y :: ys) p h7.2)
theorem okT {X:Cx} {S:SI} {ex:aM→aW} (Q:lG X S ex):∀ (c:CT) (e:Expr),kT S c e=true→PT3 X e (mT S.gl X.K ex c)
  | .cmp o a b,e,h=>by
    cases e with
    | Compare x ops ys p =>
      match ops,ys,h with
      | [o'],[y],h =>
        have h':(o == o'&&!behindInMarks o' y&&kE S a x&&kE S b y)=true:=h
        simp only [Bool.and_eq_true,Bool.not_eq_true'] at h'
        have:=beq_iff_eq.mp h'.1.1.1;subst this
        exact aJW (zP Q.hu) (jE Q a x h'.1.2) (jE Q b y h'.2) h'.1.1.2
      | [],_,h=>exact aR h
      | _ :: _ :: _,_,h=>exact aR h
      | [_],[],h=>exact aR h
      | [_],_ :: _ :: _,h=>exact aR h
    | _=>exact aR h
  | .chain o o' a b c,e,h=>by
    cases e with
    | Compare x ops ys p =>
      match ops,ys,h with
      | [p1,p2],[y,z],h =>
        have h':(o == p1&&o' == p2&&!lastMarks [p1,p2] [y,z]&&kE S a x&&kE S b y&&kE S c z)=true:=h
        simp only [Bool.and_eq_true,Bool.not_eq_true'] at h'
        have e1:=beq_iff_eq.mp h'.1.1.1.1.1
        have e2:=beq_iff_eq.mp h'.1.1.1.1.2
        subst e1;subst e2
        exact awW (zP Q.hu) (zP Q.hu) (jE Q a x h'.1.1.2) (jE Q b y h'.1.2) (jE Q c z h'.2) h'.1.1.1.2
      | [],_,h=>exact aR h
      | [_],_,h=>exact aR h
      | _ :: _ :: _ :: _,_,h=>exact aR h
      | [_,_],[],h=>exact aR h
      | [_,_],[_],h=>exact aR h
      | [_,_],_ :: _ :: _ :: _,h=>exact aR h
    | _=>exact aR h
  | .not t,e,h=>by
    cases e with
    | UnaryOp op x p =>
      cases op with
      | Not=>exact aK1 (okT Q t x h)
      | _=>exact aR h
    | _=>exact aR h
  | .and ts,e,h=>by
    cases e with
    | BoolOp op xs p =>
      cases op with
      | And=>exact PW.pt (at5 Q ts xs p h)
      | Or=>exact aR h
    | _=>exact aR h
  | .or ts,e,h=>by
    cases e with
    | BoolOp op xs p =>
      cases op with
      | Or=>exact PW.pt (aC2 Q ts xs p h)
      | And=>exact aR h
    | _=>exact aR h
  | .val c,e,h=>by
    have h':(plainT e&&kE S c e)=true:=h
    rw [Bool.and_eq_true] at h'
    exact aJX (jE Q c e h'.2) (aFW h'.1)
theorem at5 {X:Cx} {S:SI} {ex:aM→aW} (Q:lG X S ex):∀ (c:CTs) (es:List Expr) (p:Pos),kTs S c es=true→PW3 X (.BoolOp .And es p) (asQ S.gl X.K ex c)
  | .nil,es,p,h=>fun _ _ _ _ _ _ _ ⟨_,_,_,_,_,z,_⟩=>z.elim
  | .cons c .nil,es,p,h=>by
    match es,h with
    | [],h=>exact aR h
    | [x],h =>
      have h7:(kT S c x&&kTs S .nil [])=true:=h
      simp only [Bool.and_eq_true] at h7
      exact aDW (okT Q c x h7.1)
    | x :: y :: ys,h =>
      have h7:(kT S c x&&kTs S .nil (y :: ys))=true:=h
      simp only [Bool.and_eq_true] at h7
      exact aR h7.2
  | .cons c (.cons c' r),es,p,h=>by
    match es,h with
    | [],h=>exact aR h
    | [x],h =>
      have h7:(kT S c x&&kTs S (.cons c' r) [])=true:=h
      simp only [Bool.and_eq_true] at h7
      exact aR h7.2
    | x :: y :: ys,h =>
      have h7:(kT S c x&&kTs S (.cons c' r) (y :: ys))=true:=h
      simp only [Bool.and_eq_true] at h7
      exact aK0 (okT Q c x h7.1) (at5 Q (.cons c' r) (y :: ys) p h7.2)
theorem aC2 {X:Cx} {S:SI} {ex:aM→aW} (Q:lG X S ex):∀ (c:CTs) (es:List Expr) (p:Pos),kTs S c es=true→PW3 X (.BoolOp .Or es p) (aFS S.gl X.K ex c)
  | .nil,es,p,h=>fun _ _ _ _ _ _ _ ⟨_,_,_,_,_,z,_⟩=>z.elim
  | .cons c .nil,es,p,h=>by
    match es,h with
    | [],h=>exact aR h
    | [x],h =>
      have h7:(kT S c x&&kTs S .nil [])=true:=h
      simp only [Bool.and_eq_true] at h7
      exact aJZ (okT Q c x h7.1)
    | x :: y :: ys,h =>
      have h7:(kT S c x&&kTs S .nil (y :: ys))=true:=h
      simp only [Bool.and_eq_true] at h7
      exact aR h7.2
  | .cons c (.cons c' r),es,p,h=>by
    match es,h with
    | [],h=>exact aR h
    | [x],h =>
      have h7:(kT S c x&&kTs S (.cons c' r) [])=true:=h
      simp only [Bool.and_eq_true] at h7
      exact aR h7.2
    | x :: y :: ys,h =>
      have h7:(kT S c x&&kTs S (.cons c' r) (y :: ys))=true:=h
      simp only [Bool.and_eq_true] at h7
      exact aOT (okT Q c x h7.1) (aC2 Q (.cons c' r) (y :: ys) p h7.2)
theorem okO {X:Cx} {S:SI} {ex:aM→aW} (Q:lG X S ex):∀ (c:CO) (e:Option Expr),kO S c e=true→PO3 X e (mO S.gl X.K ex c)
  | .none,e,h=>by
    cases e with
    | none=>exact aE2
    | some _=>exact aR h
  | .some c,e,h=>by
    cases e with
    | none=>exact aR h
    | some x=>exact ar7 (jE Q c x h)
theorem okI {X:Cx} {S:SI} {ex:aM→aW} (Q:lG X S ex) {tg:Expr} {tt:Bool} (htt:tt=true→X.calm=true∧∃ es kt pt,tg = .Tuple es kt pt):∀ (c:CI) (e:Expr),kI S tt c e=true→PI3 X tg e (mI S.gl X.K ex c)
  | .any c,e,h=>aKR (jE Q c e h)
  | .abS c,e,h=>by
    cases e with
    | Call f as ks p =>
      cases f with
      | Name r q =>
        cases as with
        | nil=>exact aR h
        | cons y yr =>
          cases yr with
          | cons _ _=>exact aR h
          | nil =>
            cases ks with
            | cons _ _=>exact aR h
            | nil =>
              have h':(r == ("range" : Str)&&a2S S&&!isStar y&&kE S c y)=true:=h
              simp only [Bool.and_eq_true,Bool.not_eq_true'] at h'
              obtain ⟨⟨⟨h1,h2⟩,h3⟩,h4⟩:=h'
              have:=beq_iff_eq.mp h1;subst this
              obtain ⟨g1,g2⟩:=ahG Q h2
              exact aEU g1 g2 (oW (jE Q c y h4) a8T (aV h3)) (aV h3)
      | _=>exact aR h
    | _=>exact aR h
  | .zip a b,e,h=>by
    cases e with
    | Call f as ks p =>
      cases f with
      | Name r q =>
        match as,ks,h with
        | [],_,h=>exact aR h
        | [_],_,h=>exact aR h
        | _ :: _ :: _ :: _,_,h=>exact aR h
        | [_,_],_ :: _,h=>exact aR h
        | [y,z],[],h =>
          have h':(tt&&r == ("zip" : Str)&&ahF S&&!isStar y&&!isStar z&&kE S a y&&kE S b z)=true:=h
          simp only [Bool.and_eq_true,Bool.not_eq_true'] at h'
          obtain ⟨⟨⟨⟨⟨⟨h0,h1⟩,h2⟩,h3⟩,h4⟩,h5⟩,h6⟩:=h'
          have:=beq_iff_eq.mp h1;subst this
          obtain ⟨g1,g2,g3⟩:=asZ Q h2
          obtain ⟨hc,es,kt,pt,rfl⟩:=htt h0
          exact aLB hc g1 g2 g3 (oW (jE Q a y h5) (oW (jE Q b z h6) a8T (aV h4)) (aV h3)) (by rw [aV h3,aV h4];rfl) (aV h4)
      | _=>exact aR h
    | _=>exact aR h
  | .items c,e,h=>by
    have h':(tt&&(match a2T e with
      | some (y,n,l)=>l&&n == ("items" : Str)&&fH y&&kE S c y
      | none=>false))=true:=h
    rw [Bool.and_eq_true] at h'
    obtain ⟨h0,h4⟩:=h'
    cases q2:a2T e with
    | none=>rw [q2] at h4;exact aR h4
    | some z =>
      obtain ⟨y,n,l⟩:=z
      rw [q2] at h4
      simp only [Bool.and_eq_true] at h4
      obtain ⟨⟨⟨h5,h6⟩,h7⟩,h8⟩:=h4
      have e6:=beq_iff_eq.mp h6;subst e6
      obtain ⟨ap,cp,rfl,rfl⟩:=a9G q2
      obtain ⟨hc,es,kt,pt,rfl⟩:=htt h0
      exact axX hc (jE Q c y h8) (zO h7) h5
  | .enu c,e,h=>fun _ _ _ _ _ _ ⟨_,_,_,_,_,z,_⟩=>z.elim
theorem okC {X:Cx} {S:SI} (Q:lG X S NoX):∀ (c:CC) (es:List Expr),kC S c es=true→aoM X es (mC S.gl X.K c)
  | .none,es,h=>by
    cases es with
    | nil=>exact axF
    | cons _ _=>exact aR h
  | .some t,es,h=>by
    match es,h with
    | [],h=>exact aR h
    | [x],h=>exact axG (okT Q t x h)
    | _ :: _ :: _,h=>exact aR h
end
end L4
namespace L4
open PySem PySem.Spec PyProof.Rows L2
inductive CTg where
  | nm (i:Nat) | tup (is:List Nat)
mutual
inductive CS where
  | ret (e:CE) | expr (e:CE) | ifs (t:CT) (a b:CB) | set (i:Nat) (e:CE)
  | raise (k:Nat) (e:CE) (es:CEs) | pass
  | setC (i:Nat) (fl gv:List Bool) (ci:CI) (cc:CC) (e:CE) | a7K (ci:CI) (tg:CTg) (b:CB) | ay8 (ci:CI) (tg:CTg) (b:CB)
  | amM (i n:Nat) (fl gv:List Bool) (ci:CI) (cc:CC) (e:CE) | ay9 (o i e:CE) | hid (i:Nat) (nm:Str) (s:CS)
inductive CB where
  | nil | cons (s:CS) (r:CB)
end
def aLT:bA:=fun _ _ _=>False
abbrev SI.han (S:SI):SI:={ S with calm:=false }
abbrev SI.hid (S:SI) (i:Nat) (nm:Str):SI:={ S with N:=S.N.set i nm,fl:=S.fl.set i false,lc:=S.lc.set i false,ce:=S.ce.set i false }
def mIS (T:List (Str×GT)) (K:Fg) (ex:aM→aW):CI→TI3
  | .any e=>ah2 (mE T K ex e)
  | .abS e=>uU (aA (mE T K ex e) aG)
  | .zip a b=>a91 (aA (mE T K ex a) (aA (mE T K ex b) aG))
  | .items e=>o8 true (mE T K ex e)
  | .enu e=>aeL (aA (mE T K ex e) aG)
def mIF (T:List (Str×GT)) (K:Fg) (ex:aM→aW):CI→TI3
  | .items e=>o8 false (mE T K ex e)
  | _=>fun _ _ _=>False
def mG:CTg→TG3
  | .nm i=>p8 i
  | .tup is=>a2R is
def aLU:Bool→Int→Int→Int
  | true=>fun a b=>a - b
  | false=>fun a b=>a+b
def ayA (T:List (Str×GT)) (ex:aM→aW) (k:Nat) (t:nT):bA:=match T[k]? with
  | some (_,.cls a)=>uQ ex a t
  | _=>aLT
def amN (S:SI) (k:Nat) (x:Str):Bool:=match S.gl[k]? with
  | some (z,.cls _)=>z == x
  | _=>false
mutual
def mS (T:List (Str×GT)) (K:Fg) (ex:aM→aW):CS→bA
  | .ret e=>cJ (mE T K ex e)
  | .expr e=>lM (mE T K ex e)
  | .ifs t a b=>eG (mT T K ex t) (mB T K ex a) (mB T K ex b)
  | .set i e=>bC i (mE T K ex e)
  | .raise k e es=>ayA T ex k (aA (mE T K ex e) (mA T K ex es))
  | .setC i _ _ ci cc e=>bC i (arN (mI T K ex ci) (mC T K cc) (mE T K NoX e))
  | .a7K ci tg b=>nF (mIS T K ex ci) (mG tg) (mB T K ex b)
  | .ay8 ci tg b=>a88 (mIF T K ex ci) (mG tg) (mB T K ex b)
  | .amM i n _ _ ci cc e=>bC i (zN n (mI T K ex ci) (mC T K cc) (mE T K NoX e))
  | .ay9 o i e=>aeF (mE T K ex o) (mE T K ex i) (mE T K ex e)
  | .hid i _ s=>a96 i (mS T K (fun ρ=>ex (nD ρ i)) s)
  | .pass=>cI
def mB (T:List (Str×GT)) (K:Fg) (ex:aM→aW):CB→bA
  | .nil=>cI
  | .cons s .nil=>mS T K ex s
  | .cons s (.cons s' r)=>aP (mS T K ex s) (mB T K ex (.cons s' r))
end
def isTup:Expr→Bool
  | .Tuple ..=>true
  | _=>false
def a1D:Expr→Bool
  | .ListComp ..=>true
  | .SetComp ..=>true
  | .DictComp ..=>true
  | _=>false
def kTg (S:SI):CTg→Expr→Bool
  | .nm i,.Name x _=>S.N[i]? == some x&&S.fl[i]? == some true
  | .tup is,.Tuple es _ _=>kNs S is es
  | _,_=>false
where
  kNs (S:SI):List Nat→List Expr→Bool
  | [],[]=>true
  | i :: is,.Name x _ :: es=>S.N[i]? == some x&&S.fl[i]? == some true&&kNs S is es
  | _,_=>false
def at6 (S:SI):CTg→Bool
  | .nm _=>true
  | .tup _=>S.calm
mutual
def kS (S:SI) (lv:Nat):CS→Stmt→Bool
  | .ret e,.Return (some x) _=>kE S e x
  | .expr e,.Expr x _=>!a1D x&&kE S e x
  | .ifs t a b,.If x y z _=>kT S t x&&kB S lv a y&&kB S lv b z
  | .set i e,.Assign [.Name x _] y _=>S.N[i]? == some x&&S.fl[i]? == some true&&!a1D y&&kE S e y
  | .raise k e es,.Raise (some (.Call (.Name x _) (y :: ys) [] _)) none _=>lv == 0&&S.calm&&!isStar y&&kE S e y&&kEs S es ys&&S.gv[k]? == some true&&amN S k x
  | .setC i fl gv ci cc e,.Assign [.Name y _] (.ListComp elt [⟨.Name x _,iter,ifs,a⟩] scope _) _=>S.N[i]? == some y&&S.fl[i]? == some true&&a == 0&&a07 S [x] scope fl gv&&!isSet iter&&kI S false ci iter&&kC (S.cmp [x] fl gv) cc ifs&&kE (S.cmp [x] fl gv) e elt
  | .amM i n fl gv ci cc e,.Assign [.Name y _] (.ListComp elt [⟨.Tuple es _ _,iter,ifs,a⟩] scope _) _=>S.calm&&S.N[i]? == some y&&S.fl[i]? == some true&&a == 0&&(match xV es with
    | some xs=>xs.length == n&&a07 S xs scope fl gv&&!isSet iter&&kI S true ci iter&&kC (S.cmp xs fl gv) cc ifs&&kE (S.cmp xs fl gv) e elt
    | none=>false)
  | .ay9 o i e,.Assign [.Subscript x y _] z _=>!isSlice y&&!a1D z&&kE S o x&&kE S i y&&kE S e z
  | .hid i nm s,st=>!S.N.contains nm&&kS (S.hid i nm) lv s st
  | .a7K ci tg b,.For tgt iter body [] _=>lv != 1&&at6 S tg&&!isSet iter&&kTg S tg tgt&&kI S (isTup tgt&&S.calm) ci iter&&kB S lv b body
  | .ay8 ci tg b,.For tgt iter body [] _=>lv != 1&&at6 S tg&&!isSet iter&&kTg S tg tgt&&kI S (isTup tgt&&S.calm) ci iter&&kB S lv b body
  | .pass,.Pass _=>true
  | _,_=>false
def kB (S:SI) (lv:Nat):CB→List Stmt→Bool
  | .nil,[]=>true
  | .cons s r,x :: xs=>kS S lv s x&&kB S lv r xs
  | _,_=>false
end
structure a5B (X:Cx) (S:SI) (ex:aM→aW) (lv:Nat):Prop where
  si:lG X S ex
  loc:∀ (i:Nat) (x:Str),S.N[i]?=some x→S.fl[i]?=some true→Loc X.env.scope x
  lcl:∀ (i:Nat) (x:Str),S.N[i]?=some x→S.lc[i]?=some true→X.env.kindOf x=some .local
  fn:∀ x,X.fn x=true
  cls:∀ (k:Nat) (x:Str) (a:Addr),S.gl[k]?=some (x,.cls a)→S.gv[k]?=some true→PySem.W.excIn X.K a BMv "ValueError.__new__" = true∧(PySem.W.clsIn X.K a).isSome=true∧PySem.W.typeIn X.K (.ref a)=some (.type "type")∧PySem.W.subIn X.K (.ref a) (.type "BaseException")=some true
  l0:lv≠1→PassesOwn (model X.prog X.w) X.A X.env X.xe
  rz:lv=0→S.calm=true→Thr X ex
  stk:X.stack=X.env :: X.outer
  frm:X.env.frame=some X.env.locals
theorem at7 {e:Expr} {t:Option Expr} {n:Nat} {env:Env} (h:a1D e=false):swapsWith e t n env=pure false:=by
  cases e <;> first | rfl | exact absurd (show true=false from h) (by decide)
theorem a5B.tr {X:Cx} {S:SI} {ex:aM→aW} {lv:Nat} (Q:a5B X S ex lv) (pn:List (Addr×Obj)) (EX:aM→aW):a5B (aKJ X pn EX) S EX 1 where
  si:=⟨Q.si.N,Q.si.nd,Q.si.vis,Q.si.ce,fun k x g h=>by
    obtain ⟨h1,h2,h3,h4⟩:=Q.si.gm k x g h
    refine ⟨h1,h2,h3,?_⟩
    cases g <;> exact h4,Q.si.hu,Q.si.cm,aP6 pn EX⟩
  loc:=Q.loc
  lcl:=Q.lcl
  fn:=Q.fn
  cls:=Q.cls
  l0:=fun z=>absurd rfl z
  rz:=fun z=>absurd z (by decide)
  stk:=Q.stk
  frm:=Q.frm
theorem a5B.ha {X:Cx} {S:SI} {ex:aM→aW} {lv:Nat} (Q:a5B X S ex lv) (x:Addr):a5B (aP5 X x) S.han NoX 2 where
  si:=⟨Q.si.N,Q.si.nd,Q.si.vis,Q.si.ce,fun k y g h=>by
    obtain ⟨h1,h2,h3,h4⟩:=Q.si.gm k y g h
    refine ⟨h1,h2,h3,?_⟩
    cases g with
    | fn sp n qt =>
      intro z
      have hq:qt=true:=z.resolve_right (show ¬ (false=true) by decide)
      subst hq
      obtain ⟨k,f,fd,ps,F,hr,r⟩:=h4 (.inl rfl)
      exact ⟨k,f,fd,ps,F,⟨(fun z=>nomatch z),hr.dp,hr.un⟩,r⟩
    | kl C sp dd=>exact fun z=>nomatch z
    | me C m sp dd=>exact fun z=>nomatch z
    | _=>exact h4,Q.si.hu,fun z=>absurd (show false=true from z) (by decide),asY⟩
  loc:=Q.loc
  lcl:=Q.lcl
  fn:=Q.fn
  cls:=Q.cls
  l0:=fun _=>PassesOwn.never
  rz:=fun z=>absurd z (by decide)
  stk:=Q.stk
  frm:=Q.frm
theorem at8 {S:SI} {k:Nat} {x:Str} (h:amN S k x=true):∃ a,S.gl[k]?=some (x,.cls a):=by
  unfold amN at h
  split at h
  · rename_i z a hg
    have:=beq_iff_eq.mp h;subst this
    exact ⟨a,hg⟩
  · exact aR h
theorem ayB {T:List (Str×GT)} {ex:aM→aW} {k:Nat} {x:Str} {a:Addr} {t:nT} (h:T[k]?=some (x,.cls a)):ayA T ex k t=uQ ex a t:=by unfold ayA;rw [h]
theorem at9 {X:Cx} {S:SI} {ex:aM→aW} {lv:Nat} (Q:a5B X S ex lv) {k:Nat} {e:CE} {es:CEs} {x:Str} {y:Expr} {ys:List Expr} {np cp pos:Pos} (h:kS S lv (.raise k e es) (.Raise (some (.Call (.Name x np) (y :: ys) [] cp)) none pos)=true) :
    PS3 X (.Raise (some (.Call (.Name x np) (y :: ys) [] cp)) none pos) (ayA S.gl ex k (aA (mE S.gl X.K ex e) (mA S.gl X.K ex es))):=by
  have h':(lv == 0&&S.calm&&!isStar y&&kE S e y&&kEs S es ys&&S.gv[k]? == some true&&amN S k x)=true:=h
  simp only [Bool.and_eq_true,Bool.not_eq_true'] at h'
  obtain ⟨⟨⟨⟨⟨⟨h0,hcm⟩,h1⟩,h2⟩,h3⟩,hv⟩,h⟩:=h'
  have hv:=beq_iff_eq.mp hv
  obtain ⟨a,hg⟩:=at8 h
  rw [ayB hg]
  have l1:=Q.si.cm hcm
  have l2:=Q.rz (beq_iff_eq.mp h0) hcm
  obtain ⟨g1,g2,g3,g4,g5⟩:=Q.si.gl _ _ _ hg hv
  exact ax6 l1 PySem.F.excBase_ValueError (by decide) PySem.F.excBase_ValueError g1 g4 (Q.cls _ _ _ hg hv).1 l2 (oW (jE Q.si e y h2) (okA Q.si es ys h3) (aV h1)) g2 (aV h1) (xW h3)
theorem atA {X:Cx} {S:SI} {ex:aM→aW} {lv:Nat} (Q:a5B X S ex lv):∀ {is:List Nat} {es:List Expr},kTg.kNs S is es=true→Two (axI X) es is
  | [],[],_ => .nil
  | [],_ :: _,h=>by exact aR h
  | _ :: _,[],h=>by exact aR h
  | i :: is,e :: es,h=>by
    cases e with
    | Name x p =>
      have h':(S.N[i]? == some x&&S.fl[i]? == some true&&kTg.kNs S is es)=true:=h
      simp only [Bool.and_eq_true] at h'
      have e1:=beq_iff_eq.mp h'.1.1
      exact .cons ⟨x,p,rfl,by rw [Q.si.N];exact e1,Q.loc i x e1 (beq_iff_eq.mp h'.1.2),.inl (Q.fn x)⟩ (atA Q h'.2)
    | _=>exact aR h
theorem aC3 {X:Cx} {S:SI} {ex:aM→aW} {lv:Nat} (Q:a5B X S ex lv):∀ {c:CTg} {e:Expr},at6 S c=true→kTg S c e=true→PG3 X e (mG c)
  | .nm i,e,_,h=>by
    cases e with
    | Name x p =>
      have h':(S.N[i]? == some x&&S.fl[i]? == some true)=true:=h
      simp only [Bool.and_eq_true] at h'
      have e1:=beq_iff_eq.mp h'.1
      exact aEY Q.si.nd (by rw [Q.si.N];exact e1) (Q.loc i x e1 (beq_iff_eq.mp h'.2)) (.inl (Q.fn x))
    | _=>exact aR h
  | .tup is,e,hc,h=>by
    cases e with
    | Tuple es k p=>exact aKX Q.si.nd (Q.si.cm hc) (atA Q h)
    | _=>exact aR h
theorem aQ2 {X:Cx} {S:SI} {ex:aM→aW} (Q:lG X S ex) {tg:Expr} {tt:Bool} (htt:tt=true→X.calm=true∧∃ es kt pt,tg = .Tuple es kt pt):∀ (c:CI) (e:Expr),kI S tt c e=true→PIS X tg e (mIS S.gl X.K ex c)
  | .any c,e,h=>aF1 (jE Q c e h)
  | .abS c,e,h=>by
    cases e with
    | Call f as ks p =>
      cases f with
      | Name r q =>
        cases as with
        | nil=>exact aR h
        | cons y yr =>
          cases yr with
          | cons _ _=>exact aR h
          | nil =>
            cases ks with
            | cons _ _=>exact aR h
            | nil =>
              have h':(r == ("range" : Str)&&a2S S&&!isStar y&&kE S c y)=true:=h
              simp only [Bool.and_eq_true,Bool.not_eq_true'] at h'
              obtain ⟨⟨⟨h1,h2⟩,h3⟩,h4⟩:=h'
              have:=beq_iff_eq.mp h1;subst this
              obtain ⟨g1,g2⟩:=ahG Q h2
              exact axJ g1 g2 (oW (jE Q c y h4) a8T (aV h3)) (aV h3)
      | _=>exact aR h
    | _=>exact aR h
  | .zip a b,e,h=>by
    cases e with
    | Call f as ks p =>
      cases f with
      | Name r q =>
        match as,ks,h with
        | [],_,h=>exact aR h
        | [_],_,h=>exact aR h
        | _ :: _ :: _ :: _,_,h=>exact aR h
        | [_,_],_ :: _,h=>exact aR h
        | [y,z],[],h =>
          have h':(tt&&r == ("zip" : Str)&&ahF S&&!isStar y&&!isStar z&&kE S a y&&kE S b z)=true:=h
          simp only [Bool.and_eq_true,Bool.not_eq_true'] at h'
          obtain ⟨⟨⟨⟨⟨⟨h0,h1⟩,h2⟩,h3⟩,h4⟩,h5⟩,h6⟩:=h'
          have:=beq_iff_eq.mp h1;subst this
          obtain ⟨g1,g2,g3⟩:=asZ Q h2
          obtain ⟨hc,es,kt,pt,rfl⟩:=htt h0
          exact aFA hc g1 g2 g3 (oW (jE Q a y h5) (oW (jE Q b z h6) a8T (aV h4)) (aV h3)) (by rw [aV h3,aV h4];rfl) (aV h4)
      | _=>exact aR h
    | _=>exact aR h
  | .items c,e,h=>by
    have h':(tt&&(match a2T e with
      | some (y,n,l)=>l&&n == ("items" : Str)&&fH y&&kE S c y
      | none=>false))=true:=h
    rw [Bool.and_eq_true] at h'
    obtain ⟨h0,h4⟩:=h'
    cases q2:a2T e with
    | none=>rw [q2] at h4;exact aR h4
    | some z =>
      obtain ⟨y,n,l⟩:=z
      rw [q2] at h4
      simp only [Bool.and_eq_true] at h4
      obtain ⟨⟨⟨h5,h6⟩,h7⟩,h8⟩:=h4
      have e6:=beq_iff_eq.mp h6;subst e6
      obtain ⟨ap,cp,rfl,rfl⟩:=a9G q2
      obtain ⟨hc,es,kt,pt,rfl⟩:=htt h0
      exact asH hc (jE Q c y h8) (zO h7) h5
  | .enu c,e,h=>by
    have h':(tt&&(match a2U e with
      | some (r,y)=>r == ("enumerate" : Str)&&aeN S&&!isStar y&&kE S c y
      | none=>false))=true:=h
    rw [Bool.and_eq_true] at h'
    obtain ⟨h0,h4⟩:=h'
    cases q2:a2U e with
    | none=>rw [q2] at h4;exact aR h4
    | some z =>
      obtain ⟨r,y⟩:=z
      rw [q2] at h4
      simp only [Bool.and_eq_true,Bool.not_eq_true'] at h4
      obtain ⟨⟨⟨h5,h6⟩,h7⟩,h8⟩:=h4
      have e5:=beq_iff_eq.mp h5;subst e5
      obtain ⟨p,pos,rfl⟩:=ak4 q2
      obtain ⟨g1,g2,g3⟩:=ay7 Q h6
      obtain ⟨hc,es,kt,pt,rfl⟩:=htt h0
      exact ay0 hc g1 g2 g3 (oW (jE Q c y h8) a8T (aV h7)) (aV h7)
theorem aeP {X:Cx} {tg e:Expr}:PIF X tg e (fun _ _ _=>False):=fun _ _ _ _ _ _ ⟨_,_,_,_,_,z,_⟩=>z.elim
theorem aQ3 {X:Cx} {S:SI} {ex:aM→aW} (Q:lG X S ex) {tg:Expr} {tt:Bool} (htt:tt=true→X.calm=true∧∃ es kt pt,tg = .Tuple es kt pt):∀ (c:CI) (e:Expr),kI S tt c e=true→PIF X tg e (mIF S.gl X.K ex c)
  | .any c,e,h=>aeP
  | .abS c,e,h=>aeP
  | .zip a b,e,h=>aeP
  | .enu a,e,h=>aeP
  | .items c,e,h=>by
    have h':(tt&&(match a2T e with
      | some (y,n,l)=>l&&n == ("items" : Str)&&fH y&&kE S c y
      | none=>false))=true:=h
    rw [Bool.and_eq_true] at h'
    obtain ⟨h0,h4⟩:=h'
    cases q2:a2T e with
    | none=>rw [q2] at h4;exact aR h4
    | some z =>
      obtain ⟨y,n,l⟩:=z
      rw [q2] at h4
      simp only [Bool.and_eq_true] at h4
      obtain ⟨⟨⟨h5,h6⟩,h7⟩,h8⟩:=h4
      have e6:=beq_iff_eq.mp h6;subst e6
      obtain ⟨ap,cp,rfl,rfl⟩:=a9G q2
      obtain ⟨hc,es,kt,pt,rfl⟩:=htt h0
      exact asK hc (jE Q c y h8) (zO h7) h5
theorem aeQ {i j:Nat} {l:List Bool} (h:(l.set i false)[j]?=some true):i≠j∧l[j]?=some true:=by
  by_cases c:i=j
  · subst c
    by_cases k:i < l.length
    · rw [List.getElem?_set_self k] at h;cases h
    · rw [List.getElem?_eq_none (by rw [List.length_set];omega)] at h;cases h
  · rw [List.getElem?_set_ne c] at h
    exact ⟨c,h⟩
theorem aFZ {X:Cx} {S:SI} {ex:aM→aW} {i:Nat} {nm:Str} (Q:lG X S ex) (n:nm ∉ S.N):lG (aeG X i nm) (S.hid i nm) (fun ρ=>ex (nD ρ i)) where
  N:=by show X.N.set i _=S.N.set i _;rw [Q.N]
  nd:=a97 Q.nd (by rw [Q.N];exact n)
  vis:=fun j x e1 e2=>by
    obtain ⟨c,e2⟩:=aeQ e2
    have e1:(S.N.set i nm)[j]?=some x:=e1
    rw [List.getElem?_set_ne c] at e1
    exact Q.vis j x e1 e2
  ce:=fun j x e1 e2=>by
    obtain ⟨c,e2⟩:=aeQ e2
    have e1:(S.N.set i nm)[j]?=some x:=e1
    rw [List.getElem?_set_ne c] at e1
    exact Q.ce j x e1 e2
  gm:=fun k x g e=>by
    obtain ⟨a,b,c,d⟩:=Q.gm k x g e
    refine ⟨a,b,c,?_⟩
    cases g <;> exact d
  hu:=Q.hu
  cm:=Q.cm
  cat:=asC Q.cat
theorem aG0 {X:Cx} {S:SI} {ex:aM→aW} {lv i:Nat} {nm:Str} (Q:a5B X S ex lv) (n:nm ∉ S.N):a5B (aeG X i nm) (S.hid i nm) (fun ρ=>ex (nD ρ i)) lv where
  si:=aFZ Q.si n
  loc:=fun j x e1 e2=>by
    obtain ⟨c,e2⟩:=aeQ e2
    have e1:(S.N.set i nm)[j]?=some x:=e1
    rw [List.getElem?_set_ne c] at e1
    exact Q.loc j x e1 e2
  lcl:=fun j x e1 e2=>by
    obtain ⟨c,e2⟩:=aeQ e2
    have e1:(S.N.set i nm)[j]?=some x:=e1
    rw [List.getElem?_set_ne c] at e1
    exact Q.lcl j x e1 e2
  fn:=Q.fn
  cls:=Q.cls
  l0:=Q.l0
  rz:=fun a b=>asD (Q.rz a b)
  stk:=Q.stk
  frm:=Q.frm
theorem ahI {e:Expr} (h:isTup e=true):∃ es kt pt,e = .Tuple es kt pt:=by
  cases e <;> first | exact ⟨_,_,_,rfl⟩ | exact aR h
mutual
theorem okS:∀ (c:CS) {X:Cx} {S:SI} {ex:aM→aW} {lv:Nat},a5B X S ex lv→∀ (st:Stmt),kS S lv c st=true→PS3 X st (mS S.gl X.K ex c)
  | .hid i nm c,X,S,ex,lv,Q,st,h=>by
    have h':(!S.N.contains nm&&kS (S.hid i nm) lv c st)=true:=by
      cases st <;> exact h
    rw [Bool.and_eq_true,Bool.not_eq_true'] at h'
    exact aFI (okS c (aG0 Q (by
      intro z
      rw [List.contains_iff_mem.mpr z] at h'
      cases h'.1)) st h'.2)
  | .ret e,X,S,ex,lv,Q,st,h=>by
    cases st with
    | Return v p =>
      cases v with
      | some x=>exact aKF (jE Q.si e x h)
      | none=>exact aR h
    | _=>exact aR h
  | .expr e,X,S,ex,lv,Q,st,h=>by
    cases st with
    | Expr x p =>
      have h':(!a1D x&&kE S e x)=true:=h
      simp only [Bool.and_eq_true,Bool.not_eq_true'] at h'
      exact aE7 (jE Q.si e x h'.2) (at7 h'.1)
    | _=>exact aR h
  | .ifs t a b,X,S,ex,lv,Q,st,h=>by
    cases st with
    | If x y z p =>
      have h':(kT S t x&&kB S lv a y&&kB S lv b z)=true:=h
      simp only [Bool.and_eq_true] at h'
      exact aP1 (okT Q.si t x h'.1.1) (okB a Q y h'.1.2) (okB b Q z h'.2)
    | _=>exact aR h
  | .set i e,X,S,ex,lv,Q,st,h=>by
    cases st with
    | Assign ts y p =>
      cases ts with
      | nil=>exact aR h
      | cons t r =>
        cases r with
        | cons _ _=>cases t <;> exact aR h
        | nil =>
          cases t with
          | Name x q =>
            have h':(S.N[i]? == some x&&S.fl[i]? == some true&&!a1D y&&kE S e y)=true:=h
            simp only [Bool.and_eq_true,Bool.not_eq_true'] at h'
            have e1:=beq_iff_eq.mp h'.1.1.1
            exact aBG (i:=i) Q.si.nd (by rw [Q.si.N];exact e1) (Q.loc i x e1 (beq_iff_eq.mp h'.1.1.2)) (jE Q.si e y h'.2) (at7 h'.1.2) (.inl (Q.fn x))
          | _=>exact aR h
    | _=>exact aR h
  | .ay9 o i e,X,S,ex,lv,Q,st,h=>by
    cases st with
    | Assign ts z p =>
      cases ts with
      | nil=>exact aR h
      | cons t r =>
        cases r with
        | cons _ _=>cases t <;> exact aR h
        | nil =>
          cases t with
          | Subscript x y q =>
            have h':(!isSlice y&&!a1D z&&kE S o x&&kE S i y&&kE S e z)=true:=h
            simp only [Bool.and_eq_true,Bool.not_eq_true'] at h'
            exact aFD Q.si.hu (jE Q.si o x h'.1.1.2) (jE Q.si i y h'.1.2) (jE Q.si e z h'.2) (at7 h'.1.1.1.2)
          | _=>exact aR h
    | _=>exact aR h
  | .raise k e es,X,S,ex,lv,Q,st,h=>by
    cases st with
    | Raise a b p =>
      cases a with
      | none=>exact aR h
      | some a =>
        cases a with
        | Call f as ks q =>
          cases f with
          | Name x np =>
            cases as with
            | nil=>exact aR h
            | cons y ys =>
              cases ks with
              | cons _ _=>exact aR h
              | nil =>
                cases b with
                | some _=>exact aR h
                | none=>exact at9 Q h
          | _=>exact aR h
        | _=>exact aR h
    | _=>exact aR h
  | .setC i fl gv ci cc c,X,S,ex,lv,Q,st,h=>by
    cases st with
    | Assign ts z p =>
      cases ts with
      | nil=>exact aR h
      | cons t r =>
        cases r with
        | cons _ _=>cases t <;> exact aR h
        | nil =>
          cases t with
          | Name y q =>
            cases z with
            | ListComp elt gens scope pp =>
              cases gens with
              | nil=>exact aR h
              | cons g gr =>
                cases gr with
                | cons _ _=>obtain ⟨tg,it,ifs,a⟩:=g;cases tg <;> exact aR h
                | nil =>
                  obtain ⟨tg,it,ifs,a⟩:=g
                  cases tg with
                  | Name x px =>
                    have h':(S.N[i]? == some y&&S.fl[i]? == some true&&a == 0&&a07 S [x] scope fl gv&&!isSet it&&kI S false ci it&&kC (S.cmp [x] fl gv) cc ifs&&kE (S.cmp [x] fl gv) c elt)=true:=h
                    simp only [Bool.and_eq_true,Bool.not_eq_true'] at h'
                    obtain ⟨⟨⟨⟨⟨⟨⟨hy,hy2⟩,h2⟩,h3⟩,h4⟩,h5⟩,h6⟩,h7⟩:=h'
                    have:=beq_iff_eq.mp h2;subst this
                    have e1:=beq_iff_eq.mp hy
                    exact am4 (i:=i) (lO Q.si h3) (fun C s H fp pins σ=>aEX (lO Q.si h3) Q.si.nd) arP Q.si.nd (by rw [Q.si.N];exact e1) (Q.loc i y e1 (beq_iff_eq.mp hy2)) (Q.fn y) (okI (tt:=false) Q.si (fun z=>nomatch z) ci it h5) (fun C s H fp pins=>okC (Q.si.cmp h3 C s H fp pins) cc ifs h6) (fun C s H fp pins=>jE (Q.si.cmp h3 C s H fp pins) c elt h7) (ahH h4)
                  | _=>exact aR h
            | _=>exact aR h
          | _=>exact aR h
    | _=>exact aR h
  | .amM i n fl gv ci cc c,X,S,ex,lv,Q,st,h=>by
    cases st with
    | Assign ts z p =>
      cases ts with
      | nil=>exact aR h
      | cons t r =>
        cases r with
        | cons _ _=>cases t <;> exact aR h
        | nil =>
          cases t with
          | Name y q =>
            cases z with
            | ListComp elt gens scope pp =>
              cases gens with
              | nil=>exact aR h
              | cons g gr =>
                cases gr with
                | cons _ _=>obtain ⟨tg,it,ifs,a⟩:=g;cases tg <;> exact aR h
                | nil =>
                  obtain ⟨tg,it,ifs,a⟩:=g
                  cases tg with
                  | Tuple es k tp =>
                    have h':(S.calm&&S.N[i]? == some y&&S.fl[i]? == some true&&a == 0&&(match xV es with
                      | some xs=>xs.length == n&&a07 S xs scope fl gv&&!isSet it&&kI S true ci it&&kC (S.cmp xs fl gv) cc ifs&&kE (S.cmp xs fl gv) c elt
                      | none=>false))=true:=h
                    rw [Bool.and_eq_true,Bool.and_eq_true,Bool.and_eq_true,Bool.and_eq_true] at h'
                    obtain ⟨⟨⟨⟨h1,hy⟩,hy2⟩,h2⟩,h'⟩:=h'
                    have:=beq_iff_eq.mp h2;subst this
                    have e1:=beq_iff_eq.mp hy
                    cases qn:xV es with
                    | none=>rw [qn] at h';exact aR h'
                    | some xs =>
                      rw [qn] at h'
                      simp only [Bool.and_eq_true,Bool.not_eq_true'] at h'
                      obtain ⟨⟨⟨⟨⟨h0,h3⟩,h4⟩,h5⟩,h6⟩,h7⟩:=h'
                      have:=beq_iff_eq.mp h0;subst this
                      exact am4 (i:=i) (lO Q.si h3) (fun C s H fp pins σ=>arQ (lO Q.si h3) Q.si.nd (Q.si.cm h1) (a9F qn)) (fun d ds e=>(ae9 e).2) Q.si.nd (by rw [Q.si.N];exact e1) (Q.loc i y e1 (beq_iff_eq.mp hy2)) (Q.fn y) (okI (tt:=true) Q.si (fun _=>⟨Q.si.cm h1,_,_,_,rfl⟩) ci it h5) (fun C s H fp pins=>okC (Q.si.cmp h3 C s H fp pins) cc ifs h6) (fun C s H fp pins=>jE (Q.si.cmp h3 C s H fp pins) c elt h7) (ahH h4)
                  | _=>exact aR h
            | _=>exact aR h
          | _=>exact aR h
    | _=>exact aR h
  | .a7K ci tg b,X,S,ex,lv,Q,st,h=>by
    cases st with
    | For tgt it body el p =>
      cases el with
      | cons _ _=>exact aR h
      | nil =>
        have h':(lv != 1&&at6 S tg&&!isSet it&&kTg S tg tgt&&kI S (isTup tgt&&S.calm) ci it&&kB S lv b body)=true:=h
        simp only [Bool.and_eq_true,Bool.not_eq_true'] at h'
        obtain ⟨⟨⟨⟨⟨h1,hg⟩,h2⟩,h3⟩,h4⟩,h5⟩:=h'
        exact aF2 (Q.l0 (bne_iff_ne.mp h1)) (aQ2 Q.si (fun z=>by rw [Bool.and_eq_true] at z;exact ⟨Q.si.cm z.2,ahI z.1⟩) ci it h4) (aC3 Q hg h3) (okB b Q body h5) (ahH h2)
    | _=>exact aR h
  | .ay8 ci tg b,X,S,ex,lv,Q,st,h=>by
    cases st with
    | For tgt it body el p =>
      cases el with
      | cons _ _=>exact aR h
      | nil =>
        have h':(lv != 1&&at6 S tg&&!isSet it&&kTg S tg tgt&&kI S (isTup tgt&&S.calm) ci it&&kB S lv b body)=true:=h
        simp only [Bool.and_eq_true,Bool.not_eq_true'] at h'
        obtain ⟨⟨⟨⟨⟨h1,hg⟩,h2⟩,h3⟩,h4⟩,h5⟩:=h'
        exact axY (Q.l0 (bne_iff_ne.mp h1)) (aQ3 Q.si (fun z=>by rw [Bool.and_eq_true] at z;exact ⟨Q.si.cm z.2,ahI z.1⟩) ci it h4) (aC3 Q hg h3) (okB b Q body h5) (ahH h2)
    | _=>exact aR h
  | .pass,X,S,ex,lv,Q,st,h=>by
    cases st with
    | Pass _=>exact aE6
    | _=>exact aR h
theorem okB:∀ (c:CB) {X:Cx} {S:SI} {ex:aM→aW} {lv:Nat},a5B X S ex lv→∀ (st:List Stmt),kB S lv c st=true→a8Q X st (mB S.gl X.K ex c)
  | .nil,X,S,ex,lv,Q,st,h=>by
    cases st with
    | nil=>exact aKD
    | cons _ _=>exact aR h
  | .cons s .nil,X,S,ex,lv,Q,st,h=>by
    match st,h with
    | [],h=>exact aR h
    | [x],h =>
      have h':(kS S lv s x&&kB S lv .nil [])=true:=h
      rw [Bool.and_eq_true] at h'
      exact aKE (okS s Q x h'.1)
    | x :: y :: ys,h =>
      have h':(kS S lv s x&&kB S lv .nil (y :: ys))=true:=h
      rw [Bool.and_eq_true] at h'
      exact aR h'.2
  | .cons s (.cons s' r),X,S,ex,lv,Q,st,h=>by
    match st,h with
    | [],h=>exact aR h
    | x :: ys,h =>
      have h':(kS S lv s x&&kB S lv (.cons s' r) ys)=true:=h
      rw [Bool.and_eq_true] at h'
      exact aE4 (okS s Q x h'.1) (okB (.cons s' r) Q ys h'.2)
end
end L4
namespace L4
open PySem PySem.Spec PyProof.Rows L2
def bV (R:iD):iD:=fun d G'=>∃ G0,Le G0 G'∧R d G0
def a9H (EX:aW):aW:=fun C G'=>∃ G0,Le G0 G'∧EX C G0
def spD (n m:Nat) (tb:aW→bA):uL:=fun ds G R EX=>ds.length=m∧tb (a9H EX) ⟨fun _ G'=>bV R .non G',bV R,fun _ _=>False,fun _ _=>False⟩ (adY n ds) G
theorem bV.here {R:iD} {d:D} {G:Gp} (h:R d G):bV R d G:=⟨G,.refl G,h⟩
theorem a9H.here {R:aW} {d:Addr} {G:Gp} (h:R d G):a9H R d G:=⟨G,.refl G,h⟩
theorem atB {K:Fg} {EX:aW} {E:XK} (h:UpX K EX E):UpX K (a9H EX) E:=fun C H' G' g ⟨G0,l,q⟩=>h C H' G0 (g.le l) q
theorem ayC {qt:Bool} {P:Program} {w:World} {K:Fg} {mg:Str→Option Value} {base:Heap} {x qual:Str} {st:Stmt} {f:Addr} {fd:FuncData} {N ps:List Str} {k:Nat} {tb:aW→bA} (F:Fun K x qual st f fd) (S:bG N ps (aC st))
    (hbody:∀ (cdv:Value) (A:Around) (outer:List Env) (s:Shared) (H:Hp) (E:XK) (EX:aW),iG qt k (A.deeper (envOfC qual (aC st) s.heap.objs.size f cdv))→UpX K EX E →
      a8Q (cx1 qt P w K mg base N qual (aC st) f cdv A outer s H E) (aF st) (tb EX)):cT qt P w K mg base (oY P w) (k+1) f fd ps (dZ K (spD N.length ps.length tb)):=by
  refine (aEA F S hbody).imp fun vs H Q E ⟨ds,G,R,EX,r,g,⟨hl,q⟩,kk,hE⟩=>?_
  exact ⟨ds,G,bV R,a9H EX,r,g,⟨hl,q⟩,fun v H' d G' r1 g1 ⟨G0,l,q⟩=>kk v H' d G0 r1 (g1.le l) q,atB hE⟩
def GTs (P:Program) (w:World) (K:Fg) (mg:Str→Option Value) (base:Heap) (k:Nat) (x:Str):GT→Prop
  | .con d=>∃ u v,mg x=some u∧RelV v u∧∀ H,RD K H d v
  | .cls a=>mg x=some (.ref a)∧PySem.W.excIn K a BMv "ValueError.__new__" = true∧(PySem.W.clsIn K a).isSome=true∧PySem.W.typeIn K (.ref a)=some (.type "type")∧PySem.W.subIn K (.ref a) (.type "BaseException")=some true
  | .fn sp n qt=>∃ f fd ps,cT qt P w K mg base (oY P w) k f fd ps (dZ K sp)∧mg x=some (.ref f)∧PySem.W.keepIn K (.ref f)=true∧Binds K fd ps []
  | .bf b=>mg x=none∧bootBuiltins x=some (asR b)
  | .bt n=>mg x=none∧bootBuiltins x=some (.type n)
  | .kl C sp dd=>∃ j f fd ps ds dvs,j+1=k∧Mk K C f∧cT false P w K mg base (oY P w) j f fd ps (dZ K sp)∧mg x=some (.ref C)∧Binds K fd ps ds∧Vals dvs ds∧∀ H,cL K H dd dvs
  | .me C m sp dd=>∃ f fd ps ds dvs,Cls K C∧Meth K C m f∧cT false P w K mg base (oY P w) k f fd ps (dZ K sp)∧Binds K fd ps ds∧Vals dvs ds∧∀ H,cL K H dd dvs
  | .fl C f=>Cls K C∧aqL K C f
def aG2 (sc:Scope) (x:Str):Bool:=match sc.names.lookup x with
  | some .local=>true
  | some .cell=>true
  | _=>false
def aG3 (sc:Scope) (x:Str):Bool:=match sc.names.lookup x with
  | some .local=>true
  | _=>false
def aG4 (sc:Scope) (x:Str):Bool:=match sc.names.lookup x with
  | some .globalImplicit=>true
  | _=>false
def aG5 (sc:Scope) (x:Str):Bool:=match sc.names.lookup x with
  | some .cell=>true
  | _=>false
theorem ayD {sc:Scope} {x:Str} (h:aG5 sc x=true):sc.names.lookup x=some .cell:=by
  unfold aG5 at h
  split at h
  · rename_i e;exact e
  · exact aR h
def dO (S:SI) (sc:Scope):Bool:=(List.range S.N.length).all (fun i=>match S.N[i]? with
    | none=>false
    | some x=>x != ("__debug__" : Str)&&x != ("__classdict__" : Str)&&(S.fl[i]? != some true || aG2 sc x)&&(S.lc[i]? != some true || aG3 sc x)&&(S.ce[i]? != some true || aG5 sc x)) &&
  (List.range S.gl.length).all (fun k=>match S.gl[k]? with
    | none=>false
    | some (y,_)=>(S.gv[k]? != some true || aG4 sc y)&&y != ("__debug__" : Str)&&y != ("__name__" : Str))
theorem ayE {sc:Scope} {x:Str} (h:aG2 sc x=true):Loc sc x:=by
  unfold aG2 at h
  split at h
  · rename_i e;exact .inl e
  · rename_i e;exact .inr e
  · exact aR h
theorem ayF {sc:Scope} {x:Str} (h:Loc sc x):Vis sc x:=h.elim .inl fun z => .inr (.inl z)
theorem ayG {sc:Scope} {x:Str} (h:aG3 sc x=true):sc.names.lookup x=some .local:=by
  unfold aG3 at h
  split at h
  · rename_i e;exact e
  · exact aR h
theorem ayH {sc:Scope} {x:Str} (h:aG4 sc x=true):sc.names.lookup x=some .globalImplicit:=by
  unfold aG4 at h
  split at h
  · rename_i e;exact e
  · exact aR h
theorem a89 {S:SI} {sc:Scope} (h:dO S sc=true) {i:Nat} {x:Str} (e:S.N[i]?=some x) :
    (x == ("__debug__" : Str))=false∧(x == ("__classdict__" : Str))=false∧(S.fl[i]?=some true→Loc sc x)∧(S.lc[i]?=some true→sc.names.lookup x=some .local)∧(S.ce[i]?=some true→sc.names.lookup x=some .cell):=by
  unfold dO at h
  rw [Bool.and_eq_true] at h
  have hi:i < S.N.length:=(List.getElem?_eq_some_iff.mp e).1
  have q:=List.all_eq_true.mp h.1 i (List.mem_range.mpr hi)
  rw [e] at q
  simp only [Bool.and_eq_true,bne_iff_ne,ne_eq,Bool.or_eq_true] at q
  obtain ⟨⟨⟨⟨q1,q2⟩,q3⟩,q4⟩,q5⟩:=q
  refine ⟨beq_eq_false_iff_ne.mpr q1,beq_eq_false_iff_ne.mpr q2,fun z=>?_,fun z=>?_,fun z=>?_⟩
  · rcases q3 with q | q
    · exact absurd z q
    · exact ayE q
  · rcases q4 with q | q
    · exact absurd z q
    · exact ayG q
  · rcases q5 with q | q
    · exact absurd z q
    · exact ayD q
theorem ayI {S:SI} {sc:Scope} (h:dO S sc=true) {k:Nat} {x:Str} {g:GT} (e:S.gl[k]?=some (x,g)):(S.gv[k]?=some true→sc.names.lookup x=some .globalImplicit)∧(x == ("__debug__" : Str))=false∧x ≠ "__name__" := by
  unfold dO at h
  rw [Bool.and_eq_true] at h
  have q:=List.all_eq_true.mp h.2 k (List.mem_range.mpr (List.getElem?_eq_some_iff.mp e).1)
  rw [e] at q
  simp only [Bool.and_eq_true,bne_iff_ne,ne_eq,Bool.or_eq_true] at q
  exact ⟨fun z=>ayH (q.1.1.resolve_left fun n=>n z),beq_eq_false_iff_ne.mpr q.1.2,q.2⟩
theorem bJ {qt:Bool} {P:Program} {w:World} {K:Fg} {mg:Str→Option Value} {base:Heap} {x qual:Str} {st:Stmt} {f:Addr} {fd:FuncData} {ps:List Str} {k:Nat} {S:SI} {c:CB} (F:Fun K x qual st f fd) (hS:bG S.N ps (aC st))
    (hc:S.calm=!qt) (hv:dO S (aC st)=true) (hk:kB S 0 c (aF st)=true) (hg:∀ (j:Nat) (y:Str) (g:GT),S.gl[j]?=some (y,g)→GTs P w K mg base k y g) :
    cT qt P w K mg base (oY P w) (k+1) f fd ps (dZ K (spD S.N.length ps.length fun EX=>mB S.gl K (fun _=>EX) c)):=by
  refine ayC F hS fun cdv A outer s H E EX hr hE=>?_
  refine okB c (X:=cx1 qt P w K mg base S.N qual (aC st) f cdv A outer s H E) (S:=S) (ex:=fun _=>EX) (lv:=0) ?_ (aF st) hk
  refine ⟨⟨rfl,hS.nd,fun i y e1 e2=>?_,fun i y e1 e2 => .inl ((a89 hv e1).2.2.2.2 e2),fun j y g e=>?_,hr.units,fun z=>hc.symm.trans z,aP3 hE⟩,fun i y e1 e2=>?_,fun i y e1 e2=>?_,fun _=>rfl,fun j y a e _=>?_,fun _=>own1,fun _ _=>aP4 hE,rfl,rfl⟩
  · obtain ⟨a1,a2,a3,a4⟩:=a89 hv e1
    exact ⟨ayF (a3 e2),a1,a2⟩
  · obtain ⟨a1,a2,a3⟩:=ayI hv e
    have z:=hg j y g e
    refine ⟨a1,a2,a3,?_⟩
    cases g with
    | con d=>exact z
    | cls a=>exact ⟨z.1,z.2.1⟩
    | fn sp n q2 =>
      intro hz
      obtain ⟨f',fd',ps',F',m',k',b'⟩:=z
      refine ⟨k,f',fd',ps',F',⟨fun e=>hr.hd ?_,hr.dp,hr.un⟩,m',k',b'⟩
      have hs:S.calm=true:=hz.resolve_left (by rw [e];decide)
      rw [hc] at hs
      simpa using hs
    | bf b=>exact z
    | bt n=>exact z
    | kl C sp dd =>
      intro hs
      obtain ⟨j',f',fd',ps',ds,dvs,rfl,q1,q2,q3,q4,q5,q6⟩:=z
      rw [hc] at hs
      exact ⟨j',f',fd',ps',ds,dvs,q1,q2,⟨fun _=>hr.hd (by simpa using hs),hr.dp,hr.un⟩,q3,q4,q5,q6⟩
    | me C m sp dd =>
      intro hs
      obtain ⟨f',fd',ps',ds,dvs,q1,q2,q3,q4,q5,q6⟩:=z
      rw [hc] at hs
      exact ⟨k,f',fd',ps',ds,dvs,q1,q2,q3,⟨fun _=>hr.hd (by simpa using hs),hr.dp,hr.un⟩,q4,q5,q6⟩
    | fl C f=>exact z
  · exact (a89 hv e1).2.2.1 e2
  · exact (a89 hv e1).2.2.2.1 e2
  · have z:=hg j y _ e
    exact z.2
end L4
namespace L4
open PySem PySem.Spec PyProof.Rows L2
theorem gln {P:Str→GT→Prop}:∀ (j:Nat) (y:Str) (g:GT),([]:List (Str×GT))[j]?=some (y,g)→P y g:=fun j y g h=>by simp at h
theorem fZ {P:Str→GT→Prop} {x:Str} {g:GT} {l:List (Str×GT)} (h:P x g) (r:∀ (j:Nat) (y:Str) (g:GT),l[j]?=some (y,g)→P y g):∀ (j:Nat) (y:Str) (g':GT),((x,g) :: l)[j]?=some (y,g')→P y g'
  | 0,y,g',e=>by simp at e;obtain ⟨e1,e2⟩:=e;subst e1;subst e2;exact h
  | j+1,y,g',e=>r j y g' (by simpa using e)
section
variable {P:Program} {w:World} {K:Fg} {mg:Str→Option Value} {base:Heap} {k:Nat} {x:Str}
theorem gcI {z:Int} (h:∃ t,mg x=some (.int z t)):GTs P w K mg base k x (.con (.int z)):=by
  obtain ⟨t,h⟩:=h
  exact ⟨_,.int z,h,⟨t,rfl⟩,fun _ => .int z⟩
theorem gcT {ds:List D} (h:∃ a,mg x=some (.ref a)∧∀ H,RD K H (.tup ds) (.ref a)):GTs P w K mg base k x (.con (.tup ds)):=by
  obtain ⟨a,h,r⟩:=h
  exact ⟨_,.ref a,h,rfl,r⟩
end
theorem aG6 {K:Fg} {a:Addr} {od:Option Addr} {its:Array Value} {n:Nat} {sl:Array (Option Value)} {xs:List V} {ds:List D} (h:K.lookup a=some ⟨.type "tuple",od,.seq its n,sl⟩) (hz:its.size≤sizeLine) (v:Vals xs its.toList) (r:∀ H,cL K H ds xs) (H:Hp):RD K H (.tup ds) (.ref a) :=
  .tup (.inr ⟨_,its,n,h,rfl,rfl,hz,v⟩) (r H) trivial
theorem aeR:bootBuiltins "enumerate" = some (.type "enumerate"):=by decide +kernel
theorem a2V:bootBuiltins "range" = some (.type "range"):=by decide +kernel
theorem aG7:bootBuiltins "zip" = some (.type "zip"):=by decide +kernel
end L4
namespace L4
open PySem PySem.Spec PyProof.Rows L2
theorem bZ {K:Fg} {fd:FuncData} {ps:List Str} (h:∀ us:List Value,us.length=ps.length→bindArgs fd ⟨us,[]⟩=pure (ps.zip us)):Binds K fd ps []:=Binds.all h
end L4
namespace L5
open PySem PySem.Spec PyProof.Rows L2 L4
def onB (x:D) (f:Bool→Prop):Prop:=match x with
  | .bl k=>f k
  | _=>False
def onI (x:D) (f:Int→Prop):Prop:=match x with
  | .int k=>f k
  | _=>False
theorem aG8 {k:Bool} {f:Bool→Prop}:onB (.bl k) f=f k:=rfl
theorem ayJ {k:Int} {f:Int→Prop}:onI (.int k) f=f k:=rfl
def cR (xs:List D):Prop:=xs.length≤sizeLine
theorem aG9:cR []=True:=eq_true (show 0≤sizeLine by decide)
theorem aGA {a0:D}:cR [a0]=True:=eq_true (show 1≤sizeLine by decide)
theorem aGB {a0 a1:D}:cR [a0,a1]=True:=eq_true (show 2≤sizeLine by decide)
theorem aGC {a0 a1 a2:D}:cR [a0,a1,a2]=True:=eq_true (show 3≤sizeLine by decide)
theorem aGD {a0 a1 a2 a3:D}:cR [a0,a1,a2,a3]=True:=eq_true (show 4≤sizeLine by decide)
theorem aGE {a0 a1 a2 a3 a4:D}:cR [a0,a1,a2,a3,a4]=True:=eq_true (show 5≤sizeLine by decide)
theorem aGF {a0 a1 a2 a3 a4 a5:D}:cR [a0,a1,a2,a3,a4,a5]=True:=eq_true (show 6≤sizeLine by decide)
theorem aGG {a0 a1 a2 a3 a4 a5 a6:D}:cR [a0,a1,a2,a3,a4,a5,a6]=True:=eq_true (show 7≤sizeLine by decide)
theorem aGH {a0 a1 a2 a3 a4 a5 a6 a7:D}:cR [a0,a1,a2,a3,a4,a5,a6,a7]=True:=eq_true (show 8≤sizeLine by decide)
theorem aGI {a0 a1 a2 a3 a4 a5 a6 a7 a8:D}:cR [a0,a1,a2,a3,a4,a5,a6,a7,a8]=True:=eq_true (show 9≤sizeLine by decide)
theorem ayK {a0 a1 a2 a3 a4 a5 a6 a7 a8 a9:D}:cR [a0,a1,a2,a3,a4,a5,a6,a7,a8,a9]=True:=eq_true (show 10≤sizeLine by decide)
theorem ayL {a0 a1 a2 a3 a4 a5 a6 a7 a8 a9 a10:D}:cR [a0,a1,a2,a3,a4,a5,a6,a7,a8,a9,a10]=True:=eq_true (show 11≤sizeLine by decide)
theorem ayM {a0 a1 a2 a3 a4 a5 a6 a7 a8 a9 a10 a11:D}:cR [a0,a1,a2,a3,a4,a5,a6,a7,a8,a9,a10,a11]=True:=eq_true (show 12≤sizeLine by decide)
theorem ayN {a0 a1 a2 a3 a4 a5 a6 a7 a8 a9 a10 a11 a12:D}:cR [a0,a1,a2,a3,a4,a5,a6,a7,a8,a9,a10,a11,a12]=True:=eq_true (show 13≤sizeLine by decide)
theorem ayO {a0 a1 a2 a3 a4 a5 a6 a7 a8 a9 a10 a11 a12 a13:D}:cR [a0,a1,a2,a3,a4,a5,a6,a7,a8,a9,a10,a11,a12,a13]=True:=eq_true (show 14≤sizeLine by decide)
theorem ayP {a0 a1 a2 a3 a4 a5 a6 a7 a8 a9 a10 a11 a12 a13 a14:D}:cR [a0,a1,a2,a3,a4,a5,a6,a7,a8,a9,a10,a11,a12,a13,a14]=True:=eq_true (show 15≤sizeLine by decide)
theorem ayQ {a0 a1 a2 a3 a4 a5 a6 a7 a8 a9 a10 a11 a12 a13 a14 a15:D}:cR [a0,a1,a2,a3,a4,a5,a6,a7,a8,a9,a10,a11,a12,a13,a14,a15]=True:=eq_true (show 16≤sizeLine by decide)
theorem ayR {a0 a1 a2 a3 a4 a5 a6 a7 a8 a9 a10 a11 a12 a13 a14 a15 a16:D}:cR [a0,a1,a2,a3,a4,a5,a6,a7,a8,a9,a10,a11,a12,a13,a14,a15,a16]=True:=eq_true (show 17≤sizeLine by decide)
theorem ayS {a0 a1 a2 a3 a4 a5 a6 a7 a8 a9 a10 a11 a12 a13 a14 a15 a16 a17:D}:cR [a0,a1,a2,a3,a4,a5,a6,a7,a8,a9,a10,a11,a12,a13,a14,a15,a16,a17]=True:=eq_true (show 18≤sizeLine by decide)
theorem ayT {a0 a1 a2 a3 a4 a5 a6 a7 a8 a9 a10 a11 a12 a13 a14 a15 a16 a17 a18:D}:cR [a0,a1,a2,a3,a4,a5,a6,a7,a8,a9,a10,a11,a12,a13,a14,a15,a16,a17,a18]=True:=eq_true (show 19≤sizeLine by decide)
theorem ayU {a0 a1 a2 a3 a4 a5 a6 a7 a8 a9 a10 a11 a12 a13 a14 a15 a16 a17 a18 a19:D}:cR [a0,a1,a2,a3,a4,a5,a6,a7,a8,a9,a10,a11,a12,a13,a14,a15,a16,a17,a18,a19]=True:=eq_true (show 20≤sizeLine by decide)
theorem ayV {a0 a1 a2 a3 a4 a5 a6 a7 a8 a9 a10 a11 a12 a13 a14 a15 a16 a17 a18 a19 a20:D}:cR [a0,a1,a2,a3,a4,a5,a6,a7,a8,a9,a10,a11,a12,a13,a14,a15,a16,a17,a18,a19,a20]=True:=eq_true (show 21≤sizeLine by decide)
theorem ayW {a0 a1 a2 a3 a4 a5 a6 a7 a8 a9 a10 a11 a12 a13 a14 a15 a16 a17 a18 a19 a20 a21:D}:cR [a0,a1,a2,a3,a4,a5,a6,a7,a8,a9,a10,a11,a12,a13,a14,a15,a16,a17,a18,a19,a20,a21]=True:=eq_true (show 22≤sizeLine by decide)
theorem ayX {a0 a1 a2 a3 a4 a5 a6 a7 a8 a9 a10 a11 a12 a13 a14 a15 a16 a17 a18 a19 a20 a21 a22:D}:cR [a0,a1,a2,a3,a4,a5,a6,a7,a8,a9,a10,a11,a12,a13,a14,a15,a16,a17,a18,a19,a20,a21,a22]=True:=eq_true (show 23≤sizeLine by decide)
theorem ayY {a0 a1 a2 a3 a4 a5 a6 a7 a8 a9 a10 a11 a12 a13 a14 a15 a16 a17 a18 a19 a20 a21 a22 a23:D}:cR [a0,a1,a2,a3,a4,a5,a6,a7,a8,a9,a10,a11,a12,a13,a14,a15,a16,a17,a18,a19,a20,a21,a22,a23]=True:=eq_true (show 24≤sizeLine by decide)
theorem ayZ {a0 a1 a2 a3 a4 a5 a6 a7 a8 a9 a10 a11 a12 a13 a14 a15 a16 a17 a18 a19 a20 a21 a22 a23 a24:D}:cR [a0,a1,a2,a3,a4,a5,a6,a7,a8,a9,a10,a11,a12,a13,a14,a15,a16,a17,a18,a19,a20,a21,a22,a23,a24]=True:=eq_true (show 25≤sizeLine by decide)
theorem az0 {a0 a1 a2 a3 a4 a5 a6 a7 a8 a9 a10 a11 a12 a13 a14 a15 a16 a17 a18 a19 a20 a21 a22 a23 a24 a25:D}:cR [a0,a1,a2,a3,a4,a5,a6,a7,a8,a9,a10,a11,a12,a13,a14,a15,a16,a17,a18,a19,a20,a21,a22,a23,a24,a25]=True:=eq_true (show 26≤sizeLine by decide)
theorem az1 {a0 a1 a2 a3 a4 a5 a6 a7 a8 a9 a10 a11 a12 a13 a14 a15 a16 a17 a18 a19 a20 a21 a22 a23 a24 a25 a26:D}:cR [a0,a1,a2,a3,a4,a5,a6,a7,a8,a9,a10,a11,a12,a13,a14,a15,a16,a17,a18,a19,a20,a21,a22,a23,a24,a25,a26]=True:=eq_true (show 27≤sizeLine by decide)
theorem az2 {a0 a1 a2 a3 a4 a5 a6 a7 a8 a9 a10 a11 a12 a13 a14 a15 a16 a17 a18 a19 a20 a21 a22 a23 a24 a25 a26 a27:D}:cR [a0,a1,a2,a3,a4,a5,a6,a7,a8,a9,a10,a11,a12,a13,a14,a15,a16,a17,a18,a19,a20,a21,a22,a23,a24,a25,a26,a27]=True:=eq_true (show 28≤sizeLine by decide)
theorem az3 {a0 a1 a2 a3 a4 a5 a6 a7 a8 a9 a10 a11 a12 a13 a14 a15 a16 a17 a18 a19 a20 a21 a22 a23 a24 a25 a26 a27 a28:D}:cR [a0,a1,a2,a3,a4,a5,a6,a7,a8,a9,a10,a11,a12,a13,a14,a15,a16,a17,a18,a19,a20,a21,a22,a23,a24,a25,a26,a27,a28]=True:=eq_true (show 29≤sizeLine by decide)
theorem az4 {a0 a1 a2 a3 a4 a5 a6 a7 a8 a9 a10 a11 a12 a13 a14 a15 a16 a17 a18 a19 a20 a21 a22 a23 a24 a25 a26 a27 a28 a29:D}:cR [a0,a1,a2,a3,a4,a5,a6,a7,a8,a9,a10,a11,a12,a13,a14,a15,a16,a17,a18,a19,a20,a21,a22,a23,a24,a25,a26,a27,a28,a29]=True:=eq_true (show 30≤sizeLine by decide)
section
variable {t u:bA} {F:cZ} {ρ:aM} {G:Gp} {R:iD} {te ta tb tc:bU} {tt tt':TT3} {tA:nT} {K:Fg}
theorem aLV:aP t u F ρ G=t { F with nx:=u F } ρ G:=rfl
theorem aGJ:cI F ρ G=F.nx ρ G:=rfl
theorem aLW:ax2 F ρ G=F.bk ρ G:=rfl
theorem aGK:aE5 F ρ G=F.ct ρ G:=rfl
theorem aGL:lM te F ρ G=te ρ G fun _ G1=>F.nx ρ G1:=rfl
theorem aLX:cJ te F ρ G=te ρ G F.rt:=rfl
theorem aGM:aE8 F ρ G=F.rt .non G:=rfl
theorem aLY:eG tt t u F ρ G=tt ρ G fun b G1=>if b=true then t F ρ G1 else u F ρ G1:=rfl
theorem aLZ {i:Nat}:bC i te F ρ G=te ρ G fun x G1=>F.nx (rR ρ i x) G1:=rfl
theorem x_raise {EX:aM→aW} {C:Addr}:uQ EX C tA F ρ G=tA ρ G fun ds G1=>cR ds∧EX ρ C G1:=rfl
theorem aM0 {C:Addr} {i:Nat} {bd:(aM→aW)→bA}:aKK K C i bd t F ρ G=bd (fun ρ1 C' G1=>PySem.W.subIn K (.ref C') (.ref C)=some true∧∀ x,G1 x=none→t { nx:=fun ρ2 G2=>F.nx (nD ρ2 i) G2,rt:=F.rt,bk:=fun ρ2 G2=>F.bk (nD ρ2 i) G2,ct:=fun ρ2 G2=>F.ct (nD ρ2 i) G2 } (rR ρ1 i (.ref x)) (aN G1 x (.exn C'))) F ρ G:=rfl
theorem x_c {d:D}:bH d ρ G R=R d G:=rfl
theorem aGN {d:D}:aB 0 (some d :: ρ) G R=R d G:=rfl
theorem aGO {o:Option D} {n:Nat}:aB (n+1) (o :: ρ) G R=aB n ρ G R:=rfl
theorem atD {o:Option D} {d:D}:rR (o :: ρ) 0 d=some d :: ρ:=rfl
theorem atE {o:Option D} {n:Nat} {d:D}:rR (o :: ρ) (n+1) d=o :: rR ρ n d:=rfl
theorem atF {o:Option D}:nD (o :: ρ) 0=none :: ρ:=rfl
theorem atG {o:Option D} {n:Nat}:nD (o :: ρ) (n+1)=o :: nD ρ n:=rfl
theorem aQ7 {r:R3}:aH r ta tb ρ G R=ta ρ G fun x G1=>tb ρ G1 fun y G2=>r x y G2 R:=rfl
theorem aGP {Q:Bool→Gp→Prop}:aZ te ρ G Q=te ρ G fun x G1=>onB x fun k=>Q k G1:=rfl
theorem az5 {r r':R3}:qT r r' ta tb tc ρ G R=ta ρ G fun x G1=>tb ρ G1 fun y G2=>r x y G2 fun z G3=>onB z fun k=>if k=true then tc ρ G3 fun w G4=>r' y w G4 R else R (.bl false) G3:=by
  unfold qT;congr 1;funext x G1;congr 1;funext y G2;congr 1;funext z G3
  cases z with
  | bl k=>cases k <;> rfl
  | _=>rfl
theorem aM1 {Q:Bool→Gp→Prop}:agT tt tt' ρ G Q=tt ρ G fun c G1=>if c=true then tt' ρ G1 Q else Q false G1:=rfl
theorem aQ8 {Q:Bool→Gp→Prop}:abM tt tt' ρ G Q=tt ρ G fun c G1=>if c=true then Q true G1 else tt' ρ G1 Q:=rfl
theorem aM2 {Q:Bool→Gp→Prop}:w6 tt ρ G Q=tt ρ G fun c G1=>Q (!c) G1:=rfl
theorem aGQ:xG ta tb ρ G R=ta ρ G fun x G1=>onB x fun k=>if k=true then tb ρ G1 R else R (.bl false) G1:=by
  unfold xG;congr 1;funext x G1
  cases x with
  | bl k=>cases k <;> rfl
  | _=>rfl
theorem aM3:alT ta tb ρ G R=ta ρ G fun x G1=>onB x fun k=>if k=true then R (.bl true) G1 else tb ρ G1 R:=by
  unfold alT;congr 1;funext x G1
  cases x with
  | bl k=>cases k <;> rfl
  | _=>rfl
theorem aGR:a8S ta ρ G R=ta ρ G fun x G1=>onB x fun k=>R (.bl (!k)) G1:=rfl
theorem aM4:acL ta ρ G R=ta ρ G fun x G1=>onI x fun k=>R (.int (-k)) G1:=rfl
theorem aM5:awX tt ta tb ρ G R=tt ρ G fun c G1=>if c=true then ta ρ G1 R else tb ρ G1 R:=rfl
theorem aM6 {Q:List D→Gp→Prop}:aG ρ G Q=Q [] G:=rfl
theorem aGS {Q:List D→Gp→Prop}:aA te tA ρ G Q=te ρ G fun x G1=>tA ρ G1 fun xs G2=>Q (x :: xs) G2:=rfl
theorem aM7:oX tA ρ G R=tA ρ G fun xs G1=>cR xs∧R (.tup xs) G1:=rfl
theorem aM8:wA tA ρ G R=tA ρ G fun xs G1=>cR xs∧∀ p,G1 p=none→R (.ref p) (aN G1 p (.lst xs)):=rfl
theorem aM9:ae6 ρ G R=∀ p,G p=none→R (.ref p) (aN G p (.lF false [])):=rfl
theorem x_call {sp:uL} {ex:aM→aW}:aX sp ex tA ρ G R=tA ρ G fun ds G1=>sp ds G1 R (ex ρ):=rfl
theorem aQ9 {r:List D→Gp→iD→Prop}:gW r tA ρ G R=tA ρ G fun xs G1=>r xs G1 R:=rfl
theorem x_m {T:String} {r:RM3}:tM3 T r te tA ρ G R=te ρ G fun x G1=>abO T G1 x∧tA ρ G1 fun xs G2=>r x xs G2 R:=rfl
theorem aQA {T:String} {r:RM3}:axB T r te ρ G R=te ρ G fun x G1=>abO T G1 x∧r x [] G1 R:=rfl
theorem az6 {z:Str}:abO "str" G (.str z)=True:=eq_true rfl
theorem aeS {p:Addr}:abO "list" G (.ref p)=((aO G p).isSome=true):=by unfold abO;simp
theorem atH {Q:Option Int→Gp→Prop}:a2N ρ G Q=Q none G:=rfl
theorem aGT {Q:Option Int→Gp→Prop}:a4P te ρ G Q=te ρ G fun x G1=>onI x fun k=>Q (some k) G1:=rfl
theorem az7 {tl th:TO3}:a86 te tl th ρ G R=te ρ G fun x G1=>tl ρ G1 fun lo G2=>th ρ G2 fun hi G3=>ax9 x lo hi G3 R:=rfl
theorem atJ {i j:Int}:d7 (.int i) (.int j) G R=R (.int (i+j)) G:=rfl
theorem atL {xs ys:List D}:d7 (.tup xs) (.tup ys) G R=(xs.length+ys.length≤sizeLine∧R (.tup (xs++ys)) G):=rfl
theorem aMA {i j:Int}:tD (.int i) (.int j) G R=R (.int (i - j)) G:=rfl
theorem aC4 {i j:Int}:mR (.int i) (.int j) G R=(aqF i j∧R (.int (i * j)) G):=rfl
theorem aGU {i j:Int}:lK (.int i) (.int j) G R=(aD5 i j∧R (.int (i / j)) G):=rfl
theorem aMB {i j:Int}:iH (.int i) (.int j) G R=(0 < j∧R (.int (i % j)) G):=rfl
theorem aMC {i j:Int}:alV (.int i) (.int j) G R=(aD6 i j∧R (.int (i ^ j.toNat)) G):=rfl
theorem x_lt {i j:Int}:ax0 (.int i) (.int j) G R=R (.bl (decide (i < j))) G:=rfl
theorem aQB {i j:Int}:aDZ (.int i) (.int j) G R=R (.bl (decide (j < i))) G:=rfl
theorem x_ge {i j:Int}:aE0 (.int i) (.int j) G R=R (.bl (decide (j≤i))) G:=rfl
theorem aQC {i j:Int}:ajU (.int i) (.int j) G R=R (.bl (decide (i≤j))) G:=rfl
theorem aGV {i j:Str}:ajU (.str i) (.str j) G R=R (.bl (!decide (j.cps.toList < i.cps.toList))) G:=rfl
theorem az8 {i j:Str}:aEK (.str i) (.str j) G R=R (.bl (!(Builtin.Str.occurrences j i 0 j.length 1).isEmpty)) G:=rfl
theorem ak5 {i j:Str}:ae5 (.str i) (.str j) G R=R (.bl (!!(Builtin.Str.occurrences j i 0 j.length 1).isEmpty)) G:=rfl
theorem az9 {i j:Int}:qO (.int i) (.int j) G R=R (.bl (i == j)) G:=by
  show (aL 20 (.int i)=true∧aL 20 (.int j)=true∧_)=_
  simp [aL,eqP]
theorem azA {i j:Int}:xK (.int i) (.int j) G R=R (.bl (!(i == j))) G:=by
  show (aL 20 (.int i)=true∧aL 20 (.int j)=true∧_)=_
  simp [aL,eqP]
theorem azB {i j:Bool}:qO (.bl i) (.bl j) G R=R (.bl (i == j)) G:=by
  show (aL 20 (.bl i)=true∧aL 20 (.bl j)=true∧_)=_
  simp [aL,eqP]
theorem azC {i j:Bool}:xK (.bl i) (.bl j) G R=R (.bl (!(i == j))) G:=by
  show (aL 20 (.bl i)=true∧aL 20 (.bl j)=true∧_)=_
  simp [aL,eqP]
theorem azD {i j:Str}:qO (.str i) (.str j) G R=R (.bl (i == j)) G:=by
  show (aL 20 (.str i)=true∧aL 20 (.str j)=true∧_)=_
  simp [aL,eqP]
theorem azE {i j:Str}:xK (.str i) (.str j) G R=R (.bl (!(i == j))) G:=by
  show (aL 20 (.str i)=true∧aL 20 (.str j)=true∧_)=_
  simp [aL,eqP]
theorem azF {xs ys:List D}:qO (.tup xs) (.tup ys) G R=(aL 20 (.tup xs)=true∧aL 20 (.tup ys)=true∧R (.bl (eqP (.tup xs) (.tup ys))) G):=rfl
theorem azG {xs ys:List D}:xK (.tup xs) (.tup ys) G R=(aL 20 (.tup xs)=true∧aL 20 (.tup ys)=true∧R (.bl (!eqP (.tup xs) (.tup ys))) G):=rfl
theorem azH {z:Str}:qU [.str z] G R=(z.length≤sizeLine∧R (.int z.length) G):=rfl
theorem azI {ds:List D}:qU [.tup ds] G R=R (.int ds.length) G:=rfl
theorem zQ {q:Addr} {ds:List D} (h:aO G q=some ds):qU [.ref q] G R=R (.int ds.length) G:=by unfold qU;simp only [h]
theorem aMD {i:Int}:a6B [.int i] G R=R (.int (if i < 0 then -i else i)) G:=rfl
theorem azJ {b:Bool}:am0 [.bl b] G R=R (.int (if b then 1 else 0)) G:=rfl
theorem azK {b:Int}:am0 [.int b] G R=R (.int b) G:=rfl
theorem ak6 {xs:List D} {i:Int} {d:D} (h:atI xs i=some d):cQ (.tup xs) (.int i) G R=R d G:=by unfold cQ;simp only [h]
theorem a1E {p:Addr} {xs:List D} {i:Int} {d:D} (e:aO G p=some xs) (h:atI xs i=some d):cQ (.ref p) (.int i) G R=R d G:=by unfold cQ;simp only [e,h]
theorem azL:ar4 .non .non G R=R (.bl true) G:=rfl
theorem azM {i j:Bool}:ar4 (.bl i) (.bl j) G R=R (.bl (i == j)) G:=rfl
theorem aoX {i j:Bool}:ae0 (.bl i) (.bl j) G R=R (.bl (!(i == j))) G:=rfl
theorem aoY:ae0 .non .non G R=R (.bl false) G:=rfl
theorem ahJ:aD K [.non,.ty "int"] G R=R (.bl false) G:=by
  show ("int" ∈ bR∧R (.bl (L2.subB "NoneType" "int")) G)=_
  rw [show L2.subB "NoneType" "int" = false from by decide];simp [bR]
theorem aeT:aD K [.non,.ty "bool"] G R=R (.bl false) G:=by
  show ("bool" ∈ bR∧R (.bl (L2.subB "NoneType" "bool")) G)=_
  rw [show L2.subB "NoneType" "bool" = false from by decide];simp [bR]
theorem ahK:aD K [.non,.ty "str"] G R=R (.bl false) G:=by
  show ("str" ∈ bR∧R (.bl (L2.subB "NoneType" "str")) G)=_
  rw [show L2.subB "NoneType" "str" = false from by decide];simp [bR]
theorem aeU:aD K [.non,.ty "list"] G R=R (.bl false) G:=by
  show ("list" ∈ bR∧R (.bl (L2.subB "NoneType" "list")) G)=_
  rw [show L2.subB "NoneType" "list" = false from by decide];simp [bR]
theorem abT:aD K [.non,.ty "tuple"] G R=R (.bl false) G:=by
  show ("tuple" ∈ bR∧R (.bl (L2.subB "NoneType" "tuple")) G)=_
  rw [show L2.subB "NoneType" "tuple" = false from by decide];simp [bR]
theorem aeV:aD K [.non,.ty "dict"] G R=R (.bl false) G:=by
  show ("dict" ∈ bR∧R (.bl (L2.subB "NoneType" "dict")) G)=_
  rw [show L2.subB "NoneType" "dict" = false from by decide];simp [bR]
theorem ak7 {b:Bool}:aD K [(.bl b),.ty "int"] G R=R (.bl true) G:=by
  show ("int" ∈ bR∧R (.bl (L2.subB "bool" "int")) G)=_
  rw [show L2.subB "bool" "int" = true from by decide];simp [bR]
theorem ahL {b:Bool}:aD K [(.bl b),.ty "bool"] G R=R (.bl true) G:=by
  show ("bool" ∈ bR∧R (.bl (L2.subB "bool" "bool")) G)=_
  rw [show L2.subB "bool" "bool" = true from by decide];simp [bR]
theorem ak8 {b:Bool}:aD K [(.bl b),.ty "str"] G R=R (.bl false) G:=by
  show ("str" ∈ bR∧R (.bl (L2.subB "bool" "str")) G)=_
  rw [show L2.subB "bool" "str" = false from by decide];simp [bR]
theorem ahM {b:Bool}:aD K [(.bl b),.ty "list"] G R=R (.bl false) G:=by
  show ("list" ∈ bR∧R (.bl (L2.subB "bool" "list")) G)=_
  rw [show L2.subB "bool" "list" = false from by decide];simp [bR]
theorem aeW {b:Bool}:aD K [(.bl b),.ty "tuple"] G R=R (.bl false) G:=by
  show ("tuple" ∈ bR∧R (.bl (L2.subB "bool" "tuple")) G)=_
  rw [show L2.subB "bool" "tuple" = false from by decide];simp [bR]
theorem ahN {b:Bool}:aD K [(.bl b),.ty "dict"] G R=R (.bl false) G:=by
  show ("dict" ∈ bR∧R (.bl (L2.subB "bool" "dict")) G)=_
  rw [show L2.subB "bool" "dict" = false from by decide];simp [bR]
theorem ahO {i:Int}:aD K [(.int i),.ty "int"] G R=R (.bl true) G:=by
  show ("int" ∈ bR∧R (.bl (L2.subB "int" "int")) G)=_
  rw [show L2.subB "int" "int" = true from by decide];simp [bR]
theorem aeX {i:Int}:aD K [(.int i),.ty "bool"] G R=R (.bl false) G:=by
  show ("bool" ∈ bR∧R (.bl (L2.subB "int" "bool")) G)=_
  rw [show L2.subB "int" "bool" = false from by decide];simp [bR]
theorem ahP {i:Int}:aD K [(.int i),.ty "str"] G R=R (.bl false) G:=by
  show ("str" ∈ bR∧R (.bl (L2.subB "int" "str")) G)=_
  rw [show L2.subB "int" "str" = false from by decide];simp [bR]
theorem aeY {i:Int}:aD K [(.int i),.ty "list"] G R=R (.bl false) G:=by
  show ("list" ∈ bR∧R (.bl (L2.subB "int" "list")) G)=_
  rw [show L2.subB "int" "list" = false from by decide];simp [bR]
theorem abU {i:Int}:aD K [(.int i),.ty "tuple"] G R=R (.bl false) G:=by
  show ("tuple" ∈ bR∧R (.bl (L2.subB "int" "tuple")) G)=_
  rw [show L2.subB "int" "tuple" = false from by decide];simp [bR]
theorem aeZ {i:Int}:aD K [(.int i),.ty "dict"] G R=R (.bl false) G:=by
  show ("dict" ∈ bR∧R (.bl (L2.subB "int" "dict")) G)=_
  rw [show L2.subB "int" "dict" = false from by decide];simp [bR]
theorem ahQ {z:Str}:aD K [(.str z),.ty "int"] G R=R (.bl false) G:=by
  show ("int" ∈ bR∧R (.bl (L2.subB "str" "int")) G)=_
  rw [show L2.subB "str" "int" = false from by decide];simp [bR]
theorem af0 {z:Str}:aD K [(.str z),.ty "bool"] G R=R (.bl false) G:=by
  show ("bool" ∈ bR∧R (.bl (L2.subB "str" "bool")) G)=_
  rw [show L2.subB "str" "bool" = false from by decide];simp [bR]
theorem ahR {z:Str}:aD K [(.str z),.ty "str"] G R=R (.bl true) G:=by
  show ("str" ∈ bR∧R (.bl (L2.subB "str" "str")) G)=_
  rw [show L2.subB "str" "str" = true from by decide];simp [bR]
theorem af2 {z:Str}:aD K [(.str z),.ty "list"] G R=R (.bl false) G:=by
  show ("list" ∈ bR∧R (.bl (L2.subB "str" "list")) G)=_
  rw [show L2.subB "str" "list" = false from by decide];simp [bR]
theorem abV {z:Str}:aD K [(.str z),.ty "tuple"] G R=R (.bl false) G:=by
  show ("tuple" ∈ bR∧R (.bl (L2.subB "str" "tuple")) G)=_
  rw [show L2.subB "str" "tuple" = false from by decide];simp [bR]
theorem af3 {z:Str}:aD K [(.str z),.ty "dict"] G R=R (.bl false) G:=by
  show ("dict" ∈ bR∧R (.bl (L2.subB "str" "dict")) G)=_
  rw [show L2.subB "str" "dict" = false from by decide];simp [bR]
theorem ahS {xs:List D}:aD K [(.tup xs),.ty "int"] G R=R (.bl false) G:=by
  show ("int" ∈ bR∧R (.bl (L2.subB "tuple" "int")) G)=_
  rw [show L2.subB "tuple" "int" = false from by decide];simp [bR]
theorem af4 {xs:List D}:aD K [(.tup xs),.ty "bool"] G R=R (.bl false) G:=by
  show ("bool" ∈ bR∧R (.bl (L2.subB "tuple" "bool")) G)=_
  rw [show L2.subB "tuple" "bool" = false from by decide];simp [bR]
theorem ahT {xs:List D}:aD K [(.tup xs),.ty "str"] G R=R (.bl false) G:=by
  show ("str" ∈ bR∧R (.bl (L2.subB "tuple" "str")) G)=_
  rw [show L2.subB "tuple" "str" = false from by decide];simp [bR]
theorem af5 {xs:List D}:aD K [(.tup xs),.ty "list"] G R=R (.bl false) G:=by
  show ("list" ∈ bR∧R (.bl (L2.subB "tuple" "list")) G)=_
  rw [show L2.subB "tuple" "list" = false from by decide];simp [bR]
theorem abW {xs:List D}:aD K [(.tup xs),.ty "tuple"] G R=R (.bl true) G:=by
  show ("tuple" ∈ bR∧R (.bl (L2.subB "tuple" "tuple")) G)=_
  rw [show L2.subB "tuple" "tuple" = true from by decide];simp [bR]
theorem af6 {xs:List D}:aD K [(.tup xs),.ty "dict"] G R=R (.bl false) G:=by
  show ("dict" ∈ bR∧R (.bl (L2.subB "tuple" "dict")) G)=_
  rw [show L2.subB "tuple" "dict" = false from by decide];simp [bR]
theorem ae3 {q C C':Addr} {b:Bool} (h:G q=some (.exn C)) (e:ExC K C) (k:PySem.W.kitOne K (.ref C) (.ref C')=some b) (z:R (.bl b) G):aD K [.ref q,.ref C'] G R:=by
  unfold aD
  simp only [exD,h]
  exact ⟨b,e,k,z⟩
end
theorem bQ {G:Gp} {p:Addr} {xs:List D} (h:G p=some (.lst xs)):aO G p=some xs:=by unfold aO;rw [h]
theorem xX {G:Gp} {p:Addr} {xs:List D} (h:G p=some (.rol xs)):aO G p=some xs:=by unfold aO;rw [h]
theorem dR {G:Gp} {p:Addr} {xs:List D}:aO (aN G p (.lst xs)) p=some xs:=bQ aQ
theorem qW {b:Bool} {P Q:Prop} (h1:b=true→P) (h2:b=false→Q):if b=true then P else Q:=by
  cases b
  · exact h2 rfl
  · exact h1 rfl
def kn (G:Gp) (d:D):Prop:=(tyD G d).isSome=true
theorem atM {G:Gp} {q:Addr} (h:kn G (.ref q)):tyD G (.ref q)=some "list" ∨ tyD G (.ref q)=some "dict" := by
  unfold kn at h
  have e:tyD G (.ref q)=(match G q with
    | some (.lst _)=>some "list"
    | some (.rol _)=>some "list"
    | some (.lF _ _)=>some "dict"
    | _=>none):=rfl
  rw [e] at h ⊢
  split at h
  · exact .inl rfl
  · exact .inl rfl
  · exact .inr rfl
  · simp at h
theorem ak9 {G:Gp} {b:List D}:kn G (.tup b):=rfl
section
variable {G:Gp} {R:iD} {K:Fg} {q:Addr}
theorem atN {x:D} {T n:String} (e:tyD G x=some T) (hn:n∈bR):aD K [x,.ty n] G R=R (.bl (L2.subB T n)) G:=by
  show (match tyD G x with
    | some T=>n∈bR∧R (.bl (L2.subB T n)) G
    | none=>_)=_
  rw [e]
  exact propext ⟨fun h=>h.2,fun h=>⟨hn,h⟩⟩
theorem akA (h:kn G (.ref q)):aD K [.ref q,.ty "int"] G R=R (.bl false) G:=by
  rcases atM h with e | e <;> rw [atN e (by decide)] <;> rfl
theorem a2W (h:kn G (.ref q)):aD K [.ref q,.ty "tuple"] G R=R (.bl false) G:=by
  rcases atM h with e | e <;> rw [atN e (by decide)] <;> rfl
theorem at0 {α:Type} {a:α} {xs:List α}:atI (a :: xs) 0=some a:=by
  unfold atI ixN
  simp
theorem atS {α:Type} {a:α} {xs:List α} {n:Nat}:atI (a :: xs) ((n+1:Nat):Int)=atI xs (n:Int):=by
  unfold atI ixN
  have h0:(0:Int)≤((n+1:Nat):Int):=by omega
  have h1:(0:Int)≤(n:Int):=by omega
  rw [if_pos h0,if_pos h1]
  by_cases h:n < xs.length
  · have a1:((n+1:Nat):Int) < ((a :: xs).length:Int):=by simp;omega
    have a2:(n:Int) < (xs.length:Int):=by omega
    rw [if_pos a1,if_pos a2]
    simp
  · have a1:¬ ((n+1:Nat):Int) < ((a :: xs).length:Int):=by simp;omega
    have a2:¬ (n:Int) < (xs.length:Int):=by omega
    rw [if_neg a1,if_neg a2]
    rfl
theorem xY {α:Type} {xs:List α} {n:Nat}:atI xs (n:Int)=xs[n]?:=by
  unfold atI ixN
  rw [if_pos (by omega)]
  by_cases h:n < xs.length
  · rw [if_pos (by omega)];simp
  · rw [if_neg (by omega)]
    simp at h
    simp [h]
theorem azN {a:D} {xs:List D}:cQ (.tup (a :: xs)) (.int 0) G R=R a G:=ak6 at0
theorem azO {a b:D} {xs:List D}:cQ (.tup (a :: b :: xs)) (.int 1) G R=R b G:=ak6 (i:=((1:Nat):Int)) (by rw [atS,xY];rfl)
theorem azP {a b c:D} {xs:List D}:cQ (.tup (a :: b :: c :: xs)) (.int 2) G R=R c G:=ak6 (i:=((2:Nat):Int)) (by rw [atS,xY];rfl)
end
section
variable {G:Gp} {R:iD} {K:Fg} {q:Addr}
end
section
variable {G:Gp} {R:iD} {K:Fg}
theorem akB {a b:Addr} {xs ys:List D} (h1:aO G a=some xs) (h2:aO G b=some ys) (s1:xs.all (aL 20)=true) (s2:ys.all (aL 20)=true):qO (.ref a) (.ref b) G R=R (.bl (jH xs ys)) G:=by
  show eqG G (.ref a) (.ref b) (fun b=>R (.bl b) G)=_
  unfold eqG
  simp only [h1,h2,s1,s2,true_and]
theorem a1F {a b:Addr} {xs ys:List D} (h1:aO G a=some xs) (h2:aO G b=some ys) (s1:xs.all (aL 20)=true) (s2:ys.all (aL 20)=true):xK (.ref a) (.ref b) G R=R (.bl (!jH xs ys)) G:=by
  show eqG G (.ref a) (.ref b) (fun b=>R (.bl (!b)) G)=_
  unfold eqG
  simp only [h1,h2,s1,s2,true_and]
end
section
variable {G:Gp} {R:iD} {K:Fg} {i j:Int}
theorem aGW (h:-18446744073709551616 < i∧i < 18446744073709551616):mR (.int i) (.int j) G R=R (.int (i * j)) G:=by
  rw [aC4]
  exact propext ⟨fun z=>z.2,fun z=>⟨.inl ⟨by have:=h.1;omega,by have:=h.2;omega⟩,z⟩⟩
theorem aGX (h:-18446744073709551616 < j∧j < 18446744073709551616):mR (.int i) (.int j) G R=R (.int (i * j)) G:=by
  rw [aC4]
  exact propext ⟨fun z=>z.2,fun z=>⟨.inr ⟨by have:=h.1;omega,by have:=h.2;omega⟩,z⟩⟩
theorem azQ (h:0 < j∧j < 1073741824):lK (.int i) (.int j) G R=R (.int (i / j)) G:=by
  rw [aGU]
  exact propext ⟨fun z=>z.2,fun z=>⟨h,z⟩⟩
theorem aGY (h:0 < j):iH (.int i) (.int j) G R=R (.int (i % j)) G:=by
  rw [aMB]
  exact propext ⟨fun z=>z.2,fun z=>⟨h,z⟩⟩
theorem aGZ (h:0≤j∧j≤1000000∧i.natAbs < 18446744073709551616):alV (.int i) (.int j) G R=R (.int (i ^ j.toNat)) G:=by
  rw [aMC]
  exact propext ⟨fun z=>z.2,fun z=>⟨⟨h.1,h.2.1,h.2.2⟩,z⟩⟩
end
section
variable {G:Gp} {R:iD} {K:Fg} {i j:Int}
theorem all_nil {P:D→Prop}:∀ d∈([]:List D),P d:=fun _ h=>by simp at h
theorem all_cons {P:D→Prop} {a:D} {r:List D} (h1:P a) (h2:∀ d∈r,P d):∀ d∈a :: r,P d:=fun d h=>by
  rcases List.mem_cons.mp h with rfl | h
  · exact h1
  · exact h2 d h
end
def aQD (i:Nat) (x:D) (tb:bA) (F:cZ) (ρ:aM) (G1:Gp):Prop:=match x with
  | .ref p=>(match aO G1 p with
    | some xs=>∃ P:Nat→aM→Gp→Prop,P 0 ρ G1∧(∀ k ρ G,k≤xs.length→P k ρ G→aO G p=some xs) ∧
        (∀ k d ρ G,xs[k]?=some d→P k ρ G→tb { F with nx:=P (k+1),ct:=P (k+1),bk:=F.nx } (rR ρ i d) G)∧∀ ρ G,P xs.length ρ G→F.nx ρ G
    | none=>False)
  | _=>False
theorem aME {i:Nat} {te:bU} {tb:bA} {F:cZ} {ρ:aM} {G:Gp}:aKG i te tb F ρ G=te ρ G fun x G1=>aQD i x tb F ρ G1:=rfl
def aMF (i:Nat) (xs:List D) (tb:bA) (F:cZ) (ρ:aM) (G1:Gp):Prop:=match xs with
  | [.int j]=>-(2 ^ 62)≤j∧j < 2 ^ 62∧∃ P:Nat→aM→Gp→Prop,P 0 ρ G1∧(∀ k ρ G,k < j.toNat→P k ρ G→tb { F with nx:=P (k+1),ct:=P (k+1),bk:=F.nx } (rR ρ i (.int k)) G)∧∀ ρ G,P j.toNat ρ G→F.nx ρ G
  | _=>False
theorem aH0 {i:Nat} {ta:nT} {tb:bA} {F:cZ} {ρ:aM} {G:Gp}:aE9 i ta tb F ρ G=ta ρ G fun xs G1=>aMF i xs tb F ρ G1:=rfl
section
variable {P Q:Prop} {b c:Bool} {α:Type} {a:α} {l:List α}
theorem akC:(True∧P)=P:=true_and P
theorem akD:(P∧True)=P:=and_true P
theorem akE:(P∧P)=P:=and_self P
theorem aoZ:(P∨True)=True:=or_true P
theorem ap0:(True∨P)=True:=true_or P
theorem akF:(!true)=false:=rfl
theorem ahU:(!false)=true:=rfl
theorem atO:((!b)=true)=(b=false):=by cases b <;> simp
theorem ap1:(if True then P else Q)=P:=if_true ..
theorem akG:(if False then P else Q)=Q:=if_false ..
theorem aMG:(false=true)=False:=by simp
theorem aMH:(true=false)=False:=by simp
theorem aH1:(b=b)=True:=by simp
theorem akH:(a :: l).length=l.length+1:=List.length_cons
theorem ap2:([]:List α).length=0:=rfl
theorem ap3 {β:Type} {f:α→β}:(l.map f).length=l.length:=List.length_map ..
end
end L5
namespace L6
open PySem PySem.Spec PyProof.Rows L2 L4 L5
def atP (x:D) (G:Gp) (Q:Src→Gp→Prop):Prop:=match x with
  | .ref p=>(match aO G p with
    | some xs=>Q (.lst p xs) G
    | none=>False)
  | .tup xs=>Q (.imm xs) G
  | .str z=>Q (.imm (signs z)) G
  | _=>False
def ahV (x:D) (G:Gp) (Q:Src→Gp→Prop):Prop:=match x with
  | .ref p=>(match aO G p with
    | some xs=>Q (.lst p xs) G
    | none=>False)
  | .str z=>Q (.imm (signs z)) G
  | .tup xs=>xs.all scD=true∧∀ a,(G a=none∨G a=some (.tpl xs))→Q (.tpl a xs) (aN G a (.tpl xs))
  | _=>False
def aC5 (xs:List D) (G:Gp) (Q:Src→Gp→Prop):Prop:=match xs with
  | [.int j]=>-(2 ^ 62)≤j∧j < 2 ^ 62∧Q (.imm (xO 0 j)) G
  | _=>False
def aC6 (xs:List D) (G:Gp) (Q:Src→Gp→Prop):Prop:=match xs with
  | [.int i,.int j]=>(-(2 ^ 62)≤i∧i < 2 ^ 62∧-(2 ^ 62)≤j∧j < 2 ^ 62)∧Q (.imm (xO i j)) G
  | _=>False
def aH2 (xs:List D) (G:Gp) (Q:Src→Gp→Prop):Prop:=match xs with
  | [.ref p,.ref q]=>(match aO G p,aO G q with
    | some xs,some ys=>Q (.zip p q xs ys) G
    | _,_=>False)
  | _=>False
theorem aH3 {te td:bU} {ρ:aM} {G:Gp} {R:iD}:am9 te td ρ G R=te ρ G fun x G1=>td ρ G1 fun d G2=>xR x d G2 R:=rfl
theorem aH4 {G:Gp} {R:iD} {p:Addr} {d:D} {ns:List Int} (hp:aO G p=some (ns.map D.int)) (h0:ns=[]→R d G) (h:∀ M,M∈ns→(∀ a∈ns,a≤M)→R (.int M) G):xR (.ref p) d G R:=by
  unfold xR
  simp only [hp]
  exact ⟨ns,rfl,h0,h⟩
section
variable {te:bU} {ta:nT} {ρ:aM} {G:Gp} {Q:Src→Gp→Prop} {p:Addr} {xs:List D} {z:Str} {i j:Int}
theorem azR:a4V te ρ G Q=te ρ G fun x G1=>atP x G1 Q:=rfl
theorem aMI:ah2 te ρ G Q=te ρ G fun x G1=>ahV x G1 Q:=rfl
theorem aH5:uU ta ρ G Q=ta ρ G fun xs G1=>aC5 xs G1 Q:=rfl
theorem aMJ:a91 ta ρ G Q=ta ρ G fun xs G1=>aH2 xs G1 Q:=rfl
theorem aH6:aET ta ρ G Q=ta ρ G fun xs G1=>aC6 xs G1 Q:=rfl
theorem a9I (h:aO G p=some xs):atP (.ref p) G Q=Q (.lst p xs) G:=by unfold atP;simp only [h]
theorem ap4 {q:Addr} {ys:List D} (h:aO G p=some xs) (h':aO G q=some ys):aH2 [.ref p,.ref q] G Q=Q (.zip p q xs ys) G:=by unfold aH2;simp only [h,h']
theorem atQ:atP (.tup xs) G Q=Q (.imm xs) G:=rfl
theorem atR:atP (.str z) G Q=Q (.imm (signs z)) G:=rfl
theorem zR (h:aO G p=some xs):ahV (.ref p) G Q=Q (.lst p xs) G:=by unfold ahV;simp only [h]
theorem ap5:ahV (.str z) G Q=Q (.imm (signs z)) G:=rfl
theorem azS (h:-4611686018427387904≤j∧j < 4611686018427387904):aC5 [.int j] G Q=Q (.imm (xO 0 j)) G:=by
  show (_∧_∧_)=_
  exact propext ⟨fun z=>z.2.2,fun z=>⟨by omega,by omega,z⟩⟩
theorem azT (h:-4611686018427387904≤i∧i < 4611686018427387904∧-4611686018427387904≤j∧j < 4611686018427387904):aC6 [.int i,.int j] G Q=Q (.imm (xO i j)) G:=by
  show ((_∧_∧_∧_)∧_)=_
  exact propext ⟨fun z=>z.2,fun z=>⟨⟨by omega,by omega,by omega,by omega⟩,z⟩⟩
end
def atU (dv:D→Option (List D)) (src:Src) (tc:TT3) (te:bU) (ρ:aM) (G1:Gp) (R:iD):Prop:=src.items.length < sizeLine∧∀ p,G1 p=none→∃ P:Nat→List D→Gp→Prop,P 0 [] (aN G1 p (.lst [])) ∧
  (∀ k ds G,k≤src.items.length→P k ds G→src.ok G∧G p=some (.lst ds)∧ds.length≤k) ∧
  (∀ k d ds G,src.items[k]?=some d→P k ds G→∃ ys,dv d=some ys∧tc (ys.map some++ρ) G fun b G2=>if b=true then te (ys.map some++ρ) G2 fun y G3=>G3 p=some (.lst ds)∧P (k+1) (ds++[y]) (aN G3 p (.lst (ds++[y]))) else P (k+1) ds G2) ∧
  ∀ ds G,P src.items.length ds G→∃ G0,Le G0 G∧R (.ref p) G0
theorem aH7 {dv:D→Option (List D)} {ti:TI3} {tc:TT3} {te:bU} {ρ:aM} {G:Gp} {R:iD}:a2Q dv ti tc te ρ G R=ti ρ G fun src G1=>atU dv src tc te ρ G1 R:=rfl
theorem eF {G G':Gp} (l:Le G G') {p:Addr} {xs:List D} (h:aO G p=some xs):aO G' p=some xs:=by
  unfold aO at h ⊢
  split at h
  · rename_i e;rw [l _ _ e];exact h
  · rename_i e;rw [l _ _ e];exact h
  · cases h
theorem aMK {G G':Gp} (l:Le G G') {src:Src} (h:src.ok G):src.ok G':=by
  cases src with
  | lst p xs=>exact eF l h
  | imm xs=>trivial
  | zip p q xs ys=>exact ⟨eF l h.1,eF l h.2⟩
  | itm p o kvs=>exact l _ _ h
  | key p o t kvs=>exact l _ _ h
  | tpl p xs=>exact l _ _ h
  | enu p xs=>exact l _ _ h
theorem aH8 {G G':Gp} {p:Addr} {o o':GO} (l:Le (aN G p o) G'):Le (aN G p o') (aN G' p o'):=fun a u e=>by
  by_cases h:a=p
  · subst h;rw [aQ] at e ⊢;exact e
  · rw [bK h] at e ⊢
    exact l a u (by rw [bK h];exact e)
theorem ahW {dv:D→Option (List D)} {src:Src} {tc:TT3} {te:bU} {ρ:aM} {G:Gp} {R:iD} (v:D→List D) (c:D→Bool) (f:D→D) (hl:src.items.length < sizeLine) (hok:src.ok G) (hv:∀ d∈src.items,dv d=some (v d))
    (hc:∀ d∈src.items,∀ G',Le G G'→∀ Q:Bool→Gp→Prop,(∀ G'',Le G' G''→Q (c d) G'')→tc ((v d).map some++ρ) G' Q)
    (he:∀ d∈src.items,c d=true→∀ G',Le G G'→∀ Q:D→Gp→Prop,(∀ G'',Le G' G''→Q (f d) G'')→te ((v d).map some++ρ) G' Q)
    (h:∀ p,G p=none→R (.ref p) (aN G p (.lst ((src.items.filter c).map f)))):atU dv src tc te ρ G R:=by
  refine ⟨hl,fun p hp=>⟨fun k ds G'=>ds=((src.items.take k).filter c).map f∧Le (aN G p (.lst ds)) G',⟨rfl,.refl _⟩,fun k ds G' hk ⟨e,l⟩=>?_,fun k d ds G' hd ⟨e,l⟩=>?_,fun ds G' ⟨e,l⟩=>?_⟩⟩
  · refine ⟨aMK ((Le.new hp).trans l) hok,l p _ aQ,?_⟩
    rw [e,List.length_map]
    exact Nat.le_trans (List.length_filter_le _ _) (by rw [List.length_take];omega)
  · have hm:d∈src.items:=List.mem_of_getElem? hd
    have ht:src.items.take (k+1)=src.items.take k++[d]:=by
      rw [List.take_succ,hd];rfl
    refine ⟨v d,hv d hm,hc d hm G' ((Le.new hp).trans l) _ fun G2 l2=>?_⟩
    cases hcd:c d with
    | true =>
      rw [if_pos rfl]
      refine he d hm hcd G2 (((Le.new hp).trans l).trans l2) _ fun G3 l3=>?_
      have l4:=(l.trans l2).trans l3
      refine ⟨l4 p _ aQ,?_,aH8 l4⟩
      rw [ht,List.filter_append,List.map_append,← e]
      simp [hcd]
    | false =>
      rw [if_neg (by decide)]
      refine ⟨?_,l.trans l2⟩
      rw [ht,List.filter_append,List.map_append,← e]
      simp [hcd]
  · rw [List.take_length] at e
    subst e
    exact ⟨_,l,h p hp⟩
def ad1 (src:Src) (tg:TG3) (tb:bA) (F:cZ) (ρ:aM) (G1:Gp):Prop:=∃ P:Nat→aM→Gp→Prop,P 0 ρ G1∧(∀ k ρ G,k≤src.items.length→P k ρ G→src.ok G) ∧
  (∀ k d ρ G,src.items[k]?=some d→P k ρ G→tg d ρ fun ρ2=>tb { F with nx:=P (k+1),ct:=P (k+1),bk:=F.nx } ρ2 G)∧∀ ρ G,P src.items.length ρ G→F.nx ρ G
theorem aH9 {ti:TI3} {tg:TG3} {tb:bA} {F:cZ} {ρ:aM} {G:Gp}:nF ti tg tb F ρ G=ti ρ G fun src G1=>ad1 src tg tb F ρ G1:=rfl
theorem azU {i:Nat} {d:D} {ρ:aM} {Q:aM→Prop}:p8 i d ρ Q=Q (rR ρ i d):=rfl
theorem af7 {is:List Nat} {ds:List D} {ρ:aM} {Q:aM→Prop} (h:ds.length=is.length):a2R is (.tup ds) ρ Q=Q (a6C ρ is ds):=propext ⟨fun z=>z.2,fun z=>⟨h,z⟩⟩
theorem azV {is:List Nat} {ρ:aM}:a6C ρ is []=ρ:=by cases is <;> rfl
theorem amO {i:Nat} {is:List Nat} {d:D} {ds:List D} {ρ:aM}:a6C ρ (i :: is) (d :: ds)=a6C (rR ρ i d) is ds:=rfl
theorem a9J {tg:TG3} {tb:bA} {F:cZ} {ρ:aM} {G:Gp} {j:Int} (P:Nat→aM→Gp→Prop) (h0:P 0 ρ G)
    (hb:∀ (k:Nat) ρ G,(k:Int) < j→P k ρ G→tg (.int k) ρ fun ρ2=>tb { F with nx:=P (k+1),ct:=P (k+1),bk:=F.nx } ρ2 G) (he:∀ ρ G,P j.toNat ρ G→F.nx ρ G):ad1 (.imm (xO 0 j)) tg tb F ρ G:=by
  have hlen:(Src.imm (xO 0 j)).items.length=j.toNat:=by simp [Src.items,xO]
  refine ⟨P,h0,fun _ _ _ _ _=>trivial,fun k d ρ G hd p=>?_,fun ρ G p=>he ρ G (hlen ▸ p)⟩
  have hk:k < j.toNat:=by rw [← hlen];exact (List.getElem?_eq_some_iff.mp hd).1
  have e:d = .int k:=by
    have:(xO 0 j)[k]?=some d:=hd
    unfold xO at this
    rw [List.getElem?_map,List.getElem?_range (by omega)] at this
    simp at this
    exact this.symm
  subst e
  exact hb k ρ G (by omega) p
theorem a2X {tg:TG3} {tb:bA} {F:cZ} {ρ:aM} {G:Gp} {q:Addr} {xs:List D} (P:Nat→aM→Gp→Prop) (h0:P 0 ρ G) (hs:∀ k ρ G,P k ρ G→aO G q=some xs)
    (hb:∀ k d ρ G,xs[k]?=some d→P k ρ G→tg d ρ fun ρ2=>tb { F with nx:=P (k+1),ct:=P (k+1),bk:=F.nx } ρ2 G) (he:∀ ρ G,P xs.length ρ G→F.nx ρ G):ad1 (.lst q xs) tg tb F ρ G :=
  ⟨P,h0,fun k ρ G _ p=>hs k ρ G p,hb,he⟩
section
variable {G:Gp} {R:iD}
theorem aML {i j:Int}:xQ [.int i,.int j] G R=R (.int (if j < i then j else i)) G:=rfl
theorem aMM {i j:Int}:xP [.int i,.int j] G R=R (.int (if i < j then j else i)) G:=rfl
theorem a9K {p:Addr} {ds:List D} {d:D} (h:G p=some (.lst ds)) (hl:ds.length < sizeLine):oZ (.ref p) [d] G R=R .non (aN G p (.lst (ds++[d]))):=by
  unfold oZ
  simp only [h,hl,true_and]
theorem atV {q:Addr} {ds:List D} (h:aO G q=some ds):a4T [.ref q] G R=∀ l,G l=none→R (.ref l) (aN G l (.lst ds)):=by
  unfold a4T
  simp only [h]
theorem atX {ds:List D}:a4T [.tup ds] G R=∀ l,G l=none→R (.ref l) (aN G l (.lst ds)):=rfl
end
theorem af8 {G:Gp} {a p:Addr} {o:GO} (h:G a=some o) (n:G p=none):a≠p:=fun e=>by subst e;rw [h] at n;cases n
theorem aC7 {G G':Gp} (l:Le G G') {d:D} (h:kn G d):kn G' d:=by
  cases d with
  | ref q =>
    unfold kn tyD at h ⊢
    dsimp only at h ⊢
    split at h
    · rename_i e;rw [l _ _ e];rfl
    · rename_i e;rw [l _ _ e];rfl
    · rename_i e;rw [l _ _ e];rfl
    · cases h
  | _=>exact h
theorem azW {i j:Int}:(xO i j).length=(j - i).toNat:=by simp [xO]
section
variable {G:Gp} {R:iD} {F:cZ} {ρ:aM}
theorem aHA {is:List Nat} {te:bU}:aF3 is te F ρ G=te ρ G fun d G1=>a2R is d ρ fun ρ2=>F.nx ρ2 G1:=rfl
theorem aMN {i:Nat} {f:Int→Int→Int} {te:bU}:aL2 i f te F ρ G=aB i ρ G fun x G0=>onN x fun a=>te ρ G0 fun y G1=>onN y fun b=>F.nx (rR ρ i (.int (f a b))) G1:=rfl
theorem aMO {k:Int} {f:Int→Prop}:onN (.int k) f=f k:=rfl
theorem azX {a b:Int}:aLU false a b=a+b:=rfl
theorem azY {a b:Int}:aLU true a b=a - b:=rfl
theorem ahX:∀ ns ms:List Int,ns.map D.int=ms.map D.int→ns=ms
  | [],[],_=>rfl
  | [],_ :: _,e=>by cases e
  | _ :: _,[],e=>by cases e
  | n :: ns,m :: ms,e=>by
    simp only [List.map_cons,List.cons.injEq] at e
    obtain ⟨e1,e2⟩:=e
    cases e1
    rw [ahX ns ms e2]
theorem aMP {q:Addr} {ns:List Int} (h:aO G q=some (ns.map D.int)):am6 [.ref q] G R=R (.int ns.sum) G:=by
  refine propext ⟨fun z=>?_,fun z=>?_⟩
  · have z':(match aO G q with
      | some ds=>∃ ns:List Int,ds=ns.map D.int∧R (.int ns.sum) G
      | none=>False):=z
    rw [h] at z'
    obtain ⟨ms,e,r⟩:=z'
    rw [ahX ns ms e];exact r
  · show (match aO G q with
      | some ds=>∃ ns:List Int,ds=ns.map D.int∧R (.int ns.sum) G
      | none=>False)
    rw [h]
    exact ⟨ns,rfl,z⟩
theorem azZ {xs ys:List D}:aL5 (.tup xs) (.tup ys) G R=(arV G xs ys=true∧R (.bl (arW G xs ys)) G):=rfl
theorem aA0 {xs ys:List D}:aL6 (.tup xs) (.tup ys) G R=(arV G xs ys=true∧R (.bl (!arW G xs ys)) G):=rfl
theorem aMQ {C:Addr} {t:nT}:am7 C t ρ G R=t ρ G fun ds G1=>ds.length≤sizeLine∧∀ x,G1 x=none→R (.ref x) (aN G1 x (.exn C)):=rfl
end
end L6
namespace L7
open PySem PySem.Spec PyProof.Rows L2 L4 L5 L6
section
variable {ρ:aM} {G:Gp} {R:iD} {F:cZ} {p:Addr}
theorem aHB {ta:nT} {Q:Src→Gp→Prop}:aFF ta ρ G Q=ta ρ G fun xs G1=>aBR xs G1 Q:=rfl
theorem aMR {te:bU} {tk:TO3}:amD te tk ρ G R=te ρ G fun x G1=>tk ρ G1 fun o G2=>o=some (-1)∧acU x G2 R:=rfl
theorem aMS {ds:List D} (h:aO G p=some ds):acU (.ref p) G R=∀ q,G q=none→R (.ref q) (aN G q (.lst ds.reverse)):=by
  unfold L2.acU
  simp only [h]
theorem aMT {i:Nat} {t:bA}:a96 i t F ρ G=t { nx:=fun ρ G=>F.nx (nD ρ i) G,rt:=F.rt,bk:=fun ρ G=>F.bk (nD ρ i) G,ct:=fun ρ G=>F.ct (nD ρ i) G } (nD ρ i) G:=rfl
theorem aHC:axC ρ G R=∀ p,G p=none→R (.ref p) (aN G p (.lF true [])):=rfl
theorem aHD {to ti tv:bU}:aeF to ti tv F ρ G=tv ρ G fun v G1=>to ρ G1 fun x G2=>ti ρ G2 fun y G3=>ah8 x y v F ρ G3:=rfl
end
end L7
namespace L8
open PySem PySem.Spec PyProof.Rows L2 L4 L5 L6 L7
section
variable {ρ:aM} {G:Gp} {R:iD} {F:cZ} {p C:Addr} {f m:Str} {fs:List (Str×D)}
theorem aMU {ta:bU}:aL9 C ta f ρ G R=ta ρ G fun x G1=>aL8 C f x G1 R:=rfl
theorem aHE {ta tv:bU}:aF8 C ta tv f F ρ G=tv ρ G fun y G1=>ta ρ G1 fun x G2=>aBP C f x y F ρ G2:=rfl
theorem aA1 {sp:uL} {dd:List D} {EX:aM→aW} {ta:bU} {t:nT}:aF9 C m sp dd EX ta t ρ G R=ta ρ G fun x G1=>aBQ C m x G1∧t ρ G1 fun ds G2=>sp (x :: (ds++dd)) G2 R (EX ρ):=rfl
theorem aA2 {sp:uL} {dd:List D} {EX:aM→aW} {t:nT}:aeB C sp dd EX t ρ G R=t ρ G fun ds G1=>∀ x,G1 x=none→sp (.ref x :: (ds++dd)) (aN G1 x (.ins C [])) (fun v G2=>v = .non∧R (.ref x) G2) (EX ρ):=rfl
theorem aQE {r:RM3} {to:bU} {t:nT}:aPR r to t ρ G R=to ρ G fun x G1=>xU x G1∧t ρ G1 fun xs G2=>r x xs G2 R:=rfl
theorem aA3 {to te tf:bU}:a87 to te tf ρ G R=to ρ G fun x G1=>xU x G1∧te ρ G1 fun y G2=>tf ρ G2 fun z G3=>xT x y G3 fun _ _ kvs k=>R ((rT kvs k).getD z) G3:=rfl
theorem atY {t:Bool} {kvs:List (DK×D)} (h:G p=some (.lF t kvs)):xU (.ref p) G=True:=by
  unfold L2.xU
  simp only [h]
theorem a9L {t:Bool} {kvs:List (DK×D)} {y:D} {k:DK} {P:Addr→Bool→List (DK×D)→DK→Prop} (h:G p=some (.lF t kvs)) (hk:abQ y=some k) (ht:a06 k=t):xT (.ref p) y G P=P p t kvs k:=by
  unfold L2.xT
  simp only [h,hk]
  exact propext ⟨fun z=>z.2,fun z=>⟨ht,z⟩⟩
theorem ap6 {t:Bool} {kvs:List (DK×D)} {y:D} {k:DK} {P:List (DK×D)→DK→Prop} (h:a6D G p=some (t,kvs)) (hk:abQ y=some k) (ht:a06 k=t):a94 (.ref p) y G P=P kvs k:=by
  unfold L2.a94
  simp only [h,hk,ht,true_and]
theorem ap7 {t:Bool} {kvs:List (DK×D)} (h:G p=some (.lF t kvs)):a6D G p=some (t,kvs):=by unfold L2.a6D;rw [h]
theorem atZ {t:Bool} {kvs:List (DK×D)} {y d:D} {k:DK} (h:a6D G p=some (t,kvs)) (hk:abQ y=some k) (ht:a06 k=t) (e:rT kvs k=some d):a4Z (.ref p) y G R=R d G:=by
  unfold L2.a4Z
  rw [ap6 h hk ht]
  simp only [e]
theorem aA4 {t:Bool} {kvs:List (DK×D)} {y d:D} {k:DK} (h:G p=some (.lF t kvs)) (hk:abQ y=some k) (ht:a06 k=t) (e:rT kvs k=some d):a4Z (.ref p) y G R=R d G:=atZ (ap7 h) hk ht e
end
end L8
namespace L9
open PySem PySem.Spec PyProof.Rows L2 L4 L5 L6 L7 L8
section
variable {ρ:aM} {G:Gp} {R:iD} {F:cZ} {p:Addr}
abbrev ky (a p:Int):List Key:=[.inl a,.inl p]
theorem aA5 {to:bU}:axT to ρ G R=to ρ G fun x G1=>amG x G1 R:=rfl
theorem aHF {to:bU}:aFJ to ρ G R=to ρ G fun x G1=>asF x G1 R:=rfl
theorem aHG {t:Bool} {tk tv:bU}:aeI t tk tv ρ G R=∀ p,G p=none→tk ρ (aN G p (.lF t [])) fun y G1=>tv ρ G1 fun v G2=>xT (.ref p) y G2 fun a t' kvs k=>kvs.length < sizeLine∧R (.ref p) (aN G2 a (.lF t' (a7H kvs k v))):=rfl
theorem a2Y {i:Int}:abQ (.int i)=some (.inl (.inl i)):=rfl
theorem aA6 {t:Bool} {y v:D} {k:DK} {kvs:List (DK×D)} (h:G p=some (.lF t kvs)) (hk:abQ y=some k) (ht:a06 k=t) (hl:kvs.length < sizeLine):ah8 (.ref p) y v F ρ G=F.nx ρ (aN G p (.lF t (a7H kvs k v))):=by
  unfold L2.ah8
  rw [a9L h hk ht]
  exact propext ⟨fun w=>w.2,fun w=>⟨hl,w⟩⟩
end
end L9
namespace L10
open PySem PySem.Spec PyProof.Rows L2 L4 L5 L6
section
variable {ρ:aM} {G:Gp} {F:cZ} {p:Addr} {al t:Bool} {od:Obj} {kvs:List (DK×D)} {Q:Src→Gp→Prop} {tg:TG3} {tb:bA}
theorem ap8 {to:bU}:o8 al to ρ G Q=to ρ G fun x G1=>a99 al x G1 Q:=rfl
theorem au0 {te:bU}:aFM al te ρ G Q=te ρ G fun x G1=>aBT al x G1 Q:=rfl
theorem aA7 {to:bU} {R:iD}:axZ to ρ G R=to ρ G fun x G1=>amH x G1 R:=rfl
theorem aA8 (h:G p=some (.lF false kvs)):a99 al (.ref p) G Q=∀ od,Q (.itm p od kvs) (aN G p (.rdc od false kvs)):=by
  unfold L2.a99
  simp only [h]
def aC8 (src:Src) (tg:TG3) (tb:bA) (F:cZ) (ρ:aM) (G1:Gp):Prop:=∃ P:Nat→aM→Gp→Prop,P 0 ρ G1∧(∀ k ρ G,k≤src.items.length→P k ρ G→src.ok G) ∧
  (∀ k d ρ G,src.items[k]?=some d→P k ρ G→tg d ρ fun ρ2=>tb { F with nx:=P (k+1),ct:=P (k+1),bk:=fun ρ G=>src.ok G∧F.nx ρ (src.ak1 G) } ρ2 G)∧∀ ρ G,P src.items.length ρ G→F.nx ρ (src.ak1 G)
theorem aHH {ti:TI3}:a88 ti tg tb F ρ G=ti ρ G fun src G1=>aC8 src tg tb F ρ G1:=rfl
theorem a9M {α β:Type} {f:α→β} {l:List α} {k:Nat} {d:β} (h:(l.map f)[k]?=some d):∃ q,l[k]?=some q∧f q=d:=by
  rw [List.getElem?_map] at h
  cases e:l[k]? with
  | none=>rw [e] at h;cases h
  | some q=>rw [e] at h;exact ⟨q,rfl,Option.some.inj h⟩
theorem au1 (P:Nat→aM→Gp→Prop) (h0:P 0 ρ G) (hs:∀ k ρ G,P k ρ G→G p=some (.rdc od false kvs))
    (hb:∀ k q ρ G,kvs[k]?=some q→P k ρ G→tg (.tup [dkD q.1,q.2]) ρ fun ρ2=>tb { F with nx:=P (k+1),ct:=P (k+1),bk:=fun ρ G=>G p=some (.rdc od false kvs)∧F.nx ρ (aN G p (.lF false kvs)) } ρ2 G)
    (he:∀ ρ G,P kvs.length ρ G→F.nx ρ (aN G p (.lF false kvs))):aC8 (.itm p od kvs) tg tb F ρ G :=
  ⟨P,h0,fun k ρ G _ q=>hs k ρ G q,fun k d ρ G e q=>by obtain ⟨z,e1,rfl⟩:=a9M e;exact hb k z ρ G e1 q,fun ρ G q=>he ρ G (by simpa [Src.items] using q)⟩
end
end L10
namespace L11
open PySem PySem.Spec PyProof.Rows L2 L4 L5 L6
def aC9 (xs:List D) (G1:Gp) (R:Src→Gp→Prop):Prop:=match xs with
  | [.tup ds]=>ds.all scD=true∧∀ a,(G1 a=none∨G1 a=some (.tpl ds))→R (.enu a ds) (aN G1 a (.tpl ds))
  | _=>False
section
variable {ρ:aM} {G:Gp} {F:cZ} {p:Addr} {xs:List D} {Q:Src→Gp→Prop} {tg:TG3} {tb:bA} {R:iD}
theorem au2 {ta:nT}:aeL ta ρ G Q=ta ρ G fun xs G1=>aC9 xs G1 Q:=rfl
theorem aA9 (ns:List Int):(ns.map D.int).all scD=true:=by
  rw [List.all_eq_true]
  rintro d hd
  obtain ⟨n,_,rfl⟩:=List.mem_map.mp hd
  rfl
theorem au3 {a:Addr} (h:G a=none∨G a=some (.tpl xs)):Le G (aN G a (.tpl xs)):=fun b u e=>by
  by_cases c:b=a
  · subst c
    rcases h with h | h
    · rw [h] at e;cases e
    · rw [aQ];rw [h] at e;exact e
  · rw [bK c];exact e
theorem au4 {ns:List Int} (h:∀ a,(G a=none∨G a=some (.tpl (ns.map D.int)))→Q (.enu a (ns.map D.int)) (aN G a (.tpl (ns.map D.int)))):aC9 [.tup (ns.map D.int)] G Q:=⟨aA9 ns,h⟩
theorem ap9 (hs:xs.all scD=true) (h:∀ a,(G a=none∨G a=some (.tpl xs))→Q (.tpl a xs) (aN G a (.tpl xs))):ahV (.tup xs) G Q:=⟨hs,h⟩
theorem au5 (P:Nat→aM→Gp→Prop) (h0:P 0 ρ G) (hs:∀ k ρ G,P k ρ G→G p=some (.tpl xs))
    (hb:∀ k d ρ G,xs[k]?=some d→P k ρ G→tg d ρ fun ρ2=>tb { F with nx:=P (k+1),ct:=P (k+1),bk:=F.nx } ρ2 G) (he:∀ ρ G,P xs.length ρ G→F.nx ρ G):ad1 (.tpl p xs) tg tb F ρ G :=
  ⟨P,h0,fun k ρ G _ q=>hs k ρ G q,fun k d ρ G e q=>hb k d ρ G e q,fun ρ G q=>he ρ G q⟩
theorem au6 (P:Nat→aM→Gp→Prop) (h0:P 0 ρ G) (hs:∀ k ρ G,P k ρ G→G p=some (.tpl xs))
    (hb:∀ k d ρ G,xs[k]?=some d→P k ρ G→tg (.tup [.int k,d]) ρ fun ρ2=>tb { F with nx:=P (k+1),ct:=P (k+1),bk:=F.nx } ρ2 G) (he:∀ ρ G,P xs.length ρ G→F.nx ρ G):ad1 (.enu p xs) tg tb F ρ G:=by
  refine ⟨P,h0,fun k ρ G _ q=>hs k ρ G q,fun k d ρ G e q=>?_,fun ρ G q=>he ρ G (by rw [← aeK];exact q)⟩
  have hk:k < xs.length:=by
    have:=(List.getElem?_eq_some_iff.mp e).1
    rw [show (Src.enu p xs).items=enm xs from rfl,aeK] at this
    exact this
  have e2:=amI (List.getElem?_eq_getElem hk)
  rw [show (Src.enu p xs).items=enm xs from rfl,e2] at e
  cases e
  exact hb k _ ρ G (List.getElem?_eq_getElem hk) q
theorem amP {a b:Int} {ns ms:List Int} (h1:ltP b ms a ns=true→R (.tup [.int b,.tup (ms.map D.int)]) G) (h2:ltP b ms a ns=false→R (.tup [.int a,.tup (ns.map D.int)]) G):a9D [.tup [.int a,.tup (ns.map D.int)],.tup [.int b,.tup (ms.map D.int)]] G R:=by
  refine ⟨ns,ms,rfl,rfl,?_⟩
  cases e:ltP b ms a ns with
  | true=>exact h1 e
  | false=>exact h2 e
theorem aMV {a b:Int} {ns ms:List Int} (h:ltP b ms a ns=true):b≤a:=by
  unfold L2.ltP at h
  split at h
  · omega
  · have:=of_decide_eq_true h;omega
theorem aMW {a b:Int} {ns ms:List Int} (h:ltP b ms a ns=false):a≤b:=by
  unfold L2.ltP at h
  split at h
  · omega
  · have:=of_decide_eq_false h;omega
end
end L11
namespace Law
open PySem PySem.Spec PyProof.Rows L2 L4
def top (i:Nat):Stmt:=PySem.Challenge.pw_depot_k74_whole_no_shorter_walk.main.body.getD i (.Pass ⟨0,0,0,0⟩)
abbrev d8:Stmt:=top 7
abbrev eO:Stmt:=top 8
abbrev eU:Stmt:=top 11
abbrev cN:Stmt:=top 12
abbrev gA:Stmt:=top 13
abbrev eV:Stmt:=top 14
abbrev xZ:Stmt:=top 15
abbrev d9:Stmt:=top 17
abbrev aY:Stmt:=top 20
abbrev dB:Stmt:=top 21
abbrev bL:Stmt:=top 22
abbrev bT:Stmt:=top 23
abbrev bD:Stmt:=top 24
abbrev bM:Stmt:=top 25
abbrev jK:Stmt:=top 27
abbrev dD:Stmt:=top 26
abbrev pB:Stmt:=top 28
abbrev gB:Stmt:=top 29
abbrev bN:Stmt:=top 31
abbrev c7:Stmt:=top 32
abbrev cO:Stmt:=top 33
abbrev cP:Stmt:=top 34
abbrev cA:Stmt:=top 35
abbrev yC:Stmt:=top 36
structure bI where
  iY:Addr
  a1G:FuncData
  lQ:Addr
  a5C:FuncData
  lR:Addr
  a5D:FuncData
  gC:Addr
  yD:FuncData
  pC:Addr
  a9N:FuncData
  lU:Addr
  a5E:FuncData
  a9O:Addr
  au7:FuncData
  iZ:Addr
  a1H:FuncData
  cB:Addr
  jL:FuncData
  j4:Addr
  a1I:FuncData
  dF:Addr
  pD:FuncData
  dX:Addr
  rW:FuncData
  cV:Addr
  nG:FuncData
  dG:Addr
  pF:FuncData
  uW:Addr
  af9:FuncData
  j5:Addr
  a1J:FuncData
  a1K:Addr
  akI:FuncData
  pG:Addr
  a9P:FuncData
  dH:Addr
  pH:FuncData
  eY:Addr
  uX:FuncData
  gF:Addr
  yE:FuncData
  gG:Addr
  yF:FuncData
  eZ:Addr
  uY:FuncData
  a6G:Addr
  au8:FuncData
  f9:Addr
  iJ:Addr
  jM:Addr
def pI (K:Fg) (A:bI) (ex:aM→aW):bA :=
    (cJ (xG (gW (aD K) (aA (aB 0) (aA (bH (.ty "int")) aG))) (xG (a8S (gW (aD K) (aA (aB 0) (aA (bH (.ty "bool")) aG)))) (qT ajU ajU (aB 1) (aB 0) (aB 2)))))
def dU (K:Fg) (A:bI):uL:=spD 3 3 fun EX=>pI K A (fun _=>EX)
def j6:CB:=(.cons (.ret (.aoV (.cons (.call 1 (.cons (.var 0) (.cons (.glo 0) .nil))) (.cons (.asN (.call 1 (.cons (.var 0) (.cons (.glo 2) .nil)))) (.cons (.chain .LtE .LtE (.var 1) (.var 0) (.var 2)) .nil))))) .nil)
def uZ (K:Fg) (A:bI):SI:=⟨["thing", "least", "most"],[true,true,true],[true,true,true],[false,false,false],[("int",.bt "int"),("isinstance",.bf .isi),("bool",.bt "bool")],[true,true,true],true⟩
def a6H (K:Fg) (A:bI) (ex:aM→aW):bA :=
    (cJ (xG (aX (dU K A) ex (aA (aH cQ (aB 0) (bH (.int 0))) (aA (bH (.int 0)) (aA (aH tD (aB 1) (bH (.int 1))) aG)))) (aX (dU K A) ex (aA (aH cQ (aB 0) (bH (.int 1))) (aA (aB 2) (aA (aB 3) aG))))))
def oN (K:Fg) (A:bI) (ex:aM→aW):bA :=
    aP (eG (abM (w6 (aZ (gW (aD K) (aA (aB 0) (aA (bH (.ty "tuple")) aG))))) (aZ (aH xK (gW qU (aA (aB 0) aG)) (bH (.int 2))))) (cJ (bH (.bl false))) cI) (a6H K A ex)
def lV (K:Fg) (A:bI):uL:=spD 4 4 fun EX=>oN K A (fun _=>EX)
def lW:CB:=(.cons (.ifs (.or (.cons (.not (.val (.call 1 (.cons (.var 0) (.cons (.glo 0) .nil))))) (.cons (.cmp .NotEq (.call 2 (.cons (.var 0) .nil)) (.con (.int 2))) .nil))) (.cons (.ret (.con (.bl false))) .nil) .nil) (.cons (.ret (.aoV (.cons (.call 3 (.cons (.ix (.var 0) (.con (.int 0))) (.cons (.con (.int 0)) (.cons (.bin .Sub (.var 1) (.con (.int 1))) .nil)))) (.cons (.call 3 (.cons (.ix (.var 0) (.con (.int 1))) (.cons (.var 2) (.cons (.var 3) .nil)))) .nil)))) .nil))
def zT (K:Fg) (A:bI):SI:=⟨["thing", "aisles", "first", "last"],[true,true,true,true],[true,true,true,true],[false,false,false,false],[("tuple",.bt "tuple"),("isinstance",.bf .isi),("len",.bf .len),("is_whole",.fn (dU K A) 3 false)],[true,true,true,true],true⟩
def a6I (K:Fg) (A:bI) (ex:aM→aW):bA :=
    (cJ (aX (dU K A) ex (aA (aH cQ (aB 0) (bH (.int 2))) (aA (bH (.int 1)) (aA (bH (.int 20)) aG)))))
def a6J (K:Fg) (A:bI) (ex:aM→aW):bA :=
    aP (eG (abM (w6 (aZ (aX (dU K A) ex (aA (aH cQ (aB 0) (bH (.int 0))) (aA (bH (.int 1)) (aA (bH (.int 26)) aG)))))) (w6 (aZ (aX (dU K A) ex (aA (aH cQ (aB 0) (bH (.int 1))) (aA (bH (.int 1)) (aA (bH (.int 99)) aG))))))) (cJ (bH (.bl false))) cI) (a6I K A ex)
def oO (K:Fg) (A:bI) (ex:aM→aW):bA :=
    aP (eG (abM (w6 (aZ (gW (aD K) (aA (aB 0) (aA (bH (.ty "tuple")) aG))))) (aZ (aH xK (gW qU (aA (aB 0) aG)) (bH (.int 3))))) (cJ (bH (.bl false))) cI) (a6J K A ex)
def v7 (K:Fg) (A:bI):uL:=spD 1 1 fun EX=>oO K A (fun _=>EX)
def lX:CB:=(.cons (.ifs (.or (.cons (.not (.val (.call 1 (.cons (.var 0) (.cons (.glo 0) .nil))))) (.cons (.cmp .NotEq (.call 2 (.cons (.var 0) .nil)) (.con (.int 3))) .nil))) (.cons (.ret (.con (.bl false))) .nil) .nil) (.cons (.ifs (.or (.cons (.not (.val (.call 4 (.cons (.ix (.var 0) (.con (.int 0))) (.cons (.con (.int 1)) (.cons (.glo 3) .nil)))))) (.cons (.not (.val (.call 4 (.cons (.ix (.var 0) (.con (.int 1))) (.cons (.con (.int 1)) (.cons (.glo 5) .nil)))))) .nil))) (.cons (.ret (.con (.bl false))) .nil) .nil) (.cons (.ret (.call 4 (.cons (.ix (.var 0) (.con (.int 2))) (.cons (.con (.int 1)) (.cons (.glo 6) .nil))))) .nil)))
def zU (K:Fg) (A:bI):SI:=⟨["thing"],[true],[true],[false],[("tuple",.bt "tuple"),("isinstance",.bf .isi),("len",.bf .len),("MOST_AISLES",.con (.int 26)),("is_whole",.fn (dU K A) 3 false),("MOST_PLACES",.con (.int 99)),("MOST_GAP",.con (.int 20))],[true,true,true,true,true,true,true],true⟩
def qX (K:Fg) (A:bI) (ex:aM→aW):bA :=
    (eG (w6 (aZ (aX (v7 K A) ex (aA (aB 0) aG)))) (uQ ex A.iJ (aA (bH (.str "a tuple of 1 to 26 aisles, 1 to 99 places and a gap from 1 to 20 is wanted")) aG)) cI)
def cC (K:Fg) (A:bI):uL:=spD 1 1 fun EX=>qX K A (fun _=>EX)
def gH:CB:=(.cons (.ifs (.not (.val (.call 0 (.cons (.var 0) .nil)))) (.cons (.raise 1 (.con (.str "a tuple of 1 to 26 aisles, 1 to 99 places and a gap from 1 to 20 is wanted")) .nil) .nil) .nil) .nil)
def qY (K:Fg) (A:bI):SI:=⟨["plan"],[true],[true],[false],[("is_plan",.fn (v7 K A) 1 false),("NoPlan",.cls A.iJ)],[true,true],true⟩
def a9Q (K:Fg) (A:bI) (ex:aM→aW):bA :=
    (cJ (aX (lV K A) ex (aA (aB 1) (aA (aH cQ (aB 0) (bH (.int 0))) (aA (bH (.int 1)) (aA (aH cQ (aB 0) (bH (.int 1))) aG))))))
def a2Z (K:Fg) (A:bI) (ex:aM→aW):bA :=
    aP (lM (aX (cC K A) ex (aA (aB 0) aG))) (a9Q K A ex)
def zV (K:Fg) (A:bI):uL:=spD 2 2 fun EX=>a2Z K A (fun _=>EX)
def pJ:CB:=(.cons (.expr (.call 0 (.cons (.var 0) .nil))) (.cons (.ret (.call 1 (.cons (.var 1) (.cons (.ix (.var 0) (.con (.int 0))) (.cons (.con (.int 1)) (.cons (.ix (.var 0) (.con (.int 1))) .nil)))))) .nil))
def a3A (K:Fg) (A:bI):SI:=⟨["plan", "thing"],[true,true],[true,true],[false,false],[("need_plan",.fn (cC K A) 1 false),("is_pair",.fn (lV K A) 4 false)],[true,true],true⟩
def a6K (K:Fg) (A:bI) (ex:aM→aW):bA :=
    (cJ (aX (lV K A) ex (aA (aB 1) (aA (aH cQ (aB 0) (bH (.int 0))) (aA (bH (.int 0)) (aA (aH d7 (aH cQ (aB 0) (bH (.int 1))) (bH (.int 1))) aG))))))
def zW (K:Fg) (A:bI) (ex:aM→aW):bA :=
    aP (lM (aX (cC K A) ex (aA (aB 0) aG))) (a6K K A ex)
def pK (K:Fg) (A:bI):uL:=spD 2 2 fun EX=>zW K A (fun _=>EX)
def lY:CB:=(.cons (.expr (.call 0 (.cons (.var 0) .nil))) (.cons (.ret (.call 1 (.cons (.var 1) (.cons (.ix (.var 0) (.con (.int 0))) (.cons (.con (.int 0)) (.cons (.bin .Add (.ix (.var 0) (.con (.int 1))) (.con (.int 1))) .nil)))))) .nil))
def zX (K:Fg) (A:bI):SI:=⟨["plan", "thing"],[true,true],[true,true],[false,false],[("need_plan",.fn (cC K A) 1 false),("is_pair",.fn (lV K A) 4 false)],[true,true],true⟩
def amQ (K:Fg) (A:bI) (ex:aM→aW):bA :=
    (cJ (aH d7 (aH mR (aH cQ (aB 0) (bH (.int 2))) (gW a6B (aA (aH tD (aH cQ (aB 1) (bH (.int 0))) (aH cQ (aB 2) (bH (.int 0)))) aG))) (gW xQ (aA (aB 3) (aA (aB 4) aG)))))
def amR (K:Fg) (A:bI) (ex:aM→aW):bA :=
    aP (bC 4 (aH tD (aH mR (bH (.int 2)) (aH d7 (aH cQ (aB 0) (bH (.int 1))) (bH (.int 1)))) (aB 3))) (amQ K A ex)
def amS (K:Fg) (A:bI) (ex:aM→aW):bA :=
    aP (bC 3 (aH d7 (aH cQ (aB 1) (bH (.int 1))) (aH cQ (aB 2) (bH (.int 1))))) (amR K A ex)
def amT (K:Fg) (A:bI) (ex:aM→aW):bA :=
    aP (eG (aZ (aH qO (aH cQ (aB 1) (bH (.int 0))) (aH cQ (aB 2) (bH (.int 0))))) (cJ (gW a6B (aA (aH tD (aH cQ (aB 1) (bH (.int 1))) (aH cQ (aB 2) (bH (.int 1)))) aG))) cI) (amS K A ex)
def amU (K:Fg) (A:bI) (ex:aM→aW):bA :=
    aP (eG (abM (w6 (aZ (aX (pK K A) ex (aA (aB 0) (aA (aB 1) aG))))) (w6 (aZ (aX (pK K A) ex (aA (aB 0) (aA (aB 2) aG)))))) (uQ ex A.jM (aA (bH (.str "two spots of the plan are wanted")) aG)) cI) (amT K A ex)
def afA (K:Fg) (A:bI):uL:=spD 5 3 fun EX=>amU K A (fun _=>EX)
def a9R:CB:=(.cons (.ifs (.or (.cons (.not (.val (.call 0 (.cons (.var 0) (.cons (.var 1) .nil))))) (.cons (.not (.val (.call 0 (.cons (.var 0) (.cons (.var 2) .nil))))) .nil))) (.cons (.raise 1 (.con (.str "two spots of the plan are wanted")) .nil) .nil) .nil) (.cons (.ifs (.cmp .Eq (.ix (.var 1) (.con (.int 0))) (.ix (.var 2) (.con (.int 0)))) (.cons (.ret (.call 2 (.cons (.bin .Sub (.ix (.var 1) (.con (.int 1))) (.ix (.var 2) (.con (.int 1)))) .nil))) .nil) .nil) (.cons (.set 3 (.bin .Add (.ix (.var 1) (.con (.int 1))) (.ix (.var 2) (.con (.int 1))))) (.cons (.set 4 (.bin .Sub (.bin .Mult (.con (.int 2)) (.bin .Add (.ix (.var 0) (.con (.int 1))) (.con (.int 1)))) (.var 3))) (.cons (.ret (.bin .Add (.bin .Mult (.ix (.var 0) (.con (.int 2))) (.call 2 (.cons (.bin .Sub (.ix (.var 1) (.con (.int 0))) (.ix (.var 2) (.con (.int 0)))) .nil))) (.call 3 (.cons (.var 3) (.cons (.var 4) .nil))))) .nil)))))
def amV (K:Fg) (A:bI):SI:=⟨["plan", "one", "other", "by_front", "by_back"],[true,true,true,true,true],[true,true,true,true,true],[false,false,false,false,false],[("is_spot",.fn (pK K A) 2 false),("NoBin",.cls A.jM),("abs",.bf .abs),("min",.bf .min)],[true,true,true,true],true⟩
def v8 (K:Fg) (A:bI) (ex:aM→aW):bA :=
    (eG (w6 (aZ (aX (zV K A) ex (aA (aB 0) (aA (aB 1) aG))))) (uQ ex A.jM (aA (bH (.str "a bin of the plan is wanted")) aG)) cI)
def qZ (K:Fg) (A:bI):uL:=spD 2 2 fun EX=>v8 K A (fun _=>EX)
def j7:CB:=(.cons (.ifs (.not (.val (.call 0 (.cons (.var 0) (.cons (.var 1) .nil))))) (.cons (.raise 1 (.con (.str "a bin of the plan is wanted")) .nil) .nil) .nil) .nil)
def v9 (K:Fg) (A:bI):SI:=⟨["plan", "thing"],[true,true],[true,true],[false,false],[("is_bin",.fn (zV K A) 2 false),("NoBin",.cls A.jM)],[true,true],true⟩
def mU (K:Fg) (A:bI) (ex:aM→aW):bA :=
    (lM (tM3 "list" oZ (aH cQ (aB 2) (aB 3)) (aA (aB 4) aG)))
def nU (K:Fg) (A:bI) (ex:aM→aW):bA :=
    (cJ (aB 2))
def gZ (K:Fg) (A:bI) (ex:aM→aW):bA :=
    aP (nF (ah2 (aB 0)) (a2R [3,4]) (mU K A ex)) (nU K A ex)
def iB (K:Fg) (A:bI) (ex:aM→aW):bA :=
    aP (a96 3 (bC 2 (arN (uU (aA (aH d7 (aB 1) (bH (.int 1))) aG)) a1C (wA aG)))) (gZ K A ex)
def fU (K:Fg) (A:bI) (ex:aM→aW):bA :=
    aP (a96 3 (a96 4 (bC 1 (am9 (zN 2 (a4V (aB 0)) a1C (aB 0)) (acL (bH (.int 1))))))) (iB K A ex)
def fB (K:Fg) (A:bI):uL:=spD 5 1 fun EX=>fU K A (fun _=>EX)
def cD:CB:=(.cons (.hid 3 "-" (.hid 4 "--" (.set 1 (.maxD 0 (.acY 2 [false,false,false,false,false] [false,false] (.any (.var 0)) .none (.var 0)) (.neg (.con (.int 1))))))) (.cons (.hid 3 "-" (.setC 2 [false,false,false,false,false] [false,false] (.abS (.bin .Add (.var 1) (.con (.int 1)))) .none (.lst .nil))) (.cons (.a7K (.any (.var 0)) (.tup [3,4]) (.cons (.expr (.meth .append (.ix (.var 2) (.var 3)) (.cons (.var 4) .nil))) .nil)) (.cons (.ret (.var 2)) .nil))))
def fV (K:Fg) (A:bI):SI:=⟨["bins", "last", "aisles", "aisle", "place"],[true,true,true,true,true],[true,true,true,true,true],[false,false,false,false,false],[("max",.bf .max),("range",.bt "range")],[true,true],true⟩
def vA (K:Fg) (A:bI) (ex:aM→aW):bA :=
    (cJ (awX (aZ (aH qO (aB 1) (bH (.int 0)))) (gW xP (aA (aB 0) aG)) (gW xQ (aA (aB 0) aG))))
def jF (K:Fg) (A:bI):uL:=spD 2 2 fun EX=>vA K A (fun _=>EX)
def j8:CB:=(.cons (.ret (.ifx (.cmp .Eq (.var 1) (.con (.int 0))) (.call 0 (.cons (.var 0) .nil)) (.call 1 (.cons (.var 0) .nil)))) .nil)
def vB (K:Fg) (A:bI):SI:=⟨["places", "end"],[true,true],[true,true],[false,false],[("max",.bf .max),("min",.bf .min)],[true,true],true⟩
def tK (K:Fg) (A:bI) (ex:aM→aW):bA :=
    (cJ (aH mR (bH (.int 2)) (gW a6B (aA (aH tD (aX (jF K A) ex (aA (aB 1) (aA (aB 2) aG))) (aB 2)) aG))))
def tL (K:Fg) (A:bI) (ex:aM→aW):bA :=
    aP (eG (aZ (aH qO (gW qU (aA (aB 1) aG)) (bH (.int 0)))) (cJ (bH (.int 0))) cI) (tK K A ex)
def jN (K:Fg) (A:bI) (ex:aM→aW):bA :=
    aP (eG (aZ (aH xK (aB 3) (aB 2))) (cJ (aH d7 (aH cQ (aB 0) (bH (.int 1))) (bH (.int 1)))) cI) (tL K A ex)
def iR (K:Fg) (A:bI):uL:=spD 4 4 fun EX=>jN K A (fun _=>EX)
def dI:CB:=(.cons (.ifs (.cmp .NotEq (.var 3) (.var 2)) (.cons (.ret (.bin .Add (.ix (.var 0) (.con (.int 1))) (.con (.int 1)))) .nil) .nil) (.cons (.ifs (.cmp .Eq (.call 0 (.cons (.var 1) .nil)) (.con (.int 0))) (.cons (.ret (.con (.int 0))) .nil) .nil) (.cons (.ret (.bin .Mult (.con (.int 2)) (.call 2 (.cons (.bin .Sub (.call 1 (.cons (.var 1) (.cons (.var 2) .nil))) (.var 2)) .nil)))) .nil)))
def jO (K:Fg) (A:bI):SI:=⟨["plan", "places", "end", "goal"],[true,true,true,true],[true,true,true,true],[false,false,false,false],[("len",.bf .len),("farthest",.fn (jF K A) 2 false),("abs",.bf .abs)],[true,true,true],true⟩
def nW (K:Fg) (A:bI) (ex:aM→aW):bA :=
    (aeF (aB 3) (aB 6) (gW a9D (aA (a87 (aB 3) (aB 6) (aB 7)) (aA (aB 7) aG))))
def jP (K:Fg) (A:bI) (ex:aM→aW):bA :=
    aP (bC 7 (oX (aA (aH d7 (aH cQ (aB 5) (bH (.int 0))) (aX (iR K A) ex (aA (aB 0) (aA (aB 1) (aA (aB 4) (aA (aB 6) aG)))))) (aA (aH d7 (aH cQ (aB 5) (bH (.int 1))) (oX (aA (aB 6) aG))) aG)))) (nW K A ex)
def tM (K:Fg) (A:bI) (ex:aM→aW):bA :=
    (nF (ah2 (oX (aA (bH (.int 0)) (aA (aH d7 (aH cQ (aB 0) (bH (.int 1))) (bH (.int 1))) aG)))) (p8 6) (jP K A ex))
def wB (K:Fg) (A:bI) (ex:aM→aW):bA :=
    (cJ (aB 3))
def wC (K:Fg) (A:bI) (ex:aM→aW):bA :=
    aP (a88 (o8 false (aB 2)) (a2R [4,5]) (tM K A ex)) (wB K A ex)
def mF (K:Fg) (A:bI) (ex:aM→aW):bA :=
    aP (bC 3 ae6) (wC K A ex)
def jQ (K:Fg) (A:bI):uL:=spD 8 3 fun EX=>mF K A (fun _=>EX)
def dY:CB:=(.cons (.set 3 .dct) (.cons (.ay8 (.items (.var 2)) (.tup [4,5]) (.cons (.a7K (.any (.tup (.cons (.con (.int 0)) (.cons (.bin .Add (.ix (.var 0) (.con (.int 1))) (.con (.int 1))) .nil)))) (.nm 6) (.cons (.set 7 (.tup (.cons (.bin .Add (.ix (.var 5) (.con (.int 0))) (.call 0 (.cons (.var 0) (.cons (.var 1) (.cons (.var 4) (.cons (.var 6) .nil)))))) (.cons (.bin .Add (.ix (.var 5) (.con (.int 1))) (.tup (.cons (.var 6) .nil))) .nil)))) (.cons (.ay9 (.var 3) (.var 6) (.call 1 (.cons (.dgt (.var 3) (.var 6) (.var 7)) (.cons (.var 7) .nil)))) .nil))) .nil)) (.cons (.ret (.var 3)) .nil)))
def mH (K:Fg) (A:bI):SI:=⟨["plan", "places", "ways", "found", "end", "way", "goal", "one"],[true,true,true,true,true,true,true,true],[true,true,true,true,true,true,true,true],[false,false,false,false,false,false,false,false],[("steps_within",.fn (iR K A) 4 false),("min",.bf .ay1)],[true,true],true⟩
def pL (K:Fg) (A:bI) (ex:aM→aW):bA :=
    (bC 2 (aX (jQ K A) ex (aA (aB 0) (aA (aB 3) (aA (aB 2) aG)))))
def rA (K:Fg) (A:bI) (ex:aM→aW):bA :=
    (cJ (aH cQ (aH a4Z (aB 2) (bH (.int 0))) (bH (.int 1))))
def rB (K:Fg) (A:bI) (ex:aM→aW):bA :=
    aP (nF (ah2 (aB 1)) (p8 3) (pL K A ex)) (rA K A ex)
def iT (K:Fg) (A:bI) (ex:aM→aW):bA :=
    aP (bC 2 (aeI false (bH (.int 0)) (oX (aA (bH (.int 0)) (aA (oX aG) aG))))) (rB K A ex)
def gY (K:Fg) (A:bI):uL:=spD 4 2 fun EX=>iT K A (fun _=>EX)
def cW:CB:=(.cons (.set 2 (.ay2 false (.con (.int 0)) (.tup (.cons (.con (.int 0)) (.cons (.tup .nil) .nil))))) (.cons (.a7K (.any (.var 1)) (.nm 3) (.cons (.set 2 (.call 0 (.cons (.var 0) (.cons (.var 3) (.cons (.var 2) .nil))))) .nil)) (.cons (.ret (.ix (.dix (.var 2) (.con (.int 0))) (.con (.int 1)))) .nil)))
def iU (K:Fg) (A:bI):SI:=⟨["plan", "aisles", "ways", "places"],[true,true,true,true],[true,true,true,true],[false,false,false,false],[("ways_behind",.fn (jQ K A) 3 false)],[true],true⟩
def tO (K:Fg) (A:bI) (ex:aM→aW):bA :=
    (cJ (wA (aA (oX (aA (aB 0) (aA (aB 2) aG))) (aA (oX (aA (aB 0) (aA (aX (jF K A) ex (aA (aB 1) (aA (aB 2) aG))) aG))) (aA (oX (aA (aB 0) (aA (aB 2) aG))) aG)))))
def tQ (K:Fg) (A:bI) (ex:aM→aW):bA :=
    aP (eG (aZ (aH qO (gW qU (aA (aB 1) aG)) (bH (.int 0)))) (cJ (wA aG)) cI) (tO K A ex)
def jR (K:Fg) (A:bI) (ex:aM→aW):bA :=
    aP (eG (aZ (aH xK (aB 3) (aB 2))) (cJ (wA (aA (oX (aA (aB 0) (aA (aB 2) aG))) (aA (oX (aA (aB 0) (aA (aB 3) aG))) aG)))) cI) (tQ K A ex)
def iV (K:Fg) (A:bI):uL:=spD 4 4 fun EX=>jR K A (fun _=>EX)
def dJ:CB:=(.cons (.ifs (.cmp .NotEq (.var 3) (.var 2)) (.cons (.ret (.lst (.cons (.tup (.cons (.var 0) (.cons (.var 2) .nil))) (.cons (.tup (.cons (.var 0) (.cons (.var 3) .nil))) .nil)))) .nil) .nil) (.cons (.ifs (.cmp .Eq (.call 0 (.cons (.var 1) .nil)) (.con (.int 0))) (.cons (.ret (.lst .nil)) .nil) .nil) (.cons (.ret (.lst (.cons (.tup (.cons (.var 0) (.cons (.var 2) .nil))) (.cons (.tup (.cons (.var 0) (.cons (.call 1 (.cons (.var 1) (.cons (.var 2) .nil))) .nil))) (.cons (.tup (.cons (.var 0) (.cons (.var 2) .nil))) .nil))))) .nil)))
def jT (K:Fg) (A:bI):SI:=⟨["aisle", "places", "end", "goal"],[true,true,true,true],[true,true,true,true],[false,false,false,false],[("len",.bf .len),("farthest",.fn (jF K A) 2 false)],[true,true],true⟩
def a8B (K:Fg) (A:bI) (ex:aM→aW):bA :=
    (eG (aZ (aH xK (aH cQ (aB 0) (acL (bH (.int 1)))) (aB 1))) (lM (tM3 "list" oZ (aB 0) (aA (aB 1) aG))) cI)
def yG (K:Fg) (A:bI):uL:=spD 2 2 fun EX=>a8B K A (fun _=>EX)
def vC:CB:=(.cons (.ifs (.cmp .NotEq (.ix (.var 0) (.neg (.con (.int 1)))) (.var 1)) (.cons (.expr (.meth .append (.var 0) (.cons (.var 1) .nil))) .nil) .nil) .nil)
def a8C (K:Fg) (A:bI):SI:=⟨["spots", "spot"],[true,true],[true,true],[false,false],[],[],true⟩
def pN (K:Fg) (A:bI) (ex:aM→aW):bA :=
    (lM (aX (yG K A) ex (aA (aB 2) (aA (aB 6) aG))))
def wF (K:Fg) (A:bI) (ex:aM→aW):bA :=
    (bC 3 (aB 5))
def a09 (K:Fg) (A:bI) (ex:aM→aW):bA :=
    aP (nF (ah2 (aX (iV K A) ex (aA (aB 4) (aA (aH cQ (aB 0) (aB 4)) (aA (aB 3) (aA (aB 5) aG)))))) (p8 6) (pN K A ex)) (wF K A ex)
def a3B (K:Fg) (A:bI) (ex:aM→aW):bA :=
    (cJ (aB 2))
def a3C (K:Fg) (A:bI) (ex:aM→aW):bA :=
    aP (lM (aX (yG K A) ex (aA (aB 2) (aA (bH (.tup [.int 0,.int 0])) aG)))) (a3B K A ex)
def a3D (K:Fg) (A:bI) (ex:aM→aW):bA :=
    aP (nF (aeL (aA (aB 1) aG)) (a2R [4,5]) (a09 K A ex)) (a3C K A ex)
def a3E (K:Fg) (A:bI) (ex:aM→aW):bA :=
    aP (bC 3 (bH (.int 0))) (a3D K A ex)
def vD (K:Fg) (A:bI) (ex:aM→aW):bA :=
    aP (bC 2 (wA (aA (bH (.tup [.int 0,.int 0])) aG))) (a3E K A ex)
def rC (K:Fg) (A:bI):uL:=spD 7 2 fun EX=>vD K A (fun _=>EX)
def j9:CB:=(.cons (.set 2 (.lst (.cons (.glo 0) .nil))) (.cons (.set 3 (.con (.int 0))) (.cons (.a7K (.enu (.var 1)) (.tup [4,5]) (.cons (.a7K (.any (.call 2 (.cons (.var 4) (.cons (.ix (.var 0) (.var 4)) (.cons (.var 3) (.cons (.var 5) .nil)))))) (.nm 6) (.cons (.expr (.call 3 (.cons (.var 2) (.cons (.var 6) .nil)))) .nil)) (.cons (.set 3 (.var 5)) .nil))) (.cons (.expr (.call 3 (.cons (.var 2) (.cons (.glo 0) .nil)))) (.cons (.ret (.var 2)) .nil)))))
def vG (K:Fg) (A:bI):SI:=⟨["aisles", "ends", "spots", "end", "aisle", "goal", "spot"],[true,true,true,true,true,true,true],[true,true,true,true,true,true,true],[false,false,false,false,false,false,false],[("DOOR",.con (.tup [.int 0,.int 0])),("enumerate",.bt "enumerate"),("spots_within",.fn (iV K A) 4 false),("go_to",.fn (yG K A) 2 false)],[true,true,true,true],true⟩
def ad2 (K:Fg) (A:bI) (ex:aM→aW):bA :=
    (lM (aX (qZ K A) ex (aA (aB 0) (aA (aB 2) aG))))
def ahY (K:Fg) (A:bI) (ex:aM→aW):bA :=
    (cJ (aX (rC K A) ex (aA (aB 3) (aA (aX (gY K A) ex (aA (aB 0) (aA (aB 3) aG))) aG))))
def ahZ (K:Fg) (A:bI) (ex:aM→aW):bA :=
    aP (bC 3 (aX (fB K A) ex (aA (aB 1) aG))) (ahY K A ex)
def ai0 (K:Fg) (A:bI) (ex:aM→aW):bA :=
    aP (nF (ah2 (aB 1)) (p8 2) (ad2 K A ex)) (ahZ K A ex)
def afB (K:Fg) (A:bI) (ex:aM→aW):bA :=
    aP (lM (aX (cC K A) ex (aA (aB 0) aG))) (ai0 K A ex)
def a3F (K:Fg) (A:bI):uL:=spD 4 2 fun EX=>afB K A (fun _=>EX)
def a1L:CB:=(.cons (.expr (.call 0 (.cons (.var 0) .nil))) (.cons (.a7K (.any (.var 1)) (.nm 2) (.cons (.expr (.call 1 (.cons (.var 0) (.cons (.var 2) .nil)))) .nil)) (.cons (.set 3 (.call 2 (.cons (.var 1) .nil))) (.cons (.ret (.call 4 (.cons (.var 3) (.cons (.call 3 (.cons (.var 0) (.cons (.var 3) .nil))) .nil)))) .nil))))
def afC (K:Fg) (A:bI):SI:=⟨["plan", "bins", "spot", "aisles"],[true,true,true,true],[true,true,true,true],[false,false,false,false],[("need_plan",.fn (cC K A) 1 false),("need_bin",.fn (qZ K A) 2 false),("places_by_aisle",.fn (fB K A) 1 false),("shortest_ends",.fn (gY K A) 2 false),("spots_by",.fn (rC K A) 2 false)],[true,true,true,true,true],true⟩
def a9S (K:Fg) (A:bI) (ex:aM→aW):bA :=
    (cJ (gW am6 (aA (zN 2 (a91 (aA (aB 1) (aA (a86 (aB 1) (a4P (bH (.int 1))) a2N) aG))) a1C (aX (afA K A) NoX (aA (aB 2) (aA (aB 0) (aA (aB 1) aG))))) aG)))
def a3G (K:Fg) (A:bI) (ex:aM→aW):bA :=
    aP (lM (aX (cC K A) ex (aA (aB 0) aG))) (a9S K A ex)
def tR (K:Fg) (A:bI):uL:=spD 2 2 fun EX=>a3G K A (fun _=>EX)
def pO:CB:=(.cons (.expr (.call 0 (.cons (.var 0) .nil))) (.cons (.ret (.call 3 (.cons (.acY 2 [true,false] [false,false,true,false] (.zip (.var 1) (.sl (.var 1) (.some (.con (.int 1))) .none)) .none (.call 2 (.cons (.var 2) (.cons (.var 0) (.cons (.var 1) .nil))))) .nil))) .nil))
def a3H (K:Fg) (A:bI):SI:=⟨["plan", "spots"],[true,true],[false,true],[true,false],[("need_plan",.fn (cC K A) 1 false),("zip",.bt "zip"),("far",.fn (afA K A) 3 false),("sum",.bf .sum)],[true,true,false,true],true⟩
def tU (K:Fg) (A:bI) (ex:aM→aW):bA :=
    (cJ (aH iH (aH d7 (aH mR (aB 2) (aB 2)) (aH mR (bH (.int 48271)) (aB 1))) (bH (.int 2147483629))))
def tV (K:Fg) (A:bI) (ex:aM→aW):bA :=
    aP (bC 2 (aH iH (aH d7 (aH mR (aH cQ (aB 0) (aH iH (aB 1) (gW qU (aA (aB 0) aG)))) (bH (.int 48271))) (aH mR (aB 1) (bH (.int 104729)))) (bH (.int 2147483647)))) (tU K A ex)
def tW (K:Fg) (A:bI) (ex:aM→aW):bA :=
    aP (eG (aZ (aH qO (gW qU (aA (aB 0) aG)) (bH (.int 0)))) (cJ (bH (.int 0))) cI) (tV K A ex)
def jU (K:Fg) (A:bI) (ex:aM→aW):bA :=
    aP (eG (aZ (aH ax0 (aB 1) (gW qU (aA (aB 0) aG)))) (cJ (aH cQ (aB 0) (aB 1))) cI) (tW K A ex)
def bF (K:Fg) (A:bI):uL:=spD 3 2 fun EX=>jU K A (fun _=>EX)
def dM:CB:=(.cons (.ifs (.cmp .Lt (.var 1) (.call 0 (.cons (.var 0) .nil))) (.cons (.ret (.ix (.var 0) (.var 1))) .nil) .nil) (.cons (.ifs (.cmp .Eq (.call 0 (.cons (.var 0) .nil)) (.con (.int 0))) (.cons (.ret (.con (.int 0))) .nil) .nil) (.cons (.set 2 (.bin .Mod (.bin .Add (.bin .Mult (.ix (.var 0) (.bin .Mod (.var 1) (.call 0 (.cons (.var 0) .nil)))) (.con (.int 48271))) (.bin .Mult (.var 1) (.con (.int 104729)))) (.con (.int 2147483647)))) (.cons (.ret (.bin .Mod (.bin .Add (.bin .Mult (.var 2) (.var 2)) (.bin .Mult (.con (.int 48271)) (.var 1))) (.con (.int 2147483629)))) .nil))))
def jV (K:Fg) (A:bI):SI:=⟨["_law_script", "_law_k", "_law_mixed"],[true,true,true],[true,true,true],[false,false,false],[("len",.bf .len)],[true],true⟩
def o9 (K:Fg) (A:bI) (ex:aM→aW):bA :=
    (cJ (xG (gW (aD K) (aA (aB 0) (aA (bH (.ty "int")) aG))) (a8S (gW (aD K) (aA (aB 0) (aA (bH (.ty "bool")) aG))))))
def mJ (K:Fg) (A:bI):uL:=spD 1 1 fun EX=>o9 K A (fun _=>EX)
def fC:CB:=(.cons (.ret (.aoV (.cons (.call 1 (.cons (.var 0) (.cons (.glo 0) .nil))) (.cons (.asN (.call 1 (.cons (.var 0) (.cons (.glo 2) .nil)))) .nil)))) .nil)
def oA (K:Fg) (A:bI):SI:=⟨["_law_found"],[true],[true],[false],[("int",.bt "int"),("isinstance",.bf .isi),("bool",.bt "bool")],[true,true,true],true⟩
def rY (K:Fg) (A:bI) (ex:aM→aW):bA :=
    (cJ (oX (aA (aB 2) (aA (aB 3) (aA (aH d7 (bH (.int 1)) (aH iH (aX (bF K A) ex (aA (aB 0) (aA (bH (.int 2)) aG))) (bH (.int 20)))) aG)))))
def a0A (K:Fg) (A:bI) (ex:aM→aW):bA :=
    aP (eG (aZ (aH qO (aH iH (aH lK (aB 1) (bH (.int 9))) (bH (.int 4))) (bH (.int 1)))) (bC 3 (aH d7 (bH (.int 1)) (aH iH (aH lK (aB 1) (bH (.int 36))) (bH (.int 99))))) cI) (rY K A ex)
def a0B (K:Fg) (A:bI) (ex:aM→aW):bA :=
    aP (bC 3 (aH d7 (bH (.int 1)) (aH iH (aB 1) (bH (.int 9))))) (a0A K A ex)
def rZ (K:Fg) (A:bI) (ex:aM→aW):bA :=
    aP (bC 1 (aX (bF K A) ex (aA (aB 0) (aA (bH (.int 1)) aG)))) (a0B K A ex)
def a0C (K:Fg) (A:bI) (ex:aM→aW):bA :=
    aP (eG (aZ (aH qO (aH iH (aH lK (aB 1) (bH (.int 6))) (bH (.int 6))) (bH (.int 1)))) (bC 2 (aH d7 (bH (.int 1)) (aH iH (aH lK (aB 1) (bH (.int 36))) (bH (.int 26))))) cI) (rZ K A ex)
def a0D (K:Fg) (A:bI) (ex:aM→aW):bA :=
    aP (bC 2 (aH d7 (bH (.int 1)) (aH iH (aB 1) (bH (.int 6))))) (a0C K A ex)
def rD (K:Fg) (A:bI) (ex:aM→aW):bA :=
    aP (bC 1 (aX (bF K A) ex (aA (aB 0) (aA (bH (.int 0)) aG)))) (a0D K A ex)
def oE (K:Fg) (A:bI):uL:=spD 4 1 fun EX=>rD K A (fun _=>EX)
def gJ:CB:=(.cons (.set 1 (.call 0 (.cons (.var 0) (.cons (.con (.int 0)) .nil)))) (.cons (.set 2 (.bin .Add (.con (.int 1)) (.bin .Mod (.var 1) (.con (.int 6))))) (.cons (.ifs (.cmp .Eq (.bin .Mod (.bin .FloorDiv (.var 1) (.con (.int 6))) (.con (.int 6))) (.con (.int 1))) (.cons (.set 2 (.bin .Add (.con (.int 1)) (.bin .Mod (.bin .FloorDiv (.var 1) (.con (.int 36))) (.con (.int 26))))) .nil) .nil) (.cons (.set 1 (.call 0 (.cons (.var 0) (.cons (.con (.int 1)) .nil)))) (.cons (.set 3 (.bin .Add (.con (.int 1)) (.bin .Mod (.var 1) (.con (.int 9))))) (.cons (.ifs (.cmp .Eq (.bin .Mod (.bin .FloorDiv (.var 1) (.con (.int 9))) (.con (.int 4))) (.con (.int 1))) (.cons (.set 3 (.bin .Add (.con (.int 1)) (.bin .Mod (.bin .FloorDiv (.var 1) (.con (.int 36))) (.con (.int 99))))) .nil) .nil) (.cons (.ret (.tup (.cons (.var 2) (.cons (.var 3) (.cons (.bin .Add (.con (.int 1)) (.bin .Mod (.call 0 (.cons (.var 0) (.cons (.con (.int 2)) .nil))) (.con (.int 20)))) .nil))))) .nil)))))))
def rE (K:Fg) (A:bI):SI:=⟨["_law_script", "_law_cell", "_law_aisles", "_law_places"],[true,true,true,true],[true,true,true,true],[false,false,false,false],[("_law_cell_at",.fn (bF K A) 2 false)],[true],true⟩
def tX (K:Fg) (A:bI) (ex:aM→aW):bA :=
    (lM (tM3 "list" oZ (aB 4) (aA (oX (aA (aH iH (aB 2) (aH cQ (aB 1) (bH (.int 0)))) (aA (aH d7 (bH (.int 1)) (aH iH (aH lK (aB 2) (aH cQ (aB 1) (bH (.int 0)))) (aH cQ (aB 1) (bH (.int 1))))) aG))) aG)))
def yH (K:Fg) (A:bI) (ex:aM→aW):bA :=
    aP (bC 2 (aX (bF K A) ex (aA (aB 0) (aA (aH d7 (bH (.int 8)) (aB 5)) aG)))) (tX K A ex)
def a0E (K:Fg) (A:bI) (ex:aM→aW):bA :=
    (cJ (aB 4))
def a0F (K:Fg) (A:bI) (ex:aM→aW):bA :=
    aP (nF (uU (aA (aB 3) aG)) (p8 5) (yH K A ex)) (a0E K A ex)
def sE (K:Fg) (A:bI) (ex:aM→aW):bA :=
    aP (bC 4 (wA aG)) (a0F K A ex)
def sG (K:Fg) (A:bI) (ex:aM→aW):bA :=
    aP (eG (aZ (aH qO (aH iH (aH lK (aB 2) (bH (.int 9))) (bH (.int 64))) (bH (.int 2)))) (bC 3 (bH (.int 200))) cI) (sE K A ex)
def a0G (K:Fg) (A:bI) (ex:aM→aW):bA :=
    aP (eG (aZ (aH qO (aH iH (aH lK (aB 2) (bH (.int 9))) (bH (.int 8))) (bH (.int 1)))) (bC 3 (aH iH (aH lK (aB 2) (bH (.int 72))) (bH (.int 61)))) cI) (sG K A ex)
def a0H (K:Fg) (A:bI) (ex:aM→aW):bA :=
    aP (bC 3 (aH iH (aB 2) (bH (.int 9)))) (a0G K A ex)
def rF (K:Fg) (A:bI) (ex:aM→aW):bA :=
    aP (bC 2 (aX (bF K A) ex (aA (aB 0) (aA (bH (.int 3)) aG)))) (a0H K A ex)
def oF (K:Fg) (A:bI):uL:=spD 6 2 fun EX=>rF K A (fun _=>EX)
def gK:CB:=(.cons (.set 2 (.call 0 (.cons (.var 0) (.cons (.con (.int 3)) .nil)))) (.cons (.set 3 (.bin .Mod (.var 2) (.con (.int 9)))) (.cons (.ifs (.cmp .Eq (.bin .Mod (.bin .FloorDiv (.var 2) (.con (.int 9))) (.con (.int 8))) (.con (.int 1))) (.cons (.set 3 (.bin .Mod (.bin .FloorDiv (.var 2) (.con (.int 72))) (.con (.int 61)))) .nil) .nil) (.cons (.ifs (.cmp .Eq (.bin .Mod (.bin .FloorDiv (.var 2) (.con (.int 9))) (.con (.int 64))) (.con (.int 2))) (.cons (.set 3 (.con (.int 200))) .nil) .nil) (.cons (.set 4 (.lst .nil)) (.cons (.a7K (.abS (.var 3)) (.nm 5) (.cons (.set 2 (.call 0 (.cons (.var 0) (.cons (.bin .Add (.con (.int 8)) (.var 5)) .nil)))) (.cons (.expr (.meth .append (.var 4) (.cons (.tup (.cons (.bin .Mod (.var 2) (.ix (.var 1) (.con (.int 0)))) (.cons (.bin .Add (.con (.int 1)) (.bin .Mod (.bin .FloorDiv (.var 2) (.ix (.var 1) (.con (.int 0)))) (.ix (.var 1) (.con (.int 1))))) .nil))) .nil))) .nil))) (.cons (.ret (.var 4)) .nil)))))))
def rG (K:Fg) (A:bI):SI:=⟨["_law_script", "_law_plan_here", "_law_cell", "_law_many", "_law_found", "_law_k"],[true,true,true,true,true,true],[true,true,true,true,true,true],[false,false,false,false,false,false],[("_law_cell_at",.fn (bF K A) 2 false),("range",.bt "range")],[true,true],true⟩
def mV (K:Fg) (A:bI) (ex:aM→aW):bA :=
    (bC 5 (aH tD (aB 4) (aB 5)))
def fW (K:Fg) (A:bI) (ex:aM→aW):bA :=
    (eG (aZ (aB 9)) (aP (bC 6 (aH d7 (aB 6) (aB 4))) (mV K A ex)) (eG (agT (aZ (aH xK (aB 8) (wA aG))) (aZ (aH qO (aB 5) (bH (.int 0))))) (bC 6 (aH d7 (aB 6) (aH mR (bH (.int 2)) (gW xP (aA (aB 8) aG))))) (eG (aZ (aH xK (aB 8) (wA aG))) (bC 6 (aH d7 (aB 6) (aH mR (bH (.int 2)) (aH tD (aB 4) (gW xQ (aA (aB 8) aG)))))) cI)))
def rH (K:Fg) (A:bI) (ex:aM→aW):bA :=
    aP (eG (aZ (aH qO (aB 7) (aB 3))) (bC 9 (aH xK (aB 5) (bH (.int 0)))) cI) (fW K A ex)
def rJ (K:Fg) (A:bI) (ex:aM→aW):bA :=
    aP (bC 9 (aH qO (aH iH (aH lK (aX (bF K A) ex (aA (aB 0) (aA (aH d7 (bH (.int 30)) (aB 7)) aG))) (bH (.int 5))) (bH (.int 2))) (bH (.int 1)))) (rH K A ex)
def wG (K:Fg) (A:bI) (ex:aM→aW):bA :=
    aP (bC 8 (zN 2 (a4V (aB 2)) (aZ (aH qO (aB 0) (aB 9))) (aB 1))) (rJ K A ex)
def yI (K:Fg) (A:bI) (ex:aM→aW):bA :=
    (cJ (aH d7 (aB 6) (aH mR (aH mR (bH (.int 2)) (aH cQ (aB 1) (bH (.int 2)))) (aB 3))))
def yJ (K:Fg) (A:bI) (ex:aM→aW):bA :=
    aP (nF (uU (aA (aH d7 (aB 3) (bH (.int 1))) aG)) (p8 7) (wG K A ex)) (yI K A ex)
def yK (K:Fg) (A:bI) (ex:aM→aW):bA :=
    aP (bC 6 (bH (.int 0))) (yJ K A ex)
def yL (K:Fg) (A:bI) (ex:aM→aW):bA :=
    aP (bC 5 (bH (.int 0))) (yK K A ex)
def yM (K:Fg) (A:bI) (ex:aM→aW):bA :=
    aP (bC 4 (aH d7 (aH cQ (aB 1) (bH (.int 1))) (bH (.int 1)))) (yL K A ex)
def oG (K:Fg) (A:bI) (ex:aM→aW):bA :=
    aP (a96 7 (bC 3 (gW xP (aA (zN 2 (a4V (aB 2)) a1C (aB 0)) aG)))) (yM K A ex)
def mK (K:Fg) (A:bI):uL:=spD 10 3 fun EX=>oG K A (fun _=>EX)
def fD:CB:=(.cons (.hid 7 "-" (.set 3 (.call 0 (.cons (.acY 2 [false,false,false,false,false,false,false,false,false,false] [false,false,false,false] (.any (.var 2)) .none (.var 0)) .nil)))) (.cons (.set 4 (.bin .Add (.ix (.var 1) (.con (.int 1))) (.con (.int 1)))) (.cons (.set 5 (.con (.int 0))) (.cons (.set 6 (.con (.int 0))) (.cons (.a7K (.abS (.bin .Add (.var 3) (.con (.int 1)))) (.nm 7) (.cons (.amM 8 2 [false,false,false,false,false,false,false,true,false,false] [false,false,false,false] (.any (.var 2)) (.some (.cmp .Eq (.var 0) (.var 9))) (.var 1)) (.cons (.set 9 (.cmp .Eq (.bin .Mod (.bin .FloorDiv (.call 2 (.cons (.var 0) (.cons (.bin .Add (.con (.int 30)) (.var 7)) .nil))) (.con (.int 5))) (.con (.int 2))) (.con (.int 1)))) (.cons (.ifs (.cmp .Eq (.var 7) (.var 3)) (.cons (.set 9 (.cmp .NotEq (.var 5) (.con (.int 0)))) .nil) .nil) (.cons (.ifs (.val (.var 9)) (.cons (.set 6 (.bin .Add (.var 6) (.var 4))) (.cons (.set 5 (.bin .Sub (.var 4) (.var 5))) .nil)) (.cons (.ifs (.and (.cons (.cmp .NotEq (.var 8) (.lst .nil)) (.cons (.cmp .Eq (.var 5) (.con (.int 0))) .nil))) (.cons (.set 6 (.bin .Add (.var 6) (.bin .Mult (.con (.int 2)) (.call 0 (.cons (.var 8) .nil))))) .nil) (.cons (.ifs (.cmp .NotEq (.var 8) (.lst .nil)) (.cons (.set 6 (.bin .Add (.var 6) (.bin .Mult (.con (.int 2)) (.bin .Sub (.var 4) (.call 3 (.cons (.var 8) .nil)))))) .nil) .nil) .nil)) .nil)) .nil))))) (.cons (.ret (.bin .Add (.var 6) (.bin .Mult (.bin .Mult (.con (.int 2)) (.ix (.var 1) (.con (.int 2)))) (.var 3)))) .nil))))))
def oH (K:Fg) (A:bI):SI:=⟨["_law_script", "_law_plan_here", "_law_bins_here", "_law_last", "_law_whole_here", "_law_end", "_law_steps", "_law_aisle", "_law_here", "_law_through"],[true,true,true,true,true,true,true,true,true,true],[true,true,true,true,true,true,true,false,true,true],[false,false,false,false,false,false,false,true,false,false],[("max",.bf .max),("range",.bt "range"),("_law_cell_at",.fn (bF K A) 2 false),("min",.bf .min)],[true,true,true,true],true⟩
def a9T (K:Fg) (A:bI) (ex:aM→aW):bA :=
    (bC 4 (aH d7 (aB 4) (aH mR (aH cQ (aB 1) (bH (.int 2))) (gW a6B (aA (aH tD (aH cQ (aB 6) (bH (.int 0))) (aH cQ (aB 7) (bH (.int 0)))) aG)))))
def a9U (K:Fg) (A:bI) (ex:aM→aW):bA :=
    aP (bC 4 (aH d7 (aB 4) (gW a6B (aA (aH tD (aH cQ (aB 6) (bH (.int 1))) (aH cQ (aB 7) (bH (.int 1)))) aG)))) (a9T K A ex)
def a9V (K:Fg) (A:bI) (ex:aM→aW):bA :=
    aP (bC 7 (aH cQ (aB 3) (aH d7 (aB 5) (bH (.int 1))))) (a9U K A ex)
def ai1 (K:Fg) (A:bI) (ex:aM→aW):bA :=
    aP (bC 6 (aH cQ (aB 3) (aB 5))) (a9V K A ex)
def amW (K:Fg) (A:bI) (ex:aM→aW):bA :=
    (cJ (aH ajU (aB 4) (aX (mK K A) ex (aA (aB 0) (aA (aB 1) (aA (aB 2) aG))))))
def amX (K:Fg) (A:bI) (ex:aM→aW):bA :=
    aP (eG (aZ (aH qO (aB 2) (wA aG))) (cJ (aH qO (aB 4) (bH (.int 0)))) cI) (amW K A ex)
def amY (K:Fg) (A:bI) (ex:aM→aW):bA :=
    aP (eG (abM (w6 (aZ (aX (mJ K A) ex (aA (aB 8) aG)))) (abM (aZ (aH xK (aB 8) (aB 4))) (aZ (aH xK (aX (tR K A) ex (aA (aB 1) (aA (aX (a3F K A) ex (aA (aB 1) (aA (amD (aB 2) (a4P (acL (bH (.int 1))))) aG))) aG))) (aB 4))))) (cJ (bH (.bl false))) cI) (amX K A ex)
def amZ (K:Fg) (A:bI) (ex:aM→aW):bA :=
    aP (bC 8 (aX (tR K A) ex (aA (aB 1) (aA (aB 3) aG)))) (amY K A ex)
def an0 (K:Fg) (A:bI) (ex:aM→aW):bA :=
    aP (nF (uU (aA (aH tD (gW qU (aA (aB 3) aG)) (bH (.int 1))) aG)) (p8 5) (ai1 K A ex)) (amZ K A ex)
def an1 (K:Fg) (A:bI) (ex:aM→aW):bA :=
    aP (bC 4 (bH (.int 0))) (an0 K A ex)
def an2 (K:Fg) (A:bI) (ex:aM→aW):bA :=
    aP (bC 3 (aX (a3F K A) ex (aA (aB 1) (aA (gW a4T (aA (aB 2) aG)) aG)))) (an1 K A ex)
def an3 (K:Fg) (A:bI) (ex:aM→aW):bA :=
    aP (bC 2 (aX (oF K A) ex (aA (aB 0) (aA (aB 1) aG)))) (an2 K A ex)
def an4 (K:Fg) (A:bI) (ex:aM→aW):bA :=
    aP (bC 1 (aX (oE K A) ex (aA (aB 0) aG))) (an3 K A ex)
def afD (K:Fg) (A:bI):uL:=spD 9 1 fun EX=>an4 K A (fun _=>EX)
def a9W:CB:=(.cons (.set 1 (.call 0 (.cons (.var 0) .nil))) (.cons (.set 2 (.call 1 (.cons (.var 0) (.cons (.var 1) .nil)))) (.cons (.set 3 (.call 3 (.cons (.var 1) (.cons (.call 2 (.cons (.var 2) .nil)) .nil)))) (.cons (.set 4 (.con (.int 0))) (.cons (.a7K (.abS (.bin .Sub (.call 5 (.cons (.var 3) .nil)) (.con (.int 1)))) (.nm 5) (.cons (.set 6 (.ix (.var 3) (.var 5))) (.cons (.set 7 (.ix (.var 3) (.bin .Add (.var 5) (.con (.int 1))))) (.cons (.set 4 (.bin .Add (.var 4) (.call 6 (.cons (.bin .Sub (.ix (.var 6) (.con (.int 1))) (.ix (.var 7) (.con (.int 1)))) .nil)))) (.cons (.set 4 (.bin .Add (.var 4) (.bin .Mult (.ix (.var 1) (.con (.int 2))) (.call 6 (.cons (.bin .Sub (.ix (.var 6) (.con (.int 0))) (.ix (.var 7) (.con (.int 0)))) .nil))))) .nil))))) (.cons (.set 8 (.call 7 (.cons (.var 1) (.cons (.var 3) .nil)))) (.cons (.ifs (.or (.cons (.not (.val (.call 8 (.cons (.var 8) .nil)))) (.cons (.cmp .NotEq (.var 8) (.var 4)) (.cons (.cmp .NotEq (.call 7 (.cons (.var 1) (.cons (.call 3 (.cons (.var 1) (.cons (.rev (.var 2) (.neg (.con (.int 1)))) .nil))) .nil))) (.var 4)) .nil)))) (.cons (.ret (.con (.bl false))) .nil) .nil) (.cons (.ifs (.cmp .Eq (.var 2) (.lst .nil)) (.cons (.ret (.cmp .Eq (.var 4) (.con (.int 0)))) .nil) .nil) (.cons (.ret (.cmp .LtE (.var 4) (.call 9 (.cons (.var 0) (.cons (.var 1) (.cons (.var 2) .nil)))))) .nil)))))))))
def an5 (K:Fg) (A:bI):SI:=⟨["_law_script", "_law_plan_here", "_law_bins_here", "_law_spots", "_law_here", "_law_k", "_law_one", "_law_other_here", "_law_found"],[true,true,true,true,true,true,true,true,true],[true,true,true,true,true,true,true,true,true],[false,false,false,false,false,false,false,false,false],[("_law_plan",.fn (oE K A) 1 false),("_law_bins",.fn (oF K A) 2 false),("list",.bt "list"),("walk",.fn (a3F K A) 2 false),("range",.bt "range"),("len",.bf .len),("abs",.bf .abs),("length",.fn (tR K A) 2 false),("_law_whole",.fn (mJ K A) 1 false),("_law_other",.fn (mK K A) 3 false)],[true,true,true,true,true,true,true,true,true,true],true⟩
structure Txt (K:Fg) (mg:Str→Option Value) (A:bI):Prop where
  vH:Fun K "is_whole" "is_whole" d8 A.iY A.a1G
  a1M:Binds K A.a1G ["thing", "least", "most"] []
  a1N:mg "is_whole" = some (.ref A.iY)
  zY:Fun K "is_pair" "is_pair" eO A.lQ A.a5C
  a5F:Binds K A.a5C ["thing", "aisles", "first", "last"] []
  a5G:mg "is_pair" = some (.ref A.lQ)
  a5H:Fun K "is_plan" "is_plan" eU A.lR A.a5D
  ad3:Binds K A.a5D ["thing"] []
  ad4:mg "is_plan" = some (.ref A.lR)
  jG:Fun K "need_plan" "need_plan" cN A.gC A.yD
  mW:Binds K A.yD ["plan"] []
  mX:mg "need_plan" = some (.ref A.gC)
  a9X:Fun K "is_bin" "is_bin" gA A.pC A.a9N
  ai2:Binds K A.a9N ["plan", "thing"] []
  ai3:mg "is_bin" = some (.ref A.pC)
  a5I:Fun K "is_spot" "is_spot" eV A.lU A.a5E
  ad5:Binds K A.a5E ["plan", "thing"] []
  ad6:mg "is_spot" = some (.ref A.lU)
  au9:Fun K "far" "far" xZ A.a9O A.au7
  aCA:Binds K A.au7 ["plan", "one", "other"] []
  aCB:mg "far" = some (.ref A.a9O)
  a1O:Fun K "need_bin" "need_bin" d9 A.iZ A.a1H
  a9Y:Binds K A.a1H ["plan", "thing"] []
  a9Z:mg "need_bin" = some (.ref A.iZ)
  jW:Fun K "places_by_aisle" "places_by_aisle" aY A.cB A.jL
  rK:Binds K A.jL ["bins"] []
  rM:mg "places_by_aisle" = some (.ref A.cB)
  vI:Fun K "farthest" "farthest" dB A.j4 A.a1I
  a1P:Binds K A.a1I ["places", "end"] []
  a1Q:mg "farthest" = some (.ref A.j4)
  pP:Fun K "steps_within" "steps_within" bL A.dF A.pD
  yN:Binds K A.pD ["plan", "places", "end", "goal"] []
  yO:mg "steps_within" = some (.ref A.dF)
  sH:Fun K "ways_behind" "ways_behind" bT A.dX A.rW
  a0I:Binds K A.rW ["plan", "places", "ways"] []
  a0J:mg "ways_behind" = some (.ref A.dX)
  nH:Fun K "shortest_ends" "shortest_ends" bD A.cV A.nG
  wH:Binds K A.nG ["plan", "aisles"] []
  wI:mg "shortest_ends" = some (.ref A.cV)
  pQ:Fun K "spots_within" "spots_within" bM A.dG A.pF
  yP:Binds K A.pF ["aisle", "places", "end", "goal"] []
  yQ:mg "spots_within" = some (.ref A.dG)
  afE:Fun K "go_to" "go_to" jK A.uW A.af9
  an6:Binds K A.af9 ["spots", "spot"] []
  an7:mg "go_to" = some (.ref A.uW)
  a1R:Fun K "spots_by" "spots_by" dD A.j5 A.a1J
  aa0:Binds K A.a1J ["aisles", "ends"] []
  aa1:mg "spots_by" = some (.ref A.j5)
  akJ:Fun K "walk" "walk" pB A.a1K A.akI
  auA:Binds K A.akI ["plan", "bins"] []
  auB:mg "walk" = some (.ref A.a1K)
  aa2:Fun K "length" "length" gB A.pG A.a9P
  ai4:Binds K A.a9P ["plan", "spots"] []
  m_length:mg "length" = some (.ref A.pG)
  gM:Fun K "_law_cell_at" "_law_cell_at" bN A.dH A.pH
  jX:Binds K A.pH ["_law_script", "_law_k"] []
  jY:mg "_law_cell_at" = some (.ref A.dH)
  vJ:Fun K "_law_whole" "_law_whole" c7 A.eY A.uX
  a3I:Binds K A.uX ["_law_found"] []
  a3J:mg "_law_whole" = some (.ref A.eY)
  yR:Fun K "_law_plan" "_law_plan" cO A.gF A.yE
  a6L:Binds K A.yE ["_law_script"] []
  a6M:mg "_law_plan" = some (.ref A.gF)
  yS:Fun K "_law_bins" "_law_bins" cP A.gG A.yF
  a6N:Binds K A.yF ["_law_script", "_law_plan_here"] []
  a6O:mg "_law_bins" = some (.ref A.gG)
  vK:Fun K "_law_other" "_law_other" cA A.eZ A.uY
  a3K:Binds K A.uY ["_law_script", "_law_plan_here", "_law_bins_here"] []
  a3L:mg "_law_other" = some (.ref A.eZ)
  aCC:Fun K "law" "law" yC A.a6G A.au8
  aMX:Binds K A.au8 ["_law_script"] []
  aMY:mg "law" = some (.ref A.a6G)
  afF:mg "DepotError" = some (.ref A.f9)
  jZ:PySem.W.excIn K A.f9 BMv "ValueError.__new__" = true
  fK:(PySem.W.clsIn K A.f9).isSome=true
  iK:PySem.W.typeIn K (.ref A.f9)=some (.type "type")
  fL:PySem.W.subIn K (.ref A.f9) (.type "BaseException")=some true
  afG:ExC K A.f9
  iM:PySem.W.kitOne K (.ref A.f9) (.type "ValueError")=some true
  ai5:mg "NoPlan" = some (.ref A.iJ)
  tY:PySem.W.excIn K A.iJ BMv "ValueError.__new__" = true
  lZ:(PySem.W.clsIn K A.iJ).isSome=true
  oR:PySem.W.typeIn K (.ref A.iJ)=some (.type "type")
  m6:PySem.W.subIn K (.ref A.iJ) (.type "BaseException")=some true
  auC:ExC K A.iJ
  tZ:PySem.W.kitOne K (.ref A.iJ) (.type "ValueError")=some true
  afH:mg "NoBin" = some (.ref A.jM)
  vL:PySem.W.excIn K A.jM BMv "ValueError.__new__" = true
  mY:(PySem.W.clsIn K A.jM).isSome=true
  pR:PySem.W.typeIn K (.ref A.jM)=some (.type "type")
  mZ:PySem.W.subIn K (.ref A.jM) (.type "BaseException")=some true
  aAA:ExC K A.jM
  yU:PySem.W.kitOne K (.ref A.jM) (.type "ValueError")=some true
  fM:∃ t,mg "MOST_AISLES" = some (.int 26 t)
  fO:∃ t,mg "MOST_PLACES" = some (.int 99 t)
  m7:∃ t,mg "MOST_GAP" = some (.int 20 t)
  a5J:∃ a,mg "DOOR" = some (.ref a)∧∀ H,RD K H (.tup [.int 0,.int 0]) (.ref a)
  an8:mg "abs" = none
  akK:mg "bool" = none
  a6P:mg "enumerate" = none
  auD:mg "int" = none
  kJ:mg "isinstance" = none
  aa3:mg "len" = none
  auE:mg "list" = none
  an9:mg "max" = none
  ai6:mg "min" = none
  a3M:mg "range" = none
  aCD:mg "sum" = none
  afI:mg "tuple" = none
  aCE:mg "zip" = none
end Law
namespace Law
open PySem PySem.Spec PyProof.Rows L2 L4 L5 L6
local macro_rules | `(tactic| walk_at "wp")=>`(tactic| first | (simp (maxSteps:=2000000) (implicitDefEqProofs:=false) (disch:=first | rfl | decide | assumption | omega) only [L5.aLV,L5.aGJ,L5.aLW,L5.aGK,L5.aGL,L5.aLX,L5.aGM,L5.aLY,L5.aLZ,L5.x_raise,L5.x_c,L5.aGN,L5.aGO,L5.aQ7,L5.aGP,L5.az5,L5.aM1,L5.aQ8,L5.aM2,L5.aGQ,L5.aM3,L5.aGR,L5.aM4,L5.aM5,L5.aM6,L5.aGS,L5.aM7,L5.aM8,L5.aM9,L5.x_call,L5.aQ9,L5.x_m,L5.aQA,L5.az6,L5.atH,L5.aGT,L5.az7,L5.aME,L5.aH0,L5.aM0,L5.aG8,L5.ayJ,L5.atJ,L5.atL,L5.aMA,L5.aGW,L5.aGX,L5.azQ,L5.aGY,L5.aGZ,L5.x_lt,L5.aQB,L5.x_ge,L5.aQC,L5.aGV,L5.az8,L5.ak5,L5.az9,L5.azA,L5.azB,L5.azC,L5.azD,L5.azE,L5.azF,L5.azG,L5.azH,L5.azI,L5.aMD,L5.azJ,L5.azK,L5.azL,L5.azM,L5.aoX,L5.aoY,L5.dR,L5.azN,L5.azO,L5.azP,L5.aG9,L5.aGA,L5.aGB,L5.aGC,L5.aGD,L5.aGE,L5.aGF,L5.aGG,L5.aGH,L5.aGI,L5.ayK,L5.ayL,L5.ayM,L5.ayN,L5.ayO,L5.ayP,L5.ayQ,L5.ayR,L5.ayS,L5.ayT,L5.ayU,L5.ayV,L5.ayW,L5.ayX,L5.ayY,L5.ayZ,L5.az0,L5.az1,L5.az2,L5.az3,L5.az4,L5.ahJ,L5.aeT,L5.ahK,L5.aeU,L5.abT,L5.aeV,L5.ak7,L5.ahL,L5.ak8,L5.ahM,L5.aeW,L5.ahN,L5.ahO,L5.aeX,L5.ahP,L5.aeY,L5.abU,L5.aeZ,L5.ahQ,L5.af0,L5.ahR,L5.af2,L5.abV,L5.af3,L5.ahS,L5.af4,L5.ahT,L5.af5,L5.abW,L5.af6,L5.akC,L5.akD,L5.akE,L5.aoZ,L5.ap0,L5.akF,L5.ahU,L5.atO,L5.ap1,L5.akG,L5.aMG,L5.aMH,L5.aH1,L5.akH,L5.ap2,L5.ap3,L6.azR,L6.aMI,L6.aH5,L6.aH6,L6.atQ,L6.atR,L6.ap5,L6.azS,L6.azT,L6.aH7,L6.aH9,L6.azU,L6.af7,L6.azV,L6.aML,L6.aMM,L6.atX,L6.aHA,L6.aMN,L6.aMO,L6.azX,L6.azY,L6.azZ,L6.aA0,L6.aMQ,L6.aH3,L6.aMJ,L8.aMU,L8.aHE,L8.aA1,L8.aA2,L8.aQE,L8.aA3,L9.aA5,L9.aHF,L9.aHG,L11.au2,L10.ap8,L10.au0,L10.aHH,L10.aA7,L7.aHB,L7.aMR,L7.aHC,L7.aHD,L7.aMT,reduceIte,reduceCtorEq];try dsimp only [L5.atD,L5.atE,L5.atF,L5.atG,L6.amO]) | dsimp only [L5.atD,L5.atE,L5.atF,L5.atG,L6.amO])
local macro_rules | `(tactic| exists $ls,*)=>`(tactic| (simp (implicitDefEqProofs:=false) only [$[$ls:term],*];repeat (first | (walk_at "wp") | (simp (implicitDefEqProofs:=false) only [$[$ls:term],*]))))
local macro_rules | `(tactic| walk_at "wr")=>`(tactic| repeat (walk_at "wp"))
section
variable {K:Fg} {A:bI} {G:Gp} {R:iD} {EX:aW} {mg:Str→Option Value}
open L7 L8 L9 L10 L11
def isW (d:D) (a b:Int):Bool:=match d with
  | .int i=>decide (a≤i)&&decide (i≤b)
  | _=>false
theorem pU {d:D} {a b:Int} (hd:kn G d) (h:R (.bl (isW d a b)) G):dU K A [d,.int a,.int b] G R EX:=by
  refine ⟨rfl,?_⟩
  replace h:=bV.here h
  show pI K A _ _ [some d,some (.int a),some (.int b)] G
  cases d
  case ref q=>exists pI,akA hd;exact h
  case ty n=>simp [kn,tyD] at hd
  all_goals exists pI
  case int i =>
    by_cases c:a≤i
    · simp only [c,decide_true,if_true]
      simpa [isW,c] using h
    · simp only [c,decide_false,Bool.false_eq_true,if_false]
      simpa [isW,c] using h
  all_goals exact h
def cellAt (ns:List Int) (k:Nat):Int:=if k < ns.length then ns.getD k 0 else if ns=[] then 0 else
  let m:=(ns.getD (k % ns.length) 0 * 48271+k * 104729) % 2147483647
  (m * m+48271 * k) % 2147483629
theorem a5K {a:Addr} {ns:List Int} (hG:G a=some (.rol (ns.map D.int))) {k:Nat} (hk:k < 1000) (h:R (.int (cellAt ns k)) G):bF K A [.ref a,.int (k:Int)] G R EX:=by
  refine ⟨rfl,?_⟩
  replace h:=bV.here h
  show jU K A _ _ [some (.ref a),some (.int k),none] G
  exists jU,zQ (xX hG)
  by_cases c:k < ns.length
  · rw [if_pos (decide_eq_true (by omega))]
    have e:atI (ns.map D.int) (k:Int)=some (.int (ns.getD k 0)):=by rw [xY];simp [c,List.getD]
    rw [a1E (xX hG) e]
    rw [show cellAt ns k=ns.getD k 0 by unfold cellAt;rw [if_pos c]] at h
    exact h
  · rw [if_neg (by simp;omega)]
    exists tW,zQ (xX hG)
    by_cases hn:ns=[]
    · subst hn
      rw [show cellAt [] k=0 by unfold cellAt;simp] at h
      exact h
    · have h0:0 < (ns.length:Int):=by cases ns with
        | nil=>exact absurd rfl hn
        | cons n r=>simp
      have e0:((ns.length:Int) == 0)=false:=by simp;exact hn
      rw [e0]
      exists tV,zQ (xX hG)
      have hm:k % ns.length < ns.length:=Nat.mod_lt _ (by omega)
      have e2:atI (ns.map D.int) ((k:Int) % (ns.length:Int))=some (.int (ns.getD (k % ns.length) 0)):=by
        rw [← Int.natCast_emod,xY];simp [hm,List.getD]
      rw [a1E (xX hG) e2]
      exists tU
      have ec:cellAt ns k=((ns.getD (k % ns.length) 0 * 48271+(k:Int) * 104729) % 2147483647 * ((ns.getD (k % ns.length) 0 * 48271+(k:Int) * 104729) % 2147483647)+48271 * (k:Int)) % 2147483629:=by
        unfold cellAt
        rw [if_neg c,if_neg hn]
      rw [← ec]
      exact h
def isP (d:D) (n a b:Int):Bool:=match d with
  | .tup [x,y]=>isW x 0 (n - 1)&&isW y a b
  | _=>false
theorem ad7 {d:D} {n a b:Int} (hd:kn G d) (hc:∀ x y,d = .tup [x,y]→kn G x∧kn G y) (h:R (.bl (isP d n a b)) G):lV K A [d,.int n,.int a,.int b] G R EX:=by
  refine ⟨rfl,?_⟩
  replace h:=bV.here h
  show oN K A _ _ [some d,some (.int n),some (.int a),some (.int b)] G
  cases d
  case ref q=>exists oN,a2W hd;exact h
  case ty n=>simp [kn,tyD] at hd
  case tup xs =>
    exists oN
    match xs,h,hc with
    | [],h,_=>exact h
    | [x],h,_=>exact h
    | x :: y :: z :: r,h,_ =>
      have e:((((x :: y :: z :: r).length:Nat):Int) == 2)=false:=by simp;omega
      simp only [e]
      exact h
    | [x,y],h,hc =>
      obtain ⟨h1,h2⟩:=hc x y rfl
      exists a6H
      refine pU h1 ?_
      walk_at "wr"
      refine qW (fun e=>pU h2 ?_) fun e=>?_
      · simpa [isP,e] using h
      · simpa [isP,e] using h
  all_goals exists oN
  all_goals exact h
theorem aQG {d:D} {n a b:Int} (h:isP d n a b=true):∃ i j:Int,d = .tup [.int i,.int j]∧0≤i∧i≤n - 1∧a≤j∧j≤b:=by
  unfold isP at h
  split at h
  · rename_i x y
    rw [Bool.and_eq_true] at h
    obtain ⟨h1,h2⟩:=h
    unfold isW at h1 h2
    split at h1
    · split at h2
      · simp only [Bool.and_eq_true,decide_eq_true_eq] at h1 h2
        exact ⟨_,_,rfl,h1.1,h1.2,h2.1,h2.2⟩
      · cases h2
    · cases h1
  · cases h
theorem auF {i j n a b:Int}:isP (.tup [.int i,.int j]) n a b=(decide (0≤i)&&decide (i≤n - 1)&&(decide (a≤j)&&decide (j≤b))):=rfl
def ai7 (d:D):Bool:=match d with
  | .tup [x,y,z]=>isW x 1 26&&(isW y 1 99&&isW z 1 20)
  | _=>false
theorem apA {d:D} (hd:kn G d) (hc:∀ x y z,d = .tup [x,y,z]→kn G x∧kn G y∧kn G z) (h:R (.bl (ai7 d)) G):v7 K A [d] G R EX:=by
  refine ⟨rfl,?_⟩
  replace h:=bV.here h
  show oO K A _ _ [some d] G
  cases d
  case ref q=>exists oO,a2W hd;exact h
  case ty n=>simp [kn,tyD] at hd
  case tup xs =>
    exists oO
    match xs,h,hc with
    | [],h,_=>exact h
    | [x],h,_=>exact h
    | [x,y],h,_=>exact h
    | x :: y :: z :: w :: r,h,_ =>
      have e:((((x :: y :: z :: w :: r).length:Nat):Int) == 3)=false:=by simp;omega
      simp only [e]
      exact h
    | [x,y,z],h,hc =>
      obtain ⟨h1,h2,h3⟩:=hc x y z rfl
      exists a6J
      refine pU h1 ?_
      walk_at "wr"
      refine aoD (fun e=>?_) fun e=>?_
      · simpa [ai7,e] using h
      · have e:isW x 1 26=true:=by simpa using e
        refine pU h2 ?_
        walk_at "wr"
        refine aoD (fun e2=>?_) fun e2=>?_
        · simpa [ai7,e2] using h
        · have e2:isW y 1 99=true:=by simpa using e2
          exists a6I
          refine pU h3 ?_
          simpa [ai7,e,e2] using h
  all_goals exists oO
  all_goals exact h
theorem ai8 {d:D} (hd:kn G d) (hc:∀ x y z,d = .tup [x,y,z]→kn G x∧kn G y∧kn G z) (h0:ai7 d=false→EX A.iJ G) (h1:ai7 d=true→R .non G):cC K A [d] G R EX:=by
  refine ⟨rfl,?_⟩
  show qX K A _ _ [some d] G
  exists qX
  refine apA hd hc ?_
  walk_at "wr"
  exact aoD (fun e=>a9H.here (h0 e)) fun e=>bV.here (h1 (by simpa using e))
def mL (x y g:Nat):D := .tup [.int x,.int y,.int g]
structure OkP (x y g:Nat):Prop where
  x0:1≤x
  x1:x≤26
  y0:1≤y
  y1:y≤99
  g0:1≤g
  g1:g≤20
theorem aAC {x y g:Nat} (o:OkP x y g):ai7 (mL x y g)=true:=by
  obtain ⟨_,_,_,_,_,_⟩:=o
  simp [ai7,mL,isW]
  omega
theorem zZ {x y g:Nat} (o:OkP x y g) (h:R .non G):cC K A [mL x y g] G R EX :=
  ai8 ak9 (fun a b c e=>by cases e;exact ⟨rfl,rfl,rfl⟩) (fun e=>by rw [aAC o] at e;cases e) fun _=>h
def kp (G:Gp) (d:D):Prop:=kn G d∧∀ xs,d = .tup xs→∀ x∈xs,kn G x
theorem kp.pl {d:D} (h:kp G d):∀ x y z,d = .tup [x,y,z]→kn G x∧kn G y∧kn G z:=fun x y z e=>⟨h.2 _ e x (by simp),h.2 _ e y (by simp),h.2 _ e z (by simp)⟩
theorem kp.pr {d:D} (h:kp G d):∀ x y,d = .tup [x,y]→kn G x∧kn G y:=fun x y e=>⟨h.2 _ e x (by simp),h.2 _ e y (by simp)⟩
theorem kp.le {G':Gp} (l:Le G G') {d:D} (h:kp G d):kp G' d:=⟨aC7 l h.1,fun xs e x m=>aC7 l (h.2 xs e x m)⟩
theorem aRJ {d:D} (h:kn G d) (hn:∀ xs,d ≠ .tup xs):kp G d:=⟨h,fun xs e=>absurd e (hn xs)⟩
theorem auG {xs:List D} (h:∀ x∈xs,kn G x):kp G (.tup xs):=⟨ak9,fun ys e=>by cases e;exact h⟩
theorem aRK {x y g:Nat}:kp G (mL x y g):=auG (all_cons rfl (all_cons rfl (all_cons rfl all_nil)))
def aAD (y g:Nat) (i j i' j':Int):Int:=if i=i' then (if j - j' < 0 then -(j - j') else j - j') else (g:Int) * (if i - i' < 0 then -(i - i') else i - i')+(if 2 * ((y:Int)+1) - (j+j') < j+j' then 2 * ((y:Int)+1) - (j+j') else j+j')
def okS (x y:Nat) (i j:Int):Prop:=0≤i∧i < x∧0≤j∧j≤(y:Int)+1
theorem ad9 {d:D} {x y g:Nat} (o:OkP x y g) (hd:kp G d) (h:R (.bl (isP d x 0 (y+1))) G):pK K A [mL x y g,d] G R EX:=by
  refine ⟨rfl,?_⟩
  show zW K A _ _ [some (mL x y g),some d] G
  exists zW
  refine zZ o ?_
  unfold mL
  exists a6K
  exact ad7 hd.1 hd.pr (bV.here h)
theorem aCF {x y:Nat} {i j:Int} (h:okS x y i j):isP (.tup [.int i,.int j]) x 0 (y+1)=true:=by
  obtain ⟨h1,h2,h3,h4⟩:=h
  rw [auF]
  simp
  omega
theorem aCG {i j:Int}:kp G (.tup [.int i,.int j]):=auG (all_cons rfl (all_cons rfl all_nil))
theorem aMZ {x y g:Nat} (o:OkP x y g) {i j i' j':Int} (h1:okS x y i j) (h2:okS x y i' j') (h:R (.int (aAD y g i j i' j')) G):afA K A [mL x y g,.tup [.int i,.int j],.tup [.int i',.int j']] G R EX:=by
  refine ⟨rfl,?_⟩
  have ⟨a1,a2,a3,a4⟩:=h1
  have ⟨b1,b2,b3,b4⟩:=h2
  have ox:=o.x1
  have oy:=o.y1
  have og:=o.g1
  show amU K A _ _ [some (mL x y g),some (.tup [.int i,.int j]),some (.tup [.int i',.int j']),none,none] G
  exists amU
  refine ad9 o aCG ?_
  rw [aCF h1]
  walk_at "wr"
  refine ad9 o aCG ?_
  rw [aCF h2]
  exists amT
  unfold aAD at h
  refine aoD (fun e=>?_) fun e=>?_
  · rw [if_pos (by simpa using e)] at h
    exact bV.here h
  · rw [if_neg (by simpa using e)] at h
    unfold mL
    exists amS,amR,amQ
    exact bV.here h
def HS (G:Gp) (p:Addr) (xs:List D) (G':Gp):Prop:=G' p=some (.lst xs)∧∀ q u,q≠p→G q=some u→G' q=some u
theorem HS.le {p:Addr} {xs:List D} {G':Gp} (h:HS G p xs G'):Le (aN G p (.lst xs)) G':=fun q u e=>by
  by_cases c:q=p
  · subst c
    rw [aQ] at e
    exact e ▸ h.1
  · rw [bK c] at e
    exact h.2 q u c e
theorem HS.new {p q:Addr} {xs:List D} {G':Gp} {o:GO} (h:HS G p xs G') (hq:G' q=none):HS G p xs (aN G' q o):=⟨oV h.1 hq,fun r u n e=>oV (h.2 r u n e) hq⟩
theorem HS.trans {p:Addr} {xs ys:List D} {G' G2:Gp} (h:HS G p xs G') (h2:HS G' p ys G2):HS G p ys G2:=⟨h2.1,fun r u n e=>h2.2 r u n (h.2 r u n e)⟩
theorem HS.put {p:Addr} {xs ys:List D} (h:G p=some (.lst xs)):HS G p ys (aN G p (.lst ys)):=⟨aQ,fun r u n e=>by rw [bK n];exact e⟩
theorem HS.more {p:Addr} {xs:List D} {G' G2:Gp} (h:HS G p xs G') (l:Le G' G2):HS G p xs G2:=⟨l _ _ h.1,fun r u n e=>l _ _ (h.2 r u n e)⟩
theorem HS.leG {p:Addr} {xs:List D} {G':Gp} (h:HS G p xs G') (hp:G p=none):Le G G':=fun r u e=>h.2 r u (fun z=>by subst z;rw [hp] at e;cases e) e
theorem HS.mk0 {p:Addr} {xs:List D}:HS G p xs (aN G p (.lst xs)):=⟨aQ,fun r u n e=>by rw [bK n];exact e⟩
theorem HS.snd {p:Addr} {xs ys:List D} {G':Gp} (h:HS G p xs G'):HS G p ys (aN G' p (.lst ys)):=h.trans (.put h.1)
theorem aAE {i:Int} (h:R (.bl true) G):mJ K A [.int i] G R EX:=by
  refine ⟨rfl,?_⟩
  show o9 K A _ _ [some (.int i)] G
  exists o9
  exact bV.here h
abbrev gO (q:Int×Int):D := .tup [.int q.1,.int q.2]
theorem anA {F:cZ} {ex:aM→aW} {a:Addr} {ns:List Int} {x y:Int} {r1:Option D} (hG:G a=some (.rol (ns.map D.int))) (hx:1≤x∧x≤26) (hy:1≤y∧y≤99) (h:∀ x y g:Nat,OkP x y g→F.rt (mL x y g) G):rY K A ex F [some (.ref a),r1,some (.int x),some (.int y)] G:=by
  exists rY
  refine a5K (k:=2) hG (by omega) ?_
  walk_at "wr"
  have z:=h x.toNat y.toNat (1+cellAt ns 2 % 20).toNat ⟨by omega,by omega,by omega,by omega,by omega,by omega⟩
  unfold mL at z
  rw [Int.toNat_of_nonneg (by omega),Int.toNat_of_nonneg (by omega),Int.toNat_of_nonneg (by omega)] at z
  exact z
theorem anB {F:cZ} {ex:aM→aW} {a:Addr} {ns:List Int} {x:Int} {r1 r3:Option D} (hG:G a=some (.rol (ns.map D.int))) (hx:1≤x∧x≤26) (h:∀ x y g:Nat,OkP x y g→F.rt (mL x y g) G):rZ K A ex F [some (.ref a),r1,some (.int x),r3] G:=by
  exists rZ
  refine a5K (k:=1) hG (by omega) ?_
  exists a0B,a0A
  exact qW (fun _=>anA hG hx (by omega) h) fun _=>anA hG hx (by omega) h
theorem aAF {a:Addr} {ns:List Int} (hG:G a=some (.rol (ns.map D.int))) (h:∀ x y g:Nat,OkP x y g→R (mL x y g) G):oE K A [.ref a] G R EX:=by
  refine ⟨rfl,?_⟩
  have h':∀ x y g:Nat,OkP x y g→bV R (mL x y g) G:=fun x y g o=>bV.here (h x y g o)
  show rD K A _ _ [some (.ref a),none,none,none] G
  exists rD
  refine a5K (k:=0) hG (by omega) ?_
  exists a0D,a0C
  exact qW (fun _=>anB hG (by omega) h') fun _=>anB hG (by omega) h'
def Wk (y:Nat) (q r:Int×Int):Prop:=q.1=r.1∨(q.2=r.2∧(q.2=0∨q.2=(y:Int)+1))
def InP (x y:Nat) (q:Int×Int):Prop:=0≤q.1∧q.1 < x∧0≤q.2∧q.2≤(y:Int)+1
structure Walk (x y:Nat) (qs:List (Int×Int)):Prop where
  inn:∀ q∈qs,InP x y q
  step:∀ (k:Nat) q r,qs[k]?=some q→qs[k+1]?=some r→Wk y q r
theorem Walk.snoc {x y:Nat} {qs:List (Int×Int)} {l r:Int×Int} (h:Walk x y qs) (hl:qs[qs.length - 1]?=some l) (hr:InP x y r) (hw:Wk y l r):Walk x y (qs++[r]):=by
  have n0:qs.length - 1 < qs.length:=(List.getElem?_eq_some_iff.mp hl).1
  refine ⟨fun q hq=>?_,fun k a b ha hb=>?_⟩
  · rcases List.mem_append.mp hq with hq | hq
    · exact h.inn q hq
    · rw [List.mem_singleton] at hq
      exact hq ▸ hr
  · have kb:=(List.getElem?_eq_some_iff.mp hb).1
    rw [List.length_append,List.length_singleton] at kb
    rw [List.getElem?_append_left (by omega)] at ha
    by_cases c:k+1 < qs.length
    · rw [List.getElem?_append_left c] at hb
      exact h.step k a b ha hb
    · have e:k+1=qs.length:=by omega
      rw [e,List.getElem?_concat_length] at hb
      cases hb
      rw [show k=qs.length - 1 by omega,hl] at ha
      cases ha
      exact hw
theorem apB {qs:List (Int×Int)} {r:Int×Int}:(qs++[r])[(qs++[r]).length - 1]?=some r:=by
  simp
theorem aIL {qs:List (Int×Int)} {r z:Int×Int} (h:qs[0]?=some z):(qs++[r])[0]?=some z:=by
  cases qs with
  | nil=>cases h
  | cons a l=>exact h
theorem aNT {p:Addr} {qs:List (Int×Int)} {l:Int×Int} (hp:G p=some (.lst (qs.map gO))) (hl:qs[qs.length - 1]?=some l) (h:R (.tup [.int l.1,.int l.2]) G):cQ (.ref p) (.int ((qs.length:Int) - 1)) G R:=by
  have n0:qs.length - 1 < qs.length:=(List.getElem?_eq_some_iff.mp hl).1
  rw [a1E (bQ hp) (d:=gO l) (by rw [show (qs.length:Int) - 1=((qs.length - 1:Nat):Int) by omega,xY,List.getElem?_map,hl];rfl)]
  exact h
def cH (g:Nat) (q r:Int×Int):Int:=(if q.2 - r.2 < 0 then -(q.2 - r.2) else q.2 - r.2)+(g:Int) * (if q.1 - r.1 < 0 then -(q.1 - r.1) else q.1 - r.1)
def m8 (g:Nat):List (Int×Int)→Int
  | q :: r :: z=>cH g q r+m8 g (r :: z)
  | _=>0
theorem a5L {g:Nat} {q r:Int×Int}:∀ xs:List (Int×Int),m8 g (xs++[q,r])=m8 g (xs++[q])+cH g q r
  | []=>by simp [m8]
  | [a]=>by simp [m8]
  | a :: b :: z=>by
    have:=a5L (g:=g) (q:=q) (r:=r) (b :: z)
    simp only [List.cons_append,m8] at *
    omega
theorem apC {g:Nat} {qs:List (Int×Int)} {k:Nat} {q r:Int×Int} (h1:qs[k]?=some q) (h2:qs[k+1]?=some r):m8 g (qs.take (k+2))=m8 g (qs.take (k+1))+cH g q r:=by
  rw [List.take_succ,h2,List.take_succ,h1]
  have:=a5L (g:=g) (q:=q) (r:=r) (qs.take k)
  simpa using this
theorem auH {g:Nat} {qs:List (Int×Int)} (n:qs≠[]):m8 g (qs.take (0+1))=0:=by
  cases qs with
  | nil=>exact absurd rfl n
  | cons q r=>simp [m8]
theorem aCH {p:Addr} {qs:List (Int×Int)} {k:Nat} {q:Int×Int} (hp:aO G p=some (qs.map gO)) (hq:qs[k]?=some q) (h:R (.tup [.int q.1,.int q.2]) G):cQ (.ref p) (.int (k:Int)) G R:=by
  rw [a1E hp (d:=gO q) (by rw [xY,List.getElem?_map,hq];rfl)]
  exact h
theorem aa4:∀ (xs:List (Int×Int)) {n:Nat},2≤n→(xs.map gO).all (aL n)=true
  | [],_,_=>rfl
  | q :: r,n,h=>by
    rw [List.map_cons,List.all_cons,aa4 r h]
    obtain ⟨m,rfl⟩:∃ m,n=m+2:=⟨n - 2,by omega⟩
    rfl
theorem aN0 {xs:List (Int×Int)}:jH (xs.map gO) (xs.map gO)=true:=a4Q (n:=2) fun x hx=>List.all_eq_true.mp (aa4 xs (by omega)) x hx
theorem auI {y g:Nat} {q r:Int×Int} (w:Wk y q r):aAD y g q.1 q.2 r.1 r.2=cH g q r:=by
  unfold aAD cH
  by_cases c:q.1=r.1
  · rw [if_pos c,c,Int.sub_self]
    simp
  · rw [if_neg c]
    rcases w with w | ⟨w1,w2⟩
    · exact absurd w c
    · rw [w1,Int.sub_self]
      rw [w1] at w2
      generalize (g:Int) * (if q.1 - r.1 < 0 then -(q.1 - r.1) else q.1 - r.1)=M
      split <;> split <;> omega
theorem ai9 {g:Nat}:∀ qs:List (Int×Int),m8 g qs=((qs.zip qs.tail).map fun z=>cH g z.1 z.2).sum
  | []=>rfl
  | [_]=>rfl
  | a :: b :: z=>by
    have ih:=ai9 (g:=g) (b :: z)
    show cH g a b+m8 g (b :: z)=cH g a b+(((b :: z).zip (b :: z).tail).map fun z=>cH g z.1 z.2).sum
    rw [ih]
theorem aHI {p:Addr} {xs:List D} {lo hi:Option Int} (h:aO G p=some xs):ax9 (.ref p) lo hi G R=∀ q,G q=none→R (.ref q) (aN G q (.lst (cutD xs lo hi))):=by
  unfold ax9
  simp only [h]
theorem aAG {α:Type} {xs:List α}:cutD xs (some 1) none=xs.tail:=by
  unfold L2.cutD
  have e:=HT.awJ xs.length 0 1
  rw [show ((1:Nat):Int)=1 from rfl] at e
  rw [e,HT.aqS]
  cases xs with
  | nil=>rfl
  | cons x r =>
    have:min 1 (x :: r).length=1:=by simp
    rw [this]
    simp
theorem aAH {qs:List (Int×Int)} {z:(Int×Int)×(Int×Int)} (h:z∈qs.zip qs.tail):∃ k,qs[k]?=some z.1∧qs[k+1]?=some z.2:=by
  obtain ⟨k,hk⟩:=List.mem_iff_getElem?.mp h
  obtain ⟨h1,h2⟩:=List.getElem?_zip_eq_some.mp hk
  exact ⟨k,h1,by rw [List.getElem?_tail] at h2;exact h2⟩
theorem a8D {xs ys:List (Int×Int)}:prs (xs.map gO) (ys.map gO)=(xs.zip ys).map fun z=>D.tup [gO z.1,gO z.2]:=by
  unfold L2.prs
  rw [List.zip_map,List.map_map]
  rfl
theorem aiA {p:Addr} {x y g:Nat} {qs:List (Int×Int)} (o:OkP x y g) (hs:aO G p=some (qs.map gO)) (w:Walk x y qs) (n:qs≠[]) (ql:qs.length≤1000) (h:∀ G',Le G G'→R (.int (m8 g qs)) G'):tR K A [mL x y g,.ref p] G R EX:=by
  have big:10000 < sizeLine:=by decide
  refine ⟨rfl,?_⟩
  have h':∀ G',Le G G'→bV R (.int (m8 g qs)) G':=fun G' l=>bV.here (h G' l)
  show a3G K A _ _ [some (mL x y g),some (.ref p)] G
  exists a3G
  refine zZ o ?_
  exists a9S
  rw [aHI hs]
  intro q hq
  rw [aAG,← List.map_tail]
  rw [ap4 (eF (.new hq) hs) dR]
  have zl:(qs.zip qs.tail).length≤1000:=by rw [List.length_zip,List.length_tail];omega
  refine ahW (fun d=>match d with | .tup xs=>xs | _=>[]) (fun _=>true) (fun d=>match d with | .tup [.tup [.int i,.int j],.tup [.int i',.int j']] => .int (cH g (i,j) (i',j')) | _ => .non) ?_ ⟨eF (.new hq) hs,dR⟩ (fun d hd=>?_) (fun d hd G' l Q h=>h G' (.refl _)) (fun d hd _ G' l Q h=>?_) fun r hr=>?_
  · show (prs (qs.map gO) (qs.tail.map gO)).length < _
    rw [a8D,List.length_map]
    omega
  · rw [show (Src.zip p q (qs.map gO) (qs.tail.map gO)).items=prs (qs.map gO) (qs.tail.map gO) from rfl,a8D] at hd
    obtain ⟨z,_,rfl⟩:=List.mem_map.mp hd
    rfl
  · rw [show (Src.zip p q (qs.map gO) (qs.tail.map gO)).items=prs (qs.map gO) (qs.tail.map gO) from rfl,a8D] at hd
    obtain ⟨⟨⟨i,j⟩,⟨i',j'⟩⟩,hz,rfl⟩:=List.mem_map.mp hd
    obtain ⟨k,h1,h2⟩:=aAH hz
    have w1:=w.inn _ (List.mem_of_getElem? h1)
    have w2:=w.inn _ (List.mem_of_getElem? h2)
    have st:=auI (g:=g) (w.step k _ _ h1 h2)
    walk_at "wr"
    refine aMZ o w1 w2 ?_
    rw [st]
    exact h G' (.refl _)
  · have e:((Src.zip p q (qs.map gO) (qs.tail.map gO)).items.filter fun _=>true).map (fun d=>match d with | .tup [.tup [.int i,.int j],.tup [.int i',.int j']]=>D.int (cH g (i,j) (i',j')) | _ => .non)=((qs.zip qs.tail).map fun z=>cH g z.1 z.2).map D.int:=by
      rw [show (Src.zip p q (qs.map gO) (qs.tail.map gO)).items=prs (qs.map gO) (qs.tail.map gO) from rfl,a8D,List.filter_eq_self.mpr fun _ _=>rfl,List.map_map,List.map_map]
      rfl
    rw [e,aMP dR,← ai9]
    walk_at "wr"
    exact h' _ ((Le.new hq).trans (.new hr))
def mxL:List Int→Int
  | []=>0
  | [a]=>a
  | a :: b :: r=>if mxL (b :: r) < a then a else mxL (b :: r)
def mnL:List Int→Int
  | []=>0
  | [a]=>a
  | a :: b :: r=>if a < mnL (b :: r) then a else mnL (b :: r)
theorem sI:∀ {l:List Int},l≠[]→mxL l∈l∧∀ a∈l,a≤mxL l
  | [],h=>absurd rfl h
  | [a],_=>⟨by simp [mxL],fun b hb=>by simp at hb;simp [mxL,hb]⟩
  | a :: b :: r,_=>by
    obtain ⟨h1,h2⟩:=sI (l:=b :: r) (by simp)
    unfold mxL
    split
    · rename_i c
      refine ⟨by simp,fun d hd=>?_⟩
      rcases List.mem_cons.mp hd with e | hd
      · omega
      · have:=h2 d hd;omega
    · rename_i c
      refine ⟨List.mem_cons_of_mem _ h1,fun d hd=>?_⟩
      rcases List.mem_cons.mp hd with e | hd
      · omega
      · exact h2 d hd
theorem a5M:∀ {l:List Int},l≠[]→mnL l∈l∧∀ a∈l,mnL l≤a
  | [],h=>absurd rfl h
  | [a],_=>⟨by simp [mnL],fun b hb=>by simp at hb;simp [mnL,hb]⟩
  | a :: b :: r,_=>by
    obtain ⟨h1,h2⟩:=a5M (l:=b :: r) (by simp)
    unfold mnL
    split
    · rename_i c
      refine ⟨by simp,fun d hd=>?_⟩
      rcases List.mem_cons.mp hd with e | hd
      · omega
      · have:=h2 d hd;omega
    · rename_i c
      refine ⟨List.mem_cons_of_mem _ h1,fun d hd=>?_⟩
      rcases List.mem_cons.mp hd with e | hd
      · omega
      · exact h2 d hd
theorem aa5 {l:List Int} {M:Int} (h1:M∈l) (h2:∀ a∈l,a≤M):M=mxL l:=by
  have n:l≠[]:=fun e=>by subst e;cases h1
  have:=(sI n).2 M h1
  have:=h2 _ (sI n).1
  omega
theorem akM {l:List Int} {M:Int} (h1:M∈l) (h2:∀ a∈l,M≤a):M=mnL l:=by
  have n:l≠[]:=fun e=>by subst e;cases h1
  have:=(a5M n).2 M h1
  have:=h2 _ (a5M n).1
  omega
def u0 (n:Int) (ps:List Int) (e g:Int):Int:=if g=e then (if ps=[] then 0 else if e=0 then 2 * mxL ps else 2 * (n - mnL ps)) else n
def cost (n:Int):List (List Int)→Int→List Int→Int
  | ps :: r,e,g :: es=>u0 n ps e g+cost n r g es
  | _,_,_=>0
def bO (e:Int) (es:List Int):Int:=es.getLastD e
theorem jA {e g:Int} {es:List Int}:bO e (es++[g])=g:=by simp [bO]
theorem akN {e g:Int} {es:List Int}:bO e (g :: es)=bO g es:=by
  unfold bO
  cases es with
  | nil=>rfl
  | cons a r=>simp [List.getLastD]
theorem u5 {n:Int} {ps:List Int} {g:Int}:∀ {cF:List (List Int)} {e:Int} {es:List Int},es.length=cF.length→cost n (cF++[ps]) e (es++[g])=cost n cF e es+u0 n ps (bO e es) g
  | [],e,[],_=>by simp [cost,bO]
  | [],_,_ :: _,h=>by simp at h
  | _ :: _,_,[],h=>by simp at h
  | q :: r,e,f :: es,h=>by
    have ih:=u5 (n:=n) (ps:=ps) (g:=g) (cF:=r) (e:=f) (es:=es) (by simpa using h)
    show u0 n q e f+cost n (r++[ps]) f (es++[g])=u0 n q e f+cost n r f es+u0 n ps (bO e (f :: es)) g
    rw [ih,akN]
    omega
structure Ens (n:Int) (k:Nat) (es:List Int):Prop where
  len:es.length=k
  inn:∀ g∈es,g=0∨g=n
theorem Ens.snoc {n:Int} {k:Nat} {es:List Int} {g:Int} (h:Ens n k es) (hg:g=0∨g=n):Ens n (k+1) (es++[g]) :=
  ⟨by simp [h.len],fun f hf=>(List.mem_append.mp hf).elim (h.inn f) fun z=>by rw [List.mem_singleton.mp z];exact hg⟩
theorem Ens.split {n:Int} {k:Nat} {es:List Int} (h:Ens n (k+1) es):∃ es0 g,es=es0++[g]∧Ens n k es0∧(g=0∨g=n):=by
  have ne:es≠[]:=fun e=>by have:=h.len;rw [e] at this;simp at this
  refine ⟨es.dropLast,es.getLast ne,(List.dropLast_concat_getLast ne).symm,⟨by rw [List.length_dropLast,h.len];rfl,fun g hg=>h.inn g (List.dropLast_subset _ hg)⟩,h.inn _ (List.getLast_mem ne)⟩
theorem Ens.last {n:Int} {k:Nat} {es:List Int} (h:Ens n k es):bO 0 es=0∨bO 0 es=n:=by
  unfold bO
  cases es with
  | nil=>exact .inl rfl
  | cons a r=>simp only [List.getLastD];exact h.inn _ (List.getLast_mem _)
abbrev Way:=Int×Int×List Int
def Ent (n:Int) (cF:List (List Int)) (z:Way):Prop:=Ens n cF.length z.2.2∧bO 0 z.2.2=z.1∧z.2.1=cost n cF 0 z.2.2
structure a3N (n:Int) (cF:List (List Int)) (kvs:List Way):Prop where
  ent:∀ z∈kvs,Ent n cF z
  all:∀ es,Ens n cF.length es→∃ z∈kvs,z.1=bO 0 es∧z.2.1≤cost n cF 0 es
  nd:(kvs.map (·.1)).Nodup
theorem a3N.nil {n:Int}:a3N n [] [(0,0,[])]:=by
  refine ⟨fun z hz=>?_,fun es h=>?_,by simp⟩
  · rw [List.mem_singleton.mp hz]
    exact ⟨⟨rfl,fun g hg=>by cases hg⟩,rfl,rfl⟩
  · have:es=[]:=List.length_eq_zero_iff.mp h.len
    subst this
    exact ⟨_,List.mem_singleton_self _,rfl,Int.le_refl _⟩
theorem a3N.key {n:Int} {cF:List (List Int)} {kvs:List Way} (h:a3N n cF kvs):∀ z∈kvs,z.1=0∨z.1=n:=fun z hz=>by
  obtain ⟨h1,h2,_⟩:=h.ent z hz
  rw [← h2];exact h1.last
theorem anD {n:Int}:∀ {l:List Int},l.Nodup→(∀ z∈l,z=0∨z=n)→l.length≤2
  | [],_,_=>by simp
  | [_],_,_=>by simp
  | [_,_],_,_=>by simp
  | a :: b :: c :: r,nd,h=>by
    simp only [List.nodup_cons,List.mem_cons,not_or] at nd
    have h1:=h a (by simp)
    have h2:=h b (by simp)
    have h3:=h c (by simp)
    omega
theorem a3N.two {n:Int} {cF:List (List Int)} {kvs:List Way} (h:a3N n cF kvs):kvs.length≤2:=by
  have:=anD h.nd (fun z hz=>by obtain ⟨w,hw,rfl⟩:=List.mem_map.mp hz;exact h.key w hw)
  simpa using this
structure Fnd (n:Int) (cF:List (List Int)) (C:List (Int×Int)) (fk:List Way):Prop where
  ent:∀ z∈fk,Ent n cF z
  bd:∀ c∈C,∃ z∈fk,z.1=c.1∧z.2.1≤c.2
  nd:(fk.map (·.1)).Nodup
theorem Fnd.nil {n:Int} {cF:List (List Int)}:Fnd n cF [] []:=⟨(fun z hz=>by cases hz),(fun c hc=>by cases hc),(by simp)⟩
theorem Fnd.two {n:Int} {cF:List (List Int)} {C:List (Int×Int)} {fk:List Way} (h:Fnd n cF C fk):fk.length≤2:=by
  have:=anD h.nd (fun z hz=>by
    obtain ⟨w,hw,rfl⟩:=List.mem_map.mp hz
    obtain ⟨h1,h2,_⟩:=h.ent w hw
    rw [← h2];exact h1.last)
  simpa using this
def u6 (fk:List Way) (g:Int):Option (Int×List Int):=match fk with
  | []=>none
  | z :: r=>if z.1=g then some z.2 else u6 r g
def auJ (fk:List Way) (g:Int) (w:Int×List Int):List Way:=if (u6 fk g).isSome then fk.map (fun z=>if z.1=g then (z.1,w) else z) else fk++[(g,w)]
theorem aa6:∀ {fk:List Way} {g:Int} {w:Int×List Int},u6 fk g=some w→(g,w)∈fk
  | [],_,_,h=>by cases h
  | z :: r,g,w,h=>by
    unfold u6 at h
    split at h
    · rename_i c
      cases h
      rw [← c]
      exact .head _
    · exact List.mem_cons_of_mem _ (aa6 h)
theorem a8E:∀ {fk:List Way} {z:Way},(fk.map (·.1)).Nodup→z∈fk→u6 fk z.1=some z.2
  | [],_,_,h=>by cases h
  | y :: r,z,nd,h=>by
    rw [List.map_cons,List.nodup_cons] at nd
    unfold u6
    rcases List.mem_cons.mp h with e | h
    · rw [if_pos (by rw [e]),e]
    · rw [if_neg (fun c=>nd.1 (by rw [c];exact List.mem_map.mpr ⟨z,h,rfl⟩))]
      exact a8E nd.2 h
theorem adA:∀ {fk:List Way} {g:Int},u6 fk g=none→∀ z∈fk,z.1≠g
  | [],_,_,_,h=>by cases h
  | y :: r,g,h,z,hz=>by
    unfold u6 at h
    split at h
    · cases h
    · rename_i c
      rcases List.mem_cons.mp hz with e | hz
      · rw [e];exact c
      · exact adA h z hz
theorem Fnd.put {n:Int} {cF:List (List Int)} {C:List (Int×Int)} {fk:List Way} {g:Int} {one w:Int×List Int} (h:Fnd n cF C fk) (ho:Ent n cF (g,one)) (hw:(w=one∧(∀ v,u6 fk g=some v→one.1≤v.1))∨(u6 fk g=some w∧w.1≤one.1)) :
    Fnd n cF (C++[(g,one.1)]) (auJ fk g w):=by
  have ew:Ent n cF (g,w):=by
    rcases hw with ⟨e,_⟩ | ⟨e,_⟩
    · rw [e];exact ho
    · exact h.ent _ (aa6 e)
  have lo:w.1≤one.1:=by
    rcases hw with ⟨e,_⟩ | ⟨_,e⟩
    · rw [e];exact Int.le_refl _
    · exact e
  have lv:∀ v,u6 fk g=some v→w.1≤v.1:=fun v hv=>by
    rcases hw with ⟨e,q⟩ | ⟨e,_⟩
    · rw [e];exact q v hv
    · rw [e] at hv;cases hv;exact Int.le_refl _
  unfold auJ
  split
  · rename_i hs
    obtain ⟨v,hv⟩:=Option.isSome_iff_exists.mp hs
    have here:(g,w)∈fk.map (fun z=>if z.1=g then (z.1,w) else z):=List.mem_map.mpr ⟨(g,v),aa6 hv,by simp⟩
    refine ⟨fun z hz=>?_,fun c hc=>?_,?_⟩
    · obtain ⟨y,hy,rfl⟩:=List.mem_map.mp hz
      split
      · rename_i e;rw [e];exact ew
      · exact h.ent y hy
    · rcases List.mem_append.mp hc with hc | hc
      · obtain ⟨z,hz,h1,h2⟩:=h.bd c hc
        by_cases e:z.1=g
        · have:=a8E h.nd hz
          rw [e] at this
          exact ⟨_,here,by rw [← h1,e],Int.le_trans (lv _ this) h2⟩
        · exact ⟨z,List.mem_map.mpr ⟨z,hz,if_neg e⟩,h1,h2⟩
      · rw [List.mem_singleton.mp hc]
        exact ⟨_,here,rfl,lo⟩
    · have:(fk.map (fun z=>if z.1=g then (z.1,w) else z)).map (·.1)=fk.map (·.1):=by
        rw [List.map_map]
        refine List.map_congr_left fun z _=>?_
        simp only [Function.comp]
        split <;> rfl
      rw [this];exact h.nd
  · rename_i hs
    have hn:u6 fk g=none:=by cases q:u6 fk g with
      | none=>rfl
      | some v=>rw [q] at hs;exact absurd rfl hs
    refine ⟨fun z hz=>?_,fun c hc=>?_,?_⟩
    · rcases List.mem_append.mp hz with hz | hz
      · exact h.ent z hz
      · rw [List.mem_singleton.mp hz];exact ew
    · rcases List.mem_append.mp hc with hc | hc
      · obtain ⟨z,hz,h1,h2⟩:=h.bd c hc
        exact ⟨z,List.mem_append_left _ hz,h1,h2⟩
      · rw [List.mem_singleton.mp hc]
        exact ⟨_,List.mem_append_right _ (List.mem_singleton_self _),rfl,lo⟩
    · rw [List.map_append,List.nodup_append]
      refine ⟨h.nd,by simp,fun a ha b hb e=>?_⟩
      obtain ⟨z,hz,rfl⟩:=List.mem_map.mp ha
      simp at hb
      exact adA hn z hz (e.trans hb)
theorem Ent.next {n:Int} {cF:List (List Int)} {ps:List Int} {z:Way} {g:Int} (h:Ent n cF z) (hg:g=0∨g=n):Ent n (cF++[ps]) (g,z.2.1+u0 n ps z.1 g,z.2.2++[g]):=by
  obtain ⟨h1,h2,h3⟩:=h
  refine ⟨by rw [List.length_append];exact h1.snoc hg,jA,?_⟩
  show z.2.1+u0 n ps z.1 g=cost n (cF++[ps]) 0 (z.2.2++[g])
  rw [u5 h1.len,h2,h3]
def cands (n:Int) (ps:List Int) (kvs:List Way):List (Int×Int):=kvs.flatMap fun z=>[(0,z.2.1+u0 n ps z.1 0),(n,z.2.1+u0 n ps z.1 n)]
theorem a3N.next {n:Int} {cF:List (List Int)} {ps:List Int} {kvs fk:List Way} (h:a3N n cF kvs) (f:Fnd n (cF++[ps]) (cands n ps kvs) fk):a3N n (cF++[ps]) fk:=by
  refine ⟨f.ent,fun es he=>?_,f.nd⟩
  rw [List.length_append] at he
  obtain ⟨es0,g,rfl,h0,hg⟩:=he.split
  obtain ⟨z,hz,z1,z2⟩:=h.all es0 h0
  have:(g,z.2.1+u0 n ps z.1 g)∈cands n ps kvs:=by
    refine List.mem_flatMap.mpr ⟨z,hz,?_⟩
    rcases hg with rfl | rfl <;> simp
  obtain ⟨y,hy,y1,y2⟩:=f.bd _ this
  refine ⟨y,hy,by rw [jA];exact y1,?_⟩
  rw [u5 h0.len,← z1]
  simp only at y2
  omega
theorem a3N.zero {n:Int} {cF:List (List Int)} {kvs:List Way} (h:a3N n cF kvs):∃ w,u6 kvs 0=some w∧Ens n cF.length w.2∧bO 0 w.2=0∧w.1=cost n cF 0 w.2∧∀ es,Ens n cF.length es→bO 0 es=0→w.1≤cost n cF 0 es:=by
  have rep:Ens n cF.length (List.replicate cF.length 0):=⟨by simp,fun g hg => .inl (List.eq_of_mem_replicate hg)⟩
  have rl:∀ k,bO 0 (List.replicate k 0)=0:=fun k=>by
    unfold bO
    cases k with
    | zero=>rfl
    | succ k =>
      rw [List.replicate_succ']
      exact jA
  obtain ⟨z,hz,z1,z2⟩:=h.all _ rep
  rw [rl] at z1
  obtain ⟨e1,e2,e3⟩:=h.ent z hz
  have gz:=a8E h.nd hz
  rw [z1] at gz
  refine ⟨z.2,gz,e1,by rw [e2,z1],e3,fun es he hl=>?_⟩
  obtain ⟨y,hy,y1,y2⟩:=h.all es he
  have gy:=a8E h.nd hy
  rw [y1,hl,gz] at gy
  rw [Option.some.inj gy]
  exact y2
def iC (qs:List (Int×Int)) (q:Int×Int):List (Int×Int):=if qs[qs.length - 1]?=some q then qs else qs++[q]
theorem auK {g:Nat} {qs:List (Int×Int)} {l r:Int×Int} (hl:qs[qs.length - 1]?=some l):m8 g (qs++[r])=m8 g qs+cH g l r:=by
  have ne:qs≠[]:=fun e=>by subst e;cases hl
  have e:qs=qs.dropLast++[l]:=by
    have h:=List.dropLast_concat_getLast ne
    rw [List.getLast_eq_getElem] at h
    rw [List.getElem?_eq_getElem (by have:=List.length_pos_iff.mpr ne;omega)] at hl
    rw [Option.some.inj hl] at h
    exact h.symm
  have:=a5L (g:=g) (q:=l) (r:=r) qs.dropLast
  rw [← e] at this
  rw [← this]
  congr 1
  rw [show qs.dropLast++[l,r]=(qs.dropLast++[l])++[r] by simp,← e]
theorem afJ {g:Nat} {q:Int×Int}:cH g q q=0:=by simp [cH]
theorem fP {qs:List (Int×Int)} {q:Int×Int}:(iC qs q)[(iC qs q).length - 1]?=some q:=by
  unfold iC
  split
  · assumption
  · exact apB
theorem yV {g:Nat} {qs:List (Int×Int)} {l q:Int×Int} (hl:qs[qs.length - 1]?=some l):m8 g (iC qs q)=m8 g qs+cH g l q:=by
  unfold iC
  split
  · rename_i h
    rw [hl] at h
    rw [Option.some.inj h,afJ]
    omega
  · exact auK hl
theorem u9 {x y:Nat} {qs:List (Int×Int)} {l q:Int×Int} (w:Walk x y qs) (hl:qs[qs.length - 1]?=some l) (hq:InP x y q) (hw:Wk y l q):Walk x y (iC qs q):=by
  unfold iC
  split
  · exact w
  · exact w.snoc hl hq hw
theorem a00 {qs:List (Int×Int)} {q:Int×Int}:(iC qs q).length≤qs.length+1:=by
  unfold iC
  split
  · omega
  · simp
def pW (ps:List Int) (e:Int):Int:=if e=0 then mxL ps else mnL ps
def spW (i:Int) (ps:List Int) (e g:Int):List (Int×Int):=if g=e then (if ps=[] then [] else [(i,e),(i,pW ps e),(i,e)]) else [(i,e),(i,g)]
def OkA (y:Nat) (cF:List (List Int)):Prop:=∀ ps∈cF,∀ p∈ps,1≤p∧p≤(y:Int)
theorem anE {y:Nat} {ps:List Int} {e:Int} (h:∀ p∈ps,1≤p∧p≤(y:Int)) (n:ps≠[]):1≤pW ps e∧pW ps e≤y:=by
  unfold pW
  split
  · exact h _ (sI n).1
  · exact h _ (a5M n).1
theorem along {g j k:Nat} {e:Int} (h:j≤k):cH g ((j:Int),e) ((k:Int),e)=(g:Int) * k - g * j:=by
  unfold cH
  simp only [Int.sub_self]
  rw [← Int.mul_sub]
  have:(if (j:Int) - k < 0 then -((j:Int) - k) else (j:Int) - k)=(k:Int) - j:=by split <;> omega
  rw [this]
  simp
theorem within {g:Nat} {i e f:Int}:cH g (i,e) (i,f)=if e - f < 0 then -(e - f) else e - f:=by
  unfold cH
  simp
structure SpI (x y g:Nat) (cF:List (List Int)) (es:List Int) (k:Nat) (qs:List (Int×Int)):Prop where
  w:Walk x y qs
  ex:∃ j:Nat,qs[qs.length - 1]?=some ((j:Int),bO 0 (es.take k))∧m8 g qs=cost ((y:Int)+1) (cF.take k) 0 (es.take k)+(g:Int) * j∧j≤k∧j < x∧∀ m,k=m+1→cF[m]?≠some []→j=m
  len:qs.length≤1+3 * k
theorem take_snoc {α:Type} {l:List α} {k:Nat} {a:α} (h:l[k]?=some a):l.take (k+1)=l.take k++[a]:=by rw [List.take_succ,h];rfl
theorem SpI.start {x y g:Nat} {cF:List (List Int)} {es:List Int} (hx:1≤x):SpI x y g cF es 0 [(0,0)]:=by
  refine ⟨⟨fun q hq=>?_,fun k q r _ hr=>?_⟩,⟨0,rfl,by simp [m8,cost],Nat.le_refl _,by omega,fun m e=>by cases e⟩,by simp⟩
  · rw [List.mem_singleton] at hq
    subst hq
    exact ⟨by decide,by simp only;omega,by decide,by simp only;omega⟩
  · exact absurd (List.getElem?_eq_some_iff.mp hr).1 (by simp)
theorem SpI.next {x y g:Nat} {cF:List (List Int)} {es:List Int} {k:Nat} {qs:List (Int×Int)} {ps:List Int} {gl:Int} (h:SpI x y g cF es k qs) (hp:cF[k]?=some ps) (he:es[k]?=some gl) (hE:Ens ((y:Int)+1) cF.length es) (hk:k < x) (ok:OkA y cF) :
    SpI x y g cF es (k+1) ((spW k ps (bO 0 (es.take k)) gl).foldl iC qs):=by
  obtain ⟨w,⟨j,hl,hlen,jk,jx,_⟩,ql⟩:=h
  have ps1:=ok ps (List.mem_of_getElem? hp)
  have eE:Ens ((y:Int)+1) k (es.take k):=⟨by rw [List.length_take,hE.len];have:=(List.getElem?_eq_some_iff.mp hp).1;omega,fun f hf=>hE.inn f (List.mem_of_mem_take hf)⟩
  have el:=eE.last
  have gi:=hE.inn gl (List.mem_of_getElem? he)
  have ec:cost ((y:Int)+1) (cF.take (k+1)) 0 (es.take (k+1))=cost ((y:Int)+1) (cF.take k) 0 (es.take k)+u0 ((y:Int)+1) ps (bO 0 (es.take k)) gl:=by
    rw [take_snoc hp,take_snoc he]
    exact u5 (by rw [eE.len,List.length_take];have:=(List.getElem?_eq_some_iff.mp hp).1;omega)
  have ee:bO 0 (es.take (k+1))=gl:=by rw [take_snoc he];exact jA
  generalize bO 0 (es.take k)=e at *
  have i1:InP x y ((k:Int),e):=⟨by simp only;omega,by simp only;omega,by simp only;omega,by simp only;omega⟩
  have q1:=u9 w hl i1 (.inr ⟨rfl,el⟩)
  have l1:=yV (g:=g) (q:=((k:Int),e)) hl
  rw [along jk] at l1
  have s1:=a00 (qs:=qs) (q:=((k:Int),e))
  unfold spW
  by_cases c:gl=e
  · rw [if_pos c]
    by_cases n:ps=[]
    · rw [if_pos n]
      refine ⟨w,⟨j,by rw [ee,c];exact hl,?_,by omega,jx,fun m e hn=>?_⟩,by simp only [List.foldl_nil];omega⟩
      · rw [ec,List.foldl_nil,hlen]
        unfold u0
        rw [if_pos c,if_pos n]
        simp
      · cases e
        exact absurd (by rw [hp,n]) hn
    · rw [if_neg n]
      have ⟨f1,f2⟩:=anE (e:=e) ps1 n
      have i2:InP x y ((k:Int),pW ps e):=⟨by simp only;omega,by simp only;omega,by simp only;omega,by simp only;omega⟩
      have q2:=u9 q1 fP i2 (.inl rfl)
      have l2:=yV (g:=g) (q:=((k:Int),pW ps e)) (fP (qs:=qs) (q:=((k:Int),e)))
      have s2:=a00 (qs:=iC qs ((k:Int),e)) (q:=((k:Int),pW ps e))
      have q3:=u9 q2 fP i1 (.inl rfl)
      have l3:=yV (g:=g) (q:=((k:Int),e)) (fP (qs:=iC qs ((k:Int),e)) (q:=((k:Int),pW ps e)))
      have s3:=a00 (qs:=iC (iC qs ((k:Int),e)) ((k:Int),pW ps e)) (q:=((k:Int),e))
      rw [within] at l2 l3
      show SpI x y g cF es (k+1) (iC (iC (iC qs ((k:Int),e)) ((k:Int),pW ps e)) ((k:Int),e))
      refine ⟨q3,⟨k,by rw [fP,ee,c],?_,by omega,hk,fun m e hn=>by omega⟩,by omega⟩
      have hs:u0 ((y:Int)+1) ps e gl=2 * (if e - pW ps e < 0 then -(e - pW ps e) else e - pW ps e):=by
        unfold u0
        rw [if_pos c,if_neg n]
        rcases el with z | z
        · rw [if_pos z]
          have:pW ps e=mxL ps:=by unfold pW;rw [if_pos z]
          rw [← this]
          split <;> omega
        · have z0:¬ e=0:=by omega
          rw [if_neg z0]
          have:pW ps e=mnL ps:=by unfold pW;rw [if_neg z0]
          rw [← this]
          split <;> omega
      rw [ec,hs,l3,l2,l1,hlen]
      split <;> split <;> omega
  · rw [if_neg c]
    have i2:InP x y ((k:Int),gl):=⟨by simp only;omega,by simp only;omega,by simp only;omega,by simp only;omega⟩
    have q2:=u9 q1 fP i2 (.inl rfl)
    have l2:=yV (g:=g) (q:=((k:Int),gl)) (fP (qs:=qs) (q:=((k:Int),e)))
    have s2:=a00 (qs:=iC qs ((k:Int),e)) (q:=((k:Int),gl))
    rw [within] at l2
    show SpI x y g cF es (k+1) (iC (iC qs ((k:Int),e)) ((k:Int),gl))
    refine ⟨q2,⟨k,by rw [fP,ee],?_,by omega,hk,fun m e hn=>by omega⟩,by omega⟩
    have hs:u0 ((y:Int)+1) ps e gl=(y:Int)+1:=by
      unfold u0
      rw [if_neg c]
    rw [ec,hs,l2,l1,hlen]
    split <;> omega
theorem SpI.home {x y g:Nat} {cF:List (List Int)} {es:List Int} {qs:List (Int×Int)} (h:SpI x y g cF es cF.length qs) (hx:1≤x) (hE:Ens ((y:Int)+1) cF.length es) (h0:bO 0 es=0) (hn:∀ m,cF.length=m+1→cF[m]?≠some []) :
    Walk x y (iC qs (0,0))∧iC qs (0,0)≠[]∧(iC qs (0,0)).length≤2+3 * cF.length∧m8 g (iC qs (0,0))=cost ((y:Int)+1) cF 0 es+2 * (g:Int) * ((cF.length - 1:Nat):Int):=by
  obtain ⟨w,⟨j,hl,hlen,jk,jx,hj⟩,ql⟩:=h
  rw [List.take_of_length_le (by rw [hE.len];exact Nat.le_refl _),h0] at hl
  rw [List.take_of_length_le (Nat.le_refl _),List.take_of_length_le (by rw [hE.len];exact Nat.le_refl _)] at hlen
  have j1:j=cF.length - 1:=by
    cases q:cF.length with
    | zero=>omega
    | succ m=>rw [hj m q (hn m q)];rfl
  have l1:=yV (g:=g) (q:=((0:Int),(0:Int))) hl
  have s1:=a00 (qs:=qs) (q:=((0:Int),(0:Int)))
  refine ⟨u9 w hl ⟨by decide,by simp only;omega,by decide,by simp only;omega⟩ (.inr ⟨rfl,.inl rfl⟩),fun e=>?_,by omega,?_⟩
  · have:=fP (qs:=qs) (q:=((0:Int),(0:Int)))
    rw [e] at this
    cases this
  · rw [l1,hlen,← j1]
    unfold cH
    simp only [Int.sub_self,Int.sub_zero]
    have:(if (j:Int) < 0 then -(j:Int) else (j:Int))=(j:Int):=if_neg (by omega)
    rw [this]
    have:(2:Int) * (g:Int) * (j:Int)=(g:Int) * j+(g:Int) * j:=by rw [Int.mul_assoc];omega
    rw [this]
    simp
    omega
theorem auL {p:Addr} {ns:List Int} (hp:aO G p=some (ns.map D.int)) (hn:ns≠[]) (h:∀ M,M∈ns→(∀ a∈ns,a≤M)→R (.int M) G):xP [.ref p] G R:=by
  unfold xP aoO
  simp only [hp]
  exact ⟨ns,rfl,hn,h⟩
theorem aCI {p:Addr} {ns:List Int} (hp:aO G p=some (ns.map D.int)) (hn:ns≠[]) (h:∀ M,M∈ns→(∀ a∈ns,M≤a)→R (.int M) G):xQ [.ref p] G R:=by
  unfold xQ aoO
  simp only [hp]
  exact ⟨ns,rfl,hn,h⟩
theorem aa7 {p:Addr} {ps:List Int} {e:Int} (hp:aO G p=some (ps.map D.int)) (n:ps≠[]) (h:R (.int (pW ps e)) G):jF K A [.ref p,.int e] G R EX:=by
  refine ⟨rfl,?_⟩
  show vA K A _ _ [some (.ref p),some (.int e)] G
  exists vA
  unfold pW at h
  refine qW (fun c=>auL hp n fun M h1 h2=>?_) fun c=>aCI hp n fun M h1 h2=>?_
  · rw [if_pos (by simpa using c),← aa5 h1 h2] at h
    exact bV.here h
  · rw [if_neg (by simpa using c),← akM h1 h2] at h
    exact bV.here h
theorem aAI {x y g:Nat} {p:Addr} {ps:List Int} {e gl:Int} (o:OkP x y g) (hp:aO G p=some (ps.map D.int)) (hb:∀ q∈ps,1≤q∧q≤(y:Int)) (he:e=0∨e=(y:Int)+1) (h:R (.int (u0 ((y:Int)+1) ps e gl)) G):iR K A [mL x y g,.ref p,.int e,.int gl] G R EX:=by
  refine ⟨rfl,?_⟩
  replace h:=bV.here h
  show jN K A _ _ [some (mL x y g),some (.ref p),some (.int e),some (.int gl)] G
  have oy:=o.y1
  unfold u0 at h
  exists jN
  refine aoD (fun c=>?_) fun c=>?_
  · unfold mL
    walk_at "wr"
    rw [if_neg (by simpa using c)] at h
    exact h
  · rw [if_pos (by simpa using c)] at h
    exists tL,zQ hp
    by_cases n:ps=[]
    · subst n
      rw [if_pos rfl] at h
      exact h
    · rw [if_neg n] at h
      have e0:((ps.length:Int) == 0)=false:=by simpa using n
      rw [e0]
      exists tK
      refine aa7 hp n ?_
      have ⟨f1,f2⟩:=anE (e:=e) hb n
      walk_at "wr"
      have z:(2:Int) * (if pW ps e - e < 0 then -(pW ps e - e) else pW ps e - e)=if e=0 then 2 * mxL ps else 2 * ((y:Int)+1 - mnL ps):=by
        unfold pW at f1 f2 ⊢
        by_cases c0:e=0
        · simp only [if_pos c0] at f1 f2 ⊢
          split <;> omega
        · simp only [if_neg c0] at f1 f2 ⊢
          split <;> omega
      rw [z]
      exact h
def wV (w:Int×List Int):D := .tup [.int w.1,.tup (w.2.map D.int)]
def wD (z:Way):DK×D:=(.inl (.inl z.1),wV z.2)
theorem anF {g:Int}:∀ {fk:List Way},rT (fk.map wD) (.inl (.inl g))=(u6 fk g).map wV
  | []=>rfl
  | z :: r=>by
    rw [List.map_cons]
    unfold rT u6
    by_cases c:z.1=g
    · rw [if_pos (show (wD z).1 = .inl (.inl g) from by rw [← c];rfl),if_pos c]
      rfl
    · rw [if_neg (show ¬ (wD z).1 = .inl (.inl g) from fun q=>c (by
        have q:(Sum.inl (Sum.inl z.1):DK) = .inl (.inl g):=q
        simpa using q)),if_neg c]
      exact anF
theorem aN1 {g:Int} {w:Int×List Int} {fk:List Way}:a7H (fk.map wD) (.inl (.inl g)) (wV w)=(auJ fk g w).map wD:=by
  unfold a7H auJ
  rw [anF]
  have e:((u6 fk g).map wV).isSome=(u6 fk g).isSome:=by cases u6 fk g <;> rfl
  rw [e]
  split
  · rw [List.map_map,List.map_map]
    refine List.map_congr_left fun z _=>?_
    simp only [Function.comp]
    by_cases c:z.1=g
    · rw [if_pos (show (wD z).1 = .inl (.inl g) from by rw [← c];rfl),if_pos c]
      rfl
    · rw [if_neg (show ¬ (wD z).1 = .inl (.inl g) from fun q=>c (by
        have q:(Sum.inl (Sum.inl z.1):DK) = .inl (.inl g):=q
        simpa using q)),if_neg c]
  · rw [List.map_append]
    rfl
structure DW (G:Gp) (w:Addr) (od:Obj) (kvs:List Way) (f:Addr) (fk:List Way) (G':Gp):Prop where
  hw:G' w=some (.rdc od false (kvs.map wD))
  hf:G' f=some (.lF false (fk.map wD))
  old:∀ q u,q≠w→G q=some u→G' q=some u
theorem DW.put {w f:Addr} {od:Obj} {kvs fk fk':List Way} {G':Gp} (h:DW G w od kvs f fk G') (hf:G f=none):DW G w od kvs f fk' (aN G' f (.lF false (fk'.map wD))):=by
  refine ⟨?_,aQ,fun q u n e=>?_⟩
  · rw [bK (fun z=>by have:=h.hw;rw [z,h.hf] at this;cases this)];exact h.hw
  · rw [bK (fun z=>by subst z;rw [hf] at e;cases e)];exact h.old q u n e
theorem DW.le {w f:Addr} {od:Obj} {kvs fk:List Way} {G' G2:Gp} (h:DW G w od kvs f fk G') (l:Le G' G2):DW G w od kvs f fk G2:=⟨l _ _ h.hw,l _ _ h.hf,fun q u n e=>l _ _ (h.old q u n e)⟩
theorem auM {F:cZ} {ex:aM→aW} {x y g:Nat} {p w f:Addr} {od:Obj} {ps:List Int} {cF:List (List Int)} {kvs fk:List Way} {z:Way} {gl:Int} {C:List (Int×Int)} {G':Gp} {r7:Option D} (o:OkP x y g) (s:DW G w od kvs f fk G') (hf:G f=none) (hp:aO G' p=some (ps.map D.int)) (hb:∀ q∈ps,1≤q∧q≤(y:Int)) (hz:Ent ((y:Int)+1) cF z) (hl:cF.length < 1000) (hg:gl=0∨gl=(y:Int)+1) (hF:Fnd ((y:Int)+1) (cF++[ps]) C fk)
    (h:∀ r7 fk',Fnd ((y:Int)+1) (cF++[ps]) (C++[(gl,z.2.1+u0 ((y:Int)+1) ps z.1 gl)]) fk'→F.nx [some (mL x y g),some (.ref p),some (.ref w),some (.ref f),some (.int z.1),some (wV z.2),some (.int gl),r7] (aN G' f (.lF false (fk'.map wD)))) :
    jP K A ex F [some (mL x y g),some (.ref p),some (.ref w),some (.ref f),some (.int z.1),some (wV z.2),some (.int gl),r7] G':=by
  have big:10000 < sizeLine:=by decide
  have zl:z.2.2.length=cF.length:=hz.1.len
  have z1:z.1=0∨z.1=(y:Int)+1:=by rw [← hz.2.1];exact hz.1.last
  have key:∀ w':Int×List Int,Fnd ((y:Int)+1) (cF++[ps]) (C++[(gl,z.2.1+u0 ((y:Int)+1) ps z.1 gl)]) (auJ fk gl w')→ah8 (.ref f) (.int gl) (wV w') F [some (mL x y g),some (.ref p),some (.ref w),some (.ref f),some (.int z.1),some (wV z.2),some (.int gl),some (wV (z.2.1+u0 ((y:Int)+1) ps z.1 gl,z.2.2++[gl]))] G':=fun w' hw'=>by
    rw [aA6 s.hf a2Y rfl (by rw [List.length_map];have:=hF.two;omega),aN1]
    exact h _ _ hw'
  have nx:=Ent.next (ps:=ps) hz hg
  unfold wV at key ⊢
  exists jP
  refine aAI o hp hb z1 ?_
  walk_at "wr"
  refine ⟨by omega,?_⟩
  exists nW,atY s.hf
  rw [a9L s.hf a2Y rfl,anF]
  have e1:z.2.2.map D.int++[.int gl]=(z.2.2++[gl]).map D.int:=by simp
  rw [e1]
  cases q:u6 fk gl with
  | none =>
    refine amP (fun _=>?_) fun _=>?_
    · walk_at "wr"
      exact key (z.2.1+u0 ((y:Int)+1) ps z.1 gl,z.2.2++[gl]) (hF.put nx (.inl ⟨rfl,fun v hv=>by rw [q] at hv;cases hv⟩))
    · walk_at "wr"
      exact key (z.2.1+u0 ((y:Int)+1) ps z.1 gl,z.2.2++[gl]) (hF.put nx (.inl ⟨rfl,fun v hv=>by rw [q] at hv;cases hv⟩))
  | some v =>
    refine amP (fun c=>?_) fun c=>?_
    · walk_at "wr"
      exact key (z.2.1+u0 ((y:Int)+1) ps z.1 gl,z.2.2++[gl]) (hF.put nx (.inl ⟨rfl,fun v' hv=>by rw [q] at hv;cases hv;exact aMV c⟩))
    · walk_at "wr"
      exact key v (hF.put nx (.inr ⟨q,aMW c⟩))
theorem akO {n:Int} {ps:List Int} {kvs:List Way} {k:Nat} {z:Way} (h:kvs[k]?=some z):cands n ps (kvs.take (k+1))=cands n ps (kvs.take k)++[(0,z.2.1+u0 n ps z.1 0),(n,z.2.1+u0 n ps z.1 n)]:=by
  unfold cands
  rw [take_snoc h,List.flatMap_append]
  simp
theorem aHL {x y g:Nat} {p w:Addr} {ps:List Int} {cF:List (List Int)} {kvs:List Way} (o:OkP x y g) (hp:aO G p=some (ps.map D.int)) (hb:∀ q∈ps,1≤q∧q≤(y:Int)) (hw:G w=some (.lF false (kvs.map wD))) (hW:a3N ((y:Int)+1) cF kvs) (hl:cF.length < 1000)
    (h:∀ f G' fk,Le G G'→G f=none→G' f=some (.lF false (fk.map wD))→a3N ((y:Int)+1) (cF++[ps]) fk→R (.ref f) G'):jQ K A [mL x y g,.ref p,.ref w] G R EX:=by
  have big:10000 < sizeLine:=by decide
  refine ⟨rfl,?_⟩
  show mF K A _ _ [some (mL x y g),some (.ref p),some (.ref w),none,none,none,none,none] G
  exists mF
  intro f hf
  exists wC
  rw [aA8 (oV hw hf)]
  intro od
  have wf:w≠f:=af8 hw hf
  have pw:∀ {G':Gp} {fk:List Way},DW G w od kvs f fk G'→aO G' p=some (ps.map D.int):=fun {G' fk} s=>by
    unfold L2.aO at hp ⊢
    split at hp
    · rename_i e;rw [s.old p _ (fun z=>by rw [z,hw] at e;cases e) e];exact hp
    · rename_i e;rw [s.old p _ (fun z=>by rw [z,hw] at e;cases e) e];exact hp
    · cases hp
  refine au1 (fun k ρ G'=>∃ r4 r5 r6 r7 fk,ρ=[some (mL x y g),some (.ref p),some (.ref w),some (.ref f),r4,r5,r6,r7]∧DW G w od kvs f fk G'∧Fnd ((y:Int)+1) (cF++[ps]) (cands ((y:Int)+1) ps (kvs.take k)) fk) ⟨_,_,_,_,[],rfl,⟨aQ,?_,fun q u n e=>?_⟩,.nil⟩ (fun k ρ G' h=>?_) (fun k q ρ G' hk h=>?_) fun ρ G' h=>?_
  · rw [bK (Ne.symm wf)];exact aQ
  · rw [bK n];exact oV e hf
  · obtain ⟨_,_,_,_,fk,rfl,s,hF⟩:=h
    exact s.hw
  · obtain ⟨_,_,_,_,fk,rfl,s,hF⟩:=h
    obtain ⟨z,hz,rfl⟩:=a9M hk
    have ez:=hW.ent z (List.mem_of_getElem? hz)
    show a2R [4,5] (.tup [.int z.1,wV z.2]) _ _
    rw [af7 rfl]
    walk_at "wr"
    unfold mL
    exists tM
    refine ap9 rfl fun a ha=>?_
    have la:=au3 ha
    have af:a≠f:=fun e=>by subst e;rcases ha with ha | ha <;> (rw [s.hf] at ha;cases ha)
    refine au5 (fun m ρ G2=>∃ r6 r7 fk2,ρ=[some (mL x y g),some (.ref p),some (.ref w),some (.ref f),some (.int z.1),some (wV z.2),r6,r7]∧DW G w od kvs f fk2 G2∧G2 a=some (.tpl [.int 0,.int ((y:Int)+1)])∧Fnd ((y:Int)+1) (cF++[ps]) (cands ((y:Int)+1) ps (kvs.take k)++[(0,z.2.1+u0 ((y:Int)+1) ps z.1 0),((y:Int)+1,z.2.1+u0 ((y:Int)+1) ps z.1 ((y:Int)+1))].take m) fk2) ⟨_,_,fk,rfl,s.le la,aQ,by simpa using hF⟩ (fun m ρ G2 h=>?_) (fun m d ρ G2 hd h=>?_) fun ρ G2 h=>?_
    · obtain ⟨_,_,_,_,_,ht,_⟩:=h
      exact ht
    · obtain ⟨_,_,fk2,rfl,s2,ht,hF2⟩:=h
      obtain ⟨gl,hg,rfl,et⟩:∃ gl:Int,(gl=0∨gl=(y:Int)+1)∧d = .int gl∧[(0,z.2.1+u0 ((y:Int)+1) ps z.1 0),((y:Int)+1,z.2.1+u0 ((y:Int)+1) ps z.1 ((y:Int)+1))].take (m+1)=[(0,z.2.1+u0 ((y:Int)+1) ps z.1 0),((y:Int)+1,z.2.1+u0 ((y:Int)+1) ps z.1 ((y:Int)+1))].take m++[(gl,z.2.1+u0 ((y:Int)+1) ps z.1 gl)]:=by
        match m,hd with
        | 0,hd=>exact ⟨0,.inl rfl,(Option.some.inj hd).symm,rfl⟩
        | 1,hd=>exact ⟨(y:Int)+1,.inr rfl,(Option.some.inj hd).symm,rfl⟩
        | m+2,hd=>exact absurd (List.getElem?_eq_some_iff.mp hd).1 (by simp)
      walk_at "wr"
      refine auM o s2 hf (pw s2) hb ez hl hg hF2 fun r7 fk' hF'=>?_
      refine ⟨_,_,fk',rfl,s2.put hf,by rw [bK af];exact ht,?_⟩
      rw [et,← List.append_assoc]
      exact hF'
    · obtain ⟨_,_,fk2,rfl,s2,ht,hF2⟩:=h
      refine ⟨_,_,_,_,fk2,rfl,s2,?_⟩
      rw [akO hz]
      simpa using hF2
  · obtain ⟨_,_,_,_,fk,rfl,s,hF⟩:=h
    rw [List.length_map,List.take_length] at hF
    exists wB
    refine bV.here (h f _ fk (fun q u e=>?_) hf (by rw [bK (Ne.symm wf)];exact s.hf) (hW.next hF))
    by_cases c:q=w
    · subst c;rw [aQ];rw [hw] at e;exact e
    · rw [bK c];exact s.old q u c e
def Ais (G:Gp) (al:Addr) (cF:List (List Int)):Prop:=∃ rs:List Addr,G al=some (.lst (rs.map D.ref))∧rs.length=cF.length∧∀ (k:Nat) r ps,rs[k]?=some r→cF[k]?=some ps→G r=some (.lst (ps.map D.int))
theorem Ais.le {al:Addr} {cF:List (List Int)} {G':Gp} (l:Le G G') (h:Ais G al cF):Ais G' al cF:=by
  obtain ⟨rs,h1,h2,h3⟩:=h
  exact ⟨rs,l _ _ h1,h2,fun k r ps a b=>l _ _ (h3 k r ps a b)⟩
theorem aHM {x y g:Nat} {al:Addr} {cF:List (List Int)} (o:OkP x y g) (ha:Ais G al cF) (ok:OkA y cF) (hl:cF.length < 1000)
    (h:∀ es G',Le G G'→Ens ((y:Int)+1) cF.length es→bO 0 es=0→(∀ es',Ens ((y:Int)+1) cF.length es'→bO 0 es'=0→cost ((y:Int)+1) cF 0 es≤cost ((y:Int)+1) cF 0 es')→R (.tup (es.map D.int)) G'):gY K A [mL x y g,.ref al] G R EX:=by
  refine ⟨rfl,?_⟩
  show iT K A _ _ [some (mL x y g),some (.ref al),none,none] G
  exists iT
  intro w hw
  walk_at "wr"
  rw [a9L (t:=false) aQ a2Y rfl]
  refine ⟨by decide,?_⟩
  have lw:Le G (aN (aN G w (.lF false [])) w (.lF false (a7H [] (.inl (.inl 0)) (.tup [.int 0,.tup []])))):=fun a u e=>by
    have:a≠w:=af8 e hw
    rw [bK this,bK this];exact e
  obtain ⟨rs,h1,h2,h3⟩:=ha
  exists rB
  rw [zR (bQ (lw _ _ h1))]
  refine a2X (fun k ρ G'=>∃ r3 w kvs,ρ=[some (mL x y g),some (.ref al),some (.ref w),r3]∧Le G G'∧G' w=some (.lF false (kvs.map wD))∧a3N ((y:Int)+1) (cF.take k) kvs) ⟨_,w,[(0,0,[])],rfl,lw,aQ,.nil⟩ (fun k ρ G' h=>?_) (fun k d ρ G' hd h=>?_) fun ρ G' h=>?_
  · obtain ⟨_,_,_,_,l,_⟩:=h
    exact bQ (l _ _ h1)
  · obtain ⟨_,w,kvs,rfl,l,hk,hW⟩:=h
    obtain ⟨r,hr,rfl⟩:=a9M hd
    have kl:k < cF.length:=by rw [← h2];exact (List.getElem?_eq_some_iff.mp hr).1
    have hp:=h3 k r _ hr (List.getElem?_eq_getElem kl)
    exists pL
    refine aHL o (bQ (l _ _ hp)) (ok _ (List.getElem_mem kl)) hk hW (by rw [List.length_take];omega) fun f G2 fk l2 _ hf hW2=>?_
    walk_at "wr"
    exact ⟨_,f,fk,rfl,l.trans l2,hf,by rw [take_snoc (List.getElem?_eq_getElem kl)];exact hW2⟩
  · obtain ⟨_,w,kvs,rfl,l,hk,hW⟩:=h
    rw [List.length_map,h2,List.take_length] at hW
    obtain ⟨v,v1,v2,v3,v4,v5⟩:=hW.zero
    exists rA
    rw [aA4 hk a2Y rfl (d:=wV v) (by rw [anF,v1];rfl)]
    unfold wV
    walk_at "wr"
    exact bV.here (h v.2 G' l v2 v3 fun es' a b=>by rw [← v4];exact v5 es' a b)
theorem afK {q:Addr} {qs:List (Int×Int)} {tc:TT3} {te:bU} {ρ:aM} (c:Int→Int→Bool) (f:Int→Int→Int) (hq:aO G q=some (qs.map gO)) (hl:qs.length < 1000)
    (hc:∀ u v G',Le G G'→∀ Q:Bool→Gp→Prop,(∀ G'',Le G' G''→Q (c u v) G'')→tc (some (.int u) :: some (.int v) :: ρ) G' Q)
    (he:∀ u v G',Le G G'→∀ Q:D→Gp→Prop,(∀ G'',Le G' G''→Q (.int (f u v)) G'')→te (some (.int u) :: some (.int v) :: ρ) G' Q)
    (h:∀ p,G p=none→R (.ref p) (aN G p (.lst (((qs.filter fun q=>c q.1 q.2).map fun q=>f q.1 q.2).map D.int)))):atU (arO 2) (.lst q (qs.map gO)) tc te ρ G R:=by
  have big:10000 < sizeLine:=by decide
  let g1:D→Int:=fun d=>match d with | .tup [.int u,_]=>u | _=>0
  let g2:D→Int:=fun d=>match d with | .tup [_,.int v]=>v | _=>0
  refine ahW (fun d=>match d with | .tup xs=>xs | _=>[]) (fun d=>c (g1 d) (g2 d)) (fun d => .int (f (g1 d) (g2 d))) (by show (qs.map gO).length < _;rw [List.length_map];omega) hq (fun d hd=>?_) (fun d hd G' l Q h=>?_) (fun d hd _ G' l Q h=>?_) fun p hp=>?_
  · obtain ⟨q,_,rfl⟩:=List.mem_map.mp hd
    rfl
  · obtain ⟨q,_,rfl⟩:=List.mem_map.mp hd
    exact hc _ _ G' l Q h
  · obtain ⟨q,_,rfl⟩:=List.mem_map.mp hd
    exact he _ _ G' l Q h
  · have e:((qs.map gO).filter fun d=>c (g1 d) (g2 d)).map (fun d=>D.int (f (g1 d) (g2 d)))=((qs.filter fun q=>c q.1 q.2).map fun q=>f q.1 q.2).map D.int:=by
      rw [List.filter_map,List.map_map,List.map_map]
      rfl
    show R _ (aN G p (.lst (((qs.map gO).filter _).map _)))
    rw [e]
    exact h p hp
def xD (bs:List (Int×Int)) (i:Int):List Int:=(bs.filter fun q=>decide (q.1=i)).map (·.2)
def fX (bs:List (Int×Int)):Int:=if bs=[] then -1 else mxL (bs.map (·.1))
def plc (bs:List (Int×Int)):List (List Int):=(List.range (fX bs+1).toNat).map fun (i:Nat)=>xD bs i
def InB (x y:Nat) (q:Int×Int):Prop:=0≤q.1∧q.1 < x∧1≤q.2∧q.2≤(y:Int)
theorem apE {bs:List (Int×Int)} {k:Nat} {q:Int×Int} {i:Int} (h:bs[k]?=some q):xD (bs.take (k+1)) i=if q.1=i then xD (bs.take k) i++[q.2] else xD (bs.take k) i:=by
  unfold xD
  rw [take_snoc h,List.filter_append,List.map_append]
  by_cases c:q.1=i <;> simp [c]
theorem aiB {x y:Nat} {bs:List (Int×Int)} (hx:1≤x) (h:∀ q∈bs,InB x y q):-1≤fX bs∧fX bs < x:=by
  unfold fX
  split
  · omega
  · rename_i n
    obtain ⟨q,hq,e⟩:=List.mem_map.mp (sI (show bs.map (·.1)≠[] by simpa using n)).1
    have ⟨h1,h2,_⟩:=h q hq
    rw [← e]
    omega
theorem aiC {bs:List (Int×Int)} {q:Int×Int} (h:q∈bs):q.1≤fX bs:=by
  unfold fX
  have n:bs≠[]:=fun e=>by subst e;cases h
  rw [if_neg n]
  exact (sI (show bs.map (·.1)≠[] by simpa using n)).2 _ (List.mem_map.mpr ⟨q,h,rfl⟩)
theorem a8F {bs:List (Int×Int)}:(plc bs).length=(fX bs+1).toNat:=by simp [plc]
theorem akP {bs:List (Int×Int)} {k:Nat} (h:k < (fX bs+1).toNat):(plc bs)[k]?=some (xD bs k):=by
  unfold plc
  rw [List.getElem?_map,List.getElem?_range h]
  rfl
theorem auN {x y:Nat} {bs:List (Int×Int)} (h:∀ q∈bs,InB x y q):OkA y (plc bs):=fun ps hps p hp=>by
  obtain ⟨i,_,rfl⟩:=List.mem_map.mp hps
  obtain ⟨q,hq,rfl⟩:=List.mem_map.mp hp
  have ⟨_,_,a,b⟩:=h q (List.mem_filter.mp hq).1
  exact ⟨a,b⟩
theorem aAK {bs:List (Int×Int)} {m:Nat} (h0:-1≤fX bs) (e:(plc bs).length=m+1):(plc bs)[m]?≠some []:=fun h=>by
  rw [a8F] at e
  rw [akP (by omega)] at h
  have h:=Option.some.inj h
  have n:bs≠[]:=fun z=>by subst z;simp [fX] at e
  have em:fX bs=(m:Int):=by omega
  unfold fX at em
  rw [if_neg n] at em
  obtain ⟨q,hq,eq⟩:=List.mem_map.mp (sI (show bs.map (·.1)≠[] by simpa using n)).1
  have:q.2∈xD bs m:=List.mem_map.mpr ⟨q,List.mem_filter.mpr ⟨hq,by simp [eq,em]⟩,rfl⟩
  rw [h] at this
  cases this
theorem auO {xs:List (Int×Int)} {k:Nat} {d:D} (h:(xs.map gO)[k]?=some d):∃ q,xs[k]?=some q∧d=gO q:=by
  obtain ⟨q,e,rfl⟩:=a9M h
  exact ⟨q,e,rfl⟩
theorem auP {F:cZ} {ex:aM→aW} {b al:Addr} {bs:List (Int×Int)} {rs:List Addr} {G1:Gp} {r1 r3 r4:Option D} (hb:aO G b=some (bs.map gO)) (h0:∀ q∈bs,0≤q.1) (bl:bs.length < 1000) (hr:rs.length=(fX bs+1).toNat) (nd:rs.Nodup) (fr:∀ r∈rs,G r=none∧r≠al) (fal:G al=none) (l:Le G G1) (h1:G1 al=some (.lst (rs.map D.ref))) (h2:∀ r∈rs,G1 r=some (.lst []))
    (h:∀ G',Le G G'→Ais G' al (plc bs)→F.rt (.ref al) G'):gZ K A ex F [some (.ref b),r1,some (.ref al),r3,r4] G1:=by
  have big:10000 < sizeLine:=by decide
  exists gZ
  rw [zR (eF l hb)]
  refine a2X (fun k ρ G'=>∃ r3 r4,ρ=[some (.ref b),r1,some (.ref al),r3,r4]∧Le G G'∧G' al=some (.lst (rs.map D.ref))∧∀ (i:Nat) r,rs[i]?=some r→G' r=some (.lst ((xD (bs.take k) i).map D.int))) ⟨_,_,rfl,l,h1,fun i r e=>h2 r (List.mem_of_getElem? e)⟩ (fun k ρ G' h=>?_) (fun k d ρ G' hd h=>?_) fun ρ G' h=>?_
  · obtain ⟨_,_,_,l,_⟩:=h
    exact eF l hb
  · obtain ⟨_,_,rfl,l,ha,hrs⟩:=h
    obtain ⟨⟨i,j⟩,hq,rfl⟩:=auO hd
    have qm:=List.mem_of_getElem? hq
    have i0:=h0 _ qm
    have il:=aiC qm
    simp only at i0 il
    obtain ⟨n,rfl⟩:∃ n:Nat,i=(n:Int):=⟨i.toNat,by omega⟩
    have ir:n < rs.length:=by rw [hr];omega
    have hri:=hrs n _ (List.getElem?_eq_getElem ir)
    have ⟨f1,f2⟩:=fr _ (List.getElem_mem ir)
    unfold gO
    rw [af7 rfl]
    exists mU
    rw [a1E (bQ ha) (d := .ref rs[n]) (by rw [xY,List.getElem?_map];simp [ir])]
    walk_at "wr"
    rw [aeS,bQ hri]
    refine ⟨rfl,?_⟩
    walk_at "wr"
    rw [a9K hri (by
      rw [List.length_map]
      have:(xD (bs.take k) n).length≤(bs.take k).length:=by unfold xD;rw [List.length_map];exact List.length_filter_le _ _
      rw [List.length_take] at this
      omega)]
    refine ⟨_,_,rfl,fun a u e=>?_,?_,fun m r em=>?_⟩
    · rw [bK (af8 e f1)];exact l a u e
    · rw [bK (Ne.symm f2)];exact ha
    · rw [apE hq]
      by_cases c:m=n
      · subst c
        rw [List.getElem?_eq_getElem ir] at em
        cases em
        rw [aQ,if_pos rfl,List.map_append]
        rfl
      · have rn:r≠rs[n]:=fun e=>c (by
          have hm:=(List.getElem?_eq_some_iff.mp em)
          obtain ⟨hm1,hm2⟩:=hm
          exact (List.getElem_inj nd).mp (hm2.trans e))
        rw [bK rn,if_neg (show ¬ (n:Int)=(m:Int) by omega)]
        exact hrs m r em
  · obtain ⟨_,_,rfl,l,ha,hrs⟩:=h
    rw [List.length_map,List.take_length] at hrs
    exists nU
    refine h G' l ⟨rs,ha,by rw [a8F];exact hr,fun k r ps hk hp=>?_⟩
    rw [akP (by rw [← hr];exact (List.getElem?_eq_some_iff.mp hk).1)] at hp
    cases hp
    exact hrs k r hk
theorem aAL {bs:List (Int×Int)} (h:∀ q∈bs,0≤q.1∧q.1 < 100):-1≤fX bs∧fX bs < 100:=by
  unfold fX
  split
  · omega
  · rename_i n
    obtain ⟨q,hq,e⟩:=List.mem_map.mp (sI (show bs.map (·.1)≠[] by simpa using n)).1
    have:=h q hq
    rw [← e]
    omega
theorem aiD {F:cZ} {ex:aM→aW} {b:Addr} {bs:List (Int×Int)} {m:Int} {G1:Gp} {r2 r3 r4:Option D} (hb:aO G b=some (bs.map gO)) (h0:∀ q∈bs,0≤q.1∧q.1 < 100) (bl:bs.length < 1000) (em:m=fX bs) (l:Le G G1) (h:∀ al G',Le G G'→Ais G' al (plc bs)→F.rt (.ref al) G'):iB K A ex F [some (.ref b),some (.int m),r2,r3,r4] G1:=by
  have big:10000 < sizeLine:=by decide
  have mb:=aAL h0
  rw [← em] at mb
  exists iB
  have il:(Src.imm (xO 0 (m+1))).items.length=(m+1).toNat:=by show (xO 0 (m+1)).length=_;rw [azW,Int.sub_zero]
  refine ⟨by rw [il];omega,fun p hp=>⟨fun k ds G'=>∃ rs:List Addr,ds=rs.map D.ref∧rs.length=k∧rs.Nodup∧(∀ r∈rs,G' r=some (.lst [])∧G1 r=none∧r≠p)∧G' p=some (.lst ds)∧Le G1 G',⟨[],rfl,rfl,List.nodup_nil,(fun r hr=>by cases hr),aQ,.new hp⟩,fun k ds G' hk h=>?_,fun k d ds G' hd h=>?_,fun ds G' h=>?_⟩⟩
  · obtain ⟨rs,rfl,rl,_,_,hp',_⟩:=h
    exact ⟨trivial,hp',by rw [List.length_map];omega⟩
  · obtain ⟨rs,rfl,rl,nd,fr,hp',l1⟩:=h
    refine ⟨[d],rfl,?_⟩
    dsimp only [L2.a1C]
    rw [if_pos rfl]
    walk_at "wr"
    intro q hq
    have qp:q≠p:=fun e=>by subst e;rw [hp'] at hq;cases hq
    refine ⟨by rw [bK (Ne.symm qp)];exact hp',rs++[q],by simp,by simp [rl],?_,fun r hr=>?_,aQ,fun a u e=>?_⟩
    · rw [List.nodup_append]
      refine ⟨nd,by simp,fun a ha c hc e=>?_⟩
      rw [List.mem_singleton] at hc
      subst hc e
      rw [(fr a ha).1] at hq
      cases hq
    · rcases List.mem_append.mp hr with hr | hr
      · have ⟨f1,f2,f3⟩:=fr r hr
        refine ⟨?_,f2,f3⟩
        rw [bK f3,bK (fun e=>by subst e;rw [f1] at hq;cases hq)]
        exact f1
      · rw [List.mem_singleton] at hr
        subst hr
        exact ⟨by rw [bK qp];exact aQ,l1.free hq,qp⟩
    · have ap:a≠p:=af8 e hp
      rw [bK ap]
      exact oV (l1 a u e) hq
  · obtain ⟨rs,rfl,rl,nd,fr,hp',l1⟩:=h
    rw [il] at rl
    refine ⟨G',.refl _,?_⟩
    walk_at "wr"
    refine auP hb (fun q hq=>(h0 q hq).1) bl (by rw [← em];exact rl) nd (fun r hr=>⟨l.free (fr r hr).2.1,(fr r hr).2.2⟩) (l.free hp) (l.trans l1) hp' (fun r hr=>(fr r hr).1) fun G2 l2 ha=>h p G2 l2 ha
theorem auQ {b:Addr} {bs:List (Int×Int)} (hb:aO G b=some (bs.map gO)) (h0:∀ q∈bs,0≤q.1∧q.1 < 100) (bl:bs.length < 1000) (h:∀ al G',Le G G'→Ais G' al (plc bs)→R (.ref al) G'):fB K A [.ref b] G R EX:=by
  have big:10000 < sizeLine:=by decide
  refine ⟨rfl,?_⟩
  have h':∀ al G',Le G G'→Ais G' al (plc bs)→bV R (.ref al) G':=fun al G' a b=>bV.here (h al G' a b)
  show fU K A _ _ [some (.ref b),none,none,none,none] G
  exists fU
  rw [a9I hb]
  refine afK (fun _ _=>true) (fun u _=>u) hb bl (fun u v G' l Q h=>h G' (.refl _)) (fun u v G' l Q h=>h G' (.refl _)) fun p hp=>?_
  have e:(bs.filter fun _=>true)=bs:=List.filter_eq_self.mpr fun _ _=>rfl
  rw [e]
  walk_at "wr"
  refine aH4 dR (fun z=>?_) fun M h1 h2=>?_
  · walk_at "wr"
    exact aiD hb h0 bl (by unfold fX;rw [if_pos (by simpa using z)]) (.new hp) h'
  · walk_at "wr"
    refine aiD hb h0 bl ?_ (.new hp) h'
    have n:bs≠[]:=fun z=>by subst z;cases h1
    unfold fX
    rw [if_neg n]
    exact aa5 h1 h2
theorem auR {x y g:Nat} {q:Int×Int} (o:OkP x y g) (hq:InB x y q) (h:R (.bl true) G):zV K A [mL x y g,gO q] G R EX:=by
  refine ⟨rfl,?_⟩
  show a2Z K A _ _ [some (mL x y g),some (gO q)] G
  exists a2Z
  refine zZ o ?_
  unfold mL
  exists a9Q
  refine ad7 ak9 (fun a b e=>by cases e;exact ⟨rfl,rfl⟩) ?_
  have ⟨h1,h2,h3,h4⟩:=hq
  have e:isP (gO q) x 1 y=true:=by
    rw [auF]
    simp
    omega
  rw [e]
  exact bV.here h
theorem akQ {x y g:Nat} {q:Int×Int} (o:OkP x y g) (hq:InB x y q) (h:R .non G):qZ K A [mL x y g,gO q] G R EX:=by
  refine ⟨rfl,?_⟩
  show v8 K A _ _ [some (mL x y g),some (gO q)] G
  exists v8
  refine auR o hq ?_
  walk_at "wr"
  exact bV.here h
theorem aAM {i:Int} {p:Addr} {ps:List Int} {e gl:Int} (hp:aO G p=some (ps.map D.int)) (h:∀ r G',Le G G'→G r=none→G' r=some (.lst ((spW i ps e gl).map gO))→R (.ref r) G'):iV K A [.int i,.ref p,.int e,.int gl] G R EX:=by
  refine ⟨rfl,?_⟩
  have h':∀ r G',Le G G'→G r=none→G' r=some (.lst ((spW i ps e gl).map gO))→bV R (.ref r) G':=fun r G' a b c=>bV.here (h r G' a b c)
  clear h
  unfold spW at h'
  show jR K A _ _ [some (.int i),some (.ref p),some (.int e),some (.int gl)] G
  exists jR
  refine aoD (fun c=>?_) fun c=>?_
  · rw [if_neg (by simpa using c)] at h'
    intro r hr
    exact h' r _ (.new hr) hr aQ
  · rw [if_pos (by simpa using c)] at h'
    exists tQ,zQ hp
    by_cases n:ps=[]
    · subst n
      rw [if_pos rfl] at h'
      walk_at "wr"
      intro r hr
      exact h' r _ (.new hr) hr aQ
    · rw [if_neg n] at h'
      have e0:((ps.length:Int) == 0)=false:=by simpa using n
      rw [e0]
      exists tO
      refine aa7 hp n ?_
      walk_at "wr"
      intro r hr
      exact h' r _ (.new hr) hr aQ
theorem aAN {α:Type} {xs:List α} {l:α} (h:xs[xs.length - 1]?=some l):atI xs (-1)=some l:=by
  have n0:xs.length - 1 < xs.length:=(List.getElem?_eq_some_iff.mp h).1
  have e:L2.ixN xs.length (-1)=some (xs.length - 1):=by
    unfold L2.ixN
    rw [if_neg (by decide)]
    have:-(xs.length:Int)≤-1:=by omega
    simp only [this,if_true]
    congr 1
    omega
  unfold L2.atI
  rw [e]
  exact h
theorem auS {p:Addr} {qs:List (Int×Int)} {q l:Int×Int} (hp:G p=some (.lst (qs.map gO))) (hl:qs[qs.length - 1]?=some l) (ql:qs.length < 1000) (h:∀ G',HS G p ((iC qs q).map gO) G'→R .non G'):yG K A [.ref p,gO q] G R EX:=by
  have big:10000 < sizeLine:=by decide
  refine ⟨rfl,?_⟩
  have h':∀ G',HS G p ((iC qs q).map gO) G'→bV R .non G':=fun G' a=>bV.here (h G' a)
  clear h
  unfold iC at h'
  show a8B K A _ _ [some (.ref p),some (gO q)] G
  exists a8B
  rw [a1E (bQ hp) (d:=gO l) (aAN (by rw [List.length_map,List.getElem?_map,hl];rfl))]
  unfold gO at *
  walk_at "wr"
  refine ⟨rfl,rfl,?_⟩
  have ee:eqP (.tup [.int l.1,.int l.2]) (.tup [.int q.1,.int q.2])=decide (l=q):=by
    show (eqP (.int l.1) (.int q.1)&&(eqP (.int l.2) (.int q.2)&&true))=_
    rw [show eqP (.int l.1) (.int q.1)=(l.1 == q.1) from rfl,show eqP (.int l.2) (.int q.2)=(l.2 == q.2) from rfl,Bool.and_true]
    rcases l with ⟨a,b⟩
    rcases q with ⟨c,d⟩
    simp [Prod.ext_iff,Bool.decide_and]
    rfl
  rw [ee]
  walk_at "wr"
  by_cases c:l=q
  · rw [if_pos (by rw [hl,c])] at h'
    rw [if_neg (by simpa using c)]
    exact h' G ⟨hp,fun r u _ e=>e⟩
  · rw [if_neg (by rw [hl];simpa using c)] at h'
    rw [if_pos (by simpa using c),aeS,bQ hp]
    refine ⟨rfl,?_⟩
    rw [a9K hp (by rw [List.length_map];omega)]
    rw [List.map_append] at h'
    exact h' _ (.put hp)
theorem a1S {α β:Type} {f:β→α→β} {b:β} {l:List α} {k:Nat} {a:α} (h:l[k]?=some a):(l.take (k+1)).foldl f b=f ((l.take k).foldl f b) a:=by
  rw [take_snoc h,List.foldl_append]
  rfl
theorem auT {F:cZ} {ex:aM→aW} {al s a r:Addr} {es:List Int} {e gl:Int} {k:Nat} {ws qs:List (Int×Int)} {l:Int×Int} {G1:Gp} {r6:Option D} (hs:G s=none) (h1:HS G s (qs.map gO) G1) (ha:G1 a=some (.tpl (es.map D.int))) (hr:G1 r=some (.lst (ws.map gO))) (rs:r≠s) (hl:qs[qs.length - 1]?=some l) (ql:qs.length+ws.length < 900)
    (h:∀ r6 G',HS G s ((ws.foldl iC qs).map gO) G'→G' a=some (.tpl (es.map D.int))→F.nx [some (.ref al),some (.tup (es.map D.int)),some (.ref s),some (.int e),some (.int k),some (.int gl),r6] G') :
    ad1 (.lst r (ws.map gO)) (p8 6) (pN K A ex) F [some (.ref al),some (.tup (es.map D.int)),some (.ref s),some (.int e),some (.int k),some (.int gl),r6] G1:=by
  refine a2X (fun m ρ G'=>∃ r6 l,ρ=[some (.ref al),some (.tup (es.map D.int)),some (.ref s),some (.int e),some (.int k),some (.int gl),r6]∧HS G s (((ws.take m).foldl iC qs).map gO) G'∧G' a=some (.tpl (es.map D.int))∧G' r=some (.lst (ws.map gO))∧((ws.take m).foldl iC qs)[((ws.take m).foldl iC qs).length - 1]?=some l∧((ws.take m).foldl iC qs).length≤qs.length+m) ⟨_,l,rfl,h1,ha,hr,hl,by simp⟩ (fun m ρ G' h=>?_) (fun m d ρ G' hd h=>?_) fun ρ G' h=>?_
  · obtain ⟨_,_,_,_,_,hr,_⟩:=h
    exact bQ hr
  · obtain ⟨_,l2,rfl,s2,ha2,hr2,hl2,ql2⟩:=h
    obtain ⟨q,hq,rfl⟩:=auO hd
    have mw:m < ws.length:=(List.getElem?_eq_some_iff.mp hq).1
    exists pN
    refine auS s2.1 hl2 (by omega) fun G3 s3=>?_
    have sa:a≠s:=fun e=>by subst e;rw [s2.1] at ha2;cases ha2
    refine ⟨_,q,rfl,by rw [a1S hq];exact s2.trans s3,s3.2 a _ sa ha2,s3.2 r _ rs hr2,by rw [a1S hq];exact fP,?_⟩
    rw [a1S hq]
    have:=a00 (qs:=(ws.take m).foldl iC qs) (q:=q)
    omega
  · obtain ⟨_,l2,rfl,s2,ha2,hr2,hl2,ql2⟩:=h
    rw [List.length_map,List.take_length] at s2
    exact h _ G' s2 ha2
theorem akR {x y g:Nat} {al:Addr} {cF:List (List Int)} {es:List Int} (o:OkP x y g) (ha:Ais G al cF) (hE:Ens ((y:Int)+1) cF.length es) (h0:bO 0 es=0) (hn:∀ m,cF.length=m+1→cF[m]?≠some []) (px:cF.length≤x) (ok:OkA y cF)
    (h:∀ s qs G',Le G G'→G' s=some (.lst (qs.map gO))→Walk x y qs→qs≠[]→qs.length≤1000→m8 g qs=cost ((y:Int)+1) cF 0 es+2 * (g:Int) * ((cF.length - 1:Nat):Int)→R (.ref s) G'):rC K A [.ref al,.tup (es.map D.int)] G R EX:=by
  have ox:=o.x1
  refine ⟨rfl,?_⟩
  show vD K A _ _ [some (.ref al),some (.tup (es.map D.int)),none,none,none,none,none] G
  exists vD
  intro s hs
  exists a3E,a3D
  refine au4 fun a ht=>?_
  have sa:s≠a:=fun e=>by subst e;rw [aQ] at ht;rcases ht with ht | ht <;> cases ht
  obtain ⟨rs,a1,a2,a3⟩:=ha
  refine au6 (fun k ρ G'=>∃ r4 r5 r6 qs,ρ=[some (.ref al),some (.tup (es.map D.int)),some (.ref s),some (.int (bO 0 (es.take k))),r4,r5,r6]∧HS G s (qs.map gO) G'∧G' a=some (.tpl (es.map D.int))∧SpI x y g cF es k qs) ⟨_,_,_,[(0,0)],rfl,HS.mk0.more (au3 ht),aQ,.start o.x0⟩ (fun k ρ G' h=>?_) (fun k d ρ G' hd h=>?_) fun ρ G' h=>?_
  · obtain ⟨_,_,_,_,_,_,ht,_⟩:=h
    exact ht
  · obtain ⟨_,_,_,qs,rfl,s2,ht2,hi⟩:=h
    obtain ⟨gl,hg,rfl⟩:=a9M hd
    have kl:k < cF.length:=by rw [← hE.len];exact (List.getElem?_eq_some_iff.mp hg).1
    have kr:k < rs.length:=by rw [a2];exact kl
    have hp:=a3 k _ _ (List.getElem?_eq_getElem kr) (List.getElem?_eq_getElem kl)
    have l2:=s2.leG hs
    obtain ⟨j,hl,_⟩:=hi.ex
    have aQJ:=hi.len
    rw [af7 rfl]
    exists a09
    rw [a1E (bQ (l2 _ _ a1)) (d := .ref rs[k]) (by rw [xY,List.getElem?_map];simp [kr])]
    walk_at "wr"
    refine aAM (bQ (l2 _ _ hp)) fun r G3 l3 hr3 hr=>?_
    walk_at "wr"
    rw [zR (bQ hr)]
    have wl:(spW k cF[k] (bO 0 (es.take k)) gl).length≤3:=by unfold spW;split <;> (try split) <;> simp
    refine auT hs (s2.more l3) (l3 _ _ ht2) hr (fun e=>by subst e;rw [s2.1] at hr3;cases hr3) hl (by omega) fun r6 G4 s4 ht4=>?_
    exists wF
    refine ⟨_,_,_,_,by rw [take_snoc hg,jA],s4,ht4,?_⟩
    exact hi.next (List.getElem?_eq_getElem kl) hg hE (by omega) ok
  · obtain ⟨_,_,_,qs,rfl,s2,ht2,hi⟩:=h
    rw [List.length_map,hE.len] at hi
    obtain ⟨j,hl,_⟩:=hi.ex
    have aQJ:=hi.len
    have ⟨f1,f2,f3,f4⟩:=hi.home o.x0 hE h0 hn
    exists a3C
    refine auS (q:=(0,0)) s2.1 hl (by omega) fun G3 s3=>?_
    exists a3B
    have s4:=s2.trans s3
    exact bV.here (h s _ G3 (s4.leG hs) s4.1 f1 f2 (by omega) f4)
def auU (n:Int) (cF:List (List Int)) (M:Int):Prop:=(∃ es,Ens n cF.length es∧bO 0 es=0∧M=cost n cF 0 es)∧∀ es,Ens n cF.length es→bO 0 es=0→M≤cost n cF 0 es
theorem w_walk {x y g:Nat} {b:Addr} {bs:List (Int×Int)} (o:OkP x y g) (hb:aO G b=some (bs.map gO)) (hB:∀ q∈bs,InB x y q) (bl:bs.length < 1000)
    (h:∀ s qs M G',Le G G'→G' s=some (.lst (qs.map gO))→Walk x y qs→qs≠[]→qs.length≤1000→auU ((y:Int)+1) (plc bs) M→m8 g qs=M+2 * (g:Int) * (((plc bs).length - 1:Nat):Int)→R (.ref s) G'):a3F K A [mL x y g,.ref b] G R EX:=by
  have ox:=o.x1
  refine ⟨rfl,?_⟩
  show afB K A _ _ [some (mL x y g),some (.ref b),none,none] G
  exists afB
  refine zZ o ?_
  exists ai0
  rw [zR hb]
  refine a2X (fun k ρ G'=>∃ r2,ρ=[some (mL x y g),some (.ref b),r2,none]∧Le G G') ⟨_,rfl,.refl _⟩ (fun k ρ G' h=>?_) (fun k d ρ G' hd h=>?_) fun ρ G' h=>?_
  · obtain ⟨_,_,l⟩:=h
    exact eF l hb
  · obtain ⟨_,rfl,l⟩:=h
    obtain ⟨q,hq,rfl⟩:=auO hd
    exists ad2
    refine akQ o (hB q (List.mem_of_getElem? hq)) ?_
    walk_at "wr"
    exact ⟨_,rfl,l⟩
  · obtain ⟨_,rfl,l⟩:=h
    have la:=aiB o.x0 hB
    have pl:(plc bs).length≤x:=by rw [a8F];omega
    exists ahZ
    refine auQ (eF l hb) (fun q hq=>⟨(hB q hq).1,by have:=(hB q hq).2.1;omega⟩) bl fun al G2 l2 ha=>?_
    exists ahY
    refine aHM o ha (auN hB) (by omega) fun es G3 l3 e1 e2 e3=>?_
    walk_at "wr"
    refine akR o (ha.le l3) e1 e2 (fun m hm=>aAK la.1 hm) pl (auN hB) fun s qs G4 l4 hs w n ql hlen=>?_
    exact bV.here (h s qs _ G4 (l.trans (l2.trans (l3.trans l4))) hs w n ql ⟨⟨es,e1,e2,rfl⟩,e3⟩ hlen)
theorem anG {F:cZ} {ex:aM→aW} {a:Addr} {ns:List Int} {x y g:Nat} {m:Int} {r2 r5:Option D} (hG:G a=some (.rol (ns.map D.int))) (o:OkP x y g) (hm:0≤m∧m≤200) (h:∀ (p:Addr) (bs:List (Int×Int)) (G':Gp),Le G G'→G' p=some (.lst (bs.map gO))→(∀ q∈bs,InB x y q)→bs.length≤200→F.rt (.ref p) G') :
    sE K A ex F [some (.ref a),some (mL x y g),r2,some (.int m),none,r5] G:=by
  have big:10000 < sizeLine:=by decide
  have ⟨x0,x1,y0,y1,g0,g1⟩:=o
  have hx:0 < (x:Int)∧(x:Int) < 1073741824:=by omega
  have hy:0 < (y:Int):=by omega
  exists sE
  intro p hp
  exists a0F
  refine a9J (fun k ρ G'=>∃ r2 r5 bs,ρ=[some (.ref a),some (mL x y g),r2,some (.int m),some (.ref p),r5]∧HS G p (bs.map gO) G'∧(∀ q∈bs,InB x y q)∧bs.length=k) ⟨_,_,[],rfl,.mk0,(fun q hq=>by cases hq),rfl⟩ (fun k ρ G' hk h=>?_) fun ρ G' h=>?_
  · obtain ⟨_,_,bs,rfl,s,hB,bl⟩:=h
    exists yH
    rw [show (8:Int)+(k:Int)=((8+k:Nat):Int) by omega]
    refine a5K (k:=8+k) (s.leG hp _ _ hG) (by omega) ?_
    generalize cellAt ns (8+k)=c
    unfold mL
    exists tX
    rw [aeS,bQ s.1]
    refine ⟨rfl,?_⟩
    walk_at "wr"
    rw [a9K s.1 (by rw [List.length_map];omega)]
    refine ⟨_,_,bs++[(c % (x:Int),1+c / (x:Int) % (y:Int))],rfl,?_,fun q hq=>?_,by simp [bl]⟩
    · rw [List.map_append]
      exact s.snd
    · rcases List.mem_append.mp hq with hq | hq
      · exact hB q hq
      · rw [List.mem_singleton] at hq
        subst hq
        have m1:=Int.emod_nonneg c (show (x:Int)≠0 by omega)
        have m2:=Int.emod_lt_of_pos c hx.1
        have m3:=Int.emod_nonneg (c / (x:Int)) (show (y:Int)≠0 by omega)
        have m4:=Int.emod_lt_of_pos (c / (x:Int)) hy
        exact ⟨m1,m2,by simp only;omega,by simp only;omega⟩
  · obtain ⟨_,_,bs,rfl,s,hB,bl⟩:=h
    exists a0E
    exact h p bs G' (s.leG hp) s.1 hB (by omega)
theorem aAO {a:Addr} {ns:List Int} {x y g:Nat} (hG:G a=some (.rol (ns.map D.int))) (o:OkP x y g) (h:∀ (p:Addr) (bs:List (Int×Int)) (G':Gp),Le G G'→G' p=some (.lst (bs.map gO))→(∀ q∈bs,InB x y q)→bs.length≤200→R (.ref p) G'):oF K A [.ref a,mL x y g] G R EX:=by
  refine ⟨rfl,?_⟩
  have h':∀ (p:Addr) (bs:List (Int×Int)) (G':Gp),Le G G'→G' p=some (.lst (bs.map gO))→(∀ q∈bs,InB x y q)→bs.length≤200→bV R (.ref p) G':=fun p bs G' a b c d=>bV.here (h p bs G' a b c d)
  show rF K A _ _ [some (.ref a),some (mL x y g),none,none,none,none] G
  exists rF
  refine a5K (k:=3) hG (by omega) ?_
  generalize cellAt ns 3=c
  have four:∀ (m:Int),0≤m∧m≤200→sG K A (fun _=>a9H EX) { nx:=fun _ G'=>bV R .non G',rt:=bV R } [some (.ref a),some (mL x y g),some (.int c),some (.int m),none,none] G:=fun m hm=>by
    exists sG
    exact qW (fun _=>anG hG o (by omega) h') fun _=>anG hG o hm h'
  exists a0H,a0G
  exact qW (fun _=>four _ (by omega)) fun _=>four _ (by omega)
theorem anH {F:cZ} {ex:aM→aW} {p:Addr} {ps:List Int} {n e s:Int} {t:Bool} {r0 r1 r2 r3 r7:Option D} (hp:aO G p=some (ps.map D.int)) (n0:0 < n) (he:e=0∨e=n)
    (h:∀ G',Le G G'→F.nx [r0,r1,r2,r3,some (.int n),some (.int (if t then n - e else e)),some (.int (s+u0 n ps e (if t then n - e else e))),r7,some (.ref p),some (.bl t)] G') :
    fW K A ex F [r0,r1,r2,r3,some (.int n),some (.int e),some (.int s),r7,some (.ref p),some (.bl t)] G:=by
  cases t with
  | true =>
    have e1:u0 n ps e (n - e)=n:=by unfold u0;rw [if_neg (by omega)]
    simp only [if_true,e1] at h
    exists fW,mV
    exact h G (.refl _)
  | false =>
    simp only [Bool.false_eq_true,if_false] at h
    unfold u0 at h
    simp only [if_true] at h
    exists fW
    intro q hq
    have hp2:=eF (Le.new (o := .lst []) hq) hp
    rw [a1F hp2 dR (by rw [List.all_eq_true];rintro d hd;obtain ⟨i,_,rfl⟩:=List.mem_map.mp hd;rfl) rfl]
    by_cases c:ps=[]
    · subst c
      simp only [List.map_nil,jH,if_true,Int.add_zero] at h ⊢
      walk_at "wr"
      intro q2 hq2
      rw [a1F (eF (.new hq2) hp2) dR rfl rfl]
      simp only [List.map_nil,jH]
      walk_at "wr"
      exact h _ ((Le.new hq).trans (.new hq2))
    · simp only [c,if_false] at h
      have ee:jH (ps.map D.int) []=false:=by cases ps with
        | nil=>exact absurd rfl c
        | cons a r=>rfl
      rw [ee]
      walk_at "wr"
      refine qW (fun c0=>?_) fun c0=>?_
      · have c0:e=0:=by simpa using c0
        simp only [c0,if_true] at h
        subst c0
        refine auL hp2 c fun M h1 h2=>?_
        walk_at "wr"
        rw [aa5 h1 h2]
        exact h _ (.new hq)
      · have c0:¬ e=0:=by simpa using c0
        simp only [c0,if_false] at h
        intro q2 hq2
        have hp3:=eF (Le.new (o := .lst []) hq2) hp2
        rw [a1F hp3 dR (by rw [List.all_eq_true];rintro d hd;obtain ⟨i,_,rfl⟩:=List.mem_map.mp hd;rfl) rfl,ee]
        walk_at "wr"
        refine aCI hp3 c fun M h1 h2=>?_
        walk_at "wr"
        rw [akM h1 h2]
        exact h _ ((Le.new hq).trans (.new hq2))
theorem aAP {a b:Addr} {ns:List Int} {x y g:Nat} {bs:List (Int×Int)} (hG:G a=some (.rol (ns.map D.int))) (o:OkP x y g) (hb:aO G b=some (bs.map gO)) (hB:∀ q∈bs,InB x y q) (bl:bs.length≤200) (nn:bs≠[])
    (h:∀ es G',Le G G'→Ens ((y:Int)+1) (plc bs).length es→bO 0 es=0→R (.int (cost ((y:Int)+1) (plc bs) 0 es+2 * (g:Int) * (((plc bs).length - 1:Nat):Int))) G'):mK K A [.ref a,mL x y g,.ref b] G R EX:=by
  have ⟨x0,x1,y0,y1,g0,g1⟩:=o
  have la:=aiB x0 hB
  refine ⟨rfl,?_⟩
  have h':∀ (es:List Int) (G':Gp),Le G G'→Ens ((y:Int)+1) (plc bs).length es→bO 0 es=0→bV R (.int (cost ((y:Int)+1) (plc bs) 0 es+2 * (g:Int) * (((plc bs).length - 1:Nat):Int))) G':=fun es G' a b c=>bV.here (h es G' a b c)
  clear h
  show oG K A _ _ [some (.ref a),some (mL x y g),some (.ref b),none,none,none,none,none,none,none] G
  exists oG
  rw [a9I hb]
  refine afK (fun _ _=>true) (fun u _=>u) hb (by omega) (fun u v G' l Q h=>h G' (.refl _)) (fun u v G' l Q h=>h G' (.refl _)) fun p hp=>?_
  rw [show (bs.filter fun _=>true)=bs from List.filter_eq_self.mpr fun _ _=>rfl]
  walk_at "wr"
  refine auL dR (by simpa using nn) fun M h1 h2=>?_
  have eM:M=fX bs:=by unfold fX;rw [if_neg nn];exact aa5 h1 h2
  clear h1 h2
  have M0:0≤M:=by
    obtain ⟨q,r,rfl⟩:∃ q r,bs=q :: r:=by
      cases bs with
      | nil=>exact absurd rfl nn
      | cons q r=>exact ⟨q,r,rfl⟩
    have:=aiC (List.mem_cons_self (a:=q) (l:=r))
    have:=(hB q (by simp)).1
    omega
  have pl:(plc bs).length=(M+1).toNat:=by rw [a8F,eM]
  have m26:M < 26:=by omega
  unfold mL
  exists yM,yL,yK,yJ
  refine a9J (fun k ρ G'=>∃ r7 r8 r9 es,ρ=[some (.ref a),some (mL x y g),some (.ref b),some (.int M),some (.int ((y:Int)+1)),some (.int (bO 0 es)),some (.int (cost ((y:Int)+1) ((plc bs).take k) 0 es)),r7,r8,r9]∧Le G G'∧Ens ((y:Int)+1) k es∧(k=(M+1).toNat→bO 0 es=0)) ⟨_,_,_,[],rfl,.new hp,⟨rfl,(fun q hq=>by cases hq)⟩,fun _=>rfl⟩ (fun k ρ G' hk h=>?_) fun ρ G' h=>?_
  · obtain ⟨_,_,_,es,rfl,l,hE,_⟩:=h
    have kp:k < (plc bs).length:=by rw [pl];omega
    have pk:(plc bs)[k]?=some (xD bs k):=akP (by rw [← eM];omega)
    exists wG
    rw [a9I (eF l hb)]
    refine afK (fun u _=>u == (k:Int)) (fun _ v=>v) (eF l hb) (by omega) (fun u v G2 l2 Q h=>?_) (fun u v G2 l2 Q h=>h G2 (.refl _)) fun p2 hp2=>?_
    · walk_at "wr"
      exact h G2 (.refl _)
    · have ef:((bs.filter fun q=>q.1 == (k:Int)).map fun q=>q.2)=xD bs k:=by
        unfold xD
        congr 1
      rw [ef]
      have l2:Le G (aN G' p2 (.lst ((xD bs k).map D.int))):=l.trans (.new hp2)
      exists rJ
      rw [show (30:Int)+(k:Int)=((30+k:Nat):Int) by omega]
      refine a5K (k:=30+k) (l2 _ _ hG) (by omega) ?_
      generalize cellAt ns (30+k)=c
      exists rH
      have el:=hE.last
      have fin:∀ t:Bool,((k:Int)=M→(if t then (y:Int)+1 - bO 0 es else bO 0 es)=0)→∀ G3,Le G G3→∃ r7 r8 r9 es',([some (.ref a),some (mL x y g),some (.ref b),some (.int M),some (.int ((y:Int)+1)),some (.int (if t then (y:Int)+1 - bO 0 es else bO 0 es)),some (.int (cost ((y:Int)+1) ((plc bs).take k) 0 es+u0 ((y:Int)+1) (xD bs k) (bO 0 es) (if t then (y:Int)+1 - bO 0 es else bO 0 es))),some (.int k),some (.ref p2),some (.bl t)]:aM)=[some (.ref a),some (mL x y g),some (.ref b),some (.int M),some (.int ((y:Int)+1)),some (.int (bO 0 es')),some (.int (cost ((y:Int)+1) ((plc bs).take (k+1)) 0 es')),r7,r8,r9]∧Le G G3∧Ens ((y:Int)+1) (k+1) es'∧(k+1=(M+1).toNat→bO 0 es'=0):=fun t ht G3 l3=>by
        refine ⟨some (.int k),some (.ref p2),some (.bl t),es++[if t then (y:Int)+1 - bO 0 es else bO 0 es],?_,l3,hE.snoc ?_,fun e=>?_⟩
        · rw [jA,take_snoc pk,u5 (by rw [hE.len,List.length_take];omega)]
        · cases t
          · exact el
          · simp only [if_true];omega
        · rw [jA]
          exact ht (by omega)
      refine qW (fun c1=>?_) fun c1=>?_
      · have c1:(k:Int)=M:=by simpa using c1
        walk_at "wr"
        refine anH dR (by omega) el fun G3 l3=>fin _ (fun _=>?_) G3 (l2.trans l3)
        by_cases c2:bO 0 es=0
        · rw [c2];simp
        · have c3:(bO 0 es == 0)=false:=by simpa using c2
          rw [c3]
          simp only [Bool.not_false,if_true]
          omega
      · have c1:¬ (k:Int)=M:=by simpa using c1
        refine anH dR (by omega) el fun G3 l3=>fin _ (fun e=>absurd e c1) G3 (l2.trans l3)
  · obtain ⟨_,_,_,es,rfl,l,hE,he⟩:=h
    rw [List.take_of_length_le (by rw [pl];exact Nat.le_refl _)]
    have hg:-18446744073709551616 < 2 * (g:Int)∧2 * (g:Int) < 18446744073709551616:=by omega
    unfold mL
    exists yI
    have:=h' es G' l (by rw [pl];exact hE) (he rfl)
    rw [show (((plc bs).length - 1:Nat):Int)=M by rw [pl];omega] at this
    exact this
theorem aa8 {l:List Int}:mxL l.reverse=mxL l∧mnL l.reverse=mnL l:=by
  by_cases n:l=[]
  · subst n;exact ⟨rfl,rfl⟩
  · have n2:l.reverse≠[]:=by simpa using n
    exact ⟨aa5 (List.mem_reverse.mp (sI n2).1) fun a ha=>(sI n2).2 a (List.mem_reverse.mpr ha),akM (List.mem_reverse.mp (a5M n2).1) fun a ha=>(a5M n2).2 a (List.mem_reverse.mpr ha)⟩
theorem apF {bs:List (Int×Int)}:fX bs.reverse=fX bs:=by
  unfold fX
  rw [List.map_reverse,aa8.1]
  simp
theorem anI {bs:List (Int×Int)}:plc bs.reverse=(plc bs).map List.reverse:=by
  unfold plc
  rw [apF,List.map_map]
  refine List.map_congr_left fun i _=>?_
  show xD bs.reverse i=(xD bs i).reverse
  unfold xD
  rw [List.filter_reverse,List.map_reverse]
theorem a3O {n:Int}:∀ {cF:List (List Int)} {e:Int} {es:List Int},cost n (cF.map List.reverse) e es=cost n cF e es
  | [],_,_=>rfl
  | _ :: _,_,[]=>rfl
  | ps :: r,e,g :: es=>by
    show u0 n ps.reverse e g+cost n (r.map List.reverse) g es=u0 n ps e g+cost n r g es
    rw [a3O]
    congr 1
    unfold u0
    rw [aa8.1,aa8.2]
    simp
theorem apG {n M M':Int} {bs:List (Int×Int)} (h:auU n (plc bs) M) (h':auU n (plc bs.reverse) M'):M'=M:=by
  rw [anI] at h'
  obtain ⟨⟨es,a1,a2,rfl⟩,a4⟩:=h
  obtain ⟨⟨es',b1,b2,rfl⟩,b4⟩:=h'
  rw [List.length_map] at b1 b4
  have c1:=a4 es' b1 b2
  have c2:=b4 es a1 a2
  rw [a3O,a3O] at c2
  rw [a3O]
  omega
theorem aN3 {a:Addr} {ns:List Int} (hG:G a=some (.rol (ns.map D.int))) (h:∀ G',R (.bl true) G'):afD K A [.ref a] G R EX:=by
  have big:10000 < sizeLine:=by decide
  refine ⟨rfl,?_⟩
  have h':∀ G',bV R (.bl true) G':=fun G'=>bV.here (h G')
  show an4 K A _ _ [some (.ref a),none,none,none,none,none,none,none,none] G
  exists an4
  refine aAF hG fun x y g o=>?_
  exists an3
  refine aAO hG o fun b bs G0 l0 hb hB bl=>?_
  exists an2,atV (bQ hb)
  intro b2 hb2
  walk_at "wr"
  refine w_walk o dR hB (by omega) fun s qs M G1 l1 hs w n ql hM hlen=>?_
  have l01:Le G0 G1:=(Le.new hb2).trans l1
  have n0:0 < qs.length:=List.length_pos_iff.mpr n
  exists an1,an0,zQ (bQ hs)
  refine a9J (fun k ρ G'=>∃ r5 r6 r7,ρ=[some (.ref a),some (mL x y g),some (.ref b),some (.ref s),some (.int (m8 g (qs.take (k+1)))),r5,r6,r7,none]∧Le G1 G') ⟨_,_,_,by rw [auH n],.refl _⟩ (fun k ρ G' hk h=>?_) fun ρ G' h=>?_
  · obtain ⟨_,_,_,rfl,l⟩:=h
    have k1:k+1 < qs.length:=by omega
    have hs2:=eF l (bQ hs)
    exists ai1
    refine aCH hs2 (List.getElem?_eq_getElem (by omega)) ?_
    exists a9V
    rw [show (k:Int)+1=((k+1:Nat):Int) by omega]
    refine aCH hs2 (List.getElem?_eq_getElem k1) ?_
    have hg:-18446744073709551616 < (g:Int)∧(g:Int) < 18446744073709551616:=by have:=o.g1;omega
    unfold mL
    exists a9U,a9T
    have e:=apC (g:=g) (List.getElem?_eq_getElem (show k < qs.length by omega)) (List.getElem?_eq_getElem k1)
    unfold cH at e
    rw [← Int.add_assoc] at e
    rw [← e]
    exact ⟨_,_,_,rfl,l⟩
  · obtain ⟨_,_,_,rfl,l⟩:=h
    rw [show ((qs.length:Int) - 1).toNat+1=qs.length by omega,List.take_length]
    have hs2:=eF l (bQ hs)
    exists amZ
    refine aiA o hs2 w n ql fun G3 l3=>?_
    have l03:Le G0 G3:=l01.trans (l.trans l3)
    exists amY
    refine aAE ?_
    walk_at "wr"
    rw [beq_self_eq_true]
    walk_at "wr"
    rw [aMS (bQ (l03 _ _ hb))]
    intro b3 hb3
    walk_at "wr"
    have lr:aO (aN G3 b3 (.lst (bs.map gO).reverse)) b3=some (bs.reverse.map gO):=by rw [List.map_reverse];exact dR
    refine w_walk o lr (fun q hq=>hB q (List.mem_reverse.mp hq)) (by rw [List.length_reverse];omega) fun s2 qs2 M2 G4 l4 hs4 w2 n2 ql2 hM2 hlen2=>?_
    walk_at "wr"
    refine aiA o (bQ hs4) w2 n2 ql2 fun G5 l5=>?_
    have e2:m8 g qs2=m8 g qs:=by
      rw [hlen,hlen2,apG hM hM2,anI,List.length_map]
    rw [e2]
    walk_at "wr"
    rw [beq_self_eq_true]
    have l05:Le G0 G5:=l03.trans ((Le.new hb3).trans (l4.trans l5))
    exists amX
    intro b4 hb4
    rw [akB (bQ (oV (l05 _ _ hb) hb4)) dR (aa4 bs (by omega)) rfl]
    by_cases c:bs=[]
    · subst c
      simp only [List.map_nil,jH]
      walk_at "wr"
      have e0:m8 g qs=0:=by
        rw [hlen]
        obtain ⟨⟨es,a1,_,a3⟩,_⟩:=hM
        rw [a3]
        have:plc []=[]:=rfl
        rw [this]
        simp [cost]
      rw [e0]
      exact h' _
    · have ee:jH (bs.map gO) []=false:=by cases bs with
        | nil=>exact absurd rfl c
        | cons q r=>rfl
      rw [ee]
      exists amW
      have l06:=l05.trans (Le.new (o := .lst []) hb4)
      refine aAP (l06 _ _ (l0 _ _ hG)) o (bQ (l06 _ _ hb)) hB bl c fun es G6 l6 e1 e3=>?_
      walk_at "wr"
      have:=hM.2 es e1 e3
      rw [hlen,decide_eq_true (by omega)]
      exact h' _
theorem main (T:Txt K mg A) (a:Addr) (ns:List Int) (hl:ns.length≤63) (G:Gp) (hG:G a=some (.rol (ns.map D.int))):afD K A [.ref a] G (fun d _=>d = .bl true) (fun _ _=>False):=aN3 hG fun _=>rfl
end
end Law
namespace Law
open PySem PySem.Spec PyProof.Rows L2 L4
section
variable {P:Program} {w:World} {K:Fg} {mg:Str→Option Value} {base:Heap} {A:bI}
theorem aiE:bG ["thing", "least", "most"] ["thing", "least", "most"] (aC d8):=⟨rfl,rfl,rfl,by decide +kernel,rfl,by decide +kernel,by decide +kernel⟩
theorem akS:dO (uZ K A) (aC d8)=true:=by kernel_rfl
theorem pX:kB (uZ K A) 0 j6 (aF d8)=true:=by kernel_rfl
theorem akT:(fun EX=>mB (uZ K A).gl K (fun _=>EX) j6)=fun EX=>pI K A (fun _=>EX):=by kernel_rfl
theorem a6Q (T:Txt K mg A):cT false P w K mg base (oY P w) 1 A.iY A.a1G ["thing", "least", "most"] (dZ K (dU K A)):=by
  have h:=bJ (qt:=false) (P:=P) (w:=w) (mg:=mg) (base:=base) (k:=0) (S:=uZ K A) (c:=j6) T.vH aiE rfl akS pX (fZ ⟨T.auD,arG⟩
    (fZ ⟨T.kJ,mD⟩
    (fZ ⟨T.akK,am1⟩
    gln)))
  rw [akT] at h
  exact h
theorem akU:bG ["thing", "aisles", "first", "last"] ["thing", "aisles", "first", "last"] (aC eO):=⟨rfl,rfl,rfl,by decide +kernel,rfl,by decide +kernel,by decide +kernel⟩
theorem apH:dO (zT K A) (aC eO)=true:=by kernel_rfl
theorem uD:kB (zT K A) 0 lW (aF eO)=true:=by kernel_rfl
theorem apI:(fun EX=>mB (zT K A).gl K (fun _=>EX) lW)=fun EX=>oN K A (fun _=>EX):=by kernel_rfl
theorem aa9 (T:Txt K mg A):cT false P w K mg base (oY P w) 2 A.lQ A.a5C ["thing", "aisles", "first", "last"] (dZ K (lV K A)):=by
  have h:=bJ (qt:=false) (P:=P) (w:=w) (mg:=mg) (base:=base) (k:=1) (S:=zT K A) (c:=lW) T.zY akU rfl apH uD (fZ ⟨T.afI,agZ⟩
    (fZ ⟨T.kJ,mD⟩
    (fZ ⟨T.aa3,a4U⟩
    (fZ ⟨_,_,_,(a6Q T).mono (by decide),T.a1N,T.vH.kp,T.a1M⟩
    gln))))
  rw [apI] at h
  exact h
theorem akV:bG ["thing"] ["thing"] (aC eU):=⟨rfl,rfl,rfl,by decide +kernel,rfl,by decide +kernel,by decide +kernel⟩
theorem apJ:dO (zU K A) (aC eU)=true:=by kernel_rfl
theorem uE:kB (zU K A) 0 lX (aF eU)=true:=by kernel_rfl
theorem apK:(fun EX=>mB (zU K A).gl K (fun _=>EX) lX)=fun EX=>oO K A (fun _=>EX):=by kernel_rfl
theorem akW (T:Txt K mg A):cT false P w K mg base (oY P w) 2 A.lR A.a5D ["thing"] (dZ K (v7 K A)):=by
  have h:=bJ (qt:=false) (P:=P) (w:=w) (mg:=mg) (base:=base) (k:=1) (S:=zU K A) (c:=lX) T.a5H akV rfl apJ uE (fZ ⟨T.afI,agZ⟩
    (fZ ⟨T.kJ,mD⟩
    (fZ ⟨T.aa3,a4U⟩
    (fZ (gcI T.fM)
    (fZ ⟨_,_,_,(a6Q T).mono (by decide),T.a1N,T.vH.kp,T.a1M⟩
    (fZ (gcI T.fO)
    (fZ (gcI T.m7)
    gln)))))))
  rw [apK] at h
  exact h
theorem afL:bG ["plan"] ["plan"] (aC cN):=⟨rfl,rfl,rfl,by decide +kernel,rfl,by decide +kernel,by decide +kernel⟩
theorem aiF:dO (qY K A) (aC cN)=true:=by kernel_rfl
theorem n6:kB (qY K A) 0 gH (aF cN)=true:=by kernel_rfl
theorem aiG:(fun EX=>mB (qY K A).gl K (fun _=>EX) gH)=fun EX=>qX K A (fun _=>EX):=by kernel_rfl
theorem oJ (T:Txt K mg A):cT false P w K mg base (oY P w) 3 A.gC A.yD ["plan"] (dZ K (cC K A)):=by
  have h:=bJ (qt:=false) (P:=P) (w:=w) (mg:=mg) (base:=base) (k:=2) (S:=qY K A) (c:=gH) T.jG afL rfl aiF n6 (fZ ⟨_,_,_,(akW T).mono (by decide),T.ad4,T.a5H.kp,T.ad3⟩
    (fZ ⟨T.ai5,T.tY,T.lZ,T.oR,T.m6⟩
    gln))
  rw [aiG] at h
  exact h
theorem apL:bG ["plan", "thing"] ["plan", "thing"] (aC gA):=⟨rfl,rfl,rfl,by decide +kernel,rfl,by decide +kernel,by decide +kernel⟩
theorem auV:dO (a3A K A) (aC gA)=true:=by kernel_rfl
theorem yW:kB (a3A K A) 0 pJ (aF gA)=true:=by kernel_rfl
theorem auW:(fun EX=>mB (a3A K A).gl K (fun _=>EX) pJ)=fun EX=>a2Z K A (fun _=>EX):=by kernel_rfl
theorem apM (T:Txt K mg A):cT false P w K mg base (oY P w) 4 A.pC A.a9N ["plan", "thing"] (dZ K (zV K A)):=by
  have h:=bJ (qt:=false) (P:=P) (w:=w) (mg:=mg) (base:=base) (k:=3) (S:=a3A K A) (c:=pJ) T.a9X apL rfl auV yW (fZ ⟨_,_,_,(oJ T).mono (by decide),T.mX,T.jG.kp,T.mW⟩
    (fZ ⟨_,_,_,(aa9 T).mono (by decide),T.a5G,T.zY.kp,T.a5F⟩
    gln))
  rw [auW] at h
  exact h
theorem akX:bG ["plan", "thing"] ["plan", "thing"] (aC eV):=⟨rfl,rfl,rfl,by decide +kernel,rfl,by decide +kernel,by decide +kernel⟩
theorem apO:dO (zX K A) (aC eV)=true:=by kernel_rfl
theorem uF:kB (zX K A) 0 lY (aF eV)=true:=by kernel_rfl
theorem apP:(fun EX=>mB (zX K A).gl K (fun _=>EX) lY)=fun EX=>zW K A (fun _=>EX):=by kernel_rfl
theorem akY (T:Txt K mg A):cT false P w K mg base (oY P w) 4 A.lU A.a5E ["plan", "thing"] (dZ K (pK K A)):=by
  have h:=bJ (qt:=false) (P:=P) (w:=w) (mg:=mg) (base:=base) (k:=3) (S:=zX K A) (c:=lY) T.a5I akX rfl apO uF (fZ ⟨_,_,_,(oJ T).mono (by decide),T.mX,T.jG.kp,T.mW⟩
    (fZ ⟨_,_,_,(aa9 T).mono (by decide),T.a5G,T.zY.kp,T.a5F⟩
    gln))
  rw [apP] at h
  exact h
theorem aHN:bG ["plan", "one", "other", "by_front", "by_back"] ["plan", "one", "other"] (aC xZ):=⟨rfl,rfl,rfl,by decide +kernel,rfl,by decide +kernel,by decide +kernel⟩
theorem aN4:dO (amV K A) (aC xZ)=true:=by kernel_rfl
theorem aiH:kB (amV K A) 0 a9R (aF xZ)=true:=by kernel_rfl
theorem aN5:(fun EX=>mB (amV K A).gl K (fun _=>EX) a9R)=fun EX=>amU K A (fun _=>EX):=by kernel_rfl
theorem aHO (T:Txt K mg A):cT false P w K mg base (oY P w) 5 A.a9O A.au7 ["plan", "one", "other"] (dZ K (afA K A)):=by
  have h:=bJ (qt:=false) (P:=P) (w:=w) (mg:=mg) (base:=base) (k:=4) (S:=amV K A) (c:=a9R) T.au9 aHN rfl aN4 aiH (fZ ⟨_,_,_,(akY T).mono (by decide),T.ad6,T.a5I.kp,T.ad5⟩
    (fZ ⟨T.afH,T.vL,T.mY,T.pR,T.mZ⟩
    (fZ ⟨T.an8,ajV⟩
    (fZ ⟨T.ai6,ae7⟩
    gln))))
  rw [aN5] at h
  exact h
theorem aiI:bG ["plan", "thing"] ["plan", "thing"] (aC d9):=⟨rfl,rfl,rfl,by decide +kernel,rfl,by decide +kernel,by decide +kernel⟩
theorem akZ:dO (v9 K A) (aC d9)=true:=by kernel_rfl
theorem pY:kB (v9 K A) 0 j7 (aF d9)=true:=by kernel_rfl
theorem al0:(fun EX=>mB (v9 K A).gl K (fun _=>EX) j7)=fun EX=>v8 K A (fun _=>EX):=by kernel_rfl
theorem aiJ (T:Txt K mg A):cT false P w K mg base (oY P w) 5 A.iZ A.a1H ["plan", "thing"] (dZ K (qZ K A)):=by
  have h:=bJ (qt:=false) (P:=P) (w:=w) (mg:=mg) (base:=base) (k:=4) (S:=v9 K A) (c:=j7) T.a1O aiI rfl akZ pY (fZ ⟨_,_,_,(apM T).mono (by decide),T.ai3,T.a9X.kp,T.ai2⟩
    (fZ ⟨T.afH,T.vL,T.mY,T.pR,T.mZ⟩
    gln))
  rw [al0] at h
  exact h
theorem a1T:bG ["bins", "last", "aisles", "aisle", "place"] ["bins"] (aC aY):=⟨rfl,rfl,rfl,by decide +kernel,rfl,by decide +kernel,by decide +kernel⟩
theorem a3P:dO (fV K A) (aC aY)=true:=by kernel_rfl
theorem dW:kB (fV K A) 0 cD (aF aY)=true:=by kernel_rfl
theorem a3Q:(fun EX=>mB (fV K A).gl K (fun _=>EX) cD)=fun EX=>fU K A (fun _=>EX):=by kernel_rfl
theorem a1U (T:Txt K mg A):cT false P w K mg base (oY P w) 1 A.cB A.jL ["bins"] (dZ K (fB K A)):=by
  have h:=bJ (qt:=false) (P:=P) (w:=w) (mg:=mg) (base:=base) (k:=0) (S:=fV K A) (c:=cD) T.jW a1T rfl a3P dW (fZ ⟨T.an9,ajW⟩
    (fZ ⟨T.a3M,a2V⟩
    gln))
  rw [a3Q] at h
  exact h
theorem aiK:bG ["places", "end"] ["places", "end"] (aC dB):=⟨rfl,rfl,rfl,by decide +kernel,rfl,by decide +kernel,by decide +kernel⟩
theorem al1:dO (vB K A) (aC dB)=true:=by kernel_rfl
theorem pZ:kB (vB K A) 0 j8 (aF dB)=true:=by kernel_rfl
theorem al2:(fun EX=>mB (vB K A).gl K (fun _=>EX) j8)=fun EX=>vA K A (fun _=>EX):=by kernel_rfl
theorem a6R (T:Txt K mg A):cT false P w K mg base (oY P w) 1 A.j4 A.a1I ["places", "end"] (dZ K (jF K A)):=by
  have h:=bJ (qt:=false) (P:=P) (w:=w) (mg:=mg) (base:=base) (k:=0) (S:=vB K A) (c:=j8) T.vI aiK rfl al1 pZ (fZ ⟨T.an9,ajW⟩
    (fZ ⟨T.ai6,ae7⟩
    gln))
  rw [al2] at h
  exact h
theorem a7M:bG ["plan", "places", "end", "goal"] ["plan", "places", "end", "goal"] (aC bL):=⟨rfl,rfl,rfl,by decide +kernel,rfl,by decide +kernel,by decide +kernel⟩
theorem aaA:dO (jO K A) (aC bL)=true:=by kernel_rfl
theorem gP:kB (jO K A) 0 dI (aF bL)=true:=by kernel_rfl
theorem aaB:(fun EX=>mB (jO K A).gl K (fun _=>EX) dI)=fun EX=>jN K A (fun _=>EX):=by kernel_rfl
theorem a7N (T:Txt K mg A):cT false P w K mg base (oY P w) 2 A.dF A.pD ["plan", "places", "end", "goal"] (dZ K (iR K A)):=by
  have h:=bJ (qt:=false) (P:=P) (w:=w) (mg:=mg) (base:=base) (k:=1) (S:=jO K A) (c:=dI) T.pP a7M rfl aaA gP (fZ ⟨T.aa3,a4U⟩
    (fZ ⟨_,_,_,(a6R T).mono (by decide),T.a1Q,T.vI.kp,T.a1P⟩
    (fZ ⟨T.an8,ajV⟩
    gln)))
  rw [aaB] at h
  exact h
theorem aaC:bG ["plan", "places", "ways", "found", "end", "way", "goal", "one"] ["plan", "places", "ways"] (aC bT):=⟨rfl,rfl,rfl,by decide +kernel,rfl,by decide +kernel,by decide +kernel⟩
theorem abX:dO (mH K A) (aC bT)=true:=by kernel_rfl
theorem iQ:kB (mH K A) 0 dY (aF bT)=true:=by kernel_rfl
theorem abY:(fun EX=>mB (mH K A).gl K (fun _=>EX) dY)=fun EX=>mF K A (fun _=>EX):=by kernel_rfl
theorem aaD (T:Txt K mg A):cT false P w K mg base (oY P w) 3 A.dX A.rW ["plan", "places", "ways"] (dZ K (jQ K A)):=by
  have h:=bJ (qt:=false) (P:=P) (w:=w) (mg:=mg) (base:=base) (k:=2) (S:=mH K A) (c:=dY) T.sH aaC rfl abX iQ (fZ ⟨_,_,_,(a7N T).mono (by decide),T.yO,T.pP.kp,T.yN⟩
    (fZ ⟨T.ai6,ae7⟩
    gln))
  rw [abY] at h
  exact h
theorem a5N:bG ["plan", "aisles", "ways", "places"] ["plan", "aisles"] (aC bD):=⟨rfl,rfl,rfl,by decide +kernel,rfl,by decide +kernel,by decide +kernel⟩
theorem a7O:dO (iU K A) (aC bD)=true:=by kernel_rfl
theorem fJ:kB (iU K A) 0 cW (aF bD)=true:=by kernel_rfl
theorem a7P:(fun EX=>mB (iU K A).gl K (fun _=>EX) cW)=fun EX=>iT K A (fun _=>EX):=by kernel_rfl
theorem a5O (T:Txt K mg A):cT false P w K mg base (oY P w) 4 A.cV A.nG ["plan", "aisles"] (dZ K (gY K A)):=by
  have h:=bJ (qt:=false) (P:=P) (w:=w) (mg:=mg) (base:=base) (k:=3) (S:=iU K A) (c:=cW) T.nH a5N rfl a7O fJ (fZ ⟨_,_,_,(aaD T).mono (by decide),T.a0J,T.sH.kp,T.a0I⟩
    gln)
  rw [a7P] at h
  exact h
theorem a7Q:bG ["aisle", "places", "end", "goal"] ["aisle", "places", "end", "goal"] (aC bM):=⟨rfl,rfl,rfl,by decide +kernel,rfl,by decide +kernel,by decide +kernel⟩
theorem aaE:dO (jT K A) (aC bM)=true:=by kernel_rfl
theorem gQ:kB (jT K A) 0 dJ (aF bM)=true:=by kernel_rfl
theorem aaF:(fun EX=>mB (jT K A).gl K (fun _=>EX) dJ)=fun EX=>jR K A (fun _=>EX):=by kernel_rfl
theorem a7R (T:Txt K mg A):cT false P w K mg base (oY P w) 2 A.dG A.pF ["aisle", "places", "end", "goal"] (dZ K (iV K A)):=by
  have h:=bJ (qt:=false) (P:=P) (w:=w) (mg:=mg) (base:=base) (k:=1) (S:=jT K A) (c:=dJ) T.pQ a7Q rfl aaE gQ (fZ ⟨T.aa3,a4U⟩
    (fZ ⟨_,_,_,(a6R T).mono (by decide),T.a1Q,T.vI.kp,T.a1P⟩
    gln))
  rw [aaF] at h
  exact h
theorem auX:bG ["spots", "spot"] ["spots", "spot"] (aC jK):=⟨rfl,rfl,rfl,by decide +kernel,rfl,by decide +kernel,by decide +kernel⟩
theorem aAQ:dO (a8C K A) (aC jK)=true:=by kernel_rfl
theorem a3R:kB (a8C K A) 0 vC (aF jK)=true:=by kernel_rfl
theorem aAR:(fun EX=>mB (a8C K A).gl K (fun _=>EX) vC)=fun EX=>a8B K A (fun _=>EX):=by kernel_rfl
theorem auY (T:Txt K mg A):cT false P w K mg base (oY P w) 1 A.uW A.af9 ["spots", "spot"] (dZ K (yG K A)):=by
  have h:=bJ (qt:=false) (P:=P) (w:=w) (mg:=mg) (base:=base) (k:=0) (S:=a8C K A) (c:=vC) T.afE auX rfl aAQ a3R gln
  rw [aAR] at h
  exact h
theorem aiL:bG ["aisles", "ends", "spots", "end", "aisle", "goal", "spot"] ["aisles", "ends"] (aC dD):=⟨rfl,rfl,rfl,by decide +kernel,rfl,by decide +kernel,by decide +kernel⟩
theorem al3:dO (vG K A) (aC dD)=true:=by kernel_rfl
theorem qC:kB (vG K A) 0 j9 (aF dD)=true:=by kernel_rfl
theorem al4:(fun EX=>mB (vG K A).gl K (fun _=>EX) j9)=fun EX=>vD K A (fun _=>EX):=by kernel_rfl
theorem aiM (T:Txt K mg A):cT false P w K mg base (oY P w) 3 A.j5 A.a1J ["aisles", "ends"] (dZ K (rC K A)):=by
  have h:=bJ (qt:=false) (P:=P) (w:=w) (mg:=mg) (base:=base) (k:=2) (S:=vG K A) (c:=j9) T.a1R aiL rfl al3 qC (fZ (gcT T.a5J)
    (fZ ⟨T.a6P,aeR⟩
    (fZ ⟨_,_,_,(a7R T).mono (by decide),T.yQ,T.pQ.kp,T.yP⟩
    (fZ ⟨_,_,_,(auY T).mono (by decide),T.an7,T.afE.kp,T.an6⟩
    gln))))
  rw [al4] at h
  exact h
theorem aAS:bG ["plan", "bins", "spot", "aisles"] ["plan", "bins"] (aC pB):=⟨rfl,rfl,rfl,by decide +kernel,rfl,by decide +kernel,by decide +kernel⟩
theorem aHP:dO (afC K A) (aC pB)=true:=by kernel_rfl
theorem aaG:kB (afC K A) 0 a1L (aF pB)=true:=by kernel_rfl
theorem aHQ:(fun EX=>mB (afC K A).gl K (fun _=>EX) a1L)=fun EX=>afB K A (fun _=>EX):=by kernel_rfl
theorem aAT (T:Txt K mg A):cT false P w K mg base (oY P w) 6 A.a1K A.akI ["plan", "bins"] (dZ K (a3F K A)):=by
  have h:=bJ (qt:=false) (P:=P) (w:=w) (mg:=mg) (base:=base) (k:=5) (S:=afC K A) (c:=a1L) T.akJ aAS rfl aHP aaG (fZ ⟨_,_,_,(oJ T).mono (by decide),T.mX,T.jG.kp,T.mW⟩
    (fZ ⟨_,_,_,(aiJ T).mono (by decide),T.a9Z,T.a1O.kp,T.a9Y⟩
    (fZ ⟨_,_,_,(a1U T).mono (by decide),T.rM,T.jW.kp,T.rK⟩
    (fZ ⟨_,_,_,(a5O T).mono (by decide),T.wI,T.nH.kp,T.wH⟩
    (fZ ⟨_,_,_,(aiM T).mono (by decide),T.aa1,T.a1R.kp,T.aa0⟩
    gln)))))
  rw [aHQ] at h
  exact h
theorem apQ:bG ["plan", "spots"] ["plan", "spots"] (aC gB):=⟨rfl,rfl,rfl,by decide +kernel,rfl,by decide +kernel,by decide +kernel⟩
theorem auZ:dO (a3H K A) (aC gB)=true:=by kernel_rfl
theorem yX:kB (a3H K A) 0 pO (aF gB)=true:=by kernel_rfl
theorem av0:(fun EX=>mB (a3H K A).gl K (fun _=>EX) pO)=fun EX=>a3G K A (fun _=>EX):=by kernel_rfl
theorem apR (T:Txt K mg A):cT false P w K mg base (oY P w) 6 A.pG A.a9P ["plan", "spots"] (dZ K (tR K A)):=by
  have h:=bJ (qt:=false) (P:=P) (w:=w) (mg:=mg) (base:=base) (k:=5) (S:=a3H K A) (c:=pO) T.aa2 apQ rfl auZ yX (fZ ⟨_,_,_,(oJ T).mono (by decide),T.mX,T.jG.kp,T.mW⟩
    (fZ ⟨T.aCE,aG7⟩
    (fZ ⟨_,_,_,(aHO T).mono (by decide),T.aCB,T.au9.kp,T.aCA⟩
    (fZ ⟨T.aCD,aEP⟩
    gln))))
  rw [av0] at h
  exact h
theorem a7S:bG ["_law_script", "_law_k", "_law_mixed"] ["_law_script", "_law_k"] (aC bN):=⟨rfl,rfl,rfl,by decide +kernel,rfl,by decide +kernel,by decide +kernel⟩
theorem aaH:dO (jV K A) (aC bN)=true:=by kernel_rfl
theorem gR:kB (jV K A) 0 dM (aF bN)=true:=by kernel_rfl
theorem aaI:(fun EX=>mB (jV K A).gl K (fun _=>EX) dM)=fun EX=>jU K A (fun _=>EX):=by kernel_rfl
theorem nJ (T:Txt K mg A):cT false P w K mg base (oY P w) 1 A.dH A.pH ["_law_script", "_law_k"] (dZ K (bF K A)):=by
  have h:=bJ (qt:=false) (P:=P) (w:=w) (mg:=mg) (base:=base) (k:=0) (S:=jV K A) (c:=dM) T.gM a7S rfl aaH gR (fZ ⟨T.aa3,a4U⟩
    gln)
  rw [aaI] at h
  exact h
theorem abZ:bG ["_law_found"] ["_law_found"] (aC c7):=⟨rfl,rfl,rfl,by decide +kernel,rfl,by decide +kernel,by decide +kernel⟩
theorem afM:dO (oA K A) (aC c7)=true:=by kernel_rfl
theorem kW:kB (oA K A) 0 fC (aF c7)=true:=by kernel_rfl
theorem afN:(fun EX=>mB (oA K A).gl K (fun _=>EX) fC)=fun EX=>o9 K A (fun _=>EX):=by kernel_rfl
theorem ac0 (T:Txt K mg A):cT false P w K mg base (oY P w) 1 A.eY A.uX ["_law_found"] (dZ K (mJ K A)):=by
  have h:=bJ (qt:=false) (P:=P) (w:=w) (mg:=mg) (base:=base) (k:=0) (S:=oA K A) (c:=fC) T.vJ abZ rfl afM kW (fZ ⟨T.auD,arG⟩
    (fZ ⟨T.kJ,mD⟩
    (fZ ⟨T.akK,am1⟩
    gln)))
  rw [afN] at h
  exact h
theorem afO:bG ["_law_script", "_law_cell", "_law_aisles", "_law_places"] ["_law_script"] (aC cO):=⟨rfl,rfl,rfl,by decide +kernel,rfl,by decide +kernel,by decide +kernel⟩
theorem aiN:dO (rE K A) (aC cO)=true:=by kernel_rfl
theorem n8:kB (rE K A) 0 gJ (aF cO)=true:=by kernel_rfl
theorem aiO:(fun EX=>mB (rE K A).gl K (fun _=>EX) gJ)=fun EX=>rD K A (fun _=>EX):=by kernel_rfl
theorem afP (T:Txt K mg A):cT false P w K mg base (oY P w) 2 A.gF A.yE ["_law_script"] (dZ K (oE K A)):=by
  have h:=bJ (qt:=false) (P:=P) (w:=w) (mg:=mg) (base:=base) (k:=1) (S:=rE K A) (c:=gJ) T.yR afO rfl aiN n8 (fZ ⟨_,_,_,(nJ T).mono (by decide),T.jY,T.gM.kp,T.jX⟩
    gln)
  rw [aiO] at h
  exact h
theorem afQ:bG ["_law_script", "_law_plan_here", "_law_cell", "_law_many", "_law_found", "_law_k"] ["_law_script", "_law_plan_here"] (aC cP):=⟨rfl,rfl,rfl,by decide +kernel,rfl,by decide +kernel,by decide +kernel⟩
theorem aiP:dO (rG K A) (aC cP)=true:=by kernel_rfl
theorem nA:kB (rG K A) 0 gK (aF cP)=true:=by kernel_rfl
theorem aiQ:(fun EX=>mB (rG K A).gl K (fun _=>EX) gK)=fun EX=>rF K A (fun _=>EX):=by kernel_rfl
theorem afR (T:Txt K mg A):cT false P w K mg base (oY P w) 2 A.gG A.yF ["_law_script", "_law_plan_here"] (dZ K (oF K A)):=by
  have h:=bJ (qt:=false) (P:=P) (w:=w) (mg:=mg) (base:=base) (k:=1) (S:=rG K A) (c:=gK) T.yS afQ rfl aiP nA (fZ ⟨_,_,_,(nJ T).mono (by decide),T.jY,T.gM.kp,T.jX⟩
    (fZ ⟨T.a3M,a2V⟩
    gln))
  rw [aiQ] at h
  exact h
theorem ac1:bG ["_law_script", "_law_plan_here", "_law_bins_here", "_law_last", "_law_whole_here", "_law_end", "_law_steps", "_law_aisle", "_law_here", "_law_through"] ["_law_script", "_law_plan_here", "_law_bins_here"] (aC cA):=⟨rfl,rfl,rfl,by decide +kernel,rfl,by decide +kernel,by decide +kernel⟩
theorem afS:dO (oH K A) (aC cA)=true:=by kernel_rfl
theorem kY:kB (oH K A) 0 fD (aF cA)=true:=by kernel_rfl
theorem afT:(fun EX=>mB (oH K A).gl K (fun _=>EX) fD)=fun EX=>oG K A (fun _=>EX):=by kernel_rfl
theorem ac2 (T:Txt K mg A):cT false P w K mg base (oY P w) 2 A.eZ A.uY ["_law_script", "_law_plan_here", "_law_bins_here"] (dZ K (mK K A)):=by
  have h:=bJ (qt:=false) (P:=P) (w:=w) (mg:=mg) (base:=base) (k:=1) (S:=oH K A) (c:=fD) T.vK ac1 rfl afS kY (fZ ⟨T.an9,ajW⟩
    (fZ ⟨T.a3M,a2V⟩
    (fZ ⟨_,_,_,(nJ T).mono (by decide),T.jY,T.gM.kp,T.jX⟩
    (fZ ⟨T.ai6,ae7⟩
    gln))))
  rw [afT] at h
  exact h
theorem aHR:bG ["_law_script", "_law_plan_here", "_law_bins_here", "_law_spots", "_law_here", "_law_k", "_law_one", "_law_other_here", "_law_found"] ["_law_script"] (aC yC):=⟨rfl,rfl,rfl,by decide +kernel,rfl,by decide +kernel,by decide +kernel⟩
theorem aN6:dO (an5 K A) (aC yC)=true:=by kernel_rfl
theorem aiR:kB (an5 K A) 0 a9W (aF yC)=true:=by kernel_rfl
theorem aN7:(fun EX=>mB (an5 K A).gl K (fun _=>EX) a9W)=fun EX=>an4 K A (fun _=>EX):=by kernel_rfl
theorem aHS (T:Txt K mg A):cT false P w K mg base (oY P w) 7 A.a6G A.au8 ["_law_script"] (dZ K (afD K A)):=by
  have h:=bJ (qt:=false) (P:=P) (w:=w) (mg:=mg) (base:=base) (k:=6) (S:=an5 K A) (c:=a9W) T.aCC aHR rfl aN6 aiR (fZ ⟨_,_,_,(afP T).mono (by decide),T.a6M,T.yR.kp,T.a6L⟩
    (fZ ⟨_,_,_,(afR T).mono (by decide),T.a6O,T.yS.kp,T.a6N⟩
    (fZ ⟨T.auE,axD⟩
    (fZ ⟨_,_,_,(aAT T).mono (by decide),T.auB,T.akJ.kp,T.auA⟩
    (fZ ⟨T.a3M,a2V⟩
    (fZ ⟨T.aa3,a4U⟩
    (fZ ⟨T.an8,ajV⟩
    (fZ ⟨_,_,_,(apR T).mono (by decide),T.m_length,T.aa2.kp,T.ai4⟩
    (fZ ⟨_,_,_,(ac0 T).mono (by decide),T.a3J,T.vJ.kp,T.a3I⟩
    (fZ ⟨_,_,_,(ac2 T).mono (by decide),T.a3L,T.vK.kp,T.a3K⟩
    gln))))))))))
  rw [aN7] at h
  exact h
end
def anJ (K:Fg):Sp:=fun vs H Q _=>∃ (a:Addr) (ns:List Int),vs=[.ref a]∧uN K H a (ns.map V.int)∧ns.length≤63∧∀ H',Q (.bl true) H'
theorem aAU {K:Fg} {mg:Str→Option Value} {A:bI} (T:Txt K mg A):∀ vs H Q E,anJ K vs H Q E→dZ K (afD K A) vs H Q E:=by
  rintro vs H Q E ⟨a,ns,rfl,hS,hl,k⟩
  refine ⟨[.ref a],fun b=>if b=a then some (.rol (ns.map D.int)) else none,fun d _=>d = .bl true,fun _ _=>False,.cons (.ref a) .nil,fun b o e=>?_,main T a ns hl _ (if_pos rfl),fun v H' d G' r g e=>?_,fun C H' G' g z=>z.elim⟩
  · have e2:(if b=a then some (GO.rol (ns.map D.int)) else none)=some o:=e
    by_cases hb:b=a
    · subst hb
      rw [if_pos rfl] at e2
      cases e2
      exact ⟨_,hS,cL.ints ns⟩
    · rw [if_neg hb] at e2
      cases e2
  · subst e
    cases r
    exact k H'
theorem all_mk {l:PySem.W.OpenLaw} {w:World} {K:Fg} {h:Heap} {mg:Str→Option Value} {fa:Addr} (XK:K.In h) (GG:h.Ns mainGlobals mg) (hfa:mg "law" = some (.ref fa))
    {cG:Addr}
    {gU:Addr}
    {kZ:Addr}
    {al5:Addr} {aAV:Option Addr} {aAW:Array (Option Value)} {aAX:Nat} {anK anL:Tok}
    {vM:Addr} {aiS a6S:Option Addr} {aiT:Array (Option Value)} {aiU a6T a6U a6V yZ a6W:Value}
    {a01:Addr} {al6 aaJ:Option Addr} {al7:Array (Option Value)} {al8 aaK aaL aaM a1V aaN:Value}
    {a02:Addr} {al9 aaO:Option Addr} {alA:Array (Option Value)} {alB aaP aaQ aaR a1W aaS:Value}
    {rN:Addr} {afU a3S:Option Addr} {afV:Array (Option Value)} {afW a3T a3U a3V vN a3W:Value}
    {a3X:Addr} {apS adB:Option Addr} {apT:Array (Option Value)} {apU adC adD adE a5P adF:Value}
    {a03:Addr} {alC aaT:Option Addr} {alD:Array (Option Value)} {alE aaU aaV aaW a1X aaX:Value}
    {anM:Addr} {aHT av1:Option Addr} {aHU:Array (Option Value)} {aHV av2 av3 av4 alF av5:Value}
    {vO:Addr} {aiV a6X:Option Addr} {aiW:Array (Option Value)} {aiX a6Y a6Z a70 z6 a71:Value}
    {fY:Addr} {a1Y qD:Option Addr} {a1Z:Array (Option Value)} {a2A qF qG qH jB qI:Value}
    {vP:Addr} {aiY a72:Option Addr} {aiZ:Array (Option Value)} {aj0 a73 a74 a75 z7 a76:Value}
    {lA:Addr} {a7T wJ:Option Addr} {a7U:Array (Option Value)} {a7V wK wL wM nM wN:Value}
    {mQ:Addr} {aaY z8:Option Addr} {aaZ:Array (Option Value)} {ab0 z9 zA zB qJ zE:Value}
    {iW:Addr} {a5Q uG:Option Addr} {a5R:Array (Option Value)} {a5S uH uI uJ m9 uK:Value}
    {lB:Addr} {a7W wO:Option Addr} {a7X:Array (Option Value)} {a7Y wQ wR wU nO wW:Value}
    {a8G:Addr} {av6 aj1:Option Addr} {av7:Array (Option Value)} {av8 aj2 aj3 aj4 ab1 aj5:Value}
    {vQ:Addr} {aj6 a77:Option Addr} {aj7:Array (Option Value)} {aj8 a78 a79 a7A zF a7B:Value}
    {afX:Addr} {aAY anN:Option Addr} {aAZ:Array (Option Value)} {aB0 anO anP anQ afY anR:Value}
    {a3Y:Addr} {apV adG:Option Addr} {apW:Array (Option Value)} {apY adH adI adJ a5T adK:Value}
    {lC:Addr} {a7Z wX:Option Addr} {a80:Array (Option Value)} {a81 wY wZ xA nP xB:Value}
    {oK:Addr} {ac3 a0K:Option Addr} {ac4:Array (Option Value)} {ac5 a0L a0M a0N sJ a0O:Value}
    {rO:Addr} {afZ a3Z:Option Addr} {ag0:Array (Option Value)} {ag1 a4A a4B a4C vR a4D:Value}
    {rP:Addr} {ag2 a4E:Option Addr} {ag3:Array (Option Value)} {ag4 a4F a4G a4H vU a4I:Value}
    {oM:Addr} {ac6 a0P:Option Addr} {ac7:Array (Option Value)} {ac8 a0Q a0R a0S sO a0T:Value}
    {av9:Addr} {aHW avA:Option Addr} {aHX:Array (Option Value)} {aHY avB avC avD alG avE:Value}
    {a0U:Tok}
    {a0V:Tok}
    {ab2:Tok}
    (iY:PySem.W.nsIn K mainGlobals "is_whole" = some (some (.ref vM)))
    (a2B:K.lookup vM=some ⟨aiU,aiS,.func (PySem.W.fnOf "is_whole" "is_whole" (aJ d8) (aF d8) (aC d8) .none a6T a6U a6V a6S yZ a6W),aiT⟩)
    (j6:PySem.W.codeIn K yZ "is_whole" = true)
    (pX:PySem.W.keepIn K (.ref vM)=true)
    (lQ:PySem.W.nsIn K mainGlobals "is_pair" = some (some (.ref a01)))
    (a5U:K.lookup a01=some ⟨al8,al6,.func (PySem.W.fnOf "is_pair" "is_pair" (aJ eO) (aF eO) (aC eO) .none aaK aaL aaM aaJ a1V aaN),al7⟩)
    (lW:PySem.W.codeIn K a1V "is_pair" = true)
    (uD:PySem.W.keepIn K (.ref a01)=true)
    (lR:PySem.W.nsIn K mainGlobals "is_plan" = some (some (.ref a02)))
    (a5V:K.lookup a02=some ⟨alB,al9,.func (PySem.W.fnOf "is_plan" "is_plan" (aJ eU) (aF eU) (aC eU) .none aaP aaQ aaR aaO a1W aaS),alA⟩)
    (lX:PySem.W.codeIn K a1W "is_plan" = true)
    (uE:PySem.W.keepIn K (.ref a02)=true)
    (gC:PySem.W.nsIn K mainGlobals "need_plan" = some (some (.ref rN)))
    (zG:K.lookup rN=some ⟨afW,afU,.func (PySem.W.fnOf "need_plan" "need_plan" (aJ cN) (aF cN) (aC cN) .none a3T a3U a3V a3S vN a3W),afV⟩)
    (gH:PySem.W.codeIn K vN "need_plan" = true)
    (n6:PySem.W.keepIn K (.ref rN)=true)
    (pC:PySem.W.nsIn K mainGlobals "is_bin" = some (some (.ref a3X)))
    (ab3:K.lookup a3X=some ⟨apU,apS,.func (PySem.W.fnOf "is_bin" "is_bin" (aJ gA) (aF gA) (aC gA) .none adC adD adE adB a5P adF),apT⟩)
    (pJ:PySem.W.codeIn K a5P "is_bin" = true)
    (yW:PySem.W.keepIn K (.ref a3X)=true)
    (lU:PySem.W.nsIn K mainGlobals "is_spot" = some (some (.ref a03)))
    (a5W:K.lookup a03=some ⟨alE,alC,.func (PySem.W.fnOf "is_spot" "is_spot" (aJ eV) (aF eV) (aC eV) .none aaU aaV aaW aaT a1X aaX),alD⟩)
    (lY:PySem.W.codeIn K a1X "is_spot" = true)
    (uF:PySem.W.keepIn K (.ref a03)=true)
    (a9O:PySem.W.nsIn K mainGlobals "far" = some (some (.ref anM)))
    (avF:K.lookup anM=some ⟨aHV,aHT,.func (PySem.W.fnOf "far" "far" (aJ xZ) (aF xZ) (aC xZ) .none av2 av3 av4 av1 alF av5),aHU⟩)
    (a9R:PySem.W.codeIn K alF "far" = true)
    (aiH:PySem.W.keepIn K (.ref anM)=true)
    (iZ:PySem.W.nsIn K mainGlobals "need_bin" = some (some (.ref vO)))
    (a2C:K.lookup vO=some ⟨aiX,aiV,.func (PySem.W.fnOf "need_bin" "need_bin" (aJ d9) (aF d9) (aC d9) .none a6Y a6Z a70 a6X z6 a71),aiW⟩)
    (j7:PySem.W.codeIn K z6 "need_bin" = true)
    (pY:PySem.W.keepIn K (.ref vO)=true)
    (cB:PySem.W.nsIn K mainGlobals "places_by_aisle" = some (some (.ref fY)))
    (lD:K.lookup fY=some ⟨a2A,a1Y,.func (PySem.W.fnOf "places_by_aisle" "places_by_aisle" (aJ aY) (aF aY) (aC aY) .none qF qG qH qD jB qI),a1Z⟩)
    (cD:PySem.W.codeIn K jB "places_by_aisle" = true)
    (dW:PySem.W.keepIn K (.ref fY)=true)
    (j4:PySem.W.nsIn K mainGlobals "farthest" = some (some (.ref vP)))
    (a2D:K.lookup vP=some ⟨aj0,aiY,.func (PySem.W.fnOf "farthest" "farthest" (aJ dB) (aF dB) (aC dB) .none a73 a74 a75 a72 z7 a76),aiZ⟩)
    (j8:PySem.W.codeIn K z7 "farthest" = true)
    (pZ:PySem.W.keepIn K (.ref vP)=true)
    (dF:PySem.W.nsIn K mainGlobals "steps_within" = some (some (.ref lA)))
    (qK:K.lookup lA=some ⟨a7V,a7T,.func (PySem.W.fnOf "steps_within" "steps_within" (aJ bL) (aF bL) (aC bL) .none wK wL wM wJ nM wN),a7U⟩)
    (dI:PySem.W.codeIn K nM "steps_within" = true)
    (gP:PySem.W.keepIn K (.ref lA)=true)
    (dX:PySem.W.nsIn K mainGlobals "ways_behind" = some (some (.ref mQ)))
    (sS:K.lookup mQ=some ⟨ab0,aaY,.func (PySem.W.fnOf "ways_behind" "ways_behind" (aJ bT) (aF bT) (aC bT) .none z9 zA zB z8 qJ zE),aaZ⟩)
    (dY:PySem.W.codeIn K qJ "ways_behind" = true)
    (iQ:PySem.W.keepIn K (.ref mQ)=true)
    (cV:PySem.W.nsIn K mainGlobals "shortest_ends" = some (some (.ref iW)))
    (nQ:K.lookup iW=some ⟨a5S,a5Q,.func (PySem.W.fnOf "shortest_ends" "shortest_ends" (aJ bD) (aF bD) (aC bD) .none uH uI uJ uG m9 uK),a5R⟩)
    (cW:PySem.W.codeIn K m9 "shortest_ends" = true)
    (fJ:PySem.W.keepIn K (.ref iW)=true)
    (dG:PySem.W.nsIn K mainGlobals "spots_within" = some (some (.ref lB)))
    (qL:K.lookup lB=some ⟨a7Y,a7W,.func (PySem.W.fnOf "spots_within" "spots_within" (aJ bM) (aF bM) (aC bM) .none wQ wR wU wO nO wW),a7X⟩)
    (dJ:PySem.W.codeIn K nO "spots_within" = true)
    (gQ:PySem.W.keepIn K (.ref lB)=true)
    (uW:PySem.W.nsIn K mainGlobals "go_to" = some (some (.ref a8G)))
    (ag5:K.lookup a8G=some ⟨av8,av6,.func (PySem.W.fnOf "go_to" "go_to" (aJ jK) (aF jK) (aC jK) .none aj2 aj3 aj4 aj1 ab1 aj5),av7⟩)
    (vC:PySem.W.codeIn K ab1 "go_to" = true)
    (a3R:PySem.W.keepIn K (.ref a8G)=true)
    (j5:PySem.W.nsIn K mainGlobals "spots_by" = some (some (.ref vQ)))
    (a2E:K.lookup vQ=some ⟨aj8,aj6,.func (PySem.W.fnOf "spots_by" "spots_by" (aJ dD) (aF dD) (aC dD) .none a78 a79 a7A a77 zF a7B),aj7⟩)
    (j9:PySem.W.codeIn K zF "spots_by" = true)
    (qC:PySem.W.keepIn K (.ref vQ)=true)
    (a1K:PySem.W.nsIn K mainGlobals "walk" = some (some (.ref afX)))
    (alH:K.lookup afX=some ⟨aB0,aAY,.func (PySem.W.fnOf "walk" "walk" (aJ pB) (aF pB) (aC pB) .none anO anP anQ anN afY anR),aAZ⟩)
    (a1L:PySem.W.codeIn K afY "walk" = true)
    (aaG:PySem.W.keepIn K (.ref afX)=true)
    (pG:PySem.W.nsIn K mainGlobals "length" = some (some (.ref a3Y)))
    (ab4:K.lookup a3Y=some ⟨apY,apV,.func (PySem.W.fnOf "length" "length" (aJ gB) (aF gB) (aC gB) .none adH adI adJ adG a5T adK),apW⟩)
    (pO:PySem.W.codeIn K a5T "length" = true)
    (yX:PySem.W.keepIn K (.ref a3Y)=true)
    (dH:PySem.W.nsIn K mainGlobals "_law_cell_at" = some (some (.ref lC)))
    (qM:K.lookup lC=some ⟨a81,a7Z,.func (PySem.W.fnOf "_law_cell_at" "_law_cell_at" (aJ bN) (aF bN) (aC bN) .none wY wZ xA wX nP xB),a80⟩)
    (dM:PySem.W.codeIn K nP "_law_cell_at" = true)
    (gR:PySem.W.keepIn K (.ref lC)=true)
    (eY:PySem.W.nsIn K mainGlobals "_law_whole" = some (some (.ref oK)))
    (vV:K.lookup oK=some ⟨ac5,ac3,.func (PySem.W.fnOf "_law_whole" "_law_whole" (aJ c7) (aF c7) (aC c7) .none a0L a0M a0N a0K sJ a0O),ac4⟩)
    (fC:PySem.W.codeIn K sJ "_law_whole" = true)
    (kW:PySem.W.keepIn K (.ref oK)=true)
    (gF:PySem.W.nsIn K mainGlobals "_law_plan" = some (some (.ref rO)))
    (zH:K.lookup rO=some ⟨ag1,afZ,.func (PySem.W.fnOf "_law_plan" "_law_plan" (aJ cO) (aF cO) (aC cO) .none a4A a4B a4C a3Z vR a4D),ag0⟩)
    (gJ:PySem.W.codeIn K vR "_law_plan" = true)
    (n8:PySem.W.keepIn K (.ref rO)=true)
    (gG:PySem.W.nsIn K mainGlobals "_law_bins" = some (some (.ref rP)))
    (zJ:K.lookup rP=some ⟨ag4,ag2,.func (PySem.W.fnOf "_law_bins" "_law_bins" (aJ cP) (aF cP) (aC cP) .none a4F a4G a4H a4E vU a4I),ag3⟩)
    (gK:PySem.W.codeIn K vU "_law_bins" = true)
    (nA:PySem.W.keepIn K (.ref rP)=true)
    (eZ:PySem.W.nsIn K mainGlobals "_law_other" = some (some (.ref oM)))
    (vW:K.lookup oM=some ⟨ac8,ac6,.func (PySem.W.fnOf "_law_other" "_law_other" (aJ cA) (aF cA) (aC cA) .none a0Q a0R a0S a0P sO a0T),ac7⟩)
    (fD:PySem.W.codeIn K sO "_law_other" = true)
    (kY:PySem.W.keepIn K (.ref oM)=true)
    (a6G:PySem.W.nsIn K mainGlobals "law" = some (some (.ref av9)))
    (avG:K.lookup av9=some ⟨aHY,aHW,.func (PySem.W.fnOf "law" "law" (aJ yC) (aF yC) (aC yC) .none avB avC avD avA alG avE),aHX⟩)
    (a9W:PySem.W.codeIn K alG "law" = true)
    (aiR:PySem.W.keepIn K (.ref av9)=true)
    (vX:PySem.W.nsIn K mainGlobals "DepotError" = some (some (.ref cG)))
    (jZ:PySem.W.excIn K cG [.type "ValueError",.type "Exception",.type "BaseException",.type "object"] "ValueError.__new__" = true)
    (fK:(PySem.W.clsIn K cG).isSome=true)
    (iK:PySem.W.typeIn K (.ref cG)=some (.type "type"))
    (fL:PySem.W.subIn K (.ref cG) (.type "BaseException")=some true)
    (sU:PySem.W.findIn K (.ref cG) "__getattribute__" = some (some (.builtin "BaseException.__getattribute__")))
    (sV:PySem.W.findIn K (.ref cG) "__getattr__" = some none)
    (sW:PySem.W.findIn K (.ref cG) "__class__" = some (some (.builtin "object.__class__")))
    (sX:PySem.W.mroIn K cG (.type "object")=some true)
    (iM:PySem.W.kitOne K (.ref cG) (.type "ValueError")=some true)
    (ab5:PySem.W.nsIn K mainGlobals "NoPlan" = some (some (.ref gU)))
    (tY:PySem.W.excIn K gU [.type "ValueError",.type "Exception",.type "BaseException",.type "object"] "ValueError.__new__" = true)
    (lZ:(PySem.W.clsIn K gU).isSome=true)
    (oR:PySem.W.typeIn K (.ref gU)=some (.type "type"))
    (m6:PySem.W.subIn K (.ref gU) (.type "BaseException")=some true)
    (a5X:PySem.W.findIn K (.ref gU) "__getattribute__" = some (some (.builtin "BaseException.__getattribute__")))
    (a5Y:PySem.W.findIn K (.ref gU) "__getattr__" = some none)
    (a5Z:PySem.W.findIn K (.ref gU) "__class__" = some (some (.builtin "object.__class__")))
    (a65:PySem.W.mroIn K gU (.type "object")=some true)
    (tZ:PySem.W.kitOne K (.ref gU) (.type "ValueError")=some true)
    (ag6:PySem.W.nsIn K mainGlobals "NoBin" = some (some (.ref kZ)))
    (vL:PySem.W.excIn K kZ [.type "ValueError",.type "Exception",.type "BaseException",.type "object"] "ValueError.__new__" = true)
    (mY:(PySem.W.clsIn K kZ).isSome=true)
    (pR:PySem.W.typeIn K (.ref kZ)=some (.type "type"))
    (mZ:PySem.W.subIn K (.ref kZ) (.type "BaseException")=some true)
    (ab6:PySem.W.findIn K (.ref kZ) "__getattribute__" = some (some (.builtin "BaseException.__getattribute__")))
    (ab7:PySem.W.findIn K (.ref kZ) "__getattr__" = some none)
    (ab8:PySem.W.findIn K (.ref kZ) "__class__" = some (some (.builtin "object.__class__")))
    (ab9:PySem.W.mroIn K kZ (.type "object")=some true)
    (yU:PySem.W.kitOne K (.ref kZ) (.type "ValueError")=some true)
    (fM:PySem.W.nsIn K mainGlobals "MOST_AISLES" = some (some (.int 26 a0U)))
    (fO:PySem.W.nsIn K mainGlobals "MOST_PLACES" = some (some (.int 99 a0V)))
    (m7:PySem.W.nsIn K mainGlobals "MOST_GAP" = some (some (.int 20 ab2)))
    (a5J:PySem.W.nsIn K mainGlobals "DOOR" = some (some (.ref al5)))
    (ag7:K.lookup al5=some ⟨.type "tuple",aAV,.seq #[(.int 0 anK),(.int 0 anL)] aAX,aAW⟩)
    (avH:PySem.W.nsIn K mainGlobals "abs" = some none)
    (alI:PySem.W.nsIn K mainGlobals "bool" = some none)
    (zK:PySem.W.nsIn K mainGlobals "enumerate" = some none)
    (avI:PySem.W.nsIn K mainGlobals "int" = some none)
    (vY:PySem.W.nsIn K mainGlobals "isinstance" = some none)
    (avJ:PySem.W.nsIn K mainGlobals "len" = some none)
    (alJ:PySem.W.nsIn K mainGlobals "list" = some none)
    (avK:PySem.W.nsIn K mainGlobals "max" = some none)
    (avL:PySem.W.nsIn K mainGlobals "min" = some none)
    (ag8:PySem.W.nsIn K mainGlobals "range" = some none)
    (avM:PySem.W.nsIn K mainGlobals "sum" = some none)
    (ag9:PySem.W.nsIn K mainGlobals "tuple" = some none)
    (avN:PySem.W.nsIn K mainGlobals "zip" = some none) :
    ∃ fd:FuncData,(∀ (s:Shared) (v:Value),BindsTo s fd ⟨[v],[]⟩ [("_law_script",v)])∧∀ base:Heap,K.In base→base.Ns mainGlobals mg→cT false l.prog w K mg base (oY l.prog w) 7 fa fd ["_law_script"] (anJ K):=by
  have e:=hfa.symm.trans (PySem.W.mg_of XK GG a6G)
  cases e
  have T:Txt K mg ⟨vM,PySem.W.fnOf "is_whole" "is_whole" (aJ d8) (aF d8) (aC d8) .none a6T a6U a6V a6S yZ a6W,
    a01,PySem.W.fnOf "is_pair" "is_pair" (aJ eO) (aF eO) (aC eO) .none aaK aaL aaM aaJ a1V aaN,
    a02,PySem.W.fnOf "is_plan" "is_plan" (aJ eU) (aF eU) (aC eU) .none aaP aaQ aaR aaO a1W aaS,
    rN,PySem.W.fnOf "need_plan" "need_plan" (aJ cN) (aF cN) (aC cN) .none a3T a3U a3V a3S vN a3W,
    a3X,PySem.W.fnOf "is_bin" "is_bin" (aJ gA) (aF gA) (aC gA) .none adC adD adE adB a5P adF,
    a03,PySem.W.fnOf "is_spot" "is_spot" (aJ eV) (aF eV) (aC eV) .none aaU aaV aaW aaT a1X aaX,
    anM,PySem.W.fnOf "far" "far" (aJ xZ) (aF xZ) (aC xZ) .none av2 av3 av4 av1 alF av5,
    vO,PySem.W.fnOf "need_bin" "need_bin" (aJ d9) (aF d9) (aC d9) .none a6Y a6Z a70 a6X z6 a71,
    fY,PySem.W.fnOf "places_by_aisle" "places_by_aisle" (aJ aY) (aF aY) (aC aY) .none qF qG qH qD jB qI,
    vP,PySem.W.fnOf "farthest" "farthest" (aJ dB) (aF dB) (aC dB) .none a73 a74 a75 a72 z7 a76,
    lA,PySem.W.fnOf "steps_within" "steps_within" (aJ bL) (aF bL) (aC bL) .none wK wL wM wJ nM wN,
    mQ,PySem.W.fnOf "ways_behind" "ways_behind" (aJ bT) (aF bT) (aC bT) .none z9 zA zB z8 qJ zE,
    iW,PySem.W.fnOf "shortest_ends" "shortest_ends" (aJ bD) (aF bD) (aC bD) .none uH uI uJ uG m9 uK,
    lB,PySem.W.fnOf "spots_within" "spots_within" (aJ bM) (aF bM) (aC bM) .none wQ wR wU wO nO wW,
    a8G,PySem.W.fnOf "go_to" "go_to" (aJ jK) (aF jK) (aC jK) .none aj2 aj3 aj4 aj1 ab1 aj5,
    vQ,PySem.W.fnOf "spots_by" "spots_by" (aJ dD) (aF dD) (aC dD) .none a78 a79 a7A a77 zF a7B,
    afX,PySem.W.fnOf "walk" "walk" (aJ pB) (aF pB) (aC pB) .none anO anP anQ anN afY anR,
    a3Y,PySem.W.fnOf "length" "length" (aJ gB) (aF gB) (aC gB) .none adH adI adJ adG a5T adK,
    lC,PySem.W.fnOf "_law_cell_at" "_law_cell_at" (aJ bN) (aF bN) (aC bN) .none wY wZ xA wX nP xB,
    oK,PySem.W.fnOf "_law_whole" "_law_whole" (aJ c7) (aF c7) (aC c7) .none a0L a0M a0N a0K sJ a0O,
    rO,PySem.W.fnOf "_law_plan" "_law_plan" (aJ cO) (aF cO) (aC cO) .none a4A a4B a4C a3Z vR a4D,
    rP,PySem.W.fnOf "_law_bins" "_law_bins" (aJ cP) (aF cP) (aC cP) .none a4F a4G a4H a4E vU a4I,
    oM,PySem.W.fnOf "_law_other" "_law_other" (aJ cA) (aF cA) (aC cA) .none a0Q a0R a0S a0P sO a0T,
    fa,PySem.W.fnOf "law" "law" (aJ yC) (aF yC) (aC yC) .none avB avC avD avA alG avE,
    cG,
    gU,
    kZ⟩:={
    vH:=cX (st:=d8) a2B j6 pX,
    a1M:=bZ (ps:=["thing", "least", "most"]) (fun us hl=>match us,hl with | [_,_,_],_=>rfl),
    a1N:=PySem.W.mg_of XK GG iY,
    zY:=cX (st:=eO) a5U lW uD,
    a5F:=bZ (ps:=["thing", "aisles", "first", "last"]) (fun us hl=>match us,hl with | [_,_,_,_],_=>rfl),
    a5G:=PySem.W.mg_of XK GG lQ,
    a5H:=cX (st:=eU) a5V lX uE,
    ad3:=bZ (ps:=["thing"]) (fun us hl=>match us,hl with | [_],_=>rfl),
    ad4:=PySem.W.mg_of XK GG lR,
    jG:=cX (st:=cN) zG gH n6,
    mW:=bZ (ps:=["plan"]) (fun us hl=>match us,hl with | [_],_=>rfl),
    mX:=PySem.W.mg_of XK GG gC,
    a9X:=cX (st:=gA) ab3 pJ yW,
    ai2:=bZ (ps:=["plan", "thing"]) (fun us hl=>match us,hl with | [_,_],_=>rfl),
    ai3:=PySem.W.mg_of XK GG pC,
    a5I:=cX (st:=eV) a5W lY uF,
    ad5:=bZ (ps:=["plan", "thing"]) (fun us hl=>match us,hl with | [_,_],_=>rfl),
    ad6:=PySem.W.mg_of XK GG lU,
    au9:=cX (st:=xZ) avF a9R aiH,
    aCA:=bZ (ps:=["plan", "one", "other"]) (fun us hl=>match us,hl with | [_,_,_],_=>rfl),
    aCB:=PySem.W.mg_of XK GG a9O,
    a1O:=cX (st:=d9) a2C j7 pY,
    a9Y:=bZ (ps:=["plan", "thing"]) (fun us hl=>match us,hl with | [_,_],_=>rfl),
    a9Z:=PySem.W.mg_of XK GG iZ,
    jW:=cX (st:=aY) lD cD dW,
    rK:=bZ (ps:=["bins"]) (fun us hl=>match us,hl with | [_],_=>rfl),
    rM:=PySem.W.mg_of XK GG cB,
    vI:=cX (st:=dB) a2D j8 pZ,
    a1P:=bZ (ps:=["places", "end"]) (fun us hl=>match us,hl with | [_,_],_=>rfl),
    a1Q:=PySem.W.mg_of XK GG j4,
    pP:=cX (st:=bL) qK dI gP,
    yN:=bZ (ps:=["plan", "places", "end", "goal"]) (fun us hl=>match us,hl with | [_,_,_,_],_=>rfl),
    yO:=PySem.W.mg_of XK GG dF,
    sH:=cX (st:=bT) sS dY iQ,
    a0I:=bZ (ps:=["plan", "places", "ways"]) (fun us hl=>match us,hl with | [_,_,_],_=>rfl),
    a0J:=PySem.W.mg_of XK GG dX,
    nH:=cX (st:=bD) nQ cW fJ,
    wH:=bZ (ps:=["plan", "aisles"]) (fun us hl=>match us,hl with | [_,_],_=>rfl),
    wI:=PySem.W.mg_of XK GG cV,
    pQ:=cX (st:=bM) qL dJ gQ,
    yP:=bZ (ps:=["aisle", "places", "end", "goal"]) (fun us hl=>match us,hl with | [_,_,_,_],_=>rfl),
    yQ:=PySem.W.mg_of XK GG dG,
    afE:=cX (st:=jK) ag5 vC a3R,
    an6:=bZ (ps:=["spots", "spot"]) (fun us hl=>match us,hl with | [_,_],_=>rfl),
    an7:=PySem.W.mg_of XK GG uW,
    a1R:=cX (st:=dD) a2E j9 qC,
    aa0:=bZ (ps:=["aisles", "ends"]) (fun us hl=>match us,hl with | [_,_],_=>rfl),
    aa1:=PySem.W.mg_of XK GG j5,
    akJ:=cX (st:=pB) alH a1L aaG,
    auA:=bZ (ps:=["plan", "bins"]) (fun us hl=>match us,hl with | [_,_],_=>rfl),
    auB:=PySem.W.mg_of XK GG a1K,
    aa2:=cX (st:=gB) ab4 pO yX,
    ai4:=bZ (ps:=["plan", "spots"]) (fun us hl=>match us,hl with | [_,_],_=>rfl),
    m_length:=PySem.W.mg_of XK GG pG,
    gM:=cX (st:=bN) qM dM gR,
    jX:=bZ (ps:=["_law_script", "_law_k"]) (fun us hl=>match us,hl with | [_,_],_=>rfl),
    jY:=PySem.W.mg_of XK GG dH,
    vJ:=cX (st:=c7) vV fC kW,
    a3I:=bZ (ps:=["_law_found"]) (fun us hl=>match us,hl with | [_],_=>rfl),
    a3J:=PySem.W.mg_of XK GG eY,
    yR:=cX (st:=cO) zH gJ n8,
    a6L:=bZ (ps:=["_law_script"]) (fun us hl=>match us,hl with | [_],_=>rfl),
    a6M:=PySem.W.mg_of XK GG gF,
    yS:=cX (st:=cP) zJ gK nA,
    a6N:=bZ (ps:=["_law_script", "_law_plan_here"]) (fun us hl=>match us,hl with | [_,_],_=>rfl),
    a6O:=PySem.W.mg_of XK GG gG,
    vK:=cX (st:=cA) vW fD kY,
    a3K:=bZ (ps:=["_law_script", "_law_plan_here", "_law_bins_here"]) (fun us hl=>match us,hl with | [_,_,_],_=>rfl),
    a3L:=PySem.W.mg_of XK GG eZ,
    aCC:=cX (st:=yC) avG a9W aiR,
    aMX:=bZ (ps:=["_law_script"]) (fun us hl=>match us,hl with | [_],_=>rfl),
    aMY:=PySem.W.mg_of XK GG a6G,
    afF:=PySem.W.mg_of XK GG vX,
    jZ:=jZ,
    fK:=fK,
    iK:=iK,
    fL:=fL,
    afG:=⟨sU,sV,sW,
    fL,sX,
    fK⟩,
    iM:=iM,
    ai5:=PySem.W.mg_of XK GG ab5,
    tY:=tY,
    lZ:=lZ,
    oR:=oR,
    m6:=m6,
    auC:=⟨a5X,a5Y,a5Z,
    m6,a65,
    lZ⟩,
    tZ:=tZ,
    afH:=PySem.W.mg_of XK GG ag6,
    vL:=vL,
    mY:=mY,
    pR:=pR,
    mZ:=mZ,
    aAA:=⟨ab6,ab7,ab8,
    mZ,ab9,
    mY⟩,
    yU:=yU,
    fM:=⟨a0U,PySem.W.mg_of XK GG fM⟩,
    fO:=⟨a0V,PySem.W.mg_of XK GG fO⟩,
    m7:=⟨ab2,PySem.W.mg_of XK GG m7⟩,
    a5J:=⟨al5,PySem.W.mg_of XK GG a5J,aG6 (xs:=[.int 0,.int 0]) ag7 (show 2≤sizeLine by decide) (.cons ⟨anK,rfl⟩ (.cons ⟨anL,rfl⟩ .nil)) fun _=>(.cons (.int _) (.cons (.int _) .nil))⟩,
    an8:=PySem.W.mg_none_of XK GG avH,
    akK:=PySem.W.mg_none_of XK GG alI,
    a6P:=PySem.W.mg_none_of XK GG zK,
    auD:=PySem.W.mg_none_of XK GG avI,
    kJ:=PySem.W.mg_none_of XK GG vY,
    aa3:=PySem.W.mg_none_of XK GG avJ,
    auE:=PySem.W.mg_none_of XK GG alJ,
    an9:=PySem.W.mg_none_of XK GG avK,
    ai6:=PySem.W.mg_none_of XK GG avL,
    a3M:=PySem.W.mg_none_of XK GG ag8,
    aCD:=PySem.W.mg_none_of XK GG avM,
    afI:=PySem.W.mg_none_of XK GG ag9,
    aCE:=PySem.W.mg_none_of XK GG avN }
  exact ⟨_,fun s v => .of_eq rfl,fun base _ _=>(aHS T).imp (aAU T)⟩
theorem walk {l:PySem.W.OpenLaw} {q:Program} {loose:List Str} {XP:(Str→Option Value)→Heap→Prop} {YP:World→Heap→Prop} {d:DefRec} {K:Params→PySem.W.Frag} (hn:l.most=some 63) (hdf:d.params.defaults=[])
    (hY:∀ (w:World) (h:Heap),YP w h→(K w.params).In h)
    (F:∀ (w:World) (mg:Str→Option Value) (fa:Addr) (h:Heap),(K w.params).In h→h.Ns mainGlobals mg→mg d.name=some (.ref fa) →
      ∃ fd:FuncData,(∀ (s:Shared) (u:Value),BindsTo s fd ⟨[u],[]⟩ [("_law_script",u)])∧∀ base:Heap,(K w.params).In base→base.Ns mainGlobals mg→cT false l.prog w (K w.params) mg base (oY l.prog w) 7 fa fd ["_law_script"] (anJ (K w.params))) :
    PySem.W.WalkO q loose XP YP l.row.toRowW d [] (fun f vs=>PySem.call f vs) :=
  L2.awU (n:=63) (k:=7) (x := "_law_script") (CX:=fun w=>oY l.prog w) (sp:=fun w=>anJ (K w.params)) hn (by decide) hdf ⟨fun _=>rfl,by decide,by decide⟩ hY F (fun _ _ a ns hl _ hS=>⟨a,ns,rfl,hS,hl,fun _=>rfl⟩) fun _ _ _ _ _ ⟨_,_,_,_,_,_,_,_,_,_,_,_,z⟩=>z
end Law
open PySem PySem.W PyProof.Rows
theorem PySem.Challenge.cw_depot_k74_whole_no_shorter_walk_holds : PySem.Challenge.rw_depot_k74_whole_no_shorter_walk.Holds := by
  w_on;o_law;o_head (PySem.W.kHook Law.frK.heap_39 Law.frA Law.frE)
  case hl=>exact Law.frL
  case hw=>w_witness2
  k_fill
  refine Law.walk (l:=PySem.Challenge.rw_depot_k74_whole_no_shorter_walk) rfl rfl (fun w h Y=>PySem.W.kIn_of Y) ?F
  case F =>
    intro w mg fa h KX G hmg
    refine' Law.all_mk KX G hmg ?iY ?a2B ?j6 ?pX ?lQ ?a5U ?lW ?uD ?lR ?a5V ?lX ?uE ?gC ?zG ?gH ?n6 ?pC ?ab3 ?pJ ?yW ?lU ?a5W ?lY ?uF ?a9O ?avF ?a9R ?aiH ?iZ ?a2C ?j7 ?pY ?cB ?lD ?cD ?dW ?j4 ?a2D ?j8 ?pZ ?dF ?qK ?dI ?gP ?dX ?sS ?dY ?iQ ?cV ?nQ ?cW ?fJ ?dG ?qL ?dJ ?gQ ?uW ?ag5 ?vC ?a3R ?j5 ?a2E ?j9 ?qC ?a1K ?alH ?a1L ?aaG ?pG ?ab4 ?pO ?yX ?dH ?qM ?dM ?gR ?eY ?vV ?fC ?kW ?gF ?zH ?gJ ?n8 ?gG ?zJ ?gK ?nA ?eZ ?vW ?fD ?kY ?a6G ?avG ?a9W ?aiR ?vX ?jZ ?fK ?iK ?fL ?sU ?sV ?sW ?sX ?iM ?ab5 ?tY ?lZ ?oR ?m6 ?a5X ?a5Y ?a5Z ?a65 ?tZ ?ag6 ?vL ?mY ?pR ?mZ ?ab6 ?ab7 ?ab8 ?ab9 ?yU ?fM ?fO ?m7 ?a5J ?ag7 ?avH ?alI ?zK ?avI ?vY ?avJ ?alJ ?avK ?avL ?ag8 ?avM ?ag9 ?avN
    (case iY=>k_is)
    (case a2B=>k_is)
    (case j6=>k_is)
    (case pX=>k_is)
    (case lQ=>k_is)
    (case a5U=>k_is)
    (case lW=>k_is)
    (case uD=>k_is)
    (case lR=>k_is)
    (case a5V=>k_is)
    (case lX=>k_is)
    (case uE=>k_is)
    (case gC=>k_is)
    (case zG=>k_is)
    (case gH=>k_is)
    (case n6=>k_is)
    (case pC=>k_is)
    (case ab3=>k_is)
    (case pJ=>k_is)
    (case yW=>k_is)
    (case lU=>k_is)
    (case a5W=>k_is)
    (case lY=>k_is)
    (case uF=>k_is)
    (case a9O=>k_is)
    (case avF=>k_is)
    (case a9R=>k_is)
    (case aiH=>k_is)
    (case iZ=>k_is)
    (case a2C=>k_is)
    (case j7=>k_is)
    (case pY=>k_is)
    (case cB=>k_is)
    (case lD=>k_is)
    (case cD=>k_is)
    (case dW=>k_is)
    (case j4=>k_is)
    (case a2D=>k_is)
    (case j8=>k_is)
    (case pZ=>k_is)
    (case dF=>k_is)
    (case qK=>k_is)
    (case dI=>k_is)
    (case gP=>k_is)
    (case dX=>k_is)
    (case sS=>k_is)
    (case dY=>k_is)
    (case iQ=>k_is)
    (case cV=>k_is)
    (case nQ=>k_is)
    (case cW=>k_is)
    (case fJ=>k_is)
    (case dG=>k_is)
    (case qL=>k_is)
    (case dJ=>k_is)
    (case gQ=>k_is)
    (case uW=>k_is)
    (case ag5=>k_is)
    (case vC=>k_is)
    (case a3R=>k_is)
    (case j5=>k_is)
    (case a2E=>k_is)
    (case j9=>k_is)
    (case qC=>k_is)
    (case a1K=>k_is)
    (case alH=>k_is)
    (case a1L=>k_is)
    (case aaG=>k_is)
    (case pG=>k_is)
    (case ab4=>k_is)
    (case pO=>k_is)
    (case yX=>k_is)
    (case dH=>k_is)
    (case qM=>k_is)
    (case dM=>k_is)
    (case gR=>k_is)
    (case eY=>k_is)
    (case vV=>k_is)
    (case fC=>k_is)
    (case kW=>k_is)
    (case gF=>k_is)
    (case zH=>k_is)
    (case gJ=>k_is)
    (case n8=>k_is)
    (case gG=>k_is)
    (case zJ=>k_is)
    (case gK=>k_is)
    (case nA=>k_is)
    (case eZ=>k_is)
    (case vW=>k_is)
    (case fD=>k_is)
    (case kY=>k_is)
    (case a6G=>k_is)
    (case avG=>k_is)
    (case a9W=>k_is)
    (case aiR=>k_is)
    (case vX=>k_is)
    (case jZ=>k_exc)
    (case fK=>kernel_rfl)
    (case iK=>k_is)
    (case fL=>k_is)
    (case sU=>k_is)
    (case sV=>k_is)
    (case sW=>k_is)
    (case sX=>k_is)
    (case iM=>kit_is)
    (case ab5=>k_is)
    (case tY=>k_exc)
    (case lZ=>kernel_rfl)
    (case oR=>k_is)
    (case m6=>k_is)
    (case a5X=>k_is)
    (case a5Y=>k_is)
    (case a5Z=>k_is)
    (case a65=>k_is)
    (case tZ=>kit_is)
    (case ag6=>k_is)
    (case vL=>k_exc)
    (case mY=>kernel_rfl)
    (case pR=>k_is)
    (case mZ=>k_is)
    (case ab6=>k_is)
    (case ab7=>k_is)
    (case ab8=>k_is)
    (case ab9=>k_is)
    (case yU=>kit_is)
    (case fM=>k_is)
    (case fO=>k_is)
    (case m7=>k_is)
    (case a5J=>k_is)
    (case ag7=>k_is)
    (case avH=>k_is)
    (case alI=>k_is)
    (case zK=>k_is)
    (case avI=>k_is)
    (case vY=>k_is)
    (case avJ=>k_is)
    (case alJ=>k_is)
    (case avK=>k_is)
    (case avL=>k_is)
    (case ag8=>k_is)
    (case avM=>k_is)
    (case ag9=>k_is)
    (case avN=>k_is)
